import PyProof.Rows.All
import Wide.All
import OpenK.AllK
import Wide.FinOn
import PyProof.EqAt
import PyProof.EqKinds
import PyProof.TupleCall
import KE.BitLaws
import PySem.Challenge.RW_callchain_k01_whole_fewest
set_option Elab.async false
set_option linter.all false
set_option maxRecDepth 100000
namespace L2
open PySem PySem.Spec PyProof.Rows

abbrev Key := Sum Int Str
def keyIs : Key → Value → Bool
  | .inl k, v => Value.isInt k v
  | .inr x, v => Value.isStrOf x v
def keyH (w : World) : Key → Int
  | .inl k => hashInt k
  | .inr x => hashStr w x
theorem keyIs_shape : ∀ {k : Key} {v : Value}, keyIs k v = true → (∃ i t, k = Sum.inl i ∧ v = Value.int i t) ∨ (∃ x t, k = Sum.inr x ∧ v = Value.str x t)
  | .inl i, v, h => by
    obtain ⟨t, e⟩ := Value.isInt_shape (k := i) (v := v) h
    exact .inl ⟨i, t, rfl, e⟩
  | .inr x, v, h => by
    obtain ⟨t, e⟩ := Value.isStrOf_shape (x := x) (v := v) h
    exact .inr ⟨x, t, rfl, e⟩
theorem key_ll (a b : Int) : decide ((Sum.inl a : Key) = Sum.inl b) = (a == b) := by
  by_cases e : a = b
  · subst e; simp
  · have h : ¬ (Sum.inl a : Key) = Sum.inl b := fun q => e (Sum.inl.inj q)
    rw [decide_eq_false h]
    exact (beq_eq_false_iff_ne.mpr e).symm
theorem key_rr (a b : Str) : decide ((Sum.inr a : Key) = Sum.inr b) = decide (a = b) := by
  by_cases e : a = b
  · subst e; simp
  · have h : ¬ (Sum.inr a : Key) = Sum.inr b := fun q => e (Sum.inr.inj q)
    rw [decide_eq_false h, decide_eq_false e]
theorem key_lr (a : Int) (b : Str) : decide ((Sum.inl a : Key) = Sum.inr b) = false := decide_eq_false (fun q => nomatch q)
theorem key_rl (a : Str) (b : Int) : decide ((Sum.inr a : Key) = Sum.inl b) = false := decide_eq_false (fun q => nomatch q)

def mixKind (prog : Program) (w : World) : PySem.KeyKind prog w Key where
  is := keyIs
  hash := keyH w
  inj := fun v a b ha hb => by
    rcases keyIs_shape ha with ⟨i, t, rfl, rfl⟩ | ⟨x, t, rfl, rfl⟩
    · rcases keyIs_shape hb with ⟨j, u, rfl, e⟩ | ⟨y, u, rfl, e⟩
      · injection e with e1 _; rw [e1]
      · exact nomatch e
    · rcases keyIs_shape hb with ⟨j, u, rfl, e⟩ | ⟨y, u, rfl, e⟩
      · exact nomatch e
      · injection e with e1 _; rw [e1]
  byValue := fun k v h => by
    rcases keyIs_shape h with ⟨i, t, rfl, rfl⟩ | ⟨x, t, rfl, rfl⟩ <;> rfl
  pyHash := fun hv h => by
    rcases keyIs_shape hv with ⟨i, t, rfl, rfl⟩ | ⟨x, t, rfl, rfl⟩
    · exact wpAny_pyHash_int h
    · exact wpAny_pyHash_str h
  eqBool := fun hu hv h => by
    rcases keyIs_shape hu with ⟨i, t, rfl, rfl⟩ | ⟨x, t, rfl, rfl⟩
    · rcases keyIs_shape hv with ⟨j, u, rfl, rfl⟩ | ⟨y, u, rfl, rfl⟩
      · rw [key_ll] at h; exact wpAny_eqBool_int h
      · rw [key_lr] at h; exact SeqAt.EqAt.int_str i t y u _ _ _ _ h
    · rcases keyIs_shape hv with ⟨j, u, rfl, rfl⟩ | ⟨y, u, rfl, rfl⟩
      · rw [key_rl] at h; exact SeqAt.EqAt.str_int x t j u _ _ _ _ h
      · rw [key_rr] at h; exact wpAny_eqBool_str h
  «strs» := fun k x t v h => by
    rcases keyIs_shape h with ⟨i, u, rfl, e⟩ | ⟨y, u, rfl, e⟩
    · exact nomatch e
    · injection e with e1 _
      subst e1
      cases v <;> rfl

end L2

namespace L2
open PySem PySem.Spec PyProof.Rows

inductive V where
  | non | bl (b : Bool) | int (i : Int) | str (x : Str) | byt (b : Array UInt8) | flt (b : UInt64) | ref (a : Addr) | ty (n : String)
  deriving DecidableEq

def RelV : V → Value → Prop
  | .non, u => u = Value.none
  | .bl b, u => u = Value.bool b
  | .int i, u => ∃ t, u = Value.int i t
  | .str x, u => ∃ t, u = Value.str x t
  | .byt b, u => ∃ t, u = Value.bytes b t
  | .flt b, u => ∃ t, u = Value.float b t
  | .ref a, u => u = Value.ref a
  | .ty n, u => u = Value.type n

abbrev Vals : List V → List Value → Prop := Paired RelV
theorem Vals.length {xs : List V} {us : List Value} (r : Vals xs us) : xs.length = us.length := Paired.length r
theorem Vals.get : ∀ {xs : List V} {us : List Value} {i : Nat} {x : V}, Vals xs us → xs[i]? = some x → ∃ u, us[i]? = some u ∧ RelV x u
  | _, _, _, _, .nil, e => by simp at e
  | _, _, 0, _, .cons r _, e => by simp at e; subst e; exact ⟨_, rfl, r⟩
  | _, _, i + 1, x, .cons _ t, e => by
    obtain ⟨u, h1, h2⟩ := Vals.get (i := i) (x := x) t (by simpa using e)
    exact ⟨u, by simpa using h1, h2⟩
theorem Vals.set {x : V} {u : Value} (r : RelV x u) : ∀ {xs : List V} {us : List Value} (i : Nat), Vals xs us → Vals (xs.set i x) (us.set i u)
  | _, _, _, .nil => .nil
  | _, _, 0, .cons _ t => .cons r t
  | _, _, i + 1, .cons q t => .cons q (Vals.set r i t)
theorem Vals.append : ∀ {xs ys : List V} {us ws : List Value}, Vals xs us → Vals ys ws → Vals (xs ++ ys) (us ++ ws)
  | _, _, _, _, .nil, s => s
  | _, _, _, _, .cons r t, s => .cons r (Vals.append t s)
theorem Vals.take : ∀ {xs : List V} {us : List Value} (n : Nat), Vals xs us → Vals (xs.take n) (us.take n)
  | _, _, 0, _ => .nil
  | _, _, _ + 1, .nil => .nil
  | _, _, n + 1, .cons r t => .cons r (Vals.take n t)
theorem Vals.drop : ∀ {xs : List V} {us : List Value} (n : Nat), Vals xs us → Vals (xs.drop n) (us.drop n)
  | _, _, 0, r => r
  | _, _, _ + 1, .nil => .nil
  | _, _, n + 1, .cons _ t => Vals.drop n t
theorem Vals.none_of : ∀ {xs : List V} {us : List Value} {i : Nat}, Vals xs us → xs[i]? = none → us[i]? = none := fun {xs us i} r e => by
  have h1 := r.length
  have h2 : xs.length ≤ i := List.getElem?_eq_none_iff.mp e
  exact List.getElem?_eq_none_iff.mpr (by omega)

def RelO : Option V → Option Value → Prop
  | some v, some u => RelV v u
  | none, none => True
  | _, _ => False
def KV {κ : Type} : List (κ × V) → List (κ × Value) → Prop := Paired fun (p : κ × V) (q : κ × Value) => p.1 = q.1 ∧ RelV p.2 q.2

def kV : Key → V
  | .inl i => .int i
  | .inr x => .str x

inductive HO where
    | lst (xs : List V)
    | tup (xs : List V)
    | dK (kvs : List (Key × V)) | dT (kvs : List (List Key × V))
    | set (S : Int → Bool) (n : Nat)
    | ins (C dx : Addr) (fs : List (Str × V))
    | own (x : Addr)
    | xd (fs : List (Str × V))
    | met (f x : Addr)
    | rng (lo hi : Int)
    | frz (o : Obj) (u : HO)
    | tbl (ps : Array Value)
    | ext (φ : Heap → Prop)

abbrev Hp := Addr → Option HO
def upd (H : Hp) (a : Addr) (o : HO) : Hp := fun b => if b = a then some o else H b
theorem upd_same {H : Hp} {a : Addr} {o : HO} : upd H a o a = some o := by unfold upd; rw [if_pos rfl]
theorem upd_ne {H : Hp} {a b : Addr} {o : HO} (h : b ≠ a) : upd H a o b = H b := by unfold upd; rw [if_neg h]
theorem ne_of_none {H : Hp} {a b : Addr} {o : HO} (h : H a = some o) (h' : H b = none) : a ≠ b := by
  intro e; subst e; rw [h] at h'; cases h'

section
variable (P : Program) (w : World)
def ObjOk (H : Hp) (h : Heap) (a : Addr) : HO → Prop
  | .lst xs => xs.length ≤ sizeLine ∧ ∃ (its : List Value) (n : Nat), Vals xs its ∧ h.get? a = some { cls := .type "list", data := .seq its.toArray n }
  | .tup xs => xs.length ≤ sizeLine ∧ ∃ its : List Value, Vals xs its ∧ IsTup h a its.toArray
  | .dK kvs => kvs.length ≤ sizeLine ∧ (a == sysModules) = false ∧ ∃ vs, KV kvs vs ∧ h.DictOf (mixKind P w) a vs
  | .dT kvs => kvs.length ≤ sizeLine ∧ (a == sysModules) = false ∧ ∃ xs : List (List Key × Addr × Value),
      Paired (fun (p : List Key × V) (q : List Key × Addr × Value) => p.1 = q.1 ∧ H q.2.1 = some (.tup (p.1.map kV)) ∧ RelV p.2 q.2.2) kvs xs ∧
      ∃ o es ep, h.get? a = some o ∧ o.ExactDict ∧ o.data = .dict es ep ∧ es.toList = xs.map (entryOfKey (tupleKind (mixKind P w))) ∧ (xs.map (·.1)).Nodup
  | .set S n => h.SetOf (intKind P w) a S n
  | .ins C dx fs => H dx = some (.own a) ∧ fs.length ≤ 1000 ∧ dx ≠ a ∧ h.get? a = some (PySem.W.instObj C dx) ∧
      ∃ mA, h.Ns1 dx mA ∧ (∀ f, RelO (fs.lookup f) (mA f)) ∧ PySem.Within mA (fs.map (·.1))
  | .own _ => ∃ o, h.get? a = some o
  | .xd fs => ∃ mA, h.Ns1 a mA ∧ ∀ f, RelO (fs.lookup f) (mA f)
  | .rng lo hi => ∃ t u v, h.get? a = some { cls := .type "range", data := .fields #[.int lo t, .int hi u, .int 1 v] }
  | .frz o u => h.get? a = some o ∧ ObjOk H h a u
  | .tbl ps => h.get? a = some { cls := .none, data := .fields ps }
  | .met f x => h.get? a = some (PySem.W.methodObj (.ref f) (.ref x))
  | .ext φ => φ h ∧ (∃ o, h.get? a = some o) ∧ ∀ h1 h2 : Heap, φ h1 → (∀ o, h1.get? a = some o → h2.get? a = some o) → φ h2
def HOk (H : Hp) (h : Heap) : Prop := ∀ a o, H a = some o → ObjOk P w H h a o
end

section
variable {P : Program} {w : World} {H H' : Hp} {h h' : Heap} {a : Addr} {o : HO}
theorem ObjOk.lt (x : ObjOk P w H h a o) : a < h.objs.size := by
  cases o with
  | lst xs => obtain ⟨_, _, _, _, e⟩ := x; exact Heap.lt_size e
  | tup xs => obtain ⟨_, _, _, p⟩ := x; exact p.lt
  | dK kvs => obtain ⟨_, _, _, _, o, _, _, e, _⟩ := x; exact Heap.lt_size e
  | dT kvs => obtain ⟨_, _, _, _, o, _, _, e, _⟩ := x; exact Heap.lt_size e
  | set S n => obtain ⟨o, _, _, _, e, _⟩ := x; exact Heap.lt_size e
  | ins C dx fs => obtain ⟨_, _, _, e, _⟩ := x; exact Heap.lt_size e
  | own y => obtain ⟨_, e⟩ := x; exact Heap.lt_size e
  | xd fs => obtain ⟨_, ⟨_, _, _, e, _⟩, _⟩ := x; exact Heap.lt_size e
  | rng lo hi => obtain ⟨_, _, _, e⟩ := x; exact Heap.lt_size e
  | frz ob u => obtain ⟨e, _⟩ := x; exact Heap.lt_size e
  | tbl ps => exact Heap.lt_size (show h.get? a = some _ from x)
  | met f y => exact Heap.lt_size (show h.get? a = some _ from x)
  | ext φ => obtain ⟨_, ⟨_, e⟩, _⟩ := x; exact Heap.lt_size e
theorem Paired.mapP {α β : Type} {F G : α → β → Prop} : ∀ {l₁ : List α} {l₂ : List β}, Paired F l₁ l₂ → (∀ a b, F a b → G a b) → Paired G l₁ l₂
  | _, _, .nil, _ => .nil
  | _, _, .cons r t, f => .cons (f _ _ r) (Paired.mapP t f)
theorem ObjOk.stay (x : ObjOk P w H h a o) (k : ∀ b u, (b = a ∨ H b = some (.own a)) → h.get? b = some u → h'.get? b = some u)
    (ho : ∀ b, H b = some (.own a) → H' b = some (.own a)) (ht : ∀ b xs, H b = some (.tup xs) → H' b = some (.tup xs)) : ObjOk P w H' h' a o := by
  induction o with
  | lst xs => obtain ⟨z, its, n, r, e⟩ := x; exact ⟨z, its, n, r, k _ _ (.inl rfl) e⟩
  | tup xs => obtain ⟨z, its, r, ob, e, c⟩ := x; exact ⟨z, its, r, ob, k _ _ (.inl rfl) e, c⟩
  | dK kvs => obtain ⟨z, y, vs, r, ob, es, ep, e, c⟩ := x; exact ⟨z, y, vs, r, ob, es, ep, k _ _ (.inl rfl) e, c⟩
  | dT kvs =>
    obtain ⟨z, y, xs, r, ob, es, ep, e, c⟩ := x
    exact ⟨z, y, xs, Paired.mapP r fun p q z => ⟨z.1, ht _ _ z.2.1, z.2.2⟩, ob, es, ep, k _ _ (.inl rfl) e, c⟩
  | set S n => obtain ⟨ob, es, ep, t, e, c⟩ := x; exact ⟨ob, es, ep, t, k _ _ (.inl rfl) e, c⟩
  | ins C dx fs =>
    obtain ⟨d, z, ne, e, mA, ⟨od, es, ep, e2, c⟩, r⟩ := x
    exact ⟨ho _ d, z, ne, k _ _ (.inl rfl) e, mA, ⟨od, es, ep, k _ _ (.inr d) e2, c⟩, r⟩
  | own y => obtain ⟨ob, e⟩ := x; exact ⟨ob, k _ _ (.inl rfl) e⟩
  | xd fs => obtain ⟨mA, ⟨od, es, ep, e, c⟩, r⟩ := x; exact ⟨mA, ⟨od, es, ep, k _ _ (.inl rfl) e, c⟩, r⟩
  | rng lo hi => obtain ⟨t, u, v, e⟩ := x; exact ⟨t, u, v, k _ _ (.inl rfl) e⟩
  | frz ob u ih => obtain ⟨e, q⟩ := x; exact ⟨k _ _ (.inl rfl) e, ih q⟩
  | tbl ps =>
    have e : h.get? a = some { cls := .none, data := .fields ps } := x
    show h'.get? a = some { cls := .none, data := .fields ps }
    exact k a _ (.inl rfl) e
  | met f y =>
    have e : h.get? a = some (PySem.W.methodObj (.ref f) (.ref y)) := x
    show h'.get? a = some (PySem.W.methodObj (.ref f) (.ref y))
    exact k a _ (.inl rfl) e
  | ext φ => obtain ⟨p, ⟨o, e⟩, st⟩ := x; exact ⟨st _ _ p fun o q => k _ _ (.inl rfl) q, ⟨o, k _ _ (.inl rfl) e⟩, st⟩
theorem HOk.lt (x : HOk P w H h) (e : H a = some o) : a < h.objs.size := (x a o e).lt
theorem HOk.fresh (x : HOk P w H h) (e : h.objs.size ≤ a) : H a = none := by
  cases q : H a with
  | none => rfl
  | some u => exact absurd (Nat.lt_of_lt_of_le (x.lt q) e) (Nat.lt_irrefl _)
theorem HOk.kept (x : HOk P w H h) (k : ∀ b u, h.get? b = some u → h'.get? b = some u) : HOk P w H h' := fun a o e =>
  (x a o e).stay (fun b u _ q => k b u q) (fun _ q => q) fun _ _ q => q
theorem HOk.laid (x : HOk P w H h) (k : ∀ b u, h.get? b = some u → h'.get? b = some u) (hp : h.objs.size ≤ a) (new : ObjOk P w (upd H a o) h' a o) : HOk P w (upd H a o) h' := fun b u e => by
  have hn := x.fresh hp
  by_cases hb : b = a
  · subst hb; rw [upd_same] at e; cases e; exact new
  · rw [upd_ne hb] at e
    exact (x b u e).stay (fun c v _ q => k c v q) (fun c q => by rw [upd_ne (ne_of_none q hn)]; exact q) fun c xs q => by rw [upd_ne (ne_of_none q hn)]; exact q
end

def Rd (H : Hp) (a : Addr) (u : HO) : Prop := H a = some u ∨ ∃ o, H a = some (.frz o u)
theorem Rd.of {H : Hp} {a : Addr} {u : HO} (h : H a = some u) : Rd H a u := .inl h
theorem Rd.ok {P : Program} {w : World} {H : Hp} {h : Heap} {a : Addr} {u : HO} (r : Rd H a u) (x : HOk P w H h) : ObjOk P w H h a u := by
  rcases r with r | ⟨o, r⟩
  · exact x a u r
  · obtain ⟨_, q⟩ := x a _ r
    exact q
def Mut : Option HO → Prop
  | some (.lst _) => True
  | some (.dK _) => True
  | some (.dT _) => True
  | some (.set _ _) => True
  | some (.ins _ _ _) => True
  | some (.ext _) => True
  | _ => False
section
variable {P : Program} {w : World} {H : Hp} {h h' : Heap} {x e : Addr} {o' : HO}
theorem HOk.write (ok : HOk P w H h) (mu : Mut (H x)) (he : e = x ∨ H e = some (.own x)) (k : ∀ b u, b ≠ e → h.get? b = some u → h'.get? b = some u) (heo : ∃ u, h'.get? e = some u)
    (new : ObjOk P w (upd H x o') h' x o') : HOk P w (upd H x o') h' := fun b u q => by
  have nown : ∀ c y, H c = some (.own y) → c ≠ x := fun c y r z => by subst z; rw [r] at mu; exact mu
  have ntup : ∀ c xs, H c = some (.tup xs) → c ≠ x := fun c xs r z => by subst z; rw [r] at mu; exact mu
  by_cases hb : b = x
  · subst hb; rw [upd_same] at q; cases q; exact new
  · rw [upd_ne hb] at q
    by_cases hbe : b = e
    · have q' : H b = some (.own x) := by
        rcases he with z | z
        · exact absurd (hbe.trans z) hb
        · rw [hbe]; exact z
      rw [q] at q'; cases q'
      obtain ⟨v, hv⟩ := heo
      exact ⟨v, by rw [hbe]; exact hv⟩
    · refine (ok b u q).stay (fun c v hc r => k c v ?_ r) (fun c r => by rw [upd_ne (nown c b r)]; exact r) fun c xs r => by rw [upd_ne (ntup c xs r)]; exact r
      rcases hc with rfl | hc
      · exact hbe
      · rintro rfl
        rcases he with z | z
        · exact nown c b hc z
        · rw [hc] at z; cases z; exact hb rfl
end

structure Un (fs ex : List Addr) (H H' : Hp) (h h' : Heap) : Prop where
  keep : ∀ b o, h.get? b = some o → H b = none → b ∉ fs → b ∉ ex → h'.get? b = some o
  slot : ∀ b o, h.get? b = some o → H b = none → b ∈ fs → b ∉ ex → ∃ sl, h'.get? b = some { o with slots := sl }
  free : ∀ b o, h.get? b = some o → H b = none → b ∉ ex → H' b = none
  there : ∀ b o, h.get? b = some o → b ∉ ex → ∃ o', h'.get? b = some o'
  tups : ∀ b xs, H b = some (.tup xs) → H' b = some (.tup xs)
  frzs : ∀ b o u, H b = some (.frz o u) → H' b = some (.frz o u)
  tbls : ∀ b ps, H b = some (.tbl ps) → ∃ more, H' b = some (.tbl (ps ++ more))
section
variable {fs fs' ex ex' : List Addr} {H H1 H2 : Hp} {h h1 h2 h' : Heap} {a x e : Addr} {o : HO}
theorem Un.any (u : Un fs ex H H1 h h1) {b : Addr} {ob : Obj} (q : h.get? b = some ob) (n : H b = none) (hx : b ∉ ex) : ∃ sl, h1.get? b = some { ob with slots := sl } := by
  by_cases hb : b ∈ fs
  · exact u.slot b ob q n hb hx
  · exact ⟨ob.slots, u.keep b ob q n hb hx⟩
theorem Un.trans (a : Un fs ex H H1 h h1) (b : Un fs ex H1 H2 h1 h2) : Un fs ex H H2 h h2 where
  keep := fun c ob q n hc hx => b.keep c ob (a.keep c ob q n hc hx) (a.free c ob q n hx) hc hx
  slot := fun c ob q n hc hx => by
    obtain ⟨sl, e1⟩ := a.slot c ob q n hc hx
    obtain ⟨sl', e2⟩ := b.slot c _ e1 (a.free c ob q n hx) hc hx
    exact ⟨sl', e2⟩
  free := fun c ob q n hx => by
    obtain ⟨o', e1⟩ := a.there c ob q hx
    exact b.free c o' e1 (a.free c ob q n hx) hx
  there := fun c ob q hx => by
    obtain ⟨o', e1⟩ := a.there c ob q hx
    exact b.there c o' e1 hx
  tups := fun c xs q => b.tups c xs (a.tups c xs q)
  frzs := fun c ob xs q => b.frzs c ob xs (a.frzs c ob xs q)
  tbls := fun c ps q => by
    obtain ⟨m1, e1⟩ := a.tbls c ps q
    obtain ⟨m2, e2⟩ := b.tbls c _ e1
    exact ⟨m1 ++ m2, by rw [e2, Array.append_assoc]⟩
theorem Un.kept (k : ∀ b u, h.get? b = some u → h'.get? b = some u) : Un fs ex H H h h' :=
  ⟨fun b ob q _ _ _ => k b ob q, fun b ob q _ _ _ => ⟨ob.slots, k b ob q⟩, fun _ _ _ n _ => n, fun b ob q _ => ⟨ob, k b ob q⟩, fun _ _ q => q, fun _ _ _ q => q, fun _ ps q => ⟨#[], by rw [q]; simp⟩⟩
theorem Un.refl : Un fs ex H H h h := Un.kept fun _ _ q => q
theorem Un.laid (k : ∀ b u, h.get? b = some u → h'.get? b = some u) (hp : h.objs.size ≤ a) (hn : H a = none) : Un fs ex H (upd H a o) h h' where
  keep := fun b u q _ _ _ => k b u q
  slot := fun b u q _ _ _ => ⟨u.slots, k b u q⟩
  free := fun b u q n _ => by rw [upd_ne (Nat.ne_of_lt (Nat.lt_of_lt_of_le (Heap.lt_size q) hp))]; exact n
  there := fun b u q _ => ⟨u, k b u q⟩
  tups := fun b xs q => by rw [upd_ne (ne_of_none q hn)]; exact q
  frzs := fun b u xs q => by rw [upd_ne (ne_of_none q hn)]; exact q
  tbls := fun b ps q => ⟨#[], by rw [upd_ne (ne_of_none q hn), q]; simp⟩
theorem Un.write (mu : Mut (H x)) (he : e = x ∨ H e = some (.own x)) (k : ∀ b u, b ≠ e → h.get? b = some u → h'.get? b = some u) (heo : ∃ u, h'.get? e = some u) : Un fs ex H (upd H x o) h h' := by
  have hx : ∀ b, H b = none → b ≠ x := fun b n z => by subst z; rw [n] at mu; exact mu
  have hb : ∀ b, H b = none → b ≠ e := fun b n z => by
    subst z
    rcases he with r | r
    · exact hx b n r
    · rw [n] at r; cases r
  have hm : ∀ b u, H b = some u → ¬ Mut (some u) → b ≠ x := fun b u q nm z => by subst z; rw [q] at mu; exact nm mu
  refine ⟨fun b u q n _ _ => k b u (hb b n) q, fun b u q n _ _ => ⟨u.slots, k b u (hb b n) q⟩, fun b u q n _ => by rw [upd_ne (hx b n)]; exact n, fun b u q _ => ?_,
    fun b xs q => by rw [upd_ne (hm b _ q fun z => z)]; exact q, fun b u xs q => by rw [upd_ne (hm b _ q fun z => z)]; exact q, fun b ps q => ⟨#[], by rw [upd_ne (hm b _ q fun z => z), q]; simp⟩⟩
  by_cases hbe : b = e
  · subst hbe; exact heo
  · exact ⟨u, k b u hbe q⟩
theorem Un.mono (u : Un fs ex H H1 h h1) (hs : ∀ b ∈ fs, b ∈ fs') (hx : ∀ b ∈ ex, b ∈ ex') : Un fs' ex' H H1 h h1 :=
  ⟨fun b ob q n hb he => u.keep b ob q n (fun z => hb (hs b z)) fun z => he (hx b z), fun _ _ q n _ he => u.any q n fun z => he (hx _ z), fun b ob q n he => u.free b ob q n fun z => he (hx b z), fun b ob q he => u.there b ob q fun z => he (hx b z), u.tups, u.frzs, u.tbls⟩
end

def trk (h : Heap) (H : Hp) : List Addr := (List.range h.objs.size).filter fun a => (H a).isSome
def hidT (h : Heap) (H : Hp) : Heap := PySem.W.hideAll h (trk h H)
theorem hidT_size (h : Heap) (H : Hp) : (hidT h H).objs.size = h.objs.size := PySem.W.hideAll_size _ _
theorem hidT_get {h : Heap} {H : Hp} {b : Addr} {o : Obj} (e : h.get? b = some o) (n : H b = none) : (hidT h H).get? b = some o :=
  PySem.W.hideAll_get _ e fun hm => by
    have q : (H b).isSome = true := (List.mem_filter.mp hm).2
    rw [n] at q; simp at q
theorem of_hidT {h : Heap} {H : Hp} {b : Addr} {o : Obj} (e : (hidT h H).get? b = some o) : h.get? b = some o ∧ H b = none := by
  have e' : h.get? b = some o := PySem.W.of_hideAll (trk h H) e
  refine ⟨e', ?_⟩
  cases q : H b with
  | none => rfl
  | some x =>
    have hm : b ∈ trk h H := List.mem_filter.mpr ⟨List.mem_range.mpr (Heap.lt_size e'), by simp [q]⟩
    have z : (hidT h H).get? b = none := PySem.W.hideAll_none (trk h H) hm
    rw [z] at e; cases e

def allNews (g h : Heap) (L : Addr) : List (Addr × Obj) := (List.range h.objs.size).filterMap fun a => if a = L ∨ (g.get? a).isSome = true then none else (h.get? a).map fun o => (a, o)
def rest (g h : Heap) (L d : Addr) : List (Addr × Obj) := (allNews g h L).filter fun p => decide (p.1 ≠ d)
end L2

namespace L2
open PySem PySem.Spec PyProof.Rows

structure Mod (K : PySem.W.Frag) (mg : Str → Option Value) (base : Heap) : Prop where
  kin : K.In base
  glob : base.Ns mainGlobals mg
  blt : ∃ mb, base.Ns builtinsNs mb ∧ ∀ x : Str, x ≠ "__name__" → mb x = bootBuiltins x
  nolimit : base.NoLimit

structure Cx where
  prog : Program
  w : World
  K : PySem.W.Frag
  mg : Str → Option Value
  base : Heap
  A : Around
  N : List Str
  s_0 : Shared
  H_0 : Hp
  env : Env
  outer : List Env
  stack : List Env
  ex : List Addr
  fn : Str → Bool
  calm : Bool
  pn : List (Addr × Obj)
  xe : Value → Shared → Prop
def frs (l : List Env) : List Addr := l.filterMap (·.frame)
abbrev Cx.fs (X : Cx) : List Addr := frs X.outer

def Vis (sc : Scope) (x : Str) : Prop := sc.names.lookup x = some .local ∨ sc.names.lookup x = some .cell ∨ sc.names.lookup x = some .free
def Loc (sc : Scope) (x : Str) : Prop := sc.names.lookup x = some .local ∨ sc.names.lookup x = some .cell
def Look (env : Env) (h : Heap) (m : Str → Option Value) (x : Str) (u : Value) : Prop :=
  (env.kindOf x = some .local ∧ m x = some u) ∨ ((env.kindOf x = some .cell ∨ env.kindOf x = some .free) ∧ ∃ c, env.cells.lookup x = some c ∧ h.IsCell c (some u))

structure Cx.Ok (X : Cx) : Prop where
  mod : Mod X.K X.mg X.base
  kind : X.env.scope.kind = .function
  glob : X.env.globals = mainGlobals
  blt : X.env.builtins = builtinsNs
  above : X.s_0.heap.objs.size ≤ X.env.locals
  inj : ∀ x y c, X.env.cells.lookup x = some c → X.env.cells.lookup y = some c → x = y
  has : ∀ x, (X.env.kindOf x = some .cell ∨ X.env.kindOf x = some .free) → ∃ c, X.env.cells.lookup x = some c
  cab : ∀ x c, X.fn x = true → X.env.cells.lookup x = some c → X.s_0.heap.objs.size ≤ c
  hd : X.calm = true → X.A.handled = none
  frames : X.A.frames = some X.stack
  stk : X.stack = X.outer ∨ (X.stack = X.env :: X.outer ∧ X.env.frame = some X.env.locals)
  exf : ∀ b ∈ X.ex, b ≠ X.env.locals ∧ ∀ x c, X.env.cells.lookup x = some c → c ≠ b
  bs : ∀ b o, X.base.get? b = some o → X.s_0.heap.get? b = some o ∧ X.H_0 b = none
  bsz : X.base.objs.size ≤ X.s_0.heap.objs.size
  noex : ∀ b o, X.base.get? b = some o → b ∉ X.ex
  exfs : ∀ b ∈ X.ex, b ∉ X.fs
  funs : X.s_0.heap.FunFrames X.base X.outer
  frf : ∀ b ∈ X.fs, X.H_0 b = none

structure Inv (X : Cx) (pins : List (Addr × Obj)) (σ : List (Option V)) (H : Hp) (s : Shared) : Prop where
  ok : X.Ok
  os : s.os = X.s_0.os
  bare : AllBare s.gens
  base : Un X.fs X.ex X.H_0 H X.s_0.heap s.heap
  loc : ∃ m, s.heap.Ns X.env.locals m ∧ ∀ (i : Nat) (x : Str) (v : V), X.N[i]? = some x → σ[i]? = some (some v) → Vis X.env.scope x → ∃ u, RelV v u ∧ Look X.env s.heap m x u
  cell : ∀ x c, X.env.cells.lookup x = some c → ∃ v, s.heap.IsCell c v
  free : H X.env.locals = none
  freeC : ∀ x c, X.env.cells.lookup x = some c → H c = none
  pin : ∀ p ∈ X.pn ++ pins, s.heap.get? p.1 = some p.2 ∧ H p.1 = none ∧ p.1 ≠ X.env.locals ∧ p.1 ∉ X.fs ∧ ∀ v, p.2.data ≠ .cell v
  hok : HOk X.prog X.w H s.heap
  len : σ.length = X.N.length

section
variable {X : Cx} {pins : List (Addr × Obj)} {σ : List (Option V)} {H H' : Hp} {s : Shared} {h' : Heap}

theorem Cx.Ok.nofr (ok : X.Ok) {b : Addr} {o : Obj} (e : X.base.get? b = some o) : b ∉ X.fs := fun hb => by
  have := (ok.funs.mem hb).1
  rw [e] at this; cases this
theorem Inv.bs (I : Inv X pins σ H s) : ∀ b o, X.base.get? b = some o → s.heap.get? b = some o ∧ H b = none := fun b o e =>
  ⟨I.base.keep b o (I.ok.bs b o e).1 (I.ok.bs b o e).2 (I.ok.nofr e) (I.ok.noex b o e), I.base.free b o (I.ok.bs b o e).1 (I.ok.bs b o e).2 (I.ok.noex b o e)⟩
theorem Inv.bk (I : Inv X pins σ H s) : ∀ b o, X.base.get? b = some o → s.heap.get? b = some o := fun b o e => (I.bs b o e).1
theorem Inv.mod (I : Inv X pins σ H s) : Mod X.K X.mg X.base := I.ok.mod
theorem Inv.kIn (I : Inv X pins σ H s) : X.K.In s.heap := I.ok.mod.kin.keeps I.bk
theorem Inv.nolimit (I : Inv X pins σ H s) : s.heap.NoLimit := I.ok.mod.nolimit.keeps I.bk
theorem Inv.fr (I : Inv X pins σ H s) : ∃ m, Fr X.base X.env.locals s.heap m :=
  let ⟨m, hn, _⟩ := I.loc
  ⟨m, hn, I.bk, Nat.le_trans I.ok.bsz I.ok.above⟩
theorem Inv.lt (I : Inv X pins σ H s) : X.env.locals < s.heap.objs.size := let ⟨_, hn, _⟩ := I.loc; hn.lt
theorem Inv.sz (I : Inv X pins σ H s) : X.s_0.heap.objs.size ≤ s.heap.objs.size := Nat.le_trans I.ok.above (Nat.le_of_lt I.lt)
theorem Inv.nofs (I : Inv X pins σ H s) {a : Addr} (h : s.heap.objs.size ≤ a) : a ∉ X.fs := fun hb => by
  obtain ⟨_, o, ho, _⟩ := I.ok.funs.mem hb
  exact absurd (Nat.lt_of_lt_of_le (Heap.lt_size ho) (Nat.le_trans I.sz h)) (Nat.lt_irrefl _)
theorem Inv.cne (I : Inv X pins σ H s) : ∀ x c, X.env.cells.lookup x = some c → c ≠ X.env.locals := fun x c e z => by
  obtain ⟨v, o, ho, hd⟩ := I.cell x c e
  obtain ⟨m, ⟨o', es, ep, ho', hd', _⟩, _⟩ := I.loc
  rw [z, ho'] at ho; cases ho; rw [hd'] at hd; cases hd
theorem Inv.funs (I : Inv X pins σ H s) : s.heap.FunFrames X.base X.outer := by
  have all : ∀ (l : List Env), (∀ b ∈ frs l, b ∈ X.fs) → X.s_0.heap.FunFrames X.base l → s.heap.FunFrames X.base l := by
    intro l
    induction l with
    | nil => intro _ _; trivial
    | cons env r ih =>
      intro hs hl
      obtain ⟨hk, ⟨L, o, hf, hn, ho, hd⟩, hr⟩ := hl
      have hL : L ∈ X.fs := hs L (by unfold frs; rw [List.filterMap_cons, hf]; exact List.mem_cons_self)
      obtain ⟨sl, e⟩ := I.base.slot L o ho (I.ok.frf L hL) hL fun z => I.ok.exfs L z hL
      exact ⟨hk, ⟨L, _, hf, hn, e, hd⟩, ih (fun b hb => hs b (by unfold frs; rw [List.filterMap_cons, hf]; exact List.mem_cons_of_mem _ hb)) hr⟩
  exact all X.outer (fun _ hb => hb) I.ok.funs

theorem Inv.stack (I : Inv X pins σ H s) : s.heap.FunFrames X.base X.stack := by
  rcases I.ok.stk with e | ⟨e, hf⟩
  · rw [e]; exact I.funs
  · rw [e]
    obtain ⟨m, hn, _⟩ := I.loc
    refine .cons (by rw [I.ok.kind]; decide) hf hn ?_ I.funs
    exact Heap.get?_none_of_le (Nat.le_trans I.ok.bsz I.ok.above)
theorem Inv.stkSub (I : Inv X pins σ H s) : ∀ b ∈ frs X.stack, b ∈ X.env.locals :: X.fs := fun b hb => by
  rcases I.ok.stk with e | ⟨e, hf⟩
  · rw [e] at hb; exact List.mem_cons_of_mem _ hb
  · rw [e] at hb
    unfold frs at hb
    rw [List.filterMap_cons, hf] at hb
    exact hb
theorem Inv.stkFree (I : Inv X pins σ H s) : ∀ b ∈ frs X.stack, H b = none := fun b hb => by
  rcases List.mem_cons.mp (I.stkSub b hb) with e | hb
  · rw [e]; exact I.free
  · obtain ⟨_, o, ho, _⟩ := I.ok.funs.mem hb
    exact I.base.free b o ho (I.ok.frf b hb) fun z => I.ok.exfs b z hb

theorem Inv.step {g' : Array GenState} {t' : Nat} {d' : Drawn} {ch : List Addr} (I : Inv X pins σ H s)
    (hch : ∀ b ∈ ch, (b ∈ X.ex ∨ X.s_0.heap.objs.size ≤ b) ∧ b ≠ X.env.locals ∧ (∀ x c, X.env.cells.lookup x = some c → c ≠ b) ∧ ∀ p ∈ X.pn ++ pins, p.1 ≠ b)
    (keep : ∀ b o, b ≠ X.env.locals → b ∉ X.fs → b ∉ ch → s.heap.get? b = some o → H b = none → h'.get? b = some o)
    (slot : ∀ b o, b ≠ X.env.locals → b ∈ X.fs → b ∉ ch → s.heap.get? b = some o → H b = none → ∃ sl, h'.get? b = some { o with slots := sl }) (free : ∀ b o, b ∉ ch → s.heap.get? b = some o → H b = none → H' b = none)
    (there : ∀ b o, b ∉ ch → s.heap.get? b = some o → ∃ o', h'.get? b = some o')
    (tups : ∀ b xs, H b = some (.tup xs) → H' b = some (.tup xs)) (frzs : ∀ b o u, H b = some (.frz o u) → H' b = some (.frz o u)) (tbls : ∀ b ps, H b = some (.tbl ps) → ∃ more, H' b = some (.tbl (ps ++ more)))
    (ns : ∀ m, s.heap.Ns X.env.locals m → h'.Ns X.env.locals m) (hok : HOk X.prog X.w H' h') (hg : AllBare g') :
    Inv X pins σ H' { s with heap := h', gens := g', drawn := d', toks := t' } := by
  have neL : ∀ b o, X.s_0.heap.get? b = some o → b ≠ X.env.locals := fun b o e => Nat.ne_of_lt (Nat.lt_of_lt_of_le (Heap.lt_size e) I.ok.above)
  have neC : ∀ b o, X.s_0.heap.get? b = some o → b ∉ X.ex → b ∉ ch := fun b o e hx hb => by
    rcases (hch b hb).1 with z | z
    · exact hx z
    · exact absurd (Nat.lt_of_lt_of_le (Heap.lt_size e) z) (Nat.lt_irrefl _)
  have cellK : ∀ x c, X.env.cells.lookup x = some c → ∀ v, s.heap.IsCell c v → h'.IsCell c v := fun x c e v ⟨o, ho, hd⟩ => by
    have nch : c ∉ ch := fun z => (hch c z).2.2.1 x c e rfl
    by_cases hc : c ∈ X.fs
    · obtain ⟨sl, q⟩ := slot c o (I.cne x c e) hc nch ho (I.freeC x c e)
      exact ⟨_, q, hd⟩
    · exact ⟨o, keep c o (I.cne x c e) hc nch ho (I.freeC x c e), hd⟩
  refine ⟨I.ok, I.os, hg, ⟨fun b o e n hb hx => ?_, fun b o e n hb hx => ?_, fun b o e n hx => ?_, fun b o e hx => ?_, fun b xs e => tups b xs (I.base.tups b xs e), fun b o xs e => frzs b o xs (I.base.frzs b o xs e), fun b ps e => ?_⟩, ?_, fun x c e => ?_, ?_, fun x c e => ?_, fun p hp => ?_, hok, I.len⟩
  · exact keep b o (neL b o e) hb (neC b o e hx) (I.base.keep b o e n hb hx) (I.base.free b o e n hx)
  · obtain ⟨sl, e1⟩ := I.base.slot b o e n hb hx
    obtain ⟨sl', e2⟩ := slot b _ (neL b o e) hb (neC b o e hx) e1 (I.base.free b o e n hx)
    exact ⟨sl', e2⟩
  · obtain ⟨o', e1⟩ := I.base.there b o e hx
    exact free b o' (neC b o e hx) e1 (I.base.free b o e n hx)
  · obtain ⟨o', e1⟩ := I.base.there b o e hx
    exact there b o' (neC b o e hx) e1
  · obtain ⟨m1, e1⟩ := I.base.tbls b ps e
    obtain ⟨m2, e2⟩ := tbls b _ e1
    exact ⟨m1 ++ m2, by rw [e2, Array.append_assoc]⟩
  · obtain ⟨m, hn, hl⟩ := I.loc
    refine ⟨m, ns m hn, fun i x v e1 e2 e3 => ?_⟩
    obtain ⟨u, r, l⟩ := hl i x v e1 e2 e3
    refine ⟨u, r, ?_⟩
    rcases l with l | ⟨k, c, e, z⟩
    · exact .inl l
    · exact .inr ⟨k, c, e, cellK x c e _ z⟩
  · obtain ⟨v, z⟩ := I.cell x c e
    exact ⟨v, cellK x c e v z⟩
  · obtain ⟨m, ⟨o, _, _, ho, _⟩, _⟩ := I.loc
    exact free _ o (fun z => (hch _ z).2.1 rfl) ho I.free
  · obtain ⟨v, o, ho, hd⟩ := I.cell x c e
    exact free c o (fun z => (hch c z).2.2.1 x c e rfl) ho (I.freeC x c e)
  · obtain ⟨e, n, ne, nf, d⟩ := I.pin p hp
    have nch : p.1 ∉ ch := fun z => (hch p.1 z).2.2.2 p hp rfl
    exact ⟨keep p.1 p.2 ne nf nch e n, free p.1 p.2 nch e n, ne, nf, d⟩
theorem Inv.un {t' : Nat} (I : Inv X pins σ H s) (u : Un X.fs [] H H' s.heap h') (hok : HOk X.prog X.w H' h') : Inv X pins σ H' { s with heap := h', toks := t' } := by
  obtain ⟨m, ⟨o, es, ep, ho, r⟩, _⟩ := id I.loc
  obtain ⟨sl, hL⟩ := u.any ho I.free (by simp)
  exact I.step (g' := s.gens) (d' := s.drawn) (ch := []) (fun _ z => nomatch z) (fun b o _ hb _ e n => u.keep b o e n hb (by simp)) (fun b o _ hb _ e n => u.slot b o e n hb (by simp)) (fun b o _ e n => u.free b o e n (by simp)) (fun b o _ e => u.there b o e (by simp)) u.tups u.frzs u.tbls (fun m' hm => by
    obtain ⟨o', es', ep', ho', r'⟩ := hm
    rw [ho] at ho'; cases ho'
    exact ⟨_, es', ep', hL, r'⟩) hok I.bare
theorem Inv.call {g' : Array GenState} {t' : Nat} {d' : Drawn} {ch : List Addr} (I : Inv X pins σ H s) (u : Un (frs X.stack) ch H H' s.heap h') (hok : HOk X.prog X.w H' h') (hg : AllBare g')
    (hch : ∀ b ∈ ch, (b ∈ X.ex ∨ X.s_0.heap.objs.size ≤ b) ∧ b ≠ X.env.locals ∧ (∀ x c, X.env.cells.lookup x = some c → c ≠ b) ∧ ∀ p ∈ X.pn ++ pins, p.1 ≠ b) :
    Inv X pins σ H' { s with heap := h', gens := g', drawn := d', toks := t' } := by
  obtain ⟨m, ⟨o, es, ep, ho, r⟩, _⟩ := id I.loc
  obtain ⟨sl, hL⟩ := u.any ho I.free fun z => (hch _ z).2.1 rfl
  exact I.step (ch := ch) hch (fun b o hL hb hc e n => u.keep b o e n (fun z => (List.mem_cons.mp (I.stkSub b z)).elim hL hb) hc) (fun b o _ _ hc e n => u.any e n hc) (fun b o hc e n => u.free b o e n hc) (fun b o hc e => u.there b o e hc) u.tups u.frzs u.tbls (fun m' hm => by
    obtain ⟨o', es', ep', ho', r'⟩ := hm
    rw [ho] at ho'; cases ho'
    exact ⟨_, es', ep', hL, r'⟩) hok hg
theorem Inv.turned {t' : Nat} {it : Addr} (I : Inv X pins σ H s) (k : ∀ b o, b ≠ it → s.heap.get? b = some o → h'.get? b = some o) (hn : H it = none) (hL : it ≠ X.env.locals)
    (h1 : it ∈ X.ex ∨ X.s_0.heap.objs.size ≤ it) (h2 : ∀ x c, X.env.cells.lookup x = some c → c ≠ it) (h3 : ∀ p ∈ X.pn ++ pins, p.1 ≠ it) : Inv X pins σ H { s with heap := h', toks := t' } := by
  have nit : ∀ b u, H b = some u → b ≠ it := fun b u e z => by rw [z, hn] at e; cases e
  refine I.step (g' := s.gens) (d' := s.drawn) (ch := [it]) (fun b hb => ?_) (fun b o _ _ hc e _ => k b o (fun z => hc (by simp [z])) e) (fun b o _ _ hc e _ => ⟨o.slots, k b o (fun z => hc (by simp [z])) e⟩) (fun _ _ _ _ n => n)
    (fun b o hc e => ⟨o, k b o (fun z => hc (by simp [z])) e⟩) (fun _ _ e => e) (fun _ _ _ e => e) (fun b ps e => ⟨#[], by rw [e]; simp⟩) (fun m hm => ?_) (fun b u e => ?_) I.bare
  · have e : b = it := by simpa using hb
    subst e
    exact ⟨h1, hL, h2, h3⟩
  · obtain ⟨o, es, ep, ho, r⟩ := hm
    exact ⟨o, es, ep, k _ o (Ne.symm hL) ho, r⟩
  · refine (I.hok b u e).stay (fun c v hc q => k c v ?_ q) (fun _ q => q) fun _ _ q => q
    rcases hc with z | z
    · rw [z]; exact nit b u e
    · exact nit c _ z
theorem Inv.tok (I : Inv X pins σ H s) (t : Nat) : Inv X pins σ H { s with toks := t } := I.un (h' := s.heap) (t' := t) Un.refl I.hok
theorem Inv.kept {t' : Nat} (I : Inv X pins σ H s) (k : ∀ b u, s.heap.get? b = some u → h'.get? b = some u) : Inv X pins σ H { s with heap := h', toks := t' } := I.un (Un.kept k) (I.hok.kept k)
theorem Inv.laid {a : Addr} {o : HO} {t' : Nat} (I : Inv X pins σ H s) (k : ∀ b u, s.heap.get? b = some u → h'.get? b = some u) (hp : s.heap.objs.size ≤ a) (new : ObjOk X.prog X.w (upd H a o) h' a o) :
    Inv X pins σ (upd H a o) { s with heap := h', toks := t' } := I.un (Un.laid k hp (I.hok.fresh hp)) (I.hok.laid k hp new)
theorem Inv.write {x e : Addr} {o : HO} {t' : Nat} (I : Inv X pins σ H s) (mu : Mut (H x)) (he : e = x ∨ H e = some (.own x)) (k : ∀ b u, b ≠ e → s.heap.get? b = some u → h'.get? b = some u) (heo : ∃ u, h'.get? e = some u)
    (new : ObjOk X.prog X.w (upd H x o) h' x o) : Inv X pins σ (upd H x o) { s with heap := h', toks := t' } := I.un (Un.write mu he k heo) (I.hok.write mu he k heo new)
theorem Inv.weak {σ' : List (Option V)} (I : Inv X pins σ H s) (hl : σ'.length = σ.length) (w : ∀ (i : Nat) v, σ'[i]? = some (some v) → σ[i]? = some (some v)) : Inv X pins σ' H s :=
  ⟨I.ok, I.os, I.bare, I.base, let ⟨m, hn, hl'⟩ := I.loc; ⟨m, hn, fun i x v e1 e2 e3 => hl' i x v e1 (w i v e2) e3⟩, I.cell, I.free, I.freeC, I.pin, I.hok, hl.trans I.len⟩
theorem Inv.pins_of {pins' : List (Addr × Obj)} (I : Inv X pins σ H s) (h : ∀ p ∈ pins', s.heap.get? p.1 = some p.2 ∧ H p.1 = none ∧ p.1 ≠ X.env.locals ∧ p.1 ∉ X.fs ∧ ∀ v, p.2.data ≠ .cell v) : Inv X pins' σ H s :=
  ⟨I.ok, I.os, I.bare, I.base, I.loc, I.cell, I.free, I.freeC, fun p hp => (List.mem_append.mp hp).elim (fun z => I.pin p (List.mem_append_left _ z)) (h p), I.hok, I.len⟩

theorem nodup_ix {N : List Str} (hN : N.Nodup) {i j : Nat} {x : Str} (a : N[i]? = some x) (b : N[j]? = some x) : i = j := by
  obtain ⟨h1, e1⟩ := List.getElem?_eq_some_iff.mp a
  obtain ⟨h2, e2⟩ := List.getElem?_eq_some_iff.mp b
  exact (List.getElem_inj hN).mp (e1.trans e2.symm)

theorem store_ok2 {M : Model} {A : Around} {E : Value → Shared → Prop} {i : Nat} {x : Str} {v : V} {u : Value} {Q : Unit → Shared → Prop} (I : Inv X pins σ H s) (hN : X.N.Nodup) (hi : X.N[i]? = some x) (hx : Loc X.env.scope x) (r : RelV v u)
    (h : ∀ s', Inv X pins (σ.set i (some v)) H s' → (∃ a, Heap.SameBut a s.heap s'.heap ∧ (a = X.env.locals ∨ X.env.cells.lookup x = some a)) → Q () s') (hf : X.fn x = true ∨ X.env.scope.names.lookup x = some .local := by first | exact .inl rfl | exact .inr rfl | assumption) : wpAny M A (storeName X.env x u) Q E s := by
  obtain ⟨m, hn, hl⟩ := id I.loc
  have hcls : (X.env.scope.kind == .class || (X.env.scope.kind == .module && X.env.locals != X.env.globals)) = false := by rw [I.ok.kind]; rfl
  have hiσ : i < σ.length := by rw [I.len]; exact (List.getElem?_eq_some_iff.mp hi).1
  have cne := I.cne
  have tracked : ∀ {a : Addr} {h' : Heap}, (∃ o, s.heap.get? a = some o ∧ H a = none) → Heap.SameBut a s.heap h' → HOk X.prog X.w H h' := fun {a h'} ha hs b ob e => by
    obtain ⟨_, _, hfree⟩ := ha
    refine (I.hok b ob e).stay (fun c w' hc q => (hs.2 c ?_).trans q) (fun _ q => q) fun _ _ q => q
    rintro rfl
    rcases hc with rfl | hc
    · rw [hfree] at e; cases e
    · rw [hfree] at hc; cases hc
  rcases hx with hk | hk
  · refine wpAny_storeName_local hk hn (fun h' hn' hs => ?_) hcls
    obtain ⟨oL, _, _, hoL, _⟩ := id hn
    refine h _ ⟨I.ok, I.os, I.bare, ⟨fun b o e n hb hx => ?_, fun b o e n hb hx => ?_, I.base.free, fun b o e hx => ?_, I.base.tups, I.base.frzs, I.base.tbls⟩, ⟨_, hn', fun j y v' e1 e2 e3 => ?_⟩, fun y c e => ?_, I.free, I.freeC, fun p hp => ?_, tracked ⟨oL, hoL, I.free⟩ hs, by simpa using I.len⟩ ⟨_, hs, .inl rfl⟩
    · exact (hs.2 b (Nat.ne_of_lt (Nat.lt_of_lt_of_le (Heap.lt_size e) I.ok.above))).trans (I.base.keep b o e n hb hx)
    · obtain ⟨sl, e1⟩ := I.base.slot b o e n hb hx
      exact ⟨sl, (hs.2 b (Nat.ne_of_lt (Nat.lt_of_lt_of_le (Heap.lt_size e) I.ok.above))).trans e1⟩
    · obtain ⟨o', e1⟩ := I.base.there b o e hx
      exact ⟨o', (hs.2 b (Nat.ne_of_lt (Nat.lt_of_lt_of_le (Heap.lt_size e) I.ok.above))).trans e1⟩
    · by_cases hj : j = i
      · subst hj
        rw [hi] at e1; cases e1
        rw [List.getElem?_set_self hiσ] at e2
        cases e2
        exact ⟨u, r, .inl ⟨hk, by simp⟩⟩
      · rw [List.getElem?_set_ne (Ne.symm hj)] at e2
        obtain ⟨u', r', q⟩ := hl j y v' e1 e2 e3
        refine ⟨u', r', ?_⟩
        rcases q with ⟨k, e⟩ | ⟨k, c, e, z⟩
        · refine .inl ⟨k, ?_⟩
          have : y ≠ x := fun e => hj (nodup_ix hN e1 (e ▸ hi))
          simp [this, e]
        · exact .inr ⟨k, c, e, z.sameBut hs (cne y c e)⟩
    · obtain ⟨w', z⟩ := I.cell y c e
      exact ⟨w', z.sameBut hs (cne y c e)⟩
    · obtain ⟨e, n, ne, nf, d⟩ := I.pin p hp
      exact ⟨(hs.2 p.1 ne).trans e, n, ne, nf, d⟩
  · have hfn : X.fn x = true := by
      rcases hf with z | z
      · exact z
      · rw [z] at hk; cases hk
    obtain ⟨c, hc⟩ := I.ok.has x (.inl hk)
    obtain ⟨w', z⟩ := I.cell x c hc
    refine wpAny_storeName_cell I.ok.kind hk hc z (fun h' hc' hs => ?_)
    obtain ⟨oc, hoc, hocd⟩ := id z
    refine h { s with heap := h' } ⟨I.ok, I.os, I.bare, ⟨fun b o e n hb hx => ?_, fun b o e n hb hx => ?_, I.base.free, fun b o e hx => ?_, I.base.tups, I.base.frzs, I.base.tbls⟩, ⟨m, hn.sameBut hs (Ne.symm (cne x c hc)), fun j y v' e1 e2 e3 => ?_⟩, fun y c' e => ?_, I.free, I.freeC, fun p hp => ?_, tracked ⟨oc, hoc, I.freeC x c hc⟩ hs, by simpa using I.len⟩ ⟨c, hs, .inr hc⟩
    · exact (hs.2 b (Nat.ne_of_lt (Nat.lt_of_lt_of_le (Heap.lt_size e) (I.ok.cab x c hfn hc)))).trans (I.base.keep b o e n hb hx)
    · obtain ⟨sl, e1⟩ := I.base.slot b o e n hb hx
      exact ⟨sl, (hs.2 b (Nat.ne_of_lt (Nat.lt_of_lt_of_le (Heap.lt_size e) (I.ok.cab x c hfn hc)))).trans e1⟩
    · obtain ⟨o', e1⟩ := I.base.there b o e hx
      exact ⟨o', (hs.2 b (Nat.ne_of_lt (Nat.lt_of_lt_of_le (Heap.lt_size e) (I.ok.cab x c hfn hc)))).trans e1⟩
    · by_cases hj : j = i
      · subst hj
        rw [hi] at e1; cases e1
        rw [List.getElem?_set_self hiσ] at e2
        cases e2
        exact ⟨u, r, .inr ⟨.inl hk, c, hc, hc'⟩⟩
      · rw [List.getElem?_set_ne (Ne.symm hj)] at e2
        obtain ⟨u', r', q⟩ := hl j y v' e1 e2 e3
        refine ⟨u', r', ?_⟩
        rcases q with q | ⟨k, c', e, z'⟩
        · exact .inl q
        · refine .inr ⟨k, c', e, z'.sameBut hs ?_⟩
          rintro rfl
          exact hj (nodup_ix hN e1 (I.ok.inj _ _ _ e hc ▸ hi))
    · by_cases hcc : c' = c
      · subst hcc; exact ⟨_, hc'⟩
      · obtain ⟨w2, z2⟩ := I.cell y c' e
        exact ⟨w2, z2.sameBut hs hcc⟩
    · obtain ⟨e, n, ne, nf, d⟩ := I.pin p hp
      refine ⟨(hs.2 p.1 ?_).trans e, n, ne, nf, d⟩
      intro q
      rw [q, hoc] at e
      have q' : oc = p.2 := Option.some.inj e
      exact d w' (by rw [← q']; exact hocd)
theorem store_ok {M : Model} {A : Around} {E : Value → Shared → Prop} {i : Nat} {x : Str} {v : V} {u : Value} {Q : Unit → Shared → Prop} (I : Inv X pins σ H s) (hN : X.N.Nodup) (hi : X.N[i]? = some x) (hx : Loc X.env.scope x) (r : RelV v u)
    (h : ∀ s', Inv X pins (σ.set i (some v)) H s' → Q () s') (hf : X.fn x = true ∨ X.env.scope.names.lookup x = some .local := by first | exact .inl rfl | exact .inr rfl | assumption) : wpAny M A (storeName X.env x u) Q E s :=
  store_ok2 I hN hi hx r (fun s' I' _ => h s' I') hf
theorem Inv.call' {s' : Shared} {ch : List Addr} (I : Inv X pins σ H s) (ho : s'.os = s.os) (u : Un (frs X.stack) ch H H' s.heap s'.heap) (hok : HOk X.prog X.w H' s'.heap) (hg : AllBare s'.gens)
    (hch : ∀ b ∈ ch, (b ∈ X.ex ∨ X.s_0.heap.objs.size ≤ b) ∧ b ≠ X.env.locals ∧ (∀ x c, X.env.cells.lookup x = some c → c ≠ b) ∧ ∀ p ∈ X.pn ++ pins, p.1 ≠ b) : Inv X pins σ H' s' := by
  obtain ⟨h', g', d', t', o'⟩ := s'
  have e : o' = s.os := ho
  subst e
  exact I.call (g' := g') (t' := t') (d' := d') u hok hg hch
end

abbrev XK := Value → Option Addr → Hp → Prop
abbrev St := List (Option V)
abbrev VK := V → Hp → Prop
abbrev TE := St → Hp → VK → Prop
abbrev TT := St → Hp → (Bool → Hp → Prop) → Prop
abbrev TA := St → Hp → (List V → Hp → Prop) → Prop
structure Ends where
  nx : St → Hp → Prop
  rt : VK
  bk : St → Hp → Prop := fun _ _ => False
  ct : St → Hp → Prop := fun _ _ => False
abbrev TS := Ends → St → Hp → Prop

def EP (X : Cx) (pins : List (Addr × Obj)) (σ : St) (Q : VK) (u : Value) (s' : Shared) : Prop := ∃ v H', Inv X pins σ H' s' ∧ RelV v u ∧ Q v H'
def TP (X : Cx) (pins : List (Addr × Obj)) (σ : St) (Q : Bool → Hp → Prop) (b : Bool) (s' : Shared) : Prop := ∃ H', Inv X pins σ H' s' ∧ Q b H'
def AP (X : Cx) (pins : List (Addr × Obj)) (σ : St) (Q : List V → Hp → Prop) (us : List Value) (s' : Shared) : Prop := ∃ vs H', Inv X pins σ H' s' ∧ Vals vs us ∧ Q vs H'
def SP (X : Cx) (pins : List (Addr × Obj)) (D : Ends) (f : Flow) (s' : Shared) : Prop :=
  match f with
  | .next => ∃ σ' H', Inv X pins σ' H' s' ∧ D.nx σ' H'
  | .brk => ∃ σ' H', Inv X pins σ' H' s' ∧ D.bk σ' H'
  | .cont => ∃ σ' H', Inv X pins σ' H' s' ∧ D.ct σ' H'
  | .ret u => ∃ v σ' H', Inv X pins σ' H' s' ∧ RelV v u ∧ D.rt v H'

def PE (X : Cx) (e : Expr) (t : TE) : Prop :=
  ∀ (pins : List (Addr × Obj)) (s : Shared) (σ : St) (H : Hp) (Q : VK), Inv X pins σ H s → t σ H Q → wpAny (model X.prog X.w) X.A (eval e X.env) (EP X pins σ Q) X.xe s
def PT (X : Cx) (e : Expr) (t : TT) : Prop :=
  ∀ (pins : List (Addr × Obj)) (s : Shared) (σ : St) (H : Hp) (Q : Bool → Hp → Prop), Inv X pins σ H s → t σ H Q → wpAny (model X.prog X.w) X.A (isTrue e X.env (eval e X.env)) (TP X pins σ Q) X.xe s
def PW (X : Cx) (e : Expr) (t : TT) : Prop :=
  ∀ (whole : Sem Value) (pins : List (Addr × Obj)) (s : Shared) (σ : St) (H : Hp) (Q : Bool → Hp → Prop), Inv X pins σ H s → t σ H Q → wpAny (model X.prog X.w) X.A (isTrue e X.env whole) (TP X pins σ Q) X.xe s
theorem PW.pt {X : Cx} {e : Expr} {t : TT} (h : PW X e t) : PT X e t := h _
def PA (X : Cx) (es : List Expr) (t : TA) : Prop :=
  ∀ (pos : Pos) (pins : List (Addr × Obj)) (s : Shared) (σ : St) (H : Hp) (Q : List V → Hp → Prop), Inv X pins σ H s → t σ H Q → wpAny (model X.prog X.w) X.A (spliced (backTo pos (starEach es X.env))) (AP X pins σ Q) X.xe s
def PS (X : Cx) (st : Stmt) (t : TS) : Prop :=
  ∀ (pins : List (Addr × Obj)) (s : Shared) (σ : St) (H : Hp) (D : Ends), Inv X pins σ H s → t D σ H → wpAny (model X.prog X.w) X.A (exec st X.env) (SP X pins D) X.xe s
def PSs (X : Cx) (st : List Stmt) (t : TS) : Prop :=
  ∀ (pins : List (Addr × Obj)) (s : Shared) (σ : St) (H : Hp) (D : Ends), Inv X pins σ H s → t D σ H → wpAny (model X.prog X.w) X.A (execs st X.env) (SP X pins D) X.xe s
theorem thn {α : Type} {t : Sem α} {Q Q' : α → Shared → Prop} {M : Model} {A : Around} {E : Value → Shared → Prop} {s : Shared} (h : wpAny M A t Q E s) (hQ : ∀ a s, Q a s → Q' a s) : wpAny M A t Q' E s := wpAny_mono h hQ fun _ _ x => x
end L2

namespace L2
open PySem PySem.Spec PyProof.Rows
section
variable {X : Cx}

def tVar (i : Nat) : TE := fun σ H Q => ∃ v, σ[i]? = some (some v) ∧ Q v H
def tC (v : V) : TE := fun _ H Q => Q v H
theorem pe_var {i : Nat} {x : Str} {pos : Pos} (hN : X.N[i]? = some x) (hv : Vis X.env.scope x) (hd : (x == ("__debug__" : Str)) = false := by decide) (hcd : (x == ("__classdict__" : Str)) = false := by decide) : PE X (.Name x pos) (tVar i) := by
  intro pins s σ H Q I h
  obtain ⟨v, e, h⟩ := h
  obtain ⟨m, hn, hl⟩ := I.loc
  obtain ⟨u, r, l⟩ := hl i x v hN e hv
  have fin : EP X pins σ Q u s := ⟨v, H, I, r, h⟩
  rcases l with ⟨hk, hm⟩ | ⟨hk, c, hc, hcell⟩
  · exact wpAny_Name (wpAny_loadName_local I.ok.kind hk hn hm fin) hd
  · rcases hk with hk | hk
    · exact wpAny_Name (wpAny_loadName_cell I.ok.kind hk hc hcell fin) hd
    · exact wpAny_Name (wpAny_loadName_free I.ok.kind hk hc hcell fin hcd) hd
theorem pe_int {i j pos} : PE X (.Constant (.int i) j pos) (tC (.int i)) := fun _ _ _ H _ I h => wpAny_Constant_int ⟨.int i, H, I.tok _, ⟨_, rfl⟩, h⟩
theorem pe_bl {b j pos} : PE X (.Constant (.bool b) j pos) (tC (.bl b)) := fun _ _ _ H _ I h => Constant_bool ⟨.bl b, H, I, rfl, h⟩
theorem pe_non {j pos} : PE X (.Constant .none j pos) (tC .non) := fun _ _ _ H _ I h => Constant_none ⟨.non, H, I, rfl, h⟩
def Gl (X : Cx) (x : Str) : Prop := X.env.kindOf x = some .globalImplicit
theorem ld_glob {E : Value → Shared → Prop} {pins : List (Addr × Obj)} {s : Shared} {σ : St} {H : Hp} {x : Str} {u : Value} {pos : Pos} {Q : Value → Shared → Prop} (I : Inv X pins σ H s) (hg : Gl X x) (hm : X.mg x = some u) (h : Q u s)
    (hd : (x == ("__debug__" : Str)) = false := by decide) : wpAny (model X.prog X.w) X.A (eval (.Name x pos) X.env) Q E s :=
  Calls.Name_function_global I.ok.kind hg (Calls.loadGlobal_global (by rw [I.ok.glob]; exact I.mod.glob.keeps I.bk) hm h) hd
theorem ld_blt {E : Value → Shared → Prop} {pins : List (Addr × Obj)} {s : Shared} {σ : St} {H : Hp} {x : Str} {u : Value} {pos : Pos} {Q : Value → Shared → Prop} (I : Inv X pins σ H s) (hg : Gl X x) (hm : X.mg x = none) (hv : bootBuiltins x = some u) (h : Q u s)
    (hn : x ≠ "__name__" := by decide) (hd : (x == ("__debug__" : Str)) = false := by decide) : wpAny (model X.prog X.w) X.A (eval (.Name x pos) X.env) Q E s := by
  obtain ⟨mb, h1, h2⟩ := I.mod.blt
  exact Calls.Name_function_global I.ok.kind hg (Calls.loadGlobal_builtin (by rw [I.ok.glob]; exact I.mod.glob.keeps I.bk) hm (by rw [I.ok.blt]; exact h1.keeps I.bk) ((h2 x hn).trans hv) h) hd
theorem pe_glob {x : Str} {v : V} {u : Value} {pos : Pos} (hg : Gl X x) (hm : X.mg x = some u) (r : RelV v u) (hd : (x == ("__debug__" : Str)) = false := by decide) : PE X (.Name x pos) (tC v) :=
  fun _ _ _ H _ I h => ld_glob I hg hm ⟨v, H, I, r, h⟩ hd
theorem pe_bltn {x : Str} {v : V} {u : Value} {pos : Pos} (hg : Gl X x) (hm : X.mg x = none) (hv : bootBuiltins x = some u) (r : RelV v u) (hn : x ≠ "__name__" := by decide) (hd : (x == ("__debug__" : Str)) = false := by decide) : PE X (.Name x pos) (tC v) :=
  fun _ _ _ H _ I h => ld_blt I hg hm hv ⟨v, H, I, r, h⟩ hn hd

variable {a b : Expr} {ta tb : TE} {pos : Pos}
def tB (t : TE) : TT := fun σ H Q => t σ H fun x H1 => ∃ c, x = .bl c ∧ Q c H1
theorem pt_val {e : Expr} {t : TE} (h : PE X e t) (he : ∀ whole, isTrue e X.env whole = (do let v ← whole; standAt e.pos; holding [v] (truthy v)) := by intro _; rfl) : PT X e (tB t) := by
  intro pins s σ H Q I hw
  refine isTrue_plain (thn (h pins s σ H _ I hw) fun v s1 ⟨x, H1, I1, r1, q1⟩ => ?_) (he _)
  obtain ⟨d, rfl, q⟩ := q1
  cases r1
  exact wpAny_truthy_bool ⟨H1, I1, q⟩

variable {tA tB' : TT} {rest : List Expr}
def tAnd (t u : TT) : TT := fun σ H Q => t σ H fun c H1 => if c = true then u σ H1 Q else Q false H1
def tOr (t u : TT) : TT := fun σ H Q => t σ H fun c H1 => if c = true then Q true H1 else u σ H1 Q
def tNot (t : TT) : TT := fun σ H Q => t σ H fun c H1 => Q (!c) H1
theorem pw_and1 (ha : PT X a tA) : PW X (.BoolOp .And [a] pos) tA := by
  intro wh pins s σ H Q I h
  refine isTrue_and (thn (ha pins s σ H Q I h) fun c s1 e => ?_)
  cases c with
  | true => exact isTrue_and_nil e
  | false => exact e
theorem pw_or1 (ha : PT X a tA) : PW X (.BoolOp .Or [a] pos) tA := by
  intro wh pins s σ H Q I h
  refine isTrue_or (thn (ha pins s σ H Q I h) fun c s1 e => ?_)
  cases c with
  | false => exact isTrue_or_nil e
  | true => exact e
theorem pw_and (ha : PT X a tA) (hb : PW X (.BoolOp .And (b :: rest) pos) tB') : PW X (.BoolOp .And (a :: b :: rest) pos) (tAnd tA tB') := by
  intro wh pins s σ H Q I h
  refine isTrue_and (thn (ha pins s σ H _ I h) fun c s1 ⟨H1, I1, q1⟩ => ?_)
  cases c with
  | true => exact hb wh pins s1 σ H1 Q I1 q1
  | false => exact ⟨H1, I1, q1⟩
theorem pw_or (ha : PT X a tA) (hb : PW X (.BoolOp .Or (b :: rest) pos) tB') : PW X (.BoolOp .Or (a :: b :: rest) pos) (tOr tA tB') := by
  intro wh pins s σ H Q I h
  refine isTrue_or (thn (ha pins s σ H _ I h) fun c s1 ⟨H1, I1, q1⟩ => ?_)
  cases c with
  | true => exact ⟨H1, I1, q1⟩
  | false => exact hb wh pins s1 σ H1 Q I1 q1
theorem pt_not (ha : PT X a tA) : PT X (.UnaryOp .Not a pos) (tNot tA) := by
  intro pins s σ H Q I h
  exact isTrue_not (ha pins s σ H (fun c H1 => Q (!c) H1) I h)
def tAndV (ta tb : TE) : TE := fun σ H Q => ta σ H fun x H1 => ∃ c, x = .bl c ∧ if c = true then tb σ H1 Q else Q (.bl false) H1
def tNotV (ta : TE) : TE := fun σ H Q => ta σ H fun x H1 => ∃ c, x = .bl c ∧ Q (.bl (!c)) H1
theorem pe_one {op} {t : TE} (h : PE X a t) : PE X (.BoolOp op [a] pos) t := fun pins s σ H Q I hw => BoolOp_one (h pins s σ H Q I hw)
theorem pe_and (ha : PE X a ta) (hb : PE X (.BoolOp .And (b :: rest) pos) tb) : PE X (.BoolOp .And (a :: b :: rest) pos) (tAndV ta tb) := by
  intro pins s σ H Q I h
  refine BoolOp_and (thn (ha pins s σ H _ I h) fun v s1 ⟨x, H1, I1, r1, q1⟩ => ?_)
  obtain ⟨c, rfl, q1⟩ := q1
  cases r1
  refine wpAny_truthy_bool ?_
  cases c with
  | true => exact hb pins s1 σ H1 Q I1 q1
  | false => exact ⟨.bl false, H1, I1, rfl, q1⟩
theorem pe_not (ha : PE X a ta) : PE X (.UnaryOp .Not a pos) (tNotV ta) := by
  intro pins s σ H Q I h
  refine UnaryOp_ (thn (ha pins s σ H _ I h) fun v s1 ⟨x, H1, I1, r1, q1⟩ => ?_)
  obtain ⟨c, rfl, q1⟩ := q1
  cases r1
  exact not_of (wpAny_truthy_bool ⟨.bl (!c), H1, I1, rfl, q1⟩)
def tIf (t : TT) (ta tb : TE) : TE := fun σ H Q => t σ H fun c H1 => if c = true then ta σ H1 Q else tb σ H1 Q
theorem pe_ifExp {c : Expr} (hc : PT X c tA) (ha : PE X a ta) (hb : PE X b tb) : PE X (.IfExp c a b pos) (tIf tA ta tb) := by
  intro pins s σ H Q I h
  refine wpAny_IfExp (thn (hc pins s σ H _ I h) fun d s1 ⟨H1, I1, q1⟩ => ?_)
  cases d with
  | true => exact ha pins s1 σ H1 Q I1 q1
  | false => exact hb pins s1 σ H1 Q I1 q1
end
end L2

namespace L2
open PySem PySem.Spec PyProof.Rows

def SqL (K : PySem.W.Frag) (H : Hp) (a : Addr) (xs : List V) : Prop :=
  Rd H a (.lst xs) ∨
    ∃ (o : Obj) (its : Array Value) (n : Nat), K.lookup a = some o ∧ o.cls = .type "list" ∧ o.dict = none ∧ o.data = .seq its n ∧ its.size ≤ sizeLine ∧ Vals xs its.toList
def SqT (K : PySem.W.Frag) (H : Hp) (a : Addr) (xs : List V) : Prop :=
  Rd H a (.tup xs) ∨
    ∃ (o : Obj) (its : Array Value) (n : Nat), K.lookup a = some o ∧ o.cls = .type "tuple" ∧ o.data = .seq its n ∧ its.size ≤ sizeLine ∧ Vals xs its.toList
def absV : Value → Option V
  | .none => some .non
  | .bool b => some (.bl b)
  | .int i _ => some (.int i)
  | .str x _ => some (.str x)
  | .bytes b _ => some (.byt b)
  | .float b _ => some (.flt b)
  | .ref a => some (.ref a)
  | .type n => some (.ty n)
  | _ => none
theorem RelV.abs {x : V} {u : Value} (r : RelV x u) : absV u = some x := by
  cases x with
  | non => cases r; rfl
  | bl _ => cases r; rfl
  | int _ => obtain ⟨t, rfl⟩ := r; rfl
  | str _ => obtain ⟨t, rfl⟩ := r; rfl
  | byt _ => obtain ⟨t, rfl⟩ := r; rfl
  | flt _ => obtain ⟨t, rfl⟩ := r; rfl
  | ref _ => cases r; rfl
  | ty _ => cases r; rfl
theorem RelV.inj {x y : V} {u : Value} (r : RelV x u) (q : RelV y u) : x = y := Option.some.inj (r.abs.symm.trans q.abs)
theorem Vals.inj : ∀ {xs ys : List V} {us : List Value}, Vals xs us → Vals ys us → xs = ys
  | _, _, _, .nil, .nil => rfl
  | _, _, _, .cons r t, .cons r' t' => by rw [r.inj r', Vals.inj t t']
section
variable {X : Cx} {pins : List (Addr × Obj)} {σ : St} {H : Hp} {s : Shared} {a : Addr} {xs ys : List V}
theorem SqL.of {K : PySem.W.Frag} (h : H a = some (.lst xs)) : SqL K H a xs := .inl (.inl h)
theorem SqT.of {K : PySem.W.Frag} (h : H a = some (.tup xs)) : SqT K H a xs := .inl (.inl h)
theorem Inv.list (I : Inv X pins σ H s) (h : SqL X.K H a xs) : ∃ its : List Value, Vals xs its ∧ PlainL s.heap a its.toArray ∧ xs.length ≤ sizeLine := by
  rcases h with h | ⟨o, its, n, hk, hc, hd, hs, hz, r⟩
  · obtain ⟨z, its, n, r, e⟩ := h.ok I.hok
    exact ⟨its, r, ⟨_, n, e, rfl, rfl, rfl⟩, z⟩
  · refine ⟨its.toList, r, ⟨o, n, I.kIn a o hk, hc, hd, by simpa using hs⟩, ?_⟩
    have e := r.length
    simp only [Array.length_toList] at e
    omega
theorem Inv.tuple (I : Inv X pins σ H s) (h : SqT X.K H a xs) : ∃ its : List Value, Vals xs its ∧ IsTup s.heap a its.toArray ∧ xs.length ≤ sizeLine := by
  rcases h with h | ⟨o, its, n, hk, hc, hs, hz, r⟩
  · obtain ⟨z, its, r, p⟩ := h.ok I.hok
    exact ⟨its, r, p, z⟩
  · refine ⟨its.toList, r, ⟨o, I.kIn a o hk, hc, n, by simpa using hs⟩, ?_⟩
    have e := r.length
    simp only [Array.length_toList] at e
    omega
theorem Inv.list_inj (I : Inv X pins σ H s) (h : SqL X.K H a xs) (h' : SqL X.K H a ys) : xs = ys := by
  obtain ⟨its, r, ⟨o, n, e, _, _, d⟩, _⟩ := I.list h
  obtain ⟨its', r', ⟨o', n', e', _, _, d'⟩, _⟩ := I.list h'
  rw [e] at e'; cases e'
  rw [d] at d'
  injection d' with d1 _
  have : its = its' := by simpa using congrArg Array.toList d1
  subst this
  exact r.inj r'
end

abbrev Cx.wish (X : Cx) (E : Value → Shared → Prop) : Cx := { X with xe := E }
abbrev Cx.nox (X : Cx) : Cx := X.wish fun _ _ => False
theorem Cx.Ok.wish {X : Cx} (ok : X.Ok) (E : Value → Shared → Prop) : (X.wish E).Ok :=
  ⟨ok.mod, ok.kind, ok.glob, ok.blt, ok.above, ok.inj, ok.has, ok.cab, ok.hd, ok.frames, ok.stk, ok.exf, ok.bs, ok.bsz, ok.noex, ok.exfs, ok.funs, ok.frf⟩
theorem Cx.Ok.unwish {X : Cx} {E : Value → Shared → Prop} (ok : (X.wish E).Ok) : X.Ok :=
  ⟨ok.mod, ok.kind, ok.glob, ok.blt, ok.above, ok.inj, ok.has, ok.cab, ok.hd, ok.frames, ok.stk, ok.exf, ok.bs, ok.bsz, ok.noex, ok.exfs, ok.funs, ok.frf⟩
section
variable {X : Cx} {pins : List (Addr × Obj)} {σ : St} {H : Hp} {s : Shared} {E : Value → Shared → Prop}
theorem Inv.wish (I : Inv X pins σ H s) (E : Value → Shared → Prop) : Inv (X.wish E) pins σ H s := ⟨I.ok.wish E, I.os, I.bare, I.base, I.loc, I.cell, I.free, I.freeC, I.pin, I.hok, I.len⟩
theorem Inv.unwish (I : Inv (X.wish E) pins σ H s) : Inv X pins σ H s := ⟨I.ok.unwish, I.os, I.bare, I.base, I.loc, I.cell, I.free, I.freeC, I.pin, I.hok, I.len⟩
theorem SP.unwish {D : Ends} {f : Flow} {s' : Shared} (h : SP (X.wish E) pins D f s') : SP X pins D f s' := by
  cases f with
  | next => obtain ⟨σ', H', I, q⟩ := h; exact ⟨σ', H', I.unwish, q⟩
  | brk => obtain ⟨σ', H', I, q⟩ := h; exact ⟨σ', H', I.unwish, q⟩
  | cont => obtain ⟨σ', H', I, q⟩ := h; exact ⟨σ', H', I.unwish, q⟩
  | ret u => obtain ⟨v, σ', H', I, r, q⟩ := h; exact ⟨v, σ', H', I.unwish, r, q⟩
theorem PE.nox {e : Expr} {t : TE} (h : PE X.nox e t) : PE X e t := fun pins s σ H Q I hw =>
  wpAny_mono (h pins s σ H Q (I.wish _) hw) (fun _ _ ⟨v, H', I', r, q⟩ => ⟨v, H', I'.unwish, r, q⟩) fun _ _ z => False.elim z
theorem PT.nox {e : Expr} {t : TT} (h : PT X.nox e t) : PT X e t := fun pins s σ H Q I hw =>
  wpAny_mono (h pins s σ H Q (I.wish _) hw) (fun _ _ ⟨H', I', q⟩ => ⟨H', I'.unwish, q⟩) fun _ _ z => False.elim z
theorem PSs.nox {st : List Stmt} {t : TS} (h : PSs X.nox st t) : PSs X st t := fun pins s σ H D I hw =>
  wpAny_mono (h pins s σ H D (I.wish _) hw) (fun _ _ q => q.unwish) fun _ _ z => False.elim z
end

section
variable {X : Cx} {st : Stmt} {rest : List Stmt} {t u : TS} {e : Expr} {te : TE} {pos : Pos}
def tNext : TS := fun D σ H => D.nx σ H
def tSeq (t u : TS) : TS := fun D σ H => t { D with nx := u D } σ H
theorem pss_nil : PSs X [] tNext := fun _ _ σ H _ I h => wpAny_execs_nil ⟨σ, H, I, h⟩
theorem pss_cons (h1 : PS X st t) (h2 : PSs X rest u) : PSs X (st :: rest) (tSeq t u) := by
  intro pins s σ H D I h
  refine wpAny_execs_cons (thn (h1 pins s σ H { D with nx := u D } I h) fun f s1 q => ?_)
  cases f with
  | next =>
    obtain ⟨σ', H', I', q⟩ := q
    exact h2 pins s1 σ' H' D I' q
  | ret v => exact q
  | brk => exact q
  | cont => exact q
theorem pss_one (h1 : PS X st t) : PSs X [st] t := by
  intro pins s σ H D I h
  refine wpAny_execs_cons (thn (h1 pins s σ H D I h) fun f s1 q => ?_)
  cases f with
  | next => exact wpAny_execs_nil q
  | ret v => exact q
  | brk => exact q
  | cont => exact q
def tCont : TS := fun D σ H => D.ct σ H
theorem ps_continue : PS X (.Continue pos) tCont := fun _ _ σ H _ I h => wpAny_Continue ⟨σ, H, I, h⟩
theorem Inv.quiet {pins : List (Addr × Obj)} {σ : St} {H : Hp} {s : Shared} (I : Inv X pins σ H s) : interactive X.env = false := by simp [interactive, I.ok.kind]
def tDrop (te : TE) : TS := fun D σ H => te σ H fun _ H1 => D.nx σ H1
theorem ps_expr (he : PE X e te) (hs : swapsWith e none pos.line X.env = pure false := by rfl) : PS X (.Expr e pos) (tDrop te) := by
  intro pins s σ H D I h
  exact wpAny_Expr_any (thn (he pins s σ H _ I h) fun v s1 ⟨x, H1, I1, r1, q1⟩ => ⟨σ, H1, I1, q1⟩) I.quiet hs
def tRet (te : TE) : TS := fun D σ H => te σ H D.rt
theorem ps_ret (he : PE X e te) : PS X (.Return (some e) pos) (tRet te) := by
  intro pins s σ H D I h
  exact wpAny_Return_some (thn (he pins s σ H _ I h) fun v s1 ⟨x, H1, I1, r1, q1⟩ => ⟨x, σ, H1, I1, r1, q1⟩)
def tIfS (c : TT) (t u : TS) : TS := fun D σ H => c σ H fun b H1 => if b = true then t D σ H1 else u D σ H1
theorem ps_if {c : Expr} {a b : List Stmt} {tc : TT} (hc : PT X c tc) (ha : PSs X a t) (hb : PSs X b u) : PS X (.If c a b pos) (tIfS tc t u) := by
  intro pins s σ H D I h
  refine wpAny_If (thn (hc pins s σ H _ I h) fun d s1 ⟨H1, I1, q1⟩ => ?_)
  cases d with
  | true => exact ha pins s1 σ H1 D I1 q1
  | false => exact hb pins s1 σ H1 D I1 q1
def tNever : TS := fun _ _ _ => False
theorem ps_never : PS X st tNever := fun _ _ _ _ _ _ h => h.elim
end

abbrev TG := V → St → Hp → (St → Hp → Prop) → Prop
abbrev TGs := List V → St → Hp → (St → Hp → Prop) → Prop
def PG (X : Cx) (target : Expr) (t : TG) : Prop :=
  ∀ (pins : List (Addr × Obj)) (s : Shared) (σ : St) (H : Hp) (v : V) (u : Value) (Q : St → Hp → Prop), Inv X pins σ H s → RelV v u → t v σ H Q →
    wpAny (model X.prog X.w) X.A (assign target X.env u) (fun _ s' => ∃ σ' H', Inv X pins σ' H' s' ∧ Q σ' H') X.xe s
def PGs (X : Cx) (ts : List Expr) (t : TGs) : Prop :=
  ∀ (pins : List (Addr × Obj)) (s : Shared) (σ : St) (H : Hp) (vs : List V) (us : List Value) (Q : St → Hp → Prop), Inv X pins σ H s → Vals vs us → t vs σ H Q →
    wpAny (model X.prog X.w) X.A (assignInOrder ((assignEach ts X.env).map (·.2)) us) (fun _ s' => ∃ σ' H', Inv X pins σ' H' s' ∧ Q σ' H') X.xe s
abbrev TSet := V → V → V → Hp → (Hp → Prop) → Prop
def PSet (X : Cx) (t : TSet) : Prop :=
  ∀ (pins : List (Addr × Obj)) (s : Shared) (σ : St) (H : Hp) (o i v : V) (ov iv u : Value) (Q : Hp → Prop), Inv X pins σ H s → RelV o ov → RelV i iv → RelV v u → t o i v H Q →
    wpAny (model X.prog X.w) X.A (setItem ov iv u) (fun _ s' => ∃ H', Inv X pins σ H' s' ∧ Q H') X.xe s
abbrev TIp := V → V → Hp → VK → Prop
def PIp (X : Cx) (op : Operator) (t : TIp) : Prop :=
  ∀ (pins : List (Addr × Obj)) (s : Shared) (σ : St) (H : Hp) (x y : V) (v u : Value) (Q : VK), Inv X pins σ H s → RelV x v → RelV y u → t x y H Q →
    wpAny (model X.prog X.w) X.A (inplaceOp op v u) (EP X pins σ Q) X.xe s
section
variable {X : Cx} {pos : Pos}
def gName (i : Nat) : TG := fun v σ H Q => Q (σ.set i (some v)) H
theorem pg_name {i : Nat} {x : Str} (hN : X.N.Nodup) (hi : X.N[i]? = some x) (hx : Loc X.env.scope x) (hf : X.fn x = true ∨ X.env.scope.names.lookup x = some .local := by first | exact .inl rfl | exact .inr rfl | assumption) : PG X (.Name x pos) (gName i) := by
  intro pins s σ H v u Q I r h
  exact wpAny_assign_Name (store_ok I hN hi hx r (fun s' I' => ⟨_, H, I', h⟩) hf)
def gNil : TGs := fun vs σ H Q => vs = [] ∧ Q σ H
def gCons (t : TG) (u : TGs) : TGs := fun vs σ H Q => ∃ v r, vs = v :: r ∧ t v σ H fun σ' H' => u r σ' H' Q
theorem pgs_nil : PGs X [] gNil := by
  intro pins s σ H vs us Q I r h
  obtain ⟨e, h⟩ := h
  subst e
  cases r
  exact assignInOrder_nil ⟨σ, H, I, h⟩
theorem pgs_cons {e : Expr} {es : List Expr} {t : TG} {u : TGs} (h1 : PG X e t) (h2 : PGs X es u)
    (hs : (assignEach (e :: es) X.env).map (·.2) = assign e X.env :: (assignEach es X.env).map (·.2) := by rfl) : PGs X (e :: es) (gCons t u) := by
  intro pins s σ H vs us Q I r h
  obtain ⟨v, vr, e1, h⟩ := h
  subst e1
  cases r with
  | cons r rr =>
    rw [hs]
    refine assignInOrder_cons (thn (h1 pins s σ H _ _ _ I r h) fun _ s1 ⟨σ1, H1, I1, q1⟩ => ?_)
    exact h2 pins s1 σ1 H1 _ _ Q I1 rr q1
def gTup (K : PySem.W.Frag) (n : Nat) (t : TGs) : TG := fun v σ H Q => ∃ a xs, v = .ref a ∧ SqT K H a xs ∧ xs.length = n ∧ t xs σ H Q
theorem pg_tup {es : List Expr} {k : Nat} {t : TGs} {n : Nat} (hc : X.calm = true) (h : PGs X es t)
    (hn : (assignEach es X.env).length = n := by rfl) (hst : (assignEach es X.env).findIdx? (·.1) = none := by rfl) : PG X (.Tuple es k pos) (gTup X.K n t) := by
  intro pins s σ H v u Q I r hw
  obtain ⟨a, xs, e1, hq, hl, hw⟩ := hw
  subst e1
  cases r
  obtain ⟨its, rv, ht, hz⟩ := I.tuple hq
  refine assign_Tuple_tuple (I.ok.hd hc) ht (by simp [hn, ← hl, rv.length]) hst fun h' hx => ?_
  have I1 : Inv X pins σ H { s with heap := h' } := I.kept (t' := s.toks) fun b o e => hx b o (Nat.ne_of_lt (Heap.lt_size e)) e
  exact h pins _ σ H xs _ Q I1 (by simpa using rv) hw
def gSub (to ti : TE) (t : TSet) : TG := fun v σ H Q => to σ H fun o H1 => ti σ H1 fun i H2 => t o i v H2 fun H3 => Q σ H3
theorem pg_sub {o i : Expr} {to ti : TE} {t : TSet} (ho : PE X o to) (hi : PE X i ti) (hs : PSet X t)
    (ha : ∀ v, assign (.Subscript o i pos) X.env v = (do
      let ov ← holding [v] (eval o X.env)
      let iv ← holding [v, ov] (eval i X.env)
      standAt pos
      holding [v, ov, iv] (setItem ov iv v)
      release [v, ov, iv] []) := by intro _; rfl) : PG X (.Subscript o i pos) (gSub to ti t) := by
  intro pins s σ H v u Q I r h
  rw [ha]
  refine wpAny_bind (wpAny_holding (thn (ho pins s σ H _ I h) fun ov s1 ⟨x, H1, I1, r1, q1⟩ => ?_))
  refine wpAny_bind (wpAny_holding (thn (hi pins s1 σ H1 _ I1 q1) fun iv s2 ⟨y, H2, I2, r2, q2⟩ => ?_))
  refine wpAny_bind (wpAny_standAt (wpAny_bind (wpAny_holding (thn (hs pins s2 σ H2 x y v ov iv u _ I2 r1 r2 r q2) fun _ s3 ⟨H3, I3, q3⟩ => ?_))))
  exact wpAny_release ⟨σ, H3, I3, q3⟩
def tAsg (te : TE) (g : TG) : TS := fun D σ H => te σ H fun x H1 => g x σ H1 D.nx
theorem ps_asg {tg e : Expr} {te : TE} {g : TG} (he : PE X e te) (hg : PG X tg g) (hs : swapsWithSole [tg] e pos.line X.env = pure false := by rfl) (hw : swappedStores [tg] e X.env = pure none := by rfl)
    (h1 : (assignEach [tg] X.env).map (·.2) = [assign tg X.env] := by rfl) : PS X (.Assign [tg] e pos) (tAsg te g) := by
  intro pins s σ H D I h
  refine wpAny_Assign_stores (thn (he pins s σ H _ I h) fun v s1 ⟨x, H1, I1, r1, q1⟩ => ?_) hs hw
  rw [h1]
  exact thn (hg pins s1 σ H1 x v _ I1 r1 q1) fun _ s2 q => q
theorem ps_set {i : Nat} {x : Str} {e : Expr} {te : TE} {pos' : Pos} (hN : X.N.Nodup) (hi : X.N[i]? = some x) (hx : Loc X.env.scope x) (he : PE X e te) (hs : swapsWith e (some (.Name x pos')) pos.line X.env = pure false := by rfl) (hf : X.fn x = true ∨ X.env.scope.names.lookup x = some .local := by first | exact .inl rfl | exact .inr rfl | assumption) :
    PS X (.Assign [.Name x pos'] e pos) (tAsg te (gName i)) := by
  intro pins s σ H D I h
  refine wpAny_Assign_Name (thn (he pins s σ H _ I h) fun v s1 ⟨y, H1, I1, r1, q1⟩ => ?_) hs
  exact store_ok I1 hN hi hx r1 (fun s2 I2 => ⟨_, H1, I2, q1⟩) hf
def tPar (i j : Nat) (ta : TA) : TS := fun D σ H => ta σ H fun vs H1 => ∃ v w, vs = [v, w] ∧ D.nx ((σ.set i (some v)).set j (some w)) H1
theorem ps_par {i j : Nat} {x y : Str} {a b : Expr} {ta : TA} {px py pt : Pos} {kt k2 pt2} (hc : X.calm = true) (hN : X.N.Nodup) (hi : X.N[i]? = some x) (hj : X.N[j]? = some y) (hij : i ≠ j)
    (hx : X.env.scope.names.lookup x = some .local) (hy : X.env.scope.names.lookup y = some .local) (ha : PA X [a, b] ta)
    (hw : swappedStores [.Tuple [.Name x px, .Name y py] kt pt] (.Tuple [a, b] k2 pt2) X.env = pure (some [x, y]))
    (hs : swapsWithSole [.Tuple [.Name x px, .Name y py] kt pt] (.Tuple [a, b] k2 pt2) pos.line X.env = pure false := by rfl) :
    PS X (.Assign [.Tuple [.Name x px, .Name y py] kt pt] (.Tuple [a, b] k2 pt2) pos) (tPar i j ta) := by
  intro pins s σ H D I h
  rw [exec_Assign_arm]
  refine wpAny_bind (wpAny_standAt ?_)
  rw [hs]
  refine wpAny_bind (wpAny_pure ?_)
  rw [if_neg (by decide)]
  refine wpAny_bind (Tuple_ (thn (ha _ pins s σ H _ I h) fun us s1 ⟨vs, H1, I1, r1, q1⟩ => ?_))
  obtain ⟨v, w, e1, q1⟩ := q1
  subst e1
  obtain ⟨u1, u2, rfl, rv, rw'⟩ : ∃ u1 u2, us = [u1, u2] ∧ RelV v u1 ∧ RelV w u2 := by
    cases r1 with
    | cons p q =>
      cases q with
      | cons p' q' =>
        cases q'
        exact ⟨_, _, rfl, p, p'⟩
  refine wpAny_newObj_type ?_ (by show 2 ≤ sizeLine; decide)
  have I2 : Inv X pins σ H1 { s1 with heap := s1.heap.push { cls := .type "tuple", data := .seq [u1, u2].toArray } } := I1.kept (t' := s1.toks) fun b o e => Heap.get?_push_of_some _ e
  rw [hw]
  refine wpAny_bind (wpAny_pure ?_)
  show wpAny (model X.prog X.w) X.A (do rule "assign.swapped-stores"; let items ← unpackItems (.ref s1.heap.objs.size) 2 none; assignInOrder [fun v => bindName X.env y v, fun v => bindName X.env x v] items.reverse; pure Flow.next) _ _ _
  refine wpAny_bind (wpAny_rule (wpAny_bind (unpackItems_tuple (items := #[u1, u2]) (I.ok.hd hc) (IsTup.new s1.heap _) fun h' hx' => ?_)))
  have I3 := I2.kept (h' := h') (t' := s1.toks) fun b o e => hx' b o (Nat.ne_of_lt (Heap.lt_size e)) e
  show wpAny _ _ (assignInOrder [fun v => bindName X.env y v, fun v => bindName X.env x v] [u2, u1] >>= fun _ => pure Flow.next) _ _ _
  refine wpAny_bind (assignInOrder_cons (wpAny_bindName (store_ok I3 hN hj (.inl hy) rw' (fun s2 I4 => ?_) (.inr hy))))
  refine assignInOrder_cons (wpAny_bindName (store_ok I4 hN hi (.inl hx) rv (fun s3 I5 => assignInOrder_nil (wpAny_pure ?_)) (.inr hx)))
  rw [List.set_comm _ _ (Ne.symm hij)] at I5
  exact ⟨_, H1, I5, q1⟩
def tAug (i : Nat) (te : TE) (ti : TIp) : TS := fun D σ H => ∃ x, σ[i]? = some (some x) ∧ te σ H fun y H1 => ti x y H1 fun z H2 => D.nx (σ.set i (some z)) H2
theorem ps_aug {i : Nat} {x : Str} {e : Expr} {te : TE} {op : Operator} {ti : TIp} {pos' : Pos} (hN : X.N.Nodup) (hi : X.N[i]? = some x) (hx : Loc X.env.scope x) (he : PE X e te) (ho : PIp X op ti) (hf : X.fn x = true ∨ X.env.scope.names.lookup x = some .local := by first | exact .inl rfl | exact .inr rfl | assumption) :
    PS X (.AugAssign (.Name x pos') op e pos) (tAug i te ti) := by
  intro pins s σ H D I h
  obtain ⟨v, e1, h⟩ := h
  obtain ⟨m, hn, hl⟩ := I.loc
  have vis : Vis X.env.scope x := by rcases hx with k | k; exact .inl k; exact .inr (.inl k)
  obtain ⟨u, r, l⟩ := hl i x v hi e1 vis
  refine wpAny_AugAssign_Name ?_
  have go : wpAny (model X.prog X.w) X.A (eval e X.env) (fun w s₂ => wpAny (model X.prog X.w) X.A (inplaceOp op u w) (fun r s₃ => wpAny (model X.prog X.w) X.A (storeName X.env x r) (fun _ => SP X pins D .next) X.xe s₃) X.xe s₂) X.xe s := by
    refine thn (he pins s σ H _ I h) fun w s1 ⟨y, H1, I1, r1, q1⟩ => ?_
    refine thn (ho pins s1 σ H1 v y u w _ I1 r r1 q1) fun z s2 ⟨zv, H2, I2, r2, q2⟩ => ?_
    exact store_ok I2 hN hi hx r2 (fun s3 I3 => ⟨_, H2, I3, q2⟩) hf
  rcases l with ⟨hk, hm⟩ | ⟨hk, c, hc, hcell⟩
  · exact wpAny_loadName_local I.ok.kind hk hn hm go
  · rcases hk with hk | hk
    · exact wpAny_loadName_cell I.ok.kind hk hc hcell go
    · rcases hx with k | k
      · have : X.env.scope.names.lookup x = some .free := hk
        rw [k] at this; cases this
      · have : X.env.scope.names.lookup x = some .free := hk
        rw [k] at this; cases this
def ipI (f : Int → Int → Int) : TIp := fun x y H Q => ∃ i j, x = .int i ∧ y = .int j ∧ Q (.int (f i j)) H
theorem ip_add : PIp X .Add (ipI fun i j => i + j) := by
  intro pins s σ H x y v u Q I r1 r2 h
  obtain ⟨i, j, e1, e2, q⟩ := h
  subst e1; subst e2
  obtain ⟨t, rfl⟩ := r1
  obtain ⟨t', rfl⟩ := r2
  exact iadd_int ⟨.int _, H, I.tok _, ⟨_, rfl⟩, q⟩
end

section
variable {X : Cx} {pos : Pos}
def tWhile (c : TT) (tb : TS) : TS := fun D σ H => ∃ W : Nat → St → Hp → Prop, (∃ m, W m σ H) ∧ ∀ m σ H, W m σ H →
  c σ H fun b H1 => if b = true then ∃ N : St → Hp → Prop, (∀ σ' H', N σ' H' → ∃ m', m' < m ∧ W m' σ' H') ∧ tb { D with nx := N, ct := N, bk := D.nx } σ H1 else D.nx σ H1
theorem ps_while {c : Expr} {body : List Stmt} {tc : TT} {tb : TS} (hp : PassesOwn (model X.prog X.w) X.A X.env X.xe) (hc : PT X c tc) (hb : PSs X body tb) : PS X (.While c body [] pos) (tWhile tc tb) := by
  intro pins s σ H D I h
  obtain ⟨W, ⟨m0, w0⟩, turn⟩ := h
  refine wpAny_While (codeAny_whileLoop (fun n s' => ∃ σ' H', Inv X pins σ' H' s' ∧ W n σ' H') ?_ m0 ⟨σ, H, I, w0⟩)
  rintro n s1 ⟨σ1, H1, I1, w1⟩
  refine wpAny_passesOwn hp (thn (hc pins s1 σ1 H1 _ I1 (turn n σ1 H1 w1)) fun b s2 ⟨H2, I2, q2⟩ => ?_)
  cases b with
  | true =>
    obtain ⟨N, hN, q2⟩ := q2
    rw [if_pos rfl]
    refine wpAny_passesOwn hp (thn (hb pins s2 σ1 H2 _ I2 q2) fun f s3 q3 => ?_)
    cases f with
    | next =>
      obtain ⟨σ3, H3, I3, n3⟩ := q3
      obtain ⟨m', hm, w3⟩ := hN σ3 H3 n3
      exact ⟨m', hm, σ3, H3, I3, w3⟩
    | cont =>
      obtain ⟨σ3, H3, I3, n3⟩ := q3
      obtain ⟨m', hm, w3⟩ := hN σ3 H3 n3
      exact ⟨m', hm, σ3, H3, I3, w3⟩
    | brk => exact q3
    | ret v => exact q3
  | false =>
    rw [if_neg Bool.false_ne_true]
    exact wpAny_execs_nil ⟨σ1, H2, I2, q2⟩
end

structure It where
  go : Nat → Hp → Prop
  yld : Nat → Hp → V → Hp → Prop
  stop : Nat → Hp → Prop
def FpOk (X : Cx) (pins : List (Addr × Obj)) (H : Hp) (b : Addr) : Prop :=
  H b = none ∧ b ≠ X.env.locals ∧ b ∉ X.fs ∧ (b ∈ X.ex ∨ X.s_0.heap.objs.size ≤ b) ∧ (∀ x c, X.env.cells.lookup x = some c → c ≠ b) ∧ ∀ p ∈ X.pn ++ pins, p.1 ≠ b
theorem Inv.fpOk {X : Cx} {pins : List (Addr × Obj)} {σ : St} {H H' : Hp} {s : Shared} {b : Addr} (I : Inv X pins σ H s) (hb : s.heap.objs.size ≤ b) (hn : H' b = none) : FpOk X pins H' b := by
  refine ⟨hn, Nat.ne_of_gt (Nat.lt_of_lt_of_le I.lt hb), I.nofs hb, .inr (Nat.le_trans I.sz hb), fun x c e z => ?_, fun p hp z => ?_⟩
  · obtain ⟨v, q⟩ := I.cell x c e
    exact absurd (Nat.lt_of_lt_of_le q.lt (by rw [z]; exact hb)) (Nat.lt_irrefl _)
  · exact absurd (Nat.lt_of_lt_of_le (Heap.lt_size (I.pin p hp).1) (by rw [z]; exact hb)) (Nat.lt_irrefl _)
structure Turn (P : Program) (w : World) (K : PySem.W.Frag) (tg : Expr) (J : It) (fp : List Addr) (it : Addr) (tn : Nat → Heap → Prop) : Prop where
  mem : it ∈ fp
  obj : ∀ i h, tn i h → ∀ b ∈ fp, ∃ o, h.get? b = some o ∧ ∀ v, o.data ≠ .cell v
  keep : ∀ i h h', tn i h → (∀ b ∈ fp, ∀ o, h.get? b = some o → h'.get? b = some o) → tn i h'
  item : ∀ (X : Cx), X.prog = P → X.w = w → X.K = K → X.calm = true → ∀ (i : Nat) (pins : List (Addr × Obj)) (s : Shared) (σ : St) (H : Hp) (E : Value → Shared → Prop), Inv X pins σ H s → (∀ b ∈ fp, FpOk X pins H b) → tn i s.heap → J.go i H →
    wpAny (model P w) X.A (pyNext (.ref it)) (fun r s1 => ∃ u, r = some u ∧
      wpAny (model P w) X.A (letOwnedTupleGo tg (.ref it) u) (fun _ s2 => ∃ x H', Inv X pins σ H' s2 ∧ RelV x u ∧ J.yld i H x H' ∧ tn (i + 1) s2.heap ∧ ∀ b ∈ fp, H' b = none) E s1) E s
  done : ∀ (X : Cx), X.prog = P → X.w = w → X.K = K → X.calm = true → ∀ (i : Nat) (pins : List (Addr × Obj)) (s : Shared) (σ : St) (H : Hp) (E : Value → Shared → Prop), Inv X pins σ H s → (∀ b ∈ fp, FpOk X pins H b) → tn i s.heap → J.stop i H →
    wpAny (model P w) X.A (pyNext (.ref it)) (fun r s1 => r = none ∧ Inv X pins σ H s1) E s
  self : ∀ (A : Around) (i : Nat) (s : Shared) (Q : Value → Shared → Prop) (E : Value → Shared → Prop), tn i s.heap → Q (.ref it) s → wpAny (model P w) A (pyIter (.ref it)) Q E s
abbrev TI := St → Hp → (It → Hp → Prop) → Prop
def PIE (X : Cx) (pins : List (Addr × Obj)) (σ : St) (tg : Expr) (R : It → Hp → Prop) (itv : Value) (s2 : Shared) : Prop :=
  ∃ (it : Addr) (fp : List Addr) (tn : Nat → Heap → Prop) (J : It) (H' : Hp), itv = .ref it ∧ Inv X pins σ H' s2 ∧ Turn X.prog X.w X.K tg J fp it tn ∧ tn 0 s2.heap ∧ (∀ b ∈ fp, FpOk X pins H' b) ∧ R J H'
def PI (X : Cx) (tg iter : Expr) (wi : TI) : Prop :=
  ∀ (pins : List (Addr × Obj)) (s : Shared) (σ : St) (H : Hp) (R : It → Hp → Prop), Inv X pins σ H s → wi σ H R →
    wpAny (model X.prog X.w) X.A (eval iter X.env) (fun v s1 => wpAny (model X.prog X.w) X.A (pyIter v) (PIE X pins σ tg R) X.xe s1) X.xe s

theorem go_of {M : Model} {A : Around} {E : Value → Shared → Prop} {s : Shared} {tg : Expr} {it : Addr} {u : Value} {o : Obj} {n : String} {vs : Array Value} {Q : Unit → Shared → Prop} (ho : s.heap.get? it = some o) (hc : o.cls = .type n) (hd : o.data = .fields vs)
    (hn : ["enumerate", "zip", "dict_itemiterator", "dict_reverseitemiterator", "odict_iterator", "itertools.zip_longest", "itertools.pairwise"].contains n = false) (hQ : Q () s) : wpAny M A (letOwnedTupleGo tg (.ref it) u) Q E s := by
  unfold letOwnedTupleGo
  cases tg <;> first
    | exact wpAny_pure hQ
    | (cases u <;> first
        | exact wpAny_pure hQ
        | (refine wpAny_bind (wpAny_load ho ?_)
           rw [hc, hd]
           show wpAny M A (if (["enumerate", "zip", "dict_itemiterator", "dict_reverseitemiterator", "odict_iterator", "itertools.zip_longest", "itertools.pairwise"].contains n && vs[0]? == some (rawInt _)) = true then _ else _) Q E s
           rw [if_neg (by intro h; rw [hn, Bool.false_and] at h; cases h)]
           exact wpAny_pure hQ))

def Itl (K : PySem.W.Frag) (a : Addr) : It :=
  ⟨fun i H => ∃ xs x, SqL K H a xs ∧ xs[i]? = some x, fun i H x H' => H' = H ∧ ∀ xs, SqL K H a xs → xs[i]? = some x, fun i H => ∃ xs, SqL K H a xs ∧ xs.length ≤ i⟩
def Itr (lo : Int) (n : Nat) : It := ⟨fun i _ => i < n, fun i H x H' => H' = H ∧ x = .int (lo + i), fun i _ => n ≤ i⟩
theorem turn_list {P : Program} {w : World} {K : PySem.W.Frag} {tg : Expr} (a it : Addr) : Turn P w K tg (Itl K a) [it] it (fun i h => h.IsListIter it a i) where
  mem := by simp
  obj := fun i h st b hb => by
    have e : b = it := by simpa using hb
    subst e
    obtain ⟨o, e, c, d⟩ := st
    exact ⟨o, e, fun v z => by rw [d] at z; cases z⟩
  keep := fun i h h' st k => st.at fun o e => k it (by simp) o e
  item := by
    intro X hP hw hK hc i pins s σ H E I hf st hg
    subst hP hw hK
    obtain ⟨xs, x, hq, hx⟩ := hg
    obtain ⟨its, rv, p, hz⟩ := I.list hq
    obtain ⟨u, hu, ru⟩ := rv.get hx
    obtain ⟨f0, f1, f2, f3, f4, f5⟩ := hf it (by simp)
    refine wpAny_pyNext_list_item st p.isList (x := u) (by simpa using hu) fun h' st' sb => ?_
    have I1 : Inv X pins σ H { s with heap := h' } := I.turned (t' := s.toks) (fun b o hb e => (sb.2 b hb).trans e) f0 f1 f3 f4 f5
    obtain ⟨o, e, c, d⟩ := id st'
    exact ⟨u, rfl, go_of (s := { s with heap := h' }) e c d (by decide) ⟨x, H, I1, ru, ⟨rfl, fun ys hy => by rw [I.list_inj hy hq]; exact hx⟩, st', fun b hb => (hf b hb).1⟩⟩
  done := by
    intro X hP hw hK hc i pins s σ H E I hf st hg
    subst hP hw hK
    obtain ⟨xs, hq, hx⟩ := hg
    obtain ⟨its, rv, p, hz⟩ := I.list hq
    obtain ⟨f0, f1, f2, f3, f4, f5⟩ := hf it (by simp)
    have hl := rv.length
    exact wpAny_pyNext_list_end (I.ok.hd hc) st p.isList (by simp; omega) fun h' eb => ⟨rfl, I.turned (t' := s.toks) (fun b o hb e => eb b o hb e) f0 f1 f3 f4 f5⟩
  self := fun _ _ _ _ _ st h => wpAny_pyIter_listiter st h
theorem turn_range {P : Program} {w : World} {K : PySem.W.Frag} {tg : Expr} (it : Addr) (lo : Int) (n : Nat) : Turn P w K tg (Itr lo n) [it] it (fun i h => IsRangeIter h it (lo + (i : Nat) * 1) ((n : Int) - (i : Nat)) 1) where
  mem := by simp
  obj := fun i h st b hb => by
    have e : b = it := by simpa using hb
    subst e
    exact ⟨_, st, fun v z => by
      have z' : Data.fields _ = Data.cell v := z
      cases z'⟩
  keep := fun i h h' st k => k it (by simp) _ st
  item := by
    intro X hP hw hK hc i pins s σ H E I hf st hg
    subst hP hw hK
    obtain ⟨f0, f1, f2, f3, f4, f5⟩ := hf it (by simp)
    have W := Walks.range (prog := X.prog) (w := X.w) (I.ok.hd hc) it lo 1 n
    refine W.item i s _ _ hg st fun v h' tk hv st' kk => ?_
    obtain ⟨t, rfl⟩ := hv
    have I1 : Inv X pins σ H { s with heap := h', toks := tk } := I.turned (fun b o hb e => kk b o (by simpa using hb) e) f0 f1 f3 f4 f5
    refine ⟨_, rfl, go_of (s := { s with heap := h', toks := tk }) (n := "range_iterator") st' rfl rfl (by decide) ⟨.int (lo + i), H, I1, ⟨t, ?_⟩, ⟨rfl, rfl⟩, st', fun b hb => (hf b hb).1⟩⟩
    rw [Int.mul_one]
  done := by
    intro X hP hw hK hc i pins s σ H E I hf st hg
    subst hP hw hK
    obtain ⟨f0, f1, f2, f3, f4, f5⟩ := hf it (by simp)
    exact wpAny_pyNext_range_end (I.ok.hd hc) st (by have : n ≤ i := hg; omega) fun h' eb => ⟨rfl, I.turned (t' := s.toks) (fun b o hb e => eb b o hb e) f0 f1 f3 f4 f5⟩
  self := fun _ _ _ _ _ st h => wpAny_pyIter_rangeiter st h
end L2

namespace L2
open PySem PySem.Spec PyProof.Rows
section
variable {X : Cx} {tg : Expr}
def iList (K : PySem.W.Frag) (tl : TE) : TI := fun σ H R => tl σ H fun x H1 => ∃ a, x = .ref a ∧ (∃ xs, SqL K H1 a xs) ∧ R (Itl K a) H1
theorem pi_list {l : Expr} {tl : TE} (hl : PE X l tl) : PI X tg l (iList X.K tl) := by
  intro pins s σ H R I h
  refine thn (hl pins s σ H _ I h) fun v s1 ⟨x, H1, I1, r1, q1⟩ => ?_
  obtain ⟨a, e, ⟨xs, hq⟩, q⟩ := q1
  subst e
  cases r1
  obtain ⟨its, rv, p, hz⟩ := I1.list hq
  refine wpAny_pyIter_list p.isList ?_
  refine ⟨s1.heap.objs.size, [s1.heap.objs.size], _, _, H1, rfl, I1.kept (t' := s1.toks) fun b o e => Heap.get?_push_of_some _ e, turn_list a _, ⟨_, Heap.get?_push_size _ rfl, rfl, rfl⟩, fun b hb => ?_, q⟩
  have e : b = s1.heap.objs.size := by simpa using hb
  subst e
  exact I1.fpOk (Nat.le_refl _) (I1.hok.fresh (Nat.le_refl _))
theorem range_it {pins : List (Addr × Obj)} {σ : St} {H : Hp} {s : Shared} {R : It → Hp → Prop} {E : Value → Shared → Prop} {lo hi : Int} {t u v : Tok} {tk : Nat} (I : Inv X pins σ H s) (h1 : -(2 ^ 62) ≤ lo) (h2 : lo < 2 ^ 62) (h3 : -(2 ^ 62) ≤ hi) (h4 : hi < 2 ^ 62)
    (q : R (Itr lo (hi - lo).toNat) H) : wpAny (model X.prog X.w) X.A (pyIter (.ref s.heap.objs.size)) (PIE X pins σ tg R) E { s with heap := s.heap.push { cls := .type "range", data := .fields #[.int lo t, .int hi u, .int 1 v] }, toks := tk } := by
  refine wpAny_pyIter_range (IsRange.new ..) (small_one h1 h2 h3 h4) ?_
  have I1 : Inv X pins σ H { s with heap := s.heap.push { cls := .type "range", data := .fields #[.int lo t, .int hi u, .int 1 v] }, toks := tk } := I.kept fun b o e => Heap.get?_push_of_some _ e
  refine ⟨(s.heap.push { cls := .type "range", data := .fields #[.int lo t, .int hi u, .int 1 v] }).objs.size, [(s.heap.push { cls := .type "range", data := .fields #[.int lo t, .int hi u, .int 1 v] }).objs.size], _, _, H, rfl,
    I1.kept (t' := tk) fun b o e => Heap.get?_push_of_some _ e, turn_range _ lo (hi - lo).toNat, ?_, fun b hb => ?_, q⟩
  · have e1 : lo + ((0 : Nat) : Int) * 1 = lo := by simp
    have e2 : (((hi - lo).toNat : Nat) : Int) - ((0 : Nat) : Int) = Builtin.Range.rangeSize lo hi 1 := by rw [rangeSize_one]; split <;> omega
    show IsRangeIter _ _ (lo + ((0 : Nat) : Int) * 1) ((((hi - lo).toNat : Nat) : Int) - ((0 : Nat) : Int)) 1
    rw [e1, e2]
    exact Heap.get?_push_size _ rfl
  · have e : b = (s.heap.push { cls := .type "range", data := .fields #[.int lo t, .int hi u, .int 1 v] }).objs.size := by simpa using hb
    subst e
    exact I1.fpOk (Nat.le_refl _) (I1.hok.fresh (Nat.le_refl _))
def iRng1 (ta : TA) : TI := fun σ H R => ta σ H fun vs H1 => ∃ j : Int, vs = [.int j] ∧ -(2 ^ 62) ≤ j ∧ j < 2 ^ 62 ∧ R (Itr 0 j.toNat) H1
def iRng2 (ta : TA) : TI := fun σ H R => ta σ H fun vs H1 => ∃ i j : Int, vs = [.int i, .int j] ∧ (-(2 ^ 62) ≤ i ∧ i < 2 ^ 62 ∧ -(2 ^ 62) ≤ j ∧ j < 2 ^ 62) ∧ R (Itr i (j - i).toNat) H1
theorem pi_range1 {a : Expr} {ta : TA} {p pos : Pos} (hg : Gl X "range") (hm : X.mg "range" = none) (ha : PA X [a] ta) (hs : starEach [a] X.env = [(false, eval a X.env)] := by rfl) : PI X tg (.Call (.Name "range" p) [a] [] pos) (iRng1 ta) := by
  intro pins s σ H R I h
  refine Call_ (ld_blt I hg hm boot_range (PyProof.Rows.callWith_type1 (thn (ha pos pins s σ H _ I h) fun us s1 ⟨vs, H1, I1, r1, q1⟩ => ?_) hs rfl))
  obtain ⟨j, e, q1, q2, q⟩ := q1
  subst e
  cases r1 with
  | cons r rr =>
    cases rr
    obtain ⟨t, rfl⟩ := r
    exact call_range_1 (range_it I1 (by omega) (by omega) q1 q2 (by simpa using q))
theorem pi_range2 {a b : Expr} {ta : TA} {p pos : Pos} (hg : Gl X "range") (hm : X.mg "range" = none) (ha : PA X [a, b] ta) (hs : starEach [a, b] X.env = [(false, eval a X.env), (false, eval b X.env)] := by rfl) (hs2 : starEach [b] X.env = [(false, eval b X.env)] := by rfl) :
    PI X tg (.Call (.Name "range" p) [a, b] [] pos) (iRng2 ta) := by
  intro pins s σ H R I h
  refine Call_ (ld_blt I hg hm boot_range (PyProof.Rows.callWith_type1 (thn (ha pos pins s σ H _ I h) fun us s1 ⟨vs, H1, I1, r1, q1⟩ => ?_) (by rw [hs, hs2]) (by rw [hs2]; rfl)))
  obtain ⟨i, j, e, ⟨q1, q2, q3, q4⟩, q⟩ := q1
  subst e
  cases r1 with
  | cons r rr =>
    cases rr with
    | cons r' rr =>
      cases rr
      obtain ⟨t, rfl⟩ := r
      obtain ⟨t', rfl⟩ := r'
      exact call_range_2 (range_it I1 q1 q2 q3 q4 q)

def tFor (wi : TI) (g : TG) (tb : TS) : TS := fun D σ H => wi σ H fun J H1 => ∃ W : Nat → Nat → St → Hp → Prop, (∃ m, W 0 m σ H1) ∧ ∀ i m σ H, W i m σ H →
  (J.stop i H ∧ D.nx σ H) ∨ (J.go i H ∧ ∃ N : St → Hp → Prop, (∀ σ' H', N σ' H' → ∃ m', m' < m ∧ W (i + 1) m' σ' H') ∧ ∀ x H', J.yld i H x H' → g x σ H' fun σ2 H2 => tb { D with nx := N, ct := N, bk := D.nx } σ2 H2)
def pinsAt (fp : List Addr) (h : Heap) : List (Addr × Obj) := fp.filterMap fun b => (h.get? b).map fun o => (b, o)
theorem mem_pinsAt {fp : List Addr} {h : Heap} {b : Addr} {o : Obj} (hb : b ∈ fp) (e : h.get? b = some o) : (b, o) ∈ pinsAt fp h := List.mem_filterMap.mpr ⟨b, hb, by rw [e]; rfl⟩
theorem of_pinsAt {fp : List Addr} {h : Heap} {p : Addr × Obj} (hp : p ∈ pinsAt fp h) : p.1 ∈ fp ∧ h.get? p.1 = some p.2 := by
  obtain ⟨b, hb, e⟩ := List.mem_filterMap.mp hp
  cases q : h.get? b with
  | none => rw [q] at e; cases e
  | some o =>
    rw [q] at e
    have e' : (b, o) = p := Option.some.inj e
    subst e'
    exact ⟨hb, q⟩
theorem Inv.pinned {pins : List (Addr × Obj)} {σ : St} {H : Hp} {s : Shared} {fp : List Addr} (I : Inv X pins σ H s) (hf : ∀ b ∈ fp, FpOk X pins H b) (ho : ∀ b ∈ fp, ∃ o, s.heap.get? b = some o ∧ ∀ v, o.data ≠ .cell v) : Inv X (pins ++ pinsAt fp s.heap) σ H s :=
  I.pins_of fun p hp => (List.mem_append.mp hp).elim (fun z => I.pin p (List.mem_append_right _ z)) fun z => by
    obtain ⟨hb, e⟩ := of_pinsAt z
    obtain ⟨f0, f1, f2, _⟩ := hf p.1 hb
    obtain ⟨o, e', d⟩ := ho p.1 hb
    rw [e] at e'; cases e'
    exact ⟨e, f0, f1, f2, d⟩
theorem Inv.unpinned {pins pl : List (Addr × Obj)} {σ : St} {H : Hp} {s : Shared} (I : Inv X (pins ++ pl) σ H s) : Inv X pins σ H s := I.pins_of fun p hp => I.pin p (List.mem_append_right _ (List.mem_append_left _ hp))
theorem ps_for {iter : Expr} {body : List Stmt} {wi : TI} {g : TG} {tb : TS} {pos : Pos} (hp : PassesOwn (model X.prog X.w) X.A X.env X.xe) (hc : X.calm = true) (hi : PI X tg iter wi) (hg : PG X tg g) (hb : PSs X body tb)
    (hs : ∀ x, foldedSetIterable iter X.env x = pure x := by intro _; rfl) : PS X (.For tg iter body [] pos) (tFor wi g tb) := by
  intro pins s σ H D I h
  refine wpAny_For (thn (hi pins s σ H _ I h) fun v s1 h1 => thn h1 fun itv s2 h2 => ?_) hs
  obtain ⟨it, fp, tn, J, H2, e, I2, T, st2, f2, W, ⟨m0, w0⟩, turn⟩ := h2
  subst e
  have stat : ∀ {H' : Hp}, (∀ b ∈ fp, H' b = none) → ∀ b ∈ fp, FpOk X pins H' b := fun hn b hb => ⟨hn b hb, (f2 b hb).2⟩
  refine codeAny_forLoop_any (fun n s' => ∃ i σ' H', Inv X pins σ' H' s' ∧ tn i s'.heap ∧ (∀ b ∈ fp, H' b = none) ∧ W i n σ' H') ?_ m0 ⟨0, σ, H2, I2, st2, fun b hb => (f2 b hb).1, w0⟩
  rintro n s3 ⟨i, σ3, H3, I3, st3, fr3, w3⟩
  rcases turn i n σ3 H3 w3 with ⟨stop, qn⟩ | ⟨go, N, hN, step⟩
  · refine wpAny_passesOwn hp (thn (T.done X rfl rfl rfl hc i pins s3 σ3 H3 X.xe I3 (stat fr3) st3 stop) fun r s4 ⟨hr, I4⟩ => ?_)
    subst hr
    exact wpAny_execs_nil ⟨σ3, H3, I4, qn⟩
  · refine wpAny_passesOwn hp (thn (T.item X rfl rfl rfl hc i pins s3 σ3 H3 X.xe I3 (stat fr3) st3 go) fun r s4 ⟨u, hr, h4⟩ => ?_)
    subst hr
    refine wpAny_passesOwn hp (thn h4 fun _ s5 ⟨x, H5, I5, r5, y5, st5, fr5⟩ => ?_)
    have I5' := I5.pinned (stat fr5) (T.obj _ _ st5)
    refine wpAny_passesOwn hp (thn (hg _ s5 σ3 H5 x u _ I5' r5 (step x H5 y5)) fun _ s6 ⟨σ6, H6, I6, q6⟩ => ?_)
    refine wpAny_passesOwn hp (thn (hb _ s6 σ6 H6 _ I6 q6) fun f s7 q7 => ?_)
    have again : ∀ {σ7 : St} {H7 : Hp}, Inv X (pins ++ pinsAt fp s5.heap) σ7 H7 s7 → N σ7 H7 → ∃ m, m < n ∧ ∃ i σ' H', Inv X pins σ' H' s7 ∧ tn i s7.heap ∧ (∀ b ∈ fp, H' b = none) ∧ W i m σ' H' := fun {σ7 H7} I7 n7 => by
      obtain ⟨m', hm, w7⟩ := hN σ7 H7 n7
      refine ⟨m', hm, i + 1, σ7, H7, I7.unpinned, T.keep _ _ _ st5 fun b hb o e => (I7.pin (b, o) (List.mem_append_right _ (List.mem_append_right _ (mem_pinsAt hb e)))).1, fun b hb => ?_, w7⟩
      obtain ⟨o, e, d⟩ := T.obj _ _ st5 b hb
      exact (I7.pin (b, o) (List.mem_append_right _ (List.mem_append_right _ (mem_pinsAt hb e)))).2.1
    cases f with
    | next => obtain ⟨σ7, H7, I7, n7⟩ := q7; exact again I7 n7
    | cont => obtain ⟨σ7, H7, I7, n7⟩ := q7; exact again I7 n7
    | brk => obtain ⟨σ7, H7, I7, q7⟩ := q7; exact ⟨σ7, H7, I7.unpinned, q7⟩
    | ret v => obtain ⟨x7, σ7, H7, I7, r7, q7⟩ := q7; exact ⟨x7, σ7, H7, I7.unpinned, r7, q7⟩
end

theorem for_list {K : PySem.W.Frag} {a : Addr} {xs : List V} {g : TG} {tb : TS} {D : Ends} {σ : St} {H : Hp} (Pv : Nat → St → Hp → Prop) (h0 : Pv 0 σ H) (hl : ∀ i σ H, i ≤ xs.length → Pv i σ H → SqL K H a xs)
    (hs : ∀ i x σ H, xs[i]? = some x → Pv i σ H → g x σ H fun σ2 H2 => tb { D with nx := Pv (i + 1), ct := Pv (i + 1), bk := D.nx } σ2 H2) (hd : ∀ σ H, Pv xs.length σ H → D.nx σ H) :
    ∃ W : Nat → Nat → St → Hp → Prop, (∃ m, W 0 m σ H) ∧ ∀ i m σ H, W i m σ H →
      ((Itl K a).stop i H ∧ D.nx σ H) ∨ ((Itl K a).go i H ∧ ∃ N : St → Hp → Prop, (∀ σ' H', N σ' H' → ∃ m', m' < m ∧ W (i + 1) m' σ' H') ∧ ∀ x H', (Itl K a).yld i H x H' → g x σ H' fun σ2 H2 => tb { D with nx := N, ct := N, bk := D.nx } σ2 H2) := by
  refine ⟨fun i m σ H => m = xs.length - i ∧ i ≤ xs.length ∧ Pv i σ H, ⟨xs.length, by simp, Nat.zero_le _, h0⟩, ?_⟩
  rintro i m σ H ⟨rfl, hi, p⟩
  have q := hl i σ H hi p
  by_cases hlt : i < xs.length
  · refine .inr ⟨⟨xs, xs[i], q, by simp [hlt]⟩, Pv (i + 1), fun σ' H' p' => ⟨xs.length - (i + 1), by omega, rfl, hlt, p'⟩, fun x H' y => ?_⟩
    obtain ⟨e, y⟩ := y
    subst e
    exact hs i x σ _ (y xs q) p
  · have e : i = xs.length := by omega
    subst e
    exact .inl ⟨⟨xs, q, Nat.le_refl _⟩, hd σ H p⟩
theorem for_range {lo : Int} {n : Nat} {g : TG} {tb : TS} {D : Ends} {σ : St} {H : Hp} (Pv : Nat → St → Hp → Prop) (h0 : Pv 0 σ H)
    (hs : ∀ i σ H, i < n → Pv i σ H → g (.int (lo + i)) σ H fun σ2 H2 => tb { D with nx := Pv (i + 1), ct := Pv (i + 1), bk := D.nx } σ2 H2) (hd : ∀ σ H, Pv n σ H → D.nx σ H) :
    ∃ W : Nat → Nat → St → Hp → Prop, (∃ m, W 0 m σ H) ∧ ∀ i m σ H, W i m σ H →
      ((Itr lo n).stop i H ∧ D.nx σ H) ∨ ((Itr lo n).go i H ∧ ∃ N : St → Hp → Prop, (∀ σ' H', N σ' H' → ∃ m', m' < m ∧ W (i + 1) m' σ' H') ∧ ∀ x H', (Itr lo n).yld i H x H' → g x σ H' fun σ2 H2 => tb { D with nx := N, ct := N, bk := D.nx } σ2 H2) := by
  refine ⟨fun i m σ H => m = n - i ∧ i ≤ n ∧ Pv i σ H, ⟨n, by simp, Nat.zero_le _, h0⟩, ?_⟩
  rintro i m σ H ⟨rfl, hi, p⟩
  by_cases hlt : i < n
  · refine .inr ⟨hlt, Pv (i + 1), fun σ' H' p' => ⟨n - (i + 1), by omega, rfl, hlt, p'⟩, fun x H' y => ?_⟩
    obtain ⟨e, y⟩ := y
    subst e y
    exact hs i σ _ hlt p
  · have e : i = n := by omega
    subst e
    exact .inl ⟨Nat.le_refl _, hd σ H p⟩
theorem while_by {c : TT} {tb : TS} {D : Ends} {σ : St} {H : Hp} (Pv : St → Hp → Prop) (μ : St → Hp → Nat) (h0 : Pv σ H)
    (hs : ∀ σ H, Pv σ H → c σ H fun b H1 => if b = true then tb { D with nx := fun σ' H' => Pv σ' H' ∧ μ σ' H' < μ σ H, ct := fun σ' H' => Pv σ' H' ∧ μ σ' H' < μ σ H, bk := D.nx } σ H1 else D.nx σ H1)
    (mono : ∀ σ H Q Q', (∀ b H1, Q b H1 → Q' b H1) → c σ H Q → c σ H Q') : tWhile c tb D σ H := by
  refine ⟨fun m σ H => m = μ σ H ∧ Pv σ H, ⟨_, rfl, h0⟩, ?_⟩
  rintro m σ H ⟨rfl, p⟩
  refine mono σ H _ _ (fun b H1 q => ?_) (hs σ H p)
  cases b with
  | true => exact ⟨_, fun σ' H' ⟨p', l⟩ => ⟨_, l, rfl, p'⟩, q⟩
  | false => exact q
end L2

namespace L2
open PySem PySem.Spec PyProof.Rows

abbrev R2 := V → V → Hp → VK → Prop
def OpR (X : Cx) (f : Value → Value → Sem Value) (r : R2) : Prop :=
  ∀ (pins : List (Addr × Obj)) (s : Shared) (σ : St) (H : Hp) (x y : V) (v u : Value) (Q : VK), Inv X pins σ H s → RelV x v → RelV y u → r x y H Q →
    wpAny (model X.prog X.w) X.A (f v u) (EP X pins σ Q) X.xe s
def UnR (X : Cx) (f : Value → Sem Value) (r : V → Hp → VK → Prop) : Prop :=
  ∀ (pins : List (Addr × Obj)) (s : Shared) (σ : St) (H : Hp) (x : V) (v : Value) (Q : VK), Inv X pins σ H s → RelV x v → r x H Q →
    wpAny (model X.prog X.w) X.A (f v) (EP X pins σ Q) X.xe s
def CallR (X : Cx) (f : Value) (r : List V → Hp → VK → Prop) : Prop :=
  ∀ (pins : List (Addr × Obj)) (s : Shared) (σ : St) (H : Hp) (xs : List V) (us : List Value) (Q : VK), Inv X pins σ H s → Vals xs us → r xs H Q →
    wpAny (model X.prog X.w) X.A (call f us) (EP X pins σ Q) X.xe s
def TruR (X : Cx) (r : V → Hp → (Bool → Hp → Prop) → Prop) : Prop :=
  ∀ (pins : List (Addr × Obj)) (s : Shared) (σ : St) (H : Hp) (x : V) (v : Value) (Q : Bool → Hp → Prop), Inv X pins σ H s → RelV x v → r x H Q →
    wpAny (model X.prog X.w) X.A (truthy v) (TP X pins σ Q) X.xe s

def tOp (r : R2) (ta tb : TE) : TE := fun σ H Q => ta σ H fun x H1 => tb σ H1 fun y H2 => r x y H2 Q
def tUn (r : V → Hp → VK → Prop) (ta : TE) : TE := fun σ H Q => ta σ H fun x H1 => r x H1 Q
def rI (C : Int → Int → Prop) (g : Int → Int → V) : R2 := fun x y H Q => ∃ i j, x = .int i ∧ y = .int j ∧ C i j ∧ Q (g i j) H
def rI0 (g : Int → Int → V) : R2 := fun x y H Q => ∃ i j, x = .int i ∧ y = .int j ∧ Q (g i j) H
def rU (g : Int → V) : V → Hp → VK → Prop := fun x H Q => ∃ i, x = .int i ∧ Q (g i) H

section
variable {X : Cx} {a b c : Expr} {ta tb tc : TE} {pos : Pos}

theorem binT (ha : PE X a ta) (hb : PE X b tb) {pins : List (Addr × Obj)} {s : Shared} {σ : St} {H : Hp} {R : V → V → Hp → Prop} (I : Inv X pins σ H s)
    (h : ta σ H fun x H1 => tb σ H1 fun y H2 => R x y H2) {Q : Value → Shared → Prop} {f : Value → Value → Sem Value}
    (hf : ∀ v u s2 x y H2, Inv X pins σ H2 s2 → RelV x v → RelV y u → R x y H2 → wpAny (model X.prog X.w) X.A (f v u) Q X.xe s2) :
    wpAny (model X.prog X.w) X.A (eval a X.env) (fun v s₁ => wpAny (model X.prog X.w) X.A (eval b X.env) (fun u s₂ => wpAny (model X.prog X.w) X.A (f v u) Q X.xe s₂) X.xe s₁) X.xe s := by
  refine thn (ha pins s σ H _ I h) fun v s1 ⟨x, H1, I1, r1, q1⟩ => ?_
  refine thn (hb pins s1 σ H1 _ I1 q1) fun u s2 ⟨y, H2, I2, r2, q2⟩ => ?_
  exact hf v u s2 x y H2 I2 r1 r2 q2

theorem pe_op {op : Operator} {r : R2} (ho : OpR X (binaryOp op) r) (ha : PE X a ta) (hb : PE X b tb) : PE X (.BinOp a op b pos) (tOp r ta tb) := by
  intro pins s σ H Q I h
  exact wpAny_BinOp (binT ha hb I h fun v u s2 x y H2 I2 rx ry q => ho pins s2 σ H2 x y v u Q I2 rx ry q)
theorem pe_un {op : UnaryOp} {r : V → Hp → VK → Prop} (ho : UnR X (unaryOp op) r) (ha : PE X a ta) : PE X (.UnaryOp op a pos) (tUn r ta) := by
  intro pins s σ H Q I h
  exact UnaryOp_ (thn (ha pins s σ H _ I h) fun v s1 ⟨x, H1, I1, r1, q1⟩ => ho pins s1 σ H1 x v Q I1 r1 q1)
theorem opI {f : Value → Value → Sem Value} {C : Int → Int → Prop} {g : Int → Int → Int}
    (rule : ∀ (i j : Int) (t u : Tok) (s : Shared) (Q : Value → Shared → Prop) (E : Value → Shared → Prop), C i j → Q (.int (g i j) s.toks) { s with toks := s.toks + 1 } → wpAny (model X.prog X.w) X.A (f (.int i t) (.int j u)) Q E s) :
    OpR X f (rI C fun i j => .int (g i j)) := by
  intro pins s σ H x y v u Q I rx ry h
  obtain ⟨i, j, rfl, rfl, hc, q⟩ := h
  obtain ⟨t, rfl⟩ := rx
  obtain ⟨t', rfl⟩ := ry
  exact rule i j t t' s _ _ hc ⟨.int (g i j), H, I.tok _, ⟨_, rfl⟩, q⟩
theorem opI0 {f : Value → Value → Sem Value} {g : Int → Int → Int}
    (rule : ∀ (i j : Int) (t u : Tok) (s : Shared) (Q : Value → Shared → Prop) (E : Value → Shared → Prop), Q (.int (g i j) s.toks) { s with toks := s.toks + 1 } → wpAny (model X.prog X.w) X.A (f (.int i t) (.int j u)) Q E s) :
    OpR X f (rI0 fun i j => .int (g i j)) := by
  intro pins s σ H x y v u Q I rx ry h
  obtain ⟨i, j, rfl, rfl, q⟩ := h
  obtain ⟨t, rfl⟩ := rx
  obtain ⟨t', rfl⟩ := ry
  exact rule i j t t' s _ _ ⟨.int (g i j), H, I.tok _, ⟨_, rfl⟩, q⟩
theorem opB0 {f : Value → Value → Sem Value} {g : Int → Int → Bool}
    (rule : ∀ (i j : Int) (t u : Tok) (s : Shared) (Q : Value → Shared → Prop) (E : Value → Shared → Prop), Q (.bool (g i j)) s → wpAny (model X.prog X.w) X.A (f (.int i t) (.int j u)) Q E s) :
    OpR X f (rI0 fun i j => .bl (g i j)) := by
  intro pins s σ H x y v u Q I rx ry h
  obtain ⟨i, j, rfl, rfl, q⟩ := h
  obtain ⟨t, rfl⟩ := rx
  obtain ⟨t', rfl⟩ := ry
  exact rule i j t t' s _ _ ⟨.bl (g i j), H, I, rfl, q⟩

def CDiv (i j : Int) : Prop := 0 < j ∧ j < 1073741824
def CPow (i j : Int) : Prop := 0 ≤ j ∧ j ≤ 1000000 ∧ i.natAbs < 2 ^ 64
def CMul (i j : Int) : Prop := (-(2 ^ 64) < i ∧ i < 2 ^ 64) ∨ (-(2 ^ 64) < j ∧ j < 2 ^ 64)
theorem CMul.ok {i j : Int} (h : CMul i j) : IntMulOk i j := by
  rcases h with ⟨h1, h2⟩ | ⟨h1, h2⟩
  · exact .of_left (intBits_le_64 h1 h2)
  · exact .of_right (intBits_le_64 h1 h2)
theorem op_add : OpR X (binaryOp .Add) (rI0 fun i j => .int (i + j)) := opI0 fun _ _ _ _ _ _ _ q => add_int q
theorem op_sub : OpR X (binaryOp .Sub) (rI0 fun i j => .int (i - j)) := opI0 fun _ _ _ _ _ _ _ q => sub_int q
theorem op_fdiv : OpR X (binaryOp .FloorDiv) (rI CDiv fun i j => .int (i / j)) := opI fun i j _ _ _ _ _ hc q => by
  have h1 : (0 : Int) < j := hc.1
  have h2 : j < 1073741824 := hc.2
  exact floordiv_int (by omega) (by rw [Int.fdiv_eq_ediv_of_nonneg i (by omega)]; exact q) (.inl (PyProof.noPylong_small (by omega)))
theorem op_mod : OpR X (binaryOp .Mod) (rI (fun _ j => 0 < j) fun i j => .int (i % j)) := opI fun i j _ _ _ _ _ hc q => by
  have h1 : (0 : Int) < j := hc
  exact mod_int' (by omega) (by rw [Int.fmod_eq_emod_of_nonneg i (by omega)]; exact q)
theorem op_pow : OpR X (binaryOp .Pow) (rI CPow fun i j => .int (i ^ j.toNat)) := opI fun _ _ _ _ _ _ _ hc q => pow_int_small hc.1 hc.2.1 hc.2.2 q
theorem unI {f : Value → Sem Value} {g : Int → Int}
    (rule : ∀ (i : Int) (t : Tok) (s : Shared) (Q : Value → Shared → Prop) (E : Value → Shared → Prop), Q (.int (g i) s.toks) { s with toks := s.toks + 1 } → wpAny (model X.prog X.w) X.A (f (.int i t)) Q E s) :
    UnR X f (rU fun i => .int (g i)) := by
  intro pins s σ H x v Q I rx h
  obtain ⟨i, rfl, q⟩ := h
  obtain ⟨t, rfl⟩ := rx
  exact rule i t s _ _ ⟨.int (g i), H, I.tok _, ⟨_, rfl⟩, q⟩
theorem un_neg : UnR X (unaryOp .USub) (rU fun i => .int (-i)) := unI fun _ _ _ _ _ q => neg_int q
end

def scal : V → V → Bool
  | .non, .non => true | .non, .int _ => true | .int _, .non => true | .non, .bl _ => true | .bl _, .non => true | .non, .str _ => true | .str _, .non => true
  | .int _, .int _ => true | .bl _, .bl _ => true | .str _, .str _ => true | .byt _, .byt _ => true
  | .int _, .str _ => true | .str _, .int _ => true | .bl _, .str _ => true | .str _, .bl _ => true
  | _, _ => false
def rEq : R2 := fun x y H Q => scal x y = true ∧ Q (.bl (decide (x = y))) H
def rNe : R2 := fun x y H Q => scal x y = true ∧ Q (.bl (!decide (x = y))) H

theorem dec_int {i j : Int} : decide (V.int i = V.int j) = (i == j) := by
  rw [Bool.eq_iff_iff]
  simp
theorem dec_bl {i j : Bool} : decide (V.bl i = V.bl j) = (i == j) := by
  rw [Bool.eq_iff_iff]
  simp
theorem dec_str {i j : Str} : decide (V.str i = V.str j) = (i == j) := by
  rw [Bool.eq_iff_iff]
  simp
theorem dec_byt {i j : Array UInt8} : decide (V.byt i = V.byt j) = (i.toList == j.toList) := by
  rw [Bool.eq_iff_iff]
  cases i
  cases j
  simp

section
variable {X : Cx} {a b c : Expr} {ta tb tc : TE} {pos : Pos}
theorem fin_bl {pins : List (Addr × Obj)} {σ : St} {H : Hp} {s : Shared} {Q : VK} {k k' : Bool} (I : Inv X pins σ H s) (q : Q (.bl k) H) (e : k = k') : EP X pins σ Q (.bool k') s := by
  subst e
  exact ⟨.bl k, H, I, rfl, q⟩
theorem op_eq : OpR X (compareOp .Eq) rEq := by
  intro pins s σ H x y v u Q I rx ry h
  obtain ⟨hs, q⟩ := h
  cases x with
  | non =>
    cases rx
    cases y with
    | non => cases ry; exact PySem.EqNone.eq_none_none (fin_bl I q (by simp))
    | bl j => cases ry; exact PySem.EqNone.eq_none_bool (fin_bl I q (by simp))
    | int j => obtain ⟨t', rfl⟩ := ry; exact PySem.EqNone.eq_none_int (fin_bl I q (by simp))
    | str j => obtain ⟨t', rfl⟩ := ry; exact PySem.EqNone.eq_none_str (fin_bl I q (by simp))
    | _ => exact absurd (show false = true from hs) Bool.false_ne_true
  | bl i =>
    cases rx
    cases y with
    | non => cases ry; exact PySem.EqNone.eq_bool_none (fin_bl I q (by simp))
    | bl j => cases ry; exact eq_bool (fin_bl I q dec_bl)
    | str j => obtain ⟨t', rfl⟩ := ry; exact PySem.EqMixed.eq_bool_str (fin_bl I q (by simp))
    | _ => exact absurd (show false = true from hs) Bool.false_ne_true
  | int i =>
    obtain ⟨t, rfl⟩ := rx
    cases y with
    | non => cases ry; exact PySem.EqNone.eq_int_none (fin_bl I q (by simp))
    | int j => obtain ⟨t', rfl⟩ := ry; exact eq_int (fin_bl I q dec_int)
    | str j => obtain ⟨t', rfl⟩ := ry; exact PySem.EqMixed.eq_int_str (fin_bl I q (by simp))
    | _ => exact absurd (show false = true from hs) Bool.false_ne_true
  | str i =>
    obtain ⟨t, rfl⟩ := rx
    cases y with
    | non => cases ry; exact PySem.EqNone.eq_str_none (fin_bl I q (by simp))
    | bl j => cases ry; exact PySem.EqMixed.eq_str_bool (fin_bl I q (by simp))
    | int j => obtain ⟨t', rfl⟩ := ry; exact PySem.EqMixed.eq_str_int (fin_bl I q (by simp))
    | str j => obtain ⟨t', rfl⟩ := ry; exact eq_str (fin_bl I q dec_str)
    | _ => exact absurd (show false = true from hs) Bool.false_ne_true
  | byt i =>
    obtain ⟨t, rfl⟩ := rx
    cases y with
    | byt j => obtain ⟨t', rfl⟩ := ry; exact PySem.W.eq_bytes (fin_bl I q dec_byt)
    | _ => exact absurd (show false = true from hs) Bool.false_ne_true
  | _ => cases y <;> exact absurd (show false = true from hs) Bool.false_ne_true
theorem op_ne : OpR X (compareOp .NotEq) rNe := by
  intro pins s σ H x y v u Q I rx ry h
  obtain ⟨hs, q⟩ := h
  cases x with
  | non =>
    cases rx
    cases y with
    | non => cases ry; exact PySem.EqNone.ne_none_none (fin_bl I q (by simp))
    | bl j => cases ry; exact PySem.EqNone.ne_none_bool (fin_bl I q (by simp))
    | int j => obtain ⟨t', rfl⟩ := ry; exact PySem.EqNone.ne_none_int (fin_bl I q (by simp))
    | str j => obtain ⟨t', rfl⟩ := ry; exact PySem.EqNone.ne_none_str (fin_bl I q (by simp))
    | _ => exact absurd (show false = true from hs) Bool.false_ne_true
  | bl i =>
    cases rx
    cases y with
    | non => cases ry; exact PySem.EqNone.ne_bool_none (fin_bl I q (by simp))
    | bl j => cases ry; exact ne_bool (fin_bl I q (congrArg not dec_bl))
    | str j => obtain ⟨t', rfl⟩ := ry; exact PySem.EqMixed.ne_bool_str (fin_bl I q (by simp))
    | _ => exact absurd (show false = true from hs) Bool.false_ne_true
  | int i =>
    obtain ⟨t, rfl⟩ := rx
    cases y with
    | non => cases ry; exact PySem.EqNone.ne_int_none (fin_bl I q (by simp))
    | int j => obtain ⟨t', rfl⟩ := ry; exact ne_int (fin_bl I q (congrArg not dec_int))
    | str j => obtain ⟨t', rfl⟩ := ry; exact PySem.EqMixed.ne_int_str (fin_bl I q (by simp))
    | _ => exact absurd (show false = true from hs) Bool.false_ne_true
  | str i =>
    obtain ⟨t, rfl⟩ := rx
    cases y with
    | non => cases ry; exact PySem.EqNone.ne_str_none (fin_bl I q (by simp))
    | bl j => cases ry; exact PySem.EqMixed.ne_str_bool (fin_bl I q (by simp))
    | int j => obtain ⟨t', rfl⟩ := ry; exact PySem.EqMixed.ne_str_int (fin_bl I q (by simp))
    | str j => obtain ⟨t', rfl⟩ := ry; exact ne_str (fin_bl I q (congrArg not dec_str))
    | _ => exact absurd (show false = true from hs) Bool.false_ne_true
  | byt i =>
    obtain ⟨t, rfl⟩ := rx
    cases y with
    | byt j => obtain ⟨t', rfl⟩ := ry; exact PySem.W.ne_bytes (fin_bl I q (congrArg not dec_byt))
    | _ => exact absurd (show false = true from hs) Bool.false_ne_true
  | _ => cases y <;> exact absurd (show false = true from hs) Bool.false_ne_true

theorem op_lt : OpR X (compareOp .Lt) (rI0 fun i j => .bl (decide (i < j))) := opB0 fun _ _ _ _ _ _ _ q => lt_int q
theorem op_le : OpR X (compareOp .LtE) (rI0 fun i j => .bl (decide (i ≤ j))) := opB0 fun _ _ _ _ _ _ _ q => le_int q
theorem op_gt : OpR X (compareOp .Gt) (rI0 fun i j => .bl (decide (j < i))) := opB0 fun _ _ _ _ _ _ _ q => gt_int q
theorem op_ge : OpR X (compareOp .GtE) (rI0 fun i j => .bl (decide (j ≤ i))) := opB0 fun _ _ _ _ _ _ _ q => ge_int q
theorem op_notN : OpR X (compareOp .IsNot) (fun x y H Q => y = .non ∧ Q (.bl (!decide (x = .non))) H) := by
  intro pins s σ H x y v u Q I rx ry h
  obtain ⟨rfl, q⟩ := h
  cases ry
  refine isnot_none_gen (fin_bl I q ?_)
  cases x <;> first
    | (cases rx; rfl)
    | (obtain ⟨t, rfl⟩ := rx; rfl)

theorem nomark (b : Expr) {op : CmpOp} (h : op ≠ .In := by decide) (h2 : op ≠ .NotIn := by decide) : behindInMarks op b = false := by
  have e1 : (op == CmpOp.In) = false := by cases op <;> first | rfl | exact absurd rfl h
  have e2 : (op == CmpOp.NotIn) = false := by cases op <;> first | rfl | exact absurd rfl h2
  cases b <;> simp [behindInMarks, e1, e2]
theorem pe_cmpR {op : CmpOp} {r : R2} (ho : OpR X (compareOp op) r) (ha : PE X a ta) (hb : PE X b tb) (hm : behindInMarks op b = false) : PE X (.Compare a [op] [b] pos) (tOp r ta tb) := by
  intro pins s σ H Q I h
  exact wpAny_Compare1 (binT ha hb I h fun v u s2 x y H2 I2 rx ry q => ho pins s2 σ H2 x y v u Q I2 rx ry q) hm
def tTest (t : TE) : TT := fun σ H Q => t σ H fun x H' => ∃ k, x = .bl k ∧ Q k H'
theorem pt_cmpR {op : CmpOp} {r : R2} (ho : OpR X (compareOp op) r) (ha : PE X a ta) (hb : PE X b tb) (hm : behindInMarks op b = false) : PT X (.Compare a [op] [b] pos) (tTest (tOp r ta tb)) := by
  intro pins s σ H Q I h
  refine wpAny_isTrue_Compare1 (thn (ha pins s σ H _ I h) fun v s1 ⟨x, H1, I1, r1, q1⟩ => thn (hb pins s1 σ H1 _ I1 q1) fun u s2 ⟨y, H2, I2, r2, q2⟩ =>
    thn (ho pins s2 σ H2 x y v u _ I2 r1 r2 q2) fun c s3 ⟨z, H3, I3, r3, k, e, q3⟩ => ?_) hm
  subst e
  cases r3
  exact wpAny_truthy_bool ⟨H3, I3, q3⟩
def tChain (r r' : R2) (ta tb tc : TE) : TE := fun σ H Q => ta σ H fun x H1 => tb σ H1 fun y H2 => r x y H2 fun z H3 => ∃ k, z = .bl k ∧
  (if k = true then tc σ H3 fun w' H4 => r' y w' H4 Q else Q (.bl false) H3)
theorem pe_chain {op op' : CmpOp} {r r' : R2} (ho : OpR X (compareOp op) r) (ho' : OpR X (compareOp op') r') (ha : PE X a ta) (hb : PE X b tb) (hc : PE X c tc)
    (hm : lastMarks [op, op'] [b, c] = false := by with_unfolding_all rfl) : PE X (.Compare a [op, op'] [b, c] pos) (tChain r r' ta tb tc) := by
  intro pins s σ H Q I h
  refine Compare_chain (thn (ha pins s σ H _ I h) fun v s1 ⟨x, H1, I1, r1, q1⟩ => chain_link (thn (hb pins s1 σ H1 _ I1 q1) fun u s2 ⟨y, H2, I2, r2, q2⟩ =>
    thn (ho pins s2 σ H2 x y v u _ I2 r1 r2 q2) fun d s3 ⟨z, H3, I3, r3, k, e, q3⟩ => ?_)) hm
  subst e
  cases r3
  refine wpAny_truthy_bool ?_
  cases k with
  | false => exact ite_ff ⟨.bl false, H3, I3, rfl, q3⟩
  | true => exact ite_tt (chain_last (thn (hc pins s3 σ H3 _ I3 q3) fun w' s4 ⟨z', H4, I4, r4, q4⟩ => ho' pins s4 σ H4 y z' u w' Q I4 r2 r4 q4))
theorem pt_chain {op op' : CmpOp} {r r' : R2} (ho : OpR X (compareOp op) r) (ho' : OpR X (compareOp op') r') (ha : PE X a ta) (hb : PE X b tb) (hc : PE X c tc)
    (hm : lastMarks [op, op'] [b, c] = false := by with_unfolding_all rfl) : PT X (.Compare a [op, op'] [b, c] pos) (tTest (tChain r r' ta tb tc)) := by
  intro pins s σ H Q I h
  refine isTrue_chain (thn (ha pins s σ H _ I h) fun v s1 ⟨x, H1, I1, r1, q1⟩ => test_link (thn (hb pins s1 σ H1 _ I1 q1) fun u s2 ⟨y, H2, I2, r2, q2⟩ =>
    thn (ho pins s2 σ H2 x y v u _ I2 r1 r2 q2) fun d s3 ⟨z, H3, I3, r3, k, e, q3⟩ => ?_)) hm
  subst e
  cases r3
  refine wpAny_truthy_bool ?_
  cases k with
  | false =>
    obtain ⟨k', e', q'⟩ := q3
    cases e'
    exact ite_ff ⟨H3, I3, q'⟩
  | true =>
    refine ite_tt (test_last (thn (hc pins s3 σ H3 _ I3 q3) fun w' s4 ⟨z', H4, I4, r4, q4⟩ => thn (ho' pins s4 σ H4 y z' u w' _ I4 r2 r4 q4) fun d' s5 ⟨z2, H5, I5, r5, k2, e2, q5⟩ => ?_))
    subst e2
    cases r5
    exact wpAny_truthy_bool ⟨H5, I5, q5⟩

def TruV (K : PySem.W.Frag) (x : V) (H : Hp) (k : Bool) : Prop :=
  match x with
  | .non => k = false
  | .bl b => k = b
  | .int i => k = (i != 0)
  | .str y => y.length ≤ sizeLine ∧ k = ((y.length : Int) != 0)
  | .byt y => y.size ≤ sizeLine ∧ k = ((y.size : Int) != 0)
  | .ref p => (∃ xs, SqL K H p xs ∧ k = !xs.isEmpty) ∨ (∃ xs, SqT K H p xs ∧ k = !xs.isEmpty) ∨ ∃ kvs, H p = some (.dK kvs) ∧ k = !kvs.isEmpty
  | _ => False
theorem isEmpty_kv {κ : Type} {kvs : List (κ × V)} {vs : List (κ × Value)} (r : KV kvs vs) : (!vs.isEmpty) = !kvs.isEmpty := by
  cases r <;> rfl
theorem isEmpty_of {xs : List V} {its : List Value} (r : Vals xs its) : (!its.toArray.isEmpty) = !xs.isEmpty := by
  cases r <;> simp
theorem line63 : (sizeLine : Nat) < 2 ^ 63 := by rw [sizeLine_eq]; decide
theorem tru_ok : TruR X (fun x H Q => ∃ k, TruV X.K x H k ∧ Q k H) := by
  intro pins s σ H x v Q I rx h
  obtain ⟨k, e, q⟩ := h
  have hl := line63
  have hs : sizeLine = 16777216 := sizeLine_eq
  cases x with
  | non =>
    cases rx
    have e' : k = false := e
    subst e'
    exact truthy_none ⟨H, I, q⟩
  | bl b =>
    cases rx
    have e' : k = b := e
    subst e'
    exact wpAny_truthy_bool ⟨H, I, q⟩
  | int i =>
    obtain ⟨t, rfl⟩ := rx
    have e' : k = (i != 0) := e
    subst e'
    exact PySem.P.truthy_int ⟨H, I, q⟩
  | str y =>
    obtain ⟨t, rfl⟩ := rx
    obtain ⟨hy, e'⟩ : y.length ≤ sizeLine ∧ k = ((y.length : Int) != 0) := e
    subst e'
    exact PySem.P.truthy_str (by omega) ⟨H, I.tok _, q⟩
  | byt y =>
    obtain ⟨t, rfl⟩ := rx
    obtain ⟨hy, e'⟩ : y.size ≤ sizeLine ∧ k = ((y.size : Int) != 0) := e
    subst e'
    exact PySem.W.truthy_bytes (by omega) ⟨H, I.tok _, q⟩
  | ref p =>
    cases rx
    have e' : (∃ xs, SqL X.K H p xs ∧ k = !xs.isEmpty) ∨ (∃ xs, SqT X.K H p xs ∧ k = !xs.isEmpty) ∨ ∃ kvs, H p = some (.dK kvs) ∧ k = !kvs.isEmpty := e
    rcases e' with ⟨xs, hx, e'⟩ | ⟨xs, hx, e'⟩ | ⟨kvs, hx, e'⟩
    · subst e'
      obtain ⟨its, r, pl, hz⟩ := I.list hx
      have hlen := r.length
      exact wpAny_truthy_list pl.isList (by simp only [List.size_toArray]; omega) ⟨H, I.tok _, by rw [isEmpty_of r]; exact q⟩
    · subst e'
      obtain ⟨its, r, pl, hz⟩ := I.tuple hx
      have hlen := r.length
      exact truthy_tuple pl (by simp only [List.size_toArray]; omega) ⟨H, I.tok _, by rw [isEmpty_of r]; exact q⟩
    · subst e'
      obtain ⟨hz, hS, vs, r, m⟩ : kvs.length ≤ sizeLine ∧ (p == sysModules) = false ∧ ∃ vs, KV kvs vs ∧ s.heap.DictOf (mixKind X.prog X.w) p vs := I.hok p _ hx
      have hlen : kvs.length = vs.length := Paired.length r
      exact wpAny_truthy_dict hS m (by omega) ⟨H, I.tok _, by rw [isEmpty_kv r]; exact q⟩
  | _ => exact (show False from e).elim
theorem pt_truth (ha : PE X a ta) (he : ∀ whole, isTrue a X.env whole = (do let v ← whole; standAt a.pos; holding [v] (truthy v))) :
    PT X a (fun σ H Q => ta σ H fun x H' => ∃ k, TruV X.K x H' k ∧ Q k H') := by
  intro pins s σ H Q I h
  exact isTrue_plain (thn (ha pins s σ H _ I h) fun v s1 ⟨x, H1, I1, r1, q1⟩ => tru_ok pins s1 σ H1 x v Q I1 r1 q1) (he _)

theorem vals1 {x : V} {us : List Value} (r : Vals [x] us) : ∃ u, us = [u] ∧ RelV x u := by
  cases r with
  | cons r1 r2 => cases r2; exact ⟨_, rfl, r1⟩
theorem vals2 {x y : V} {us : List Value} (r : Vals [x, y] us) : ∃ u w', us = [u, w'] ∧ RelV x u ∧ RelV y w' := by
  cases r with
  | cons r1 r2 =>
    cases r2 with
    | cons r3 r4 => cases r4; exact ⟨_, _, rfl, r1, r3⟩
theorem call_min2 (hc : X.calm = true) : CallR X (.builtin "min") (fun xs H Q => ∃ i j, xs = [.int i, .int j] ∧ Q (.int (if j < i then j else i)) H) := by
  intro pins s σ H xs us Q I r h
  obtain ⟨i, j, rfl, q⟩ := h
  obtain ⟨u, w', rfl, ⟨t, rfl⟩, ⟨t', rfl⟩⟩ := vals2 r
  refine min_two_ints (I.ok.hd hc) fun h' tk k => ⟨_, H, I.kept k, ?_, q⟩
  by_cases hj : j < i
  · rw [if_pos hj, if_pos hj]; exact ⟨_, rfl⟩
  · rw [if_neg hj, if_neg hj]; exact ⟨_, rfl⟩
end
end L2

namespace L2
open PySem PySem.Spec PyProof.Rows

structure ObjM (h : Heap) (x dx C : Addr) (mA : Str → Option Value) : Prop where
  obj : h.get? x = some (PySem.W.instObj C dx)
  ns : h.Ns1 dx mA
  ne : dx ≠ x

theorem lookIn_ns {h : Heap} {dx : Addr} {mA : Str → Option Value} (n : h.Ns1 dx mA) : ∃ od, h.get? dx = some od ∧ ∀ name, PySem.W.lookIn name od = some (mA name) := by
  obtain ⟨o, es, ep, ho, hd, hk, _, hm⟩ := n
  refine ⟨o, ho, fun name => ?_⟩
  have e := hm name
  unfold nsFind findBy at e
  rw [← Array.find?_toList] at e
  unfold PySem.W.lookIn
  rw [hd]
  dsimp only
  split
  · rename_i y q
    rw [q] at e
    exact congrArg some e
  · rename_i q
    rw [q] at e
    have a : es.toList.any (·.refKey) = false := by
      rw [List.any_eq_false]
      intro y hy
      obtain ⟨z, t, hkey⟩ := hk y (Array.mem_toList_iff.mp hy)
      simp [DictEntry.refKey, hkey]
    have a' : ¬ es.toList.any (·.refKey) = true := by rw [a]; exact Bool.false_ne_true
    rw [if_neg a']
    exact congrArg some e

theorem ObjM.look {h : Heap} {x dx C : Addr} {mA : Str → Option Value} (I : ObjM h x dx C mA) : ∃ od, PySem.W.InstAt h x (PySem.W.instObj C dx) C (some od) ∧ ∀ name, PySem.W.lookIn name od = some (mA name) :=
  let ⟨od, ho, hl⟩ := lookIn_ns I.ns
  ⟨od, ⟨I.obj, rfl, rfl, ho⟩, hl⟩

section
variable {prog : Program} {w : World} {A : Around} {E : Value → Shared → Prop} {s : Shared} {K : PySem.W.Frag} {x dx C f : Addr} {mA : Str → Option Value} {name : Str} {v : Value}

theorem get_map {expr : Bool} {Q : Value → Shared → Prop} (X : K.In s.heap) (I : ObjM s.heap x dx C mA) (hg : PySem.W.plainGet K C name = true) (hh : PySem.W.hasDictIn K C = true)
    (ha : PySem.W.findIn K (.ref C) name = some none) (hv : mA name = some v) (hv' : PySem.W.handedIn v = true) (h : Q v { s with toks := s.toks + 1 }) :
    wpAny (model prog w) A (getAttr (.ref x) name expr) Q E s := by
  obtain ⟨od, J, hl⟩ := I.look
  exact PySem.W.get_value X J (PySem.W.plainGet_of hg).1 (PySem.W.findObj_own hh ha rfl (by rw [hl, hv])) hv' h

theorem get_meth {pl : Sem Bool} {Q : Value × List Value → Shared → Prop} (X : K.In s.heap) (I : ObjM s.heap x dx C mA) (hg : PySem.W.plainGet K C name = true)
    (hf : PySem.W.findIn K (.ref C) name = some (some (.ref f))) (ht : PySem.W.isFn K (.ref f) = true) (hv : mA name = none) (h : Q (.ref f, [.ref x]) s) :
    wpAny (model prog w) A (getMethod (.ref x) name pl) Q E s := by
  obtain ⟨od, J, hl⟩ := I.look
  exact PySem.W.method_fn X J (PySem.W.plainGet_of hg).1 (PySem.W.plainGet_of hg).2 hf (beq_iff_eq.mp ht) (by show (PySem.W.lookIn name od).map (·.isSome) = some false; rw [hl, hv]; rfl) h

theorem set_map {ns : List Str} {Q : Unit → Shared → Prop} (X : K.In s.heap) (I : ObjM s.heap x dx C mA)
    (hs : PySem.W.findIn K (.ref C) "__setattr__" = some (some (.builtin "object.__setattr__"))) (hp : PySem.W.plainOver K C = true) (ht : PySem.W.takerIn K C name = some none) (hh : PySem.W.hasDictIn K C = true)
    (hw : PySem.Within mA ns) (hsz : ns.length ≤ sizeLine)
    (h : ∀ h', ObjM h' x dx C (fun y => if y = name then some v else mA y) → Heap.SameBut dx s.heap h' → Q () { s with heap := h', toks := s.toks + 2 }) :
    wpAny (model prog w) A (setAttr (.ref x) name v) Q E s := by
  obtain ⟨od, J, hl⟩ := I.look
  refine PySem.W.set_plain X J hs (PySem.W.osa_open (s := { s with toks := s.toks + 1 }) (r := none) X J hp ht fun b => ?_)
  obtain ⟨cd, hc, hd'⟩ := PySem.W.any_some hh
  have hx : s.heap.get? x = some ⟨.ref C, some dx, .plain, #[]⟩ := I.obj
  refine wpAny_bind (wpAny_pure (wpAny_bind (wpAny_bind (wpAny_loadPart hx (wpAny_bind (PySem.W.Looks.here (s := { s with toks := s.toks + 1 }) (PySem.W.looks_clsIn X hc) ?_))))))
  rw [hd']
  refine wpAny_pure (a := some dx) (wpAny_bind (wpAny_pure (wpAny_bind ?_)))
  refine wpAny_nsSet1 (s := { s with toks := s.toks + 1 }) I.ns fun h' hn2 hs2 => ?_
  obtain ⟨oD, esD, epD, hoD, hdD, hcD⟩ := hn2.count (PySem.Within.cons name v hw)
  refine wpAny_bind (wpAny_lookBehind hoD (by rw [hdD]; exact pastItsLine_dict (Nat.le_trans hcD (by rw [List.length_cons]; omega))) ?_)
  exact wpAny_pure (h _ ⟨(hs2.2 _ (Ne.symm I.ne)).trans I.obj, hn2, I.ne⟩ hs2)

theorem make_map {R : Result → Shared → Prop} {vs : List Value} {kw : List (Str × Value)} (X : K.In s.heap) (hm : PySem.W.makesIn K C = true)
    (hi : PySem.W.findIn K (.ref C) "__init__" = some (some (.ref f))) (hf : PySem.W.typeIn K (.ref f) = some (.type "function"))
    (h : codeAny (model prog w) (A.under (.builtin "type.__call__" ⟨.ref C :: vs, kw⟩)) (.call (.ref f) ⟨.ref (s.heap.objs.size + 1) :: vs, kw⟩) (PySem.W.InitBack (s.heap.objs.size + 1) R)
      { s with heap := (s.heap.push PySem.W.emptyDict).push (PySem.W.instObj C s.heap.objs.size) }) :
    codeAny (model prog w) A (.call (.ref C) ⟨vs, kw⟩) R s := by
  obtain ⟨hh, g, d, t, os⟩ := s
  exact PySem.W.make_core (PySem.W.makes_of X hm) (PySem.W.looks_findIn X hi) (fun self => PySem.W.bind_fn X self hf) (.inl rfl) h
end

def putF (f : Str) (v : V) : List (Str × V) → List (Str × V)
  | [] => [(f, v)]
  | (g, x) :: r => if g = f then (g, v) :: r else (g, x) :: putF f v r
theorem lookup_putF (f g : Str) (v : V) : ∀ fs : List (Str × V), (putF f v fs).lookup g = if g = f then some v else fs.lookup g
  | [] => by
    show List.lookup g [(f, v)] = _
    by_cases h : g = f
    · have hb : (g == f) = true := beq_iff_eq.mpr h
      simp only [List.lookup, hb, if_pos h]
    · have hb : (g == f) = false := beq_eq_false_iff_ne.mpr h
      simp only [List.lookup, hb, if_neg h]
  | (k, x) :: r => by
    have ih := lookup_putF f g v r
    rw [show putF f v ((k, x) :: r) = (if k = f then (k, v) :: r else (k, x) :: putF f v r) from rfl]
    by_cases hk : k = f
    · rw [if_pos hk]
      by_cases h : g = k
      · have hb : (g == k) = true := beq_iff_eq.mpr h
        simp only [List.lookup, hb, if_pos (h.trans hk)]
      · have hb : (g == k) = false := beq_eq_false_iff_ne.mpr h
        simp only [List.lookup, hb, if_neg (fun e : g = f => h (e.trans hk.symm))]
    · rw [if_neg hk]
      by_cases h : g = k
      · have hb : (g == k) = true := beq_iff_eq.mpr h
        simp only [List.lookup, hb, if_neg (fun e : g = f => hk (h.symm.trans e))]
      · have hb : (g == k) = false := beq_eq_false_iff_ne.mpr h
        simp only [List.lookup, hb]
        exact ih
theorem keys_putF (f : Str) (v : V) : ∀ fs : List (Str × V), f ∈ (putF f v fs).map (·.1) ∧ ∀ g, g ∈ fs.map (·.1) → g ∈ (putF f v fs).map (·.1)
  | [] => ⟨by simp [putF], fun g h => by simp at h⟩
  | (k, x) :: r => by
    obtain ⟨i1, i2⟩ := keys_putF f v r
    rw [show putF f v ((k, x) :: r) = (if k = f then (k, v) :: r else (k, x) :: putF f v r) from rfl]
    by_cases hk : k = f
    · rw [if_pos hk]
      subst hk
      exact ⟨by simp, fun g h => by simpa using h⟩
    · rw [if_neg hk]
      refine ⟨?_, fun g h => ?_⟩
      · rw [List.map_cons]
        exact List.mem_cons_of_mem _ i1
      · rw [List.map_cons] at h ⊢
        rcases List.mem_cons.mp h with e | e
        · exact List.mem_cons.mpr (.inl e)
        · exact List.mem_cons_of_mem _ (i2 g e)
theorem length_putF (f : Str) (v : V) : ∀ fs : List (Str × V), (putF f v fs).length ≤ fs.length + 1
  | [] => by simp [putF]
  | (k, x) :: r => by
    have ih := length_putF f v r
    rw [show putF f v ((k, x) :: r) = (if k = f then (k, v) :: r else (k, x) :: putF f v r) from rfl]
    by_cases hk : k = f
    · rw [if_pos hk, List.length_cons, List.length_cons]; omega
    · rw [if_neg hk, List.length_cons, List.length_cons]; omega

theorem RelO.some_of {v : V} {o : Option Value} (r : RelO (some v) o) : ∃ u, o = some u ∧ RelV v u := by
  cases o with
  | none => exact (show False from r).elim
  | some u => exact ⟨u, rfl, r⟩
theorem RelO.none_of {o : Option Value} (r : RelO none o) : o = none := by
  cases o with
  | none => rfl
  | some u => exact (show False from r).elim
theorem handed_of {v : V} {u : Value} (r : RelV v u) : PySem.W.handedIn u = true := by
  cases v with
  | non => cases (show u = Value.none from r); rfl
  | bl b => cases (show u = Value.bool b from r); rfl
  | int i => obtain ⟨t, e⟩ := (show ∃ t, u = Value.int i t from r); cases e; rfl
  | str x => obtain ⟨t, e⟩ := (show ∃ t, u = Value.str x t from r); cases e; rfl
  | byt b => obtain ⟨t, e⟩ := (show ∃ t, u = Value.bytes b t from r); cases e; rfl
  | flt b => obtain ⟨t, e⟩ := (show ∃ t, u = Value.float b t from r); cases e; rfl
  | ref a => cases (show u = Value.ref a from r); rfl
  | ty n => cases (show u = Value.type n from r); rfl

section
variable {P : Program} {w : World} {H H' : Hp} {h h' : Heap} {a C dx : Addr} {fs fs' : List (Str × V)}
theorem ins_get (hok : HOk P w H h) (e : H a = some (.ins C dx fs)) : ∃ mA, ObjM h a dx C mA ∧ (∀ f, RelO (fs.lookup f) (mA f)) ∧ PySem.Within mA (fs.map (·.1)) ∧ fs.length ≤ 1000 ∧ H dx = some (.own a) := by
  obtain ⟨d, z, ne, ob, mA, n, r, q⟩ := (show ObjOk P w H h a (.ins C dx fs) from hok a _ e)
  exact ⟨mA, ⟨ob, n, ne⟩, r, q, z, d⟩
end

structure Cls (K : PySem.W.Frag) (C : Addr) : Prop where
  pg : PySem.W.plainGet K C Str.empty = true
  hd : PySem.W.hasDictIn K C = true
  po : PySem.W.plainOver K C = true
  sa : PySem.W.findIn K (.ref C) "__setattr__" = some (some (.builtin "object.__setattr__"))
theorem Cls.get {K : PySem.W.Frag} {C : Addr} (c : Cls K C) (f : Str) : PySem.W.plainGet K C f = true := c.pg
def NoAttr (K : PySem.W.Frag) (C : Addr) (f : Str) : Prop := PySem.W.findIn K (.ref C) f = some none
theorem NoAttr.taker {K : PySem.W.Frag} {C : Addr} {f : Str} (n : NoAttr K C f) : PySem.W.takerIn K C f = some none := by
  unfold PySem.W.takerIn
  rw [show PySem.W.findIn K (.ref C) f = some none from n]
  rfl
structure Meth (K : PySem.W.Frag) (C : Addr) (m : Str) (f : Addr) : Prop where
  at_ : PySem.W.findIn K (.ref C) m = some (some (.ref f))
  fn : PySem.W.isFn K (.ref f) = true
  kp : PySem.W.keepIn K (.ref f) = true

section
variable {X : Cx} {pins : List (Addr × Obj)} {σ : St} {H : Hp} {s : Shared} {a C dx : Addr} {fs : List (Str × V)} {f : Str} {v : V} {A : Around} {E : Value → Shared → Prop}

theorem getattr_ok {b : Bool} {Q : Value → Shared → Prop} (I : Inv X pins σ H s) (e : H a = some (.ins C dx fs)) (c : Cls X.K C) (n : NoAttr X.K C f) (l : fs.lookup f = some v)
    (h : ∀ u s', Inv X pins σ H s' → RelV v u → Q u s') : wpAny (model X.prog X.w) A (getAttr (.ref a) f b) Q E s := by
  obtain ⟨mA, O, r, _, _, _⟩ := ins_get I.hok e
  obtain ⟨u, hu, ru⟩ := RelO.some_of (v := v) (o := mA f) (by rw [← l]; exact r f)
  exact get_map I.kIn O (c.get f) c.hd n hu (handed_of ru) (h u _ (I.tok _) ru)

theorem getmeth_ok {m : Str} {g : Addr} {pl : Sem Bool} {Q : Value × List Value → Shared → Prop} (I : Inv X pins σ H s) (e : H a = some (.ins C dx fs)) (c : Cls X.K C) (k : Meth X.K C m g) (l : fs.lookup m = none)
    (h : Q (.ref g, [.ref a]) s) : wpAny (model X.prog X.w) A (getMethod (.ref a) m pl) Q E s := by
  obtain ⟨mA, O, r, _, _, _⟩ := ins_get I.hok e
  have hn : mA m = none := RelO.none_of (by rw [← l]; exact r m)
  exact get_meth I.kIn O (c.get m) k.at_ k.fn hn h

theorem setattr_ok {y : V} {u : Value} {Q : Unit → Shared → Prop} (I : Inv X pins σ H s) (e : H a = some (.ins C dx fs)) (c : Cls X.K C) (n : NoAttr X.K C f) (hl : fs.length < 1000) (ry : RelV y u)
    (h : ∀ s', Inv X pins σ (upd H a (.ins C dx (putF f y fs))) s' → Q () s') : wpAny (model X.prog X.w) A (setAttr (.ref a) f u) Q E s := by
  obtain ⟨mA, O, r, wi, _, ho⟩ := ins_get I.hok e
  have hz : (fs.map (·.1)).length ≤ sizeLine := by rw [List.length_map, sizeLine_eq]; omega
  refine set_map I.kIn O c.sa c.po n.taker c.hd wi hz fun h' O' sb => h _ ?_
  have hd : ∃ o, h'.get? dx = some o := let ⟨o, _, _, e', _⟩ := O'.ns; ⟨o, e'⟩
  refine I.write (x := a) (e := dx) (by rw [e]; exact True.intro) (.inr ho) (fun b q hb z => (sb.2 b hb).trans z) hd ?_
  refine ⟨by rw [upd_ne O.ne]; exact ho, ?_, O.ne, O'.obj, _, O'.ns, fun g => ?_, fun g hg => ?_⟩
  · have := length_putF f y fs; omega
  · show RelO ((putF f y fs).lookup g) (if g = f then some u else mA g)
    rw [lookup_putF]
    by_cases q : g = f
    · rw [if_pos q, if_pos q]; exact ry
    · rw [if_neg q, if_neg q]; exact r g
  · by_cases q : g = f
    · rw [q]; exact (keys_putF f y fs).1
    · refine (keys_putF f y fs).2 g (wi g fun z => hg ?_)
      show (if g = f then some u else mA g) = none
      rw [if_neg q]; exact z

theorem Inv.made (I : Inv X pins σ H s) : Inv X pins σ (upd (upd H s.heap.objs.size (.own (s.heap.objs.size + 1))) (s.heap.objs.size + 1) (.ins C s.heap.objs.size []))
    { s with heap := (s.heap.push PySem.W.emptyDict).push (PySem.W.instObj C s.heap.objs.size) } := by
  have e1 : (s.heap.push PySem.W.emptyDict).get? s.heap.objs.size = some PySem.W.emptyDict := Heap.get?_push_size s.heap rfl
  have e2 : ((s.heap.push PySem.W.emptyDict).push (PySem.W.instObj C s.heap.objs.size)).get? (s.heap.objs.size + 1) = some (PySem.W.instObj C s.heap.objs.size) := by
    have := Heap.get?_push_size (s.heap.push PySem.W.emptyDict) (o := PySem.W.instObj C s.heap.objs.size) rfl
    rwa [Heap.size_push] at this
  have e3 : (s.heap.push PySem.W.emptyDict).Ns s.heap.objs.size (fun _ => none) := ⟨PySem.W.emptyDict, #[], _, e1, rfl, (fun e he => absurd he (by simp)), fun _ => rfl⟩
  have I1 := I.laid (a := s.heap.objs.size) (o := .own (s.heap.objs.size + 1)) (h' := s.heap.push PySem.W.emptyDict) (t' := s.toks) (fun b u q => Heap.get?_push_of_some _ q) (Nat.le_refl _) ⟨_, e1⟩
  refine I1.laid (a := s.heap.objs.size + 1) (o := .ins C s.heap.objs.size []) (t' := s.toks) (fun b u q => Heap.get?_push_of_some _ q) (Nat.le_of_eq (Heap.size_push _ _)) ?_
  have ne : s.heap.objs.size ≠ s.heap.objs.size + 1 := Nat.ne_of_lt (Nat.lt_succ_self _)
  refine ⟨by rw [upd_ne ne, upd_same], Nat.zero_le _, ne, e2, fun _ => none, (Heap.Ns1.of_empty e3).at fun o q => Heap.get?_push_of_some _ q, fun _ => True.intro, fun y hy => absurd rfl hy⟩

theorem attr_of {prog : Program} {w : World} {env : Env} {e : Expr} {f : Str} {pos : Pos} {s : Shared} {Q : Value → Shared → Prop} (hb : attributeBase e f env (eval e env) = eval e env)
    (h : wpAny (model prog w) A (eval e env) (fun o s₁ => wpAny (model prog w) A (getAttr o f true) Q E s₁) E s) : wpAny (model prog w) A (eval (.Attribute e f pos) env) Q E s :=
  Attribute_any_ h (by rw [arm_eval_Attribute, hb])
end

def tFld (K : PySem.W.Frag) (ta : TE) (f : Str) : TE := fun σ H Q => ta σ H fun x H1 => ∃ a C dx fs v, x = .ref a ∧ H1 a = some (.ins C dx fs) ∧ Cls K C ∧ NoAttr K C f ∧ fs.lookup f = some v ∧ Q v H1
def sFld (K : PySem.W.Frag) (ta tv : TE) (f : Str) : TS := fun D σ H => tv σ H fun y H1 => ta σ H1 fun x H2 => ∃ a C dx fs, x = .ref a ∧ H2 a = some (.ins C dx fs) ∧ Cls K C ∧ NoAttr K C f ∧ fs.length < 1000 ∧
  D.nx σ (upd H2 a (.ins C dx (putF f y fs)))
section
variable {X : Cx} {o e value : Expr} {f : Str} {pos pos' tpos : Pos} {ta tv : TE}
theorem pe_fld (he : PE X e ta) (hb : attributeBase e f X.env (eval e X.env) = eval e X.env) : PE X (.Attribute e f pos) (tFld X.K ta f) := by
  intro pins s σ H Q I h
  refine attr_of hb (thn (he pins s σ H _ I h) fun u s1 ⟨x, H1, I1, rx, a, C, dx, fs, v, ex, ea, c, n, l, q⟩ => ?_)
  subst ex
  obtain rfl : u = Value.ref a := rx
  exact getattr_ok I1 ea c n l fun u' s2 I2 ru => ⟨v, H1, I2, ru, q⟩
theorem ps_fld (ha : PE X o ta) (hv : PE X value tv) (hs : swapsWith value (some (.Attribute o f pos')) pos.line X.env = pure false) : PS X (.Assign [.Attribute o f pos'] value pos) (sFld X.K ta tv f) := by
  intro pins s σ H D I h
  refine plainObj_wpAny_Assign_Attribute (thn (hv pins s σ H _ I h) fun u s1 ⟨y, H1, I1, ry, q⟩ => thn (ha pins s1 σ H1 _ I1 q) fun ov s2 ⟨x, H2, I2, rx, a, C, dx, fs, ex, ea, c, n, l, q2⟩ => ?_) hs
  subst ex
  obtain rfl : ov = Value.ref a := rx
  exact setattr_ok I2 ea c n l ry fun s3 I3 => ⟨σ, _, I3, q2⟩
end

section
variable {X : Cx} {pins : List (Addr × Obj)} {σ : St} {H : Hp} {s : Shared} {A : Around} {E : Value → Shared → Prop} {Q : Value → Shared → Prop} {c : Value} {b : Bool}
inductive TyOf (K : PySem.W.Frag) (H : Hp) : V → Value → Prop where
  | non : TyOf K H .non (.type "NoneType")
  | bl (x : Bool) : TyOf K H (.bl x) (.type "bool")
  | int (i : Int) : TyOf K H (.int i) (.type "int")
  | str (x : Str) : TyOf K H (.str x) (.type "str")
  | flt (x : UInt64) : TyOf K H (.flt x) (.type "float")
  | lst {a : Addr} {xs : List V} (e : H a = some (.lst xs)) : TyOf K H (.ref a) (.type "list")
  | frz {a : Addr} {o : Obj} {xs : List V} (e : H a = some (.frz o (.lst xs))) : TyOf K H (.ref a) (.type "list")
  | tup {a : Addr} {xs : List V} (e : H a = some (.tup xs)) : TyOf K H (.ref a) (.type "tuple")
  | dK {a : Addr} {kvs : List (Key × V)} (e : H a = some (.dK kvs)) : TyOf K H (.ref a) (.type "dict")
  | dT {a : Addr} {kvs : List (List Key × V)} (e : H a = some (.dT kvs)) : TyOf K H (.ref a) (.type "dict")
  | ins {a C dx : Addr} {fs : List (Str × V)} (e : H a = some (.ins C dx fs)) (cl : Cls K C) (ha : PySem.W.findIn K (.ref C) "__class__" = some (some (.builtin "object.__class__")))
      (hn : PySem.W.specialIn K (.builtin "object.__class__") "__get__" = some (some (.builtin "getset_descriptor.__get__"))) (htk : PySem.W.takesIn K (.builtin "object.__class__") = some true)
      (hm : PySem.W.mroIn K C (.type "object") = some true) : TyOf K H (.ref a) (.ref C)
theorem isinst_ok {x : V} {u t : Value} (I : Inv X pins σ H s) (rx : RelV x u) (ty : TyOf X.K H x t) (e : PySem.W.kitOne X.K t c = some b) (h : ∀ tk, Q (.bool b) { s with toks := tk }) :
    wpAny (model X.prog X.w) A (call (.builtin "isinstance") [u, c]) Q E s := by
  cases ty with
  | non => cases (show u = Value.none from rx); exact PySem.W.kia_one PySem.W.kitx_none I.kIn True.intro e (fun z => nomatch z) h
  | bl y => cases (show u = Value.bool y from rx); exact PySem.W.kia_one PySem.W.kitx_bool I.kIn True.intro e (fun z => nomatch z) h
  | int i => obtain ⟨t, q⟩ := (show ∃ t, u = Value.int i t from rx); cases q; exact PySem.W.kia_one PySem.W.kitx_int I.kIn True.intro e (fun z => nomatch z) h
  | str y => obtain ⟨t, q⟩ := (show ∃ t, u = Value.str y t from rx); cases q; exact PySem.W.kia_one PySem.W.kitx_str I.kIn True.intro e (fun z => nomatch z) h
  | flt y => obtain ⟨t, q⟩ := (show ∃ t, u = Value.float y t from rx); cases q; exact PySem.W.kia_one PySem.W.kitx_float I.kIn True.intro e (fun z => nomatch z) h
  | @lst a xs ea =>
    cases (show u = Value.ref a from rx)
    obtain ⟨_, _, n, _, h1⟩ := (show ObjOk X.prog X.w H s.heap a (.lst xs) from I.hok a _ ea)
    exact PySem.W.kia_one PySem.W.kitx_list I.kIn ⟨_, h1, rfl⟩ e (fun z => nomatch z) h
  | @frz a ob xs ea =>
    cases (show u = Value.ref a from rx)
    obtain ⟨_, _, _, n, _, h1⟩ := (show ObjOk X.prog X.w H s.heap a (.frz ob (.lst xs)) from I.hok a _ ea)
    exact PySem.W.kia_one PySem.W.kitx_list I.kIn ⟨_, h1, rfl⟩ e (fun z => nomatch z) h
  | @tup a xs ea =>
    cases (show u = Value.ref a from rx)
    obtain ⟨_, _, _, p⟩ := (show ObjOk X.prog X.w H s.heap a (.tup xs) from I.hok a _ ea)
    obtain ⟨o, h1, h2, _⟩ := p
    exact PySem.W.kia_one PySem.W.kitx_tuple I.kIn ⟨o, h1, h2⟩ e (fun z => nomatch z) h
  | @dK a kvs ea =>
    cases (show u = Value.ref a from rx)
    obtain ⟨_, _, vs, _, p⟩ := (show ObjOk X.prog X.w H s.heap a (.dK kvs) from I.hok a _ ea)
    obtain ⟨o, es, ep, h1, h2, _⟩ := p
    exact PySem.W.kia_one PySem.W.kitx_dict I.kIn ⟨o, h1, h2.1⟩ e (fun z => nomatch z) h
  | @dT a kvs ea =>
    cases (show u = Value.ref a from rx)
    obtain ⟨_, _, xs, _, o, es, ep, h1, h2, _⟩ := (show ObjOk X.prog X.w H s.heap a (.dT kvs) from I.hok a _ ea)
    exact PySem.W.kia_one PySem.W.kitx_dict I.kIn ⟨o, h1, h2.1⟩ e (fun z => nomatch z) h
  | @ins a C dx fs ea cl ha hn htk hm =>
    cases (show u = Value.ref a from rx)
    obtain ⟨mA, O, _⟩ := ins_get I.hok ea
    obtain ⟨od, J, _⟩ := O.look
    exact PySem.W.kia_one (PySem.W.kitx_own (cl.get _) cl.hd ha hn htk hm) I.kIn J e (fun z => nomatch z) h
end
end L2

namespace L2
open PySem PySem.Spec PyProof.Rows

structure Room (k : Nat) (A : Around) : Prop where
  hd : A.handled = none
  dp : A.depth + 3 * k + 5 < recursionLimit
  un : A.units + 16 * k + 200 < cLine
theorem Room.mono {j k : Nat} {A : Around} (r : Room k A) (h : j ≤ k) : Room j A := ⟨r.hd, by have := r.dp; omega, by have := r.un; omega⟩
theorem Room.deeper {k : Nat} {A : Around} (r : Room (k + 1) A) (env : Env) : Room k (A.deeper env) :=
  ⟨r.hd, by have := r.dp; show A.depth + 1 + 3 * k + 5 < _; omega, by have := r.un; show A.units + 3 + 16 * k + 200 < _; omega⟩
theorem Room.in1 {k : Nat} {A : Around} (r : Room (k + 1) A) : Room k A.in1 :=
  ⟨r.hd, by have := r.dp; show A.depth + 3 * k + 5 < _; omega, by have := r.un; show A.units + 1 + 16 * k + 200 < _; omega⟩
theorem make_depth {A : Around} {C : Addr} {us : List Value} {kw : List (Str × Value)} : (A.under (.builtin "type.__call__" ⟨.ref C :: us, kw⟩)).depth = A.depth + 1 := by
  first | rfl | simp [Around.under, Code.weight, Code.isCreation, Code.isGuard, Code.isCaller, Code.frames, Code.isFrame, guardIds]
theorem make_units {A : Around} {C : Addr} {us : List Value} {kw : List (Str × Value)} : (A.under (.builtin "type.__call__" ⟨.ref C :: us, kw⟩)).units = A.units + 1 := by
  first | rfl | simp [Around.under, Code.cUnits, Code.frames, Code.isFrame]
theorem Room.make {k : Nat} {A : Around} (r : Room (k + 1) A) (C : Addr) (us : List Value) (kw : List (Str × Value)) : Room k (A.under (.builtin "type.__call__" ⟨.ref C :: us, kw⟩)) :=
  ⟨r.hd, by have := r.dp; rw [make_depth]; omega, by have := r.un; rw [make_units]; omega⟩
theorem Room.depth {k : Nat} {A : Around} (r : Room k A) : A.depth < recursionLimit := by have := r.dp; omega
theorem Room.units {k : Nat} {A : Around} (r : Room k A) : A.units + 64 < cLine := by have := r.un; omega
def tNil : TA := fun _ H Q => Q [] H
def tCons (ta : TE) (tr : TA) : TA := fun σ H Q => ta σ H fun x H1 => tr σ H1 fun xs H2 => Q (x :: xs) H2
section
variable {X : Cx} {e : Expr} {es : List Expr} {te : TE} {t : TA} {pos : Pos}
theorem pa_nil : PA X [] tNil := fun _ _ _ _ H Q I h => Calls.spliced_nil ⟨[], H, I, .nil, h⟩
theorem pa_cons (ha : PE X e te) (hr : PA X es t) (hs : starEach (e :: es) X.env = (false, eval e X.env) :: starEach es X.env := by rfl) : PA X (e :: es) (tCons te t) := by
  intro pos pins s σ H Q I h
  rw [hs]
  show wpAny _ _ (spliced ((false, eval e X.env) :: backTo pos (starEach es X.env))) _ _ s
  refine Calls.spliced_cons (thn (ha pins s σ H _ I h) fun u s1 ⟨x, H1, I1, r1, q1⟩ => ?_)
  exact thn (hr pos pins s1 σ H1 _ I1 q1) fun us s2 ⟨xs, H2, I2, r2, q2⟩ => ⟨x :: xs, H2, I2, .cons r1 r2, q2⟩

def tTup (t : TA) : TE := fun σ H Q => t σ H fun xs H1 => xs.length ≤ sizeLine ∧ ∀ p, H1 p = none → Q (.ref p) (upd H1 p (.tup xs))
def tLst (t : TA) : TE := fun σ H Q => t σ H fun xs H1 => xs.length ≤ sizeLine ∧ ∀ p, H1 p = none → Q (.ref p) (upd H1 p (.lst xs))
theorem pe_tup {x1} (h : PA X es t) : PE X (.Tuple es x1 pos) (tTup t) := by
  intro pins s σ H Q I hq
  refine wpAny_Tuple_spliced (thn (h pos pins s σ H _ I hq) fun us s1 ⟨xs, H1, I1, r, z, q⟩ => ⟨by rw [← r.length]; exact z, ?_⟩)
  have hf : H1 s1.heap.objs.size = none := I1.hok.fresh (Nat.le_refl _)
  refine ⟨.ref s1.heap.objs.size, upd H1 s1.heap.objs.size (.tup xs), I1.laid (t' := s1.toks) (fun b u e => Heap.get?_push_of_some _ e) (Nat.le_refl _) ?_, rfl, q _ hf⟩
  exact ⟨z, us, r, ⟨_, Heap.get?_push_size _ rfl, rfl, _, rfl⟩⟩
theorem pe_lst (h : PA X es t) : PE X (.List es pos) (tLst t) := by
  intro pins s σ H Q I hq
  refine wpAny_List_spliced (thn (h pos pins s σ H _ I hq) fun us s1 ⟨xs, H1, I1, r, z, q⟩ => ⟨by rw [← r.length]; exact z, ?_⟩)
  have hf : H1 s1.heap.objs.size = none := I1.hok.fresh (Nat.le_refl _)
  refine ⟨.ref s1.heap.objs.size, upd H1 s1.heap.objs.size (.lst xs), I1.laid (t' := s1.toks) (fun b u e => Heap.get?_push_of_some _ e) (Nat.le_refl _) ?_, rfl, q _ hf⟩
  exact ⟨z, us, 0, r, Heap.get?_push_size _ rfl⟩
end

abbrev Sp := List V → Hp → VK → XK → Prop
abbrev CXT := List Env → Hp → Shared → XK → Value → Shared → Prop

structure Env0 (P : Program) (w : World) (K : PySem.W.Frag) (mg : Str → Option Value) (base : Heap) (A : Around) (outer : List Env) (s : Shared) (H : Hp) : Prop where
  frames : A.frames = some outer
  mod : Mod K mg base
  bs : ∀ b o, base.get? b = some o → s.heap.get? b = some o ∧ H b = none
  bsz : base.objs.size ≤ s.heap.objs.size
  funs : s.heap.FunFrames base outer
  frf : ∀ b ∈ frs outer, H b = none
  hok : HOk P w H s.heap
  bare : AllBare s.gens
def CE (outer : List Env) (P : Program) (w : World) (H : Hp) (s : Shared) (Q : VK) (u : Value) (s' : Shared) : Prop :=
  ∃ v H', s'.os = s.os ∧ AllBare s'.gens ∧ Un (frs outer) [] H H' s.heap s'.heap ∧ HOk P w H' s'.heap ∧ RelV v u ∧ Q v H'
def CR (CX : CXT) (outer : List Env) (P : Program) (w : World) (H : Hp) (s : Shared) (Q : VK) (E : XK) (r : Result) (s' : Shared) : Prop :=
  match r with
  | .ok (.ret u) => CE outer P w H s Q u s'
  | .ok _ => False
  | .error e => CX outer H s E e s'
structure FnOk (P : Program) (w : World) (K : PySem.W.Frag) (mg : Str → Option Value) (base : Heap) (CX : CXT) (k : Nat) (f : Addr) (fd : FuncData) (ps : List Str) (sp : Sp) : Prop where
  len : ∀ vs H Q E, sp vs H Q E → vs.length = ps.length
  run : ∀ (A : Around) (outer : List Env) (s : Shared) (H : Hp) (args : Args) (us : List Value) (vs : List V) (Q : VK) (E : XK), Room k A → Env0 P w K mg base A outer s H → BindsTo s fd args (ps.zip us) → Vals vs us → sp vs H Q E →
    codeAny (model P w) A (.call (.ref f) args) (CR CX outer P w H s Q E) s
theorem FnOk.mono {P : Program} {w : World} {K : PySem.W.Frag} {mg : Str → Option Value} {base : Heap} {CX : CXT} {j k : Nat} {f : Addr} {fd : FuncData} {ps : List Str} {sp : Sp} (F : FnOk P w K mg base CX j f fd ps sp) (h : j ≤ k) :
    FnOk P w K mg base CX k f fd ps sp := ⟨F.len, fun A outer s H args us vs Q E hr => F.run A outer s H args us vs Q E (hr.mono h)⟩
theorem FnOk.imp {P : Program} {w : World} {K : PySem.W.Frag} {mg : Str → Option Value} {base : Heap} {CX : CXT} {k : Nat} {f : Addr} {fd : FuncData} {ps : List Str} {sp sp' : Sp} (F : FnOk P w K mg base CX k f fd ps sp)
    (h : ∀ vs H Q E, sp' vs H Q E → sp vs H Q E) : FnOk P w K mg base CX k f fd ps sp' :=
  ⟨fun vs H Q E q => F.len vs H Q E (h _ _ _ _ q), fun A outer s H args us vs Q E hr he hb hv hs => F.run A outer s H args us vs Q E hr he hb hv (h _ _ _ _ hs)⟩

theorem Env0.make {P : Program} {w : World} {K : PySem.W.Frag} {mg : Str → Option Value} {base : Heap} {A : Around} {outer : List Env} {s : Shared} {H : Hp} (e : Env0 P w K mg base A outer s H) (C : Addr) (us : List Value) (kw : List (Str × Value)) :
    Env0 P w K mg base (A.under (.builtin "type.__call__" ⟨.ref C :: us, kw⟩)) outer s H := ⟨by first | exact e.frames | (simpa [Around.under, Code.envs, Code.isFrame, pushEnvs] using e.frames), e.mod, e.bs, e.bsz, e.funs, e.frf, e.hok, e.bare⟩
theorem Env0.in1 {P : Program} {w : World} {K : PySem.W.Frag} {mg : Str → Option Value} {base : Heap} {A : Around} {outer : List Env} {s : Shared} {H : Hp} (e : Env0 P w K mg base A outer s H) :
    Env0 P w K mg base A.in1 outer s H := ⟨e.frames, e.mod, e.bs, e.bsz, e.funs, e.frf, e.hok, e.bare⟩

section
variable {X : Cx} {pins : List (Addr × Obj)} {σ : St} {H : Hp} {s s' : Shared}
theorem Inv.env0 (I : Inv X pins σ H s) : Env0 X.prog X.w X.K X.mg X.base X.A X.stack s H :=
  ⟨I.ok.frames, I.ok.mod, I.bs, Nat.le_trans I.ok.bsz I.sz, I.stack, I.stkFree, I.hok, I.bare⟩
theorem Inv.after {Q : VK} {u : Value} (I : Inv X pins σ H s) (h : CE X.stack X.prog X.w H s Q u s') : EP X pins σ Q u s' := by
  obtain ⟨v, H', os, bare, un, hok, r, q⟩ := h
  obtain ⟨hh, g, d, t, os'⟩ := s'
  obtain rfl : os' = s.os := os
  exact ⟨v, H', I.call (h' := hh) (g' := g) (d' := d) (t' := t) (ch := []) un hok bare (fun b z => absurd z (by simp)), r, q⟩
end

def tCall (sp : Sp) (dvs : List V) (E : XK) (t : TA) : TE := fun σ H Q => t σ H fun vs H1 => sp (vs ++ dvs) H1 Q E
def tMeth (C : Addr) (m : Str) (sp : Sp) (dvs : List V) (E : XK) (ta : TE) (t : TA) : TE := fun σ H Q => ta σ H fun x H1 => ∃ a dx fs, x = .ref a ∧ H1 a = some (.ins C dx fs) ∧ fs.lookup m = none ∧
  t σ H1 fun vs H2 => sp (x :: (vs ++ dvs)) H2 Q E
def tMake (C : Addr) (sp : Sp) (dvs : List V) (E : XK) (t : TA) : TE := fun σ H Q => t σ H fun vs H1 => ∀ x dx, H1 x = none → H1 dx = none → dx ≠ x →
  sp (.ref x :: (vs ++ dvs)) (upd (upd H1 dx (.own x)) x (.ins C dx [])) (fun v H2 => v = .non ∧ Q (.ref x) H2) E

def Binds (K : PySem.W.Frag) (fd : FuncData) (ps : List Str) (ds : List Value) : Prop :=
  ∀ (s : Shared) (us : List Value), K.In s.heap → (us ++ ds).length = ps.length → BindsTo s fd ⟨us, []⟩ (ps.zip (us ++ ds))
theorem Binds.all {K : PySem.W.Frag} {fd : FuncData} {ps : List Str} (h : ∀ us : List Value, us.length = ps.length → bindArgs fd ⟨us, []⟩ = pure (ps.zip us)) : Binds K fd ps [] := fun s us _ hl => by
  rw [List.append_nil] at hl ⊢
  exact .of_eq (h us hl)

def Passes (CX : CXT) (X : Cx) (E : XK) : Prop := ∀ (pins : List (Addr × Obj)) (σ : St) (H : Hp) (s : Shared) (e : Value) (s' : Shared), Inv X pins σ H s → CX X.stack H s E e s' → X.xe e s'

section
variable {X : Cx} {CX : CXT} {k : Nat} {f C : Addr} {fd : FuncData} {ps : List Str} {sp : Sp} {dvs : List V} {ds : List Value} {E : XK} {x m : Str} {p pos apos : Pos} {e o : Expr} {es : List Expr} {ta : TE} {t : TA}

theorem run_fn {pins : List (Addr × Obj)} {σ : St} {H : Hp} {s : Shared} {Q : VK} {us : List Value} {vs : List V} (F : FnOk X.prog X.w X.K X.mg X.base CX k f fd ps sp) (hr : Room k X.A) (hb : Binds X.K fd ps ds) (hd : Vals dvs ds) (hx : Passes CX X E)
    (I : Inv X pins σ H s) (r : Vals vs us) (h : sp (vs ++ dvs) H Q E) : wpAny (model X.prog X.w) X.A (call (.ref f) us) (EP X pins σ Q) X.xe s := by
  have r2 : Vals (vs ++ dvs) (us ++ ds) := r.append hd
  have hl : (us ++ ds).length = ps.length := by rw [← r2.length]; exact F.len _ _ _ _ h
  refine wpAny_call (codeAny_mono (F.run X.A X.stack s H ⟨us, []⟩ (us ++ ds) (vs ++ dvs) Q E hr I.env0 (hb s us I.kIn hl) r2 h) fun r s' hq => ?_)
  cases r with
  | error e => exact hx pins σ H s e s' I hq
  | ok fl =>
    cases fl with
    | ret u => exact I.after hq
    | next => exact False.elim hq
    | brk => exact False.elim hq
    | cont => exact False.elim hq

theorem pe_call (F : FnOk X.prog X.w X.K X.mg X.base CX k f fd ps sp) (hr : Room k X.A) (hg : Gl X x) (hm : X.mg x = some (.ref f)) (hk : PySem.W.keepIn X.K (.ref f) = true) (hb : Binds X.K fd ps ds) (hd : Vals dvs ds) (hx : Passes CX X E)
    (ha : PA X (e :: es) t) (hdb : (x == ("__debug__" : Str)) = false := by decide) (he : starEach (e :: es) X.env = (false, eval e X.env) :: starEach es X.env := by rfl) (hpl : (backTo pos (starEach es X.env)).any (·.1) = false := by rfl) :
    PE X (.Call (.Name x p) (e :: es) [] pos) (tCall sp dvs E t) := by
  intro pins s σ H Q I h
  refine wpAny_Call_Name_kw (ld_glob I hg hm ?_ hdb)
  refine PySem.W.callWith_K (h₀ := X.base) I.ok.mod.kin hk (thn (ha pos pins s σ H _ I h) fun us s1 ⟨vs, H1, I1, r, q⟩ => ⟨I1.kIn, ?_⟩) he hpl
  exact run_fn F hr hb hd hx I1 r q
theorem pe_meth {pl : Sem Bool} (he : PE X o ta) (c : Cls X.K C) (hm : Meth X.K C m f) (F : FnOk X.prog X.w X.K X.mg X.base CX k f fd ps sp) (hr : Room k X.A) (hb : Binds X.K fd ps ds) (hd : Vals dvs ds) (hx : Passes CX X E) (ha : PA X (e :: es) t)
    (hst : starEach (e :: es) X.env = (false, eval e X.env) :: starEach es X.env := by rfl) (hpl : (backTo pos (starEach es X.env)).any (·.1) = false := by rfl)
    (ht : eval (.Call (.Attribute o m apos) (e :: es) [] pos) X.env = (do
      let ov ← eval o X.env
      standAt apos.atName
      let (f, first) ← holding [ov] (getMethod ov m pl)
      callWith pos f first (backTo pos (starEach (e :: es) X.env)) (backToKw pos (keywordEach [] X.env))) := by rfl) :
    PE X (.Call (.Attribute o m apos) (e :: es) [] pos) (tMeth C m sp dvs E ta t) := by
  intro pins s σ H Q I h
  refine PySem.W.methodCall_KW (pl := pl) (thn (he pins s σ H _ I h) fun u s1 ⟨x, H1, I1, rx, a, dx, fs, ex, ea, l, q⟩ => ?_) ht
  subst ex
  obtain rfl : u = Value.ref a := rx
  refine getmeth_ok I1 ea c hm l ?_
  refine PySem.W.callWith_K (first := [.ref a]) (h₀ := X.base) I.ok.mod.kin hm.kp (thn (ha pos pins s1 σ H1 _ I1 q) fun us s2 ⟨vs, H2, I2, r, q2⟩ => ⟨I2.kIn, ?_⟩) hst hpl
  exact run_fn (us := .ref a :: us) (vs := .ref a :: vs) F hr hb hd hx I2 (.cons rfl r) q2
structure Mk (K : PySem.W.Frag) (C f : Addr) : Prop where
  makes : PySem.W.makesIn K C = true
  init : PySem.W.findIn K (.ref C) "__init__" = some (some (.ref f))
  fn : PySem.W.isFn K (.ref f) = true
  kp : PySem.W.keepIn K (.ref C) = true

theorem run_make {pins : List (Addr × Obj)} {σ : St} {H : Hp} {s : Shared} {Q : VK} {us : List Value} {vs : List V} (M : Mk X.K C f) (F : FnOk X.prog X.w X.K X.mg X.base CX k f fd ps sp) (hr : Room (k + 1) X.A) (hb : Binds X.K fd ps ds) (hd : Vals dvs ds)
    (hx : Passes CX X E) (I : Inv X pins σ H s) (r : Vals vs us)
    (h : ∀ x dx, H x = none → H dx = none → dx ≠ x → sp (.ref x :: (vs ++ dvs)) (upd (upd H dx (.own x)) x (.ins C dx [])) (fun v H2 => v = .non ∧ Q (.ref x) H2) E) :
    wpAny (model X.prog X.w) X.A (call (.ref C) us) (EP X pins σ Q) X.xe s := by
  have hq := h (s.heap.objs.size + 1) s.heap.objs.size (I.hok.fresh (Nat.le_succ _)) (I.hok.fresh (Nat.le_refl _)) (Nat.ne_of_lt (Nat.lt_succ_self _))
  have I2 := Inv.made (C := C) I
  have r2 : Vals (V.ref (s.heap.objs.size + 1) :: (vs ++ dvs)) (Value.ref (s.heap.objs.size + 1) :: (us ++ ds)) := .cons rfl (r.append hd)
  have hl : (Value.ref (s.heap.objs.size + 1) :: us ++ ds).length = ps.length := by
    have e := r2.length
    rw [F.len _ _ _ _ hq] at e
    exact e.symm
  refine wpAny_call (make_map (f := f) I.kIn M.makes M.init (beq_iff_eq.mp M.fn) (codeAny_mono (F.run _ X.stack _ _ ⟨Value.ref (s.heap.objs.size + 1) :: us, []⟩ (Value.ref (s.heap.objs.size + 1) :: (us ++ ds)) _ _ E (hr.make C us [])
    (I2.env0.make C us []) (hb _ (Value.ref (s.heap.objs.size + 1) :: us) I2.kIn hl) r2 hq) fun r s' hq' => ?_))
  cases r with
  | error e => exact hx pins σ _ _ e s' I2 hq'
  | ok fl =>
    cases fl with
    | ret u =>
      obtain ⟨v, H', I3, rv, ev, q3⟩ := I2.after hq'
      subst ev
      exact ⟨rv, ⟨V.ref (s.heap.objs.size + 1), H', I3, rfl, q3⟩⟩
    | next => exact False.elim hq'
    | brk => exact False.elim hq'
    | cont => exact False.elim hq'
theorem pe_make (M : Mk X.K C f) (F : FnOk X.prog X.w X.K X.mg X.base CX k f fd ps sp) (hr : Room (k + 1) X.A) (hg : Gl X x) (hm : X.mg x = some (.ref C)) (hb : Binds X.K fd ps ds) (hd : Vals dvs ds) (hx : Passes CX X E)
    (ha : PA X (e :: es) t) (hdb : (x == ("__debug__" : Str)) = false := by decide) (he : starEach (e :: es) X.env = (false, eval e X.env) :: starEach es X.env := by rfl) (hpl : (backTo pos (starEach es X.env)).any (·.1) = false := by rfl) :
    PE X (.Call (.Name x p) (e :: es) [] pos) (tMake C sp dvs E t) := by
  intro pins s σ H Q I h
  refine wpAny_Call_Name_kw (ld_glob I hg hm ?_ hdb)
  refine PySem.W.callWith_K (h₀ := X.base) I.ok.mod.kin M.kp (thn (ha pos pins s σ H _ I h) fun us s1 ⟨vs, H1, I1, r, q⟩ => ⟨I1.kIn, ?_⟩) he hpl
  exact run_make M F hr hb hd hx I1 r q
end

def PK (X : Cx) (kws : List Keyword) (t : TA) : Prop :=
  ∀ (pos : Pos) (pins : List (Addr × Obj)) (s : Shared) (σ : St) (H : Hp) (Q : List V → Hp → Prop), Inv X pins σ H s → t σ H Q → wpAny (model X.prog X.w) X.A (evalAll ((backToKw pos (keywordEach kws X.env)).map (·.2))) (AP X pins σ Q) X.xe s
section
variable {X : Cx} {CX : CXT} {k : Nat} {f C : Addr} {fd : FuncData} {ps ks : List Str} {sp : Sp} {E : XK} {x m : Str} {p pos apos kpos : Pos} {e o : Expr} {es : List Expr} {kws : List Keyword} {te ta : TE} {t tk : TA} {nm : Option Str}
theorem pk_nil : PK X [] tNil := fun _ _ _ _ H Q I h => wpAny_evalAll_nil ⟨[], H, I, .nil, h⟩
theorem pk_cons (ha : PE X e te) (hr : PK X kws t) : PK X (⟨nm, e, kpos⟩ :: kws) (tCons te t) := by
  intro pos pins s σ H Q I h
  show wpAny _ _ (evalAll ((do let v ← eval e X.env; standAt pos; pure v) :: (backToKw pos (keywordEach kws X.env)).map (·.2))) _ _ s
  refine wpAny_evalAll_cons (wpAny_bind (thn (ha pins s σ H _ I h) fun u s1 ⟨x, H1, I1, r1, q1⟩ => wpAny_bind (wpAny_standAt (wpAny_pure ?_))))
  exact thn (hr pos pins s1 σ H1 _ I1 q1) fun us s2 ⟨xs, H2, I2, r2, q2⟩ => ⟨x :: xs, H2, I2, .cons r1 r2, q2⟩

variable {g : List Value → List Value → List Value} {gV : List V → List V → List V}
end

structure FnScope (N P : List Str) (sc : Scope) : Prop where
  kind : sc.kind = .function
  co : sc.isCoroutine = false
  gen : sc.isGenerator = false
  nd : N.Nodup
  pre : N.take P.length = P
  par : ∀ x ∈ P, sc.names.lookup x = some .local ∨ sc.names.lookup x = some .cell
  nofree : ∀ y ∈ sc.names, y.2 ≠ .free

theorem bindL_out {kindOf : Str → Option NameKind} {x : Str} : ∀ {binds : List (Str × Value)} {m : Str → Option Value}, (∀ v, (x, v) ∉ binds) → bindL kindOf binds m x = m x
  | [], _, _ => rfl
  | (n, v) :: r, m, h => by
    unfold bindL
    rw [bindL_out fun w hw => h w (List.mem_cons_of_mem _ hw)]
    split
    · have : x ≠ n := by rintro rfl; exact h v List.mem_cons_self
      simp [this]
    · rfl
theorem bindC_out {kindOf : Str → Option NameKind} {x : Str} : ∀ {binds : List (Str × Value)} {m : Str → Option Value}, (∀ v, (x, v) ∉ binds) → bindC kindOf binds m x = m x
  | [], _, _ => rfl
  | (n, v) :: r, m, h => by
    unfold bindC
    rw [bindC_out fun w hw => h w (List.mem_cons_of_mem _ hw)]
    split
    · rfl
    · have : x ≠ n := by rintro rfl; exact h v List.mem_cons_self
      simp [this]
theorem bindL_get {kindOf : Str → Option NameKind} {x : Str} {v : Value} : ∀ {P : List Str} {vs : List Value} {i : Nat} {m : Str → Option Value}, P.Nodup → P[i]? = some x → vs[i]? = some v → kindOf x = some .local →
    bindL kindOf (P.zip vs) m x = some v
  | [], _, _, _, _, h, _, _ => by simp at h
  | _ :: _, [], _, _, _, _, h, _ => by simp at h
  | p :: P, w :: vs, 0, m, nd, h1, h2, hk => by
    simp at h1 h2; subst h1; subst h2
    show bindL kindOf ((p, w) :: P.zip vs) m p = _
    unfold bindL
    rw [bindL_out fun v hv => (List.nodup_cons.mp nd).1 (List.of_mem_zip hv).1, if_pos hk]
    simp
  | p :: P, w :: vs, i + 1, m, nd, h1, h2, hk => by
    show bindL kindOf ((p, w) :: P.zip vs) m x = _
    unfold bindL
    exact bindL_get (i := i) (List.nodup_cons.mp nd).2 (by simpa using h1) (by simpa using h2) hk
theorem bindC_get {kindOf : Str → Option NameKind} {x : Str} {v : Value} : ∀ {P : List Str} {vs : List Value} {i : Nat} {m : Str → Option Value}, P.Nodup → P[i]? = some x → vs[i]? = some v → kindOf x ≠ some .local →
    bindC kindOf (P.zip vs) m x = some v
  | [], _, _, _, _, h, _, _ => by simp at h
  | _ :: _, [], _, _, _, _, h, _ => by simp at h
  | p :: P, w :: vs, 0, m, nd, h1, h2, hk => by
    simp at h1 h2; subst h1; subst h2
    show bindC kindOf ((p, w) :: P.zip vs) m p = _
    unfold bindC
    rw [bindC_out fun v hv => (List.nodup_cons.mp nd).1 (List.of_mem_zip hv).1, if_neg hk]
    simp
  | p :: P, w :: vs, i + 1, m, nd, h1, h2, hk => by
    show bindC kindOf ((p, w) :: P.zip vs) m x = _
    unfold bindC
    exact bindC_get (i := i) (List.nodup_cons.mp nd).2 (by simpa using h1) (by simpa using h2) hk

def start (N : List Str) (vs : List V) : St := vs.map some ++ List.replicate (N.length - vs.length) none

def cxOf (CX : CXT) (P : Program) (w : World) (K : PySem.W.Frag) (mg : Str → Option Value) (base : Heap) (N : List Str) (qual : Str) (scope : Scope) (f : Addr) (cd : Value) (A : Around) (outer : List Env) (s : Shared) (H : Hp) (E : XK) : Cx where
  prog := P
  w := w
  K := K
  mg := mg
  base := base
  A := A.deeper (envOfC qual scope s.heap.objs.size f cd)
  N := N
  s_0 := s
  H_0 := H
  env := envOfC qual scope s.heap.objs.size f cd
  outer := outer
  stack := envOfC qual scope s.heap.objs.size f cd :: outer
  ex := []
  calm := true
  fn := fun _ => true
  pn := []
  xe := fun e s' => wpAny (model P w) (A.deeper (envOfC qual scope s.heap.objs.size f cd)) (leaving (envOfC qual scope s.heap.objs.size f cd) e) (fun _ s'' => CX outer H s E e s'') (fun e' s'' => CX outer H s E e' s'') s'

theorem cell_has {sc : Scope} {n : Nat} {x : Str} (h : sc.names.lookup x = some .cell) : ∃ c, (cellsFrom n sc.names []).lookup x = some c := by
  have q := PySem.W.cellsFrom_some sc.names n [] (.inl h)
  exact Option.isSome_iff_exists.mp q

theorem inv_start {CX : CXT} {P : Program} {w : World} {K : PySem.W.Frag} {mg : Str → Option Value} {base : Heap} {N ps : List Str} {qual : Str} {scope : Scope} {f : Addr} {cd : Value} {A : Around} {outer : List Env} {s s1 : Shared} {H : Hp} {E : XK} {us : List Value} {vs : List V}
    (S : FnScope N ps scope) (hd : A.handled = none) (e0 : Env0 P w K mg base A outer s H) (hl : vs.length = ps.length) (r : Vals vs us)
    (x : InCallC s s.heap.objs.size (bindL (envOfC qual scope s.heap.objs.size f cd).kindOf (ps.zip us) fun _ => none) (cellsFrom (s.heap.objs.size + 1) scope.names []) (bindC (envOfC qual scope s.heap.objs.size f cd).kindOf (ps.zip us) fun _ => none) s1) :
    Inv (cxOf CX P w K mg base N qual scope f cd A outer s H E) [] (start N vs) H s1 := by
  have hpl : ps.length ≤ N.length := by have := congrArg List.length S.pre; rw [List.length_take] at this; omega
  obtain ⟨h1, tk, rfl, hk⟩ := x.done
  have noA : ∀ b : Addr, b ∉ (cxOf CX P w K mg base N qual scope f cd A outer s H E).ex := fun b z => absurd (show b ∈ ([] : List Addr) from z) (by simp)
  refine ⟨⟨e0.mod, S.kind, rfl, rfl, Nat.le_refl _, fun y z c h1 h2 => ?_, fun y hy => ?_, fun y c _ h => ?_, fun _ => hd, Around.frames_deeper e0.frames, .inr ⟨rfl, rfl⟩, fun b z => absurd z (noA b), e0.bs, e0.bsz, fun b _ _ => noA b, fun b z => absurd z (noA b), e0.funs, e0.frf⟩,
    rfl, e0.bare, Un.kept hk, ⟨_, x.toInCall.ns, fun i y v h1 h2 h3 => ?_⟩, fun y c h => ⟨_, x.cell y c h⟩, e0.hok.fresh (Nat.le_refl _), fun y c h => ?_, fun p hp => absurd (show p ∈ ([] : List (Addr × Obj)) from hp) (by simp), e0.hok.kept hk, ?_⟩
  · exact name_of_addr x.apart (PySem.mem_of_lookup h1) (PySem.mem_of_lookup h2)
  · have hy : scope.names.lookup y = some .cell ∨ scope.names.lookup y = some .free := hy
    rcases hy with hy | hy
    · exact cell_has hy
    · exact absurd rfl (S.nofree _ (PySem.mem_of_lookup hy))
  · exact Nat.le_of_lt (x.above y c (PySem.mem_of_lookup h))
  · have hi : i < vs.length := by
      unfold start at h2
      by_cases hi : i < vs.length
      · exact hi
      · rw [List.getElem?_append_right (by simpa using hi)] at h2
        rw [List.getElem?_replicate] at h2
        split at h2 <;> cases h2
    have ha : vs[i]? = some v := by
      unfold start at h2
      rw [List.getElem?_append_left (by simpa using hi), List.getElem?_map] at h2
      cases e : vs[i]? with
      | none => rw [e] at h2; cases h2
      | some a => rw [e] at h2; cases h2; rfl
    obtain ⟨u, hu, rv⟩ := r.get ha
    have hp : ps[i]? = some y := by
      rw [← S.pre, List.getElem?_take_of_lt (by omega)]; exact h1
    have ndP : ps.Nodup := by rw [← S.pre]; exact S.nd.sublist (List.take_sublist _ _)
    refine ⟨u, rv, ?_⟩
    rcases S.par y (List.mem_of_getElem? hp) with k | k
    · exact .inl ⟨k, bindL_get ndP hp hu k⟩
    · obtain ⟨c, e⟩ := cell_has (n := s.heap.objs.size + 1) k
      refine .inr ⟨.inl k, c, e, ?_⟩
      have q := x.cell y c e
      rw [bindC_get ndP hp hu (by show scope.names.lookup y ≠ _; rw [k]; decide)] at q
      exact q
  · exact e0.hok.fresh (Nat.le_of_lt (x.above y c (PySem.mem_of_lookup h)))
  · unfold start
    show _ = N.length
    rw [List.length_append, List.length_map, List.length_replicate]
    omega

theorem fn_of {CX : CXT} {P : Program} {w : World} {K : PySem.W.Frag} {mg : Str → Option Value} {base : Heap} {k : Nat} {f : Addr} {name qual : Str} {params : Arguments} {body : List Stmt} {scope : Scope} {dV kV doc pm cdv ct oc : Value} {an od : Option Addr}
    {osl : Array (Option Value)} {N ps : List Str} {sp : Sp} (lk : K.lookup f = some ⟨oc, od, .func (PySem.W.fnOf name qual params body scope dV kV doc pm an cdv ct), osl⟩) (hcd : PySem.W.codeIn K cdv qual = true) (S : FnScope N ps scope)
    (len : ∀ vs H Q E, sp vs H Q E → vs.length = ps.length)
    (hbody : ∀ (A : Around) (outer : List Env) (s : Shared) (H : Hp) (vs : List V) (Q : VK) (E : XK), Room k (A.deeper (envOfC qual scope s.heap.objs.size f cdv)) → sp vs H Q E →
      ∃ t, PSs (cxOf CX P w K mg base N qual scope f cdv A outer s H E) body t ∧ t { nx := fun _ H' => Q .non H', rt := Q } (start N vs) H) :
    FnOk P w K mg base CX (k + 1) f (PySem.W.fnOf name qual params body scope dV kV doc pm an cdv ct) ps sp := by
  refine ⟨len, fun A outer s H args us vs Q E hr e0 hb r hsp => ?_⟩
  have hl := len _ _ _ _ hsp
  have KX : K.In s.heap := e0.mod.kin.keeps fun b o e => (e0.bs b o e).1
  have lim : s.heap.NoLimit := e0.mod.nolimit.keeps fun b o e => (e0.bs b o e).1
  have hkind : ∀ y ∈ ps.zip us, scope.names.lookup y.1 = some .local ∨ (scope.names.lookup y.1 = some .cell ∧ ((cellsFrom (s.heap.objs.size + 1) scope.names []).lookup y.1).isSome = true) := fun ⟨n, v⟩ hy => by
    rcases S.par n (List.of_mem_zip hy).1 with q | q
    · exact .inl q
    · exact .inr ⟨q, PySem.W.cellsFrom_some _ _ _ (.inl q)⟩
  refine codeAny_call_function hr.depth (KX _ _ lk) rfl S.co S.gen rfl (PySem.W.codeRec_of KX hcd) (hb _ _ _ _ ?_)
  refine wpAny_newFunctionEnv_cells S.kind hkind fun env he s1 x => ?_
  subst he
  refine ⟨lim.keeps x.toInCall.keep, codeAny_func ?_⟩
  obtain ⟨t, ht, hq⟩ := hbody A outer s H vs Q E (hr.deeper _) hsp
  have I : Inv (cxOf CX P w K mg base N qual scope f cdv A outer s H E) [] (start N vs) H s1 := inv_start S hr.hd e0 hl r x
  refine wpAny_mono (ht [] s1 (start N vs) H _ I hq) (fun fl s' hs => ?_) fun e s' hs => hs
  have fin : ∀ {σ' : St} {H' : Hp} {v : V} {u : Value}, Inv (cxOf CX P w K mg base N qual scope f cdv A outer s H E) [] σ' H' s' → RelV v u → Q v H' → CE outer P w H s Q u s' :=
    fun {σ' H' v u} J rv q => ⟨v, H', J.os, J.bare, J.base, J.hok, rv, q⟩
  cases fl with
  | ret u =>
    obtain ⟨v, σ', H', J, rv, q⟩ := hs
    exact fin J rv q
  | next =>
    obtain ⟨σ', H', J, q⟩ := hs
    exact fin (v := V.non) (u := Value.none) J rfl q
  | brk =>
    obtain ⟨_, _, _, q⟩ := hs
    exact False.elim q
  | cont =>
    obtain ⟨_, _, _, q⟩ := hs
    exact False.elim q
end L2

namespace L2
open PySem PySem.Spec PyProof.Rows
section
variable {X : Cx} {x : Str} {p pos : Pos} {e : Expr} {es : List Expr} {t : TA} {id T : String} {r : List V → Hp → VK → Prop}

def tCB (r : List V → Hp → VK → Prop) (t : TA) : TE := fun σ H Q => t σ H fun vs H1 => r vs H1 Q
theorem pe_callB (hc : CallR X (.builtin id) r) (hg : Gl X x) (hm : X.mg x = none) (hv : bootBuiltins x = some (.builtin id)) (ha : PA X (e :: es) t) (hn : x ≠ "__name__" := by decide) (hdb : (x == ("__debug__" : Str)) = false := by decide)
    (he : starEach (e :: es) X.env = (false, eval e X.env) :: starEach es X.env := by rfl) (hpl : (backTo pos (starEach es X.env)).any (·.1) = false := by rfl) : PE X (.Call (.Name x p) (e :: es) [] pos) (tCB r t) := by
  intro pins s σ H Q I h
  refine wpAny_Call_Name_kw (ld_blt I hg hm hv ?_ hn hdb)
  exact PyProof.Rows.callWith_builtin1 (thn (ha pos pins s σ H _ I h) fun us s1 ⟨vs, H1, I1, r1, q1⟩ => hc pins s1 σ H1 vs us Q I1 r1 q1) he hpl
theorem pe_callTy (hc : CallR X (.type T) r) (hg : Gl X x) (hm : X.mg x = none) (hv : bootBuiltins x = some (.type T)) (ha : PA X (e :: es) t) (hn : x ≠ "__name__" := by decide) (hdb : (x == ("__debug__" : Str)) = false := by decide)
    (he : starEach (e :: es) X.env = (false, eval e X.env) :: starEach es X.env := by rfl) (hpl : (backTo pos (starEach es X.env)).any (·.1) = false := by rfl) : PE X (.Call (.Name x p) (e :: es) [] pos) (tCB r t) := by
  intro pins s σ H Q I h
  refine wpAny_Call_Name_kw (ld_blt I hg hm hv ?_ hn hdb)
  exact PyProof.Rows.callWith_type1 (thn (ha pos pins s σ H _ I h) fun us s1 ⟨vs, H1, I1, r1, q1⟩ => hc pins s1 σ H1 vs us Q I1 r1 q1) he hpl
theorem pe_callTy0 (hc : CallR X (.type T) r) (hg : Gl X x) (hm : X.mg x = none) (hv : bootBuiltins x = some (.type T)) (hn : x ≠ "__name__" := by decide) (hdb : (x == ("__debug__" : Str)) = false := by decide) :
    PE X (.Call (.Name x p) [] [] pos) (tCB r tNil) := by
  intro pins s σ H Q I h
  refine wpAny_Call_Name_kw (ld_blt I hg hm hv ?_ hn hdb)
  exact PyProof.Rows.callWith_type0 (hc pins s σ H [] [] Q I .nil h)
end
end L2

namespace HT
open PySem PyProof.Rows

section
open PySem.SeqAt
open PySem.AutoSeq1 (wpAny_loadPart')
open PySem.MeetsSeq PySem.MeetsSeq2 PySem.MeetsSeq3

end

section
variable {prog : Program} {w : World} {A : Around} {E : Value → Shared → Prop} {s : Shared}

def sIx (n d : Nat) : Option Int → Nat
  | none => d
  | some v => if v < 0 then (v + (n : Int)).toNat else min v.toNat n
theorem sIx_none (n d : Nat) : sIx n d none = d := rfl
theorem sIx_nat (n d k : Nat) : sIx n d (some (k : Int)) = min k n := by
  show (if (k : Int) < 0 then ((k : Int) + (n : Int)).toNat else min (k : Int).toNat n) = min k n
  rw [if_neg (by omega), Int.toNat_natCast]
end
end HT

namespace L2
open PySem PySem.Spec PyProof.Rows

abbrev TO := St → Hp → (Option Int → Hp → Prop) → Prop
def PO (X : Cx) (e : Option Expr) (t : TO) : Prop :=
  ∀ (pins : List (Addr × Obj)) (s : Shared) (σ : St) (H : Hp) (Q : Option Int → Hp → Prop), Inv X pins σ H s → t σ H Q →
    wpAny (model X.prog X.w) X.A (evalPart e X.env) (fun u s' => ∃ o H', Inv X pins σ H' s' ∧ IsPart u o ∧ Q o H') X.xe s
def tNoPart : TO := fun _ H Q => Q none H
def tPart (t : TE) : TO := fun σ H Q => t σ H fun x H1 => ∃ i, x = .int i ∧ Q (some i) H1

section
variable {X : Cx} {e : Expr} {te : TE} {lo hi : Option Expr} {tl th : TO} {pos p2 : Pos}

theorem po_none : PO X none tNoPart := by
  intro pins s σ H Q I h
  rw [evalPart_none]
  exact wpAny_pure ⟨none, H, I, .none, h⟩
theorem po_some (h : PE X e te) : PO X (some e) (tPart te) := by
  intro pins s σ H Q I hw
  rw [evalPart_some]
  refine thn (h pins s σ H _ I hw) fun u s1 ⟨x, H1, I1, r1, q1⟩ => ?_
  obtain ⟨i, rfl, q⟩ := q1
  obtain ⟨t, rfl⟩ := r1
  exact ⟨some i, H1, I1, .int i t, q⟩

def SlR (X : Cx) (r : V → Option Int → Option Int → Hp → VK → Prop) : Prop :=
  ∀ (pins : List (Addr × Obj)) (s : Shared) (σ : St) (H : Hp) (x : V) (v vl vu : Value) (lo hi : Option Int) (sl : Addr) (Q : VK), Inv X pins σ H s → RelV x v → s.heap.IsSliceOf sl vl vu .none → IsPart vl lo → IsPart vu hi → r x lo hi H Q →
    ∃ T id, typeLookup (.type T) "__getitem__" = pure (some (.builtin id)) ∧ s.TypeIs v T ∧ wpAny (model X.prog X.w) X.A (getItem v (.ref sl)) (EP X pins σ Q) X.xe s
def tSl (r : V → Option Int → Option Int → Hp → VK → Prop) (te : TE) (tl th : TO) : TE := fun σ H Q => te σ H fun x H1 => tl σ H1 fun l H2 => th σ H2 fun u H3 => r x l u H3 Q
theorem pe_slice {r : V → Option Int → Option Int → Hp → VK → Prop} (hr : SlR X r) (he : PE X e te) (hl : PO X lo tl) (hu : PO X hi th) : PE X (.Subscript e (.Slice lo hi none p2) pos) (tSl r te tl th) := by
  intro pins s σ H Q I h
  refine Subscript_ (thn (he pins s σ H _ I h) fun v s1 ⟨x, H1, I1, r1, q1⟩ => ?_)
  refine wpAny_Slice (thn (hl pins s1 σ H1 _ I1 q1) fun vl s2 ⟨l, H2, I2, pl, q2⟩ => thn (hu pins s2 σ H2 _ I2 q2) fun vu s3 ⟨u, H3, I3, pu, q3⟩ => ?_)
  rw [evalPart_none]
  refine wpAny_pure ?_
  have I4 : Inv X pins σ H3 { s3 with heap := s3.heap.push { cls := .type "slice", data := .fields #[vl, vu, .none] } } := I3.kept (t' := s3.toks) fun b ob q => Heap.get?_push_of_some _ q
  obtain ⟨T, id, hT, ht, hg⟩ := hr pins { s3 with heap := s3.heap.push { cls := .type "slice", data := .fields #[vl, vu, .none] } } σ H3 x v vl vu l u s3.heap.objs.size Q I4 r1 (Heap.IsSliceOf.new ..) pl pu q3
  show wpAny (model X.prog X.w) X.A (subscriptTail e (.Slice lo hi none p2) v (.ref s3.heap.objs.size)) (EP X pins σ Q) X.xe { s3 with heap := s3.heap.push { cls := .type "slice", data := .fields #[vl, vu, .none] } }
  exact tail_any (ops := [.ref s3.heap.objs.size, v]) ht hT hg (by with_unfolding_all rfl)

def cutV (xs : List V) (lo hi : Option Int) : List V := (xs.drop (HT.sIx xs.length 0 lo)).take (HT.sIx xs.length xs.length hi - HT.sIx xs.length 0 lo)
theorem cutV_length (xs : List V) (lo hi : Option Int) : (cutV xs lo hi).length ≤ xs.length := by
  unfold cutV
  rw [List.length_take, List.length_drop]
  omega
end
end L2

namespace L2
open PySem PySem.Spec PyProof.Rows

def ixN (n : Nat) (i : Int) : Option Nat := if 0 ≤ i then (if i < n then some i.toNat else none) else if -(n : Int) ≤ i then some (i + n).toNat else none
def atI {α : Type} (xs : List α) (i : Int) : Option α := (ixN xs.length i).bind fun j => xs[j]?
theorem ixN_seq {n : Nat} {i : Int} {j : Nat} (h : ixN n i = some j) : seqIndex? i n = some j ∧ j < n ∧ -(n : Int) ≤ i ∧ i < n := by
  unfold ixN at h
  by_cases h0 : 0 ≤ i
  · rw [if_pos h0] at h
    by_cases h1 : i < n
    · rw [if_pos h1] at h
      have e : i.toNat = j := Option.some.inj h
      exact ⟨by rw [seqIndex_of h0 h1, e], by omega, by omega, h1⟩
    · rw [if_neg h1] at h; cases h
  · rw [if_neg h0] at h
    by_cases h1 : -(n : Int) ≤ i
    · rw [if_pos h1] at h
      have e : (i + n).toNat = j := Option.some.inj h
      exact ⟨by rw [seqIndex_neg (by omega) h1, e], by omega, h1, by omega⟩
    · rw [if_neg h1] at h; cases h
theorem atI_get {α : Type} {xs : List α} {i : Int} {v : α} (h : atI xs i = some v) : ∃ j, seqIndex? i xs.length = some j ∧ xs[j]? = some v ∧ j < xs.length ∧ -(xs.length : Int) ≤ i ∧ i < xs.length := by
  unfold atI at h
  cases e : ixN xs.length i with
  | none => rw [e] at h; cases h
  | some j =>
    rw [e] at h
    obtain ⟨h1, h2, h3, h4⟩ := ixN_seq e
    exact ⟨j, h1, h, h2, h3, h4⟩
theorem atI_nat {α : Type} {xs : List α} {j : Nat} {v : α} (h : xs[j]? = some v) : atI xs (j : Int) = some v := by
  have hj : j < xs.length := (List.getElem?_eq_some_iff.mp h).1
  have e : ixN xs.length (j : Int) = some j := by
    unfold ixN
    rw [if_pos (by omega), if_pos (by omega)]; simp
  unfold atI; rw [e]; exact h
theorem atI_last {α : Type} (xs : List α) (v : α) : atI (xs ++ [v]) (-1) = some v := by
  have hl : (xs ++ [v]).length = xs.length + 1 := by simp
  have e : ixN (xs ++ [v]).length (-1) = some xs.length := by
    unfold ixN
    rw [hl, if_neg (by decide), if_pos (by omega)]
    congr 1
    omega
  unfold atI
  rw [e]
  show (xs ++ [v])[xs.length]? = some v
  simp

def PlainIx (b : Expr) : Prop := ∀ o i, subscripted b false o i = operate [o, i] (getItem o i)
def IxR (X : Cx) (r : R2) : Prop :=
  ∀ (value slice : Expr) (pins : List (Addr × Obj)) (s : Shared) (σ : St) (H : Hp) (x y : V) (v u : Value) (Q : VK), Inv X pins σ H s → RelV x v → RelV y u → r x y H Q →
    subscripted slice false v u = operate [v, u] (getItem v u) → wpAny (model X.prog X.w) X.A (subscriptTail value slice v u) (EP X pins σ Q) X.xe s
def MtR (X : Cx) (id : String) (r : V → List V → Hp → VK → Prop) : Prop :=
  ∀ (pins : List (Addr × Obj)) (s : Shared) (σ : St) (H : Hp) (x : V) (xs : List V) (v : Value) (us : List Value) (Q : VK), Inv X pins σ H s → RelV x v → Vals xs us → r x xs H Q →
    wpAny (model X.prog X.w) X.A (call (.builtin id) (v :: us)) (EP X pins σ Q) X.xe s
section
variable {X : Cx} {a b : Expr} {ta tb : TE} {pos : Pos}
theorem pe_ix {r : R2} (hr : IxR X r) (ha : PE X a ta) (hb : PE X b tb) (hs : PlainIx b) : PE X (.Subscript a b pos) (tOp r ta tb) := by
  intro pins s σ H Q I h
  exact Subscript_ (binT ha hb I h fun v u s2 x y H2 I2 rx ry q => hr a b pins s2 σ H2 x y v u Q I2 rx ry q (hs _ _))

def rIxL (K : PySem.W.Frag) : R2 := fun x y H Q => ∃ p xs i v, x = .ref p ∧ y = .int i ∧ SqL K H p xs ∧ atI xs i = some v ∧ Q v H
def rIxT (K : PySem.W.Frag) : R2 := fun x y H Q => ∃ p xs i v, x = .ref p ∧ y = .int i ∧ SqT K H p xs ∧ atI xs i = some v ∧ Q v H
theorem ix_list : IxR X (rIxL X.K) := by
  intro value slice pins s σ H x y v u Q I rx ry h hs
  obtain ⟨p, xs, i, z, rfl, rfl, hq, he, q⟩ := h
  cases rx
  obtain ⟨t, rfl⟩ := ry
  obtain ⟨its, r, pl, hz⟩ := I.list hq
  obtain ⟨j, h1, h2, h3, h4, h5⟩ := atI_get he
  obtain ⟨w, ew, rw'⟩ := r.get h2
  have hl := r.length
  have hn := line63
  have fin : EP X pins σ Q w s := ⟨z, H, I, rw', q⟩
  by_cases h0 : 0 ≤ i
  · have hj : i.toNat = j := by
      rw [seqIndex_of h0 h5] at h1
      exact Option.some.inj h1
    exact item_listR pl.isList h0 (by omega) (by rw [hj]; simpa using ew) fin hs
  · have hj : (i + (its.toArray.size : Int)).toNat = j := by
      rw [seqIndex_neg (by omega) h4] at h1
      rw [List.size_toArray, ← hl]
      exact Option.some.inj h1
    exact subscriptTail_builtinR (x := w) pl.isList.typeIs slot_list_getitem.lookup
      (wpAny_getItem_list_neg (Q := fun r s' => r = w ∧ EP X pins σ Q r s') pl.isList (by omega) (by rw [List.size_toArray] <;> omega) (by omega) (by rw [hj]; simpa using ew) ⟨rfl, fin⟩) hs
theorem ix_tup : IxR X (rIxT X.K) := by
  intro value slice pins s σ H x y v u Q I rx ry h hs
  obtain ⟨p, xs, i, z, rfl, rfl, hq, he, q⟩ := h
  cases rx
  obtain ⟨t, rfl⟩ := ry
  obtain ⟨its, r, pl, hz⟩ := I.tuple hq
  obtain ⟨j, h1, h2, h3, h4, h5⟩ := atI_get he
  obtain ⟨w, ew, rw'⟩ := r.get h2
  have hl := r.length
  have hn := line63
  have fin : EP X pins σ Q w s := ⟨z, H, I, rw', q⟩
  exact subscriptTail_builtinR (x := w) pl.typeIs slot_tuple_getitem.lookup
    (getItem_tuple (j := j) (Q := fun r s' => r = w ∧ EP X pins σ Q r s') pl (by omega) (by omega) (by rw [List.size_toArray, ← hl]; exact h1) (by simpa using ew) ⟨rfl, fin⟩) hs
theorem mapSeq_set (its : List Value) (n j : Nat) (u : Value) : Obj.mapSeq (·.setIfInBounds j u) { cls := .type "list", data := .seq its.toArray n } = { cls := .type "list", data := .seq (its.set j u).toArray n } := by
  simp [Obj.mapSeq]
theorem Inv.lst {pins : List (Addr × Obj)} {σ : St} {H : Hp} {s : Shared} {p : Addr} {xs : List V} (I : Inv X pins σ H s) (h : H p = some (.lst xs)) :
    ∃ (its : List Value) (n : Nat), Vals xs its ∧ s.heap.get? p = some { cls := .type "list", data := .seq its.toArray n } ∧ xs.length ≤ sizeLine := by
  obtain ⟨z, its, n, r, e⟩ := I.hok p _ h
  exact ⟨its, n, r, e, z⟩
theorem Inv.lstUpd {pins : List (Addr × Obj)} {σ : St} {H : Hp} {s : Shared} {p : Addr} {xs ys : List V} {its its' : List Value} {n n' : Nat} {f : Obj → Obj} (I : Inv X pins σ H s) (h : H p = some (.lst xs))
    (ho : s.heap.get? p = some { cls := .type "list", data := .seq its.toArray n }) (hf : f { cls := .type "list", data := .seq its.toArray n } = { cls := .type "list", data := .seq its'.toArray n' }) (r : Vals ys its') (hz : ys.length ≤ sizeLine) (t : Nat) :
    Inv X pins σ (upd H p (.lst ys)) { s with heap := s.heap.update p f, toks := t } := by
  have e : (s.heap.update p f).get? p = some { cls := .type "list", data := .seq its'.toArray n' } := by
    rw [Heap.get?_update_self f ho (by rw [hf] <;> rfl), hf]
  refine I.write (x := p) (e := p) (by rw [h]; trivial) (.inl rfl) (fun b u hb q => (Heap.get?_update_other _ _ (Ne.symm hb)).trans q) ⟨_, e⟩ ?_
  exact ⟨hz, its', n', r, e⟩
def rSetL : V → V → V → Hp → (Hp → Prop) → Prop := fun o i v H Q => ∃ p xs k j, o = .ref p ∧ i = .int k ∧ H p = some (.lst xs) ∧ ixN xs.length k = some j ∧ Q (upd H p (.lst (xs.set j v)))
theorem set_list : PSet X rSetL := by
  intro pins s σ H o i v ov iv u Q I ro ri rv h
  obtain ⟨p, xs, k, j, rfl, rfl, hp, hj, q⟩ := h
  cases ro
  obtain ⟨t, rfl⟩ := ri
  obtain ⟨its, n, r, ho, hz⟩ := I.lst hp
  obtain ⟨h1, h2, h3, h4⟩ := ixN_seq hj
  have hl := r.length
  have hn := line63
  have I' : Inv X pins σ (upd H p (.lst (xs.set j v))) { s with heap := s.heap.update p (Obj.mapSeq (·.setIfInBounds j u)) } :=
    I.lstUpd hp ho (mapSeq_set its n j u) (r.set rv j) (by rw [List.length_set]; exact hz) s.toks
  by_cases h0 : 0 ≤ k
  · have hk : k.toNat = j := by
      rw [seqIndex_of h0 h4] at h1
      exact Option.some.inj h1
    exact PySem.W.ki_setAt ho h0 (by omega) (by rw [List.size_toArray, ← hl]; exact h4) (by rw [hk]; exact ⟨_, I', q⟩)
  · have hk : (k + (its.toArray.size : Int)).toNat = j := by
      rw [seqIndex_neg (by omega) h3] at h1
      rw [List.size_toArray, ← hl]
      exact Option.some.inj h1
    exact PySem.W.ki_setBack ho (by omega) (by rw [List.size_toArray, ← hl]; exact h3) (by omega) (by rw [hk]; exact ⟨_, I', q⟩)

theorem slice_bounds (lo hi : Option Int) (n : Nat) : (sliceBounds lo hi none n).1 = ((HT.sIx n 0 lo : Nat) : Int) ∧ (sliceBounds lo hi none n).2.1 = ((HT.sIx n n hi : Nat) : Int) ∧ (sliceBounds lo hi none n).2.2 = 1 := by
  refine ⟨?_, ?_, rfl⟩
  · cases lo with
    | none => simp [sliceBounds, HT.sIx]
    | some i =>
      simp only [sliceBounds, HT.sIx, Option.getD_none, show (1 : Int) > 0 by decide, if_true]
      by_cases h : i < 0
      · simp only [h, if_true] <;> omega
      · simp only [h, if_false] <;> omega
  · cases hi with
    | none => simp [sliceBounds, HT.sIx]
    | some i =>
      simp only [sliceBounds, HT.sIx, Option.getD_none, show (1 : Int) > 0 by decide, if_true]
      by_cases h : i < 0
      · simp only [h, if_true] <;> omega
      · simp only [h, if_false] <;> omega
theorem slicePick_cut (its : List Value) (lo hi : Option Int) : slicePick its.toArray lo hi none = ((its.drop (HT.sIx its.length 0 lo)).take (HT.sIx its.length its.length hi - HT.sIx its.length 0 lo)).toArray := by
  obtain ⟨h1, h2, h3⟩ := slice_bounds lo hi its.toArray.size
  unfold slicePick
  rw [h1, h2, h3]
  simp only [sliceRange_one, pick_run, List.size_toArray] <;> rfl
def rSlL (K : PySem.W.Frag) : V → Option Int → Option Int → Hp → VK → Prop := fun x lo hi H Q => ∃ a xs, x = .ref a ∧ SqL K H a xs ∧ ∀ p, H p = none → Q (.ref p) (upd H p (.lst (cutV xs lo hi)))
theorem sl_list : SlR X (rSlL X.K) := by
  intro pins s σ H x v vl vu lo hi sl Q I rx hs pl pu h
  obtain ⟨a, xs, rfl, hx, q⟩ := h
  cases rx
  obtain ⟨its, r, ht, hz⟩ := I.list hx
  have hlen := r.length
  refine ⟨"list", _, slot_list_getitem.lookup, ht.isList.typeIs, ?_⟩
  refine wpAny_getItem_list_slice ht.isList hs pl pu .none (by simp) ?_ (by rw [List.size_toArray] <;> omega)
  rw [slicePick_cut, ← hlen]
  refine ⟨.ref s.heap.objs.size, _, I.laid (t' := s.toks) (o := .lst (cutV xs lo hi)) (fun b ob q => Heap.get?_push_of_some _ q) (Nat.le_refl _) ?_, rfl, q _ (I.hok.fresh (Nat.le_refl _))⟩
  exact ⟨Nat.le_trans (cutV_length xs lo hi) hz, _, 0, (r.drop (HT.sIx xs.length 0 lo)).take (HT.sIx xs.length xs.length hi - HT.sIx xs.length 0 lo), Heap.get?_push_size _ rfl⟩

def flatV : V → Bool
  | .non => true
  | .bl _ => true
  | .int _ => true
  | .str _ => true
  | _ => false
def eqV : V → V → Bool
  | .non, .non => true
  | .bl a, .bl b => a == b
  | .bl a, .int b => (if a then 1 else 0) == b
  | .int a, .bl b => a == (if b then 1 else 0)
  | .int a, .int b => a == b
  | .str a, .str b => a == b
  | _, _ => false
theorem eqAt_V {A : Around} {s : Shared} {y x : V} {u v : Value} (ry : RelV y u) (rx : RelV x v) (fy : flatV y = true) (fx : flatV x = true) : SeqAt.EqAt A s u v (eqV y x) := by
  cases y with
  | non =>
    cases ry
    cases x with
    | non => cases rx; exact SeqAt.EqAt.same _
    | bl b => cases rx; exact SeqAt.EqAt.none_bool b
    | int b => obtain ⟨t, rfl⟩ := rx; exact SeqAt.EqAt.none_int b t
    | str b => obtain ⟨t, rfl⟩ := rx; exact SeqAt.EqAt.none_str b t
    | _ => exact absurd (show false = true from fx) Bool.false_ne_true
  | bl a =>
    cases ry
    cases x with
    | non => cases rx; exact SeqAt.EqAt.bool_none a
    | bl b => cases rx; exact SeqAt.EqAt.bool_bool a b
    | int b => obtain ⟨t, rfl⟩ := rx; exact SeqAt.EqAt.bool_int a b t
    | str b => obtain ⟨t, rfl⟩ := rx; exact SeqAt.EqAt.bool_str a b t
    | _ => exact absurd (show false = true from fx) Bool.false_ne_true
  | int a =>
    obtain ⟨t', rfl⟩ := ry
    cases x with
    | non => cases rx; exact SeqAt.EqAt.int_none a t'
    | bl b => cases rx; exact SeqAt.EqAt.int_bool a t' b
    | int b => obtain ⟨t, rfl⟩ := rx; exact SeqAt.EqAt.int_int a t' b t
    | str b => obtain ⟨t, rfl⟩ := rx; exact SeqAt.EqAt.int_str a t' b t
    | _ => exact absurd (show false = true from fx) Bool.false_ne_true
  | str a =>
    obtain ⟨t', rfl⟩ := ry
    cases x with
    | non => cases rx; exact SeqAt.EqAt.str_none a t'
    | bl b => cases rx; exact SeqAt.EqAt.str_bool a t' b
    | int b => obtain ⟨t, rfl⟩ := rx; exact SeqAt.EqAt.str_int a t' b t
    | str b => obtain ⟨t, rfl⟩ := rx; exact SeqAt.EqAt.str_str a t' b t
    | _ => exact absurd (show false = true from fx) Bool.false_ne_true
  | _ => exact absurd (show false = true from fy) Bool.false_ne_true
def eqU (x : V) (u : Value) : Bool := match u with
  | .none => eqV .non x
  | .bool b => eqV (.bl b) x
  | .int i _ => eqV (.int i) x
  | .str z _ => eqV (.str z) x
  | _ => false
theorem eqU_of {x y : V} {u : Value} (r : RelV y u) (f : flatV y = true) : eqU x u = eqV y x := by
  cases y with
  | non => cases r; rfl
  | bl b => cases r; rfl
  | int i => obtain ⟨t, rfl⟩ := r; rfl
  | str z => obtain ⟨t, rfl⟩ := r; rfl
  | _ => exact absurd (show false = true from f) Bool.false_ne_true
theorem any_eqU {x : V} : ∀ {xs : List V} {us : List Value}, Vals xs us → xs.all flatV = true → us.any (eqU x) = xs.any fun y => eqV y x
  | _, _, .nil, _ => rfl
  | y :: xs, u :: us, .cons r t, f => by
    rw [List.all_cons, Bool.and_eq_true] at f
    rw [List.any_cons, List.any_cons, eqU_of r f.1, any_eqU t f.2]
theorem mem_eqAt {A : Around} {s : Shared} {x : V} {v : Value} (rx : RelV x v) (fx : flatV x = true) : ∀ {xs : List V} {us : List Value}, Vals xs us → xs.all flatV = true → ∀ u ∈ us, SeqAt.EqAt A s u v (eqU x u)
  | _, _, .nil, _ => fun u hu => by cases hu
  | y :: xs, u :: us, .cons r t, f => fun u' hu => by
    rw [List.all_cons, Bool.and_eq_true] at f
    rcases List.mem_cons.mp hu with rfl | hu
    · rw [eqU_of r f.1]; exact eqAt_V r rx f.1 fx
    · exact mem_eqAt rx fx t f.2 u' hu
def inV (x : V) (xs : List V) : Bool := xs.any fun y => eqV y x
def rIn (K : PySem.W.Frag) (neg : Bool) : R2 := fun x y H Q => ∃ p xs, y = .ref p ∧ (SqL K H p xs ∨ SqT K H p xs) ∧ flatV x = true ∧ xs.all flatV = true ∧ Q (.bl (if neg then !inV x xs else inV x xs)) H
theorem op_in_seq : OpR X (compareOp .In) (rIn X.K false) := by
  intro pins s σ H x y v u Q I rx ry h
  obtain ⟨p, xs, rfl, hq, fx, fs, q⟩ := h
  cases ry
  rcases hq with hq | hq
  · obtain ⟨its, r, pl, hz⟩ := I.list hq
    refine SeqAt.in_listAt (eqU x) pl.isList (fun w hw => mem_eqAt rx fx r fs w (by simpa using hw)) ⟨.bl _, H, I, rfl, ?_⟩
    rw [show its.toArray.any (eqU x) = its.any (eqU x) by simp, any_eqU r fs]
    exact q
  · obtain ⟨its, r, pl, hz⟩ := I.tuple hq
    refine SeqAt.in_tupleAt (eqU x) pl (fun w hw => mem_eqAt rx fx r fs w (by simpa using hw)) ⟨.bl _, H, I, rfl, ?_⟩
    rw [show its.toArray.any (eqU x) = its.any (eqU x) by simp, any_eqU r fs]
    exact q
theorem op_notIn_seq : OpR X (compareOp .NotIn) (rIn X.K true) := by
  intro pins s σ H x y v u Q I rx ry h
  obtain ⟨p, xs, rfl, hq, fx, fs, q⟩ := h
  cases ry
  rcases hq with hq | hq
  · obtain ⟨its, r, pl, hz⟩ := I.list hq
    refine SeqAt.notIn_listAt (eqU x) pl.isList (fun w hw => mem_eqAt rx fx r fs w (by simpa using hw)) ⟨.bl _, H, I, rfl, ?_⟩
    rw [show its.toArray.any (eqU x) = its.any (eqU x) by simp, any_eqU r fs]
    exact q
  · obtain ⟨its, r, pl, hz⟩ := I.tuple hq
    refine SeqAt.notIn_tupleAt (eqU x) pl (fun w hw => mem_eqAt rx fx r fs w (by simpa using hw)) ⟨.bl _, H, I, rfl, ?_⟩
    rw [show its.toArray.any (eqU x) = its.any (eqU x) by simp, any_eqU r fs]
    exact q
theorem call_len_seq : CallR X (.builtin "len") (fun xs H Q => ∃ p ys, xs = [.ref p] ∧ (SqL X.K H p ys ∨ SqT X.K H p ys) ∧ Q (.int ys.length) H) := by
  intro pins s σ H xs us Q I r h
  obtain ⟨p, ys, rfl, hq, q⟩ := h
  obtain ⟨u, rfl, rx⟩ := vals1 r
  cases rx
  have hn := line63
  rcases hq with hq | hq
  · obtain ⟨its, r', pl, hz⟩ := I.list hq
    have hlen := r'.length
    exact Calls.call_len_list pl.isList (by simp only [List.size_toArray] <;> omega) ⟨.int ys.length, H, I.tok _, ⟨s.toks + 1, by rw [List.size_toArray, hlen]⟩, q⟩
  · obtain ⟨its, r', pl, hz⟩ := I.tuple hq
    have hlen := r'.length
    exact len_tuple pl (by simp only [List.size_toArray] <;> omega) ⟨.int ys.length, H, I.tok _, ⟨s.toks + 1, by rw [List.size_toArray, hlen]⟩, q⟩
theorem call_list_of : CallR X (.type "list") (fun xs H Q => ∃ p ys, xs = [.ref p] ∧ (SqL X.K H p ys ∨ SqT X.K H p ys) ∧ ∀ l, H l = none → Q (.ref l) (upd H l (.lst ys))) := by
  intro pins s σ H xs us Q I r h
  obtain ⟨p, ys, rfl, hq, q⟩ := h
  obtain ⟨u, rfl, rx⟩ := vals1 r
  cases rx
  have fin : ∀ (its : List Value), Vals ys its → ys.length ≤ sizeLine → ∀ (h' : Heap) (c' : Nat), (∀ b o', s.heap.get? b = some o' → h'.get? b = some o') →
      h'.get? s.heap.objs.size = some { cls := .type "list", dict := none, data := .seq its.toArray c', slots := #[] } → EP X pins σ Q (.ref s.heap.objs.size) { s with heap := h' } := fun its r' hz h' c' kp e =>
    ⟨.ref s.heap.objs.size, _, I.laid (t' := s.toks) kp (Nat.le_refl _) (show ObjOk X.prog X.w _ h' _ (.lst ys) from ⟨hz, its, c', r', e⟩), rfl, q _ (I.hok.fresh (Nat.le_refl _))⟩
  rcases hq with hq | hq
  · obtain ⟨its, r', pl, hz⟩ := I.list hq
    have hlen := r'.length
    obtain ⟨o, ho, hc, n, hd⟩ := pl.isList
    exact call_list_seq p (.inl rfl) ho hc hd (fun h' c' kp e => fin its r' hz h' c' kp e) (by simp only [List.size_toArray] <;> omega)
  · obtain ⟨its, r', pl, hz⟩ := I.tuple hq
    have hlen := r'.length
    obtain ⟨o, ho, hc, n, hd⟩ := pl
    exact call_list_seq p (.inr rfl) ho hc hd (fun h' c' kp e => fin its r' hz h' c' kp e) (by simp only [List.size_toArray] <;> omega)
def tyV (K : PySem.W.Frag) (T : String) (x : V) (H : Hp) : Prop := match x with
  | .str _ => T = "str"
  | .int _ => T = "int"
  | .ref p => (T = "list" ∧ ∃ xs, SqL K H p xs) ∨ (T = "tuple" ∧ ∃ o, K.lookup p = some o ∧ o.cls = .type "tuple" ∧ o.dict = none) ∨
      (T = "dict" ∧ ((∃ kvs, H p = some (.dK kvs)) ∨ ∃ kvs, H p = some (.dT kvs))) ∨ (T = "set" ∧ ∃ S n, H p = some (.set S n))
  | _ => False
theorem tyV_is {pins : List (Addr × Obj)} {σ : St} {H : Hp} {s : Shared} {T : String} {x : V} {v : Value} (I : Inv X pins σ H s) (r : RelV x v) (ty : tyV X.K T x H) :
    s.TypeIs v T ∧ ∀ a, v = .ref a → ∃ ob, s.heap.get? a = some ob ∧ ob.dict = none := by
  cases x with
  | str z =>
    obtain ⟨t, rfl⟩ := r
    cases (show T = "str" from ty)
    exact ⟨typeIs_str s z t, fun _ e => nomatch e⟩
  | int i =>
    obtain ⟨t, rfl⟩ := r
    cases (show T = "int" from ty)
    exact ⟨typeIs_int s i t, fun _ e => nomatch e⟩
  | ref p =>
    cases r
    rcases ty with ⟨rfl, xs, hq⟩ | ⟨rfl, o, hk, hc, hd⟩ | ⟨rfl, hk⟩ | ⟨rfl, S, n, hk⟩
    · obtain ⟨its, _, pl, _⟩ := I.list hq
      refine ⟨pl.isList.typeIs, fun a e => ?_⟩
      cases e
      obtain ⟨o, n, e, c, hd, _⟩ := pl
      exact ⟨o, e, hd⟩
    · refine ⟨⟨o, I.kIn p o hk, hc⟩, fun a e => ?_⟩
      cases e
      exact ⟨o, I.kIn _ o hk, hd⟩
    · have z : ∃ o, s.heap.get? p = some o ∧ o.ExactDict := by
        rcases hk with ⟨kvs, hk⟩ | ⟨kvs, hk⟩
        · obtain ⟨_, _, _, _, o, _, _, e, ex, _⟩ := I.hok p _ hk
          exact ⟨o, e, ex⟩
        · obtain ⟨_, _, _, _, o, _, _, e, ex, _⟩ := I.hok p _ hk
          exact ⟨o, e, ex⟩
      obtain ⟨o, e, ex⟩ := z
      refine ⟨⟨o, e, ex.1⟩, fun a e2 => ?_⟩
      cases e2
      exact ⟨o, e, ex.2.1⟩
    · obtain ⟨o, _, _, _, e, ex, _⟩ := I.hok p _ hk
      refine ⟨⟨o, e, ex.1⟩, fun a e2 => ?_⟩
      cases e2
      exact ⟨o, e, ex.2.1⟩
  | _ => exact False.elim ty
def tBM (K : PySem.W.Frag) (T : String) (r : V → List V → Hp → VK → Prop) (to : TE) (t : TA) : TE := fun σ H Q => to σ H fun x H1 => tyV K T x H1 ∧ t σ H1 fun xs H2 => r x xs H2 Q
variable {o e : Expr} {es : List Expr} {to : TE} {t : TA} {name : Str} {apos cpos : Pos} {T id : String} {r : V → List V → Hp → VK → Prop}
theorem pe_bm (pa : PlainAttrs T) (slot : Slot T name id) (hty : typeOf (.builtin id) = pure (.type "method_descriptor")) (hm : MtR X id r) (ho : PE X o to) (ha : PA X (e :: es) t)
    (hbase : attributeBase o name X.env (eval o X.env) = eval o X.env := by rfl)
    (hfew : ((backTo cpos (starEach (e :: es) X.env)).all (fun x => !x.1) && (backToKw cpos (keywordEach [] X.env)).all (fun x => x.1.isSome)
      && decide ((e :: es).length + ([] : List Keyword).length + (if ([] : List Keyword).isEmpty then 0 else 1) < 30)) = true := by rfl)
    (hline : (apos.endLine == cpos.line) = true := by rfl) (hs : starEach (e :: es) X.env = (false, eval e X.env) :: starEach es X.env := by rfl) (hplain : (backTo cpos (starEach es X.env)).any (·.1) = false := by rfl) :
    PE X (.Call (.Attribute o name apos) (e :: es) [] cpos) (tBM X.K T r to t) := by
  intro pins s σ H Q I h
  refine wpAny_Call_method_late hbase hfew hline rfl (thn (ho pins s σ H _ I h) fun v s1 ⟨x, H1, I1, r1, ty, q1⟩ => ?_)
  obtain ⟨h1, h2⟩ := tyV_is I1 r1 ty
  refine ⟨T, id, pa, slot, hty, h1, h2, ?_⟩
  have hA := ha cpos pins s1 σ H1 _ I1 q1
  rw [hs] at hA ⊢
  refine Calls.callWith_builtin (by show (false || (backTo cpos (starEach es X.env)).any (·.1)) = false; rw [hplain] <;> rfl) (Calls.evalArgs_plain ?_)
  exact thn hA fun us s2 ⟨vs, H2, I2, r2, q2⟩ => hm pins s2 σ H2 x vs v us Q I2 r1 r2 q2
end
end L2

namespace L2
open PySem PySem.Spec PyProof.Rows

def MtM (X : Cx) (id : String) (r : V → List V → Hp → VK → Prop) : Prop :=
  ∀ (pins : List (Addr × Obj)) (s : Shared) (σ : St) (H : Hp) (x : V) (xs : List V) (v : Value) (us : List Value) (Q : VK), Inv X pins σ H s → RelV x v → Vals xs us → r x xs H Q →
    wpAny (model X.prog X.w) X.A (call (.builtin id) (v :: us)) (EP X pins σ Q) X.xe s

theorem Vals.one : ∀ {x : V} {us : List Value}, Vals [x] us → ∃ u, us = [u] ∧ RelV x u
  | _, _, .cons r .nil => ⟨_, rfl, r⟩
theorem Vals.zero : ∀ {us : List Value}, Vals [] us → us = []
  | _, .nil => rfl
theorem Vals.dropLast {xs : List V} {us : List Value} (h : Vals xs us) : Vals xs.dropLast us.dropLast := by
  induction h with
  | nil => exact .nil
  | cons r t ih =>
    cases t with
    | nil => exact .nil
    | cons q t' => exact .cons r ih
theorem Vals.eraseIdx : ∀ {xs : List V} {us : List Value} (i : Nat), Vals xs us → Vals (xs.eraseIdx i) (us.eraseIdx i)
  | _, _, _, .nil => .nil
  | _, _, 0, .cons _ t => t
  | _, _, i + 1, .cons r t => .cons r (Vals.eraseIdx i t)
theorem Vals.reverse {xs : List V} {us : List Value} (h : Vals xs us) : Vals xs.reverse us.reverse := by
  induction h with
  | nil => exact .nil
  | cons r t ih => rw [List.reverse_cons, List.reverse_cons]; exact Vals.append ih (.cons r .nil)
theorem Vals.rep {xs : List V} {us : List Value} (h : Vals xs us) : ∀ k : Nat, Vals (List.replicate k xs).flatten (List.replicate k us).flatten
  | 0 => .nil
  | k + 1 => by
    rw [List.replicate_succ, List.replicate_succ, List.flatten_cons, List.flatten_cons]
    exact Vals.append h (Vals.rep h k)
theorem len_erase {α : Type} : ∀ (l : List α) (i : Nat), (l.eraseIdx i).length ≤ l.length
  | [], _ => Nat.le_refl _
  | _ :: _, 0 => Nat.le_succ _
  | _ :: r, i + 1 => Nat.succ_le_succ (len_erase r i)
theorem foldl_rep (its : List Value) : ∀ (k : Nat) (acc : List Value),
    List.foldl (fun x1 x2 => x1 ++ x2) acc.toArray (List.replicate k its.toArray) = (acc ++ (List.replicate k its).flatten).toArray
  | 0, acc => by simp
  | k + 1, acc => by
    have e : acc.toArray ++ its.toArray = (acc ++ its).toArray := by simp
    have e2 : (acc ++ its) ++ (List.replicate k its).flatten = acc ++ (List.replicate (k + 1) its).flatten := by
      rw [List.replicate_succ, List.flatten_cons, List.append_assoc]
    rw [← e2, ← foldl_rep its k (acc ++ its), ← e, List.replicate_succ, List.foldl_cons]

section
variable {X : Cx} {pins : List (Addr × Obj)} {σ : St} {H : Hp} {s : Shared} {l b : Addr} {xs ys zs : List V}

theorem Inv.lset {its its' : List Value} {n : Nat} {f : Array Value → Array Value} {t' : Nat} (I : Inv X pins σ H s) (hH : H l = some (.lst xs))
    (e : s.heap.get? l = some { cls := .type "list", data := .seq its.toArray n }) (hf : f its.toArray = its'.toArray) (hv : Vals ys its') (hz : ys.length ≤ sizeLine) :
    Inv X pins σ (upd H l (.lst ys)) { s with heap := s.heap.update l (Obj.mapSeq f), toks := t' } := by
  have q := PySem.IsL.update e f
  rw [hf] at q
  refine I.write (x := l) (e := l) (by rw [hH]; exact trivial) (.inl rfl) (fun b' u hb hu => (Heap.get?_update_other s.heap (Obj.mapSeq f) (Ne.symm hb)).trans hu) ⟨_, q⟩ ?_
  exact ⟨hz, its', _, hv, q⟩
theorem Inv.lnew {its : List Value} {t' : Nat} (I : Inv X pins σ H s) (hv : Vals ys its) (hz : ys.length ≤ sizeLine) :
    Inv X pins σ (upd H s.heap.objs.size (.lst ys)) { s with heap := s.heap.push { cls := .type "list", data := .seq its.toArray }, toks := t' } :=
  I.laid (fun _ _ q => Heap.get?_push_of_some _ q) (Nat.le_refl _) ⟨hz, its, 0, hv, Heap.get?_push_size _ rfl⟩
theorem Inv.fresh (I : Inv X pins σ H s) : H s.heap.objs.size = none := I.hok.fresh (Nat.le_refl _)
theorem Inv.lstM (I : Inv X pins σ H s) (hH : H l = some (.lst xs)) : xs.length ≤ sizeLine ∧ ∃ (its : List Value) (n : Nat), Vals xs its ∧ xs.length = its.length ∧ s.heap.get? l = some { cls := .type "list", data := .seq its.toArray n } := by
  obtain ⟨z, its, n, r, e⟩ := I.hok l _ hH
  exact ⟨z, its, n, r, r.length, e⟩

theorem notLongL {n : Nat} (h : n ≤ sizeLine) : Builtin.List.listTooLong n = false := by
  unfold Builtin.List.listTooLong
  exact decide_eq_false (by omega)
end

section
variable {X : Cx}

def rAppend : V → List V → Hp → VK → Prop := fun x vs H Q => ∃ l xs y, x = .ref l ∧ vs = [y] ∧ H l = some (.lst xs) ∧ xs.length < sizeLine ∧ Q .non (upd H l (.lst (xs ++ [y])))
theorem mt_append : MtM X "list.append" rAppend := by
  intro pins s σ H x vs v us Q I rx rv h
  obtain ⟨l, xs, y, rfl, rfl, hH, hz, q⟩ := h
  cases rx
  obtain ⟨u, rfl, ru⟩ := rv.one
  obtain ⟨z, its, n, r, hl, e⟩ := I.lstM hH
  refine call_meets F.slot_list_append ⟨_, e, rfl⟩ F.entry_list_append (F.args_list_append_2 _ _) (PySem.list_append l its.toArray n u (by rw [List.size_toArray]; omega)) ⟨e, ?_⟩
  refine ⟨.non, _, I.lset (its' := its ++ [u]) hH e (by simp) (r.append (.cons ru .nil)) ?_, rfl, q⟩
  rw [List.length_append, List.length_singleton]
  omega

def rExtend : V → List V → Hp → VK → Prop := fun x vs H Q => ∃ l b xs zs, x = .ref l ∧ vs = [.ref b] ∧ H l = some (.lst xs) ∧ H b = some (.lst zs) ∧ xs.length + zs.length ≤ sizeLine ∧ Q .non (upd H l (.lst (xs ++ zs)))
theorem mt_extend : MtM X "list.extend" rExtend := by
  intro pins s σ H x vs v us Q I rx rv h
  obtain ⟨l, b, xs, zs, rfl, rfl, hH, hB, hz, q⟩ := h
  cases rx
  obtain ⟨u, rfl, ru⟩ := rv.one
  cases ru
  obtain ⟨z, its, n, r, hl, e⟩ := I.lstM hH
  obtain ⟨z2, its2, n2, r2, hl2, e2⟩ := I.lstM hB
  have hsz : its.toArray.size + its2.toArray.size ≤ sizeLine := by rw [List.size_toArray, List.size_toArray]; omega
  have hlong : ¬ (!its.toArray.isEmpty && Builtin.List.listTooLong (its.toArray.size + its2.toArray.size)) = true := by
    rw [notLongL hsz, Bool.and_false]
    exact Bool.false_ne_true
  refine call_meets F.slot_list_extend ⟨_, e, rfl⟩ F.entry_list_extend (F.args_list_extend_2 _ _)
    (AutoSeq1.list_extend_list_list_0 l its.toArray n b its2.toArray n2 hlong (by rw [List.size_toArray]; omega) (by omega)) ⟨e, e2, ?_⟩
  refine ⟨.non, _, I.lset (its' := its ++ its2) hH e (by simp) (r.append r2) ?_, rfl, q⟩
  rw [List.length_append]
  omega

def rPopAt : V → List V → Hp → VK → Prop := fun x vs H Q => ∃ l xs i k y, x = .ref l ∧ vs = [.int i] ∧ H l = some (.lst xs) ∧ -(2 ^ 63) ≤ i ∧ i < 2 ^ 63 ∧ seqIndex? i xs.length = some k ∧ xs[k]? = some y ∧ Q y (upd H l (.lst (xs.eraseIdx k)))
theorem mt_popAt : MtM X "list.pop" rPopAt := by
  intro pins s σ H x vs v us Q I rx rv h
  obtain ⟨l, xs, i, k, y, rfl, rfl, hH, h1, h2, hk, hy, q⟩ := h
  cases rx
  obtain ⟨u, rfl, ru⟩ := rv.one
  obtain ⟨t, rfl⟩ := ru
  obtain ⟨z, its, n, r, hl, e⟩ := I.lstM hH
  obtain ⟨w, hw, rw'⟩ := r.get hy
  refine call_meets F.slot_list_pop ⟨_, e, rfl⟩ F.entry_list_pop (F.args_list_pop_2 _ _)
    (MeetsSeq.list_pop_at l its.toArray n i t k w (fitsIndex_both h1 h2) (by rw [List.size_toArray, ← hl]; exact hk) (by rw [← Array.getElem?_toList]; exact hw) (by rw [List.size_toArray]; omega)) ⟨e, ?_⟩
  refine ⟨y, _, I.lset (its' := its.eraseIdx k) hH e ?_ (r.eraseIdx k) ?_, rw', q⟩
  · show its.toArray.eraseIdxIfInBounds k = (its.eraseIdx k).toArray
    rw [List.eraseIdxIfInBounds_toArray]
  · have := len_erase xs k
    omega

def rCat : R2 := fun x y H Q => ∃ l b xs zs, x = .ref l ∧ y = .ref b ∧ H l = some (.lst xs) ∧ H b = some (.lst zs) ∧ xs.length + zs.length ≤ sizeLine ∧ ∀ p, H p = none → Q (.ref p) (upd H p (.lst (xs ++ zs)))
theorem op_cat : OpR X (binaryOp .Add) rCat := by
  intro pins s σ H x y v u Q I rx ry h
  obtain ⟨l, b, xs, zs, rfl, rfl, hH, hB, hz, q⟩ := h
  cases rx
  cases ry
  obtain ⟨z, its, n, r, hl, e⟩ := I.lstM hH
  obtain ⟨z2, its2, n2, r2, hl2, e2⟩ := I.lstM hB
  refine PySem.P.add_list e e2 ?_ (by rw [List.size_toArray, List.size_toArray]; omega)
  have ea : its.toArray ++ its2.toArray = (its ++ its2).toArray := by simp
  rw [ea]
  exact ⟨.ref _, _, I.lnew (t' := s.toks) (r.append r2) (by rw [List.length_append]; omega), rfl, q _ I.fresh⟩
def rRep : R2 := fun x y H Q => ∃ l k xs, x = .ref l ∧ y = .int k ∧ H l = some (.lst xs) ∧ -(2 ^ 63) ≤ k ∧ k < 2 ^ 63 ∧ xs.length * k.toNat ≤ sizeLine ∧
  ∀ p, H p = none → Q (.ref p) (upd H p (.lst (List.replicate k.toNat xs).flatten))
theorem len_rep {α : Type} (xs : List α) (k : Nat) : (List.replicate k xs).flatten.length = k * xs.length := by
  induction k with
  | zero => simp
  | succ k ih => rw [List.replicate_succ, List.flatten_cons, List.length_append, ih, Nat.succ_mul, Nat.add_comm]
theorem op_rep : OpR X (binaryOp .Mult) rRep := by
  intro pins s σ H x y v u Q I rx ry h
  obtain ⟨l, k, xs, rfl, rfl, hH, h1, h2, hz, q⟩ := h
  cases rx
  obtain ⟨t, rfl⟩ := ry
  obtain ⟨z, its, n, r, hl, e⟩ := I.lstM hH
  have hlen : its.toArray.size * k.toNat ≤ sizeLine := by rw [List.size_toArray, ← hl]; exact hz
  have hcap : ¬ its.toArray.size * k.toNat > (2 ^ 63 - 1) / 8 := by
    have : (sizeLine : Nat) ≤ (2 ^ 63 - 1) / 8 := by decide
    omega
  have hfit : ¬ (!Builtin.List.listFitsIndex k) = true := by
    rw [fitsIndex_both h1 h2]
    exact Bool.false_ne_true
  have hlong : ¬ Builtin.List.listTooLong (its.toArray.size * k.toNat) = true := by
    rw [notLongL hlen]
    exact Bool.false_ne_true
  have hnew : List.foldl (fun x1 x2 => x1 ++ x2) #[] (List.replicate (if its.toArray.isEmpty = true then 0 else k.toNat) its.toArray) = (List.replicate k.toNat its).flatten.toArray := by
    have f0 : ∀ m : Nat, List.foldl (fun x1 x2 => x1 ++ x2) #[] (List.replicate m its.toArray) = (List.replicate m its).flatten.toArray := fun m => by
      have := foldl_rep its m []
      rw [List.nil_append] at this
      exact this
    rw [f0]
    cases its with
    | nil => simp
    | cons a r' => rw [if_neg (by simp)]
  refine wpAny_binaryOp_repeat_ref (T := "list") (U := "int") (by decide) ⟨_, e, rfl⟩ (fun s' => typeIs_int s' k t) noFill_list_mul F.fills_int_mul F.slot_int_rmul repeat_list F.slot_int_index.lookup
    (call_meets F.slot_int_rmul (typeIs_int s k t) F.entry_int_rmul (F.args_int_rmul_2 _ _) (int___rmul___int_list k t l its.toArray n)
      ⟨e, rfl, ⟨_, e, rfl⟩, call_meets F.slot_list_mul ⟨_, e, rfl⟩ F.entry_list_mul (F.args_list_mul_2 _ _) (AutoListH.list___mul___list_int_3 l its.toArray n k t hfit hcap hlong) ⟨e, ?_⟩⟩)
  rw [hnew]
  exact ⟨.ref _, _, I.lnew (t' := s.toks) (r.rep k.toNat) (by rw [len_rep, Nat.mul_comm]; exact hz), rfl, q _ I.fresh⟩

end

section
variable {prog : Program} {w : World} {A : Around} {E : Value → Shared → Prop} {s : Shared}
end

section
variable {X : Cx}
end
end L2

namespace L2
open PySem PySem.Spec PyProof.Rows

theorem Vals.ints : ∀ {ns : List Int} {us : List Value}, Vals (ns.map V.int) us → IntsAre us ns
  | [], us, h => by
    rw [List.map_nil] at h
    cases h
    exact IntsAre.nil
  | n :: ns, us, h => by
    rw [List.map_cons] at h
    cases h with
    | cons r t =>
      obtain ⟨k, rfl⟩ := r
      exact IntsAre.cons n k (Vals.ints t)
theorem vals_of_ints : ∀ {us : List Value} {ns : List Int}, IntsAre us ns → Vals (ns.map V.int) us
  | _, _, .nil => by rw [List.map_nil]; exact Paired.nil
  | _, _, .cons n t h => by rw [List.map_cons]; exact Paired.cons (show RelV (V.int n) (Value.int n t) from ⟨t, rfl⟩) (vals_of_ints h)
theorem Vals.strs : ∀ {xs : List Str} {us : List Value}, Vals (xs.map V.str) us → StrsAre us xs
  | [], us, h => by
    rw [List.map_nil] at h
    cases h
    exact StrsAre.nil
  | x :: xs, us, h => by
    rw [List.map_cons] at h
    cases h with
    | cons r t =>
      obtain ⟨k, rfl⟩ := r
      exact StrsAre.cons x k (Vals.strs t)
theorem Vals.bls : ∀ {bs : List Bool} {us : List Value}, Vals (bs.map V.bl) us → us = bs.map Value.bool
  | [], us, h => by
    rw [List.map_nil] at h
    cases h
    rfl
  | b :: bs, us, h => by
    rw [List.map_cons] at h
    cases h with
    | cons r t =>
      cases r
      rw [Vals.bls t, List.map_cons]
theorem Vals.ref1 {a : Addr} {us : List Value} (r : Vals [V.ref a] us) : us = [Value.ref a] := by
  cases r with
  | cons r t =>
    cases t
    cases r
    rfl
section
variable {prog : Program} {w : World} {A : Around} {E : Value → Shared → Prop} {s : Shared} {l : Addr} {its : List Value} {ns : List Int} {Q : Value → Shared → Prop}
theorem sum_raw (hh : A.handled = none) (hl : s.heap.IsList l its.toArray) (hi : IntsAre its ns)
    (h : ∀ h' tk t', (∀ b o, s.heap.get? b = some o → h'.get? b = some o) → Q (.int ns.sum t') { s with heap := h', toks := tk }) : wpAny (model prog w) A (call (.builtin "sum") [.ref l]) Q E s := by
  obtain ⟨xs, e⟩ := hi.allInts.items
  have hn : numsOf (intItems xs).toList = ns := by rw [← e]; exact hi.numsOf
  rw [nums_intItems] at hn
  rw [e] at hl
  refine PySem.sum_intListG hh hl fun h' tk t' hk => ?_
  have := h h' tk t' hk
  rw [preSum_eq, List.take_of_length_le (by simp), hn]; exact this
theorem max_raw (hh : A.handled = none) (hl : s.heap.IsList l its.toArray) (hi : IntsAre its ns) (hne : 0 < ns.length)
    (h : ∀ h' tk M t', (∀ b o, s.heap.get? b = some o → h'.get? b = some o) → M ∈ ns → (∀ a, a ∈ ns → a ≤ M) → Q (.int M t') { s with heap := h', toks := tk }) : wpAny (model prog w) A (call (.builtin "max") [.ref l]) Q E s := by
  obtain ⟨xs, e⟩ := hi.allInts.items
  have hn : numsOf (intItems xs).toList = ns := by rw [← e]; exact hi.numsOf
  rw [nums_intItems] at hn
  subst hn
  rw [e] at hl
  have hsz : 0 < xs.size := by simpa using hne
  refine PySem.max_intList hh hl hsz fun v h' tk hv hk => ?_
  obtain ⟨t, rfl⟩ := intItems_at hv
  obtain ⟨h1, h2⟩ := argBest_gt (numAt xs) (xs.size - 1)
  refine h h' tk _ t hk ?_ fun a ha => ?_
  · rw [numAt_eq]; exact PySem.getD_mem (by rw [List.length_map, Array.length_toList]; omega)
  · obtain ⟨j, hj, rfl⟩ := mem_getD ha
    rw [List.length_map, Array.length_toList] at hj
    rw [← numAt_eq]; exact h2 j (by omega)
end

section
variable {X : Cx}
def rSum (K : PySem.W.Frag) : List V → Hp → VK → Prop := fun vs H Q => ∃ (a : Addr) (ns : List Int), vs = [V.ref a] ∧ SqL K H a (ns.map V.int) ∧ Q (.int ns.sum) H
def rMax (K : PySem.W.Frag) : List V → Hp → VK → Prop := fun vs H Q => ∃ (a : Addr) (ns : List Int), vs = [V.ref a] ∧ SqL K H a (ns.map V.int) ∧ 0 < ns.length ∧ ∀ m, m ∈ ns → (∀ y, y ∈ ns → y ≤ m) → Q (.int m) H
theorem cr_sum (hc : X.calm = true) : CallR X (.builtin "sum") (rSum X.K) := by
  intro pins s σ H vs us Q I r h
  obtain ⟨a, ns, rfl, hs, q⟩ := h
  obtain ⟨its, rv, hl, _⟩ := I.list hs
  rw [Vals.ref1 r]
  exact sum_raw (I.ok.hd hc) hl.isList rv.ints fun h' tk t' hk => ⟨.int _, H, I.kept hk, ⟨_, rfl⟩, q⟩
theorem cr_max (hc : X.calm = true) : CallR X (.builtin "max") (rMax X.K) := by
  intro pins s σ H vs us Q I r h
  obtain ⟨a, ns, rfl, hs, hne, q⟩ := h
  obtain ⟨its, rv, hl, _⟩ := I.list hs
  rw [Vals.ref1 r]
  exact max_raw (I.ok.hd hc) hl.isList rv.ints hne fun h' tk m t' hk h1 h2 => ⟨.int _, H, I.kept hk, ⟨_, rfl⟩, q m h1 h2⟩
def rSorted (K : PySem.W.Frag) : List V → Hp → VK → Prop := fun vs H Q => ∃ (a : Addr) (ns : List Int), vs = [V.ref a] ∧ SqL K H a (ns.map V.int) ∧ ns.length < 64 ∧
  ∀ (ns' : List Int) (p : Addr), ns'.Perm ns → ns'.Pairwise (· ≤ ·) → H p = none → Q (.ref p) (upd H p (.lst (ns'.map V.int)))
theorem small64 {n : Nat} (h : n < 64) : n ≤ sizeLine := by rw [sizeLine_eq]; omega
theorem cr_sorted : CallR X (.builtin "sorted") (rSorted X.K) := by
  intro pins s σ H vs us Q I r h
  obtain ⟨a, ns, rfl, hs, h64, q⟩ := h
  obtain ⟨its, rv, hl, _⟩ := I.list hs
  rw [Vals.ref1 r]
  have hi := rv.ints
  refine PyProof.Rows.sorted_ints hl.isList hi (by rw [hi.length]; exact h64) fun out ns' h1 h2 h3 => ?_
  obtain ⟨ep, he'⟩ := PyProof.Rows.sortedAll_at s.heap its out
  have hlen : (ns'.map V.int).length ≤ sizeLine := by rw [List.length_map, h2.length_eq]; exact small64 h64
  exact ⟨.ref _, upd H (s.heap.objs.size + 1) (.lst (ns'.map V.int)), I.laid (t' := s.toks) (fun _ _ => PyProof.Rows.sortedAll_old) (Nat.le_succ _) ⟨hlen, out.toList, ep, vals_of_ints h1, he'⟩, rfl, q ns' _ h2 h3 (I.hok.fresh (Nat.le_succ _))⟩
end

section
variable {X : Cx}
end

section
variable {X : Cx}
end

theorem iter_any {prog : Program} {w : World} {A : Around} {E : Value → Shared → Prop} {s : Shared} {l : Addr} {items : Array Value} {Q : Value → Shared → Prop} (hl : s.heap.IsList l items)
    (h : ∀ s₂ : Shared, s₂ = { s with heap := s.heap.push { cls := .type "list_iterator", data := .fields #[.ref l, .int 0 0] } } →
      (s₂.heap.IsListIter s.heap.objs.size l 0 ∧ s₂.heap.IsList l items) → l ≠ s.heap.objs.size → Q (.ref s.heap.objs.size) s₂) : wpAny (model prog w) A (pyIter (.ref l)) Q E s := by
  have hlt : l < s.heap.objs.size := by obtain ⟨_, e, _⟩ := hl; exact Heap.lt_size e
  exact wpAny_pyIter_list hl (h _ rfl ⟨⟨_, Heap.get?_push_size _ rfl, rfl, rfl⟩, hl.push _⟩ (Nat.ne_of_lt hlt))
theorem truth_bools {prog : Program} {w : World} {A : Around} {bs : List Bool} {its : List Value} (e : its = bs.map Value.bool) :
    TruthOf prog w A (fun i v => its.toArray[i]? = some v) (fun i => bs.getD i false) := fun i v s Q E hv hq => by
  have hv' : its[i]? = some v := by simpa using hv
  rw [e, List.getElem?_map] at hv'
  obtain ⟨b, hb, rfl⟩ := Option.map_eq_some_iff.mp hv'
  have hg : bs.getD i false = b := by rw [List.getD_eq_getElem?_getD, hb] <;> rfl
  have hq' : Q (bs.getD i false) s := hq
  rw [hg] at hq'
  exact wpAny_truthy_bool hq'
theorem all_range : ∀ bs : List Bool, (List.range bs.length).all (fun i => bs.getD i false) = bs.all id
  | [] => rfl
  | b :: bs => by
    rw [List.length_cons, List.range_succ_eq_map, List.all_cons, List.all_map, List.all_cons, ← all_range bs]
    all_goals rfl
section
variable {X : Cx}
def rAll (K : PySem.W.Frag) : List V → Hp → VK → Prop := fun vs H Q => ∃ (a : Addr) (bs : List Bool), vs = [V.ref a] ∧ SqL K H a (bs.map V.bl) ∧ Q (.bl (bs.all id)) H
theorem cr_all (hc : X.calm = true) : CallR X (.builtin "all") (rAll X.K) := by
  intro pins s σ H vs us Q I r h
  obtain ⟨a, bs, rfl, hs, q⟩ := h
  obtain ⟨its, rv, hl, _⟩ := I.list hs
  rw [Vals.ref1 r]
  have hb := rv.bls
  refine call_all_walk (iter_any hl.isList fun s₂ e2 st hne => ?_)
  subst e2
  refine ⟨_, _, _, _, _, _, _, rfl, Walks.list (A := X.A.in1) (I.ok.hd hc) _ a hne its.toArray, st, truth_bools hb, fun h' tk hk => ?_⟩
  refine ⟨.bl _, H, I.kept fun b o eo => hk b o (fun hmem => ?_) (Heap.get?_push_of_some _ eo), ?_, q⟩
  · rcases List.mem_cons.mp hmem with e1 | hmem
    · exact absurd (e1 ▸ Heap.lt_size eo) (Nat.lt_irrefl _)
    · cases hmem
  · show Value.bool _ = Value.bool _
    rw [← all_range, hb, List.size_toArray, List.length_map]
end

mutual
inductive Dp (K : PySem.W.Frag) (H : Hp) : V → PyData → Prop
  | non : Dp K H .non .none
  | bl (b : Bool) : Dp K H (.bl b) (.bool b)
  | int (i : Int) : Dp K H (.int i) (.int i)
  | str (x : Str) : Dp K H (.str x) (.str x)
  | lst {a : Addr} {xs : List V} {ds : List PyData} : SqL K H a xs → DpAll K H xs ds → Dp K H (.ref a) (.list ds)
  | tup {a : Addr} {xs : List V} {ds : List PyData} : SqT K H a xs → DpAll K H xs ds → Dp K H (.ref a) (.tuple ds)
inductive DpAll (K : PySem.W.Frag) (H : Hp) : List V → List PyData → Prop
  | nil : DpAll K H [] []
  | cons {v : V} {vs : List V} {d : PyData} {ds : List PyData} : Dp K H v d → DpAll K H vs ds → DpAll K H (v :: vs) (d :: ds)
end
section
variable {X : Cx} {pins : List (Addr × Obj)} {σ : St} {H : Hp} {s : Shared}
mutual
theorem Dp.reads (I : Inv X pins σ H s) : ∀ (d : PyData) (v : V) (u : Value), Dp X.K H v d → RelV v u → ∃ as, Reads s.heap u d as
  | .none, _, _, h, r => by
    cases h
    cases r
    exact ⟨_, Reads.none⟩
  | .bool b, _, _, h, r => by
    cases h
    cases r
    exact ⟨_, Reads.bool b⟩
  | .int i, _, _, h, r => by
    cases h
    obtain ⟨t, rfl⟩ := r
    exact ⟨_, Reads.int i t⟩
  | .str x, _, _, h, r => by
    cases h
    obtain ⟨t, rfl⟩ := r
    exact ⟨_, Reads.str x t⟩
  | .list ds, _, _, h, r => by
    cases h with
    | lst hs ha =>
      cases r
      obtain ⟨its, rv, ⟨o, n, ho, hc, _, hd⟩, _⟩ := I.list hs
      obtain ⟨as, hr⟩ := Dp.readsAll I ds _ its ha rv
      exact ⟨_, Reads.list ho hc hd hr⟩
  | .tuple ds, _, _, h, r => by
    cases h with
    | tup hs ha =>
      cases r
      obtain ⟨its, rv, ⟨o, ho, hc, n, hd⟩, _⟩ := I.tuple hs
      obtain ⟨as, hr⟩ := Dp.readsAll I ds _ its ha rv
      exact ⟨_, Reads.tuple ho hc hd hr⟩
  | .dict _, _, _, h, _ => by cases h
theorem Dp.readsAll (I : Inv X pins σ H s) : ∀ (ds : List PyData) (vs : List V) (us : List Value), DpAll X.K H vs ds → Vals vs us → ∃ as, ReadsAll s.heap us ds as
  | [], _, _, h, r => by
    cases h
    cases r
    exact ⟨_, ReadsAll.nil⟩
  | d :: ds, _, _, h, r => by
    cases h with
    | cons h1 h2 =>
      cases r with
      | cons r1 r2 =>
        obtain ⟨as, q1⟩ := Dp.reads I d _ _ h1 r1
        obtain ⟨bs, q2⟩ := Dp.readsAll I ds _ _ h2 r2
        exact ⟨_, ReadsAll.cons q1 q2⟩
end
end
section
variable {X : Cx}
def rEqD (K : PySem.W.Frag) : R2 := fun x y H Q => ∃ d e, Dp K H x d ∧ Dp K H y e ∧ SeqAt.shaped d = true ∧ SeqAt.shaped e = true ∧ Q (.bl (PyData.eqv d e)) H
def rNeD (K : PySem.W.Frag) : R2 := fun x y H Q => ∃ d e, Dp K H x d ∧ Dp K H y e ∧ SeqAt.shaped d = true ∧ SeqAt.shaped e = true ∧ Q (.bl (!PyData.eqv d e)) H
theorem op_eqD (hu : X.A.units + 64 < cLine) : OpR X (compareOp .Eq) (rEqD X.K) := by
  intro pins s σ H x y v u Q I rx ry h
  obtain ⟨d, e, hd, he, sd, se, q⟩ := h
  obtain ⟨as, r1⟩ := Dp.reads I d x v hd rx
  obtain ⟨bs, r2⟩ := Dp.reads I e y u he ry
  exact SeqAt.compareEq_shaped r1 r2 sd se hu ⟨.bl _, H, I, rfl, q⟩
theorem op_neD (hu : X.A.units + 64 < cLine) : OpR X (compareOp .NotEq) (rNeD X.K) := by
  intro pins s σ H x y v u Q I rx ry h
  obtain ⟨d, e, hd, he, sd, se, q⟩ := h
  obtain ⟨as, r1⟩ := Dp.reads I d x v hd rx
  obtain ⟨bs, r2⟩ := Dp.reads I e y u he ry
  exact SeqAt.compareNe_shaped r1 r2 sd se hu ⟨.bl _, H, I, rfl, q⟩
end
end L2

namespace L2
open PySem PySem.Spec PyProof.Rows
abbrev CellAt (h : Heap) (c : Addr) (v : Option Value) : Prop := h.IsCell c v
def relS (scope sc : Scope) : Scope :=
  { scope with names := scope.names.map fun (n, k) => if (k == .free && sc.kind == .function && sc.names.lookup n == some .cell) then (n, .cell) else (n, k) }

def cloFrom (cells : List (Str × Addr)) : List (Str × NameKind) → List (Str × Addr) → List (Str × Addr)
  | [], acc => acc
  | (n, k) :: r, acc => if k == .free then cloFrom cells r ((n, (cells.lookup n).getD 0) :: acc) else cloFrom cells r acc

theorem closure_loop (env : Env) (f : Str × NameKind → List (Str × Addr) → Sem (ForInStep (List (Str × Addr))))
    (hf : ∀ n k c, f (n, k) c = if k == .free then (do let a ← cellOf env n; pure (.yield ((n, a) :: c))) else pure (.yield c)) :
    ∀ (names : List (Str × NameKind)) (acc : List (Str × Addr)), (∀ y ∈ names, y.2 = .free → ∃ c, env.cells.lookup y.1 = some c) → forIn names acc f = pure (cloFrom env.cells names acc)
  | [], acc, _ => by rw [List.forIn_nil]; rfl
  | (n, k) :: r, acc, h => by
    rw [List.forIn_cons, hf]
    have ih := fun acc => closure_loop env f hf r acc fun y hy => h y (List.mem_cons_of_mem _ hy)
    unfold cloFrom
    by_cases hk : (k == NameKind.free) = true
    · rw [if_pos hk, if_pos hk]
      obtain ⟨c, hc⟩ := h (n, k) List.mem_cons_self (by simpa using hk)
      have e : cellOf env n = pure c := by unfold cellOf; rw [hc]
      rw [e]
      have e2 : (env.cells.lookup n).getD 0 = c := by rw [hc]; rfl
      rw [e2]
      exact ih _
    · rw [if_neg hk, if_neg hk]
      exact ih _
theorem closure_ok {scope : Scope} {env : Env} (h : ∀ y ∈ scope.names, y.2 = .free → ∃ c, env.cells.lookup y.1 = some c) : closureFor scope env = pure (cloFrom env.cells scope.names []) := by
  simp only [closureFor]
  rw [closure_loop env _ (fun n k c => rfl) scope.names [] h]
  rfl

theorem mem_lookup {α : Type} : ∀ {l : List (Str × α)} {n : Str} {c : α}, (n, c) ∈ l → ∃ c', l.lookup n = some c'
  | (k, v) :: r, n, c, h => by
    rw [List.lookup_cons]
    cases hb : n == k with
    | true => exact ⟨_, rfl⟩
    | false =>
      rcases List.mem_cons.mp h with e | h
      · cases e; simp at hb
      · exact mem_lookup h

theorem cloFrom_mem {cells : List (Str × Addr)} : ∀ {names : List (Str × NameKind)} {acc : List (Str × Addr)} {n : Str} {c : Addr}, (n, c) ∈ cloFrom cells names acc → (n, c) ∈ acc ∨ ((n, .free) ∈ names ∧ c = (cells.lookup n).getD 0)
  | [], _, _, _, h => .inl h
  | (m, k) :: r, acc, n, c, h => by
    unfold cloFrom at h
    split at h
    · rename_i hk
      have hk : k = .free := by simpa using hk
      rcases cloFrom_mem h with h | ⟨h1, h2⟩
      · rcases List.mem_cons.mp h with e | h
        · cases e; exact .inr ⟨hk ▸ List.mem_cons_self, rfl⟩
        · exact .inl h
      · exact .inr ⟨List.mem_cons_of_mem _ h1, h2⟩
    · rcases cloFrom_mem h with h | ⟨h1, h2⟩
      · exact .inl h
      · exact .inr ⟨List.mem_cons_of_mem _ h1, h2⟩
theorem cloFrom_acc {cells : List (Str × Addr)} : ∀ {names : List (Str × NameKind)} {acc : List (Str × Addr)} {p : Str × Addr}, p ∈ acc → p ∈ cloFrom cells names acc
  | [], _, _, h => h
  | (m, k) :: r, acc, p, h => by
    unfold cloFrom
    split
    · exact cloFrom_acc (List.mem_cons_of_mem _ h)
    · exact cloFrom_acc h
theorem cloFrom_has {cells : List (Str × Addr)} : ∀ {names : List (Str × NameKind)} {acc : List (Str × Addr)} {n : Str}, (n, .free) ∈ names → (n, (cells.lookup n).getD 0) ∈ cloFrom cells names acc
  | (m, k) :: r, acc, n, h => by
    unfold cloFrom
    rcases List.mem_cons.mp h with e | h
    · cases e
      exact cloFrom_acc List.mem_cons_self
    · split
      · exact cloFrom_has h
      · exact cloFrom_has h

theorem cells_mem : ∀ {names : List (Str × NameKind)} {h : Heap} {acc : List (Str × Addr)} {x : Str} {c : Addr}, (x, c) ∈ cellsFrom h.objs.size names acc →
    (x, c) ∈ acc ∨ ((x, .cell) ∈ names ∧ h.objs.size ≤ c ∧ CellAt (pushCells h names) c none)
  | [], _, _, _, _, h => .inl h
  | (n, k) :: r, h, acc, x, c, hm => by
    unfold cellsFrom at hm
    unfold pushCells
    split at hm
    · rename_i hk
      rw [if_pos hk]
      have hk : k = .cell := by simpa using hk
      rw [← Heap.size_push h { cls := .type "cell", data := .cell none }] at hm
      rcases cells_mem hm with hm | ⟨h1, h2, h3⟩
      · rcases List.mem_cons.mp hm with e | hm
        · cases e
          exact .inr ⟨hk ▸ List.mem_cons_self, Nat.le_refl _, _, pushCells_keeps r _ _ _ (Heap.get?_push_size _ rfl), rfl⟩
        · exact .inl hm
      · rw [Heap.size_push] at h2
        exact .inr ⟨List.mem_cons_of_mem _ h1, Nat.le_of_succ_le h2, h3⟩
    · rename_i hk
      rw [if_neg hk]
      rcases cells_mem hm with hm | ⟨h1, h2, h3⟩
      · exact .inl hm
      · exact .inr ⟨List.mem_cons_of_mem _ h1, h2, h3⟩
theorem cells_acc : ∀ {names : List (Str × NameKind)} {n : Nat} {acc : List (Str × Addr)} {p : Str × Addr}, p ∈ acc → p ∈ cellsFrom n names acc
  | [], _, _, _, h => h
  | (m, k) :: r, n, acc, p, h => by
    unfold cellsFrom
    split
    · exact cells_acc (List.mem_cons_of_mem _ h)
    · exact cells_acc h
theorem cells_has : ∀ {names : List (Str × NameKind)} {n : Nat} {acc : List (Str × Addr)} {x : Str}, (x, .cell) ∈ names → ∃ c, (x, c) ∈ cellsFrom n names acc
  | (m, k) :: r, n, acc, x, h => by
    unfold cellsFrom
    rcases List.mem_cons.mp h with e | h
    · cases e
      exact ⟨n, cells_acc List.mem_cons_self⟩
    · split
      · exact cells_has h
      · exact cells_has h
theorem cells_inj : ∀ {names : List (Str × NameKind)} {h : Heap} {acc : List (Str × Addr)} {x y : Str} {c : Addr}, (∀ p ∈ acc, p.2 < h.objs.size) → (∀ x y c, (x, c) ∈ acc → (y, c) ∈ acc → x = y) →
    (x, c) ∈ cellsFrom h.objs.size names acc → (y, c) ∈ cellsFrom h.objs.size names acc → x = y
  | [], _, _, _, _, _, _, hi, h1, h2 => hi _ _ _ h1 h2
  | (n, k) :: r, h, acc, x, y, c, hl, hi, h1, h2 => by
    unfold cellsFrom at h1 h2
    split at h1
    · rename_i hk
      rw [if_pos hk] at h2
      rw [← Heap.size_push h { cls := .type "cell", data := .cell none }] at h1 h2
      refine cells_inj (h := h.push _) (fun p hp => ?_) (fun x y c a b => ?_) h1 h2
      · rw [Heap.size_push]
        rcases List.mem_cons.mp hp with rfl | hp
        · exact Nat.lt_succ_self _
        · exact Nat.lt_succ_of_lt (hl p hp)
      · rcases List.mem_cons.mp a with e | a <;> rcases List.mem_cons.mp b with e' | b
        · cases e; cases e'; rfl
        · cases e; exact absurd (hl _ b) (Nat.lt_irrefl _)
        · cases e'; exact absurd (hl _ a) (Nat.lt_irrefl _)
        · exact hi _ _ _ a b
    · rename_i hk
      rw [if_neg hk] at h2
      exact cells_inj hl hi h1 h2

theorem newEnv_comp {M : Model} {A : Around} {E : Value → Shared → Prop} {s : Shared} {scope : Scope} {globals : Addr} {closure : List (Str × Addr)} {qual : Str} {func : Option Addr} {code : Value} {around : Env} {builtins : Addr} {Q : Env → Shared → Prop}
    (h : Q (newEnv scope s.heap.objs.size globals (cellsFrom (s.heap.objs.size + 1) scope.names closure) qual func code (some around) builtins)
      { s with heap := pushCells (s.heap.push { cls := .type "dict", data := .dict #[] }) scope.names }) :
    wpAny M A (newFunctionEnv scope globals closure [] qual func code (some around) builtins) Q E s := by
  simp only [newFunctionEnv, Option.isSome_some, if_true]
  refine wpAny_bind (wpAny_alloc ?_)
  refine wpAny_bind (wpAny_layCells _ (fun n k c => rfl) scope.names closure _ _ ?_)
  rw [show ({ s with heap := s.heap.push { cls := .type "dict", data := .dict #[] } } : Shared).heap.objs.size = s.heap.objs.size + 1 from Heap.size_push ..]
  rw [List.forIn_nil]
  exact wpAny_bind (wpAny_pure (wpAny_pure h))

theorem lookup_relS {sc : Scope} : ∀ {names : List (Str × NameKind)} {x : Str} {k : NameKind},
    (names.map fun (n, k) => if (k == NameKind.free && sc.kind == .function && sc.names.lookup n == some .cell) then (n, NameKind.cell) else (n, k)).lookup x = some k →
    ∃ k', names.lookup x = some k' ∧ (k = k' ∨ (k' = .free ∧ k = .cell))
  | [], _, _, h => by simp at h
  | (n, k₀) :: r, x, k, h => by
    have ih := @lookup_relS sc r x k
    have h' : List.lookup x ((if (k₀ == NameKind.free && sc.kind == .function && sc.names.lookup n == some .cell) = true then (n, NameKind.cell) else (n, k₀)) :: (r.map _)) = some k := h
    cases hx : x == n with
    | true =>
      simp only [List.lookup_cons, hx]
      by_cases hc : (k₀ == NameKind.free && sc.kind == .function && sc.names.lookup n == some .cell) = true
      · rw [if_pos hc] at h'
        simp only [List.lookup_cons, hx] at h'
        cases h'
        simp only [Bool.and_eq_true, beq_iff_eq] at hc
        exact ⟨k₀, rfl, .inr ⟨hc.1.1, rfl⟩⟩
      · rw [if_neg hc] at h'
        simp only [List.lookup_cons, hx] at h'
        cases h'
        exact ⟨_, rfl, .inl rfl⟩
    | false =>
      simp only [List.lookup_cons, hx]
      by_cases hc : (k₀ == NameKind.free && sc.kind == .function && sc.names.lookup n == some .cell) = true
      · rw [if_pos hc] at h'
        simp only [List.lookup_cons, hx] at h'
        exact ih h'
      · rw [if_neg hc] at h'
        simp only [List.lookup_cons, hx] at h'
        exact ih h'
structure BlkOk (N : List Str) (sc scope : Scope) (own : List (Str × Nat)) : Prop where
  kind : scope.kind = .function
  uniq : ∀ y ∈ scope.names, scope.names.lookup y.1 = some y.2
  ix : ∀ p ∈ own, N[p.2]? = some p.1
  free : ∀ y ∈ scope.names, y.2 = .free → sc.names.lookup y.1 = some .cell ∨ sc.names.lookup y.1 = some .free
  own : ∀ y ∈ scope.names, y.2 = .local ∨ y.2 = .cell → y.1 ∈ own.map (·.1) ∨ y.1 ∉ N
def wipe (σ : St) : List Nat → St
  | [] => σ
  | v :: vs => (wipe σ vs).set v none
theorem wipe_length (σ : St) : ∀ vs : List Nat, (wipe σ vs).length = σ.length
  | [] => rfl
  | v :: vs => by unfold wipe; rw [List.length_set, wipe_length σ vs]
theorem wipe_some {σ : St} {i : Nat} {x : V} : ∀ {vs : List Nat}, (wipe σ vs)[i]? = some (some x) → σ[i]? = some (some x) ∧ i ∉ vs
  | [], h => ⟨h, by simp⟩
  | v :: vs, h => by
    unfold wipe at h
    by_cases hi : v = i
    · subst hi
      by_cases hv : v < (wipe σ vs).length
      · rw [List.getElem?_set_self hv] at h; cases h
      · rw [List.getElem?_eq_none (by simpa using hv)] at h; cases h
    · rw [List.getElem?_set_ne hi] at h
      obtain ⟨h1, h2⟩ := wipe_some h
      exact ⟨h1, by simp only [List.mem_cons, not_or]; exact ⟨fun e => hi e.symm, h2⟩⟩

abbrev Cx.blk (X : Cx) (s : Shared) (H : Hp) (scope : Scope) (cenv : Env) (fp : List Addr) : Cx := { X with s_0 := s, H_0 := H, env := cenv, outer := X.stack, ex := fp, fn := fun x => scope.names.lookup x == some .cell, pn := [], xe := fun _ _ => False }
section
variable {X : Cx} {pins : List (Addr × Obj)} {σ : St} {H : Hp} {s : Shared}
theorem block_start {scope : Scope} {own : List (Str × Nat)} {fp : List Addr} (I : Inv X pins σ H s) (ok : BlkOk X.N X.env.scope scope own) (hN : X.N.Nodup) (hfp : ∀ b ∈ fp, FpOk X pins H b ∧ b < s.heap.objs.size) :
    Inv (X.blk s H scope (compEnvC scope (cellsFrom (s.heap.objs.size + 1) scope.names (cloFrom X.env.cells scope.names [])) s.heap.objs.size X.env) fp) [] (wipe σ (own.map (·.2))) H { s with heap := pushCells (s.heap.push { cls := .type "dict", data := .dict #[] }) scope.names } := by
  have hfree : ∀ y ∈ scope.names, y.2 = .free → ∃ c, X.env.cells.lookup y.1 = some c := fun y hy e => by
    rcases ok.free y hy e with k | k
    · exact I.ok.has _ (.inl k)
    · exact I.ok.has _ (.inr k)
  generalize hcenv : compEnvC scope (cellsFrom (s.heap.objs.size + 1) scope.names (cloFrom X.env.cells scope.names [])) s.heap.objs.size X.env = cenv
  have kp : ∀ b o, s.heap.get? b = some o → (pushCells (s.heap.push { cls := .type "dict", data := .dict #[] }) scope.names).get? b = some o := fun b o e => pushCells_keeps _ _ _ _ (Heap.get?_push_of_some _ e)
  have hL : cenv.locals = s.heap.objs.size := by rw [← hcenv]; rfl
  have hcl : cenv.cells = cellsFrom (s.heap.objs.size + 1) scope.names (cloFrom X.env.cells scope.names []) := by rw [← hcenv]; rfl
  have hsc : cenv.scope = relS scope X.env.scope := by rw [← hcenv]; rfl
  rw [← Heap.size_push s.heap { cls := .type "dict", data := .dict #[] }] at hcl
  have cm : ∀ {y c}, (y, c) ∈ cloFrom X.env.cells scope.names [] → X.env.cells.lookup y = some c ∧ c < s.heap.objs.size := fun {y c} hm => by
    rcases cloFrom_mem hm with hm | ⟨h1, rfl⟩
    · cases hm
    · obtain ⟨c, hc⟩ := hfree _ h1 rfl
      rw [hc]
      obtain ⟨w, z⟩ := I.cell _ _ hc
      exact ⟨rfl, z.lt⟩
  have mem : ∀ {y c}, cenv.cells.lookup y = some c → (X.env.cells.lookup y = some c ∧ c < s.heap.objs.size) ∨ (s.heap.objs.size + 1 ≤ c ∧ CellAt (pushCells (s.heap.push { cls := .type "dict", data := .dict #[] }) scope.names) c none) := fun {y c} e => by
    rw [hcl] at e
    rcases cells_mem (PySem.mem_of_lookup e) with hm | ⟨_, h2, h3⟩
    · exact .inl (cm hm)
    · rw [Heap.size_push] at h2; exact .inr ⟨h2, h3⟩
  have look : ∀ {y}, scope.names.lookup y = some .free → ∃ c, cenv.cells.lookup y = some c ∧ X.env.cells.lookup y = some c := fun {y} hl => by
    have hy : (y, NameKind.free) ∈ scope.names := PySem.mem_of_lookup hl
    obtain ⟨c', e'⟩ := mem_lookup (cells_acc (names := scope.names) (n := (s.heap.push { cls := .type "dict", data := .dict #[] }).objs.size) (cloFrom_has (cells := X.env.cells) (acc := []) hy))
    rw [← hcl] at e'
    refine ⟨c', e', ?_⟩
    rw [hcl] at e'
    rcases cells_mem (PySem.mem_of_lookup e') with hm | ⟨h1, _, _⟩
    · exact (cm hm).1
    · have := ok.uniq _ h1
      rw [hl] at this; cases this
  have okB : (X.blk s H scope cenv fp).Ok := by
    refine ⟨I.ok.mod, by show cenv.scope.kind = _; rw [hsc]; exact ok.kind, by show cenv.globals = _; rw [← hcenv]; exact I.ok.glob, by show cenv.builtins = _; rw [← hcenv]; exact I.ok.blt, by show s.heap.objs.size ≤ cenv.locals; rw [hL]; exact Nat.le_refl _,
      fun y z c e1 e2 => ?_, fun y hy => ?_, fun y c z e => ?_, I.ok.hd, I.ok.frames, .inl rfl, fun b hb => ⟨?_, fun y c e z => ?_⟩, I.bs, Nat.le_trans I.ok.bsz I.sz, fun b o e hb => ?_, fun b hb z => ?_, I.stack, I.stkFree⟩
    · have e1 : cenv.cells.lookup y = some c := e1
      have e2 : cenv.cells.lookup z = some c := e2
      rw [hcl] at e1 e2
      refine cells_inj (fun p hp => ?_) (fun y z c a b => I.ok.inj y z c (cm a).1 (cm b).1) (PySem.mem_of_lookup e1) (PySem.mem_of_lookup e2)
      rw [Heap.size_push]
      exact Nat.lt_succ_of_lt (cm (y := p.1) (c := p.2) hp).2
    · show ∃ c, cenv.cells.lookup y = some c
      have key : ∀ k, cenv.kindOf y = some k → (k = .cell ∨ k = .free) → ∃ c, cenv.cells.lookup y = some c := fun k hk hk' => by
        unfold Env.kindOf at hk
        rw [hsc] at hk
        obtain ⟨k', e, r⟩ := lookup_relS hk
        have : k' = .cell ∨ k' = .free := by
          rcases r with rfl | ⟨rfl, _⟩
          · exact hk'
          · exact .inr rfl
        rcases this with rfl | rfl
        · obtain ⟨c, hm⟩ := cells_has (n := (s.heap.push { cls := .type "dict", data := .dict #[] }).objs.size) (acc := cloFrom X.env.cells scope.names []) (PySem.mem_of_lookup e)
          obtain ⟨c', e'⟩ := mem_lookup hm
          exact ⟨c', by rw [hcl]; exact e'⟩
        · obtain ⟨c, h1, _⟩ := look e
          exact ⟨c, h1⟩
      rcases hy with hy | hy
      · exact key _ hy (.inl rfl)
      · exact key _ hy (.inr rfl)
    · have z : (scope.names.lookup y == some NameKind.cell) = true := z
      have z : scope.names.lookup y = some .cell := by simpa using z
      have e : cenv.cells.lookup y = some c := e
      rw [hcl] at e
      rcases cells_mem (PySem.mem_of_lookup e) with hm | ⟨_, h2, _⟩
      · rcases cloFrom_mem hm with hm | ⟨h1, _⟩
        · cases hm
        · have q := ok.uniq _ h1
          rw [z] at q; cases q
      · rw [Heap.size_push] at h2
        exact Nat.le_of_succ_le h2
    · show b ≠ cenv.locals
      rw [hL]; exact Nat.ne_of_lt (hfp b hb).2
    · have e : cenv.cells.lookup y = some c := e
      rcases mem e with ⟨h1, _⟩ | ⟨h1, _⟩
      · exact (hfp b hb).1.2.2.2.2.1 y c h1 z
      · have h2 : s.heap.objs.size + 1 ≤ b := by rw [← z]; exact h1
        exact absurd (Nat.lt_of_lt_of_le (hfp b hb).2 (Nat.le_of_succ_le h2)) (Nat.lt_irrefl _)
    · rcases (hfp b hb).1.2.2.2.1 with z | z
      · exact I.ok.noex b o e z
      · exact absurd (Nat.lt_of_lt_of_le (Heap.lt_size e) (Nat.le_trans I.ok.bsz z)) (Nat.lt_irrefl _)
    · rcases List.mem_cons.mp (I.stkSub b z) with z | z
      · exact (hfp b hb).1.2.1 z
      · exact (hfp b hb).1.2.2.1 z
  refine ⟨okB, rfl, I.bare, Un.kept kp, ⟨fun _ => none, ?_, fun i y av e1 e2 e3 => ?_⟩, fun y c e => ?_, ?_, fun y c e => ?_, fun p hp => ?_, I.hok.kept kp, by rw [wipe_length]; exact I.len⟩
  · show Heap.Ns _ cenv.locals _
    rw [hL]
    exact Heap.Ns.keeps (Heap.Ns.new ..) fun b o e => pushCells_keeps _ _ _ _ e
  · obtain ⟨e2, hne⟩ := wipe_some e2
    have hfr : scope.names.lookup y = some .free ∧ (cenv.kindOf y = some .cell ∨ cenv.kindOf y = some .free) := by
      have key : ∀ k, cenv.scope.names.lookup y = some k → k = .local ∨ k = .cell ∨ k = .free → scope.names.lookup y = some .free ∧ (cenv.kindOf y = some .cell ∨ cenv.kindOf y = some .free) := fun k hk hk' => by
        have hk0 := hk
        rw [hsc] at hk
        obtain ⟨k', e, r⟩ := lookup_relS hk
        have no : ¬ (k' = .local ∨ k' = .cell) := fun hh => by
          rcases ok.own _ (PySem.mem_of_lookup e) hh with e' | e'
          · obtain ⟨p, hp, hpy⟩ := List.mem_map.mp e'
            have e3 := ok.ix p hp
            have : p.1 = y := hpy
            rw [this] at e3
            exact hne (List.mem_map.mpr ⟨p, hp, nodup_ix hN e3 e1⟩)
          · exact e' (List.mem_of_getElem? e1)
        rcases r with rfl | ⟨rfl, rfl⟩
        · rcases hk' with rfl | rfl | rfl
          · exact absurd (.inl rfl) no
          · exact absurd (.inr rfl) no
          · exact ⟨e, .inr hk0⟩
        · exact ⟨e, .inl hk0⟩
      have e3 : Vis cenv.scope y := e3
      rcases e3 with e3 | e3 | e3
      · exact key _ e3 (.inl rfl)
      · exact key _ e3 (.inr (.inl rfl))
      · exact key _ e3 (.inr (.inr rfl))
    obtain ⟨m, hn, hl⟩ := I.loc
    have hvis : Vis X.env.scope y := (ok.free _ (PySem.mem_of_lookup hfr.1) rfl).elim (fun k => .inr (.inl k)) (fun k => .inr (.inr k))
    obtain ⟨w, r, q⟩ := hl i y av e1 e2 hvis
    refine ⟨w, r, .inr ⟨hfr.2, ?_⟩⟩
    obtain ⟨c, h1, h2⟩ := look hfr.1
    rcases q with ⟨k, _⟩ | ⟨_, c', e', z⟩
    · have k : X.env.scope.names.lookup y = some .local := k
      rcases ok.free _ (PySem.mem_of_lookup hfr.1) rfl with k' | k' <;> rw [show X.env.scope.names.lookup y = _ from k'] at k <;> cases k
    · rw [h2] at e'; cases e'
      exact ⟨c, h1, z.keeps kp⟩
  · have e : cenv.cells.lookup y = some c := e
    rcases mem e with ⟨h1, _⟩ | ⟨_, z⟩
    · obtain ⟨w, z⟩ := I.cell y c h1
      exact ⟨w, z.keeps kp⟩
    · exact ⟨_, z⟩
  · show H cenv.locals = none
    rw [hL]; exact I.hok.fresh (Nat.le_refl _)
  · have e : cenv.cells.lookup y = some c := e
    rcases mem e with ⟨h1, _⟩ | ⟨h1, _⟩
    · exact I.freeC y c h1
    · exact I.hok.fresh (Nat.le_of_succ_le h1)
  · exact absurd (show p ∈ ([] : List (Addr × Obj)) ++ [] from hp) (by simp)

theorem app_ok {E : Value → Shared → Prop} {D : Addr} {xs : List V} {y : V} {v : Value} {Q : Value → Shared → Prop} (I : Inv X pins σ H s) (hD : H D = some (.lst xs)) (hz : xs.length < sizeLine) (r : RelV y v)
    (h : ∀ s', Inv X pins σ (upd H D (.lst (xs ++ [y]))) s' → Q .none s') : wpAny (model X.prog X.w) X.A (call (.builtin "list.append") [.ref D, v]) Q E s := by
  obtain ⟨hz', its, n, ri, e⟩ := I.hok D _ hD
  have hl := ri.length
  refine append_at (hsz := by rw [List.size_toArray]; omega) e fun h' sb ho' => ?_
  refine h { s with heap := h' } (I.write (t' := s.toks) (by rw [hD]; trivial) (.inl rfl) (fun b u hb q => (sb.2 b hb).trans q) ⟨_, ho'⟩ ⟨by rw [List.length_append]; exact hz, its ++ [v], n + 1, ri.append (.cons r .nil), ?_⟩)
  rw [ho']
  simp

def PTs (X : Cx) (ifs : List Expr) (t : TT) : Prop :=
  ∀ (pins : List (Addr × Obj)) (s : Shared) (σ : St) (H : Hp) (Q : Bool → Hp → Prop), Inv X pins σ H s → t σ H Q →
    wpAny (model X.prog X.w) X.A (forIn ifs true fun c r => if r = true then do let ok ← isTrue c X.env (eval c X.env); pure (ForInStep.yield ok) else pure (ForInStep.yield r)) (TP X pins σ Q) X.xe s
def tYes : TT := fun _ H Q => Q true H
theorem pts_nil : PTs X [] tYes := fun _ _ _ H _ I h => wpAny_tests_nil ⟨H, I, h⟩
theorem pts_one {c : Expr} {t : TT} (h : PT X c t) : PTs X [c] t := fun pins s σ H Q I hw => wpAny_tests_one (h pins s σ H Q I hw)
end

theorem thnF {α : Type} {t : Sem α} {Q Q' : α → Shared → Prop} {M : Model} {A : Around} {E : Value → Shared → Prop} {s : Shared} (h : wpAny M A t Q (fun _ _ => False) s) (hQ : ∀ a s, Q a s → Q' a s) : wpAny M A t Q' E s := wpAny_mono h hQ fun _ _ z => False.elim z

theorem compLoop_any {prog : Program} {w : World} {A : Around} {R : Result → Shared → Prop} {s : Shared} {elt target iter : Expr} {ifs : List Expr} {scope : Scope} {pos : Pos} {it acc : Value} {env : Env} (I : Nat → Shared → Prop)
    (turn : ∀ n s, I n s → wpAny (model prog w) A (pyNext it) (fun r s₁ => match r with
      | none => R (.ok .next) s₁
      | some v => wpAny (model prog w) A (letOwnedTupleGo target it v) (fun _ s₁' => wpAny (model prog w) A (assign target env v) (fun _ s₂ =>
          wpAny (model prog w) A (forIn ifs true fun c r => if r = true then do let ok ← isTrue c env (eval c env); pure (ForInStep.yield ok) else pure (ForInStep.yield r)) (fun ok s₃ =>
            if ok = true then wpAny (model prog w) A (eval elt env) (fun x s₄ =>
              wpAny (model prog w) A (call (.builtin "list.append") [acc, x]) (fun _ s₅ => ∃ m, m < n ∧ I m s₅) (notedBy (model prog w) A env fun e s' => R (.error e) s') s₄) (notedBy (model prog w) A env fun e s' => R (.error e) s') s₃
            else ∃ m, m < n ∧ I m s₃) (notedBy (model prog w) A env fun e s' => R (.error e) s') s₂) (notedBy (model prog w) A env fun e s' => R (.error e) s') s₁') (notedBy (model prog w) A env fun e s' => R (.error e) s') s₁) (notedBy (model prog w) A env fun e s' => R (.error e) s') s)
    (n : Nat) (h : I n s) :
    codeAny (model prog w) A (.compLoop (.ListComp elt [⟨target, iter, ifs, 0⟩] scope pos) 0 it acc env) R s := by
  refine codeAny_loop rfl I (fun n s hI => ?_) n h
  show wpAny _ A ((compTurn (.ListComp elt [⟨target, iter, ifs, 0⟩] scope pos) 0 it acc env).onRaise (fun x => do noteFrame x env; theTreesLotGoes x)) _ _ s
  refine wpAny_noted ?_
  rw [compTurn_list]
  refine wpAny_bind (wpAny_standAt (wpAny_bind (wpAny_mono (turn n s hI) (fun r s₁ h₁ => ?_) fun _ _ h' => h')))
  cases r with
  | none => exact wpAny_pure h₁
  | some v =>
    refine wpAny_bind (wpAny_mono h₁ (fun _ s₁' h₁' => ?_) fun _ _ h' => h')
    refine wpAny_bind (wpAny_mono h₁' (fun _ s₂ h₂ => wpAny_bind (wpAny_mono h₂ (fun ok s₃ h₃ => ?_) fun _ _ h' => h')) fun _ _ h' => h')
    cases ok with
    | false => exact wpAny_pure ⟨rfl, h₃⟩
    | true =>
      exact wpAny_bind (wpAny_bind (wpAny_mono h₃ (fun x s₄ h₄ => wpAny_bind (wpAny_mono h₄ (fun _ s₅ h₅ => wpAny_pure (wpAny_pure ⟨rfl, h₅⟩)) fun _ _ h' => h')) fun _ _ h' => h'))

section
variable {X : Cx}
def tLc (wi : TI) (g : TG) (tt : TT) (te : TE) (vs : List Nat) : TE := fun σ H Q => wi σ H fun J H1 => ∀ D, H1 D = none → ∃ W : Nat → Nat → Hp → Prop, (∃ m, W 0 m (upd H1 D (.lst []))) ∧ ∀ i m H, W i m H →
  (J.stop i H ∧ Q (.ref D) H) ∨ (J.go i H ∧ ∃ Nx : Hp → Prop, (∀ H', Nx H' → ∃ m', m' < m ∧ W (i + 1) m' H') ∧ ∀ x H', J.yld i H x H' → g x (wipe σ vs) H' fun σ2 H2 => wipe σ2 vs = wipe σ vs ∧ tt σ2 H2 fun b H3 =>
    if b = true then te σ2 H3 fun y H4 => ∃ acc, H4 D = some (.lst acc) ∧ acc.length < sizeLine ∧ Nx (upd H4 D (.lst (acc ++ [y]))) else Nx H3)
theorem lc_core {pins : List (Addr × Obj)} {s : Shared} {σ : St} {H : Hp} {Q : VK} {elt tg iter : Expr} {ifs : List Expr} {scope : Scope} {own : List (Str × Nat)} {pos pos' : Pos} {wi : TI} {g : TG} {tt : TT} {te : TE} {use : Option (Value → Sem Unit)} {Qf : Value → Shared → Prop}
    (hc : X.calm = true) (hN : X.N.Nodup) (I : Inv X pins σ H s) (hi : PI X tg iter wi) (ok : BlkOk X.N X.env.scope scope own)
    (hg : ∀ (s : Shared) (H : Hp) (C : Addr) (cl : List (Str × Addr)) (fp : List Addr), PG (X.blk s H scope (compEnvC scope cl C X.env) fp) tg g) (ht : ∀ (s : Shared) (H : Hp) (C : Addr) (cl : List (Str × Addr)) (fp : List Addr), PTs (X.blk s H scope (compEnvC scope cl C X.env) fp) ifs tt)
    (he : ∀ (s : Shared) (H : Hp) (C : Addr) (cl : List (Str × Addr)) (fp : List Addr), PE (X.blk s H scope (compEnvC scope cl C X.env) fp) elt te) (hs : ∀ x, foldedSetIterable iter X.env x = pure x)
    (h : tLc wi g tt te (own.map (·.2)) σ H Q)
    (hRR : ∀ D C s' m H', Inv X pins σ H' s' → Q (.ref D) H' → s'.heap.Ns C m → FpOk X pins H' C → compPost (model X.prog X.w) X.A X.xe use Qf (.ref D) C (.ok .next) s') :
    wpAny (model X.prog X.w) X.A (comprehension (.ListComp elt [⟨tg, iter, ifs, 0⟩] scope pos) scope X.env pos' (newList []) false (eval iter X.env) use) Qf X.xe s := by
  have hfree : ∀ y ∈ scope.names, y.2 = .free → ∃ c, X.env.cells.lookup y.1 = some c := fun y hy e => by
    rcases ok.free y hy e with k | k
    · exact I.ok.has _ (.inl k)
    · exact I.ok.has _ (.inr k)
  refine wpAny_comprehension_free (use := use) rfl hs (closure_ok hfree) ok.kind (fun y hy e => by rw [ok.uniq y hy, e])
    (thn (hi pins s σ H _ I h) fun xv s1 hx => thn hx fun itv s2 h2 => ?_)
  obtain ⟨it, fp, tn, J, H2, e, I2, T, st2, f2, q⟩ := h2
  subst e
  refine wpAny_newObj_type (newEnv_comp ?_) (by show 0 ≤ sizeLine; decide)
  generalize hD : s2.heap.objs.size = D
  have hDn : H2 D = none := I2.hok.fresh (Nat.le_of_eq hD)
  obtain ⟨W, ⟨m0, w0⟩, turn⟩ := q D hDn
  generalize hs3 : ({ s2 with heap := s2.heap.push { cls := .type "list", data := .seq ([] : List Value).toArray } } : Shared) = s3
  have I3 : Inv X pins σ (upd H2 D (.lst [])) s3 := by
    rw [← hs3]
    refine I2.laid (t' := s2.toks) (fun b o e => Heap.get?_push_of_some _ e) (Nat.le_of_eq hD) ⟨Nat.zero_le _, [], 0, .nil, ?_⟩
    rw [← hD]
    exact Heap.get?_push_size _ rfl
  have h3 : s3.heap = s2.heap.push { cls := .type "list", data := .seq ([] : List Value).toArray } := by rw [← hs3]
  have sz : ∀ b ∈ fp, b < s2.heap.objs.size := fun b hb => by
    obtain ⟨o, e, _⟩ := T.obj _ _ st2 b hb
    exact Heap.lt_size e
  have f3 : ∀ b ∈ fp, FpOk X pins (upd H2 D (.lst [])) b ∧ b < s3.heap.objs.size := fun b hb => by
    have hlt := sz b hb
    refine ⟨⟨?_, (f2 b hb).2⟩, by rw [h3, Heap.size_push]; exact Nat.lt_succ_of_lt hlt⟩
    rw [upd_ne (by rw [← hD]; exact Nat.ne_of_lt hlt)]
    exact (f2 b hb).1
  have st3 : tn 0 s3.heap := T.keep _ _ _ st2 fun b _ o e => by rw [h3]; exact Heap.get?_push_of_some _ e
  have I4 := block_start I3 ok hN f3
  have pg := hg s3 (upd H2 D (.lst [])) s3.heap.objs.size (cellsFrom (s3.heap.objs.size + 1) scope.names (cloFrom X.env.cells scope.names [])) fp
  have pt := ht s3 (upd H2 D (.lst [])) s3.heap.objs.size (cellsFrom (s3.heap.objs.size + 1) scope.names (cloFrom X.env.cells scope.names [])) fp
  have pe := he s3 (upd H2 D (.lst [])) s3.heap.objs.size (cellsFrom (s3.heap.objs.size + 1) scope.names (cloFrom X.env.cells scope.names [])) fp
  show codeAny _ _ (.compStart (.ListComp elt [⟨tg, iter, ifs, 0⟩] scope pos) 0 (.ref it) (.ref D) (compEnvC scope (cellsFrom (s3.heap.objs.size + 1) scope.names (cloFrom X.env.cells scope.names [])) s3.heap.objs.size X.env)) (compPost (model X.prog X.w) X.A X.xe use Qf (.ref D) s3.heap.objs.size) { s3 with heap := pushCells (s3.heap.push { cls := .type "dict", data := .dict #[] }) scope.names }
  have nfp : ∀ b ∈ fp, (upd H2 D (.lst [])) b = none := fun b hb => (f3 b hb).1.1
  generalize hce : compEnvC scope (cellsFrom (s3.heap.objs.size + 1) scope.names (cloFrom X.env.cells scope.names [])) s3.heap.objs.size X.env = ce at I4 pg pt pe ⊢
  have cL : ce.locals = s3.heap.objs.size := by subst hce; rfl
  generalize hH3 : upd H2 D (.lst []) = H3 at I3 I4 pg pt pe w0 nfp f3
  generalize hs4 : ({ s3 with heap := pushCells (s3.heap.push { cls := .type "dict", data := .dict #[] }) scope.names } : Shared) = s4 at I4 ⊢
  have st4 : tn 0 s4.heap := T.keep _ _ _ st3 fun b _ o e => by rw [← hs4]; exact pushCells_keeps _ _ _ _ (Heap.get?_push_of_some _ e)
  have stat : ∀ {σ' : St} {H' : Hp} {s' : Shared}, Inv (X.blk s3 H3 scope ce fp) [] σ' H' s' → (∀ b ∈ fp, H' b = none) → ∀ b ∈ fp, FpOk (X.blk s3 H3 scope ce fp) [] H' b := fun {σ' H' s'} I' hn b hb =>
    ⟨hn b hb, (I'.ok.exf b hb).1, I'.ok.exfs b hb, .inl hb, fun x c e => (I'.ok.exf b hb).2 x c e, fun p hp => absurd (show p ∈ ([] : List (Addr × Obj)) ++ [] from hp) (by simp)⟩
  have loop : codeAny (model X.prog X.w) X.A (.compLoop (.ListComp elt [⟨tg, iter, ifs, 0⟩] scope pos) 0 (.ref it) (.ref D) ce) (compPost (model X.prog X.w) X.A X.xe use Qf (.ref D) s3.heap.objs.size) s4 := by
    refine compLoop_any (fun n s' => ∃ i H', Inv (X.blk s3 H3 scope ce fp) [] (wipe σ (own.map (·.2))) H' s' ∧ tn i s'.heap ∧ (∀ b ∈ fp, H' b = none) ∧ W i n H') ?_ m0 ⟨0, H3, I4, st4, nfp, w0⟩
    rintro n s5 ⟨i, H5, I5, st5, n5, w5⟩
    rcases turn i n H5 w5 with ⟨stop, qq⟩ | ⟨go, Nx, hNx, step⟩
    · have td := T.done (X.blk s3 H3 scope ce fp) rfl rfl rfl hc i [] s5 _ H5 (fun _ _ => False) I5 (stat I5 n5) st5 stop
      refine thnF td fun r s6 ⟨hr, I6⟩ => ?_
      subst hr
      have I7 : Inv X pins σ H5 s6 := I3.call' (ch := fp) I6.os I6.base I6.hok I6.bare fun b hb => ⟨(f3 b hb).1.2.2.2.1, (f3 b hb).1.2.1, (f3 b hb).1.2.2.2.2.1, (f3 b hb).1.2.2.2.2.2⟩
      have nC : H5 s3.heap.objs.size = none := by
        have z : H5 ce.locals = none := I6.free
        rw [cL] at z
        exact z
      obtain ⟨m, hn, _⟩ := I6.loc
      have hn : s6.heap.Ns ce.locals m := hn
      rw [cL] at hn
      exact hRR D s3.heap.objs.size s6 m H5 I7 qq hn (I3.fpOk (Nat.le_refl _) nC)
    · have ti := T.item (X.blk s3 H3 scope ce fp) rfl rfl rfl hc i [] s5 _ H5 (fun _ _ => False) I5 (stat I5 n5) st5 go
      refine thnF ti fun r s6 ⟨u, hr, h6⟩ => ?_
      subst hr
      refine thnF h6 fun _ s7 ⟨x, H7, I7, r7, y7, st7, n7⟩ => ?_
      have I7' := I7.pinned (stat I7 n7) (T.obj _ _ st7)
      refine thnF (pg _ s7 _ H7 x u _ I7' r7 (step x H7 y7)) fun _ s8 ⟨σ8, H8, I8, hw8, q8⟩ => ?_
      refine thnF (pt _ s8 σ8 H8 _ I8 q8) fun b s9 ⟨H9, I9, q9⟩ => ?_
      have fin : ∀ {s' : Shared} {H' : Hp}, Inv (X.blk s3 H3 scope ce fp) ([] ++ pinsAt fp s7.heap) σ8 H' s' → Nx H' → ∃ m, m < n ∧ ∃ i H', Inv (X.blk s3 H3 scope ce fp) [] (wipe σ (own.map (·.2))) H' s' ∧ tn i s'.heap ∧ (∀ b ∈ fp, H' b = none) ∧ W i m H' := fun {s' H'} I' nx => by
        obtain ⟨m', hm, w'⟩ := hNx H' nx
        have pin' : ∀ b ∈ fp, ∀ o, s7.heap.get? b = some o → s'.heap.get? b = some o ∧ H' b = none := fun b hb o e =>
          let z := I'.pin (b, o) (List.mem_append_right _ (List.mem_append_right _ (mem_pinsAt hb e)))
          ⟨z.1, z.2.1⟩
        have hl : (wipe σ (own.map (·.2))).length = σ8.length := by rw [← hw8, wipe_length]
        refine ⟨m', hm, i + 1, H', (I'.unpinned (pins := [])).weak hl (fun j v e => ?_), T.keep _ _ _ st7 fun b hb o e => (pin' b hb o e).1, fun b hb => ?_, w'⟩
        · rw [← hw8] at e
          exact (wipe_some e).1
        · obtain ⟨o, e, _⟩ := T.obj _ _ st7 b hb
          exact (pin' b hb o e).2
      cases b with
      | false =>
        simp only [Bool.false_eq_true, if_false] at q9 ⊢
        exact fin I9 q9
      | true =>
        simp only [if_true] at q9 ⊢
        refine thnF (pe _ s9 σ8 H9 _ I9 q9) fun z s10 ⟨yv, H10, I10, r10, acc, hD10, hz10, nx⟩ => ?_
        exact app_ok (X := X.blk s3 H3 scope ce fp) I10 hD10 hz10 r10 fun s11 I11 => fin I11 nx
  exact codeAny_compStart_list loop (T.self X.A 0 _ _ _ st4 loop)
theorem pe_lc {elt tg iter : Expr} {ifs : List Expr} {scope : Scope} {own : List (Str × Nat)} {pos : Pos} {wi : TI} {g : TG} {tt : TT} {te : TE} (hc : X.calm = true) (hN : X.N.Nodup) (hi : PI X tg iter wi) (ok : BlkOk X.N X.env.scope scope own)
    (hg : ∀ (s : Shared) (H : Hp) (C : Addr) (cl : List (Str × Addr)) (fp : List Addr), PG (X.blk s H scope (compEnvC scope cl C X.env) fp) tg g) (ht : ∀ (s : Shared) (H : Hp) (C : Addr) (cl : List (Str × Addr)) (fp : List Addr), PTs (X.blk s H scope (compEnvC scope cl C X.env) fp) ifs tt)
    (he : ∀ (s : Shared) (H : Hp) (C : Addr) (cl : List (Str × Addr)) (fp : List Addr), PE (X.blk s H scope (compEnvC scope cl C X.env) fp) elt te) (hs : ∀ x, foldedSetIterable iter X.env x = pure x := by intro _; rfl) :
    PE X (.ListComp elt [⟨tg, iter, ifs, 0⟩] scope pos) (tLc wi g tt te (own.map (·.2))) := by
  intro pins s σ H Q I h
  rw [eval_ListComp]
  refine lc_core hc hN I hi ok hg ht he hs h fun D C s' m H' I' q hn f => ⟨m, hn, fun h'' sb => ?_⟩
  obtain ⟨f0, f1, f2, f3, f4, f5⟩ := f
  exact ⟨.ref D, H', I'.turned (t' := s'.toks) (fun b o hb e => (sb.2 b hb).trans e) f0 f1 f3 f4 f5, rfl, q⟩
theorem ps_setLc {i : Nat} {y : Str} {py : Pos} {elt tg iter : Expr} {ifs : List Expr} {scope : Scope} {own : List (Str × Nat)} {pos spos : Pos} {wi : TI} {g : TG} {tt : TT} {te : TE} (hc : X.calm = true) (hN : X.N.Nodup) (hy : X.N[i]? = some y) (hyl : X.env.scope.names.lookup y = some .local)
    (hsw : swapsWith (.ListComp elt [⟨tg, iter, ifs, 0⟩] scope pos) (some (.Name y py)) spos.line X.env = pure true) (hi : PI X tg iter wi) (ok : BlkOk X.N X.env.scope scope own)
    (hg : ∀ (s : Shared) (H : Hp) (C : Addr) (cl : List (Str × Addr)) (fp : List Addr), PG (X.blk s H scope (compEnvC scope cl C X.env) fp) tg g) (ht : ∀ (s : Shared) (H : Hp) (C : Addr) (cl : List (Str × Addr)) (fp : List Addr), PTs (X.blk s H scope (compEnvC scope cl C X.env) fp) ifs tt)
    (he : ∀ (s : Shared) (H : Hp) (C : Addr) (cl : List (Str × Addr)) (fp : List Addr), PE (X.blk s H scope (compEnvC scope cl C X.env) fp) elt te) (hs : ∀ x, foldedSetIterable iter X.env x = pure x := by intro _; rfl) :
    PS X (.Assign [.Name y py] (.ListComp elt [⟨tg, iter, ifs, 0⟩] scope pos) spos) (tAsg (tLc wi g tt te (own.map (·.2))) (gName i)) := by
  intro pins s σ H D I h
  rw [exec_Assign_Name_used _ _ _ _ hsw]
  refine wpAny_bind (wpAny_standAt (wpAny_bind ?_))
  show wpAny _ X.A (do let _ ← comprehension (.ListComp elt [⟨tg, iter, ifs, 0⟩] scope pos) scope X.env (firstIterPos [⟨tg, iter, ifs, 0⟩] pos) (newList []) false (eval iter X.env) (some (assign (.Name y py) X.env))) _ _ s
  have h : tLc wi g tt te (own.map (·.2)) σ H (fun x H1 => gName i x σ H1 D.nx) := h
  refine wpAny_bind (thn (lc_core (Qf := fun _ s' => SP X pins D .next s') hc hN I hi ok hg ht he hs h fun L C s' m H' I' q hn f => ?_) fun _ s' hq => wpAny_pure (wpAny_pure hq))
  show wpAny _ _ (assign (.Name y py) X.env (.ref L)) _ _ _
  refine wpAny_assign_Name (store_ok2 (v := V.ref L) I' hN hy (.inl hyl) rfl (fun s2 I2 ⟨a, sb, ha⟩ => ?_) (.inr hyl))
  obtain ⟨f0, f1, f2, f3, f4, f5⟩ := f
  have haC : C ≠ a := by
    rcases ha with z | z
    · rw [z]; exact f1
    · exact fun e => f4 y a z e.symm
  refine ⟨m, hn.sameBut sb haC, fun h3 sb3 => ?_⟩
  exact ⟨_, H', I2.turned (t' := s2.toks) (fun b o hb e => (sb3.2 b hb).trans e) f0 f1 f3 f4 f5, q⟩
theorem sw_true {elt : Expr} {gs : List Comprehension} {scope : Scope} {pos py : Pos} {y : Str} {l : Nat} {env : Env} (hk : env.scope.kind = .function) (hy : env.scope.names.lookup y = some .local) (hl : (py.line == pos.line) = true)
    (ha : (scope.names.any fun (n, k) => n == y && (k == .local || k == .cell)) = false) : swapsWith (.ListComp elt gs scope pos) (some (.Name y py)) l env = pure true := by
  have ky : env.kindOf y = some .local := hy
  have hb : env.blockKind = .function := by unfold Env.blockKind; rw [hk]; rfl
  unfold swapsWith
  simp only [hb, ky, ha, Expr.pos, hl]
  rfl
end

theorem lc_range {lo : Int} {n : Nat} {g : TG} {tt : TT} {te : TE} {vs : List Nat} {σ : St} {H1 : Hp} {D : Addr} {Qd : Hp → Prop} (Pv : Nat → Hp → Prop) (h0 : Pv 0 (upd H1 D (.lst [])))
    (hs : ∀ i H, i < n → Pv i H → g (.int (lo + i)) (wipe σ vs) H fun σ2 H2 => wipe σ2 vs = wipe σ vs ∧ tt σ2 H2 fun b H3 =>
      if b = true then te σ2 H3 fun y H4 => ∃ acc, H4 D = some (.lst acc) ∧ acc.length < sizeLine ∧ Pv (i + 1) (upd H4 D (.lst (acc ++ [y]))) else Pv (i + 1) H3) (hd : ∀ H, Pv n H → Qd H) :
    ∃ W : Nat → Nat → Hp → Prop, (∃ m, W 0 m (upd H1 D (.lst []))) ∧ ∀ i m H, W i m H →
      ((Itr lo n).stop i H ∧ Qd H) ∨ ((Itr lo n).go i H ∧ ∃ Nx : Hp → Prop, (∀ H', Nx H' → ∃ m', m' < m ∧ W (i + 1) m' H') ∧ ∀ x H', (Itr lo n).yld i H x H' → g x (wipe σ vs) H' fun σ2 H2 => wipe σ2 vs = wipe σ vs ∧ tt σ2 H2 fun b H3 =>
        if b = true then te σ2 H3 fun y H4 => ∃ acc, H4 D = some (.lst acc) ∧ acc.length < sizeLine ∧ Nx (upd H4 D (.lst (acc ++ [y]))) else Nx H3) := by
  refine ⟨fun i m H => m = n - i ∧ i ≤ n ∧ Pv i H, ⟨n, by simp, Nat.zero_le _, h0⟩, ?_⟩
  rintro i m H ⟨rfl, hi, p⟩
  by_cases hlt : i < n
  · refine .inr ⟨hlt, Pv (i + 1), fun H' p' => ⟨n - (i + 1), by omega, rfl, hlt, p'⟩, fun x H' y => ?_⟩
    obtain ⟨e, y⟩ := y
    subst e y
    exact hs i _ hlt p
  · have e : i = n := by omega
    subst e
    exact .inl ⟨Nat.le_refl _, hd H p⟩
theorem lc_list {K : PySem.W.Frag} {a : Addr} {xs : List V} {g : TG} {tt : TT} {te : TE} {vs : List Nat} {σ : St} {H1 : Hp} {D : Addr} {Qd : Hp → Prop} (Pv : Nat → Hp → Prop) (h0 : Pv 0 (upd H1 D (.lst []))) (hl : ∀ i H, i ≤ xs.length → Pv i H → SqL K H a xs)
    (hs : ∀ i x H, xs[i]? = some x → Pv i H → g x (wipe σ vs) H fun σ2 H2 => wipe σ2 vs = wipe σ vs ∧ tt σ2 H2 fun b H3 =>
      if b = true then te σ2 H3 fun y H4 => ∃ acc, H4 D = some (.lst acc) ∧ acc.length < sizeLine ∧ Pv (i + 1) (upd H4 D (.lst (acc ++ [y]))) else Pv (i + 1) H3) (hd : ∀ H, Pv xs.length H → Qd H) :
    ∃ W : Nat → Nat → Hp → Prop, (∃ m, W 0 m (upd H1 D (.lst []))) ∧ ∀ i m H, W i m H →
      ((Itl K a).stop i H ∧ Qd H) ∨ ((Itl K a).go i H ∧ ∃ Nx : Hp → Prop, (∀ H', Nx H' → ∃ m', m' < m ∧ W (i + 1) m' H') ∧ ∀ x H', (Itl K a).yld i H x H' → g x (wipe σ vs) H' fun σ2 H2 => wipe σ2 vs = wipe σ vs ∧ tt σ2 H2 fun b H3 =>
        if b = true then te σ2 H3 fun y H4 => ∃ acc, H4 D = some (.lst acc) ∧ acc.length < sizeLine ∧ Nx (upd H4 D (.lst (acc ++ [y]))) else Nx H3) := by
  refine ⟨fun i m H => m = xs.length - i ∧ i ≤ xs.length ∧ Pv i H, ⟨xs.length, by simp, Nat.zero_le _, h0⟩, ?_⟩
  rintro i m H ⟨rfl, hi, p⟩
  have q := hl i H hi p
  by_cases hlt : i < xs.length
  · refine .inr ⟨⟨xs, xs[i], q, by simp [hlt]⟩, Pv (i + 1), fun H' p' => ⟨xs.length - (i + 1), by omega, rfl, hlt, p'⟩, fun x H' y => ?_⟩
    obtain ⟨e, y⟩ := y
    subst e
    exact hs i x _ (y xs q) p
  · have e : i = xs.length := by omega
    subst e
    exact .inl ⟨⟨xs, q, Nat.le_refl _⟩, hd H p⟩
def blkC (N : List Str) (sc scope : Scope) (own : List (Str × Nat)) : Bool :=
  (match scope.kind with | .function => true | _ => false) && (scope.names.all fun y => decide (scope.names.lookup y.1 = some y.2)) && (own.all fun p => decide (N[p.2]? = some p.1)) &&
    (scope.names.all fun y => match y.2 with
      | .free => (match sc.names.lookup y.1 with | some .cell => true | some .free => true | _ => false)
      | .local => decide (y.1 ∈ own.map (·.1)) || decide (y.1 ∉ N)
      | .cell => decide (y.1 ∈ own.map (·.1)) || decide (y.1 ∉ N)
      | _ => true)
theorem blkOk_by {N : List Str} {sc scope : Scope} {own : List (Str × Nat)} (h : blkC N sc scope own = true) : BlkOk N sc scope own := by
  unfold blkC at h
  simp only [Bool.and_eq_true, List.all_eq_true, decide_eq_true_eq] at h
  obtain ⟨⟨⟨h1, h2⟩, h3⟩, h4⟩ := h
  refine ⟨?_, h2, h3, fun y hy e => ?_, fun y hy e => ?_⟩
  · split at h1
    · assumption
    · cases h1
  · have q := h4 y hy
    simp only [e] at q
    split at q <;> first | exact .inl (by assumption) | exact .inr (by assumption) | cases q
  · have q := h4 y hy
    rcases e with e | e <;> (simp only [e, Bool.or_eq_true, decide_eq_true_eq] at q; exact q)
end L2

namespace L2
open PySem PySem.Spec PyProof.Rows

section
variable {prog : Program} {w : World} {A : Around} {R : Result → Shared → Prop} {s : Shared} {elt t0 i0 t1 i1 : Expr} {ifs0 ifs1 : List Expr} {scope : Scope} {pos : Pos} {it acc : Value} {env : Env}
end

section
variable {X : Cx}
end
end L2

namespace L2
open PySem PySem.Spec PyProof.Rows

section
variable {κ : Type} [DecidableEq κ]
def valV (kvs : List (κ × V)) (k : κ) : Option V := (kvs.find? fun kv => decide (kv.1 = k)).map (·.2)
def putK (kvs : List (κ × V)) (k : κ) (v : V) : List (κ × V) :=
  if (kvs.any fun kv => decide (kv.1 = k)) = true then kvs.map (fun kv => if kv.1 = k then (kv.1, v) else kv) else kvs ++ [(k, v)]
def dropK (kvs : List (κ × V)) (k : κ) : List (κ × V) := kvs.filter fun kv => decide (kv.1 ≠ k)

theorem valV_pos {p : κ × V} {r : List (κ × V)} {k : κ} (e : p.1 = k) : valV (p :: r) k = some p.2 := by simp [valV, List.find?_cons, e]
theorem valV_neg {p : κ × V} {r : List (κ × V)} {k : κ} (e : ¬ p.1 = k) : valV (p :: r) k = valV r k := by simp [valV, List.find?_cons, e]
theorem valV_any (k : κ) : ∀ kvs : List (κ × V), (kvs.any fun kv => decide (kv.1 = k)) = (valV kvs k).isSome
  | [] => rfl
  | p :: r => by
    rw [List.any_cons]
    by_cases e : p.1 = k
    · simp only [valV_pos e, decide_eq_true e, Bool.true_or, Option.isSome_some]
    · rw [valV_neg e, decide_eq_false e, Bool.false_or]; exact valV_any k r
theorem valV_map (k j : κ) (y : V) : ∀ kvs : List (κ × V), valV (kvs.map fun kv => if kv.1 = k then (kv.1, y) else kv) j = (valV kvs j).map fun x => if j = k then y else x
  | [] => rfl
  | p :: r => by
    have ih := valV_map k j y r
    rw [List.map_cons]
    by_cases h : p.1 = k
    · rw [if_pos h]
      by_cases e : p.1 = j
      · rw [valV_pos (p := (p.1, y)) e, valV_pos e, Option.map_some, if_pos (e.symm.trans h)]
      · rw [valV_neg (p := (p.1, y)) e, valV_neg e, ih]
    · rw [if_neg h]
      by_cases e : p.1 = j
      · rw [valV_pos (p := p) e, valV_pos e, Option.map_some, if_neg (fun z => h (e.trans z))]
      · rw [valV_neg (p := p) e, valV_neg e, ih]
theorem valV_snoc (k j : κ) (y : V) : ∀ kvs : List (κ × V), valV kvs k = none → valV (kvs ++ [(k, y)]) j = if j = k then some y else valV kvs j
  | [], _ => by
    by_cases e : k = j
    · rw [if_pos e.symm]; exact valV_pos (p := (k, y)) e
    · rw [if_neg (fun z => e z.symm)]; exact valV_neg (p := (k, y)) e
  | p :: r, hn => by
    rw [List.cons_append]
    have hk : ¬ p.1 = k := fun z => by rw [valV_pos z] at hn; cases hn
    rw [valV_neg hk] at hn
    have ih := valV_snoc k j y r hn
    by_cases e : p.1 = j
    · rw [valV_pos e, valV_pos e, if_neg (fun z => hk (e.trans z))]
    · rw [valV_neg e, valV_neg e, ih]
theorem valV_put (kvs : List (κ × V)) (k j : κ) (y : V) : valV (putK kvs k y) j = if j = k then some y else valV kvs j := by
  unfold putK
  by_cases a : (kvs.any fun kv => decide (kv.1 = k)) = true
  · rw [if_pos a, valV_map]
    rw [valV_any] at a
    by_cases e : j = k
    · obtain ⟨x, hx⟩ := Option.isSome_iff_exists.mp a
      rw [if_pos e, e, hx, Option.map_some, if_pos rfl]
    · rw [if_neg e]
      cases valV kvs j with
      | none => rfl
      | some x => rw [Option.map_some, if_neg e]
  · rw [if_neg a]
    refine valV_snoc k j y kvs ?_
    rw [valV_any] at a
    cases q : valV kvs k with
    | none => rfl
    | some x => rw [q] at a; exact (a rfl).elim
theorem putK_new {kvs : List (κ × V)} {k : κ} (v : V) (h : valV kvs k = none) : putK kvs k v = kvs ++ [(k, v)] := by
  unfold putK
  rw [valV_any, h]
  exact if_neg (by decide)

theorem RelO.isSome_eq {o : Option V} {u : Option Value} (r : RelO o u) : o.isSome = u.isSome := by
  cases o with
  | none => cases u with
    | none => rfl
    | some _ => exact (show False from r).elim
  | some _ => cases u with
    | none => exact (show False from r).elim
    | some _ => rfl
theorem RelO.getD {o : Option V} {u : Option Value} {d : V} {d' : Value} (r : RelO o u) (rd : RelV d d') : RelV (o.getD d) (u.getD d') := by
  cases o with
  | none => cases u with
    | none => exact rd
    | some _ => exact (show False from r).elim
  | some _ => cases u with
    | none => exact (show False from r).elim
    | some _ => exact r

theorem KV.val {kvs : List (κ × V)} {vs : List (κ × Value)} (r : KV kvs vs) (k : κ) : RelO (valV kvs k) (valueAt vs k) := by
  unfold KV at r
  induction r with
  | nil => exact True.intro
  | @cons p q ps qs h t ih =>
    obtain ⟨h1, h2⟩ := h
    by_cases e : p.1 = k
    · have e' : q.1 = k := h1.symm.trans e
      have b : valueAt (q :: qs) k = some q.2 := by simp [valueAt, List.find?_cons, e']
      rw [valV_pos e, b]; exact h2
    · have e' : ¬ q.1 = k := fun z => e (h1.trans z)
      have b : valueAt (q :: qs) k = valueAt qs k := by simp [valueAt, List.find?_cons, e']
      rw [valV_neg e, b]; exact ih
theorem KV.any {kvs : List (κ × V)} {vs : List (κ × Value)} (r : KV kvs vs) (k : κ) : (kvs.any fun kv => decide (kv.1 = k)) = vs.any fun kv => decide (kv.1 = k) := by
  unfold KV at r
  induction r with
  | nil => rfl
  | cons h t ih => rw [List.any_cons, List.any_cons, ih, h.1]
theorem KV.repl {kvs : List (κ × V)} {vs : List (κ × Value)} (r : KV kvs vs) (k : κ) {y : V} {u : Value} (ry : RelV y u) :
    KV (kvs.map fun kv => if kv.1 = k then (kv.1, y) else kv) (vs.map fun kv => if kv.1 = k then (kv.1, u) else kv) := by
  unfold KV at r ⊢
  induction r with
  | nil => exact .nil
  | @cons p q ps qs h t ih =>
    rw [List.map_cons, List.map_cons]
    refine .cons ?_ ih
    obtain ⟨h1, h2⟩ := h
    by_cases e : p.1 = k
    · rw [if_pos e, if_pos (h1.symm.trans e)]; exact ⟨h1, ry⟩
    · rw [if_neg e, if_neg (fun z => e (h1.trans z))]; exact ⟨h1, h2⟩
theorem KV.put {kvs : List (κ × V)} {vs : List (κ × Value)} (r : KV kvs vs) (k : κ) {y : V} {u : Value} (ry : RelV y u) : KV (putK kvs k y) (stored vs k u) := by
  unfold putK stored
  rw [r.any k]
  by_cases e : (vs.any fun kv => decide (kv.1 = k)) = true
  · rw [if_pos e, if_pos e]; exact r.repl k ry
  · rw [if_neg e, if_neg e]; exact Paired.snoc r ⟨rfl, ry⟩
theorem KV.drop {kvs : List (κ × V)} {vs : List (κ × Value)} (r : KV kvs vs) (k : κ) : KV (dropK kvs k) (without vs k) := by
  unfold KV at r ⊢
  unfold dropK without
  induction r with
  | nil => exact .nil
  | @cons p q ps qs h t ih =>
    obtain ⟨h1, h2⟩ := h
    rw [List.filter_cons, List.filter_cons]
    by_cases e : p.1 = k
    · have a : ¬ decide (p.1 ≠ k) = true := by simp [e]
      have b : ¬ decide (q.1 ≠ k) = true := by simp [h1.symm.trans e]
      rw [if_neg a, if_neg b]; exact ih
    · have e' : ¬ q.1 = k := fun z => e (h1.trans z)
      have a : decide (p.1 ≠ k) = true := by simp [e]
      have b : decide (q.1 ≠ k) = true := by simp [e']
      rw [if_pos a, if_pos b]; exact .cons ⟨h1, h2⟩ ih
theorem KV.keys {kvs : List (κ × V)} {vs : List (κ × Value)} (r : KV kvs vs) : kvs.map (·.1) = vs.map (·.1) := by
  unfold KV at r
  induction r with
  | nil => rfl
  | cons h t ih => rw [List.map_cons, List.map_cons, ih, h.1]
theorem KV.length {kvs : List (κ × V)} {vs : List (κ × Value)} (r : KV kvs vs) : kvs.length = vs.length := Paired.length r
end


abbrev KT (H : Hp) : List (List Key × V) → List (List Key × Addr × Value) → Prop := Paired fun p q => p.1 = q.1 ∧ H q.2.1 = some (.tup (p.1.map kV)) ∧ RelV p.2 q.2.2
theorem KT.val {H : Hp} {kvs : List (List Key × V)} {xs : List (List Key × Addr × Value)} (r : KT H kvs xs) (k : List Key) : RelO (valV kvs k) ((atKey xs k).map (·.2)) := by
  induction r with
  | nil => exact True.intro
  | @cons p q ps qs h t ih =>
    obtain ⟨h1, _, h2⟩ := h
    by_cases e : p.1 = k
    · have e' : q.1 = k := h1.symm.trans e
      have b : atKey (q :: qs) k = some q.2 := by simp [atKey, List.find?_cons, e']
      rw [valV_pos e, b]; exact h2
    · have e' : ¬ q.1 = k := fun z => e (h1.trans z)
      have b : atKey (q :: qs) k = atKey qs k := by simp [atKey, List.find?_cons, e']
      rw [valV_neg e, b]; exact ih
theorem KT.repl {H : Hp} {kvs : List (List Key × V)} {xs : List (List Key × Addr × Value)} (r : KT H kvs xs) (k : List Key) {y : V} {u : Value} (ry : RelV y u) :
    KT H (kvs.map fun kv => if kv.1 = k then (kv.1, y) else kv) (xs.map (putAt k u)) := by
  induction r with
  | nil => exact .nil
  | @cons p q ps qs h t ih =>
    rw [List.map_cons, List.map_cons]
    refine .cons ?_ ih
    obtain ⟨h1, h2, h3⟩ := h
    unfold putAt
    by_cases e : p.1 = k
    · rw [if_pos e, if_pos (h1.symm.trans e)]; exact ⟨h1, h2, ry⟩
    · rw [if_neg e, if_neg (fun z => e (h1.trans z))]; exact ⟨h1, h2, h3⟩
theorem KT.put {H : Hp} {kvs : List (List Key × V)} {xs : List (List Key × Addr × Value)} (r : KT H kvs xs) (k : List Key) {b : Addr} {y : V} {u : Value} (hb : H b = some (.tup (k.map kV))) (ry : RelV y u) :
    KT H (putK kvs k y) (storedH xs k b u) := by
  have e : (kvs.any fun kv => decide (kv.1 = k)) = (atKey xs k).isSome := by
    rw [valV_any, (r.val k).isSome_eq, Option.isSome_map]
  unfold putK storedH
  rw [e]
  by_cases q : (atKey xs k).isSome = true
  · rw [if_pos q, if_pos q]; exact r.repl k ry
  · rw [if_neg q, if_neg q]; exact Paired.snoc r ⟨rfl, hb, ry⟩
theorem KT.keeps {H H' : Hp} {kvs : List (List Key × V)} {xs : List (List Key × Addr × Value)} (r : KT H kvs xs) (ht : ∀ b ys, H b = some (.tup ys) → H' b = some (.tup ys)) : KT H' kvs xs :=
  Paired.mapP r fun _ _ z => ⟨z.1, ht _ _ z.2.1, z.2.2⟩

section
variable {P : Program} {w : World} {H : Hp} {h : Heap} {a : Addr}
end

def DGet (H : Hp) (a : Addr) (y : V) (r : Option V) : Prop :=
  (∃ kvs k, Rd H a (.dK kvs) ∧ y = kV k ∧ r = valV kvs k) ∨ ∃ kvs k b, Rd H a (.dT kvs) ∧ y = .ref b ∧ H b = some (.tup (k.map kV)) ∧ r = valV kvs k
def DPut (H : Hp) (a : Addr) (y v : V) (H' : Hp) : Prop :=
  (∃ kvs k, H a = some (.dK kvs) ∧ y = kV k ∧ kvs.length < sizeLine ∧ H' = upd H a (.dK (putK kvs k v))) ∨
  ∃ kvs k b, H a = some (.dT kvs) ∧ y = .ref b ∧ H b = some (.tup (k.map kV)) ∧ kvs.length < sizeLine ∧ H' = upd H a (.dT (putK kvs k v))
theorem DGet.k {H : Hp} {a : Addr} {kvs : List (Key × V)} {k : Key} (e : H a = some (.dK kvs)) : DGet H a (kV k) (valV kvs k) := .inl ⟨kvs, k, .inl e, rfl, rfl⟩
theorem DGet.t {H : Hp} {a b : Addr} {kvs : List (List Key × V)} {k : List Key} (e : H a = some (.dT kvs)) (eb : H b = some (.tup (k.map kV))) : DGet H a (.ref b) (valV kvs k) := .inr ⟨kvs, k, b, .inl e, rfl, eb, rfl⟩
theorem DPut.k {H : Hp} {a : Addr} {kvs : List (Key × V)} {k : Key} {v : V} (e : H a = some (.dK kvs)) (hl : kvs.length < sizeLine) : DPut H a (kV k) v (upd H a (.dK (putK kvs k v))) := .inl ⟨kvs, k, e, rfl, hl, rfl⟩
theorem DPut.t {H : Hp} {a b : Addr} {kvs : List (List Key × V)} {k : List Key} {v : V} (e : H a = some (.dT kvs)) (eb : H b = some (.tup (k.map kV))) (hl : kvs.length < sizeLine) :
    DPut H a (.ref b) v (upd H a (.dT (putK kvs k v))) := .inr ⟨kvs, k, b, e, rfl, eb, hl, rfl⟩


section
variable {X : Cx} {pins : List (Addr × Obj)} {σ : St} {H : Hp} {s : Shared} {a : Addr} {y v : V} {u r : Value} {o : Option V} {A : Around} {E : Value → Shared → Prop}

theorem Inv.big (I : Inv X pins σ H s) : sysModules < s.heap.objs.size := by
  have h : mainGlobals < s.heap.objs.size := (I.mod.glob.keeps I.bk).lt
  exact Nat.lt_trans (by decide) h

end

section
variable {X : Cx} {pins : List (Addr × Obj)} {σ : St} {H : Hp} {s : Shared} {a : Addr} {kvs : List (Key × V)} {k : Key} {u : Value} {A : Around} {E : Value → Shared → Prop}
end


section
variable {X : Cx} {o i e value : Expr} {pos pos' tpos : Pos} {td ty tv : TE}
end


section
variable {X : Cx} {pos : Pos}
end

section
variable {X : Cx} {pins : List (Addr × Obj)} {σ : St} {H : Hp} {s : Shared} {a : Addr} {y d : V} {u r : Value} {o : Option V} {A : Around} {E : Value → Shared → Prop}
end

section
variable {X : Cx} {o e f : Expr} {apos cpos : Pos} {td ty tx : TE}
end

section
variable {X : Cx} {pins : List (Addr × Obj)} {σ : St} {H : Hp} {s : Shared} {a : Addr} {kvs : List (Key × V)} {A : Around} {E : Value → Shared → Prop}
end


section
variable {X : Cx} {pins : List (Addr × Obj)} {σ : St} {H : Hp} {s : Shared} {a : Addr} {y : V} {u : Value} {A : Around} {E : Value → Shared → Prop}
end
end L2

namespace L2
open PySem PySem.Spec PyProof.Rows

section
variable {prog : Program} {w : World} {A : Around} {E : Value → Shared → Prop}
end

section
variable {X : Cx}
end
end L2

namespace L2
open PySem PySem.Spec PyProof.Rows

theorem boot_reversed5 : bootBuiltins "reversed" = some (.type "reversed") := by decide +kernel

section
variable {X : Cx} {pins : List (Addr × Obj)} {σ : St} {H : Hp} {s : Shared} {h' : Heap}
theorem Inv.turnedL {t' : Nat} {ch : List Addr} (I : Inv X pins σ H s) (k : ∀ b o, b ∉ ch → s.heap.get? b = some o → h'.get? b = some o) (hf : ∀ b ∈ ch, FpOk X pins H b) : Inv X pins σ H { s with heap := h', toks := t' } := by
  have nit : ∀ b u, H b = some u → b ∉ ch := fun b u e z => by
    have q := (hf b z).1
    rw [q] at e; cases e
  refine I.step (g' := s.gens) (d' := s.drawn) (ch := ch) (fun b hb => ⟨(hf b hb).2.2.2.1, (hf b hb).2.1, (hf b hb).2.2.2.2.1, (hf b hb).2.2.2.2.2⟩) (fun b o _ _ hc e _ => k b o hc e) (fun b o _ _ hc e _ => ⟨o.slots, k b o hc e⟩)
    (fun _ _ _ _ n => n) (fun b o hc e => ⟨o, k b o hc e⟩) (fun _ _ e => e) (fun _ _ _ e => e) (fun b ps e => ⟨#[], by rw [e]; simp⟩) (fun m hm => ?_) (fun b u e => ?_) I.bare
  · obtain ⟨o, es, ep, ho, r⟩ := hm
    exact ⟨o, es, ep, k _ o (fun z => (hf _ z).2.1 rfl) ho, r⟩
  · refine (I.hok b u e).stay (fun c v hc q => k c v ?_ q) (fun _ q => q) fun _ _ q => q
    rcases hc with z | z
    · rw [z]; exact nit b u e
    · exact nit c _ z
theorem Inv.turnedNew {t' : Nat} {ch : List Addr} {T : Addr} {ob : HO} (I : Inv X pins σ H s) (k : ∀ b o, b ∉ ch → s.heap.get? b = some o → h'.get? b = some o) (hf : ∀ b ∈ ch, FpOk X pins H b) (hT : s.heap.objs.size ≤ T)
    (new : ObjOk X.prog X.w (upd H T ob) h' T ob) : Inv X pins σ (upd H T ob) { s with heap := h', toks := t' } := by
  have hn : H T = none := I.hok.fresh hT
  have nit : ∀ b u, H b = some u → b ∉ ch := fun b u e z => by
    have q := (hf b z).1
    rw [q] at e; cases e
  refine I.step (g' := s.gens) (d' := s.drawn) (ch := ch) (fun b hb => ⟨(hf b hb).2.2.2.1, (hf b hb).2.1, (hf b hb).2.2.2.2.1, (hf b hb).2.2.2.2.2⟩) (fun b o _ _ hc e _ => k b o hc e) (fun b o _ _ hc e _ => ⟨o.slots, k b o hc e⟩)
    (fun b o _ e n => ?_) (fun b o hc e => ⟨o, k b o hc e⟩) (fun b xs e => ?_) (fun b o u e => ?_) (fun b ps e => ⟨#[], ?_⟩) (fun m hm => ?_) (fun b u e => ?_) I.bare
  · rw [upd_ne (Nat.ne_of_lt (Nat.lt_of_lt_of_le (Heap.lt_size e) hT))]; exact n
  · rw [upd_ne (ne_of_none e hn)]; exact e
  · rw [upd_ne (ne_of_none e hn)]; exact e
  · rw [upd_ne (ne_of_none e hn), e]; simp
  · obtain ⟨o, es, ep, ho, r⟩ := hm
    exact ⟨o, es, ep, k _ o (fun z => (hf _ z).2.1 rfl) ho, r⟩
  · by_cases hb : b = T
    · subst hb
      rw [upd_same] at e
      cases e
      exact new
    · rw [upd_ne hb] at e
      refine (I.hok b u e).stay (fun c v hc q => k c v ?_ q) (fun c q => by rw [upd_ne (ne_of_none q hn)]; exact q) fun c xs q => by rw [upd_ne (ne_of_none q hn)]; exact q
      rcases hc with z | z
      · rw [z]; exact nit b u e
      · exact nit c _ z

end
section
variable {X : Cx}
theorem pi_one {tg : Expr} {pins : List (Addr × Obj)} {σ : St} {H : Hp} {s : Shared} {R : It → Hp → Prop} {J : It} {tn : Nat → Heap → Prop} {tk : Nat} (I : Inv X pins σ H s) (o : Obj)
    (T : Turn X.prog X.w X.K tg J [s.heap.objs.size] s.heap.objs.size tn) (st : tn 0 (s.heap.push o)) (q : R J H) : PIE X pins σ tg R (.ref s.heap.objs.size) { s with heap := s.heap.push o, toks := tk } := by
  refine ⟨s.heap.objs.size, [s.heap.objs.size], tn, J, H, rfl, I.kept fun b ob e => Heap.get?_push_of_some _ e, T, st, fun b hb => ?_, q⟩
  have e : b = s.heap.objs.size := by simpa using hb
  subst e
  exact I.fpOk (Nat.le_refl _) (I.hok.fresh (Nat.le_refl _))
end

def RgC (i j c : Int) (n : Nat) : Prop := c ≠ 0 ∧ c.natAbs < 1073741824 ∧ Builtin.Range.small i j c = true ∧ Builtin.Range.rangeSize i j c = n
theorem RgC.neg {i j : Int} (ha : -(2 ^ 62) ≤ i) (ha' : i < 2 ^ 62) (hb : -(2 ^ 62) ≤ j) (hb' : j < 2 ^ 62) : RgC i j (-1) (i - j).toNat :=
  ⟨by decide, by decide, PySem.W.small_down ha ha' hb hb', PySem.W.rangeSize_downNat i j⟩
section
variable {X : Cx} {tg : Expr}
end
def Itv (K : PySem.W.Frag) (a : Addr) (n : Nat) : It :=
  ⟨fun i H => i < n ∧ ∃ (xs : List V) (x : V), SqL K H a xs ∧ xs[n - 1 - i]? = some x, fun i H x H' => H' = H ∧ ∀ xs, SqL K H a xs → xs[n - 1 - i]? = some x, fun i _ => n ≤ i⟩
theorem turn_rev {P : Program} {w : World} {K : PySem.W.Frag} {tg : Expr} (a it : Addr) (n : Nat) : Turn P w K tg (Itv K a n) [it] it (fun i h => i ≤ n ∧ h.IsRevIter it a ((n : Int) - 1 - (i : Nat))) where
  mem := by simp
  obj := fun i h st b hb => by
    have e : b = it := by simpa using hb
    subst e
    obtain ⟨_, o, e, c, d⟩ := st
    exact ⟨o, e, fun v z => by rw [d] at z; cases z⟩
  keep := fun i h h' st k => ⟨st.1, st.2.at fun o e => k it (by simp) o e⟩
  item := by
    intro X hP hw hK hc i pins s σ H E I hf st hg
    subst hP hw hK
    obtain ⟨hin, xs, x, hq, hx⟩ := hg
    obtain ⟨its, rv, p, hz⟩ := I.list hq
    obtain ⟨u, hu, ru⟩ := rv.get hx
    obtain ⟨f0, f1, f2, f3, f4, f5⟩ := hf it (by simp)
    obtain ⟨_, hit⟩ := st
    have e1 : (n : Int) - 1 - ((i : Nat) : Int) = ((n - 1 - i : Nat) : Int) := by omega
    rw [e1] at hit
    refine wpAny_pyNext_rev_item hit p.isList (x := u) (by simpa using hu) fun h' st' sb => ?_
    have e2 : ((n - 1 - i : Nat) : Int) - 1 = (n : Int) - 1 - ((i + 1 : Nat) : Int) := by omega
    rw [e2] at st'
    have I1 : Inv X pins σ H { s with heap := h' } := I.turned (t' := s.toks) (fun b o hb e => (sb.2 b hb).trans e) f0 f1 f3 f4 f5
    obtain ⟨o, e, c, d⟩ := id st'
    exact ⟨u, rfl, go_of (s := { s with heap := h' }) e c d (by decide) ⟨x, H, I1, ru, ⟨rfl, fun ys hy => by rw [I.list_inj hy hq]; exact hx⟩, ⟨hin, st'⟩, fun b hb => (hf b hb).1⟩⟩
  done := by
    intro X hP hw hK hc i pins s σ H E I hf st hg
    subst hP hw hK
    obtain ⟨f0, f1, f2, f3, f4, f5⟩ := hf it (by simp)
    obtain ⟨hin, hit⟩ := st
    have hge : n ≤ i := hg
    have e1 : (n : Int) - 1 - ((i : Nat) : Int) = -1 := by omega
    rw [e1] at hit
    exact wpAny_pyNext_rev_end (I.ok.hd hc) hit fun h' eb => ⟨rfl, I.turned (t' := s.toks) (fun b o hb e => eb b o hb e) f0 f1 f3 f4 f5⟩
  self := fun A i s Q E st h => wpAny_pyIter_revIter st.2 h
def iRev (K : PySem.W.Frag) (ta : TA) : TI := fun σ H R => ta σ H fun vs H1 => ∃ (a : Addr) (xs : List V), vs = [.ref a] ∧ SqL K H1 a xs ∧ R (Itv K a xs.length) H1
section
variable {X : Cx} {tg : Expr}
theorem pi_reversed {e : Expr} {ta : TA} {p pos : Pos} (hg : Gl X "reversed") (hm : X.mg "reversed" = none) (ha : PA X [e] ta) (hs : starEach [e] X.env = [(false, eval e X.env)] := by rfl) : PI X tg (.Call (.Name "reversed" p) [e] [] pos) (iRev X.K ta) := by
  intro pins s σ H R I h
  refine Call_ (ld_blt I hg hm boot_reversed5 (PyProof.Rows.callWith_type1 (thn (ha pos pins s σ H _ I h) fun us s1 ⟨vs, H1, I1, r1, q1⟩ => ?_) hs rfl))
  obtain ⟨a, xs, e, hq, q⟩ := q1
  subst e
  cases r1 with
  | cons r rr =>
    cases rr
    cases r
    obtain ⟨its, rv, p', hz⟩ := I1.list hq
    have hl := rv.length
    have e1 : ((its.toArray.size : Nat) : Int) - 1 = (xs.length : Int) - 1 - ((0 : Nat) : Int) := by simp only [List.size_toArray]; omega
    refine call_reversed_list p'.isList (wpAny_pyIter_revIter (l := a) (i := ((its.toArray.size : Nat) : Int) - 1) ⟨_, Heap.get?_push_size _ rfl, rfl, rfl⟩ ?_)
    refine pi_one (tk := s1.toks) I1 _ (turn_rev a _ xs.length) ⟨Nat.zero_le _, ?_⟩ q
    rw [← e1]
    exact ⟨_, Heap.get?_push_size _ rfl, rfl, rfl⟩
end

section
variable {prog : Program} {w : World} {A : Around} {E : Value → Shared → Prop} {s : Shared}
end

section
variable {X : Cx} {pins : List (Addr × Obj)} {σ : St} {H : Hp} {s : Shared} {d : Addr} {o : Obj}
end

section
variable {P : Program} {w : World} {K : PySem.W.Frag} {tg : Expr} {d : Addr} {o : Obj} {es : Array DictEntry} {ep : Nat}
end

section
variable {X : Cx} {tg e : Expr} {td : TE} {apos cpos : Pos}
end

def Ite (K : PySem.W.Frag) (a : Addr) : It :=
  ⟨fun i H => ∃ (xs : List V) (x : V), SqL K H a xs ∧ xs[i]? = some x, fun i H v H' => ∃ T x, v = .ref T ∧ H T = none ∧ H' = upd H T (.tup [.int (i : Nat), x]) ∧ ∀ xs, SqL K H a xs → xs[i]? = some x, fun i H => ∃ xs : List V, SqL K H a xs ∧ xs.length ≤ i⟩
theorem turn_enum {P : Program} {w : World} {K : PySem.W.Frag} {elts : List Expr} {kk : Nat} {tpos : Pos} (a e it : Addr) :
    Turn P w K (.Tuple elts kk tpos) (Ite K a) [e, it] e (fun i h => (∃ old, IsEnum h e it ((i : Nat) : Int) old) ∧ h.IsListIter it a i ∧ e ≠ it) where
  mem := by simp
  obj := fun i h st b hb => by
    obtain ⟨⟨old, he⟩, ⟨o, ho, hc, hd⟩, _⟩ := st
    have e' : b = e ∨ b = it := by simpa using hb
    rcases e' with z | z
    · rw [z]; exact ⟨_, he, fun v q => nomatch q⟩
    · rw [z]; exact ⟨o, ho, fun v q => by rw [hd] at q; cases q⟩
  keep := fun i h h' st k => let ⟨⟨old, he⟩, hi, hne⟩ := st; ⟨⟨old, k e (by simp) _ he⟩, hi.at fun o q => k it (by simp) o q, hne⟩
  item := by
    intro X hP hw hK hc i pins s σ H E I hf st hg
    subst hP hw hK
    obtain ⟨⟨old, he⟩, hit, hne⟩ := st
    obtain ⟨xs, x, hq, hx⟩ := hg
    obtain ⟨its, rv, p, hz⟩ := I.list hq
    obtain ⟨u, hu, ru⟩ := rv.get hx
    have hel : e < s.heap.objs.size := Heap.lt_size he
    have hil : it < s.heap.objs.size := by obtain ⟨_, q, _⟩ := hit; exact Heap.lt_size q
    refine wpAny_pyNext_enum_item he hit p.isList (x := u) (by simpa using hu) hne fun h' ho hit' hT hsz hk => ?_
    refine ⟨_, rfl, wpAny_letOwnedTupleGo_enum (s := { s with heap := h', toks := s.toks + 1 }) ho fun h'' he' sb => ?_⟩
    have hT2 : h''.get? s.heap.objs.size = some { cls := .type "tuple", data := .seq #[.int i s.toks, u] } := (sb.2 _ (Nat.ne_of_gt hel)).trans hT
    have new : ObjOk X.prog X.w (upd H s.heap.objs.size (.tup [.int (i : Nat), x])) h'' s.heap.objs.size (.tup [.int (i : Nat), x]) :=
      ⟨by show 2 ≤ sizeLine; decide, [.int i s.toks, u], .cons ⟨_, rfl⟩ (.cons ru .nil), ⟨_, hT2, rfl, _, rfl⟩⟩
    have I1 : Inv X pins σ (upd H s.heap.objs.size (.tup [.int (i : Nat), x])) { s with heap := h'', toks := s.toks + 1 } :=
      I.turnedNew (ch := [e, it]) (fun b ob hb q => (sb.2 b (fun z => hb (by simp [z]))).trans (hk b ob (fun z => hb (by simp [z])) (fun z => hb (by simp [z])) q)) hf (Nat.le_refl _) new
    refine ⟨.ref s.heap.objs.size, _, I1, rfl, ⟨_, x, rfl, I.hok.fresh (Nat.le_refl _), rfl, fun ys hy => by rw [I.list_inj hy hq]; exact hx⟩, ⟨⟨u, ?_⟩, hit'.at fun o q => (sb.2 it (Ne.symm hne)).trans q, hne⟩, fun b hb => ?_⟩
    · have e1 : ((i + 1 : Nat) : Int) = (i : Int) + 1 := by omega
      rw [e1]; exact he'
    · have hb' : b < s.heap.objs.size := by
        have e' : b = e ∨ b = it := by simpa using hb
        rcases e' with z | z
        · rw [z]; exact hel
        · rw [z]; exact hil
      rw [upd_ne (Nat.ne_of_lt hb')]
      exact (hf b hb).1
  done := by
    intro X hP hw hK hc i pins s σ H E I hf st hg
    subst hP hw hK
    obtain ⟨⟨old, he⟩, hit, hne⟩ := st
    obtain ⟨xs, hq, hx⟩ := hg
    obtain ⟨its, rv, p, hz⟩ := I.list hq
    obtain ⟨f0, f1, f2, f3, f4, f5⟩ := hf it (by simp)
    have hl := rv.length
    exact wpAny_pyNext_enum_end (I.ok.hd hc) he hit p.isList (by simp; omega) fun h' eb => ⟨rfl, I.turned (t' := s.toks) (fun b o hb q => eb b o hb q) f0 f1 f3 f4 f5⟩
  self := fun A i s Q E st h => let ⟨⟨_, he⟩, _⟩ := st; wpAny_pyIter_enum he h
def iEnum (K : PySem.W.Frag) (ta : TA) : TI := fun σ H R => ta σ H fun vs H1 => ∃ a xs, vs = [.ref a] ∧ SqL K H1 a xs ∧ R (Ite K a) H1
theorem pi_enum {X : Cx} {e : Expr} {ta : TA} {p pos tpos : Pos} {elts : List Expr} {kk : Nat} (hg : Gl X "enumerate") (hm : X.mg "enumerate" = none) (ha : PA X [e] ta) (hs : starEach [e] X.env = [(false, eval e X.env)] := by rfl) :
    PI X (.Tuple elts kk tpos) (.Call (.Name "enumerate" p) [e] [] pos) (iEnum X.K ta) := by
  intro pins s σ H R I h
  refine Call_ (ld_blt I hg hm boot_enumerate (PyProof.Rows.callWith_type1 (thn (ha pos pins s σ H _ I h) fun us s1 ⟨vs, H1, I1, r1, q1⟩ => ?_) hs rfl))
  obtain ⟨a, xs, ex, hq, q⟩ := q1
  subst ex
  cases r1 with
  | cons r rr =>
    cases rr
    cases r
    obtain ⟨its, rv, p', hz⟩ := I1.list hq
    refine call_enumerate_list p'.isList fun h' he hit hsz hk => wpAny_pyIter_enum he ?_
    have I2 : Inv X pins σ H1 { s1 with heap := h' } := I1.kept (t' := s1.toks) hk
    refine ⟨s1.heap.objs.size + 1, [s1.heap.objs.size + 1, s1.heap.objs.size], _, _, H1, rfl, I2, turn_enum a (s1.heap.objs.size + 1) s1.heap.objs.size, ⟨⟨.none, he⟩, hit, Nat.succ_ne_self _⟩, fun b hb => ?_, q⟩
    have e' : b = s1.heap.objs.size + 1 ∨ b = s1.heap.objs.size := by simpa using hb
    have hle : s1.heap.objs.size ≤ b := by
      rcases e' with z | z
      · rw [z]; exact Nat.le_add_right _ _
      · rw [z]; exact Nat.le_refl _
    exact I1.fpOk hle (I1.hok.fresh hle)
theorem boot_zip5 : bootBuiltins "zip" = some (.type "zip") := by decide +kernel
def Itz (K : PySem.W.Frag) (a b : Addr) : It :=
  ⟨fun i H => ∃ (xs ys : List V) (x y : V), SqL K H a xs ∧ SqL K H b ys ∧ xs[i]? = some x ∧ ys[i]? = some y,
    fun i H v H' => ∃ T x y, v = .ref T ∧ H T = none ∧ H' = upd H T (.tup [x, y]) ∧ (∀ xs, SqL K H a xs → xs[i]? = some x) ∧ ∀ ys, SqL K H b ys → ys[i]? = some y,
    fun i H => ∃ xs ys : List V, SqL K H a xs ∧ SqL K H b ys ∧ (xs.length ≤ i ∨ ys.length ≤ i)⟩
theorem turn_zip {P : Program} {w : World} {K : PySem.W.Frag} {elts : List Expr} {kk : Nat} {tpos : Pos} {a b z TI TO i1 i2 : Addr} (D : ZipApart z TI TO i1 i2 a b) :
    Turn P w K (.Tuple elts kk tpos) (Itz K a b) [z, TI, TO, i1, i2] z (fun i h => IsZip h z TI TO .none ∧ IsPair h TI (.ref i1) (.ref i2) ∧ (∃ x y, IsPair h TO x y) ∧ h.IsListIter i1 a i ∧ h.IsListIter i2 b i) where
  mem := by simp
  obj := fun i h st c hc => by
    obtain ⟨hz, hTI, ⟨x, y, hTO⟩, ⟨o1, e1, _, d1⟩, ⟨o2, e2, _, d2⟩⟩ := st
    have e' : c = z ∨ c = TI ∨ c = TO ∨ c = i1 ∨ c = i2 := by simpa using hc
    rcases e' with q | q | q | q | q
    · rw [q]; exact ⟨_, hz, fun v q => nomatch q⟩
    · rw [q]; exact ⟨_, hTI, fun v q => nomatch q⟩
    · rw [q]; exact ⟨_, hTO, fun v q => nomatch q⟩
    · rw [q]; exact ⟨o1, e1, fun v q => by rw [d1] at q; cases q⟩
    · rw [q]; exact ⟨o2, e2, fun v q => by rw [d2] at q; cases q⟩
  keep := fun i h h' st k => by
    obtain ⟨hz, hTI, ⟨x, y, hTO⟩, h1, h2⟩ := st
    exact ⟨k z (by simp) _ hz, k TI (by simp) _ hTI, ⟨x, y, k TO (by simp) _ hTO⟩, h1.at fun o q => k i1 (by simp) o q, h2.at fun o q => k i2 (by simp) o q⟩
  item := by
    intro X hP hw hK hc i pins s σ H E I hf st hg
    subst hP hw hK
    obtain ⟨hz, hTI, ⟨x0, y0, hTO⟩, h1, h2⟩ := st
    obtain ⟨xs, ys, x, y, hqx, hqy, hx, hy⟩ := hg
    obtain ⟨its, rv, p, _⟩ := I.list hqx
    obtain ⟨its2, rv2, p2, _⟩ := I.list hqy
    obtain ⟨u, hu, ru⟩ := rv.get hx
    obtain ⟨u2, hu2, ru2⟩ := rv2.get hy
    have hzl : z < s.heap.objs.size := Heap.lt_size hz
    refine wpAny_pyNext_zip_item D hz hTI hTO h1 h2 p.isList p2.isList (x := u) (y := u2) (by simpa using hu) (by simpa using hu2) fun h' z' TO' h1' h2' hT hsz hk => ?_
    refine ⟨_, rfl, wpAny_letOwnedTupleGo_zip (s := { s with heap := h' }) z' fun h'' z'' sb => ?_⟩
    have hT2 : h''.get? s.heap.objs.size = some { cls := .type "tuple", data := .seq #[u, u2] } := (sb.2 _ (Nat.ne_of_gt hzl)).trans hT
    have new : ObjOk X.prog X.w (upd H s.heap.objs.size (.tup [x, y])) h'' s.heap.objs.size (.tup [x, y]) :=
      ⟨by show 2 ≤ sizeLine; decide, [u, u2], .cons ru (.cons ru2 .nil), ⟨_, hT2, rfl, _, rfl⟩⟩
    have I1 : Inv X pins σ (upd H s.heap.objs.size (.tup [x, y])) { s with heap := h'' } :=
      I.turnedNew (t' := s.toks) (ch := [z, TI, TO, i1, i2]) (fun c o hb q => (sb.2 c (fun q' => hb (by simp [q']))).trans (hk c o (fun q' => hb (by simp [q'])) (fun q' => hb (by simp [q'])) (fun q' => hb (by simp [q'])) (fun q' => hb (by simp [q'])) q)) hf (Nat.le_refl _) new
    refine ⟨.ref s.heap.objs.size, _, I1, rfl, ⟨_, x, y, rfl, I.hok.fresh (Nat.le_refl _), rfl, fun l hl => by rw [I.list_inj hl hqx]; exact hx, fun l hl => by rw [I.list_inj hl hqy]; exact hy⟩, ⟨z'', ?_, ⟨u, u2, ?_⟩, ?_, ?_⟩, fun c hcm => ?_⟩
    · exact (sb.2 _ D.TIz).trans (hk _ _ D.TIz D.TITO D.TIi1 D.TIi2 hTI)
    · exact (sb.2 _ D.TOz).trans TO'
    · exact h1'.at fun o q => (sb.2 _ D.i1z).trans q
    · exact h2'.at fun o q => (sb.2 _ D.i2z).trans q
    · have hlt : c < s.heap.objs.size := by
        have e' : c = z ∨ c = TI ∨ c = TO ∨ c = i1 ∨ c = i2 := by simpa using hcm
        rcases e' with q | q | q | q | q
        · rw [q]; exact hzl
        · rw [q]; exact Heap.lt_size hTI
        · rw [q]; exact Heap.lt_size hTO
        · rw [q]; obtain ⟨_, e1, _⟩ := h1; exact Heap.lt_size e1
        · rw [q]; obtain ⟨_, e2, _⟩ := h2; exact Heap.lt_size e2
      rw [upd_ne (Nat.ne_of_lt hlt)]
      exact (hf c hcm).1
  done := by
    intro X hP hw hK hc i pins s σ H E I hf st hg
    subst hP hw hK
    obtain ⟨hz, hTI, ⟨x0, y0, hTO⟩, h1, h2⟩ := st
    obtain ⟨xs, ys, hqx, hqy, hend⟩ := hg
    obtain ⟨its, rv, p, _⟩ := I.list hqx
    obtain ⟨its2, rv2, p2, _⟩ := I.list hqy
    have l1 := rv.length
    have l2 := rv2.length
    have he : its.toArray[i]? = none ∨ its2.toArray[i]? = none := by
      rcases hend with q | q
      · exact .inl (by simp; omega)
      · exact .inr (by simp; omega)
    exact wpAny_pyNext_zip_end (I.ok.hd hc) D hz hTI hTO h1 h2 p.isList p2.isList he fun h' hk => ⟨rfl, I.turnedL (t' := s.toks) (ch := [z, TI, TO, i1, i2]) (fun c o hb q =>
      hk c o (fun q' => hb (by simp [q'])) (fun q' => hb (by simp [q'])) (fun q' => hb (by simp [q'])) (fun q' => hb (by simp [q'])) q) hf⟩
  self := fun A i s Q E st h => wpAny_pyIter_zip st.1 h
def iZip (K : PySem.W.Frag) (ta : TA) : TI := fun σ H R => ta σ H fun vs H1 => ∃ a b xs ys, vs = [.ref a, .ref b] ∧ SqL K H1 a xs ∧ SqL K H1 b ys ∧ R (Itz K a b) H1
theorem pi_zip {X : Cx} {e e2 : Expr} {ta : TA} {p pos tpos : Pos} {elts : List Expr} {kk : Nat} (hg : Gl X "zip") (hm : X.mg "zip" = none) (ha : PA X [e, e2] ta)
    (hs : starEach [e, e2] X.env = (false, eval e X.env) :: starEach [e2] X.env := by rfl) (hpl : (backTo pos (starEach [e2] X.env)).any (·.1) = false := by rfl) :
    PI X (.Tuple elts kk tpos) (.Call (.Name "zip" p) [e, e2] [] pos) (iZip X.K ta) := by
  intro pins s σ H R I h
  refine Call_ (ld_blt I hg hm boot_zip5 (PyProof.Rows.callWith_type1 (thn (ha pos pins s σ H _ I h) fun us s1 ⟨vs, H1, I1, r1, q1⟩ => ?_) hs hpl))
  obtain ⟨a, b, xs, ys, ex, hqx, hqy, q⟩ := q1
  subst ex
  cases r1 with
  | cons r rr =>
    cases rr with
    | cons r' rr =>
      cases rr
      cases r
      cases r'
      obtain ⟨its, rv, p1, _⟩ := I1.list hqx
      obtain ⟨its2, rv2, p2, _⟩ := I1.list hqy
      have la : a < s1.heap.objs.size := p1.lt
      have lb : b < s1.heap.objs.size := p2.lt
      refine call_zip_2 p1.isList p2.isList fun h' hz hTI hTO h1 h2 hsz hk => wpAny_pyIter_zip hz ?_
      have I2 : Inv X pins σ H1 { s1 with heap := h' } := I1.kept (t' := s1.toks) hk
      refine ⟨s1.heap.objs.size + 4, [s1.heap.objs.size + 4, s1.heap.objs.size + 2, s1.heap.objs.size + 3, s1.heap.objs.size, s1.heap.objs.size + 1], _, _, H1, rfl, I2, turn_zip (PySem.W.ktu_apart s1.heap.objs.size a b la lb), ⟨hz, hTI, ⟨_, _, hTO⟩, h1, h2⟩, fun c hcm => ?_, q⟩
      have e' : c = s1.heap.objs.size + 4 ∨ c = s1.heap.objs.size + 2 ∨ c = s1.heap.objs.size + 3 ∨ c = s1.heap.objs.size ∨ c = s1.heap.objs.size + 1 := by simpa using hcm
      have hle : s1.heap.objs.size ≤ c := by
        rcases e' with z | z | z | z | z
        · rw [z]; exact Nat.le_add_right _ _
        · rw [z]; exact Nat.le_add_right _ _
        · rw [z]; exact Nat.le_add_right _ _
        · rw [z]; exact Nat.le_refl _
        · rw [z]; exact Nat.le_add_right _ _
      exact I1.fpOk hle (I1.hok.fresh hle)
end L2

section 
namespace Bits
open PySem PyProof.Rows

end Bits
end 

section 
namespace TL
open PySem PySem.Builtin PySem.Builtin.Str PySem.StrLaws

abbrev tl (x : Str) : List Nat := x.cps.toList
def pre (S l : List Nat) : Bool := l.take S.length == S
def par (S : List Nat) : List Nat → List Nat → Option (List Nat × List Nat)
  | _, [] => none
  | acc, c :: r => if pre S (c :: r) = true then some (acc, (c :: r).drop S.length) else par S (acc ++ [c]) r

end TL
end 

namespace L2
open PySem PySem.Spec PyProof.Rows

section
variable {X : Cx} {pins : List (Addr × Obj)} {σ : St} {H : Hp} {s : Shared} {Q : VK}
end

section
variable {X : Cx}

end

section
variable {X : Cx} {o e : Expr} {to te : TE}
end
end L2

namespace L2
open PySem PySem.Spec PyProof.Rows

section
variable {X : Cx}
end

end L2

namespace Att
open PySem PySem.W PySem.Calls PyProof.Rows

theorem ints_of_wellAll {P : Params} {h : Heap} : ∀ (ns : List Int) (vs : List Value), WellAll P h vs (ns.map WData.int) → IntsAre vs ns := by
  intro ns
  induction ns with
  | nil =>
    intro vs w
    rw [List.map_nil] at w
    cases w
    exact .nil
  | cons n ns ih =>
    intro vs w
    rw [List.map_cons] at w
    cases w with
    | cons a b =>
      cases a
      exact .cons _ _ (ih _ b)

theorem script_of {l : OpenLaw} {n : Nat} (hn : l.most = some n) {P : Params} {h : Heap} {args : List WData} {vals : List Value}
    (hpre : l.row.toRowW.claim.pre args = true) (hwl : WellAll P h vals args) :
    ∃ a vs ns, vals = [Value.ref a] ∧ args = [WData.list (ns.map WData.int)] ∧ h.get? a = some { cls := .type "list", data := .seq vs.toArray } ∧ IntsAre vs ns ∧ ns.length ≤ n := by
  have hsh : WShape.hasAll [] args [.list .int] = true := (pre_splitW hpre).1
  have hc : l.pre.holds [] { args := args } = true := (pre_splitW hpre).2
  obtain ⟨d, r, rfl, h1, h2⟩ := hasAllW_cons hsh
  obtain rfl := hasAllW_nil h2
  obtain ⟨xs, rfl, h3⟩ := hasW_list h1
  obtain ⟨ns, rfl⟩ := items_int h3
  have hlen : ns.length ≤ n := by
    unfold OpenLaw.pre at hc
    have h4 : (WTm.not (.lt (.lit (.int (n : Int))) (.len (.arg 0)))).holds [] { args := [.list (ns.map .int)] } = true := by
      have h4 := (holds_andW hc).1
      rw [hn] at h4
      exact h4
    have h5 := condW_of h4 (w_not (w_lt w_lit (w_len_list (w_arg rfl))))
    rw [List.length_map] at h5
    refine Nat.le_of_not_lt fun q => ?_
    have q' : (n : Int) < ((ns.length : Nat) : Int) := by omega
    first
      | (rw [decide_eq_true q'] at h5; exact absurd h5 (by decide))
      | (simp at h5; omega)
  cases hwl with
  | cons w1 w2 =>
    cases w2
    cases w1 with
    | list ho hall => exact ⟨_, _, ns, rfl, rfl, ho, ints_of_wellAll ns _ hall, hlen⟩

theorem post_true (l : OpenLaw) (args : List WData) : l.row.toRowW.claim.post args (.bool true) args = true :=
  postW_of (r := l.row.toRowW) (X := (true == true))
    (show WShape.has [] (.bool true) .bool = true by first | rfl | decide | simp [WShape.has, WShape.arms, WShape.armsAll])
    (show (WTm.eq .res (.lit (.bool true))).value [] { args := args, res := some (.bool true), after := args } = some (.bool (true == true)) from w_eq_bool (w_res rfl) w_lit) rfl

theorem attach_call {l : OpenLaw} {n : Nat} {q : Program} {loose : List Str} {XP : (Str → Option Value) → Heap → Prop} {YP : World → Heap → Prop} {d : DefRec}
    (hn : l.most = some n) (hdf : d.params.defaults = [])
    (call : ∀ (w : World) (s₀ s₁ : Shared) (mg mb : Str → Option Value) (fa : Addr) (o : Obj) (pm cd doc : Value) (a : Addr) (vs : List Value) (ns : List Int),
      Ground q loose [] XP w s₀ mg mb s₁.heap → YP w s₁.heap →
      s₁.heap.get? fa = some o → o.data = .func (docDef d.name d.params d.body d.scope pm cd doc) → s₁.heap.CodeRec cd d.name → mg d.name = some (.ref fa) →
      s₁.heap.get? a = some { cls := .type "list", data := .seq vs.toArray } → IntsAre vs ns → ns.length ≤ n → s₁.gens = #[] →
      codeAny (model l.prog w) callerA (.call (.ref fa) ⟨[.ref a], []⟩) (fun r s' => r = .ok (.ret (.bool true)) ∧ OldK s₁.heap s'.heap ∧ s'.os = s₁.os ∧ AllBare s'.gens) s₁) :
    WalkO q loose XP YP l.row.toRowW d [] (fun f vs => PySem.call f vs) := by
  intro w s₀ s₁ mg mb G Y fa o pm cd doc dV kV ho hd hcd hD hmg hg args vals as hpre hlay hrd hwl hlo
  obtain rfl : dV = .none := Dflts.none hD hdf
  obtain rfl : kV = .none := Dflts.noKw hD
  obtain ⟨a, vs, ns, rfl, rfl, hobj, hints, hlen⟩ := script_of hn hpre hwl
  refine enter_call (codeAny_mono (call w s₀ s₁ mg mb fa o pm cd doc a vs ns G Y ho (fd_plain hd) hcd hmg hobj hints hlen hg) fun r s' hq => ?_)
  obtain ⟨rfl, h2, h3, h4⟩ := hq
  exact ⟨.inl ⟨.bool true, .bool true, [], rfl, fun _ => rfl, .bool true, post_true l _, fun _ => ⟨List.Pairwise.nil, fun _ hm => (nomatch hm)⟩⟩, h2, h3, h4⟩

section
variable {prog : Program} {w : World} {A : Around} {E : Value → Shared → Prop} {s : Shared} {K : Frag}

end
end Att

namespace L2
open PySem PySem.Spec PyProof.Rows

theorem vals_ints : ∀ {vs : List Value} {ns : List Int}, IntsAre vs ns → Vals (ns.map V.int) vs
  | _, _, .nil => .nil
  | _, _, .cons n t h => .cons ⟨t, rfl⟩ (vals_ints h)

end L2

namespace L2
open PySem PySem.Spec PyProof.Rows

end L2


namespace L2
open PySem PySem.Spec PyProof.Rows

def inClass (s : Stmt) (j : Nat) : Stmt := match s with
  | .ClassDef _ _ _ body _ _ _ _ _ _ _ => body.getD j (.Pass ⟨0, 0, 0, 0⟩)
  | _ => .Pass ⟨0, 0, 0, 0⟩
def defArgs (s : Stmt) : Arguments := match s with
  | .FunctionDef _ a _ _ _ _ _ _ _ _ => a
  | _ => { posonlyargs := [], args := [], vararg := none, kwonlyargs := [], kw_defaults := [], kwarg := none, defaults := [] }
def defBody (s : Stmt) : List Stmt := match s with
  | .FunctionDef _ _ b _ _ _ _ _ _ _ => b
  | _ => []
def defScope (s : Stmt) : Scope := match s with
  | .FunctionDef _ _ _ _ _ _ sc _ _ _ => sc
  | _ => { kind := .function, names := [], isGenerator := false, isCoroutine := false }

abbrev CX0 : CXT := fun _ _ _ _ _ _ => False
abbrev E0 : XK := fun _ _ _ => False
theorem pass0 {X : Cx} : Passes CX0 X E0 := fun _ _ _ _ _ _ _ h => h.elim

structure Fun (K : PySem.W.Frag) (x qual : Str) (st : Stmt) (f : Addr) (fd : FuncData) : Prop where
  ex : ∃ (oc : Value) (od : Option Addr) (kV doc pm : Value) (an : Option Addr) (cdv ct : Value) (osl : Array (Option Value)),
    fd = PySem.W.fnOf x qual (defArgs st) (defBody st) (defScope st) .none kV doc pm an cdv ct ∧ K.lookup f = some ⟨oc, od, .func fd, osl⟩ ∧ PySem.W.codeIn K cdv qual = true
  kp : PySem.W.keepIn K (.ref f) = true
section
variable {P : Program} {w : World} {K : PySem.W.Frag} {mg : Str → Option Value} {base : Heap}
theorem Fun.ok {x qual : Str} {st : Stmt} {f : Addr} {fd : FuncData} {N ps : List Str} {k : Nat} {sp : Sp} (F : Fun K x qual st f fd) (S : FnScope N ps (defScope st)) (len : ∀ vs H Q E, sp vs H Q E → vs.length = ps.length)
    (hbody : ∀ (cdv : Value) (A : Around) (outer : List Env) (s : Shared) (H : Hp) (vs : List V) (Q : VK) (E : XK), Room k (A.deeper (envOfC qual (defScope st) s.heap.objs.size f cdv)) → sp vs H Q E →
      ∃ t, PSs (cxOf CX0 P w K mg base N qual (defScope st) f cdv A outer s H E).nox (defBody st) t ∧ t { nx := fun _ H' => Q .non H', rt := Q } (start N vs) H) : FnOk P w K mg base CX0 (k + 1) f fd ps sp := by
  obtain ⟨oc, od, kV, doc, pm, an, cdv, ct, osl, rfl, lk, hcd⟩ := F.ex
  refine fn_of lk hcd S len fun A outer s H vs Q E hr hsp => ?_
  obtain ⟨t, h, q⟩ := hbody cdv A outer s H vs Q E hr hsp
  exact ⟨t, h.nox, q⟩
theorem Fun.binds {x qual : Str} {st : Stmt} {f : Addr} {fd : FuncData} {ps : List Str} (F : Fun K x qual st f fd)
    (h : ∀ (kV doc pm : Value) (an : Option Addr) (cdv ct : Value) (us : List Value), us.length = ps.length → bindArgs (PySem.W.fnOf x qual (defArgs st) (defBody st) (defScope st) .none kV doc pm an cdv ct) ⟨us, []⟩ = pure (ps.zip us)) : Binds K fd ps [] := by
  obtain ⟨oc, od, kV, doc, pm, an, cdv, ct, osl, rfl, lk, hcd⟩ := F.ex
  exact .all (h kV doc pm an cdv ct)
theorem fun_mk {x qual : Str} {st : Stmt} {f : Addr} {oc : Value} {od an : Option Addr} {osl : Array (Option Value)} {kV doc pm cdv ct : Value} (l : K.lookup f = some ⟨oc, od, .func (PySem.W.fnOf x qual (defArgs st) (defBody st) (defScope st) .none kV doc pm an cdv ct), osl⟩)
    (c : PySem.W.codeIn K cdv qual = true) (k : PySem.W.keepIn K (.ref f) = true) : Fun K x qual st f (PySem.W.fnOf x qual (defArgs st) (defBody st) (defScope st) .none kV doc pm an cdv ct) := ⟨⟨oc, od, kV, doc, pm, an, cdv, ct, osl, rfl, l, c⟩, k⟩
end
theorem small1000 {n : Nat} (h : n ≤ 1000) : n < sizeLine := Nat.lt_of_le_of_lt h (by decide)

section
variable {X : Cx}
theorem pv (i : Nat) {x : Str} {pos : Pos} (hN : X.N[i]? = some x := by rfl) (hv : Vis X.env.scope x := by first | exact Or.inl rfl | exact Or.inr (Or.inl rfl) | exact Or.inr (Or.inr rfl)) (hd : (x == ("__debug__" : Str)) = false := by decide)
    (hcd : (x == ("__classdict__" : Str)) = false := by decide) : PE X (.Name x pos) (tVar i) := pe_var hN hv hd hcd
end

theorem iteF {A B : Prop} (h : B) : if false = true then A else B := by
  rw [if_neg Bool.false_ne_true]
  exact h
theorem iteT {A B : Prop} (h : A) : if true = true then A else B := by
  rw [if_pos rfl]
  exact h
theorem ite2 {c A B : Prop} [Decidable c] (h1 : c → A) (h2 : ¬ c → B) : if c then A else B := by
  by_cases h : c
  · rw [if_pos h]
    exact h1 h
  · rw [if_neg h]
    exact h2 h
def Same (H H' : Hp) : Prop := ∀ b o, H b = some o → H' b = some o
theorem Same.refl (H : Hp) : Same H H := fun _ _ h => h
theorem Same.trans {H H1 H2 : Hp} (a : Same H H1) (b : Same H1 H2) : Same H H2 := fun c o h => b c o (a c o h)
theorem Same.free {H H' : Hp} (e : Same H H') {l : Addr} (h : H' l = Option.none) : H l = Option.none := by
  cases q : H l with
  | none => rfl
  | some o =>
    rw [e l o q] at h
    cases h
theorem Same.seq {K : PySem.W.Frag} {H H' : Hp} {a : Addr} {xs : List V} (e : Same H H') (h : SqL K H a xs) : SqL K H' a xs := by
  rcases h with (h | ⟨o, h⟩) | h
  · exact .inl (.inl (e _ _ h))
  · exact .inl (.inr ⟨o, e _ _ h⟩)
  · exact .inr h

section
variable {κ : Type} [DecidableEq κ]
theorem valV_not {kvs : List (κ × V)} {k : κ} (h : valV kvs k = none) : ¬ k ∈ kvs.map (·.1) := by
  intro m
  obtain ⟨p, hp, e⟩ := List.mem_map.mp m
  have q : (kvs.any fun kv => decide (kv.1 = k)) = true := List.any_eq_true.mpr ⟨p, hp, decide_eq_true e⟩
  rw [valV_any, h] at q
  exact absurd q (by simp)
theorem valV_in {kvs : List (κ × V)} {k : κ} {v : V} (h : valV kvs k = some v) : k ∈ kvs.map (·.1) := by
  have q : (kvs.any fun kv => decide (kv.1 = k)) = true := by
    rw [valV_any, h]
    all_goals rfl
  obtain ⟨p, hp, e⟩ := List.any_eq_true.mp q
  exact List.mem_map.mpr ⟨p, hp, of_decide_eq_true e⟩
theorem nd_snoc : ∀ {l : List κ} {k : κ}, l.Nodup → ¬ k ∈ l → (l ++ [k]).Nodup
  | [], k, _, _ => by simp
  | a :: r, k, h, hk => by
    obtain ⟨h1, h2⟩ := List.nodup_cons.mp h
    show (a :: (r ++ [k])).Nodup
    refine List.nodup_cons.mpr ⟨fun m => ?_, nd_snoc h2 fun m => hk (List.mem_cons.mpr (Or.inr m))⟩
    rcases List.mem_append.mp m with q | q
    · exact h1 q
    · exact hk (List.mem_cons.mpr (Or.inl (List.mem_singleton.mp q).symm))
end
theorem at_of {xs : List V} {z : Int} {j : Nat} {v : V} (e : z = (j : Int)) (h : xs[j]? = some v) : atI xs z = some v := by
  rw [e]
  exact atI_nat h
theorem nd_ix {α : Type} {l : List α} (hN : l.Nodup) {i j : Nat} {x : α} (a : l[i]? = some x) (b : l[j]? = some x) : i = j := by
  obtain ⟨h1, e1⟩ := List.getElem?_eq_some_iff.mp a
  obtain ⟨h2, e2⟩ := List.getElem?_eq_some_iff.mp b
  exact (List.getElem_inj hN).mp (e1.trans e2.symm)
theorem Same.made {H H1 : Hp} {x dx C : Addr} (nx : H x = Option.none) (nd : H dx = Option.none) (k : ∀ b o, (upd (upd H dx (.own x)) x (.ins C dx [])) b = some o → b ≠ x → H1 b = some o) : Same H H1 := fun b o e =>
  k b o (by rw [upd_ne (ne_of_none e nx), upd_ne (ne_of_none e nd)]; exact e) (ne_of_none e nx)
end L2

set_option Elab.async false
set_option linter.all false
set_option maxRecDepth 100000
set_option maxHeartbeats 4000000
namespace L2
open PySem PySem.Spec PyProof.Rows
section
variable {X : Cx}
def rIsi (K : PySem.W.Frag) : List V → Hp → VK → Prop := fun vs H Q => ∃ (x c : V) (t : Value) (b : Bool), vs = [x, c] ∧ TyOf K H x t ∧ (∀ u, RelV c u → PySem.W.kitOne K t u = some b) ∧ Q (.bl b) H
theorem cr_isi : CallR X (.builtin "isinstance") (rIsi X.K) := by
  intro pins s σ H vs us Q I r h
  obtain ⟨x, c, t, b, rfl, ty, k, q⟩ := h
  cases r with
  | cons r1 r2 =>
    cases r2 with
    | cons r3 r4 =>
      cases r4
      exact isinst_ok I r1 ty (k _ r3) fun tk => ⟨.bl b, H, I.tok tk, rfl, q⟩
def CMulB (i j : Int) : Prop := Builtin.Int.intBits i ≤ 2 ^ 20 ∧ Builtin.Int.intBits j ≤ 2 ^ 20
theorem op_mulB : OpR X (binaryOp .Mult) (rI CMulB fun i j => .int (i * j)) := opI fun _ _ _ _ _ _ _ hc q => mul_int q (PySem.IntMulOk.of_bits hc.1 hc.2)
end
end L2

set_option Elab.async false
set_option linter.all false
set_option maxRecDepth 100000
set_option maxHeartbeats 4000000
namespace L2
open PySem PySem.Spec PyProof.Rows
section
variable {prog : Program} {w : World} {A : Around} {E : Value → Shared → Prop} {s : Shared}
theorem callType_kw {T newId : String} {Bn : Builtin} {args : List Value} {kw : List (Str × Value)} {S : PySem.Spec} {Q : Value → Shared → Prop} (ft : TypeCalled T newId "object.__init__")
    (hne : (some newId != some "object.__new__") = true) (hct : checkTypeCall T ⟨args, kw⟩ = pure ()) (hcn : checkBuiltinCall newId ⟨.type T :: args, kw⟩ = pure ())
    (hok : ∀ obj, argsOk "object.__init__" ⟨obj :: args, kw⟩) (entryN : entryFor table newId = some Bn) (g : Meets (Bn ⟨.type T :: args, kw⟩) S)
    (gi : ∀ obj, Meets (Builtin.«object.__init__» ⟨obj :: args, kw⟩) (fun _ R s => s.TypeIs obj T ∧ R (.ok (.ret .none)) s))
    (h : S A.in1 (wants (fun obj s₁ => s₁.TypeIs obj T ∧ Q obj s₁) E) s) : wpAny (model prog w) A (call (.type T) args kw) Q E s := by
  obtain ⟨c, tl, hmro⟩ := ft.mro
  have hmade := ft.made
  have hsub := ft.sub
  refine wpAny_call (codeAny_of_tree ?_)
  show wpAny _ _ (callAny (.type T) _) _ _ _
  refine wpAny_pure ⟨Code.quiet_builtin _ (by decide +kernel), codeAny_builtin F.entry_type_call ?_⟩
  rw [Around.under_plain (weight_type_call_type T args kw) (units_type_call_type T args kw)]
  have h1 := ft.notType
  have h2 := ft.canCreate
  repeat any_goals first
    | assumption
    | wp_step
  refine codeAny_mono (codeAny_call_builtin ft.plain entryN (wpAny_of_eq hcn (g prog w A.in1 _ s h))) fun r s₁ hr => ?_
  cases r with
  | error e => exact hr
  | ok fl =>
    cases fl with
    | ret obj =>
      obtain ⟨hT, hq1⟩ := hr
      have hli := ft.init.lookup
      have hbi := ft.init.bind obj
      repeat any_goals first
        | assumption
        | wp_step
      refine codeAny_mono (codeAny_call_builtin (R := wants (fun r s₂ => r = .none ∧ Q obj s₂) E) ft.init.plain F.entry_object_init
        (ft.init.check _ _ _ _ _ _ _ _ hT (hok obj) (gi obj prog w A.in1 _ s₁ ⟨hT, rfl, hq1⟩))) fun r₂ s₂ hr₂ => ?_
      cases r₂ with
      | error e => exact hr₂
      | ok fl₂ =>
        cases fl₂ with
        | ret r =>
          obtain ⟨rfl, hq⟩ := hr₂
          repeat any_goals first
            | assumption
            | wp_step
        | _ => exact hr₂.elim
    | _ => exact hr.elim
theorem oinit_kw {T newId : String} {self : Value} {rest : List Value} {kw : List (Str × Value)} (hl : typeLookup (.type T) "__init__" = pure (some (.builtin "object.__init__")))
    (hm : Bind.madeBy (.type T) = pure (some newId)) (hne : (some newId != some "object.__new__") = true) :
    Meets (Builtin.«object.__init__» ⟨self :: rest, kw⟩) (fun _ R s => s.TypeIs self T ∧ R (.ok (.ret .none)) s) := by
  refine Meets.of_wp fun prog w A R s hs => ?_
  obtain ⟨hT, hq⟩ := hs
  cases rest with
  | nil =>
    cases kw with
    | nil => exact wpAny_pure ⟨_, rfl, hq⟩
    | cons a r =>
      repeat any_goals first
        | assumption
        | wp_step
      exact ⟨_, rfl, hq⟩
  | cons a rest =>
    repeat any_goals first
      | assumption
      | wp_step
    exact ⟨_, rfl, hq⟩
theorem enum_new_start (l : Addr) (items : Array Value) (n : Nat) (dct : Option Addr) (sl : Array (Option Value)) (t : Tok) :
    Meets (Builtin.«enumerate.__new__» ⟨[.type "enumerate", .ref l], [("start", .int 1 t)]⟩) (fun _ R s => s.heap.get? l = some { cls := .type "list", dict := dct, data := .seq items n, slots := sl } ∧
      R (.ok (.ret (.ref (s.heap.push { cls := .type "list_iterator", data := .fields #[.ref l, .int 0 0] }).objs.size)))
        { s with heap := (s.heap.push { cls := .type "list_iterator", data := .fields #[.ref l, .int 0 0] }).push { cls := .type "enumerate", data := .fields #[.none, .bool false, .ref s.heap.objs.size, rawInt 1, .none, .none] } }) :=
  .of_wp fun prog w A R s h => by
    obtain ⟨hp, g, d, tk, os⟩ := s
    obtain ⟨hl, h⟩ := h
    have hsub := sub_enumerate
    have hL : Heap.IsList (Shared.heap ⟨hp, g, d, tk, os⟩) l items := ⟨_, hl, rfl, n, rfl⟩
    wp_walk using AutoSeq1.wpAny_loadPart' hl
    refine wpAny_stack_any fun st => wpAny_pure ?_
    split
    · rename_i c _ _ _ _ _
      cases (c == Value.type "enumerate")
      · wp_walk using AutoSeq1.wpAny_loadPart' hl, wpAny_pyIter_list hL
        exact ⟨_, rfl, h⟩
      · wp_walk using AutoSeq1.wpAny_loadPart' hl, wpAny_pyIter_list hL
        exact ⟨_, rfl, h⟩
    · wp_walk using AutoSeq1.wpAny_loadPart' hl, wpAny_pyIter_list hL
      exact ⟨_, rfl, h⟩
end
end L2

set_option Elab.async false
set_option linter.all false
set_option maxRecDepth 100000
set_option maxHeartbeats 4000000
namespace L2
open PySem PySem.Spec PyProof.Rows
theorem ec_start (a : Value) (t : Tok) : checkTypeCall "enumerate" ⟨[a], [("start", .int 1 t)]⟩ = pure () := by kernel_rfl
theorem ec_new (a : Value) (t : Tok) : checkBuiltinCall "enumerate.__new__" ⟨[.type "enumerate", a], [("start", .int 1 t)]⟩ = pure () := by kernel_rfl
theorem ec_init (o a : Value) (t : Tok) : argsOk "object.__init__" ⟨[o, a], [("start", .int 1 t)]⟩ := by unfold argsOk; kernel_rfl
section
variable {prog : Program} {w : World} {A : Around} {E : Value → Shared → Prop} {s : Shared}
theorem call_enum1 {l : Addr} {items : Array Value} {t : Tok} {Q : Value → Shared → Prop} (hL : s.heap.IsList l items)
    (h : ∀ h', IsEnum h' (s.heap.objs.size + 1) s.heap.objs.size 1 .none → h'.IsListIter s.heap.objs.size l 0 → h'.objs.size = s.heap.objs.size + 2 →
      (∀ b o, s.heap.get? b = some o → h'.get? b = some o) → Q (.ref (s.heap.objs.size + 1)) { s with heap := h' }) :
    wpAny (model prog w) A (call (.type "enumerate") [.ref l] [("start", .int 1 t)]) Q E s := by
  obtain ⟨⟨c, dct, dt, sl⟩, hl, hc, n, hd⟩ := hL
  replace hc : c = .type "list" := hc
  replace hd : dt = .seq items n := hd
  subst hc hd
  refine callType_kw F.called_enumerate (by decide) (ec_start _ t) (ec_new _ t) (fun obj => ec_init obj _ t) F.entry_enumerate_new
    (enum_new_start l items n dct sl t) (fun obj => oinit_kw F.called_enumerate.init.lookup F.called_enumerate.made (by decide)) ⟨hl, ?_⟩
  have hz : (s.heap.push { cls := .type "list_iterator", data := .fields #[.ref l, .int 0 0] }).objs.size = s.heap.objs.size + 1 := Heap.size_push ..
  show _ ∧ _
  rw [hz]
  have he : IsEnum ((s.heap.push { cls := .type "list_iterator", data := .fields #[.ref l, .int 0 0] }).push
      { cls := .type "enumerate", data := .fields #[.none, .bool false, .ref s.heap.objs.size, rawInt 1, .none, .none] }) (s.heap.objs.size + 1) s.heap.objs.size 1 .none := by
    have e2 := Heap.get?_push_size (s.heap.push { cls := .type "list_iterator", data := .fields #[.ref l, .int 0 0] })
      (o := { cls := .type "enumerate", data := .fields #[.none, .bool false, .ref s.heap.objs.size, rawInt 1, .none, .none] }) rfl
    rw [hz] at e2
    exact e2
  refine ⟨⟨_, he, rfl⟩, h _ he ⟨_, Heap.get?_push_of_some _ (Heap.get?_push_size _ rfl), rfl, rfl⟩ (by rw [Heap.size_push, hz]) fun b o x => Heap.get?_push_of_some _ (Heap.get?_push_of_some _ x)⟩
end
end L2

set_option Elab.async false
set_option linter.all false
set_option maxRecDepth 100000
set_option maxHeartbeats 4000000
namespace L2
open PySem PySem.Spec PyProof.Rows
theorem callWith_typeKw {M : Model} {A : Around} {E : Value → Shared → Prop} {s : Shared} {env : Env} {pos : Pos} {T : String} {e : Expr} {rest : List Expr} {kws : List Keyword} {Q : Value → Shared → Prop}
    (h : wpAny M A (spliced (backTo pos (starEach (e :: rest) env))) (fun vs s₁ => wpAny M A (evalAll ((backToKw pos (keywordEach kws env)).map (·.2)))
      (fun kvs s₂ => wpAny M A (call (.type T) vs (((backToKw pos (keywordEach kws env)).filterMap (·.1)).zip kvs)) Q E s₂) E s₁) E s)
    (he : backTo pos (starEach (e :: rest) env) = (false, eval e env) :: backTo pos (starEach rest env) := by rfl)
    (hplain : (backTo pos (starEach (e :: rest) env)).any (·.1) = false := by rfl)
    (hall : (backToKw pos (keywordEach kws env)).all (·.1.isSome) = true := by rfl)
    (hkw : (backToKw pos (keywordEach kws env)).any (·.1.isNone) = false := by rfl) :
    wpAny M A (callWith pos (.type T) [] (backTo pos (starEach (e :: rest) env)) (backToKw pos (keywordEach kws env))) Q E s := by
  have h2 : wpAny M A (evalArgs (.type T) true (backTo pos (starEach (e :: rest) env)) (backToKw pos (keywordEach kws env))) (fun a s₁ => wpAny M A (call (.type T) ([] ++ a.pos) a.kw) Q E s₁) E s := by
    rw [he] at h ⊢
    exact evalArgs_kwB hall h
  unfold callWith
  refine wpAny_bind (wpAny_holding (wpAny_mono h2 (fun a s₁ h₁ => wpAny_bind (wpAny_standAt ?_)) fun _ _ x => x))
  simp only [hplain, hkw, Bool.or_false]
  refine wpAny_bind (wpAny_pure ?_)
  refine wpAny_bind (wpAny_mono h₁ (fun r s₂ hr => ?_) fun _ _ x => x)
  exact wpAny_bind (wpAny_holding (wpAny_point (wpAny_pure hr)))

theorem draws1 {prog : Program} {w : World} {A : Around} {it l : Addr} {items : Array Value} (hh : A.handled = none) :
    Draws prog w A it [it, l] (items.size + 1) (fun i x => items[i - 1]? = some x) (fun i h => ∃ j, i = j + 1 ∧ h.IsListIter it l j ∧ h.IsList l items ∧ it ≠ l) where
  live := fun i h ⟨j, _, ⟨o, e, _⟩, _⟩ => ⟨o, e⟩
  frame := fun i h h' ⟨j, e, a, ⟨o, b1, b2⟩, c⟩ k => ⟨j, e, a.at fun o q => k it (by simp) o q, ⟨o, k l (by simp) o b1, b2⟩, c⟩
  item := fun i s Q E hi ⟨j, e, a, b, c⟩ hQ => by
    subst e
    have hj : j < items.size := by omega
    refine wpAny_nextOf_list_item a b (x := items[j]) (by simp [hj]) fun h' a' sb => ?_
    obtain ⟨o, b1, b2⟩ := b
    exact hQ items[j] h' s.toks (by simp [hj]) ⟨j + 1, rfl, a', ⟨o, (sb.2 l (Ne.symm c)).trans b1, b2⟩, c⟩ sb
  done := fun s Q E ⟨j, e, a, b, c⟩ hE => by
    have ej : j = items.size := by omega
    subst ej
    exact wpAny_nextOf_list_end hh a b (by simp) fun h' x e1 e2 => hE h' x e1 e2
theorem draws1E {prog : Program} {w : World} {A : Around} {it l : Addr} {items : Array Value} {i : Nat} (hh : A.handled = none) (hi : items.size ≤ i) :
    Draws prog w A it [it, l] (i + 1) (fun _ _ => True) (fun k h => k = i + 1 ∧ h.IsListIter it l i ∧ h.IsList l items) where
  live := fun _ h ⟨_, ⟨o, e, _⟩, _⟩ => ⟨o, e⟩
  frame := fun _ h h' ⟨e, a, o, b1, b2⟩ k => ⟨e, a.at fun o q => k it (by simp) o q, o, k l (by simp) o b1, b2⟩
  item := fun k s Q E hk ⟨e, _⟩ hQ => by omega
  done := fun s Q E ⟨e, a, b⟩ hE => wpAny_nextOf_list_end hh a b (by simp [hi]) fun h' x e1 e2 => hE h' x e1 e2
def Ite1 (K : PySem.W.Frag) (a : Addr) : It :=
  ⟨fun i H => ∃ (xs : List V) (x : V), SqL K H a xs ∧ xs[i]? = some x, fun i H v H' => ∃ T x, v = .ref T ∧ H T = none ∧ H' = upd H T (.tup [.int ((i : Nat) + 1), x]) ∧ ∀ xs, SqL K H a xs → xs[i]? = some x, fun i H => ∃ xs : List V, SqL K H a xs ∧ xs.length ≤ i⟩
theorem turn_enum1 {P : Program} {w : World} {K : PySem.W.Frag} {elts : List Expr} {kk : Nat} {tpos : Pos} (a e it : Addr) :
    Turn P w K (.Tuple elts kk tpos) (Ite1 K a) [e, it] e (fun i h => (∃ old, IsEnum h e it (((i : Nat) : Int) + 1) old) ∧ h.IsListIter it a i ∧ e ≠ it) where
  mem := by simp
  obj := fun i h st b hb => by
    obtain ⟨⟨old, he⟩, ⟨o, ho, hc, hd⟩, _⟩ := st
    have e' : b = e ∨ b = it := by simpa using hb
    rcases e' with z | z
    · rw [z]
      exact ⟨_, he, fun v q => nomatch q⟩
    · rw [z]
      exact ⟨o, ho, fun v q => by rw [hd] at q; cases q⟩
  keep := fun i h h' st k => let ⟨⟨old, he⟩, hi, hne⟩ := st; ⟨⟨old, k e (by simp) _ he⟩, hi.at fun o q => k it (by simp) o q, hne⟩
  item := by
    intro X hP hw hK hc i pins s σ H E I hf st hg
    subst hP hw hK
    obtain ⟨⟨old, he⟩, hit, hne⟩ := st
    obtain ⟨xs, x, hq, hx⟩ := hg
    obtain ⟨its, rv, p, hz⟩ := I.list hq
    obtain ⟨u, hu, ru⟩ := rv.get hx
    have hel : e < s.heap.objs.size := Heap.lt_size he
    have hil : it < s.heap.objs.size := by obtain ⟨_, q, _⟩ := hit; exact Heap.lt_size q
    have hila : it ≠ a := by
      obtain ⟨o, q, qc, _⟩ := hit
      obtain ⟨o', q', qc', _⟩ := p.isList
      rintro rfl
      rw [q] at q'
      cases q'
      rw [qc] at qc'
      exact absurd qc' (by decide)
    have hela : e ≠ a := by
      obtain ⟨o', q', qc', _⟩ := p.isList
      rintro rfl
      rw [show s.heap.get? e = _ from he] at q'
      cases q'
      have qc2 : (Value.type "enumerate") = .type "list" := qc'
      exact absurd qc2 (by decide)
    have hil' : i < its.toArray.size := by
      have := (List.getElem?_eq_some_iff.mp hu).1
      simpa using this
    refine wpAny_pyNext_enum_itemD (i := i + 1) (draws1 (prog := X.prog) (w := X.w) (A := X.A.in1) (items := its.toArray) (l := a) (it := it) (I.ok.hd hc)) (by simpa using he) ⟨i, rfl, hit, p.isList, hila⟩ (by omega) hne (by simp [hne, hela]) fun u' h' tk hu' ho hit2 hT hsz hk => ?_
    obtain ⟨j, ej, hit', _, _⟩ := hit2
    have ej' : j = i + 1 := by omega
    subst ej'
    have eu : u' = u := by
      have e1 : its[i]? = some u' := by simpa using hu'
      rw [hu] at e1
      exact (Option.some.inj e1).symm
    subst eu
    refine ⟨_, rfl, wpAny_letOwnedTupleGo_enum (s := { s with heap := h', toks := tk + 1 }) ho fun h'' he' sb => ?_⟩
    have hT2 : h''.get? s.heap.objs.size = some { cls := .type "tuple", data := .seq #[.int ((i : Int) + 1) tk, u'] } := (sb.2 _ (Nat.ne_of_gt hel)).trans (by simpa using hT)
    have new : ObjOk X.prog X.w (upd H s.heap.objs.size (.tup [.int ((i : Nat) + 1), x])) h'' s.heap.objs.size (.tup [.int ((i : Nat) + 1), x]) :=
      ⟨by show 2 ≤ sizeLine; decide, [.int ((i : Int) + 1) tk, u'], .cons ⟨_, rfl⟩ (.cons ru .nil), ⟨_, hT2, rfl, _, rfl⟩⟩
    have I1 : Inv X pins σ (upd H s.heap.objs.size (.tup [.int ((i : Nat) + 1), x])) { s with heap := h'', toks := tk + 1 } :=
      I.turnedNew (ch := [e, it]) (fun b ob hb q => (sb.2 b (fun z => hb (by simp [z]))).trans (hk b ob (fun z => hb (by simp [z])) (fun z => hb (by simp [z])) q)) hf (Nat.le_refl _) new
    refine ⟨.ref s.heap.objs.size, _, I1, rfl, ⟨_, x, rfl, I.hok.fresh (Nat.le_refl _), rfl, fun ys hy => by rw [I.list_inj hy hq]; exact hx⟩, ⟨⟨u', ?_⟩, hit'.at fun o q => (sb.2 it (Ne.symm hne)).trans q, hne⟩, fun b hb => ?_⟩
    · have e1 : ((i + 1 : Nat) : Int) + 1 = (i : Int) + 1 + 1 := by omega
      rw [e1]
      simpa using he'
    · have hb' : b < s.heap.objs.size := by
        have e' : b = e ∨ b = it := by simpa using hb
        rcases e' with z | z
        · rw [z]
          exact hel
        · rw [z]
          exact hil
      rw [upd_ne (Nat.ne_of_lt hb')]
      exact (hf b hb).1
  done := by
    intro X hP hw hK hc i pins s σ H E I hf st hg
    subst hP hw hK
    obtain ⟨⟨old, he⟩, hit, hne⟩ := st
    obtain ⟨xs, hq, hx⟩ := hg
    obtain ⟨its, rv, p, hz⟩ := I.list hq
    obtain ⟨f0, f1, f2, f3, f4, f5⟩ := hf it (by simp)
    have hl := rv.length
    exact wpAny_pyNext_enum_endD (draws1E (prog := X.prog) (w := X.w) (A := X.A.in1) (items := its.toArray) (l := a) (it := it) (i := i) (I.ok.hd hc) (by simp; omega)) he ⟨rfl, hit, p.isList⟩ fun h' eb => ⟨rfl, I.turned (t' := s.toks) (fun b o hb q => eb b o hb q) f0 f1 f3 f4 f5⟩
  self := fun A i s Q E st h => let ⟨⟨_, he⟩, _⟩ := st; wpAny_pyIter_enum he h
def iEnum1 (K : PySem.W.Frag) (ta : TA) : TI := fun σ H R => ta σ H fun vs H1 => ∃ a xs, vs = [.ref a] ∧ SqL K H1 a xs ∧ R (Ite1 K a) H1
theorem pi_enum1 {X : Cx} {e : Expr} {ta : TA} {p pos tpos kpos cpos : Pos} {elts : List Expr} {kk j : Nat} (hg : Gl X "enumerate") (hm : X.mg "enumerate" = none) (ha : PA X [e] ta) (hs : starEach [e] X.env = [(false, eval e X.env)] := by rfl) :
    PI X (.Tuple elts kk tpos) (.Call (.Name "enumerate" p) [e] [⟨some "start", .Constant (.int 1) j cpos, kpos⟩] pos) (iEnum1 X.K ta) := by
  intro pins s σ H R I h
  refine wpAny_Call_Name_kw (ld_blt I hg hm boot_enumerate (callWith_typeKw (thn (ha pos pins s σ H _ I h) fun us s1 ⟨vs, H1, I1, r1, q1⟩ => ?_) (by rw [hs]; rfl) (by rw [hs]; rfl)))
  obtain ⟨a, xs, ex, hq, q⟩ := q1
  subst ex
  cases r1 with
  | cons r rr =>
    cases rr
    cases r
    have pk : PK X [⟨some "start", .Constant (.int 1) j cpos, kpos⟩] (tCons (tC (.int 1)) tNil) := pk_cons pe_int pk_nil
    refine thn (pk pos pins s1 σ H1 (fun vs H2 => vs = [.int 1] ∧ H2 = H1) I1 ⟨rfl, rfl⟩) fun ws s2 ⟨zs, H2, I2, rz, ez, eH⟩ => ?_
    subst ez eH
    cases rz with
    | cons r rr =>
      cases rr
      obtain ⟨tk, rfl⟩ := r
      obtain ⟨its, rv, p', hz⟩ := I2.list hq
      show wpAny _ _ (call (.type "enumerate") [.ref a] [("start", .int 1 tk)]) _ _ s2
      refine call_enum1 p'.isList fun h' he hit hsz hk => wpAny_pyIter_enum he ?_
      have I3 : Inv X pins σ H2 { s2 with heap := h' } := I2.kept (t' := s2.toks) hk
      refine ⟨s2.heap.objs.size + 1, [s2.heap.objs.size + 1, s2.heap.objs.size], _, _, H2, rfl, I3, turn_enum1 a (s2.heap.objs.size + 1) s2.heap.objs.size, ⟨⟨.none, he⟩, hit, Nat.succ_ne_self _⟩, fun b hb => ?_, q⟩
      have e' : b = s2.heap.objs.size + 1 ∨ b = s2.heap.objs.size := by simpa using hb
      have hle : s2.heap.objs.size ≤ b := by
        rcases e' with z | z
        · rw [z]
          exact Nat.le_add_right _ _
        · rw [z]
          exact Nat.le_refl _
      exact I2.fpOk hle (I2.hok.fresh hle)
end L2

set_option Elab.async false
set_option linter.all false
set_option maxRecDepth 100000
set_option maxHeartbeats 4000000
namespace L2
open PySem PySem.Spec PyProof.Rows
theorem mx_name : (toString "max" ++ toString ".loop" : String) = "max.loop" := by decide
section
variable {prog : Program} {w : World} {A : Around} {R : Result → Shared → Prop} {I S : Addr} {fp wr : List Addr} {n : Nat} {P : Nat → Value → Prop} {St : Nat → Heap → Prop} {kw : List (Str × Value)} {bt : Nat → Nat → Bool}
theorem mx_loop (W : Walks prog w A.in1 I fp wr n P St) (hcmp : CmpOf prog w A.in1 .Gt P bt) (hSf : S ∉ fp) (k : Nat) :
    ∀ (j : Nat) (s : Shared) (vb : Value) (c : Nat), n = j + 1 + k → St (j + 1) s.heap → P (argBest bt j) vb →
    s.heap.get? S = some { cls := .type "list", dict := none, data := .seq #[vb, vb] c, slots := #[] } →
    (∀ v h' tk, P (argBest bt (n - 1)) v → (∀ b o, b ∉ wr → b ≠ S → s.heap.get? b = some o → h'.get? b = some o) → R (.ok (.ret v)) { s with heap := h', toks := tk }) →
    codeAny (model prog w) A (.builtin "max.loop" ⟨[.ref I, .none, .ref S], kw⟩) R s := by
  have hSw : S ∉ wr := fun h => hSf (W.sub _ h)
  induction k with
  | zero =>
    intro j s vb c hk hst hPb hS hR
    have hin : n = j + 1 := hk
    subst hin
    refine codeAny_builtin F.entry_max_loop ?_
    rw [Around.under_plainId F.plain_max_loop _]
    show wpAny _ A.in1 (seqItems? (.ref S) >>= _) _ _ s
    refine wpAny_bind (wpAny_seqItems hS rfl ?_)
    show wpAny _ A.in1 (tryCatch (pyNext (.ref I)) _ >>= _) _ _ s
    refine wpAny_bind (wpAny_tryCatch (W.done s _ _ hst fun h' tk hk' => ?_))
    have hS' := hk' S _ hSw hS
    show wpAny _ A.in1 (updateSeq S (fun _ => #[]) >>= _) _ _ _
    refine wpAny_bind (wpAny_updateSeq hS' rfl ?_)
    refine wpAny_bind (wpAny_letGo (wpAny_pure ?_))
    exact hR vb _ tk hPb fun b o hbw hbS e => (Heap.get?_update_other _ _ (Ne.symm hbS)).trans (hk' b o hbw e)
  | succ k ih =>
    intro j s vb c hk hst hPb hS hR
    have hlt : j + 1 < n := by omega
    refine codeAny_builtin F.entry_max_loop ?_
    rw [Around.under_plainId F.plain_max_loop _]
    show wpAny _ A.in1 (seqItems? (.ref S) >>= _) _ _ s
    refine wpAny_bind (wpAny_seqItems hS rfl ?_)
    show wpAny _ A.in1 (tryCatch (pyNext (.ref I)) _ >>= _) _ _ s
    refine wpAny_bind (wpAny_tryCatch (W.item (j + 1) s _ _ hlt hst fun v h' tk hP hst' hk' => ?_))
    have hS' := hk' S _ hSw hS
    show wpAny _ A.in1 (tryCatch (holding [v, v] (richCompare .Gt v vb >>= _)) _ >>= _) _ _ _
    refine wpAny_bind (wpAny_tryCatch (wpAny_holding (wpAny_bind (hcmp (j + 1) (argBest bt j) v vb _ _ _ hP hPb ?_))))
    refine wpAny_bind (wpAny_holding (wpAny_truthy_bool (wpAny_bind (wpAny_letGo (wpAny_pure ?_)))))
    cases hb : bt (j + 1) (argBest bt j) with
    | true =>
      simp only [if_true]
      refine wpAny_bind (wpAny_updateSeq hS' rfl (wpAny_bind (wpAny_letGo ?_)))
      rw [mx_name]
      refine wpAny_pure ⟨plainId_quiet F.plain_max_loop _, ih (j + 1) _ v _ (by omega) (W.frame _ _ _ hst' fun b hbf o e => ?_) (by simp only [argBest, hb, if_true]; exact hP) (Heap.get?_update_self _ hS' rfl)
        fun v' h2 tk2 hP' hk2 => ?_⟩
      · exact (Heap.get?_update_other _ _ (fun h : S = b => hSf (by rw [h]; exact hbf))).trans e
      · exact hR v' h2 tk2 hP' fun b o hbw hbS e => hk2 b o hbw hbS ((Heap.get?_update_other _ _ (Ne.symm hbS)).trans (hk' b o hbw e))
    | false =>
      simp only [Bool.false_eq_true, if_false]
      refine wpAny_bind (wpAny_letGo ?_)
      rw [mx_name]
      refine wpAny_pure ⟨plainId_quiet F.plain_max_loop _, ih (j + 1) _ vb c (by omega) hst' (by simp only [argBest, hb, Bool.false_eq_true, if_false]; exact hPb) hS' fun v' h2 tk2 hP' hk2 => ?_⟩
      exact hR v' h2 tk2 hP' fun b o hbw hbS e => hk2 b o hbw hbS (hk' b o hbw e)
theorem mx_first (W : Walks prog w A.in1 I fp wr n P St) (hcmp : CmpOf prog w A.in1 .Gt P bt) (hSf : S ∉ fp) (hn : 0 < n) {s : Shared} {c : Nat} (hst : St 0 s.heap)
    (hS : s.heap.get? S = some { cls := .type "list", dict := none, data := .seq #[] c, slots := #[] })
    (hR : ∀ v h' tk, P (argBest bt (n - 1)) v → (∀ b o, b ∉ wr → b ≠ S → s.heap.get? b = some o → h'.get? b = some o) → R (.ok (.ret v)) { s with heap := h', toks := tk }) :
    codeAny (model prog w) A (.builtin "max.loop" ⟨[.ref I, .none, .ref S], kw⟩) R s := by
  have hSw : S ∉ wr := fun h => hSf (W.sub _ h)
  refine codeAny_builtin F.entry_max_loop ?_
  rw [Around.under_plainId F.plain_max_loop _]
  show wpAny _ A.in1 (seqItems? (.ref S) >>= _) _ _ s
  refine wpAny_bind (wpAny_seqItems hS rfl ?_)
  show wpAny _ A.in1 (tryCatch (pyNext (.ref I)) _ >>= _) _ _ s
  refine wpAny_bind (wpAny_tryCatch (W.item 0 s _ _ hn hst fun v h' tk hP hst' hk' => ?_))
  have hS' := hk' S _ hSw hS
  show wpAny _ A.in1 (updateSeq S (fun _ => #[v, v]) >>= _) _ _ _
  refine wpAny_bind (wpAny_updateSeq hS' rfl ?_)
  rw [mx_name]
  refine wpAny_pure ⟨plainId_quiet F.plain_max_loop _, mx_loop W hcmp hSf (n - 1) 0 _ v _ (by omega) (W.frame _ _ _ hst' fun b hbf o e => ?_) hP (Heap.get?_update_self _ hS' rfl) fun v' h2 tk2 hP' hk2 => ?_⟩
  · exact (Heap.get?_update_other _ _ (fun h : S = b => hSf (by rw [h]; exact hbf))).trans e
  · exact hR v' h2 tk2 hP' fun b o hbw hbS e => hk2 b o hbw hbS ((Heap.get?_update_other _ _ (Ne.symm hbS)).trans (hk' b o hbw e))
theorem mx_empty {d : Value} (W : Walks prog w A.in1 I fp wr 0 P St) (hSf : S ∉ fp) {s : Shared} {c : Nat} (hst : St 0 s.heap)
    (hS : s.heap.get? S = some { cls := .type "list", dict := none, data := .seq #[] c, slots := #[] })
    (hR : ∀ h' tk, (∀ b o, b ∉ wr → b ≠ S → s.heap.get? b = some o → h'.get? b = some o) → R (.ok (.ret d)) { s with heap := h', toks := tk }) :
    codeAny (model prog w) A (.builtin "max.loop" ⟨[.ref I, .none, .ref S], [("default", d)]⟩) R s := by
  refine codeAny_builtin F.entry_max_loop ?_
  rw [Around.under_plainId F.plain_max_loop _]
  show wpAny _ A.in1 (seqItems? (.ref S) >>= _) _ _ s
  refine wpAny_bind (wpAny_seqItems hS rfl ?_)
  show wpAny _ A.in1 (tryCatch (pyNext (.ref I)) _ >>= _) _ _ s
  refine wpAny_bind (wpAny_tryCatch (W.done s _ _ hst fun h' tk hk' => ?_))
  show wpAny _ A.in1 (rule _ >>= _) _ _ _
  refine wpAny_bind (wpAny_rule (wpAny_pure ?_))
  exact hR h' tk fun b o hbw _ e => hk' b o hbw e
end
section
variable {prog : Program} {w : World} {A : Around} {E : Value → Shared → Prop} {s : Shared} {l : Addr} {its : List Value} {ns : List Int} {d : Value} {Q : Value → Shared → Prop}
theorem max_dflt (hh : A.handled = none) (hl : s.heap.IsList l its.toArray) (hi : IntsAre its ns)
    (h0 : ∀ h' tk, ns = [] → (∀ b o, s.heap.get? b = some o → h'.get? b = some o) → Q d { s with heap := h', toks := tk })
    (h : ∀ h' tk M t', (∀ b o, s.heap.get? b = some o → h'.get? b = some o) → M ∈ ns → (∀ a, a ∈ ns → a ≤ M) → Q (.int M t') { s with heap := h', toks := tk }) :
    wpAny (model prog w) A (call (.builtin "max") [.ref l] [("default", d)]) Q E s := by
  obtain ⟨xs, e⟩ := hi.allInts.items
  have hn : numsOf (intItems xs).toList = ns := by rw [← e]; exact hi.numsOf
  rw [nums_intItems] at hn
  subst hn
  rw [e] at hl
  refine wpAny_call (codeAny_call_builtin F.plain_max F.entry_max ?_)
  have hsig : checkBuiltinCall "max" ⟨[.ref l], [("default", d)]⟩ = pure () := by kernel_rfl
  refine wpAny_of_eq hsig ?_
  show wpAny _ A.in1 (Builtin.Builtins.bindParams "max" ["key", "default"] 0 ⟨[], [("default", d)]⟩ >>= _) _ _ s
  refine wpAny_bind (wpAny_of_eq (show Builtin.Builtins.bindParams "max" ["key", "default"] 0 ⟨[], [("default", d)]⟩ = pure [none, some d] from by kernel_rfl) ?_)
  refine wpAny_bind (wpAny_pure ?_)
  refine wpAny_bind (iter_intList hl fun s₂ e2 st hfp hlI => ?_)
  subst e2
  refine wpAny_bind (wpAny_newObj_type ?_)
  have W := Walks.list (prog := prog) (w := w) (A := A.in1) hh _ l hlI (intItems xs)
  rw [mx_name]
  have hSf : (s.heap.push { cls := .type "list_iterator", data := .fields #[.ref l, .int 0 0] }).objs.size ∉ [s.heap.objs.size, l] := fun hm => Nat.lt_irrefl _ (hfp _ hm)
  refine wpAny_pure ⟨plainId_quiet F.plain_max_loop _, ?_⟩
  by_cases hz : xs.size = 0
  · have W0 : Walks prog w A.in1 s.heap.objs.size [s.heap.objs.size, l] [s.heap.objs.size] 0 (fun i v => (intItems xs)[i]? = some v) (fun i h => h.IsListIter s.heap.objs.size l i ∧ h.IsList l (intItems xs)) := by
      have z : (intItems xs).size = 0 := by simpa [intItems] using hz
      rw [z] at W
      exact W
    refine mx_empty W0 hSf (W0.frame _ _ _ st fun b _ o e => Heap.get?_push_of_some _ e) (Heap.get?_push_size _ rfl) fun h' tk hk => ?_
    refine h0 h' tk (by simpa using hz) (old_kept fun b o hb e => hk b o hb (Nat.ne_of_lt (Heap.lt_size e)) (Heap.get?_push_of_some _ e))
  · have hsz : 0 < xs.size := Nat.pos_of_ne_zero hz
    refine mx_first W (CmpOf.ints_gt (numAt xs) (fun _ _ => intItems_at)) hSf (by simpa [intItems] using hsz) (W.frame _ _ _ st fun b _ o e => Heap.get?_push_of_some _ e) (Heap.get?_push_size _ rfl) fun v h' tk hP hk => ?_
    have hk' := old_kept (s := s) (l := l) (h' := h') fun b o hb e => hk b o hb (Nat.ne_of_lt (Heap.lt_size e)) (Heap.get?_push_of_some _ e)
    have hP' : (intItems xs)[argBest (fun i j => decide (numAt xs i > numAt xs j)) (xs.size - 1)]? = some v := by simpa [intItems] using hP
    obtain ⟨t, rfl⟩ := intItems_at hP'
    obtain ⟨h1, h2⟩ := argBest_gt (numAt xs) (xs.size - 1)
    refine h h' tk _ t hk' ?_ fun a ha => ?_
    · rw [numAt_eq]
      exact PySem.getD_mem (by rw [List.length_map, Array.length_toList]; omega)
    · obtain ⟨j, hj, rfl⟩ := mem_getD ha
      rw [List.length_map, Array.length_toList] at hj
      rw [← numAt_eq]
      exact h2 j (by omega)
end
section
variable {X : Cx} {x : Str} {p pos : Pos} {e : Expr} {es : List Expr} {kws : List Keyword} {t tk : TA} {id : String}
def CallKR (X : Cx) (f : Value) (ks : List Str) (r : List V → List V → Hp → VK → Prop) : Prop :=
  ∀ (pins : List (Addr × Obj)) (s : Shared) (σ : St) (H : Hp) (vs zs : List V) (us ws : List Value) (Q : VK), Inv X pins σ H s → Vals vs us → Vals zs ws → r vs zs H Q → wpAny (model X.prog X.w) X.A (call f us (ks.zip ws)) (EP X pins σ Q) X.xe s
def tCBK (r : List V → List V → Hp → VK → Prop) (t tk : TA) : TE := fun σ H Q => t σ H fun vs H1 => tk σ H1 fun zs H2 => r vs zs H2 Q
theorem pe_callBK {ks : List Str} {r : List V → List V → Hp → VK → Prop} (hc : CallKR X (.builtin id) ks r) (hg : Gl X x) (hm : X.mg x = none) (hv : bootBuiltins x = some (.builtin id)) (ha : PA X (e :: es) t) (hk : PK X kws tk)
    (hall : (backToKw pos (keywordEach kws X.env)).all (·.1.isSome) = true := by rfl) (hks : (backToKw pos (keywordEach kws X.env)).filterMap (·.1) = ks := by rfl)
    (hn : x ≠ "__name__" := by decide) (hdb : (x == ("__debug__" : Str)) = false := by decide)
    (he : backTo pos (starEach (e :: es) X.env) = (false, eval e X.env) :: backTo pos (starEach es X.env) := by rfl) (hpl : (backTo pos (starEach (e :: es) X.env)).any (·.1) = false := by rfl)
    (hkw : (backToKw pos (keywordEach kws X.env)).any (·.1.isNone) = false := by rfl) : PE X (.Call (.Name x p) (e :: es) kws pos) (tCBK r t tk) := by
  intro pins s σ H Q I h
  refine wpAny_Call_Name_kw (ld_blt I hg hm hv ?_ hn hdb)
  refine callWith_kw (thn (ha pos pins s σ H _ I h) fun us s1 ⟨vs, H1, I1, r1, q1⟩ => ?_) he hpl hall hkw
  refine thn (hk pos pins s1 σ H1 _ I1 q1) fun ws s2 ⟨zs, H2, I2, rz, q2⟩ => ?_
  rw [hks]
  exact hc pins s2 σ H2 vs zs us ws Q I2 r1 rz q2
def rMaxD (K : PySem.W.Frag) : List V → List V → Hp → VK → Prop := fun vs zs H Q => ∃ (a : Addr) (ns : List Int) (d : V), vs = [V.ref a] ∧ zs = [d] ∧ SqL K H a (ns.map V.int) ∧ (ns = [] → Q d H) ∧ ∀ m, m ∈ ns → (∀ y, y ∈ ns → y ≤ m) → Q (.int m) H
theorem ck_max (hc : X.calm = true) : CallKR X (.builtin "max") ["default"] (rMaxD X.K) := by
  intro pins s σ H vs zs us ws Q I r rz h
  obtain ⟨a, ns, d, rfl, rfl, hs, q0, q⟩ := h
  obtain ⟨its, rv, hl, _⟩ := I.list hs
  rw [Vals.ref1 r]
  cases rz with
  | cons r1 r2 =>
    cases r2
    exact max_dflt (I.ok.hd hc) hl.isList rv.ints (fun h' tk e hk => ⟨d, H, I.kept hk, r1, q0 e⟩) fun h' tk m t' hk h1 h2 => ⟨.int _, H, I.kept hk, ⟨_, rfl⟩, q m h1 h2⟩
end
end L2

set_option Elab.async false
set_option linter.all false
set_option maxRecDepth 100000
set_option maxHeartbeats 4000000
namespace L2
open PySem PySem.Spec PyProof.Rows
structure LamOk (N : List Str) (sc scope : Scope) (x : Str) (i : Nat) : Prop where
  kind : scope.kind = .function
  co : scope.isCoroutine = false
  gen : scope.isGenerator = false
  uniq : ∀ y ∈ scope.names, scope.names.lookup y.1 = some y.2
  ix : N[i]? = some x
  par : scope.names.lookup x = some .local
  free : ∀ y ∈ scope.names, y.2 = .free → sc.names.lookup y.1 = some .cell ∨ sc.names.lookup y.1 = some .free
  nocell : ∀ y ∈ scope.names, y.2 ≠ .cell
  own : ∀ y ∈ scope.names, y.2 = .local → y.1 = x
def lamC (N : List Str) (sc scope : Scope) (x : Str) (i : Nat) : Bool :=
  (match scope.kind with | .function => true | _ => false) && !scope.isCoroutine && !scope.isGenerator && (scope.names.all fun y => decide (scope.names.lookup y.1 = some y.2)) && decide (N[i]? = some x) && decide (scope.names.lookup x = some .local) &&
    (scope.names.all fun y => match y.2 with
      | .free => (match sc.names.lookup y.1 with | some .cell => true | some .free => true | _ => false)
      | .local => decide (y.1 = x)
      | .cell => false
      | _ => true)
theorem lamOk_by {N : List Str} {sc scope : Scope} {x : Str} {i : Nat} (h : lamC N sc scope x i = true) : LamOk N sc scope x i := by
  unfold lamC at h
  simp only [Bool.and_eq_true, List.all_eq_true, decide_eq_true_eq, Bool.not_eq_true'] at h
  obtain ⟨⟨⟨⟨⟨⟨h1, h2⟩, h3⟩, h4⟩, h5⟩, h6⟩, h7⟩ := h
  refine ⟨?_, h2, h3, h4, h5, h6, fun y hy e => ?_, fun y hy e => ?_, fun y hy e => ?_⟩
  · split at h1
    · assumption
    · cases h1
  · have q := h7 y hy
    simp only [e] at q
    split at q <;> first
      | exact .inl (by assumption)
      | exact .inr (by assumption)
      | cases q
  · have q := h7 y hy
    simp only [e] at q
    cases q
  · have q := h7 y hy
    simp only [e, decide_eq_true_eq] at q
    exact q
abbrev Cx.lam (X : Cx) (A' : Around) (s : Shared) (H : Hp) (env : Env) : Cx := { X with A := A'.deeper env, s_0 := s, H_0 := H, env := env, outer := X.stack, stack := env :: X.stack, ex := [], fn := fun _ => false, pn := [], xe := fun _ _ => False }
section
variable {X : Cx} {pins : List (Addr × Obj)} {σ : St} {H : Hp} {s : Shared}
theorem lam_start {scope : Scope} {x qual : Str} {i : Nat} {A' : Around} {f : Addr} {cd : Value} {h1 : Heap} {tk : Nat} {v : V} {u : Value} (I : Inv X pins σ H s) (hN : X.N.Nodup) (ok : LamOk X.N X.env.scope scope x i) (hA : A'.frames = some X.stack) (hh : A'.handled = none)
    (ns : h1.Ns s.heap.objs.size (fun y => [(x, u)].reverse.lookup y)) (kp : ∀ b o, s.heap.get? b = some o → h1.get? b = some o) (r : RelV v u) :
    Inv (X.lam A' s H (PySem.W.envX qual scope s.heap.objs.size f cd (cloFrom X.env.cells scope.names []))) [] (σ.set i (some v)) H { s with heap := h1, toks := tk } := by
  have hfree : ∀ y ∈ scope.names, y.2 = .free → ∃ c, X.env.cells.lookup y.1 = some c := fun y hy e => by
    rcases ok.free y hy e with k | k
    · exact I.ok.has _ (.inl k)
    · exact I.ok.has _ (.inr k)
  have cm : ∀ {y c}, (y, c) ∈ cloFrom X.env.cells scope.names [] → X.env.cells.lookup y = some c := fun {y c} hm => by
    rcases cloFrom_mem hm with hm | ⟨h1, rfl⟩
    · cases hm
    · obtain ⟨c, hc⟩ := hfree _ h1 rfl
      rw [hc]
      rfl
  have has : ∀ {y}, scope.names.lookup y = some .free → ∃ c, (cloFrom X.env.cells scope.names []).lookup y = some c ∧ X.env.cells.lookup y = some c := fun {y} hl => by
    obtain ⟨c', e'⟩ := mem_lookup (cloFrom_has (cells := X.env.cells) (acc := []) (PySem.mem_of_lookup hl))
    exact ⟨c', e', cm (PySem.mem_of_lookup e')⟩
  have hiσ : i < σ.length := by rw [I.len]; exact (List.getElem?_eq_some_iff.mp ok.ix).1
  have okB : (X.lam A' s H (PySem.W.envX qual scope s.heap.objs.size f cd (cloFrom X.env.cells scope.names []))).Ok := by
    refine ⟨I.ok.mod, ok.kind, rfl, rfl, Nat.le_refl _, fun y z c e1 e2 => ?_, fun y hy => ?_, fun y c z e => ?_, fun _ => hh, Around.frames_deeper hA, .inr ⟨rfl, rfl⟩, fun b hb => absurd hb (by simp), I.bs, Nat.le_trans I.ok.bsz I.sz, fun b o e => by simp, fun b hb => absurd hb (by simp), I.stack, I.stkFree⟩
    · exact I.ok.inj y z c (cm (PySem.mem_of_lookup e1)) (cm (PySem.mem_of_lookup e2))
    · have hy : scope.names.lookup y = some .cell ∨ scope.names.lookup y = some .free := hy
      rcases hy with hy | hy
      · exact absurd rfl (ok.nocell _ (PySem.mem_of_lookup hy))
      · obtain ⟨c, e, _⟩ := has hy
        exact ⟨c, e⟩
    · cases (show false = true from z)
  refine ⟨okB, rfl, I.bare, Un.kept kp, ⟨_, ns, fun j y av e1 e2 e3 => ?_⟩, fun y c e => ?_, I.hok.fresh (Nat.le_refl _), fun y c e => I.freeC y c (cm (PySem.mem_of_lookup e)), fun p hp => absurd (show p ∈ ([] : List (Addr × Obj)) ++ [] from hp) (by simp), I.hok.kept kp, by rw [List.length_set]; exact I.len⟩
  · by_cases hj : j = i
    · subst hj
      rw [show X.N[j]? = _ from ok.ix] at e1
      cases e1
      rw [List.getElem?_set_self hiσ] at e2
      cases e2
      exact ⟨u, r, .inl ⟨ok.par, by simp⟩⟩
    · rw [List.getElem?_set_ne (Ne.symm hj)] at e2
      have hfr : scope.names.lookup y = some .free := by
        have e3 : Vis scope y := e3
        rcases e3 with e3 | e3 | e3
        · have q := ok.own _ (PySem.mem_of_lookup e3) rfl
          have q : y = x := q
          subst q
          exact absurd (nodup_ix hN e1 ok.ix) hj
        · exact absurd rfl (ok.nocell _ (PySem.mem_of_lookup e3))
        · exact e3
      obtain ⟨m, hn, hl⟩ := I.loc
      have hk := ok.free _ (PySem.mem_of_lookup hfr) rfl
      obtain ⟨w, rw', q⟩ := hl j y av e1 e2 (hk.elim (fun k => .inr (.inl k)) fun k => .inr (.inr k))
      obtain ⟨c, h2, h3⟩ := has hfr
      refine ⟨w, rw', .inr ⟨.inr hfr, c, h2, ?_⟩⟩
      rcases q with ⟨k, _⟩ | ⟨_, c', e', z⟩
      · have k : X.env.scope.names.lookup y = some .local := k
        rcases hk with k' | k' <;> rw [show X.env.scope.names.lookup y = _ from k'] at k <;> cases k
      · rw [h3] at e'
        cases e'
        exact z.keeps kp
  · obtain ⟨w, z⟩ := I.cell y c (cm (PySem.mem_of_lookup e))
    exact ⟨w, z.keeps kp⟩
theorem lam_call {scope : Scope} {x qual nm : Str} {params : Arguments} {body : Expr} {i : Nat} {A' : Around} {f c' : Addr} {pm ctv : Value} {v : V} {u : Value} {te : TE} {Q : VK} {E : Value → Shared → Prop} (I : Inv X pins σ H s) (hN : X.N.Nodup) (ok : LamOk X.N X.env.scope scope x i)
    (hA : A'.frames = some X.stack) (hh : A'.handled = none) (hroom : A'.depth < recursionLimit) (hf : s.heap.get? f = some (PySem.W.kla_obj nm qual params body scope (cloFrom X.env.cells scope.names []) pm c' ctv)) (hcd : s.heap.CodeRec (.ref c') qual)
    (hbind : bindArgs (PySem.W.kla_fn nm qual params body scope (cloFrom X.env.cells scope.names []) pm (.ref c') ctv) ⟨[u], []⟩ = pure [(x, u)]) (r : RelV v u)
    (hb : ∀ (s : Shared) (H : Hp) (L f : Addr) (cd : Value) (cl : List (Str × Addr)), PE (X.lam A' s H (PySem.W.envX qual scope L f cd cl)) body te) (h : te (σ.set i (some v)) H Q) :
    wpAny (model X.prog X.w) A' (call (.ref f) [u]) (EP X pins σ Q) E s := by
  refine wpAny_call (PySem.W.kla_callFunE hroom hf rfl ok.co ok.gen rfl hcd ?_)
  rw [hbind]
  refine wpAny_pure (wpAny_newFunctionEnv ok.nocell (fun y hy => ?_) (fun h₁ hns hsb => ⟨I.nolimit.fresh _ hsb, ?_⟩) ok.kind)
  · obtain rfl : y = (x, u) := List.mem_singleton.mp hy
    exact ok.par
  · have hk₁ : ∀ b o, s.heap.get? b = some o → h₁.get? b = some o := fun b o e => hsb.extBut b o (Nat.ne_of_lt (Heap.lt_size e)) (Heap.get?_push_of_some _ e)
    have I1 := lam_start (qual := qual) (f := f) (cd := .ref c') (tk := s.toks + [(x, u)].length) I hN ok hA hh hns hk₁ r
    refine PySem.W.kla_codeExpr (wpAny_mono (hb s H s.heap.objs.size f (.ref c') _ [] _ _ H Q I1 h) (fun w s' hq => ?_) fun _ _ z => False.elim z)
    obtain ⟨y, H', I2, ry, q⟩ := hq
    have I3 : Inv X pins σ H' s' := I.call' (ch := []) I2.os I2.base I2.hok I2.bare fun b hb => absurd hb (by simp)
    exact ⟨y, H', I3, ry, q⟩
end
end L2

set_option Elab.async false
set_option linter.all false
set_option maxRecDepth 100000
set_option maxHeartbeats 4000000
namespace L2
open PySem PySem.Spec PyProof.Rows
section
variable {X : Cx} {pins : List (Addr × Obj)} {σ : St} {H : Hp} {s : Shared}
theorem Inv.chpin {pins' : List (Addr × Obj)} {b : Addr} {h' : Heap} {t' : Nat} (I : Inv X pins σ H s) (f : FpOk X [] H b) (sb : Heap.SameBut b s.heap h')
    (hp : ∀ p ∈ pins', (p ∈ pins ∧ p.1 ≠ b) ∨ (p.1 = b ∧ h'.get? b = some p.2 ∧ ∀ v, p.2.data ≠ .cell v)) : Inv X pins' σ H { s with heap := h', toks := t' } := by
  obtain ⟨f0, f1, f2, f3, f4, f5⟩ := f
  have I0 : Inv X [] σ H s := I.pins_of fun p hp => absurd hp (by simp)
  have I1 : Inv X [] σ H { s with heap := h', toks := t' } := I0.turned (fun c o hc e => (sb.2 c hc).trans e) f0 f1 f3 f4 f5
  refine I1.pins_of fun p hq => ?_
  rcases hp p hq with ⟨hm, hne⟩ | ⟨he, hg, hd⟩
  · obtain ⟨e, n, ne, nf, d⟩ := I.pin p (List.mem_append_right _ hm)
    exact ⟨(sb.2 p.1 hne).trans e, n, ne, nf, d⟩
  · rw [he]
    exact ⟨hg, f0, f1, f2, hd⟩
theorem Inv.newpin {pins' : List (Addr × Obj)} {h' : Heap} {t' : Nat} (I : Inv X pins σ H s) (k : ∀ b o, s.heap.get? b = some o → h'.get? b = some o)
    (hp : ∀ p ∈ pins', p ∈ pins ∨ (s.heap.objs.size ≤ p.1 ∧ h'.get? p.1 = some p.2 ∧ ∀ v, p.2.data ≠ .cell v)) : Inv X pins' σ H { s with heap := h', toks := t' } := by
  have I1 : Inv X pins σ H { s with heap := h', toks := t' } := I.kept k
  refine I1.pins_of fun p hq => ?_
  rcases hp p hq with hm | ⟨hz, hg, hd⟩
  · exact I1.pin p (List.mem_append_right _ hm)
  · obtain ⟨f0, f1, f2, _⟩ := I.fpOk hz (I.hok.fresh hz)
    exact ⟨hg, f0, f1, f2, hd⟩
theorem Inv.adopt {a : Addr} {o : HO} (I : Inv X pins σ H s) (f : FpOk X pins H a) (new : ObjOk X.prog X.w (upd H a o) s.heap a o) : Inv X pins σ (upd H a o) s := by
  obtain ⟨f0, f1, f2, f3, f4, f5⟩ := f
  refine I.step (h' := s.heap) (g' := s.gens) (t' := s.toks) (d' := s.drawn) (ch := [a]) (fun b hb => ?_) (fun b o _ _ _ e _ => e) (fun b o _ _ _ e _ => ⟨o.slots, e⟩) (fun b o hb e n => ?_) (fun b o _ e => ⟨o, e⟩) (fun b xs e => ?_) (fun b o u e => ?_) (fun b ps e => ⟨#[], ?_⟩) (fun m hm => hm) (fun b u e => ?_) I.bare
  · have e : b = a := by simpa using hb
    subst e
    exact ⟨f3, f1, f4, f5⟩
  · rw [upd_ne (fun z => hb (by simp [z]))]
    exact n
  · rw [upd_ne (ne_of_none e f0)]
    exact e
  · rw [upd_ne (ne_of_none e f0)]
    exact e
  · rw [upd_ne (ne_of_none e f0), e]
    simp
  · by_cases hb : b = a
    · subst hb
      rw [upd_same] at e
      cases e
      exact new
    · rw [upd_ne hb] at e
      exact (I.hok b u e).stay (fun c v _ q => q) (fun c q => by rw [upd_ne (ne_of_none q f0)]; exact q) fun c xs q => by rw [upd_ne (ne_of_none q f0)]; exact q
theorem FpOk.repin {pins pins' : List (Addr × Obj)} {b : Addr} (f : FpOk X pins H b) (h : ∀ p ∈ pins', p.1 ≠ b) : FpOk X pins' H b :=
  ⟨f.1, f.2.1, f.2.2.1, f.2.2.2.1, f.2.2.2.2.1, fun p hp => (List.mem_append.mp hp).elim (fun z => f.2.2.2.2.2 p (List.mem_append_left _ z)) (h p)⟩
end
section
variable {X : Cx} {pins : List (Addr × Obj)} {σ : St} {H : Hp} {s : Shared} {A : Around} {E : Value → Shared → Prop} {a kS : Addr} {vs : List Value} {kz : List Int} {keys : Array Value} {e e1 : Nat} {P : PySem.Fin → Shared → Prop}
abbrev SkOut (kz : List Int) (vs : List Value) (out : List Value) : Prop := KskOut false kz vs out
theorem sk_tail {st : SortSt} (I : Inv X (pins ++ [(kS, seqObj "list" keys e), (a, seqObj "list" #[] e1)]) σ H s) (fk : FpOk X [] H kS) (fa : FpOk X [] H a) (hka : kS ≠ a) (hpk : ∀ p ∈ pins, p.1 ≠ kS) (hpa : ∀ p ∈ pins, p.1 ≠ a)
    (hk : IntsAre keys.toList kz) (hlen : kz.length = vs.length) (h64 : vs.length < 64) (hp : (arrOf st).Perm (keys.zip vs.toArray)) (hs : SortedTo (arrOf st) (arrOf st).size) (hfl : failedOf st = none)
    (h : ∀ s' out c, Inv X (pins ++ [(a, seqObj "list" out c)]) σ H s' → SkOut kz vs out.toList → P (.done (.ret .none)) s') :
    wpAny (model X.prog X.w) A (ksk_tail a false e1 (.ref kS) st) P E s := by
  have nk := (I.pin (kS, seqObj "list" keys e) (by simp)).1
  have na := (I.pin (a, seqObj "list" #[] e1) (by simp)).1
  have hsz : keys.size = vs.length := by
    have h1 := hk.length
    rw [Array.length_toList] at h1
    omega
  have hsz2 : (arrOf st).size = vs.length := by rw [hp.size_eq, Array.size_zip, hsz, List.size_toArray, Nat.min_self]
  have hout : ((arrOf st).map (·.2)).size = vs.length := by rw [Array.size_map]; exact hsz2
  have s1 := Heap.SameBut.update s.heap kS (Obj.mapSeq fun _ => (#[] : Array Value))
  have na1 : (s.heap.update kS (Obj.mapSeq fun _ => (#[] : Array Value))).get? a = some (seqObj "list" #[] e1) := (s1.2 a hka.symm).trans na
  have I1 : Inv X (pins ++ [(a, seqObj "list" #[] e1)]) σ H { s with heap := s.heap.update kS (Obj.mapSeq fun _ => (#[] : Array Value)) } := I.chpin (t' := s.toks) fk s1 fun p hp => by
    rcases List.mem_append.mp hp with hp | hp
    · exact .inl ⟨List.mem_append_left _ hp, hpk p hp⟩
    · obtain rfl := List.mem_singleton.mp hp
      exact .inl ⟨by simp, hka.symm⟩
  unfold ksk_tail
  try dsimp only
  refine wpAny_bind (listUpdate_at nk rfl ?_ (by rw [hsz, sizeLine_eq]; omega) (Nat.zero_le _))
  refine wpAny_bind (wpAny_letGo ?_)
  refine wpAny_bind (seqEpoch_at na1 rfl ?_)
  refine wpAny_bind (listUpdate_at na1 rfl ?_ (Nat.zero_le _) (Nat.le_trans (Nat.le_of_eq (by simpa using hout)) (by rw [sizeLine_eq]; omega)))
  rw [hfl]
  simp only [bne_self_eq_false, Bool.false_eq_true, if_false]
  have s2 := Heap.SameBut.update (s.heap.update kS (Obj.mapSeq fun _ => (#[] : Array Value))) a (Obj.mapSeq fun _ => (arrOf st).map (·.2))
  obtain ⟨c2, hc2⟩ : ∃ c2, ((s.heap.update kS (Obj.mapSeq fun _ => (#[] : Array Value))).update a (Obj.mapSeq fun _ => (arrOf st).map (·.2))).get? a = some (seqObj "list" ((arrOf st).map (·.2)) c2) :=
    ⟨_, get?_update_seq na1 fun _ => (arrOf st).map (·.2)⟩
  have ko : SkOut kz vs ((arrOf st).map (·.2)).toList := by
    have z := ksk_out (b := false) hk hp hs
    rw [if_neg (by decide)] at z
    exact z
  refine wpAny_pure (h _ ((arrOf st).map (·.2)) c2 (I1.chpin (t' := s.toks) fa s2 fun p hp => ?_) ko)
  rcases List.mem_append.mp hp with hp | hp
  · exact .inl ⟨List.mem_append_left _ hp, hpa p hp⟩
  · obtain rfl := List.mem_singleton.mp hp
    exact .inr ⟨rfl, hc2, fun v z => nomatch z⟩
theorem sk_end (I : Inv X (pins ++ [(kS, seqObj "list" keys e), (a, seqObj "list" #[] e1)]) σ H s) (fk : FpOk X [] H kS) (fa : FpOk X [] H a) (hka : kS ≠ a) (hpk : ∀ p ∈ pins, p.1 ≠ kS) (hpa : ∀ p ∈ pins, p.1 ≠ a)
    (hk : IntsAre keys.toList kz) (hlen : kz.length = vs.length) (h64 : vs.length < 64)
    (h : ∀ s' out c, Inv X (pins ++ [(a, seqObj "list" out c)]) σ H s' → SkOut kz vs out.toList → P (.done (.ret .none)) s') :
    wpAny (model X.prog X.w) A (ksk_end a false vs.toArray e1 (.ref kS) keys) P E s := by
  have hsz : keys.size = vs.length := by
    have h1 := hk.length
    rw [Array.length_toList] at h1
    omega
  have hzs : (keys.zip vs.toArray).size = vs.length := by rw [Array.size_zip, hsz, List.size_toArray, Nat.min_self]
  unfold ksk_end
  try dsimp only
  rw [if_neg (by decide)]
  by_cases h2 : vs.toArray.size < 2
  · rw [if_pos h2, if_pos h2]
    refine wpAny_bind (wpAny_pure ?_)
    rw [StateT.run_pure]
    refine wpAny_bind (wpAny_pure ?_)
    try dsimp only
    refine sk_tail (st := SortSt.mk' general' (keys.zip vs.toArray) #[] 7 none) I fk fa hka hpk hpa hk hlen h64 (Array.Perm.refl _) (fun i j hij hj => ?_) rfl h
    have hj2 : j < (keys.zip vs.toArray).size := hj
    rw [hzs] at hj2
    rw [List.size_toArray] at h2
    have : i = j := by omega
    subst this
    exact Int.le_refl _
  · rw [if_neg h2, if_neg h2]
    rw [List.size_toArray] at h2
    rw [ksk_kind hk (by rw [hsz]; omega)]
    refine wpAny_bind (wpAny_pure ?_)
    refine wpAny_bind (wpAny_mono (wpS_sortRuns (a₀ := keys.zip vs.toArray) (st := SortSt.mk' oneType' (keys.zip vs.toArray) #[] 7 none)
      (Q := fun _ st' => (arrOf st').Perm (keys.zip vs.toArray) ∧ failedOf st' = none ∧ SortedTo (arrOf st') (keys.zip vs.toArray).size)
      (ksk_intKeys hk) ⟨Array.Perm.refl _, rfl, rfl, rfl⟩ (by rw [hzs]; omega) (by rw [hzs]; exact h64) fun st' a1 a2 a3 => ⟨a1, a2, a3⟩) ?_ fun _ _ e => e)
    rintro ⟨⟨⟩, st'⟩ s' ⟨rfl, hp, hf, hs⟩
    try dsimp only
    exact sk_tail I fk fa hka hpk hpa hk hlen h64 hp (by rw [hp.size_eq]; exact hs) hf h
theorem sk_rest {f : Value} (I : Inv X (pins ++ [(kS, seqObj "list" #[] 0), (a, seqObj "list" #[] e1)]) σ H s) (fk : FpOk X [] H kS) (fa : FpOk X [] H a) (hka : kS ≠ a) (hpk : ∀ p ∈ pins, p.1 ≠ kS) (hpa : ∀ p ∈ pins, p.1 ≠ a)
    (hlen : kz.length = vs.length) (h64 : vs.length < 64)
    (turn : ∀ (i : Nat) (v : Value) (k : Int), vs[i]? = some v → kz[i]? = some k → ∀ (s : Shared) (own : List (Addr × Obj)), Inv X (pins ++ own) σ H s →
      wpAny (model X.prog X.w) A (call f [v]) (fun r s' => Inv X (pins ++ own) σ H s' ∧ ∃ t, r = .int k t) (fun _ _ => False) s)
    (h : ∀ s' out c, Inv X (pins ++ [(a, seqObj "list" out c)]) σ H s' → SkOut kz vs out.toList → P (.done (.ret .none)) s') :
    wpAny (model X.prog X.w) A (ksk_rest a f false vs.toArray e1 (.ref kS)) P E s := by
  unfold ksk_rest
  refine wpAny_bind (wpAny_rule ?_)
  first
    | rw [List.forIn_toArray]
    | (rw [← Array.forIn_toList]; simp only [List.toList_toArray])
    | rw [← Array.forIn_toList]
  refine wpAny_bind (ksk_fold (fun i s' => ∃ kA e, Inv X (pins ++ [(kS, seqObj "list" kA e), (a, seqObj "list" #[] e1)]) σ H s' ∧ IntsAre kA.toList (kz.take i)) vs 0 s ⟨#[], 0, I, by simpa using IntsAre.nil⟩ ?step ?done)
  case step =>
    rintro j x s' hx ⟨kA, e, I', hk⟩
    simp only [Nat.zero_add] at hk ⊢
    have hj : j < vs.length := (List.getElem?_eq_some_iff.mp hx).1
    obtain ⟨k, hkj⟩ : ∃ k, kz[j]? = some k := ⟨_, List.getElem?_eq_getElem (by omega)⟩
    have hz : kA.size ≤ vs.length := by
      have h1 := hk.length
      rw [Array.length_toList, List.length_take] at h1
      omega
    refine wpAny_bind (wpAny_attempt (wpAny_mono (turn j x k hx hkj s' _ I') (fun v s2 he => ?_) fun _ _ hF => hF.elim))
    obtain ⟨I2, t2, rfl⟩ := he
    try dsimp only
    have nk := (I2.pin (kS, seqObj "list" kA e) (by simp)).1
    have s1 := Heap.SameBut.update s2.heap kS (Obj.mapSeq (·.push (.int k t2)))
    obtain ⟨c2, hc2⟩ : ∃ c2, (s2.heap.update kS (Obj.mapSeq (·.push (.int k t2)))).get? kS = some (seqObj "list" (kA.push (.int k t2)) c2) := ⟨_, get?_update_seq nk (·.push (.int k t2))⟩
    have ek : kz.take (j + 1) = kz.take j ++ [k] := by rw [List.take_add_one, hkj]; simp
    have ea : (kA.push (Value.int k t2)).toList = kA.toList ++ [Value.int k t2] := by simp
    refine wpAny_bind (listUpdate_at nk rfl ?_ (by rw [sizeLine_eq]; omega) (Nat.le_trans (Nat.le_of_eq (Array.size_push ..)) (by rw [sizeLine_eq]; omega)))
    refine wpAny_pure ⟨rfl, kA.push (.int k t2), c2, I2.chpin (t' := s2.toks) fk s1 fun p hp => ?_, by rw [ea, ek]; exact ksk_snoc hk⟩
    rcases List.mem_append.mp hp with hp | hp
    · exact .inl ⟨List.mem_append_left _ hp, hpk p hp⟩
    · rcases List.mem_cons.mp hp with rfl | hp
      · exact .inr ⟨rfl, hc2, fun v z => nomatch z⟩
      · obtain rfl := List.mem_singleton.mp hp
        exact .inl ⟨by simp, hka.symm⟩
  case done =>
    rintro s' ⟨kA, e, I', hk⟩
    have hk' : IntsAre kA.toList kz := by
      have e3 : kz.take (0 + vs.length) = kz := List.take_of_length_le (by omega)
      rw [e3] at hk
      exact hk
    have nk := (I'.pin (kS, seqObj "list" kA e) (by simp)).1
    try dsimp only
    refine wpAny_bind (listItems_at nk rfl ?_)
    exact sk_end I' fk fa hka hpk hpa hk' hlen h64 h
end
end L2

set_option Elab.async false
set_option linter.all false
set_option maxRecDepth 100000
set_option maxHeartbeats 4000000
namespace L2
open PySem PySem.Spec PyProof.Rows
def BmOk (mg : Str → Option Value) (base : Heap) : Prop := ∃ bm ob, mg "__builtins__" = some (.ref bm) ∧ bm ≠ builtinsNs ∧ base.get? bm = some ob ∧ ob.cls = .type "module" ∧ ob.dict = some builtinsNs ∧ ob.data = .plain
def tabOf (ts : List (Nat × Nat × Addr)) : List Value := ts.flatMap fun t => [rawInt t.1, rawInt t.2.1, .ref t.2.2]
abbrev codeX (qual : Str) (c : Addr) : HO := .ext fun h => h.CodeRec (.ref c) qual
def TabOk (H : Hp) (P : Addr) (qual : Str) : Prop := ∃ ts : List (Nat × Nat × Addr), H P = some (.tbl (tabOf ts).toArray) ∧ ∀ t ∈ ts, H t.2.2 = some (codeX qual t.2.2)
theorem tabOf_snoc (ts : List (Nat × Nat × Addr)) (a b : Nat) (c : Addr) : tabOf (ts ++ [(a, b, c)]) = tabOf ts ++ [rawInt a, rawInt b, .ref c] := by
  unfold tabOf
  simp
theorem tabOf_ok : ∀ ts : List (Nat × Nat × Addr), TriplesOk (tabOf ts)
  | [] => trivial
  | t :: r => tabOf_ok r
theorem tabOf_among {pos : Pos} : ∀ {ts : List (Nat × Nat × Addr)} {v : Value}, codeAmong pos (tabOf ts) = some v → ∃ t ∈ ts, v = .ref t.2.2
  | [], v, h => by cases (show (none : Option Value) = some v from h)
  | t :: r, v, h => by
    have h : (if ((t.1 : Int) == pos.line && (t.2.1 : Int) == pos.col) = true then some (Value.ref t.2.2) else codeAmong pos (tabOf r)) = some v := h
    split at h
    · exact ⟨t, List.mem_cons_self, (Option.some.inj h).symm⟩
    · obtain ⟨t', h1, h2⟩ := tabOf_among h
      exact ⟨t', List.mem_cons_of_mem _ h1, h2⟩
def ButT (P : Addr) (H H' : Hp) : Prop := ∀ b o, H b = some o → b ≠ P → H' b = some o
theorem TabOk.laid {H : Hp} {P a : Addr} {qual : Str} {o : HO} (T : TabOk H P qual) (h : H a = none) : TabOk (upd H a o) P qual := by
  obtain ⟨ts, e, k⟩ := T
  exact ⟨ts, by rw [upd_ne (ne_of_none e h)]; exact e, fun t ht => by rw [upd_ne (ne_of_none (k t ht) h)]; exact k t ht⟩
section
variable {X : Cx} {pins : List (Addr × Obj)} {σ : St} {H : Hp} {s : Shared}
theorem Inv.table {P : Addr} {ps more : Array Value} {h' : Heap} {t' : Nat} (I : Inv X pins σ H s) (hP : H P = some (.tbl ps)) (hx : Heap.ExtBut P s.heap h') (hn : h'.get? P = some { cls := .none, data := .fields (ps ++ more) }) :
    Inv X pins σ (upd H P (.tbl (ps ++ more))) { s with heap := h', toks := t' } := by
  have ne : ∀ b, H b = none → b ≠ P := fun b e z => by rw [z, hP] at e; cases e
  refine I.step (g' := s.gens) (d' := s.drawn) (ch := []) (fun _ z => nomatch z) (fun b o _ _ _ e n => hx b o (ne b n) e) (fun b o _ _ _ e n => ⟨o.slots, hx b o (ne b n) e⟩) (fun b o _ e n => by rw [upd_ne (ne b n)]; exact n)
    (fun b o _ e => ?_) (fun b xs e => ?_) (fun b o u e => ?_) (fun b qs e => ?_) (fun m hm => ?_) (fun b u e => ?_) I.bare
  · by_cases hb : b = P
    · exact ⟨_, by rw [hb]; exact hn⟩
    · exact ⟨o, hx b o hb e⟩
  · rw [upd_ne (fun z => by rw [z, hP] at e; cases e)]
    exact e
  · rw [upd_ne (fun z => by rw [z, hP] at e; cases e)]
    exact e
  · by_cases hb : b = P
    · subst hb
      rw [hP] at e
      cases e
      exact ⟨more, upd_same⟩
    · exact ⟨#[], by rw [upd_ne hb, e]; simp⟩
  · obtain ⟨o, es, ep, ho, r⟩ := hm
    exact ⟨o, es, ep, hx _ o (fun z => by
      have q := I.free
      rw [z, hP] at q
      cases q) ho, r⟩
  · by_cases hb : b = P
    · subst hb
      rw [upd_same] at e
      cases e
      exact hn
    · rw [upd_ne hb] at e
      refine (I.hok b u e).stay (fun c v hc q => hx c v ?_ q) (fun c q => ?_) fun c xs q => ?_
      · rcases hc with z | z
        · rw [z]
          exact hb
        · intro w
          rw [w, hP] at z
          cases z
      · rw [upd_ne (fun z => by rw [z, hP] at q; cases q)]
        exact q
      · rw [upd_ne (fun z => by rw [z, hP] at q; cases q)]
        exact q
theorem lam_make {params : Arguments} {body : Expr} {scope : Scope} {pos : Pos} {x qual : Str} {i : Nat} {c P : Addr} {Q : Value → Shared → Prop} {A : Around} {E : Value → Shared → Prop} (I : Inv X pins σ H s) (B : BmOk X.mg X.base) (hcode : X.env.code = .ref c) (C : PySem.W.CodeHd X.base c P)
    (T : TabOk H P qual) (ok : LamOk X.N X.env.scope scope x i) (hq : X.env.qual ++ "<lambda>" = qual) (hdef : defaultsOf params X.env = ([], []))
    (h : ∀ f c' pm ctv H' s', TabOk H' P qual → ButT P H H' → Inv X (pins ++ [(f, PySem.W.kla_obj "<lambda>" qual params body scope (cloFrom X.env.cells scope.names []) pm c' ctv)]) σ H' s' → H' c' = some (codeX qual c') → Q (.ref f) s') :
    wpAny (model X.prog X.w) A (eval (.Lambda params body scope pos) X.env) Q E s := by
  refine PySem.W.kla_eval hdef ?_
  rw [hq]
  have hfree : ∀ y ∈ scope.names, y.2 = .free → ∃ c, X.env.cells.lookup y.1 = some c := fun y hy e => by
    rcases ok.free y hy e with k | k
    · exact I.ok.has _ (.inl k)
    · exact I.ok.has _ (.inr k)
  have hcl := closure_ok hfree
  obtain ⟨ts, eP, kT⟩ := id T
  have hP : s.heap.get? P = some (PySem.W.tabObj (tabOf ts).toArray) := I.hok P _ eP
  have hgs : s.heap.Ns mainGlobals X.mg := I.mod.glob.keeps I.bk
  obtain ⟨bm, ob, b1, b2, b3, b4, b5, b6⟩ := B
  have b3' := I.bk _ _ b3
  have hgP : mainGlobals ≠ P := fun q => by
    obtain ⟨o, es, ep, e, hd, _⟩ := hgs
    rw [q, hP] at e
    cases e
    cases hd
  have hbP : bm ≠ P := fun q => by
    rw [q, hP] at b3'
    cases b3'
    cases b4
  have hbG : bm ≠ mainGlobals := fun q => by
    obtain ⟨o, es, ep, e, hd, _⟩ := hgs
    rw [q, e] at b3'
    cases b3'
    rw [hd] at b6
    cases b6
  have C' := C.keeps I.bk
  have Bs : s.heap.BuiltinsAt X.mg P := ⟨bm, ob, b1, b2, hbG, hbP, b3', b4, b5, b6⟩
  cases hc : codeAmong pos (tabOf ts).toArray.toList with
  | some cv =>
    obtain ⟨t, ht, rfl⟩ := tabOf_among (show codeAmong pos (tabOf ts) = some cv by simpa using hc)
    refine PySem.W.kla_makeFunctionHit (mg := X.mg) hcl I.ok.glob hgs hcode C' hP (by simpa using tabOf_ok ts) hc Bs fun ctv h' tk hk hsz => ?_
    refine h h'.objs.size t.2.2 ((X.mg "__name__").getD .none) ctv H _ T (fun b o e _ => e) (I.newpin (fun b o e => Heap.get?_push_of_some _ (hk b o e)) fun p hp => ?_) (kT t ht)
    rcases List.mem_append.mp hp with hp | hp
    · exact .inl hp
    · obtain rfl := List.mem_singleton.mp hp
      exact .inr ⟨hsz, Heap.get?_push_size _ rfl, fun v z => nomatch z⟩
  | none =>
    refine PySem.W.kla_makeFunction (mg := X.mg) hcl I.ok.glob hgs hcode C' hP (by simpa using tabOf_ok ts) hc hgP Bs fun c' ctv h' tk hx hge hlt hrec htb => ?_
    have I1 : Inv X pins σ (upd H P (.tbl ((tabOf ts).toArray ++ #[rawInt pos.line, rawInt pos.col, .ref c']))) { s with heap := h', toks := tk } := I.table eP hx htb
    have hfc : (upd H P (.tbl ((tabOf ts).toArray ++ #[rawInt pos.line, rawInt pos.col, .ref c']))) c' = none := by
      have z : H c' = none := I.hok.fresh hge
      rw [upd_ne (fun q => by rw [q, eP] at z; cases z)]
      exact z
    have F1 : FpOk X pins (upd H P (.tbl ((tabOf ts).toArray ++ #[rawInt pos.line, rawInt pos.col, .ref c']))) c' := I.fpOk hge hfc
    obtain ⟨oc, hoc⟩ : ∃ oc, h'.get? c' = some oc := by
      obtain ⟨_, oc, _, _, e, q, _⟩ := hrec
      cases e
      exact ⟨oc, q⟩
    have I2 : Inv X pins σ (upd (upd H P (.tbl ((tabOf ts).toArray ++ #[rawInt pos.line, rawInt pos.col, .ref c']))) c' (codeX qual c')) { s with heap := h', toks := tk } := I1.adopt F1 ⟨hrec, ⟨oc, hoc⟩, fun h1 h2 hr k => by
      obtain ⟨c2, o2, vs, t, e, q, r⟩ := hr
      cases e
      exact ⟨c', o2, vs, t, rfl, k o2 q, r⟩⟩
    refine h h'.objs.size c' ((X.mg "__name__").getD .none) ctv _ _ ⟨ts ++ [(pos.line, pos.col, c')], ?_, fun t ht => ?_⟩ (fun b o e hb => ?_) (I2.newpin (s := { s with heap := h', toks := tk }) (t' := tk) (fun b o e => Heap.get?_push_of_some _ e) fun p hp => ?_) upd_same
    · rw [upd_ne (fun q => by rw [← q, upd_same] at hfc; cases hfc), upd_same, tabOf_snoc]
      simp
    · rcases List.mem_append.mp ht with ht | ht
      · have q := kT t ht
        have n1 : t.2.2 ≠ P := fun z => by rw [z, eP] at q; cases q
        have n2 : t.2.2 ≠ c' := fun z => by
          have w : H c' = none := I.hok.fresh hge
          rw [← z, q] at w
          cases w
        rw [upd_ne n2, upd_ne n1]
        exact q
      · obtain rfl := List.mem_singleton.mp ht
        exact upd_same
    · have n2 : b ≠ c' := fun z => by
        have w : H c' = none := I.hok.fresh hge
        rw [← z, e] at w
        cases w
      rw [upd_ne n2, upd_ne hb]
      exact e
    · rcases List.mem_append.mp hp with hp | hp
      · exact .inl hp
      · obtain rfl := List.mem_singleton.mp hp
        exact .inr ⟨Nat.le_refl _, Heap.get?_push_size _ rfl, fun v z => nomatch z⟩
end
end L2

set_option Elab.async false
set_option linter.all false
set_option maxRecDepth 100000
set_option maxHeartbeats 4000000
namespace L2
open PySem PySem.Spec PyProof.Rows
theorem perm_back {α β : Type} {R : α → β → Prop} : ∀ {l1 l2 : List β}, l1.Perm l2 → ∀ {m2 : List α}, Paired R m2 l2 → ∃ m1, m1.Perm m2 ∧ Paired R m1 l1 := by
  intro l1 l2 p
  induction p with
  | nil => intro m2 h; exact ⟨m2, .refl _, h⟩
  | cons x _ ih =>
    intro m2 h
    cases h with
    | cons r t =>
      obtain ⟨m1, h1, h2⟩ := ih t
      exact ⟨_ :: m1, h1.cons _, .cons r h2⟩
  | swap x y l =>
    intro m2 h
    cases h with
    | cons r t =>
      cases t with
      | cons r' t' => exact ⟨_ :: _ :: _, .swap .., .cons r' (.cons r t')⟩
  | trans _ _ ih1 ih2 =>
    intro m3 h
    obtain ⟨m2, h1, h2⟩ := ih2 h
    obtain ⟨m1, h3, h4⟩ := ih1 h2
    exact ⟨m1, h3.trans h1, h4⟩
theorem paired_zip {kz : List Int} : ∀ {xs : List V} {vs : List Value}, Vals xs vs → Paired (fun (p : Int × V) (q : Int × Value) => p.1 = q.1 ∧ RelV p.2 q.2) (kz.zip xs) (kz.zip vs) := by
  induction kz with
  | nil => intro xs vs _; exact .nil
  | cons k r ih =>
    intro xs vs h
    cases h with
    | nil => exact .nil
    | cons a t => exact .cons ⟨rfl, a⟩ (ih t)
theorem paired_fst : ∀ {ps : List (Int × V)} {qs : List (Int × Value)}, Paired (fun (p : Int × V) (q : Int × Value) => p.1 = q.1 ∧ RelV p.2 q.2) ps qs → ps.map (·.1) = qs.map (·.1)
  | _, _, .nil => rfl
  | _, _, .cons r t => by rw [List.map_cons, List.map_cons, r.1, paired_fst t]
theorem paired_snd : ∀ {ps : List (Int × V)} {qs : List (Int × Value)}, Paired (fun (p : Int × V) (q : Int × Value) => p.1 = q.1 ∧ RelV p.2 q.2) ps qs → Vals (ps.map (·.2)) (qs.map (·.2))
  | _, _, .nil => .nil
  | _, _, .cons r t => .cons r.2 (paired_snd t)
def ByKey (ks : List Int) (xs ys : List V) : Prop := ∃ ps : List (Int × V), ps.Perm (ks.zip xs) ∧ ys = ps.map (·.2) ∧ (ps.map (·.1)).Pairwise (· ≤ ·)
theorem ByKey.of {kz : List Int} {xs : List V} {vs out : List Value} (h : SkOut kz vs out) (r : Vals xs vs) : ∃ ys, ByKey kz xs ys ∧ Vals ys out := by
  obtain ⟨qs, hp, ho, hs⟩ := h
  obtain ⟨ps, h1, h2⟩ := perm_back hp (paired_zip (kz := kz) r)
  refine ⟨ps.map (·.2), ⟨ps, h1, rfl, ?_⟩, ?_⟩
  · rw [paired_fst h2, List.pairwise_map]
    exact hs.imp fun {a b} q => by simpa using q
  · rw [ho]
    exact paired_snd h2
theorem sk_args (a : Value) (f : Addr) : argsOk "sorted" ⟨[a], [("key", .ref f)]⟩ := ksk_s1 a (.ref f)
def tSortK (K : PySem.W.Frag) (P : Addr) (qual : Str) (i : Nat) (te tb : TE) : TE := fun σ H Q => te σ H fun x H1 => ∃ (a : Addr) (xs : List V) (ks : List Int), x = .ref a ∧ SqL K H1 a xs ∧ xs.length < 64 ∧ ks.length = xs.length ∧ TabOk H1 P qual ∧
  ∀ H2, TabOk H2 P qual → ButT P H1 H2 → (∀ (j : Nat) (v : V) (k : Int), xs[j]? = some v → ks[j]? = some k → tb (σ.set i (some v)) H2 fun r H3 => r = .int k ∧ H3 = H2) ∧
    ∀ (p : Addr) (ys : List V), H2 p = none → ByKey ks xs ys → ys.length = xs.length → Q (.ref p) (upd H2 p (.lst ys))
section
variable {X : Cx}
theorem SqL.butT {K : PySem.W.Frag} {P a : Addr} {H H' : Hp} {ps : Array Value} {xs : List V} (h : SqL K H a xs) (b : ButT P H H') (hP : H P = some (.tbl ps)) : SqL K H' a xs := by
  rcases h with h | h
  · left
    rcases h with h | ⟨o, h⟩
    · exact .inl (b _ _ h fun z => by rw [z, hP] at h; cases h)
    · exact .inr ⟨o, b _ _ h fun z => by rw [z, hP] at h; cases h⟩
  · exact .inr h
theorem pe_sortK {e body : Expr} {te tb : TE} {x qual : Str} {i : Nat} {c P : Addr} {params : Arguments} {scope : Scope} {lpos kpos p pos : Pos} (B : BmOk X.mg X.base) (hcode : X.env.code = .ref c) (C : PySem.W.CodeHd X.base c P) (hc : X.calm = true) (hN : X.N.Nodup)
    (hr : Room 3 X.A) (hg : Gl X "sorted") (hm : X.mg "sorted" = none) (ok : LamOk X.N X.env.scope scope x i) (he : PE X e te) (hq : X.env.qual ++ "<lambda>" = qual) (hdef : defaultsOf params X.env = ([], []))
    (hbind : ∀ (cl : List (Str × Addr)) (pm cd ctv u : Value), bindArgs (PySem.W.kla_fn "<lambda>" qual params body scope cl pm cd ctv) ⟨[u], []⟩ = pure [(x, u)])
    (hb : ∀ (s : Shared) (H : Hp) (L f : Addr) (cd : Value) (cl : List (Str × Addr)), PE (X.lam X.A.in1.in1 s H (PySem.W.envX qual scope L f cd cl)) body tb)
    (hs : starEach [e] X.env = [(false, eval e X.env)] := by rfl) :
    PE X (.Call (.Name "sorted" p) [e] [⟨some "key", .Lambda params body scope lpos, kpos⟩] pos) (tSortK X.K P qual i te tb) := by
  intro pins s σ H Q I h
  refine wpAny_Call_Name_kw (ld_blt I hg hm (show bootBuiltins "sorted" = some (.builtin "sorted") by decide +kernel) ?_)
  have pa : PA X [e] (tCons te tNil) := pa_cons he pa_nil (by rw [hs]; rfl)
  have h' : tCons te tNil σ H (fun vs H1 => match vs with
    | [x] => ∃ (a : Addr) (xs : List V) (ks : List Int), x = .ref a ∧ SqL X.K H1 a xs ∧ xs.length < 64 ∧ ks.length = xs.length ∧ TabOk H1 P qual ∧
        ∀ H2, TabOk H2 P qual → ButT P H1 H2 → (∀ (j : Nat) (v : V) (k : Int), xs[j]? = some v → ks[j]? = some k → tb (σ.set i (some v)) H2 fun r H3 => r = .int k ∧ H3 = H2) ∧
          ∀ (p : Addr) (ys : List V), H2 p = none → ByKey ks xs ys → ys.length = xs.length → Q (.ref p) (upd H2 p (.lst ys))
    | _ => False) := h
  refine callWith_kw (thn (pa pos pins s σ H _ I h') fun us s1 ⟨vs, H1, I1, r1, q1⟩ => ?_) (by rw [hs]; rfl) (by rw [hs]; rfl) rfl rfl
  cases r1 with
  | nil => exact False.elim q1
  | cons ra rr =>
    cases rr with
    | cons _ _ => exact False.elim q1
    | nil =>
      obtain ⟨a, xs, ks, rfl, hS, h64, hkl, T1, q⟩ := q1
      cases ra
      refine kws_cons (lam_make (x := x) (i := i) (c := c) (P := P) (qual := qual) I1 B hcode C T1 ok hq hdef fun f c' pm ctv H2 s2 T2 B2 I2 hc' => kws_nil ?_)
      show wpAny _ _ (call (.builtin "sorted") [.ref a] [("key", .ref f)]) _ _ s2
      obtain ⟨qk, qr⟩ := q H2 T2 B2
      obtain ⟨ts, eP, _⟩ := id T1
      have hS2 := hS.butT B2 eP
      obtain ⟨its, rv, hl, hz⟩ := I2.list hS2
      have hlen := rv.length
      refine call_function_entry_kw kind_sorted plain_sorted entry_sorted (sk_args _ f) ?_
      unfold Builtin.«sorted»
      refine wpAny_bind (m := checkCount "sorted" 1 1 _) (wpAny_pure ?_)
      refine wpAny_bind (collect_list hl.isList ?_ (by rw [sizeLine_eq]; omega))
      refine wpAny_bind (wpAny_newList ?_ (by rw [sizeLine_eq]; omega))
      have hsz : ((s2.heap.push (seqObj "list" #[] 0)).update s2.heap.objs.size (Obj.mapSeq (· ++ its.toArray))).objs.size = s2.heap.objs.size + 1 := by rw [Heap.size_update, size_push']
      have hoL : (((s2.heap.push (seqObj "list" #[] 0)).update s2.heap.objs.size (Obj.mapSeq (· ++ its.toArray))).push (seqObj "list" its.toArray 0)).get? (s2.heap.objs.size + 1) = some (seqObj "list" its.toArray 0) := by
        rw [← hsz]
        exact Heap.get?_push_size _ rfl
      have keep : ∀ b o, s2.heap.get? b = some o → (((s2.heap.push (seqObj "list" #[] 0)).update s2.heap.objs.size (Obj.mapSeq (· ++ its.toArray))).push (seqObj "list" its.toArray 0)).get? b = some o := fun b o q => by
        have hlt : b < s2.heap.objs.size := Heap.lt_size q
        rw [Heap.get?_push_ne _ _ _ (by rw [hsz]; exact Nat.ne_of_lt (Nat.lt_succ_of_lt hlt)), Heap.get?_update_ne _ _ _ _ (Nat.ne_of_lt hlt), Heap.get?_push_ne _ _ _ (Nat.ne_of_lt hlt)]
        exact q
      show wpAny _ _ _ _ _ { s2 with heap := ((s2.heap.push (seqObj "list" #[] 0)).update s2.heap.objs.size (Obj.mapSeq (· ++ its.toArray))).push (seqObj "list" its.toArray 0) }
      rw [hsz]
      generalize hD : s2.heap.objs.size + 1 = D at hoL
      have hDle : s2.heap.objs.size ≤ D := by omega
      have fD : FpOk X (pins ++ [(f, PySem.W.kla_obj "<lambda>" qual params body scope (cloFrom X.env.cells scope.names []) pm c' ctv)]) H2 D := I2.fpOk hDle (I2.hok.fresh hDle)
      have I3 : Inv X (pins ++ [(f, PySem.W.kla_obj "<lambda>" qual params body scope (cloFrom X.env.cells scope.names []) pm c' ctv)]) σ H2 { s2 with heap := ((s2.heap.push (seqObj "list" #[] 0)).update s2.heap.objs.size (Obj.mapSeq (· ++ its.toArray))).push (seqObj "list" its.toArray 0) } := I2.kept (t' := s2.toks) keep
      generalize ((s2.heap.push (seqObj "list" #[] 0)).update s2.heap.objs.size (Obj.mapSeq (· ++ its.toArray))).push (seqObj "list" its.toArray 0) = h3 at hoL I3
      generalize hpins : pins ++ [(f, PySem.W.kla_obj "<lambda>" qual params body scope (cloFrom X.env.cells scope.names []) pm c' ctv)] = pins2 at fD I3
      refine wpAny_bind (wpAny_holding (wpAny_call_entry_kw slot_list_sort ⟨_, hoL, rfl⟩ entry_list_sort ?_ (ksk_l1 _ _)))
      rw [ksk_t1]
      have ha : D < h3.objs.size := Heap.lt_size hoL
      unfold ksk_tree
      have hoL' : ({ s2 with heap := h3 } : Shared).heap.get? D = some (seqObj "list" its.toArray 0) := hoL
      refine wpAny_bind (listItems_at hoL' rfl ?_)
      refine wpAny_bind (listUpdate_at hoL' rfl ?_ (by rw [List.size_toArray, sizeLine_eq]; omega) (Nat.zero_le _))
      have u1 := Heap.SameBut.update h3 D (Obj.mapSeq fun _ => (#[] : Array Value))
      obtain ⟨e1, ho1⟩ : ∃ e1, (h3.update D (Obj.mapSeq fun _ => (#[] : Array Value))).get? D = some (seqObj "list" #[] e1) := ⟨_, get?_update_seq hoL fun _ => #[]⟩
      have hpD : ∀ p ∈ pins2, p.1 ≠ D := fun p hp => fD.2.2.2.2.2 p (List.mem_append_right _ hp)
      have fD0 : FpOk X [] H2 D := fD.repin fun p hp => absurd hp (by simp)
      have I4 : Inv X (pins2 ++ [(D, seqObj "list" #[] e1)]) σ H2 { s2 with heap := h3.update D (Obj.mapSeq fun _ => (#[] : Array Value)) } := I3.chpin (t' := s2.toks) fD0 u1 fun p hp => by
        rcases List.mem_append.mp hp with hp | hp
        · exact .inl ⟨hp, hpD p hp⟩
        · obtain rfl := List.mem_singleton.mp hp
          exact .inr ⟨rfl, ho1, fun v z => nomatch z⟩
      generalize hh4 : h3.update D (Obj.mapSeq fun _ => (#[] : Array Value)) = h4 at ho1 I4
      have hz4 : h4.objs.size = h3.objs.size := by rw [← hh4, Heap.size_update]
      refine wpAny_bind (seqEpoch_at (s := { s2 with heap := h4 }) ho1 rfl ?_)
      refine wpAny_bind (wpAny_newTuple ?_ (by rw [sizeLine_eq]; simpa using (by omega : its.length ≤ _)))
      refine wpAny_bind (wpAny_newList ?_ (Nat.zero_le _))
      refine wpAny_holding ?_
      have hkS : (h4.push (seqObj "tuple" its.toArray 0)).objs.size = h4.objs.size + 1 := size_push' ..
      have fk : FpOk X (pins2 ++ [(D, seqObj "list" #[] e1)]) H2 (h4.objs.size + 1) := I4.fpOk (Nat.le_succ _) (I4.hok.fresh (Nat.le_succ _))
      have hDk : h4.objs.size + 1 ≠ D := by omega
      have I5 : Inv X (pins2 ++ [(h4.objs.size + 1, seqObj "list" #[] 0), (D, seqObj "list" #[] e1)]) σ H2 { s2 with heap := (h4.push (seqObj "tuple" its.toArray 0)).push (seqObj "list" #[] 0) } := I4.newpin (s := { s2 with heap := h4 }) (t' := s2.toks) (fun b o e => Heap.get?_push_of_some _ (Heap.get?_push_of_some _ e)) fun p hp => by
        rcases List.mem_append.mp hp with hp | hp
        · exact .inl (List.mem_append_left _ hp)
        · rcases List.mem_cons.mp hp with rfl | hp
          · exact .inr ⟨Nat.le_succ _, by rw [← hkS]; exact Heap.get?_push_size _ rfl, fun v z => nomatch z⟩
          · exact .inl (List.mem_append_right _ hp)
      show wpAny _ _ (ksk_rest D (.ref f) false its.toArray e1 (.ref (h4.push (seqObj "tuple" its.toArray 0)).objs.size)) _ _ { s2 with heap := (h4.push (seqObj "tuple" its.toArray 0)).push (seqObj "list" #[] 0) }
      rw [hkS]
      have hpk : ∀ p ∈ pins2, p.1 ≠ h4.objs.size + 1 := fun p hp => fk.2.2.2.2.2 p (List.mem_append_right _ (List.mem_append_left _ hp))
      have fk0 : FpOk X [] H2 (h4.objs.size + 1) := fk.repin fun p hp => absurd hp (by simp)
      refine sk_rest (kz := ks) (vs := its) I5 fk0 fD0 hDk hpk hpD (by omega) (by omega) (fun j v k hv hk s6 own I6 => ?_) fun s7 out c7 I7 ho7 => ?_
      · obtain ⟨y, hy, ry⟩ : ∃ y, xs[j]? = some y ∧ RelV y v := by
          have hj : j < xs.length := by
            have := (List.getElem?_eq_some_iff.mp hv).1
            omega
          obtain ⟨u, hu, ru⟩ := rv.get (x := xs[j]) (i := j) (by simp [hj])
          rw [hv] at hu
          cases hu
          exact ⟨xs[j], by simp [hj], ru⟩
        have hf6 := (I6.pin (f, PySem.W.kla_obj "<lambda>" qual params body scope (cloFrom X.env.cells scope.names []) pm c' ctv) (by rw [← hpins]; simp)).1
        have hc6 : s6.heap.CodeRec (.ref c') qual := (I6.hok c' _ hc').1
        refine wpAny_mono (lam_call (E := fun _ _ => False) I6 hN ok I.ok.frames (I.ok.hd hc) (by have := hr.dp; show X.A.depth < _; omega) hf6 hc6 (hbind _ _ _ _ _) ry hb (qk j y k hy hk)) (fun r s8 hq => ?_) fun _ _ z => z
        obtain ⟨w, H8, I8, rw8, rfl, rfl⟩ := hq
        exact ⟨I8, rw8⟩
      · refine ⟨_, rfl, ?_⟩
        obtain ⟨ys, hby, ry⟩ := ByKey.of ho7 rv
        have hly : ys.length = xs.length := by
          obtain ⟨ps, h1, h2, _⟩ := hby
          rw [h2, List.length_map, h1.length_eq, List.length_zip, hkl, Nat.min_self]
        have g7 := (I7.pin (D, seqObj "list" out c7) (by simp)).1
        have I8 : Inv X pins2 σ H2 s7 := I7.unpinned
        have I9 : Inv X pins2 σ (upd H2 D (.lst ys)) s7 := I8.adopt fD ⟨by rw [hly, sizeLine_eq]; omega, out.toList, c7, ry, by simpa using g7⟩
        have I10 : Inv X pins σ (upd H2 D (.lst ys)) s7 := by
          rw [← hpins] at I9
          exact I9.unpinned
        exact wpAny_pure ⟨_, rfl, ⟨.ref D, _, I10, rfl, qr D ys (fD.1) hby hly⟩⟩
end
end L2

set_option Elab.async false
set_option linter.all false
set_option maxRecDepth 100000
set_option maxHeartbeats 4000000
namespace L2
open PySem PySem.Spec PyProof.Rows
theorem wpAny_alive {M : Model} {A : Around} {E : Value → Shared → Prop} {s : Shared} {a : Addr} {o : Obj} {Q : Option Obj → Shared → Prop} (ho : s.heap.get? a = some o) (h : Q (some o) s) : wpAny M A (loadIfAlive a) Q E s := fun Γ p hΓ => by
  unfold loadIfAlive
  rw [Sem.wp_loadIfAlive, ho]
  exact (wpAny_pure (M := M) (A := A) (E := E) (Q := Q) (a := some o) (s := s) h) Γ p hΓ
def EnSt (h : Heap) (e it : Addr) (k : Int) : Prop := ∃ f0 f1 old, h.get? e = some { cls := .type "enumerate", dict := none, data := .fields #[f0, f1, .ref it, rawInt k, .none, old], slots := #[] } ∧ (f0 = .none ∨ ∃ (T : Addr) (o : Obj), f0 = rawInt (T : Int) ∧ h.get? T = some o ∧ T ≠ e ∧ T ≠ it)
theorem EnSt.at {h h' : Heap} {e it : Addr} {k : Int} (x : EnSt h e it k) (k1 : ∀ o, h.get? e = some o → h'.get? e = some o) (k2 : ∀ b o, b ≠ e → b ≠ it → h.get? b = some o → ∃ o', h'.get? b = some o') : EnSt h' e it k := by
  obtain ⟨f0, f1, old, e1, e2⟩ := x
  refine ⟨f0, f1, old, k1 _ e1, ?_⟩
  rcases e2 with e2 | ⟨T, o, a, b, c, d⟩
  · exact .inl e2
  · obtain ⟨o', q⟩ := k2 T o c d b
    exact .inr ⟨T, o', a, q, c, d⟩
section
variable {prog : Program} {w : World} {A : Around} {E : Value → Shared → Prop} {s : Shared}
theorem enst_next {e it l : Addr} {i : Nat} {k : Int} {items : Array Value} {x : Value} {Q : Value → Shared → Prop} (he : EnSt s.heap e it k) (hit : s.heap.IsListIter it l i) (hl : s.heap.IsList l items) (hx : items[i]? = some x) (hne : e ≠ it)
    (hQ : ∀ h' tk, EnSt h' e it (k + 1) → h'.IsListIter it l (i + 1) → h'.get? s.heap.objs.size = some { cls := .type "tuple", data := .seq #[.int k tk, x] } → h'.objs.size = s.heap.objs.size + 1 →
      (∀ b o, b ≠ e → b ≠ it → s.heap.get? b = some o → h'.get? b = some o) → Q (.ref s.heap.objs.size) { s with heap := h', toks := tk + 1 }) :
    wpAny (model prog w) A (Builtin.«enumerate.__next__» ⟨[.ref e], []⟩) (fun fin s' => ∃ v, fin = .done (.ret v) ∧ Q v s') E s := by
  obtain ⟨hp, g, d, tk, os⟩ := s
  obtain ⟨f0, f1, old, he, hf⟩ := he
  have hel : e < hp.objs.size := Heap.lt_size he
  have hil : it < hp.objs.size := by obtain ⟨_, q, _⟩ := hit; exact Heap.lt_size q
  show wpAny _ _ (field (.ref e) 2 >>= _) _ _ _
  refine wpAny_bind (wpAny_field he rfl (x := .ref it) rfl ?_)
  refine wpAny_bind (wpAny_nextOf_list_item hit hl hx fun h₁ hit₁ hs₁ => ?_)
  replace hs₁ : Heap.SameBut it hp h₁ := hs₁
  have he₁ := (hs₁.2 e hne).trans he
  show wpAny _ _ (field (.ref e) 3 >>= _) _ _ ⟨h₁, g, d, tk, os⟩
  refine wpAny_bind (wpAny_field he₁ rfl (x := rawInt k) rfl ?_)
  show wpAny _ _ (field (.ref e) 4 >>= _) _ _ ⟨h₁, g, d, tk, os⟩
  refine wpAny_bind (wpAny_field he₁ rfl (x := .none) rfl ?_)
  show wpAny _ _ (mkInt k >>= _) _ _ ⟨h₁, g, d, tk, os⟩
  refine wpAny_bind (wpAny_mkInt ?_)
  show wpAny _ _ (setField (.ref e) 3 (rawInt (k + 1)) >>= _) _ _ ⟨h₁, g, d, tk + 1, os⟩
  refine wpAny_bind (wpAny_setField_rec he₁ (by simp) fun h₂ he₂ hs₂ => ?_)
  replace hs₂ : Heap.SameBut e h₁ h₂ := hs₂
  replace he₂ : h₂.get? e = some { cls := .type "enumerate", dict := none, data := .fields #[f0, f1, .ref it, rawInt (k + 1), .none, old], slots := #[] } := he₂
  show wpAny _ _ (setField (.ref e) 4 .none >>= _) _ _ ⟨h₂, g, d, tk + 1, os⟩
  refine wpAny_bind (wpAny_setField_rec he₂ (by simp) fun h₃ he₃ hs₃ => ?_)
  replace hs₃ : Heap.SameBut e h₂ h₃ := hs₃
  replace he₃ : h₃.get? e = some { cls := .type "enumerate", dict := none, data := .fields #[f0, f1, .ref it, rawInt (k + 1), .none, old], slots := #[] } := he₃
  show wpAny _ _ (newTuple [.int k tk, x] >>= _) _ _ ⟨h₃, g, d, tk + 1, os⟩
  refine wpAny_bind (wpAny_newTuple ?_)
  have he₄ := Heap.get?_push_of_some { cls := .type "tuple", data := .seq #[.int k tk, x] } he₃
  have hsz : h₃.objs.size = hp.objs.size := by rw [hs₃.1, hs₂.1, hs₁.1]
  have hk₃ : ∀ b o, b ≠ e → b ≠ it → hp.get? b = some o → h₃.get? b = some o := fun b o hbe hbi hb => hs₃.extBut b o hbe (hs₂.extBut b o hbe (hs₁.extBut b o hbi hb))
  have hit₃ : h₃.IsListIter it l (i + 1) := (hit₁.extBut hs₂.extBut (Ne.symm hne)).extBut hs₃.extBut (Ne.symm hne)
  have hit₄ : (h₃.push { cls := .type "tuple", data := .seq #[.int k tk, x] }).IsListIter it l (i + 1) := by
    obtain ⟨o, ho, r⟩ := hit₃
    exact ⟨o, Heap.get?_push_of_some _ ho, r⟩
  have hk₄ : ∀ b o, b ≠ e → b ≠ it → hp.get? b = some o → (h₃.push { cls := .type "tuple", data := .seq #[.int k tk, x] }).get? b = some o := fun b o hbe hbi hb => Heap.get?_push_of_some _ (hk₃ b o hbe hbi hb)
  have ht₄ : (h₃.push { cls := .type "tuple", data := .seq #[.int k tk, x] }).get? hp.objs.size = some { cls := .type "tuple", data := .seq #[.int k tk, x] } := by
    rw [← hsz]
    exact Heap.get?_push_size _ rfl
  have hz₄ : (h₃.push { cls := .type "tuple", data := .seq #[.int k tk, x] }).objs.size = hp.objs.size + 1 := by rw [Heap.size_push, hsz]
  show wpAny _ _ (Builtin.SmallTypes.ownedTupleIsFree (.ref e) >>= _) _ _ ⟨h₃.push { cls := .type "tuple", data := .seq #[.int k tk, x] }, g, d, tk + 1, os⟩
  rw [hsz]
  generalize h₃.push { cls := .type "tuple", data := .seq #[.int k tk, x] } = h₄ at he₄ hit₄ hk₄ ht₄ hz₄
  refine wpAny_bind ?_
  unfold Builtin.SmallTypes.ownedTupleIsFree
  refine wpAny_bind (wpAny_field he₄ rfl (x := f0) rfl ?_)
  rcases hf with rfl | ⟨T, oT, rfl, hT, hTe, hTi⟩
  · refine wpAny_pure ?_
    simp only [if_true]
    refine wpAny_bind (wpAny_rule ?_)
    refine wpAny_bind (wpAny_field he₄ rfl (x := old) rfl ?_)
    refine wpAny_bind (wpAny_setField_rec he₄ (by simp) fun h₅ he₅ hs₅ => ?_)
    replace hs₅ : Heap.SameBut e h₄ h₅ := hs₅
    refine wpAny_bind ?_
    unfold Builtin.SmallTypes.ownedTupleHandOut
    refine wpAny_bind (wpAny_setField_rec he₅ (by simp) fun h₆ he₆ hs₆ => ?_)
    replace hs₆ : Heap.SameBut e h₅ h₆ := hs₆
    refine wpAny_setField_rec he₆ (by simp) fun h₇ he₇ hs₇ => ?_
    replace hs₇ : Heap.SameBut e h₆ h₇ := hs₇
    have ht₇ := hs₇.extBut _ _ (Nat.ne_of_gt hel) (hs₆.extBut _ _ (Nat.ne_of_gt hel) (hs₅.extBut _ _ (Nat.ne_of_gt hel) ht₄))
    refine wpAny_bind (wpAny_letGo (wpAny_pure ⟨_, rfl, hQ h₇ tk ⟨rawInt (hp.objs.size : Int), .bool false, x, he₇, .inr ⟨hp.objs.size, _, rfl, ht₇, Nat.ne_of_gt hel, Nat.ne_of_gt hil⟩⟩ ?_ ht₇ ?_ ?_⟩))
    · exact ((hit₄.extBut hs₅.extBut (Ne.symm hne)).extBut hs₆.extBut (Ne.symm hne)).extBut hs₇.extBut (Ne.symm hne)
    · rw [hs₇.1, hs₆.1, hs₅.1, hz₄]
    · exact fun b o hbe hbi hb => hs₇.extBut b o hbe (hs₆.extBut b o hbe (hs₅.extBut b o hbe (hk₄ b o hbe hbi hb)))
  · have hT₄ := hk₄ T oT hTe hTi hT
    show wpAny _ _ (loadIfAlive ((T : Int).toNat) >>= _) _ _ _
    rw [Int.toNat_natCast]
    refine wpAny_bind (wpAny_alive hT₄ ?_)
    simp only [Option.isNone_some, Bool.false_eq_true, if_false]
    refine wpAny_bind (wpAny_field he₄ rfl (x := f1) rfl ?_)
    by_cases hf1 : (f1 != .bool true) = true
    · rw [if_pos hf1]
      refine wpAny_bind (wpAny_setField_rec he₄ (by simp) fun h₅ he₅ hs₅ => ?_)
      replace hs₅ : Heap.SameBut e h₄ h₅ := hs₅
      refine wpAny_pure ?_
      simp only [Bool.false_eq_true, if_false]
      refine wpAny_pure ⟨_, rfl, hQ h₅ tk ⟨rawInt (T : Int), .bool true, old, he₅, .inr ⟨T, oT, rfl, hs₅.extBut _ _ hTe hT₄, hTe, hTi⟩⟩ (hit₄.extBut hs₅.extBut (Ne.symm hne)) (hs₅.extBut _ _ (Nat.ne_of_gt hel) ht₄) (by rw [hs₅.1, hz₄]) fun b o hbe hbi hb => hs₅.extBut b o hbe (hk₄ b o hbe hbi hb)⟩
    · rw [if_neg hf1]
      refine wpAny_pure ?_
      simp only [Bool.false_eq_true, if_false]
      exact wpAny_pure ⟨_, rfl, hQ h₄ tk ⟨rawInt (T : Int), f1, old, he₄, .inr ⟨T, oT, rfl, hT₄, hTe, hTi⟩⟩ hit₄ ht₄ hz₄ hk₄⟩
theorem enst_pyNext {e it l : Addr} {i : Nat} {k : Int} {items : Array Value} {x : Value} {Q : Option Value → Shared → Prop} (he : EnSt s.heap e it k) (hit : s.heap.IsListIter it l i) (hl : s.heap.IsList l items) (hx : items[i]? = some x) (hne : e ≠ it)
    (hQ : ∀ h' tk, EnSt h' e it (k + 1) → h'.IsListIter it l (i + 1) → h'.get? s.heap.objs.size = some { cls := .type "tuple", data := .seq #[.int k tk, x] } → h'.objs.size = s.heap.objs.size + 1 →
      (∀ b o, b ≠ e → b ≠ it → s.heap.get? b = some o → h'.get? b = some o) → Q (some (.ref s.heap.objs.size)) { s with heap := h', toks := tk + 1 }) :
    wpAny (model prog w) A (pyNext (.ref e)) Q E s := by
  obtain ⟨f0, f1, old, he', hf⟩ := id he
  have hT : s.TypeIs (.ref e) "enumerate" := ⟨_, he', rfl⟩
  unfold pyNext
  refine wpAny_bind (wpAny_attempt (wpAny_callSpecial?_slot (name := Str.ofString "__next__") hT F.slot_enumerate_next ?_))
  exact wpAny_call_entry F.slot_enumerate_next hT F.entry_enumerate_next (enst_next he hit hl hx hne fun h' tk a b c d q => wpAny_pure (hQ h' tk a b c d q)) (F.args_enumerate_next_1 _)
theorem enst_end {e it l : Addr} {i : Nat} {k : Int} {items : Array Value} {Q : Option Value → Shared → Prop} (hh : A.handled = none) (he : EnSt s.heap e it k) (hit : s.heap.IsListIter it l i) (hl : s.heap.IsList l items) (hx : items[i]? = none)
    (hQ : ∀ h', Heap.ExtBut it s.heap h' → Q none { s with heap := h' }) : wpAny (model prog w) A (pyNext (.ref e)) Q E s := by
  obtain ⟨f0, f1, old, he', hf⟩ := id he
  have hT : s.TypeIs (.ref e) "enumerate" := ⟨_, he', rfl⟩
  unfold pyNext
  refine wpAny_bind (wpAny_attempt (wpAny_callSpecial?_slot (name := Str.ofString "__next__") hT F.slot_enumerate_next ?_))
  refine wpAny_call_entry F.slot_enumerate_next hT F.entry_enumerate_next ?_ (F.args_enumerate_next_1 _)
  show wpAny _ _ (field (.ref e) 2 >>= _) _ _ _
  refine wpAny_bind (wpAny_field he' rfl (x := .ref it) rfl ?_)
  refine wpAny_bind (wpAny_nextOf_list_end hh hit hl hx fun h' x e1 hx' => ?_)
  obtain ⟨o, ho, hc⟩ := hx'
  refine wpAny_bind (wpAny_isInstance (T := "StopIteration") (b := true) ⟨o, ho, hc⟩ isSubtype_stop ?_)
  exact wpAny_pure (hQ _ e1)
end
end L2

set_option Elab.async false
set_option linter.all false
set_option maxRecDepth 100000
set_option maxHeartbeats 4000000
namespace L2
open PySem PySem.Spec PyProof.Rows PySem.W
theorem enum_nolen : typeLookup (.type "enumerate") "__len__" = pure none := by kernel_rfl
theorem enum_nohint : typeLookup (.type "enumerate") "__length_hint__" = pure none := by kernel_rfl
section
variable {prog : Program} {w : World} {A : Around} {E : Value → Shared → Prop} {s : Shared}
theorem hint_enum {e : Addr} {Q : Bool → Shared → Prop} (hT : s.TypeIs (.ref e) "enumerate") (h : Q true s) : wpAny (model prog w) A (Builtin.List.listLengthHint (.ref e)) Q E s := by
  unfold Builtin.List.listLengthHint
  have h1 := enum_nolen
  have h2 := enum_nohint
  wp_walk using wpAny_typeOf hT
  exact h
end
end L2

set_option Elab.async false
set_option linter.all false
set_option maxRecDepth 100000
set_option maxHeartbeats 4000000
namespace L2
open PySem PySem.Spec PyProof.Rows PySem.W
def TupsAt (H1 H2 : Hp) (k : Int) (xs : List V) (Ts : List Addr) : Prop := ∀ (j : Nat) (T : Addr), Ts[j]? = some T → H1 T = none ∧ ∃ x, xs[j]? = some x ∧ H2 T = some (.tup [.int (k + j), x])
section
variable {X : Cx} {pins : List (Addr × Obj)} {σ : St} {H : Hp} {A : Around} {R : Result → Shared → Prop} {S e it a : Addr} {k : Int} {xs : List V} {res : Value}
theorem le_loop (hh : A.handled = none) (hne : e ≠ it) (hSe : S ≠ e) (hSi : S ≠ it) (hS0 : SqL X.K H a xs) (hpe : ∀ p ∈ pins, p.1 ≠ e) (hpi : ∀ p ∈ pins, p.1 ≠ it) (hpS : ∀ p ∈ pins, p.1 ≠ S)
    (hR : ∀ s' H' Ts acc c, Inv X (pins ++ [(S, seqObj "list" acc c)]) σ H' s' → Same H H' → Ts.length = xs.length → TupsAt H H' k xs Ts → Vals (Ts.map V.ref) acc.toList → FpOk X pins H' S → R (.ok (.ret res)) s') :
    ∀ (m i : Nat) (s : Shared) (H' : Hp) (Ts : List Addr) (acc : Array Value) (c : Nat), i + m = xs.length → Inv X (pins ++ [(S, seqObj "list" acc c)]) σ H' s → EnSt s.heap e it (k + i) → s.heap.IsListIter it a i → Same H H' → Ts.length = i → TupsAt H H' k xs Ts → Vals (Ts.map V.ref) acc.toList →
      FpOk X [] H' e → FpOk X [] H' it → FpOk X [] H' S → codeAny (model X.prog X.w) A (.builtin "list.extend.loop" ⟨[.ref S, .ref e, res], []⟩) R s := by
  intro m
  induction m with
  | zero =>
    intro i s H' Ts acc c him I en hit sm hl ht hv fe fi fS
    have hi : i = xs.length := by omega
    have hq : SqL X.K H' a xs := sm.seq hS0
    obtain ⟨its, rv, p, hz⟩ := I.list hq
    have hlen := rv.length
    refine codeAny_builtin F.entry_extend_loop ?_
    rw [Around.under_plainId F.plain_extend_loop _]
    show wpAny _ A.in1 (pyNext (.ref e) >>= _) _ _ s
    refine wpAny_bind (enst_end hh en hit p.isList (by simp; omega) fun h' eb => ?_)
    have fi' : FpOk X (pins ++ [(S, seqObj "list" acc c)]) H' it := fi.repin fun p hp => by
      rcases List.mem_append.mp hp with hp | hp
      · exact hpi p hp
      · obtain rfl := List.mem_singleton.mp hp
        exact hSi
    obtain ⟨f0, f1, f2, f3, f4, f5⟩ := fi'
    have I2 : Inv X (pins ++ [(S, seqObj "list" acc c)]) σ H' { s with heap := h' } := I.turned (t' := s.toks) (fun b o hb q => eb b o hb q) f0 f1 f3 f4 f5
    exact wpAny_pure (hR _ H' Ts acc c I2 sm (by omega) ht hv (fS.repin hpS))
  | succ m ih =>
    intro i s H' Ts acc c him I en hit sm hl ht hv fe fi fS
    have hi : i < xs.length := by omega
    have hq : SqL X.K H' a xs := sm.seq hS0
    obtain ⟨its, rv, p, hz⟩ := I.list hq
    have hlen := rv.length
    obtain ⟨u, hu, ru⟩ := rv.get (x := xs[i]) (i := i) (by simp [hi])
    refine codeAny_builtin F.entry_extend_loop ?_
    rw [Around.under_plainId F.plain_extend_loop _]
    show wpAny _ A.in1 (pyNext (.ref e) >>= _) _ _ s
    have fe' : FpOk X (pins ++ [(S, seqObj "list" acc c)]) H' e := fe.repin fun p hp => by
      rcases List.mem_append.mp hp with hp | hp
      · exact hpe p hp
      · obtain rfl := List.mem_singleton.mp hp
        exact hSe
    have fi' : FpOk X (pins ++ [(S, seqObj "list" acc c)]) H' it := fi.repin fun p hp => by
      rcases List.mem_append.mp hp with hp | hp
      · exact hpi p hp
      · obtain rfl := List.mem_singleton.mp hp
        exact hSi
    refine wpAny_bind (enst_pyNext en hit p.isList (x := u) (by simpa using hu) hne fun h' tk en' hit' hT hsz hk => ?_)
    have hTn : H' s.heap.objs.size = none := I.hok.fresh (Nat.le_refl _)
    have new : ObjOk X.prog X.w (upd H' s.heap.objs.size (.tup [.int (k + i), xs[i]])) h' s.heap.objs.size (.tup [.int (k + i), xs[i]]) :=
      ⟨by show 2 ≤ sizeLine; decide, [.int (k + i) tk, u], .cons ⟨_, rfl⟩ (.cons ru .nil), ⟨_, hT, rfl, _, rfl⟩⟩
    have I1 : Inv X (pins ++ [(S, seqObj "list" acc c)]) σ (upd H' s.heap.objs.size (.tup [.int (k + i), xs[i]])) { s with heap := h', toks := tk + 1 } :=
      I.turnedNew (ch := [e, it]) (fun b ob hb q => hk b ob (fun z => hb (by simp [z])) (fun z => hb (by simp [z])) q) (fun b hb => by
        rcases List.mem_cons.mp hb with rfl | hb
        · exact fe'
        · obtain rfl := List.mem_singleton.mp hb
          exact fi') (Nat.le_refl _) new
    have gS := (I1.pin (S, seqObj "list" acc c) (by simp)).1
    have hacc : acc.size = i := by
      have e9 : (Ts.map V.ref).length = acc.toList.length := hv.length
      simp only [List.length_map, Array.length_toList] at e9
      omega
    have lt : ∀ {b : Addr}, FpOk X [] H' b → b < s.heap.objs.size → FpOk X [] (upd H' s.heap.objs.size (.tup [.int (k + i), xs[i]])) b := fun {b} f hb => ⟨by rw [upd_ne (Nat.ne_of_lt hb)]; exact f.1, f.2⟩
    have hel : e < s.heap.objs.size := by
      obtain ⟨_, _, _, q, _⟩ := en
      exact Heap.lt_size q
    have hil : it < s.heap.objs.size := by
      obtain ⟨_, q, _⟩ := hit
      exact Heap.lt_size q
    have hSl : S < s.heap.objs.size := Heap.lt_size (I.pin (S, seqObj "list" acc c) (by simp)).1
    show wpAny _ A.in1 (updateSeq S (·.push (.ref s.heap.objs.size)) >>= _) _ _ _
    refine wpAny_bind (wpAny_updateSeq gS rfl ?_ (by rw [hacc]; omega) (by show (acc.push _).size ≤ sizeLine + 1; rw [Array.size_push, hacc]; omega))
    have u1 := Heap.SameBut.update h' S (Obj.mapSeq (·.push (Value.ref s.heap.objs.size)))
    obtain ⟨c2, hc2⟩ : ∃ c2, (h'.update S (Obj.mapSeq (·.push (Value.ref s.heap.objs.size)))).get? S = some (seqObj "list" (acc.push (.ref s.heap.objs.size)) c2) := ⟨_, get?_update_seq gS (·.push (Value.ref s.heap.objs.size))⟩
    have I2 : Inv X (pins ++ [(S, seqObj "list" (acc.push (.ref s.heap.objs.size)) c2)]) σ (upd H' s.heap.objs.size (.tup [.int (k + i), xs[i]])) { s with heap := h'.update S (Obj.mapSeq (·.push (Value.ref s.heap.objs.size))), toks := tk + 1 } :=
      I1.chpin (s := { s with heap := h', toks := tk + 1 }) (t' := tk + 1) (lt fS hSl) u1 fun p hp => by
        rcases List.mem_append.mp hp with hp | hp
        · exact .inl ⟨List.mem_append_left _ hp, hpS p hp⟩
        · obtain rfl := List.mem_singleton.mp hp
          exact .inr ⟨rfl, hc2, fun v z => nomatch z⟩
    refine wpAny_pure ⟨plainId_quiet F.plain_extend_loop _, ih (i + 1) _ _ (Ts ++ [s.heap.objs.size]) (acc.push (.ref s.heap.objs.size)) c2 (by omega) I2 ?_ ?_ ?_ ?_ ?_ ?_ (lt fe hel) (lt fi hil) (lt fS hSl)⟩
    · have e1 : k + ((i + 1 : Nat) : Int) = k + i + 1 := by omega
      rw [e1]
      exact en'.at (fun o q => (u1.2 e (Ne.symm hSe)).trans q) fun b o _ _ q => by
        by_cases hb : b = S
        · exact ⟨_, by rw [hb]; exact hc2⟩
        · exact ⟨o, (u1.2 b hb).trans q⟩
    · exact hit'.at fun o q => (u1.2 it (Ne.symm hSi)).trans q
    · intro b o q
      have q' := sm b o q
      rw [upd_ne (ne_of_none q' hTn)]
      exact q'
    · rw [List.length_append, hl]
      rfl
    · intro j T hj
      by_cases hji : j < Ts.length
      · rw [List.getElem?_append_left hji] at hj
        obtain ⟨h1, x, h2, h3⟩ := ht j T hj
        exact ⟨h1, x, h2, by rw [upd_ne (ne_of_none h3 hTn)]; exact h3⟩
      · rw [List.getElem?_append_right (by omega)] at hj
        have ej : j - Ts.length = 0 := by
          have := (List.getElem?_eq_some_iff.mp hj).1
          simp at this
          omega
        rw [ej] at hj
        have eT : T = s.heap.objs.size := by simpa using hj.symm
        have ej' : j = i := by omega
        subst eT ej'
        refine ⟨?_, xs[j], by simp [hi], upd_same⟩
        cases q : H s.heap.objs.size with
        | none => rfl
        | some o =>
          have q2 := sm _ _ q
          rw [hTn] at q2
          cases q2
    · rw [List.map_append]
      have e1 : (acc.push (Value.ref s.heap.objs.size)).toList = acc.toList ++ [Value.ref s.heap.objs.size] := by simp
      rw [e1]
      exact hv.append (.cons rfl .nil)
end
end L2

set_option Elab.async false
set_option linter.all false
set_option maxRecDepth 100000
set_option maxHeartbeats 4000000
namespace L2
open PySem PySem.Spec PyProof.Rows PySem.W
section
variable {X : Cx} {pins : List (Addr × Obj)} {σ : St} {H : Hp} {s : Shared} {e it a : Addr} {k : Int} {xs : List V} {Q : VK}
theorem list_enum (I : Inv X pins σ H s) (hc : X.calm = true) (en : ∃ old, IsEnum s.heap e it k old) (hit : s.heap.IsListIter it a 0) (fe : FpOk X pins H e) (fi : FpOk X pins H it) (hne : e ≠ it) (hS : SqL X.K H a xs)
    (h : ∀ H' D Ts, Same H H' → Ts.length = xs.length → TupsAt H H' k xs Ts → H' D = some (.lst (Ts.map V.ref)) → H D = none → Q (.ref D) H') :
    wpAny (model X.prog X.w) X.A (call (.type "list") [.ref e]) (EP X pins σ Q) X.xe s := by
  obtain ⟨old, en⟩ := en
  obtain ⟨its0, rv0, p0, hz0⟩ := I.list hS
  have hpe : ∀ p ∈ pins, p.1 ≠ e := fun p hp => fe.2.2.2.2.2 p (List.mem_append_right _ hp)
  have hpi : ∀ p ∈ pins, p.1 ≠ it := fun p hp => fi.2.2.2.2.2 p (List.mem_append_right _ hp)
  refine callType_codes (Q₁ := fun obj s₁ => obj = .ref s.heap.objs.size ∧ s₁ = { s with heap := s.heap.push { cls := .type "list", data := .seq #[] } }) PySem.F.called_list (PySem.F.typeCall_list_1 _) PySem.F.entry_list_init
    (code_list_new _ ⟨rfl, rfl⟩) fun obj s₁ h₁ => ?_
  obtain ⟨rfl, rfl⟩ := h₁
  generalize hSd : s.heap.objs.size = S
  have hSlt : ∀ {b o}, s.heap.get? b = some o → b ≠ S := fun {b o} q => by rw [← hSd]; exact Nat.ne_of_lt (Heap.lt_size q)
  have hSe : S ≠ e := fun z => hSlt (show s.heap.get? e = _ from en) z.symm
  have hSi : S ≠ it := fun z => by
    obtain ⟨o, q, _⟩ := hit
    exact hSlt q z.symm
  have hS0 : (s.heap.push { cls := .type "list", data := .seq #[] }).get? S = some { cls := .type "list", data := .seq #[] } := by rw [← hSd]; exact Heap.get?_push_size _ rfl
  have fS : FpOk X pins H S := I.fpOk (Nat.le_of_eq hSd) (I.hok.fresh (Nat.le_of_eq hSd))
  have hpS : ∀ p ∈ pins, p.1 ≠ S := fun p hp => fS.2.2.2.2.2 p (List.mem_append_right _ hp)
  have no : ∀ p ∈ ([] : List (Addr × Obj)), p.1 ≠ e := fun p hp => absurd hp (by simp)
  have I1 : Inv X (pins ++ [(S, seqObj "list" #[] 0)]) σ H { s with heap := s.heap.push { cls := .type "list", data := .seq #[] } } := I.newpin (t' := s.toks) (fun b o q => Heap.get?_push_of_some _ q) fun p hp => by
    rcases List.mem_append.mp hp with hp | hp
    · exact .inl hp
    · obtain rfl := List.mem_singleton.mp hp
      exact .inr ⟨Nat.le_of_eq hSd, hS0, fun v z => nomatch z⟩
  refine ⟨⟨_, hS0, rfl⟩, PySem.F.args_list_init_2 _ _, ?_⟩
  show wpAny _ _ (do let old ← Builtin.List.listItems (.ref S); Builtin.List.listUpdate (.ref S) (fun _ => #[]); letGo old.toList.reverse; Builtin.List.listExtendWith (.ref S) (.ref e) .none) _ _ _
  refine wpAny_bind (listItems_at (s := { s with heap := s.heap.push { cls := .type "list", data := .seq #[] } }) hS0 rfl ?_)
  refine wpAny_bind (listUpdate_at (s := { s with heap := s.heap.push { cls := .type "list", data := .seq #[] } }) hS0 rfl ?_ (Nat.zero_le _) (Nat.zero_le _))
  have u1 := Heap.SameBut.update (s.heap.push { cls := .type "list", data := .seq #[] }) S (Obj.mapSeq fun _ => (#[] : Array Value))
  obtain ⟨c1, hc1⟩ : ∃ c1, ((s.heap.push { cls := .type "list", data := .seq #[] }).update S (Obj.mapSeq fun _ => (#[] : Array Value))).get? S = some (seqObj "list" #[] c1) := ⟨_, get?_update_seq hS0 fun _ => #[]⟩
  refine wpAny_bind (wpAny_letGo ?_)
  have I2 : Inv X (pins ++ [(S, seqObj "list" #[] c1)]) σ H { s with heap := (s.heap.push { cls := .type "list", data := .seq #[] }).update S (Obj.mapSeq fun _ => (#[] : Array Value)) } := I1.chpin (s := { s with heap := s.heap.push { cls := .type "list", data := .seq #[] } }) (t' := s.toks) (fS.repin fun p hp => absurd hp (by simp)) u1 fun p hp => by
    rcases List.mem_append.mp hp with hp | hp
    · exact .inl ⟨List.mem_append_left _ hp, hpS p hp⟩
    · obtain rfl := List.mem_singleton.mp hp
      exact .inr ⟨rfl, hc1, fun v z => nomatch z⟩
  have keep2 : ∀ b o, b ≠ S → s.heap.get? b = some o → ((s.heap.push { cls := .type "list", data := .seq #[] }).update S (Obj.mapSeq fun _ => (#[] : Array Value))).get? b = some o := fun b o hb q => (u1.2 b hb).trans (Heap.get?_push_of_some _ q)
  generalize (s.heap.push { cls := .type "list", data := .seq #[] }).update S (Obj.mapSeq fun _ => (#[] : Array Value)) = h2 at I2 hc1 keep2
  have en2 : IsEnum h2 e it k old := keep2 e _ (Ne.symm hSe) en
  have hT2 : ({ s with heap := h2 } : Shared).TypeIs (.ref e) "enumerate" := ⟨_, en2, rfl⟩
  unfold Builtin.List.listExtendWith
  refine wpAny_bind (wpAny_typeOf (T := "enumerate") hT2 ?_)
  have h1 : Builtin.List.listSameRef (.ref S) (.ref e) = false := by simp [Builtin.List.listSameRef, hSe]
  have h3 : (Value.type "enumerate" == Value.type "list") = false := by decide
  have h4 : (Value.type "enumerate" == Value.type "tuple") = false := by decide
  simp only [h1, h3, h4, Bool.or_false, Bool.false_eq_true, if_false]
  refine wpAny_bind (wpAny_pyIter_enum (s := { s with heap := h2 }) en2 ?_)
  refine wpAny_bind (wpAny_holding (hint_enum hT2 ?_))
  refine wpAny_ite_split (fun _ => ?_) (fun hab => absurd (by simp) hab)
  refine wpAny_bind (wpAny_rule ?_)
  refine wpAny_bind ?_
  show wpAny _ _ (updateSeq S (·.push .none) >>= fun _ => updateSeq S (·.pop)) _ _ _
  refine wpAny_bind (wpAny_updateSeq (s := { s with heap := h2 }) hc1 rfl ?_)
  have u3 := Heap.SameBut.update h2 S (Obj.mapSeq (·.push Value.none))
  obtain ⟨c3, hc3⟩ : ∃ c3, (h2.update S (Obj.mapSeq (·.push Value.none))).get? S = some (seqObj "list" (#[].push Value.none) c3) := ⟨_, get?_update_seq hc1 (·.push Value.none)⟩
  refine wpAny_updateSeq (s := { s with heap := h2.update S (Obj.mapSeq (·.push Value.none)) }) (hz := by seq_fits) hc3 rfl ?_
  have u4 := Heap.SameBut.update (h2.update S (Obj.mapSeq (·.push Value.none))) S (Obj.mapSeq (·.pop))
  obtain ⟨c4, hc4⟩ : ∃ c4, ((h2.update S (Obj.mapSeq (·.push Value.none))).update S (Obj.mapSeq (·.pop))).get? S = some (seqObj "list" #[] c4) := ⟨_, get?_update_seq hc3 (·.pop)⟩
  have u34 : Heap.SameBut S h2 ((h2.update S (Obj.mapSeq (·.push Value.none))).update S (Obj.mapSeq (·.pop))) := ⟨u4.1.trans u3.1, fun b hb => (u4.2 b hb).trans (u3.2 b hb)⟩
  have I4 : Inv X (pins ++ [(S, seqObj "list" #[] c4)]) σ H { s with heap := (h2.update S (Obj.mapSeq (·.push Value.none))).update S (Obj.mapSeq (·.pop)) } := I2.chpin (s := { s with heap := h2 }) (t' := s.toks) (fS.repin fun p hp => absurd hp (by simp)) u34 fun p hp => by
    rcases List.mem_append.mp hp with hp | hp
    · exact .inl ⟨List.mem_append_left _ hp, hpS p hp⟩
    · obtain rfl := List.mem_singleton.mp hp
      exact .inr ⟨rfl, hc4, fun v z => nomatch z⟩
  have keep4 : ∀ b o, b ≠ S → s.heap.get? b = some o → ((h2.update S (Obj.mapSeq (·.push Value.none))).update S (Obj.mapSeq (·.pop))).get? b = some o := fun b o hb q => (u34.2 b hb).trans (keep2 b o hb q)
  generalize (h2.update S (Obj.mapSeq (·.push Value.none))).update S (Obj.mapSeq (·.pop)) = h5 at I4 hc4 keep4
  have en5 : IsEnum h5 e it k old := keep4 e _ (Ne.symm hSe) en
  refine wpAny_pure ⟨plainId_quiet F.plain_extend_loop _, ?_⟩
  refine le_loop (A := X.A.in1) (X := X) (H := H) (k := k) (a := a) (xs := xs) (it := it) (pins := pins) (σ := σ) (I.ok.hd hc) hne hSe hSi hS hpe hpi hpS (fun s' H' Ts acc c I' sm hl ht hv fS' => ?_) xs.length 0 _ H [] #[] c4 (by omega) I4 ⟨.none, .bool false, old, by simpa using en5, .inl rfl⟩ (hit.at fun o q => keep4 it o (Ne.symm hSi) q) (fun b o q => q) rfl (fun j T hj => by simp at hj) .nil (fe.repin fun p hp => absurd hp (by simp)) (fi.repin fun p hp => absurd hp (by simp)) (fS.repin fun p hp => absurd hp (by simp))
  have g := (I'.pin (S, seqObj "list" acc c) (by simp)).1
  have I6 : Inv X pins σ H' s' := I'.unpinned
  have I7 : Inv X pins σ (upd H' S (.lst (Ts.map V.ref))) s' := I6.adopt fS' ⟨by rw [List.length_map, hl]; exact hz0, acc.toList, c, hv, by simpa using g⟩
  have sm2 : Same H (upd H' S (.lst (Ts.map V.ref))) := fun b o q => by
    have q' := sm b o q
    rw [upd_ne (ne_of_none q' fS'.1)]
    exact q'
  refine ⟨rfl, ⟨.ref S, _, I7, rfl, h _ S Ts sm2 hl (fun j T hj => ?_) upd_same fS.1⟩⟩
  obtain ⟨h6, x, h7, h8⟩ := ht j T hj
  exact ⟨h6, x, h7, by rw [upd_ne (ne_of_none h8 fS'.1)]; exact h8⟩
end
def tListEnum (K : PySem.W.Frag) (k : Int) (te : TE) : TE := fun σ H Q => te σ H fun x H1 => ∃ (a : Addr) (xs : List V), x = .ref a ∧ SqL K H1 a xs ∧
  ∀ H' D Ts, Same H1 H' → Ts.length = xs.length → TupsAt H1 H' k xs Ts → H' D = some (.lst (Ts.map V.ref)) → H1 D = none → Q (.ref D) H'
section
variable {X : Cx} {e : Expr} {te : TE} {p p2 pos pos2 kpos cpos : Pos} {j : Nat}
theorem pe_listEnum (hc : X.calm = true) (hgl : Gl X "list") (hml : X.mg "list" = none) (hge : Gl X "enumerate") (hme : X.mg "enumerate" = none) (he : PE X e te) (hs : starEach [e] X.env = [(false, eval e X.env)] := by rfl)
    (hs2 : starEach [.Call (.Name "enumerate" p2) [e] [] pos2] X.env = [(false, eval (.Call (.Name "enumerate" p2) [e] [] pos2) X.env)] := by rfl) :
    PE X (.Call (.Name "list" p) [.Call (.Name "enumerate" p2) [e] [] pos2] [] pos) (tListEnum X.K 0 te) := by
  intro pins s σ H Q I h
  refine wpAny_Call_Name_kw (ld_blt I hgl hml (show bootBuiltins "list" = some (.type "list") by decide +kernel) ?_)
  refine PyProof.Rows.callWith_type1 ?_ (by rw [hs2]; rfl) rfl
  rw [hs2]
  refine Calls.spliced_cons (Call_ (ld_blt I hge hme boot_enumerate (PyProof.Rows.callWith_type1 ?_ (by rw [hs]; rfl) rfl)))
  rw [hs]
  refine Calls.spliced_cons (thn (he pins s σ H _ I h) fun u s1 ⟨x, H1, I1, r1, a, xs, ex, hS, q⟩ => Calls.spliced_nil ?_)
  subst ex
  cases r1
  obtain ⟨its, rv, p', hz⟩ := I1.list hS
  refine call_enumerate_list p'.isList fun h' he' hit hsz hk => Calls.spliced_nil ?_
  have I2 : Inv X pins σ H1 { s1 with heap := h' } := I1.kept (t' := s1.toks) hk
  exact list_enum I2 hc ⟨_, he'⟩ hit (I1.fpOk (Nat.le_succ _) (I1.hok.fresh (Nat.le_succ _))) (I1.fpOk (Nat.le_refl _) (I1.hok.fresh (Nat.le_refl _))) (Nat.succ_ne_self _) hS q
end
end L2

set_option Elab.async false
set_option linter.all false
set_option maxRecDepth 100000
set_option maxHeartbeats 4000000
namespace L2
open PySem PySem.Spec PyProof.Rows
def tRev (K : PySem.W.Frag) (te : TE) : TE := fun σ H Q => te σ H fun x H1 => ∃ a xs, x = .ref a ∧ SqL K H1 a xs ∧ ∀ p, H1 p = none → Q (.ref p) (upd H1 p (.lst xs.reverse))
section
variable {X : Cx} {e : Expr} {te : TE} {p2 pos cp up : Pos} {j : Nat}
theorem pe_rev (he : PE X e te) : PE X (.Subscript e (.Slice none none (some (.UnaryOp .USub (.Constant (.int 1) j cp) up)) p2) pos) (tRev X.K te) := by
  intro pins s σ H Q I h
  refine Subscript_ (thn (he pins s σ H _ I h) fun v s1 ⟨x, H1, I1, r1, a, xs, ex, hS, q⟩ => ?_)
  subst ex
  cases r1
  refine wpAny_Slice ?_
  rw [evalPart_none]
  refine wpAny_pure ?_
  refine wpAny_pure ?_
  rw [evalPart_some]
  have pn : PE X (.UnaryOp .USub (.Constant (.int 1) j cp) up) (tUn (rU fun i => .int (-i)) (tC (.int 1))) := pe_un un_neg pe_int
  refine thn (pn pins s1 σ H1 (fun y H2 => y = .int (-1) ∧ H2 = H1) I1 ⟨1, rfl, rfl, rfl⟩) fun vs s3 ⟨y, H3, I3, r3, ey, eH⟩ => ?_
  subst ey eH
  obtain ⟨t, rfl⟩ := r3
  obtain ⟨its, r, ht, hz⟩ := I3.list hS
  have hlen := r.length
  have I4 : Inv X pins σ H3 { s3 with heap := s3.heap.push { cls := .type "slice", data := .fields #[.none, .none, .int (-1) t] } } := I3.kept (t' := s3.toks) fun b ob q => Heap.get?_push_of_some _ q
  show wpAny (model X.prog X.w) X.A (subscriptTail e (.Slice none none (some (.UnaryOp .USub (.Constant (.int 1) j cp) up)) p2) (.ref a) (.ref s3.heap.objs.size)) (EP X pins σ Q) X.xe { s3 with heap := s3.heap.push { cls := .type "slice", data := .fields #[.none, .none, .int (-1) t] } }
  have ht' := ht.isList.push { cls := .type "slice", data := .fields #[.none, .none, .int (-1) t] }
  refine tail_any (ops := [.ref a, .ref s3.heap.objs.size]) ht'.typeIs slot_list_getitem.lookup ?_ (by with_unfolding_all rfl)
  refine wpAny_getItem_list_slice ht' (Heap.IsSliceOf.new ..) .none .none (.int (-1) t) (by decide) ?_ (by rw [List.size_toArray]; omega)
  rw [PySem.W.krv_pick]
  refine ⟨.ref _, _, I4.laid (t' := s3.toks) (o := .lst xs.reverse) (fun b ob q => Heap.get?_push_of_some _ q) (Nat.le_refl _) ?_, rfl, q _ (I4.hok.fresh (Nat.le_refl _))⟩
  exact ⟨by rw [List.length_reverse]; exact hz, its.reverse, 0, r.reverse, Heap.get?_push_size _ rfl⟩
end
end L2

set_option Elab.async false
set_option linter.all false
set_option maxRecDepth 100000
set_option maxHeartbeats 4000000
namespace L2
open PySem PySem.Spec PyProof.Rows
abbrev ForG (J : It) (g : TG) (tb : TS) (D : Ends) (σ : St) (H : Hp) : Prop := ∃ W : Nat → Nat → St → Hp → Prop, (∃ m, W 0 m σ H) ∧ ∀ i m σ H, W i m σ H →
  (J.stop i H ∧ D.nx σ H) ∨ (J.go i H ∧ ∃ N : St → Hp → Prop, (∀ σ' H', N σ' H' → ∃ m', m' < m ∧ W (i + 1) m' σ' H') ∧ ∀ x H', J.yld i H x H' → g x σ H' fun σ2 H2 => tb { D with nx := N, ct := N, bk := D.nx } σ2 H2)
theorem for_it {J : It} {g : TG} {tb : TS} {D : Ends} {σ : St} {H : Hp} (n : Nat) (Pv : Nat → St → Hp → Prop) (h0 : Pv 0 σ H) (hg : ∀ i σ H, i < n → Pv i σ H → J.go i H) (he : ∀ σ H, Pv n σ H → J.stop n H)
    (hs : ∀ i x σ H H', i < n → Pv i σ H → J.yld i H x H' → g x σ H' fun σ2 H2 => tb { D with nx := Pv (i + 1), ct := Pv (i + 1), bk := D.nx } σ2 H2) (hd : ∀ σ H, Pv n σ H → D.nx σ H) : ForG J g tb D σ H := by
  refine ⟨fun i m σ H => m = n - i ∧ i ≤ n ∧ Pv i σ H, ⟨n, by simp, Nat.zero_le _, h0⟩, ?_⟩
  rintro i m σ H ⟨rfl, hi, p⟩
  by_cases hlt : i < n
  · exact .inr ⟨hg i σ H hlt p, Pv (i + 1), fun σ' H' p' => ⟨n - (i + 1), by omega, rfl, hlt, p'⟩, fun x H' y => hs i x σ H H' hlt p y⟩
  · have e : i = n := by omega
    subst e
    exact .inl ⟨he σ H p, hd σ H p⟩
abbrev LcG (J : It) (g : TG) (tt : TT) (te : TE) (vs : List Nat) (σ : St) (D : Addr) (H1 : Hp) (Qd : Hp → Prop) : Prop := ∃ W : Nat → Nat → Hp → Prop, (∃ m, W 0 m (upd H1 D (.lst []))) ∧ ∀ i m H, W i m H →
  (J.stop i H ∧ Qd H) ∨ (J.go i H ∧ ∃ Nx : Hp → Prop, (∀ H', Nx H' → ∃ m', m' < m ∧ W (i + 1) m' H') ∧ ∀ x H', J.yld i H x H' → g x (wipe σ vs) H' fun σ2 H2 => wipe σ2 vs = wipe σ vs ∧ tt σ2 H2 fun b H3 =>
    if b = true then te σ2 H3 fun y H4 => ∃ acc, H4 D = some (.lst acc) ∧ acc.length < sizeLine ∧ Nx (upd H4 D (.lst (acc ++ [y]))) else Nx H3)
theorem lc_it {J : It} {g : TG} {tt : TT} {te : TE} {vs : List Nat} {σ : St} {H1 : Hp} {D : Addr} {Qd : Hp → Prop} (n : Nat) (Pv : Nat → Hp → Prop) (h0 : Pv 0 (upd H1 D (.lst []))) (hg : ∀ i H, i < n → Pv i H → J.go i H) (he : ∀ H, Pv n H → J.stop n H)
    (hs : ∀ i x H H', i < n → Pv i H → J.yld i H x H' → g x (wipe σ vs) H' fun σ2 H2 => wipe σ2 vs = wipe σ vs ∧ tt σ2 H2 fun b H3 =>
      if b = true then te σ2 H3 fun y H4 => ∃ acc, H4 D = some (.lst acc) ∧ acc.length < sizeLine ∧ Pv (i + 1) (upd H4 D (.lst (acc ++ [y]))) else Pv (i + 1) H3) (hd : ∀ H, Pv n H → Qd H) : LcG J g tt te vs σ D H1 Qd := by
  refine ⟨fun i m H => m = n - i ∧ i ≤ n ∧ Pv i H, ⟨n, by simp, Nat.zero_le _, h0⟩, ?_⟩
  rintro i m H ⟨rfl, hi, p⟩
  by_cases hlt : i < n
  · exact .inr ⟨hg i H hlt p, Pv (i + 1), fun H' p' => ⟨n - (i + 1), by omega, rfl, hlt, p'⟩, fun x H' y => hs i x H H' hlt p y⟩
  · have e : i = n := by omega
    subst e
    exact .inl ⟨he H p, hd H p⟩
section
variable {K : PySem.W.Frag} {a : Addr} {xs : List V}
theorem for_enum1 {g : TG} {tb : TS} {D : Ends} {σ : St} {H : Hp} (Pv : Nat → St → Hp → Prop) (h0 : Pv 0 σ H) (hl : ∀ i σ H, i ≤ xs.length → Pv i σ H → SqL K H a xs)
    (hs : ∀ i x T σ H, xs[i]? = some x → Pv i σ H → H T = none → g (.ref T) σ (upd H T (.tup [.int ((i : Nat) + 1), x])) fun σ2 H2 => tb { D with nx := Pv (i + 1), ct := Pv (i + 1), bk := D.nx } σ2 H2) (hd : ∀ σ H, Pv xs.length σ H → D.nx σ H) : ForG (Ite1 K a) g tb D σ H := by
  refine for_it xs.length Pv h0 (fun i σ H hi p => ⟨xs, xs[i], hl i σ H (Nat.le_of_lt hi) p, by simp [hi]⟩) (fun σ H p => ⟨xs, hl _ σ H (Nat.le_refl _) p, Nat.le_refl _⟩) (fun i x σ H H' hi p y => ?_) hd
  obtain ⟨T, z, rfl, hT, rfl, hz⟩ := y
  exact hs i z T σ H (hz xs (hl i σ H (Nat.le_of_lt hi) p)) p hT
theorem lc_enum1 {g : TG} {tt : TT} {te : TE} {vs : List Nat} {σ : St} {H1 : Hp} {D : Addr} {Qd : Hp → Prop} (Pv : Nat → Hp → Prop) (h0 : Pv 0 (upd H1 D (.lst []))) (hl : ∀ i H, i ≤ xs.length → Pv i H → SqL K H a xs)
    (hs : ∀ i x T H, xs[i]? = some x → Pv i H → H T = none → g (.ref T) (wipe σ vs) (upd H T (.tup [.int ((i : Nat) + 1), x])) fun σ2 H2 => wipe σ2 vs = wipe σ vs ∧ tt σ2 H2 fun b H3 =>
      if b = true then te σ2 H3 fun y H4 => ∃ acc, H4 D = some (.lst acc) ∧ acc.length < sizeLine ∧ Pv (i + 1) (upd H4 D (.lst (acc ++ [y]))) else Pv (i + 1) H3) (hd : ∀ H, Pv xs.length H → Qd H) : LcG (Ite1 K a) g tt te vs σ D H1 Qd := by
  refine lc_it xs.length Pv h0 (fun i H hi p => ⟨xs, xs[i], hl i H (Nat.le_of_lt hi) p, by simp [hi]⟩) (fun H p => ⟨xs, hl _ H (Nat.le_refl _) p, Nat.le_refl _⟩) (fun i x H H' hi p y => ?_) hd
  obtain ⟨T, z, rfl, hT, rfl, hz⟩ := y
  exact hs i z T H (hz xs (hl i H (Nat.le_of_lt hi) p)) p hT
theorem for_enum0 {g : TG} {tb : TS} {D : Ends} {σ : St} {H : Hp} (Pv : Nat → St → Hp → Prop) (h0 : Pv 0 σ H) (hl : ∀ i σ H, i ≤ xs.length → Pv i σ H → SqL K H a xs)
    (hs : ∀ i x T σ H, xs[i]? = some x → Pv i σ H → H T = none → g (.ref T) σ (upd H T (.tup [.int (i : Nat), x])) fun σ2 H2 => tb { D with nx := Pv (i + 1), ct := Pv (i + 1), bk := D.nx } σ2 H2) (hd : ∀ σ H, Pv xs.length σ H → D.nx σ H) : ForG (Ite K a) g tb D σ H := by
  refine for_it xs.length Pv h0 (fun i σ H hi p => ⟨xs, xs[i], hl i σ H (Nat.le_of_lt hi) p, by simp [hi]⟩) (fun σ H p => ⟨xs, hl _ σ H (Nat.le_refl _) p, Nat.le_refl _⟩) (fun i x σ H H' hi p y => ?_) hd
  obtain ⟨T, z, rfl, hT, rfl, hz⟩ := y
  exact hs i z T σ H (hz xs (hl i σ H (Nat.le_of_lt hi) p)) p hT
theorem lc_enum0 {g : TG} {tt : TT} {te : TE} {vs : List Nat} {σ : St} {H1 : Hp} {D : Addr} {Qd : Hp → Prop} (Pv : Nat → Hp → Prop) (h0 : Pv 0 (upd H1 D (.lst []))) (hl : ∀ i H, i ≤ xs.length → Pv i H → SqL K H a xs)
    (hs : ∀ i x T H, xs[i]? = some x → Pv i H → H T = none → g (.ref T) (wipe σ vs) (upd H T (.tup [.int (i : Nat), x])) fun σ2 H2 => wipe σ2 vs = wipe σ vs ∧ tt σ2 H2 fun b H3 =>
      if b = true then te σ2 H3 fun y H4 => ∃ acc, H4 D = some (.lst acc) ∧ acc.length < sizeLine ∧ Pv (i + 1) (upd H4 D (.lst (acc ++ [y]))) else Pv (i + 1) H3) (hd : ∀ H, Pv xs.length H → Qd H) : LcG (Ite K a) g tt te vs σ D H1 Qd := by
  refine lc_it xs.length Pv h0 (fun i H hi p => ⟨xs, xs[i], hl i H (Nat.le_of_lt hi) p, by simp [hi]⟩) (fun H p => ⟨xs, hl _ H (Nat.le_refl _) p, Nat.le_refl _⟩) (fun i x H H' hi p y => ?_) hd
  obtain ⟨T, z, rfl, hT, rfl, hz⟩ := y
  exact hs i z T H (hz xs (hl i H (Nat.le_of_lt hi) p)) p hT
theorem for_rev {g : TG} {tb : TS} {D : Ends} {σ : St} {H : Hp} (Pv : Nat → St → Hp → Prop) (h0 : Pv 0 σ H) (hl : ∀ i σ H, i ≤ xs.length → Pv i σ H → SqL K H a xs)
    (hs : ∀ i x σ H, i < xs.length → xs[xs.length - 1 - i]? = some x → Pv i σ H → g x σ H fun σ2 H2 => tb { D with nx := Pv (i + 1), ct := Pv (i + 1), bk := D.nx } σ2 H2) (hd : ∀ σ H, Pv xs.length σ H → D.nx σ H) : ForG (Itv K a xs.length) g tb D σ H := by
  refine for_it xs.length Pv h0 (fun i σ H hi p => ⟨hi, xs, xs[xs.length - 1 - i]'(by omega), hl i σ H (Nat.le_of_lt hi) p, by rw [List.getElem?_eq_getElem]⟩) (fun σ H p => Nat.le_refl _) (fun i x σ H H' hi p y => ?_) hd
  obtain ⟨rfl, hz⟩ := y
  exact hs i x σ _ hi (hz xs (hl i σ _ (Nat.le_of_lt hi) p)) p
end
theorem Same.upd {H H' : Hp} {a : Addr} {o : HO} (s : Same H H') (h : H a = none) : Same H (upd H' a o) := fun b u e => by
  rw [upd_ne (ne_of_none e h)]
  exact s b u e
theorem Same.new {H : Hp} {a : Addr} {o : HO} (h : H a = none) : Same H (L2.upd H a o) := (Same.refl H).upd h
theorem map_int_get {ns : List Int} {i : Nat} {x : V} (h : (ns.map V.int)[i]? = some x) : ∃ n, ns[i]? = some n ∧ x = .int n := by
  rw [List.getElem?_map] at h
  cases e : ns[i]? with
  | none =>
    rw [e] at h
    cases h
  | some z =>
    rw [e] at h
    exact ⟨z, rfl, (Option.some.inj h).symm⟩
end L2

set_option Elab.async false
set_option linter.all false
set_option maxRecDepth 100000
set_option maxHeartbeats 4000000
namespace L2
open PySem PySem.Spec PyProof.Rows
def rListOf (K : PySem.W.Frag) : List V → Hp → VK → Prop := fun xs H Q => ∃ p ys, xs = [.ref p] ∧ (SqL K H p ys ∨ SqT K H p ys) ∧ ∀ l, H l = none → Q (.ref l) (upd H l (.lst ys))
def rLen (K : PySem.W.Frag) : List V → Hp → VK → Prop := fun xs H Q => ∃ p ys, xs = [.ref p] ∧ (SqL K H p ys ∨ SqT K H p ys) ∧ Q (.int ys.length) H
section
variable {X : Cx} (K : PySem.W.Frag)
theorem cr_isiK (h : X.K = K := by rfl) : CallR X (.builtin "isinstance") (rIsi K) := h ▸ cr_isi
theorem call_list_ofK (h : X.K = K := by rfl) : CallR X (.type "list") (rListOf K) := by
  subst h
  exact call_list_of
theorem call_len_seqK (h : X.K = K := by rfl) : CallR X (.builtin "len") (rLen K) := by
  subst h
  exact call_len_seq
theorem cr_sumK (hc : X.calm = true) (h : X.K = K := by rfl) : CallR X (.builtin "sum") (rSum K) := h ▸ cr_sum hc
theorem ck_maxK (hc : X.calm = true) (h : X.K = K := by rfl) : CallKR X (.builtin "max") ["default"] (rMaxD K) := h ▸ ck_max hc
theorem ix_listK (h : X.K = K := by rfl) : IxR X (rIxL K) := h ▸ ix_list
theorem ix_tupK (h : X.K = K := by rfl) : IxR X (rIxT K) := h ▸ ix_tup
theorem sl_listK (h : X.K = K := by rfl) : SlR X (rSlL K) := h ▸ sl_list
theorem op_eqDK (hu : X.A.units + 64 < cLine) (h : X.K = K := by rfl) : OpR X (compareOp .Eq) (rEqD K) := h ▸ op_eqD hu
theorem op_neDK (hu : X.A.units + 64 < cLine) (h : X.K = K := by rfl) : OpR X (compareOp .NotEq) (rNeD K) := h ▸ op_neD hu
theorem pi_listK {tg l : Expr} {tl : TE} (hl : PE X l tl) (h : X.K = K := by rfl) : PI X tg l (iList K tl) := h ▸ pi_list hl
theorem pi_enumK {e : Expr} {ta : TA} {p pos tpos : Pos} {elts : List Expr} {kk : Nat} (hg : Gl X "enumerate") (hm : X.mg "enumerate" = none) (ha : PA X [e] ta) (hs : starEach [e] X.env = [(false, eval e X.env)] := by rfl) (h : X.K = K := by rfl) :
    PI X (.Tuple elts kk tpos) (.Call (.Name "enumerate" p) [e] [] pos) (iEnum K ta) := h ▸ pi_enum hg hm ha hs
theorem pi_enum1K {e : Expr} {ta : TA} {p pos tpos kpos cpos : Pos} {elts : List Expr} {kk j : Nat} (hg : Gl X "enumerate") (hm : X.mg "enumerate" = none) (ha : PA X [e] ta) (hs : starEach [e] X.env = [(false, eval e X.env)] := by rfl) (h : X.K = K := by rfl) :
    PI X (.Tuple elts kk tpos) (.Call (.Name "enumerate" p) [e] [⟨some "start", .Constant (.int 1) j cpos, kpos⟩] pos) (iEnum1 K ta) := h ▸ pi_enum1 hg hm ha hs
theorem pg_tupK {es : List Expr} {k : Nat} {t : TGs} {n : Nat} {pos : Pos} (hc : X.calm = true) (hp : PGs X es t) (hn : (assignEach es X.env).length = n := by rfl) (hst : (assignEach es X.env).findIdx? (·.1) = none := by rfl) (h : X.K = K := by rfl) :
    PG X (.Tuple es k pos) (gTup K n t) := h ▸ pg_tup hc hp hn hst
theorem pe_fldK {e : Expr} {ta : TE} {f : Str} {pos : Pos} (he : PE X e ta) (hb : attributeBase e f X.env (eval e X.env) = eval e X.env) (h : X.K = K := by rfl) : PE X (.Attribute e f pos) (tFld K ta f) := h ▸ pe_fld he hb
end
end L2
namespace L2
theorem yesT {σ : St} {H : Hp} {A B : Bool → Hp → Prop} (h : A true H) : tYes σ H (fun b H3 => if b = true then A b H3 else B b H3) := by
  show (if true = true then A true H else B true H)
  rw [if_pos rfl]
  exact h
end L2
namespace L2
open PySem PySem.Spec PyProof.Rows
section
variable {X : Cx} (K : PySem.W.Frag) {o e : Expr} {es : List Expr} {to : TE} {t : TA} {name : Str} {apos cpos : Pos} {T id : String} {r : V → List V → Hp → VK → Prop}
theorem pe_bmK (pa : PlainAttrs T) (slot : Slot T name id) (hty : typeOf (.builtin id) = pure (.type "method_descriptor")) (hm : MtR X id r) (ho : PE X o to) (ha : PA X (e :: es) t)
    (hbase : attributeBase o name X.env (eval o X.env) = eval o X.env := by rfl)
    (hfew : ((backTo cpos (starEach (e :: es) X.env)).all (fun x => !x.1) && (backToKw cpos (keywordEach [] X.env)).all (fun x => x.1.isSome)
      && decide ((e :: es).length + ([] : List Keyword).length + (if ([] : List Keyword).isEmpty then 0 else 1) < 30)) = true := by rfl)
    (hline : (apos.endLine == cpos.line) = true := by rfl) (hs : starEach (e :: es) X.env = (false, eval e X.env) :: starEach es X.env := by rfl) (hplain : (backTo cpos (starEach es X.env)).any (·.1) = false := by rfl) (h : X.K = K := by rfl) :
    PE X (.Call (.Attribute o name apos) (e :: es) [] cpos) (tBM K T r to t) := h ▸ pe_bm pa slot hty hm ho ha hbase hfew hline hs hplain
end
end L2

set_option Elab.async false
set_option linter.all false
namespace L2
open PySem PySem.Spec PyProof.Rows
end L2

set_option Elab.async false
set_option linter.all false
set_option maxRecDepth 100000
set_option maxHeartbeats 4000000
namespace L2
open PySem PySem.Spec PyProof.Rows PySem.W
theorem list_iterable {prog : Program} {w : World} {A : Around} {E : Value → Shared → Prop} {s : Shared} {l : Addr} {items : Array Value} {Q : Bool → Shared → Prop} (hl : s.heap.IsList l items) (q : Q false s) : wpAny (model prog w) A (notIterableAtAll (.ref l)) Q E s := by
  unfold notIterableAtAll
  exact wpAny_bind (wpAny_specialOf (T := "list") hl.typeIs F.slot_list_iter.lookup (wpAny_pure q))
theorem unpack_star {prog : Program} {w : World} {A : Around} {E : Value → Shared → Prop} {s : Shared} {l : Addr} {x : Value} {its : List Value} {Q : List Value → Shared → Prop} (hh : A.handled = none) (hl : s.heap.IsList l (x :: its).toArray) (hz : its.length + 1 ≤ sizeLine)
    (q : ∀ (h' : Heap) (tk : Nat), (∀ b o, s.heap.get? b = some o → h'.get? b = some o) →
      Q [x, .ref h'.objs.size] { s with heap := h'.push { cls := .type "list", data := .seq its.toArray }, toks := tk }) :
    wpAny (model prog w) A (unpackItems (.ref l) 2 (some 1)) Q E s := by
  have hlt : l < s.heap.objs.size := by
    obtain ⟨o, e, _⟩ := hl
    exact Heap.lt_size e
  unfold unpackItems
  refine wpAny_bind (list_iterable hl ?_)
  refine wpAny_bind (wpAny_holding (wpAny_pyIter_list hl ?_))
  have kp : ∀ b o, s.heap.get? b = some o → (s.heap.push { cls := Value.type "list_iterator", data := Data.fields #[Value.ref l, Value.int 0 0] }).get? b = some o := fun b o e => Heap.get?_push_of_some _ e
  have hne : l ≠ s.heap.objs.size := Nat.ne_of_lt hlt
  have hl1 : (s.heap.push { cls := Value.type "list_iterator", data := Data.fields #[Value.ref l, Value.int 0 0] }).IsList l (x :: its).toArray := by
    obtain ⟨o, e, r⟩ := hl
    exact ⟨o, kp _ _ e, r⟩
  have hi1 : (s.heap.push { cls := Value.type "list_iterator", data := Data.fields #[Value.ref l, Value.int 0 0] }).IsListIter s.heap.objs.size l 0 := ⟨_, Heap.get?_push_size _ rfl, rfl, rfl⟩
  refine wpAny_bind (wpAny_holding (kun_draw hne 1 0 _ _ hi1 hl1 (by simp) fun h2 hi2 sb2 => ?_))
  have hl2 : h2.IsList l (x :: its).toArray := by
    obtain ⟨o, e, r⟩ := hl1
    exact ⟨o, by rw [sb2.2 l hne]; exact e, r⟩
  have hsz2 : h2.objs.size = s.heap.objs.size + 1 := by rw [sb2.1, Heap.size_push]
  rw [if_neg (by simp)]
  show wpAny _ A (do
    let rest ← holding _ (collect _)
    _) _ _ _
  refine wpAny_bind (wpAny_holding (kun_collect (T := "list_iterator") (k := 1) (ax := l) (.inr (.inr (.inl rfl))) (Walks.list (A := A.in1) hh s.heap.objs.size l hne (x :: its).toArray) (fun i u ⟨⟨o, e, c, _⟩, _⟩ => ⟨o, e, c⟩) (by simp) ⟨hi2, hl2⟩ (by show _ < h2.objs.size; rw [hsz2]; exact Nat.lt_succ_self _) (by show _ < h2.objs.size; rw [hsz2]; exact Nat.lt_succ_of_lt hlt) (fun h3 tk k3 => ?_) (by simpa using hz)))
  have k13 : ∀ b o, s.heap.get? b = some o → h3.get? b = some o := fun b o e => k3 b o (Nat.ne_of_lt (Heap.lt_size e)) (by
    show h2.get? b = some o
    rw [sb2.2 b (Nat.ne_of_lt (Heap.lt_size e))]
    exact kp b o e)
  rw [if_neg (by simp)]
  refine wpAny_bind (wpAny_newList ?_ (by simp; omega))
  refine wpAny_pure ?_
  have e := q h3 tk k13
  simpa using e
def gStar (K : PySem.W.Frag) (t : TGs) : TG := fun v σ H Q => ∃ a x xs, v = .ref a ∧ SqL K H a (x :: xs) ∧ ∀ p, H p = none → t [x, .ref p] σ (upd H p (.lst xs)) Q
theorem pg_star {X : Cx} {e1 e2 : Expr} {k : Nat} {t : TGs} {pos p2 : Pos} (hc : X.calm = true) (h : PGs X [e1, e2] t)
    (h1 : assignEach [e1, .Starred e2 p2] X.env = [(false, assign e1 X.env), (true, assign e2 X.env)] := by rfl)
    (h2 : (assignEach [e1, e2] X.env).map (·.2) = [assign e1 X.env, assign e2 X.env] := by rfl) : PG X (.Tuple [e1, .Starred e2 p2] k pos) (gStar X.K t) := by
  intro pins s σ H v u Q I r hw
  obtain ⟨a, x, xs, e0, hq, hw⟩ := hw
  subst e0
  cases r
  obtain ⟨its, rv, pl, hz⟩ := I.list hq
  cases rv with
  | cons rx rxs =>
    rename_i ux its
    have hlen := rxs.length
    rw [arm_assign_Tuple]
    refine wpAny_bind (wpAny_standAt ?_)
    unfold unpack
    rw [h1]
    refine wpAny_bind (wpAny_holding ?_)
    show wpAny _ _ (unpackItems _ 2 (some 1)) _ _ _
    refine unpack_star (I.ok.hd hc) pl.isList (by rw [List.length_cons] at hz; omega) fun h' tk kp => ?_
    have I1 : Inv X pins σ H { s with heap := h', toks := tk } := I.kept (t' := tk) kp
    have I2 : Inv X pins σ (upd H h'.objs.size (.lst xs)) { s with heap := h'.push { cls := .type "list", data := .seq its.toArray }, toks := tk } :=
      I1.laid (t' := tk) (fun b o e => Heap.get?_push_of_some _ e) (Nat.le_refl _) (show ObjOk X.prog X.w _ _ _ (.lst xs) from ⟨by rw [List.length_cons] at hz; omega, its, 0, rxs, Heap.get?_push_size _ rfl⟩)
    have e := h pins _ σ _ _ [ux, .ref h'.objs.size] Q I2 (.cons rx (.cons (show RelV (.ref _) (.ref _) from rfl) .nil)) (hw _ (I1.hok.fresh (Nat.le_refl _)))
    rw [h2] at e
    exact e
theorem setOk_new {P : Program} {w : World} {H : Hp} {h : Heap} {a : Addr} {led : Bool} (e : h.get? a = some { cls := .type "set", data := .set #[] 0 (SetTable.fresh 0 0 led) }) : ObjOk P w H h a (.set (fun _ => false) 0) := by
  obtain ⟨x, es, ep, t, hd, h1, h2, h3, h4⟩ := intSetOf_fresh led P w
  cases hd
  exact ⟨_, _, _, _, e, x, rfl, h1, h2, by decide, h4, h3⟩
theorem call_set0 {X : Cx} : CallR X (.type "set") (fun xs H Q => xs = [] ∧ ∀ p, H p = none → Q (.ref p) (upd H p (.set (fun _ => false) 0))) := by
  intro pins s σ H xs us Q I r h
  obtain ⟨rfl, q⟩ := h
  cases r
  refine call_set_0 fun led => ?_
  exact ⟨.ref s.heap.objs.size, _, I.laid (t' := s.toks) (fun b o e => Heap.get?_push_of_some _ e) (Nat.le_refl _) (setOk_new (Heap.get?_push_size _ rfl)), rfl, q _ (I.hok.fresh (Nat.le_refl _))⟩
def rSAdd : V → List V → Hp → VK → Prop := fun x vs H Q => ∃ a i S n, x = .ref a ∧ vs = [.int i] ∧ H a = some (.set S n) ∧ n + 1 < scanBound ∧ Q .non (upd H a (.set (fun k => S k || decide (k = i)) (if S i = true then n else n + 1)))
theorem mt_add {X : Cx} : MtM X "set.add" rSAdd := by
  intro pins s σ H x vs v us Q I rx rv h
  obtain ⟨a, i, S, n, rfl, rfl, hH, hn, q⟩ := h
  cases rx
  obtain ⟨u, rfl, ru⟩ := vals1 rv
  obtain ⟨t, rfl⟩ := ru
  have hs : s.heap.SetOf (intKind X.prog X.w) a S n := I.hok a _ hH
  refine call_set_add (knd := intKind X.prog X.w) (k := i) (by show Value.isInt i (.int i t) = true; simp [Value.isInt]) rfl hs hn fun h' sb so => ?_
  have so' := so
  obtain ⟨o, _, _, _, e, _⟩ := so'
  exact ⟨.non, _, I.write (x := a) (e := a) (t' := s.toks + 1) (by rw [hH]; exact trivial) (.inl rfl) (fun b u hb hu => by rw [sb.2 b hb]; exact hu) ⟨_, e⟩ (show ObjOk X.prog X.w _ h' a (.set _ _) from so), rfl, q⟩
def rInS (neg : Bool) : R2 := fun x y H Q => ∃ a i S n, x = .int i ∧ y = .ref a ∧ H a = some (.set S n) ∧ Q (.bl (S i ^^ neg)) H
theorem op_in_set {X : Cx} : OpR X (compareOp .In) (rInS false) := by
  intro pins s σ H x y v u Q I rx ry h
  obtain ⟨a, i, S, n, rfl, rfl, hH, q⟩ := h
  cases ry
  obtain ⟨t, rfl⟩ := rx
  have hs : s.heap.SetOf (intKind X.prog X.w) a S n := I.hok a _ hH
  rw [Bool.xor_false] at q
  exact wpAny_inSet_of (knd := intKind X.prog X.w) (k := i) (by show Value.isInt i (.int i t) = true; simp [Value.isInt]) rfl hs ⟨.bl _, H, I.tok _, rfl, q⟩
end L2

set_option Elab.async false
set_option linter.all false
set_option maxRecDepth 100000
set_option maxHeartbeats 4000000
namespace L2
open PySem PySem.Spec PyProof.Rows PySem.W
section
variable {X : Cx} {pins : List (Addr × Obj)} {σ : St} {H : Hp} {A : Around} {R : Result → Shared → Prop} {S d it : Addr} {kvs : List (Key × V)} {res : Value} {o : Obj} {es : Array DictEntry} {ep : Nat}
end
end L2

set_option Elab.async false
set_option linter.all false
set_option maxRecDepth 100000
set_option maxHeartbeats 4000000
namespace L2
open PySem PySem.Spec PyProof.Rows PySem.W
theorem op_isB {X : Cx} : OpR X (compareOp .Is) (fun x y H Q => ∃ b c, x = .bl b ∧ y = .bl c ∧ Q (.bl (b == c)) H) := by
  intro pins s σ H x y v u Q I rx ry h
  obtain ⟨b, c, rfl, rfl, q⟩ := h
  cases rx
  cases ry
  exact is_bool (fin_bl I q rfl)
section
variable {X : Cx}
theorem op_in_seqK (K : PySem.W.Frag) (h : X.K = K := by rfl) : OpR X (compareOp .In) (rIn K false) := by subst h; exact op_in_seq
theorem op_notIn_seqK (K : PySem.W.Frag) (h : X.K = K := by rfl) : OpR X (compareOp .NotIn) (rIn K true) := by subst h; exact op_notIn_seq
theorem cr_sortedK (K : PySem.W.Frag) (h : X.K = K := by rfl) : CallR X (.builtin "sorted") (rSorted K) := by subst h; exact cr_sorted
theorem cr_allK (K : PySem.W.Frag) (hc : X.calm = true) (h : X.K = K := by rfl) : CallR X (.builtin "all") (rAll K) := by subst h; exact cr_all hc
theorem pg_starK (K : PySem.W.Frag) {e1 e2 : Expr} {k : Nat} {t : TGs} {pos p2 : Pos} (hc : X.calm = true) (h : PGs X [e1, e2] t) (h1 : assignEach [e1, .Starred e2 p2] X.env = [(false, assign e1 X.env), (true, assign e2 X.env)] := by rfl)
    (h2 : (assignEach [e1, e2] X.env).map (·.2) = [assign e1 X.env, assign e2 X.env] := by rfl) (hK : X.K = K := by rfl) : PG X (.Tuple [e1, .Starred e2 p2] k pos) (gStar K t) := by subst hK; exact pg_star hc h h1 h2
end
end L2
namespace L2
open PySem
end L2

set_option Elab.async false
set_option linter.all false
set_option maxRecDepth 100000
set_option maxHeartbeats 4000000
namespace L2
open PySem PySem.Spec PyProof.Rows PySem.W
end L2

set_option Elab.async false
set_option linter.all false
set_option maxRecDepth 100000
set_option maxHeartbeats 4000000
namespace L2
open PySem PySem.Spec PyProof.Rows
def rgI (lo : Int) (n : Nat) : List Int := (List.range n).map fun i : Nat => lo + (i : Int)
theorem vals_rg {lo : Int} : ∀ {n : Nat} {vs : List Value}, vs.length = n → (∀ (i : Nat) (v : Value), vs[i]? = some v → ∃ t, v = .int (lo + (i : Int)) t) → Vals ((rgI lo n).map V.int) vs := by
  intro n
  induction n generalizing lo with
  | zero =>
    intro vs hl _
    cases vs with
    | nil => exact .nil
    | cons _ _ => cases hl
  | succ n ih =>
    intro vs hl h
    cases vs with
    | nil => cases hl
    | cons v vs =>
      have e : rgI lo (n + 1) = lo :: rgI (lo + 1) n := by
        unfold rgI
        rw [List.range_succ_eq_map, List.map_cons, List.map_map]
        congr 1
        · omega
        · exact List.map_congr_left fun i _ => by show lo + ((i + 1 : Nat) : Int) = lo + 1 + (i : Int); omega
      rw [e, List.map_cons]
      refine .cons ?_ (ih (by simpa using hl) fun i v hv => ?_)
      · obtain ⟨t, e⟩ := h 0 v rfl
        rw [e]
        refine ⟨t, ?_⟩
        rw [show lo + ((0 : Nat) : Int) = lo by omega]
      · obtain ⟨t, e⟩ := h (i + 1) v hv
        exact ⟨t, by rw [e, show lo + ((i + 1 : Nat) : Int) = lo + 1 + (i : Int) by omega]⟩
section
variable {X : Cx} {a b e : Expr} {ta : TA} {te : TE} {p p2 pos pos2 kpos cpos : Pos} {j : Nat}
theorem list_rg {pins : List (Addr × Obj)} {σ : St} {H : Hp} {s : Shared} {Q : VK} {E : Value → Shared → Prop} {lo hi : Int} {t u v : Tok} {tk : Nat} (I : Inv X pins σ H s) (hc : X.calm = true) (h1 : -(2 ^ 62) ≤ lo) (h2 : lo < 2 ^ 62) (h3 : -(2 ^ 62) ≤ hi) (h4 : hi < 2 ^ 62) (h5 : (hi - lo).toNat ≤ 1000)
    (q : ∀ l, H l = none → Q (.ref l) (upd H l (.lst ((rgI lo (hi - lo).toNat).map V.int)))) :
    wpAny (model X.prog X.w) X.A (call (.type "list") [.ref s.heap.objs.size]) (EP X pins σ Q) E { s with heap := s.heap.push { cls := .type "range", data := .fields #[.int lo t, .int hi u, .int 1 v] }, toks := tk } := by
  have hz : (s.heap.push { cls := .type "range", data := .fields #[.int lo t, .int hi u, .int 1 v] }).objs.size = s.heap.objs.size + 1 := Heap.size_push ..
  refine call_list_range (n := (hi - lo).toNat) (I.ok.hd hc) (IsRange.new ..) (small_one h1 h2 h3 h4) (by rw [rangeSize_one]; split <;> omega) (by omega) fun h' tk' acc' c' kp e it => ?_
  have I1 : Inv X pins σ H { s with heap := s.heap.push { cls := .type "range", data := .fields #[.int lo t, .int hi u, .int 1 v] }, toks := tk } := I.kept fun b o e => Heap.get?_push_of_some _ e
  have e : h'.get? (s.heap.push { cls := .type "range", data := .fields #[.int lo t, .int hi u, .int 1 v] }).objs.size = some { cls := .type "list", dict := none, data := .seq acc'.toList.toArray c', slots := #[] } := e
  refine ⟨.ref _, _, I1.laid (t' := tk') kp (Nat.le_refl _) (show ObjOk X.prog X.w _ h' _ (.lst ((rgI lo (hi - lo).toNat).map V.int)) from ⟨?_, acc'.toList, c', ?_, e⟩), rfl, q _ (I1.hok.fresh (Nat.le_refl _))⟩
  · unfold rgI
    rw [List.length_map, List.length_map, List.length_range, sizeLine_eq]
    omega
  · refine vals_rg ?_ fun i v hv => ?_
    · rw [Array.length_toList]
      exact it.1
    · obtain ⟨t, e⟩ := it.2 i v (by rw [← Array.getElem?_toList]; exact hv)
      exact ⟨t, by rw [e, Int.mul_one]⟩
def tListRg1 (ta : TA) : TE := fun σ H Q => ta σ H fun vs H1 => ∃ j : Int, vs = [.int j] ∧ (-(2 ^ 62) ≤ j ∧ j < 2 ^ 62) ∧ j.toNat ≤ 1000 ∧ ∀ l, H1 l = none → Q (.ref l) (upd H1 l (.lst ((rgI 0 j.toNat).map V.int)))
theorem pe_listRg1 (hc : X.calm = true) (hgl : Gl X "list") (hml : X.mg "list" = none) (hg : Gl X "range") (hm : X.mg "range" = none) (ha : PA X [a] ta) (hs : starEach [a] X.env = [(false, eval a X.env)] := by rfl)
    (hs3 : starEach [.Call (.Name "range" p2) [a] [] pos2] X.env = [(false, eval (.Call (.Name "range" p2) [a] [] pos2) X.env)] := by rfl) :
    PE X (.Call (.Name "list" p) [.Call (.Name "range" p2) [a] [] pos2] [] pos) (tListRg1 ta) := by
  intro pins s σ H Q I h
  refine wpAny_Call_Name_kw (ld_blt I hgl hml (show bootBuiltins "list" = some (.type "list") by decide +kernel) ?_)
  refine PyProof.Rows.callWith_type1 ?_ (by rw [hs3]; rfl) rfl
  rw [hs3]
  refine Calls.spliced_cons (Call_ (ld_blt I hg hm boot_range (PyProof.Rows.callWith_type1 (thn (ha pos2 pins s σ H _ I h) fun us s1 ⟨vs, H1, I1, r1, q1⟩ => ?_) hs rfl)))
  obtain ⟨j, e, ⟨q3, q4⟩, q5, q⟩ := q1
  subst e
  cases r1 with
  | cons r rr =>
    cases rr
    obtain ⟨t, rfl⟩ := r
    exact call_range_1 (Calls.spliced_nil (list_rg I1 hc (by decide) (by decide) q3 q4 (by simpa using q5) (by simpa using q)))
end
section
variable {X : Cx} {K : PySem.W.Frag} {e : Expr} {ta : TA} {p p2 pos pos2 kpos cpos : Pos} {j : Nat}
end
section
variable {X : Cx} (K : PySem.W.Frag) {o : Expr} {to : TE} {name : Str} {apos cpos : Pos} {T id : String} {r : V → List V → Hp → VK → Prop}
end
end L2

set_option Elab.async false
set_option linter.all false
set_option maxRecDepth 100000
set_option maxHeartbeats 4000000
namespace L2
open PySem PySem.Spec PyProof.Rows
section
variable {prog : Program} {w : World} {A : Around} {E : Value → Shared → Prop} {s : Shared}
end
section
variable {prog : Program} {w : World} {A : Around} {E : Value → Shared → Prop} {s : Shared}
end
end L2

set_option Elab.async false
set_option linter.all false
set_option maxRecDepth 100000
set_option maxHeartbeats 4000000
namespace L2
open PySem PySem.Spec PyProof.Rows
theorem op_isnotB {X : Cx} : OpR X (compareOp .IsNot) (fun x y H Q => ∃ b c, x = .bl b ∧ y = .bl c ∧ Q (.bl (!(b == c))) H) := by
  intro pins s σ H x y v u Q I rx ry h
  obtain ⟨b, c, rfl, rfl, q⟩ := h
  cases rx
  cases ry
  exact isnot_bool (fin_bl I q rfl)
section
variable {X : Cx} (K : PySem.W.Frag)
theorem cr_maxLK (hc : X.calm = true) (h : X.K = K := by rfl) : CallR X (.builtin "max") (rMax K) := by subst h; exact cr_max hc
end
end L2
namespace L2
open PySem PySem.Spec PyProof.Rows
end L2

set_option Elab.async false
set_option linter.all false
set_option maxRecDepth 100000
set_option maxHeartbeats 4000000
namespace L2
open PySem PySem.Spec PyProof.Rows
section
variable {X : Cx} {e el : Expr} {te tl : TE} {p2 pos cp : Pos} {j k : Nat}
end
end L2

set_option Elab.async false
set_option linter.all false
set_option maxRecDepth 100000
namespace L2
open PySem PySem.Spec
end L2

set_option Elab.async false
set_option linter.all false
set_option maxRecDepth 100000
namespace L2
open PySem PySem.Spec
def Ris (xs : Array Nat) : Prop := ∀ (i k : Nat) (u v : Nat), i < k → xs[i]? = some u → xs[k]? = some v → u < v
structure Bel (xs : Array Nat) (j i : Nat) : Prop where
  le : i ≤ xs.size
  lo : ∀ (k v : Nat), k < i → xs[k]? = some v → v < j
  hi : ∀ (k v : Nat), i ≤ k → xs[k]? = some v → j ≤ v
theorem below_go {xs : Array Nat} {j : Nat} (h : Ris xs) : ∀ (fuel lo hi : Nat), hi - lo ≤ fuel → lo ≤ hi → hi ≤ xs.size → (∀ (k v : Nat), k < lo → xs[k]? = some v → v < j) → (∀ (k v : Nat), hi ≤ k → xs[k]? = some v → j ≤ v) → Bel xs j (SetTable.below.go xs j fuel lo hi)
  | 0, lo, hi, hf, hl, hs, a, b => by
    have : lo = hi := by omega
    subst this
    exact ⟨hs, a, b⟩
  | fuel + 1, lo, hi, hf, hl, hs, a, b => by
    unfold SetTable.below.go
    by_cases c : lo < hi
    · rw [if_pos c]
      have hm : (lo + hi) / 2 < xs.size := by omega
      have em : xs[(lo + hi) / 2]? = some xs[(lo + hi) / 2] := Array.getElem?_eq_getElem hm
      have ed : xs.getD ((lo + hi) / 2) j = xs[(lo + hi) / 2] := by
        simp [Array.getD, hm]
      by_cases d : xs.getD ((lo + hi) / 2) j < j
      · show Bel xs j (if xs.getD ((lo + hi) / 2) j < j then _ else _)
        rw [if_pos d]
        refine below_go h fuel _ _ (by omega) (by omega) hs (fun k v hk e => ?_) b
        rw [ed] at d
        by_cases z : k = (lo + hi) / 2
        · subst z
          rw [em] at e
          cases e
          exact d
        · exact Nat.lt_trans (h k _ v _ (by omega) e em) d
      · show Bel xs j (if xs.getD ((lo + hi) / 2) j < j then _ else _)
        rw [if_neg d]
        refine below_go h fuel _ _ (by omega) (by omega) (by omega) a (fun k v hk e => ?_)
        rw [ed] at d
        by_cases z : k = (lo + hi) / 2
        · subst z
          rw [em] at e
          cases e
          omega
        · have := h _ k _ v (by omega) em e
          omega
    · rw [if_neg c]
      have : lo = hi := by omega
      subst this
      exact ⟨hs, a, b⟩
theorem below_ok {xs : Array Nat} (h : Ris xs) (j : Nat) : Bel xs j (SetTable.below xs j) :=
  below_go h xs.size 0 xs.size (by omega) (Nat.zero_le _) (Nat.le_refl _) (fun k v hk => by omega) (fun k v hk e => by
    have := (Array.getElem?_eq_some_iff.mp e).1
    omega)
theorem insertAt_get {α : Type} {xs : Array α} {p : Nat} {x : α} (hp : p ≤ xs.size) (k : Nat) : (SetTable.insertAt xs p x)[k]? = if k < p then xs[k]? else if k = p then some x else xs[k - 1]? := by
  unfold SetTable.insertAt
  have e1 : (xs.extract 0 p).size = p := by rw [Array.size_extract]; omega
  by_cases c : k < p
  · rw [if_pos c, Array.getElem?_append_left (by rw [Array.size_push]; omega), Array.getElem?_push_lt (by omega)]
    simp [Array.getElem?_eq_getElem (show k < xs.size by omega)]
  · rw [if_neg c]
    by_cases d : k = p
    · rw [if_pos d, Array.getElem?_append_left (by rw [Array.size_push]; omega), d]
      have : (xs.extract 0 p).push x = (xs.extract 0 p).push x := rfl
      rw [show ((xs.extract 0 p).push x)[p]? = ((xs.extract 0 p).push x)[(xs.extract 0 p).size]? by rw [e1], Array.getElem?_push_size]
    · rw [if_neg d, Array.getElem?_append_right (by rw [Array.size_push]; omega), Array.size_push, e1, Array.getElem?_extract]
      by_cases e : k - 1 < xs.size
      · rw [if_pos (by omega), show p + (k - (p + 1)) = k - 1 by omega]
      · rw [if_neg (by omega), Array.getElem?_eq_none (by omega)]
theorem Ris.put {xs : Array Nat} (h : Ris xs) {j : Nat} (hn : xs[SetTable.below xs j]? ≠ some j) : Ris (SetTable.insertAt xs (SetTable.below xs j) j) := by
  have B := below_ok h j
  have hi' : ∀ (k v : Nat), SetTable.below xs j ≤ k → xs[k]? = some v → j < v := fun k v hk e => by
    have h1 := B.hi k v hk e
    by_cases z : k = SetTable.below xs j
    · subst z
      have : v ≠ j := fun y => hn (by rw [e, y])
      omega
    · have hb : SetTable.below xs j < xs.size := by
        have := (Array.getElem?_eq_some_iff.mp e).1
        omega
      have e2 : xs[SetTable.below xs j]? = some xs[SetTable.below xs j] := Array.getElem?_eq_getElem hb
      have h3 := h _ k _ v (by omega) e2 e
      have h4 := B.hi _ _ (Nat.le_refl _) e2
      omega
  intro i k u v hik hu hv
  rw [insertAt_get B.le] at hu hv
  generalize SetTable.below xs j = p at *
  by_cases a : k < p
  · rw [if_pos a] at hv
    rw [if_pos (by omega)] at hu
    exact h i k u v hik hu hv
  · rw [if_neg a] at hv
    by_cases b : k = p
    · rw [if_pos b] at hv
      rw [if_pos (by omega)] at hu
      cases hv
      exact B.lo i u (by omega) hu
    · rw [if_neg b] at hv
      by_cases c : i < p
      · rw [if_pos c] at hu
        have := B.lo i u c hu
        have := hi' _ v (by omega) hv
        omega
      · rw [if_neg c] at hu
        by_cases d : i = p
        · rw [if_pos d] at hu
          cases hu
          exact hi' _ v (by omega) hv
        · rw [if_neg d] at hu
          exact h _ _ u v (by omega) hu hv
theorem Bel.uniq {xs : Array Nat} {j i k : Nat} (a : Bel xs j i) (b : Bel xs j k) : i = k := by
  have one : ∀ {i k : Nat}, Bel xs j i → Bel xs j k → ¬ i < k := fun {i k} a b l => by
    have hi : i < xs.size := by have := b.le; omega
    have e : xs[i]? = some xs[i] := Array.getElem?_eq_getElem hi
    have := b.lo i _ l e
    have := a.hi i _ (Nat.le_refl _) e
    omega
  have := one a b
  have := one b a
  omega
end L2

set_option Elab.async false
set_option linter.all false
set_option maxRecDepth 100000
namespace L2
open PySem PySem.Spec
structure TOk (es : Array (Int × Value)) (t : SetTable) : Prop where
  ris : Ris t.place
  fit : t.fits es.size = true
theorem TOk.size {es : Array (Int × Value)} {t : SetTable} (h : TOk es t) : t.place.size = es.size := by
  have := h.fit
  unfold SetTable.fits at this
  simp at this
  exact this.1
end L2

set_option Elab.async false
set_option linter.all false
set_option maxRecDepth 100000
namespace L2
open PySem PySem.Spec PyProof.Rows
def IsIt (e : Int × Value) : Prop := ∃ (n : Int) (t : Tok), e = (hashInt n, Value.int n t)
def kvI : Value → Int
  | .int n _ => n
  | _ => 0
def KS (es : Array (Int × Value)) : List Int := es.toList.map fun e => kvI e.2
abbrev setO (es : Array (Int × Value)) (ep : Nat) (t : SetTable) : Obj := { cls := .type "set", dict := none, data := .set es ep t, slots := #[] }
structure SetT (w : World) (h : Heap) (a : Addr) (es : Array (Int × Value)) (ep : Nat) (t : SetTable) : Prop where
  obj : h.get? a = some (setO es ep t)
  ok : TOk es t
  led : w.params.followText "set-order" = false → t.led = true
  its : ∀ e ∈ es.toList, IsIt e
  nd : (KS es).Nodup
theorem SetT.at {w : World} {h h' : Heap} {a : Addr} {es : Array (Int × Value)} {ep : Nat} {t : SetTable} (T : SetT w h a es ep t) (k : ∀ o, h.get? a = some o → h'.get? a = some o) : SetT w h' a es ep t :=
  ⟨k _ T.obj, T.ok, T.led, T.its, T.nd⟩
section
variable {prog : Program} {w : World} {A : Around} {E : Value → Shared → Prop} {s : Shared}
end
end L2

set_option Elab.async false
set_option linter.all false
set_option maxRecDepth 100000
set_option maxHeartbeats 4000000
namespace L2
open PySem PySem.Spec PyProof.Rows
section
variable {prog : Program} {w : World} {A : Around} {R : Result → Shared → Prop} {I : Addr} {fp wr : List Addr} {G : Array GenState → Array GenState → Prop} {n : Nat} {P : Nat → Value → Prop} {St : Nat → Shared → Prop}
end
section
variable {prog : Program} {w : World} {A : Around} {E : Value → Shared → Prop} {s : Shared}
end
end L2

set_option Elab.async false
set_option linter.all false
set_option maxRecDepth 100000
set_option maxHeartbeats 4000000
namespace L2
open PySem PySem.Spec PyProof.Rows
section
variable {prog : Program} {w : World} {A : Around} {E : Value → Shared → Prop}
end
end L2

set_option Elab.async false
set_option linter.all false
set_option maxRecDepth 100000
set_option maxHeartbeats 4000000
namespace L2
open PySem PySem.Spec PyProof.Rows
section
variable {prog : Program} {w : World} {A : Around} {E : Value → Shared → Prop} {s : Shared}

end
end L2

set_option Elab.async false
set_option linter.all false
set_option maxRecDepth 100000
set_option maxHeartbeats 4000000
namespace L2
open PySem PySem.Spec PyProof.Rows
section
variable {prog : Program} {w : World} {A : Around} {E : Value → Shared → Prop} {s : Shared}
end
end L2

set_option Elab.async false
set_option linter.all false
set_option maxRecDepth 100000
set_option maxHeartbeats 4000000
namespace L2
open PySem PySem.Spec PyProof.Rows
end L2

set_option Elab.async false
set_option linter.all false
set_option maxRecDepth 100000
set_option maxHeartbeats 4000000
namespace L2
open PySem PySem.Spec PyProof.Rows
def TabSh (P : Addr) (h : Heap) : Prop := ∃ ps : Array Value, h.get? P = some { cls := .none, data := .fields ps } ∧ TriplesOk ps.toList
abbrev tabX (P : Addr) : HO := .ext (TabSh P)
theorem upd_self {H : Hp} {a : Addr} {o : HO} (h : H a = some o) : upd H a o = H := by
  funext b
  unfold upd
  split
  · rename_i e
    rw [e, h]
  · rfl
theorem tabX_ok {P : Program} {w : World} {H : Hp} {h : Heap} {a : Addr} {ps : Array Value} (e : h.get? a = some { cls := .none, data := .fields ps }) (t : TriplesOk ps.toList) : ObjOk P w H h a (tabX a) :=
  ⟨⟨ps, e, t⟩, ⟨_, e⟩, fun h1 h2 ⟨qs, e1, t1⟩ k => ⟨qs, k _ e1, t1⟩⟩
section
variable {X : Cx} {pins : List (Addr × Obj)} {σ : St} {H : Hp} {s : Shared}
theorem Inv.same {s' : Shared} (I : Inv X pins σ H s) (hh : s'.heap = s.heap) (ho : s'.os = s.os) (hg : AllBare s'.gens) : Inv X pins σ H s' := by
  obtain ⟨h', g', d', t', o'⟩ := s'
  obtain ⟨h, g, d, t, o⟩ := s
  cases hh
  cases ho
  exact ⟨I.ok, I.os, hg, I.base, I.loc, I.cell, I.free, I.freeC, I.pin, I.hok, I.len⟩
theorem gen_code {pos : Pos} {q : Str} {scope : Scope} {c P : Addr} {Q : Value → Shared → Prop} {A : Around} {E : Value → Shared → Prop} (I : Inv X pins σ H s) (hcode : X.env.code = .ref c) (C : PySem.W.CodeHd X.base c P) (hP : H P = some (tabX P))
    (h : ∀ code s', Inv X pins σ H s' → s'.gens = s.gens → (∀ b o, b ≠ P → s.heap.get? b = some o → s'.heap.get? b = some o) → Q code s') :
    wpAny (model X.prog X.w) A (genexprCode X.env pos q scope) Q E s := by
  obtain ⟨⟨ps, eP, hT⟩, _⟩ := I.hok P _ hP
  have C' := C.keeps I.bk
  obtain ⟨o, vs, file, tf, flags, tg, inF, text, tt, op, ho, hd, h11, h2, h7, h9, h10, hop, hpd, htr, hne⟩ := C'.code eP hT
  rw [eP] at hop
  cases hop
  unfold genexprCode codeAt
  rw [hcode, if_neg (show ¬ ((Value.ref c == Value.none) = true) from Bool.false_ne_true)]
  refine wpAny_bind (wpAny_fieldsOf ho hd ?_)
  rw [h11]
  refine wpAny_bind (wpAny_fieldsOf eP rfl ?_)
  cases hnf : codeAmong pos ps.toList with
  | some cv => exact wpAny_pure (h cv s I rfl fun _ _ _ e => e)
  | none =>
    rw [h2, h7, h9, h10]
    refine wpAny_bind (wpAny_newCode fun c' P' h' tk hk hc' hP' hcode' hrec' => ?_)
    have hop' := hk _ _ eP
    refine wpAny_bind (wpAny_updateFieldsOfTheText hop' rfl ?_)
    have hget : (h'.update P fun o => Obj.mapFields (fun vs => if (codeAmong pos vs.toList).isSome = true then vs else vs ++ #[rawInt pos.line, rawInt pos.col, .ref c']) o).get? P = some { cls := .none, data := .fields (ps ++ #[rawInt pos.line, rawInt pos.col, .ref c']) } := by
      have z := Heap.get?_update_self (h := h') (fun o => Obj.mapFields (fun vs => if (codeAmong pos vs.toList).isSome = true then vs else vs ++ #[rawInt pos.line, rawInt pos.col, .ref c']) o) hop' rfl
      rw [z]
      show some (Obj.mapFields _ { cls := .none, data := .fields ps }) = _
      unfold Obj.mapFields
      dsimp only
      rw [hnf]
      rfl
    refine wpAny_bind (wpAny_fieldsOf hget rfl ?_)
    have hl : (ps ++ #[rawInt pos.line, rawInt pos.col, Value.ref c']).toList = ps.toList ++ [rawInt pos.line, rawInt pos.col, .ref c'] := by simp
    rw [hl, codeAmong_snoc _ htr hnf]
    have oth : ∀ b u, b ≠ P → s.heap.get? b = some u → (h'.update P fun o => Obj.mapFields (fun vs => if (codeAmong pos vs.toList).isSome = true then vs else vs ++ #[rawInt pos.line, rawInt pos.col, .ref c']) o).get? b = some u := fun b u hb e => (Heap.SameBut.update ..).extBut b u hb (hk b u e)
    have I1 := I.write (x := P) (e := P) (o := tabX P) (t' := tk) (by rw [hP]; trivial) (.inl rfl) oth ⟨_, hget⟩ (tabX_ok hget (by rw [hl]; exact TriplesOk_snoc _ _ _ _ htr))
    rw [upd_self hP] at I1
    exact wpAny_pure (h _ _ I1 rfl oth)
theorem gen_blt {A : Around} {E : Value → Shared → Prop} {Q : Addr → Shared → Prop} (I : Inv X pins σ H s) (B : BmOk X.mg X.base) (h : Q builtinsNs s) : wpAny (model X.prog X.w) A (builtinsFor X.env.globals X.env.builtins) Q E s := by
  obtain ⟨bm, ob, b1, b2, b3, b4, b5, b6⟩ := B
  have hgs : s.heap.Ns X.env.globals X.mg := by rw [I.ok.glob]; exact I.mod.glob.keeps I.bk
  exact wpAny_builtinsFor hgs b1 b2 (I.bk _ _ b3) b4 b5 b6 h
end
def genA (A : Around) (cenv : Env) : Around := ⟨A.handled, A.depth + 1, A.frames.map (cenv :: ·), A.guards, A.units + 5⟩
theorem Room.gen {k : Nat} {A : Around} (r : Room (k + 1) A) (cenv : Env) : Room k (genA A cenv) :=
  ⟨r.hd, by have := r.dp; show A.depth + 1 + 3 * k + 5 < _; omega, by have := r.un; show A.units + 5 + 16 * k + 200 < _; omega⟩
abbrev Cx.gen (X : Cx) (s : Shared) (H : Hp) (cenv : Env) (fp : List Addr) : Cx := { X with A := genA X.A cenv, s_0 := s, H_0 := H, env := cenv, outer := X.stack, stack := cenv :: X.stack, ex := fp, fn := fun _ => false, pn := [], xe := fun _ _ => False }
section
variable {X : Cx} {pins : List (Addr × Obj)} {σ : St} {H : Hp} {s : Shared}
theorem gen_start {scope : Scope} {own : List (Str × Nat)} {fp : List Addr} {code it : Value} {h' : Heap} {go : Obj} {gs : GenState} {tk : Nat} (I : Inv X pins σ H s) (ok : BlkOk X.N X.env.scope scope own) (hN : X.N.Nodup) (hfp : ∀ b ∈ fp, FpOk X pins H b ∧ b < s.heap.objs.size) (hnc : ∀ y ∈ scope.names, y.2 ≠ .cell)
    (hn : h'.Ns s.heap.objs.size (fun y => if y = ".0" then some it else none)) (hs : Heap.SameBut s.heap.objs.size (s.heap.push { cls := .type "frame", data := .dict #[] }) h') (hgo : ∀ v, go.data ≠ .cell v) (hfr : go.isFreed = false) (hb : gs.bare = true) :
    Inv (X.gen s H (genEnv scope (cloFrom X.env.cells scope.names []) s.heap.objs.size code builtinsNs X.env) fp) [(h'.objs.size, go)] (wipe σ (own.map (·.2))) H { s with gens := s.gens.push gs, toks := tk, heap := h'.push go } := by
  have hfree : ∀ y ∈ scope.names, y.2 = .free → ∃ c, X.env.cells.lookup y.1 = some c := fun y hy e => by
    rcases ok.free y hy e with k | k
    · exact I.ok.has _ (.inl k)
    · exact I.ok.has _ (.inr k)
  have kp : ∀ b o, s.heap.get? b = some o → (h'.push go).get? b = some o := fun b o e => Heap.get?_push_of_some _ (hs.extBut b o (Nat.ne_of_lt (Heap.lt_size e)) (Heap.get?_push_of_some _ e))
  have hsz : h'.objs.size = s.heap.objs.size + 1 := by rw [hs.1, Heap.size_push]
  generalize hcenv : genEnv scope (cloFrom X.env.cells scope.names []) s.heap.objs.size code builtinsNs X.env = cenv
  have hL : cenv.locals = s.heap.objs.size := by rw [← hcenv]; rfl
  have hcl : cenv.cells = cloFrom X.env.cells scope.names [] := by rw [← hcenv]; rfl
  have hsc : cenv.scope = scope := by rw [← hcenv]; rfl
  have mem : ∀ {y c}, cenv.cells.lookup y = some c → (y, NameKind.free) ∈ scope.names ∧ X.env.cells.lookup y = some c ∧ c < s.heap.objs.size := fun {y c} e => by
    rw [hcl] at e
    rcases cloFrom_mem (PySem.mem_of_lookup e) with hm | ⟨h1, rfl⟩
    · cases hm
    · obtain ⟨c, hc⟩ := hfree _ h1 rfl
      rw [hc]
      obtain ⟨w, z⟩ := I.cell _ _ hc
      exact ⟨h1, rfl, z.lt⟩
  have look : ∀ {y}, (y, NameKind.free) ∈ scope.names → ∃ c, cenv.cells.lookup y = some c ∧ X.env.cells.lookup y = some c := fun {y} hy => by
    obtain ⟨c', e'⟩ := mem_lookup (cloFrom_has (cells := X.env.cells) (acc := []) hy)
    rw [← hcl] at e'
    exact ⟨c', e', (mem e').2.1⟩
  have okB : (X.gen s H cenv fp).Ok := by
    refine ⟨I.ok.mod, by show cenv.scope.kind = _; rw [hsc]; exact ok.kind, by show cenv.globals = _; rw [← hcenv]; exact I.ok.glob, by show cenv.builtins = _; rw [← hcenv]; rfl, by show s.heap.objs.size ≤ cenv.locals; rw [hL]; exact Nat.le_refl _,
      fun y z c e1 e2 => I.ok.inj y z c (mem e1).2.1 (mem e2).2.1, fun y hy => ?_, fun y c z e => ?_, I.ok.hd, ?_, .inr ⟨rfl, by show cenv.frame = some cenv.locals; rw [← hcenv]; rfl⟩, fun b hb => ⟨?_, fun y c e z => ?_⟩, I.bs, Nat.le_trans I.ok.bsz I.sz, fun b o e hb => ?_, fun b hb z => ?_, I.stack, I.stkFree⟩
    · have key : ∀ k, cenv.kindOf y = some k → (k = .cell ∨ k = .free) → ∃ c, cenv.cells.lookup y = some c := fun k hk hk' => by
        unfold Env.kindOf at hk
        rw [hsc] at hk
        have hm := PySem.mem_of_lookup hk
        rcases hk' with rfl | rfl
        · exact absurd rfl (hnc _ hm)
        · obtain ⟨c, h1, _⟩ := look hm
          exact ⟨c, h1⟩
      rcases hy with hy | hy
      · exact key _ hy (.inl rfl)
      · exact key _ hy (.inr rfl)
    · cases z
    · show (genA X.A cenv).frames = some (cenv :: X.stack)
      unfold genA
      rw [I.ok.frames]
      rfl
    · show b ≠ cenv.locals
      rw [hL]
      exact Nat.ne_of_lt (hfp b hb).2
    · exact (hfp b hb).1.2.2.2.2.1 y c (mem e).2.1 z
    · rcases (hfp b hb).1.2.2.2.1 with z | z
      · exact I.ok.noex b o e z
      · exact absurd (Nat.lt_of_lt_of_le (Heap.lt_size e) (Nat.le_trans I.ok.bsz z)) (Nat.lt_irrefl _)
    · rcases List.mem_cons.mp (I.stkSub b z) with z | z
      · exact (hfp b hb).1.2.1 z
      · exact (hfp b hb).1.2.2.1 z
  have fresh : ∀ b, s.heap.objs.size ≤ b → H b = none := fun b hb => I.hok.fresh hb
  refine ⟨okB, rfl, ?_, Un.kept kp, ⟨fun y => if y = ".0" then some it else none, ?_, fun i y av e1 e2 e3 => ?_⟩, fun y c e => ?_, ?_, fun y c e => I.freeC y c (mem e).2.1, fun p hp => ?_, I.hok.kept kp, by rw [wipe_length]; exact I.len⟩
  · intro y hy
    rcases Array.mem_push.mp hy with z | z
    · exact I.bare y z
    · rw [z]
      exact hb
  · show Heap.Ns _ cenv.locals _
    rw [hL]
    exact hn.push _
  · obtain ⟨e2, hne⟩ := wipe_some e2
    have e3 : Vis cenv.scope y := e3
    rw [hsc] at e3
    have no : ∀ k, scope.names.lookup y = some k → ¬ (k = .local ∨ k = .cell) := fun k e hh => by
      rcases ok.own _ (PySem.mem_of_lookup e) hh with e' | e'
      · obtain ⟨p, hp, hpy⟩ := List.mem_map.mp e'
        have e3 := ok.ix p hp
        have : p.1 = y := hpy
        rw [this] at e3
        exact hne (List.mem_map.mpr ⟨p, hp, nodup_ix hN e3 e1⟩)
      · exact e' (List.mem_of_getElem? e1)
    have hfr : scope.names.lookup y = some .free := by
      rcases e3 with e3 | e3 | e3
      · exact absurd (.inl rfl) (no _ e3)
      · exact absurd (.inr rfl) (no _ e3)
      · exact e3
    have hmf := PySem.mem_of_lookup hfr
    obtain ⟨m, hn, hl⟩ := I.loc
    have hvis : Vis X.env.scope y := (ok.free _ hmf rfl).elim (fun k => .inr (.inl k)) (fun k => .inr (.inr k))
    obtain ⟨w, r, q⟩ := hl i y av e1 e2 hvis
    refine ⟨w, r, .inr ⟨.inr (by show cenv.scope.names.lookup y = _; rw [hsc]; exact hfr), ?_⟩⟩
    obtain ⟨c, h1, h2⟩ := look hmf
    rcases q with ⟨k, _⟩ | ⟨_, c', e', z⟩
    · have k : X.env.scope.names.lookup y = some .local := k
      rcases ok.free _ hmf rfl with k' | k' <;> rw [show X.env.scope.names.lookup y = _ from k'] at k <;> cases k
    · rw [h2] at e'
      cases e'
      exact ⟨c, h1, z.keeps kp⟩
  · obtain ⟨w, z⟩ := I.cell y c (mem e).2.1
    exact ⟨w, z.keeps kp⟩
  · show H cenv.locals = none
    rw [hL]
    exact fresh _ (Nat.le_refl _)
  · have hp : p = (h'.objs.size, go) := by simpa using hp
    subst hp
    refine ⟨Heap.get?_push_size _ hfr, fresh _ (by show _ ≤ h'.objs.size; rw [hsz]; exact Nat.le_succ _), ?_, ?_, hgo⟩
    · show h'.objs.size ≠ cenv.locals
      rw [hL, hsz]
      exact Nat.succ_ne_self _
    · show h'.objs.size ∉ frs X.stack
      intro z
      have := I.stkFree _ z
      rcases List.mem_cons.mp (I.stkSub _ z) with e | e
      · have := I.lt
        rw [← e, hsz] at this
        exact absurd (Nat.lt_of_succ_lt this) (Nat.lt_irrefl _)
      · exact I.nofs (a := h'.objs.size) (by rw [hsz]; exact Nat.le_succ _) e
end
end L2

set_option Elab.async false
set_option linter.all false
set_option maxRecDepth 100000
set_option maxHeartbeats 4000000
namespace L2
open PySem PySem.Spec PyProof.Rows
theorem runs_gens {M : Model} {Γ : PySem.Ctx} {p : Pos} {t : Sem Fin} {fs : List Frame} {s s' : Shared} {e : End} (r : Runs M Γ p t fs s e s') : s.gens.size ≤ s'.gens.size := by
  induction r <;> (try simp only [Shared.setGen, Array.size_setIfInBounds, Array.size_push] at *) <;> omega
theorem wakes_gens {M : Model} {Γ : PySem.Ctx} {p : Pos} {g : Nat} {r : Resume} {s s' : Shared} {res : GenResult} (h : Wakes M Γ p g r s res s') : s.gens.size ≤ s'.gens.size := by
  have step : ∀ {e1 : End} {s1 : Shared} {c : PySem.Ctx} {q : Pos} {t : Sem Fin} {fs : List Frame} {gs : GenState}, Runs M c q t fs (s.setGen g .running) e1 s1 → s.gens.size ≤ (s1.setGen g gs).gens.size := fun {e1 s1 c q t fs gs} hr => by
    have := runs_gens hr
    simpa only [Shared.setGen, Array.size_setIfInBounds] using this
  unfold Wakes at h
  split at h
  · exact h.elim
  · split at h
    · obtain ⟨e1, s1, hr, _, _, rfl⟩ := h
      exact step hr
    · rw [h.2]
      first
        | exact Nat.le_refl _
        | (simp only [Shared.setGen, Array.size_setIfInBounds]; exact Nat.le_refl _)
    · rw [h.2]
      first
        | exact Nat.le_refl _
        | (simp only [Shared.setGen, Array.size_setIfInBounds]; exact Nat.le_refl _)
  · obtain ⟨e1, s1, hr, _, _, rfl⟩ := h
    exact step hr
  · rw [h.2]
    first
      | exact Nat.le_refl _
      | (simp only [Shared.setGen, Array.size_setIfInBounds]; exact Nat.le_refl _)
  · rw [h.2]
    first
      | exact Nat.le_refl _
      | (simp only [Shared.setGen, Array.size_setIfInBounds]; exact Nat.le_refl _)
theorem wp_gens {α : Type} (M : Model) (Γ : PySem.Ctx) (n : Nat) (t : Sem α) : ∀ (Q : α → Pos → Shared → Prop) (E : Value → Pos → Shared → Prop) (p : Pos) (s : Shared), n ≤ s.gens.size → Sem.wp M Γ t Q E p s →
    Sem.wp M Γ t (fun a p' s' => n ≤ s'.gens.size ∧ Q a p' s') (fun e p' s' => n ≤ s'.gens.size ∧ E e p' s') p s := by
  induction t with
  | pure a => exact fun _ _ _ _ k w => ⟨k, w⟩
  | raise e => exact fun _ _ _ _ k w => ⟨k, w⟩
  | unsupported _ => exact fun _ _ _ _ _ w => w
  | finish _ => exact fun _ _ _ _ _ w => w
  | rule _ k ih => exact fun Q E p s hn w => ih () Q E p s hn w
  | «at» p' k ih => exact fun Q E p s hn w => ih () Q E p' s hn w
  | load a _ k ih => exact fun Q E p s hn ⟨o, ho, w⟩ => ⟨o, ho, ih o Q E p s hn w⟩
  | update a _ f k ih => exact fun Q E p s hn w => ⟨w.1, ih () Q E p _ hn w.2⟩
  | loadIfAlive a k ih => exact fun Q E p s hn w => ih _ Q E p s hn w
  | point _ k ih => exact fun Q E p s hn w => ih () Q E p s hn w
  | register _ _ => exact fun _ _ _ _ _ w => w
  | alloc o k ih => exact fun Q E p s hn w => ih _ Q E p _ hn w
  | fresh k ih => exact fun Q E p s hn w => ih _ Q E p _ hn w
  | ask k ih => exact fun Q E p s hn w => ih _ Q E p s hn w
  | choose src m k ih => exact fun Q E p s hn w => ⟨w.1, ih _ Q E p _ hn w.2⟩
  | os q _ k ih => exact fun Q E p s hn w => ih _ Q E p _ hn w
  | call c hd _ _ k ih => exact fun Q E p s hn ⟨r, s1, hr, w⟩ => ⟨r, s1, hr, ih r Q E p s1 (Nat.le_trans hn (runs_gens hr)) w⟩
  | handled own k ih => exact fun Q E p s hn w => ih _ Q E p s hn w
  | genState g k ih => exact fun Q E p s hn ⟨st, hs, w⟩ => ⟨st, hs, ih _ Q E p s hn w⟩
  | newGen c k ih => exact fun Q E p s hn w => ih _ Q E p _ (by simp only [Array.size_push]; omega) w
  | resume g r _ k ih => exact fun Q E p s hn ⟨res, s1, hw, w⟩ => ⟨res, s1, hw, ih res Q E p s1 (Nat.le_trans hn (wakes_gens hw)) w⟩
  | yield _ _ _ _ => exact fun _ _ _ _ _ w => w
  | stack k ih => exact fun Q E p s hn w => ih _ Q E p s hn w
  | fork _ _ => exact fun _ _ _ _ _ w => w
  | thread k ih => exact fun Q E p s hn w => ih _ Q E p s hn w
  | await _ _ _ _ _ => exact fun _ _ _ _ _ w => w
theorem any_gens {α : Type} {M : Model} {A : Around} {s : Shared} {t : Sem α} {Q : α → Shared → Prop} {E : Value → Shared → Prop} (h : wpAny M A t (fun a s' => s.gens.size ≤ s'.gens.size → Q a s') E s) : wpAny M A t Q E s :=
  fun Γ p hΓ => Sem.wp_mono M Γ t (fun _ _ _ w => w.2 w.1) (fun _ _ _ w => w.2) p s (wp_gens M Γ s.gens.size t _ _ p s (Nat.le_refl _) (h Γ p hΓ))
end L2

set_option Elab.async false
set_option linter.all false
set_option maxRecDepth 100000
set_option maxHeartbeats 4000000
namespace L2
open PySem PySem.Spec PyProof.Rows
def tAllG (P : Addr) (wi : TI) (g : TG) (te : TE) (vs : List Nat) : TE := fun σ H Q => wi σ H fun J H1 => H1 P = some (tabX P) ∧ ∃ W : Nat → Nat → Hp → Prop, (∃ m, W 0 m H1) ∧ ∀ i m H, W i m H →
  (J.stop i H ∧ Q (.bl true) H) ∨ (J.go i H ∧ ∃ Nx : Hp → Prop, (∀ H', Nx H' → ∃ m', m' < m ∧ W (i + 1) m' H') ∧ ∀ x H', J.yld i H x H' → g x (wipe σ vs) H' fun σ2 H2 => wipe σ2 vs = wipe σ vs ∧ te σ2 H2 fun y H3 => ∃ b, y = .bl b ∧ if b = true then Nx H3 else Q (.bl false) H3)
section
variable {X : Cx}
def genY (X' : Cx) (pins : List (Addr × Obj)) (σ : St) (Q : VK) : Protocol := fun _ _ v s kap => ∃ (b : Bool) (H : Hp), v = .bool b ∧ Inv X' pins σ H s ∧ (b = false → Q (.bl false) H) ∧
  (b = true → ∀ s'' : Shared, s''.heap = s.heap → s''.os = s.os → AllBare s''.gens → kap (.send .none) s'')
def genP (X' : Cx) (pins : List (Addr × Obj)) (σ : St) (Q : VK) : Nat → Shared → Shared → Prop := fun _ _ s => ∃ H, Inv X' pins σ H s ∧ Q (.bl true) H
abbrev genR (X' : Cx) (pins : List (Addr × Obj)) (σ : St) (Q : VK) : GenEnd := fun n s₀ r s₁ => r = .ok .next ∧ genP X' pins σ Q n s₀ s₁
theorem gen_loop {elt tg iter : Expr} {scope : Scope} {pos : Pos} {g : TG} {te : TE} {vs : List Nat} {σ : St} {Q : VK} {J : It} {W : Nat → Nat → Hp → Prop} {fp : List Addr} {it : Addr} {tn : Nat → Heap → Prop} {s0 : Shared} {H0 : Hp} {cenv : Env} {pin : Addr × Obj} (hc : X.calm = true) (hco : cenv.scope.isCoroutine = false)
    (T : Turn X.prog X.w X.K tg J fp it tn) (pg : PG (X.gen s0 H0 cenv fp) tg g) (pe : PE (X.gen s0 H0 cenv fp) elt te) (hpin : pin.1 ∉ fp)
    (turn : ∀ i m H, W i m H → (J.stop i H ∧ Q (.bl true) H) ∨ (J.go i H ∧ ∃ Nx : Hp → Prop, (∀ H', Nx H' → ∃ m', m' < m ∧ W (i + 1) m' H') ∧ ∀ x H', J.yld i H x H' → g x (wipe σ vs) H' fun σ2 H2 => wipe σ2 vs = wipe σ vs ∧ te σ2 H2 fun y H3 => ∃ b, y = .bl b ∧ if b = true then Nx H3 else Q (.bl false) H3)) :
    ∀ (n i m : Nat) (s₀ s : Shared) (H : Hp), m < n → Inv (X.gen s0 H0 cenv fp) [pin] (wipe σ vs) H s → tn i s.heap → (∀ b ∈ fp, H b = none) → W i m H →
      Seg (model X.prog X.w) X.A.in1.in1 (genR (X.gen s0 H0 cenv fp) [pin] (wipe σ vs) Q) (genY (X.gen s0 H0 cenv fp) [pin] (wipe σ vs) Q) n s₀
        (.compLoop (.GeneratorExp elt [⟨tg, iter, [], 0⟩] scope pos) 0 (.ref it) .none cenv) ((model X.prog X.w).den (.compLoop (.GeneratorExp elt [⟨tg, iter, [], 0⟩] scope pos) 0 (.ref it) .none cenv)) [] s := by
  have stat : ∀ {σ' : St} {H' : Hp} {s' : Shared}, Inv (X.gen s0 H0 cenv fp) [pin] σ' H' s' → (∀ b ∈ fp, H' b = none) → ∀ b ∈ fp, FpOk (X.gen s0 H0 cenv fp) [pin] H' b := fun {σ' H' s'} I' hn b hb =>
    ⟨hn b hb, (I'.ok.exf b hb).1, I'.ok.exfs b hb, .inl hb, fun x c e => (I'.ok.exf b hb).2 x c e, fun p hp z => by
      have hp : p = pin := by simpa using hp
      rw [hp] at z
      exact hpin (z ▸ hb)⟩
  intro n
  induction n with
  | zero => intro i m s₀ s H hm; omega
  | succ n ih =>
    intro i m s₀ s H hm I st hn w
    show Seg _ X.A.in1.in1 _ _ _ s₀ _ ((compTurn (.GeneratorExp elt [⟨tg, iter, [], 0⟩] scope pos) 0 (.ref it) .none cenv).onRaise (leaving cenv)) [] s
    rw [compTurn_gen, Sem.onRaise_eq_wrap]
    refine seg_bind_wrap (wpAny_standAt ?_)
    rcases turn i m H w with ⟨stop, qq⟩ | ⟨go, Nx, hNx, step⟩
    · refine seg_bind_wrap (thnF (T.done (X.gen s0 H0 cenv fp) rfl rfl rfl hc i [pin] s _ H (fun _ _ => False) I (stat I hn) st stop) fun r s6 ⟨hr, I6⟩ => ?_)
      subst hr
      exact seg_end (.ok .next) ⟨rfl, H, I6, qq⟩
    · refine seg_bind_wrap (thnF (T.item (X.gen s0 H0 cenv fp) rfl rfl rfl hc i [pin] s _ H (fun _ _ => False) I (stat I hn) st go) fun r s6 ⟨u, hr, h6⟩ => ?_)
      subst hr
      refine seg_bind_wrap (thnF h6 fun _ s7 ⟨x, H7, I7, r7, y7, st7, n7⟩ => ?_)
      have I7' := I7.pinned (stat I7 n7) (T.obj _ _ st7)
      refine seg_bind_wrap (thnF (pg _ s7 _ H7 x u _ I7' r7 (step x H7 y7)) fun _ s8 ⟨σ8, H8, I8, hw8, q8⟩ => ?_)
      refine seg_bind_wrap (wpAny_tests_nil ?_)
      simp only [if_true]
      have hy : ∀ v, yieldOut cenv v = yieldValue v := fun v => by simp only [yieldOut, hco, Bool.false_eq_true, if_false]
      simp only [hy]
      rw [Sem.bind_eq_wrap', Sem.bind_eq_wrap', Sem.wrap_wrap, Sem.wrap_wrap]
      refine seg_wrap (thnF (pe _ s8 σ8 H8 _ I8 q8) fun z s10 ⟨yv, H10, I10, r10, b, eb, q10⟩ => ?_)
      subst eb
      cases r10
      have pin' : ∀ b ∈ fp, ∀ o, s7.heap.get? b = some o → s10.heap.get? b = some o ∧ H10 b = none := fun b hb o e =>
        let z := I10.pin (b, o) (List.mem_append_right _ (List.mem_append_right _ (mem_pinsAt hb e)))
        ⟨z.1, z.2.1⟩
      have hl : (wipe σ vs).length = σ8.length := by rw [← hw8, wipe_length]
      have I11 : Inv (X.gen s0 H0 cenv fp) [pin] (wipe σ vs) H10 s10 := (I10.unpinned (pins := [pin])).weak hl fun j v e => by
        rw [← hw8] at e
        exact (wipe_some e).1
      refine seg_at (seg_yield rfl rfl rfl ⟨b, H10, rfl, I11, fun eb => ?_, fun eb s'' hh ho hb => ?_⟩)
      · subst eb
        exact q10
      · subst eb
        obtain ⟨m', hm', w'⟩ : ∃ m', m' < m ∧ W (i + 1) m' H10 := hNx _ q10
        refine seg_again rfl (ih (i + 1) m' s'' s'' H10 (by omega) (I11.same hh ho hb) (T.keep _ _ _ st7 fun b hb o e => by rw [hh]; exact (pin' b hb o e).1) (fun b hb => ?_) w')
        obtain ⟨o, e, _⟩ := T.obj _ _ st7 b hb
        exact (pin' b hb o e).2
theorem gen_go {elt tg iter : Expr} {scope : Scope} {pos : Pos} {it : Addr} {cenv : Env} {R : GenEnd} {Y : Protocol} {n : Nat} {s₀ s : Shared} {tn : Nat → Heap → Prop} {J : It} {fp : List Addr} (T : Turn X.prog X.w X.K tg J fp it tn) (st : tn 0 s.heap)
    (h : Seg (model X.prog X.w) X.A.in1.in1 R Y n s₀ (.compLoop (.GeneratorExp elt [⟨tg, iter, [], 0⟩] scope pos) 0 (.ref it) .none cenv) ((model X.prog X.w).den (.compLoop (.GeneratorExp elt [⟨tg, iter, [], 0⟩] scope pos) 0 (.ref it) .none cenv)) [] s) :
    Seg (model X.prog X.w) X.A.in1.in1 R Y n s₀ (.compStart (.GeneratorExp elt [⟨tg, iter, [], 0⟩] scope pos) 0 (.ref it) .none cenv) ((model X.prog X.w).den (.compStart (.GeneratorExp elt [⟨tg, iter, [], 0⟩] scope pos) 0 (.ref it) .none cenv)) [] s := by
  show Seg _ X.A.in1.in1 _ _ _ s₀ _ ((compStart (.GeneratorExp elt [⟨tg, iter, [], 0⟩] scope pos) 0 (.ref it) .none cenv).onRaise (leaving cenv)) [] s
  unfold compStart
  rw [Sem.onRaise_eq_wrap]
  show Seg _ X.A.in1.in1 _ _ _ s₀ _ ((ask >>= _).wrap _ _ _ _) [] s
  refine seg_bind_wrap (wpAny_askSetting ?_)
  split
  · exact seg_again rfl h
  · refine seg_bind_wrap (wpAny_rule ?_)
    show Seg _ X.A.in1.in1 _ _ _ s₀ _ ((standAt iter.pos >>= _).wrap _ _ _ _) [] s
    exact seg_bind_wrap (wpAny_standAt (seg_bind_wrap (T.self _ 0 s _ _ st (seg_again rfl h))))
theorem setGen_bare {s : Shared} {g : Nat} {gs : GenState} (h : AllBare s.gens) (hb : gs.bare = true) : AllBare (s.setGen g gs).gens := by
  intro y hy
  obtain ⟨i, e⟩ := Array.mem_iff_getElem?.mp hy
  have e : (s.gens.setIfInBounds g gs)[i]? = some y := e
  by_cases z : g = i
  · subst z
    by_cases hl : g < s.gens.size
    · rw [Array.getElem?_setIfInBounds_self_of_lt hl] at e
      cases e
      exact hb
    · rw [Array.getElem?_eq_none (by rw [Array.size_setIfInBounds]; omega)] at e
      cases e
  · rw [Array.getElem?_setIfInBounds_ne z] at e
    exact h y (Array.mem_of_getElem? e)
theorem all_loop {X' : Cx} {pins : List (Addr × Obj)} {σ : St} {Q : VK} {a : Addr} {g : Nat} {R : Result → Shared → Prop} {go : Obj} (hh : X.A.handled = none) (hroom : X.A.depth < recursionLimit) (ho : ∃ nm qn, go.cls = .type "generator" ∧ go.data = .fields #[.int g 0, nm, qn] ∧ go.slots = #[]) (hp : X'.prog = X.prog) (hw : X'.w = X.w)
    (hT : ∀ s H, Inv X' ((a, go) :: pins) σ H s → Q (.bl true) H → R (.ok (.ret (.bool true))) s) (hF : ∀ s H, Inv X' ((a, go) :: pins) σ H s → Q (.bl false) H → R (.ok (.ret (.bool false))) s) :
    ∀ (n : Nat) (s : Shared) (gs : GenState) (H : Hp), Inv X' ((a, go) :: pins) σ H s → s.gens[g]? = some gs → gs.Goes (model X.prog X.w) X.A.in1.in1 (genR X' ((a, go) :: pins) σ Q) (genY X' ((a, go) :: pins) σ Q) n (.send .none) (s.setGen g .running) →
      codeAny (model X.prog X.w) X.A (.builtin "all.loop" ⟨[.ref a], []⟩) R s := by
  obtain ⟨nm, qn, o1, o2, o3⟩ := ho
  have isg : ∀ {s : Shared} {H : Hp}, Inv X' ((a, go) :: pins) σ H s → s.heap.IsGen a g := fun {s H} I => ⟨go, nm, qn, (I.pin (a, go) (List.mem_append_right _ List.mem_cons_self)).1, o1, o2, o3⟩
  intro n
  induction n with
  | zero =>
    intro s gs H I hgs hgo
    refine codeAny_builtin F.entry_all_loop ?_
    rw [Around.under_plainId F.plain_all_loop _]
    show wpAny _ X.A.in1 (pyNext (.ref a) >>= _) _ _ s
    refine wpAny_bind (wpAny_pyNext_genexpQ (P := genP X' ((a, go) :: pins) σ Q) hh I.nolimit hroom (isg I) hgs hgo (fun v s₁ gs' hb hv => ?_) (fun s₁ hP h' hk => ?_))
    · obtain ⟨b, H1, rfl, I1, hf, ht⟩ := hv
      cases b with
      | true => exact False.elim (ht rfl s₁ rfl rfl I1.bare)
      | false =>
        refine wpAny_bind (wpAny_holding (wpAny_truthy_bool (wpAny_bind (wpAny_letGo ?_))))
        simp only [Bool.false_eq_true, if_false]
        refine wpAny_bind (wpAny_rule (wpAny_pure ?_))
        exact hF _ H1 (I1.same rfl rfl (setGen_bare I1.bare hb)) (hf rfl)
    · obtain ⟨H1, I1, q⟩ := hP
      refine wpAny_bind (wpAny_rule (wpAny_pure ?_))
      exact hT _ H1 ((I1.kept (t' := s₁.toks) hk).same rfl rfl (setGen_bare (gs := .finished) I1.bare rfl)) q
  | succ n ih =>
    intro s gs H I hgs hgo
    refine codeAny_builtin F.entry_all_loop ?_
    rw [Around.under_plainId F.plain_all_loop _]
    show wpAny _ X.A.in1 (pyNext (.ref a) >>= _) _ _ s
    refine wpAny_bind (any_gens (wpAny_pyNext_genexpQ (P := genP X' ((a, go) :: pins) σ Q) hh I.nolimit hroom (isg I) hgs hgo (fun v s₁ gs' hb hv hle => ?_) (fun s₁ hP h' hk hle => ?_)))
    · obtain ⟨b, H1, rfl, I1, hf, ht⟩ := hv
      have I2 := I1.same (s' := s₁.setGen g gs') rfl rfl (setGen_bare I1.bare hb)
      refine wpAny_bind (wpAny_holding (wpAny_truthy_bool (wpAny_bind (wpAny_letGo ?_))))
      cases b with
      | true =>
        simp only [if_true]
        refine wpAny_pure ⟨plainId_quiet F.plain_all_loop _, ih (s₁.setGen g gs') gs' H1 I2 ?_ (ht rfl _ rfl rfl (setGen_bare (gs := .running) I2.bare rfl))⟩
        have hlt : g < s.gens.size := (Array.getElem?_eq_some_iff.mp hgs).1
        have hsz : (s₁.setGen g gs').gens.size = s₁.gens.size := Array.size_setIfInBounds
        exact Array.getElem?_setIfInBounds_self_of_lt (by omega)
      | false =>
        simp only [Bool.false_eq_true, if_false]
        exact wpAny_bind (wpAny_rule (wpAny_pure (hF _ H1 I2 (hf rfl))))
    · obtain ⟨H1, I1, q⟩ := hP
      refine wpAny_bind (wpAny_rule (wpAny_pure ?_))
      exact hT _ H1 ((I1.kept (t' := s₁.toks) hk).same rfl rfl (setGen_bare (gs := .finished) I1.bare rfl)) q
theorem pe_allG {elt tg iter : Expr} {scope : Scope} {own : List (Str × Nat)} {p gpos pos : Pos} {wi : TI} {g : TG} {te : TE} {c P : Addr} (B : BmOk X.mg X.base) (hcode : X.env.code = .ref c) (C : PySem.W.CodeHd X.base c P) (hc : X.calm = true) (hN : X.N.Nodup) (hr : Room 1 X.A)
    (hgl : Gl X "all") (hm : X.mg "all" = none) (hi : PI X tg iter wi) (ok : BlkOk X.N X.env.scope scope own) (hnc : ∀ y ∈ scope.names, y.2 ≠ .cell) (h0 : scope.names.lookup (".0" : Str) = some NameKind.local) (hco : scope.isCoroutine = false)
    (hg : ∀ (s : Shared) (H : Hp) (L : Addr) (code : Value) (cl : List (Str × Addr)) (fp : List Addr), PG (X.gen s H (genEnv scope cl L code builtinsNs X.env) fp) tg g)
    (he : ∀ (s : Shared) (H : Hp) (L : Addr) (code : Value) (cl : List (Str × Addr)) (fp : List Addr), PE (X.gen s H (genEnv scope cl L code builtinsNs X.env) fp) elt te)
    (hs : ∀ x, genFold iter X.env x = pure x := by intro _; rfl)
    (hse : starEach [.GeneratorExp elt [⟨tg, iter, [], 0⟩] scope gpos] X.env = [(false, eval (.GeneratorExp elt [⟨tg, iter, [], 0⟩] scope gpos) X.env)] := by rfl) :
    PE X (.Call (.Name "all" p) [.GeneratorExp elt [⟨tg, iter, [], 0⟩] scope gpos] [] pos) (tAllG P wi g te (own.map (·.2))) := by
  intro pins s σ H Q I h
  have hfree : ∀ y ∈ scope.names, y.2 = .free → ∃ c, X.env.cells.lookup y.1 = some c := fun y hy e => by
    rcases ok.free y hy e with k | k
    · exact I.ok.has _ (.inl k)
    · exact I.ok.has _ (.inr k)
  have hh := I.ok.hd hc
  refine wpAny_Call_Name_kw (ld_blt I hgl hm (show bootBuiltins "all" = some (.builtin "all") by decide +kernel) ?_)
  refine PyProof.Rows.callWith_builtin1 ?_ (by rw [hse]; rfl) rfl
  rw [hse]
  show wpAny _ _ (spliced ((false, eval (.GeneratorExp elt [⟨tg, iter, [], 0⟩] scope gpos) X.env) :: backTo pos [])) _ _ s
  refine Calls.spliced_cons (wpAny_GeneratorExp_make hco (closure_ok hfree) hnc h0 ok.kind hr.depth (thn (hi pins s σ H _ I h) fun xv s1 hx => thn hx fun itv s2 h2 => ?_) hs)
  obtain ⟨it, fp, tn, J, H2, rfl, I2, T, st2, f2, hP2, W, ⟨m0, w0⟩, turn⟩ := h2
  refine ⟨I2.nolimit, gen_code I2 hcode C hP2 fun code s3 I3 eg keep3 => gen_blt I3 B fun h' hn' hs' => Calls.spliced_nil ?_⟩
  have nP : ∀ b ∈ fp, b ≠ P := fun b hb z => by
    have q := (f2 b hb).1
    rw [z, hP2] at q
    cases q
  have st3 : tn 0 s3.heap := T.keep _ _ _ st2 fun b hb o e => keep3 b o (nP b hb) e
  have f3 : ∀ b ∈ fp, FpOk X pins H2 b ∧ b < s3.heap.objs.size := fun b hb => by
    obtain ⟨o, e, _⟩ := T.obj _ _ st3 b hb
    exact ⟨f2 b hb, Heap.lt_size e⟩
  generalize hgo : ({ cls := .type "generator", data := .fields #[.int s3.gens.size 0, .str "<genexpr>" (s3.toks + 1), .str (X.env.qual ++ "<genexpr>") (s3.toks + 1 + 1)] } : Obj) = go
  have ho : ∃ nm qn, go.cls = .type "generator" ∧ go.data = .fields #[.int s3.gens.size 0, nm, qn] ∧ go.slots = #[] := by
    rw [← hgo]
    exact ⟨_, _, rfl, rfl, rfl⟩
  have I4 := gen_start (code := code) (it := .ref it) (go := go) (gs := .fresh (.compStart (.GeneratorExp elt [⟨tg, iter, [], 0⟩] scope gpos) 0 (.ref it) .none (genEnv scope (cloFrom X.env.cells scope.names []) s3.heap.objs.size code builtinsNs X.env))) (tk := s3.toks + 1 + 1 + 1)
    I3 ok hN f3 hnc hn' hs' (fun v z => by rw [← hgo] at z; cases z) (by rw [← hgo]; rfl) rfl
  have pg := hg s3 H2 s3.heap.objs.size code (cloFrom X.env.cells scope.names []) fp
  have pe := he s3 H2 s3.heap.objs.size code (cloFrom X.env.cells scope.names []) fp
  have hsz : h'.objs.size = s3.heap.objs.size + 1 := by rw [hs'.1, Heap.size_push]
  have hpin : h'.objs.size ∉ fp := fun z => by
    have := (f3 _ z).2
    rw [hsz] at this
    exact absurd (Nat.lt_of_succ_lt this) (Nat.lt_irrefl _)
  have kp : ∀ b o, s3.heap.get? b = some o → (h'.push go).get? b = some o := fun b o e => Heap.get?_push_of_some _ (hs'.extBut b o (Nat.ne_of_lt (Heap.lt_size e)) (Heap.get?_push_of_some _ e))
  generalize hce : genEnv scope (cloFrom X.env.cells scope.names []) s3.heap.objs.size code builtinsNs X.env = ce at I4 pg pe ⊢
  have hcc : ce.scope.isCoroutine = false := by rw [← hce]; exact hco
  generalize hs5 : ({ s3 with gens := s3.gens.push (.fresh (.compStart (.GeneratorExp elt [⟨tg, iter, [], 0⟩] scope gpos) 0 (.ref it) .none ce)), toks := s3.toks + 1 + 1 + 1, heap := h'.push go } : Shared) = s5 at I4 ⊢
  have st5 : tn 0 s5.heap := T.keep _ _ _ st3 fun b hb o e => by rw [← hs5]; exact kp b o e
  have hg5 : s5.gens[s3.gens.size]? = some (.fresh (.compStart (.GeneratorExp elt [⟨tg, iter, [], 0⟩] scope gpos) 0 (.ref it) .none ce)) := by rw [← hs5]; exact Array.getElem?_push_size ..
  have back : ∀ s' H', Inv (X.gen s3 H2 ce fp) [(h'.objs.size, go)] (wipe σ (own.map (·.2))) H' s' → Inv X pins σ H' s' := fun s' H' I' => I3.call' (ch := fp) I'.os I'.base I'.hok I'.bare fun b hb => ⟨(f3 b hb).1.2.2.2.1, (f3 b hb).1.2.1, (f3 b hb).1.2.2.2.2.1, (f3 b hb).1.2.2.2.2.2⟩
  have n5 : ∀ b ∈ fp, H2 b = none := fun b hb => (f2 b hb).1
  have I5 := I4.same (s' := s5.setGen s3.gens.size .running) rfl rfl (setGen_bare (gs := .running) I4.bare rfl)
  refine PySem.call_function_tree F.kind_all F.plain_all F.entry_all (F.args_all1 _) ?_
  unfold Builtin.«all»
  refine wpAny_bind (m := oneArg "all" _) (wpAny_pure ?_)
  have hge : s5.heap.IsGen h'.objs.size s3.gens.size := by
    obtain ⟨nm, qn, o1, o2, o3⟩ := ho
    exact ⟨go, nm, qn, (I4.pin (h'.objs.size, go) (by simp)).1, o1, o2, o3⟩
  refine wpAny_bind (wpAny_pyIter_gen hge (wpAny_pure ⟨plainId_quiet F.plain_all_loop _, ?_⟩))
  refine all_loop (X' := X.gen s3 H2 ce fp) (pins := []) (σ := wipe σ (own.map (·.2))) (Q := Q) hh hr.depth ho rfl rfl (fun s' H' I' q => ?_) (fun s' H' I' q => ?_) (m0 + 1) s5 _ H2 I4 hg5 ⟨rfl, gen_go T st5 (gen_loop (vs := own.map (·.2)) hc hcc T pg pe hpin turn (m0 + 1) 0 m0 _ _ H2 (Nat.lt_succ_self _) I5 st5 n5 w0)⟩
  · exact ⟨.bl true, H', back s' H' I', rfl, q⟩
  · exact ⟨.bl false, H', back s' H' I', rfl, q⟩
end
end L2

set_option Elab.async false
set_option linter.all false
set_option maxRecDepth 100000
set_option maxHeartbeats 4000000
namespace L2
open PySem PySem.Spec PyProof.Rows
structure OnlyG (ts gs : List Addr) (H : Hp) : Prop where
  at' : ∀ P ∈ ts, H P = some (.tbl #[])
  ag : ∀ P ∈ gs, H P = some (tabX P)
  rest : ∀ b, b ∉ ts → b ∉ gs → H b = none ∨ ∃ o xs, H b = some (.frz o (.lst xs))
def spLawG (K : PySem.W.Frag) (ts gs : List Addr) : Sp := fun vs H Q _ => ∃ (a : Addr) (ns : List Int), vs = [.ref a] ∧ SqL K H a (ns.map V.int) ∧ ns.length ≤ 63 ∧ (∀ P ∈ ts, H P = some (.tbl #[])) ∧ (∀ P ∈ gs, H P = some (tabX P)) ∧ ∀ H', (∀ P ∈ gs, H' P = some (tabX P)) → Q (.bl true) H'
theorem law_callG {P : Program} {w : World} {K : PySem.W.Frag} {mg mb : Str → Option Value} {CX : CXT} {k : Nat} {fa a : Addr} {fd : FuncData} {x : Str} {s₁ : Shared} {vs : List Value} {ns : List Int} {ts gs : List (Addr × Addr)}
    (KX : K.In s₁.heap) (hns : s₁.heap.Ns mainGlobals mg) (hb : s₁.heap.Ns builtinsNs mb) (hbb : ∀ x : Str, x ≠ "__name__" → mb x = bootBuiltins x) (hlim : s₁.heap.NoLimit) (hg : s₁.gens = #[]) (hbm : BmOk mg s₁.heap)
    (hts : ∀ q ∈ ts ++ gs, s₁.heap.IsCode q.1 q.2 #[] ∧ s₁.heap.TableAt q.1 q.2 #[] ∧ K.lookup q.2 = none) (dj : ∀ P ∈ gs.map (·.2), P ∉ ts.map (·.2))
    (ha : s₁.heap.get? a = some { cls := .type "list", data := .seq vs.toArray }) (hi : IntsAre vs ns) (hl : ns.length ≤ 63) (hr : Room k callerA)
    (F : ∀ base : Heap, K.In base → base.Ns mainGlobals mg → BmOk mg base → FnOk P w K mg base CX k fa fd [x] (spLawG K (ts.map (·.2)) (gs.map (·.2)))) (hbind : ∀ (s : Shared) (u : Value), BindsTo s fd ⟨[u], []⟩ [(x, u)])
    (hCX : ∀ H e s', CX [] H s₁ (fun _ _ _ => False) e s' → False) :
    codeAny (model P w) callerA (.call (.ref fa) ⟨[.ref a], []⟩) (fun r s' => r = .ok (.ret (.bool true)) ∧ OldK s₁.heap s'.heap ∧ s'.os = s₁.os ∧ AllBare s'.gens) s₁ := by
  have rv := vals_ints hi
  have lenV := hi.length
  have hl' : ns.length ≤ sizeLine := by rw [sizeLine_eq]; omega
  have tabq : ∀ {b : Addr}, b ∈ (ts ++ gs).map (·.2) → s₁.heap.get? b = some { cls := .none, data := .fields #[] } ∧ K.lookup b = none ∧ ∃ q ∈ ts ++ gs, q.2 = b := fun {b} hb => by
    obtain ⟨q, hq, rfl⟩ := List.mem_map.mp hb
    exact ⟨(hts q hq).2.1.2, (hts q hq).2.2, q, hq, rfl⟩
  have inT : ∀ {b : Addr}, b ∈ ts.map (·.2) → b ∈ (ts ++ gs).map (·.2) := fun h => by rw [List.map_append]; exact List.mem_append_left _ h
  have inG : ∀ {b : Addr}, b ∈ gs.map (·.2) → b ∈ (ts ++ gs).map (·.2) := fun h => by rw [List.map_append]; exact List.mem_append_right _ h
  have tab : ∀ {b : Addr}, b ∈ (ts ++ gs).map (·.2) → s₁.heap.get? b = some { cls := .none, data := .fields #[] } := fun h => (tabq h).1
  have nta : a ∉ (ts ++ gs).map (·.2) := fun z => by
    rw [tab z] at ha
    cases ha
  have core : ∀ H : Hp, OnlyG (ts.map (·.2)) (gs.map (·.2)) H → SqL K H a (ns.map V.int) → HOk P w H s₁.heap → (∀ b, H b ≠ none → b = a ∨ b ∈ (ts ++ gs).map (·.2)) → (H a ≠ none → K.lookup a = none) →
      codeAny (model P w) callerA (.call (.ref fa) ⟨[.ref a], []⟩) (fun r s' => r = .ok (.ret (.bool true)) ∧ OldK s₁.heap s'.heap ∧ s'.os = s₁.os ∧ AllBare s'.gens) s₁ := by
    intro H hO hS hok hA hK
    have base_of : ∀ {b : Addr} {o : Obj}, s₁.heap.get? b = some o → H b = none → (hidT s₁.heap H).get? b = some o := fun e n => hidT_get e n
    have noA : ∀ {b : Addr} {o : Obj}, s₁.heap.get? b = some o → (∀ its n, o.data ≠ .seq its n) → (∀ fs, o.data ≠ .fields fs) → H b = none := fun {b o} e d1 d2 => by
      cases q : H b with
      | none => rfl
      | some u =>
        rcases hA b (by rw [q]; simp) with e' | e'
        · subst e'
          rw [ha] at e
          cases e
          exact absurd rfl (d1 _ _)
        · rw [tab e'] at e
          cases e
          exact absurd rfl (d2 _)
    have nsK : ∀ {b : Addr} {m : Str → Option Value}, s₁.heap.Ns b m → (hidT s₁.heap H).Ns b m := fun {b m} ⟨o, es, ep, e, d, r⟩ => ⟨o, es, ep, base_of e (noA e (fun _ _ z => by rw [d] at z; cases z) fun _ z => by rw [d] at z; cases z), d, r⟩
    have hKb : K.In (hidT s₁.heap H) := fun b o e => base_of (KX b o e) (by
      cases q : H b with
      | none => rfl
      | some u =>
        rcases hA b (by rw [q]; simp) with e' | e'
        · subst e'
          rw [hK (by rw [q]; simp)] at e
          cases e
        · rw [(tabq e').2.1] at e
          cases e)
    have hM : Mod K mg (hidT s₁.heap H) := ⟨hKb, nsK hns, ⟨mb, nsK hb, hbb⟩, let ⟨mc, h1, h2⟩ := hlim; ⟨mc, nsK h1, h2⟩⟩
    have hbm' : BmOk mg (hidT s₁.heap H) := by
      obtain ⟨bm, ob, b1, b2, b3, b4, b5, b6⟩ := hbm
      exact ⟨bm, ob, b1, b2, base_of b3 (noA b3 (fun _ _ z => by rw [b6] at z; cases z) fun _ z => by rw [b6] at z; cases z), b4, b5, b6⟩
    have e0 : Env0 P w K mg (hidT s₁.heap H) callerA [] s₁ H := ⟨rfl, hM, fun b o e => of_hidT e, Nat.le_of_eq (hidT_size _ _), trivial, fun b hb => absurd (show b ∈ ([] : List Addr) from hb) (by simp), hok, .of_eq hg⟩
    refine codeAny_mono ((F _ hKb (nsK hns) hbm').run callerA [] s₁ H ⟨[.ref a], []⟩ [.ref a] [.ref a] (fun v H' => v = .bl true ∧ ∀ Q ∈ gs.map (·.2), H' Q = some (tabX Q)) (fun _ _ _ => False) hr e0 (hbind s₁ (.ref a)) (.cons rfl .nil) ⟨a, ns, rfl, hS, hl, hO.at', hO.ag, fun H' z => ⟨rfl, z⟩⟩) fun r s' h => ?_
    cases r with
    | error e => exact (hCX H e s' h).elim
    | ok fl =>
      cases fl with
      | next => exact False.elim h
      | brk => exact False.elim h
      | cont => exact False.elim h
      | ret u =>
        obtain ⟨v, H', os, bare, un, hok', r', q⟩ := h
        obtain ⟨q', qg⟩ : v = .bl true ∧ ∀ Q ∈ gs.map (·.2), H' Q = some (tabX Q) := q
        subst q'
        obtain rfl : u = Value.bool true := r'
        refine ⟨rfl, ⟨fun b o e => ?_, fun b o e => un.there b o e (by simp)⟩, os, bare⟩
        by_cases hbt : b ∈ ts.map (·.2)
        · obtain ⟨more, z⟩ := un.tbls b _ (hO.at' b hbt)
          have z2 : s'.heap.get? b = some { cls := .none, data := .fields (#[] ++ more) } := hok' b _ z
          obtain ⟨e1, _, q, hq, rfl⟩ := tabq (inT hbt)
          rw [e1] at e
          cases e
          exact .inr (.inl ⟨(hts q hq).2.1.isCodeTable, rfl, #[], more, rfl, z2⟩)
        · by_cases hbg : b ∈ gs.map (·.2)
          · obtain ⟨⟨ps, z, _⟩, _⟩ := hok' b _ (qg b hbg)
            have z2 : s'.heap.get? b = some { cls := .none, data := .fields (#[] ++ ps) } := by rw [z]; simp
            obtain ⟨e1, _, q, hq, rfl⟩ := tabq (inG hbg)
            rw [e1] at e
            cases e
            exact .inr (.inl ⟨(hts q hq).2.1.isCodeTable, rfl, #[], ps, rfl, z2⟩)
          · left
            cases q : H b with
            | none => exact un.keep b o e q (by intro z; exact absurd (show b ∈ ([] : List Addr) from z) (by simp)) (by simp)
            | some u =>
              rcases hO.rest b hbt hbg with z | ⟨ob, xs, z⟩
              · rw [q] at z
                cases z
              · have z2 := un.frzs b ob _ z
                obtain ⟨e1, _⟩ := hok b _ z
                obtain ⟨e2, _⟩ := hok' b _ z2
                rw [e] at e1
                cases e1
                exact e2
  let H1 (u : Option HO) : Hp := fun b => if b ∈ ts.map (·.2) then some (.tbl #[]) else if b ∈ gs.map (·.2) then some (tabX b) else if b = a then u else none
  have inTG : ∀ {b : Addr}, b ∈ (ts ++ gs).map (·.2) → b ∈ ts.map (·.2) ∨ b ∈ gs.map (·.2) := fun {b} h => by rw [List.map_append] at h; exact List.mem_append.mp h
  have v1 : ∀ u b, b ∈ ts.map (·.2) → H1 u b = some (.tbl #[]) := fun u b h => if_pos h
  have v2 : ∀ u b, b ∈ gs.map (·.2) → H1 u b = some (tabX b) := fun u b h => (if_neg (dj b h)).trans (if_pos h)
  have v3 : ∀ u, H1 u a = u := fun u => ((if_neg fun z => nta (inT z)).trans (if_neg fun z => nta (inG z))).trans (if_pos rfl)
  have v4 : ∀ u b, b ∉ ts.map (·.2) → b ∉ gs.map (·.2) → b ≠ a → H1 u b = none := fun u b h1 h2 h3 => ((if_neg h1).trans (if_neg h2)).trans (if_neg h3)
  have go : ∀ u : Option HO, (u = none ∨ ∃ o xs, u = some (.frz o (.lst xs))) → SqL K (H1 u) a (ns.map V.int) → (∀ v, u = some v → ∀ H, ObjOk P w H s₁.heap a v) → (u ≠ none → K.lookup a = none) →
      codeAny (model P w) callerA (.call (.ref fa) ⟨[.ref a], []⟩) (fun r s' => r = .ok (.ret (.bool true)) ∧ OldK s₁.heap s'.heap ∧ s'.os = s₁.os ∧ AllBare s'.gens) s₁ := fun u hu hS hv hk => by
    refine core (H1 u) ⟨v1 u, v2 u, fun b h1 h2 => ?_⟩ hS (fun b o z => ?_) (fun b z => ?_) fun z => hk (by rw [v3] at z; exact z)
    · by_cases hba : b = a
      · subst hba
        rw [v3]
        exact hu
      · exact .inl (v4 u b h1 h2 hba)
    · by_cases h1 : b ∈ ts.map (·.2)
      · rw [v1 u b h1] at z
        cases z
        exact tab (inT h1)
      · by_cases h2 : b ∈ gs.map (·.2)
        · rw [v2 u b h2] at z
          cases z
          exact tabX_ok (tab (inG h2)) trivial
        · by_cases hba : b = a
          · subst hba
            rw [v3] at z
            exact hv o z _
          · rw [v4 u b h1 h2 hba] at z
            cases z
    · by_cases h1 : b ∈ ts.map (·.2)
      · exact .inr (inT h1)
      · by_cases h2 : b ∈ gs.map (·.2)
        · exact .inr (inG h2)
        · by_cases hba : b = a
          · exact .inl hba
          · exact absurd (v4 u b h1 h2 hba) z
  cases hk : K.lookup a with
  | some o =>
    have e := KX a o hk
    rw [ha] at e
    cases e
    exact go none (.inl rfl) (.inr ⟨_, vs.toArray, _, hk, rfl, rfl, rfl, by rw [List.size_toArray, lenV]; exact hl', by simpa using rv⟩) (fun v z => nomatch z) fun z => absurd rfl z
  | none =>
    refine go (some (.frz { cls := .type "list", data := .seq vs.toArray } (.lst (ns.map V.int)))) (.inr ⟨_, _, rfl⟩) (.inl (.inr ⟨_, v3 _⟩)) (fun v z H => ?_) fun _ => hk
    cases z
    exact ⟨ha, by rw [List.length_map]; exact hl', vs, _, rv, ha⟩
theorem walk_ofG {l : PySem.W.OpenLaw} {k : Nat} {q : Program} {loose : List Str} {XP : (Str → Option Value) → Heap → Prop} {YP : World → Heap → Prop} {d : DefRec} {K : Params → PySem.W.Frag} {CX : CXT} {x : Str} {tn gn : List Str}
    (hn : l.most = some 63) (hdf : d.params.defaults = []) (hr : Room k callerA) (hfd : (tn ++ gn).all (fun y => ((recsOf q).find? fun e => e.name == y).isSome) = true) (hY : ∀ (w : World) (h : Heap), YP w h → (K w.params).In h)
    (F : ∀ (w : World) (mg : Str → Option Value) (fa : Addr) (h : Heap), (K w.params).In h → h.Ns mainGlobals mg → mg d.name = some (.ref fa) →
      ∃ (fd : FuncData) (ts gs : List (Addr × Addr)), Paired (fun y q => PySem.W.tabIn (K w.params) y = some q ∧ (K w.params).lookup q.2 = none) (tn ++ gn) (ts ++ gs) ∧ ((gs.map (·.2)).all fun P => !(ts.map (·.2)).contains P) = true ∧ (∀ (s : Shared) (u : Value), BindsTo s fd ⟨[u], []⟩ [(x, u)]) ∧
        ∀ base : Heap, (K w.params).In base → base.Ns mainGlobals mg → BmOk mg base → FnOk l.prog w (K w.params) mg base CX k fa fd [x] (spLawG (K w.params) (ts.map (·.2)) (gs.map (·.2))))
    (hCX : ∀ (H : Hp) (s : Shared) (e : Value) (s' : Shared), CX [] H s (fun _ _ _ => False) e s' → False) :
    PySem.W.WalkO q loose XP YP l.row.toRowW d [] (fun f vs => PySem.call f vs) := by
  refine Att.attach_call hn hdf fun w s₀ s₁ mg mb fa o pm cd doc a vs ns G Y ho hd hcd hmg hobj hints hlen hg => ?_
  have KX := hY w _ Y
  obtain ⟨fd, ts, gs, hT, dj, hb, hF⟩ := F w mg fa _ KX G.T.g hmg
  have one : ∀ {ys : List Str} {qs : List (Addr × Addr)}, Paired (fun y q => PySem.W.tabIn (K w.params) y = some q ∧ (K w.params).lookup q.2 = none) ys qs → (∀ y ∈ ys, ((recsOf q).find? fun e => e.name == y).isSome = true) → ∀ r ∈ qs, s₁.heap.IsCode r.1 r.2 #[] ∧ s₁.heap.TableAt r.1 r.2 #[] ∧ (K w.params).lookup r.2 = none := by
    intro ys qs p
    induction p with
    | nil => intro _ r hr; cases hr
    | cons h t ih =>
      intro hy r hr
      rcases List.mem_cons.mp hr with e | hr
      · subst e
        obtain ⟨e, he⟩ := Option.isSome_iff_exists.mp (hy _ List.mem_cons_self)
        obtain ⟨C, hP⟩ := PySem.W.tab_of G.T KX he h.1
        obtain ⟨o, vs, file, tf, flags, tg, inF, text, tt, h1, h2, h3, h4, h5, h6, h7, h8, h9, h10⟩ := C
        exact ⟨⟨o, vs, file, tf, flags, tg, inF, text, tt, _, h1, h3, h5, h6, h7, h8, h9, hP, rfl, trivial, h10⟩, ⟨⟨o, vs, h1, h2, h3, h4⟩, hP⟩, h.2⟩
      · exact ih (fun y hy' => hy y (List.mem_cons_of_mem _ hy')) r hr
  refine law_callG (ts := ts) (gs := gs) KX G.T.g G.T.b G.T.builtins G.T.nolimit hg G.T.bmain (one hT fun y hy => List.all_eq_true.mp hfd y hy) (fun P hP z => ?_) hobj hints hlen hr hF hb fun H e s' => hCX H s₁ e s'
  have := List.all_eq_true.mp dj P hP
  rw [List.contains_iff_mem.mpr z] at this
  cases this
end L2

set_option Elab.async false
set_option linter.all false
set_option maxRecDepth 100000
set_option maxHeartbeats 4000000
namespace L2
open PySem PySem.Spec PyProof.Rows
theorem all_list {K : PySem.W.Frag} {a : Addr} {xs : List V} {g : TG} {te : TE} {vs : List Nat} {σ : St} {H1 : Hp} {Qt Qf : Hp → Prop} (Pv : Nat → Hp → Prop) (h0 : Pv 0 H1) (hl : ∀ i H, i ≤ xs.length → Pv i H → SqL K H a xs)
    (hs : ∀ i x H, xs[i]? = some x → Pv i H → g x (wipe σ vs) H fun σ2 H2 => wipe σ2 vs = wipe σ vs ∧ te σ2 H2 fun y H3 => ∃ b, y = .bl b ∧ if b = true then Pv (i + 1) H3 else Qf H3) (hd : ∀ H, Pv xs.length H → Qt H) :
    ∃ W : Nat → Nat → Hp → Prop, (∃ m, W 0 m H1) ∧ ∀ i m H, W i m H →
      ((Itl K a).stop i H ∧ Qt H) ∨ ((Itl K a).go i H ∧ ∃ Nx : Hp → Prop, (∀ H', Nx H' → ∃ m', m' < m ∧ W (i + 1) m' H') ∧ ∀ x H', (Itl K a).yld i H x H' → g x (wipe σ vs) H' fun σ2 H2 => wipe σ2 vs = wipe σ vs ∧ te σ2 H2 fun y H3 => ∃ b, y = .bl b ∧ if b = true then Nx H3 else Qf H3) := by
  refine ⟨fun i m H => m = xs.length - i ∧ i ≤ xs.length ∧ Pv i H, ⟨xs.length, by simp, Nat.zero_le _, h0⟩, ?_⟩
  rintro i m H ⟨rfl, hi, p⟩
  have q := hl i H hi p
  by_cases hlt : i < xs.length
  · refine .inr ⟨⟨xs, xs[i], q, by simp [hlt]⟩, Pv (i + 1), fun H' p' => ⟨xs.length - (i + 1), by omega, rfl, hlt, p'⟩, fun x H' y => ?_⟩
    obtain ⟨e, y⟩ := y
    subst e
    exact hs i x _ (y xs q) p
  · have e : i = xs.length := by omega
    subst e
    exact .inl ⟨⟨xs, q, Nat.le_refl _⟩, hd H p⟩
end L2

set_option Elab.async false
set_option linter.all false
set_option maxRecDepth 100000
set_option maxHeartbeats 4000000
namespace L2
open PySem PySem.Spec PyProof.Rows
theorem pi_zipK {X : Cx} (K : PySem.W.Frag) {e e2 : Expr} {ta : TA} {p pos tpos : Pos} {elts : List Expr} {kk : Nat} (hg : Gl X "zip") (hm : X.mg "zip" = none) (ha : PA X [e, e2] ta)
    (hs : starEach [e, e2] X.env = (false, eval e X.env) :: starEach [e2] X.env := by rfl) (hpl : (backTo pos (starEach [e2] X.env)).any (·.1) = false := by rfl) (h : X.K = K := by rfl) :
    PI X (.Tuple elts kk tpos) (.Call (.Name "zip" p) [e, e2] [] pos) (iZip K ta) := h ▸ pi_zip hg hm ha hs hpl
theorem all_zip {K : PySem.W.Frag} {a b : Addr} {xs ys : List V} {g : TG} {te : TE} {vs : List Nat} {σ : St} {H1 : Hp} {Qt Qf : Hp → Prop} (Pv : Nat → Hp → Prop) (h0 : Pv 0 H1) (hlen : xs.length = ys.length) (hl : ∀ i H, i ≤ xs.length → Pv i H → SqL K H a xs ∧ SqL K H b ys)
    (hs : ∀ i x y T H, xs[i]? = some x → ys[i]? = some y → H T = none → Pv i H → g (.ref T) (wipe σ vs) (upd H T (.tup [x, y])) fun σ2 H2 => wipe σ2 vs = wipe σ vs ∧ te σ2 H2 fun y H3 => ∃ b, y = .bl b ∧ if b = true then Pv (i + 1) H3 else Qf H3) (hd : ∀ H, Pv xs.length H → Qt H) :
    ∃ W : Nat → Nat → Hp → Prop, (∃ m, W 0 m H1) ∧ ∀ i m H, W i m H →
      ((Itz K a b).stop i H ∧ Qt H) ∨ ((Itz K a b).go i H ∧ ∃ Nx : Hp → Prop, (∀ H', Nx H' → ∃ m', m' < m ∧ W (i + 1) m' H') ∧ ∀ x H', (Itz K a b).yld i H x H' → g x (wipe σ vs) H' fun σ2 H2 => wipe σ2 vs = wipe σ vs ∧ te σ2 H2 fun y H3 => ∃ b, y = .bl b ∧ if b = true then Nx H3 else Qf H3) := by
  refine ⟨fun i m H => m = xs.length - i ∧ i ≤ xs.length ∧ Pv i H, ⟨xs.length, by simp, Nat.zero_le _, h0⟩, ?_⟩
  rintro i m H ⟨rfl, hi, p⟩
  obtain ⟨q1, q2⟩ := hl i H hi p
  by_cases hlt : i < xs.length
  · refine .inr ⟨⟨xs, ys, xs[i], ys[i]'(by omega), q1, q2, by simp [hlt], by simp [show i < ys.length by omega]⟩, Pv (i + 1), fun H' p' => ⟨xs.length - (i + 1), by omega, rfl, hlt, p'⟩, fun v H' y => ?_⟩
    obtain ⟨T, x, z, rfl, hT, rfl, y1, y2⟩ := y
    exact hs i x z T H (y1 xs q1) (y2 ys q2) hT p
  · have e : i = xs.length := by omega
    subst e
    exact .inl ⟨⟨xs, ys, q1, q2, .inl (Nat.le_refl _)⟩, hd H p⟩
end L2

set_option Elab.async false
set_option linter.all false
set_option maxRecDepth 100000
set_option maxHeartbeats 4000000
namespace Toy
open PySem L2
def top (i : Nat) : Stmt := PySem.Challenge.pw_callchain_k01_whole_fewest.main.body.getD i (.Pass ⟨0, 0, 0, 0⟩)
abbrev s_is_number : Stmt := top 5
abbrev s_is_person : Stmt := top 6
abbrev s_is_ups : Stmt := top 7
abbrev s_is_orders : Stmt := top 8
abbrev s_nobody_is_called_twice : Stmt := top 9
abbrev s_all_are_come_to : Stmt := top 10
abbrev s_is_absent : Stmt := top 11
abbrev s_copied : Stmt := top 12
abbrev s_take_ups : Stmt := top 13
abbrev s_first_rows : Stmt := top 14
abbrev s_callers : Stmt := top 15
abbrev s_next_round : Stmt := top 16
abbrev s_all_rounds : Stmt := top 17
abbrev s_first_wrong : Stmt := top 18
abbrev s_first_unlike : Stmt := top 19
abbrev s_absent_lists : Stmt := top 20
abbrev s_worst_absent : Stmt := top 21
abbrev s_rows_of : Stmt := top 23
abbrev s_longest_first : Stmt := top 24
abbrev s_rounds_needed : Stmt := top 25
abbrev s_best_orders : Stmt := top 26
abbrev s_is_fewest : Stmt := top 27
abbrev s_are_orders_of : Stmt := top 28
abbrev s_are_shown : Stmt := top 29
abbrev s_is_shown : Stmt := top 30
abbrev s_fewest : Stmt := top 38
abbrev s_law_number : Stmt := top 40
abbrev s_law_whole : Stmt := top 41
abbrev s_law_says : Stmt := top 42
abbrev s_law_ups : Stmt := top 43
abbrev s_law_called : Stmt := top 44
abbrev s_law_last : Stmt := top 45
abbrev s_law_are_marks : Stmt := top 46
abbrev s_law_is_fewest : Stmt := top 47
abbrev s_law_told : Stmt := top 48
abbrev s_law_right : Stmt := top 49
abbrev s_law : Stmt := top 50
abbrev s_Fewest_init : Stmt := inClass (top 33) 0
abbrev s_Fewest_shows : Stmt := inClass (top 33) 1
abbrev s_Right_shows : Stmt := inClass (top 34) 0
abbrev s_Wrong_init : Stmt := inClass (top 35) 0
abbrev s_Wrong_shows : Stmt := inClass (top 35) 1
abbrev s_Worst_init : Stmt := inClass (top 36) 0
abbrev s_Worst_shows : Stmt := inClass (top 36) 1
structure Adr where
  f_is_number : Addr
  d_is_number : FuncData
  f_is_person : Addr
  d_is_person : FuncData
  f_is_ups : Addr
  d_is_ups : FuncData
  f_is_orders : Addr
  d_is_orders : FuncData
  f_nobody_is_called_twice : Addr
  d_nobody_is_called_twice : FuncData
  f_all_are_come_to : Addr
  d_all_are_come_to : FuncData
  f_is_absent : Addr
  d_is_absent : FuncData
  f_copied : Addr
  d_copied : FuncData
  f_take_ups : Addr
  d_take_ups : FuncData
  f_first_rows : Addr
  d_first_rows : FuncData
  f_callers : Addr
  d_callers : FuncData
  f_next_round : Addr
  d_next_round : FuncData
  f_all_rounds : Addr
  d_all_rounds : FuncData
  f_first_wrong : Addr
  d_first_wrong : FuncData
  f_first_unlike : Addr
  d_first_unlike : FuncData
  f_absent_lists : Addr
  d_absent_lists : FuncData
  f_worst_absent : Addr
  d_worst_absent : FuncData
  f_rows_of : Addr
  d_rows_of : FuncData
  f_longest_first : Addr
  d_longest_first : FuncData
  f_rounds_needed : Addr
  d_rounds_needed : FuncData
  f_best_orders : Addr
  d_best_orders : FuncData
  f_is_fewest : Addr
  d_is_fewest : FuncData
  f_are_orders_of : Addr
  d_are_orders_of : FuncData
  f_are_shown : Addr
  d_are_shown : FuncData
  f_is_shown : Addr
  d_is_shown : FuncData
  f_fewest : Addr
  d_fewest : FuncData
  f_law_number : Addr
  d_law_number : FuncData
  f_law_whole : Addr
  d_law_whole : FuncData
  f_law_says : Addr
  d_law_says : FuncData
  f_law_ups : Addr
  d_law_ups : FuncData
  f_law_called : Addr
  d_law_called : FuncData
  f_law_last : Addr
  d_law_last : FuncData
  f_law_are_marks : Addr
  d_law_are_marks : FuncData
  f_law_is_fewest : Addr
  d_law_is_fewest : FuncData
  f_law_told : Addr
  d_law_told : FuncData
  f_law_right : Addr
  d_law_right : FuncData
  f_law : Addr
  d_law : FuncData
  f_Fewest_init : Addr
  d_Fewest_init : FuncData
  f_Fewest_shows : Addr
  d_Fewest_shows : FuncData
  f_Right_shows : Addr
  d_Right_shows : FuncData
  f_Wrong_init : Addr
  d_Wrong_init : FuncData
  f_Wrong_shows : Addr
  d_Wrong_shows : FuncData
  f_Worst_init : Addr
  d_Worst_init : FuncData
  f_Worst_shows : Addr
  d_Worst_shows : FuncData
  C_CallError : Addr
  C_BadUps : Addr
  C_Answer : Addr
  C_Fewest : Addr
  C_Right : Addr
  C_Wrong : Addr
  C_Worst : Addr
  c_longest_first : Addr
  P_longest_first : Addr
  c_are_shown : Addr
  P_are_shown : Addr
  t_MOST_PEOPLE : Tok
structure Txt (K : PySem.W.Frag) (mg : Str → Option Value) (A : Adr) : Prop where
  n_all : mg "all" = none
  n_bool : mg "bool" = none
  n_enumerate : mg "enumerate" = none
  n_int : mg "int" = none
  n_isinstance : mg "isinstance" = none
  n_len : mg "len" = none
  n_list : mg "list" = none
  n_max : mg "max" = none
  n_min : mg "min" = none
  n_range : mg "range" = none
  n_reversed : mg "reversed" = none
  n_set : mg "set" = none
  n_sorted : mg "sorted" = none
  n_sum : mg "sum" = none
  n_zip : mg "zip" = none
  g_MOST_PEOPLE : mg "MOST_PEOPLE" = some (.int 40 A.t_MOST_PEOPLE)
  f_is_number : Fun K "is_number" "is_number" s_is_number A.f_is_number A.d_is_number
  b_is_number : Binds K A.d_is_number ["thing"] []
  m_is_number : mg "is_number" = some (.ref A.f_is_number)
  k_is_number : PySem.W.keepIn K (.ref A.f_is_number) = true
  f_is_person : Fun K "is_person" "is_person" s_is_person A.f_is_person A.d_is_person
  b_is_person : Binds K A.d_is_person ["thing", "people"] []
  m_is_person : mg "is_person" = some (.ref A.f_is_person)
  k_is_person : PySem.W.keepIn K (.ref A.f_is_person) = true
  f_is_ups : Fun K "is_ups" "is_ups" s_is_ups A.f_is_ups A.d_is_ups
  b_is_ups : Binds K A.d_is_ups ["ups"] []
  m_is_ups : mg "is_ups" = some (.ref A.f_is_ups)
  k_is_ups : PySem.W.keepIn K (.ref A.f_is_ups) = true
  f_is_orders : Fun K "is_orders" "is_orders" s_is_orders A.f_is_orders A.d_is_orders
  b_is_orders : Binds K A.d_is_orders ["orders"] []
  m_is_orders : mg "is_orders" = some (.ref A.f_is_orders)
  k_is_orders : PySem.W.keepIn K (.ref A.f_is_orders) = true
  f_nobody_is_called_twice : Fun K "nobody_is_called_twice" "nobody_is_called_twice" s_nobody_is_called_twice A.f_nobody_is_called_twice A.d_nobody_is_called_twice
  b_nobody_is_called_twice : Binds K A.d_nobody_is_called_twice ["orders"] []
  m_nobody_is_called_twice : mg "nobody_is_called_twice" = some (.ref A.f_nobody_is_called_twice)
  k_nobody_is_called_twice : PySem.W.keepIn K (.ref A.f_nobody_is_called_twice) = true
  f_all_are_come_to : Fun K "all_are_come_to" "all_are_come_to" s_all_are_come_to A.f_all_are_come_to A.d_all_are_come_to
  b_all_are_come_to : Binds K A.d_all_are_come_to ["orders"] []
  m_all_are_come_to : mg "all_are_come_to" = some (.ref A.f_all_are_come_to)
  k_all_are_come_to : PySem.W.keepIn K (.ref A.f_all_are_come_to) = true
  f_is_absent : Fun K "is_absent" "is_absent" s_is_absent A.f_is_absent A.d_is_absent
  b_is_absent : Binds K A.d_is_absent ["absent", "people"] []
  m_is_absent : mg "is_absent" = some (.ref A.f_is_absent)
  k_is_absent : PySem.W.keepIn K (.ref A.f_is_absent) = true
  f_copied : Fun K "copied" "copied" s_copied A.f_copied A.d_copied
  b_copied : Binds K A.d_copied ["thing"] []
  m_copied : mg "copied" = some (.ref A.f_copied)
  k_copied : PySem.W.keepIn K (.ref A.f_copied) = true
  f_take_ups : Fun K "take_ups" "take_ups" s_take_ups A.f_take_ups A.d_take_ups
  b_take_ups : Binds K A.d_take_ups ["ups"] []
  m_take_ups : mg "take_ups" = some (.ref A.f_take_ups)
  k_take_ups : PySem.W.keepIn K (.ref A.f_take_ups) = true
  f_first_rows : Fun K "first_rows" "first_rows" s_first_rows A.f_first_rows A.d_first_rows
  b_first_rows : Binds K A.d_first_rows ["orders"] []
  m_first_rows : mg "first_rows" = some (.ref A.f_first_rows)
  k_first_rows : PySem.W.keepIn K (.ref A.f_first_rows) = true
  f_callers : Fun K "callers" "callers" s_callers A.f_callers A.d_callers
  b_callers : Binds K A.d_callers ["rows"] []
  m_callers : mg "callers" = some (.ref A.f_callers)
  k_callers : PySem.W.keepIn K (.ref A.f_callers) = true
  f_next_round : Fun K "next_round" "next_round" s_next_round A.f_next_round A.d_next_round
  b_next_round : Binds K A.d_next_round ["orders", "rows", "absent"] []
  m_next_round : mg "next_round" = some (.ref A.f_next_round)
  k_next_round : PySem.W.keepIn K (.ref A.f_next_round) = true
  f_all_rounds : Fun K "all_rounds" "all_rounds" s_all_rounds A.f_all_rounds A.d_all_rounds
  b_all_rounds : Binds K A.d_all_rounds ["orders", "absent"] []
  m_all_rounds : mg "all_rounds" = some (.ref A.f_all_rounds)
  k_all_rounds : PySem.W.keepIn K (.ref A.f_all_rounds) = true
  f_first_wrong : Fun K "first_wrong" "first_wrong" s_first_wrong A.f_first_wrong A.d_first_wrong
  b_first_wrong : Binds K A.d_first_wrong ["orders", "calls"] []
  m_first_wrong : mg "first_wrong" = some (.ref A.f_first_wrong)
  k_first_wrong : PySem.W.keepIn K (.ref A.f_first_wrong) = true
  f_first_unlike : Fun K "first_unlike" "first_unlike" s_first_unlike A.f_first_unlike A.d_first_unlike
  b_first_unlike : Binds K A.d_first_unlike ["ones", "others"] []
  m_first_unlike : mg "first_unlike" = some (.ref A.f_first_unlike)
  k_first_unlike : PySem.W.keepIn K (.ref A.f_first_unlike) = true
  f_absent_lists : Fun K "absent_lists" "absent_lists" s_absent_lists A.f_absent_lists A.d_absent_lists
  b_absent_lists : Binds K A.d_absent_lists ["people", "many"] []
  m_absent_lists : mg "absent_lists" = some (.ref A.f_absent_lists)
  k_absent_lists : PySem.W.keepIn K (.ref A.f_absent_lists) = true
  f_worst_absent : Fun K "worst_absent" "worst_absent" s_worst_absent A.f_worst_absent A.d_worst_absent
  b_worst_absent : Binds K A.d_worst_absent ["orders", "many"] []
  m_worst_absent : mg "worst_absent" = some (.ref A.f_worst_absent)
  k_worst_absent : PySem.W.keepIn K (.ref A.f_worst_absent) = true
  f_rows_of : Fun K "rows_of" "rows_of" s_rows_of A.f_rows_of A.d_rows_of
  b_rows_of : Binds K A.d_rows_of ["ups"] []
  m_rows_of : mg "rows_of" = some (.ref A.f_rows_of)
  k_rows_of : PySem.W.keepIn K (.ref A.f_rows_of) = true
  f_longest_first : Fun K "longest_first" "longest_first" s_longest_first A.f_longest_first A.d_longest_first
  b_longest_first : Binds K A.d_longest_first ["row", "marks"] []
  m_longest_first : mg "longest_first" = some (.ref A.f_longest_first)
  k_longest_first : PySem.W.keepIn K (.ref A.f_longest_first) = true
  f_rounds_needed : Fun K "rounds_needed" "rounds_needed" s_rounds_needed A.f_rounds_needed A.d_rounds_needed
  b_rounds_needed : Binds K A.d_rounds_needed ["row", "marks"] []
  m_rounds_needed : mg "rounds_needed" = some (.ref A.f_rounds_needed)
  k_rounds_needed : PySem.W.keepIn K (.ref A.f_rounds_needed) = true
  f_best_orders : Fun K "best_orders" "best_orders" s_best_orders A.f_best_orders A.d_best_orders
  b_best_orders : Binds K A.d_best_orders ["ups"] []
  m_best_orders : mg "best_orders" = some (.ref A.f_best_orders)
  k_best_orders : PySem.W.keepIn K (.ref A.f_best_orders) = true
  f_is_fewest : Fun K "is_fewest" "is_fewest" s_is_fewest A.f_is_fewest A.d_is_fewest
  b_is_fewest : Binds K A.d_is_fewest ["orders", "marks", "ups"] []
  m_is_fewest : mg "is_fewest" = some (.ref A.f_is_fewest)
  k_is_fewest : PySem.W.keepIn K (.ref A.f_is_fewest) = true
  f_are_orders_of : Fun K "are_orders_of" "are_orders_of" s_are_orders_of A.f_are_orders_of A.d_are_orders_of
  b_are_orders_of : Binds K A.d_are_orders_of ["orders", "ups"] []
  m_are_orders_of : mg "are_orders_of" = some (.ref A.f_are_orders_of)
  k_are_orders_of : PySem.W.keepIn K (.ref A.f_are_orders_of) = true
  f_are_shown : Fun K "are_shown" "are_shown" s_are_shown A.f_are_shown A.d_are_shown
  b_are_shown : Binds K A.d_are_shown ["marks", "orders"] []
  m_are_shown : mg "are_shown" = some (.ref A.f_are_shown)
  k_are_shown : PySem.W.keepIn K (.ref A.f_are_shown) = true
  f_is_shown : Fun K "is_shown" "is_shown" s_is_shown A.f_is_shown A.d_is_shown
  b_is_shown : Binds K A.d_is_shown ["mark", "row", "marks"] []
  m_is_shown : mg "is_shown" = some (.ref A.f_is_shown)
  k_is_shown : PySem.W.keepIn K (.ref A.f_is_shown) = true
  f_fewest : Fun K "fewest" "fewest" s_fewest A.f_fewest A.d_fewest
  b_fewest : Binds K A.d_fewest ["ups"] []
  m_fewest : mg "fewest" = some (.ref A.f_fewest)
  k_fewest : PySem.W.keepIn K (.ref A.f_fewest) = true
  f_law_number : Fun K "_law_number" "_law_number" s_law_number A.f_law_number A.d_law_number
  b_law_number : Binds K A.d_law_number ["_law_cell", "_law_at", "_law_whole_here"] []
  m_law_number : mg "_law_number" = some (.ref A.f_law_number)
  k_law_number : PySem.W.keepIn K (.ref A.f_law_number) = true
  f_law_whole : Fun K "_law_whole" "_law_whole" s_law_whole A.f_law_whole A.d_law_whole
  b_law_whole : Binds K A.d_law_whole ["_law_found"] []
  m_law_whole : mg "_law_whole" = some (.ref A.f_law_whole)
  k_law_whole : PySem.W.keepIn K (.ref A.f_law_whole) = true
  f_law_says : Fun K "_law_says" "_law_says" s_law_says A.f_law_says A.d_law_says
  b_law_says : Binds K A.d_law_says ["_law_said", "_law_due"] []
  m_law_says : mg "_law_says" = some (.ref A.f_law_says)
  k_law_says : PySem.W.keepIn K (.ref A.f_law_says) = true
  f_law_ups : Fun K "_law_ups" "_law_ups" s_law_ups A.f_law_ups A.d_law_ups
  b_law_ups : Binds K A.d_law_ups ["_law_script", "_law_by", "_law_most"] []
  m_law_ups : mg "_law_ups" = some (.ref A.f_law_ups)
  k_law_ups : PySem.W.keepIn K (.ref A.f_law_ups) = true
  f_law_called : Fun K "_law_called" "_law_called" s_law_called A.f_law_called A.d_law_called
  b_law_called : Binds K A.d_law_called ["_law_ups_here"] []
  m_law_called : mg "_law_called" = some (.ref A.f_law_called)
  k_law_called : PySem.W.keepIn K (.ref A.f_law_called) = true
  f_law_last : Fun K "_law_last" "_law_last" s_law_last A.f_law_last A.d_law_last
  b_law_last : Binds K A.d_law_last ["_law_orders"] []
  m_law_last : mg "_law_last" = some (.ref A.f_law_last)
  k_law_last : PySem.W.keepIn K (.ref A.f_law_last) = true
  f_law_are_marks : Fun K "_law_are_marks" "_law_are_marks" s_law_are_marks A.f_law_are_marks A.d_law_are_marks
  b_law_are_marks : Binds K A.d_law_are_marks ["_law_orders", "_law_marks"] []
  m_law_are_marks : mg "_law_are_marks" = some (.ref A.f_law_are_marks)
  k_law_are_marks : PySem.W.keepIn K (.ref A.f_law_are_marks) = true
  f_law_is_fewest : Fun K "_law_is_fewest" "_law_is_fewest" s_law_is_fewest A.f_law_is_fewest A.d_law_is_fewest
  b_law_is_fewest : Binds K A.d_law_is_fewest ["_law_ups_here", "_law_orders", "_law_marks"] []
  m_law_is_fewest : mg "_law_is_fewest" = some (.ref A.f_law_is_fewest)
  k_law_is_fewest : PySem.W.keepIn K (.ref A.f_law_is_fewest) = true
  f_law_told : Fun K "_law_told" "_law_told" s_law_told A.f_law_told A.d_law_told
  b_law_told : Binds K A.d_law_told ["_law_found"] []
  m_law_told : mg "_law_told" = some (.ref A.f_law_told)
  k_law_told : PySem.W.keepIn K (.ref A.f_law_told) = true
  f_law_right : Fun K "_law_right" "_law_right" s_law_right A.f_law_right A.d_law_right
  b_law_right : Binds K A.d_law_right ["_law_ups_here", "_law_others"] []
  m_law_right : mg "_law_right" = some (.ref A.f_law_right)
  k_law_right : PySem.W.keepIn K (.ref A.f_law_right) = true
  f_law : Fun K "law" "law" s_law A.f_law A.d_law
  b_law : Binds K A.d_law ["_law_script"] []
  m_law : mg "law" = some (.ref A.f_law)
  k_law : PySem.W.keepIn K (.ref A.f_law) = true
  f_Fewest_init : Fun K "__init__" "Fewest.__init__" s_Fewest_init A.f_Fewest_init A.d_Fewest_init
  b_Fewest_init : Binds K A.d_Fewest_init ["self", "orders", "marks"] []
  f_Fewest_shows : Fun K "shows" "Fewest.shows" s_Fewest_shows A.f_Fewest_shows A.d_Fewest_shows
  b_Fewest_shows : Binds K A.d_Fewest_shows ["self", "ups"] []
  mt_Fewest_shows : Meth K A.C_Fewest "shows" A.f_Fewest_shows
  f_Right_shows : Fun K "shows" "Right.shows" s_Right_shows A.f_Right_shows A.d_Right_shows
  b_Right_shows : Binds K A.d_Right_shows ["self", "orders", "calls"] []
  mt_Right_shows : Meth K A.C_Right "shows" A.f_Right_shows
  f_Wrong_init : Fun K "__init__" "Wrong.__init__" s_Wrong_init A.f_Wrong_init A.d_Wrong_init
  b_Wrong_init : Binds K A.d_Wrong_init ["self", "turn", "spot"] []
  f_Wrong_shows : Fun K "shows" "Wrong.shows" s_Wrong_shows A.f_Wrong_shows A.d_Wrong_shows
  b_Wrong_shows : Binds K A.d_Wrong_shows ["self", "orders", "calls"] []
  mt_Wrong_shows : Meth K A.C_Wrong "shows" A.f_Wrong_shows
  f_Worst_init : Fun K "__init__" "Worst.__init__" s_Worst_init A.f_Worst_init A.d_Worst_init
  b_Worst_init : Binds K A.d_Worst_init ["self", "absent", "turns"] []
  f_Worst_shows : Fun K "shows" "Worst.shows" s_Worst_shows A.f_Worst_shows A.d_Worst_shows
  b_Worst_shows : Binds K A.d_Worst_shows ["self", "orders", "many"] []
  mt_Worst_shows : Meth K A.C_Worst "shows" A.f_Worst_shows
  c_Answer : mg "Answer" = some (.ref A.C_Answer)
  c_Right : mg "Right" = some (.ref A.C_Right)
  tyN : PySem.W.specialIn K (.builtin "object.__class__") "__get__" = some (some (.builtin "getset_descriptor.__get__"))
  tyK : PySem.W.takesIn K (.builtin "object.__class__") = some true
  tyA_Fewest : PySem.W.findIn K (.ref A.C_Fewest) "__class__" = some (some (.builtin "object.__class__"))
  tyM_Fewest : PySem.W.mroIn K A.C_Fewest (.type "object") = some true
  ki_Fewest_Answer : PySem.W.kitOne K (.ref A.C_Fewest) (.ref A.C_Answer) = some true
  ki_Fewest_Fewest : PySem.W.kitOne K (.ref A.C_Fewest) (.ref A.C_Fewest) = some true
  ki_Fewest_Right : PySem.W.kitOne K (.ref A.C_Fewest) (.ref A.C_Right) = some false
  ki_Fewest_Worst : PySem.W.kitOne K (.ref A.C_Fewest) (.ref A.C_Worst) = some false
  ki_Fewest_Wrong : PySem.W.kitOne K (.ref A.C_Fewest) (.ref A.C_Wrong) = some false
  tyA_Wrong : PySem.W.findIn K (.ref A.C_Wrong) "__class__" = some (some (.builtin "object.__class__"))
  tyM_Wrong : PySem.W.mroIn K A.C_Wrong (.type "object") = some true
  ki_Wrong_Answer : PySem.W.kitOne K (.ref A.C_Wrong) (.ref A.C_Answer) = some true
  ki_Wrong_Fewest : PySem.W.kitOne K (.ref A.C_Wrong) (.ref A.C_Fewest) = some false
  ki_Wrong_Right : PySem.W.kitOne K (.ref A.C_Wrong) (.ref A.C_Right) = some false
  ki_Wrong_Worst : PySem.W.kitOne K (.ref A.C_Wrong) (.ref A.C_Worst) = some false
  ki_Wrong_Wrong : PySem.W.kitOne K (.ref A.C_Wrong) (.ref A.C_Wrong) = some true
  tyA_Worst : PySem.W.findIn K (.ref A.C_Worst) "__class__" = some (some (.builtin "object.__class__"))
  tyM_Worst : PySem.W.mroIn K A.C_Worst (.type "object") = some true
  ki_Worst_Answer : PySem.W.kitOne K (.ref A.C_Worst) (.ref A.C_Answer) = some true
  ki_Worst_Fewest : PySem.W.kitOne K (.ref A.C_Worst) (.ref A.C_Fewest) = some false
  ki_Worst_Right : PySem.W.kitOne K (.ref A.C_Worst) (.ref A.C_Right) = some false
  ki_Worst_Worst : PySem.W.kitOne K (.ref A.C_Worst) (.ref A.C_Worst) = some true
  ki_Worst_Wrong : PySem.W.kitOne K (.ref A.C_Worst) (.ref A.C_Wrong) = some false
  cl_Fewest : Cls K A.C_Fewest
  k_Fewest : Mk K A.C_Fewest A.f_Fewest_init
  c_Fewest : mg "Fewest" = some (.ref A.C_Fewest)
  na_Fewest_orders : NoAttr K A.C_Fewest "orders"
  na_Fewest_marks : NoAttr K A.C_Fewest "marks"
  cl_Wrong : Cls K A.C_Wrong
  k_Wrong : Mk K A.C_Wrong A.f_Wrong_init
  c_Wrong : mg "Wrong" = some (.ref A.C_Wrong)
  na_Wrong_turn : NoAttr K A.C_Wrong "turn"
  na_Wrong_spot : NoAttr K A.C_Wrong "spot"
  cl_Worst : Cls K A.C_Worst
  k_Worst : Mk K A.C_Worst A.f_Worst_init
  c_Worst : mg "Worst" = some (.ref A.C_Worst)
  na_Worst_absent : NoAttr K A.C_Worst "absent"
  na_Worst_turns : NoAttr K A.C_Worst "turns"
  cd_longest_first : A.d_longest_first.code = .ref A.c_longest_first
  hd_longest_first : PySem.W.codeHdIn K A.c_longest_first A.P_longest_first = true
  nt_longest_first : K.lookup A.P_longest_first = none
  cd_are_shown : A.d_are_shown.code = .ref A.c_are_shown
  hd_are_shown : PySem.W.codeHdIn K A.c_are_shown A.P_are_shown = true
  nt_are_shown : K.lookup A.P_are_shown = none
end Toy

set_option Elab.async false
set_option linter.all false
set_option maxRecDepth 100000
set_option maxHeartbeats 4000000
namespace Toy
open PySem L2
theorem kit_int {K : PySem.W.Frag} : PySem.W.kitOne K (.type "int") (.type "int") = some true := by kernel_rfl
theorem kit_int_bool {K : PySem.W.Frag} : PySem.W.kitOne K (.type "int") (.type "bool") = some false := by kernel_rfl
theorem kit_list {K : PySem.W.Frag} : PySem.W.kitOne K (.type "list") (.type "list") = some true := by kernel_rfl
theorem kit_none_list {K : PySem.W.Frag} : PySem.W.kitOne K (.type "NoneType") (.type "list") = some false := by kernel_rfl
theorem kit_int_list {K : PySem.W.Frag} : PySem.W.kitOne K (.type "int") (.type "list") = some false := by kernel_rfl
section
variable {P : Program} {w : World} {K : PySem.W.Frag} {mg : Str → Option Value} {base : Heap} {A : Adr}
def spNum : Sp := fun vs H Q _ => ∃ i, vs = [.int i] ∧ Q (.bl true) H
theorem sc_is_number : FnScope ["thing"] ["thing"] (defScope s_is_number) := ⟨rfl, rfl, rfl, by decide +kernel, rfl, by decide +kernel, by decide +kernel⟩
theorem ok_is_number (T : Txt K mg A) : FnOk P w K mg base CX0 1 A.f_is_number A.d_is_number ["thing"] spNum := by
  refine T.f_is_number.ok sc_is_number (fun vs H Q E h => ?_) (fun cdv A outer s H vs Q E hr h => ?_)
  · obtain ⟨i, rfl, _⟩ := h
    rfl
  · obtain ⟨i, rfl, k⟩ := h
    refine ⟨_, (pss_one (ps_ret (pe_and (pe_callB (cr_isiK K) (by rfl) T.n_isinstance (by decide +kernel) (@pa_cons _ _ _ _ _ (pv 0) (@pa_cons _ _ _ _ _ (pe_bltn (v := .ty "int") (by rfl) T.n_int (by decide +kernel) rfl) pa_nil (by rfl)) (by rfl))) (pe_one (pe_not (pe_callB (cr_isiK K) (by rfl) T.n_isinstance (by decide +kernel) (@pa_cons _ _ _ _ _ (pv 0) (@pa_cons _ _ _ _ _ (pe_bltn (v := .ty "bool") (by rfl) T.n_bool (by decide +kernel) rfl) pa_nil (by rfl)) (by rfl)))))))), ?_⟩
    refine ⟨_, rfl, .int i, .ty "int", _, true, rfl, .int i, (fun u hu => ?_), true, rfl, ?_⟩
    · cases hu
      exact kit_int
    · refine iteT ⟨_, rfl, .int i, .ty "bool", _, false, rfl, .int i, (fun u hu => ?_), false, rfl, ?_⟩
      · cases hu
        exact kit_int_bool
      · exact k
def spPer : Sp := fun vs H Q _ => ∃ i n, vs = [.int i, .int n] ∧ Q (.bl (decide (0 ≤ i ∧ i < n))) H
theorem sc_is_person : FnScope ["thing", "people"] ["thing", "people"] (defScope s_is_person) := ⟨rfl, rfl, rfl, by decide +kernel, rfl, by decide +kernel, by decide +kernel⟩
theorem ok_is_person (T : Txt K mg A) : FnOk P w K mg base CX0 2 A.f_is_person A.d_is_person ["thing", "people"] spPer := by
  have G_is_number := ok_is_number (P := P) (w := w) (base := base) T
  refine T.f_is_person.ok sc_is_person (fun vs H Q E h => ?_) (fun cdv A outer s H vs Q E hr h => ?_)
  · obtain ⟨i, n, rfl, _⟩ := h
    rfl
  · obtain ⟨i, n, rfl, k⟩ := h
    refine ⟨_, (pss_one (ps_ret (pe_and (pe_call G_is_number (hr.mono (by decide)) (by rfl) T.m_is_number T.k_is_number T.b_is_number .nil pass0 (@pa_cons _ _ _ _ _ (pv 0) pa_nil (by rfl))) (pe_one (pe_chain op_le op_lt pe_int (pv 0) (pv 1)))))), ?_⟩
    refine ⟨_, rfl, i, rfl, true, rfl, iteT ?_⟩
    refine ⟨_, rfl, 0, i, rfl, rfl, _, rfl, ?_⟩
    refine ite2 (fun h0 => ?_) (fun h0 => ?_)
    · refine ⟨_, rfl, i, n, rfl, rfl, ?_⟩
      have h0 : 0 ≤ i := of_decide_eq_true h0
      have e : decide (0 ≤ i ∧ i < n) = decide (i < n) := by simp [h0]
      rw [e] at k
      exact k
    · have h0 : ¬ 0 ≤ i := fun z => h0 (decide_eq_true z)
      have e : decide (0 ≤ i ∧ i < n) = false := by simp [h0]
      rw [e] at k
      exact k
theorem kitL {K : PySem.W.Frag} {u : Value} (h : RelV (.ty "list") u) : PySem.W.kitOne K (.type "list") u = some true := by
  cases h
  exact kit_list
theorem kitIL {K : PySem.W.Frag} {u : Value} (h : RelV (.ty "list") u) : PySem.W.kitOne K (.type "int") u = some false := by
  cases h
  exact kit_int_list
theorem kitNL {K : PySem.W.Frag} {u : Value} (h : RelV (.ty "list") u) : PySem.W.kitOne K (.type "NoneType") u = some false := by
  cases h
  exact kit_none_list
def GoodUps (us : List Int) : Prop := us.length ≤ 39 ∧ ∀ (j : Nat) (u : Int), us[j]? = some u → 0 ≤ u ∧ u ≤ j
def Abs (as : List Int) (n : Int) : Prop := as.Pairwise (· < ·) ∧ ∀ a ∈ as, 0 < a ∧ a < n
def spCopyI : Sp := fun vs H Q _ => ∃ (a : Addr) (ns : List Int), vs = [.ref a] ∧ H a = some (.lst (ns.map V.int)) ∧ ns.length < 1000 ∧ ∀ b H', Same H H' → H b = none → H' b = some (.lst (ns.map V.int)) → Q (.ref b) H'
theorem sc_copied : FnScope ["thing", "part"] ["thing"] (defScope s_copied) := ⟨rfl, rfl, rfl, by decide +kernel, rfl, by decide +kernel, by decide +kernel⟩
theorem snoc_take {ns : List Int} {i : Nat} {n : Int} (h : ns[i]? = some n) : (ns.take i).map V.int ++ [V.int n] = (ns.take (i + 1)).map V.int := by
  rw [List.take_add_one, h, List.map_append]
  rfl
theorem ok_copiedI (T : Txt K mg A) : FnOk P w K mg base CX0 1 A.f_copied A.d_copied ["thing"] spCopyI := by
  refine T.f_copied.ok sc_copied (fun vs H Q E h => ?_) (fun cdv A outer s H vs Q E hr h => ?_)
  · obtain ⟨a, us, rfl, _⟩ := h
    rfl
  · obtain ⟨a, ns, rfl, hH, hl, k⟩ := h
    refine ⟨_, (pss_cons (ps_if (pt_not (pt_val (pe_callB (cr_isiK K) (by rfl) T.n_isinstance (by decide +kernel) (@pa_cons _ _ _ _ _ (pv 0) (@pa_cons _ _ _ _ _ (pe_bltn (v := .ty "list") (by rfl) T.n_list (by decide +kernel) rfl) pa_nil (by rfl)) (by rfl))))) (pss_one (ps_ret (pv 0))) pss_nil)
      (pss_one (ps_ret (pe_lc (own := [("part", 1)]) rfl sc_copied.nd (pi_listK K (pv 0)) (blkOk_by (own := [("part", 1)]) (by kernel_rfl)) (fun _ _ _ _ _ => (pg_name (i := 1) sc_copied.nd rfl (Or.inl rfl))) (fun _ _ _ _ _ => pts_nil) (fun _ _ _ _ _ => (pe_ifExp (pt_val (pe_callB (cr_isiK K) (by rfl) T.n_isinstance (by decide +kernel) (@pa_cons _ _ _ _ _ (pv 1) (@pa_cons _ _ _ _ _ (pe_bltn (v := .ty "list") (by rfl) T.n_list (by decide +kernel) rfl) pa_nil (by rfl)) (by rfl)))) (pe_callTy (call_list_ofK K) (by rfl) T.n_list (by decide +kernel) (@pa_cons _ _ _ _ _ (pv 1) pa_nil (by rfl))) (pv 1))))))), ?_⟩
    refine ⟨_, rfl, .ref a, .ty "list", _, true, rfl, .lst hH, (fun u hu => kitL hu), true, rfl, iteF ?_⟩
    refine ⟨_, rfl, a, rfl, ⟨_, SqL.of hH⟩, fun D hD => ?_⟩
    refine lc_list (K := K) (a := a) (xs := ns.map V.int) (fun i H2 => Same H H2 ∧ H2 D = some (.lst ((ns.take i).map V.int))) ⟨Same.new hD, by rw [upd_same]; rfl⟩ (fun i H2 _ ⟨s2, _⟩ => SqL.of (s2 _ _ hH)) ?_ ?_
    · rintro i x H2 hi ⟨s2, hd⟩
      obtain ⟨n, hn, rfl⟩ := map_int_get hi
      refine ⟨rfl, yesT ?_⟩
      refine ⟨_, rfl, .int n, .ty "list", _, false, rfl, .int n, (fun u hu => kitIL hu), false, rfl, iteF ?_⟩
      refine ⟨_, rfl, _, hd, ?_, s2.upd hD, ?_⟩
      · rw [List.length_map, List.length_take]
        exact small1000 (by omega)
      · rw [upd_same, snoc_take hn]
    · rintro H2 ⟨s2, hd⟩
      rw [List.length_map, List.take_length] at hd
      exact k D H2 s2 hD hd
theorem take_snoc {α : Type} {xs : List α} {i : Nat} {x : α} (h : xs[i]? = some x) : xs.take (i + 1) = xs.take i ++ [x] := by
  rw [List.take_add_one, h]
  rfl
def RowV (H : Hp) (v : V) : Option (List Int) → Prop
  | none => v = .non
  | some l => ∃ r, v = .ref r ∧ H r = some (.lst (l.map V.int))
structure RL (H : Hp) (vs : List V) (rows : List (Option (List Int))) : Prop where
  len : vs.length = rows.length
  at' : ∀ (p : Nat) (v : V) (row : Option (List Int)), vs[p]? = some v → rows[p]? = some row → RowV H v row
theorem RowV.mono {H H' : Hp} {v : V} {row : Option (List Int)} (h : RowV H v row) (s : Same H H') : RowV H' v row := by
  cases row with
  | none => exact h
  | some l => exact let ⟨r, e, q⟩ := h; ⟨r, e, s _ _ q⟩
theorem RL.mono {H H' : Hp} {vs : List V} {rows : List (Option (List Int))} (h : RL H vs rows) (s : Same H H') : RL H' vs rows := ⟨h.len, fun p v row a b => (h.at' p v row a b).mono s⟩
theorem RL.nil {H : Hp} : RL H [] [] := ⟨rfl, fun p v row h _ => by simp at h⟩
theorem RL.snoc {H : Hp} {vs : List V} {rows : List (Option (List Int))} {v : V} {row : Option (List Int)} (h : RL H vs rows) (hv : RowV H v row) : RL H (vs ++ [v]) (rows ++ [row]) := by
  refine ⟨by rw [List.length_append, List.length_append, h.len]; rfl, fun p x r hp hr => ?_⟩
  by_cases hpi : p < vs.length
  · rw [List.getElem?_append_left hpi] at hp
    rw [List.getElem?_append_left (by rw [← h.len]; exact hpi)] at hr
    exact h.at' p x r hp hr
  · rw [List.getElem?_append_right (by omega)] at hp
    rw [List.getElem?_append_right (by rw [← h.len]; omega), ← h.len] at hr
    have e0 : p - vs.length = 0 := by
      have := (List.getElem?_eq_some_iff.mp hp).1
      simp at this
      omega
    rw [e0] at hp hr
    have e1 : v = x := by simpa using hp
    have e2 : row = r := by simpa using hr
    subst e1 e2
    exact hv
theorem RL.get {H : Hp} {vs : List V} {rows : List (Option (List Int))} (h : RL H vs rows) {p : Nat} {v : V} (hv : vs[p]? = some v) : ∃ row, rows[p]? = some row ∧ RowV H v row := by
  have hl := (List.getElem?_eq_some_iff.mp hv).1
  have e : rows[p]? = some (rows[p]'(by rw [← h.len]; exact hl)) := List.getElem?_eq_getElem _
  exact ⟨_, e, h.at' p v _ hv e⟩
theorem RL.set {H : Hp} {vs : List V} {rows : List (Option (List Int))} {v : V} {row : Option (List Int)} (h : RL H vs rows) (hv : RowV H v row) (j : Nat) : RL H (vs.set j v) (rows.set j row) := by
  refine ⟨by rw [List.length_set, List.length_set, h.len], fun p x r hp hr => ?_⟩
  by_cases hj : j = p
  · subst hj
    have hl : j < vs.length := by
      have := (List.getElem?_eq_some_iff.mp hp).1
      rwa [List.length_set] at this
    rw [List.getElem?_set_self hl] at hp
    rw [List.getElem?_set_self (by rw [← h.len]; exact hl)] at hr
    cases hp
    cases hr
    exact hv
  · rw [List.getElem?_set_ne hj] at hp hr
    exact h.at' p x r hp hr
def spCopyR : Sp := fun vs H Q _ => ∃ (a : Addr) (xs : List V) (rows : List (Option (List Int))), vs = [.ref a] ∧ H a = some (.lst xs) ∧ RL H xs rows ∧ rows.length < 1000 ∧ ∀ b xs' H', Same H H' → H b = none → H' b = some (.lst xs') → RL H' xs' rows → (∀ r, V.ref r ∈ xs' → H r = none ∧ r ≠ b) → Q (.ref b) H'
theorem ok_copiedR (T : Txt K mg A) : FnOk P w K mg base CX0 1 A.f_copied A.d_copied ["thing"] spCopyR := by
  refine T.f_copied.ok sc_copied (fun vs H Q E h => ?_) (fun cdv A outer s H vs Q E hr h => ?_)
  · obtain ⟨a, xs, rows, rfl, _⟩ := h
    rfl
  · obtain ⟨a, xs, rows, rfl, hH, hR, hl, k⟩ := h
    refine ⟨_, (pss_cons (ps_if (pt_not (pt_val (pe_callB (cr_isiK K) (by rfl) T.n_isinstance (by decide +kernel) (@pa_cons _ _ _ _ _ (pv 0) (@pa_cons _ _ _ _ _ (pe_bltn (v := .ty "list") (by rfl) T.n_list (by decide +kernel) rfl) pa_nil (by rfl)) (by rfl))))) (pss_one (ps_ret (pv 0))) pss_nil)
      (pss_one (ps_ret (pe_lc (own := [("part", 1)]) rfl sc_copied.nd (pi_listK K (pv 0)) (blkOk_by (own := [("part", 1)]) (by kernel_rfl)) (fun _ _ _ _ _ => (pg_name (i := 1) sc_copied.nd rfl (Or.inl rfl))) (fun _ _ _ _ _ => pts_nil) (fun _ _ _ _ _ => (pe_ifExp (pt_val (pe_callB (cr_isiK K) (by rfl) T.n_isinstance (by decide +kernel) (@pa_cons _ _ _ _ _ (pv 1) (@pa_cons _ _ _ _ _ (pe_bltn (v := .ty "list") (by rfl) T.n_list (by decide +kernel) rfl) pa_nil (by rfl)) (by rfl)))) (pe_callTy (call_list_ofK K) (by rfl) T.n_list (by decide +kernel) (@pa_cons _ _ _ _ _ (pv 1) pa_nil (by rfl))) (pv 1))))))), ?_⟩
    refine ⟨_, rfl, .ref a, .ty "list", _, true, rfl, .lst hH, (fun u hu => kitL hu), true, rfl, iteF ?_⟩
    refine ⟨_, rfl, a, rfl, ⟨_, SqL.of hH⟩, fun D hD => ?_⟩
    refine lc_list (K := K) (a := a) (xs := xs) (fun i H2 => Same H H2 ∧ ∃ ys : List V, ys.length = i ∧ H2 D = some (.lst ys) ∧ RL H2 ys (rows.take i) ∧ ∀ r, V.ref r ∈ ys → H r = none ∧ r ≠ D) ⟨Same.new hD, [], rfl, upd_same, by simpa using RL.nil, by simp⟩ (fun i H2 _ ⟨s2, _⟩ => SqL.of (s2 _ _ hH)) ?_ ?_
    · rintro i x H2 hi ⟨s2, ys, hyl, hd, hR2, hn⟩
      obtain ⟨row, hrow, hv⟩ := hR.get hi
      have hil := (List.getElem?_eq_some_iff.mp hrow).1
      have hsz : ys.length < sizeLine := small1000 (by omega)
      refine ⟨rfl, yesT ?_⟩
      cases row with
      | none =>
        have hv : x = .non := hv
        subst hv
        refine ⟨_, rfl, .non, .ty "list", _, false, rfl, .non, (fun u hu => kitNL hu), false, rfl, iteF ?_⟩
        refine ⟨_, rfl, _, hd, hsz, s2.upd hD, ys ++ [.non], by rw [List.length_append, hyl]; rfl, upd_same, ?_, fun r hr' => ?_⟩
        · rw [take_snoc hrow]
          refine RL.snoc ⟨hR2.len, fun p v row hp hr => ?_⟩ rfl
          have q := hR2.at' p v row hp hr
          cases row with
          | none => exact q
          | some l =>
            obtain ⟨r, e, q⟩ := q
            exact ⟨r, e, by rw [upd_ne (hn r (by rw [← e]; exact List.mem_of_getElem? hp)).2]; exact q⟩
        · rcases List.mem_append.mp hr' with h1 | h1
          · exact hn r h1
          · exact absurd (List.mem_singleton.mp h1) (by simp)
      | some l =>
        obtain ⟨r, rfl, hr⟩ := hv
        refine ⟨_, rfl, .ref r, .ty "list", _, true, rfl, .lst (s2 _ _ hr), (fun u hu => kitL hu), true, rfl, iteT ?_⟩
        refine ⟨_, rfl, r, _, rfl, .inl (SqL.of (s2 _ _ hr)), fun q hq => ?_⟩
        have hqH : H q = none := s2.free hq
        have nqD : D ≠ q := ne_of_none hd hq
        refine ⟨ys, by rw [upd_ne nqD]; exact hd, hsz, (s2.upd hqH).upd hD, ys ++ [.ref q], by rw [List.length_append, hyl]; rfl, upd_same, ?_, fun r' hr' => ?_⟩
        · rw [take_snoc hrow]
          refine RL.snoc ⟨hR2.len, fun p v row hp hr => ?_⟩ ⟨q, rfl, by rw [upd_ne (Ne.symm nqD), upd_same]⟩
          have z := hR2.at' p v row hp hr
          cases row with
          | none => exact z
          | some l =>
            obtain ⟨r, e, z⟩ := z
            exact ⟨r, e, by rw [upd_ne (hn r (by rw [← e]; exact List.mem_of_getElem? hp)).2, upd_ne (ne_of_none z hq)]; exact z⟩
        · rcases List.mem_append.mp hr' with h1 | h1
          · exact hn r' h1
          · have e : r' = q := by
              have := List.mem_singleton.mp h1
              injection this
            subst e
            exact ⟨hqH, Ne.symm nqD⟩
    · rintro H2 ⟨s2, ys, hyl, hd, hR2, hn⟩
      rw [hR.len, List.take_length] at hR2
      exact k D ys H2 s2 hD hd hR2 hn
end
end Toy

set_option Elab.async false
set_option linter.all false
set_option maxRecDepth 100000
set_option maxHeartbeats 4000000
namespace Toy
open PySem L2
theorem nodup_sub {α : Type} [DecidableEq α] : ∀ {l₁ l₂ : List α}, l₁.Nodup → (∀ x ∈ l₁, x ∈ l₂) → l₁.length ≤ l₂.length
  | [], _, _, _ => Nat.zero_le _
  | a :: r, l₂, h, hs => by
    obtain ⟨h1, h2⟩ := List.nodup_cons.mp h
    have ha := hs a List.mem_cons_self
    have ih := nodup_sub (l₂ := l₂.erase a) h2 fun x hx => (List.mem_erase_of_ne (fun (z : x = a) => h1 (by rw [← z]; exact hx))).mpr (hs x (List.mem_cons_of_mem _ hx))
    rw [List.length_erase_of_mem ha] at ih
    have := List.length_pos_of_mem ha
    rw [List.length_cons]
    omega
theorem nodup_len {l : List Int} {n : Nat} (h : l.Nodup) (hx : ∀ x ∈ l, 0 ≤ x ∧ x < n) : l.length ≤ n := by
  have := nodup_sub (l₂ := (List.range n).map fun k : Nat => (k : Int)) h fun x hx' => List.mem_map.mpr ⟨x.toNat, List.mem_range.mpr (by have := hx x hx'; omega), by have := hx x hx'; omega⟩
  simpa using this
structure GoodO (os : List (List Int)) : Prop where
  n1 : 1 ≤ os.length
  n40 : os.length ≤ 40
  inR : ∀ x ∈ os.flatten, 0 < x ∧ x < os.length
  nd : os.flatten.Nodup
  reach : ∀ S : Int → Prop, S 0 → (∀ (p : Nat) (row : List Int), os[p]? = some row → S p → ∀ x ∈ row, S x) → ∀ x : Int, 0 ≤ x → x < os.length → S x
def ch (os : List (List Int)) (x : Int) : List Int := os.getD x.toNat []
theorem ch_get {os : List (List Int)} {x : Int} (h0 : 0 ≤ x) (h1 : x < os.length) : os[x.toNat]? = some (ch os x) := by
  unfold ch
  rw [List.getD_eq_getElem?_getD, List.getElem?_eq_getElem (by omega)]
  rfl
theorem flat_mem {os : List (List Int)} {p : Nat} {row : List Int} {x : Int} (hp : os[p]? = some row) (hx : x ∈ row) : x ∈ os.flatten := List.mem_flatten.mpr ⟨row, List.mem_of_getElem? hp, hx⟩
theorem GoodO.row {os : List (List Int)} (g : GoodO os) {p : Nat} {row : List Int} (hp : os[p]? = some row) : row.Nodup ∧ ∀ x ∈ row, 0 < x ∧ x < os.length := by
  obtain ⟨h1, _⟩ := List.pairwise_flatten.mp g.nd
  exact ⟨h1 row (List.mem_of_getElem? hp), fun x hx => g.inR x (flat_mem hp hx)⟩
theorem GoodO.one {os : List (List Int)} (g : GoodO os) {p q : Nat} {row row' : List Int} {x : Int} (hp : os[p]? = some row) (hq : os[q]? = some row') (hx : x ∈ row) (hx' : x ∈ row') : p = q := by
  obtain ⟨_, h2⟩ := List.pairwise_flatten.mp g.nd
  obtain ⟨lp, ep⟩ := List.getElem?_eq_some_iff.mp hp
  obtain ⟨lq, eq⟩ := List.getElem?_eq_some_iff.mp hq
  rcases Nat.lt_trichotomy p q with h | h | h
  · have := List.pairwise_iff_getElem.mp h2 p q lp lq h x (by rw [ep]; exact hx) x (by rw [eq]; exact hx')
    exact absurd rfl this
  · exact h
  · have := List.pairwise_iff_getElem.mp h2 q p lq lp h x (by rw [eq]; exact hx') x (by rw [ep]; exact hx)
    exact absurd rfl this
structure Bfs (os : List (List Int)) (R : List Int) (at' : Nat) : Prop where
  le : at' ≤ R.length
  eq : R = 0 :: (R.take at').flatMap (ch os)
  nd : R.Nodup
  inR : ∀ x ∈ R, 0 ≤ x ∧ x < os.length
theorem Bfs.start {os : List (List Int)} (g : GoodO os) : Bfs os [0] 0 :=
  ⟨Nat.zero_le _, rfl, by simp, fun x hx => by
    have := g.n1
    rw [List.mem_singleton.mp hx]
    omega⟩
theorem Bfs.step {os : List (List Int)} {R : List Int} {i : Nat} {p : Int} (g : GoodO os) (h : Bfs os R i) (hp : R[i]? = some p) : Bfs os (R ++ ch os p) (i + 1) := by
  have hi := (List.getElem?_eq_some_iff.mp hp).1
  have hpm : p ∈ R := List.mem_of_getElem? hp
  obtain ⟨p0, p1⟩ := h.inR p hpm
  have hrow := ch_get p0 p1
  obtain ⟨cn, cr⟩ := g.row hrow
  refine ⟨by rw [List.length_append]; omega, ?_, ?_, ?_⟩
  · rw [List.take_append_of_le_length (by omega), take_snoc hp, List.flatMap_append]
    conv => lhs; rw [h.eq]
    simp
  · refine List.nodup_append.mpr ⟨h.nd, cn, fun x hx y hy z => ?_⟩
    subst z
    have hx0 := (cr x hy).1
    rw [h.eq] at hx
    rcases List.mem_cons.mp hx with rfl | hx
    · omega
    · obtain ⟨q, hq, hxq⟩ := List.mem_flatMap.mp hx
      obtain ⟨q0, q1⟩ := h.inR q (List.mem_of_mem_take hq)
      have e := g.one hrow (ch_get q0 q1) hy hxq
      have epq : p = q := by omega
      subst epq
      obtain ⟨j, hj, ej⟩ := List.mem_iff_getElem.mp hq
      rw [List.length_take] at hj
      rw [List.getElem_take] at ej
      have e2 : R[i] = p := (List.getElem?_eq_some_iff.mp hp).2
      exact List.pairwise_iff_getElem.mp h.nd j i (by omega) hi (by omega) (by rw [e2, ej])
  · intro x hx
    rcases List.mem_append.mp hx with hx | hx
    · exact h.inR x hx
    · have := cr x hx
      exact ⟨by omega, this.2⟩
theorem Bfs.last {os : List (List Int)} {R : List Int} (g : GoodO os) (h : Bfs os R R.length) : R.length = os.length := by
  have e := h.eq
  rw [List.take_length] at e
  have all : ∀ x : Int, 0 ≤ x → x < os.length → x ∈ R := g.reach (· ∈ R) (by rw [e]; exact List.mem_cons_self) fun p row hp hpR x hx => by
    rw [e]
    refine List.mem_cons_of_mem _ (List.mem_flatMap.mpr ⟨p, hpR, ?_⟩)
    have hl := (List.getElem?_eq_some_iff.mp hp).1
    have q := ch_get (os := os) (x := p) (by omega) (by omega)
    rw [Int.toNat_natCast, hp] at q
    cases q
    exact hx
  have h1 := nodup_len h.nd h.inR
  have h2 := nodup_sub (l₁ := (List.range os.length).map fun k : Nat => (k : Int)) (l₂ := R) (by
    refine List.Pairwise.map _ (fun a b hab z => hab (by omega)) List.nodup_range) fun x hx => by
      obtain ⟨k, hk, rfl⟩ := List.mem_map.mp hx
      have := List.mem_range.mp hk
      exact all k (by omega) (by omega)
  rw [List.length_map, List.length_range] at h2
  omega
end Toy

set_option Elab.async false
set_option linter.all false
set_option maxRecDepth 100000
set_option maxHeartbeats 4000000
namespace Toy
open PySem L2
abbrev OL (H : Hp) (vs : List V) (os : List (List Int)) : Prop := RL H vs (os.map some)
theorem OL.get {H : Hp} {vs : List V} {os : List (List Int)} (h : OL H vs os) {p : Nat} {v : V} (hv : vs[p]? = some v) : ∃ r l, v = .ref r ∧ os[p]? = some l ∧ H r = some (.lst (l.map V.int)) := by
  obtain ⟨row, hr, q⟩ := RL.get h hv
  rw [List.getElem?_map] at hr
  obtain ⟨l, hl, rfl⟩ := Option.map_eq_some_iff.mp hr
  obtain ⟨r, e, q⟩ := q
  exact ⟨r, l, e, hl, q⟩
theorem OL.at {H : Hp} {vs : List V} {os : List (List Int)} (h : OL H vs os) {p : Nat} {l : List Int} (hl : os[p]? = some l) : ∃ r, vs[p]? = some (.ref r) ∧ H r = some (.lst (l.map V.int)) := by
  have hp := (List.getElem?_eq_some_iff.mp hl).1
  have e : vs[p]? = some (vs[p]'(by rw [h.len, List.length_map]; exact hp)) := List.getElem?_eq_getElem _
  obtain ⟨r, l', e', hl', q⟩ := OL.get h e
  rw [hl] at hl'
  cases hl'
  exact ⟨r, by rw [e, e'], q⟩
def atLen (σ : St) : Nat := match σ with
  | [_, _, some (.int i)] => i.toNat
  | _ => 0
section
variable {P : Program} {w : World} {K : PySem.W.Frag} {mg : Str → Option Value} {base : Heap} {A : Adr}
def spOrd : Sp := fun vs H Q _ => ∃ (a : Addr) (xs : List V) (os : List (List Int)), vs = [.ref a] ∧ H a = some (.lst xs) ∧ OL H xs os ∧ GoodO os ∧ ∀ H', Same H H' → Q (.bl true) H'
theorem sc_nobody_is_called_twice : FnScope ["orders", "called", "row", "person"] ["orders"] (defScope s_nobody_is_called_twice) := ⟨rfl, rfl, rfl, by decide +kernel, rfl, by decide +kernel, by decide +kernel⟩
theorem ok_nobody_is_called_twice (T : Txt K mg A) : FnOk P w K mg base CX0 3 A.f_nobody_is_called_twice A.d_nobody_is_called_twice ["orders"] spOrd := by
  have G_is_person := ok_is_person (P := P) (w := w) (base := base) T
  refine T.f_nobody_is_called_twice.ok sc_nobody_is_called_twice (fun vs H Q E h => ?_) (fun cdv A' outer s H vs Q E hr h => ?_)
  · obtain ⟨a, xs, os, rfl, _⟩ := h
    rfl
  · obtain ⟨a, xs, os, rfl, hH, hO, g, k⟩ := h
    have hxl : xs.length = os.length := by rw [hO.len, List.length_map]
    have hfl : os.flatten.length ≤ 40 := Nat.le_trans (nodup_len (n := os.length) g.nd fun x hx => by have := g.inR x hx; omega) g.n40
    refine ⟨_, (pss_cons (ps_set (i := 1) sc_nobody_is_called_twice.nd rfl (Or.inl rfl) (pe_callTy0 call_set0 (by rfl) T.n_set (by decide +kernel)))
      (pss_cons (ps_for PassesOwn.never rfl (pi_listK K (pv 0)) (pg_name (i := 2) sc_nobody_is_called_twice.nd rfl (Or.inl rfl)) (pss_cons (ps_if (pt_not (pt_val (pe_callB (cr_isiK K) (by rfl) T.n_isinstance (by decide +kernel) (@pa_cons _ _ _ _ _ (pv 2) (@pa_cons _ _ _ _ _ (pe_bltn (v := .ty "list") (by rfl) T.n_list (by decide +kernel) rfl) pa_nil (by rfl)) (by rfl))))) (pss_one (ps_ret pe_bl)) pss_nil)
      (pss_one (ps_for PassesOwn.never rfl (pi_listK K (pv 2)) (pg_name (i := 3) sc_nobody_is_called_twice.nd rfl (Or.inl rfl)) (pss_cons (ps_if (PW.pt (pw_or (pt_not (pt_val (pe_call G_is_person (hr.mono (by decide)) (by rfl) T.m_is_person T.k_is_person T.b_is_person .nil pass0 (@pa_cons _ _ _ _ _ (pv 3) (@pa_cons _ _ _ _ _ (pe_callB (call_len_seqK K) (by rfl) T.n_len PySem.boot_len (@pa_cons _ _ _ _ _ (pv 0) pa_nil (by rfl))) pa_nil (by rfl)) (by rfl))))) (pw_or (pt_cmpR op_eq (pv 3) pe_int (nomark _)) (pw_or1 (pt_cmpR op_in_set (pv 3) (pv 1) (by with_unfolding_all rfl)))))) (pss_one (ps_ret pe_bl)) pss_nil)
      (pss_one (ps_expr (pe_bmK K PySem.F.plainAttrs_set PySem.F.slot_set_add PySem.F.type_set_add mt_add (pv 1) (@pa_cons _ _ _ _ _ (pv 3) pa_nil (by rfl))))))))))
      (pss_one (ps_ret pe_bl)))), ?_⟩
    refine ⟨rfl, fun c hc => ?_⟩
    have s0 : Same H (upd H c (.set (fun _ => false) 0)) := Same.new hc
    refine ⟨_, rfl, a, rfl, ⟨_, SqL.of (s0 _ _ hH)⟩, for_list (K := K) (a := a) (xs := xs)
      (fun i σ H2 => ∃ (x y : Option V), σ = [some (.ref a), some (.ref c), x, y] ∧ Same H H2 ∧ H2 c = some (.set (fun k => decide (k ∈ (os.take i).flatten)) (os.take i).flatten.length))
      ⟨none, none, rfl, s0, by rw [upd_same]; simp⟩ (fun i σ H2 _ ⟨_, _, _, s2, _⟩ => SqL.of (s2 _ _ hH)) ?_ ?_⟩
    · rintro i x σ H2 hi ⟨x0, y0, rfl, s2, hS⟩
      obtain ⟨r, l, rfl, hl, hr0⟩ := OL.get hO hi
      refine ⟨_, rfl, .ref r, .ty "list", _, true, rfl, .lst (s2 _ _ hr0), (fun u hu => kitL hu), true, rfl, iteF ?_⟩
      refine ⟨_, rfl, r, rfl, ⟨_, SqL.of (s2 _ _ hr0)⟩, for_list (K := K) (a := r) (xs := l.map V.int)
        (fun j σ H3 => ∃ (y : Option V), σ = [some (.ref a), some (.ref c), some (.ref r), y] ∧ Same H H3 ∧ H3 c = some (.set (fun k => decide (k ∈ (os.take i).flatten ++ l.take j)) ((os.take i).flatten ++ l.take j).length))
        ⟨_, rfl, s2, by rw [hS]; simp⟩ (fun j σ H3 _ ⟨_, _, s3, _⟩ => SqL.of (s3 _ _ hr0)) ?_ ?_⟩
      · rintro j x σ H3 hj ⟨y1, rfl, s3, hS3⟩
        obtain ⟨p, hp, rfl⟩ := map_int_get hj
        have hpl : p ∈ l := List.mem_of_getElem? hp
        obtain ⟨q0, q1⟩ := (g.row hl).2 p hpl
        refine ⟨_, rfl, _, rfl, a, xs, rfl, .inl (SqL.of (s3 _ _ hH)), p, xs.length, rfl, _, rfl, ?_⟩
        rw [decide_eq_true ⟨by omega, by omega⟩]
        refine iteF ⟨_, rfl, rfl, _, rfl, ?_⟩
        rw [decide_eq_false (fun z => by injection z with z; omega)]
        have nin : p ∉ (os.take i).flatten ++ l.take j := by
          intro hm
          rcases List.mem_append.mp hm with hm | hm
          · obtain ⟨row, hrow, hpr⟩ := List.mem_flatten.mp hm
            obtain ⟨q, hq, eq⟩ := List.mem_iff_getElem.mp hrow
            rw [List.length_take] at hq
            rw [List.getElem_take] at eq
            have := g.one (p := q) (row := row) (by rw [List.getElem?_eq_getElem (by omega), eq]) hl hpr hpl
            omega
          · obtain ⟨q, hq, eq⟩ := List.mem_iff_getElem.mp hm
            rw [List.length_take] at hq
            rw [List.getElem_take] at eq
            obtain ⟨hjl, ej⟩ := List.getElem?_eq_some_iff.mp hp
            exact List.pairwise_iff_getElem.mp (g.row hl).1 q j (by omega) hjl (by omega) (by rw [eq, ej])
        refine iteF ⟨_, rfl, _, rfl, c, p, _, _, rfl, rfl, hS3, _, rfl, ?_⟩
        rw [decide_eq_false nin]
        have hle : ((os.take i).flatten ++ l.take j).length ≤ 200 := by
          have a1 : (os.take i).flatten.length ≤ os.flatten.length := by
            conv => rhs; rw [← List.take_append_drop i os, List.flatten_append]
            rw [List.length_append]
            omega
          have a2 : l.length ≤ 40 := Nat.le_trans (nodup_len (n := os.length) (g.row hl).1 fun x hx => by have := (g.row hl).2 x hx; omega) g.n40
          rw [List.length_append, List.length_take]
          omega
        refine iteF ⟨_, rfl, .inr (.inr (.inr ⟨rfl, _, _, hS3⟩)), _, rfl, c, p, _, _, rfl, rfl, hS3, Nat.lt_of_le_of_lt (Nat.succ_le_succ hle) (by decide), _, rfl, s3.upd hc, ?_⟩
        rw [upd_same, take_snoc hp, ← List.append_assoc]
        rw [if_neg (by rw [decide_eq_false nin]; simp)]
        have e1 : (fun k => decide (k ∈ (os.take i).flatten ++ l.take j) || decide (k = p)) = fun k => decide (k ∈ (os.take i).flatten ++ l.take j ++ [p]) := by
          funext k
          rw [Bool.eq_iff_iff]
          simp [or_assoc]
        rw [e1]
        simp [Nat.add_assoc]
      · rintro σ H3 ⟨y1, rfl, s3, hS3⟩
        rw [List.length_map, List.take_length] at hS3
        refine ⟨_, _, rfl, s3, ?_⟩
        rw [hS3, take_snoc hl, List.flatten_append]
        simp
    · rintro σ H2 ⟨x0, y0, rfl, s2, hS⟩
      exact k H2 s2
theorem sc_all_are_come_to : FnScope ["orders", "reached", "at"] ["orders"] (defScope s_all_are_come_to) := ⟨rfl, rfl, rfl, by decide +kernel, rfl, by decide +kernel, by decide +kernel⟩
theorem ok_all_are_come_to (T : Txt K mg A) : FnOk P w K mg base CX0 1 A.f_all_are_come_to A.d_all_are_come_to ["orders"] spOrd := by
  refine T.f_all_are_come_to.ok sc_all_are_come_to (fun vs H Q E h => ?_) (fun cdv A' outer s H vs Q E hr h => ?_)
  · obtain ⟨a, xs, os, rfl, _⟩ := h
    rfl
  · obtain ⟨a, xs, os, rfl, hH, hO, g, k⟩ := h
    have hxl : xs.length = os.length := by rw [hO.len, List.length_map]
    refine ⟨_, (pss_cons (ps_set (i := 1) sc_all_are_come_to.nd rfl (Or.inl rfl) (@pe_lst _ _ _ _ (@pa_cons _ _ _ _ _ pe_int pa_nil (by rfl))))
      (pss_cons (ps_set (i := 2) sc_all_are_come_to.nd rfl (Or.inl rfl) pe_int)
      (pss_cons (ps_while PassesOwn.never (pt_cmpR op_lt (pv 2) (pe_callB (call_len_seqK K) (by rfl) T.n_len PySem.boot_len (@pa_cons _ _ _ _ _ (pv 1) pa_nil (by rfl))) (nomark _)) (pss_cons (ps_expr (pe_bmK K PySem.F.plainAttrs_list PySem.F.slot_list_extend PySem.F.type_list_extend mt_extend (pv 1) (@pa_cons _ _ _ _ _ (pe_ix (ix_listK K) (pv 0) (pe_ix (ix_listK K) (pv 1) (pv 2) (fun _ _ => rfl)) (fun _ _ => rfl)) pa_nil (by rfl))))
      (pss_one (ps_aug (i := 2) sc_all_are_come_to.nd rfl (Or.inl rfl) pe_int ip_add))))
      (pss_one (ps_ret (pe_cmpR op_eq (pe_callB (call_len_seqK K) (by rfl) T.n_len PySem.boot_len (@pa_cons _ _ _ _ _ (pv 1) pa_nil (by rfl))) (pe_callB (call_len_seqK K) (by rfl) T.n_len PySem.boot_len (@pa_cons _ _ _ _ _ (pv 0) pa_nil (by rfl))) (nomark _))))))), ?_⟩
    refine ⟨(by show 1 ≤ sizeLine; decide), fun r hr0 => ?_⟩
    have s0 : Same H (upd H r (.lst [.int 0])) := Same.new hr0
    refine while_by (fun σ H2 => ∃ (R : List Int) (i : Nat), σ = [some (.ref a), some (.ref r), some (.int (i : Int))] ∧ Same H H2 ∧ H2 r = some (.lst (R.map V.int)) ∧ Bfs os R i)
      (fun σ _ => 41 - atLen σ) ⟨[0], 0, rfl, s0, upd_same, Bfs.start g⟩ ?_ ?_
    · rintro σ H2 ⟨R, i, rfl, s2, hR, hB⟩
      have hRl : R.length ≤ 40 := Nat.le_trans (nodup_len hB.nd hB.inR) g.n40
      refine ⟨_, rfl, _, rfl, r, _, rfl, .inl (SqL.of hR), _, _, rfl, rfl, _, rfl, ?_⟩
      rw [List.length_map]
      refine ite2 (fun hlt => ?_) (fun hlt => ?_)
      · have hlt : i < R.length := by
          have := of_decide_eq_true hlt
          omega
        obtain ⟨p, hp⟩ : ∃ p, R[i]? = some p := ⟨_, List.getElem?_eq_getElem hlt⟩
        obtain ⟨p0, p1⟩ := hB.inR p (List.mem_of_getElem? hp)
        obtain ⟨r1, hr1, hr1H⟩ := OL.at hO (ch_get p0 p1)
        have hB2 := hB.step g hp
        have hl2 : (R ++ ch os p).length ≤ 40 := Nat.le_trans (nodup_len hB2.nd hB2.inR) g.n40
        refine ⟨_, rfl, .inl ⟨rfl, _, SqL.of hR⟩, ?_⟩
        refine ⟨_, rfl, _, rfl, _, rfl, r, _, _, _, rfl, rfl, SqL.of hR, at_of (j := i) rfl (by rw [List.getElem?_map, hp]; rfl), a, _, p, _, rfl, rfl, SqL.of (s2 _ _ hH), at_of (j := p.toNat) (by omega) hr1, ?_⟩
        refine ⟨r, r1, _, _, rfl, rfl, hR, s2 _ _ hr1H, ?_, ?_⟩
        · rw [List.length_map, List.length_map]
          rw [List.length_append] at hl2
          exact Nat.le_of_lt (small1000 (by omega))
        · refine ⟨_, rfl, _, _, rfl, rfl, ⟨R ++ ch os p, i + 1, rfl, s2.upd hr0, ?_, hB2⟩, ?_⟩
          · rw [upd_same, List.map_append]
          · show 41 - atLen [_, _, some (.int ((i : Int) + 1))] < 41 - atLen [_, _, some (.int (i : Int))]
            unfold atLen
            show 41 - ((i : Int) + 1).toNat < 41 - ((i : Int)).toNat
            omega
      · have hge : ¬ i < R.length := fun z => hlt (decide_eq_true (by omega))
        have hi : i = R.length := by
          have := hB.le
          omega
        subst hi
        have hl := hB.last g
        refine ⟨_, rfl, r, _, rfl, .inl (SqL.of hR), _, rfl, a, _, rfl, .inl (SqL.of (s2 _ _ hH)), rfl, ?_⟩
        rw [List.length_map, hl, hxl, decide_eq_true rfl]
        exact k H2 s2
    · intro σ H3 Q1 Q2 hq hc
      obtain ⟨v1, e1, v2, e3, p2, y2, e4, h4, i1, j1, e5, e6, b1, e7, q1⟩ := hc
      exact ⟨v1, e1, v2, e3, p2, y2, e4, h4, i1, j1, e5, e6, b1, e7, hq _ _ q1⟩
theorem sc_is_orders : FnScope ["orders"] ["orders"] (defScope s_is_orders) := ⟨rfl, rfl, rfl, by decide +kernel, rfl, by decide +kernel, by decide +kernel⟩
theorem ok_is_orders (T : Txt K mg A) : FnOk P w K mg base CX0 4 A.f_is_orders A.d_is_orders ["orders"] spOrd := by
  have G_nobody_is_called_twice := ok_nobody_is_called_twice (P := P) (w := w) (base := base) T
  have G_all_are_come_to := ok_all_are_come_to (P := P) (w := w) (base := base) T
  refine T.f_is_orders.ok sc_is_orders (fun vs H Q E h => ?_) (fun cdv A' outer s H vs Q E hr h => ?_)
  · obtain ⟨a, xs, os, rfl, _⟩ := h
    rfl
  · obtain ⟨a, xs, os, rfl, hH, hO, g, k⟩ := h
    have hxl : xs.length = os.length := by rw [hO.len, List.length_map]
    have n1 := g.n1
    have n40 := g.n40
    refine ⟨_, (pss_cons (ps_if (PW.pt (pw_or (pt_not (pt_val (pe_callB (cr_isiK K) (by rfl) T.n_isinstance (by decide +kernel) (@pa_cons _ _ _ _ _ (pv 0) (@pa_cons _ _ _ _ _ (pe_bltn (v := .ty "list") (by rfl) T.n_list (by decide +kernel) rfl) pa_nil (by rfl)) (by rfl))))) (pw_or1 (pt_not (pt_chain op_le op_le pe_int (pe_callB (call_len_seqK K) (by rfl) T.n_len PySem.boot_len (@pa_cons _ _ _ _ _ (pv 0) pa_nil (by rfl))) (pe_glob (v := .int 40) (by rfl) T.g_MOST_PEOPLE ⟨_, rfl⟩)))))) (pss_one (ps_ret pe_bl)) pss_nil)
      (pss_one (ps_ret (pe_and (pe_call G_nobody_is_called_twice (hr.mono (by decide)) (by rfl) T.m_nobody_is_called_twice T.k_nobody_is_called_twice T.b_nobody_is_called_twice .nil pass0 (@pa_cons _ _ _ _ _ (pv 0) pa_nil (by rfl))) (pe_one (pe_call G_all_are_come_to (hr.mono (by decide)) (by rfl) T.m_all_are_come_to T.k_all_are_come_to T.b_all_are_come_to .nil pass0 (@pa_cons _ _ _ _ _ (pv 0) pa_nil (by rfl)))))))), ?_⟩
    refine ⟨_, rfl, .ref a, .ty "list", _, true, rfl, .lst hH, (fun u hu => kitL hu), true, rfl, iteF ?_⟩
    refine ⟨_, rfl, a, xs, rfl, .inl (SqL.of hH), _, _, rfl, rfl, _, rfl, ?_⟩
    rw [decide_eq_true (by omega)]
    refine iteT ⟨_, _, rfl, rfl, _, rfl, ?_⟩
    rw [decide_eq_true (by omega)]
    refine iteF ⟨_, rfl, a, xs, os, rfl, hH, hO, g, fun H1 s1 => ⟨true, rfl, iteT ?_⟩⟩
    exact ⟨_, rfl, a, xs, os, rfl, s1 _ _ hH, RL.mono hO s1, g, fun H2 s2 => k H2 (s1.trans s2)⟩
def firstM (os : List (List Int)) : List (Option (List Int)) := some (ch os 0) :: List.replicate (os.length - 1) none
def spFirst : Sp := fun vs H Q _ => ∃ (a : Addr) (xs : List V) (os : List (List Int)), vs = [.ref a] ∧ H a = some (.lst xs) ∧ OL H xs os ∧ GoodO os ∧ ∀ b xs' H', Same H H' → H b = none → H' b = some (.lst xs') → RL H' xs' (firstM os) → (∀ r, V.ref r ∈ xs' → H r = none) → Q (.ref b) H'
theorem sc_first_rows : FnScope ["orders", "row"] ["orders"] (defScope s_first_rows) := ⟨rfl, rfl, rfl, by decide +kernel, rfl, by decide +kernel, by decide +kernel⟩
theorem rl_nones {H : Hp} : ∀ n, RL H (List.replicate n .non) (List.replicate n none)
  | n => ⟨by simp, fun p v row hp hr => by
    have h1 := List.eq_of_mem_replicate (List.mem_of_getElem? hp)
    have h2 := List.eq_of_mem_replicate (List.mem_of_getElem? hr)
    subst h1 h2
    exact rfl⟩
theorem RL.cons {H : Hp} {vs : List V} {rows : List (Option (List Int))} {v : V} {row : Option (List Int)} (h : RL H vs rows) (hv : RowV H v row) : RL H (v :: vs) (row :: rows) :=
  ⟨by rw [List.length_cons, List.length_cons, h.len], fun p x r hp hr => by
    cases p with
    | zero =>
      cases hp
      cases hr
      exact hv
    | succ p => exact h.at' p x r hp hr⟩
theorem cut_tail {xs : List V} (h : 1 ≤ xs.length) : cutV xs (some 1) none = xs.drop 1 := by
  unfold cutV
  have e : (1 : Int) = ((1 : Nat) : Int) := rfl
  rw [e, HT.sIx_none, HT.sIx_nat, Nat.min_eq_left h, List.take_of_length_le (by simp)]
theorem ok_first_rows (T : Txt K mg A) : FnOk P w K mg base CX0 1 A.f_first_rows A.d_first_rows ["orders"] spFirst := by
  refine T.f_first_rows.ok sc_first_rows (fun vs H Q E h => ?_) (fun cdv A' outer s H vs Q E hr h => ?_)
  · obtain ⟨a, xs, os, rfl, _⟩ := h
    rfl
  · obtain ⟨a, xs, os, rfl, hH, hO, g, k⟩ := h
    have n1 := g.n1
    have n40 := g.n40
    have hxl : xs.length = os.length := by rw [hO.len, List.length_map]
    obtain ⟨r0, hr0, hr0H⟩ := OL.at hO (ch_get (os := os) (x := 0) (by omega) (by omega))
    refine ⟨_, (pss_one (ps_ret (pe_op op_cat (@pe_lst _ _ _ _ (@pa_cons _ _ _ _ _ (pe_callTy (call_list_ofK K) (by rfl) T.n_list (by decide +kernel) (@pa_cons _ _ _ _ _ (pe_ix (ix_listK K) (pv 0) pe_int (fun _ _ => rfl)) pa_nil (by rfl))) pa_nil (by rfl))) (pe_lc (own := [("row", 1)]) rfl sc_first_rows.nd (pi_listK K (pe_slice (sl_listK K) (pv 0) (po_some pe_int) po_none)) (blkOk_by (own := [("row", 1)]) (by kernel_rfl)) (fun _ _ _ _ _ => (pg_name (i := 1) sc_first_rows.nd rfl (Or.inl rfl))) (fun _ _ _ _ _ => pts_nil) (fun _ _ _ _ _ => pe_non))))), ?_⟩
    refine ⟨_, rfl, a, _, _, _, rfl, rfl, SqL.of hH, at_of (j := 0) rfl hr0, r0, _, rfl, .inl (SqL.of hr0H), fun q hq => ⟨(by show 1 ≤ sizeLine; decide), fun p1 hp1 => ?_⟩⟩
    have s1 : Same H (upd (upd H q (.lst ((ch os 0).map V.int))) p1 (.lst [.ref q])) := by
      have a1 : Same H (upd H q (.lst ((ch os 0).map V.int))) := Same.new hq
      exact a1.upd (a1.free hp1)
    have nqp : q ≠ p1 := fun z => by
      rw [← z, upd_same] at hp1
      cases hp1
    refine ⟨_, rfl, _, rfl, a, xs, rfl, SqL.of (s1 _ _ hH), fun p2 hp2 => ?_⟩
    rw [cut_tail (by omega)]
    generalize hHe : upd (upd (upd H q (.lst ((ch os 0).map V.int))) p1 (.lst [.ref q])) p2 (.lst (xs.drop 1)) = H1
    have s2 : Same H H1 := by rw [← hHe]; exact s1.upd (s1.free hp2)
    have hp1' : H1 p1 = some (.lst [.ref q]) := by
      rw [← hHe, upd_ne (ne_of_none upd_same hp2), upd_same]
    have hq1 : H1 q = some (.lst ((ch os 0).map V.int)) := by
      rw [← hHe, upd_ne (ne_of_none (by rw [upd_ne nqp, upd_same]) hp2), upd_ne nqp, upd_same]
    have hp2' : H1 p2 = some (.lst (xs.drop 1)) := by rw [← hHe, upd_same]
    refine ⟨p2, rfl, ⟨_, SqL.of hp2'⟩, fun D hD => ?_⟩
    refine lc_list (K := K) (a := p2) (xs := xs.drop 1) (fun i H2 => Same H1 H2 ∧ H2 D = some (.lst (List.replicate i .non))) ⟨Same.new hD, by rw [upd_same]; rfl⟩ (fun i H2 _ ⟨s3, _⟩ => SqL.of (s3 _ _ hp2')) ?_ ?_
    · rintro i x H2 hi ⟨s3, hd⟩
      have hil := (List.getElem?_eq_some_iff.mp hi).1
      rw [List.length_drop] at hil
      refine ⟨rfl, yesT ⟨_, hd, ?_, s3.upd hD, ?_⟩⟩
      · rw [List.length_replicate]
        exact small1000 (by omega)
      · rw [upd_same, List.replicate_succ']
    · rintro H2 ⟨s3, hd⟩
      rw [List.length_drop, hxl] at hd
      refine ⟨p1, D, _, _, rfl, rfl, s3 _ _ hp1', hd, ?_, fun b hb => ?_⟩
      · rw [List.length_replicate]
        exact Nat.le_of_lt (small1000 (by show 1 + (os.length - 1) ≤ 1000; omega))
      · have s4 : Same H2 (upd H2 b (.lst ([.ref q] ++ List.replicate (os.length - 1) .non))) := Same.new hb
        exact k b _ _ ((s2.trans s3).trans s4) (s2.free (s3.free hb)) upd_same (RL.cons (rl_nones _) ⟨q, rfl, s4 _ _ (s3 _ _ hq1)⟩) fun r hr' => by
          rcases List.mem_cons.mp hr' with e | e
          · injection e with e
            rw [e]
            exact hq
          · exact absurd (List.eq_of_mem_replicate e) (by simp)
def idxs (f : Option (List Int) → Bool) (rows : List (Option (List Int))) : List Int := (rows.zipIdx.filter fun q => f q.1).map fun q => (q.2 : Int)
theorem idxs_snoc (f : Option (List Int) → Bool) (rows : List (Option (List Int))) (row : Option (List Int)) : idxs f (rows ++ [row]) = idxs f rows ++ (if f row = true then [(rows.length : Int)] else []) := by
  unfold idxs
  rw [List.zipIdx_append, List.filter_append, List.map_append]
  congr 1
  by_cases h : f row = true <;> simp [h]
theorem idxs_len (f : Option (List Int) → Bool) (rows : List (Option (List Int))) : (idxs f rows).length ≤ rows.length := by
  unfold idxs
  rw [List.length_map]
  exact Nat.le_trans (List.length_filter_le _ _) (by simp)
theorem idxs_mem {f : Option (List Int) → Bool} {rows : List (Option (List Int))} {x : Int} : x ∈ idxs f rows ↔ ∃ (p : Nat) (row : Option (List Int)), x = p ∧ rows[p]? = some row ∧ f row = true := by
  unfold idxs
  constructor
  · intro h
    obtain ⟨⟨row, p⟩, hq, rfl⟩ := List.mem_map.mp h
    obtain ⟨h1, h2⟩ := List.mem_filter.mp hq
    exact ⟨p, row, rfl, by simpa [List.mem_zipIdx_iff_getElem?] using h1, h2⟩
  · rintro ⟨p, row, rfl, h1, h2⟩
    exact List.mem_map.mpr ⟨(row, p), List.mem_filter.mpr ⟨by simpa [List.mem_zipIdx_iff_getElem?] using h1, h2⟩, rfl⟩
def hasC : Option (List Int) → Bool
  | some (_ :: _) => true
  | _ => false
def spCallers : Sp := fun vs H Q _ => ∃ (a : Addr) (xs : List V) (rows : List (Option (List Int))), vs = [.ref a] ∧ H a = some (.lst xs) ∧ RL H xs rows ∧ rows.length ≤ 100 ∧ ∀ b H', Same H H' → H b = none → H' b = some (.lst ((idxs hasC rows).map V.int)) → Q (.ref b) H'
theorem sc_callers : FnScope ["rows", "person", "row"] ["rows"] (defScope s_callers) := ⟨rfl, rfl, rfl, by decide +kernel, rfl, by decide +kernel, by decide +kernel⟩
theorem ok_callers (T : Txt K mg A) : FnOk P w K mg base CX0 1 A.f_callers A.d_callers ["rows"] spCallers := by
  refine T.f_callers.ok sc_callers (fun vs H Q E h => ?_) (fun cdv A' outer s H vs Q E hr h => ?_)
  · obtain ⟨a, xs, rows, rfl, _⟩ := h
    rfl
  · obtain ⟨a, xs, rows, rfl, hH, hR, hl, k⟩ := h
    refine ⟨_, (pss_one (ps_ret (pe_lc (own := [("person", 1), ("row", 2)]) rfl sc_callers.nd (pi_enumK K (by rfl) T.n_enumerate (@pa_cons _ _ _ _ _ (pv 0) pa_nil (by rfl))) (blkOk_by (own := [("person", 1), ("row", 2)]) (by kernel_rfl)) (fun _ _ _ _ _ => (pg_tupK K (n := 2) (by rfl) (pgs_cons (pg_name (i := 1) sc_callers.nd rfl (Or.inl rfl)) (pgs_cons (pg_name (i := 2) sc_callers.nd rfl (Or.inl rfl)) pgs_nil)))) (fun _ _ _ _ _ => (pts_one (PW.pt (pw_and (pt_cmpR op_notN (pv 2) pe_non (nomark _)) (pw_and1 (pt_cmpR op_gt (pe_callB (call_len_seqK K) (by rfl) T.n_len PySem.boot_len (@pa_cons _ _ _ _ _ (pv 2) pa_nil (by rfl))) pe_int (nomark _))))))) (fun _ _ _ _ _ => (pv 1))))), ?_⟩
    refine ⟨_, rfl, a, xs, rfl, SqL.of hH, fun D hD => ?_⟩
    refine lc_enum0 (K := K) (a := a) (xs := xs) (fun j H3 => Same H H3 ∧ H3 D = some (.lst ((idxs hasC (rows.take j)).map V.int))) ⟨Same.new hD, by rw [upd_same]; rfl⟩ (fun j H3 _ ⟨s3, _⟩ => SqL.of (s3 _ _ hH)) ?_ ?_
    · rintro j x t H3 hj ⟨s3, hd⟩ ht
      obtain ⟨row, hrow, hv⟩ := hR.get hj
      have hjl := (List.getElem?_eq_some_iff.mp hrow).1
      have htk : (rows.take j).length = j := by rw [List.length_take]; omega
      have s4 : Same H3 (upd H3 t (.tup [.int (j : Nat), x])) := Same.new ht
      have hd4 := s4 _ _ hd
      have hs3 : Same H (upd H3 t (.tup [.int (j : Nat), x])) := s3.trans s4
      have key : idxs hasC (rows.take (j + 1)) = idxs hasC (rows.take j) ++ (if hasC row = true then [(j : Int)] else []) := by
        rw [take_snoc hrow, idxs_snoc, htk]
      refine ⟨t, _, rfl, SqT.of upd_same, rfl, _, _, rfl, _, _, rfl, rfl, rfl, ?_⟩
      refine ⟨_, rfl, rfl, _, rfl, ?_⟩
      cases row with
      | none =>
        have hv : x = .non := hv
        subst hv
        refine ⟨hs3, ?_⟩
        rw [key]
        simpa [hasC] using hd4
      | some l =>
        obtain ⟨r, rfl, hr'⟩ := hv
        have hr4 := hs3 _ _ hr'
        refine ⟨_, rfl, r, _, rfl, .inl (SqL.of hr4), _, _, rfl, rfl, _, rfl, ?_⟩
        rw [List.length_map]
        cases l with
        | nil =>
          refine ⟨hs3, ?_⟩
          rw [key]
          simpa [hasC] using hd4
        | cons y l =>
          refine ite2 (fun _ => ?_) (fun h => absurd (decide_eq_true (by rw [List.length_cons]; omega)) h)
          refine ⟨_, rfl, _, hd4, ?_, hs3.upd hD, ?_⟩
          · rw [List.length_map]
            have := idxs_len hasC (rows.take j)
            exact small1000 (by omega)
          · rw [upd_same, key]
            simp [hasC]
    · rintro H3 ⟨s3, hd⟩
      rw [hR.len, List.take_length] at hd
      exact k D H3 s3 hD hd
end
end Toy

set_option Elab.async false
set_option linter.all false
set_option maxRecDepth 100000
set_option maxHeartbeats 4000000
namespace Toy
open PySem L2
theorem inV_ints (c : Int) : ∀ as : List Int, inV (.int c) (as.map V.int) = decide (c ∈ as)
  | [] => by simp [inV]
  | a :: r => by
    have ih := inV_ints c r
    unfold inV at ih ⊢
    rw [List.map_cons, List.any_cons, ih]
    by_cases h : a = c
    · subst h
      simp [eqV]
    · have h' : ¬ c = a := fun z => h z.symm
      simp [eqV, h, h']
theorem flat_ints : ∀ as : List Int, (as.map V.int).all flatV = true
  | [] => rfl
  | a :: r => by
    rw [List.map_cons, List.all_cons, flat_ints r]
    rfl
structure CL (H : Hp) (cs : List Addr) (calls : List (Int × Int × Bool)) : Prop where
  len : cs.length = calls.length
  at' : ∀ (p : Nat) (t : Addr) (c : Int × Int × Bool), cs[p]? = some t → calls[p]? = some c → H t = some (.tup [.int c.1, .int c.2.1, .bl c.2.2])
theorem CL.mono {H H' : Hp} {cs : List Addr} {calls : List (Int × Int × Bool)} (h : CL H cs calls) (s : Same H H') : CL H' cs calls := ⟨h.len, fun p t c a b => s _ _ (h.at' p t c a b)⟩
theorem CL.upd {H : Hp} {cs : List Addr} {calls : List (Int × Int × Bool)} {a : Addr} {o : HO} (h : CL H cs calls) (n : a ∉ cs) : CL (L2.upd H a o) cs calls :=
  ⟨h.len, fun p t c hp hc => by rw [upd_ne (fun z => n (by rw [← z]; exact List.mem_of_getElem? hp))]; exact h.at' p t c hp hc⟩
theorem CL.nil {H : Hp} : CL H [] [] := ⟨rfl, fun p t c h _ => by simp at h⟩
theorem CL.snoc {H : Hp} {cs : List Addr} {calls : List (Int × Int × Bool)} {t : Addr} {c : Int × Int × Bool} (h : CL H cs calls) (ht : H t = some (.tup [.int c.1, .int c.2.1, .bl c.2.2])) : CL H (cs ++ [t]) (calls ++ [c]) := by
  refine ⟨by rw [List.length_append, List.length_append, h.len]; rfl, fun p x r hp hr => ?_⟩
  by_cases hpi : p < cs.length
  · rw [List.getElem?_append_left hpi] at hp
    rw [List.getElem?_append_left (by rw [← h.len]; exact hpi)] at hr
    exact h.at' p x r hp hr
  · rw [List.getElem?_append_right (by omega)] at hp
    rw [List.getElem?_append_right (by rw [← h.len]; omega), ← h.len] at hr
    have e0 : p - cs.length = 0 := by
      have := (List.getElem?_eq_some_iff.mp hp).1
      simp at this
      omega
    rw [e0] at hp hr
    have e1 : t = x := by simpa using hp
    have e2 : c = r := by simpa using hr
    subst e1 e2
    exact ht
theorem RL.upd {H : Hp} {vs : List V} {rows : List (Option (List Int))} {a : Addr} {o : HO} (h : RL H vs rows) (n : V.ref a ∉ vs) : RL (L2.upd H a o) vs rows :=
  ⟨h.len, fun p v row hp hr => by
    have q := h.at' p v row hp hr
    cases row with
    | none => exact q
    | some l =>
      obtain ⟨r, e, q⟩ := q
      exact ⟨r, e, by rw [upd_ne (fun z => n (by rw [← z, ← e]; exact List.mem_of_getElem? hp))]; exact q⟩⟩
theorem RL.notin {H : Hp} {vs : List V} {rows : List (Option (List Int))} {a : Addr} (h : RL H vs rows) (ha : H a = none) : V.ref a ∉ vs := fun hm => by
  obtain ⟨p, hp⟩ := List.getElem?_of_mem hm
  obtain ⟨row, hr, q⟩ := h.get hp
  cases row with
  | none => cases q
  | some l =>
    obtain ⟨r, e, q⟩ := q
    injection e with e
    rw [← e, ha] at q
    cases q
def stepP (os : List (List Int)) (rows : List (Option (List Int))) (as : List Int) (st : List (Int × Int × Bool) × List (Option (List Int))) (c : Int) : List (Int × Int × Bool) × List (Option (List Int)) :=
  if c ∈ as then st else match rows.getD c.toNat none with
  | some (x :: rest) => if x ∈ as then (st.1 ++ [(c, x, false)], st.2.set c.toNat (some (ch os x ++ rest))) else (st.1 ++ [(c, x, true)], (st.2.set c.toNat (some rest)).set x.toNat (some (ch os x)))
  | _ => st
def nextM (os : List (List Int)) (rows : List (Option (List Int))) (as : List Int) : List (Int × Int × Bool) × List (Option (List Int)) := (idxs hasC rows).foldl (stepP os rows as) ([], rows)
structure RowsIn (os : List (List Int)) (rows : List (Option (List Int))) : Prop where
  len : rows.length = os.length
  row : ∀ (p : Nat) (l : List Int), rows[p]? = some (some l) → l.length ≤ 40 ∧ ∀ x ∈ l, 0 ≤ x ∧ x < os.length
theorem stepP_len {os : List (List Int)} {rows : List (Option (List Int))} {as : List Int} {st : List (Int × Int × Bool) × List (Option (List Int))} {c : Int} : (stepP os rows as st c).2.length = st.2.length ∧ (stepP os rows as st c).1.length ≤ st.1.length + 1 := by
  unfold stepP
  split
  · exact ⟨rfl, Nat.le_succ _⟩
  · split
    · split
      · simp
      · simp
    · exact ⟨rfl, Nat.le_succ _⟩
theorem foldP_len {os : List (List Int)} {rows : List (Option (List Int))} {as : List Int} : ∀ (cs : List Int) (st : List (Int × Int × Bool) × List (Option (List Int))), (cs.foldl (stepP os rows as) st).2.length = st.2.length ∧ (cs.foldl (stepP os rows as) st).1.length ≤ st.1.length + cs.length
  | [], st => ⟨rfl, Nat.le_refl _⟩
  | c :: r, st => by
    have h1 := stepP_len (os := os) (rows := rows) (as := as) (st := st) (c := c)
    have ih := foldP_len (os := os) (rows := rows) (as := as) r (stepP os rows as st c)
    rw [List.foldl_cons, List.length_cons]
    omega
theorem ixN_of {n j : Nat} (h : j < n) : ixN n (j : Int) = some j := by
  unfold ixN
  rw [if_pos (by omega)]
  simp [h]
theorem app_call {K : PySem.W.Frag} {D : Ends} {σ : St} {H : Hp} {c : Addr} {cs : List Addr} {p y : Int} {bl : Bool} (h3 : σ[3]? = some (some (.ref c))) (h5 : σ[5]? = some (some (.int p))) (h6 : σ[6]? = some (some (.bl bl))) (h7 : σ[7]? = some (some (.int y)))
    (hc : H c = some (.lst (cs.map V.ref))) (hl : cs.length < 1000) (q : ∀ t, H t = none → D.nx σ (L2.upd (L2.upd H t (.tup [.int p, .int y, .bl bl])) c (.lst ((cs ++ [t]).map V.ref)))) :
    tDrop (tBM K "list" rAppend (tVar 3) (tCons (tTup (tCons (tVar 5) (tCons (tVar 7) (tCons (tVar 6) tNil)))) tNil)) D σ H := by
  refine ⟨_, h3, .inl ⟨rfl, _, SqL.of hc⟩, _, h5, _, h7, _, h6, (by show 3 ≤ sizeLine; decide), fun t ht => ⟨c, _, _, rfl, rfl, (by rw [upd_ne (ne_of_none hc ht)]; exact hc), ?_, ?_⟩⟩
  · rw [List.length_map]
    exact small1000 (by omega)
  · have := q t ht
    rw [List.map_append] at this
    exact this
section
variable {P : Program} {w : World} {K : PySem.W.Frag} {mg : Str → Option Value} {base : Heap} {A : Adr}
def spNext : Sp := fun vs H Q _ => ∃ (o rr ab : Addr) (xs ys : List V) (os : List (List Int)) (rows : List (Option (List Int))) (as : List Int), vs = [.ref o, .ref rr, .ref ab] ∧ H o = some (.lst xs) ∧ OL H xs os ∧ GoodO os ∧ H rr = some (.lst ys) ∧ RL H ys rows ∧ RowsIn os rows ∧ H ab = some (.lst (as.map V.int)) ∧
  ∀ (t c b : Addr) (cs : List Addr) (zs : List V) (H' : Hp), Same H H' → H c = none → H b = none → H' t = some (.tup [.ref c, .ref b]) → H' c = some (.lst (cs.map V.ref)) → CL H' cs (nextM os rows as).1 → H' b = some (.lst zs) → RL H' zs (nextM os rows as).2 → c ≠ b → c ∉ cs → V.ref c ∉ zs → (∀ r, V.ref r ∈ zs → H r = none) → Q (.ref t) H'
theorem sc_next_round : FnScope ["orders", "rows", "absent", "calls", "behind", "caller", "there", "called", "rest"] ["orders", "rows", "absent"] (defScope s_next_round) := ⟨rfl, rfl, rfl, by decide +kernel, rfl, by decide +kernel, by decide +kernel⟩
theorem ok_next_round (T : Txt K mg A) : FnOk P w K mg base CX0 2 A.f_next_round A.d_next_round ["orders", "rows", "absent"] spNext := by
  have G_copied := ok_copiedR (P := P) (w := w) (base := base) T
  have G_callers := ok_callers (P := P) (w := w) (base := base) T
  refine T.f_next_round.ok sc_next_round (fun vs H Q E h => ?_) (fun cdv A' outer s H vs Q E hr h => ?_)
  · obtain ⟨o, rr, ab, xs, ys, os, rows, as, rfl, _⟩ := h
    rfl
  · obtain ⟨o, rr, ab, xs, ys, os, rows, as, rfl, ho, hO, g, hrr, hR, hin, hab, k⟩ := h
    have n40 := g.n40
    have hrl := hin.len
    refine ⟨_, (pss_cons (ps_set (i := 3) sc_next_round.nd rfl (Or.inl rfl) (@pe_lst _ _ _ _ pa_nil))
      (pss_cons (ps_set (i := 4) sc_next_round.nd rfl (Or.inl rfl) (pe_call G_copied (hr.mono (by decide)) (by rfl) T.m_copied T.k_copied T.b_copied .nil pass0 (@pa_cons _ _ _ _ _ (pv 1) pa_nil (by rfl))))
      (pss_cons (ps_for PassesOwn.never rfl (pi_listK K (pe_call G_callers (hr.mono (by decide)) (by rfl) T.m_callers T.k_callers T.b_callers .nil pass0 (@pa_cons _ _ _ _ _ (pv 1) pa_nil (by rfl)))) (pg_name (i := 5) sc_next_round.nd rfl (Or.inl rfl)) (pss_cons (ps_if (pt_cmpR (op_in_seqK K) (pv 5) (pv 2) (by with_unfolding_all rfl)) (pss_one ps_continue) pss_nil)
      (pss_cons (ps_asg (pe_ix (ix_listK K) (pv 1) (pv 5) (fun _ _ => rfl)) (pg_starK K (by rfl) (pgs_cons (pg_name (i := 7) sc_next_round.nd rfl (Or.inl rfl)) (pgs_cons (pg_name (i := 8) sc_next_round.nd rfl (Or.inl rfl)) pgs_nil))))
      (pss_cons (ps_set (i := 6) sc_next_round.nd rfl (Or.inl rfl) (pe_cmpR (op_notIn_seqK K) (pv 7) (pv 2) (by with_unfolding_all rfl)))
      (pss_cons (ps_if (pt_val (pv 6)) (pss_cons (ps_asg (pv 8) (pg_sub (pv 4) (pv 5) set_list))
      (pss_one (ps_asg (pe_callTy (call_list_ofK K) (by rfl) T.n_list (by decide +kernel) (@pa_cons _ _ _ _ _ (pe_ix (ix_listK K) (pv 0) (pv 7) (fun _ _ => rfl)) pa_nil (by rfl))) (pg_sub (pv 4) (pv 7) set_list)))) (pss_one (ps_asg (pe_op op_cat (pe_ix (ix_listK K) (pv 0) (pv 7) (fun _ _ => rfl)) (pv 8)) (pg_sub (pv 4) (pv 5) set_list))))
      (pss_one (ps_expr (pe_bmK K PySem.F.plainAttrs_list PySem.F.slot_list_append PySem.F.type_list_append mt_append (pv 3) (@pa_cons _ _ _ _ _ (@pe_tup _ _ _ _ _ (@pa_cons _ _ _ _ _ (pv 5) (@pa_cons _ _ _ _ _ (pv 7) (@pa_cons _ _ _ _ _ (pv 6) pa_nil (by rfl)) (by rfl)) (by rfl))) pa_nil (by rfl))))))))))
      (pss_one (ps_ret (@pe_tup _ _ _ _ _ (@pa_cons _ _ _ _ _ (pv 3) (@pa_cons _ _ _ _ _ (pv 4) pa_nil (by rfl)) (by rfl)))))))), ?_⟩
    refine ⟨Nat.zero_le _, fun c hc => ?_⟩
    have s0 : Same H (upd H c (.lst [])) := Same.new hc
    refine ⟨_, rfl, rr, ys, rows, rfl, s0 _ _ hrr, hR.mono s0, by omega, fun b zs H1 s1 hb0 hb hZ hzn => ?_⟩
    have hc1 : H1 c = some (.lst []) := s1 _ _ upd_same
    have s01 := s0.trans s1
    have nbc : c ≠ b := fun z => by
      rw [← z, upd_same] at hb0
      cases hb0
    have hbH : H b = none := s0.free hb0
    refine ⟨_, rfl, rr, ys, rows, rfl, s01 _ _ hrr, hR.mono s01, by omega, fun cl H2 s2 hcl0 hcl => ?_⟩
    have s02 := s01.trans s2
    have hclH : H cl = none := s01.free hcl0
    have ncl : c ≠ cl := ne_of_none hc1 hcl0
    have nbl : b ≠ cl := ne_of_none hb hcl0
    generalize hcsd : idxs hasC rows = callers at hcl
    refine ⟨cl, rfl, ⟨_, SqL.of hcl⟩, for_list (K := K) (a := cl) (xs := callers.map V.int)
      (fun i σ H3 => ∃ (cs : List Addr) (zs : List V) (x5 x6 x7 x8 : Option V), σ = [some (.ref o), some (.ref rr), some (.ref ab), some (.ref c), some (.ref b), x5, x6, x7, x8] ∧ Same H H3 ∧ H3 cl = some (.lst (callers.map V.int)) ∧ H3 c = some (.lst (cs.map V.ref)) ∧ CL H3 cs ((callers.take i).foldl (stepP os rows as) ([], rows)).1 ∧ H3 b = some (.lst zs) ∧ RL H3 zs ((callers.take i).foldl (stepP os rows as) ([], rows)).2 ∧ c ∉ cs ∧ b ∉ cs ∧ V.ref c ∉ zs ∧ V.ref b ∉ zs ∧ ∀ r, V.ref r ∈ zs → H r = none)
      ⟨[], zs, _, _, _, _, rfl, s02, hcl, s2 _ _ hc1, CL.nil, s2 _ _ hb, hZ.mono s2, by simp, by simp, fun h1 => ?_, fun h1 => ?_, fun r hr' => s0.free (hzn r hr').1⟩ (fun i σ H3 _ ⟨_, _, _, _, _, _, _, _, q, _⟩ => SqL.of q) ?_ ?_⟩
    · have := (hzn c h1).1
      rw [upd_same] at this
      cases this
    · exact (hzn b h1).2 rfl
    · rintro i x σ H3 hi ⟨cs, zs, x5, x6, x7, x8, rfl, s3, hcl3, hc3, hC3, hb3, hZ3, n1, n2, n3, n4, n5⟩
      obtain ⟨p, hp, rfl⟩ := map_int_get hi
      have hpm : p ∈ idxs hasC rows := by rw [hcsd]; exact List.mem_of_getElem? hp
      obtain ⟨pn, row, rfl, hrow, hhas⟩ := idxs_mem.mp hpm
      obtain ⟨y, rest, rfl⟩ : ∃ y rest, row = some (y :: rest) := by
        cases row with
        | none => cases hhas
        | some l =>
          cases l with
          | nil => cases hhas
          | cons y l => exact ⟨y, l, rfl⟩
      obtain ⟨hl40, hyin⟩ := hin.row pn _ hrow
      obtain ⟨y0, y1⟩ := hyin y List.mem_cons_self
      have hpl := (List.getElem?_eq_some_iff.mp hrow).1
      generalize hst : (callers.take i).foldl (stepP os rows as) ([], rows) = st at hC3 hZ3
      have hst1 : (callers.take (i + 1)).foldl (stepP os rows as) ([], rows) = stepP os rows as st pn := by
        rw [take_snoc hp, List.foldl_append, hst]
        rfl
      have hlen := foldP_len (os := os) (rows := rows) (as := as) (callers.take i) ([], rows)
      rw [hst, List.length_take] at hlen
      have hcll : callers.length ≤ rows.length := by rw [← hcsd]; exact idxs_len _ _
      have hrd : rows.getD ((pn : Int)).toNat none = some (y :: rest) := by
        rw [Int.toNat_natCast, List.getD_eq_getElem?_getD, hrow]
        rfl
      rw [hst1]
      refine ⟨_, rfl, _, rfl, ab, as.map V.int, rfl, .inl (SqL.of (s3 _ _ hab)), rfl, flat_ints as, _, rfl, ?_⟩
      rw [if_neg (by simp), inV_ints]
      refine ite2 (fun ha => ?_) (fun ha => ?_)
      · have ha := of_decide_eq_true ha
        have e : stepP os rows as st pn = st := by
          unfold stepP
          rw [if_pos ha]
        rw [e]
        exact ⟨cs, zs, _, _, _, _, rfl, s3, hcl3, hc3, hC3, hb3, hZ3, n1, n2, n3, n4, n5⟩
      · have ha : ¬ (pn : Int) ∈ as := fun z => ha (decide_eq_true z)
        have hysl : pn < ys.length := by rw [hR.len]; exact hpl
        obtain ⟨v, hv⟩ : ∃ v, ys[pn]? = some v := ⟨_, List.getElem?_eq_getElem hysl⟩
        obtain ⟨r1, rfl, hr1⟩ := hR.at' pn v _ hv hrow
        refine ⟨_, rfl, _, rfl, rr, _, _, _, rfl, rfl, SqL.of (s3 _ _ hrr), at_of (j := pn) rfl hv, ?_⟩
        refine ⟨r1, .int y, rest.map V.int, rfl, SqL.of (s3 _ _ hr1), fun p1 hp1 => ⟨_, _, rfl, _, _, rfl, rfl, ?_⟩⟩
        have np1 : ∀ {d u}, H3 d = some u → d ≠ p1 := fun {d u} z => ne_of_none z hp1
        have s4 : Same H (upd H3 p1 (.lst (rest.map V.int))) := s3.upd (s3.free hp1)
        have m4 : Same H3 (upd H3 p1 (.lst (rest.map V.int))) := Same.new hp1
        have hrest : (upd H3 p1 (.lst (rest.map V.int))) p1 = some (.lst (rest.map V.int)) := upd_same
        have hb4 := m4 _ _ hb3
        have hc4 := m4 _ _ hc3
        have hcl4 := m4 _ _ hcl3
        have hC4 := hC3.mono m4
        have hZ4 := hZ3.mono m4
        have npc : c ≠ p1 := np1 hc3
        have npb : b ≠ p1 := np1 hb3
        have npl : cl ≠ p1 := np1 hcl3
        generalize upd H3 p1 (.lst (rest.map V.int)) = H4 at s4 m4 hrest hb4 hc4 hcl4 hC4 hZ4
        have hzl : zs.length = rows.length := by rw [hZ4.len, hlen.1]
        have hcsl : cs.length < 1000 := by
          rw [hC4.len]
          have := hlen.2
          simp only [List.length_nil] at this
          omega
        obtain ⟨r2, hr2, hr2H⟩ := OL.at hO (ch_get y0 y1)
        have hlch : (ch os y).length ≤ 40 := Nat.le_trans (nodup_len (n := os.length) (g.row (ch_get y0 y1)).1 fun x hx => by have := (g.row (ch_get y0 y1)).2 x hx; omega) n40
        refine ⟨_, rfl, _, rfl, ab, as.map V.int, rfl, .inl (SqL.of (s4 _ _ hab)), rfl, flat_ints as, ?_⟩
        rw [if_pos rfl, inV_ints]
        have ncb : b ≠ c := Ne.symm nbc
        by_cases hy : y ∈ as
        · rw [decide_eq_true hy]
          refine ⟨_, rfl, _, rfl, ?_⟩
          refine iteF ?_
          refine ⟨_, rfl, _, rfl, o, _, y, _, rfl, rfl, SqL.of (s4 _ _ ho), at_of (j := y.toNat) (by omega) hr2, _, rfl, r2, p1, _, _, rfl, rfl, s4 _ _ hr2H, hrest, ?_, fun p2 hp2 => ?_⟩
          · rw [List.length_map, List.length_map]
            rw [List.length_cons] at hl40
            exact Nat.le_of_lt (small1000 (by omega))
          · have np2 : ∀ {d u}, H4 d = some u → d ≠ p2 := fun {d u} z => ne_of_none z hp2
            have m5 : Same H4 (upd H4 p2 (.lst ((ch os y).map V.int ++ rest.map V.int))) := Same.new hp2
            have hn5 : (upd H4 p2 (.lst ((ch os y).map V.int ++ rest.map V.int))) p2 = some (.lst ((ch os y ++ rest).map V.int)) := by rw [upd_same, List.map_append]
            have hb5 := m5 _ _ hb4
            have hc5 := m5 _ _ hc4
            have hcl5 := m5 _ _ hcl4
            have hC5 := hC4.mono m5
            have hZ5 := hZ4.mono m5
            have s5 := s4.trans m5
            have npb2 : p2 ≠ b := Ne.symm (np2 hb4)
            have npc2 : p2 ≠ c := Ne.symm (np2 hc4)
            generalize upd H4 p2 (.lst ((ch os y).map V.int ++ rest.map V.int)) = H5 at m5 hn5 hb5 hc5 hcl5 hC5 hZ5 s5
            refine ⟨_, rfl, _, rfl, b, zs, (pn : Int), pn, rfl, rfl, hb5, ixN_of (by omega), ?_⟩
            have e : stepP os rows as st pn = (st.1 ++ [((pn : Int), y, false)], st.2.set pn (some (ch os y ++ rest))) := by
              unfold stepP
              rw [if_neg ha, hrd]
              simp only
              rw [if_pos hy, Int.toNat_natCast]
            have nzc : V.ref c ∉ zs.set pn (.ref p2) := fun hm => by
              rcases List.mem_or_eq_of_mem_set hm with h1 | h1
              · exact n3 h1
              · injection h1 with h1
                exact npc2 h1.symm
            have nzb : V.ref b ∉ zs.set pn (.ref p2) := fun hm => by
              rcases List.mem_or_eq_of_mem_set hm with h1 | h1
              · exact n4 h1
              · injection h1 with h1
                exact npb2 h1.symm
            have hZ6 : RL (upd H5 b (.lst (zs.set pn (.ref p2)))) (zs.set pn (.ref p2)) (st.2.set pn (some (ch os y ++ rest))) := (hZ5.set (row := some (ch os y ++ rest)) ⟨p2, rfl, hn5⟩ pn).upd nzb
            have hc6 : (upd H5 b (.lst (zs.set pn (.ref p2)))) c = some (.lst (cs.map V.ref)) := by rw [upd_ne nbc]; exact hc5
            have hb6 : (upd H5 b (.lst (zs.set pn (.ref p2)))) b = some (.lst (zs.set pn (.ref p2))) := upd_same
            have hC6 : CL (upd H5 b (.lst (zs.set pn (.ref p2)))) cs st.1 := hC5.upd n2
            have hcl6 : (upd H5 b (.lst (zs.set pn (.ref p2)))) cl = some (.lst (callers.map V.int)) := by rw [upd_ne (Ne.symm nbl)]; exact hcl5
            have s6 : Same H (upd H5 b (.lst (zs.set pn (.ref p2)))) := s5.upd hbH
            generalize upd H5 b (.lst (zs.set pn (.ref p2))) = H6 at hZ6 hc6 hb6 hC6 hcl6 s6
            refine app_call (cs := cs) rfl rfl rfl rfl hc6 hcsl fun t ht => ?_
            have m7 : Same H6 (upd H6 t (.tup [.int (pn : Int), .int y, .bl false])) := Same.new ht
            have nt : ∀ {d u}, H6 d = some u → d ≠ t := fun {d u} z => ne_of_none z ht
            have nct : c ∉ cs ++ [t] := fun hm => by
              rcases List.mem_append.mp hm with h1 | h1
              · exact n1 h1
              · exact nt hc6 (List.mem_singleton.mp h1)
            refine ⟨cs ++ [t], zs.set pn (.ref p2), _, _, _, _, rfl, (s6.trans m7).upd hc, ?_, upd_same, ?_, ?_, ?_, nct, ?_, nzc, nzb, fun r' hr' => ?_⟩
            · rw [upd_ne (Ne.symm ncl)]
              exact m7 _ _ hcl6
            · rw [e]
              exact ((hC6.mono m7).snoc (c := ((pn : Int), y, false)) upd_same).upd nct
            · rw [upd_ne ncb]
              exact m7 _ _ hb6
            · rw [e]
              exact (hZ6.mono m7).upd nzc
            · intro hm
              rcases List.mem_append.mp hm with h1 | h1
              · exact n2 h1
              · exact nt hb6 (List.mem_singleton.mp h1)
            · rcases List.mem_or_eq_of_mem_set hr' with h1 | h1
              · exact n5 r' h1
              · injection h1 with h1
                rw [h1]
                exact s4.free hp2
        · rw [decide_eq_false hy]
          refine ⟨_, rfl, _, rfl, ?_⟩
          refine iteT ?_
          have ey : ((y.toNat : Nat) : Int) = y := by omega
          refine ⟨_, rfl, _, rfl, _, rfl, b, zs, (pn : Int), pn, rfl, rfl, hb4, ixN_of (by omega), ?_⟩
          have nzc : V.ref c ∉ zs.set pn (.ref p1) := fun hm => by
            rcases List.mem_or_eq_of_mem_set hm with h1 | h1
            · exact n3 h1
            · injection h1 with h1
              exact npc h1
          have nzb : V.ref b ∉ zs.set pn (.ref p1) := fun hm => by
            rcases List.mem_or_eq_of_mem_set hm with h1 | h1
            · exact n4 h1
            · injection h1 with h1
              exact npb h1
          have hZ5 : RL (upd H4 b (.lst (zs.set pn (.ref p1)))) (zs.set pn (.ref p1)) (st.2.set pn (some rest)) := (hZ4.set (row := some rest) ⟨p1, rfl, hrest⟩ pn).upd nzb
          have hc5 : (upd H4 b (.lst (zs.set pn (.ref p1)))) c = some (.lst (cs.map V.ref)) := by rw [upd_ne nbc]; exact hc4
          have hb5 : (upd H4 b (.lst (zs.set pn (.ref p1)))) b = some (.lst (zs.set pn (.ref p1))) := upd_same
          have hC5 : CL (upd H4 b (.lst (zs.set pn (.ref p1)))) cs st.1 := hC4.upd n2
          have hcl5 : (upd H4 b (.lst (zs.set pn (.ref p1)))) cl = some (.lst (callers.map V.int)) := by rw [upd_ne (Ne.symm nbl)]; exact hcl4
          have s5 : Same H (upd H4 b (.lst (zs.set pn (.ref p1)))) := s4.upd hbH
          generalize upd H4 b (.lst (zs.set pn (.ref p1))) = H5 at hZ5 hc5 hb5 hC5 hcl5 s5
          generalize hz1 : zs.set pn (.ref p1) = zs1 at hZ5 hb5 nzc nzb
          have hz1l : zs1.length = rows.length := by rw [← hz1, List.length_set, hzl]
          refine ⟨_, rfl, _, rfl, o, _, y, _, rfl, rfl, SqL.of (s5 _ _ ho), at_of (j := y.toNat) (by omega) hr2, r2, _, rfl, .inl (SqL.of (s5 _ _ hr2H)), fun p2 hp2 => ?_⟩
          have np2 : ∀ {d u}, H5 d = some u → d ≠ p2 := fun {d u} z => ne_of_none z hp2
          have m6 : Same H5 (upd H5 p2 (.lst ((ch os y).map V.int))) := Same.new hp2
          have hn6 : (upd H5 p2 (.lst ((ch os y).map V.int))) p2 = some (.lst ((ch os y).map V.int)) := upd_same
          have hb6 := m6 _ _ hb5
          have hc6 := m6 _ _ hc5
          have hcl6 := m6 _ _ hcl5
          have hC6 := hC5.mono m6
          have hZ6 := hZ5.mono m6
          have s6 := s5.trans m6
          have npb2 : p2 ≠ b := Ne.symm (np2 hb5)
          have npc2 : p2 ≠ c := Ne.symm (np2 hc5)
          generalize upd H5 p2 (.lst ((ch os y).map V.int)) = H6 at m6 hn6 hb6 hc6 hcl6 hC6 hZ6 s6
          refine ⟨_, rfl, _, rfl, b, zs1, y, y.toNat, rfl, rfl, hb6, (by rw [← ey]; exact ixN_of (by omega)), ?_⟩
          have e : stepP os rows as st pn = (st.1 ++ [((pn : Int), y, true)], (st.2.set pn (some rest)).set y.toNat (some (ch os y))) := by
            unfold stepP
            rw [if_neg ha, hrd]
            simp only
            rw [if_neg hy, Int.toNat_natCast]
          have nyc : V.ref c ∉ zs1.set y.toNat (.ref p2) := fun hm => by
            rcases List.mem_or_eq_of_mem_set hm with h1 | h1
            · exact nzc h1
            · injection h1 with h1
              exact npc2 h1.symm
          have nyb : V.ref b ∉ zs1.set y.toNat (.ref p2) := fun hm => by
            rcases List.mem_or_eq_of_mem_set hm with h1 | h1
            · exact nzb h1
            · injection h1 with h1
              exact npb2 h1.symm
          have hZ7 : RL (upd H6 b (.lst (zs1.set y.toNat (.ref p2)))) (zs1.set y.toNat (.ref p2)) ((st.2.set pn (some rest)).set y.toNat (some (ch os y))) := (hZ6.set (row := some (ch os y)) ⟨p2, rfl, hn6⟩ y.toNat).upd nyb
          have hc7 : (upd H6 b (.lst (zs1.set y.toNat (.ref p2)))) c = some (.lst (cs.map V.ref)) := by rw [upd_ne nbc]; exact hc6
          have hb7 : (upd H6 b (.lst (zs1.set y.toNat (.ref p2)))) b = some (.lst (zs1.set y.toNat (.ref p2))) := upd_same
          have hC7 : CL (upd H6 b (.lst (zs1.set y.toNat (.ref p2)))) cs st.1 := hC6.upd n2
          have hcl7 : (upd H6 b (.lst (zs1.set y.toNat (.ref p2)))) cl = some (.lst (callers.map V.int)) := by rw [upd_ne (Ne.symm nbl)]; exact hcl6
          have s7 : Same H (upd H6 b (.lst (zs1.set y.toNat (.ref p2)))) := s6.upd hbH
          generalize upd H6 b (.lst (zs1.set y.toNat (.ref p2))) = H7 at hZ7 hc7 hb7 hC7 hcl7 s7
          refine app_call (cs := cs) rfl rfl rfl rfl hc7 hcsl fun t ht => ?_
          have m8 : Same H7 (upd H7 t (.tup [.int (pn : Int), .int y, .bl true])) := Same.new ht
          have nt : ∀ {d u}, H7 d = some u → d ≠ t := fun {d u} z => ne_of_none z ht
          have nct : c ∉ cs ++ [t] := fun hm => by
            rcases List.mem_append.mp hm with h1 | h1
            · exact n1 h1
            · exact nt hc7 (List.mem_singleton.mp h1)
          refine ⟨cs ++ [t], zs1.set y.toNat (.ref p2), _, _, _, _, rfl, (s7.trans m8).upd hc, ?_, upd_same, ?_, ?_, ?_, nct, ?_, nyc, nyb, fun r' hr' => ?_⟩
          · rw [upd_ne (Ne.symm ncl)]
            exact m8 _ _ hcl7
          · rw [e]
            exact ((hC7.mono m8).snoc (c := ((pn : Int), y, true)) upd_same).upd nct
          · rw [upd_ne ncb]
            exact m8 _ _ hb7
          · rw [e]
            exact (hZ7.mono m8).upd nyc
          · intro hm
            rcases List.mem_append.mp hm with h1 | h1
            · exact n2 h1
            · exact nt hb7 (List.mem_singleton.mp h1)
          · rcases List.mem_or_eq_of_mem_set hr' with h1 | h1
            · rw [← hz1] at h1
              rcases List.mem_or_eq_of_mem_set h1 with h1 | h1
              · exact n5 r' h1
              · injection h1 with h1
                rw [h1]
                exact s3.free hp1
            · injection h1 with h1
              rw [h1]
              exact s5.free hp2
    · rintro σ H3 ⟨cs, zs, x5, x6, x7, x8, rfl, s3, hcl3, hc3, hC3, hb3, hZ3, n1, n2, n3, n4, n5⟩
      rw [List.length_map, List.take_length, ← hcsd] at hC3 hZ3
      refine ⟨_, rfl, _, rfl, (by show 2 ≤ sizeLine; decide), fun t ht => ?_⟩
      have m4 : Same H3 (upd H3 t (.tup [.ref c, .ref b])) := Same.new ht
      exact k t c b cs zs _ (s3.trans m4) hc hbH upd_same (m4 _ _ hc3) (hC3.mono m4) (m4 _ _ hb3) (hZ3.mono m4) nbc n1 n3 n5
end
end Toy

set_option Elab.async false
set_option linter.all false
set_option maxRecDepth 100000
set_option maxHeartbeats 4000000
namespace Toy
open PySem L2
def But (x : Addr) (H H' : Hp) : Prop := ∀ b u, b ≠ x → H b = some u → H' b = some u
def KL (H H' : Hp) : Prop := ∀ b xs, H b = some (.lst xs) → H' b = some (.lst xs)
theorem KL.of {H H' : Hp} (s : Same H H') : KL H H' := fun b xs e => s b _ e
theorem KL.but {H H' : Hp} {x C dx : Addr} {fs : List (Str × V)} (hx : H x = some (.ins C dx fs)) (h : But x H H') : KL H H' := fun b xs e => h b _ (fun z => by rw [z, hx] at e; cases e) e
theorem RL.kl {H H' : Hp} {vs : List V} {rows : List (Option (List Int))} (h : RL H vs rows) (s : KL H H') : RL H' vs rows := ⟨h.len, fun p v row a b => by
  have q := h.at' p v row a b
  cases row with
  | none => exact q
  | some l =>
    obtain ⟨r, e, q⟩ := q
    exact ⟨r, e, s _ _ q⟩⟩
theorem But.of {x : Addr} {H H' : Hp} (s : Same H H') : But x H H' := fun b u _ e => s b u e
theorem But.trans {x : Addr} {H H1 H2 : Hp} (a : But x H H1) (b : But x H1 H2) : But x H H2 := fun c u n e => b c u n (a c u n e)
theorem But.upd {x : Addr} {H : Hp} {o : HO} : But x H (L2.upd H x o) := fun b u n e => by rw [upd_ne n]; exact e
abbrev fldP (o rr : Addr) (t : Int) : List (Str × V) := [("orders", .ref o), ("rows", .ref rr), ("turns", .int t)]
structure PhAt (C : Addr) (H : Hp) (x dx o rr : Addr) (xs ys : List V) (os : List (List Int)) (rows : List (Option (List Int))) (t : Int) : Prop where
  hx : H x = some (.ins C dx (fldP o rr t))
  ho : H o = some (.lst xs)
  hO : OL H xs os
  hr : H rr = some (.lst ys)
  hR : RL H ys rows
theorem PhAt.mono {C : Addr} {H H' : Hp} {x dx o rr : Addr} {xs ys : List V} {os : List (List Int)} {rows : List (Option (List Int))} {t : Int} (h : PhAt C H x dx o rr xs ys os rows t) (s : Same H H') : PhAt C H' x dx o rr xs ys os rows t :=
  ⟨s _ _ h.hx, s _ _ h.ho, RL.mono h.hO s, s _ _ h.hr, h.hR.mono s⟩
def Ph (C : Addr) (H : Hp) (x : Addr) (os : List (List Int)) (rows : List (Option (List Int))) (t : Int) : Prop := ∃ dx o rr xs ys, PhAt C H x dx o rr xs ys os rows t
theorem Ph.mono {C : Addr} {H H' : Hp} {x : Addr} {os : List (List Int)} {rows : List (Option (List Int))} {t : Int} (h : Ph C H x os rows t) (s : Same H H') : Ph C H' x os rows t :=
  let ⟨dx, o, rr, xs, ys, h⟩ := h; ⟨dx, o, rr, xs, ys, h.mono s⟩
section
variable {P : Program} {w : World} {K : PySem.W.Frag} {mg : Str → Option Value} {base : Heap} {A : Adr}
theorem FnOk.or' {base : Heap} {CX : CXT} {k : Nat} {f : Addr} {fd : FuncData} {ps : List Str} {sp sp' : Sp} (F : FnOk P w K mg base CX k f fd ps sp) (F' : FnOk P w K mg base CX k f fd ps sp') : FnOk P w K mg base CX k f fd ps (fun vs H Q E => sp vs H Q E ∨ sp' vs H Q E) :=
  ⟨fun vs H Q E h => h.elim (F.len vs H Q E) (F'.len vs H Q E), fun A outer s H args us vs Q E a b c d h => h.elim (F.run A outer s H args us vs Q E a b c d) (F'.run A outer s H args us vs Q E a b c d)⟩
end
end Toy

set_option Elab.async false
set_option linter.all false
set_option maxRecDepth 100000
set_option maxHeartbeats 4000000
namespace Toy
open PySem L2
section
variable {P : Program} {w : World} {K : PySem.W.Frag} {mg : Str → Option Value} {base : Heap} {A : Adr}
end
end Toy

set_option Elab.async false
set_option linter.all false
set_option maxRecDepth 100000
set_option maxHeartbeats 4000000
namespace Toy
open PySem L2 PySem.Builtin.Int
theorem bits_of {x : Int} {m : Nat} (h : x.natAbs < 2 ^ m) : intBits x ≤ m := intBits_le_iff.mpr h
theorem p18 : (10 : Int) ^ (18 : Int).toNat = 1000000000000000000 := by decide
theorem b20 {n : Nat} (h : n ≤ 200) : n ≤ 2 ^ 20 := Nat.le_trans h (by decide)
theorem mulB {x y : Int} {m n : Nat} (hx : intBits x ≤ m) (hy : intBits y ≤ n) (hm : m ≤ 200) (hn : n ≤ 200) : CMulB x y := ⟨Nat.le_trans hx (b20 hm), Nat.le_trans hy (b20 hn)⟩
section
variable {P : Program} {w : World} {K : PySem.W.Frag} {mg : Str → Option Value} {base : Heap} {A : Adr}
def spNumber : Sp := fun vs H Q _ => ∃ c n z, vs = [.int c, .int n, .int z] ∧ 0 ≤ n ∧ n ≤ 1000 ∧ ∀ r, Q (.int r) H
theorem sc_law_number : FnScope ["_law_cell", "_law_at", "_law_whole_here", "_law_mixed", "_law_more"] ["_law_cell", "_law_at", "_law_whole_here"] (defScope s_law_number) := ⟨rfl, rfl, rfl, by decide +kernel, rfl, by decide +kernel, by decide +kernel⟩
theorem ok_law_number (T : Txt K mg A) : FnOk P w K mg base CX0 1 A.f_law_number A.d_law_number ["_law_cell", "_law_at", "_law_whole_here"] spNumber := by
  refine T.f_law_number.ok sc_law_number (fun vs H Q E h => ?_) (fun cdv A' outer s H vs Q E hr h => ?_)
  · obtain ⟨c, n, z, rfl, _⟩ := h
    rfl
  · obtain ⟨c, n, z, rfl, hn0, hn1, k⟩ := h
    refine ⟨_, (pss_cons (ps_if (PW.pt (pw_or (pt_cmpR op_ge (pv 0) (pe_op op_pow pe_int pe_int) (nomark _)) (pw_or1 (pt_cmpR op_le (pv 0) (pe_op op_sub pe_int (pe_op op_pow pe_int pe_int)) (nomark _))))) (pss_one (ps_ret (pe_op op_mod (pv 0) (pe_op op_pow pe_int pe_int)))) pss_nil)
      (pss_cons (ps_set (i := 3) sc_law_number.nd rfl (Or.inl rfl) (pe_op op_mod (pe_op op_add (pe_op op_mulB (pe_op op_add (pv 0) (pe_op op_mulB pe_int (pv 1))) pe_int) (pv 2)) pe_int))
      (pss_cons (ps_set (i := 4) sc_law_number.nd rfl (Or.inl rfl) (pe_op op_mulB (pe_op op_mulB (pv 3) (pe_op op_add (pe_op op_add (pv 3) (pe_op op_mulB pe_int (pv 1))) pe_int)) (pe_op op_add (pe_op op_add (pv 3) (pv 0)) pe_int)))
      (pss_one (ps_ret (pe_op op_fdiv (pe_op op_mulB (pv 4) (pe_op op_add (pv 4) pe_int)) pe_int)))))), ?_⟩
    have big : Q (.int (c % 10 ^ (60 : Int).toNat)) H := k _
    have ret1 : ∃ v, (L2.start ["_law_cell", "_law_at", "_law_whole_here", "_law_mixed", "_law_more"] [.int c, .int n, .int z])[0]? = some (some v) ∧ tOp (rI CPow fun i j => .int (i ^ j.toNat)) (tC (.int 10)) (tC (.int 60)) (L2.start ["_law_cell", "_law_at", "_law_whole_here", "_law_mixed", "_law_more"] [.int c, .int n, .int z]) H fun y H2 => rI (fun _ j => 0 < j) (fun i j => .int (i % j)) v y H2 Q :=
      ⟨_, rfl, _, _, rfl, rfl, ⟨by decide, by decide, by decide⟩, _, _, rfl, rfl, (by show (0 : Int) < 10 ^ 60; decide), big⟩
    refine ⟨_, rfl, _, _, rfl, rfl, ⟨by decide, by decide, by decide⟩, _, _, rfl, rfl, _, rfl, ?_⟩
    refine ite2 (fun _ => ?_) (fun h1 => ?_)
    · exact iteT ret1
    refine ⟨_, rfl, _, _, rfl, rfl, ⟨by decide, by decide, by decide⟩, _, _, rfl, rfl, _, _, rfl, rfl, _, rfl, ?_⟩
    refine ite2 (fun _ => ret1) (fun h2 => ?_)
    rw [p18] at h1 h2
    have h1 : c < 1000000000000000000 := by
      have : ¬ (1000000000000000000 ≤ c) := fun q => h1 (decide_eq_true q)
      omega
    have h2 : -1000000000000000000 < c := by
      have : ¬ (c ≤ 0 - 1000000000000000000) := fun q => h2 (decide_eq_true q)
      omega
    refine ⟨_, rfl, _, rfl, _, _, rfl, rfl, mulB (m := 20) (n := 20) (bits_of (by decide)) (bits_of (by omega)) (by decide) (by decide), _, _, rfl, rfl, _, _, rfl, rfl, mulB (m := 64) (n := 20) (bits_of (by omega)) (bits_of (by decide)) (by decide) (by decide), _, rfl, _, _, rfl, rfl, _, _, rfl, rfl, (by show (0 : Int) < 2147483647; decide), ?_⟩
    have bM : intBits (((c + 977 * n) * 48271 + z) % 2147483647) ≤ 31 := bits_of (by omega)
    have bN : intBits ((((c + 977 * n) * 48271 + z) % 2147483647) + 31 * n + 7) ≤ 33 := bits_of (by omega)
    have bC : intBits ((((c + 977 * n) * 48271 + z) % 2147483647) + c + 5) ≤ 62 := bits_of (by omega)
    have b1 : intBits ((((c + 977 * n) * 48271 + z) % 2147483647) * ((((c + 977 * n) * 48271 + z) % 2147483647) + 31 * n + 7)) ≤ 64 := intBits_mul_le bM bN
    refine ⟨_, rfl, _, rfl, _, rfl, _, _, rfl, rfl, mulB (m := 20) (n := 20) (bits_of (by decide)) (bits_of (by omega)) (by decide) (by decide), _, _, rfl, rfl, _, _, rfl, rfl, _, _, rfl, rfl, mulB (m := 31) (n := 33) bM bN (by decide) (by decide), _, rfl, _, rfl, _, _, rfl, rfl, _, _, rfl, rfl, _, _, rfl, rfl, mulB (m := 64) (n := 62) b1 bC (by decide) (by decide), ?_⟩
    have b2 : intBits ((((c + 977 * n) * 48271 + z) % 2147483647) * ((((c + 977 * n) * 48271 + z) % 2147483647) + 31 * n + 7) * ((((c + 977 * n) * 48271 + z) % 2147483647) + c + 5)) ≤ 126 := intBits_mul_le b1 bC
    have b3 : intBits ((((c + 977 * n) * 48271 + z) % 2147483647) * ((((c + 977 * n) * 48271 + z) % 2147483647) + 31 * n + 7) * ((((c + 977 * n) * 48271 + z) % 2147483647) + c + 5) + 48271) ≤ 127 := by
      have q := intBits_add_le b2 (show intBits 48271 ≤ 20 from bits_of (by decide))
      simpa using q
    refine ⟨_, rfl, _, rfl, _, _, rfl, rfl, _, _, rfl, rfl, mulB (m := 126) (n := 127) b2 b3 (by decide) (by decide), _, _, rfl, rfl, ⟨by decide, by decide⟩, k _⟩
end
end Toy
namespace Toy
open PySem L2
theorem dpAll_ints {K : PySem.W.Frag} {H : Hp} : ∀ ns : List Int, DpAll K H (ns.map V.int) (ns.map PyData.int)
  | [] => .nil
  | n :: r => .cons (.int n) (dpAll_ints r)
theorem dp_ints {K : PySem.W.Frag} {H : Hp} {a : Addr} {ns : List Int} (h : SqL K H a (ns.map V.int)) : Dp K H (.ref a) (.list (ns.map PyData.int)) := .lst h (dpAll_ints ns)
theorem can_ints : ∀ ns : List Int, PyData.canLayAll0 (ns.map PyData.int) = true
  | [] => by simp [PyData.canLayAll0]
  | n :: r => by
    have ih := can_ints r
    simp [PyData.canLayAll0, PyData.canLay0, ih]
theorem dep_ints : ∀ ns : List Int, PyData.depthAll (ns.map PyData.int) ≤ 1
  | [] => by simp [PyData.depthAll]
  | n :: r => by
    have ih := dep_ints r
    simp only [List.map_cons, PyData.depthAll, PyData.depth]
    omega
theorem shaped_ints (ns : List Int) : SeqAt.shaped (.list (ns.map PyData.int)) = true := by
  unfold SeqAt.shaped
  rw [Bool.and_eq_true]
  refine ⟨?_, decide_eq_true ?_⟩
  · simpa only [PyData.canLay0] using can_ints ns
  · have := dep_ints ns
    simp only [PyData.depth]
    omega
theorem eqv_nil (ns : List Int) : PyData.eqv (.list (ns.map PyData.int)) (.list []) = decide (ns = []) := by
  cases ns with
  | nil => simp [PyData.eqv, PyData.eqvAll]
  | cons n r => simp [PyData.eqv, PyData.eqvAll]
section
variable {P : Program} {w : World} {K : PySem.W.Frag} {mg : Str → Option Value} {base : Heap} {A : Adr}
def spLups (K : PySem.W.Frag) : Sp := fun vs H Q _ => ∃ (a : Addr) (ns : List Int) (by' most : Int), vs = [.ref a, .int by', .int most] ∧ SqL K H a (ns.map V.int) ∧ ns.length ≤ 63 ∧ 0 ≤ by' ∧ by' ≤ 10 ∧ 1 ≤ most ∧ most ≤ 40 ∧
  ∀ (b : Addr) (us : List Int) (H' : Hp), Same H H' → H b = none → H' b = some (.lst (us.map V.int)) → (us.length : Int) < most → GoodUps us → Q (.ref b) H'
theorem sc_law_ups : FnScope ["_law_script", "_law_by", "_law_most", "_law_cells", "_law_at", "_law_whole_here", "_law_found", "_law_many", "_law_kind", "_law_number_here"] ["_law_script", "_law_by", "_law_most"] (defScope s_law_ups) := ⟨rfl, rfl, rfl, by decide +kernel, rfl, by decide +kernel, by decide +kernel⟩
theorem ok_law_ups (T : Txt K mg A) : FnOk P w K mg base CX0 2 A.f_law_ups A.d_law_ups ["_law_script", "_law_by", "_law_most"] (spLups K) := by
  have G_law_number := ok_law_number (P := P) (w := w) (base := base) T
  refine T.f_law_ups.ok sc_law_ups (fun vs H Q E h => ?_) (fun cdv A' outer s H vs Q E hr h => ?_)
  · obtain ⟨a, ns, b, m, rfl, _⟩ := h
    rfl
  · obtain ⟨a, ns, by', most, rfl, hS, hlen, hb0, hb1, hm0, hm1, k⟩ := h
    have tail : ∃ u, PSs (cxOf CX0 P w K mg base ["_law_script", "_law_by", "_law_most", "_law_cells", "_law_at", "_law_whole_here", "_law_found", "_law_many", "_law_kind", "_law_number_here"] "_law_ups" (defScope s_law_ups) A.f_law_ups cdv A' outer s H E).nox ((defBody s_law_ups).drop 1) u ∧ ∀ (cl : Addr) (cs : List Int) (H1 : Hp), Same H H1 → H cl = none → H1 cl = some (.lst (cs.map V.int)) → 0 < cs.length → cs.length ≤ 63 →
        u { nx := fun _ H' => Q .non H', rt := Q } [some (.ref a), some (.int by'), some (.int most), some (.ref cl), none, none, none, none, none, none] H1 := by
      refine ⟨_, (pss_cons (ps_par (i := 5) (j := 6) (by rfl) sc_law_ups.nd rfl rfl (by decide) rfl rfl (@pa_cons _ _ _ _ _ (pe_op op_add (pe_callB (cr_sumK K rfl) (by rfl) T.n_sum (by decide +kernel) (@pa_cons _ _ _ _ _ (pv 3) pa_nil (by rfl))) (pv 1)) (@pa_cons _ _ _ _ _ (@pe_lst _ _ _ _ pa_nil) pa_nil (by rfl)) (by rfl)) (by rfl))
      (pss_cons (ps_par (i := 7) (j := 8) (by rfl) sc_law_ups.nd rfl rfl (by decide) rfl rfl (@pa_cons _ _ _ _ _ (pe_op op_mod (pe_op op_fdiv (pe_call G_law_number (hr.mono (by decide)) (by rfl) T.m_law_number T.k_law_number T.b_law_number .nil pass0 (@pa_cons _ _ _ _ _ (pv 5) (@pa_cons _ _ _ _ _ (pe_op op_add (pv 1) pe_int) (@pa_cons _ _ _ _ _ pe_int pa_nil (by rfl)) (by rfl)) (by rfl))) pe_int) (pv 2)) (@pa_cons _ _ _ _ _ (pe_op op_mod (pe_op op_fdiv (pe_call G_law_number (hr.mono (by decide)) (by rfl) T.m_law_number T.k_law_number T.b_law_number .nil pass0 (@pa_cons _ _ _ _ _ (pv 5) (@pa_cons _ _ _ _ _ (pe_op op_add (pv 1) pe_int) (@pa_cons _ _ _ _ _ pe_int pa_nil (by rfl)) (by rfl)) (by rfl))) pe_int) pe_int) pa_nil (by rfl)) (by rfl)) (by rfl))
      (pss_cons (ps_for PassesOwn.never rfl (pi_range1 (by rfl) T.n_range (@pa_cons _ _ _ _ _ (pv 7) pa_nil (by rfl))) (pg_name (i := 4) sc_law_ups.nd rfl (Or.inl rfl)) (pss_cons (ps_set (i := 9) sc_law_ups.nd rfl (Or.inl rfl) (pe_op op_fdiv (pe_call G_law_number (hr.mono (by decide)) (by rfl) T.m_law_number T.k_law_number T.b_law_number .nil pass0 (@pa_cons _ _ _ _ _ (pe_op op_add (pe_ix (ix_listK K) (pv 3) (pe_op op_mod (pe_op op_add (pv 4) (pv 1)) (pe_callB (call_len_seqK K) (by rfl) T.n_len PySem.boot_len (@pa_cons _ _ _ _ _ (pv 3) pa_nil (by rfl)))) (fun _ _ => rfl)) (pv 4)) (@pa_cons _ _ _ _ _ (pe_op op_add (pv 4) (pv 1)) (@pa_cons _ _ _ _ _ (pv 5) pa_nil (by rfl)) (by rfl)) (by rfl))) pe_int))
      (pss_one (ps_expr (pe_bmK K PySem.F.plainAttrs_list PySem.F.slot_list_append PySem.F.type_list_append mt_append (pv 6) (@pa_cons _ _ _ _ _ (pe_ix (ix_tupK K) (@pe_tup _ _ _ _ _ (@pa_cons _ _ _ _ _ (pe_op op_mod (pv 9) (pe_op op_add (pv 4) pe_int)) (@pa_cons _ _ _ _ _ (pv 4) (@pa_cons _ _ _ _ _ pe_int (@pa_cons _ _ _ _ _ (pe_op op_mod (pv 9) (pe_callB (call_min2 rfl) (by rfl) T.n_min (by decide +kernel) (@pa_cons _ _ _ _ _ (pe_op op_add (pv 4) pe_int) (@pa_cons _ _ _ _ _ pe_int pa_nil (by rfl)) (by rfl)))) (@pa_cons _ _ _ _ _ (pe_op op_fdiv (pv 4) pe_int) pa_nil (by rfl)) (by rfl)) (by rfl)) (by rfl)) (by rfl))) (pv 8) (fun _ _ => rfl)) pa_nil (by rfl)))))))
      (pss_one (ps_ret (pv 6)))))), ?_⟩
      intro cl cs H1 s1 hcn hc1 hc0 hc63
      refine ⟨_, rfl, cl, cs, rfl, SqL.of hc1, _, rfl, _, _, rfl, rfl, Nat.zero_le _, fun f hf => ⟨_, _, rfl, ?_⟩⟩
      have s2 : Same H (upd H1 f (.lst [])) := s1.upd (s1.free hf)
      have hfH : H f = none := s1.free hf
      have hcf : cl ≠ f := ne_of_none hc1 hf
      have hc2 : (upd H1 f (.lst [])) cl = some (.lst (cs.map V.int)) := by
        rw [upd_ne hcf]
        exact hc1
      refine ⟨_, rfl, _, rfl, _, _, rfl, rfl, _, _, _, rfl, by omega, by omega, fun r1 => ?_⟩
      refine ⟨_, _, rfl, rfl, ⟨by decide, by decide⟩, _, rfl, _, _, rfl, rfl, (by show 0 < most; omega), ?_⟩
      refine ⟨_, rfl, _, rfl, _, _, rfl, rfl, _, _, _, rfl, by omega, by omega, fun r2 => ?_⟩
      refine ⟨_, _, rfl, rfl, ⟨by decide, by decide⟩, _, _, rfl, rfl, (by show (0 : Int) < 5; decide), _, _, rfl, ?_⟩
      have hma : 0 ≤ r1 / 9 % most ∧ r1 / 9 % most < most := ⟨Int.emod_nonneg _ (by omega), Int.emod_lt_of_pos _ (by omega)⟩
      have hki : 0 ≤ r2 / 360 % 5 ∧ r2 / 360 % 5 < 5 := ⟨Int.emod_nonneg _ (by omega), Int.emod_lt_of_pos _ (by omega)⟩
      refine ⟨_, rfl, r1 / 9 % most, rfl, by omega, by omega, ?_⟩
      refine for_range (lo := 0) (n := (r1 / 9 % most).toNat) (fun i σ H3 => ∃ x y, σ = [some (.ref a), some (.int by'), some (.int most), some (.ref cl), x, some (.int (cs.sum + by')), some (.ref f), some (.int (r1 / 9 % most)), some (.int (r2 / 360 % 5)), y] ∧ Same H H3 ∧ H3 cl = some (.lst (cs.map V.int)) ∧
          ∃ us : List Int, H3 f = some (.lst (us.map V.int)) ∧ us.length = i ∧ ∀ (j : Nat) (u : Int), us[j]? = some u → 0 ≤ u ∧ u ≤ j)
        ⟨none, none, rfl, s2, hc2, [], upd_same, rfl, fun j u h1 => by simp at h1⟩ ?_ ?_
      · rintro i σ H3 hi ⟨x0, y0, rfl, s3, hc3, us, hf3, hul, hug⟩
        have hcl0 : 0 < (((cs.map V.int).length : Nat) : Int) := by
          rw [List.length_map]
          omega
        have hidx : 0 ≤ ((0 : Int) + i + by') % (((cs.map V.int).length : Nat) : Int) ∧ ((0 : Int) + i + by') % (((cs.map V.int).length : Nat) : Int) < (((cs.map V.int).length : Nat) : Int) := ⟨Int.emod_nonneg _ (by omega), Int.emod_lt_of_pos _ hcl0⟩
        obtain ⟨z, hz⟩ : ∃ z, cs[(((0 : Int) + i + by') % (((cs.map V.int).length : Nat) : Int)).toNat]? = some z := ⟨_, List.getElem?_eq_getElem (by have := hidx.2; rw [List.length_map] at this; rw [List.length_map]; omega)⟩
        refine ⟨_, rfl, _, rfl, _, rfl, _, _, rfl, rfl, _, rfl, cl, _, rfl, .inl (SqL.of hc3), _, _, rfl, rfl, hcl0, cl, cs.map V.int, _, .int z, rfl, rfl, SqL.of hc3, at_of (j := (((0 : Int) + i + by') % (((cs.map V.int).length : Nat) : Int)).toNat) (by omega) (by rw [List.getElem?_map, hz]; rfl), ?_⟩
        refine ⟨_, rfl, _, _, rfl, rfl, _, rfl, _, rfl, _, _, rfl, rfl, _, rfl, _, _, _, rfl, by omega, by omega, fun r => ?_⟩
        refine ⟨_, _, rfl, rfl, ⟨by decide, by decide⟩, ?_⟩
        refine ⟨_, rfl, .inl ⟨rfl, _, SqL.of hf3⟩, ?_⟩
        refine ⟨_, rfl, _, rfl, _, _, rfl, rfl, _, _, rfl, rfl, (by show (0 : Int) < 0 + i + 1; omega), ?_⟩
        refine ⟨_, rfl, _, rfl, _, rfl, _, _, rfl, rfl, _, _, rfl, _, _, rfl, rfl, (by show (0 : Int) < if (3 : Int) < 0 + (i : Int) + 1 then (3 : Int) else 0 + (i : Int) + 1; split <;> omega), ?_⟩
        refine ⟨_, rfl, _, _, rfl, rfl, ⟨by decide, by decide⟩, (by show 5 ≤ sizeLine; decide), fun t ht => ?_⟩
        obtain ⟨v, hv, hv0, hv1⟩ : ∃ v : Int, atI [V.int (r / 3 % (0 + i + 1)), V.int (0 + i), V.int 0, V.int (r / 3 % (if (3 : Int) < 0 + (i : Int) + 1 then (3 : Int) else 0 + (i : Int) + 1)), V.int ((0 + i) / 2)] (r2 / 360 % 5) = some (V.int v) ∧ 0 ≤ v ∧ v ≤ i := by
          have c5 : r2 / 360 % 5 = ((0 : Nat) : Int) ∨ r2 / 360 % 5 = ((1 : Nat) : Int) ∨ r2 / 360 % 5 = ((2 : Nat) : Int) ∨ r2 / 360 % 5 = ((3 : Nat) : Int) ∨ r2 / 360 % 5 = ((4 : Nat) : Int) := by omega
          rcases c5 with e | e | e | e | e
          · refine ⟨_, at_of e rfl, Int.emod_nonneg _ (by omega), ?_⟩
            have := Int.emod_lt_of_pos (r / 3) (show (0 : Int) < 0 + i + 1 by omega)
            omega
          · exact ⟨_, at_of e rfl, by omega, by omega⟩
          · exact ⟨_, at_of e rfl, by omega, by omega⟩
          · have hpos : (0 : Int) < if (3 : Int) < 0 + (i : Int) + 1 then (3 : Int) else 0 + (i : Int) + 1 := by split <;> omega
            have hle : (if (3 : Int) < 0 + (i : Int) + 1 then (3 : Int) else 0 + (i : Int) + 1) ≤ i + 1 := by split <;> omega
            refine ⟨_, at_of e rfl, Int.emod_nonneg _ (by omega), ?_⟩
            have := Int.emod_lt_of_pos (r / 3) hpos
            omega
          · exact ⟨_, at_of e rfl, by omega, by omega⟩
        refine ⟨_, rfl, t, _, _, .int v, rfl, rfl, SqT.of upd_same, hv, f, us.map V.int, .int v, rfl, rfl, (by rw [upd_ne (ne_of_none hf3 ht)]; exact hf3), ?_, ?_⟩
        · rw [List.length_map]
          exact small1000 (by omega)
        · refine ⟨_, _, rfl, (s3.upd (s3.free ht)).upd hfH, ?_, us ++ [v], ?_, ?_, fun j u hj => ?_⟩
          · rw [upd_ne hcf, upd_ne (ne_of_none hc3 ht)]
            exact hc3
          · rw [upd_same, List.map_append]
            rfl
          · rw [List.length_append, hul]
            rfl
          · by_cases hji : j < us.length
            · rw [List.getElem?_append_left hji] at hj
              exact hug j u hj
            · rw [List.getElem?_append_right (by omega)] at hj
              have ej : j - us.length = 0 := by
                have := (List.getElem?_eq_some_iff.mp hj).1
                simp at this
                omega
              rw [ej] at hj
              have e2 : v = u := by simpa using hj
              omega
      · rintro σ H3 ⟨x0, y0, rfl, s3, hc3, us, hf3, hul, hug⟩
        refine ⟨_, rfl, ?_⟩
        exact k f us H3 s3 hfH hf3 (by omega) ⟨by omega, hug⟩
    obtain ⟨u, hu, rest⟩ := tail
    refine ⟨_, pss_cons (ps_set (i := 3) sc_law_ups.nd rfl (Or.inl rfl) (pe_ifExp (pt_cmpR (op_neDK K hr.units) (pv 0) (@pe_lst _ _ _ _ pa_nil) (nomark _)) (pe_slice (sl_listK K) (pv 0) po_none (po_some pe_int)) (@pe_lst _ _ _ _ (@pa_cons _ _ _ _ _ pe_int pa_nil (by rfl))))) hu, ?_⟩
    refine ⟨_, rfl, Nat.zero_le _, fun e he => ⟨.list (ns.map PyData.int), .list [], dp_ints ((Same.new he).seq hS), .lst (SqL.of upd_same) .nil, shaped_ints ns, shaped_ints [], _, rfl, ?_⟩⟩
    rw [eqv_nil]
    by_cases hn : ns = []
    · rw [decide_eq_true hn]
      refine iteF ?_
      refine ⟨(by show 1 ≤ sizeLine; decide), fun cl hcl => ?_⟩
      exact rest cl [5] _ ((Same.new he).upd ((Same.new he).free hcl)) ((Same.new he).free hcl) upd_same (by decide) (by decide)
    · rw [decide_eq_false hn]
      refine iteT ?_
      refine ⟨_, rfl, _, rfl, a, ns.map V.int, rfl, (Same.new he).seq hS, fun cl hcl => ?_⟩
      have ecut : cutV (ns.map V.int) none (some 63) = ns.map V.int := by
        unfold cutV
        rw [HT.sIx_none]
        have e1 : HT.sIx (ns.map V.int).length (ns.map V.int).length (some 63) = ns.length := by
          have := HT.sIx_nat (ns.map V.int).length (ns.map V.int).length 63
          have e63 : ((63 : Nat) : Int) = 63 := rfl
          rw [e63] at this
          rw [this, List.length_map]
          omega
        rw [e1, List.drop_zero, Nat.sub_zero, List.take_of_length_le (by simp)]
      rw [ecut]
      exact rest cl ns _ ((Same.new he).upd ((Same.new he).free hcl)) ((Same.new he).free hcl) upd_same (List.length_pos_iff.mpr hn) hlen
end
end Toy

set_option Elab.async false
set_option linter.all false
set_option maxRecDepth 100000
set_option maxHeartbeats 4000000
namespace Toy
open PySem L2
theorem perm_ins {α : Type} (xs : List α) (y : α) (k : Nat) : (xs.take k ++ y :: xs.drop k).Perm (y :: xs) := by
  have h := List.perm_middle (a := y) (l₁ := xs.take k) (l₂ := xs.drop k)
  rw [List.take_append_drop] at h
  exact h
theorem nd_at {α : Type} {xs : List α} (h : xs.Nodup) {p q : Nat} {x : α} (hp : xs[p]? = some x) (hq : xs[q]? = some x) : p = q := by
  obtain ⟨lp, ep⟩ := List.getElem?_eq_some_iff.mp hp
  obtain ⟨lq, eq⟩ := List.getElem?_eq_some_iff.mp hq
  rcases Nat.lt_trichotomy p q with h1 | h1 | h1
  · exact absurd (by rw [ep, eq]) (List.pairwise_iff_getElem.mp h p q lp lq h1)
  · exact h1
  · exact absurd (by rw [ep, eq]) (List.pairwise_iff_getElem.mp h q p lq lp h1)
structure FSpec (us kn : List Int) (fs : List (List Int)) (i : Nat) : Prop where
  len : fs.length = us.length + 1
  nd : ∀ (q : Nat) (row : List Int), fs[q]? = some row → row.Nodup
  mem : ∀ (q : Nat) (row : List Int), fs[q]? = some row → ∀ x, x ∈ row ↔ ∃ (j : Nat) (u : Int), j < i ∧ us[j]? = some u ∧ kn[u.toNat]? = some (q : Int) ∧ kn[j + 1]? = some x
theorem FSpec.start {us kn : List Int} : FSpec us kn (List.replicate (us.length + 1) []) 0 :=
  ⟨by simp, fun q row h => by rw [List.eq_of_mem_replicate (List.mem_of_getElem? h)]; exact List.nodup_nil, fun q row h x => by
    rw [List.eq_of_mem_replicate (List.mem_of_getElem? h)]
    constructor
    · intro h
      cases h
    · rintro ⟨j, u, h, _⟩
      omega⟩
theorem FSpec.step {us kn : List Int} {fs : List (List Int)} {i : Nat} (hk : kn.Nodup) (h : FSpec us kn fs i) {u x : Int} {q k : Nat} {row : List Int} (hu : us[i]? = some u) (hq : kn[u.toNat]? = some (q : Int)) (hx : kn[i + 1]? = some x) (hr : fs[q]? = some row) :
    FSpec us kn (fs.set q (row.take k ++ x :: row.drop k)) (i + 1) := by
  have pr := perm_ins row x k
  have hql := (List.getElem?_eq_some_iff.mp hr).1
  refine ⟨by rw [List.length_set]; exact h.len, fun q' row' hr' => ?_, fun q' row' hr' y => ?_⟩
  · by_cases e : q = q'
    · subst e
      rw [List.getElem?_set_self hql] at hr'
      cases hr'
      refine pr.nodup_iff.mpr (List.nodup_cons.mpr ⟨fun hm => ?_, h.nd q row hr⟩)
      obtain ⟨j, u', hj, _, _, h4⟩ := (h.mem q row hr x).mp hm
      have := nd_at hk h4 hx
      omega
    · rw [List.getElem?_set_ne e] at hr'
      exact h.nd q' row' hr'
  · by_cases e : q = q'
    · subst e
      rw [List.getElem?_set_self hql] at hr'
      cases hr'
      rw [pr.mem_iff, List.mem_cons, h.mem q row hr y]
      constructor
      · rintro (rfl | ⟨j, u', hj, h2, h3, h4⟩)
        · exact ⟨i, u, Nat.lt_succ_self i, hu, hq, hx⟩
        · exact ⟨j, u', by omega, h2, h3, h4⟩
      · rintro ⟨j, u', hj, h2, h3, h4⟩
        by_cases ej : j = i
        · subst ej
          rw [hx] at h4
          cases h4
          exact .inl rfl
        · exact .inr ⟨j, u', by omega, h2, h3, h4⟩
    · rw [List.getElem?_set_ne e] at hr'
      rw [h.mem q' row' hr' y]
      constructor
      · rintro ⟨j, u', hj, h2, h3, h4⟩
        exact ⟨j, u', by omega, h2, h3, h4⟩
      · rintro ⟨j, u', hj, h2, h3, h4⟩
        by_cases ej : j = i
        · subst ej
          rw [hu] at h2
          cases h2
          rw [hq] at h3
          cases h3
          exact absurd rfl e
        · exact ⟨j, u', by omega, h2, h3, h4⟩
def LL (H : Hp) (rs : List Addr) (oss : List (List Int)) : Prop := rs.length = oss.length ∧ ∀ (p : Nat) (r : Addr) (os : List Int), rs[p]? = some r → oss[p]? = some os → H r = some (.lst (os.map V.int))
theorem LL.mono {H H' : Hp} {rs : List Addr} {oss : List (List Int)} (h : LL H rs oss) (s : Same H H') : LL H' rs oss := ⟨h.1, fun p r os a b => s _ _ (h.2 p r os a b)⟩
theorem LL.set {H : Hp} {rs : List Addr} {oss : List (List Int)} {p : Nat} {r : Addr} {t : List Int} (h : LL H rs oss) (hp : rs[p]? = some r) (nd : rs.Nodup) : LL (upd H r (.lst (t.map V.int))) rs (oss.set p t) := by
  refine ⟨by rw [List.length_set]; exact h.1, fun q r' os hq ho => ?_⟩
  by_cases hqp : q = p
  · subst hqp
    rw [hp] at hq
    cases hq
    rw [List.getElem?_set_self (by rw [← h.1]; exact (List.getElem?_eq_some_iff.mp hp).1)] at ho
    cases ho
    exact upd_same
  · rw [List.getElem?_set_ne (Ne.symm hqp)] at ho
    rw [upd_ne (fun z => hqp (nd_at nd hq (by rw [z]; exact hp)))]
    exact h.2 q r' os hq ho
theorem LL.upd {H : Hp} {rs : List Addr} {oss : List (List Int)} {a : Addr} {o : HO} (h : LL H rs oss) (n : a ∉ rs) : LL (L2.upd H a o) rs oss :=
  ⟨h.1, fun p r os hp ho => by rw [upd_ne (fun z => n (by rw [← z]; exact List.mem_of_getElem? hp))]; exact h.2 p r os hp ho⟩
theorem LL.notin {H : Hp} {rs : List Addr} {os : List (List Int)} {a : Addr} (h : LL H rs os) (ha : H a = none) : a ∉ rs := fun h1 => by
  obtain ⟨p, hp⟩ := List.getElem?_of_mem h1
  obtain ⟨o, ho⟩ : ∃ o, os[p]? = some o := ⟨_, List.getElem?_eq_getElem (by rw [← h.1]; exact (List.getElem?_eq_some_iff.mp hp).1)⟩
  rw [h.2 p a o hp ho] at ha
  cases ha
theorem LL.nil {H : Hp} : LL H [] [] := ⟨rfl, fun p r o hp _ => by simp at hp⟩
theorem LL.snoc {H : Hp} {rs : List Addr} {os : List (List Int)} {r : Addr} {o : List Int} (h : LL H rs os) (hr : H r = some (.lst (o.map V.int))) : LL H (rs ++ [r]) (os ++ [o]) := by
  refine ⟨by rw [List.length_append, List.length_append, h.1]; rfl, fun p r' o' hp ho => ?_⟩
  by_cases hpi : p < rs.length
  · rw [List.getElem?_append_left hpi] at hp
    rw [List.getElem?_append_left (by rw [← h.1]; exact hpi)] at ho
    exact h.2 p r' o' hp ho
  · rw [List.getElem?_append_right (by omega)] at hp
    rw [List.getElem?_append_right (by rw [← h.1]; omega), ← h.1] at ho
    have e0 : p - rs.length = 0 := by
      have := (List.getElem?_eq_some_iff.mp hp).1
      simp at this
      omega
    rw [e0] at hp ho
    have e1 : r = r' := by simpa using hp
    have e2 : o = o' := by simpa using ho
    subst e1 e2
    exact hr
theorem ref_get {rs : List Addr} {i : Nat} {x : V} (h : (rs.map V.ref)[i]? = some x) : ∃ r, rs[i]? = some r ∧ x = .ref r := by
  rw [List.getElem?_map] at h
  obtain ⟨r, e, q⟩ := Option.map_eq_some_iff.mp h
  exact ⟨r, e, q.symm⟩
theorem LL.ol {H : Hp} {rs : List Addr} {os : List (List Int)} (h : LL H rs os) : OL H (rs.map V.ref) os := by
  refine ⟨by rw [List.length_map, List.length_map, h.1], fun p v row hp hr => ?_⟩
  obtain ⟨r, hr1, rfl⟩ := ref_get hp
  rw [List.getElem?_map] at hr
  obtain ⟨l, hl, rfl⟩ := Option.map_eq_some_iff.mp hr
  exact ⟨r, rfl, h.2 p r l hr1 hl⟩
end Toy

set_option Elab.async false
set_option linter.all false
set_option maxRecDepth 100000
set_option maxHeartbeats 4000000
namespace Toy
open PySem L2
section
variable {P : Program} {w : World} {K : PySem.W.Frag} {mg : Str → Option Value} {base : Heap} {A : Adr}
end
end Toy

set_option Elab.async false
set_option linter.all false
set_option maxRecDepth 100000
set_option maxHeartbeats 4000000
namespace Toy
open PySem L2
structure WC (os : List (List Int)) (rows : List (Option (List Int))) (C : Int → Prop) : Prop where
  zero : C 0
  known : ∀ (p : Nat) (l : List Int), rows[p]? = some (some l) → C p
  row : ∀ (p : Nat) (l : List Int), rows[p]? = some (some l) → l.Nodup ∧ ∀ x ∈ l, 0 < x ∧ x < os.length ∧ ¬ C x ∧ ∃ (q : Nat) (r : List Int), os[q]? = some r ∧ x ∈ r ∧ C q
  dis : ∀ (p q : Nat) (l m : List Int), p ≠ q → rows[p]? = some (some l) → rows[q]? = some (some m) → ∀ x ∈ l, x ∉ m
  up : ∀ y, C y → y = 0 ∨ ∃ (q : Nat) (r : List Int), os[q]? = some r ∧ y ∈ r ∧ C q
structure WInv (os : List (List Int)) (rows : List (Option (List Int))) : Prop where
  len : rows.length = os.length
  ex : ∃ C, WC os rows C
theorem WInv.rowsIn {os : List (List Int)} {rows : List (Option (List Int))} (g : GoodO os) (h : WInv os rows) : RowsIn os rows := by
  obtain ⟨C, w⟩ := h.ex
  refine ⟨h.len, fun p l hl => ⟨?_, fun x hx => ?_⟩⟩
  · exact Nat.le_trans (nodup_len (n := os.length) (w.row p l hl).1 fun x hx => by have := (w.row p l hl).2 x hx; omega) g.n40
  · have := (w.row p l hl).2 x hx
    omega
theorem WInv.first {os : List (List Int)} (g : GoodO os) : WInv os (firstM os) := by
  have n1 := g.n1
  have h0 := ch_get (os := os) (x := 0) (by omega) (by omega)
  obtain ⟨c1, c2⟩ := g.row h0
  have only : ∀ (p : Nat) (l : List Int), (firstM os)[p]? = some (some l) → p = 0 ∧ l = ch os 0 := by
    intro p l hl
    cases p with
    | zero =>
      have : some (ch os 0) = some l := by simpa [firstM] using hl
      cases this
      exact ⟨rfl, rfl⟩
    | succ p =>
      have : (List.replicate (os.length - 1) (none : Option (List Int)))[p]? = some (some l) := by simpa [firstM] using hl
      have := List.eq_of_mem_replicate (List.mem_of_getElem? this)
      cases this
  refine ⟨by simp [firstM]; omega, fun y => y = 0, rfl, fun p l hl => ?_, fun p l hl => ?_, fun p q l m hpq hl hm => ?_, fun y hy => .inl hy⟩
  · rw [(only p l hl).1]
    rfl
  · obtain ⟨rfl, rfl⟩ := only p l hl
    refine ⟨c1, fun x hx => ?_⟩
    have := c2 x hx
    exact ⟨this.1, this.2, by omega, 0, ch os 0, h0, hx, rfl⟩
  · exact absurd ((only p l hl).1.trans (only q m hm).1.symm) hpq
theorem set_get {α : Type} {xs : List α} {i p : Nat} {v y : α} (h : (xs.set i v)[p]? = some y) : (p = i ∧ y = v) ∨ (p ≠ i ∧ xs[p]? = some y) := by
  by_cases e : i = p
  · subst e
    have hl := (List.getElem?_eq_some_iff.mp h).1
    rw [List.length_set] at hl
    rw [List.getElem?_set_self hl] at h
    cases h
    exact .inl ⟨rfl, rfl⟩
  · rw [List.getElem?_set_ne e] at h
    exact .inr ⟨Ne.symm e, h⟩
theorem WC.call {os : List (List Int)} {rows : List (Option (List Int))} {C : Int → Prop} (g : GoodO os) (w : WC os rows C) {c : Nat} {x : Int} {rest : List Int} (hc : rows[c]? = some (some (x :: rest))) :
    WC os (rows.set c (some (ch os x ++ rest))) (fun y => C y ∨ y = x) ∧ WC os ((rows.set c (some rest)).set x.toNat (some (ch os x))) (fun y => C y ∨ y = x) ∧ rows[x.toNat]? ≠ some (some rest) ∧ (∀ l, rows[x.toNat]? ≠ some (some l)) := by
  obtain ⟨rn, rx⟩ := w.row c _ hc
  obtain ⟨x0, x1, xC, qx, rq, hq, hxq, hCq⟩ := rx x List.mem_cons_self
  obtain ⟨xr, rn⟩ := List.nodup_cons.mp rn
  have hch := ch_get (os := os) (x := x) (by omega) x1
  obtain ⟨cn, cr⟩ := g.row hch
  have ex : ((x.toNat : Nat) : Int) = x := by omega
  have new : ∀ y ∈ ch os x, ¬ C y ∧ y ≠ x := fun y hy => by
    constructor
    · intro hCy
      rcases w.up y hCy with e | ⟨q, r, h1, h2, h3⟩
      · have := cr y hy
        omega
      · have e := g.one h1 hch h2 hy
        rw [e, ex] at h3
        exact xC h3
    · intro e
      subst e
      have e := g.one hq hch hxq hy
      rw [e, ex] at hCq
      exact xC hCq
  have apart : ∀ (p : Nat) (l : List Int), rows[p]? = some (some l) → ∀ y ∈ l, y ∉ ch os x := fun p l hl y hy hyc => by
    obtain ⟨_, _, _, q, r, h1, h2, h3⟩ := (w.row p l hl).2 y hy
    have e := g.one h1 hch h2 hyc
    rw [e, ex] at h3
    exact xC h3
  have noX : ∀ l, rows[x.toNat]? ≠ some (some l) := fun l hl => by
    have := w.known _ _ hl
    rw [ex] at this
    exact xC this
  have up' : ∀ y, (C y ∨ y = x) → y = 0 ∨ ∃ (q : Nat) (r : List Int), os[q]? = some r ∧ y ∈ r ∧ (C q ∨ (q : Int) = x) := fun y hy => by
    rcases hy with hy | rfl
    · rcases w.up y hy with e | ⟨q, r, h1, h2, h3⟩
      · exact .inl e
      · exact .inr ⟨q, r, h1, h2, .inl h3⟩
    · exact .inr ⟨qx, rq, hq, hxq, .inl hCq⟩
  have old : ∀ (p : Nat) (l : List Int), p ≠ c → rows[p]? = some (some l) → l.Nodup ∧ ∀ y ∈ l, 0 < y ∧ y < os.length ∧ ¬ (C y ∨ y = x) ∧ ∃ (q : Nat) (r : List Int), os[q]? = some r ∧ y ∈ r ∧ (C q ∨ (q : Int) = x) := fun p l hpc hl => by
    obtain ⟨h1, h2⟩ := w.row p l hl
    refine ⟨h1, fun y hy => ?_⟩
    obtain ⟨a, b, c', q, r, d, e, f⟩ := h2 y hy
    refine ⟨a, b, fun z => ?_, q, r, d, e, .inl f⟩
    rcases z with z | rfl
    · exact c' z
    · exact w.dis p c l _ hpc hl hc y hy List.mem_cons_self
  have chOk : ∀ y ∈ ch os x, 0 < y ∧ y < os.length ∧ ¬ (C y ∨ y = x) ∧ ∃ (q : Nat) (r : List Int), os[q]? = some r ∧ y ∈ r ∧ (C q ∨ (q : Int) = x) := fun y hy =>
    ⟨(cr y hy).1, (cr y hy).2, fun z => z.elim (new y hy).1 (new y hy).2, x.toNat, ch os x, hch, hy, .inr ex⟩
  have restOk : ∀ y ∈ rest, 0 < y ∧ y < os.length ∧ ¬ (C y ∨ y = x) ∧ ∃ (q : Nat) (r : List Int), os[q]? = some r ∧ y ∈ r ∧ (C q ∨ (q : Int) = x) := fun y hy => by
    obtain ⟨a, b, c', q, r, d, e, f⟩ := rx y (List.mem_cons_of_mem _ hy)
    refine ⟨a, b, fun z => ?_, q, r, d, e, .inl f⟩
    rcases z with z | rfl
    · exact c' z
    · exact xr hy
  have Cc := w.known _ _ hc
  have ncx : c ≠ x.toNat := fun z => by
    rw [z, ex] at Cc
    exact xC Cc
  have restA : ∀ y ∈ rest, y ∉ ch os x := fun y hy => apart c _ hc y (List.mem_cons_of_mem _ hy)
  refine ⟨⟨.inl w.zero, fun p l hl => ?_, fun p l hl => ?_, fun p q l m hpq hl hm => ?_, up'⟩, ⟨.inl w.zero, fun p l hl => ?_, fun p l hl => ?_, fun p q l m hpq hl hm => ?_, up'⟩, noX _, noX⟩
  · rcases set_get hl with ⟨rfl, _⟩ | ⟨_, hl⟩
    · exact .inl Cc
    · exact .inl (w.known p l hl)
  · rcases set_get hl with ⟨rfl, e⟩ | ⟨n, hl⟩
    · cases e
      refine ⟨List.nodup_append.mpr ⟨cn, rn, fun a ha b hb z => restA b hb (by rw [← z]; exact ha)⟩, fun y hy => ?_⟩
      rcases List.mem_append.mp hy with hy | hy
      · exact chOk y hy
      · exact restOk y hy
    · exact old p l n hl
  · intro y hy hy'
    rcases set_get hl with ⟨rfl, e⟩ | ⟨n, hl⟩
    · cases e
      rcases set_get hm with ⟨rfl, _⟩ | ⟨_, hm⟩
      · exact hpq rfl
      · rcases List.mem_append.mp hy with hy | hy
        · exact apart q m hm y hy' hy
        · exact w.dis _ q _ m hpq hc hm y (List.mem_cons_of_mem _ hy) hy'
    · rcases set_get hm with ⟨e0, e⟩ | ⟨_, hm⟩
      · cases e
        rcases List.mem_append.mp hy' with hy' | hy'
        · exact apart p l hl y hy hy'
        · exact w.dis p c l _ n hl hc y hy (List.mem_cons_of_mem _ hy')
      · exact w.dis p q l m hpq hl hm y hy hy'
  · rcases set_get hl with ⟨rfl, _⟩ | ⟨_, hl⟩
    · exact .inr ex
    · rcases set_get hl with ⟨rfl, _⟩ | ⟨_, hl⟩
      · exact .inl Cc
      · exact .inl (w.known p l hl)
  · rcases set_get hl with ⟨rfl, e⟩ | ⟨_, hl⟩
    · cases e
      exact ⟨cn, chOk⟩
    · rcases set_get hl with ⟨rfl, e⟩ | ⟨n, hl⟩
      · cases e
        exact ⟨rn, restOk⟩
      · exact old p l n hl
  · intro y hy hy'
    rcases set_get hl with ⟨rfl, e⟩ | ⟨_, hl⟩
    · cases e
      rcases set_get hm with ⟨rfl, _⟩ | ⟨_, hm⟩
      · exact hpq rfl
      · rcases set_get hm with ⟨rfl, e⟩ | ⟨_, hm⟩
        · cases e
          exact restA y hy' hy
        · exact apart q m hm y hy' hy
    · rcases set_get hl with ⟨rfl, e⟩ | ⟨_, hl⟩
      · cases e
        rcases set_get hm with ⟨rfl, e⟩ | ⟨_, hm⟩
        · cases e
          exact restA y hy hy'
        · rcases set_get hm with ⟨rfl, _⟩ | ⟨_, hm⟩
          · exact hpq rfl
          · exact w.dis _ q _ m hpq hc hm y (List.mem_cons_of_mem _ hy) hy'
      · rcases set_get hm with ⟨rfl, e⟩ | ⟨_, hm⟩
        · cases e
          exact apart p l hl y hy hy'
        · rcases set_get hm with ⟨e0, e⟩ | ⟨_, hm⟩
          · cases e
            exact w.dis p c l _ (by omega) hl hc y hy (List.mem_cons_of_mem _ hy')
          · exact w.dis p q l m hpq hl hm y hy hy'
abbrev Rws := List (Option (List Int))
structure LSt where
  turn : List (Int × Int × Bool)
  cur : Rws
  more : List (Int × List Int)
def stepL (os : List (List Int)) (as : List Int) (st : LSt) (c : Int) : LSt :=
  if c ∈ as then st else match st.cur.getD c.toNat none with
  | some (x :: rest) => if x ∈ as then ⟨st.turn ++ [(c, x, false)], st.cur.set c.toNat (some (ch os x ++ rest)), st.more⟩ else ⟨st.turn ++ [(c, x, true)], st.cur.set c.toNat (some rest), st.more ++ [(x, ch os x)]⟩
  | _ => st
def appM (cur : Rws) (more : List (Int × List Int)) : Rws := more.foldl (fun r q => r.set q.1.toNat (some q.2)) cur
theorem appM_snoc (cur : Rws) (more : List (Int × List Int)) (q : Int × List Int) : appM cur (more ++ [q]) = (appM cur more).set q.1.toNat (some q.2) := by
  unfold appM
  rw [List.foldl_append]
  rfl
theorem appM_set {p : Nat} {v : Option (List Int)} : ∀ (more : List (Int × List Int)) (cur : Rws), (∀ q ∈ more, q.1.toNat ≠ p) → appM (cur.set p v) more = (appM cur more).set p v
  | [], cur, _ => rfl
  | q :: r, cur, h => by
    show appM ((cur.set p v).set q.1.toNat (some q.2)) r = (appM (cur.set q.1.toNat (some q.2)) r).set p v
    rw [List.set_comm _ _ (Ne.symm (h q List.mem_cons_self))]
    exact appM_set r _ fun q' hq' => h q' (List.mem_cons_of_mem _ hq')
structure Jn (os : List (List Int)) (rows : Rws) (cs : List Int) (st : List (Int × Int × Bool) × Rws) (lw : LSt) : Prop where
  calls : st.1 = lw.turn
  app : st.2 = appM lw.cur lw.more
  inv : WInv os st.2
  nd : cs.Nodup
  still : ∀ c ∈ cs, ∃ (p : Nat) (l : List Int), c = p ∧ rows[p]? = some (some l) ∧ st.2[p]? = some (some l) ∧ lw.cur[p]? = some (some l)
  more : ∀ q ∈ lw.more, 0 ≤ q.1 ∧ q.1 < os.length ∧ q.1 ∉ cs ∧ ∃ l, st.2[q.1.toNat]? = some (some l)
  mnd : (lw.more.map (·.1)).Nodup
theorem Jn.step {os : List (List Int)} {rows : Rws} {cs as : List Int} {c : Int} {st : List (Int × Int × Bool) × Rws} {lw : LSt} (g : GoodO os) (j : Jn os rows (c :: cs) st lw) :
    Jn os rows cs (stepP os rows as st c) (stepL os as lw c) ∧ (c ∉ as → ∀ x rest, lw.cur[c.toNat]? = some (some (x :: rest)) → 0 ≤ x ∧ x < os.length ∧ x ∉ lw.more.map (·.1)) := by
  obtain ⟨p, l, rfl, hrow, hb, hcur⟩ := j.still c List.mem_cons_self
  obtain ⟨hnc, hnd⟩ := List.nodup_cons.mp j.nd
  have hskip : Jn os rows cs st lw := ⟨j.calls, j.app, j.inv, hnd, fun c' hc' => j.still c' (List.mem_cons_of_mem _ hc'), fun q hq => let ⟨a, b, d, e⟩ := j.more q hq; ⟨a, b, fun z => d (List.mem_cons_of_mem _ z), e⟩, j.mnd⟩
  have hgr : rows.getD ((p : Int)).toNat none = some l := by
    rw [Int.toNat_natCast, List.getD_eq_getElem?_getD, hrow]
    rfl
  have hgc : lw.cur.getD ((p : Int)).toNat none = some l := by
    rw [Int.toNat_natCast, List.getD_eq_getElem?_getD, hcur]
    rfl
  unfold stepP stepL
  by_cases ha : (p : Int) ∈ as
  · rw [if_pos ha, if_pos ha]
    exact ⟨hskip, fun z => absurd ha z⟩
  rw [if_neg ha, if_neg ha, hgr, hgc]
  cases l with
  | nil =>
    refine ⟨hskip, fun _ x rest h => ?_⟩
    rw [Int.toNat_natCast, hcur] at h
    cases h
  | cons x rest =>
    obtain ⟨C, w⟩ := j.inv.ex
    obtain ⟨w1, w2, _, noX⟩ := w.call g hb
    obtain ⟨x0, x1, xC, _⟩ := (w.row p _ hb).2 x List.mem_cons_self
    have ex : ((x.toNat : Nat) : Int) = x := by omega
    have hpl : p < st.2.length := (List.getElem?_eq_some_iff.mp hb).1
    have hxl : x.toNat < st.2.length := by rw [j.inv.len]; omega
    have hpm : ∀ q ∈ lw.more, q.1.toNat ≠ p := fun q hq z => by
      obtain ⟨q0, _, q2, _⟩ := j.more q hq
      exact q2 (by rw [← z, show ((q.1.toNat : Nat) : Int) = q.1 by omega]; exact List.mem_cons_self)
    have hxm : x ∉ lw.more.map (·.1) := fun hm => by
      obtain ⟨q, hq, e⟩ := List.mem_map.mp hm
      obtain ⟨_, _, _, l', h4⟩ := j.more q hq
      rw [e] at h4
      exact noX l' h4
    have other : ∀ c' ∈ cs, ∀ (p' : Nat) (l' : List Int), c' = p' → st.2[p']? = some (some l') → p' ≠ p ∧ p' ≠ x.toNat := fun c' hc' p' l' e h => by
      refine ⟨fun z => hnc (by rw [← z, ← e]; exact hc'), fun z => ?_⟩
      rw [z] at h
      exact noX l' h
    refine ⟨?_, fun _ x' rest' h => ?_⟩
    · simp only [Int.toNat_natCast]
      by_cases hx : x ∈ as
      · rw [if_pos hx, if_pos hx]
        refine ⟨by show st.1 ++ _ = lw.turn ++ _; rw [j.calls], ?_, ⟨by rw [List.length_set]; exact j.inv.len, _, w1⟩, hnd, fun c' hc' => ?_, fun q hq => ?_, j.mnd⟩
        · show st.2.set p _ = appM (lw.cur.set p _) lw.more
          rw [appM_set _ _ hpm, ← j.app]
        · obtain ⟨p', l', e, h1, h2, h3⟩ := j.still c' (List.mem_cons_of_mem _ hc')
          obtain ⟨n1, _⟩ := other c' hc' p' l' e h2
          exact ⟨p', l', e, h1, by show (st.2.set p _)[p']? = _; rw [List.getElem?_set_ne (Ne.symm n1)]; exact h2, by show (lw.cur.set p _)[p']? = _; rw [List.getElem?_set_ne (Ne.symm n1)]; exact h3⟩
        · obtain ⟨a, b, d, l', e⟩ := j.more q hq
          exact ⟨a, b, fun z => d (List.mem_cons_of_mem _ z), l', by show (st.2.set p _)[q.1.toNat]? = _; rw [List.getElem?_set_ne (Ne.symm (hpm q hq))]; exact e⟩
      · rw [if_neg hx, if_neg hx]
        refine ⟨by show st.1 ++ _ = lw.turn ++ _; rw [j.calls], ?_, ⟨by rw [List.length_set, List.length_set]; exact j.inv.len, _, w2⟩, hnd, fun c' hc' => ?_, fun q hq => ?_, ?_⟩
        · show (st.2.set p _).set x.toNat _ = appM (lw.cur.set p _) (lw.more ++ [(x, ch os x)])
          rw [appM_snoc, appM_set _ _ hpm, ← j.app]
        · obtain ⟨p', l', e, h1, h2, h3⟩ := j.still c' (List.mem_cons_of_mem _ hc')
          obtain ⟨n1, n2⟩ := other c' hc' p' l' e h2
          exact ⟨p', l', e, h1, by show ((st.2.set p _).set x.toNat _)[p']? = _; rw [List.getElem?_set_ne (Ne.symm n2), List.getElem?_set_ne (Ne.symm n1)]; exact h2, by show (lw.cur.set p _)[p']? = _; rw [List.getElem?_set_ne (Ne.symm n1)]; exact h3⟩
        · have hq : q ∈ lw.more ++ [(x, ch os x)] := hq
          show _ ∧ _ ∧ _ ∧ ∃ l, ((st.2.set p _).set x.toNat _)[q.1.toNat]? = some (some l)
          rcases List.mem_append.mp hq with hq | hq
          · obtain ⟨a, b, d, l', e⟩ := j.more q hq
            refine ⟨a, b, fun z => d (List.mem_cons_of_mem _ z), ?_⟩
            by_cases ne : x.toNat = q.1.toNat
            · exact ⟨ch os x, by rw [← ne, List.getElem?_set_self (by rw [List.length_set]; exact hxl)]⟩
            · exact ⟨l', by rw [List.getElem?_set_ne ne, List.getElem?_set_ne (Ne.symm (hpm q hq))]; exact e⟩
          · obtain rfl := List.mem_singleton.mp hq
            refine ⟨by show 0 ≤ x; omega, x1, fun z => ?_, ch os x, by rw [List.getElem?_set_self (by rw [List.length_set]; exact hxl)]⟩
            obtain ⟨p', l', e, _, h2, _⟩ := j.still x (List.mem_cons_of_mem _ z)
            have : p' = x.toNat := by omega
            rw [this] at h2
            exact noX l' h2
        · show ((lw.more ++ [(x, ch os x)]).map (·.1)).Nodup
          rw [List.map_append]
          exact List.nodup_append.mpr ⟨j.mnd, by simp, fun a ha b hb z => hxm (by
            have : b = x := by simpa using hb
            rw [← this, ← z]
            exact ha)⟩
    · rw [Int.toNat_natCast, hcur] at h
      cases h
      exact ⟨by omega, x1, hxm⟩
end Toy

set_option Elab.async false
set_option linter.all false
set_option maxRecDepth 100000
set_option maxHeartbeats 4000000
namespace Toy
open PySem L2
theorem idxs_asc (f : Option (List Int) → Bool) (rows : Rws) : (idxs f rows).Pairwise (· < ·) := by
  have key : ∀ n, (idxs f (rows.take n)).Pairwise (· < ·) := by
    intro n
    induction n with
    | zero => simp [idxs]
    | succ n ih =>
      by_cases h : n < rows.length
      · rw [take_snoc (List.getElem?_eq_getElem h), idxs_snoc]
        refine List.pairwise_append.mpr ⟨ih, by split <;> simp, fun a ha b hb => ?_⟩
        obtain ⟨p, row, rfl, hp, _⟩ := idxs_mem.mp ha
        have hpl := (List.getElem?_eq_some_iff.mp hp).1
        split at hb
        · have := List.mem_singleton.mp hb
          omega
        · cases hb
      · rw [List.take_of_length_le (by omega)]
        rw [List.take_of_length_le (by omega)] at ih
        exact ih
  have := key rows.length
  rwa [List.take_length] at this
theorem asc_nodup {xs : List Int} (h : xs.Pairwise (· < ·)) : xs.Nodup := h.imp fun hab z => by omega
theorem Jn.start {os : List (List Int)} {rows : Rws} (h : WInv os rows) : Jn os rows (idxs Option.isSome rows) ([], rows) ⟨[], rows, []⟩ := by
  refine ⟨rfl, rfl, h, asc_nodup (idxs_asc _ _), fun c hc => ?_, fun q hq => (by cases hq), List.nodup_nil⟩
  obtain ⟨p, row, rfl, hp, hs⟩ := idxs_mem.mp hc
  obtain ⟨l, rfl⟩ := Option.isSome_iff_exists.mp hs
  exact ⟨p, l, rfl, hp, hp, hp⟩
theorem Jn.at {os : List (List Int)} {rows : Rws} {as : List Int} (g : GoodO os) (h : WInv os rows) : ∀ i, i ≤ (idxs Option.isSome rows).length →
    Jn os rows ((idxs Option.isSome rows).drop i) (((idxs Option.isSome rows).take i).foldl (stepP os rows as) ([], rows)) (((idxs Option.isSome rows).take i).foldl (stepL os as) ⟨[], rows, []⟩)
  | 0, _ => Jn.start h
  | i + 1, hi => by
    have ih := Jn.at (as := as) g h i (by omega)
    rw [List.drop_eq_getElem_cons (by omega)] at ih
    have := (ih.step (as := as) g).1
    have e : (idxs Option.isSome rows)[i]? = some ((idxs Option.isSome rows)[i]'(by omega)) := List.getElem?_eq_getElem _
    rw [take_snoc e, List.foldl_append, List.foldl_append]
    exact this
structure DR (H : Hp) (kvs : List (Key × V)) (cur : Rws) : Prop where
  nd : (kvs.map (·.1)).Nodup
  key : ∀ k ∈ kvs.map (·.1), ∃ p : Nat, k = .inl (p : Int) ∧ p < cur.length
  no : ∀ p : Nat, cur[p]? = some none → valV kvs (.inl (p : Int)) = none
  yes : ∀ (p : Nat) (l : List Int), cur[p]? = some (some l) → ∃ r, valV kvs (.inl (p : Int)) = some (.ref r) ∧ H r = some (.lst (l.map V.int))
theorem DR.mono {H H' : Hp} {kvs : List (Key × V)} {cur : Rws} (h : DR H kvs cur) (s : KL H H') : DR H' kvs cur :=
  ⟨h.nd, h.key, h.no, fun p l hl => let ⟨r, a, b⟩ := h.yes p l hl; ⟨r, a, s _ _ b⟩⟩
theorem keys_put (kvs : List (Key × V)) (k : Key) (v : V) : (putK kvs k v).map (·.1) = if (valV kvs k).isSome = true then kvs.map (·.1) else kvs.map (·.1) ++ [k] := by
  by_cases h : (valV kvs k).isSome = true
  · rw [if_pos h]
    unfold putK
    rw [valV_any, if_pos h, List.map_map]
    refine List.map_congr_left fun q _ => ?_
    show (if q.1 = k then (q.1, v) else q).1 = q.1
    split <;> rfl
  · have h0 : valV kvs k = none := by
      cases e : valV kvs k with
      | none => rfl
      | some x => exact absurd (by rw [e]; rfl) h
    rw [if_neg h, putK_new v h0, List.map_append]
    rfl
theorem DR.put {H : Hp} {kvs : List (Key × V)} {cur : Rws} {p : Nat} {r : Addr} {l : List Int} (h : DR H kvs cur) (hp : p < cur.length) (hr : H r = some (.lst (l.map V.int))) : DR H (putK kvs (.inl (p : Int)) (.ref r)) (cur.set p (some l)) := by
  have inj : ∀ {a b : Nat}, (Sum.inl (a : Int) : Key) = .inl (b : Int) → a = b := fun {a b} e => by
    injection e with e
    omega
  refine ⟨?_, fun k hk => ?_, fun q hq => ?_, fun q m hq => ?_⟩
  · rw [keys_put]
    split
    · exact h.nd
    · rename_i hs
      have h0 : valV kvs (.inl (p : Int)) = none := by
        cases e : valV kvs (.inl (p : Int)) with
        | none => rfl
        | some x => exact absurd (by rw [e]; rfl) hs
      exact List.nodup_append.mpr ⟨h.nd, by simp, fun a ha b hb z => valV_not h0 (by rw [← List.mem_singleton.mp hb, ← z]; exact ha)⟩
  · rw [keys_put] at hk
    rw [List.length_set]
    split at hk
    · exact h.key k hk
    · rcases List.mem_append.mp hk with hk | hk
      · exact h.key k hk
      · exact ⟨p, List.mem_singleton.mp hk, hp⟩
  · rw [valV_put]
    rcases set_get hq with ⟨_, e⟩ | ⟨n, hq⟩
    · cases e
    · rw [if_neg (fun z => n (inj z))]
      exact h.no q hq
  · rw [valV_put]
    rcases set_get hq with ⟨rfl, e⟩ | ⟨n, hq⟩
    · cases e
      exact ⟨r, by rw [if_pos rfl], hr⟩
    · rw [if_neg (fun z => n (inj z))]
      exact h.yes q m hq
def keyI : Key → Int
  | .inl i => i
  | .inr _ => 0
theorem DR.ints {H : Hp} {kvs : List (Key × V)} {cur : Rws} (h : DR H kvs cur) : (kvs.map fun q => kV q.1) = ((kvs.map fun q => keyI q.1).map V.int) ∧ (kvs.map fun q => keyI q.1).Perm (idxs Option.isSome cur) := by
  have ek : ∀ q ∈ kvs, ∃ p : Nat, q.1 = .inl (p : Int) ∧ p < cur.length := fun q hq => h.key q.1 (List.mem_map.mpr ⟨q, hq, rfl⟩)
  refine ⟨?_, ?_⟩
  · rw [List.map_map]
    refine List.map_congr_left fun q hq => ?_
    obtain ⟨p, e, _⟩ := ek q hq
    show kV q.1 = V.int (keyI q.1)
    rw [e]
    rfl
  · have hnd : (kvs.map fun q => keyI q.1).Nodup := by
      have e : (kvs.map fun q => keyI q.1) = (kvs.map (·.1)).map keyI := by rw [List.map_map]; rfl
      rw [e]
      refine List.pairwise_map.mpr ((List.Pairwise.and_mem.mp h.nd).imp ?_)
      rintro a b ⟨ha, hb, hab⟩ z
      obtain ⟨p, rfl, _⟩ := h.key a ha
      obtain ⟨q, rfl, _⟩ := h.key b hb
      exact hab (congrArg Sum.inl z)
    refine (List.perm_ext_iff_of_nodup hnd (asc_nodup (idxs_asc _ _))).mpr fun x => ?_
    constructor
    · intro hx
      obtain ⟨q, hq, rfl⟩ := List.mem_map.mp hx
      obtain ⟨p, e, hp⟩ := ek q hq
      rw [e]
      show (p : Int) ∈ _
      refine idxs_mem.mpr ⟨p, cur[p], rfl, List.getElem?_eq_getElem hp, ?_⟩
      cases hc : cur[p] with
      | some l => rfl
      | none =>
        have hn := h.no p (by rw [List.getElem?_eq_getElem hp, hc])
        exact absurd (List.mem_map.mpr ⟨q, hq, e⟩) (valV_not hn)
    · intro hx
      obtain ⟨p, row, rfl, hp, hs⟩ := idxs_mem.mp hx
      obtain ⟨l, rfl⟩ := Option.isSome_iff_exists.mp hs
      obtain ⟨r, hv, _⟩ := h.yes p l hp
      obtain ⟨q, hq, e⟩ := List.mem_map.mp (valV_in hv)
      exact List.mem_map.mpr ⟨q, hq, by rw [e]; rfl⟩
theorem DR.len {H : Hp} {kvs : List (Key × V)} {cur : Rws} (h : DR H kvs cur) : kvs.length ≤ cur.length := by
  have := h.ints.2.length_eq
  rw [List.length_map] at this
  rw [this]
  exact idxs_len _ _
structure MR (H : Hp) (kvs : List (Key × V)) (more : List (Int × List Int)) : Prop where
  len : kvs.length = more.length
  at' : ∀ (i : Nat) (q : Key × V) (m : Int × List Int), kvs[i]? = some q → more[i]? = some m → q.1 = .inl m.1 ∧ ∃ r, q.2 = .ref r ∧ H r = some (.lst (m.2.map V.int))
theorem MR.mono {H H' : Hp} {kvs : List (Key × V)} {more : List (Int × List Int)} (h : MR H kvs more) (s : KL H H') : MR H' kvs more :=
  ⟨h.len, fun i q m a b => let ⟨e, r, f, g⟩ := h.at' i q m a b; ⟨e, r, f, s _ _ g⟩⟩
theorem MR.keys {H : Hp} {kvs : List (Key × V)} {more : List (Int × List Int)} (h : MR H kvs more) : kvs.map (·.1) = more.map fun m => (.inl m.1 : Key) := by
  refine List.ext_getElem? fun i => ?_
  rw [List.getElem?_map, List.getElem?_map]
  by_cases hi : i < kvs.length
  · rw [List.getElem?_eq_getElem hi, List.getElem?_eq_getElem (by rw [← h.len]; exact hi)]
    exact congrArg some (h.at' i _ _ (List.getElem?_eq_getElem hi) (List.getElem?_eq_getElem (by rw [← h.len]; exact hi))).1
  · rw [List.getElem?_eq_none (by omega), List.getElem?_eq_none (by rw [← h.len]; omega)]
    rfl
theorem MR.put {H : Hp} {kvs : List (Key × V)} {more : List (Int × List Int)} {x : Int} {l : List Int} {r : Addr} (h : MR H kvs more) (hx : x ∉ more.map (·.1)) (hr : H r = some (.lst (l.map V.int))) : MR H (putK kvs (.inl x) (.ref r)) (more ++ [(x, l)]) := by
  have h0 : valV kvs (.inl x) = none := by
    cases e : valV kvs (.inl x) with
    | none => rfl
    | some v =>
      have hm := valV_in e
      rw [h.keys] at hm
      obtain ⟨m, hm1, hm2⟩ := List.mem_map.mp hm
      injection hm2 with hm2
      exact absurd (List.mem_map.mpr ⟨m, hm1, hm2⟩) hx
  rw [putK_new _ h0]
  refine ⟨by rw [List.length_append, List.length_append, h.len]; rfl, fun i q m hq hm => ?_⟩
  by_cases hi : i < kvs.length
  · rw [List.getElem?_append_left hi] at hq
    rw [List.getElem?_append_left (by rw [← h.len]; exact hi)] at hm
    exact h.at' i q m hq hm
  · rw [List.getElem?_append_right (by omega)] at hq
    rw [List.getElem?_append_right (by rw [← h.len]; omega), ← h.len] at hm
    have e0 : i - kvs.length = 0 := by
      have := (List.getElem?_eq_some_iff.mp hq).1
      simp at this
      omega
    rw [e0] at hq hm
    have e1 : ((.inl x, .ref r) : Key × V) = q := by simpa using hq
    have e2 : (x, l) = m := by simpa using hm
    subst e1 e2
    exact ⟨rfl, r, rfl, hr⟩
theorem val_at : ∀ {kvs : List (Key × V)} {i : Nat} {q : Key × V}, (kvs.map (·.1)).Nodup → kvs[i]? = some q → valV kvs q.1 = some q.2
  | [], _, _, _, h => by simp at h
  | p :: r, 0, q, _, h => by
    have e : p = q := by simpa using h
    subst e
    exact valV_pos rfl
  | p :: r, i + 1, q, nd, h => by
    rw [List.map_cons] at nd
    obtain ⟨h1, h2⟩ := List.nodup_cons.mp nd
    have h : r[i]? = some q := by simpa using h
    rw [valV_neg (fun e => h1 (by rw [e]; exact List.mem_map.mpr ⟨q, List.mem_of_getElem? h, rfl⟩))]
    exact val_at h2 h
end Toy

set_option Elab.async false
set_option linter.all false
set_option maxRecDepth 100000
set_option maxHeartbeats 4000000
namespace Toy
open PySem L2
theorem KL.upd {H H' : Hp} {a : Addr} {o : HO} (k : KL H H') (h : H a = none) : KL H (L2.upd H' a o) := fun b xs e => by
  rw [upd_ne (ne_of_none e h)]
  exact k b xs e
theorem KL.dK {H : Hp} {a : Addr} {kvs : List (Key × V)} {o : HO} (h : H a = some (.dK kvs)) : KL H (L2.upd H a o) := fun b xs e => by
  rw [upd_ne (fun z => by rw [z, h] at e; cases e)]
  exact e
theorem KL.trans {H H1 H2 : Hp} (a : KL H H1) (b : KL H1 H2) : KL H H2 := fun c xs e => b c xs (a c xs e)
structure ZZ (k0 : List (Key × V)) (d sl tt mo : Addr) (H : Hp) (ks : List Int) (Hn : Hp) (cs : List Addr) (kv mv : List (Key × V)) (lw : LSt) : Prop where
  but : But d H Hn
  hsl : Hn sl = some (.lst (ks.map V.int))
  htt : Hn tt = some (.lst (cs.map V.ref))
  ntc : tt ∉ cs
  hC : CL Hn cs lw.turn
  hd : Hn d = some (.dK kv)
  hD : DR Hn kv lw.cur
  hmo : Hn mo = some (.dK mv)
  hM : MR Hn mv lw.more
  nk : ∀ q ∈ kv, q.2 ≠ .ref tt
  nm : ∀ q ∈ mv, q.2 ≠ .ref tt
  ok : ∀ q ∈ kv, (∃ q0 ∈ k0, q0.2 = q.2) ∨ ∃ r, q.2 = .ref r ∧ H r = none
  om : ∀ q ∈ mv, ∃ r, q.2 = .ref r ∧ H r = none
theorem But.free {d : Addr} {H H' : Hp} {o : HO} (b : But d H H') (hd : H' d = some o) {r : Addr} (h : H' r = none) : H r = none := by
  cases q : H r with
  | none => rfl
  | some u =>
    by_cases e : r = d
    · rw [e, hd] at h
      cases h
    · rw [b r u e q] at h
      cases h
theorem val_mem {kvs : List (Key × V)} {k : Key} {v : V} (h : valV kvs k = some v) : ∃ q ∈ kvs, q.2 = v := by
  unfold valV at h
  obtain ⟨q, hq, e⟩ := Option.map_eq_some_iff.mp h
  exact ⟨q, List.mem_of_find?_eq_some hq, e⟩
theorem DR.vals {H : Hp} {kvs : List (Key × V)} {cur : Rws} (h : DR H kvs cur) {q : Key × V} (hq : q ∈ kvs) : ∃ r l, q.2 = .ref r ∧ H r = some (.lst l) := by
  obtain ⟨i, hi⟩ := List.getElem?_of_mem hq
  have hv := val_at h.nd hi
  obtain ⟨p, e, hp⟩ := h.key q.1 (List.mem_map.mpr ⟨q, hq, rfl⟩)
  rw [e] at hv
  cases hc : cur[p] with
  | none =>
    have := h.no p (by rw [List.getElem?_eq_getElem hp, hc])
    rw [this] at hv
    cases hv
  | some l =>
    obtain ⟨r, h1, h2⟩ := h.yes p l (by rw [List.getElem?_eq_getElem hp, hc])
    rw [h1] at hv
    injection hv with hv
    exact ⟨r, _, hv.symm, h2⟩
section
variable {k0 : List (Key × V)} {d sl tt mo : Addr} {H Hn : Hp} {ks : List Int} {cs : List Addr} {kv mv : List (Key × V)} {lw : LSt}
theorem CL.but {H H' : Hp} {cs : List Addr} {calls : List (Int × Int × Bool)} (h : CL H cs calls) (k : ∀ b xs, H b = some (.tup xs) → H' b = some (.tup xs)) : CL H' cs calls := ⟨h.len, fun p t c a b => k _ _ (h.at' p t c a b)⟩
theorem ZZ.same {Hn' : Hp} (z : ZZ k0 d sl tt mo H ks Hn cs kv mv lw) (s : Same Hn Hn') : ZZ k0 d sl tt mo H ks Hn' cs kv mv lw :=
  ⟨z.but.trans (But.of s), s _ _ z.hsl, s _ _ z.htt, z.ntc, z.hC.mono s, s _ _ z.hd, z.hD.mono (KL.of s), s _ _ z.hmo, z.hM.mono (KL.of s), z.nk, z.nm, z.ok, z.om⟩
theorem ZZ.app (z : ZZ k0 d sl tt mo H ks Hn cs kv mv lw) (httH : H tt = none) (nst : sl ≠ tt) {t : Addr} {c x : Int} {b : Bool} (ht : Hn t = none) :
    ZZ k0 d sl tt mo H ks (L2.upd (L2.upd Hn t (.tup [.int c, .int x, .bl b])) tt (.lst ((cs ++ [t]).map V.ref))) (cs ++ [t]) kv mv ⟨lw.turn ++ [(c, x, b)], lw.cur, lw.more⟩ := by
  have m : Same Hn (L2.upd Hn t (.tup [.int c, .int x, .bl b])) := Same.new ht
  have z1 := z.same m
  have nt : tt ≠ t := ne_of_none z.htt ht
  have nct : tt ∉ cs ++ [t] := fun hm => by
    rcases List.mem_append.mp hm with h1 | h1
    · exact z.ntc h1
    · exact nt (List.mem_singleton.mp h1)
  have ht1 : (L2.upd Hn t (.tup [.int c, .int x, .bl b])) t = some (.tup [.int c, .int x, .bl b]) := upd_same
  generalize L2.upd Hn t (.tup [.int c, .int x, .bl b]) = H1 at m z1 ht1
  have nd : d ≠ tt := fun q => by
    have := z1.hd
    rw [q, z1.htt] at this
    cases this
  have nm : mo ≠ tt := fun q => by
    have := z1.hmo
    rw [q, z1.htt] at this
    cases this
  refine ⟨fun b u n e => ?_, ?_, upd_same, nct, (z1.hC.snoc (c := (c, x, b)) ht1).upd nct, ?_, ⟨z1.hD.nd, z1.hD.key, z1.hD.no, fun p l hl => ?_⟩, ?_, ⟨z1.hM.len, fun i q m' hq hm => ?_⟩, z.nk, z.nm, z.ok, z.om⟩
  · rw [upd_ne (ne_of_none e httH)]
    exact z1.but b u n e
  · rw [upd_ne nst]
    exact z1.hsl
  · rw [upd_ne nd]
    exact z1.hd
  · obtain ⟨r, e1, e2⟩ := z1.hD.yes p l hl
    exact ⟨r, e1, by rw [upd_ne (fun w => by obtain ⟨q, hq, e3⟩ := val_mem e1; exact z.nk q hq (by rw [e3, w]))]; exact e2⟩
  · rw [upd_ne nm]
    exact z1.hmo
  · obtain ⟨e1, r, e2, e3⟩ := z1.hM.at' i q m' hq hm
    exact ⟨e1, r, e2, by rw [upd_ne (fun w => z.nm q (List.mem_of_getElem? hq) (by rw [e2, w]))]; exact e3⟩
end
section
variable {P : Program} {w : World} {K : PySem.W.Frag} {mg : Str → Option Value} {base : Heap} {A : Adr}
end
end Toy

set_option Elab.async false
set_option linter.all false
set_option maxRecDepth 100000
set_option maxHeartbeats 4000000
namespace Toy
open PySem L2
section
variable {P : Program} {w : World} {K : PySem.W.Frag} {mg : Str → Option Value} {base : Heap} {A : Adr}
theorem sc_law_told : FnScope ["_law_found", "_law_numbers", "_law_row", "_law_number_here"] ["_law_found"] (defScope s_law_told) := ⟨rfl, rfl, rfl, by decide +kernel, rfl, by decide +kernel, by decide +kernel⟩
end
end Toy

set_option Elab.async false
set_option linter.all false
set_option maxRecDepth 100000
set_option maxHeartbeats 4000000
namespace Toy
open PySem L2
def KT (K : PySem.W.Frag) (H H' : Hp) : Prop := (∀ a xs, SqL K H a xs → SqL K H' a xs) ∧ ∀ a xs, SqT K H a xs → SqT K H' a xs
theorem KT.of {K : PySem.W.Frag} {H H' : Hp} (s : Same H H') : KT K H H' := ⟨fun a xs h => s.seq h, fun a xs h => by
  rcases h with (h | ⟨o, h⟩) | h
  · exact .inl (.inl (s _ _ h))
  · exact .inl (.inr ⟨o, s _ _ h⟩)
  · exact .inr h⟩
theorem KT.but {K : PySem.W.Frag} {H H' : Hp} {x C dx : Addr} {fs : List (Str × V)} (hx : H x = some (.ins C dx fs)) (b : But x H H') : KT K H H' := by
  refine ⟨fun a xs h => ?_, fun a xs h => ?_⟩
  · rcases h with (h | ⟨o, h⟩) | h
    · exact .inl (.inl (b _ _ (fun z => by rw [z, hx] at h; cases h) h))
    · exact .inl (.inr ⟨o, b _ _ (fun z => by rw [z, hx] at h; cases h) h⟩)
    · exact .inr h
  · rcases h with (h | ⟨o, h⟩) | h
    · exact .inl (.inl (b _ _ (fun z => by rw [z, hx] at h; cases h) h))
    · exact .inl (.inr ⟨o, b _ _ (fun z => by rw [z, hx] at h; cases h) h⟩)
    · exact .inr h
mutual
theorem Dp.kt {K : PySem.W.Frag} {H H' : Hp} (k : KT K H H') : ∀ {v : V} {d : PyData}, Dp K H v d → Dp K H' v d
  | _, _, .non => .non
  | _, _, .bl b => .bl b
  | _, _, .int i => .int i
  | _, _, .str x => .str x
  | _, _, .lst h r => .lst (k.1 _ _ h) (DpAll.kt k r)
  | _, _, .tup h r => .tup (k.2 _ _ h) (DpAll.kt k r)
theorem DpAll.kt {K : PySem.W.Frag} {H H' : Hp} (k : KT K H H') : ∀ {vs : List V} {ds : List PyData}, DpAll K H vs ds → DpAll K H' vs ds
  | _, _, .nil => .nil
  | _, _, .cons h r => .cons (Dp.kt k h) (DpAll.kt k r)
end
def callD (c : Int × Int × Bool) : PyData := .tuple [.int c.1, .int c.2.1, .bool c.2.2]
theorem dpAll_calls {K : PySem.W.Frag} {H : Hp} : ∀ {cs : List Addr} {calls : List (Int × Int × Bool)}, CL H cs calls → DpAll K H (cs.map V.ref) (calls.map callD)
  | [], [], _ => .nil
  | [], _ :: _, h => absurd h.len (by simp)
  | _ :: _, [], h => absurd h.len (by simp)
  | t :: cs, c :: calls, h => .cons (.tup (SqT.of (h.at' 0 t c rfl rfl)) (.cons (.int _) (.cons (.int _) (.cons (.bl _) .nil)))) (dpAll_calls ⟨by have := h.len; simpa using this, fun p t c hp hc => h.at' (p + 1) t c hp hc⟩)
theorem dp_calls {K : PySem.W.Frag} {H : Hp} {a : Addr} {cs : List Addr} {calls : List (Int × Int × Bool)} (ha : H a = some (.lst (cs.map V.ref))) (h : CL H cs calls) : Dp K H (.ref a) (.list (calls.map callD)) := .lst (SqL.of ha) (dpAll_calls h)
theorem dpAll_rows {K : PySem.W.Frag} {H : Hp} : ∀ {vs : List V} {os : List (List Int)}, OL H vs os → DpAll K H vs (os.map fun l => .list (l.map PyData.int))
  | [], [], _ => .nil
  | [], _ :: _, h => absurd h.len (by simp)
  | _ :: _, [], h => absurd h.len (by simp)
  | v :: vs, l :: os, h => by
    obtain ⟨r, e, q⟩ := h.at' 0 v (some l) rfl rfl
    subst e
    exact .cons (dp_ints (SqL.of q)) (dpAll_rows ⟨by have := h.len; simpa using this, fun p v row hp hc => h.at' (p + 1) v row hp hc⟩)
theorem dp_rows {K : PySem.W.Frag} {H : Hp} {a : Addr} {vs : List V} {os : List (List Int)} (ha : H a = some (.lst vs)) (h : OL H vs os) : Dp K H (.ref a) (.list (os.map fun l => .list (l.map PyData.int))) := .lst (SqL.of ha) (dpAll_rows h)
theorem Ph.but {C : Addr} {H H' : Hp} {x y : Addr} {os os' : List (List Int)} {rows rows' : Rws} {t t' : Int} (h : Ph C H y os rows t) (hx : Ph C H x os' rows' t') (b : But x H H') (n : y ≠ x) : Ph C H' y os rows t := by
  obtain ⟨dx, o, rr, xs, ys, p⟩ := h
  obtain ⟨_, _, _, _, _, q⟩ := hx
  have kl := KL.but q.hx b
  exact ⟨dx, o, rr, xs, ys, b _ _ n p.hx, kl _ _ p.ho, p.hO.kl kl, kl _ _ p.hr, p.hR.kl kl⟩
theorem Ph.kt {K : PySem.W.Frag} {C : Addr} {H H' : Hp} {x : Addr} {os : List (List Int)} {rows : Rws} {t : Int} (h : Ph C H x os rows t) (b : But x H H') : KT K H H' := by
  obtain ⟨_, _, _, _, _, q⟩ := h
  exact KT.but q.hx b
def os4 : List (List Int) := [[1, 2], [3], [], []]
def r40 : Rws := [some [1, 2], none, none, none]
theorem f4 : firstM os4 = r40 := by decide
end Toy

set_option Elab.async false
set_option linter.all false
set_option maxRecDepth 100000
set_option maxHeartbeats 4000000
namespace Toy
open PySem L2
abbrev Call := Int × Int × Bool
structure Enc {α : Type} [DecidableEq α] (f : α → PyData) (n : Nat) : Prop where
  eq : ∀ x y, PyData.eqv (f x) (f y) = decide (x = y)
  can : ∀ x, PyData.canLay0 (f x) = true
  dep : ∀ x, PyData.depth (f x) ≤ n
theorem Enc.shaped {α : Type} [DecidableEq α] {f : α → PyData} {n : Nat} (h : Enc f n) (hn : n ≤ 64) (x : α) : SeqAt.shaped (f x) = true := by
  unfold SeqAt.shaped
  rw [h.can x, Bool.true_and]
  exact decide_eq_true (Nat.le_trans (h.dep x) hn)
theorem Enc.int : Enc PyData.int 0 := ⟨fun x y => by simp only [PyData.eqv]; exact Bool.eq_iff_iff.mpr (by simp), fun x => by simp only [PyData.canLay0], fun x => by simp only [PyData.depth]; exact Nat.le_refl _⟩
theorem enc_all {α : Type} [DecidableEq α] {f : α → PyData} (h : ∀ x y, PyData.eqv (f x) (f y) = decide (x = y)) : ∀ xs ys : List α, PyData.eqvAll (xs.map f) (ys.map f) = decide (xs = ys)
  | [], [] => by simp [PyData.eqvAll]
  | [], y :: ys => by simp [PyData.eqvAll]
  | x :: xs, [] => by simp [PyData.eqvAll]
  | x :: xs, y :: ys => by
    rw [List.map_cons, List.map_cons]
    simp only [PyData.eqvAll, h, enc_all h xs ys]
    exact Bool.eq_iff_iff.mpr (by simp)
theorem can_all {α : Type} {f : α → PyData} (h : ∀ x, PyData.canLay0 (f x) = true) : ∀ xs : List α, PyData.canLayAll0 (xs.map f) = true
  | [] => by simp [PyData.canLayAll0]
  | x :: xs => by
    rw [List.map_cons]
    simp only [PyData.canLayAll0, h, can_all h xs, Bool.and_self]
theorem dep_all {α : Type} {f : α → PyData} {n : Nat} (h : ∀ x, PyData.depth (f x) ≤ n) : ∀ xs : List α, PyData.depthAll (xs.map f) ≤ n
  | [] => by simp [PyData.depthAll]
  | x :: xs => by
    rw [List.map_cons]
    simp only [PyData.depthAll]
    exact Nat.max_le.mpr ⟨h x, dep_all h xs⟩
theorem Enc.list {α : Type} [DecidableEq α] {f : α → PyData} {n : Nat} (h : Enc f n) : Enc (fun xs : List α => PyData.list (xs.map f)) (n + 1) :=
  ⟨fun x y => by simp only [PyData.eqv]; exact enc_all h.eq x y, fun x => by simp only [PyData.canLay0]; exact can_all h.can x, fun x => by simp only [PyData.depth]; exact Nat.succ_le_succ (dep_all h.dep x)⟩
theorem Enc.call : Enc callD 1 := by
  refine ⟨fun x y => ?_, fun x => by simp [callD, PyData.canLay0, PyData.canLayAll0], fun x => by simp [callD, PyData.depth, PyData.depthAll]⟩
  obtain ⟨a, b, c⟩ := x
  obtain ⟨a', b', c'⟩ := y
  simp only [callD, PyData.eqv, PyData.eqvAll]
  exact Bool.eq_iff_iff.mpr (by simp)
abbrev rowsD (os : List (List Int)) : PyData := .list (os.map fun l => .list (l.map PyData.int))
abbrev roundsD (css : List (List Call)) : PyData := .list (css.map fun cs => .list (cs.map callD))
theorem Enc.ints : Enc (fun l : List Int => PyData.list (l.map PyData.int)) 1 := Enc.int.list
theorem Enc.rows : Enc rowsD 2 := Enc.ints.list
theorem Enc.calls : Enc (fun cs : List Call => PyData.list (cs.map callD)) 2 := Enc.call.list
theorem Enc.rounds : Enc roundsD 3 := Enc.calls.list
theorem WC.congr {os : List (List Int)} {rows : Rws} {C C' : Int → Prop} (h : ∀ y, C y ↔ C' y) (w : WC os rows C) : WC os rows C' := by
  have e : C = C' := funext fun y => propext (h y)
  rw [← e]
  exact w
structure Wk (os : List (List Int)) (as : List Int) (rows : Rws) (Cl : List Int) : Prop where
  len : rows.length = os.length
  wc : WC os rows (fun y => y = 0 ∨ y ∈ Cl)
  nd : Cl.Nodup
  rng : ∀ x ∈ Cl, 0 < x ∧ x < os.length
  cov : ∀ (q : Nat) (r : List Int), os[q]? = some r → ((q : Int) = 0 ∨ (q : Int) ∈ Cl) → ∀ y ∈ r, y ∈ Cl ∨ ∃ (p : Nat) (l : List Int), rows[p]? = some (some l) ∧ y ∈ l
  na : ∀ (p : Nat) (l : List Int), rows[p]? = some (some l) → (p : Int) ∉ as
theorem Wk.inv {os : List (List Int)} {as Cl : List Int} {rows : Rws} (w : Wk os as rows Cl) : WInv os rows := ⟨w.len, _, w.wc⟩
theorem first_only {os : List (List Int)} {p : Nat} {l : List Int} (hl : (firstM os)[p]? = some (some l)) : p = 0 ∧ l = ch os 0 := by
  cases p with
  | zero =>
    have : some (ch os 0) = some l := by simpa [firstM] using hl
    cases this
    exact ⟨rfl, rfl⟩
  | succ p =>
    have : (List.replicate (os.length - 1) (none : Option (List Int)))[p]? = some (some l) := by simpa [firstM] using hl
    have := List.eq_of_mem_replicate (List.mem_of_getElem? this)
    cases this
theorem Wk.first {os : List (List Int)} {as : List Int} (g : GoodO os) (hA : ∀ a ∈ as, 0 < a) : Wk os as (firstM os) [] := by
  have n1 := g.n1
  have h0 := ch_get (os := os) (x := 0) (by omega) (by omega)
  obtain ⟨c1, c2⟩ := g.row h0
  refine ⟨by simp [firstM]; omega, ⟨.inl rfl, fun p l hl => ?_, fun p l hl => ?_, fun p q l m hpq hl hm => ?_, fun y hy => ?_⟩, List.nodup_nil, by simp, fun q r hq hC y hy => ?_, fun p l hl => ?_⟩
  · rw [(first_only hl).1]
    exact .inl rfl
  · obtain ⟨rfl, rfl⟩ := first_only hl
    refine ⟨c1, fun x hx => ?_⟩
    have := c2 x hx
    refine ⟨this.1, this.2, fun z => ?_, 0, ch os 0, h0, hx, .inl rfl⟩
    rcases z with z | z
    · omega
    · cases z
  · exact absurd ((first_only hl).1.trans (first_only hm).1.symm) hpq
  · rcases hy with hy | hy
    · exact .inl hy
    · cases hy
  · rcases hC with e | e
    · have e : q = 0 := by omega
      subst e
      have e : r = ch os 0 := by
        rw [show (0 : Int).toNat = 0 from rfl, hq] at h0
        exact Option.some.inj h0
      subst e
      exact .inr ⟨0, ch os 0, rfl, hy⟩
    · cases e
  · rw [(first_only hl).1]
    intro z
    have := hA _ z
    omega
theorem Wk.call {os : List (List Int)} {as Cl : List Int} {rows : Rws} (g : GoodO os) (w : Wk os as rows Cl) {c : Nat} {x : Int} {rest : List Int} (hc : rows[c]? = some (some (x :: rest))) :
    x ∉ Cl ∧ (∀ l, rows[x.toNat]? ≠ some (some l)) ∧ (x ∈ as → Wk os as (rows.set c (some (ch os x ++ rest))) (Cl ++ [x])) ∧ (x ∉ as → Wk os as ((rows.set c (some rest)).set x.toNat (some (ch os x))) (Cl ++ [x])) := by
  obtain ⟨wA, wB, _, noX⟩ := w.wc.call g hc
  obtain ⟨x0, x1, xC, _⟩ := (w.wc.row c _ hc).2 x List.mem_cons_self
  have hch := ch_get (os := os) (x := x) (by omega) x1
  have hcl := (List.getElem?_eq_some_iff.mp hc).1
  have ex : ((x.toNat : Nat) : Int) = x := by omega
  have hxl : x.toNat < rows.length := by rw [w.len]; omega
  have ncx : c ≠ x.toNat := fun z => noX _ (by rw [← z]; exact hc)
  have cong : ∀ y, ((y = 0 ∨ y ∈ Cl) ∨ y = x) ↔ (y = 0 ∨ y ∈ Cl ++ [x]) := fun y => by
    rw [List.mem_append, List.mem_singleton, or_assoc]
  have nd : (Cl ++ [x]).Nodup := List.nodup_append.mpr ⟨w.nd, by simp, fun a ha b hb z => xC (.inr (by rw [← List.mem_singleton.mp hb, ← z]; exact ha))⟩
  have rng : ∀ y ∈ Cl ++ [x], 0 < y ∧ y < os.length := fun y hy => by
    rcases List.mem_append.mp hy with h | h
    · exact w.rng y h
    · rw [List.mem_singleton.mp h]
      exact ⟨x0, x1⟩
  refine ⟨fun z => xC (.inr z), noX, fun ha => ⟨by rw [List.length_set, w.len], wA.congr cong, nd, rng, fun q r hq hC y hy => ?_, fun p l hl => ?_⟩, fun ha => ⟨by rw [List.length_set, List.length_set, w.len], wB.congr cong, nd, rng, fun q r hq hC y hy => ?_, fun p l hl => ?_⟩⟩
  · by_cases e : (q : Int) = x
    · have e : q = x.toNat := by omega
      subst e
      rw [hch] at hq
      cases hq
      exact .inr ⟨c, _, List.getElem?_set_self hcl, List.mem_append_left _ hy⟩
    · have hC' : (q : Int) = 0 ∨ (q : Int) ∈ Cl := by
        rcases hC with h | h
        · exact .inl h
        · rcases List.mem_append.mp h with h | h
          · exact .inr h
          · exact absurd (List.mem_singleton.mp h) e
      rcases w.cov q r hq hC' y hy with h | ⟨p, l, hp, hl⟩
      · exact .inl (List.mem_append_left _ h)
      · by_cases ep : p = c
        · subst ep
          rw [hc] at hp
          cases hp
          rcases List.mem_cons.mp hl with h | h
          · exact .inl (List.mem_append_right _ (List.mem_singleton.mpr h))
          · exact .inr ⟨p, _, List.getElem?_set_self hcl, List.mem_append_right _ h⟩
        · exact .inr ⟨p, l, by rw [List.getElem?_set_ne (Ne.symm ep)]; exact hp, hl⟩
  · rcases set_get hl with ⟨rfl, _⟩ | ⟨_, hl⟩
    · exact w.na p _ hc
    · exact w.na p l hl
  · by_cases e : (q : Int) = x
    · have e : q = x.toNat := by omega
      subst e
      rw [hch] at hq
      cases hq
      exact .inr ⟨x.toNat, _, List.getElem?_set_self (by rw [List.length_set]; exact hxl), hy⟩
    · have hC' : (q : Int) = 0 ∨ (q : Int) ∈ Cl := by
        rcases hC with h | h
        · exact .inl h
        · rcases List.mem_append.mp h with h | h
          · exact .inr h
          · exact absurd (List.mem_singleton.mp h) e
      rcases w.cov q r hq hC' y hy with h | ⟨p, l, hp, hl⟩
      · exact .inl (List.mem_append_left _ h)
      · have npx : p ≠ x.toNat := fun z => noX _ (by rw [← z]; exact hp)
        by_cases ep : p = c
        · subst ep
          rw [hc] at hp
          cases hp
          rcases List.mem_cons.mp hl with h | h
          · exact .inl (List.mem_append_right _ (List.mem_singleton.mpr h))
          · exact .inr ⟨p, _, by rw [List.getElem?_set_ne (Ne.symm ncx), List.getElem?_set_self hcl], h⟩
        · exact .inr ⟨p, l, by rw [List.getElem?_set_ne (Ne.symm npx), List.getElem?_set_ne (Ne.symm ep)]; exact hp, hl⟩
  · rcases set_get hl with ⟨rfl, _⟩ | ⟨_, hl⟩
    · rw [ex]
      exact ha
    · rcases set_get hl with ⟨rfl, _⟩ | ⟨_, hl⟩
      · exact w.na p _ hc
      · exact w.na p l hl
theorem fold_wk {os : List (List Int)} {as : List Int} {rows0 : Rws} (g : GoodO os) : ∀ (cs : List Int) (st : List Call × Rws) (Cl : List Int), Wk os as st.2 Cl → cs.Nodup → (∀ c ∈ cs, ∃ (p : Nat) (x : Int) (rest : List Int), c = p ∧ rows0[p]? = some (some (x :: rest)) ∧ st.2[p]? = some (some (x :: rest))) →
    ∃ new : List Call, (cs.foldl (stepP os rows0 as) st).1 = st.1 ++ new ∧ new.map (·.1) = cs ∧ (∀ q ∈ new, q.2.2 = decide (q.2.1 ∉ as)) ∧ Wk os as (cs.foldl (stepP os rows0 as) st).2 (Cl ++ new.map (·.2.1))
  | [], st, Cl, w, _, _ => ⟨[], by simp, rfl, by simp, by simpa using w⟩
  | c :: r, st, Cl, w, hn, hc => by
    obtain ⟨hcr, hnr⟩ := List.nodup_cons.mp hn
    obtain ⟨p, x, rest, rfl, h0, h2⟩ := hc _ List.mem_cons_self
    have hna := w.na p _ h2
    obtain ⟨xC, noX, wA, wB⟩ := w.call g h2
    have hgd : rows0.getD ((p : Int)).toNat none = some (x :: rest) := by
      rw [Int.toNat_natCast, List.getD_eq_getElem?_getD, h0]
      rfl
    rw [List.foldl_cons]
    by_cases ha : x ∈ as
    · have e : stepP os rows0 as st p = (st.1 ++ [((p : Int), x, false)], st.2.set p (some (ch os x ++ rest))) := by
        unfold stepP
        rw [if_neg hna, hgd]
        simp only [if_pos ha, Int.toNat_natCast]
      rw [e]
      obtain ⟨new, e1, e2, e3, e4⟩ := fold_wk g r (st.1 ++ [((p : Int), x, false)], st.2.set p (some (ch os x ++ rest))) (Cl ++ [x]) (wA ha) hnr fun c hcm => by
        obtain ⟨p', x', rest', rfl, h0', h2'⟩ := hc c (List.mem_cons_of_mem _ hcm)
        refine ⟨p', x', rest', rfl, h0', ?_⟩
        show (st.2.set p _)[p']? = _
        rw [List.getElem?_set_ne (fun z => hcr (by rw [z]; exact hcm))]
        exact h2'
      refine ⟨((p : Int), x, false) :: new, ?_, ?_, fun q hq => ?_, ?_⟩
      · rw [e1]
        simp
      · rw [List.map_cons, e2]
      · rcases List.mem_cons.mp hq with h | h
        · rw [h]
          exact (decide_eq_false (fun z => z ha)).symm
        · exact e3 q h
      · simpa using e4
    · have e : stepP os rows0 as st p = (st.1 ++ [((p : Int), x, true)], (st.2.set p (some rest)).set x.toNat (some (ch os x))) := by
        unfold stepP
        rw [if_neg hna, hgd]
        simp only [if_neg ha, Int.toNat_natCast]
      rw [e]
      obtain ⟨new, e1, e2, e3, e4⟩ := fold_wk g r (st.1 ++ [((p : Int), x, true)], (st.2.set p (some rest)).set x.toNat (some (ch os x))) (Cl ++ [x]) (wB ha) hnr fun c hcm => by
        obtain ⟨p', x', rest', rfl, h0', h2'⟩ := hc c (List.mem_cons_of_mem _ hcm)
        refine ⟨p', x', rest', rfl, h0', ?_⟩
        show ((st.2.set p _).set x.toNat _)[p']? = _
        rw [List.getElem?_set_ne (fun z => noX _ (by rw [z]; exact h2')), List.getElem?_set_ne (fun z => hcr (by rw [z]; exact hcm))]
        exact h2'
      refine ⟨((p : Int), x, true) :: new, ?_, ?_, fun q hq => ?_, ?_⟩
      · rw [e1]
        simp
      · rw [List.map_cons, e2]
      · rcases List.mem_cons.mp hq with h | h
        · rw [h]
          exact (decide_eq_true ha).symm
        · exact e3 q h
      · simpa using e4
theorem hasC_cons {row : Option (List Int)} (h : hasC row = true) : ∃ y rest, row = some (y :: rest) := by
  cases row with
  | none => cases h
  | some l =>
    cases l with
    | nil => cases h
    | cons y l => exact ⟨y, l, rfl⟩
theorem next_wk {os : List (List Int)} {as Cl : List Int} {rows : Rws} (g : GoodO os) (w : Wk os as rows Cl) :
    (nextM os rows as).1.map (·.1) = idxs hasC rows ∧ (∀ q ∈ (nextM os rows as).1, q.2.2 = decide (q.2.1 ∉ as)) ∧ Wk os as (nextM os rows as).2 (Cl ++ (nextM os rows as).1.map (·.2.1)) := by
  obtain ⟨new, e1, e2, e3, e4⟩ := fold_wk (rows0 := rows) g (idxs hasC rows) ([], rows) Cl w (asc_nodup (idxs_asc _ _)) fun c hc => by
    obtain ⟨p, row, rfl, h1, h2⟩ := idxs_mem.mp hc
    obtain ⟨y, rest, rfl⟩ := hasC_cons h2
    exact ⟨p, y, rest, rfl, h1, h1⟩
  rw [List.nil_append] at e1
  have e1 : (nextM os rows as).1 = new := e1
  rw [e1]
  exact ⟨e2, e3, e4⟩
theorem Wk.most {os : List (List Int)} {as Cl : List Int} {rows : Rws} (g : GoodO os) (w : Wk os as rows Cl) : Cl.length + 1 ≤ os.length := by
  have n1 := g.n1
  have := nodup_len (l := 0 :: Cl) (n := os.length) (List.nodup_cons.mpr ⟨fun h => by have := w.rng 0 h; omega, w.nd⟩) fun x hx => by
    rcases List.mem_cons.mp hx with h | h
    · omega
    · have := w.rng x h
      omega
  simpa using this
def walkM (os : List (List Int)) (as : List Int) : Nat → Rws → List (List Call)
  | 0, _ => []
  | f + 1, rows => if (idxs hasC rows).isEmpty then [] else (nextM os rows as).1 :: walkM os as f (nextM os rows as).2
def wlk (os : List (List Int)) (as : List Int) : List (List Call) := walkM os as 64 (firstM os)
def calledOf (css : List (List Call)) : List Int := css.flatten.map (·.2.1)
structure WAt (os : List (List Int)) (as : List Int) (pre : List (List Call)) (rows : Rws) : Prop where
  wk : Wk os as rows (calledOf pre)
  more : pre.length ≤ (calledOf pre).length
  ex : ∃ f, os.length ≤ f + (calledOf pre).length ∧ pre ++ walkM os as f rows = wlk os as
theorem WAt.first {os : List (List Int)} {as : List Int} (g : GoodO os) (hA : ∀ a ∈ as, 0 < a) : WAt os as [] (firstM os) :=
  ⟨Wk.first g hA, Nat.le_refl _, 64, by have := g.n40; omega, rfl⟩
theorem calledOf_snoc (pre : List (List Call)) (cs : List Call) : calledOf (pre ++ [cs]) = calledOf pre ++ cs.map (·.2.1) := by
  unfold calledOf
  rw [List.flatten_append, List.map_append]
  simp
theorem WAt.last {os : List (List Int)} {as : List Int} {pre : List (List Call)} {rows : Rws} (h : WAt os as pre rows) (he : idxs hasC rows = []) : pre = wlk os as := by
  obtain ⟨f, _, e⟩ := h.ex
  have : walkM os as f rows = [] := by
    cases f with
    | zero => rfl
    | succ f =>
      unfold walkM
      rw [he]
      rfl
  rw [this, List.append_nil] at e
  exact e
theorem WAt.step {os : List (List Int)} {as : List Int} {pre : List (List Call)} {rows : Rws} (g : GoodO os) (h : WAt os as pre rows) (he : idxs hasC rows ≠ []) : WAt os as (pre ++ [(nextM os rows as).1]) (nextM os rows as).2 ∧ (wlk os as)[pre.length]? = some (nextM os rows as).1 ∧ (calledOf pre).length < (calledOf (pre ++ [(nextM os rows as).1])).length := by
  obtain ⟨f, hf, e⟩ := h.ex
  obtain ⟨e1, e2, w⟩ := next_wk g h.wk
  have hm := h.wk.most g
  have hne : 1 ≤ (nextM os rows as).1.length := by
    have : (nextM os rows as).1.length = (idxs hasC rows).length := by rw [← e1, List.length_map]
    rw [this]
    exact List.length_pos_iff.mpr he
  have hlen : (calledOf (pre ++ [(nextM os rows as).1])).length = (calledOf pre).length + (nextM os rows as).1.length := by
    rw [calledOf_snoc, List.length_append, List.length_map]
  have hmore := h.more
  cases f with
  | zero => omega
  | succ f =>
    have ew : walkM os as (f + 1) rows = (nextM os rows as).1 :: walkM os as f (nextM os rows as).2 := by
      rw [walkM, if_neg (by rw [List.isEmpty_iff]; exact he)]
    rw [ew] at e
    refine ⟨⟨by rw [calledOf_snoc]; exact w, ?_, f, by omega, by rw [← e]; simp⟩, ?_, by omega⟩
    · rw [hlen, List.length_append]
      show pre.length + 1 ≤ _
      omega
    · rw [← e, List.getElem?_append_right (Nat.le_refl _), Nat.sub_self]
      rfl
theorem WAt.len {os : List (List Int)} {as : List Int} {pre : List (List Call)} {rows : Rws} (g : GoodO os) (h : WAt os as pre rows) : pre.length + 1 ≤ os.length := by
  have := h.wk.most g
  have := h.more
  omega
theorem WAt.at {os : List (List Int)} {as : List Int} (g : GoodO os) (hA : ∀ a ∈ as, 0 < a) : ∀ i, i ≤ (wlk os as).length → ∃ rows, WAt os as ((wlk os as).take i) rows ∧ (i < (wlk os as).length → idxs hasC rows ≠ [] ∧ (wlk os as)[i]? = some (nextM os rows as).1) ∧ (i = (wlk os as).length → idxs hasC rows = []) := by
  intro i
  induction i with
  | zero =>
    intro hi
    refine ⟨firstM os, WAt.first g hA, fun h => ?_, fun h => ?_⟩
    · have hne : idxs hasC (firstM os) ≠ [] := fun z => by
        have := (WAt.first g hA).last z
        rw [← this] at h
        cases h
      exact ⟨hne, ((WAt.first g hA).step g hne).2.1⟩
    · cases hq : idxs hasC (firstM os) with
      | nil => rfl
      | cons y ys =>
        have := ((WAt.first g hA).step g (by rw [hq]; simp)).2.1
        have := (List.getElem?_eq_some_iff.mp this).1
        have h : (wlk os as).length = 0 := h.symm
        rw [h] at this
        cases this
  | succ i ih =>
    intro hi
    obtain ⟨rows, w, h1, _⟩ := ih (by omega)
    obtain ⟨hne, hat⟩ := h1 (by omega)
    have w' := (w.step g hne).1
    have et : (wlk os as).take (i + 1) = (wlk os as).take i ++ [(nextM os rows as).1] := take_snoc hat
    rw [← et] at w'
    have hlt : ((wlk os as).take (i + 1)).length = i + 1 := by
      rw [List.length_take]
      omega
    refine ⟨_, w', fun h => ?_, fun h => ?_⟩
    · have hne : idxs hasC (nextM os rows as).2 ≠ [] := fun z => by
        have := w'.last z
        have := congrArg List.length this
        omega
      have := (w'.step g hne).2.1
      rw [hlt] at this
      exact ⟨hne, this⟩
    · cases hq : idxs hasC (nextM os rows as).2 with
      | nil => rfl
      | cons y ys =>
        have := (w'.step g (by rw [hq]; simp)).2.1
        have := (List.getElem?_eq_some_iff.mp this).1
        omega
theorem wlk_all {os : List (List Int)} {as : List Int} (g : GoodO os) (hA : ∀ a ∈ as, 0 < a) : (calledOf (wlk os as)).Nodup ∧ ∀ x, x ∈ calledOf (wlk os as) ↔ 0 < x ∧ x < os.length := by
  obtain ⟨rows, w, _, he⟩ := WAt.at g hA (wlk os as).length (Nat.le_refl _)
  rw [List.take_length] at w
  have he := he rfl
  refine ⟨w.wk.nd, fun x => ⟨w.wk.rng x, fun hx => ?_⟩⟩
  have := g.reach (fun y => y = 0 ∨ y ∈ calledOf (wlk os as)) (.inl rfl) (fun p row hp hS y hy => by
    rcases w.wk.cov p row hp hS y hy with h | ⟨q, l, hq, hl⟩
    · exact .inr h
    · have : (q : Int) ∈ idxs hasC rows := idxs_mem.mpr ⟨q, _, rfl, hq, by cases l with | nil => cases hl | cons _ _ => rfl⟩
      rw [he] at this
      cases this) x (by omega) hx.2
  rcases this with h | h
  · omega
  · exact h
end Toy

set_option Elab.async false
set_option linter.all false
set_option maxRecDepth 100000
set_option maxHeartbeats 4000000
namespace Toy
open PySem L2
structure RS (H0 H : Hp) (ts : List Addr) (css : List (List Call)) : Prop where
  len : ts.length = css.length
  at' : ∀ (i : Nat) (t : Addr) (cs : List Call), ts[i]? = some t → css[i]? = some cs → H0 t = none ∧ ∃ us : List Addr, H t = some (.lst (us.map V.ref)) ∧ CL H us cs
theorem RS.mono {H0 H H' : Hp} {ts : List Addr} {css : List (List Call)} (h : RS H0 H ts css) (s : Same H H') : RS H0 H' ts css :=
  ⟨h.len, fun i t cs a b => let ⟨e, us, p, q⟩ := h.at' i t cs a b; ⟨e, us, s _ _ p, q.mono s⟩⟩
theorem RS.nil {H0 H : Hp} : RS H0 H [] [] := ⟨rfl, fun i t cs h _ => by simp at h⟩
theorem RS.snoc {H0 H : Hp} {ts : List Addr} {css : List (List Call)} {t : Addr} {cs : List Call} {us : List Addr} (h : RS H0 H ts css) (h0 : H0 t = none) (ht : H t = some (.lst (us.map V.ref))) (hC : CL H us cs) : RS H0 H (ts ++ [t]) (css ++ [cs]) := by
  refine ⟨by rw [List.length_append, List.length_append, h.len]; rfl, fun i x r hp hr => ?_⟩
  by_cases hpi : i < ts.length
  · rw [List.getElem?_append_left hpi] at hp
    rw [List.getElem?_append_left (by rw [← h.len]; exact hpi)] at hr
    exact h.at' i x r hp hr
  · rw [List.getElem?_append_right (by omega)] at hp
    rw [List.getElem?_append_right (by rw [← h.len]; omega), ← h.len] at hr
    have e0 : i - ts.length = 0 := by
      have := (List.getElem?_eq_some_iff.mp hp).1
      simp at this
      omega
    rw [e0] at hp hr
    have e1 : t = x := by simpa using hp
    have e2 : cs = r := by simpa using hr
    subst e1 e2
    exact ⟨h0, us, ht, hC⟩
theorem CL.updL {H : Hp} {cs : List Addr} {calls : List Call} {a : Addr} {xs : List V} {o : HO} (h : CL H cs calls) (ha : H a = some (.lst xs)) : CL (L2.upd H a o) cs calls :=
  ⟨h.len, fun p t c hp hc => by rw [upd_ne (fun z => by have := h.at' p t c hp hc; rw [z, ha] at this; cases this)]; exact h.at' p t c hp hc⟩
theorem RS.updL {H0 H : Hp} {ts : List Addr} {css : List (List Call)} {a : Addr} {xs : List V} {o : HO} (h : RS H0 H ts css) (ha : H a = some (.lst xs)) (n : a ∉ ts) : RS H0 (L2.upd H a o) ts css :=
  ⟨h.len, fun i t cs hp hc => by
    obtain ⟨e, us, p, q⟩ := h.at' i t cs hp hc
    exact ⟨e, us, by rw [upd_ne (fun z => n (by rw [← z]; exact List.mem_of_getElem? hp))]; exact p, q.updL ha⟩⟩
theorem RS.notin {H0 H : Hp} {ts : List Addr} {css : List (List Call)} {a : Addr} (h : RS H0 H ts css) (ha : H a = none) : a ∉ ts := fun h1 => by
  obtain ⟨p, hp⟩ := List.getElem?_of_mem h1
  have hl := (List.getElem?_eq_some_iff.mp hp).1
  obtain ⟨_, us, q, _⟩ := h.at' p a _ hp (List.getElem?_eq_getElem (by rw [← h.len]; exact hl))
  rw [ha] at q
  cases q
theorem RS.dpAll {K : PySem.W.Frag} {H0 H : Hp} : ∀ {ts : List Addr} {css : List (List Call)}, RS H0 H ts css → DpAll K H (ts.map V.ref) (css.map fun cs => .list (cs.map callD))
  | [], [], _ => .nil
  | [], _ :: _, h => absurd h.len (by simp)
  | _ :: _, [], h => absurd h.len (by simp)
  | t :: ts, cs :: css, h => by
    obtain ⟨_, us, p, q⟩ := h.at' 0 t cs rfl rfl
    exact .cons (dp_calls p q) (RS.dpAll ⟨by have := h.len; simpa using this, fun i t c hp hc => h.at' (i + 1) t c hp hc⟩)
theorem RS.dp {K : PySem.W.Frag} {H0 H : Hp} {a : Addr} {ts : List Addr} {css : List (List Call)} (h : RS H0 H ts css) (ha : H a = some (.lst (ts.map V.ref))) : Dp K H (.ref a) (roundsD css) := .lst (SqL.of ha) h.dpAll
section
variable {P : Program} {w : World} {K : PySem.W.Frag} {mg : Str → Option Value} {base : Heap} {A : Adr}
def spAll : Sp := fun vs H Q _ => ∃ (o ab : Addr) (xs : List V) (os : List (List Int)) (as : List Int), vs = [.ref o, .ref ab] ∧ H o = some (.lst xs) ∧ OL H xs os ∧ GoodO os ∧ H ab = some (.lst (as.map V.int)) ∧ (∀ a ∈ as, 0 < a) ∧
  ∀ (r : Addr) (ts : List Addr) (H' : Hp), Same H H' → H r = none → H' r = some (.lst (ts.map V.ref)) → RS H H' ts (wlk os as) → r ∉ ts → Q (.ref r) H'
theorem sc_all_rounds : FnScope ["orders", "absent", "rounds", "rows", "calls"] ["orders", "absent"] (defScope s_all_rounds) := ⟨rfl, rfl, rfl, by decide +kernel, rfl, by decide +kernel, by decide +kernel⟩
theorem ok_all_rounds (T : Txt K mg A) : FnOk P w K mg base CX0 3 A.f_all_rounds A.d_all_rounds ["orders", "absent"] spAll := by
  have G_first_rows := ok_first_rows (P := P) (w := w) (base := base) T
  have G_callers := ok_callers (P := P) (w := w) (base := base) T
  have G_next_round := ok_next_round (P := P) (w := w) (base := base) T
  refine T.f_all_rounds.ok sc_all_rounds (fun vs H Q E h => ?_) (fun cdv A' outer s H vs Q E hr h => ?_)
  · obtain ⟨o, ab, xs, os, as, rfl, _⟩ := h
    rfl
  · obtain ⟨o, ab, xs, os, as, rfl, ho, hO, g, hab, hA, k⟩ := h
    have n40 := g.n40
    refine ⟨_, (pss_cons (ps_set (i := 2) sc_all_rounds.nd rfl (Or.inl rfl) (@pe_lst _ _ _ _ pa_nil))
      (pss_cons (ps_set (i := 3) sc_all_rounds.nd rfl (Or.inl rfl) (pe_call G_first_rows (hr.mono (by decide)) (by rfl) T.m_first_rows T.k_first_rows T.b_first_rows .nil pass0 (@pa_cons _ _ _ _ _ (pv 0) pa_nil (by rfl))))
      (pss_cons (ps_while PassesOwn.never (pt_truth (pe_call G_callers (hr.mono (by decide)) (by rfl) T.m_callers T.k_callers T.b_callers .nil pass0 (@pa_cons _ _ _ _ _ (pv 3) pa_nil (by rfl))) (fun _ => rfl)) (pss_cons (ps_asg (pe_call G_next_round (hr.mono (by decide)) (by rfl) T.m_next_round T.k_next_round T.b_next_round .nil pass0 (@pa_cons _ _ _ _ _ (pv 0) (@pa_cons _ _ _ _ _ (pv 3) (@pa_cons _ _ _ _ _ (pv 1) pa_nil (by rfl)) (by rfl)) (by rfl))) (pg_tupK K (n := 2) (by rfl) (pgs_cons (pg_name (i := 4) sc_all_rounds.nd rfl (Or.inl rfl)) (pgs_cons (pg_name (i := 3) sc_all_rounds.nd rfl (Or.inl rfl)) pgs_nil))))
      (pss_one (ps_expr (pe_bmK K PySem.F.plainAttrs_list PySem.F.slot_list_append PySem.F.type_list_append mt_append (pv 2) (@pa_cons _ _ _ _ _ (pv 4) pa_nil (by rfl)))))))
      (pss_one (ps_ret (pv 2)))))), ?_⟩
    refine ⟨Nat.zero_le _, fun r hr0 => ?_⟩
    have m1 : Same H (upd H r (.lst [])) := Same.new hr0
    have hr1 : (upd H r (.lst [])) r = some (.lst []) := upd_same
    generalize upd H r (.lst []) = H1 at m1 hr1
    refine ⟨_, rfl, o, xs, os, rfl, m1 _ _ ho, RL.mono hO m1, g, fun rr ys H2 s2 hrr0 hrr hR hyn => ?_⟩
    have m2 := m1.trans s2
    refine ⟨fun m σ H3 => ∃ (pre : List (List Call)) (rows : Rws) (rr : Addr) (ys : List V) (ts : List Addr) (x4 : Option V), m = os.length - (calledOf pre).length ∧ σ = [some (.ref o), some (.ref ab), some (.ref r), some (.ref rr), x4] ∧ Same H H3 ∧ H3 r = some (.lst (ts.map V.ref)) ∧ RS H H3 ts pre ∧ r ∉ ts ∧ H3 rr = some (.lst ys) ∧ RL H3 ys rows ∧ WAt os as pre rows ∧ r ≠ rr ∧ V.ref r ∉ ys,
      ⟨_, [], firstM os, rr, ys, [], none, rfl, rfl, m2, s2 _ _ hr1, RS.nil, by simp, hrr, hR, WAt.first g hA, ne_of_none hr1 hrr0, fun z => by have := hyn r z; rw [hr1] at this; cases this⟩, ?_⟩
    rintro m σ H3 ⟨pre, rows, rr, ys, ts, x4, rfl, rfl, s3, hr3, hT3, hrt, hrr3, hR3, hW, nrr, nry⟩
    have hin := hW.wk.inv.rowsIn g
    have hrl := hin.len
    have hpl := hW.len g
    refine ⟨_, rfl, rr, ys, rows, rfl, hrr3, hR3, by omega, fun cl H4 s4 hcl0 hcl => ⟨_, .inl ⟨_, SqL.of hcl, rfl⟩, ?_⟩⟩
    have s34 := s3.trans s4
    cases hq : idxs hasC rows with
    | nil =>
      refine iteF ⟨_, rfl, ?_⟩
      have e := hW.last hq
      subst e
      exact k r ts H4 s34 hr0 (s4 _ _ hr3) (hT3.mono s4) hrt
    | cons c0 cr =>
      obtain ⟨hW', _, hlt⟩ := hW.step g (by rw [hq]; simp)
      have hm := hW'.wk.most g
      refine iteT ⟨fun σ' H' => ∃ m', m' < os.length - (calledOf pre).length ∧ ∃ (pre : List (List Call)) (rows : Rws) (rr : Addr) (ys : List V) (ts : List Addr) (x4 : Option V), m' = os.length - (calledOf pre).length ∧ σ' = [some (.ref o), some (.ref ab), some (.ref r), some (.ref rr), x4] ∧ Same H H' ∧ H' r = some (.lst (ts.map V.ref)) ∧ RS H H' ts pre ∧ r ∉ ts ∧ H' rr = some (.lst ys) ∧ RL H' ys rows ∧ WAt os as pre rows ∧ r ≠ rr ∧ V.ref r ∉ ys, fun _ _ h => h, ?_⟩
      refine ⟨_, rfl, _, rfl, _, rfl, o, rr, ab, xs, ys, os, rows, as, rfl, s34 _ _ ho, RL.mono hO s34, g, s4 _ _ hrr3, hR3.mono s4, hin, s34 _ _ hab, fun t c b cs zs H5 s5 hc0 hb0 ht hc hC hb hZ ncb ncs ncz hzn => ?_⟩
      have hr4 := s4 _ _ hr3
      have hr5 := s5 _ _ hr4
      have s35 := s34.trans s5
      refine ⟨t, _, rfl, SqT.of ht, rfl, _, _, rfl, _, _, rfl, rfl, ?_⟩
      refine ⟨_, rfl, .inl ⟨rfl, _, SqL.of hr5⟩, _, rfl, r, _, _, rfl, rfl, hr5, ?_, ?_⟩
      · rw [List.length_map, hT3.len]
        exact small1000 (by omega)
      have nrc : r ≠ c := ne_of_none hr4 hc0
      have nrb : r ≠ b := ne_of_none hr4 hb0
      have nct : c ∉ ts := (hT3.mono s4).notin hc0
      have nrz : V.ref r ∉ zs := fun z => by
        have := hzn r z
        rw [hr4] at this
        cases this
      have hTn := ((hT3.mono (s4.trans s5)).snoc (s34.free hc0) hc hC)
      have nrt : r ∉ ts ++ [c] := fun z => by
        rcases List.mem_append.mp z with z | z
        · exact hrt z
        · exact nrc (List.mem_singleton.mp z)
      refine ⟨_, ?_, pre ++ [(nextM os rows as).1], _, b, zs, ts ++ [c], _, rfl, rfl, s35.upd hr0, ?_, hTn.updL hr5 nrt, nrt, ?_, hZ.upd nrz, hW', nrb, nrz⟩
      · omega
      · rw [upd_same, List.map_append]
        rfl
      · rw [upd_ne (Ne.symm nrb)]
        exact hb
end
end Toy

set_option Elab.async false
set_option linter.all false
set_option maxRecDepth 100000
set_option maxHeartbeats 4000000
namespace Toy
open PySem L2
theorem DR.first {H : Hp} {os : List (List Int)} {r : Addr} (n1 : 1 ≤ os.length) (hr : H r = some (.lst ((ch os 0).map V.int))) : DR H (putK [] (.inl 0) (.ref r)) (firstM os) := by
  have d0 : DR H [] (List.replicate os.length none) := ⟨List.nodup_nil, fun k hk => by simp at hk, fun p _ => rfl, fun p l hl => by
    have := List.eq_of_mem_replicate (List.mem_of_getElem? hl)
    cases this⟩
  have := d0.put (p := 0) (l := ch os 0) (by rw [List.length_replicate]; omega) hr
  have e : (List.replicate os.length (none : Option (List Int))).set 0 (some (ch os 0)) = firstM os := by
    unfold firstM
    cases h : os.length with
    | zero => omega
    | succ m => rfl
  rw [e] at this
  exact this
theorem RS.keep {H0 H H' : Hp} {ts : List Addr} {css : List (List Call)} (h : RS H0 H ts css) (k1 : ∀ t ∈ ts, ∀ xs, H t = some (.lst xs) → H' t = some (.lst xs)) (k2 : ∀ b xs, H b = some (.tup xs) → H' b = some (.tup xs)) : RS H0 H' ts css :=
  ⟨h.len, fun i t cs a b => let ⟨e, us, p, q⟩ := h.at' i t cs a b; ⟨e, us, k1 t (List.mem_of_getElem? a) _ p, q.but k2⟩⟩
section
variable {P : Program} {w : World} {K : PySem.W.Frag} {mg : Str → Option Value} {base : Heap} {A : Adr}
end
end Toy

set_option Elab.async false
set_option linter.all false
set_option maxRecDepth 100000
set_option maxHeartbeats 4000000
namespace Toy
open PySem L2
section
variable {P : Program} {w : World} {K : PySem.W.Frag} {mg : Str → Option Value} {base : Heap} {A : Adr}
end
end Toy

set_option Elab.async false
set_option linter.all false
set_option maxRecDepth 100000
set_option maxHeartbeats 4000000
namespace Toy
open PySem L2
def mx (i j : Int) : Int := if j > i then j else i
theorem mx_l (i j : Int) : i ≤ mx i j := by unfold mx; split <;> omega
theorem mx_r (i j : Int) : j ≤ mx i j := by unfold mx; split <;> omega
theorem mx_or (i j : Int) : mx i j = i ∨ mx i j = j := by unfold mx; split <;> simp
theorem mx_le {i j k : Int} (h1 : i ≤ k) (h2 : j ≤ k) : mx i j ≤ k := by unfold mx; split <;> omega
def gt (f : List Int) (x : Int) : Int := f.getD x.toNat 0
def ansB (t : Int) (f : List Int) (q : Call) : Int := if q.2.2 = true then mx t (gt f q.2.1) + 1 else t
def stepB (t : Int) (f : List Int) (q : Call) : List Int := f.set q.1.toNat (mx (gt f q.1) (ansB t f q))
def bkM (n : Nat) : Int → List (List Call) → List Int
  | _, [] => List.replicate n 0
  | t, cs :: css => cs.foldl (stepB t) (bkM n (t + 1) css)
def InR (n : Nat) (q : Call) : Prop := 0 ≤ q.1 ∧ q.1 < n ∧ 0 ≤ q.2.1 ∧ q.2.1 < n
def Cau : List (List Call) → Prop
  | [] => True
  | cs :: css => (∀ q ∈ (cs :: css).flatten, q.2.2 = true → ∀ q' ∈ cs, q'.1 ≠ q.2.1) ∧ Cau css
theorem gt_set {f : List Int} {x y v : Int} (hx : 0 ≤ x) (hy : 0 ≤ y) (hl : x < f.length) : gt (f.set x.toNat v) y = if y = x then v else gt f y := by
  unfold gt
  rw [List.getD_eq_getElem?_getD, List.getD_eq_getElem?_getD]
  by_cases e : y = x
  · subst e
    rw [if_pos rfl, List.getElem?_set_self (by omega)]
    rfl
  · rw [if_neg e, List.getElem?_set_ne (by omega)]
theorem stepB_len {t : Int} {f : List Int} {q : Call} : (stepB t f q).length = f.length := List.length_set
theorem foldB_len {t : Int} : ∀ (cs : List Call) (f : List Int), (cs.foldl (stepB t) f).length = f.length
  | [], _ => rfl
  | q :: cs, f => by rw [List.foldl_cons, foldB_len cs, stepB_len]
theorem bkM_len {n : Nat} : ∀ (css : List (List Call)) (t : Int), (bkM n t css).length = n
  | [], _ => List.length_replicate
  | cs :: css, t => by
    show (cs.foldl (stepB t) (bkM n (t + 1) css)).length = n
    rw [foldB_len, bkM_len css]
theorem ansB_congr {t : Int} {f g : List Int} {q : Call} (h : q.2.2 = true → gt f q.2.1 = gt g q.2.1) : ansB t f q = ansB t g q := by
  unfold ansB
  by_cases e : q.2.2 = true
  · rw [if_pos e, if_pos e, h e]
  · rw [if_neg e, if_neg e]
theorem foldB {n : Nat} {t : Int} {f0 : List Int} : ∀ (cs : List Call) (f : List Int), f.length = n → (∀ q ∈ cs, InR n q) → (∀ q ∈ cs, q.2.2 = true → ∀ q' ∈ cs, q'.1 ≠ q.2.1) → (∀ q ∈ cs, q.2.2 = true → gt f q.2.1 = gt f0 q.2.1) →
    (∀ p, 0 ≤ p → (∀ q ∈ cs, q.1 ≠ p) → gt (cs.foldl (stepB t) f) p = gt f p) ∧ (∀ p, 0 ≤ p → gt f p ≤ gt (cs.foldl (stepB t) f) p) ∧ (∀ q ∈ cs, ansB t f0 q ≤ gt (cs.foldl (stepB t) f) q.1) ∧
      ∀ p, 0 ≤ p → gt (cs.foldl (stepB t) f) p = gt f p ∨ ∃ q ∈ cs, q.1 = p ∧ ansB t f0 q = gt (cs.foldl (stepB t) f) p
  | [], f, _, _, _, _ => ⟨fun _ _ _ => rfl, fun _ _ => Int.le_refl _, fun q h => (by cases h), fun p _ => .inl rfl⟩
  | q :: cs, f, hf, hr, hd, h0 => by
    obtain ⟨r1, r2, r3, r4⟩ := hr q List.mem_cons_self
    have ea : ansB t f q = ansB t f0 q := ansB_congr (h0 q List.mem_cons_self)
    have hs : ∀ p, 0 ≤ p → gt (stepB t f q) p = if p = q.1 then mx (gt f q.1) (ansB t f0 q) else gt f p := fun p hp => by
      unfold stepB
      rw [gt_set r1 hp (by omega), ea]
    obtain ⟨i1, i2, i3, i4⟩ := foldB (n := n) (t := t) (f0 := f0) cs (stepB t f q) (by rw [stepB_len, hf]) (fun q' h => hr q' (List.mem_cons_of_mem _ h)) (fun q' h e q'' h' => hd q' (List.mem_cons_of_mem _ h) e q'' (List.mem_cons_of_mem _ h')) (fun q' h e => by
      have := hr q' (List.mem_cons_of_mem _ h)
      rw [hs _ this.2.2.1, if_neg (fun z => hd q' (List.mem_cons_of_mem _ h) e q List.mem_cons_self z.symm)]
      exact h0 q' (List.mem_cons_of_mem _ h) e)
    rw [List.foldl_cons]
    refine ⟨fun p hp hq => ?_, fun p hp => ?_, fun q' hq' => ?_, fun p hp => ?_⟩
    · rw [i1 p hp fun q' h => hq q' (List.mem_cons_of_mem _ h), hs p hp, if_neg fun z => hq q List.mem_cons_self z.symm]
    · refine Int.le_trans ?_ (i2 p hp)
      rw [hs p hp]
      by_cases e : p = q.1
      · rw [if_pos e, e]
        exact mx_l _ _
      · rw [if_neg e]
        exact Int.le_refl _
    · rcases List.mem_cons.mp hq' with e | h
      · subst e
        refine Int.le_trans ?_ (i2 q'.1 r1)
        rw [hs _ r1, if_pos rfl]
        exact mx_r _ _
      · exact i3 q' h
    · rcases i4 p hp with e | ⟨q', h, e1, e2⟩
      · rw [hs p hp] at e
        by_cases ep : p = q.1
        · rw [if_pos ep] at e
          rcases mx_or (gt f q.1) (ansB t f0 q) with z | z
          · exact .inl (by rw [e, z, ep])
          · exact .inr ⟨q, List.mem_cons_self, ep.symm, by rw [e, z]⟩
        · rw [if_neg ep] at e
          exact .inl e
      · exact .inr ⟨q', List.mem_cons_of_mem _ h, e1, e2⟩
structure BkOk (n : Nat) (t : Int) (css : List (List Call)) (f : List Int) : Prop where
  ge : ∀ (i : Nat) (cs : List Call) (q : Call), css[i]? = some cs → q ∈ cs → ansB (t + i) f q ≤ gt f q.1
  ex : ∀ p, 0 ≤ p → gt f p = 0 ∨ ∃ (i : Nat) (cs : List Call) (q : Call), css[i]? = some cs ∧ q ∈ cs ∧ q.1 = p ∧ ansB (t + i) f q = gt f p
theorem gt_rep {n : Nat} {p : Int} : gt (List.replicate n 0) p = 0 := by
  unfold gt
  rw [List.getD_eq_getElem?_getD, List.getElem?_replicate]
  split <;> rfl
theorem bkM_ok {n : Nat} : ∀ (css : List (List Call)) (t : Int), (∀ cs ∈ css, ∀ q ∈ cs, InR n q) → Cau css → BkOk n t css (bkM n t css)
  | [], t, _, _ => ⟨fun i cs q h => by simp at h, fun p _ => .inl gt_rep⟩
  | cs :: css, t, hr, ⟨hc, hC⟩ => by
    have ih := bkM_ok (n := n) css (t + 1) (fun cs' h => hr cs' (List.mem_cons_of_mem _ h)) hC
    have hcs : ∀ q ∈ cs, q ∈ (cs :: css).flatten := fun q h => List.mem_flatten.mpr ⟨cs, List.mem_cons_self, h⟩
    obtain ⟨i1, i2, i3, i4⟩ := foldB (n := n) (t := t) (f0 := bkM n (t + 1) css) cs (bkM n (t + 1) css) (bkM_len _ _) (hr cs List.mem_cons_self) (fun q h e q' h' => hc q (hcs q h) e q' h') fun _ _ _ => rfl
    have same : ∀ q ∈ (cs :: css).flatten, InR n q → q.2.2 = true → gt (bkM n t (cs :: css)) q.2.1 = gt (bkM n (t + 1) css) q.2.1 := fun q h r e => i1 q.2.1 r.2.2.1 fun q' h' => hc q h e q' h'
    refine ⟨fun i cs' q hi hq => ?_, fun p hp => ?_⟩
    · cases i with
      | zero =>
        cases hi
        have r := hr cs List.mem_cons_self q hq
        have e : ansB (t + ((0 : Nat) : Int)) (bkM n t (cs :: css)) q = ansB t (bkM n (t + 1) css) q := by
          rw [show t + ((0 : Nat) : Int) = t by omega]
          exact ansB_congr (same q (hcs q hq) r)
        rw [e]
        exact i3 q hq
      | succ i =>
        have hi : css[i]? = some cs' := hi
        have hm := List.mem_of_getElem? hi
        have r := hr cs' (List.mem_cons_of_mem _ hm) q hq
        have e : ansB (t + ((i + 1 : Nat) : Int)) (bkM n t (cs :: css)) q = ansB (t + 1 + (i : Int)) (bkM n (t + 1) css) q := by
          rw [show t + ((i + 1 : Nat) : Int) = t + 1 + (i : Int) by omega]
          exact ansB_congr (same q (List.mem_flatten.mpr ⟨cs', List.mem_cons_of_mem _ hm, hq⟩) r)
        rw [e]
        exact Int.le_trans (ih.ge i cs' q hi hq) (i2 q.1 r.1)
    · rcases i4 p hp with e | ⟨q, hq, e1, e2⟩
      · rcases ih.ex p hp with z | ⟨i, cs', q, hi, hq, e1, e2⟩
        · exact .inl (by show gt (cs.foldl (stepB t) (bkM n (t + 1) css)) p = 0; rw [e, z])
        · refine .inr ⟨i + 1, cs', q, hi, hq, e1, ?_⟩
          have hm := List.mem_of_getElem? hi
          have r := hr cs' (List.mem_cons_of_mem _ hm) q hq
          rw [show t + ((i + 1 : Nat) : Int) = t + 1 + (i : Int) by omega, ansB_congr (same q (List.mem_flatten.mpr ⟨cs', List.mem_cons_of_mem _ hm, hq⟩) r), e2]
          exact e.symm
      · refine .inr ⟨0, cs, q, rfl, hq, e1, ?_⟩
        have r := hr cs List.mem_cons_self q hq
        rw [show t + ((0 : Nat) : Int) = t by omega, ansB_congr (same q (hcs q hq) r)]
        exact e2
theorem foldB_le {t M : Int} : ∀ (cs : List Call) (f : List Int), t ≤ M → (∀ p, gt f p ≤ M) → ∀ p, gt (cs.foldl (stepB t) f) p ≤ M + cs.length
  | [], f, _, h, p => by simpa using h p
  | q :: cs, f, ht, h, p => by
    rw [List.foldl_cons]
    have := foldB_le (t := t) (M := M + 1) cs (stepB t f q) (by omega) (fun p => by
      unfold stepB gt
      rw [List.getD_eq_getElem?_getD, List.getElem?_set]
      have h1 := h q.1
      have h2 := h q.2.1
      have h3 := h (p.toNat : Int)
      unfold gt at h3
      rw [Int.toNat_natCast, List.getD_eq_getElem?_getD] at h3
      have h4 : mx (gt f q.1) (ansB t f q) ≤ M + 1 := by
        refine mx_le (by omega) ?_
        unfold ansB
        have := mx_le ht h2
        split <;> omega
      have h5 : 0 ≤ M + 1 ∨ (f[p.toNat]?).isSome := by
        cases hq : f[p.toNat]? with
        | none =>
          rw [hq] at h3
          have : (0 : Int) ≤ M := h3
          exact .inl (by omega)
        | some v => exact .inr rfl
      split
      · split
        · exact h4
        · show (0 : Int) ≤ M + 1
          rcases h5 with z | z
          · exact z
          · rw [List.getElem?_eq_none (by omega)] at z
            cases z
      · exact Int.le_trans h3 (by omega)) p
    rw [List.length_cons]
    omega
theorem bkM_le {n : Nat} : ∀ (css : List (List Call)) (t M : Int), 0 ≤ M → t + css.length ≤ M + 1 → ∀ p, gt (bkM n t css) p ≤ M + css.flatten.length
  | [], t, M, h0, _, p => by
    show gt (List.replicate n 0) p ≤ _
    rw [gt_rep]
    simp
    exact h0
  | cs :: css, t, M, h0, ht, p => by
    rw [List.length_cons] at ht
    have ih := bkM_le (n := n) css (t + 1) M h0 (by omega)
    have := foldB_le (t := t) (M := M + css.flatten.length) cs (bkM n (t + 1) css) (by omega) ih p
    rw [List.flatten_cons, List.length_append]
    show gt (cs.foldl (stepB t) (bkM n (t + 1) css)) p ≤ _
    omega
end Toy

set_option Elab.async false
set_option linter.all false
set_option maxRecDepth 100000
set_option maxHeartbeats 4000000
namespace Toy
open PySem L2
abbrev TCall := Int × Call
def labM : List (List Call) → Int → List TCall
  | [], _ => []
  | cs :: css, t => cs.map (fun q => (t, q)) ++ labM css (t + 1)
theorem lab_mem {e : TCall} : ∀ {css : List (List Call)} {t : Int}, e ∈ labM css t ↔ ∃ (i : Nat) (cs : List Call), css[i]? = some cs ∧ e.2 ∈ cs ∧ e.1 = t + i
  | [], t => by simp [labM]
  | c :: css, t => by
    show e ∈ c.map (fun q => (t, q)) ++ labM css (t + 1) ↔ _
    rw [List.mem_append, lab_mem]
    constructor
    · rintro (h | ⟨i, cs, h1, h2, h3⟩)
      · obtain ⟨q, hq, rfl⟩ := List.mem_map.mp h
        exact ⟨0, c, rfl, hq, by simp⟩
      · exact ⟨i + 1, cs, h1, h2, by omega⟩
    · rintro ⟨i, cs, h1, h2, h3⟩
      cases i with
      | zero =>
        cases h1
        exact .inl (List.mem_map.mpr ⟨e.2, h2, by rw [show t = e.1 by omega]⟩)
      | succ i => exact .inr ⟨i, cs, h1, h2, by omega⟩
theorem lab_called : ∀ (css : List (List Call)) (t : Int), (labM css t).map (·.2.2.1) = calledOf css
  | [], _ => rfl
  | c :: css, t => by
    show (c.map (fun q => (t, q)) ++ labM css (t + 1)).map (·.2.2.1) = _
    rw [List.map_append, lab_called css (t + 1), List.map_map]
    unfold calledOf
    rw [List.flatten_cons, List.map_append]
    rfl
def On (e : TCall) (p : Int) : Prop := e.2.1 = p ∨ (e.2.2.2 = true ∧ e.2.2.1 = p)
def stepLast (f : Int → Option Int) (e : TCall) : Int → Option Int := fun p => if p = e.2.1 then some e.1 else if e.2.2.2 = true ∧ p = e.2.2.1 then some e.1 else f p
def lastM (L : List TCall) : Int → Option Int := L.foldl stepLast fun p => if p = 0 then some 0 else none
structure LastOk (L : List TCall) (f : Int → Option Int) : Prop where
  src : ∀ p v, f p = some v → (p = 0 ∧ v = 0) ∨ ∃ e ∈ L, e.1 = v ∧ On e p
  ge : ∀ e ∈ L, ∀ p, On e p → ∃ v, f p = some v ∧ e.1 ≤ v
  zero : ∃ v, f 0 = some v
theorem stepLast_on {f : Int → Option Int} {e : TCall} {p : Int} (h : On e p) : stepLast f e p = some e.1 := by
  unfold stepLast
  by_cases h1 : p = e.2.1
  · rw [if_pos h1]
  · rw [if_neg h1]
    rcases h with h | h
    · exact absurd h.symm h1
    · rw [if_pos ⟨h.1, h.2.symm⟩]
theorem stepLast_off {f : Int → Option Int} {e : TCall} {p : Int} (h : ¬ On e p) : stepLast f e p = f p := by
  unfold stepLast
  rw [if_neg (fun z => h (.inl z.symm)), if_neg (fun z => h (.inr ⟨z.1, z.2.symm⟩))]
theorem LastOk.step {L : List TCall} {f : Int → Option Int} {e : TCall} (h : LastOk L f) (hle : ∀ e' ∈ L, e'.1 ≤ e.1) : LastOk (L ++ [e]) (stepLast f e) := by
  refine ⟨fun p v hv => ?_, fun e' he' p hp => ?_, ?_⟩
  · by_cases o : On e p
    · rw [stepLast_on o] at hv
      exact .inr ⟨e, by simp, Option.some.inj hv, o⟩
    · rw [stepLast_off o] at hv
      rcases h.src p v hv with z | ⟨e', h1, h2, h3⟩
      · exact .inl z
      · exact .inr ⟨e', List.mem_append_left _ h1, h2, h3⟩
  · by_cases o : On e p
    · refine ⟨e.1, stepLast_on o, ?_⟩
      rcases List.mem_append.mp he' with z | z
      · exact hle e' z
      · rw [List.mem_singleton.mp z]
        exact Int.le_refl _
    · rcases List.mem_append.mp he' with z | z
      · rw [stepLast_off o]
        exact h.ge e' z p hp
      · rw [List.mem_singleton.mp z] at hp
        exact absurd hp o
  · by_cases o : On e 0
    · exact ⟨_, stepLast_on o⟩
    · rw [stepLast_off o]
      exact h.zero
theorem lastOk_go : ∀ (M L : List TCall) (f : Int → Option Int), LastOk L f → (L ++ M).Pairwise (fun a b => a.1 ≤ b.1) → LastOk (L ++ M) (M.foldl stepLast f)
  | [], L, f, h, _ => by simpa using h
  | e :: M, L, f, h, hp => by
    have h1 := lastOk_go M (L ++ [e]) (stepLast f e) (h.step fun e' he' => (List.pairwise_append.mp hp).2.2 e' he' e List.mem_cons_self) (by simpa using hp)
    simpa using h1
theorem lab_asc : ∀ (css : List (List Call)) (t : Int), (labM css t).Pairwise (fun a b => a.1 ≤ b.1)
  | [], _ => List.Pairwise.nil
  | c :: css, t => by
    refine List.pairwise_append.mpr ⟨?_, lab_asc css (t + 1), fun a ha b hb => ?_⟩
    · rw [List.pairwise_map]
      exact List.pairwise_of_forall (fun _ _ => Int.le_refl _)
    · obtain ⟨q, _, rfl⟩ := List.mem_map.mp ha
      obtain ⟨i, cs, _, _, e⟩ := lab_mem.mp hb
      show t ≤ b.1
      omega
theorem lastOk0 : LastOk [] fun p => if p = 0 then some 0 else none := by
  refine ⟨fun p v hv => ?_, fun e he => (by cases he), ⟨0, rfl⟩⟩
  by_cases e : p = 0
  · rw [if_pos e] at hv
    exact .inl ⟨e, (Option.some.inj hv).symm⟩
  · rw [if_neg e] at hv
    cases hv
theorem lastM_ok (css : List (List Call)) (t : Int) : LastOk (labM css t) (lastM (labM css t)) := lastOk_go (labM css t) [] _ lastOk0 (lab_asc css t)
structure BkW (n : Nat) (css : List (List Call)) : Prop where
  inR : ∀ cs ∈ css, ∀ q ∈ cs, InR n q
  pos : ∀ cs ∈ css, ∀ q ∈ cs, 0 < q.2.1
  cau : Cau css
  nd : (calledOf css).Nodup
  few : css.length ≤ n
  fewC : css.flatten.length ≤ n
def backM (n : Nat) (css : List (List Call)) : Int := gt (bkM n 1 css) 0
section
variable {n : Nat} {css : List (List Call)}
theorem BkW.ok (w : BkW n css) : BkOk n 1 css (bkM n 1 css) := bkM_ok css 1 w.inR w.cau
theorem BkW.inL (w : BkW n css) {e : TCall} (he : e ∈ labM css 1) : InR n e.2 ∧ 0 < e.2.2.1 := by
  obtain ⟨i, cs, h1, h2, h3⟩ := lab_mem.mp he
  exact ⟨w.inR cs (List.mem_of_getElem? h1) e.2 h2, w.pos cs (List.mem_of_getElem? h1) e.2 h2⟩
theorem BkW.uniq (w : BkW n css) {e e' : TCall} (he : e ∈ labM css 1) (he' : e' ∈ labM css 1) (h : e.2.2.1 = e'.2.2.1) : e = e' := by
  obtain ⟨i, hi⟩ := List.getElem?_of_mem he
  obtain ⟨j, hj⟩ := List.getElem?_of_mem he'
  have nd := w.nd
  rw [← lab_called css 1] at nd
  have : i = j := nd_at nd (p := i) (q := j) (x := e.2.2.1) (by rw [List.getElem?_map, hi]; rfl) (by rw [List.getElem?_map, hj, h]; rfl)
  subst this
  rw [hi] at hj
  exact Option.some.inj hj
theorem BkW.le (w : BkW n css) : backM n css ≤ 2 * n := by
  have := bkM_le (n := n) css 1 css.length (by omega) (by omega) 0
  have h1 := w.few
  have h2 := w.fewC
  unfold backM
  omega
theorem BkW.known (w : BkW n css) {p v : Int} (hv : lastM (labM css 1) p = some v) : 0 ≤ p ∧ (p < n ∨ p = 0) := by
  rcases (lastM_ok css 1).src p v hv with ⟨z, _⟩ | ⟨e, h3, _, h4⟩
  · exact ⟨by omega, .inr z⟩
  · obtain ⟨⟨r1, r2, r3, r4⟩, _⟩ := w.inL h3
    rcases h4 with h4 | ⟨_, h4⟩
    · exact ⟨by omega, .inl (by omega)⟩
    · exact ⟨by omega, .inl (by omega)⟩
end
end Toy

set_option Elab.async false
set_option linter.all false
set_option maxRecDepth 100000
set_option maxHeartbeats 4000000
namespace Toy
open PySem L2
def AL (H : Hp) (vs : List V) (n : Int) : Prop := ∀ v ∈ vs, ∃ (a : Addr) (as : List Int), v = .ref a ∧ H a = some (.lst (as.map V.int)) ∧ Abs as n
theorem AL.mono {H H' : Hp} {vs : List V} {n : Int} (h : AL H vs n) (s : Same H H') : AL H' vs n := fun v hv => let ⟨a, as, e, h1, h2⟩ := h v hv; ⟨a, as, e, s _ _ h1, h2⟩
theorem eqv_ints (xs ys : List Int) : PyData.eqv (.list (xs.map PyData.int)) (.list (ys.map PyData.int)) = decide (xs = ys) := Enc.ints.eq xs ys
theorem eqv_rows (xs ys : List (List Int)) : PyData.eqv (rowsD xs) (rowsD ys) = decide (xs = ys) := Enc.rows.eq xs ys
theorem shaped_rows (os : List (List Int)) : SeqAt.shaped (rowsD os) = true := Enc.rows.shaped (by decide) os
theorem LL.dp {K : PySem.W.Frag} {H : Hp} {a : Addr} {rs : List Addr} {os : List (List Int)} (h : LL H rs os) (ha : H a = some (.lst (rs.map V.ref))) : Dp K H (.ref a) (rowsD os) := dp_rows ha h.ol
end Toy

set_option Elab.async false
set_option linter.all false
set_option maxRecDepth 100000
set_option maxHeartbeats 1000000
namespace Toy
open PySem L2
abbrev Pr := Int × Int
def prD (p : Pr) : PyData := .tuple [.int p.1, .int p.2]
theorem Enc.pr : Enc prD 1 := by
  refine ⟨fun x y => ?_, fun x => by simp [prD, PyData.canLay0, PyData.canLayAll0], fun x => by simp [prD, PyData.depth, PyData.depthAll]⟩
  obtain ⟨a, b⟩ := x
  obtain ⟨a', b'⟩ := y
  simp only [prD, PyData.eqv, PyData.eqvAll]
  exact Bool.eq_iff_iff.mpr (by simp)
structure PR (H : Hp) (us : List Addr) (ps : List Pr) : Prop where
  len : us.length = ps.length
  at' : ∀ (i : Nat) (u : Addr) (p : Pr), us[i]? = some u → ps[i]? = some p → H u = some (.tup [.int p.1, .int p.2])
theorem PR.mono {H H' : Hp} {us : List Addr} {ps : List Pr} (h : PR H us ps) (s : Same H H') : PR H' us ps := ⟨h.len, fun i u p a b => s _ _ (h.at' i u p a b)⟩
theorem PR.nil {H : Hp} : PR H [] [] := ⟨rfl, fun i u p h _ => by simp at h⟩
theorem PR.snoc {H : Hp} {us : List Addr} {ps : List Pr} {u : Addr} {p : Pr} (h : PR H us ps) (hu : H u = some (.tup [.int p.1, .int p.2])) : PR H (us ++ [u]) (ps ++ [p]) := by
  refine ⟨by rw [List.length_append, List.length_append, h.len]; rfl, fun i x r hp hr => ?_⟩
  by_cases hpi : i < us.length
  · rw [List.getElem?_append_left hpi] at hp
    rw [List.getElem?_append_left (by rw [← h.len]; exact hpi)] at hr
    exact h.at' i x r hp hr
  · rw [List.getElem?_append_right (by omega)] at hp
    rw [List.getElem?_append_right (by rw [← h.len]; omega), ← h.len] at hr
    have e0 : i - us.length = 0 := by
      have := (List.getElem?_eq_some_iff.mp hp).1
      simp at this
      omega
    rw [e0] at hp hr
    have e1 : u = x := by simpa using hp
    have e2 : p = r := by simpa using hr
    subst e1 e2
    exact hu
theorem PR.updL {H : Hp} {us : List Addr} {ps : List Pr} {a : Addr} {xs : List V} {o : HO} (h : PR H us ps) (ha : H a = some (.lst xs)) : PR (L2.upd H a o) us ps :=
  ⟨h.len, fun i u p hu hp => by rw [upd_ne (fun z => by have := h.at' i u p hu hp; rw [z, ha] at this; cases this)]; exact h.at' i u p hu hp⟩
section
variable {P : Program} {w : World} {K : PySem.W.Frag} {mg : Str → Option Value} {base : Heap} {A : Adr}
end
end Toy

set_option Elab.async false
set_option linter.all false
set_option maxRecDepth 100000
set_option maxHeartbeats 1000000
namespace Toy
open PySem L2
def hdR (rows : Rws) (c : Int) : Int := match rows.getD c.toNat none with
  | some (y :: _) => y
  | _ => 0
structure CS (H : Hp) (ts : List Addr) (css : List (List Call)) : Prop where
  len : ts.length = css.length
  at' : ∀ (i : Nat) (t : Addr) (cs : List Call), ts[i]? = some t → css[i]? = some cs → ∃ us : List Addr, H t = some (.lst (us.map V.ref)) ∧ CL H us cs
theorem CS.mono {H H' : Hp} {ts : List Addr} {css : List (List Call)} (h : CS H ts css) (s : Same H H') : CS H' ts css :=
  ⟨h.len, fun i t cs a b => let ⟨us, p, q⟩ := h.at' i t cs a b; ⟨us, s _ _ p, q.mono s⟩⟩
section
variable {P : Program} {w : World} {K : PySem.W.Frag} {mg : Str → Option Value} {base : Heap} {A : Adr}
end
end Toy

set_option Elab.async false
set_option linter.all false
set_option maxRecDepth 100000
set_option maxHeartbeats 1000000
namespace Toy
open PySem L2
theorem asc_ext : ∀ {xs ys : List Int}, xs.Pairwise (· < ·) → ys.Pairwise (· < ·) → (∀ x, x ∈ xs ↔ x ∈ ys) → xs = ys
  | [], [], _, _, _ => rfl
  | [], y :: ys, _, _, h => by have := (h y).mpr List.mem_cons_self; cases this
  | x :: xs, [], _, _, h => by have := (h x).mp List.mem_cons_self; cases this
  | x :: xs, y :: ys, hx, hy, h => by
    obtain ⟨hx1, hx2⟩ := List.pairwise_cons.mp hx
    obtain ⟨hy1, hy2⟩ := List.pairwise_cons.mp hy
    have e : x = y := by
      rcases List.mem_cons.mp ((h x).mp List.mem_cons_self) with z | z
      · exact z
      · rcases List.mem_cons.mp ((h y).mpr List.mem_cons_self) with z' | z'
        · exact z'.symm
        · have := hy1 x z
          have := hx1 y z'
          omega
    subst e
    congr 1
    refine asc_ext hx2 hy2 fun z => ⟨fun hz => ?_, fun hz => ?_⟩
    · rcases List.mem_cons.mp ((h z).mp (List.mem_cons_of_mem _ hz)) with e | e
      · have := hx1 z hz
        omega
      · exact e
    · rcases List.mem_cons.mp ((h z).mpr (List.mem_cons_of_mem _ hz)) with e | e
      · have := hy1 z hz
        omega
      · exact e
def tlR (cur : Rws) (c : Int) : List Int := match cur.getD c.toNat none with
  | some (_ :: r) => r
  | _ => []
structure Due (os : List (List Int)) (rows : Rws) (as : List Int) (all : List Int) (q : Call) : Prop where
  ex : ∃ (p : Nat) (rest : List Int), q.1 = p ∧ rows[p]? = some (some (q.2.1 :: rest))
  flag : q.2.1 ∈ as ↔ q.2.2 = false
  noA : q.1 ∉ as
  inR : 0 < q.2.1 ∧ q.2.1 < os.length
  noC : ∀ c ∈ all, c ≠ q.2.1
theorem Due.tl {os : List (List Int)} {rows cur : Rws} {as all : List Int} {q : Call} (d : Due os rows as all q) (hc : cur[q.1.toNat]? = rows[q.1.toNat]?) : ∃ (p : Nat), q.1 = p ∧ rows[p]? = some (some (q.2.1 :: tlR cur q.1)) ∧ cur[p]? = some (some (q.2.1 :: tlR cur q.1)) := by
  obtain ⟨p, rest, ep, hp⟩ := d.ex
  have e : q.1.toNat = p := by omega
  rw [e, hp] at hc
  have : tlR cur q.1 = rest := by
    unfold tlR
    rw [e, List.getD_eq_getElem?_getD, hc]
    rfl
  rw [this]
  exact ⟨p, ep, hp, hc⟩
end Toy

set_option Elab.async false
set_option linter.all false
set_option maxRecDepth 100000
set_option maxHeartbeats 4000000
namespace Toy
open PySem L2
theorem funC {K : PySem.W.Frag} {x qual : Str} {st : Stmt} {f : Addr} {fd : FuncData} (F : Fun K x qual st f fd) {c : Addr} (hc : fd.code = .ref c) {P : Program} {w : World} {mg : Str → Option Value} {base : Heap} {N ps : List Str} {k : Nat} {sp : Sp} (S : FnScope N ps (defScope st)) (len : ∀ vs H Q E, sp vs H Q E → vs.length = ps.length)
    (hbody : ∀ (A : Around) (outer : List Env) (s : Shared) (H : Hp) (vs : List V) (Q : VK) (E : XK), Room k (A.deeper (PyProof.Rows.envOfC qual (defScope st) s.heap.objs.size f (.ref c))) → sp vs H Q E →
      ∃ t, PSs (cxOf CX0 P w K mg base N qual (defScope st) f (.ref c) A outer s H E).nox (defBody st) t ∧ t { nx := fun _ H' => Q .non H', rt := Q } (L2.start N vs) H) : FnOk P w K mg base CX0 (k + 1) f fd ps sp := by
  obtain ⟨oc, od, kV, doc, pm, an, cdv, ct, osl, rfl, lk, hcd⟩ := F.ex
  have hc : cdv = .ref c := hc
  subst hc
  refine fn_of lk hcd S len fun A outer s H vs Q E hr hsp => ?_
  obtain ⟨t, h, q⟩ := hbody A outer s H vs Q E hr hsp
  exact ⟨t, h.nox, q⟩
theorem kitB1 {K : PySem.W.Frag} {u : Value} (h : RelV (.ty "bool") u) : PySem.W.kitOne K (.type "bool") u = some true := by
  cases h
  kernel_rfl
section
variable {P : Program} {w : World} {K : PySem.W.Frag} {mg : Str → Option Value} {base : Heap} {A : Adr}
end
end Toy


set_option Elab.async false
set_option linter.all false
set_option maxRecDepth 100000
set_option maxHeartbeats 4000000
namespace Toy
open PySem L2
section
variable {P : Program} {w : World} {K : PySem.W.Frag} {mg : Str → Option Value} {base : Heap} {A : Adr}
def spUps : Sp := fun vs H Q _ => ∃ a us, vs = [.ref a] ∧ H a = some (.lst (us.map V.int)) ∧ GoodUps us ∧ ∀ H', Same H H' → Q (.bl true) H'
theorem sc_is_ups : FnScope ["ups", "person", "up"] ["ups"] (defScope s_is_ups) := ⟨rfl, rfl, rfl, by decide +kernel, rfl, by decide +kernel, by decide +kernel⟩
theorem ok_is_ups (T : Txt K mg A) : FnOk P w K mg base CX0 3 A.f_is_ups A.d_is_ups ["ups"] spUps := by
  have G_is_person := ok_is_person (P := P) (w := w) (base := base) T
  refine T.f_is_ups.ok sc_is_ups (fun vs H Q E h => ?_) (fun cdv A outer s H vs Q E hr h => ?_)
  · obtain ⟨a, us, rfl, _⟩ := h
    rfl
  · obtain ⟨a, us, rfl, hH, ⟨hl, hg⟩, k⟩ := h
    refine ⟨_, (pss_cons (ps_if (PW.pt (pw_or (pt_not (pt_val (pe_callB (cr_isiK K) (by rfl) T.n_isinstance (by decide +kernel) (@pa_cons _ _ _ _ _ (pv 0) (@pa_cons _ _ _ _ _ (pe_bltn (v := .ty "list") (by rfl) T.n_list (by decide +kernel) rfl) pa_nil (by rfl)) (by rfl))))) (pw_or1 (pt_cmpR op_gt (pe_op op_add (pe_callB (call_len_seqK K) (by rfl) T.n_len PySem.boot_len (@pa_cons _ _ _ _ _ (pv 0) pa_nil (by rfl))) pe_int) (pe_glob (v := .int 40) (by rfl) T.g_MOST_PEOPLE ⟨_, rfl⟩) (nomark _))))) (pss_one (ps_ret pe_bl)) pss_nil)
      (pss_cons (ps_for PassesOwn.never rfl (pi_enum1K K (by rfl) T.n_enumerate (@pa_cons _ _ _ _ _ (pv 0) pa_nil (by rfl))) (pg_tupK K (n := 2) (by rfl) (pgs_cons (pg_name (i := 1) sc_is_ups.nd rfl (Or.inl rfl)) (pgs_cons (pg_name (i := 2) sc_is_ups.nd rfl (Or.inl rfl)) pgs_nil))) (pss_one (ps_if (pt_not (pt_val (pe_call G_is_person (hr.mono (by decide)) (by rfl) T.m_is_person T.k_is_person T.b_is_person .nil pass0 (@pa_cons _ _ _ _ _ (pv 2) (@pa_cons _ _ _ _ _ (pv 1) pa_nil (by rfl)) (by rfl))))) (pss_one (ps_ret pe_bl)) pss_nil)))
      (pss_one (ps_ret pe_bl)))), ?_⟩
    refine ⟨_, rfl, .ref a, .ty "list", _, true, rfl, .lst hH, (fun u hu => kitL hu), true, rfl, iteF ?_⟩
    refine ⟨_, rfl, a, us.map V.int, rfl, .inl (SqL.of hH), _, _, rfl, rfl, _, _, rfl, rfl, _, rfl, ?_⟩
    refine ite2 (fun h0 => ?_) (fun _ => ?_)
    · have h0 := of_decide_eq_true h0
      rw [List.length_map] at h0
      omega
    · refine ⟨_, rfl, a, us.map V.int, rfl, SqL.of hH, for_enum1 (K := K) (a := a) (xs := us.map V.int) (fun i σ H2 => ∃ x y, σ = [some (.ref a), x, y] ∧ Same H H2) ⟨none, none, rfl, Same.refl H⟩ (fun i σ H2 _ ⟨_, _, _, s2⟩ => SqL.of (s2 _ _ hH)) ?_ ?_⟩
      · rintro i x t σ H2 hi ⟨x0, y0, rfl, s2⟩ ht
        obtain ⟨u, hu, rfl⟩ := map_int_get hi
        refine ⟨t, _, rfl, SqT.of upd_same, rfl, _, _, rfl, _, _, rfl, rfl, ?_⟩
        refine ⟨_, rfl, _, rfl, u, (i : Int) + 1, rfl, _, rfl, ?_⟩
        have hb : decide (0 ≤ u ∧ u < (i : Int) + 1) = true := by
          have q := hg i u hu
          exact decide_eq_true ⟨q.1, by omega⟩
        rw [hb]
        exact iteF ⟨_, _, rfl, s2.upd (s2.free ht)⟩
      · rintro σ H2 ⟨x0, y0, rfl, s2⟩
        exact k H2 s2
def spTake : Sp := fun vs H Q _ => ∃ a us, vs = [.ref a] ∧ H a = some (.lst (us.map V.int)) ∧ GoodUps us ∧ ∀ b H', Same H H' → H b = none → H' b = some (.lst (us.map V.int)) → Q (.ref b) H'
theorem sc_take_ups : FnScope ["ups"] ["ups"] (defScope s_take_ups) := ⟨rfl, rfl, rfl, by decide +kernel, rfl, by decide +kernel, by decide +kernel⟩
theorem ok_take_ups (T : Txt K mg A) : FnOk P w K mg base CX0 4 A.f_take_ups A.d_take_ups ["ups"] spTake := by
  have G_is_ups := ok_is_ups (P := P) (w := w) (base := base) T
  refine T.f_take_ups.ok sc_take_ups (fun vs H Q E h => ?_) (fun cdv A outer s H vs Q E hr h => ?_)
  · obtain ⟨a, us, rfl, _⟩ := h
    rfl
  · obtain ⟨a, us, rfl, hH, hg, k⟩ := h
    refine ⟨_, (pss_cons (ps_if (pt_not (pt_val (pe_call G_is_ups (hr.mono (by decide)) (by rfl) T.m_is_ups T.k_is_ups T.b_is_ups .nil pass0 (@pa_cons _ _ _ _ _ (pv 0) pa_nil (by rfl))))) (pss_one ps_never) pss_nil)
      (pss_one (ps_ret (pe_callTy (call_list_ofK K) (by rfl) T.n_list (by decide +kernel) (@pa_cons _ _ _ _ _ (pv 0) pa_nil (by rfl)))))), ?_⟩
    refine ⟨_, rfl, a, us, rfl, hH, hg, fun H1 s1 => ⟨true, rfl, iteF ?_⟩⟩
    refine ⟨_, rfl, a, _, rfl, .inl (SqL.of (s1 _ _ hH)), fun l hl => ?_⟩
    exact k l _ (s1.upd (s1.free hl)) (s1.free hl) upd_same
end
end Toy


set_option Elab.async false
set_option linter.all false
set_option maxRecDepth 100000
set_option maxHeartbeats 4000000
namespace Toy
open PySem L2
def rowOf (us : List Int) (p : Int) : List Int := (us.zipIdx.filter fun q => q.1 == p).map fun q => (q.2 : Int) + 1
theorem rowOf_snoc (us : List Int) (u p : Int) : rowOf (us ++ [u]) p = rowOf us p ++ (if u = p then [(us.length : Int) + 1] else []) := by
  unfold rowOf
  rw [List.zipIdx_append, List.filter_append, List.map_append]
  congr 1
  by_cases h : u = p
  · simp [h]
  · simp [h]
theorem rowOf_nil (p : Int) : rowOf [] p = [] := rfl
theorem rowOf_length (us : List Int) (p : Int) : (rowOf us p).length ≤ us.length := by
  unfold rowOf
  rw [List.length_map]
  exact Nat.le_trans (List.length_filter_le _ _) (by simp)
def rowsOf (us : List Int) : List (List Int) := (List.range (us.length + 1)).map fun (p : Nat) => rowOf us (p : Int)
section
variable {P : Program} {w : World} {K : PySem.W.Frag} {mg : Str → Option Value} {base : Heap} {A : Adr}
def spRows : Sp := fun vs H Q _ => ∃ (a : Addr) (us : List Int), vs = [.ref a] ∧ H a = some (.lst (us.map V.int)) ∧ GoodUps us ∧
  ∀ (b : Addr) (rs : List Addr) (H' : Hp), Same H H' → H b = none → H' b = some (.lst (rs.map V.ref)) → LL H' rs (rowsOf us) → (∀ r ∈ rs, H r = none ∧ r ≠ b) → rs.Nodup → Q (.ref b) H'
theorem sc_rows_of : FnScope ["ups", "rows", "person", "up"] ["ups"] (defScope s_rows_of) := ⟨rfl, rfl, rfl, by decide +kernel, rfl, by decide +kernel, by decide +kernel⟩
theorem ok_rows_of (T : Txt K mg A) : FnOk P w K mg base CX0 1 A.f_rows_of A.d_rows_of ["ups"] spRows := by
  refine T.f_rows_of.ok sc_rows_of (fun vs H Q E h => ?_) (fun cdv A outer s H vs Q E hr h => ?_)
  · obtain ⟨a, us, rfl, _⟩ := h
    rfl
  · obtain ⟨a, us, rfl, hH, ⟨hl, hg⟩, k⟩ := h
    refine ⟨_, (pss_cons (ps_setLc (i := 1) (own := [("person", 2)]) rfl sc_rows_of.nd rfl rfl (sw_true rfl rfl rfl (by decide +kernel)) (pi_range1 (by rfl) T.n_range (@pa_cons _ _ _ _ _ (pe_op op_add (pe_callB (call_len_seqK K) (by rfl) T.n_len PySem.boot_len (@pa_cons _ _ _ _ _ (pv 0) pa_nil (by rfl))) pe_int) pa_nil (by rfl))) (blkOk_by (own := [("person", 2)]) (by kernel_rfl)) (fun _ _ _ _ _ => (pg_name (i := 2) sc_rows_of.nd rfl (Or.inl rfl))) (fun _ _ _ _ _ => pts_nil) (fun _ _ _ _ _ => (@pe_lst _ _ _ _ pa_nil)))
      (pss_cons (ps_for PassesOwn.never rfl (pi_enum1K K (by rfl) T.n_enumerate (@pa_cons _ _ _ _ _ (pv 0) pa_nil (by rfl))) (pg_tupK K (n := 2) (by rfl) (pgs_cons (pg_name (i := 2) sc_rows_of.nd rfl (Or.inl rfl)) (pgs_cons (pg_name (i := 3) sc_rows_of.nd rfl (Or.inl rfl)) pgs_nil))) (pss_one (ps_expr (pe_bmK K PySem.F.plainAttrs_list PySem.F.slot_list_append PySem.F.type_list_append mt_append (pe_ix (ix_listK K) (pv 1) (pv 3) (fun _ _ => rfl)) (@pa_cons _ _ _ _ _ (pv 2) pa_nil (by rfl))))))
      (pss_one (ps_ret (pv 1))))), ?_⟩
    refine ⟨_, rfl, a, us.map V.int, rfl, .inl (SqL.of hH), _, _, rfl, rfl, _, rfl, ?_, ?_, fun D hD => ?_⟩
    · rw [List.length_map]
      omega
    · rw [List.length_map]
      omega
    have hn : ((((us.map V.int).length : Nat) : Int) + 1).toNat = us.length + 1 := by
      rw [List.length_map]
      omega
    rw [hn]
    refine lc_range (lo := 0) (n := us.length + 1) (fun i H2 => ∃ rs : List Addr, rs.length = i ∧ H2 D = some (.lst (rs.map V.ref)) ∧ (∀ r ∈ rs, H r = none ∧ r ≠ D ∧ H2 r = some (.lst [])) ∧ rs.Nodup ∧ Same H H2) ⟨[], rfl, upd_same, by simp, List.nodup_nil, Same.new hD⟩ ?_ ?_
    · rintro i H2 hi ⟨rs, hlen, hd, hrs, hnd, s2⟩
      refine ⟨rfl, yesT ?_⟩
      refine ⟨(by show 0 ≤ _; exact Nat.zero_le _), fun q hq => ⟨rs.map V.ref, ?_, ?_, rs ++ [q], ?_, ?_, ?_, ?_, ?_⟩⟩
      · rw [upd_ne (ne_of_none hd hq)]
        exact hd
      · rw [List.length_map]
        exact small1000 (by omega)
      · rw [List.length_append, hlen]
        rfl
      · rw [upd_same, List.map_append]
        rfl
      · intro r hr'
        rcases List.mem_append.mp hr' with h1 | h1
        · obtain ⟨a1, a2, a3⟩ := hrs r h1
          refine ⟨a1, a2, ?_⟩
          rw [upd_ne a2, upd_ne (ne_of_none a3 hq)]
          exact a3
        · obtain rfl := List.mem_singleton.mp h1
          have n1 : r ≠ D := Ne.symm (ne_of_none hd hq)
          exact ⟨s2.free hq, n1, by rw [upd_ne n1, upd_same]⟩
      · refine nd_snoc hnd fun h1 => ?_
        rw [(hrs q h1).2.2] at hq
        cases hq
      · exact (s2.upd (s2.free hq)).upd hD
    · rintro H2 ⟨rs, hlen, hd, hrs, hnd, s2⟩
      refine ⟨_, rfl, a, us.map V.int, rfl, SqL.of (s2 _ _ hH), for_enum1 (K := K) (a := a) (xs := us.map V.int)
        (fun i σ H3 => ∃ x y, σ = [some (.ref a), some (.ref D), x, y] ∧ Same H H3 ∧ H3 D = some (.lst (rs.map V.ref)) ∧ ∀ (p : Nat) (r : Addr), rs[p]? = some r → H3 r = some (.lst ((rowOf (us.take i) (p : Int)).map V.int)))
        ⟨none, none, rfl, s2, hd, fun p r hp => (hrs r (List.mem_of_getElem? hp)).2.2⟩ (fun i σ H3 _ ⟨_, _, _, s3, _⟩ => SqL.of (s3 _ _ hH)) ?_ ?_⟩
      · rintro i x t σ H3 hi ⟨x0, y0, rfl, s3, hd3, hr3⟩ ht
        obtain ⟨u, hu, rfl⟩ := map_int_get hi
        have hub := hg i u hu
        have hil : i < us.length := (List.getElem?_eq_some_iff.mp hu).1
        obtain ⟨r, hr0⟩ : ∃ r, rs[u.toNat]? = some r := ⟨_, List.getElem?_eq_getElem (by omega)⟩
        have nt : ∀ {b o}, H3 b = some o → b ≠ t := fun {b o} e => ne_of_none e ht
        have hrr := hr3 _ _ hr0
        refine ⟨t, _, rfl, SqT.of upd_same, rfl, _, _, rfl, _, _, rfl, rfl, ?_⟩
        refine ⟨_, rfl, _, rfl, D, rs.map V.ref, u, .ref r, rfl, rfl, SqL.of (by rw [upd_ne (nt hd3)]; exact hd3), at_of (j := u.toNat) (by omega) (by rw [List.getElem?_map, hr0]; rfl), ?_⟩
        refine ⟨.inl ⟨rfl, _, SqL.of (by rw [upd_ne (nt hrr)]; exact hrr)⟩, _, rfl, r, _, _, rfl, rfl, (by rw [upd_ne (nt hrr)]; exact hrr), ?_, ?_⟩
        · rw [List.length_map]
          have := rowOf_length (us.take i) ((u.toNat : Nat) : Int)
          rw [List.length_take] at this
          exact small1000 (by omega)
        · have hrD : r ≠ D := (hrs r (List.mem_of_getElem? hr0)).2.1
          have hHr : H r = none := (hrs r (List.mem_of_getElem? hr0)).1
          refine ⟨_, _, rfl, (s3.upd (s3.free ht)).upd hHr, ?_, fun p r' hp => ?_⟩
          · rw [upd_ne (Ne.symm hrD), upd_ne (nt hd3)]
            exact hd3
          · have elen : (us.take i).length = i := by
              rw [List.length_take]
              omega
            rw [take_snoc hu, rowOf_snoc, elen]
            by_cases hpu : p = u.toNat
            · subst hpu
              rw [hr0] at hp
              cases hp
              have e : u = ((u.toNat : Nat) : Int) := by omega
              rw [upd_same, if_pos e, List.map_append]
              rfl
            · have hne : r' ≠ r := fun z => hpu (nd_ix hnd hp (by rw [z]; exact hr0))
              have e : ¬ u = ((p : Nat) : Int) := fun z => hpu (by omega)
              rw [upd_ne hne, upd_ne (nt (hr3 p r' hp)), if_neg e, List.append_nil]
              exact hr3 p r' hp
      · rintro σ H3 ⟨x0, y0, rfl, s3, hd3, hr3⟩
        refine ⟨_, rfl, ?_⟩
        rw [List.length_map, List.take_length] at hr3
        refine k D rs H3 s3 hD hd3 ⟨?_, fun p r os hp ho => ?_⟩ (fun r hr' => ⟨(hrs r hr').1, (hrs r hr').2.1⟩) hnd
        · rw [hlen]
          unfold rowsOf
          simp
        · have hp' := hr3 p r hp
          unfold rowsOf at ho
          rw [List.getElem?_map] at ho
          cases e : (List.range (us.length + 1))[p]? with
          | none =>
            rw [e] at ho
            cases ho
          | some z =>
            rw [e] at ho
            have ez : z = p := by
              have := (List.getElem?_eq_some_iff.mp e).2
              simpa using this.symm
            subst ez
            have ho : rowOf us (z : Int) = os := by simpa using ho
            rw [← ho]
            exact hp'
end
end Toy


set_option Elab.async false
set_option linter.all false
set_option maxRecDepth 100000
set_option maxHeartbeats 4000000
namespace Toy
open PySem L2
def at0 (ms : List Int) (c : Int) : Int := ms.getD c.toNat 0
def Falls (ms cs cs' : List Int) : Prop := cs'.Perm cs ∧ cs'.Pairwise fun c d => at0 ms d ≤ at0 ms c
theorem byKey_falls {ms cs : List Int} {ys : List V} (h : ByKey (cs.map fun c => -at0 ms c) (cs.map V.int) ys) : ∃ cs', ys = cs'.map V.int ∧ Falls ms cs cs' := by
  obtain ⟨ps, hp, rfl, hs⟩ := h
  have key : ∀ q ∈ (cs.map fun c => -at0 ms c).zip (cs.map V.int), ∃ c, q = (-at0 ms c, V.int c) := by
    intro q hq
    rw [List.zip_map'] at hq
    obtain ⟨c, _, rfl⟩ := List.mem_map.mp hq
    exact ⟨c, rfl⟩
  obtain ⟨cs', rfl⟩ : ∃ cs' : List Int, ps = cs'.map fun c => (-at0 ms c, V.int c) := by
    have all : ∀ q ∈ ps, ∃ c, q = (-at0 ms c, V.int c) := fun q hq => key q (hp.mem_iff.mp hq)
    clear hp hs key
    induction ps with
    | nil => exact ⟨[], rfl⟩
    | cons q r ih =>
      obtain ⟨c, rfl⟩ := all q List.mem_cons_self
      obtain ⟨r', e⟩ := ih fun z hz => all z (List.mem_cons_of_mem _ hz)
      exact ⟨c :: r', by rw [e]; rfl⟩
  refine ⟨cs', by rw [List.map_map]; rfl, ?_, ?_⟩
  · have h2 := hp.map fun q : Int × V => match q.2 with | .int c => c | _ => 0
    rw [List.zip_map', List.map_map, List.map_map] at h2
    simpa [Function.comp_def] using h2
  · rw [List.map_map, List.pairwise_map] at hs
    exact hs.imp fun {c d} z => by
      have z : -at0 ms c ≤ -at0 ms d := z
      omega
section
variable {P : Program} {w : World} {K : PySem.W.Frag} {mg : Str → Option Value} {base : Heap} {A : Adr}
abbrev lamQ : Str := "longest_first.<locals>.<lambda>"
structure Gr (Pt : Addr) (H H' : Hp) : Prop where
  but : ButT Pt H H'
  tab : TabOk H' Pt lamQ
theorem tab_same {H H' : Hp} {Pt : Addr} {q : Str} (T : TabOk H Pt q) (s : Same H H') : TabOk H' Pt q := by
  obtain ⟨ts, e, k⟩ := T
  exact ⟨ts, s _ _ e, fun t ht => s _ _ (k t ht)⟩
theorem Gr.of {H H' : Hp} {Pt : Addr} (T : TabOk H Pt lamQ) (s : Same H H') : Gr Pt H H' := ⟨fun b o e _ => s b o e, tab_same T s⟩
theorem Gr.trans {H H1 H2 : Hp} {Pt : Addr} (a : Gr Pt H H1) (b : Gr Pt H1 H2) : Gr Pt H H2 := ⟨fun c o e n => b.but c o (a.but c o e n) n, b.tab⟩
theorem Gr.upd {H H1 : Hp} {Pt a : Addr} {o : HO} (g : Gr Pt H H1) (h : H a = none) (h1 : H1 a = none) : Gr Pt H (L2.upd H1 a o) := ⟨fun c u e n => by rw [upd_ne (ne_of_none e h)]; exact g.but c u e n, g.tab.laid h1⟩
theorem tab_ne {H : Hp} {Pt b : Addr} {o : HO} (T : TabOk H Pt lamQ) (e : H b = some o) (ho : ∀ ps, o ≠ .tbl ps) : b ≠ Pt := by
  obtain ⟨ts, q, _⟩ := T
  rintro rfl
  rw [q] at e
  cases e
  exact ho _ rfl
theorem Gr.get {H H' : Hp} {Pt b : Addr} {xs : List V} (g : Gr Pt H H') (T : TabOk H Pt lamQ) (e : H b = some (.lst xs)) : H' b = some (.lst xs) := g.but _ _ e (tab_ne T e fun _ z => nomatch z)
theorem Gr.free {H H' : Hp} {Pt b : Addr} (g : Gr Pt H H') (T : TabOk H Pt lamQ) (e : H' b = none) : H b = none := by
  cases q : H b with
  | none => rfl
  | some o =>
    by_cases hb : b = Pt
    · obtain ⟨ts, z, _⟩ := g.tab
      rw [hb] at e
      rw [e] at z
      cases z
    · rw [g.but b o q hb] at e
      cases e
def spLong (Pt : Addr) : Sp := fun vs H Q _ => ∃ (r m : Addr) (cs ms : List Int), vs = [.ref r, .ref m] ∧ H r = some (.lst (cs.map V.int)) ∧ H m = some (.lst (ms.map V.int)) ∧ cs.length < 64 ∧ (∀ c ∈ cs, 0 ≤ c ∧ c.toNat < ms.length) ∧ TabOk H Pt lamQ ∧
  ∀ (b : Addr) (cs' : List Int) (H' : Hp), Gr Pt H H' → H b = none → H' b = some (.lst (cs'.map V.int)) → Falls ms cs cs' → Q (.ref b) H'
theorem sc_longest_first : FnScope ["row", "marks", "called"] ["row", "marks"] (defScope s_longest_first) := ⟨rfl, rfl, rfl, by decide +kernel, rfl, by decide +kernel, by decide +kernel⟩
theorem ok_longest_first (T : Txt K mg A) (hk : K.In base) (B : BmOk mg base) : FnOk P w K mg base CX0 4 A.f_longest_first A.d_longest_first ["row", "marks"] (spLong A.P_longest_first) := by
  have C : PySem.W.CodeHd base A.c_longest_first A.P_longest_first := PySem.W.codeHd_of_K hk T.hd_longest_first
  refine funC T.f_longest_first T.cd_longest_first sc_longest_first (fun vs H Q E h => ?_) (fun A' outer s H vs Q E hr h => ?_)
  · obtain ⟨r, m, cs, ms, rfl, _⟩ := h
    rfl
  · obtain ⟨r, m, cs, ms, rfl, h1, h2, h64, hix, hT, k⟩ := h
    refine ⟨_, (pss_one (ps_ret (pe_sortK (i := 2) B rfl C rfl sc_longest_first.nd (hr.mono (by decide)) (by rfl) T.n_sorted (lamOk_by (by kernel_rfl)) (pv 0) rfl rfl (fun _ _ _ _ _ => rfl) (fun _ _ _ _ _ _ => (pe_un un_neg (pe_ix (ix_listK K) (pv 1) (pv 2) (fun _ _ => rfl))))))), ?_⟩
    refine ⟨_, rfl, r, cs.map V.int, cs.map (fun c => -at0 ms c), rfl, SqL.of h1, by simpa using h64, by simp, hT, fun H2 T2 B2 => ⟨fun j v k' hv hk' => ?_, fun b ys hb hy hl => ?_⟩⟩
    · obtain ⟨c, hc, rfl⟩ := map_int_get hv
      rw [List.getElem?_map, hc] at hk'
      cases hk'
      have hcb := hix c (List.mem_of_getElem? hc)
      have g : Gr A.P_longest_first H H2 := ⟨B2, T2⟩
      refine ⟨_, rfl, _, rfl, m, ms.map V.int, c, .int (at0 ms c), rfl, rfl, SqL.of (g.get hT h2), at_of (j := c.toNat) (by omega) ?_, at0 ms c, rfl, rfl, rfl⟩
      rw [List.getElem?_map, List.getElem?_eq_getElem hcb.2]
      unfold at0
      rw [List.getD_eq_getElem?_getD, List.getElem?_eq_getElem hcb.2]
      rfl
    · have g : Gr A.P_longest_first H H2 := ⟨B2, T2⟩
      obtain ⟨cs', rfl, hf⟩ := byKey_falls hy
      exact k b cs' _ (g.upd (g.free hT hb) hb) (g.free hT hb) upd_same hf
def vals (ms row : List Int) : List Int := row.zipIdx.map fun q => (q.2 : Int) + 1 + at0 ms q.1
def IsNeed (ms row : List Int) (m : Int) : Prop := (row = [] ∧ m = 0) ∨ (m ∈ vals ms row ∧ ∀ y ∈ vals ms row, y ≤ m)
theorem vals_snoc (ms row : List Int) (c : Int) : vals ms (row ++ [c]) = vals ms row ++ [(row.length : Int) + 1 + at0 ms c] := by
  unfold vals
  rw [List.zipIdx_append, List.map_append]
  simp
theorem vals_length (ms row : List Int) : (vals ms row).length = row.length := by
  unfold vals
  simp
def spNeed : Sp := fun vs H Q _ => ∃ (r m : Addr) (cs ms : List Int), vs = [.ref r, .ref m] ∧ H r = some (.lst (cs.map V.int)) ∧ H m = some (.lst (ms.map V.int)) ∧ cs.length < 64 ∧ (∀ c ∈ cs, 0 ≤ c ∧ c.toNat < ms.length) ∧
  ∀ (n : Int) (H' : Hp), Same H H' → IsNeed ms cs n → Q (.int n) H'
theorem sc_rounds_needed : FnScope ["row", "marks", "at", "called"] ["row", "marks"] (defScope s_rounds_needed) := ⟨rfl, rfl, rfl, by decide +kernel, rfl, by decide +kernel, by decide +kernel⟩
theorem ok_rounds_needed (T : Txt K mg A) : FnOk P w K mg base CX0 1 A.f_rounds_needed A.d_rounds_needed ["row", "marks"] spNeed := by
  refine T.f_rounds_needed.ok sc_rounds_needed (fun vs H Q E h => ?_) (fun cdv A outer s H vs Q E hr h => ?_)
  · obtain ⟨r, m, cs, ms, rfl, _⟩ := h
    rfl
  · obtain ⟨r, m, cs, ms, rfl, h1, h2, h64, hix, k⟩ := h
    refine ⟨_, (pss_one (ps_ret (pe_callBK (ck_maxK K rfl) (by rfl) T.n_max (by decide +kernel) (@pa_cons _ _ _ _ _ (pe_lc (own := [("at", 2), ("called", 3)]) rfl sc_rounds_needed.nd (pi_enum1K K (by rfl) T.n_enumerate (@pa_cons _ _ _ _ _ (pv 0) pa_nil (by rfl))) (blkOk_by (own := [("at", 2), ("called", 3)]) (by kernel_rfl)) (fun _ _ _ _ _ => (pg_tupK K (n := 2) (by rfl) (pgs_cons (pg_name (i := 2) sc_rounds_needed.nd rfl (Or.inl rfl)) (pgs_cons (pg_name (i := 3) sc_rounds_needed.nd rfl (Or.inl rfl)) pgs_nil)))) (fun _ _ _ _ _ => pts_nil) (fun _ _ _ _ _ => (pe_op op_add (pv 2) (pe_ix (ix_listK K) (pv 1) (pv 3) (fun _ _ => rfl))))) pa_nil (by rfl)) (pk_cons pe_int pk_nil)))), ?_⟩
    refine ⟨_, rfl, r, cs.map V.int, rfl, SqL.of h1, fun D hD => ?_⟩
    refine lc_enum1 (K := K) (a := r) (xs := cs.map V.int) (fun i H2 => Same H H2 ∧ H2 D = some (.lst ((vals ms (cs.take i)).map V.int))) ⟨Same.new hD, by rw [upd_same]; rfl⟩ (fun i H2 _ ⟨s2, _⟩ => SqL.of (s2 _ _ h1)) ?_ ?_
    · rintro i x t H2 hi ⟨s2, hd⟩ ht
      obtain ⟨c, hc, rfl⟩ := map_int_get hi
      have hcb := hix c (List.mem_of_getElem? hc)
      have hil : i < cs.length := (List.getElem?_eq_some_iff.mp hc).1
      have hm2 := s2 _ _ h2
      refine ⟨t, _, rfl, SqT.of upd_same, rfl, _, _, rfl, _, _, rfl, rfl, rfl, yesT ?_⟩
      refine ⟨_, rfl, _, rfl, _, rfl, m, ms.map V.int, c, .int (at0 ms c), rfl, rfl, SqL.of (by rw [upd_ne (ne_of_none hm2 ht)]; exact hm2), at_of (j := c.toNat) (by omega) ?_, _, _, rfl, rfl, _, (by rw [upd_ne (ne_of_none hd ht)]; exact hd), ?_, (s2.upd (s2.free ht)).upd hD, ?_⟩
      · rw [List.getElem?_map, List.getElem?_eq_getElem hcb.2]
        unfold at0
        rw [List.getD_eq_getElem?_getD, List.getElem?_eq_getElem hcb.2]
        rfl
      · rw [List.length_map, vals_length, List.length_take]
        exact small1000 (by omega)
      · have elen : (cs.take i).length = i := by
          rw [List.length_take]
          omega
        rw [upd_same, take_snoc hc, vals_snoc, elen, List.map_append]
        rfl
    · rintro H2 ⟨s2, hd⟩
      rw [List.length_map, List.take_length] at hd
      refine ⟨D, vals ms cs, .int 0, rfl, rfl, SqL.of hd, fun e => ?_, fun n hn hmax => ?_⟩
      · refine k 0 H2 s2 (.inl ⟨?_, rfl⟩)
        have : cs.length = 0 := by
          rw [← vals_length ms cs, e]
          rfl
        exact List.length_eq_zero_iff.mp this
      · exact k n H2 s2 (.inr ⟨hn, hmax⟩)
end
end Toy


set_option Elab.async false
set_option linter.all false
set_option maxRecDepth 100000
set_option maxHeartbeats 4000000
namespace Toy
open PySem L2
theorem falls_congr {ms ms' cs cs' : List Int} (h : ∀ c ∈ cs, at0 ms c = at0 ms' c) (f : Falls ms cs cs') : Falls ms' cs cs' := by
  obtain ⟨hp, hs⟩ := f
  refine ⟨hp, hs.imp_of_mem fun {c d} hc hd z => ?_⟩
  rw [← h c (hp.mem_iff.mp hc), ← h d (hp.mem_iff.mp hd)]
  exact z
theorem vals_congr {ms ms' cs : List Int} (h : ∀ c ∈ cs, at0 ms c = at0 ms' c) : vals ms cs = vals ms' cs := by
  unfold vals
  refine List.map_congr_left fun q hq => ?_
  have hm : q.1 ∈ cs := by
    exact List.mem_of_getElem? (List.mem_zipIdx_iff_getElem?.mp hq)
  rw [h q.1 hm]
theorem need_congr {ms ms' cs : List Int} {m : Int} (h : ∀ c ∈ cs, at0 ms c = at0 ms' c) (f : IsNeed ms cs m) : IsNeed ms' cs m := by
  unfold IsNeed at f ⊢
  rw [← vals_congr h]
  exact f
theorem rowOf_mem {us : List Int} (hg : GoodUps us) {p c : Int} (h : c ∈ rowOf us p) : p < c ∧ 0 ≤ c ∧ c ≤ us.length := by
  unfold rowOf at h
  obtain ⟨q, hq, rfl⟩ := List.mem_map.mp h
  obtain ⟨hq1, hq2⟩ := List.mem_filter.mp hq
  have e : us[q.2]? = some q.1 := List.mem_zipIdx_iff_getElem?.mp hq1
  have hp : q.1 = p := by simpa using hq2
  have hb := hg.2 _ _ e
  have hl := (List.getElem?_eq_some_iff.mp e).1
  omega
theorem at0_set_ne {ms : List Int} {j : Nat} {v c : Int} (h : c.toNat ≠ j) : at0 (ms.set j v) c = at0 ms c := by
  unfold at0
  rw [List.getD_eq_getElem?_getD, List.getD_eq_getElem?_getD, List.getElem?_set_ne (Ne.symm h)]
theorem at0_set_eq {ms : List Int} {j : Nat} {v c : Int} (h : c.toNat = j) (hj : j < ms.length) : at0 (ms.set j v) c = v := by
  unfold at0
  rw [List.getD_eq_getElem?_getD, h, List.getElem?_set_self hj]
  rfl
structure BestR (us : List Int) (os : List (List Int)) (ms : List Int) : Prop where
  lo : os.length = us.length + 1
  lm : ms.length = us.length + 1
  row : ∀ (p : Nat) (row : List Int), os[p]? = some row → Falls ms (rowOf us (p : Int)) row ∧ IsNeed ms row (at0 ms (p : Int))
section
variable {P : Program} {w : World} {K : PySem.W.Frag} {mg : Str → Option Value} {base : Heap} {A : Adr}
def spBest (Pt : Addr) : Sp := fun vs H Q _ => ∃ (a : Addr) (us : List Int), vs = [.ref a] ∧ H a = some (.lst (us.map V.int)) ∧ GoodUps us ∧ TabOk H Pt lamQ ∧
  ∀ (t o m : Addr) (rs : List Addr) (os : List (List Int)) (ms : List Int) (H' : Hp), Gr Pt H H' → H' t = some (.tup [.ref o, .ref m]) → H' o = some (.lst (rs.map V.ref)) → LL H' rs os → H' m = some (.lst (ms.map V.int)) → BestR us os ms → Q (.ref t) H'
theorem sc_best_orders : FnScope ["ups", "orders", "marks", "person", "row", "turned"] ["ups"] (defScope s_best_orders) := ⟨rfl, rfl, rfl, by decide +kernel, rfl, by decide +kernel, by decide +kernel⟩
theorem ok_best_orders (T : Txt K mg A) (hk : K.In base) (B : BmOk mg base) : FnOk P w K mg base CX0 5 A.f_best_orders A.d_best_orders ["ups"] (spBest A.P_longest_first) := by
  have G_rows_of := ok_rows_of (P := P) (w := w) (base := base) T
  have G_longest_first := ok_longest_first (P := P) (w := w) T hk B
  have G_rounds_needed := ok_rounds_needed (P := P) (w := w) (base := base) T
  generalize hPt : A.P_longest_first = Pt at G_longest_first
  refine T.f_best_orders.ok sc_best_orders (fun vs H Q E h => ?_) (fun cdv A outer s H vs Q E hr h => ?_)
  · obtain ⟨a, us, rfl, _⟩ := h
    rfl
  · obtain ⟨a, us, rfl, hH, hg, hT, k⟩ := h
    have hg' := id hg
    obtain ⟨hl, hgu⟩ := hg'
    refine ⟨_, (pss_cons (ps_set (i := 1) sc_best_orders.nd rfl (Or.inl rfl) (@pe_lst _ _ _ _ pa_nil))
      (pss_cons (ps_setLc (i := 2) (own := [("person", 3)]) rfl sc_best_orders.nd rfl rfl (sw_true rfl rfl rfl (by decide +kernel)) (pi_range1 (by rfl) T.n_range (@pa_cons _ _ _ _ _ (pe_op op_add (pe_callB (call_len_seqK K) (by rfl) T.n_len PySem.boot_len (@pa_cons _ _ _ _ _ (pv 0) pa_nil (by rfl))) pe_int) pa_nil (by rfl))) (blkOk_by (own := [("person", 3)]) (by kernel_rfl)) (fun _ _ _ _ _ => (pg_name (i := 3) sc_best_orders.nd rfl (Or.inl rfl))) (fun _ _ _ _ _ => pts_nil) (fun _ _ _ _ _ => pe_int))
      (pss_cons (ps_for PassesOwn.never rfl (pi_reversed (by rfl) T.n_reversed (@pa_cons _ _ _ _ _ (pe_listEnum rfl (by rfl) T.n_list (by rfl) T.n_enumerate (pe_call G_rows_of (hr.mono (by decide)) (by rfl) T.m_rows_of T.k_rows_of T.b_rows_of .nil pass0 (@pa_cons _ _ _ _ _ (pv 0) pa_nil (by rfl)))) pa_nil (by rfl))) (pg_tupK K (n := 2) (by rfl) (pgs_cons (pg_name (i := 3) sc_best_orders.nd rfl (Or.inl rfl)) (pgs_cons (pg_name (i := 4) sc_best_orders.nd rfl (Or.inl rfl)) pgs_nil))) (pss_cons (ps_set (i := 5) sc_best_orders.nd rfl (Or.inl rfl) (pe_call G_longest_first (hr.mono (by decide)) (by rfl) T.m_longest_first T.k_longest_first T.b_longest_first .nil pass0 (@pa_cons _ _ _ _ _ (pv 4) (@pa_cons _ _ _ _ _ (pv 2) pa_nil (by rfl)) (by rfl))))
      (pss_cons (ps_asg (pe_call G_rounds_needed (hr.mono (by decide)) (by rfl) T.m_rounds_needed T.k_rounds_needed T.b_rounds_needed .nil pass0 (@pa_cons _ _ _ _ _ (pv 5) (@pa_cons _ _ _ _ _ (pv 2) pa_nil (by rfl)) (by rfl))) (pg_sub (pv 2) (pv 3) set_list))
      (pss_one (ps_expr (pe_bmK K PySem.F.plainAttrs_list PySem.F.slot_list_append PySem.F.type_list_append mt_append (pv 1) (@pa_cons _ _ _ _ _ (pv 5) pa_nil (by rfl))))))))
      (pss_one (ps_ret (@pe_tup _ _ _ _ _ (@pa_cons _ _ _ _ _ (pe_rev (pv 1)) (@pa_cons _ _ _ _ _ (pv 2) pa_nil (by rfl)) (by rfl)))))))), ?_⟩
    refine ⟨Nat.zero_le _, fun o ho => ?_⟩
    have s1 : Same H (upd H o (.lst [])) := Same.new ho
    have hH1 := s1 _ _ hH
    refine ⟨_, rfl, a, us.map V.int, rfl, .inl (SqL.of hH1), _, _, rfl, rfl, _, rfl, ?_, ?_, fun m hm => ?_⟩
    · rw [List.length_map]
      omega
    · rw [List.length_map]
      omega
    have hn : ((((us.map V.int).length : Nat) : Int) + 1).toNat = us.length + 1 := by
      rw [List.length_map]
      omega
    rw [hn]
    have hom : o ≠ m := fun z => by
      rw [← z, upd_same] at hm
      cases hm
    have hmH : H m = none := s1.free hm
    refine lc_range (lo := 0) (n := us.length + 1) (fun i H2 => Same (upd H o (.lst [])) H2 ∧ H2 m = some (.lst ((List.replicate i (0 : Int)).map V.int))) ⟨Same.new hm, upd_same⟩ ?_ ?_
    · rintro i H2 hi ⟨s2, hd⟩
      refine ⟨rfl, yesT ?_⟩
      refine ⟨_, hd, ?_, s2.upd hm, ?_⟩
      · rw [List.length_map, List.length_replicate]
        exact small1000 (by omega)
      · rw [upd_same, List.replicate_succ', List.map_append]
        rfl
    · rintro H2 ⟨s2, hm2⟩
      have sH2 : Same H H2 := s1.trans s2
      have ho2 : H2 o = some (.lst []) := s2 _ _ upd_same
      refine ⟨_, rfl, a, us, rfl, sH2 _ _ hH, hg, fun b rs0 H3 s3 hb hb3 hLL hnew hnd => ?_⟩
      refine ⟨b, rs0.map V.ref, rfl, SqL.of hb3, fun H4 D Ts s4 hTl hTs hD hDn => ?_⟩
      have hN : rs0.length = us.length + 1 := by
        rw [hLL.1]
        unfold rowsOf
        simp
      have hTl : Ts.length = us.length + 1 := by
        rw [hTl, List.length_map, hN]
      refine ⟨D, Ts.map V.ref, rfl, SqL.of hD, ?_⟩
      have s24 : Same H2 H4 := s3.trans s4
      have T4 : TabOk H4 Pt lamQ := tab_same (tab_same hT sH2) s24
      have ho4 := s24 _ _ ho2
      have hm4 := s24 _ _ hm2
      have nD : D ≠ o ∧ D ≠ m := ⟨Ne.symm (ne_of_none (s3 _ _ ho2) hDn), Ne.symm (ne_of_none (s3 _ _ hm2) hDn)⟩
      refine for_rev (K := K) (a := D) (xs := Ts.map V.ref) (fun i σ H5 => ∃ x y z, σ = [some (.ref a), some (.ref o), some (.ref m), x, y, z] ∧ TabOk H5 Pt lamQ ∧ (∀ c u, H4 c = some u → c ≠ o → c ≠ m → c ≠ Pt → H5 c = some u) ∧
          ∃ (ms : List Int) (rs : List Addr) (os : List (List Int)), ms.length = us.length + 1 ∧ H5 m = some (.lst (ms.map V.int)) ∧ H5 o = some (.lst (rs.map V.ref)) ∧ os.length = i ∧ LL H5 rs os ∧ (∀ r ∈ rs, r ≠ o ∧ r ≠ m ∧ r ≠ Pt) ∧
            ∀ (j : Nat) (row : List Int), os[j]? = some row → Falls ms (rowOf us ((us.length - j : Nat) : Int)) row ∧ IsNeed ms row (at0 ms ((us.length - j : Nat) : Int)))
        ⟨none, none, none, rfl, T4, fun c u e _ _ _ => e, List.replicate (us.length + 1) 0, [], [], by simp, hm4, ho4, rfl, ⟨rfl, fun p r os h1 _ => by simp at h1⟩, by simp, fun j row hj => by simp at hj⟩ ?_ ?_ ?_
      · rintro i σ H5 _ ⟨_, _, _, _, T5, kp, _⟩
        exact SqL.of (kp D _ hD nD.1 nD.2 (tab_ne T4 hD fun _ z => nomatch z))
      · rintro i x σ H5 hi hx ⟨x0, y0, z0, rfl, T5, kp, ms, rs, os, hml, hm5, ho5, hol, hLL5, hrs, hrow⟩
        rw [List.length_map, hTl] at hi hx
        have ei : us.length + 1 - 1 - i = us.length - i := by omega
        rw [ei] at hx
        obtain ⟨Tp, hTp, rfl⟩ : ∃ Tp, Ts[us.length - i]? = some Tp ∧ x = .ref Tp := by
          rw [List.getElem?_map] at hx
          cases e : Ts[us.length - i]? with
          | none =>
            rw [e] at hx
            cases hx
          | some z =>
            rw [e] at hx
            exact ⟨z, rfl, (Option.some.inj hx).symm⟩
        obtain ⟨hTn, y, hy, hTv⟩ := hTs _ _ hTp
        obtain ⟨r, hr0, rfl⟩ : ∃ r, rs0[us.length - i]? = some r ∧ y = .ref r := by
          rw [List.getElem?_map] at hy
          cases e : rs0[us.length - i]? with
          | none =>
            rw [e] at hy
            cases hy
          | some z =>
            rw [e] at hy
            exact ⟨z, rfl, (Option.some.inj hy).symm⟩
        have nTp : Tp ≠ o ∧ Tp ≠ m := ⟨Ne.symm (ne_of_none (s3 _ _ ho2) hTn), Ne.symm (ne_of_none (s3 _ _ hm2) hTn)⟩
        have hTp5 := kp Tp _ hTv nTp.1 nTp.2 (tab_ne T4 hTv fun _ z => nomatch z)
        have hrow0 : (rowsOf us)[us.length - i]? = some (rowOf us ((us.length - i : Nat) : Int)) := by
          unfold rowsOf
          rw [List.getElem?_map, List.getElem?_range (by omega)]
          rfl
        have hr3 := hLL.2 _ _ _ hr0 hrow0
        have hr4 := s4 _ _ hr3
        have hrn := (hnew r (List.mem_of_getElem? hr0)).1
        have nr : r ≠ o ∧ r ≠ m := ⟨Ne.symm (ne_of_none ho2 hrn), Ne.symm (ne_of_none hm2 hrn)⟩
        have hr5 := kp r _ hr4 nr.1 nr.2 (tab_ne T4 hr4 fun _ z => nomatch z)
        have nmP : m ≠ Pt := tab_ne T5 hm5 fun _ z => nomatch z
        have noP : o ≠ Pt := tab_ne T5 ho5 fun _ z => nomatch z
        have hix : ∀ c ∈ rowOf us ((us.length - i : Nat) : Int), 0 ≤ c ∧ c.toNat < ms.length := fun c hc => by
          have q := rowOf_mem hg hc
          omega
        refine ⟨Tp, _, rfl, SqT.of hTp5, rfl, _, _, rfl, _, _, rfl, rfl, ?_⟩
        refine ⟨_, rfl, _, rfl, r, m, _, ms, rfl, hr5, hm5, ?_, hix, T5, fun b2 cs' H6 g6 hb2 hb6 hf => ?_⟩
        · have := rowOf_length us ((us.length - i : Nat) : Int)
          omega
        have hm6 := g6.get T5 hm5
        have ho6 := g6.get T5 ho5
        have nb : b2 ≠ o ∧ b2 ≠ m := ⟨Ne.symm (ne_of_none ho5 hb2), Ne.symm (ne_of_none hm5 hb2)⟩
        refine ⟨_, rfl, _, rfl, b2, m, cs', ms, rfl, hb6, hm6, ?_, fun c hc => hix c (hf.1.mem_iff.mp hc), fun v H7 s7 hneed => ?_⟩
        · rw [hf.1.length_eq]
          have := rowOf_length us ((us.length - i : Nat) : Int)
          omega
        have hm7 := s7 _ _ hm6
        have ho7 := s7 _ _ ho6
        refine ⟨_, rfl, _, rfl, m, _, _, us.length - i, rfl, rfl, hm7, ?_, ?_⟩
        · rw [List.length_map, hml]
          unfold ixN
          rw [if_pos (by omega), if_pos (by omega)]
          congr 1
          omega
        have hb7 := s7 _ _ hb6
        refine ⟨_, rfl, .inl ⟨rfl, _, SqL.of (by rw [upd_ne hom]; exact ho7)⟩, _, rfl, o, rs.map V.ref, _, rfl, rfl, (by rw [upd_ne hom]; exact ho7), ?_, ?_⟩
        · rw [List.length_map, hLL5.1, hol]
          exact small1000 (by omega)
        have T7 : TabOk H7 Pt lamQ := tab_same g6.tab s7
        have g57 : ∀ c u, H5 c = some u → c ≠ Pt → H7 c = some u := fun c u e n => s7 _ _ (g6.but c u e n)
        have T8 : TabOk (upd (upd H7 m (.lst ((ms.map V.int).set (us.length - i) (.int v)))) o (.lst (rs.map V.ref ++ [.ref b2]))) Pt lamQ := by
          obtain ⟨ts, e, kc⟩ := T7
          refine ⟨ts, by rw [upd_ne (Ne.symm noP), upd_ne (Ne.symm nmP)]; exact e, fun t ht => ?_⟩
          have q := kc t ht
          rw [upd_ne (fun z => by rw [z, ho7] at q; cases q), upd_ne (fun z => by rw [z, hm7] at q; cases q)]
          exact q
        refine ⟨_, _, _, rfl, T8, fun c u e n1 n2 n3 => ?_, ms.set (us.length - i) v, rs ++ [b2], os ++ [cs'], ?_, ?_, ?_, ?_, ⟨?_, fun p r' row hp ho' => ?_⟩, fun r' hr' => ?_, fun j row hj => ?_⟩
        · rw [upd_ne n1, upd_ne n2]
          exact g57 c u (kp c u e n1 n2 n3) n3
        · rw [List.length_set, hml]
        · rw [upd_ne (Ne.symm hom), upd_same, List.map_set]
        · rw [upd_same, List.map_append]
          rfl
        · rw [List.length_append, hol]
          rfl
        · rw [List.length_append, List.length_append, hLL5.1]
          rfl
        · by_cases hpi : p < rs.length
          · rw [List.getElem?_append_left hpi] at hp
            rw [List.getElem?_append_left (by rw [← hLL5.1]; exact hpi)] at ho'
            obtain ⟨n1, n2, n3⟩ := hrs r' (List.mem_of_getElem? hp)
            rw [upd_ne n1, upd_ne n2]
            exact g57 _ _ (hLL5.2 p r' row hp ho') n3
          · rw [List.getElem?_append_right (by omega)] at hp
            rw [List.getElem?_append_right (by rw [← hLL5.1]; omega)] at ho'
            have ep : p - rs.length = 0 := by
              have := (List.getElem?_eq_some_iff.mp hp).1
              simp at this
              omega
            rw [ep] at hp
            rw [← hLL5.1, ep] at ho'
            have e1 : b2 = r' := by simpa using hp
            have e2 : cs' = row := by simpa using ho'
            subst e1 e2
            rw [upd_ne nb.1, upd_ne nb.2]
            exact hb7
        · rcases List.mem_append.mp hr' with h1 | h1
          · exact hrs r' h1
          · obtain rfl := List.mem_singleton.mp h1
            exact ⟨nb.1, nb.2, tab_ne T7 hb7 fun _ z => nomatch z⟩
        · have same : ∀ (q : Nat), us.length - i ≤ q → ∀ c ∈ rowOf us (q : Int), at0 ms c = at0 (ms.set (us.length - i) v) c := fun q hq c hc => by
            have z := rowOf_mem hg hc
            rw [at0_set_ne (by omega)]
          by_cases hji : j < os.length
          · rw [List.getElem?_append_left hji] at hj
            obtain ⟨f1, f2⟩ := hrow j row hj
            have sm := same (us.length - j) (by omega)
            refine ⟨falls_congr sm f1, ?_⟩
            have e1 : at0 (ms.set (us.length - i) v) ((us.length - j : Nat) : Int) = at0 ms ((us.length - j : Nat) : Int) := at0_set_ne (by omega)
            rw [e1]
            exact need_congr (fun c hc => sm c (f1.1.mem_iff.mp hc)) f2
          · rw [List.getElem?_append_right (by omega)] at hj
            have ej : j - os.length = 0 := by
              have := (List.getElem?_eq_some_iff.mp hj).1
              simp at this
              omega
            rw [ej] at hj
            have e2 : cs' = row := by simpa using hj
            have ejj : j = i := by omega
            subst e2 ejj
            have sm := same (us.length - j) (Nat.le_refl _)
            refine ⟨falls_congr sm hf, ?_⟩
            have e1 : at0 (ms.set (us.length - j) v) ((us.length - j : Nat) : Int) = v := at0_set_eq (by omega) (by omega)
            rw [e1]
            exact need_congr (fun c hc => sm c (hf.1.mem_iff.mp hc)) hneed
      · rintro σ H5 ⟨x0, y0, z0, rfl, T5, kp, ms, rs, os, hml, hm5, ho5, hol, hLL5, hrs, hrow⟩
        rw [List.length_map, hTl] at hol
        refine ⟨_, rfl, o, rs.map V.ref, rfl, SqL.of ho5, fun q hq => ⟨_, rfl, (by show 2 ≤ sizeLine; decide), fun t ht => ?_⟩⟩
        have gH4 : ∀ c u, H c = some u → c ≠ Pt → H5 c = some u := fun c u e n => kp c u (s24 _ _ (sH2 _ _ e)) (ne_of_none e ho) (ne_of_none e hmH) n
        have g5 : Gr Pt H H5 := ⟨gH4, T5⟩
        have g6 := g5.upd (o := .lst (rs.map V.ref).reverse) (g5.free hT hq) hq
        have hq2 : H5 t = none := by
          by_cases z : t = q
          · rw [z, upd_same] at ht
            cases ht
          · rw [upd_ne z] at ht
            exact ht
        have g7 := g6.upd (o := .tup [.ref q, .ref m]) (g5.free hT hq2) ht
        have ntq : q ≠ t := fun z => by
          rw [← z, upd_same] at ht
          cases ht
        have nt : ∀ {b u}, H5 b = some u → b ≠ t ∧ b ≠ q := fun {b u} e => ⟨ne_of_none e hq2, ne_of_none e hq⟩
        refine k t q m rs.reverse os.reverse ms _ g7 upd_same ?_ ⟨?_, fun p r row hp ho' => ?_⟩ ?_ ⟨?_, hml, fun p row hp => ?_⟩
        · rw [upd_ne ntq, upd_same, List.map_reverse]
        · rw [List.length_reverse, List.length_reverse, hLL5.1]
        · have hpl : p < rs.length := by
            have := (List.getElem?_eq_some_iff.mp hp).1
            rwa [List.length_reverse] at this
          rw [List.getElem?_reverse hpl] at hp
          rw [List.getElem?_reverse (by rw [← hLL5.1]; exact hpl), ← hLL5.1] at ho'
          have e := hLL5.2 _ _ _ hp ho'
          rw [upd_ne (nt e).1, upd_ne (nt e).2]
          exact e
        · rw [upd_ne (nt hm5).1, upd_ne (nt hm5).2]
          exact hm5
        · rw [List.length_reverse, hol]
        · have hpl : p < os.length := by
            have := (List.getElem?_eq_some_iff.mp hp).1
            rwa [List.length_reverse] at this
          rw [List.getElem?_reverse hpl] at hp
          have q := hrow _ _ hp
          have e : us.length - (os.length - 1 - p) = p := by omega
          rw [e] at q
          exact q
end
end Toy


set_option Elab.async false
set_option linter.all false
set_option maxRecDepth 100000
set_option maxHeartbeats 4000000
namespace Toy
open PySem L2
theorem FnOk.either {P : Program} {w : World} {K : PySem.W.Frag} {mg : Str → Option Value} {base : Heap} {CX : CXT} {k : Nat} {f : Addr} {fd : FuncData} {ps : List Str} {sp sp' : Sp} (F : FnOk P w K mg base CX k f fd ps sp) (F' : FnOk P w K mg base CX k f fd ps sp') :
    FnOk P w K mg base CX k f fd ps (fun vs H Q E => sp vs H Q E ∨ sp' vs H Q E) :=
  ⟨fun vs H Q E q => q.elim (F.len vs H Q E) (F'.len vs H Q E), fun A outer s H args us vs Q E hr he hb hv hs => hs.elim (F.run A outer s H args us vs Q E hr he hb hv) (F'.run A outer s H args us vs Q E hr he hb hv)⟩
section
variable {P : Program} {w : World} {K : PySem.W.Frag} {mg : Str → Option Value} {base : Heap} {A : Adr}
def spCopyL : Sp := fun vs H Q _ => ∃ (a : Addr) (rs : List Addr) (oss : List (List Int)), vs = [.ref a] ∧ H a = some (.lst (rs.map V.ref)) ∧ LL H rs oss ∧ rs.length < 1000 ∧
  ∀ (b : Addr) (rs' : List Addr) (H' : Hp), Same H H' → H b = none → H' b = some (.lst (rs'.map V.ref)) → LL H' rs' oss → (∀ r ∈ rs', H r = none ∧ r ≠ b) → rs'.Nodup → Q (.ref b) H'
theorem ok_copiedL (T : Txt K mg A) : FnOk P w K mg base CX0 1 A.f_copied A.d_copied ["thing"] spCopyL := by
  refine T.f_copied.ok sc_copied (fun vs H Q E h => ?_) (fun cdv A outer s H vs Q E hr h => ?_)
  · obtain ⟨a, rs, oss, rfl, _⟩ := h
    rfl
  · obtain ⟨a, rs, oss, rfl, hH, hL, hl, k⟩ := h
    refine ⟨_, (pss_cons (ps_if (pt_not (pt_val (pe_callB (cr_isiK K) (by rfl) T.n_isinstance (by decide +kernel) (@pa_cons _ _ _ _ _ (pv 0) (@pa_cons _ _ _ _ _ (pe_bltn (v := .ty "list") (by rfl) T.n_list (by decide +kernel) rfl) pa_nil (by rfl)) (by rfl))))) (pss_one (ps_ret (pv 0))) pss_nil)
      (pss_one (ps_ret (pe_lc (own := [("part", 1)]) rfl sc_copied.nd (pi_listK K (pv 0)) (blkOk_by (own := [("part", 1)]) (by kernel_rfl)) (fun _ _ _ _ _ => (pg_name (i := 1) sc_copied.nd rfl (Or.inl rfl))) (fun _ _ _ _ _ => pts_nil) (fun _ _ _ _ _ => (pe_ifExp (pt_val (pe_callB (cr_isiK K) (by rfl) T.n_isinstance (by decide +kernel) (@pa_cons _ _ _ _ _ (pv 1) (@pa_cons _ _ _ _ _ (pe_bltn (v := .ty "list") (by rfl) T.n_list (by decide +kernel) rfl) pa_nil (by rfl)) (by rfl)))) (pe_callTy (call_list_ofK K) (by rfl) T.n_list (by decide +kernel) (@pa_cons _ _ _ _ _ (pv 1) pa_nil (by rfl))) (pv 1))))))), ?_⟩
    refine ⟨_, rfl, .ref a, .ty "list", _, true, rfl, .lst hH, (fun u hu => kitL hu), true, rfl, iteF ?_⟩
    refine ⟨_, rfl, a, rfl, ⟨_, SqL.of hH⟩, fun D hD => ?_⟩
    refine lc_list (K := K) (a := a) (xs := rs.map V.ref) (fun i H2 => Same H H2 ∧ ∃ rs' : List Addr, H2 D = some (.lst (rs'.map V.ref)) ∧ LL H2 rs' (oss.take i) ∧ (∀ r ∈ rs', H r = none ∧ r ≠ D) ∧ rs'.Nodup)
      ⟨Same.new hD, [], upd_same, ⟨by simp, fun p r os h1 _ => by simp at h1⟩, by simp, List.nodup_nil⟩ (fun i H2 _ ⟨s2, _⟩ => SqL.of (s2 _ _ hH)) ?_ ?_
    · rintro i x H2 hi ⟨s2, rs', hd, hL', hn', hnd⟩
      obtain ⟨r, hr0, rfl⟩ := ref_get hi
      have hil : i < rs.length := (List.getElem?_eq_some_iff.mp hr0).1
      obtain ⟨os, ho⟩ : ∃ os, oss[i]? = some os := ⟨_, List.getElem?_eq_getElem (by rw [← hL.1]; exact hil)⟩
      have hr2 := s2 _ _ (hL.2 i r os hr0 ho)
      have hlen' : rs'.length = i := by
        rw [hL'.1, List.length_take, ← hL.1]
        omega
      refine ⟨rfl, yesT ?_⟩
      refine ⟨_, rfl, .ref r, .ty "list", _, true, rfl, .lst hr2, (fun u hu => kitL hu), true, rfl, iteT ?_⟩
      refine ⟨_, rfl, r, _, rfl, .inl (SqL.of hr2), fun q hq => ⟨rs'.map V.ref, ?_, ?_, (s2.upd (s2.free hq)).upd hD, rs' ++ [q], ?_, ⟨?_, ?_⟩, ?_, ?_⟩⟩
      · rw [upd_ne (ne_of_none hd hq)]
        exact hd
      · rw [List.length_map]
        exact small1000 (by omega)
      · rw [upd_same, List.map_append]
        rfl
      · rw [take_snoc ho, List.length_append, List.length_append, hL'.1]
        rfl
      · intro p r' os' hp ho'
        rw [take_snoc ho] at ho'
        have nq : q ≠ D := Ne.symm (ne_of_none hd hq)
        by_cases hpi : p < rs'.length
        · rw [List.getElem?_append_left hpi] at hp
          rw [List.getElem?_append_left (by rw [← hL'.1]; exact hpi)] at ho'
          have e := hL'.2 p r' os' hp ho'
          rw [upd_ne (hn' r' (List.mem_of_getElem? hp)).2, upd_ne (ne_of_none e hq)]
          exact e
        · rw [List.getElem?_append_right (by omega)] at hp
          rw [List.getElem?_append_right (by rw [← hL'.1]; omega), ← hL'.1] at ho'
          have ep : p - rs'.length = 0 := by
            have := (List.getElem?_eq_some_iff.mp hp).1
            simp at this
            omega
          rw [ep] at hp ho'
          have e1 : q = r' := by simpa using hp
          have e2 : os = os' := by simpa using ho'
          subst e1 e2
          rw [upd_ne nq, upd_same]
      · intro r' hr'
        rcases List.mem_append.mp hr' with h1 | h1
        · exact hn' r' h1
        · obtain rfl := List.mem_singleton.mp h1
          exact ⟨s2.free hq, Ne.symm (ne_of_none hd hq)⟩
      · refine nd_snoc hnd fun h1 => ?_
        obtain ⟨p, hp⟩ := List.getElem?_of_mem h1
        obtain ⟨os', ho'⟩ : ∃ os', (oss.take i)[p]? = some os' := ⟨_, List.getElem?_eq_getElem (by rw [← hL'.1]; exact (List.getElem?_eq_some_iff.mp hp).1)⟩
        rw [hL'.2 p q os' hp ho'] at hq
        cases hq
    · rintro H2 ⟨s2, rs', hd, hL', hn', hnd⟩
      rw [List.length_map, hL.1, List.take_length] at hL'
      exact k D rs' H2 s2 hD hd hL' hn' hnd
theorem ok_copied (T : Txt K mg A) : FnOk P w K mg base CX0 1 A.f_copied A.d_copied ["thing"] (fun vs H Q E => spCopyI vs H Q E ∨ spCopyL vs H Q E) := FnOk.either (ok_copiedI T) (ok_copiedL T)
abbrev fldF (o m : Addr) : List (Str × V) := [("orders", .ref o), ("marks", .ref m)]
def spFInit (C : Addr) : Sp := fun vs H Q _ => ∃ (x dx o m : Addr) (rs : List Addr) (os : List (List Int)) (ms : List Int), vs = [.ref x, .ref o, .ref m] ∧ H x = some (.ins C dx []) ∧ H o = some (.lst (rs.map V.ref)) ∧ LL H rs os ∧ rs.length < 1000 ∧ H m = some (.lst (ms.map V.int)) ∧ ms.length < 1000 ∧
  ∀ (o' m' : Addr) (rs' : List Addr) (H' : Hp), (∀ b u, H b = some u → b ≠ x → H' b = some u) → H' x = some (.ins C dx (fldF o' m')) → H' o' = some (.lst (rs'.map V.ref)) → LL H' rs' os → H' m' = some (.lst (ms.map V.int)) → Q .non H'
theorem sc_Fewest_init : FnScope ["self", "orders", "marks"] ["self", "orders", "marks"] (defScope s_Fewest_init) := ⟨rfl, rfl, rfl, by decide +kernel, rfl, by decide +kernel, by decide +kernel⟩
theorem put2 (o' m' : Addr) : putF "marks" (V.ref m') (putF "orders" (V.ref o') []) = fldF o' m' := by
  have hne : ¬ (("orders" : Str) = "marks") := by decide +kernel
  show (if ("orders" : Str) = "marks" then _ else (("orders" : Str), V.ref o') :: putF "marks" (V.ref m') []) = fldF o' m'
  rw [if_neg hne]
  rfl
theorem ok_Fewest_init (T : Txt K mg A) : FnOk P w K mg base CX0 2 A.f_Fewest_init A.d_Fewest_init ["self", "orders", "marks"] (spFInit A.C_Fewest) := by
  have G_copied := ok_copied (P := P) (w := w) (base := base) T
  refine T.f_Fewest_init.ok sc_Fewest_init (fun vs H Q E h => ?_) (fun cdv A' outer s H vs Q E hr h => ?_)
  · obtain ⟨x, dx, o, m, rs, os, ms, rfl, _⟩ := h
    rfl
  · obtain ⟨x, dx, o, m, rs, os, ms, rfl, hx, ho, hL, hl, hm, hml, k⟩ := h
    refine ⟨_, (pss_cons (ps_fld (pv 0) (pe_call G_copied (hr.mono (by decide)) (by rfl) T.m_copied T.k_copied T.b_copied .nil pass0 (@pa_cons _ _ _ _ _ (pv 1) pa_nil (by rfl))) rfl)
      (pss_one (ps_fld (pv 0) (pe_call G_copied (hr.mono (by decide)) (by rfl) T.m_copied T.k_copied T.b_copied .nil pass0 (@pa_cons _ _ _ _ _ (pv 2) pa_nil (by rfl))) rfl))), ?_⟩
    have nx : ∀ {b xs}, H b = some (.lst xs) → b ≠ x := fun {b xs} e z => by
      rw [z, hx] at e
      cases e
    refine ⟨_, rfl, .inr ⟨o, rs, os, rfl, ho, hL, hl, fun o' rs' H1 s1 hon ho' hL' hn' hnd => ?_⟩⟩
    have hx1 := s1 _ _ hx
    refine ⟨_, rfl, x, A.C_Fewest, dx, [], rfl, hx1, T.cl_Fewest, T.na_Fewest_orders, (by show 0 < 1000; decide), ?_⟩
    have hm1 : (upd H1 x (.ins A.C_Fewest dx (putF "orders" (.ref o') []))) m = some (.lst (ms.map V.int)) := by
      rw [upd_ne (nx hm)]
      exact s1 _ _ hm
    refine ⟨_, rfl, .inl ⟨m, ms, rfl, hm1, hml, fun m' H2 s2 hmn hm' => ?_⟩⟩
    have hx2 := s2 _ _ (upd_same (H := H1) (a := x) (o := .ins A.C_Fewest dx (putF "orders" (.ref o') [])))
    refine ⟨_, rfl, x, A.C_Fewest, dx, _, rfl, hx2, T.cl_Fewest, T.na_Fewest_marks, (by show 1 < 1000; decide), ?_⟩
    have nxo : o' ≠ x := Ne.symm (ne_of_none hx hon)
    have nxm : m' ≠ x := fun z => by
      rw [z, upd_same] at hmn
      cases hmn
    have up : ∀ {b u}, H1 b = some u → b ≠ x → (upd H2 x (.ins A.C_Fewest dx (putF "marks" (.ref m') (putF "orders" (.ref o') [])))) b = some u := fun {b u} e n => by
      rw [upd_ne n]
      exact s2 _ _ (by rw [upd_ne n]; exact e)
    refine k o' m' rs' _ (fun b u e n => up (s1 _ _ e) n) ?_ (up ho' nxo) ⟨hL'.1, fun p r row hp hr' => up (hL'.2 p r row hp hr') ?_⟩ ?_
    · rw [upd_same, put2]
    · exact Ne.symm (ne_of_none hx (hn' r (List.mem_of_getElem? hp)).1)
    · rw [upd_ne nxm]
      exact hm'
def spFewest (Pt C : Addr) : Sp := fun vs H Q _ => ∃ (a : Addr) (us : List Int), vs = [.ref a] ∧ H a = some (.lst (us.map V.int)) ∧ GoodUps us ∧ TabOk H Pt lamQ ∧
  ∀ (x dx o m : Addr) (rs : List Addr) (os : List (List Int)) (ms : List Int) (H' : Hp), Gr Pt H H' → H' x = some (.ins C dx (fldF o m)) → H' o = some (.lst (rs.map V.ref)) → LL H' rs os → H' m = some (.lst (ms.map V.int)) → BestR us os ms → Q (.ref x) H'
theorem sc_fewest : FnScope ["ups", "orders", "marks"] ["ups"] (defScope s_fewest) := ⟨rfl, rfl, rfl, by decide +kernel, rfl, by decide +kernel, by decide +kernel⟩
theorem ok_fewest (T : Txt K mg A) (hk : K.In base) (B : BmOk mg base) : FnOk P w K mg base CX0 6 A.f_fewest A.d_fewest ["ups"] (spFewest A.P_longest_first A.C_Fewest) := by
  have G_take_ups := ok_take_ups (P := P) (w := w) (base := base) T
  have G_best_orders := ok_best_orders (P := P) (w := w) T hk B
  have G_Fewest_init := ok_Fewest_init (P := P) (w := w) (base := base) T
  refine T.f_fewest.ok sc_fewest (fun vs H Q E h => ?_) (fun cdv A' outer s H vs Q E hr h => ?_)
  · obtain ⟨a, us, rfl, _⟩ := h
    rfl
  · obtain ⟨a, us, rfl, hH, hg, hT, k⟩ := h
    refine ⟨_, (pss_cons (ps_asg (pe_call G_best_orders (hr.mono (by decide)) (by rfl) T.m_best_orders T.k_best_orders T.b_best_orders .nil pass0 (@pa_cons _ _ _ _ _ (pe_call G_take_ups (hr.mono (by decide)) (by rfl) T.m_take_ups T.k_take_ups T.b_take_ups .nil pass0 (@pa_cons _ _ _ _ _ (pv 0) pa_nil (by rfl))) pa_nil (by rfl))) (pg_tupK K (n := 2) (by rfl) (pgs_cons (pg_name (i := 1) sc_fewest.nd rfl (Or.inl rfl)) (pgs_cons (pg_name (i := 2) sc_fewest.nd rfl (Or.inl rfl)) pgs_nil))))
      (pss_one (ps_ret (pe_make T.k_Fewest G_Fewest_init (hr.mono (by decide)) (by rfl) T.c_Fewest T.b_Fewest_init .nil pass0 (@pa_cons _ _ _ _ _ (pv 1) (@pa_cons _ _ _ _ _ (pv 2) pa_nil (by rfl)) (by rfl)))))), ?_⟩
    refine ⟨_, rfl, a, us, rfl, hH, hg, fun b H1 s1 hbn hb => ?_⟩
    have T1 := tab_same hT s1
    refine ⟨b, us, rfl, hb, hg, T1, fun t o m rs os ms H2 g2 ht ho hL hm hB => ?_⟩
    refine ⟨t, _, rfl, SqT.of ht, rfl, _, _, rfl, _, _, rfl, rfl, ?_⟩
    refine ⟨_, rfl, _, rfl, fun x dx hx hdx ndx => ?_⟩
    have up : ∀ {c u}, H2 c = some u → (upd (upd H2 dx (.own x)) x (.ins A.C_Fewest dx [])) c = some u := fun {c u} e => by
      rw [upd_ne (ne_of_none e hx), upd_ne (ne_of_none e hdx)]
      exact e
    have hrl : rs.length < 1000 := by
      rw [hL.1, hB.lo]
      have := hg.1
      omega
    have hml : ms.length < 1000 := by
      rw [hB.lm]
      have := hg.1
      omega
    refine ⟨x, dx, o, m, rs, os, ms, rfl, upd_same, up ho, ⟨hL.1, fun p r row hp hr' => up (hL.2 p r row hp hr')⟩, hrl, up hm, hml, fun o' m' rs' H3 kp hx3 ho3 hL3 hm3 => ⟨rfl, ?_⟩⟩
    have g02 : Gr A.P_longest_first H H2 := (Gr.of hT s1).trans g2
    have kp2 : ∀ {c u}, H2 c = some u → H3 c = some u := fun {c u} e => kp c u (up e) (ne_of_none e hx)
    have g3 : Gr A.P_longest_first H H3 := ⟨fun c u e n => kp2 (g02.but c u e n), tab_same g02.tab fun c u e => kp2 e⟩
    exact k x dx o' m' rs' os ms H3 g3 hx3 ho3 hL3 hm3 hB
end
end Toy

set_option Elab.async false
set_option linter.all false
set_option maxRecDepth 100000
set_option maxHeartbeats 4000000
namespace Toy
open PySem L2
theorem rowOf_iff {us : List Int} {p x : Int} : x ∈ rowOf us p ↔ ∃ j : Nat, us[j]? = some p ∧ x = j + 1 := by
  unfold rowOf
  constructor
  · intro h
    obtain ⟨q, hq, rfl⟩ := List.mem_map.mp h
    obtain ⟨hq1, hq2⟩ := List.mem_filter.mp hq
    have hp : q.1 = p := by simpa using hq2
    exact ⟨q.2, by rw [← hp]; exact List.mem_zipIdx_iff_getElem?.mp hq1, rfl⟩
  · rintro ⟨j, hj, rfl⟩
    exact List.mem_map.mpr ⟨(p, j), List.mem_filter.mpr ⟨List.mem_zipIdx_iff_getElem?.mpr hj, by simp⟩, rfl⟩
theorem rowOf_asc (p : Int) : ∀ us : List Int, (rowOf us p).Pairwise (· < ·) ∧ ∀ x ∈ rowOf us p, x ≤ us.length := by
  intro us
  have key : ∀ (n : Nat) (us : List Int), us.length = n → (rowOf us p).Pairwise (· < ·) ∧ ∀ x ∈ rowOf us p, x ≤ us.length := by
    intro n
    induction n with
    | zero =>
      intro us h
      rw [List.length_eq_zero_iff.mp h]
      exact ⟨List.Pairwise.nil, by simp [rowOf_nil]⟩
    | succ n ih =>
      intro us h
      obtain ⟨ys, y, rfl⟩ : ∃ ys y, us = ys ++ [y] := ⟨us.dropLast, us.getLast (by intro z; rw [z] at h; cases h), (List.dropLast_concat_getLast _).symm⟩
      rw [List.length_append] at h
      have h : ys.length = n := by simpa using h
      obtain ⟨i1, i2⟩ := ih ys h
      rw [rowOf_snoc]
      by_cases e : y = p
      · rw [if_pos e]
        refine ⟨List.pairwise_append.mpr ⟨i1, by simp, fun a ha b hb => ?_⟩, fun x hx => ?_⟩
        · rw [List.mem_singleton.mp hb]
          have := i2 a ha
          omega
        · rw [List.length_append]
          rcases List.mem_append.mp hx with hx | hx
          · have := i2 x hx
            show x ≤ ((ys.length + 1 : Nat) : Int)
            omega
          · rw [List.mem_singleton.mp hx]
            show _ ≤ ((ys.length + 1 : Nat) : Int)
            omega
      · rw [if_neg e, List.append_nil]
        refine ⟨i1, fun x hx => ?_⟩
        have := i2 x hx
        rw [List.length_append]
        show x ≤ ((ys.length + 1 : Nat) : Int)
        omega
  exact key us.length us rfl
theorem best_mem {us : List Int} {os : List (List Int)} {ms : List Int} (hB : BestR us os ms) {p : Nat} {row : List Int} (hp : os[p]? = some row) {x : Int} : x ∈ row ↔ ∃ j : Nat, us[j]? = some (p : Int) ∧ x = j + 1 := by
  rw [(hB.row p row hp).1.1.mem_iff]
  exact rowOf_iff
theorem best_good {us : List Int} {os : List (List Int)} {ms : List Int} (hg : GoodUps us) (hB : BestR us os ms) : GoodO os := by
  have hl := hB.lo
  have h39 := hg.1
  refine ⟨by omega, by omega, fun x hx => ?_, ?_, fun S hS0 hS x h0 h1 => ?_⟩
  · obtain ⟨row, hr, hxr⟩ := List.mem_flatten.mp hx
    obtain ⟨q, hq⟩ := List.getElem?_of_mem hr
    obtain ⟨j, hj, rfl⟩ := (best_mem hB hq).mp hxr
    have := (List.getElem?_eq_some_iff.mp hj).1
    omega
  · refine List.pairwise_flatten.mpr ⟨fun row hr => ?_, ?_⟩
    · obtain ⟨q, hq⟩ := List.getElem?_of_mem hr
      exact (hB.row q row hq).1.1.nodup_iff.mpr (asc_nodup (rowOf_asc q us).1)
    · refine List.pairwise_iff_getElem.mpr fun i j hi hj hij x hx y hy z => ?_
      obtain ⟨j1, e1, f1⟩ := (best_mem hB (List.getElem?_eq_getElem hi)).mp hx
      obtain ⟨j2, e2, f2⟩ := (best_mem hB (List.getElem?_eq_getElem hj)).mp hy
      have : j1 = j2 := by omega
      rw [this, e2] at e1
      have := Option.some.inj e1
      omega
  · have key : ∀ n : Nat, n < os.length → S n := by
      intro n
      induction n using Nat.strongRecOn with
      | ind n ih =>
        intro hn
        cases n with
        | zero => exact hS0
        | succ j =>
          have hj : us[j]? = some us[j] := List.getElem?_eq_getElem (by omega)
          obtain ⟨u0, u1⟩ := hg.2 j _ hj
          have hu : us[j].toNat < os.length := by omega
          have hSu := ih us[j].toNat (by omega) hu
          refine hS us[j].toNat _ (List.getElem?_eq_getElem hu) hSu _ ((best_mem hB (List.getElem?_eq_getElem hu)).mpr ⟨j, ?_, by omega⟩)
          rw [hj, Int.toNat_of_nonneg u0]
    have := key x.toNat (by omega)
    rwa [Int.toNat_of_nonneg h0] at this
theorem vals_cons (ms : List Int) (x : Int) (rest : List Int) : vals ms (x :: rest) = (1 + at0 ms x) :: (vals ms rest).map (· + 1) := by
  unfold vals
  rw [List.zipIdx_cons', List.map_cons, List.map_map, List.map_map]
  refine List.cons_eq_cons.mpr ⟨by simp, List.map_congr_left fun q _ => ?_⟩
  show ((q.2 + 1 : Nat) : Int) + 1 + at0 ms q.1 = (q.2 : Int) + 1 + at0 ms q.1 + 1
  omega
theorem best_nonneg {us : List Int} {os : List (List Int)} {ms : List Int} (hg : GoodUps us) (hB : BestR us os ms) : ∀ p : Nat, p < os.length → 0 ≤ at0 ms p := by
  have hl := hB.lo
  have key : ∀ (n p : Nat), os.length - p ≤ n → p < os.length → 0 ≤ at0 ms p := by
    intro n
    induction n with
    | zero =>
      intro p h1 h2
      omega
    | succ n ih =>
      intro p h1 h2
      rcases (hB.row p _ (List.getElem?_eq_getElem h2)).2 with ⟨_, e⟩ | ⟨e, _⟩
      · omega
      · unfold vals at e
        obtain ⟨q, hq, e⟩ := List.mem_map.mp e
        have hm : q.1 ∈ os[p] := List.mem_of_getElem? (List.mem_zipIdx_iff_getElem?.mp hq)
        obtain ⟨j, hj, f⟩ := (best_mem hB (List.getElem?_eq_getElem h2)).mp hm
        have hjl := (List.getElem?_eq_some_iff.mp hj).1
        have := hg.2 j _ hj
        have := ih (j + 1) (by omega) (by omega)
        rw [f] at e
        have e2 : ((j : Int) + 1) = ((j + 1 : Nat) : Int) := by omega
        rw [e2] at e
        omega
  intro p hp
  exact key _ p (Nat.le_refl _) hp
theorem fold_rows {os : List (List Int)} {rows0 : Rws} (g : GoodO os) : ∀ (cs : List Int) (st : List Call × Rws) (Cl : List Int), Wk os [] st.2 Cl → cs.Nodup → (∀ c ∈ cs, ∃ (p : Nat) (x : Int) (rest : List Int), c = p ∧ rows0[p]? = some (some (x :: rest)) ∧ st.2[p]? = some (some (x :: rest))) →
    (∀ (p : Nat) (l : List Int), st.2[p]? = some (some l) → (p : Int) ∉ cs → (cs.foldl (stepP os rows0 []) st).2[p]? = some (some l)) ∧
    (∀ (p : Nat) (x : Int) (rest : List Int), (p : Int) ∈ cs → rows0[p]? = some (some (x :: rest)) → (cs.foldl (stepP os rows0 []) st).2[p]? = some (some rest) ∧ (cs.foldl (stepP os rows0 []) st).2[x.toNat]? = some (some (ch os x))) ∧
    ∀ p : Nat, (cs.foldl (stepP os rows0 []) st).2[p]? = st.2[p]? ∨ (p : Int) ∈ cs ∨ ∃ (q : Nat) (x : Int) (rest : List Int), rows0[q]? = some (some (x :: rest)) ∧ (cs.foldl (stepP os rows0 []) st).2[p]? = some (some (ch os x)) ∧ p = x.toNat
  | [], st, Cl, w, _, _ => ⟨fun p l h _ => h, by simp, fun p => .inl rfl⟩
  | c :: r, st, Cl, w, hn, hc => by
    obtain ⟨hcr, hnr⟩ := List.nodup_cons.mp hn
    obtain ⟨p, x, rest, rfl, h0, h2⟩ := hc _ List.mem_cons_self
    obtain ⟨xC, noX, _, wB⟩ := w.call g h2
    have hpl := (List.getElem?_eq_some_iff.mp h2).1
    obtain ⟨x0, x1, _⟩ := (w.wc.row p _ h2).2 x List.mem_cons_self
    have hxl : x.toNat < st.2.length := by rw [w.len]; omega
    have npx : p ≠ x.toNat := fun z => noX _ (by rw [← z]; exact h2)
    have hgd : rows0.getD ((p : Int)).toNat none = some (x :: rest) := by
      rw [Int.toNat_natCast, List.getD_eq_getElem?_getD, h0]
      rfl
    rw [List.foldl_cons]
    have e : stepP os rows0 [] st p = (st.1 ++ [((p : Int), x, true)], (st.2.set p (some rest)).set x.toNat (some (ch os x))) := by
      unfold stepP
      rw [if_neg (by simp), hgd]
      simp only [if_neg (show ¬ x ∈ ([] : List Int) by simp), Int.toNat_natCast]
    rw [e]
    have hp1 : ((st.2.set p (some rest)).set x.toNat (some (ch os x)))[p]? = some (some rest) := by
      rw [List.getElem?_set_ne (fun z => npx z.symm), List.getElem?_set_self hpl]
    have hx1 : ((st.2.set p (some rest)).set x.toNat (some (ch os x)))[x.toNat]? = some (some (ch os x)) := List.getElem?_set_self (by rw [List.length_set]; exact hxl)
    have ho1 : ∀ q : Nat, q ≠ p → q ≠ x.toNat → ((st.2.set p (some rest)).set x.toNat (some (ch os x)))[q]? = st.2[q]? := fun q h1 h3 => by
      rw [List.getElem?_set_ne (fun z => h3 z.symm), List.getElem?_set_ne (fun z => h1 z.symm)]
    obtain ⟨iC, iB, iA⟩ := fold_rows g r (st.1 ++ [((p : Int), x, true)], (st.2.set p (some rest)).set x.toNat (some (ch os x))) (Cl ++ [x]) (wB (by simp)) hnr fun c hcm => by
      obtain ⟨p', x', rest', rfl, h0', h2'⟩ := hc c (List.mem_cons_of_mem _ hcm)
      refine ⟨p', x', rest', rfl, h0', ?_⟩
      show ((st.2.set p _).set x.toNat _)[p']? = _
      rw [ho1 p' (fun z => hcr (by rw [← z]; exact hcm)) (fun z => noX _ (by rw [← z]; exact h2'))]
      exact h2'
    have hxr : ((x.toNat : Nat) : Int) ∉ r := fun z => by
      obtain ⟨p', x', rest', e', _, h2'⟩ := hc _ (List.mem_cons_of_mem _ z)
      have : p' = x.toNat := by omega
      rw [this] at h2'
      exact noX _ h2'
    refine ⟨fun q l hq hqn => ?_, fun q y rest' hq h0' => ?_, fun q => ?_⟩
    · have hqp : q ≠ p := fun z => hqn (by rw [z]; exact List.mem_cons_self)
      have hqx : q ≠ x.toNat := fun z => noX _ (by rw [← z]; exact hq)
      exact iC q l (by show ((st.2.set p _).set x.toNat _)[q]? = _; rw [ho1 q hqp hqx]; exact hq) fun z => hqn (List.mem_cons_of_mem _ z)
    · rcases List.mem_cons.mp hq with h | h
      · have hqp : q = p := by omega
        subst hqp
        rw [h0] at h0'
        cases h0'
        exact ⟨iC _ _ hp1 hcr, iC _ _ hx1 hxr⟩
      · exact iB q y rest' h h0'
    · rcases iA q with h | h | h
      · by_cases hqp : q = p
        · rw [hqp]
          exact .inr (.inl List.mem_cons_self)
        · by_cases hqx : q = x.toNat
          · refine .inr (.inr ⟨p, x, rest, h0, ?_, hqx⟩)
            rw [h, hqx]
            exact hx1
          · left
            rw [h]
            exact ho1 q hqp hqx
      · exact .inr (.inl (List.mem_cons_of_mem _ h))
      · exact .inr (.inr h)
structure Top (ms : List Int) (rows : Rws) (m : Int) : Prop where
  le : ∀ (p : Nat) (l : List Int), rows[p]? = some (some l) → ∀ y ∈ vals ms l, y ≤ m
  ex : m = 0 ∨ ∃ (p : Nat) (l : List Int), rows[p]? = some (some l) ∧ m ∈ vals ms l
theorem Top.first {us : List Int} {os : List (List Int)} {ms : List Int} (hB : BestR us os ms) : Top ms (firstM os) (at0 ms 0) := by
  have h0 : os[0]? = some (ch os 0) := ch_get (os := os) (x := 0) (by omega) (by have := hB.lo; omega)
  have hN := (hB.row 0 _ h0).2
  refine ⟨fun p l hl y hy => ?_, ?_⟩
  · obtain ⟨rfl, rfl⟩ := first_only hl
    rcases hN with ⟨e, _⟩ | ⟨_, h⟩
    · rw [e] at hy
      cases hy
    · exact h y hy
  · rcases hN with ⟨_, e⟩ | ⟨h, _⟩
    · exact .inl e
    · exact .inr ⟨0, ch os 0, rfl, h⟩
theorem Top.next {us : List Int} {os : List (List Int)} {ms Cl : List Int} {rows : Rws} {m : Int} (hg : GoodUps us) (hB : BestR us os ms) (w : Wk os [] rows Cl) (h : Top ms rows m) (hne : idxs hasC rows ≠ []) : Top ms (nextM os rows []).2 (m - 1) := by
  have g := best_good hg hB
  obtain ⟨_, iB, iA⟩ := fold_rows (rows0 := rows) g (idxs hasC rows) ([], rows) Cl w (asc_nodup (idxs_asc _ _)) fun c hc => by
    obtain ⟨p, row, rfl, h1, h2⟩ := idxs_mem.mp hc
    obtain ⟨y, rest, rfl⟩ := hasC_cons h2
    exact ⟨p, y, rest, rfl, h1, h1⟩
  have inI : ∀ {p : Nat} {x : Int} {rest : List Int}, rows[p]? = some (some (x :: rest)) → (p : Int) ∈ idxs hasC rows := fun h => idxs_mem.mpr ⟨_, _, rfl, h, rfl⟩
  have hd : ∀ {p : Nat} {x : Int} {rest : List Int}, rows[p]? = some (some (x :: rest)) → 0 ≤ at0 ms x ∧ IsNeed ms (ch os x) (at0 ms x) ∧ 1 + at0 ms x ≤ m := fun {p x rest} hr => by
    obtain ⟨x0, x1, _⟩ := (w.wc.row p _ hr).2 x List.mem_cons_self
    have e : ((x.toNat : Nat) : Int) = x := by omega
    have h1 := best_nonneg hg hB x.toNat (by omega)
    have h2 := (hB.row x.toNat _ (ch_get (by omega) x1)).2
    rw [e] at h1 h2
    refine ⟨h1, h2, h.le p _ hr _ ?_⟩
    rw [vals_cons]
    exact List.mem_cons_self
  refine ⟨fun p l' hl y hy => ?_, ?_⟩
  · rcases iA p with h1 | h1 | ⟨q, x, rest, h1, h2⟩
    · have hl : rows[p]? = some (some l') := by
        rw [← h1]
        exact hl
      cases l' with
      | nil => cases hy
      | cons x rest =>
        have h2 := (iB p x rest (inI hl) hl).1
        rw [h1] at h2
        rw [hl] at h2
        have := congrArg (fun o : Option (Option (List Int)) => match o with | some (some l) => l.length | _ => 0) h2
        simp at this
    · obtain ⟨p', row, e, h2, h3⟩ := idxs_mem.mp h1
      have e : p = p' := by omega
      subst e
      obtain ⟨x, rest, rfl⟩ := hasC_cons h3
      have h4 := (iB p x rest h1 h2).1
      have h5 : some (some l') = some (some rest) := hl.symm.trans h4
      cases h5
      have := h.le p _ h2 (y + 1) (by rw [vals_cons]; exact List.mem_cons_of_mem _ (List.mem_map_of_mem hy))
      omega
    · have h5 : some (some l') = some (some (ch os x)) := hl.symm.trans h2.1
      cases h5
      obtain ⟨_, hN, hle⟩ := hd h1
      rcases hN with ⟨e, _⟩ | ⟨_, hN⟩
      · rw [e] at hy
        cases hy
      · have := hN y hy
        omega
  · obtain ⟨c0, cr, hq⟩ := List.exists_cons_of_ne_nil hne
    have hm1 : 1 ≤ m := by
      obtain ⟨p, row, _, h1, h2⟩ := idxs_mem.mp (show c0 ∈ idxs hasC rows by rw [hq]; exact List.mem_cons_self)
      obtain ⟨x, rest, rfl⟩ := hasC_cons h2
      have := hd h1
      omega
    rcases h.ex with e | ⟨p, l, hl, hm⟩
    · omega
    · cases l with
      | nil => cases hm
      | cons x rest =>
        obtain ⟨b1, b2⟩ := iB p x rest (inI hl) hl
        rw [vals_cons] at hm
        rcases List.mem_cons.mp hm with e | e
        · rcases (hd hl).2.1 with ⟨_, e0⟩ | ⟨e0, _⟩
          · exact .inl (by omega)
          · exact .inr ⟨_, _, b2, by rw [e, show 1 + at0 ms x - 1 = at0 ms x by omega]; exact e0⟩
        · obtain ⟨z, hz, e⟩ := List.mem_map.mp e
          exact .inr ⟨_, _, b1, by rw [← e, show z + 1 - 1 = z by omega]; exact hz⟩
theorem walk_top {us : List Int} {os : List (List Int)} {ms : List Int} (hg : GoodUps us) (hB : BestR us os ms) : ∀ (f : Nat) (pre : List (List Call)) (rows : Rws) (m : Int), WAt os [] pre rows → os.length ≤ f + (calledOf pre).length → Top ms rows m → ((walkM os [] f rows).length : Int) = m
  | 0, pre, rows, m, h, hf, _ => by
    have := h.wk.most (best_good hg hB)
    omega
  | f + 1, pre, rows, m, h, hf, ht => by
    unfold walkM
    cases he : idxs hasC rows with
    | nil =>
      rcases ht.ex with e | ⟨p, l, hl, hm⟩
      · rw [e]
        rfl
      · cases l with
        | nil => cases hm
        | cons x rest =>
          have : (p : Int) ∈ idxs hasC rows := idxs_mem.mpr ⟨_, _, rfl, hl, rfl⟩
          rw [he] at this
          cases this
    | cons c cs =>
      have hne : idxs hasC rows ≠ [] := by rw [he]; simp
      obtain ⟨h1, _, h3⟩ := h.step (best_good hg hB) hne
      have := walk_top hg hB f _ _ (m - 1) h1 (by omega) (ht.next hg hB h.wk hne)
      show (((nextM os rows []).1 :: walkM os [] f (nextM os rows []).2).length : Int) = m
      rw [List.length_cons]
      omega
theorem best_rounds {us : List Int} {os : List (List Int)} {ms : List Int} (hg : GoodUps us) (hB : BestR us os ms) : ((wlk os []).length : Int) = at0 ms 0 :=
  walk_top hg hB 64 [] (firstM os) _ (WAt.first (best_good hg hB) (by simp)) (by have := (best_good hg hB).n40; omega) (Top.first hB)
end Toy

set_option Elab.async false
set_option linter.all false
set_option maxRecDepth 100000
set_option maxHeartbeats 4000000
namespace Toy
open PySem L2
structure ShR (ms row : List Int) (mk : Int) : Prop where
  need : IsNeed ms row mk
  fall : row.Pairwise fun c d => at0 ms d ≤ at0 ms c
  rng : ∀ c ∈ row, 0 ≤ c ∧ c.toNat < ms.length
  len : row.length ≤ 40
theorem filt_pos {α : Type} {f : α → Bool} {x : α} (h : f x = true) : [x].filter f = [x] := by rw [List.filter_cons_of_pos h]; rfl
theorem filt_neg {α : Type} {f : α → Bool} {x : α} (h : ¬ f x = true) : [x].filter f = [] := by rw [List.filter_cons_of_neg h]; rfl
theorem get_at0 {ms : List Int} {c : Int} (h : c.toNat < ms.length) : (ms.map V.int)[c.toNat]? = some (.int (at0 ms c)) := by
  unfold at0
  rw [List.getElem?_map, List.getD_eq_getElem?_getD, List.getElem?_eq_getElem h]
  rfl
theorem cnt_ge {ms row : List Int} (hf : row.Pairwise fun c d => at0 ms d ≤ at0 ms c) {i : Nat} {c : Int} (hi : row[i]? = some c) : i + 1 ≤ (row.filter fun d => decide (at0 ms c ≤ at0 ms d)).length := by
  obtain ⟨hl, e⟩ := List.getElem?_eq_some_iff.mp hi
  have h1 : (row.take (i + 1)).filter (fun d => decide (at0 ms c ≤ at0 ms d)) = row.take (i + 1) := List.filter_eq_self.mpr fun d hd => by
    obtain ⟨j, hj⟩ := List.getElem?_of_mem hd
    rw [List.getElem?_take] at hj
    by_cases hji : j < i + 1
    · rw [if_pos hji] at hj
      obtain ⟨hjl, ej⟩ := List.getElem?_eq_some_iff.mp hj
      refine decide_eq_true ?_
      by_cases hjj : j = i
      · subst hjj
        rw [← e, ← ej]
        exact Int.le_refl _
      · have := List.pairwise_iff_getElem.mp hf j i hjl hl (by omega)
        rw [← e, ← ej]
        exact this
    · rw [if_neg hji] at hj
      cases hj
  have h2 := ((List.take_sublist (i + 1) row).filter fun d => decide (at0 ms c ≤ at0 ms d)).length_le
  rw [h1, List.length_take] at h2
  omega
theorem ShR.zero {ms row : List Int} {mk : Int} (h : ShR ms row mk) (hno : ∀ n : Nat, n < row.length → (((row.filter fun d => decide (mk - (1 + (n : Int)) ≤ at0 ms d)).length : Nat) : Int) < 1 + n) : mk = 0 := by
  rcases h.need with ⟨_, e⟩ | ⟨e, _⟩
  · exact e
  · exfalso
    unfold vals at e
    obtain ⟨q, hq, e⟩ := List.mem_map.mp e
    have hq := List.mem_zipIdx_iff_getElem?.mp hq
    have hl := (List.getElem?_eq_some_iff.mp hq).1
    have h1 := cnt_ge h.fall hq
    have h2 := hno q.2 hl
    have e3 : mk - (1 + (q.2 : Int)) = at0 ms q.1 := by omega
    rw [e3] at h2
    omega
section
variable {P : Program} {w : World} {K : PySem.W.Frag} {mg : Str → Option Value} {base : Heap} {A : Adr}
def spIsShown : Sp := fun vs H Q _ => ∃ (mk : Int) (r m : Addr) (row ms : List Int), vs = [.int mk, .ref r, .ref m] ∧ H r = some (.lst (row.map V.int)) ∧ H m = some (.lst (ms.map V.int)) ∧ ShR ms row mk ∧ ∀ H', Same H H' → Q (.bl true) H'
theorem sc_is_shown : FnScope ["mark", "row", "marks", "many", "late", "called"] ["mark", "row", "marks"] (defScope s_is_shown) := ⟨rfl, rfl, rfl, by decide +kernel, rfl, by decide +kernel, by decide +kernel⟩
theorem ok_is_shown (T : Txt K mg A) : FnOk P w K mg base CX0 1 A.f_is_shown A.d_is_shown ["mark", "row", "marks"] spIsShown := by
  refine T.f_is_shown.ok sc_is_shown (fun vs H Q E h => ?_) (fun cdv A' outer s H vs Q E hr h => ?_)
  · obtain ⟨mk, r, m, row, ms, rfl, _⟩ := h
    rfl
  · obtain ⟨mk, r, m, row, ms, rfl, hr1, hm, sh, k⟩ := h
    refine ⟨_, (pss_cons (ps_for PassesOwn.never rfl (pi_range2 (by rfl) T.n_range (@pa_cons _ _ _ _ _ pe_int (@pa_cons _ _ _ _ _ (pe_op op_add (pe_callB (call_len_seqK K) (by rfl) T.n_len PySem.boot_len (@pa_cons _ _ _ _ _ (pv 1) pa_nil (by rfl))) pe_int) pa_nil (by rfl)) (by rfl))) (pg_name (i := 3) sc_is_shown.nd rfl (Or.inr rfl)) (pss_cons (ps_setLc (i := 4) (own := [("called", 5)]) rfl sc_is_shown.nd rfl rfl (sw_true rfl rfl rfl (by decide +kernel)) (pi_listK K (pv 1)) (blkOk_by (own := [("called", 5)]) (by kernel_rfl)) (fun _ _ _ _ _ => (pg_name (i := 5) sc_is_shown.nd rfl (Or.inl rfl))) (fun _ _ _ _ _ => (pts_one (pt_cmpR op_ge (pe_ix (ix_listK K) (pv 2) (pv 5) (fun _ _ => rfl)) (pe_op op_sub (pv 0) (pv 3)) (nomark _)))) (fun _ _ _ _ _ => (pv 5)))
      (pss_one (ps_if (pt_cmpR op_ge (pe_callB (call_len_seqK K) (by rfl) T.n_len PySem.boot_len (@pa_cons _ _ _ _ _ (pv 4) pa_nil (by rfl))) (pv 3) (nomark _)) (pss_one (ps_ret pe_bl)) pss_nil))))
      (pss_one (ps_ret (pe_cmpR op_eq (pv 0) pe_int (nomark _))))), ?_⟩
    have hl40 := sh.len
    refine ⟨_, rfl, r, _, rfl, .inl (SqL.of hr1), _, _, rfl, rfl, 1, _, rfl, ⟨by decide, by decide, ?_, ?_⟩, ?_⟩
    · rw [List.length_map]
      omega
    · rw [List.length_map]
      omega
    refine for_range (lo := 1) (n := (((row.map V.int).length : Int) + 1 - 1).toNat) (fun i σ H1 => ∃ x3 x4 : Option V, σ = [some (.int mk), some (.ref r), some (.ref m), x3, x4, none] ∧ Same H H1 ∧ ∀ n : Nat, n < i → (((row.filter fun d => decide (mk - (1 + (n : Int)) ≤ at0 ms d)).length : Nat) : Int) < 1 + n) ⟨none, none, rfl, Same.refl _, fun n hn => absurd hn (Nat.not_lt_zero _)⟩ ?_ ?_
    · rintro i σ H1 hi ⟨x3, x4, rfl, s1, hno⟩
      refine ⟨_, rfl, r, rfl, ⟨_, SqL.of (s1 _ _ hr1)⟩, fun D hD => ?_⟩
      refine lc_list (K := K) (a := r) (xs := row.map V.int) (fun q H2 => Same H1 H2 ∧ H2 D = some (.lst (((row.take q).filter fun d => decide (mk - (1 + (i : Int)) ≤ at0 ms d)).map V.int))) ⟨Same.new hD, upd_same⟩ (fun q H2 _ ⟨s2, _⟩ => SqL.of ((s1.trans s2) _ _ hr1)) ?_ ?_
      · rintro q z H2 hz ⟨s2, hD2⟩
        obtain ⟨c, hc, rfl⟩ := map_int_get hz
        have hcm := sh.rng c (List.mem_of_getElem? hc)
        have hql := (List.getElem?_eq_some_iff.mp hc).1
        refine ⟨rfl, _, rfl, _, rfl, m, _, _, .int (at0 ms c), rfl, rfl, SqL.of ((s1.trans s2) _ _ hm), at_of (j := c.toNat) (by omega) (get_at0 hcm.2), _, rfl, _, rfl, _, _, rfl, rfl, _, _, rfl, rfl, _, rfl, ?_⟩
        have hlf : ((row.take q).filter fun d => decide (mk - (1 + (i : Int)) ≤ at0 ms d)).length ≤ 40 := by
          refine Nat.le_trans (List.length_filter_le _ _) ?_
          rw [List.length_take]
          omega
        refine ite2 (fun h => ?_) (fun h => ?_)
        · refine ⟨_, rfl, _, hD2, ?_, s2.upd hD, ?_⟩
          · rw [List.length_map]
            exact small1000 (by omega)
          · rw [upd_same, take_snoc hc, List.filter_append, filt_pos (f := fun d => decide (mk - (1 + (i : Int)) ≤ at0 ms d)) h, List.map_append]
            rfl
        · refine ⟨s2, ?_⟩
          rw [take_snoc hc, List.filter_append, filt_neg (f := fun d => decide (mk - (1 + (i : Int)) ≤ at0 ms d)) h, List.append_nil]
          exact hD2
      rintro H2 ⟨s2, hD2⟩
      rw [List.length_map, List.take_length] at hD2
      refine ⟨_, rfl, D, _, rfl, .inl (SqL.of hD2), _, rfl, _, _, rfl, rfl, _, rfl, ?_⟩
      rw [List.length_map]
      refine ite2 (fun h => ?_) (fun h => ?_)
      · exact k H2 (s1.trans s2)
      · refine ⟨_, _, rfl, s1.trans s2, fun n hn => ?_⟩
        by_cases hni : n < i
        · exact hno n hni
        · have e : n = i := by omega
          subst e
          exact Int.not_le.mp fun z => h (decide_eq_true z)
    · rintro σ H1 ⟨x3, x4, rfl, s1, hno⟩
      have e : (((row.map V.int).length : Int) + 1 - 1).toNat = row.length := by
        rw [List.length_map]
        omega
      rw [e] at hno
      have hz := sh.zero hno
      refine ⟨_, rfl, rfl, ?_⟩
      rw [hz]
      exact k H1 s1
def spAreShown (Pt : Addr) : Sp := fun vs H Q _ => ∃ (m o : Addr) (rs : List Addr) (os : List (List Int)) (ms : List Int), vs = [.ref m, .ref o] ∧ H m = some (.lst (ms.map V.int)) ∧ H o = some (.lst (rs.map V.ref)) ∧ LL H rs os ∧ ms.length = os.length ∧ (∀ x ∈ ms, 0 ≤ x) ∧ (∀ (p : Nat) (row : List Int), os[p]? = some row → ShR ms row (at0 ms p)) ∧ H Pt = some (tabX Pt) ∧ ∀ H', Same H H' → Q (.bl true) H'
theorem sc_are_shown : FnScope ["marks", "orders", "mark", "row"] ["marks", "orders"] (defScope s_are_shown) := ⟨rfl, rfl, rfl, by decide +kernel, rfl, by decide +kernel, by decide +kernel⟩
theorem ok_are_shown (T : Txt K mg A) (kb : K.In base) (B : BmOk mg base) : FnOk P w K mg base CX0 4 A.f_are_shown A.d_are_shown ["marks", "orders"] (spAreShown A.P_are_shown) := by
  have C : PySem.W.CodeHd base A.c_are_shown A.P_are_shown := PySem.W.codeHd_of_K kb T.hd_are_shown
  have G_is_number := ok_is_number (P := P) (w := w) (base := base) T
  have G_is_shown := ok_is_shown (P := P) (w := w) (base := base) T
  refine funC T.f_are_shown T.cd_are_shown sc_are_shown (fun vs H Q E h => ?_) (fun A' outer s H vs Q E hr h => ?_)
  · obtain ⟨m, o, rs, os, ms, rfl, _⟩ := h
    rfl
  · obtain ⟨m, o, rs, os, ms, rfl, hm, ho, hL, hlen, hpos, hsh, hP, k⟩ := h
    refine ⟨_, (pss_cons (ps_if (PW.pt (pw_or (pt_not (pt_val (pe_callB (cr_isiK K) (by rfl) T.n_isinstance (by decide +kernel) (@pa_cons _ _ _ _ _ (pv 0) (@pa_cons _ _ _ _ _ (pe_bltn (v := .ty "list") (by rfl) T.n_list (by decide +kernel) rfl) pa_nil (by rfl)) (by rfl))))) (pw_or1 (pt_cmpR op_ne (pe_callB (call_len_seqK K) (by rfl) T.n_len PySem.boot_len (@pa_cons _ _ _ _ _ (pv 0) pa_nil (by rfl))) (pe_callB (call_len_seqK K) (by rfl) T.n_len PySem.boot_len (@pa_cons _ _ _ _ _ (pv 1) pa_nil (by rfl))) (nomark _))))) (pss_one (ps_ret pe_bl)) pss_nil)
      (pss_cons (ps_if (pt_not (pt_val (pe_allG (own := [("mark", 2)]) B rfl C rfl sc_are_shown.nd (hr.mono (by decide)) (by rfl) T.n_all (pi_listK K (pv 0)) (blkOk_by (own := [("mark", 2)]) (by kernel_rfl)) (by decide +kernel) (by rfl) rfl (fun _ _ _ _ _ _ => (pg_name (i := 2) sc_are_shown.nd rfl (Or.inl rfl))) (fun _ _ _ _ _ _ => (pe_and (pe_call G_is_number ((hr.gen _).mono (by decide)) (by rfl) T.m_is_number T.k_is_number T.b_is_number .nil pass0 (@pa_cons _ _ _ _ _ (pv 2) pa_nil (by rfl))) (pe_one (pe_cmpR op_ge (pv 2) pe_int (nomark _)))))))) (pss_one (ps_ret pe_bl)) pss_nil)
      (pss_one (ps_ret (pe_allG (own := [("mark", 2), ("row", 3)]) B rfl C rfl sc_are_shown.nd (hr.mono (by decide)) (by rfl) T.n_all (pi_zipK K (by rfl) T.n_zip (@pa_cons _ _ _ _ _ (pv 0) (@pa_cons _ _ _ _ _ (pv 1) pa_nil (by rfl)) (by rfl))) (blkOk_by (own := [("mark", 2), ("row", 3)]) (by kernel_rfl)) (by decide +kernel) (by rfl) rfl (fun _ _ _ _ _ _ => (pg_tupK K (n := 2) (by rfl) (pgs_cons (pg_name (i := 2) sc_are_shown.nd rfl (Or.inl rfl)) (pgs_cons (pg_name (i := 3) sc_are_shown.nd rfl (Or.inl rfl)) pgs_nil)))) (fun _ _ _ _ _ _ => (pe_call G_is_shown ((hr.gen _).mono (by decide)) (by rfl) T.m_is_shown T.k_is_shown T.b_is_shown .nil pass0 (@pa_cons _ _ _ _ _ (pv 2) (@pa_cons _ _ _ _ _ (pv 3) (@pa_cons _ _ _ _ _ (pv 0) pa_nil (by rfl)) (by rfl)) (by rfl))))))))), ?_⟩
    have hrl : rs.length = os.length := hL.1
    refine ⟨_, rfl, .ref m, .ty "list", _, true, rfl, .lst hm, (fun u hu => kitL hu), true, rfl, iteF ?_⟩
    refine ⟨_, rfl, m, _, rfl, .inl (SqL.of hm), _, rfl, o, _, rfl, .inl (SqL.of ho), rfl, _, rfl, ?_⟩
    rw [List.length_map, List.length_map, hrl, hlen, decide_eq_true (show V.int ((os.length : Nat) : Int) = V.int ((os.length : Nat) : Int) from rfl)]
    refine iteF ?_
    refine ⟨_, rfl, m, rfl, ⟨_, SqL.of hm⟩, hP, ?_⟩
    refine all_list (K := K) (a := m) (xs := ms.map V.int) (fun j H2 => Same H H2) (Same.refl _) (fun j H2 _ s2 => SqL.of (s2 _ _ hm)) ?_ ?_
    · rintro j z H2 hz s2
      obtain ⟨c, hc, rfl⟩ := map_int_get hz
      refine ⟨rfl, _, rfl, c, rfl, true, rfl, iteT ⟨_, rfl, _, _, rfl, rfl, true, ?_, iteT s2⟩⟩
      show V.bl (decide (0 ≤ c)) = V.bl true
      rw [decide_eq_true (hpos c (List.mem_of_getElem? hc))]
    · intro H2 s2
      refine ⟨true, rfl, iteF ?_⟩
      refine ⟨_, rfl, _, rfl, m, o, _, _, rfl, SqL.of (s2 _ _ hm), SqL.of (s2 _ _ ho), s2 _ _ hP, ?_⟩
      refine all_zip (K := K) (a := m) (b := o) (xs := ms.map V.int) (ys := rs.map V.ref) (fun j H3 => Same H H3) s2 (by rw [List.length_map, List.length_map]; omega) (fun j H3 _ s3 => ⟨SqL.of (s3 _ _ hm), SqL.of (s3 _ _ ho)⟩) ?_ ?_
      · rintro j z y T' H3 hz hy hT' s3
        obtain ⟨c, hc, rfl⟩ := map_int_get hz
        obtain ⟨r, hr', rfl⟩ := ref_get hy
        have hjl := (List.getElem?_eq_some_iff.mp hc).1
        obtain ⟨row, hrow⟩ : ∃ row, os[j]? = some row := ⟨_, List.getElem?_eq_getElem (by omega)⟩
        have hsr := hsh j row hrow
        have e : at0 ms j = c := by
          unfold at0
          rw [Int.toNat_natCast, List.getD_eq_getElem?_getD, hc]
          rfl
        rw [e] at hsr
        have m4 : Same H3 (upd H3 T' (.tup [.int c, .ref r])) := Same.new hT'
        have hT4 : (upd H3 T' (.tup [.int c, .ref r])) T' = some (.tup [.int c, .ref r]) := upd_same
        generalize upd H3 T' (.tup [.int c, .ref r]) = H4 at m4 hT4
        have s4 := s3.trans m4
        refine ⟨T', _, rfl, SqT.of hT4, rfl, _, _, rfl, _, _, rfl, rfl, rfl, _, rfl, _, rfl, _, rfl, c, r, m, row, ms, rfl, s4 _ _ (hL.2 j r row hr' hrow), s4 _ _ hm, hsr, fun H5 s5 => ⟨true, rfl, iteT (s4.trans s5)⟩⟩
      · intro H3 s3
        exact k H3 s3
end
end Toy

set_option Elab.async false
set_option linter.all false
set_option maxRecDepth 100000
set_option maxHeartbeats 4000000
namespace Toy
open PySem L2
theorem rowsOf_get (us : List Int) {p : Nat} (h : p < us.length + 1) : (rowsOf us)[p]? = some (rowOf us (p : Int)) := by
  unfold rowsOf
  rw [List.getElem?_map, List.getElem?_range h]
  rfl
theorem rowsOf_length (us : List Int) : (rowsOf us).length = us.length + 1 := by
  unfold rowsOf
  rw [List.length_map, List.length_range]
theorem sorted_row {us row ns : List Int} {p : Int} (hp : row.Perm (rowOf us p)) (h1 : ns.Perm row) (h2 : ns.Pairwise (· ≤ ·)) : ns = rowOf us p := by
  have ha := (rowOf_asc p us).1
  have hn : ns.Nodup := (h1.trans hp).nodup_iff.mpr (asc_nodup ha)
  exact asc_ext ((h2.and hn).imp fun h => by have := h.1; have := h.2; omega) ha fun x => (h1.trans hp).mem_iff
theorem best_sh {us : List Int} {os : List (List Int)} {ms : List Int} (hg : GoodUps us) (hB : BestR us os ms) : ∀ (p : Nat) (row : List Int), os[p]? = some row → ShR ms row (at0 ms p) := fun p row hp => by
  obtain ⟨h1, h2⟩ := hB.row p row hp
  have hl := hB.lo
  have hm := hB.lm
  have h39 := hg.1
  refine ⟨h2, h1.2, fun c hc => ?_, ?_⟩
  · obtain ⟨j, hj, rfl⟩ := (best_mem hB hp).mp hc
    have := (List.getElem?_eq_some_iff.mp hj).1
    omega
  · rw [h1.1.length_eq]
    exact Nat.le_trans (rowOf_length us p) (by omega)
theorem best_pos {us : List Int} {os : List (List Int)} {ms : List Int} (hg : GoodUps us) (hB : BestR us os ms) : ∀ x ∈ ms, 0 ≤ x := fun x hx => by
  obtain ⟨p, hp⟩ := List.getElem?_of_mem hx
  have hpl := (List.getElem?_eq_some_iff.mp hp).1
  have := best_nonneg hg hB p (by have := hB.lo; have := hB.lm; omega)
  unfold at0 at this
  rw [Int.toNat_natCast, List.getD_eq_getElem?_getD, hp] at this
  exact this
section
variable {P : Program} {w : World} {K : PySem.W.Frag} {mg : Str → Option Value} {base : Heap} {A : Adr}
def spAO : Sp := fun vs H Q _ => ∃ (o u : Addr) (rs : List Addr) (os : List (List Int)) (us ms us' : List Int), vs = [.ref o, .ref u] ∧ H o = some (.lst (rs.map V.ref)) ∧ LL H rs os ∧ GoodUps us ∧ BestR us os ms ∧ H u = some (.lst (us'.map V.int)) ∧ GoodUps us' ∧ ∀ H', Same H H' → Q (.bl (decide (rowsOf us = rowsOf us'))) H'
theorem sc_are_orders_of : FnScope ["orders", "ups", "row"] ["orders", "ups"] (defScope s_are_orders_of) := ⟨rfl, rfl, rfl, by decide +kernel, rfl, by decide +kernel, by decide +kernel⟩
theorem ok_are_orders_of (T : Txt K mg A) : FnOk P w K mg base CX0 5 A.f_are_orders_of A.d_are_orders_of ["orders", "ups"] spAO := by
  have G_is_orders := ok_is_orders (P := P) (w := w) (base := base) T
  have G_rows_of := ok_rows_of (P := P) (w := w) (base := base) T
  refine T.f_are_orders_of.ok sc_are_orders_of (fun vs H Q E h => ?_) (fun cdv A' outer s H vs Q E hr h => ?_)
  · obtain ⟨o, u, rs, os, us, ms, us', rfl, _⟩ := h
    rfl
  · obtain ⟨o, u, rs, os, us, ms, us', rfl, ho, hL, hg, hB, hu, hg', k⟩ := h
    refine ⟨_, (pss_cons (ps_if (PW.pt (pw_or (pt_not (pt_val (pe_call G_is_orders (hr.mono (by decide)) (by rfl) T.m_is_orders T.k_is_orders T.b_is_orders .nil pass0 (@pa_cons _ _ _ _ _ (pv 0) pa_nil (by rfl))))) (pw_or1 (pt_cmpR op_ne (pe_callB (call_len_seqK K) (by rfl) T.n_len PySem.boot_len (@pa_cons _ _ _ _ _ (pv 0) pa_nil (by rfl))) (pe_op op_add (pe_callB (call_len_seqK K) (by rfl) T.n_len PySem.boot_len (@pa_cons _ _ _ _ _ (pv 1) pa_nil (by rfl))) pe_int) (nomark _))))) (pss_one (ps_ret pe_bl)) pss_nil)
      (pss_one (ps_ret (pe_cmpR (op_eqDK K hr.units) (pe_lc (own := [("row", 2)]) rfl sc_are_orders_of.nd (pi_listK K (pv 0)) (blkOk_by (own := [("row", 2)]) (by kernel_rfl)) (fun _ _ _ _ _ => (pg_name (i := 2) sc_are_orders_of.nd rfl (Or.inl rfl))) (fun _ _ _ _ _ => pts_nil) (fun _ _ _ _ _ => (pe_callB (cr_sortedK K) (by rfl) T.n_sorted (by decide +kernel) (@pa_cons _ _ _ _ _ (pv 2) pa_nil (by rfl))))) (pe_call G_rows_of (hr.mono (by decide)) (by rfl) T.m_rows_of T.k_rows_of T.b_rows_of .nil pass0 (@pa_cons _ _ _ _ _ (pv 1) pa_nil (by rfl))) (nomark _))))), ?_⟩
    have g := best_good hg hB
    have hrl : rs.length = os.length := hL.1
    have hlo := hB.lo
    have h39 := hg.1
    have h39' := hg'.1
    refine ⟨_, rfl, o, _, os, rfl, ho, hL.ol, g, fun H1 s1 => ⟨true, rfl, iteF ?_⟩⟩
    refine ⟨_, rfl, o, _, rfl, .inl (SqL.of (s1 _ _ ho)), _, rfl, u, _, rfl, .inl (SqL.of (s1 _ _ hu)), _, _, rfl, rfl, rfl, _, rfl, ?_⟩
    rw [List.length_map, List.length_map, hrl, hlo]
    by_cases hlen : us.length = us'.length
    · rw [decide_eq_true (show V.int ((us.length + 1 : Nat) : Int) = V.int ((us'.length : Int) + 1) by rw [hlen]; rfl)]
      refine iteF ?_
      refine ⟨_, rfl, o, rfl, ⟨_, SqL.of (s1 _ _ ho)⟩, fun D hD => ?_⟩
      refine lc_list (K := K) (a := o) (xs := rs.map V.ref) (fun q H2 => Same H1 H2 ∧ ∃ qs : List Addr, H2 D = some (.lst (qs.map V.ref)) ∧ LL H2 qs ((rowsOf us).take q) ∧ D ∉ qs) ⟨Same.new hD, [], upd_same, by simpa using LL.nil, by simp⟩ (fun q H2 _ ⟨s2, _⟩ => SqL.of ((s1.trans s2) _ _ ho)) ?_ ?_
      · rintro q z H2 hz ⟨s2, qs, hD2, hLq, hDq⟩
        obtain ⟨r, hr', rfl⟩ := ref_get hz
        have hql := (List.getElem?_eq_some_iff.mp hr').1
        obtain ⟨row, hrow⟩ : ∃ row, os[q]? = some row := ⟨_, List.getElem?_eq_getElem (by omega)⟩
        have hperm := (hB.row q row hrow).1.1
        have hrw := rowsOf_get us (p := q) (by omega)
        have hqn : qs.length = q := by rw [hLq.1, List.length_take, rowsOf_length]; omega
        refine ⟨rfl, yesT ⟨_, rfl, r, row, rfl, SqL.of ((s1.trans s2) _ _ (hL.2 q r row hr' hrow)), ?_, fun ns' p h1 h2 hp => ?_⟩⟩
        · rw [hperm.length_eq]
          have := rowOf_length us q
          omega
        rw [sorted_row hperm h1 h2]
        have nDp : D ≠ p := ne_of_none hD2 hp
        have m3 : Same H2 (upd H2 p (.lst ((rowOf us q).map V.int))) := Same.new hp
        have hp3 : (upd H2 p (.lst ((rowOf us q).map V.int))) p = some (.lst ((rowOf us q).map V.int)) := upd_same
        generalize upd H2 p (.lst ((rowOf us q).map V.int)) = H3 at m3 hp3
        have hDn : D ∉ qs ++ [p] := fun z => by
          rcases List.mem_append.mp z with z | z
          · exact hDq z
          · exact nDp (List.mem_singleton.mp z)
        refine ⟨qs.map V.ref, m3 _ _ hD2, ?_, (s2.trans m3).upd hD, qs ++ [p], ?_, ?_, hDn⟩
        · rw [List.length_map]
          exact small1000 (by omega)
        · rw [upd_same, List.map_append]
          rfl
        · rw [take_snoc hrw]
          exact ((hLq.mono m3).snoc hp3).upd hDn
      rintro H2 ⟨s2, qs, hD2, hLq, hDq⟩
      rw [List.length_map, hrl, hlo, ← rowsOf_length us, List.take_length] at hLq
      have s02 := s1.trans s2
      refine ⟨_, rfl, u, us', rfl, s02 _ _ hu, hg', fun b rs' H3 s3 _ hb hLb _ _ => ?_⟩
      refine ⟨rowsD (rowsOf us), rowsD (rowsOf us'), LL.dp (hLq.mono s3) (s3 _ _ hD2), LL.dp hLb hb, shaped_rows _, shaped_rows _, ?_⟩
      rw [eqv_rows]
      exact k H3 (s02.trans s3)
    · rw [decide_eq_false (show ¬ V.int ((us.length + 1 : Nat) : Int) = V.int ((us'.length : Int) + 1) from fun z => hlen (by injection z; omega))]
      refine iteT ?_
      have e : decide (rowsOf us = rowsOf us') = false := decide_eq_false fun z => hlen (by
        have := congrArg List.length z
        rw [rowsOf_length, rowsOf_length] at this
        omega)
      rw [e] at k
      exact k H1 s1
def spIF (Pt : Addr) : Sp := fun vs H Q _ => ∃ (o m u : Addr) (rs : List Addr) (os : List (List Int)) (us ms us' : List Int), vs = [.ref o, .ref m, .ref u] ∧ H o = some (.lst (rs.map V.ref)) ∧ LL H rs os ∧ H m = some (.lst (ms.map V.int)) ∧ GoodUps us ∧ BestR us os ms ∧ H u = some (.lst (us'.map V.int)) ∧ GoodUps us' ∧ H Pt = some (tabX Pt) ∧ ∀ H', Same H H' → Q (.bl (decide (rowsOf us = rowsOf us'))) H'
theorem sc_is_fewest : FnScope ["orders", "marks", "ups"] ["orders", "marks", "ups"] (defScope s_is_fewest) := ⟨rfl, rfl, rfl, by decide +kernel, rfl, by decide +kernel, by decide +kernel⟩
theorem atI_at0 {ms : List Int} (h : 0 < ms.length) : atI (ms.map V.int) 0 = some (.int (at0 ms 0)) := at_of (j := (0 : Int).toNat) rfl (get_at0 h)
theorem ok_is_fewest (T : Txt K mg A) (kb : K.In base) (B : BmOk mg base) : FnOk P w K mg base CX0 6 A.f_is_fewest A.d_is_fewest ["orders", "marks", "ups"] (spIF A.P_are_shown) := by
  have G_are_orders_of := ok_are_orders_of (P := P) (w := w) (base := base) T
  have G_are_shown := ok_are_shown (P := P) (w := w) T kb B
  have G_all_rounds := ok_all_rounds (P := P) (w := w) (base := base) T
  refine T.f_is_fewest.ok sc_is_fewest (fun vs H Q E h => ?_) (fun cdv A' outer s H vs Q E hr h => ?_)
  · obtain ⟨o, m, u, rs, os, us, ms, us', rfl, _⟩ := h
    rfl
  · obtain ⟨o, m, u, rs, os, us, ms, us', rfl, ho, hL, hm, hg, hB, hu, hg', hP, k⟩ := h
    have g := best_good hg hB
    have hlo := hB.lo
    have hlm := hB.lm
    refine ⟨_, (pss_cons (ps_if (PW.pt (pw_or (pt_not (pt_val (pe_call G_are_orders_of (hr.mono (by decide)) (by rfl) T.m_are_orders_of T.k_are_orders_of T.b_are_orders_of .nil pass0 (@pa_cons _ _ _ _ _ (pv 0) (@pa_cons _ _ _ _ _ (pv 2) pa_nil (by rfl)) (by rfl))))) (pw_or1 (pt_not (pt_val (pe_call G_are_shown (hr.mono (by decide)) (by rfl) T.m_are_shown T.k_are_shown T.b_are_shown .nil pass0 (@pa_cons _ _ _ _ _ (pv 1) (@pa_cons _ _ _ _ _ (pv 0) pa_nil (by rfl)) (by rfl)))))))) (pss_one (ps_ret pe_bl)) pss_nil)
      (pss_one (ps_ret (pe_cmpR op_eq (pe_ix (ix_listK K) (pv 1) pe_int (fun _ _ => rfl)) (pe_callB (call_len_seqK K) (by rfl) T.n_len PySem.boot_len (@pa_cons _ _ _ _ _ (pe_call G_all_rounds (hr.mono (by decide)) (by rfl) T.m_all_rounds T.k_all_rounds T.b_all_rounds .nil pass0 (@pa_cons _ _ _ _ _ (pv 0) (@pa_cons _ _ _ _ _ (@pe_lst _ _ _ _ pa_nil) pa_nil (by rfl)) (by rfl))) pa_nil (by rfl))) (nomark _))))), ?_⟩
    refine ⟨_, rfl, _, rfl, o, u, rs, os, us, ms, us', rfl, ho, hL, hg, hB, hu, hg', fun H1 s1 => ⟨_, rfl, ?_⟩⟩
    by_cases e : rowsOf us = rowsOf us'
    · rw [decide_eq_true e] at k ⊢
      refine iteF ?_
      refine ⟨_, rfl, _, rfl, m, o, rs, os, ms, rfl, s1 _ _ hm, s1 _ _ ho, hL.mono s1, by omega, best_pos hg hB, best_sh hg hB, s1 _ _ hP, fun H2 s2 => ⟨true, rfl, iteF ?_⟩⟩
      have s02 := s1.trans s2
      refine ⟨_, rfl, m, _, 0, _, rfl, rfl, SqL.of (s02 _ _ hm), atI_at0 (by omega), _, rfl, Nat.zero_le _, fun e1 he1 => ?_⟩
      have m3 : Same H2 (upd H2 e1 (.lst [])) := Same.new he1
      have he13 : (upd H2 e1 (.lst [])) e1 = some (.lst []) := upd_same
      generalize upd H2 e1 (.lst []) = H3 at m3 he13
      have s03 := s02.trans m3
      refine ⟨o, e1, _, os, [], rfl, s03 _ _ ho, (hL.mono s03).ol, g, he13, by simp, fun r ts H4 s4 _ hr' hRS _ => ⟨r, _, rfl, .inl (SqL.of hr'), rfl, ?_⟩⟩
      rw [List.length_map, hRS.len, best_rounds hg hB, decide_eq_true (show V.int (at0 ms 0) = V.int (at0 ms 0) from rfl)]
      exact k H4 (s03.trans s4)
    · rw [decide_eq_false e] at k ⊢
      exact iteT (iteT (k H1 s1))
def spFShows (C Pt : Addr) : Sp := fun vs H Q _ => ∃ (x dx o m u : Addr) (rs : List Addr) (os : List (List Int)) (us ms us' : List Int), vs = [.ref x, .ref u] ∧ H x = some (.ins C dx (fldF o m)) ∧ H o = some (.lst (rs.map V.ref)) ∧ LL H rs os ∧ H m = some (.lst (ms.map V.int)) ∧ GoodUps us ∧ BestR us os ms ∧ H u = some (.lst (us'.map V.int)) ∧ GoodUps us' ∧ H Pt = some (tabX Pt) ∧ ∀ H', Same H H' → Q (.bl (decide (rowsOf us = rowsOf us'))) H'
theorem sc_Fewest_shows : FnScope ["self", "ups"] ["self", "ups"] (defScope s_Fewest_shows) := ⟨rfl, rfl, rfl, by decide +kernel, rfl, by decide +kernel, by decide +kernel⟩
theorem fld_marks (o m : Addr) : (fldF o m).lookup ("marks" : Str) = some (.ref m) := by kernel_rfl
theorem fld_orders (o m : Addr) : (fldF o m).lookup ("orders" : Str) = some (.ref o) := by kernel_rfl
theorem ok_Fewest_shows (T : Txt K mg A) (kb : K.In base) (B : BmOk mg base) : FnOk P w K mg base CX0 7 A.f_Fewest_shows A.d_Fewest_shows ["self", "ups"] (spFShows A.C_Fewest A.P_are_shown) := by
  have G_is_fewest := ok_is_fewest (P := P) (w := w) T kb B
  refine T.f_Fewest_shows.ok sc_Fewest_shows (fun vs H Q E h => ?_) (fun cdv A' outer s H vs Q E hr h => ?_)
  · obtain ⟨x, dx, o, m, u, rs, os, us, ms, us', rfl, _⟩ := h
    rfl
  · obtain ⟨x, dx, o, m, u, rs, os, us, ms, us', rfl, hx, ho, hL, hm, hg, hB, hu, hg', hP, k⟩ := h
    refine ⟨_, (pss_one (ps_ret (pe_call G_is_fewest (hr.mono (by decide)) (by rfl) T.m_is_fewest T.k_is_fewest T.b_is_fewest .nil pass0 (@pa_cons _ _ _ _ _ (pe_fldK K (pv 0) rfl) (@pa_cons _ _ _ _ _ (pe_fldK K (pv 0) rfl) (@pa_cons _ _ _ _ _ (pv 1) pa_nil (by rfl)) (by rfl)) (by rfl))))), ?_⟩
    exact ⟨_, rfl, x, A.C_Fewest, dx, _, _, rfl, hx, T.cl_Fewest, T.na_Fewest_orders, fld_orders o m, _, rfl, x, A.C_Fewest, dx, _, _, rfl, hx, T.cl_Fewest, T.na_Fewest_marks, fld_marks o m, _, rfl, o, m, u, rs, os, us, ms, us', rfl, ho, hL, hm, hg, hB, hu, hg', hP, k⟩
end
end Toy

set_option Elab.async false
set_option linter.all false
set_option maxRecDepth 100000
set_option maxHeartbeats 4000000
namespace Toy
open PySem L2
section
variable {P : Program} {w : World} {K : PySem.W.Frag} {mg : Str → Option Value} {base : Heap} {A : Adr}
def spCalled : Sp := fun vs H Q _ => ∃ (a : Addr) (us : List Int), vs = [.ref a] ∧ H a = some (.lst (us.map V.int)) ∧ us.length ≤ 39 ∧
  ∀ (b : Addr) (rs : List Addr) (H' : Hp), Same H H' → H b = none → H' b = some (.lst (rs.map V.ref)) → LL H' rs (rowsOf us) → Q (.ref b) H'
theorem sc_law_called : FnScope ["_law_ups_here", "_law_person", "_law_at", "_law_up"] ["_law_ups_here"] (defScope s_law_called) := ⟨rfl, rfl, rfl, by decide +kernel, rfl, by decide +kernel, by decide +kernel⟩
theorem ok_law_called (T : Txt K mg A) : FnOk P w K mg base CX0 1 A.f_law_called A.d_law_called ["_law_ups_here"] spCalled := by
  refine T.f_law_called.ok sc_law_called (fun vs H Q E h => ?_) (fun cdv A' outer s H vs Q E hr h => ?_)
  · obtain ⟨a, us, rfl, _⟩ := h
    rfl
  · obtain ⟨a, us, rfl, hH, hl, k⟩ := h
    refine ⟨_, (pss_one (ps_ret (pe_lc (own := [("_law_person", 1)]) rfl sc_law_called.nd (pi_range1 (by rfl) T.n_range (@pa_cons _ _ _ _ _ (pe_op op_add (pe_callB (call_len_seqK K) (by rfl) T.n_len PySem.boot_len (@pa_cons _ _ _ _ _ (pv 0) pa_nil (by rfl))) pe_int) pa_nil (by rfl))) (blkOk_by (own := [("_law_person", 1)]) (by kernel_rfl)) (fun _ _ _ _ _ => (pg_name (i := 1) sc_law_called.nd rfl (Or.inr rfl))) (fun _ _ _ _ _ => pts_nil) (fun _ _ _ _ _ => (pe_lc (own := [("_law_at", 2), ("_law_up", 3)]) rfl sc_law_called.nd (pi_enumK K (by rfl) T.n_enumerate (@pa_cons _ _ _ _ _ (pv 0) pa_nil (by rfl))) (blkOk_by (own := [("_law_at", 2), ("_law_up", 3)]) (by kernel_rfl)) (fun _ _ _ _ _ => (pg_tupK K (n := 2) (by rfl) (pgs_cons (pg_name (i := 2) sc_law_called.nd rfl (Or.inl rfl)) (pgs_cons (pg_name (i := 3) sc_law_called.nd rfl (Or.inl rfl)) pgs_nil)))) (fun _ _ _ _ _ => (pts_one (pt_cmpR op_eq (pv 3) (pv 1) (nomark _)))) (fun _ _ _ _ _ => (pe_op op_add (pv 2) pe_int))))))), ?_⟩
    refine ⟨_, rfl, a, us.map V.int, rfl, .inl (SqL.of hH), _, _, rfl, rfl, _, rfl, ?_, ?_, fun D hD => ?_⟩
    · rw [List.length_map]
      omega
    · rw [List.length_map]
      omega
    have hn : ((((us.map V.int).length : Nat) : Int) + 1).toNat = us.length + 1 := by
      rw [List.length_map]
      omega
    rw [hn]
    refine lc_range (lo := 0) (n := us.length + 1) (fun i H2 => ∃ rs : List Addr, rs.length = i ∧ H2 D = some (.lst (rs.map V.ref)) ∧ LL H2 rs ((rowsOf us).take i) ∧ (∀ r ∈ rs, r ≠ D) ∧ Same H H2) ⟨[], rfl, upd_same, ⟨by simp, fun p r os h1 _ => by simp at h1⟩, by simp, Same.new hD⟩ ?_ ?_
    · rintro i H2 hi ⟨rs, hlen, hd, hL, hrs, s2⟩
      refine ⟨rfl, yesT ?_⟩
      have hH2 := s2 _ _ hH
      refine ⟨_, rfl, a, us.map V.int, rfl, SqL.of hH2, fun D2 hD2 => ?_⟩
      have nD2 : D ≠ D2 := ne_of_none hd hD2
      refine lc_enum0 (K := K) (a := a) (xs := us.map V.int) (fun j H3 => Same H2 H3 ∧ H3 D2 = some (.lst ((rowOf (us.take j) ((i : Nat) : Int)).map V.int))) ⟨Same.new hD2, by rw [upd_same]; rfl⟩ (fun j H3 _ ⟨s3, _⟩ => SqL.of (s3 _ _ hH2)) ?_ ?_
      · rintro j x t H3 hj ⟨s3, hd3⟩ ht
        obtain ⟨u, hu, rfl⟩ := map_int_get hj
        have hjl : j < us.length := (List.getElem?_eq_some_iff.mp hu).1
        have elen : (us.take j).length = j := by
          rw [List.length_take]
          omega
        have nt : D2 ≠ t := ne_of_none hd3 ht
        refine ⟨t, _, rfl, SqT.of upd_same, rfl, _, _, rfl, _, _, rfl, rfl, rfl, ?_⟩
        refine ⟨_, rfl, _, rfl, rfl, _, rfl, ?_⟩
        rw [take_snoc hu, rowOf_snoc, elen]
        refine ite2 (fun he => ?_) (fun he => ?_)
        · have he : u = (i : Int) := by
            have z := of_decide_eq_true he
            injection z with z
            omega
          refine ⟨_, rfl, _, _, rfl, rfl, _, (by rw [upd_ne nt]; exact hd3), ?_, (s3.upd (s3.free ht)).upd hD2, ?_⟩
          · rw [List.length_map]
            have := rowOf_length (us.take j) ((i : Nat) : Int)
            exact small1000 (by omega)
          · rw [upd_same, if_pos he, List.map_append]
            rfl
        · have he : ¬ u = (i : Int) := fun z => he (decide_eq_true (by rw [z]; simp))
          refine ⟨s3.upd (s3.free ht), ?_⟩
          rw [upd_ne nt, if_neg he, List.append_nil]
          exact hd3
      · rintro H3 ⟨s3, hd3⟩
        rw [List.length_map, List.take_length] at hd3
        refine ⟨rs.map V.ref, s3 _ _ hd, ?_, rs ++ [D2], ?_, ?_, ⟨?_, ?_⟩, ?_, ?_⟩
        · rw [List.length_map]
          exact small1000 (by omega)
        · rw [List.length_append, hlen]
          rfl
        · rw [upd_same, List.map_append]
          rfl
        · rw [take_snoc (rowsOf_get us hi), List.length_append, List.length_append, hL.1]
          rfl
        · intro p r os hp ho
          rw [take_snoc (rowsOf_get us hi)] at ho
          by_cases hpi : p < rs.length
          · rw [List.getElem?_append_left hpi] at hp
            rw [List.getElem?_append_left (by rw [← hL.1]; exact hpi)] at ho
            rw [upd_ne (hrs r (List.mem_of_getElem? hp))]
            exact s3 _ _ (hL.2 p r os hp ho)
          · rw [List.getElem?_append_right (by omega)] at hp
            rw [List.getElem?_append_right (by rw [← hL.1]; omega), ← hL.1] at ho
            have ep : p - rs.length = 0 := by
              have := (List.getElem?_eq_some_iff.mp hp).1
              simp at this
              omega
            rw [ep] at hp ho
            have e1 : D2 = r := by simpa using hp
            have e2 : rowOf us (i : Int) = os := by simpa using ho
            subst e1 e2
            rw [upd_ne (Ne.symm nD2)]
            exact hd3
        · intro r hr'
          rcases List.mem_append.mp hr' with h1 | h1
          · exact hrs r h1
          · obtain rfl := List.mem_singleton.mp h1
            exact Ne.symm nD2
        · exact (s2.trans s3).upd hD
    · rintro H2 ⟨rs, hlen, hd, hL, hrs, s2⟩
      rw [← rowsOf_length us, List.take_length] at hL
      exact k D rs H2 s2 hD hd hL
end
end Toy

set_option Elab.async false
set_option linter.all false
set_option maxRecDepth 100000
set_option maxHeartbeats 4000000
namespace Toy
open PySem L2
def stepF (st : List Int × List (List Int)) (p : Int) : List Int × List (List Int) := match st.2[p.toNat]? with
  | some (h :: t) => (st.1 ++ [h], st.2.set p.toNat t)
  | _ => st
def stepM (rows : List (List Int)) (kn : List Int) : List Int × List (List Int) := kn.foldl stepF ([], rows)
inductive Goes (n : Nat) : List Int → List (List Int) → Int → Int → Prop where
  | stop {kn rows r} (h : ¬ kn.length < n) : Goes n kn rows r r
  | stuck {kn rows r} (h : kn.length < n) (h2 : (stepM rows kn).1 = []) : Goes n kn rows r (-1)
  | step {kn rows r z} (h : kn.length < n) (h2 : (stepM rows kn).1 ≠ []) (h3 : Goes n (kn ++ (stepM rows kn).1) (stepM rows kn).2 (r + 1) z) : Goes n kn rows r z
def InN (n : Nat) (rows : List (List Int)) : Prop := ∀ row ∈ rows, ∀ c ∈ row, 0 ≤ c ∧ c.toNat < n
theorem stepF_len (st : List Int × List (List Int)) (p : Int) : (stepF st p).2.length = st.2.length ∧ (stepF st p).1.length ≤ st.1.length + 1 := by
  unfold stepF
  split
  · simp
  · simp
theorem stepF_in {n : Nat} {st : List Int × List (List Int)} {p : Int} (h1 : ∀ c ∈ st.1, 0 ≤ c ∧ c.toNat < n) (h2 : InN n st.2) : (∀ c ∈ (stepF st p).1, 0 ≤ c ∧ c.toNat < n) ∧ InN n (stepF st p).2 := by
  unfold stepF
  split
  · rename_i h t e
    have hm := List.mem_of_getElem? e
    refine ⟨fun c hc => ?_, fun row hr c hc => ?_⟩
    · rcases List.mem_append.mp hc with hc | hc
      · exact h1 c hc
      · obtain rfl := List.mem_singleton.mp hc
        exact h2 _ hm c List.mem_cons_self
    · rcases List.mem_or_eq_of_mem_set hr with hr | rfl
      · exact h2 row hr c hc
      · exact h2 _ hm c (List.mem_cons_of_mem _ hc)
  · exact ⟨h1, h2⟩
theorem fold_all {n : Nat} : ∀ (kn : List Int) (st : List Int × List (List Int)), (∀ c ∈ st.1, 0 ≤ c ∧ c.toNat < n) → InN n st.2 → (∀ c ∈ (kn.foldl stepF st).1, 0 ≤ c ∧ c.toNat < n) ∧ InN n (kn.foldl stepF st).2 ∧ (kn.foldl stepF st).2.length = st.2.length ∧ (kn.foldl stepF st).1.length ≤ st.1.length + kn.length
  | [], st, h1, h2 => ⟨h1, h2, rfl, Nat.le_refl _⟩
  | p :: r, st, h1, h2 => by
    have q := stepF_in (p := p) h1 h2
    have z := stepF_len st p
    obtain ⟨a, b, c, d⟩ := fold_all r (stepF st p) q.1 q.2
    refine ⟨a, b, c.trans z.1, ?_⟩
    have d : (r.foldl stepF (stepF st p)).1.length ≤ (stepF st p).1.length + r.length := d
    show (r.foldl stepF (stepF st p)).1.length ≤ st.1.length + (r.length + 1)
    omega
theorem step_all {n : Nat} {rows : List (List Int)} (h2 : InN n rows) (kn : List Int) : (∀ c ∈ (stepM rows kn).1, 0 ≤ c ∧ c.toNat < n) ∧ InN n (stepM rows kn).2 ∧ (stepM rows kn).2.length = rows.length ∧ (stepM rows kn).1.length ≤ kn.length := by
  have q := fold_all kn ([], rows) (by simp) h2
  refine ⟨q.1, q.2.1, q.2.2.1, ?_⟩
  have z := q.2.2.2
  show (kn.foldl stepF ([], rows)).1.length ≤ kn.length
  simpa using z
theorem step_take {rows : List (List Int)} {kn : List Int} {j : Nat} {p : Int} (h : kn[j]? = some p) : stepM rows (kn.take (j + 1)) = stepF (stepM rows (kn.take j)) p := by
  unfold stepM
  rw [take_snoc h, List.foldl_append]
  rfl
def knLen (σ : St) (H : Hp) : Nat := match σ[1]? with
  | some (some (V.ref kb)) => (match H kb with
    | some (HO.lst xs) => xs.length
    | _ => 0)
  | _ => 0
theorem knLen_of {x0 : Option V} {r : List (Option V)} {H : Hp} {kb : Addr} {xs : List V} (h : H kb = some (.lst xs)) : knLen (x0 :: some (.ref kb) :: r) H = xs.length := by
  show (match H kb with
    | some (HO.lst xs) => xs.length
    | _ => 0) = xs.length
  rw [h]
section
variable {P : Program} {w : World} {K : PySem.W.Frag} {mg : Str → Option Value} {base : Heap} {A : Adr}
def spLast : Sp := fun vs H Q _ => ∃ (a : Addr) (rs : List Addr) (oss : List (List Int)) (z : Int), vs = [.ref a] ∧ H a = some (.lst (rs.map V.ref)) ∧ LL H rs oss ∧ 0 < oss.length ∧ oss.length < 400 ∧ InN oss.length oss ∧ Goes oss.length [0] oss 0 z ∧ ∀ H', Same H H' → Q (.int z) H'
theorem sc_law_last : FnScope ["_law_orders", "_law_knows", "_law_rows", "_law_rounds", "_law_told_here", "_law_row", "_law_person"] ["_law_orders"] (defScope s_law_last) := ⟨rfl, rfl, rfl, by decide +kernel, rfl, by decide +kernel, by decide +kernel⟩
theorem ok_law_last (T : Txt K mg A) : FnOk P w K mg base CX0 1 A.f_law_last A.d_law_last ["_law_orders"] spLast := by
  refine T.f_law_last.ok sc_law_last (fun vs H Q E h => ?_) (fun cdv A' outer s H vs Q E hr h => ?_)
  · obtain ⟨a, rs, oss, z, rfl, _⟩ := h
    rfl
  · obtain ⟨a, rs, oss, z, rfl, hH, hL, hn0, hn1, hin, hgo, k⟩ := h
    refine ⟨_, (pss_cons (ps_asg (@pe_tup _ _ _ _ _ (@pa_cons _ _ _ _ _ (@pe_lst _ _ _ _ (@pa_cons _ _ _ _ _ pe_int pa_nil (by rfl))) (@pa_cons _ _ _ _ _ (pe_lc (own := [("_law_row", 5)]) rfl sc_law_last.nd (pi_listK K (pv 0)) (blkOk_by (own := [("_law_row", 5)]) (by kernel_rfl)) (fun _ _ _ _ _ => (pg_name (i := 5) sc_law_last.nd rfl (Or.inl rfl))) (fun _ _ _ _ _ => pts_nil) (fun _ _ _ _ _ => (pe_callTy (call_list_ofK K) (by rfl) T.n_list (by decide +kernel) (@pa_cons _ _ _ _ _ (pv 5) pa_nil (by rfl))))) (@pa_cons _ _ _ _ _ pe_int pa_nil (by rfl)) (by rfl)) (by rfl))) (pg_tupK K (n := 3) (by rfl) (pgs_cons (pg_name (i := 1) sc_law_last.nd rfl (Or.inl rfl)) (pgs_cons (pg_name (i := 2) sc_law_last.nd rfl (Or.inr rfl)) (pgs_cons (pg_name (i := 3) sc_law_last.nd rfl (Or.inl rfl)) pgs_nil)))))
      (pss_cons (ps_while PassesOwn.never (pt_cmpR op_lt (pe_callB (call_len_seqK K) (by rfl) T.n_len PySem.boot_len (@pa_cons _ _ _ _ _ (pv 1) pa_nil (by rfl))) (pe_callB (call_len_seqK K) (by rfl) T.n_len PySem.boot_len (@pa_cons _ _ _ _ _ (pv 0) pa_nil (by rfl))) (nomark _)) (pss_cons (ps_setLc (i := 4) (own := [("_law_person", 6)]) rfl sc_law_last.nd rfl rfl (sw_true rfl rfl rfl (by decide +kernel)) (pi_listK K (pv 1)) (blkOk_by (own := [("_law_person", 6)]) (by kernel_rfl)) (fun _ _ _ _ _ => (pg_name (i := 6) sc_law_last.nd rfl (Or.inl rfl))) (fun _ _ _ _ _ => (pts_one (pt_cmpR (op_neDK K hr.units) (pe_ix (ix_listK K) (pv 2) (pv 6) (fun _ _ => rfl)) (@pe_lst _ _ _ _ pa_nil) (nomark _)))) (fun _ _ _ _ _ => (pe_bmK K PySem.F.plainAttrs_list PySem.F.slot_list_pop PySem.F.type_list_pop mt_popAt (pe_ix (ix_listK K) (pv 2) (pv 6) (fun _ _ => rfl)) (@pa_cons _ _ _ _ _ pe_int pa_nil (by rfl)))))
      (pss_cons (ps_if (pt_cmpR (op_eqDK K hr.units) (pv 4) (@pe_lst _ _ _ _ pa_nil) (nomark _)) (pss_one (ps_ret (pe_un un_neg pe_int))) pss_nil)
      (pss_one (ps_par (i := 1) (j := 3) (by rfl) sc_law_last.nd rfl rfl (by decide) rfl rfl (@pa_cons _ _ _ _ _ (pe_op op_cat (pv 1) (pv 4)) (@pa_cons _ _ _ _ _ (pe_op op_add (pv 3) pe_int) pa_nil (by rfl)) (by rfl)) (by rfl))))))
      (pss_one (ps_ret (pv 3))))), ?_⟩
    refine ⟨(by show 1 ≤ sizeLine; decide), fun ka hka => ?_⟩
    have s1 : Same H (upd H ka (.lst [.int 0])) := Same.new hka
    have hH1 := s1 _ _ hH
    refine ⟨_, rfl, a, rfl, ⟨_, SqL.of hH1⟩, fun R hR => ?_⟩
    have hRk : ka ≠ R := fun e => by
      rw [← e, upd_same] at hR
      cases hR
    have hRH : H R = none := s1.free hR
    refine lc_list (K := K) (a := a) (xs := rs.map V.ref) (fun i H2 => Same (upd H ka (.lst [.int 0])) H2 ∧ ∃ rs' : List Addr, rs'.length = i ∧ H2 R = some (.lst (rs'.map V.ref)) ∧ LL H2 rs' (oss.take i) ∧ (∀ r ∈ rs', H r = none ∧ r ≠ R ∧ r ≠ ka) ∧ rs'.Nodup)
      ⟨Same.new hR, [], rfl, upd_same, ⟨by simp, fun p r os h1 _ => by simp at h1⟩, by simp, List.nodup_nil⟩ (fun i H2 _ ⟨s2, _⟩ => SqL.of (s2 _ _ hH1)) ?_ ?_
    · rintro i x H2 hi ⟨s2, rs', hlen', hd, hL', hn', hnd⟩
      obtain ⟨r, hr0, rfl⟩ := ref_get hi
      have hil : i < rs.length := (List.getElem?_eq_some_iff.mp hr0).1
      obtain ⟨os, ho⟩ : ∃ os, oss[i]? = some os := ⟨_, List.getElem?_eq_getElem (by rw [← hL.1]; exact hil)⟩
      have hr2 := s2 _ _ (s1 _ _ (hL.2 i r os hr0 ho))
      refine ⟨rfl, yesT ?_⟩
      refine ⟨_, rfl, r, _, rfl, .inl (SqL.of hr2), fun q hq => ⟨rs'.map V.ref, ?_, ?_, (s2.upd (s2.free hq)).upd hR, rs' ++ [q], ?_, ?_, ⟨?_, ?_⟩, ?_, ?_⟩⟩
      · rw [upd_ne (ne_of_none hd hq)]
        exact hd
      · rw [List.length_map, hlen']
        have := hL.1
        exact small1000 (by omega)
      · rw [List.length_append, hlen']
        rfl
      · rw [upd_same, List.map_append]
        rfl
      · rw [take_snoc ho, List.length_append, List.length_append, hL'.1]
        rfl
      · intro p r' os' hp ho'
        rw [take_snoc ho] at ho'
        have nq : q ≠ R := Ne.symm (ne_of_none hd hq)
        by_cases hpi : p < rs'.length
        · rw [List.getElem?_append_left hpi] at hp
          rw [List.getElem?_append_left (by rw [← hL'.1]; exact hpi)] at ho'
          have e := hL'.2 p r' os' hp ho'
          rw [upd_ne (hn' r' (List.mem_of_getElem? hp)).2.1, upd_ne (ne_of_none e hq)]
          exact e
        · rw [List.getElem?_append_right (by omega)] at hp
          rw [List.getElem?_append_right (by rw [← hL'.1]; omega), ← hL'.1] at ho'
          have ep : p - rs'.length = 0 := by
            have := (List.getElem?_eq_some_iff.mp hp).1
            simp at this
            omega
          rw [ep] at hp ho'
          have e1 : q = r' := by simpa using hp
          have e2 : os = os' := by simpa using ho'
          subst e1 e2
          rw [upd_ne nq, upd_same]
      · intro r' hr'
        rcases List.mem_append.mp hr' with h1 | h1
        · exact hn' r' h1
        · obtain rfl := List.mem_singleton.mp h1
          exact ⟨s1.free (s2.free hq), Ne.symm (ne_of_none hd hq), Ne.symm (ne_of_none (s2 _ _ upd_same) hq)⟩
      · refine nd_snoc hnd fun h1 => ?_
        obtain ⟨p, hp⟩ := List.getElem?_of_mem h1
        obtain ⟨os', ho'⟩ : ∃ os', (oss.take i)[p]? = some os' := ⟨_, List.getElem?_eq_getElem (by rw [← hL'.1]; exact (List.getElem?_eq_some_iff.mp hp).1)⟩
        rw [hL'.2 p q os' hp ho'] at hq
        cases hq
    · rintro H2 ⟨s2, rs', hlen', hd, hL', hn', hnd⟩
      rw [List.length_map, hL.1, List.take_length] at hL'
      rw [List.length_map] at hlen'
      have hka2 : H2 ka = some (.lst [.int 0]) := s2 _ _ upd_same
      refine ⟨(by show 3 ≤ sizeLine; decide), fun t ht => ?_⟩
      have nt : ∀ {b o}, H2 b = some o → b ≠ t := fun {b o} e => ne_of_none e ht
      refine ⟨t, _, rfl, SqT.of upd_same, rfl, _, _, rfl, _, _, rfl, _, _, rfl, rfl, ?_⟩
      have tn : t ∉ rs' := fun h1 => by
        obtain ⟨p, hp⟩ := List.getElem?_of_mem h1
        obtain ⟨os', ho'⟩ : ∃ os', oss[p]? = some os' := ⟨_, List.getElem?_eq_getElem (by rw [← hL'.1]; exact (List.getElem?_eq_some_iff.mp hp).1)⟩
        rw [hL'.2 p t os' hp ho'] at ht
        cases ht
      refine while_by (fun σ H3 => ∃ (kb : Addr) (kn : List Int) (rows : List (List Int)) (rd : Int) (x y v : Option V), σ = [some (.ref a), some (.ref kb), some (.ref R), some (.int rd), x, y, v] ∧ Same H H3 ∧ H3 kb = some (.lst (kn.map V.int)) ∧ kb ∉ rs' ∧ kb ≠ R ∧ H kb = none ∧ H3 R = some (.lst (rs'.map V.ref)) ∧ LL H3 rs' rows ∧ InN oss.length rows ∧
          (∀ c ∈ kn, 0 ≤ c ∧ c.toNat < oss.length) ∧ kn.length < 1000 ∧ Goes oss.length kn rows rd z)
        (fun σ H3 => oss.length - knLen σ H3)
        ⟨ka, [0], oss, 0, none, none, none, rfl, (s1.trans s2).upd ((s1.trans s2).free ht), (by rw [upd_ne (nt hka2)]; exact hka2), fun h1 => (hn' ka h1).2.2 rfl, hRk, hka, (by rw [upd_ne (nt hd)]; exact hd), hL'.upd tn, hin, by simpa using hn0, by decide, hgo⟩ ?_ ?_
      · rintro σ H3 ⟨kb, kn, rows, rd, x, y, v, rfl, s3, hkb, hkr, hkR, hkH, hR3, hL3, hin3, hkn, hk100, hgo3⟩
        have hH3 := s3 _ _ hH
        refine ⟨_, rfl, kb, _, rfl, .inl (SqL.of hkb), _, rfl, a, _, rfl, .inl (SqL.of hH3), _, _, rfl, rfl, _, rfl, ?_⟩
        have hll : ((rs.map V.ref).length : Int) = (oss.length : Int) := by
          rw [List.length_map, hL.1]
        have hkl : ((kn.map V.int).length : Int) = (kn.length : Int) := by
          rw [List.length_map]
        refine ite2 (fun hlt => ?_) (fun hlt => ?_)
        · have hlt : kn.length < oss.length := by
            have := of_decide_eq_true hlt
            omega
          refine ⟨_, rfl, kb, rfl, ⟨_, SqL.of hkb⟩, fun D hD => ?_⟩
          have hDH : H D = none := s3.free hD
          have Dr : D ∉ rs' := fun h1 => by
            obtain ⟨p, hp⟩ := List.getElem?_of_mem h1
            obtain ⟨os', ho'⟩ : ∃ os', rows[p]? = some os' := ⟨_, List.getElem?_eq_getElem (by rw [← hL3.1]; exact (List.getElem?_eq_some_iff.mp hp).1)⟩
            rw [hL3.2 p D os' hp ho'] at hD
            cases hD
          have nDk : kb ≠ D := ne_of_none hkb hD
          have nDR : R ≠ D := ne_of_none hR3 hD
          have hrl : rows.length = rs'.length := hL3.1.symm
          have hrsl : rs'.length = oss.length := hL'.1
          refine lc_list (K := K) (a := kb) (xs := kn.map V.int) (fun j H4 => Same H H4 ∧ H4 kb = some (.lst (kn.map V.int)) ∧ H4 R = some (.lst (rs'.map V.ref)) ∧ H4 D = some (.lst ((stepM rows (kn.take j)).1.map V.int)) ∧ LL H4 rs' (stepM rows (kn.take j)).2)
            ⟨s3.upd hDH, by rw [upd_ne nDk]; exact hkb, by rw [upd_ne nDR]; exact hR3, upd_same, hL3.upd Dr⟩ (fun j H4 _ ⟨_, q, _⟩ => SqL.of q) ?_ ?_
          · rintro j x1 H4 hj ⟨s4, hk4, hR4, hD4, hL4⟩
            obtain ⟨p, hp, rfl⟩ := map_int_get hj
            have hpb := hkn p (List.mem_of_getElem? hp)
            have hjl : j < kn.length := (List.getElem?_eq_some_iff.mp hp).1
            have sa := step_all hin3 (kn.take j)
            rw [step_take hp]
            have hpl : p.toNat < rs'.length := by omega
            obtain ⟨r, hr0⟩ : ∃ r, rs'[p.toNat]? = some r := ⟨_, List.getElem?_eq_getElem hpl⟩
            obtain ⟨row, hrow⟩ : ∃ row, (stepM rows (kn.take j)).2[p.toNat]? = some row := ⟨_, List.getElem?_eq_getElem (by rw [sa.2.2.1]; omega)⟩
            have hr4 := hL4.2 _ _ _ hr0 hrow
            have item : atI (rs'.map V.ref) p = some (.ref r) := at_of (j := p.toNat) (by omega) (by rw [List.getElem?_map, hr0]; rfl)
            refine ⟨rfl, ?_⟩
            refine ⟨_, rfl, _, rfl, R, _, p, .ref r, rfl, rfl, SqL.of hR4, item, Nat.zero_le _, fun e he => ?_⟩
            have ne : ∀ {b o}, H4 b = some o → b ≠ e := fun {b o} q => ne_of_none q he
            refine ⟨.list (row.map PyData.int), .list [], dp_ints (SqL.of (by rw [upd_ne (ne hr4)]; exact hr4)), .lst (SqL.of upd_same) .nil, shaped_ints row, shaped_ints [], _, rfl, ?_⟩
            rw [eqv_nil]
            have er : e ∉ rs' := fun h1 => by
              obtain ⟨q, hq⟩ := List.getElem?_of_mem h1
              obtain ⟨os', ho'⟩ : ∃ os', (stepM rows (kn.take j)).2[q]? = some os' := ⟨_, List.getElem?_eq_getElem (by rw [← hL4.1]; exact (List.getElem?_eq_some_iff.mp hq).1)⟩
              rw [hL4.2 q e os' hq ho'] at he
              cases he
            cases row with
            | nil =>
              refine iteF ?_
              have es : stepF (stepM rows (kn.take j)) p = stepM rows (kn.take j) := by
                unfold stepF
                rw [hrow]
              rw [es]
              exact ⟨s4.upd (s4.free he), by rw [upd_ne (ne hk4)]; exact hk4, by rw [upd_ne (ne hR4)]; exact hR4, by rw [upd_ne (ne hD4)]; exact hD4, hL4.upd er⟩
            | cons h0 t0 =>
              refine iteT ?_
              have es : stepF (stepM rows (kn.take j)) p = ((stepM rows (kn.take j)).1 ++ [h0], (stepM rows (kn.take j)).2.set p.toNat t0) := by
                unfold stepF
                rw [hrow]
              rw [es]
              have hrm : r ∈ rs' := List.mem_of_getElem? hr0
              have nrD : D ≠ r := fun q => Dr (by rw [q]; exact hrm)
              have nrk : kb ≠ r := fun q => hkr (by rw [q]; exact hrm)
              have nrR : R ≠ r := Ne.symm (hn' r hrm).2.1
              have hre : (upd H4 e (.lst [])) r = some (.lst ((h0 :: t0).map V.int)) := by
                rw [upd_ne (ne hr4)]
                exact hr4
              refine ⟨_, rfl, _, rfl, R, _, p, .ref r, rfl, rfl, SqL.of (by rw [upd_ne (ne hR4)]; exact hR4), item, .inl ⟨rfl, _, SqL.of hre⟩, r, _, 0, 0, .int h0, rfl, rfl, hre, by decide, by decide, (by unfold seqIndex?; simp), rfl, ?_⟩
              have eer : ((h0 :: t0).map V.int).eraseIdx 0 = t0.map V.int := rfl
              rw [eer]
              have hD5 : (upd (upd H4 e (.lst [])) r (.lst (t0.map V.int))) D = some (.lst ((stepM rows (kn.take j)).1.map V.int)) := by
                rw [upd_ne nrD, upd_ne (ne hD4)]
                exact hD4
              refine ⟨_, hD5, ?_, ((s4.upd (s4.free he)).upd (hn' r hrm).1).upd hDH, ?_, ?_, ?_, ?_⟩
              · rw [List.length_map]
                have := sa.2.2.2
                rw [List.length_take] at this
                exact small1000 (by omega)
              · rw [upd_ne nDk, upd_ne nrk, upd_ne (ne hk4)]
                exact hk4
              · rw [upd_ne nDR, upd_ne nrR, upd_ne (ne hR4)]
                exact hR4
              · rw [upd_same, List.map_append]
                rfl
              · exact ((hL4.upd er).set hr0 hnd).upd Dr
          · rintro H4 ⟨s4, hk4, hR4, hD4, hL4⟩
            rw [List.length_map, List.take_length] at hD4 hL4
            have sa := step_all hin3 kn
            refine ⟨_, rfl, Nat.zero_le _, fun e he => ?_⟩
            have ne : ∀ {b o}, H4 b = some o → b ≠ e := fun {b o} q => ne_of_none q he
            have er : e ∉ rs' := fun h1 => by
              obtain ⟨q, hq⟩ := List.getElem?_of_mem h1
              obtain ⟨os', ho'⟩ : ∃ os', (stepM rows kn).2[q]? = some os' := ⟨_, List.getElem?_eq_getElem (by rw [← hL4.1]; exact (List.getElem?_eq_some_iff.mp hq).1)⟩
              rw [hL4.2 q e os' hq ho'] at he
              cases he
            refine ⟨.list ((stepM rows kn).1.map PyData.int), .list [], dp_ints (SqL.of (by rw [upd_ne (ne hD4)]; exact hD4)), .lst (SqL.of upd_same) .nil, shaped_ints _, shaped_ints [], _, rfl, ?_⟩
            rw [eqv_nil]
            have s5 := s4.upd (o := .lst []) (s4.free he)
            refine ite2 (fun h0 => ?_) (fun h0 => ?_)
            · have h0 := of_decide_eq_true h0
              refine ⟨_, rfl, ?_⟩
              cases hgo3 with
              | stop h => exact absurd hlt h
              | stuck _ _ => exact k _ s5
              | step _ h2 _ => exact absurd h0 h2
            · have h0 : (stepM rows kn).1 ≠ [] := fun q => h0 (decide_eq_true q)
              have hgo5 : Goes oss.length (kn ++ (stepM rows kn).1) (stepM rows kn).2 (rd + 1) z := by
                cases hgo3 with
                | stop h => exact absurd hlt h
                | stuck _ h2 => exact absurd h2 h0
                | step _ _ h3 => exact h3
              have hk5 : (upd H4 e (.lst [])) kb = some (.lst (kn.map V.int)) := by
                rw [upd_ne (ne hk4)]
                exact hk4
              have hD5 : (upd H4 e (.lst [])) D = some (.lst ((stepM rows kn).1.map V.int)) := by
                rw [upd_ne (ne hD4)]
                exact hD4
              have hR5 : (upd H4 e (.lst [])) R = some (.lst (rs'.map V.ref)) := by
                rw [upd_ne (ne hR4)]
                exact hR4
              have hL5 := hL4.upd (o := .lst []) er
              refine ⟨_, rfl, _, rfl, kb, D, _, _, rfl, rfl, hk5, hD5, ?_, fun kc hkc => ?_⟩
              · rw [List.length_map, List.length_map]
                have := sa.2.2.2
                exact Nat.le_of_lt (small1000 (by omega))
              refine ⟨_, rfl, _, _, rfl, rfl, _, _, rfl, ?_⟩
              have nk : ∀ {b o}, (upd H4 e (.lst [])) b = some o → b ≠ kc := fun {b o} q => ne_of_none q hkc
              have kcr : kc ∉ rs' := fun h1 => by
                obtain ⟨q, hq⟩ := List.getElem?_of_mem h1
                obtain ⟨os', ho'⟩ : ∃ os', (stepM rows kn).2[q]? = some os' := ⟨_, List.getElem?_eq_getElem (by rw [← hL5.1]; exact (List.getElem?_eq_some_iff.mp hq).1)⟩
                rw [hL5.2 q kc os' hq ho'] at hkc
                cases hkc
              have hlt1 : 0 < (stepM rows kn).1.length := List.length_pos_iff.mpr h0
              refine ⟨⟨kc, kn ++ (stepM rows kn).1, (stepM rows kn).2, rd + 1, _, _, _, rfl, s5.upd (s5.free hkc), ?_, kcr, Ne.symm (nk hR5), s5.free hkc, ?_, hL5.upd kcr, sa.2.1, fun c hc => ?_, ?_, hgo5⟩, ?_⟩
              · rw [upd_same, List.map_append]
              · rw [upd_ne (nk hR5)]
                exact hR5
              · rcases List.mem_append.mp hc with hc | hc
                · exact hkn c hc
                · exact sa.1 c hc
              · rw [List.length_append]
                have := sa.2.2.2
                omega
              · have e1 := knLen_of (x0 := some (.ref a)) (r := [some (.ref R), some (.int rd), x, y, v]) hkb
                have e2 := knLen_of (x0 := some (.ref a)) (r := [some (.ref R), some (.int (rd + 1)), some (.ref D), y, v]) (upd_same (H := upd H4 e (.lst [])) (a := kc) (o := .lst (kn.map V.int ++ (stepM rows kn).1.map V.int)))
                show oss.length - knLen (some (.ref a) :: some (.ref kc) :: [some (.ref R), some (.int (rd + 1)), some (.ref D), y, v]) _ < oss.length - knLen (some (.ref a) :: some (.ref kb) :: [some (.ref R), some (.int rd), x, y, v]) H3
                rw [e1, e2, List.length_append, List.length_map, List.length_map]
                omega
        · have hlt : ¬ kn.length < oss.length := fun q => hlt (decide_eq_true (by omega))
          refine ⟨_, rfl, ?_⟩
          cases hgo3 with
          | stop _ => exact k _ s3
          | stuck h _ => exact absurd h hlt
          | step h _ _ => exact absurd h hlt
      · intro σ H3 Q1 Q2 hq hc
        obtain ⟨v1, e1, p1, y1, e2, h2, v2, e3, p2, y2, e4, h4, i1, j1, e5, e6, b1, e7, q1⟩ := hc
        exact ⟨v1, e1, p1, y1, e2, h2, v2, e3, p2, y2, e4, h4, i1, j1, e5, e6, b1, e7, hq _ _ q1⟩
end
end Toy

set_option Elab.async false
set_option linter.all false
set_option maxRecDepth 100000
set_option maxHeartbeats 4000000
namespace Toy
open PySem L2
theorem hdR_at {rows : Rws} {p : Nat} {y : Int} {rest : List Int} (h : rows[p]? = some (some (y :: rest))) : hdR rows p = y ∧ rows.getD (p : Int).toNat none = some (y :: rest) := by
  have e : rows.getD (p : Int).toNat none = some (y :: rest) := by
    rw [Int.toNat_natCast, List.getD_eq_getElem?_getD, h]
    rfl
  refine ⟨?_, e⟩
  unfold hdR
  rw [e]
theorem fold_fst {os : List (List Int)} {rows : Rws} {as : List Int} : ∀ (cs : List Int) (st : List Call × Rws), (∀ c ∈ cs, c ∉ as ∧ ∃ x rest, rows.getD c.toNat none = some (x :: rest)) → (cs.foldl (stepP os rows as) st).1 = st.1 ++ cs.map fun c => (c, hdR rows c, decide (hdR rows c ∉ as))
  | [], st, _ => by simp
  | c :: cs, st, h => by
    obtain ⟨h1, x, rest, h2⟩ := h c List.mem_cons_self
    rw [List.foldl_cons, fold_fst cs _ fun d hd => h d (List.mem_cons_of_mem _ hd)]
    have e : (stepP os rows as st c).1 = st.1 ++ [(c, hdR rows c, decide (hdR rows c ∉ as))] := by
      unfold stepP hdR
      rw [if_neg h1, h2]
      dsimp only
      by_cases hx : x ∈ as
      · rw [if_pos hx, decide_eq_false (fun z => z hx)]
      · rw [if_neg hx, decide_eq_true hx]
    rw [e, List.map_cons, List.append_assoc]
    rfl
theorem next_fst {os : List (List Int)} {as Cl : List Int} {rows : Rws} (w : Wk os as rows Cl) : (nextM os rows as).1 = (idxs hasC rows).map fun c => (c, hdR rows c, decide (hdR rows c ∉ as)) := by
  unfold nextM
  rw [fold_fst _ _ fun c hc => ?_]
  · exact List.nil_append _
  · obtain ⟨p, row, rfl, h1, h2⟩ := idxs_mem.mp hc
    obtain ⟨y, rest, rfl⟩ := hasC_cons h2
    exact ⟨w.na p _ h1, y, rest, (hdR_at h1).2⟩
end Toy

set_option Elab.async false
set_option linter.all false
set_option maxRecDepth 100000
set_option maxHeartbeats 4000000
namespace Toy
open PySem L2
theorem fmap_congr {α β : Type} {f h : α → Option β} : ∀ {l : List α}, (∀ x ∈ l, f x = h x) → l.filterMap f = l.filterMap h
  | [], _ => rfl
  | x :: l, e => by
    rw [List.filterMap_cons, List.filterMap_cons, e x List.mem_cons_self, fmap_congr fun y hy => e y (List.mem_cons_of_mem _ hy)]
def hdL (rl : List (List Int)) (c : Int) : Option Int := (rl.getD c.toNat []).head?
theorem foldF : ∀ (kn : List Int) (st : List Int × List (List Int)), kn.Nodup → (∀ c ∈ kn, 0 ≤ c) →
    (kn.foldl stepF st).1 = st.1 ++ kn.filterMap (hdL st.2) ∧ ∀ p : Nat, (kn.foldl stepF st).2[p]? = if (p : Int) ∈ kn then st.2[p]?.map List.tail else st.2[p]?
  | [], st, _, _ => ⟨by simp, fun p => by rw [if_neg (by simp)]; rfl⟩
  | c :: r, st, hn, h0 => by
    obtain ⟨hc, hr⟩ := List.nodup_cons.mp hn
    have c0 := h0 c List.mem_cons_self
    obtain ⟨i1, i2⟩ := foldF r (stepF st c) hr fun d hd => h0 d (List.mem_cons_of_mem _ hd)
    have e2 : ∀ p : Nat, (stepF st c).2[p]? = if (p : Int) = c then st.2[p]?.map List.tail else st.2[p]? := fun p => by
      unfold stepF
      by_cases hp : (p : Int) = c
      · have hp' : c.toNat = p := by omega
        rw [if_pos hp, hp']
        cases hq : st.2[p]? with
        | none => exact hq
        | some l =>
          cases l with
          | nil => exact hq
          | cons h t =>
            have hl := (List.getElem?_eq_some_iff.mp hq).1
            show (st.2.set p t)[p]? = _
            rw [List.getElem?_set_self hl]
            rfl
      · rw [if_neg hp]
        split
        · rw [List.getElem?_set_ne (by omega)]
        · rfl
    have e1 : (stepF st c).1 = st.1 ++ (hdL st.2 c).toList := by
      unfold stepF hdL
      rw [List.getD_eq_getElem?_getD]
      cases hq : st.2[c.toNat]? with
      | none => simp
      | some l =>
        cases l with
        | nil => simp
        | cons h t => simp
    have e3 : r.filterMap (hdL (stepF st c).2) = r.filterMap (hdL st.2) := fmap_congr fun d hd => by
      have d0 := h0 d (List.mem_cons_of_mem _ hd)
      have hdc : ((d.toNat : Nat) : Int) ≠ c := fun z => hc (by rw [← z, Int.toNat_of_nonneg d0]; exact hd)
      unfold hdL
      rw [List.getD_eq_getElem?_getD, List.getD_eq_getElem?_getD, e2, if_neg hdc]
    rw [List.foldl_cons]
    refine ⟨?_, fun p => ?_⟩
    · rw [i1, e1, e3, List.append_assoc]
      congr 1
      rw [List.filterMap_cons]
      cases hdL st.2 c <;> rfl
    · rw [i2, e2]
      by_cases hpc : (p : Int) = c
      · rw [if_neg (fun z => hc (by rw [← hpc]; exact z)), if_pos hpc, if_pos (by rw [hpc]; exact List.mem_cons_self)]
      · rw [if_neg hpc]
        by_cases hpr : (p : Int) ∈ r
        · rw [if_pos hpr, if_pos (List.mem_cons_of_mem _ hpr)]
        · rw [if_neg hpr, if_neg (fun z => by rcases List.mem_cons.mp z with z | z; exact hpc z; exact hpr z)]
structure Rel (os : List (List Int)) (rows : Rws) (Cl kn : List Int) (rl : List (List Int)) : Prop where
  len : rl.length = os.length
  nd : kn.Nodup
  mem : ∀ c, c ∈ kn ↔ c = 0 ∨ c ∈ Cl
  kin : ∀ p : Nat, (p : Int) ∈ kn → ∃ l, rows[p]? = some (some l)
  row : ∀ (p : Nat) (l : List Int), rows[p]? = some (some l) → (p : Int) ∈ kn ∧ rl[p]? = some l
  oth : ∀ p : Nat, p < os.length → (p : Int) ∉ kn → rl[p]? = some (ch os p)
theorem Rel.first {os : List (List Int)} (g : GoodO os) : Rel os (firstM os) [] [0] os := by
  have n1 := g.n1
  have h0 : os[0]? = some (ch os 0) := ch_get (os := os) (x := 0) (by omega) (by omega)
  refine ⟨rfl, by simp, fun c => by simp, fun p hp => ?_, fun p l hl => ?_, fun p hp _ => ?_⟩
  · have : p = 0 := by have := List.mem_singleton.mp hp; omega
    subst this
    exact ⟨_, rfl⟩
  · obtain ⟨rfl, rfl⟩ := first_only hl
    exact ⟨by simp, h0⟩
  · have := ch_get (os := os) (x := (p : Int)) (by omega) (by omega)
    rwa [Int.toNat_natCast] at this
theorem foldF_len : ∀ (kn : List Int) (st : List Int × List (List Int)), (kn.foldl stepF st).2.length = st.2.length
  | [], _ => rfl
  | c :: r, st => by rw [List.foldl_cons, foldF_len r, (stepF_len st c).1]
theorem Rel.heads {os : List (List Int)} {rows : Rws} {Cl kn : List Int} {rl : List (List Int)} (R : Rel os rows Cl kn rl) (h0 : ∀ c ∈ kn, 0 ≤ c) {c x : Int} (hc : c ∈ kn) : hdL rl c = some x ↔ ∃ rest, rows[c.toNat]? = some (some (x :: rest)) := by
  have e : ((c.toNat : Nat) : Int) = c := Int.toNat_of_nonneg (h0 c hc)
  obtain ⟨l, hl⟩ := R.kin c.toNat (by rw [e]; exact hc)
  have hr := (R.row _ _ hl).2
  unfold hdL
  rw [List.getD_eq_getElem?_getD, hr, hl]
  cases l with
  | nil => simp
  | cons y rest => simp
theorem Rel.next {os : List (List Int)} {rows : Rws} {Cl kn : List Int} {rl : List (List Int)} (g : GoodO os) (w : Wk os [] rows Cl) (R : Rel os rows Cl kn rl) :
    Rel os (nextM os rows []).2 (Cl ++ (nextM os rows []).1.map (·.2.1)) (kn ++ (stepM rl kn).1) (stepM rl kn).2 ∧ ((stepM rl kn).1 = [] → idxs hasC rows = []) := by
  have h0 : ∀ c ∈ kn, 0 ≤ c := fun c hc => by
    rcases (R.mem c).mp hc with h | h
    · omega
    · have := w.rng c h
      omega
  obtain ⟨f1, f2⟩ := foldF kn ([], rl) R.nd h0
  have f1 : (stepM rl kn).1 = kn.filterMap (hdL rl) := by
    have := f1
    rw [List.nil_append] at this
    exact this
  have f2 : ∀ p : Nat, (stepM rl kn).2[p]? = if (p : Int) ∈ kn then rl[p]?.map List.tail else rl[p]? := f2
  obtain ⟨iC, iB, iA⟩ := fold_rows (rows0 := rows) g (idxs hasC rows) ([], rows) Cl w (asc_nodup (idxs_asc _ _)) fun c hc => by
    obtain ⟨p, row, rfl, h1, h2⟩ := idxs_mem.mp hc
    obtain ⟨y, rest, rfl⟩ := hasC_cons h2
    exact ⟨p, y, rest, rfl, h1, h1⟩
  have inI : ∀ {p : Nat} {x : Int} {rest : List Int}, rows[p]? = some (some (x :: rest)) → (p : Int) ∈ idxs hasC rows := fun h => idxs_mem.mpr ⟨_, _, rfl, h, rfl⟩
  have hd : ∀ x, x ∈ (stepM rl kn).1 ↔ ∃ (p : Nat) (rest : List Int), rows[p]? = some (some (x :: rest)) := fun x => by
    rw [f1, List.mem_filterMap]
    constructor
    · rintro ⟨c, hc, e⟩
      obtain ⟨rest, hr⟩ := (R.heads h0 hc).mp e
      exact ⟨_, rest, hr⟩
    · rintro ⟨p, rest, hr⟩
      have hp := (R.row p _ hr).1
      exact ⟨p, hp, (R.heads h0 hp).mpr ⟨rest, by rw [Int.toNat_natCast]; exact hr⟩⟩
  have out : ∀ x, x ∈ (stepM rl kn).1 → 0 < x ∧ x < os.length ∧ x ∉ kn := fun x hx => by
    obtain ⟨p, rest, hr⟩ := (hd x).mp hx
    obtain ⟨x0, x1, xC, _⟩ := (w.wc.row p _ hr).2 x List.mem_cons_self
    exact ⟨x0, x1, fun z => xC ((R.mem x).mp z)⟩
  have per : ∀ x, x ∈ (nextM os rows []).1.map (·.2.1) ↔ x ∈ (stepM rl kn).1 := fun x => by
    rw [hd, next_fst w, List.map_map, List.mem_map]
    constructor
    · rintro ⟨c, hc, rfl⟩
      obtain ⟨p, row, rfl, h1, h2⟩ := idxs_mem.mp hc
      obtain ⟨y, rest, rfl⟩ := hasC_cons h2
      refine ⟨p, rest, ?_⟩
      show rows[p]? = some (some (hdR rows p :: rest))
      rw [(hdR_at h1).1]
      exact h1
    · rintro ⟨p, rest, hr⟩
      exact ⟨p, inI hr, (hdR_at hr).1⟩
  refine ⟨⟨by show (kn.foldl stepF ([], rl)).2.length = _; rw [foldF_len]; exact R.len, ?_, fun c => ?_, fun p hp => ?_, fun p l hl => ?_, fun p hp hn => ?_⟩, fun z => ?_⟩
  · refine List.nodup_append.mpr ⟨R.nd, ?_, fun a ha b hb z => (out b hb).2.2 (z ▸ ha)⟩
    rw [f1]
    refine List.pairwise_filterMap.mpr (R.nd.imp_of_mem fun {a b} ha hb hab x hx y hy z => ?_)
    obtain ⟨r1, e1⟩ := (R.heads h0 ha).mp hx
    obtain ⟨r2, e2⟩ := (R.heads h0 hb).mp hy
    have a0 := h0 a ha
    have b0 := h0 b hb
    exact w.wc.dis _ _ _ _ (fun z => hab (by omega)) e1 e2 x List.mem_cons_self (by rw [z]; exact List.mem_cons_self)
  · rw [List.mem_append, List.mem_append, R.mem, per, or_assoc]
  · rcases List.mem_append.mp hp with hp | hp
    · obtain ⟨l, hl⟩ := R.kin p hp
      cases l with
      | nil => exact ⟨[], iC p [] hl fun z => by
          obtain ⟨p', row, e, h1, h2⟩ := idxs_mem.mp z
          have e : p = p' := by omega
          subst e
          rw [hl] at h1
          cases h1
          cases h2⟩
      | cons x rest => exact ⟨rest, (iB p x rest (inI hl) hl).1⟩
    · obtain ⟨q, rest, hr⟩ := (hd _).mp hp
      have := (iB q _ rest (inI hr) hr).2
      rw [Int.toNat_natCast] at this
      exact ⟨_, this⟩
  · rcases iA p with h1 | h1 | ⟨q, x, rest, h1, h2, h3⟩
    · have hl : rows[p]? = some (some l) := h1.symm.trans hl
      obtain ⟨k1, k2⟩ := R.row p l hl
      refine ⟨List.mem_append_left _ k1, ?_⟩
      rw [f2, if_pos k1, k2]
      cases l with
      | nil => rfl
      | cons x rest =>
        have h2 := (iB p x rest (inI hl) hl).1
        rw [h1] at h2
        rw [hl] at h2
        have := congrArg (fun o : Option (Option (List Int)) => match o with | some (some l) => l.length | _ => 0) h2
        simp at this
    · obtain ⟨p', row, e, h2, h3⟩ := idxs_mem.mp h1
      have e : p = p' := by omega
      subst e
      obtain ⟨x, rest, rfl⟩ := hasC_cons h3
      have h4 := (iB p x rest h1 h2).1
      have h5 : some (some l) = some (some rest) := hl.symm.trans h4
      cases h5
      obtain ⟨k1, k2⟩ := R.row p _ h2
      refine ⟨List.mem_append_left _ k1, ?_⟩
      rw [f2, if_pos k1, k2]
      rfl
    · have h5 : some (some l) = some (some (ch os x)) := hl.symm.trans h2
      cases h5
      have hx : x ∈ (stepM rl kn).1 := (hd x).mpr ⟨q, rest, h1⟩
      obtain ⟨x0, x1, xk⟩ := out x hx
      have e : (p : Int) = x := by omega
      refine ⟨List.mem_append_right _ (by rw [e]; exact hx), ?_⟩
      rw [f2, if_neg (by rw [e]; exact xk), R.oth p (by omega) (by rw [e]; exact xk), e]
  · have hn' : (p : Int) ∉ kn := fun z => hn (List.mem_append_left _ z)
    rw [f2, if_neg hn']
    exact R.oth p hp hn'
  · cases hq : idxs hasC rows with
    | nil => rfl
    | cons c cr =>
      exfalso
      obtain ⟨p, row, _, h1, h2⟩ := idxs_mem.mp (show c ∈ idxs hasC rows by rw [hq]; exact List.mem_cons_self)
      obtain ⟨y, rest, rfl⟩ := hasC_cons h2
      have := (hd y).mpr ⟨p, rest, h1⟩
      rw [z] at this
      cases this
theorem Rel.count {os : List (List Int)} {rows : Rws} {Cl kn : List Int} {rl : List (List Int)} (w : Wk os [] rows Cl) (R : Rel os rows Cl kn rl) : kn.length = Cl.length + 1 := by
  have hn : (0 :: Cl).Nodup := List.nodup_cons.mpr ⟨fun z => by have := w.rng 0 z; omega, w.nd⟩
  have : kn.Perm (0 :: Cl) := (List.perm_ext_iff_of_nodup R.nd hn).mpr fun c => by rw [R.mem, List.mem_cons]
  exact this.length_eq
theorem goes_walk {os : List (List Int)} (g : GoodO os) : ∀ (f : Nat) (pre : List (List Call)) (rows : Rws) (kn : List Int) (rl : List (List Int)) (r : Int), WAt os [] pre rows → os.length ≤ f + (calledOf pre).length → Rel os rows (calledOf pre) kn rl → Goes os.length kn rl r (r + ((walkM os [] f rows).length : Nat))
  | 0, pre, rows, kn, rl, r, h, hf, _ => by
    have := h.wk.most g
    omega
  | f + 1, pre, rows, kn, rl, r, h, hf, R => by
    have hcnt := R.count h.wk
    unfold walkM
    cases he : idxs hasC rows with
    | nil =>
      have hall := h.last he
      have hw := wlk_all (as := []) g (by simp)
      have hp : (0 :: calledOf (wlk os [])).Perm ((List.range os.length).map fun j : Nat => (j : Int)) := by
        refine (List.perm_ext_iff_of_nodup (List.nodup_cons.mpr ⟨fun z => by have := (hw.2 0).mp z; omega, hw.1⟩) ?_).mpr fun c => ?_
        · refine List.Pairwise.map _ (fun a b h z => h (by omega)) List.nodup_range
        · rw [List.mem_cons, hw.2, List.mem_map]
          have n1 := g.n1
          constructor
          · intro h
            exact ⟨c.toNat, List.mem_range.mpr (by omega), by omega⟩
          · rintro ⟨j, hj, rfl⟩
            have := List.mem_range.mp hj
            omega
      have hl := hp.length_eq
      rw [List.length_map, List.length_range, List.length_cons, ← hall] at hl
      show Goes os.length kn rl r (r + ((0 : Nat) : Int))
      rw [show r + ((0 : Nat) : Int) = r by omega]
      exact .stop (by omega)
    | cons c cs =>
      have hne : idxs hasC rows ≠ [] := by rw [he]; simp
      obtain ⟨h1, _, h3⟩ := h.step g hne
      obtain ⟨R2, hz⟩ := R.next g h.wk
      have hm := h1.wk.most g
      have ih := goes_walk g f _ _ _ _ (r + 1) h1 (by omega) (by rw [calledOf_snoc]; exact R2)
      refine .step (by omega) (fun z => hne (hz z)) ?_
      show Goes os.length _ _ (r + 1) (r + (((nextM os rows []).1 :: walkM os [] f (nextM os rows []).2).length : Nat))
      rw [List.length_cons, show r + ((((walkM os [] f (nextM os rows []).2).length + 1 : Nat)) : Int) = r + 1 + ((walkM os [] f (nextM os rows []).2).length : Nat) by omega]
      exact ih
theorem goes_wlk {os : List (List Int)} (g : GoodO os) : Goes os.length [0] os 0 ((wlk os []).length : Nat) := by
  have := goes_walk g 64 [] (firstM os) [0] os 0 (WAt.first g (by simp)) (by have := g.n40; omega) (Rel.first g)
  rwa [Int.zero_add] at this
end Toy

set_option Elab.async false
set_option linter.all false
set_option maxRecDepth 100000
set_option maxHeartbeats 4000000
namespace Toy
open PySem L2
section
variable {P : Program} {w : World} {K : PySem.W.Frag} {mg : Str → Option Value} {base : Heap} {A : Adr}
def spLmarks : Sp := fun vs H Q _ => ∃ (o m : Addr) (rs : List Addr) (os : List (List Int)) (ms : List Int), vs = [.ref o, .ref m] ∧ H o = some (.lst (rs.map V.ref)) ∧ LL H rs os ∧ H m = some (.lst (ms.map V.int)) ∧ ms.length = os.length ∧ os.length ≤ 40 ∧ (∀ x ∈ ms, 0 ≤ x) ∧ (∀ (p : Nat) (row : List Int), os[p]? = some row → ShR ms row (at0 ms p)) ∧ ∀ H', Same H H' → Q (.bl true) H'
theorem sc_law_are_marks : FnScope ["_law_orders", "_law_marks", "_law_person", "_law_row", "_law_tops", "_law_least", "_law_one", "_law_at", "_law_top"] ["_law_orders", "_law_marks"] (defScope s_law_are_marks) := ⟨rfl, rfl, rfl, by decide +kernel, rfl, by decide +kernel, by decide +kernel⟩
theorem ok_law_are_marks (T : Txt K mg A) : FnOk P w K mg base CX0 1 A.f_law_are_marks A.d_law_are_marks ["_law_orders", "_law_marks"] spLmarks := by
  refine T.f_law_are_marks.ok sc_law_are_marks (fun vs H Q E h => ?_) (fun cdv A' outer s H vs Q E hr h => ?_)
  · obtain ⟨o, m, rs, os, ms, rfl, _⟩ := h
    rfl
  · obtain ⟨o, m, rs, os, ms, rfl, ho, hL, hm, hlm, h40, hpos, hsh, k⟩ := h
    refine ⟨_, (pss_cons (ps_for PassesOwn.never rfl (pi_enumK K (by rfl) T.n_enumerate (@pa_cons _ _ _ _ _ (pv 0) pa_nil (by rfl))) (pg_tupK K (n := 2) (by rfl) (pgs_cons (pg_name (i := 2) sc_law_are_marks.nd rfl (Or.inl rfl)) (pgs_cons (pg_name (i := 3) sc_law_are_marks.nd rfl (Or.inl rfl)) pgs_nil))) (pss_cons (ps_set (i := 4) sc_law_are_marks.nd rfl (Or.inl rfl) (pe_rev (pe_callB (cr_sortedK K) (by rfl) T.n_sorted (by decide +kernel) (@pa_cons _ _ _ _ _ (pe_lc (own := [("_law_one", 6)]) rfl sc_law_are_marks.nd (pi_listK K (pv 3)) (blkOk_by (own := [("_law_one", 6)]) (by kernel_rfl)) (fun _ _ _ _ _ => (pg_name (i := 6) sc_law_are_marks.nd rfl (Or.inl rfl))) (fun _ _ _ _ _ => pts_nil) (fun _ _ _ _ _ => (pe_ix (ix_listK K) (pv 1) (pv 6) (fun _ _ => rfl)))) pa_nil (by rfl)))))
      (pss_cons (ps_set (i := 5) sc_law_are_marks.nd rfl (Or.inl rfl) (pe_op op_cat (@pe_lst _ _ _ _ (@pa_cons _ _ _ _ _ pe_int pa_nil (by rfl))) (pe_lc (own := [("_law_at", 7), ("_law_top", 8)]) rfl sc_law_are_marks.nd (pi_enumK K (by rfl) T.n_enumerate (@pa_cons _ _ _ _ _ (pv 4) pa_nil (by rfl))) (blkOk_by (own := [("_law_at", 7), ("_law_top", 8)]) (by kernel_rfl)) (fun _ _ _ _ _ => (pg_tupK K (n := 2) (by rfl) (pgs_cons (pg_name (i := 7) sc_law_are_marks.nd rfl (Or.inl rfl)) (pgs_cons (pg_name (i := 8) sc_law_are_marks.nd rfl (Or.inl rfl)) pgs_nil)))) (fun _ _ _ _ _ => pts_nil) (fun _ _ _ _ _ => (pe_op op_add (pe_op op_add (pv 7) pe_int) (pv 8))))))
      (pss_one (ps_if (pt_not (pt_chain op_le op_le pe_int (pe_ix (ix_listK K) (pv 1) (pv 2) (fun _ _ => rfl)) (pe_callB (cr_maxLK K rfl) (by rfl) T.n_max (by decide +kernel) (@pa_cons _ _ _ _ _ (pv 5) pa_nil (by rfl))))) (pss_one (ps_ret pe_bl)) pss_nil)))))
      (pss_one (ps_ret pe_bl))), ?_⟩
    have hrl : rs.length = os.length := hL.1
    refine ⟨_, rfl, o, _, rfl, SqL.of ho, for_enum0 (K := K) (a := o) (xs := rs.map V.ref) (fun i σ H1 => ∃ x2 x3 x4 x5 : Option V, σ = [some (.ref o), some (.ref m), x2, x3, x4, x5, none, none, none] ∧ Same H H1) ⟨none, none, none, none, rfl, Same.refl _⟩ (fun i σ H1 _ ⟨_, _, _, _, _, s1⟩ => SqL.of (s1 _ _ ho)) ?_ ?_⟩
    · rintro i z t σ H1 hz ⟨x2, x3, x4, x5, rfl, s1⟩ ht
      obtain ⟨r, hr', rfl⟩ := ref_get hz
      have hil := (List.getElem?_eq_some_iff.mp hr').1
      obtain ⟨row, hrow⟩ : ∃ row, os[i]? = some row := ⟨_, List.getElem?_eq_getElem (by omega)⟩
      have sh := hsh i row hrow
      have hl40 := sh.len
      have m2 : Same H1 (upd H1 t (.tup [.int (i : Nat), .ref r])) := Same.new ht
      have ht2 : (upd H1 t (.tup [.int (i : Nat), .ref r])) t = some (.tup [.int (i : Nat), .ref r]) := upd_same
      generalize upd H1 t (.tup [.int (i : Nat), .ref r]) = H2 at m2 ht2
      have s2 := s1.trans m2
      refine ⟨t, _, rfl, SqT.of ht2, rfl, _, _, rfl, _, _, rfl, rfl, ?_⟩
      have hr2 := s2 _ _ (hL.2 i r row hr' hrow)
      refine ⟨_, rfl, r, rfl, ⟨_, SqL.of hr2⟩, fun D hD => ?_⟩
      refine lc_list (K := K) (a := r) (xs := row.map V.int) (fun q H3 => Same H2 H3 ∧ H3 D = some (.lst (((row.take q).map (at0 ms)).map V.int))) ⟨Same.new hD, upd_same⟩ (fun q H3 _ ⟨s3, _⟩ => SqL.of (s3 _ _ hr2)) ?_ ?_
      · rintro q y H3 hy ⟨s3, hD3⟩
        obtain ⟨c, hc, rfl⟩ := map_int_get hy
        have hcm := sh.rng c (List.mem_of_getElem? hc)
        have hql := (List.getElem?_eq_some_iff.mp hc).1
        refine ⟨rfl, yesT ⟨_, rfl, _, rfl, m, _, _, .int (at0 ms c), rfl, rfl, SqL.of ((s2.trans s3) _ _ hm), at_of (j := c.toNat) (by omega) (get_at0 hcm.2), _, hD3, ?_, s3.upd hD, ?_⟩⟩
        · rw [List.length_map, List.length_map, List.length_take]
          exact small1000 (by omega)
        · rw [upd_same, take_snoc hc, List.map_append, List.map_append]
          rfl
      rintro H3 ⟨s3, hD3⟩
      rw [List.length_map, List.take_length] at hD3
      refine ⟨D, row.map (at0 ms), rfl, SqL.of hD3, (by rw [List.length_map]; omega), fun ns' p h1 h2 hp => ?_⟩
      have m4 : Same H3 (upd H3 p (.lst (ns'.map V.int))) := Same.new hp
      have hp4 : (upd H3 p (.lst (ns'.map V.int))) p = some (.lst (ns'.map V.int)) := upd_same
      generalize upd H3 p (.lst (ns'.map V.int)) = H4 at m4 hp4
      refine ⟨p, _, rfl, SqL.of hp4, fun p2 hp2 => ?_⟩
      have htops : (ns'.map V.int).reverse = (row.map (at0 ms)).map V.int := by
        rw [← List.map_reverse]
        refine congrArg (List.map V.int) ?_
        exact List.Perm.eq_of_pairwise (le := fun a b : Int => b ≤ a) (fun a b _ _ h h' => Int.le_antisymm h' h) (List.pairwise_reverse.mpr h2) (by rw [List.pairwise_map]; exact sh.fall) ((List.reverse_perm ns').trans h1)
      rw [htops]
      have m5 : Same H4 (upd H4 p2 (.lst ((row.map (at0 ms)).map V.int))) := Same.new hp2
      have hp25 : (upd H4 p2 (.lst ((row.map (at0 ms)).map V.int))) p2 = some (.lst ((row.map (at0 ms)).map V.int)) := upd_same
      generalize upd H4 p2 (.lst ((row.map (at0 ms)).map V.int)) = H5 at m5 hp25
      have s25 := s3.trans (m4.trans m5)
      refine ⟨(by show 1 ≤ sizeLine; decide), fun k1 hk1 => ?_⟩
      have m6 : Same H5 (upd H5 k1 (.lst [.int 0])) := Same.new hk1
      have hk16 : (upd H5 k1 (.lst [.int 0])) k1 = some (.lst [.int 0]) := upd_same
      generalize upd H5 k1 (.lst [.int 0]) = H6 at m6 hk16
      refine ⟨_, rfl, p2, _, rfl, SqL.of (m6 _ _ hp25), fun D2 hD2 => ?_⟩
      refine lc_enum0 (K := K) (a := p2) (xs := (row.map (at0 ms)).map V.int) (fun q H7 => Same H6 H7 ∧ H7 D2 = some (.lst ((vals ms (row.take q)).map V.int))) ⟨Same.new hD2, by rw [upd_same]; rfl⟩ (fun q H7 _ ⟨s7, _⟩ => SqL.of ((m6.trans s7) _ _ hp25)) ?_ ?_
      · rintro q y t2 H7 hy ⟨s7, hD7⟩ ht2'
        obtain ⟨v, hv, rfl⟩ := map_int_get hy
        rw [List.getElem?_map] at hv
        obtain ⟨c, hc, rfl⟩ := Option.map_eq_some_iff.mp hv
        have hql := (List.getElem?_eq_some_iff.mp hc).1
        have elen : (row.take q).length = q := by rw [List.length_take]; omega
        have m8 : Same H7 (upd H7 t2 (.tup [.int (q : Nat), .int (at0 ms c)])) := Same.new ht2'
        have ht28 : (upd H7 t2 (.tup [.int (q : Nat), .int (at0 ms c)])) t2 = some (.tup [.int (q : Nat), .int (at0 ms c)]) := upd_same
        generalize upd H7 t2 (.tup [.int (q : Nat), .int (at0 ms c)]) = H8 at m8 ht28
        refine ⟨t2, _, rfl, SqT.of ht28, rfl, _, _, rfl, _, _, rfl, rfl, rfl, yesT ?_⟩
        refine ⟨_, rfl, _, _, rfl, rfl, _, rfl, _, _, rfl, rfl, _, m8 _ _ hD7, ?_, (s7.trans m8).upd hD2, ?_⟩
        · rw [List.length_map, vals_length, elen]
          exact small1000 (by omega)
        · rw [upd_same, take_snoc hc, vals_snoc, List.map_append, elen]
          rfl
      rintro H7 ⟨s7, hD7⟩
      rw [List.length_map, List.length_map, List.take_length] at hD7
      refine ⟨k1, D2, _, _, rfl, rfl, s7 _ _ hk16, hD7, ?_, fun k2 hk2 => ?_⟩
      · rw [List.length_map, vals_length]
        exact Nat.le_of_lt (small1000 (show 1 + row.length ≤ 1000 by omega))
      have m8 : Same H7 (upd H7 k2 (.lst ([.int 0] ++ (vals ms row).map V.int))) := Same.new hk2
      have hk28 : (upd H7 k2 (.lst ([.int 0] ++ (vals ms row).map V.int))) k2 = some (.lst ([.int 0] ++ (vals ms row).map V.int)) := upd_same
      generalize upd H7 k2 (.lst ([.int 0] ++ (vals ms row).map V.int)) = H8 at m8 hk28
      have s8 := s2.trans (s25.trans (m6.trans (s7.trans m8)))
      have hk28 : H8 k2 = some (.lst ((0 :: vals ms row).map V.int)) := hk28
      have him : i < ms.length := by omega
      have hmi : 0 ≤ at0 ms i := by
        have : at0 ms i = ms[i] := by
          unfold at0
          rw [Int.toNat_natCast, List.getD_eq_getElem?_getD, List.getElem?_eq_getElem him]
          rfl
        rw [this]
        exact hpos _ (List.getElem_mem him)
      refine ⟨_, rfl, _, rfl, m, _, _, .int (at0 ms i), rfl, rfl, SqL.of (s8 _ _ hm), at_of (j := i) rfl (get_at0 (c := (i : Int)) (by rw [Int.toNat_natCast]; exact him)), _, _, rfl, rfl, _, rfl, ?_⟩
      rw [decide_eq_true hmi]
      refine iteT ⟨_, rfl, k2, 0 :: vals ms row, rfl, SqL.of hk28, Nat.succ_pos _, fun mx hmx hle => ⟨_, _, rfl, rfl, _, rfl, ?_⟩⟩
      have hmx : at0 ms i ≤ mx := by
        rcases sh.need with ⟨_, e⟩ | ⟨e, _⟩
        · rw [e]
          exact hle 0 List.mem_cons_self
        · exact hle _ (List.mem_cons_of_mem _ e)
      rw [decide_eq_true hmx]
      exact iteF ⟨_, _, _, _, rfl, s8⟩
    · rintro σ H1 ⟨x2, x3, x4, x5, rfl, s1⟩
      exact k H1 s1
end
end Toy

set_option Elab.async false
set_option linter.all false
set_option maxRecDepth 100000
set_option maxHeartbeats 4000000
namespace Toy
open PySem L2
section
variable {P : Program} {w : World} {K : PySem.W.Frag} {mg : Str → Option Value} {base : Heap} {A : Adr}
def spLIF : Sp := fun vs H Q _ => ∃ (u o m : Addr) (rs : List Addr) (os : List (List Int)) (us ms us' : List Int), vs = [.ref u, .ref o, .ref m] ∧ H o = some (.lst (rs.map V.ref)) ∧ LL H rs os ∧ H m = some (.lst (ms.map V.int)) ∧ GoodUps us ∧ BestR us os ms ∧ H u = some (.lst (us'.map V.int)) ∧ us'.length ≤ 39 ∧ ∀ H', Same H H' → Q (.bl (decide (rowsOf us = rowsOf us'))) H'
theorem sc_law_is_fewest : FnScope ["_law_ups_here", "_law_orders", "_law_marks", "_law_row"] ["_law_ups_here", "_law_orders", "_law_marks"] (defScope s_law_is_fewest) := ⟨rfl, rfl, rfl, by decide +kernel, rfl, by decide +kernel, by decide +kernel⟩
theorem ok_law_is_fewest (T : Txt K mg A) : FnOk P w K mg base CX0 2 A.f_law_is_fewest A.d_law_is_fewest ["_law_ups_here", "_law_orders", "_law_marks"] spLIF := by
  have G_law_called := ok_law_called (P := P) (w := w) (base := base) T
  have G_law_are_marks := ok_law_are_marks (P := P) (w := w) (base := base) T
  have G_law_last := ok_law_last (P := P) (w := w) (base := base) T
  refine T.f_law_is_fewest.ok sc_law_is_fewest (fun vs H Q E h => ?_) (fun cdv A' outer s H vs Q E hr h => ?_)
  · obtain ⟨u, o, m, rs, os, us, ms, us', rfl, _⟩ := h
    rfl
  · obtain ⟨u, o, m, rs, os, us, ms, us', rfl, ho, hL, hm, hg, hB, hu, h39', k⟩ := h
    have g := best_good hg hB
    have hrl : rs.length = os.length := hL.1
    have hlo := hB.lo
    have hlm := hB.lm
    have h39 := hg.1
    have n40 := g.n40
    refine ⟨_, (pss_cons (ps_if (PW.pt (pw_or (pt_cmpR (op_neDK K hr.units) (pe_lc (own := [("_law_row", 3)]) rfl sc_law_is_fewest.nd (pi_listK K (pv 1)) (blkOk_by (own := [("_law_row", 3)]) (by kernel_rfl)) (fun _ _ _ _ _ => (pg_name (i := 3) sc_law_is_fewest.nd rfl (Or.inl rfl))) (fun _ _ _ _ _ => pts_nil) (fun _ _ _ _ _ => (pe_callB (cr_sortedK K) (by rfl) T.n_sorted (by decide +kernel) (@pa_cons _ _ _ _ _ (pv 3) pa_nil (by rfl))))) (pe_call G_law_called (hr.mono (by decide)) (by rfl) T.m_law_called T.k_law_called T.b_law_called .nil pass0 (@pa_cons _ _ _ _ _ (pv 0) pa_nil (by rfl))) (nomark _)) (pw_or1 (pt_cmpR op_ne (pe_callB (call_len_seqK K) (by rfl) T.n_len PySem.boot_len (@pa_cons _ _ _ _ _ (pv 2) pa_nil (by rfl))) (pe_callB (call_len_seqK K) (by rfl) T.n_len PySem.boot_len (@pa_cons _ _ _ _ _ (pv 1) pa_nil (by rfl))) (nomark _))))) (pss_one (ps_ret pe_bl)) pss_nil)
      (pss_one (ps_ret (pe_and (pe_call G_law_are_marks (hr.mono (by decide)) (by rfl) T.m_law_are_marks T.k_law_are_marks T.b_law_are_marks .nil pass0 (@pa_cons _ _ _ _ _ (pv 1) (@pa_cons _ _ _ _ _ (pv 2) pa_nil (by rfl)) (by rfl))) (pe_one (pe_cmpR op_eq (pe_call G_law_last (hr.mono (by decide)) (by rfl) T.m_law_last T.k_law_last T.b_law_last .nil pass0 (@pa_cons _ _ _ _ _ (pv 1) pa_nil (by rfl))) (pe_ix (ix_listK K) (pv 2) pe_int (fun _ _ => rfl)) (nomark _))))))), ?_⟩
    refine ⟨_, rfl, o, rfl, ⟨_, SqL.of ho⟩, fun D hD => ?_⟩
    refine lc_list (K := K) (a := o) (xs := rs.map V.ref) (fun q H2 => Same H H2 ∧ ∃ qs : List Addr, H2 D = some (.lst (qs.map V.ref)) ∧ LL H2 qs ((rowsOf us).take q) ∧ D ∉ qs) ⟨Same.new hD, [], upd_same, by simpa using LL.nil, by simp⟩ (fun q H2 _ ⟨s2, _⟩ => SqL.of (s2 _ _ ho)) ?_ ?_
    · rintro q z H2 hz ⟨s2, qs, hD2, hLq, hDq⟩
      obtain ⟨r, hr', rfl⟩ := ref_get hz
      have hql := (List.getElem?_eq_some_iff.mp hr').1
      obtain ⟨row, hrow⟩ : ∃ row, os[q]? = some row := ⟨_, List.getElem?_eq_getElem (by omega)⟩
      have hperm := (hB.row q row hrow).1.1
      have hrw := rowsOf_get us (p := q) (by omega)
      have hqn : qs.length = q := by rw [hLq.1, List.length_take, rowsOf_length]; omega
      refine ⟨rfl, yesT ⟨_, rfl, r, row, rfl, SqL.of (s2 _ _ (hL.2 q r row hr' hrow)), ?_, fun ns' p h1 h2 hp => ?_⟩⟩
      · rw [hperm.length_eq]
        have := rowOf_length us q
        omega
      rw [sorted_row hperm h1 h2]
      have nDp : D ≠ p := ne_of_none hD2 hp
      have m3 : Same H2 (upd H2 p (.lst ((rowOf us q).map V.int))) := Same.new hp
      have hp3 : (upd H2 p (.lst ((rowOf us q).map V.int))) p = some (.lst ((rowOf us q).map V.int)) := upd_same
      generalize upd H2 p (.lst ((rowOf us q).map V.int)) = H3 at m3 hp3
      have hDn : D ∉ qs ++ [p] := fun z => by
        rcases List.mem_append.mp z with z | z
        · exact hDq z
        · exact nDp (List.mem_singleton.mp z)
      refine ⟨qs.map V.ref, m3 _ _ hD2, ?_, (s2.trans m3).upd hD, qs ++ [p], ?_, ?_, hDn⟩
      · rw [List.length_map]
        exact small1000 (by omega)
      · rw [upd_same, List.map_append]
        rfl
      · rw [take_snoc hrw]
        exact ((hLq.mono m3).snoc hp3).upd hDn
    rintro H2 ⟨s2, qs, hD2, hLq, hDq⟩
    rw [List.length_map, hrl, hlo, ← rowsOf_length us, List.take_length] at hLq
    refine ⟨_, rfl, u, us', rfl, s2 _ _ hu, h39', fun b rs' H3 s3 _ hb hLb => ?_⟩
    have s03 := s2.trans s3
    refine ⟨rowsD (rowsOf us), rowsD (rowsOf us'), LL.dp (hLq.mono s3) (s3 _ _ hD2), LL.dp hLb hb, shaped_rows _, shaped_rows _, _, rfl, ?_⟩
    rw [eqv_rows]
    by_cases e : rowsOf us = rowsOf us'
    · rw [decide_eq_true e] at k ⊢
      refine iteF ?_
      refine ⟨_, rfl, m, _, rfl, .inl (SqL.of (s03 _ _ hm)), _, rfl, o, _, rfl, .inl (SqL.of (s03 _ _ ho)), rfl, _, rfl, ?_⟩
      rw [List.length_map, List.length_map, hrl, decide_eq_true (show V.int ((ms.length : Nat) : Int) = V.int ((os.length : Nat) : Int) by rw [hlm, hlo])]
      refine iteF ?_
      refine ⟨_, rfl, _, rfl, o, m, rs, os, ms, rfl, s03 _ _ ho, hL.mono s03, s03 _ _ hm, by omega, n40, best_pos hg hB, best_sh hg hB, fun H4 s4 => ⟨true, rfl, iteT ?_⟩⟩
      have s04 := s03.trans s4
      have hz := goes_wlk g
      rw [best_rounds hg hB] at hz
      refine ⟨_, rfl, o, rs, os, _, rfl, s04 _ _ ho, hL.mono s04, by omega, by omega, fun row hr c hc => ?_, hz, fun H5 s5 => ?_⟩
      · have := g.inR c (List.mem_flatten.mpr ⟨row, hr, hc⟩)
        omega
      refine ⟨_, rfl, m, _, 0, _, rfl, rfl, SqL.of ((s04.trans s5) _ _ hm), atI_at0 (by omega), rfl, ?_⟩
      rw [decide_eq_true (show V.int (at0 ms 0) = V.int (at0 ms 0) from rfl)]
      exact k H5 (s04.trans s5)
    · rw [decide_eq_false e] at k ⊢
      exact iteT (iteT (k H3 s03))
end
end Toy

set_option Elab.async false
set_option linter.all false
set_option maxRecDepth 100000
set_option maxHeartbeats 4000000
namespace Toy
open PySem L2
def NbOk (n : Nat) (l : List Int) : Prop := l.Nodup ∧ ∀ x ∈ l, 0 < x ∧ x < n
theorem NbOk.sub {n : Nat} {l l' : List Int} (h : NbOk n l) (s : l'.Sublist l) : NbOk n l' := ⟨s.nodup h.1, fun x hx => h.2 x (s.subset hx)⟩
theorem flat_pre {os : List (List Int)} {i : Nat} {l : List Int} (hl : os[i]? = some l) (j : Nat) : ((os.take i).flatten ++ l.take j).Sublist os.flatten := by
  have h1 : os.take (i + 1) = os.take i ++ [l] := take_snoc hl
  have h2 : ((os.take i).flatten ++ l.take j).Sublist (os.take (i + 1)).flatten := by
    rw [h1, List.flatten_append]
    refine List.Sublist.append (List.Sublist.refl _) ?_
    simpa using List.take_sublist j l
  refine h2.trans ?_
  conv => rhs; rw [← List.take_append_drop (i + 1) os, List.flatten_append]
  exact List.sublist_append_left _ _
section
variable {P : Program} {w : World} {K : PySem.W.Frag} {mg : Str → Option Value} {base : Heap} {A : Adr}
def spNobG : Sp := fun vs H Q _ => ∃ (a : Addr) (xs : List V) (os : List (List Int)), vs = [.ref a] ∧ H a = some (.lst xs) ∧ OL H xs os ∧ os.flatten.length ≤ 900 ∧ (NbOk os.length os.flatten → ∀ H', Same H H' → Q (.bl true) H') ∧ (¬ NbOk os.length os.flatten → ∀ H', Same H H' → Q (.bl false) H')
theorem ok_nobodyG (T : Txt K mg A) : FnOk P w K mg base CX0 3 A.f_nobody_is_called_twice A.d_nobody_is_called_twice ["orders"] spNobG := by
  have G_is_person := ok_is_person (P := P) (w := w) (base := base) T
  refine T.f_nobody_is_called_twice.ok sc_nobody_is_called_twice (fun vs H Q E h => ?_) (fun cdv A' outer s H vs Q E hr h => ?_)
  · obtain ⟨a, xs, os, rfl, _⟩ := h
    rfl
  · obtain ⟨a, xs, os, rfl, hH, hO, hfl, kT, kF⟩ := h
    have hxl : xs.length = os.length := by rw [hO.len, List.length_map]
    refine ⟨_, (pss_cons (ps_set (i := 1) sc_nobody_is_called_twice.nd rfl (Or.inl rfl) (pe_callTy0 call_set0 (by rfl) T.n_set (by decide +kernel)))
      (pss_cons (ps_for PassesOwn.never rfl (pi_listK K (pv 0)) (pg_name (i := 2) sc_nobody_is_called_twice.nd rfl (Or.inl rfl)) (pss_cons (ps_if (pt_not (pt_val (pe_callB (cr_isiK K) (by rfl) T.n_isinstance (by decide +kernel) (@pa_cons _ _ _ _ _ (pv 2) (@pa_cons _ _ _ _ _ (pe_bltn (v := .ty "list") (by rfl) T.n_list (by decide +kernel) rfl) pa_nil (by rfl)) (by rfl))))) (pss_one (ps_ret pe_bl)) pss_nil)
      (pss_one (ps_for PassesOwn.never rfl (pi_listK K (pv 2)) (pg_name (i := 3) sc_nobody_is_called_twice.nd rfl (Or.inl rfl)) (pss_cons (ps_if (PW.pt (pw_or (pt_not (pt_val (pe_call G_is_person (hr.mono (by decide)) (by rfl) T.m_is_person T.k_is_person T.b_is_person .nil pass0 (@pa_cons _ _ _ _ _ (pv 3) (@pa_cons _ _ _ _ _ (pe_callB (call_len_seqK K) (by rfl) T.n_len PySem.boot_len (@pa_cons _ _ _ _ _ (pv 0) pa_nil (by rfl))) pa_nil (by rfl)) (by rfl))))) (pw_or (pt_cmpR op_eq (pv 3) pe_int (nomark _)) (pw_or1 (pt_cmpR op_in_set (pv 3) (pv 1) (by with_unfolding_all rfl)))))) (pss_one (ps_ret pe_bl)) pss_nil)
      (pss_one (ps_expr (pe_bmK K PySem.F.plainAttrs_set PySem.F.slot_set_add PySem.F.type_set_add mt_add (pv 1) (@pa_cons _ _ _ _ _ (pv 3) pa_nil (by rfl))))))))))
      (pss_one (ps_ret pe_bl)))), ?_⟩
    refine ⟨rfl, fun c hc => ?_⟩
    have s0 : Same H (upd H c (.set (fun _ => false) 0)) := Same.new hc
    refine ⟨_, rfl, a, rfl, ⟨_, SqL.of (s0 _ _ hH)⟩, for_list (K := K) (a := a) (xs := xs)
      (fun i σ H2 => ∃ (x y : Option V), σ = [some (.ref a), some (.ref c), x, y] ∧ Same H H2 ∧ H2 c = some (.set (fun k => decide (k ∈ (os.take i).flatten)) (os.take i).flatten.length) ∧ NbOk os.length (os.take i).flatten)
      ⟨none, none, rfl, s0, by rw [upd_same]; simp, by simp [NbOk]⟩ (fun i σ H2 _ ⟨_, _, _, s2, _⟩ => SqL.of (s2 _ _ hH)) ?_ ?_⟩
    · rintro i x σ H2 hi ⟨x0, y0, rfl, s2, hS, hN⟩
      obtain ⟨r, l, rfl, hl, hr0⟩ := OL.get hO hi
      refine ⟨_, rfl, .ref r, .ty "list", _, true, rfl, .lst (s2 _ _ hr0), (fun u hu => kitL hu), true, rfl, iteF ?_⟩
      refine ⟨_, rfl, r, rfl, ⟨_, SqL.of (s2 _ _ hr0)⟩, for_list (K := K) (a := r) (xs := l.map V.int)
        (fun j σ H3 => ∃ (y : Option V), σ = [some (.ref a), some (.ref c), some (.ref r), y] ∧ Same H H3 ∧ H3 c = some (.set (fun k => decide (k ∈ (os.take i).flatten ++ l.take j)) ((os.take i).flatten ++ l.take j).length) ∧ NbOk os.length ((os.take i).flatten ++ l.take j))
        ⟨_, rfl, s2, by rw [hS]; simp, by simpa using hN⟩ (fun j σ H3 _ ⟨_, _, s3, _⟩ => SqL.of (s3 _ _ hr0)) ?_ ?_⟩
      · rintro j x σ H3 hj ⟨y1, rfl, s3, hS3, hN3⟩
        obtain ⟨p, hp, rfl⟩ := map_int_get hj
        have hsub := flat_pre hl (j + 1)
        rw [take_snoc hp, ← List.append_assoc] at hsub
        have bad : ¬ NbOk os.length ((os.take i).flatten ++ l.take j ++ [p]) → ∀ H', Same H H' → Q (.bl false) H' := fun hb => kF fun z => hb (z.sub hsub)
        refine ⟨_, rfl, _, rfl, a, xs, rfl, .inl (SqL.of (s3 _ _ hH)), p, xs.length, rfl, _, rfl, ?_⟩
        by_cases h1 : 0 ≤ p ∧ p < (xs.length : Int)
        · rw [decide_eq_true h1]
          refine iteF ⟨_, rfl, rfl, _, rfl, ?_⟩
          by_cases h2 : p = 0
          · rw [decide_eq_true (show V.int p = V.int 0 by rw [h2])]
            exact iteT (iteT (bad (fun z => by have := z.2 p (by simp); omega) H3 s3))
          · rw [decide_eq_false (fun z => by injection z with z; exact h2 z)]
            refine iteF ⟨_, rfl, _, rfl, c, p, _, _, rfl, rfl, hS3, _, rfl, ?_⟩
            by_cases nin : p ∈ (os.take i).flatten ++ l.take j
            · rw [decide_eq_true nin]
              exact iteT (bad (fun z => (List.nodup_append.mp z.1).2.2 p nin p (by simp) rfl) H3 s3)
            · rw [decide_eq_false nin]
              have hle : ((os.take i).flatten ++ l.take j).length ≤ 900 := Nat.le_trans (flat_pre hl j).length_le hfl
              refine iteF ⟨_, rfl, .inr (.inr (.inr ⟨rfl, _, _, hS3⟩)), _, rfl, c, p, _, _, rfl, rfl, hS3, Nat.lt_of_le_of_lt (Nat.succ_le_succ hle) (by decide), _, rfl, s3.upd hc, ?_, ?_⟩
              · rw [upd_same, take_snoc hp, ← List.append_assoc]
                rw [if_neg (by rw [decide_eq_false nin]; simp)]
                have e1 : (fun k => decide (k ∈ (os.take i).flatten ++ l.take j) || decide (k = p)) = fun k => decide (k ∈ (os.take i).flatten ++ l.take j ++ [p]) := by
                  funext k
                  rw [Bool.eq_iff_iff]
                  simp [or_assoc]
                rw [e1]
                simp [Nat.add_assoc]
              · rw [take_snoc hp, ← List.append_assoc]
                refine ⟨List.nodup_append.mpr ⟨hN3.1, by simp, fun x hx y hy z => nin (by rw [← List.mem_singleton.mp hy, ← z]; exact hx)⟩, fun x hx => ?_⟩
                rcases List.mem_append.mp hx with hx | hx
                · exact hN3.2 x hx
                · rw [List.mem_singleton.mp hx]
                  omega
        · rw [decide_eq_false h1]
          exact iteT (iteT (bad (fun z => by have := z.2 p (by simp); omega) H3 s3))
      · rintro σ H3 ⟨y1, rfl, s3, hS3, hN3⟩
        rw [List.length_map, List.take_length] at hS3 hN3
        refine ⟨_, _, rfl, s3, ?_, ?_⟩
        · rw [hS3, take_snoc hl, List.flatten_append]
          simp
        · rw [take_snoc hl, List.flatten_append]
          simpa using hN3
    · rintro σ H2 ⟨x0, y0, rfl, s2, hS, hN⟩
      rw [hxl, List.take_length] at hN
      exact kT hN H2 s2
end
end Toy

set_option Elab.async false
set_option linter.all false
set_option maxRecDepth 100000
set_option maxHeartbeats 4000000
namespace Toy
open PySem L2
section
variable {P : Program} {w : World} {K : PySem.W.Frag} {mg : Str → Option Value} {base : Heap} {A : Adr}
def spOrdN : Sp := fun vs H Q _ => ∃ (a : Addr) (xs : List V) (os : List (List Int)), vs = [.ref a] ∧ H a = some (.lst xs) ∧ OL H xs os ∧ os.flatten.length ≤ 900 ∧ 1 ≤ os.length ∧ os.length ≤ 40 ∧ ¬ NbOk os.length os.flatten ∧ ∀ H', Same H H' → Q (.bl false) H'
theorem ok_is_ordersN (T : Txt K mg A) : FnOk P w K mg base CX0 4 A.f_is_orders A.d_is_orders ["orders"] spOrdN := by
  have G_nobody_is_called_twice := ok_nobodyG (P := P) (w := w) (base := base) T
  have G_all_are_come_to := ok_all_are_come_to (P := P) (w := w) (base := base) T
  refine T.f_is_orders.ok sc_is_orders (fun vs H Q E h => ?_) (fun cdv A' outer s H vs Q E hr h => ?_)
  · obtain ⟨a, xs, os, rfl, _⟩ := h
    rfl
  · obtain ⟨a, xs, os, rfl, hH, hO, hfl, n1, n40, hb, k⟩ := h
    have hxl : xs.length = os.length := by rw [hO.len, List.length_map]
    refine ⟨_, (pss_cons (ps_if (PW.pt (pw_or (pt_not (pt_val (pe_callB (cr_isiK K) (by rfl) T.n_isinstance (by decide +kernel) (@pa_cons _ _ _ _ _ (pv 0) (@pa_cons _ _ _ _ _ (pe_bltn (v := .ty "list") (by rfl) T.n_list (by decide +kernel) rfl) pa_nil (by rfl)) (by rfl))))) (pw_or1 (pt_not (pt_chain op_le op_le pe_int (pe_callB (call_len_seqK K) (by rfl) T.n_len PySem.boot_len (@pa_cons _ _ _ _ _ (pv 0) pa_nil (by rfl))) (pe_glob (v := .int 40) (by rfl) T.g_MOST_PEOPLE ⟨_, rfl⟩)))))) (pss_one (ps_ret pe_bl)) pss_nil)
      (pss_one (ps_ret (pe_and (pe_call G_nobody_is_called_twice (hr.mono (by decide)) (by rfl) T.m_nobody_is_called_twice T.k_nobody_is_called_twice T.b_nobody_is_called_twice .nil pass0 (@pa_cons _ _ _ _ _ (pv 0) pa_nil (by rfl))) (pe_one (pe_call G_all_are_come_to (hr.mono (by decide)) (by rfl) T.m_all_are_come_to T.k_all_are_come_to T.b_all_are_come_to .nil pass0 (@pa_cons _ _ _ _ _ (pv 0) pa_nil (by rfl)))))))), ?_⟩
    refine ⟨_, rfl, .ref a, .ty "list", _, true, rfl, .lst hH, (fun u hu => kitL hu), true, rfl, iteF ?_⟩
    refine ⟨_, rfl, a, xs, rfl, .inl (SqL.of hH), _, _, rfl, rfl, _, rfl, ?_⟩
    rw [decide_eq_true (by omega)]
    refine iteT ⟨_, _, rfl, rfl, _, rfl, ?_⟩
    rw [decide_eq_true (by omega)]
    exact iteF ⟨_, rfl, a, xs, os, rfl, hH, hO, hfl, fun z => absurd z hb, fun _ H1 s1 => ⟨false, rfl, iteF (k H1 s1)⟩⟩
def spAON : Sp := fun vs H Q _ => ∃ (o : Addr) (v : V) (xs : List V) (os : List (List Int)), vs = [.ref o, v] ∧ H o = some (.lst xs) ∧ OL H xs os ∧ os.flatten.length ≤ 900 ∧ 1 ≤ os.length ∧ os.length ≤ 40 ∧ ¬ NbOk os.length os.flatten ∧ ∀ H', Same H H' → Q (.bl false) H'
theorem ok_are_orders_ofN (T : Txt K mg A) : FnOk P w K mg base CX0 5 A.f_are_orders_of A.d_are_orders_of ["orders", "ups"] spAON := by
  have G_is_orders := ok_is_ordersN (P := P) (w := w) (base := base) T
  have G_rows_of := ok_rows_of (P := P) (w := w) (base := base) T
  refine T.f_are_orders_of.ok sc_are_orders_of (fun vs H Q E h => ?_) (fun cdv A' outer s H vs Q E hr h => ?_)
  · obtain ⟨o, v, xs, os, rfl, _⟩ := h
    rfl
  · obtain ⟨o, v, xs, os, rfl, ho, hO, hfl, n1, n40, hb, k⟩ := h
    refine ⟨_, (pss_cons (ps_if (PW.pt (pw_or (pt_not (pt_val (pe_call G_is_orders (hr.mono (by decide)) (by rfl) T.m_is_orders T.k_is_orders T.b_is_orders .nil pass0 (@pa_cons _ _ _ _ _ (pv 0) pa_nil (by rfl))))) (pw_or1 (pt_cmpR op_ne (pe_callB (call_len_seqK K) (by rfl) T.n_len PySem.boot_len (@pa_cons _ _ _ _ _ (pv 0) pa_nil (by rfl))) (pe_op op_add (pe_callB (call_len_seqK K) (by rfl) T.n_len PySem.boot_len (@pa_cons _ _ _ _ _ (pv 1) pa_nil (by rfl))) pe_int) (nomark _))))) (pss_one (ps_ret pe_bl)) pss_nil)
      (pss_one (ps_ret (pe_cmpR (op_eqDK K hr.units) (pe_lc (own := [("row", 2)]) rfl sc_are_orders_of.nd (pi_listK K (pv 0)) (blkOk_by (own := [("row", 2)]) (by kernel_rfl)) (fun _ _ _ _ _ => (pg_name (i := 2) sc_are_orders_of.nd rfl (Or.inl rfl))) (fun _ _ _ _ _ => pts_nil) (fun _ _ _ _ _ => (pe_callB (cr_sortedK K) (by rfl) T.n_sorted (by decide +kernel) (@pa_cons _ _ _ _ _ (pv 2) pa_nil (by rfl))))) (pe_call G_rows_of (hr.mono (by decide)) (by rfl) T.m_rows_of T.k_rows_of T.b_rows_of .nil pass0 (@pa_cons _ _ _ _ _ (pv 1) pa_nil (by rfl))) (nomark _))))), ?_⟩
    exact ⟨_, rfl, o, xs, os, rfl, ho, hO, hfl, n1, n40, hb, fun H1 s1 => ⟨false, rfl, iteT (iteT (k H1 s1))⟩⟩
def spIFN : Sp := fun vs H Q _ => ∃ (o : Addr) (v v' : V) (xs : List V) (os : List (List Int)), vs = [.ref o, v, v'] ∧ H o = some (.lst xs) ∧ OL H xs os ∧ os.flatten.length ≤ 900 ∧ 1 ≤ os.length ∧ os.length ≤ 40 ∧ ¬ NbOk os.length os.flatten ∧ ∀ H', Same H H' → Q (.bl false) H'
theorem ok_is_fewestN (T : Txt K mg A) (kb : K.In base) (B : BmOk mg base) : FnOk P w K mg base CX0 6 A.f_is_fewest A.d_is_fewest ["orders", "marks", "ups"] spIFN := by
  have G_are_orders_of := ok_are_orders_ofN (P := P) (w := w) (base := base) T
  have G_are_shown := ok_are_shown (P := P) (w := w) T kb B
  have G_all_rounds := ok_all_rounds (P := P) (w := w) (base := base) T
  refine T.f_is_fewest.ok sc_is_fewest (fun vs H Q E h => ?_) (fun cdv A' outer s H vs Q E hr h => ?_)
  · obtain ⟨o, v, v', xs, os, rfl, _⟩ := h
    rfl
  · obtain ⟨o, v, v', xs, os, rfl, ho, hO, hfl, n1, n40, hb, k⟩ := h
    refine ⟨_, (pss_cons (ps_if (PW.pt (pw_or (pt_not (pt_val (pe_call G_are_orders_of (hr.mono (by decide)) (by rfl) T.m_are_orders_of T.k_are_orders_of T.b_are_orders_of .nil pass0 (@pa_cons _ _ _ _ _ (pv 0) (@pa_cons _ _ _ _ _ (pv 2) pa_nil (by rfl)) (by rfl))))) (pw_or1 (pt_not (pt_val (pe_call G_are_shown (hr.mono (by decide)) (by rfl) T.m_are_shown T.k_are_shown T.b_are_shown .nil pass0 (@pa_cons _ _ _ _ _ (pv 1) (@pa_cons _ _ _ _ _ (pv 0) pa_nil (by rfl)) (by rfl)))))))) (pss_one (ps_ret pe_bl)) pss_nil)
      (pss_one (ps_ret (pe_cmpR op_eq (pe_ix (ix_listK K) (pv 1) pe_int (fun _ _ => rfl)) (pe_callB (call_len_seqK K) (by rfl) T.n_len PySem.boot_len (@pa_cons _ _ _ _ _ (pe_call G_all_rounds (hr.mono (by decide)) (by rfl) T.m_all_rounds T.k_all_rounds T.b_all_rounds .nil pass0 (@pa_cons _ _ _ _ _ (pv 0) (@pa_cons _ _ _ _ _ (@pe_lst _ _ _ _ pa_nil) pa_nil (by rfl)) (by rfl))) pa_nil (by rfl))) (nomark _))))), ?_⟩
    exact ⟨_, rfl, _, rfl, o, v', xs, os, rfl, ho, hO, hfl, n1, n40, hb, fun H1 s1 => ⟨false, rfl, iteT (iteT (k H1 s1))⟩⟩
def spFShowsN (C : Addr) : Sp := fun vs H Q _ => ∃ (x dx o m : Addr) (v : V) (xs : List V) (os : List (List Int)), vs = [.ref x, v] ∧ H x = some (.ins C dx (fldF o m)) ∧ H o = some (.lst xs) ∧ OL H xs os ∧ os.flatten.length ≤ 900 ∧ 1 ≤ os.length ∧ os.length ≤ 40 ∧ ¬ NbOk os.length os.flatten ∧ ∀ H', Same H H' → Q (.bl false) H'
theorem ok_Fewest_showsN (T : Txt K mg A) (kb : K.In base) (B : BmOk mg base) : FnOk P w K mg base CX0 7 A.f_Fewest_shows A.d_Fewest_shows ["self", "ups"] (spFShowsN A.C_Fewest) := by
  have G_is_fewest := ok_is_fewestN (P := P) (w := w) T kb B
  refine T.f_Fewest_shows.ok sc_Fewest_shows (fun vs H Q E h => ?_) (fun cdv A' outer s H vs Q E hr h => ?_)
  · obtain ⟨x, dx, o, m, v, xs, os, rfl, _⟩ := h
    rfl
  · obtain ⟨x, dx, o, m, v, xs, os, rfl, hx, ho, hO, hfl, n1, n40, hb, k⟩ := h
    refine ⟨_, (pss_one (ps_ret (pe_call G_is_fewest (hr.mono (by decide)) (by rfl) T.m_is_fewest T.k_is_fewest T.b_is_fewest .nil pass0 (@pa_cons _ _ _ _ _ (pe_fldK K (pv 0) rfl) (@pa_cons _ _ _ _ _ (pe_fldK K (pv 0) rfl) (@pa_cons _ _ _ _ _ (pv 1) pa_nil (by rfl)) (by rfl)) (by rfl))))), ?_⟩
    exact ⟨_, rfl, x, A.C_Fewest, dx, _, _, rfl, hx, T.cl_Fewest, T.na_Fewest_orders, fld_orders o m, _, rfl, x, A.C_Fewest, dx, _, _, rfl, hx, T.cl_Fewest, T.na_Fewest_marks, fld_marks o m, _, rfl, o, _, v, xs, os, rfl, ho, hO, hfl, n1, n40, hb, k⟩
end
end Toy

set_option Elab.async false
set_option linter.all false
set_option maxRecDepth 100000
set_option maxHeartbeats 4000000
namespace Toy
open PySem L2
theorem all_true {α : Type} (l : List α) : (l.map fun _ => true).all id = true := by
  rw [List.all_map, List.all_eq_true]
  intro _ _
  rfl
section
variable {P : Program} {w : World} {K : PySem.W.Frag} {mg : Str → Option Value} {base : Heap} {A : Adr}
theorem sc_law_whole : FnScope ["_law_found"] ["_law_found"] (defScope s_law_whole) := ⟨rfl, rfl, rfl, by decide +kernel, rfl, by decide +kernel, by decide +kernel⟩
theorem ok_law_whole (T : Txt K mg A) : FnOk P w K mg base CX0 1 A.f_law_whole A.d_law_whole ["_law_found"] spNum := by
  refine T.f_law_whole.ok sc_law_whole (fun vs H Q E h => ?_) (fun cdv A' outer s H vs Q E hr h => ?_)
  · obtain ⟨i, rfl, _⟩ := h
    rfl
  · obtain ⟨i, rfl, k⟩ := h
    refine ⟨_, (pss_one (ps_ret (pe_and (pe_callB (cr_isiK K) (by rfl) T.n_isinstance (by decide +kernel) (@pa_cons _ _ _ _ _ (pv 0) (@pa_cons _ _ _ _ _ (pe_bltn (v := .ty "int") (by rfl) T.n_int (by decide +kernel) rfl) pa_nil (by rfl)) (by rfl))) (pe_one (pe_not (pe_callB (cr_isiK K) (by rfl) T.n_isinstance (by decide +kernel) (@pa_cons _ _ _ _ _ (pv 0) (@pa_cons _ _ _ _ _ (pe_bltn (v := .ty "bool") (by rfl) T.n_bool (by decide +kernel) rfl) pa_nil (by rfl)) (by rfl)))))))), ?_⟩
    refine ⟨_, rfl, .int i, .ty "int", _, true, rfl, .int i, (fun u hu => by cases hu; exact kit_int), true, rfl, ?_⟩
    refine iteT ⟨_, rfl, .int i, .ty "bool", _, false, rfl, .int i, (fun u hu => by cases hu; exact kit_int_bool), false, rfl, ?_⟩
    exact k
def spLT (C : Addr) : Sp := fun vs H Q _ => ∃ (x dx o m : Addr) (rs : List Addr) (os : List (List Int)) (ms : List Int), vs = [.ref x] ∧ H x = some (.ins C dx (fldF o m)) ∧ H o = some (.lst (rs.map V.ref)) ∧ LL H rs os ∧ H m = some (.lst (ms.map V.int)) ∧ rs.length ≤ 900 ∧ ms.length + os.flatten.length ≤ 900 ∧ ∀ H', Same H H' → Q (.bl true) H'
theorem ok_law_toldF (T : Txt K mg A) : FnOk P w K mg base CX0 2 A.f_law_told A.d_law_told ["_law_found"] (spLT A.C_Fewest) := by
  have G_law_whole := ok_law_whole (P := P) (w := w) (base := base) T
  refine T.f_law_told.ok sc_law_told (fun vs H Q E h => ?_) (fun cdv A' outer s H vs Q E hr h => ?_)
  · obtain ⟨x, dx, o, m, rs, os, ms, rfl, _⟩ := h
    rfl
  · obtain ⟨x, dx, o, m, rs, os, ms, rfl, hx, ho, hL, hm, h9, hfl, k⟩ := h
    refine ⟨_, (pss_cons (ps_if (PW.pt (pw_or (pt_not (pt_val (pe_callB (cr_isiK K) (by rfl) T.n_isinstance (by decide +kernel) (@pa_cons _ _ _ _ _ (pe_fldK K (pv 0) rfl) (@pa_cons _ _ _ _ _ (pe_bltn (v := .ty "list") (by rfl) T.n_list (by decide +kernel) rfl) pa_nil (by rfl)) (by rfl))))) (pw_or1 (pt_not (pt_val (pe_callB (cr_allK K rfl) (by rfl) T.n_all (by decide +kernel) (@pa_cons _ _ _ _ _ (pe_lc (own := [("_law_row", 2)]) rfl sc_law_told.nd (pi_listK K (pe_fldK K (pv 0) rfl)) (blkOk_by (own := [("_law_row", 2)]) (by kernel_rfl)) (fun _ _ _ _ _ => (pg_name (i := 2) sc_law_told.nd rfl (Or.inl rfl))) (fun _ _ _ _ _ => pts_nil) (fun _ _ _ _ _ => (pe_callB (cr_isiK K) (by rfl) T.n_isinstance (by decide +kernel) (@pa_cons _ _ _ _ _ (pv 2) (@pa_cons _ _ _ _ _ (pe_bltn (v := .ty "list") (by rfl) T.n_list (by decide +kernel) rfl) pa_nil (by rfl)) (by rfl))))) pa_nil (by rfl)))))))) (pss_one (ps_ret pe_bl)) pss_nil)
      (pss_cons (ps_set (i := 1) sc_law_told.nd rfl (Or.inl rfl) (pe_callTy (call_list_ofK K) (by rfl) T.n_list (by decide +kernel) (@pa_cons _ _ _ _ _ (pe_fldK K (pv 0) rfl) pa_nil (by rfl))))
      (pss_cons (ps_for PassesOwn.never rfl (pi_listK K (pe_fldK K (pv 0) rfl)) (pg_name (i := 2) sc_law_told.nd rfl (Or.inl rfl)) (pss_one (ps_set (i := 1) sc_law_told.nd rfl (Or.inl rfl) (pe_op op_cat (pv 1) (pv 2)))))
      (pss_one (ps_ret (pe_and (pe_callB (cr_isiK K) (by rfl) T.n_isinstance (by decide +kernel) (@pa_cons _ _ _ _ _ (pe_fldK K (pv 0) rfl) (@pa_cons _ _ _ _ _ (pe_bltn (v := .ty "list") (by rfl) T.n_list (by decide +kernel) rfl) pa_nil (by rfl)) (by rfl))) (pe_one (pe_callB (cr_allK K rfl) (by rfl) T.n_all (by decide +kernel) (@pa_cons _ _ _ _ _ (pe_lc (own := [("_law_number_here", 3)]) rfl sc_law_told.nd (pi_listK K (pv 1)) (blkOk_by (own := [("_law_number_here", 3)]) (by kernel_rfl)) (fun _ _ _ _ _ => (pg_name (i := 3) sc_law_told.nd rfl (Or.inl rfl))) (fun _ _ _ _ _ => pts_nil) (fun _ _ _ _ _ => (pe_call G_law_whole (hr.mono (by decide)) (by rfl) T.m_law_whole T.k_law_whole T.b_law_whole .nil pass0 (@pa_cons _ _ _ _ _ (pv 3) pa_nil (by rfl))))) pa_nil (by rfl)))))))))), ?_⟩
    refine ⟨_, rfl, x, A.C_Fewest, dx, _, _, rfl, hx, T.cl_Fewest, T.na_Fewest_orders, fld_orders o m, .ref o, .ty "list", _, true, rfl, .lst ho, (fun u hu => kitL hu), true, rfl, iteF ?_⟩
    have hrl : rs.length = os.length := hL.1
    refine ⟨_, rfl, x, A.C_Fewest, dx, _, _, rfl, hx, T.cl_Fewest, T.na_Fewest_orders, fld_orders o m, o, rfl, ⟨_, SqL.of ho⟩, fun D hD => ?_⟩
    refine lc_list (K := K) (a := o) (xs := rs.map V.ref) (fun q H1 => Same H H1 ∧ H1 D = some (.lst (((rs.take q).map fun _ => true).map V.bl))) ⟨Same.new hD, upd_same⟩ (fun q H1 _ ⟨s1, _⟩ => SqL.of (s1 _ _ ho)) ?_ ?_
    · rintro q z H1 hz ⟨s1, hD1⟩
      obtain ⟨r, hr', rfl⟩ := ref_get hz
      have hql := (List.getElem?_eq_some_iff.mp hr').1
      obtain ⟨row, hrow⟩ : ∃ row, os[q]? = some row := ⟨_, List.getElem?_eq_getElem (by omega)⟩
      refine ⟨rfl, yesT ⟨_, rfl, .ref r, .ty "list", _, true, rfl, .lst (s1 _ _ (hL.2 q r row hr' hrow)), (fun u hu => kitL hu), _, hD1, ?_, s1.upd hD, ?_⟩⟩
      · rw [List.length_map, List.length_map, List.length_take]
        exact small1000 (by omega)
      · rw [upd_same, take_snoc hr', List.map_append, List.map_append]
        rfl
    rintro H1 ⟨s1, hD1⟩
    rw [List.length_map, List.take_length] at hD1
    refine ⟨D, _, rfl, SqL.of hD1, _, rfl, ?_⟩
    rw [all_true]
    refine iteF ?_
    refine ⟨_, rfl, x, A.C_Fewest, dx, _, _, rfl, s1 _ _ hx, T.cl_Fewest, T.na_Fewest_marks, fld_marks o m, m, _, rfl, .inl (SqL.of (s1 _ _ hm)), fun l1 hl1 => ?_⟩
    have m2 : Same H1 (upd H1 l1 (.lst (ms.map V.int))) := Same.new hl1
    have hl12 : (upd H1 l1 (.lst (ms.map V.int))) l1 = some (.lst (ms.map V.int)) := upd_same
    generalize upd H1 l1 (.lst (ms.map V.int)) = H2 at m2 hl12
    have s2 := s1.trans m2
    refine ⟨_, rfl, x, A.C_Fewest, dx, _, _, rfl, s2 _ _ hx, T.cl_Fewest, T.na_Fewest_orders, fld_orders o m, o, rfl, ⟨_, SqL.of (s2 _ _ ho)⟩, ?_⟩
    refine for_list (K := K) (a := o) (xs := rs.map V.ref) (fun i σ H3 => ∃ (x2 : Option V) (l : Addr), σ = [some (.ref x), some (.ref l), x2, none] ∧ Same H H3 ∧ H3 l = some (.lst ((ms ++ (os.take i).flatten).map V.int))) ⟨none, l1, rfl, s2, by simpa using hl12⟩ (fun i σ H3 _ ⟨_, _, _, s3, _⟩ => SqL.of (s3 _ _ ho)) ?_ ?_
    · rintro i z σ H3 hz ⟨x2, l, rfl, s3, hl⟩
      obtain ⟨r, hr', rfl⟩ := ref_get hz
      have hil := (List.getElem?_eq_some_iff.mp hr').1
      obtain ⟨row, hrow⟩ : ∃ row, os[i]? = some row := ⟨_, List.getElem?_eq_getElem (by omega)⟩
      have hsub := flat_pre hrow row.length
      rw [List.take_length] at hsub
      have hsl := hsub.length_le
      rw [List.length_append] at hsl
      refine ⟨_, rfl, _, rfl, l, r, _, _, rfl, rfl, hl, s3 _ _ (hL.2 i r row hr' hrow), ?_, fun p hp => ?_⟩
      · rw [List.length_map, List.length_map, List.length_append]
        exact Nat.le_of_lt (small1000 (by omega))
      · refine ⟨_, p, rfl, s3.trans (Same.new hp), ?_⟩
        rw [upd_same, ← List.map_append, take_snoc hrow, List.flatten_append, List.append_assoc]
        simp
    · rintro σ H3 ⟨x2, l, rfl, s3, hl⟩
      rw [List.length_map, hrl, List.take_length] at hl
      dsimp only
      refine ⟨_, rfl, x, A.C_Fewest, dx, _, _, rfl, s3 _ _ hx, T.cl_Fewest, T.na_Fewest_marks, fld_marks o m, .ref m, .ty "list", _, true, rfl, .lst (s3 _ _ hm), (fun u hu => kitL hu), true, rfl, iteT ?_⟩
      refine ⟨_, rfl, l, rfl, ⟨_, SqL.of hl⟩, fun D2 hD2 => ?_⟩
      refine lc_list (K := K) (a := l) (xs := (ms ++ os.flatten).map V.int) (fun q H4 => Same H3 H4 ∧ H4 D2 = some (.lst ((((ms ++ os.flatten).take q).map fun _ => true).map V.bl))) ⟨Same.new hD2, upd_same⟩ (fun q H4 _ ⟨s4, _⟩ => SqL.of (s4 _ _ hl)) ?_ ?_
      · rintro q z H4 hz ⟨s4, hD4⟩
        obtain ⟨c, hc, rfl⟩ := map_int_get hz
        refine ⟨rfl, yesT ⟨_, rfl, c, rfl, _, hD4, ?_, s4.upd hD2, ?_⟩⟩
        · rw [List.length_map, List.length_map, List.length_take, List.length_append]
          exact small1000 (by omega)
        · rw [upd_same, take_snoc hc, List.map_append, List.map_append]
          rfl
      rintro H4 ⟨s4, hD4⟩
      rw [List.length_map, List.take_length] at hD4
      refine ⟨D2, _, rfl, SqL.of hD4, ?_⟩
      rw [all_true]
      exact k H4 (s3.trans s4)
end
end Toy

set_option Elab.async false
set_option linter.all false
set_option maxRecDepth 100000
set_option maxHeartbeats 4000000
namespace Toy
open PySem L2
structure Fresh (H : Hp) (o m : Addr) (rs : List Addr) : Prop where
  ho : H o = none
  hm : H m = none
  hr : ∀ r ∈ rs, H r = none
  nd : rs.Nodup
  om : o ≠ m
  no : o ∉ rs
  nm : m ∉ rs
section
variable {P : Program} {w : World} {K : PySem.W.Frag} {mg : Str → Option Value} {base : Heap} {A : Adr}
def spFInitX (C : Addr) : Sp := fun vs H Q _ => ∃ (x dx o m : Addr) (rs : List Addr) (os : List (List Int)) (ms : List Int), vs = [.ref x, .ref o, .ref m] ∧ H x = some (.ins C dx []) ∧ H o = some (.lst (rs.map V.ref)) ∧ LL H rs os ∧ rs.length < 1000 ∧ H m = some (.lst (ms.map V.int)) ∧ ms.length < 1000 ∧
  ∀ (o' m' : Addr) (rs' : List Addr) (H' : Hp), (∀ b u, H b = some u → b ≠ x → H' b = some u) → H' x = some (.ins C dx (fldF o' m')) → H' o' = some (.lst (rs'.map V.ref)) → LL H' rs' os → H' m' = some (.lst (ms.map V.int)) → Fresh H o' m' rs' → Q .non H'
theorem ok_Fewest_initX (T : Txt K mg A) : FnOk P w K mg base CX0 2 A.f_Fewest_init A.d_Fewest_init ["self", "orders", "marks"] (spFInitX A.C_Fewest) := by
  have G_copied := ok_copied (P := P) (w := w) (base := base) T
  refine T.f_Fewest_init.ok sc_Fewest_init (fun vs H Q E h => ?_) (fun cdv A' outer s H vs Q E hr h => ?_)
  · obtain ⟨x, dx, o, m, rs, os, ms, rfl, _⟩ := h
    rfl
  · obtain ⟨x, dx, o, m, rs, os, ms, rfl, hx, ho, hL, hl, hm, hml, k⟩ := h
    refine ⟨_, (pss_cons (ps_fld (pv 0) (pe_call G_copied (hr.mono (by decide)) (by rfl) T.m_copied T.k_copied T.b_copied .nil pass0 (@pa_cons _ _ _ _ _ (pv 1) pa_nil (by rfl))) rfl)
      (pss_one (ps_fld (pv 0) (pe_call G_copied (hr.mono (by decide)) (by rfl) T.m_copied T.k_copied T.b_copied .nil pass0 (@pa_cons _ _ _ _ _ (pv 2) pa_nil (by rfl))) rfl))), ?_⟩
    have nx : ∀ {b xs}, H b = some (.lst xs) → b ≠ x := fun {b xs} e z => by
      rw [z, hx] at e
      cases e
    refine ⟨_, rfl, .inr ⟨o, rs, os, rfl, ho, hL, hl, fun o' rs' H1 s1 hon ho' hL' hn' hnd => ?_⟩⟩
    have hx1 := s1 _ _ hx
    refine ⟨_, rfl, x, A.C_Fewest, dx, [], rfl, hx1, T.cl_Fewest, T.na_Fewest_orders, (by show 0 < 1000; decide), ?_⟩
    have hm1 : (upd H1 x (.ins A.C_Fewest dx (putF "orders" (.ref o') []))) m = some (.lst (ms.map V.int)) := by
      rw [upd_ne (nx hm)]
      exact s1 _ _ hm
    refine ⟨_, rfl, .inl ⟨m, ms, rfl, hm1, hml, fun m' H2 s2 hmn hm' => ?_⟩⟩
    have hx2 := s2 _ _ (upd_same (H := H1) (a := x) (o := .ins A.C_Fewest dx (putF "orders" (.ref o') [])))
    refine ⟨_, rfl, x, A.C_Fewest, dx, _, rfl, hx2, T.cl_Fewest, T.na_Fewest_marks, (by show 1 < 1000; decide), ?_⟩
    have nxo : o' ≠ x := Ne.symm (ne_of_none hx hon)
    have nxm : m' ≠ x := fun z => by
      rw [z, upd_same] at hmn
      cases hmn
    have hmn1 : H1 m' = none := by
      rw [upd_ne nxm] at hmn
      exact hmn
    have up : ∀ {b u}, H1 b = some u → b ≠ x → (upd H2 x (.ins A.C_Fewest dx (putF "marks" (.ref m') (putF "orders" (.ref o') [])))) b = some u := fun {b u} e n => by
      rw [upd_ne n]
      exact s2 _ _ (by rw [upd_ne n]; exact e)
    refine k o' m' rs' _ (fun b u e n => up (s1 _ _ e) n) ?_ (up ho' nxo) ⟨hL'.1, fun p r row hp hr' => up (hL'.2 p r row hp hr') ?_⟩ ?_ ⟨hon, s1.free hmn1, fun r hr' => (hn' r hr').1, hnd, ne_of_none ho' hmn1, fun z => (hn' _ z).2 rfl, fun z => ?_⟩
    · rw [upd_same, put2]
    · exact Ne.symm (ne_of_none hx (hn' r (List.mem_of_getElem? hp)).1)
    · rw [upd_ne nxm]
      exact hm'
    · obtain ⟨p, hp⟩ := List.getElem?_of_mem z
      have hpl := (List.getElem?_eq_some_iff.mp hp).1
      have := hL'.2 p m' _ hp (List.getElem?_eq_getElem (by rw [← hL'.1]; exact hpl))
      rw [hmn1] at this
      cases this
def spFewestX (Pt C : Addr) : Sp := fun vs H Q _ => ∃ (a : Addr) (us : List Int), vs = [.ref a] ∧ H a = some (.lst (us.map V.int)) ∧ GoodUps us ∧ TabOk H Pt lamQ ∧
  ∀ (x dx o m : Addr) (rs : List Addr) (os : List (List Int)) (ms : List Int) (H' : Hp), Gr Pt H H' → H' x = some (.ins C dx (fldF o m)) → H' o = some (.lst (rs.map V.ref)) → LL H' rs os → H' m = some (.lst (ms.map V.int)) → BestR us os ms → Fresh H o m rs → Q (.ref x) H'
theorem ok_fewestX (T : Txt K mg A) (hk : K.In base) (B : BmOk mg base) : FnOk P w K mg base CX0 6 A.f_fewest A.d_fewest ["ups"] (spFewestX A.P_longest_first A.C_Fewest) := by
  have G_take_ups := ok_take_ups (P := P) (w := w) (base := base) T
  have G_best_orders := ok_best_orders (P := P) (w := w) T hk B
  have G_Fewest_init := ok_Fewest_initX (P := P) (w := w) (base := base) T
  refine T.f_fewest.ok sc_fewest (fun vs H Q E h => ?_) (fun cdv A' outer s H vs Q E hr h => ?_)
  · obtain ⟨a, us, rfl, _⟩ := h
    rfl
  · obtain ⟨a, us, rfl, hH, hg, hT, k⟩ := h
    refine ⟨_, (pss_cons (ps_asg (pe_call G_best_orders (hr.mono (by decide)) (by rfl) T.m_best_orders T.k_best_orders T.b_best_orders .nil pass0 (@pa_cons _ _ _ _ _ (pe_call G_take_ups (hr.mono (by decide)) (by rfl) T.m_take_ups T.k_take_ups T.b_take_ups .nil pass0 (@pa_cons _ _ _ _ _ (pv 0) pa_nil (by rfl))) pa_nil (by rfl))) (pg_tupK K (n := 2) (by rfl) (pgs_cons (pg_name (i := 1) sc_fewest.nd rfl (Or.inl rfl)) (pgs_cons (pg_name (i := 2) sc_fewest.nd rfl (Or.inl rfl)) pgs_nil))))
      (pss_one (ps_ret (pe_make T.k_Fewest G_Fewest_init (hr.mono (by decide)) (by rfl) T.c_Fewest T.b_Fewest_init .nil pass0 (@pa_cons _ _ _ _ _ (pv 1) (@pa_cons _ _ _ _ _ (pv 2) pa_nil (by rfl)) (by rfl)))))), ?_⟩
    refine ⟨_, rfl, a, us, rfl, hH, hg, fun b H1 s1 hbn hb => ?_⟩
    have T1 := tab_same hT s1
    refine ⟨b, us, rfl, hb, hg, T1, fun t o m rs os ms H2 g2 ht ho hL hm hB => ?_⟩
    refine ⟨t, _, rfl, SqT.of ht, rfl, _, _, rfl, _, _, rfl, rfl, ?_⟩
    refine ⟨_, rfl, _, rfl, fun x dx hx hdx ndx => ?_⟩
    have up : ∀ {c u}, H2 c = some u → (upd (upd H2 dx (.own x)) x (.ins A.C_Fewest dx [])) c = some u := fun {c u} e => by
      rw [upd_ne (ne_of_none e hx), upd_ne (ne_of_none e hdx)]
      exact e
    have hrl : rs.length < 1000 := by
      rw [hL.1, hB.lo]
      have := hg.1
      omega
    have hml : ms.length < 1000 := by
      rw [hB.lm]
      have := hg.1
      omega
    refine ⟨x, dx, o, m, rs, os, ms, rfl, upd_same, up ho, ⟨hL.1, fun p r row hp hr' => up (hL.2 p r row hp hr')⟩, hrl, up hm, hml, fun o' m' rs' H3 kp hx3 ho3 hL3 hm3 fr => ⟨rfl, ?_⟩⟩
    have g02 : Gr A.P_longest_first H H2 := (Gr.of hT s1).trans g2
    have kp2 : ∀ {c u}, H2 c = some u → H3 c = some u := fun {c u} e => kp c u (up e) (ne_of_none e hx)
    have g3 : Gr A.P_longest_first H H3 := ⟨fun c u e n => kp2 (g02.but c u e n), tab_same g02.tab fun c u e => kp2 e⟩
    have fre : ∀ {c : Addr}, (upd (upd H2 dx (.own x)) x (.ins A.C_Fewest dx [])) c = none → H c = none := fun {c} e => g02.free hT (by
      cases h : H2 c with
      | none => rfl
      | some u =>
        rw [up h] at e
        cases e)
    exact k x dx o' m' rs' os ms H3 g3 hx3 ho3 hL3 hm3 hB ⟨fre fr.ho, fre fr.hm, fun r hr' => fre (fr.hr r hr'), fr.nd, fr.om, fr.no, fr.nm⟩
end
end Toy

set_option Elab.async false
set_option linter.all false
set_option maxRecDepth 100000
set_option maxHeartbeats 4000000
namespace Toy
open PySem L2
theorem TabOk.put {H : Hp} {Pt a : Addr} {q : Str} {xs : List V} {o : HO} (T : TabOk H Pt q) (ha : H a = some (.lst xs)) : TabOk (L2.upd H a o) Pt q := by
  obtain ⟨ts, e, k⟩ := T
  refine ⟨ts, by rw [upd_ne (fun z => by rw [z, ha] at e; cases e)]; exact e, fun t ht => ?_⟩
  have h := k t ht
  rw [upd_ne (fun z => by
    rw [z, ha] at h
    unfold codeX at h
    cases h)]
  exact h
theorem Gr.put {H H1 : Hp} {Pt a : Addr} {xs : List V} {o : HO} (g : Gr Pt H H1) (h : H a = none) (h1 : H1 a = some (.lst xs)) : Gr Pt H (L2.upd H1 a o) :=
  ⟨fun c u e n => by rw [upd_ne (ne_of_none e h)]; exact g.but c u e n, TabOk.put g.tab h1⟩
section
variable {P : Program} {w : World} {K : PySem.W.Frag} {mg : Str → Option Value} {base : Heap} {A : Adr}
theorem sc_law_says : FnScope ["_law_said", "_law_due"] ["_law_said", "_law_due"] (defScope s_law_says) := ⟨rfl, rfl, rfl, by decide +kernel, rfl, by decide +kernel, by decide +kernel⟩
def spSays : Sp := fun vs H Q _ => ∃ a b : Bool, vs = [.bl a, .bl b] ∧ Q (.bl (decide (a = b))) H
theorem ok_law_says (T : Txt K mg A) : FnOk P w K mg base CX0 1 A.f_law_says A.d_law_says ["_law_said", "_law_due"] spSays := by
  refine T.f_law_says.ok sc_law_says (fun vs H Q E h => ?_) (fun cdv A' outer s H vs Q E hr h => ?_)
  · obtain ⟨a, b, rfl, _⟩ := h
    rfl
  · obtain ⟨a, b, rfl, k⟩ := h
    refine ⟨_, (pss_one (ps_ret (pe_and (pe_callB (cr_isiK K) (by rfl) T.n_isinstance (by decide +kernel) (@pa_cons _ _ _ _ _ (pv 0) (@pa_cons _ _ _ _ _ (pe_bltn (v := .ty "bool") (by rfl) T.n_bool (by decide +kernel) rfl) pa_nil (by rfl)) (by rfl))) (pe_one (pe_cmpR op_eq (pv 0) (pv 1) (nomark _)))))), ?_⟩
    refine ⟨_, rfl, .bl a, .ty "bool", _, true, rfl, .bl a, (fun u hu => kitB1 hu), true, rfl, iteT ⟨_, rfl, _, rfl, rfl, ?_⟩⟩
    have e : decide (V.bl a = V.bl b) = decide (a = b) := by cases a <;> cases b <;> rfl
    rw [e]
    exact k
end
end Toy

set_option Elab.async false
set_option linter.all false
set_option maxRecDepth 100000
set_option maxHeartbeats 4000000
namespace Toy
open PySem L2
theorem Gr.tabX {Pt Pg : Addr} {H H' : Hp} (g : Gr Pt H H') (T : TabOk H Pt lamQ) (h : H Pg = some (L2.tabX Pg)) : H' Pg = some (L2.tabX Pg) := g.but _ _ h (tab_ne T h fun ps z => by
  unfold L2.tabX at z
  cases z)
theorem dp_bls {K : PySem.W.Frag} {H : Hp} {a : Addr} {bs : List Bool} (h : H a = some (.lst (bs.map V.bl))) : Dp K H (.ref a) (.list (bs.map PyData.bool)) := by
  refine .lst (SqL.of h) ?_
  clear h
  induction bs with
  | nil => exact .nil
  | cons b r ih => exact .cons (.bl b) ih
theorem Enc.bl : Enc PyData.bool 0 := ⟨fun x y => by simp only [PyData.eqv]; exact Bool.eq_iff_iff.mpr (by simp), fun x => by simp only [PyData.canLay0], fun x => by simp only [PyData.depth]; exact Nat.le_refl _⟩
theorem Enc.bls : Enc (fun l : List Bool => PyData.list (l.map PyData.bool)) 1 := Enc.bl.list
theorem snoc_ex {α : Type} {xs : List α} (h : xs ≠ []) : ∃ ys y, xs = ys ++ [y] := ⟨xs.dropLast, xs.getLast h, (List.dropLast_concat_getLast h).symm⟩
theorem ixN_last {α : Type} (xs : List α) (v : α) : ixN (xs ++ [v]).length (-1) = some xs.length := by
  have hl : (xs ++ [v]).length = xs.length + 1 := by simp
  unfold ixN
  rw [hl, if_neg (by decide), if_pos (by omega)]
  congr 1
  omega
theorem fld_no (o m : Addr) : (fldF o m).lookup ("shows" : Str) = none := by kernel_rfl
section
variable {P : Program} {w : World} {K : PySem.W.Frag} {mg : Str → Option Value} {base : Heap} {A : Adr}
def spRt1 (Pt Pg : Addr) : Sp := fun vs H Q _ => ∃ (ub oth : Addr) (us : List Int) (ys : List V), vs = [.ref ub, .ref oth] ∧ H ub = some (.lst (us.map V.int)) ∧ GoodUps us ∧ H oth = some (.lst ys) ∧ (∀ y ∈ ys, ∃ (u : Addr) (us' : List Int), y = .ref u ∧ H u = some (.lst (us'.map V.int)) ∧ GoodUps us') ∧ TabOk H Pt lamQ ∧ H Pg = some (tabX Pg) ∧ ∀ H', Gr Pt H H' → Q (.bl true) H'
theorem sc_law_right : FnScope ["_law_ups_here", "_law_others", "_law_handed", "_law_again", "_law_found", "_law_some", "_law_last_here"] ["_law_ups_here", "_law_others"] (defScope s_law_right) := ⟨rfl, rfl, rfl, by decide +kernel, rfl, by decide +kernel, by decide +kernel⟩
theorem ok_law_right (T : Txt K mg A) (kb : K.In base) (B : BmOk mg base) : FnOk P w K mg base CX0 8 A.f_law_right A.d_law_right ["_law_ups_here", "_law_others"] (spRt1 A.P_longest_first A.P_are_shown) := by
  have G_fewest := ok_fewestX (P := P) (w := w) T kb B
  have G_law_told := ok_law_toldF (P := P) (w := w) (base := base) T
  have G_law_is_fewest := ok_law_is_fewest (P := P) (w := w) (base := base) T
  have G_law_says := ok_law_says (P := P) (w := w) (base := base) T
  have G_Fewest_shows := FnOk.or' (ok_Fewest_shows (P := P) (w := w) T kb B) (ok_Fewest_showsN (P := P) (w := w) T kb B)
  refine T.f_law_right.ok sc_law_right (fun vs H Q E h => ?_) (fun cdv A' outer s H vs Q E hr h => ?_)
  · obtain ⟨ub, oth, us, ys, rfl, _⟩ := h
    rfl
  · obtain ⟨ub, oth, us, ys, rfl, hub, hg, hoth, hys, hT, hP, k⟩ := h
    refine ⟨_, (pss_cons (ps_set (i := 2) sc_law_right.nd rfl (Or.inl rfl) (pe_callTy (call_list_ofK K) (by rfl) T.n_list (by decide +kernel) (@pa_cons _ _ _ _ _ (pv 0) pa_nil (by rfl))))
      (pss_cons (ps_for PassesOwn.never rfl (pi_range1 (by rfl) T.n_range (@pa_cons _ _ _ _ _ pe_int pa_nil (by rfl))) (pg_name (i := 3) sc_law_right.nd rfl (Or.inl rfl)) (pss_cons (ps_set (i := 4) sc_law_right.nd rfl (Or.inl rfl) (pe_call G_fewest (hr.mono (by decide)) (by rfl) T.m_fewest T.k_fewest T.b_fewest .nil pass0 (@pa_cons _ _ _ _ _ (pv 2) pa_nil (by rfl))))
      (pss_cons (ps_if (PW.pt (pw_or (pt_not (pt_val (pe_callB (cr_isiK K) (by rfl) T.n_isinstance (by decide +kernel) (@pa_cons _ _ _ _ _ (pv 4) (@pa_cons _ _ _ _ _ (pe_glob (v := .ref A.C_Answer) (by rfl) T.c_Answer rfl) pa_nil (by rfl)) (by rfl))))) (pw_or (pt_not (pt_val (pe_callB (cr_isiK K) (by rfl) T.n_isinstance (by decide +kernel) (@pa_cons _ _ _ _ _ (pv 4) (@pa_cons _ _ _ _ _ (pe_glob (v := .ref A.C_Fewest) (by rfl) T.c_Fewest rfl) pa_nil (by rfl)) (by rfl))))) (pw_or (pt_cmpR (op_neDK K hr.units) (pv 2) (pv 0) (nomark _)) (pw_or1 (pt_not (pt_val (pe_call G_law_told (hr.mono (by decide)) (by rfl) T.m_law_told T.k_law_told T.b_law_told .nil pass0 (@pa_cons _ _ _ _ _ (pv 4) pa_nil (by rfl)))))))))) (pss_one (ps_ret pe_bl)) pss_nil)
      (pss_cons (ps_if (pt_cmpR (op_neDK K hr.units) (@pe_lst _ _ _ _ (@pa_cons _ _ _ _ _ (pe_callB (cr_isiK K) (by rfl) T.n_isinstance (by decide +kernel) (@pa_cons _ _ _ _ _ (pv 4) (@pa_cons _ _ _ _ _ (pe_glob (v := .ref A.C_Right) (by rfl) T.c_Right rfl) pa_nil (by rfl)) (by rfl))) (@pa_cons _ _ _ _ _ (pe_callB (cr_isiK K) (by rfl) T.n_isinstance (by decide +kernel) (@pa_cons _ _ _ _ _ (pv 4) (@pa_cons _ _ _ _ _ (pe_glob (v := .ref A.C_Wrong) (by rfl) T.c_Wrong rfl) pa_nil (by rfl)) (by rfl))) (@pa_cons _ _ _ _ _ (pe_callB (cr_isiK K) (by rfl) T.n_isinstance (by decide +kernel) (@pa_cons _ _ _ _ _ (pv 4) (@pa_cons _ _ _ _ _ (pe_glob (v := .ref A.C_Worst) (by rfl) T.c_Worst rfl) pa_nil (by rfl)) (by rfl))) pa_nil (by rfl)) (by rfl)) (by rfl))) (@pe_lst _ _ _ _ (@pa_cons _ _ _ _ _ pe_bl (@pa_cons _ _ _ _ _ pe_bl (@pa_cons _ _ _ _ _ pe_bl pa_nil (by rfl)) (by rfl)) (by rfl))) (nomark _)) (pss_one (ps_ret pe_bl)) pss_nil)
      (pss_cons (ps_if (PW.pt (pw_or (pt_not (pt_val (pe_call G_law_is_fewest (hr.mono (by decide)) (by rfl) T.m_law_is_fewest T.k_law_is_fewest T.b_law_is_fewest .nil pass0 (@pa_cons _ _ _ _ _ (pv 0) (@pa_cons _ _ _ _ _ (pe_fldK K (pv 4) rfl) (@pa_cons _ _ _ _ _ (pe_fldK K (pv 4) rfl) pa_nil (by rfl)) (by rfl)) (by rfl))))) (pw_or1 (pt_cmpR op_isnotB (pe_meth (pv 4) T.cl_Fewest T.mt_Fewest_shows G_Fewest_shows (hr.mono (by decide)) T.b_Fewest_shows .nil pass0 (@pa_cons _ _ _ _ _ (pv 0) pa_nil (by rfl))) pe_bl (nomark _))))) (pss_one (ps_ret pe_bl)) pss_nil)
      (pss_cons (ps_for PassesOwn.never rfl (pi_listK K (pv 1)) (pg_name (i := 5) sc_law_right.nd rfl (Or.inl rfl)) (pss_one (ps_if (pt_not (pt_val (pe_call G_law_says (hr.mono (by decide)) (by rfl) T.m_law_says T.k_law_says T.b_law_says .nil pass0 (@pa_cons _ _ _ _ _ (pe_meth (pv 4) T.cl_Fewest T.mt_Fewest_shows G_Fewest_shows (hr.mono (by decide)) T.b_Fewest_shows .nil pass0 (@pa_cons _ _ _ _ _ (pv 5) pa_nil (by rfl))) (@pa_cons _ _ _ _ _ (pe_call G_law_is_fewest (hr.mono (by decide)) (by rfl) T.m_law_is_fewest T.k_law_is_fewest T.b_law_is_fewest .nil pass0 (@pa_cons _ _ _ _ _ (pv 5) (@pa_cons _ _ _ _ _ (pe_fldK K (pv 4) rfl) (@pa_cons _ _ _ _ _ (pe_fldK K (pv 4) rfl) pa_nil (by rfl)) (by rfl)) (by rfl))) pa_nil (by rfl)) (by rfl))))) (pss_one (ps_ret pe_bl)) pss_nil)))
      (pss_cons (ps_expr (pe_bmK K PySem.F.plainAttrs_list PySem.F.slot_list_append PySem.F.type_list_append mt_append (pe_ix (ix_listK K) (pe_fldK K (pv 4) rfl) (pe_un un_neg pe_int) (fun _ _ => rfl)) (@pa_cons _ _ _ _ _ pe_int pa_nil (by rfl))))
      (pss_cons (ps_if (pt_cmpR op_isnotB (pe_meth (pv 4) T.cl_Fewest T.mt_Fewest_shows G_Fewest_shows (hr.mono (by decide)) T.b_Fewest_shows .nil pass0 (@pa_cons _ _ _ _ _ (pv 0) pa_nil (by rfl))) pe_bl (nomark _)) (pss_one (ps_ret pe_bl)) pss_nil)
      (pss_one (ps_expr (pe_bmK K PySem.F.plainAttrs_list PySem.F.slot_list_append PySem.F.type_list_append mt_append (pe_fldK K (pv 4) rfl) (@pa_cons _ _ _ _ _ pe_int pa_nil (by rfl)))))))))))))
      (pss_cons (ps_if (pt_cmpR (op_neDK K hr.units) (pv 2) (@pe_lst _ _ _ _ pa_nil) (nomark _)) (pss_cons (ps_asg pe_int (pg_sub (pv 2) (pe_un un_neg pe_int) set_list))
      (pss_cons (ps_set (i := 6) sc_law_right.nd rfl (Or.inl rfl) (pe_call G_fewest (hr.mono (by decide)) (by rfl) T.m_fewest T.k_fewest T.b_fewest .nil pass0 (@pa_cons _ _ _ _ _ (pv 2) pa_nil (by rfl))))
      (pss_one (ps_ret (pe_and (pe_call G_law_is_fewest (hr.mono (by decide)) (by rfl) T.m_law_is_fewest T.k_law_is_fewest T.b_law_is_fewest .nil pass0 (@pa_cons _ _ _ _ _ (pv 2) (@pa_cons _ _ _ _ _ (pe_fldK K (pv 6) rfl) (@pa_cons _ _ _ _ _ (pe_fldK K (pv 6) rfl) pa_nil (by rfl)) (by rfl)) (by rfl))) (pe_one (pe_cmpR op_isB (pe_meth (pv 6) T.cl_Fewest T.mt_Fewest_shows G_Fewest_shows (hr.mono (by decide)) T.b_Fewest_shows .nil pass0 (@pa_cons _ _ _ _ _ (pv 2) pa_nil (by rfl))) pe_bl (nomark _)))))))) pss_nil)
      (pss_one (ps_ret pe_bl))))), ?_⟩
    have h39 := hg.1
    refine ⟨_, rfl, ub, _, rfl, .inl (SqL.of hub), fun D hD => ?_⟩
    have m1 : Same H (upd H D (.lst (us.map V.int))) := Same.new hD
    have hD1 : (upd H D (.lst (us.map V.int))) D = some (.lst (us.map V.int)) := upd_same
    generalize upd H D (.lst (us.map V.int)) = H1 at m1 hD1
    have T1 := tab_same hT m1
    refine ⟨2, rfl, by decide, by decide, ?_⟩
    refine for_range (lo := 0) (n := 2) (fun i σ Ha => ∃ x3 x4 x5 : Option V, σ = [some (.ref ub), some (.ref oth), some (.ref D), x3, x4, x5, none] ∧ Gr A.P_longest_first H1 Ha) ⟨none, none, none, rfl, Gr.of T1 (Same.refl _)⟩ ?_ ?_
    · rintro i σ Ha hi ⟨x3, x4, x5, rfl, ga⟩
      have Ta := ga.tab
      have hDa := ga.get T1 hD1
      have huba := ga.get T1 (m1 _ _ hub)
      have hPa := ga.tabX T1 (m1 _ _ hP)
      refine ⟨_, rfl, D, us, rfl, hDa, hg, Ta, fun x dx o m rs os ms Hb gb hx ho hL hm hB fr => ?_⟩
      have hDb := gb.get Ta hDa
      have hubb := gb.get Ta huba
      have hPb := gb.tabX Ta hPa
      have ki : ∀ {C : Addr} {bb : Bool}, PySem.W.kitOne K (.ref A.C_Fewest) (.ref C) = some bb → ∀ u, RelV (.ref C) u → PySem.W.kitOne K (.ref A.C_Fewest) u = some bb := fun h u hu => by
        cases hu
        exact h
      have ty : ∀ {Hz : Hp}, Hz x = some (.ins A.C_Fewest dx (fldF o m)) → TyOf K Hz (.ref x) (.ref A.C_Fewest) := fun h => .ins h T.cl_Fewest T.tyA_Fewest T.tyN T.tyK T.tyM_Fewest
      refine ⟨_, rfl, .ref x, .ref A.C_Answer, _, true, rfl, ty hx, ki T.ki_Fewest_Answer, true, rfl, iteF ?_⟩
      refine ⟨_, rfl, .ref x, .ref A.C_Fewest, _, true, rfl, ty hx, ki T.ki_Fewest_Fewest, true, rfl, iteF ?_⟩
      refine ⟨_, rfl, _, rfl, _, _, dp_ints (SqL.of hDb), dp_ints (SqL.of hubb), shaped_ints _, shaped_ints _, _, rfl, ?_⟩
      rw [eqv_ints, decide_eq_true (show us = us from rfl)]
      refine iteF ?_
      have hlo := hB.lo
      have hlm := hB.lm
      have g := best_good hg hB
      have hfl : os.flatten.length ≤ 40 := Nat.le_trans (nodup_len (n := os.length) g.nd fun x hx => by have := g.inR x hx; omega) g.n40
      have hrl : rs.length = os.length := hL.1
      refine ⟨_, rfl, x, dx, o, m, rs, os, ms, rfl, hx, ho, hL, hm, by omega, by omega, fun Hc sc => ⟨true, rfl, iteF ?_⟩⟩
      have hxc := sc _ _ hx
      refine ⟨_, rfl, .ref x, .ref A.C_Right, _, false, rfl, ty hxc, ki T.ki_Fewest_Right, ?_⟩
      refine ⟨_, rfl, .ref x, .ref A.C_Wrong, _, false, rfl, ty hxc, ki T.ki_Fewest_Wrong, ?_⟩
      refine ⟨_, rfl, .ref x, .ref A.C_Worst, _, false, rfl, ty hxc, ki T.ki_Fewest_Worst, ?_⟩
      refine ⟨(by show 3 ≤ sizeLine; decide), fun l1 hl1 => ?_⟩
      have md : Same Hc (upd Hc l1 (.lst [.bl false, .bl false, .bl false])) := Same.new hl1
      have hl1d : (upd Hc l1 (.lst [.bl false, .bl false, .bl false])) l1 = some (.lst [.bl false, .bl false, .bl false]) := upd_same
      generalize upd Hc l1 (.lst [.bl false, .bl false, .bl false]) = Hd at md hl1d
      refine ⟨(by show 3 ≤ sizeLine; decide), fun l2 hl2 => ?_⟩
      have me : Same Hd (upd Hd l2 (.lst [.bl false, .bl false, .bl false])) := Same.new hl2
      have hl2e : (upd Hd l2 (.lst [.bl false, .bl false, .bl false])) l2 = some (.lst [.bl false, .bl false, .bl false]) := upd_same
      generalize upd Hd l2 (.lst [.bl false, .bl false, .bl false]) = He at me hl2e
      refine ⟨_, _, dp_bls (bs := [false, false, false]) (me _ _ hl1d), dp_bls (bs := [false, false, false]) hl2e, Enc.bls.shaped (by decide) _, Enc.bls.shaped (by decide) _, _, rfl, ?_⟩
      rw [Enc.bls.eq, decide_eq_true (show ([false, false, false] : List Bool) = [false, false, false] from rfl)]
      refine iteF ?_
      have sbe := sc.trans (md.trans me)
      have hxe := sbe _ _ hx
      refine ⟨_, rfl, _, rfl, x, A.C_Fewest, dx, _, _, rfl, hxe, T.cl_Fewest, T.na_Fewest_orders, fld_orders o m, _, rfl, x, A.C_Fewest, dx, _, _, rfl, hxe, T.cl_Fewest, T.na_Fewest_marks, fld_marks o m, ub, o, m, rs, os, us, ms, us, rfl, sbe _ _ ho, hL.mono sbe, sbe _ _ hm, hg, hB, sbe _ _ hubb, h39, fun Hf sf => ?_⟩
      rw [decide_eq_true (show rowsOf us = rowsOf us from rfl)]
      refine ⟨true, rfl, iteF ?_⟩
      have sbf := sbe.trans sf
      refine ⟨_, rfl, x, dx, _, rfl, sbf _ _ hx, fld_no o m, _, rfl, .inl ⟨x, dx, o, m, ub, rs, os, us, ms, us, rfl, sbf _ _ hx, sbf _ _ ho, hL.mono sbf, sbf _ _ hm, hg, hB, sbf _ _ hubb, hg, sbf _ _ hPb, fun Hg sg => ?_⟩⟩
      rw [decide_eq_true (show rowsOf us = rowsOf us from rfl)]
      refine ⟨true, true, rfl, rfl, false, rfl, iteF ?_⟩
      have sbg := sbf.trans sg
      have hotb := gb.get Ta (ga.get T1 (m1 _ _ hoth))
      refine ⟨_, rfl, oth, rfl, ⟨_, SqL.of (sbg _ _ hotb)⟩, ?_⟩
      refine for_list (K := K) (a := oth) (xs := ys) (fun j σ Hh => ∃ x5 : Option V, σ = [some (.ref ub), some (.ref oth), some (.ref D), some (.int (0 + i)), some (.ref x), x5, none] ∧ Same Hg Hh) ⟨x5, rfl, Same.refl _⟩ (fun j σ Hh _ ⟨_, _, sh⟩ => SqL.of ((sbg.trans sh) _ _ hotb)) ?_ ?_
      · rintro j y σ Hh hy ⟨x5, rfl, sh⟩
        obtain ⟨u, us', rfl, hu, hg'⟩ := hys y (List.mem_of_getElem? hy)
        have sbh := sbg.trans sh
        have huh := sbh _ _ (gb.get Ta (ga.get T1 (m1 _ _ hu)))
        refine ⟨_, rfl, x, dx, _, rfl, sbh _ _ hx, fld_no o m, _, rfl, .inl ⟨x, dx, o, m, u, rs, os, us, ms, us', rfl, sbh _ _ hx, sbh _ _ ho, hL.mono sbh, sbh _ _ hm, hg, hB, huh, hg', sbh _ _ hPb, fun Hi si => ?_⟩⟩
        have sbi := sbh.trans si
        refine ⟨_, rfl, _, rfl, x, A.C_Fewest, dx, _, _, rfl, sbi _ _ hx, T.cl_Fewest, T.na_Fewest_orders, fld_orders o m, _, rfl, x, A.C_Fewest, dx, _, _, rfl, sbi _ _ hx, T.cl_Fewest, T.na_Fewest_marks, fld_marks o m, u, o, m, rs, os, us, ms, us', rfl, sbi _ _ ho, hL.mono sbi, sbi _ _ hm, hg, hB, si _ _ huh, hg'.1, fun Hj sj => ⟨_, _, rfl, _, rfl, ?_⟩⟩
        rw [decide_eq_true (show decide (rowsOf us = rowsOf us') = decide (rowsOf us = rowsOf us') from rfl)]
        exact iteF ⟨_, rfl, sh.trans (si.trans sj)⟩
      · rintro σ Hh ⟨x5, rfl, sh⟩
        have sbh := sbg.trans sh
        obtain ⟨rp, rn, rfl⟩ := snoc_ex (xs := rs) (fun z => by rw [z] at hrl; change 0 = os.length at hrl; omega)
        obtain ⟨op, on, rfl⟩ := snoc_ex (xs := os) (fun z => by rw [z] at hlo; change 0 = us.length + 1 at hlo; omega)
        have hpl : rp.length = op.length := by
          rw [List.length_append, List.length_append] at hrl
          exact Nat.succ.inj hrl
        have hgn : (rp ++ [rn])[op.length]? = some rn := by rw [← hpl]; simp
        have hrn : Hb rn = some (.lst (on.map V.int)) := hL.2 op.length rn on hgn (by simp)
        have hmr : rn ∈ rp ++ [rn] := by simp
        have hrnh := sbh _ _ hrn
        have hon : on.length ≤ 40 := by
          rw [List.flatten_append, List.length_append] at hfl
          simp only [List.flatten_cons, List.flatten_nil, List.append_nil] at hfl
          omega
        refine ⟨_, rfl, x, A.C_Fewest, dx, _, _, rfl, sbh _ _ hx, T.cl_Fewest, T.na_Fewest_orders, fld_orders o m, _, rfl, o, _, _, .ref rn, rfl, rfl, SqL.of (sbh _ _ ho), (by rw [List.map_append]; exact atI_last _ _), .inl ⟨rfl, _, SqL.of hrnh⟩, rn, _, _, rfl, rfl, hrnh, (by rw [List.length_map]; exact small1000 (by omega)), ?_⟩
        have gh : Gr A.P_longest_first H1 Hh := (ga.trans gb).trans (Gr.of gb.tab sbh)
        have gi := Gr.put (o := .lst ((on ++ [0]).map V.int)) gh (ga.free T1 (fr.hr rn hmr)) hrnh
        have hxi : (upd Hh rn (.lst ((on ++ [0]).map V.int))) x = some (.ins A.C_Fewest dx (fldF o m)) := by
          rw [upd_ne (fun z => by
            have h := sbh _ _ hx
            rw [z, hrnh] at h
            cases h)]
          exact sbh _ _ hx
        have hoi : (upd Hh rn (.lst ((on ++ [0]).map V.int))) o = some (.lst ((rp ++ [rn]).map V.ref)) := by
          rw [upd_ne (show o ≠ rn from fun z => fr.no (z ▸ hmr))]
          exact sbh _ _ ho
        have hmi : (upd Hh rn (.lst ((on ++ [0]).map V.int))) m = some (.lst (ms.map V.int)) := by
          rw [upd_ne (show m ≠ rn from fun z => fr.nm (z ▸ hmr))]
          exact sbh _ _ hm
        have hLi := LL.set (t := on ++ [0]) (hL.mono sbh) hgn fr.nd
        rw [show (op ++ [on]).set op.length (on ++ [0]) = op ++ [on ++ [0]] by simp] at hLi
        have hcg : on.map V.int ++ [V.int 0] = (on ++ [0]).map V.int := by rw [List.map_append]; rfl
        rw [hcg]
        generalize upd Hh rn (.lst ((on ++ [0]).map V.int)) = Hi at gi hxi hoi hmi hLi
        have hlen' : (op ++ [on ++ [0]]).length = us.length + 1 := by
          rw [List.length_append] at hlo ⊢
          exact hlo
        refine ⟨_, rfl, x, dx, _, rfl, hxi, fld_no o m, _, rfl, .inr ⟨x, dx, o, m, .ref ub, _, op ++ [on ++ [0]], rfl, hxi, hoi, hLi.ol, ?_, by omega, by omega, fun z => ?_, fun Hj sj => ?_⟩⟩
        · rw [List.flatten_append, List.length_append] at hfl ⊢
          simp only [List.flatten_cons, List.flatten_nil, List.append_nil, List.length_append, List.length_cons, List.length_nil] at hfl ⊢
          omega
        · have := z.2 0 (by simp)
          omega
        · refine ⟨false, false, rfl, rfl, _, rfl, iteF ?_⟩
          have hmj := sj _ _ hmi
          refine ⟨_, rfl, x, A.C_Fewest, dx, _, _, rfl, sj _ _ hxi, T.cl_Fewest, T.na_Fewest_marks, fld_marks o m, .inl ⟨rfl, _, SqL.of hmj⟩, m, _, _, rfl, rfl, hmj, (by rw [List.length_map]; exact small1000 (by omega)), ?_⟩
          exact ⟨_, _, _, rfl, Gr.put (gi.trans (Gr.of gi.tab sj)) (ga.free T1 fr.hm) hmj⟩
    · rintro σ Ha ⟨x3, x4, x5, rfl, ga⟩
      have hDa := ga.get T1 hD1
      have gH : Gr A.P_longest_first H Ha := (Gr.of hT m1).trans ga
      refine ⟨_, rfl, Nat.zero_le _, fun e1 he1 => ?_⟩
      have mb : Same Ha (upd Ha e1 (.lst [])) := Same.new he1
      have he1b : (upd Ha e1 (.lst [])) e1 = some (.lst []) := upd_same
      generalize upd Ha e1 (.lst []) = Hb at mb he1b
      have hDb := mb _ _ hDa
      have gb : Gr A.P_longest_first H Hb := gH.trans (Gr.of gH.tab mb)
      refine ⟨_, _, dp_ints (SqL.of hDb), dp_ints (ns := []) (SqL.of he1b), shaped_ints _, shaped_ints _, _, rfl, ?_⟩
      rw [eqv_ints]
      by_cases hu0 : us = []
      · rw [decide_eq_true hu0]
        exact iteF (k _ gb)
      · rw [decide_eq_false hu0]
        obtain ⟨up, ul, rfl⟩ := snoc_ex hu0
        refine iteT ?_
        refine ⟨_, rfl, _, rfl, D, _, _, up.length, rfl, rfl, hDb, (by rw [List.length_map]; exact ixN_last _ _), ?_⟩
        have hset : ((up ++ [ul]).map V.int).set up.length (V.int 0) = (up ++ [0]).map V.int := by
          rw [List.map_append, List.map_append, List.set_append_right _ _ (by rw [List.length_map]; exact Nat.le_refl _), List.length_map, Nat.sub_self]
          rfl
        have gc := Gr.put (o := .lst ((up ++ [0]).map V.int)) gb hD hDb
        have hDc : (upd Hb D (.lst ((up ++ [0]).map V.int))) D = some (.lst ((up ++ [0]).map V.int)) := upd_same
        rw [hset]
        generalize upd Hb D (.lst ((up ++ [0]).map V.int)) = Hc at gc hDc
        have hg0 : GoodUps (up ++ [0]) := by
          refine ⟨by rw [List.length_append] at h39 ⊢; exact h39, fun j u hj => ?_⟩
          by_cases hjl : j < up.length
          · rw [List.getElem?_append_left hjl] at hj
            exact hg.2 j u (by rw [List.getElem?_append_left hjl]; exact hj)
          · rw [List.getElem?_append_right (by omega)] at hj
            have := (List.getElem?_eq_some_iff.mp hj).1
            simp only [List.length_cons, List.length_nil] at this
            rw [show j - up.length = 0 by omega] at hj
            cases hj
            omega
        refine ⟨_, rfl, D, up ++ [0], rfl, hDc, hg0, gc.tab, fun x dx o m rs os ms Hd gd hx ho hL hm hB fr => ?_⟩
        have hDd := gd.get gc.tab hDc
        have hPd := (gc.trans gd).tabX hT hP
        refine ⟨_, rfl, _, rfl, x, A.C_Fewest, dx, _, _, rfl, hx, T.cl_Fewest, T.na_Fewest_orders, fld_orders o m, _, rfl, x, A.C_Fewest, dx, _, _, rfl, hx, T.cl_Fewest, T.na_Fewest_marks, fld_marks o m, D, o, m, rs, os, up ++ [0], ms, up ++ [0], rfl, ho, hL, hm, hg0, hB, hDd, hg0.1, fun He se => ?_⟩
        rw [decide_eq_true (show rowsOf (up ++ [0]) = rowsOf (up ++ [0]) from rfl)]
        refine ⟨true, rfl, iteT ?_⟩
        refine ⟨_, rfl, x, dx, _, rfl, se _ _ hx, fld_no o m, _, rfl, .inl ⟨x, dx, o, m, D, rs, os, up ++ [0], ms, up ++ [0], rfl, se _ _ hx, se _ _ ho, hL.mono se, se _ _ hm, hg0, hB, se _ _ hDd, hg0, se _ _ hPd, fun Hf sf => ?_⟩⟩
        rw [decide_eq_true (show rowsOf (up ++ [0]) = rowsOf (up ++ [0]) from rfl)]
        refine ⟨true, true, rfl, rfl, ?_⟩
        exact k Hf ((gc.trans gd).trans (Gr.of gd.tab (se.trans sf)))
end
end Toy

set_option Elab.async false
set_option linter.all false
set_option maxRecDepth 100000
set_option maxHeartbeats 4000000
namespace Toy
open PySem L2
theorem Gr.seq {K : PySem.W.Frag} {Pt a : Addr} {H H' : Hp} {xs : List V} (g : Gr Pt H H') (T : TabOk H Pt lamQ) (h : SqL K H a xs) : SqL K H' a xs := by
  obtain ⟨ts, e, _⟩ := T
  exact h.butT g.but e
theorem cut_last {xs : List V} {v : V} : cutV (xs ++ [v]) none (some (-1)) = xs := by
  have e : HT.sIx (xs ++ [v]).length (xs ++ [v]).length (some (-1)) = xs.length := by
    rw [List.length_append]
    unfold HT.sIx
    simp
    omega
  unfold cutV
  rw [HT.sIx_none, e, List.drop_zero, Nat.sub_zero, List.take_left']
  rfl
theorem cut_ints (us : List Int) : cutV (us.map V.int) none (some (-1)) = us.dropLast.map V.int := by
  by_cases h : us = []
  · subst h
    rfl
  · obtain ⟨up, ul, rfl⟩ := snoc_ex h
    rw [List.map_append, List.dropLast_concat]
    exact cut_last
theorem GoodUps.init {us : List Int} (h : GoodUps us) : GoodUps us.dropLast := by
  refine ⟨by have := h.1; rw [List.length_dropLast]; omega, fun j u hj => h.2 j u ?_⟩
  rw [List.getElem?_dropLast] at hj
  by_cases c : j < us.length - 1
  · rw [if_pos c] at hj
    exact hj
  · rw [if_neg c] at hj
    cases hj
theorem GoodUps.snoc0 {us : List Int} (h : GoodUps us) (hl : us.length < 39) : GoodUps (us ++ [0]) := by
  refine ⟨by rw [List.length_append]; exact hl, fun j u hj => ?_⟩
  by_cases hjl : j < us.length
  · rw [List.getElem?_append_left hjl] at hj
    exact h.2 j u hj
  · rw [List.getElem?_append_right (by omega)] at hj
    have := (List.getElem?_eq_some_iff.mp hj).1
    simp only [List.length_cons, List.length_nil] at this
    rw [show j - us.length = 0 by omega] at hj
    cases hj
    omega
theorem need_nil {ms row : List Int} {m : Int} (e : row = []) (h : IsNeed ms row m) : m = 0 := by
  subst e
  rcases h with ⟨_, h⟩ | ⟨h, _⟩
  · exact h
  · cases h
theorem need_flat {ms row : List Int} {m z : Int} (hz : ∀ c ∈ row, at0 ms c = z) (hne : row ≠ []) (h : IsNeed ms row m) : m = row.length + z := by
  rcases h with ⟨e, _⟩ | ⟨h1, h2⟩
  · exact absurd e hne
  · obtain ⟨rp, rl, rfl⟩ := snoc_ex hne
    have hlo := h2 _ (by rw [vals_snoc]; exact List.mem_append_right _ List.mem_cons_self)
    rw [hz rl (by simp)] at hlo
    have hle : ∀ y ∈ vals ms (rp ++ [rl]), y ≤ ((rp ++ [rl]).length : Int) + z := by
      intro y hy
      unfold vals at hy
      obtain ⟨q, hq, rfl⟩ := List.mem_map.mp hy
      have hq := List.mem_zipIdx_iff_getElem?.mp hq
      have hl := (List.getElem?_eq_some_iff.mp hq).1
      rw [hz q.1 (List.mem_of_getElem? hq)]
      omega
    have := hle m h1
    rw [List.length_append] at this ⊢
    simp only [List.length_cons, List.length_nil] at this ⊢
    omega
theorem BestR.get {us : List Int} {os : List (List Int)} {ms : List Int} (hB : BestR us os ms) {p : Nat} (hp : p < us.length + 1) : ∃ row, os[p]? = some row ∧ Falls ms (rowOf us (p : Int)) row ∧ IsNeed ms row (at0 ms (p : Int)) :=
  have h : p < os.length := by rw [hB.lo]; exact hp
  ⟨_, List.getElem?_eq_getElem h, hB.row p _ (List.getElem?_eq_getElem h)⟩
theorem BestR.leaf {us : List Int} {os : List (List Int)} {ms : List Int} (hB : BestR us os ms) {p : Nat} (hp : p < us.length + 1) (h : rowOf us (p : Int) = []) : at0 ms (p : Int) = 0 := by
  obtain ⟨row, _, hf, hn⟩ := hB.get hp
  rw [h] at hf
  exact need_nil (List.perm_nil.mp hf.1) hn
theorem BestR.flat {us : List Int} {os : List (List Int)} {ms : List Int} (hB : BestR us os ms) {p : Nat} {z : Int} (hp : p < us.length + 1) (h : rowOf us (p : Int) ≠ []) (hz : ∀ c ∈ rowOf us (p : Int), at0 ms c = z) : at0 ms (p : Int) = (rowOf us (p : Int)).length + z := by
  obtain ⟨row, _, hf, hn⟩ := hB.get hp
  rw [← hf.1.length_eq]
  refine need_flat (fun c hc => hz c (hf.1.mem_iff.mp hc)) (fun e => h ?_) hn
  rw [e] at hf
  exact List.nil_perm.mp hf.1
def us6 : List Int := [0, 0, 0, 1, 1, 2]
theorem good6 : GoodUps us6 := ⟨by decide, fun j u h => by
  rcases j with _ | _ | _ | _ | _ | _ | j
  · cases h; decide
  · cases h; decide
  · cases h; decide
  · cases h; decide
  · cases h; decide
  · cases h; decide
  · cases h⟩
theorem best6 {os : List (List Int)} {ms : List Int} (hB : BestR us6 os ms) : at0 ms 0 = 3 ∧ os[0]? = some [1, 2, 3] := by
  have m3 : at0 ms 3 = 0 := hB.leaf (p := 3) (by decide) (by decide)
  have m4 : at0 ms 4 = 0 := hB.leaf (p := 4) (by decide) (by decide)
  have m5 : at0 ms 5 = 0 := hB.leaf (p := 5) (by decide) (by decide)
  have m6 : at0 ms 6 = 0 := hB.leaf (p := 6) (by decide) (by decide)
  have m2 : at0 ms 2 = 1 := by
    have := hB.flat (p := 2) (z := 0) (by decide) (by decide) (by
      rw [show rowOf us6 ((2 : Nat) : Int) = [6] by decide]
      simp [m6])
    rw [show rowOf us6 ((2 : Nat) : Int) = [6] by decide] at this
    exact this
  have m1 : at0 ms 1 = 2 := by
    have := hB.flat (p := 1) (z := 0) (by decide) (by decide) (by
      rw [show rowOf us6 ((1 : Nat) : Int) = [4, 5] by decide]
      simp [m4, m5])
    rw [show rowOf us6 ((1 : Nat) : Int) = [4, 5] by decide] at this
    exact this
  obtain ⟨row, hr, hf, hn⟩ := hB.get (p := 0) (by decide)
  rw [show rowOf us6 ((0 : Nat) : Int) = [1, 2, 3] by decide] at hf
  have e : row = [1, 2, 3] := by
    refine List.Perm.eq_of_pairwise (le := fun c d : Int => at0 ms d ≤ at0 ms c) (fun a b ha hb h h' => ?_) hf.2 ?_ hf.1
    · have ha := hf.1.mem_iff.mp ha
      have he := Int.le_antisymm h' h
      simp only [List.mem_cons, List.not_mem_nil, or_false] at ha hb
      rcases ha with rfl | rfl | rfl <;> rcases hb with rfl | rfl | rfl <;> first | rfl | (rw [m1, m2] at he; cases he) | (rw [m2, m1] at he; cases he) | (rw [m1, m3] at he; cases he) | (rw [m3, m1] at he; cases he) | (rw [m2, m3] at he; cases he) | (rw [m3, m2] at he; cases he)
    · simp [m1, m2, m3]
  subst e
  refine ⟨?_, hr⟩
  rcases hn with ⟨h, _⟩ | ⟨h, _⟩
  · cases h
  · have h : at0 ms 0 ∈ [(0 : Int) + 1 + at0 ms 1, 1 + 1 + at0 ms 2, 2 + 1 + at0 ms 3] := h
    rw [m1, m2, m3] at h
    simp only [List.mem_cons, List.not_mem_nil, or_false] at h
    omega
theorem best_nil {os : List (List Int)} {ms : List Int} (hB : BestR [] os ms) : ms = [0] := by
  have h0 : at0 ms 0 = 0 := hB.leaf (p := 0) (by decide) rfl
  have hl := hB.lm
  match ms, hl, h0 with
  | [m], _, h0 =>
    have h0 : m = 0 := h0
    rw [h0]
def usC : List Int := rgI 0 39
def usS : List Int := List.replicate 39 0
theorem goodC : GoodUps usC := by
  have h : usC.length ≤ 39 ∧ ∀ j : Nat, j < 39 → ∀ u ∈ usC[j]?, 0 ≤ u ∧ u ≤ (j : Int) := by decide +kernel
  refine ⟨h.1, fun j u hj => ?_⟩
  have hjl : j < 39 := Nat.lt_of_lt_of_le (List.getElem?_eq_some_iff.mp hj).1 h.1
  have := h.2 j hjl u hj
  omega
theorem goodS : GoodUps usS := by
  have h : usS.length ≤ 39 ∧ ∀ j : Nat, j < 39 → ∀ u ∈ usS[j]?, 0 ≤ u ∧ u ≤ (j : Int) := by decide +kernel
  refine ⟨h.1, fun j u hj => ?_⟩
  have hjl : j < 39 := Nat.lt_of_lt_of_le (List.getElem?_eq_some_iff.mp hj).1 h.1
  have := h.2 j hjl u hj
  omega
theorem bestC {os : List (List Int)} {ms : List Int} (hB : BestR usC os ms) : at0 ms 0 = 39 := by
  have hl : usC.length = 39 := by decide +kernel
  have h : ∀ k : Nat, k ≤ 39 → at0 ms ((39 - k : Nat) : Int) = k := by
    intro k
    induction k with
    | zero =>
      intro _
      exact hB.leaf (p := 39) (by rw [hl]; decide) (by decide +kernel)
    | succ k ih =>
      intro hk
      have e : ∀ p < 39, rowOf usC ((p : Nat) : Int) = [(p : Int) + 1] := by decide +kernel
      have e := e (39 - (k + 1)) (by omega)
      have := hB.flat (p := 39 - (k + 1)) (z := k) (by omega) (by rw [e]; simp) (by
        rw [e]
        intro c hc
        rw [List.mem_singleton.mp hc, ← ih (by omega)]
        congr 1
        omega)
      rw [e] at this
      simp only [List.length_cons, List.length_nil] at this
      rw [this]
      omega
  exact h 39 (Nat.le_refl _)
theorem bestS {os : List (List Int)} {ms : List Int} (hB : BestR usS os ms) : at0 ms 0 = 39 := by
  have hl : usS.length = 39 := by decide +kernel
  have e : ∀ p < 40, 0 < p → rowOf usS ((p : Nat) : Int) = [] := by decide +kernel
  have e0 : (rowOf usS ((0 : Nat) : Int)).length = 39 := by decide +kernel
  have := hB.flat (p := 0) (z := 0) (by omega) (fun z => by rw [z] at e0; cases e0) (fun c hc => by
    have := rowOf_mem goodS hc
    have := hB.leaf (p := c.toNat) (by omega) (e c.toNat (by omega) (by omega))
    rw [show ((c.toNat : Nat) : Int) = c by omega] at this
    exact this)
  rw [e0] at this
  exact this
section
variable {P : Program} {w : World} {K : PySem.W.Frag} {mg : Str → Option Value} {base : Heap} {A : Adr}
theorem sc_law : FnScope ["_law_script", "_law_by", "_law_found", "_law_ups_here"] ["_law_script"] (defScope s_law) := ⟨rfl, rfl, rfl, by decide +kernel, rfl, by decide +kernel, by decide +kernel⟩
theorem ok_law (T : Txt K mg A) (kb : K.In base) (B : BmOk mg base) : FnOk P w K mg base CX0 9 A.f_law A.d_law ["_law_script"] (spLawG K [A.P_longest_first] [A.P_are_shown]) := by
  have G_law_ups := ok_law_ups (P := P) (w := w) (base := base) T
  have G_law_right := ok_law_right (P := P) (w := w) T kb B
  have G_fewest := ok_fewest (P := P) (w := w) T kb B
  refine T.f_law.ok sc_law (fun vs H Q E h => ?_) (fun cdv A' outer s H vs Q E hr h => ?_)
  · obtain ⟨a, ns, rfl, _⟩ := h
    rfl
  · obtain ⟨a, ns, rfl, hS, hlen, hts, hgs, k⟩ := h
    have hTab : TabOk H A.P_longest_first lamQ := ⟨[], hts _ (by simp), by simp⟩
    have hP : H A.P_are_shown = some (tabX A.P_are_shown) := hgs _ (by simp)
    refine ⟨_, (pss_cons (ps_for PassesOwn.never rfl (pi_range1 (by rfl) T.n_range (@pa_cons _ _ _ _ _ pe_int pa_nil (by rfl))) (pg_name (i := 1) sc_law.nd rfl (Or.inl rfl)) (pss_cons (ps_set (i := 3) sc_law.nd rfl (Or.inl rfl) (pe_call G_law_ups (hr.mono (by decide)) (by rfl) T.m_law_ups T.k_law_ups T.b_law_ups .nil pass0 (@pa_cons _ _ _ _ _ (pv 0) (@pa_cons _ _ _ _ _ (pv 1) (@pa_cons _ _ _ _ _ pe_int pa_nil (by rfl)) (by rfl)) (by rfl))))
      (pss_one (ps_if (pt_not (pt_val (pe_call G_law_right (hr.mono (by decide)) (by rfl) T.m_law_right T.k_law_right T.b_law_right .nil pass0 (@pa_cons _ _ _ _ _ (pv 3) (@pa_cons _ _ _ _ _ (@pe_lst _ _ _ _ (@pa_cons _ _ _ _ _ (pe_slice (sl_listK K) (pv 3) po_none (po_some (pe_un un_neg pe_int))) (@pa_cons _ _ _ _ _ (pe_ifExp (pt_cmpR op_lt (pe_callB (call_len_seqK K) (by rfl) T.n_len PySem.boot_len (@pa_cons _ _ _ _ _ (pv 3) pa_nil (by rfl))) pe_int (nomark _)) (pe_op op_cat (pv 3) (@pe_lst _ _ _ _ (@pa_cons _ _ _ _ _ pe_int pa_nil (by rfl)))) (@pe_lst _ _ _ _ pa_nil)) (@pa_cons _ _ _ _ _ (pe_call G_law_ups (hr.mono (by decide)) (by rfl) T.m_law_ups T.k_law_ups T.b_law_ups .nil pass0 (@pa_cons _ _ _ _ _ (pv 0) (@pa_cons _ _ _ _ _ (pe_op op_add (pv 1) pe_int) (@pa_cons _ _ _ _ _ pe_int pa_nil (by rfl)) (by rfl)) (by rfl))) pa_nil (by rfl)) (by rfl)) (by rfl))) pa_nil (by rfl)) (by rfl))))) (pss_one (ps_ret pe_bl)) pss_nil))))
      (pss_cons (ps_set (i := 2) sc_law.nd rfl (Or.inl rfl) (pe_call G_fewest (hr.mono (by decide)) (by rfl) T.m_fewest T.k_fewest T.b_fewest .nil pass0 (@pa_cons _ _ _ _ _ (@pe_lst _ _ _ _ (@pa_cons _ _ _ _ _ pe_int (@pa_cons _ _ _ _ _ pe_int (@pa_cons _ _ _ _ _ pe_int (@pa_cons _ _ _ _ _ pe_int (@pa_cons _ _ _ _ _ pe_int (@pa_cons _ _ _ _ _ pe_int pa_nil (by rfl)) (by rfl)) (by rfl)) (by rfl)) (by rfl)) (by rfl))) pa_nil (by rfl))))
      (pss_cons (ps_if (PW.pt (pw_or (pt_cmpR op_ne (pe_ix (ix_listK K) (pe_fldK K (pv 2) rfl) pe_int (fun _ _ => rfl)) pe_int (nomark _)) (pw_or1 (pt_cmpR (op_neDK K hr.units) (pe_ix (ix_listK K) (pe_fldK K (pv 2) rfl) pe_int (fun _ _ => rfl)) (@pe_lst _ _ _ _ (@pa_cons _ _ _ _ _ pe_int (@pa_cons _ _ _ _ _ pe_int (@pa_cons _ _ _ _ _ pe_int pa_nil (by rfl)) (by rfl)) (by rfl))) (nomark _))))) (pss_one (ps_ret pe_bl)) pss_nil)
      (pss_one (ps_ret (pe_and (pe_cmpR (op_eqDK K hr.units) (pe_fldK K (pe_call G_fewest (hr.mono (by decide)) (by rfl) T.m_fewest T.k_fewest T.b_fewest .nil pass0 (@pa_cons _ _ _ _ _ (@pe_lst _ _ _ _ pa_nil) pa_nil (by rfl))) rfl) (@pe_lst _ _ _ _ (@pa_cons _ _ _ _ _ pe_int pa_nil (by rfl))) (nomark _)) (pe_and (pe_cmpR op_eq (pe_ix (ix_listK K) (pe_fldK K (pe_call G_fewest (hr.mono (by decide)) (by rfl) T.m_fewest T.k_fewest T.b_fewest .nil pass0 (@pa_cons _ _ _ _ _ (pe_listRg1 rfl (by rfl) T.n_list (by rfl) T.n_range (@pa_cons _ _ _ _ _ pe_int pa_nil (by rfl))) pa_nil (by rfl))) rfl) pe_int (fun _ _ => rfl)) pe_int (nomark _)) (pe_one (pe_cmpR op_eq (pe_ix (ix_listK K) (pe_fldK K (pe_call G_fewest (hr.mono (by decide)) (by rfl) T.m_fewest T.k_fewest T.b_fewest .nil pass0 (@pa_cons _ _ _ _ _ (pe_op op_rep (@pe_lst _ _ _ _ (@pa_cons _ _ _ _ _ pe_int pa_nil (by rfl))) pe_int) pa_nil (by rfl))) rfl) pe_int (fun _ _ => rfl)) pe_int (nomark _)))))))))), ?_⟩
    refine ⟨3, rfl, by decide, by decide, ?_⟩
    refine for_range (lo := 0) (n := 3) (fun i σ H2 => ∃ (x1 x3 : Option V), σ = [some (.ref a), x1, none, x3] ∧ Gr A.P_longest_first H H2) ⟨none, none, rfl, Gr.of hTab (Same.refl _)⟩ ?_ ?_
    · rintro i σ H2 hi ⟨x1, x3, rfl, g2⟩
      have T2 := g2.tab
      have hS2 := g2.seq hTab hS
      refine ⟨_, rfl, _, rfl, a, ns, _, _, rfl, hS2, hlen, by omega, by omega, by decide, by decide, fun ub us H3 s3 _ hub hul gu => ?_⟩
      refine ⟨_, rfl, _, rfl, _, rfl, _, rfl, ub, _, rfl, SqL.of hub, fun c1 hc1 => ?_⟩
      rw [cut_ints]
      have m4 : Same H3 (upd H3 c1 (.lst (us.dropLast.map V.int))) := Same.new hc1
      have hc14 : (upd H3 c1 (.lst (us.dropLast.map V.int))) c1 = some (.lst (us.dropLast.map V.int)) := upd_same
      generalize upd H3 c1 (.lst (us.dropLast.map V.int)) = H4 at m4 hc14
      refine ⟨_, rfl, ub, _, rfl, .inl (SqL.of (m4 _ _ hub)), _, _, rfl, rfl, _, rfl, ?_⟩
      rw [List.length_map]
      by_cases hl39 : (us.length : Int) < 39
      · rw [decide_eq_true hl39]
        refine iteT ⟨_, rfl, (by show 1 ≤ sizeLine; decide), fun k1 hk1 => ?_⟩
        have m5 : Same H4 (upd H4 k1 (.lst [.int 0])) := Same.new hk1
        have hk15 : (upd H4 k1 (.lst [.int 0])) k1 = some (.lst [.int 0]) := upd_same
        generalize upd H4 k1 (.lst [.int 0]) = H5 at m5 hk15
        refine ⟨ub, k1, _, _, rfl, rfl, (m4.trans m5) _ _ hub, hk15, (by rw [List.length_map]; exact Nat.le_of_lt (small1000 (show us.length + 1 ≤ 1000 by omega))), fun c2 hc2 => ?_⟩
        rw [show us.map V.int ++ [V.int 0] = (us ++ [0]).map V.int by rw [List.map_append]; rfl]
        have m5b : Same H5 (upd H5 c2 (.lst ((us ++ [0]).map V.int))) := Same.new hc2
        have hc25 : (upd H5 c2 (.lst ((us ++ [0]).map V.int))) c2 = some (.lst ((us ++ [0]).map V.int)) := upd_same
        generalize upd H5 c2 (.lst ((us ++ [0]).map V.int)) = H5b at m5b hc25
        have s0 : Same H2 H5b := s3.trans (m4.trans (m5.trans m5b))
        refine ⟨_, rfl, _, rfl, _, _, rfl, rfl, a, ns, _, _, rfl, s0.seq hS2, hlen, by omega, by omega, by decide, by decide, fun ub3 us3 H6 s6 _ hub3 _ gu3 => ?_⟩
        have s3z : Same H3 H6 := m4.trans (m5.trans (m5b.trans s6))
        have s06 := s0.trans s6
        refine ⟨(by show 3 ≤ sizeLine; decide), fun lo hlo => ?_⟩
        have m7 : Same H6 (upd H6 lo (.lst [.ref c1, .ref c2, .ref ub3])) := Same.new hlo
        have hlo7 : (upd H6 lo (.lst [.ref c1, .ref c2, .ref ub3])) lo = some (.lst [.ref c1, .ref c2, .ref ub3]) := upd_same
        generalize upd H6 lo (.lst [.ref c1, .ref c2, .ref ub3]) = H7 at m7 hlo7
        have s07 := s06.trans m7
        have T7 := tab_same T2 s07
        refine ⟨ub, lo, us, _, rfl, (s3z.trans m7) _ _ hub, gu, hlo7, fun y hy => ?_, T7, s07 _ _ (g2.tabX hTab hP), fun H8 g8 => ⟨true, rfl, iteF ⟨_, _, rfl, (g2.trans (Gr.of T2 s07)).trans g8⟩⟩⟩
        simp only [List.mem_cons, List.not_mem_nil, or_false] at hy
        rcases hy with rfl | rfl | rfl
        · exact ⟨c1, _, rfl, m7 _ _ (s6 _ _ ((m5.trans m5b) _ _ hc14)), gu.init⟩
        · exact ⟨c2, _, rfl, m7 _ _ (s6 _ _ hc25), gu.snoc0 (by omega)⟩
        · exact ⟨ub3, _, rfl, m7 _ _ hub3, gu3⟩
      · rw [decide_eq_false hl39]
        refine iteF ⟨Nat.zero_le _, fun c2 hc2 => ?_⟩
        have m5 : Same H4 (upd H4 c2 (.lst [])) := Same.new hc2
        have hc25 : (upd H4 c2 (.lst [])) c2 = some (.lst []) := upd_same
        generalize upd H4 c2 (.lst []) = H5 at m5 hc25
        have s0 : Same H2 H5 := s3.trans (m4.trans m5)
        refine ⟨_, rfl, _, rfl, _, _, rfl, rfl, a, ns, _, _, rfl, s0.seq hS2, hlen, by omega, by omega, by decide, by decide, fun ub3 us3 H6 s6 _ hub3 _ gu3 => ?_⟩
        have s3z : Same H3 H6 := m4.trans (m5.trans s6)
        have s06 := s0.trans s6
        refine ⟨(by show 3 ≤ sizeLine; decide), fun lo hlo => ?_⟩
        have m7 : Same H6 (upd H6 lo (.lst [.ref c1, .ref c2, .ref ub3])) := Same.new hlo
        have hlo7 : (upd H6 lo (.lst [.ref c1, .ref c2, .ref ub3])) lo = some (.lst [.ref c1, .ref c2, .ref ub3]) := upd_same
        generalize upd H6 lo (.lst [.ref c1, .ref c2, .ref ub3]) = H7 at m7 hlo7
        have s07 := s06.trans m7
        have T7 := tab_same T2 s07
        refine ⟨ub, lo, us, _, rfl, (s3z.trans m7) _ _ hub, gu, hlo7, fun y hy => ?_, T7, s07 _ _ (g2.tabX hTab hP), fun H8 g8 => ⟨true, rfl, iteF ⟨_, _, rfl, (g2.trans (Gr.of T2 s07)).trans g8⟩⟩⟩
        simp only [List.mem_cons, List.not_mem_nil, or_false] at hy
        rcases hy with rfl | rfl | rfl
        · exact ⟨c1, _, rfl, m7 _ _ (s6 _ _ (m5 _ _ hc14)), gu.init⟩
        · exact ⟨c2, [], rfl, m7 _ _ (s6 _ _ hc25), ⟨by decide, fun j u h => by cases h⟩⟩
        · exact ⟨ub3, _, rfl, m7 _ _ hub3, gu3⟩
    · rintro σ H2 ⟨x1, x3, rfl, g2⟩
      refine ⟨(by show 6 ≤ sizeLine; decide), fun l hl => ?_⟩
      have m3 : Same H2 (upd H2 l (.lst [.int 0, .int 0, .int 0, .int 1, .int 1, .int 2])) := Same.new hl
      have hl3 : (upd H2 l (.lst [.int 0, .int 0, .int 0, .int 1, .int 1, .int 2])) l = some (.lst [.int 0, .int 0, .int 0, .int 1, .int 1, .int 2]) := upd_same
      generalize upd H2 l (.lst [.int 0, .int 0, .int 0, .int 1, .int 1, .int 2]) = H3 at m3 hl3
      have g3 := g2.trans (Gr.of g2.tab m3)
      refine ⟨l, us6, rfl, hl3, good6, g3.tab, fun x dx o m rs os ms H4 g4 hx ho hL hm hB => ?_⟩
      have g04 := g3.trans g4
      obtain ⟨e0, er⟩ := best6 hB
      have hlm : ms.length = 7 := hB.lm
      have hlo : os.length = 7 := hB.lo
      have hrl : rs.length = os.length := hL.1
      obtain ⟨r0, hr0⟩ : ∃ r0, rs[0]? = some r0 := ⟨_, List.getElem?_eq_getElem (by omega)⟩
      have hr1 := hL.2 0 r0 _ hr0 er
      refine ⟨_, rfl, x, A.C_Fewest, dx, _, _, rfl, hx, T.cl_Fewest, T.na_Fewest_marks, fld_marks o m, m, _, 0, _, rfl, rfl, SqL.of hm, atI_at0 (by omega), rfl, _, rfl, ?_⟩
      rw [e0]
      refine iteF ?_
      refine ⟨_, rfl, x, A.C_Fewest, dx, _, _, rfl, hx, T.cl_Fewest, T.na_Fewest_orders, fld_orders o m, o, _, 0, .ref r0, rfl, rfl, SqL.of ho, at_of (j := 0) rfl (by rw [List.getElem?_map, hr0]; rfl), (by show 3 ≤ sizeLine; decide), fun l2 hl2 => ?_⟩
      have m5 : Same H4 (upd H4 l2 (.lst [.int 1, .int 2, .int 3])) := Same.new hl2
      have hl25 : (upd H4 l2 (.lst [.int 1, .int 2, .int 3])) l2 = some (.lst [.int 1, .int 2, .int 3]) := upd_same
      generalize upd H4 l2 (.lst [.int 1, .int 2, .int 3]) = H5 at m5 hl25
      refine ⟨_, _, dp_ints (SqL.of (m5 _ _ hr1)), dp_ints (ns := [1, 2, 3]) (SqL.of hl25), shaped_ints _, shaped_ints _, _, rfl, ?_⟩
      rw [eqv_ints, decide_eq_true (show ([1, 2, 3] : List Int) = [1, 2, 3] from rfl)]
      refine iteF ?_
      refine ⟨Nat.zero_le _, fun l3 hl3' => ?_⟩
      have m6 : Same H5 (upd H5 l3 (.lst [])) := Same.new hl3'
      have hl36 : (upd H5 l3 (.lst [])) l3 = some (.lst []) := upd_same
      generalize upd H5 l3 (.lst []) = H6 at m6 hl36
      have g06 := g04.trans (Gr.of g04.tab (m5.trans m6))
      refine ⟨l3, [], rfl, hl36, ⟨by decide, fun j u h => by cases h⟩, g06.tab, fun x1 dx1 o1 m1 rs1 os1 ms1 H7 g7 hx1 ho1 hL1 hm1 hB1 => ?_⟩
      rw [best_nil hB1] at hm1
      have g07 := g06.trans g7
      refine ⟨x1, A.C_Fewest, dx1, _, _, rfl, hx1, T.cl_Fewest, T.na_Fewest_marks, fld_marks o1 m1, (by show 1 ≤ sizeLine; decide), fun l4 hl4 => ?_⟩
      have m8 : Same H7 (upd H7 l4 (.lst [.int 0])) := Same.new hl4
      have hl48 : (upd H7 l4 (.lst [.int 0])) l4 = some (.lst [.int 0]) := upd_same
      generalize upd H7 l4 (.lst [.int 0]) = H8 at m8 hl48
      refine ⟨_, _, dp_ints (SqL.of (m8 _ _ hm1)), dp_ints (ns := [0]) (SqL.of hl48), shaped_ints _, shaped_ints _, ?_⟩
      rw [eqv_ints, decide_eq_true (show ([0] : List Int) = [0] from rfl)]
      refine ⟨true, rfl, iteT ?_⟩
      refine ⟨39, rfl, by decide, by decide, fun l5 hl5 => ?_⟩
      rw [show (rgI 0 (39 : Int).toNat).map V.int = usC.map V.int from rfl]
      have m9 : Same H8 (upd H8 l5 (.lst (usC.map V.int))) := Same.new hl5
      have hl59 : (upd H8 l5 (.lst (usC.map V.int))) l5 = some (.lst (usC.map V.int)) := upd_same
      generalize upd H8 l5 (.lst (usC.map V.int)) = H9 at m9 hl59
      have g09 := g07.trans (Gr.of g07.tab (m8.trans m9))
      refine ⟨l5, usC, rfl, hl59, goodC, g09.tab, fun x2 dx2 o2 m2 rs2 os2 ms2 Ha ga hx2 ho2 hL2 hm2 hB2 => ?_⟩
      have g0a := g09.trans ga
      refine ⟨x2, A.C_Fewest, dx2, _, _, rfl, hx2, T.cl_Fewest, T.na_Fewest_marks, fld_marks o2 m2, m2, _, 0, _, rfl, rfl, SqL.of hm2, atI_at0 (by rw [hB2.lm]; exact Nat.succ_pos _), rfl, ?_⟩
      rw [bestC hB2]
      refine ⟨true, rfl, iteT ?_⟩
      refine ⟨(by show 1 ≤ sizeLine; decide), fun l6 hl6 => ?_⟩
      have mb : Same Ha (upd Ha l6 (.lst [.int 0])) := Same.new hl6
      have hl6b : (upd Ha l6 (.lst [.int 0])) l6 = some (.lst [.int 0]) := upd_same
      generalize upd Ha l6 (.lst [.int 0]) = Hb at mb hl6b
      refine ⟨l6, 39, _, rfl, rfl, hl6b, by decide, by decide, (by show 39 ≤ sizeLine; decide), fun l7 hl7 => ?_⟩
      rw [show (List.replicate (39 : Int).toNat [V.int 0]).flatten = usS.map V.int from by rfl]
      have mc : Same Hb (upd Hb l7 (.lst (usS.map V.int))) := Same.new hl7
      have hl7c : (upd Hb l7 (.lst (usS.map V.int))) l7 = some (.lst (usS.map V.int)) := upd_same
      generalize upd Hb l7 (.lst (usS.map V.int)) = Hc at mc hl7c
      have g0c := g0a.trans (Gr.of g0a.tab (mb.trans mc))
      refine ⟨l7, usS, rfl, hl7c, goodS, g0c.tab, fun x3 dx3 o3 m3 rs3 os3 ms3 Hd gd hx3 ho3 hL3 hm3 hB3 => ?_⟩
      have g0d := g0c.trans gd
      refine ⟨x3, A.C_Fewest, dx3, _, _, rfl, hx3, T.cl_Fewest, T.na_Fewest_marks, fld_marks o3 m3, m3, _, 0, _, rfl, rfl, SqL.of hm3, atI_at0 (by rw [hB3.lm]; exact Nat.succ_pos _), rfl, ?_⟩
      rw [bestS hB3]
      exact k Hd fun P' hP' => g0d.tabX hTab (hgs P' hP')
end
end Toy

namespace Toy
open PySem L2 PyProof.Rows
set_option maxHeartbeats 4000000 in
theorem all_mk {l : PySem.W.OpenLaw} {w : World} {K : PySem.W.Frag} {h : Heap} {mg : Str → Option Value} {fa : Addr}
    {t_MOST_PEOPLE : Tok}
    {c_longest_first P_longest_first : Addr}
    {c_are_shown P_are_shown : Addr}
    {f_is_number : Addr} {od_is_number an_is_number : Option Addr} {sl_is_number : Array (Option Value)} {oc_is_number kV_is_number dc_is_number pm_is_number cd_is_number ct_is_number : Value}
    {f_is_person : Addr} {od_is_person an_is_person : Option Addr} {sl_is_person : Array (Option Value)} {oc_is_person kV_is_person dc_is_person pm_is_person cd_is_person ct_is_person : Value}
    {f_is_ups : Addr} {od_is_ups an_is_ups : Option Addr} {sl_is_ups : Array (Option Value)} {oc_is_ups kV_is_ups dc_is_ups pm_is_ups cd_is_ups ct_is_ups : Value}
    {f_is_orders : Addr} {od_is_orders an_is_orders : Option Addr} {sl_is_orders : Array (Option Value)} {oc_is_orders kV_is_orders dc_is_orders pm_is_orders cd_is_orders ct_is_orders : Value}
    {f_nobody_is_called_twice : Addr} {od_nobody_is_called_twice an_nobody_is_called_twice : Option Addr} {sl_nobody_is_called_twice : Array (Option Value)} {oc_nobody_is_called_twice kV_nobody_is_called_twice dc_nobody_is_called_twice pm_nobody_is_called_twice cd_nobody_is_called_twice ct_nobody_is_called_twice : Value}
    {f_all_are_come_to : Addr} {od_all_are_come_to an_all_are_come_to : Option Addr} {sl_all_are_come_to : Array (Option Value)} {oc_all_are_come_to kV_all_are_come_to dc_all_are_come_to pm_all_are_come_to cd_all_are_come_to ct_all_are_come_to : Value}
    {f_is_absent : Addr} {od_is_absent an_is_absent : Option Addr} {sl_is_absent : Array (Option Value)} {oc_is_absent kV_is_absent dc_is_absent pm_is_absent cd_is_absent ct_is_absent : Value}
    {f_copied : Addr} {od_copied an_copied : Option Addr} {sl_copied : Array (Option Value)} {oc_copied kV_copied dc_copied pm_copied cd_copied ct_copied : Value}
    {f_take_ups : Addr} {od_take_ups an_take_ups : Option Addr} {sl_take_ups : Array (Option Value)} {oc_take_ups kV_take_ups dc_take_ups pm_take_ups cd_take_ups ct_take_ups : Value}
    {f_first_rows : Addr} {od_first_rows an_first_rows : Option Addr} {sl_first_rows : Array (Option Value)} {oc_first_rows kV_first_rows dc_first_rows pm_first_rows cd_first_rows ct_first_rows : Value}
    {f_callers : Addr} {od_callers an_callers : Option Addr} {sl_callers : Array (Option Value)} {oc_callers kV_callers dc_callers pm_callers cd_callers ct_callers : Value}
    {f_next_round : Addr} {od_next_round an_next_round : Option Addr} {sl_next_round : Array (Option Value)} {oc_next_round kV_next_round dc_next_round pm_next_round cd_next_round ct_next_round : Value}
    {f_all_rounds : Addr} {od_all_rounds an_all_rounds : Option Addr} {sl_all_rounds : Array (Option Value)} {oc_all_rounds kV_all_rounds dc_all_rounds pm_all_rounds cd_all_rounds ct_all_rounds : Value}
    {f_first_wrong : Addr} {od_first_wrong an_first_wrong : Option Addr} {sl_first_wrong : Array (Option Value)} {oc_first_wrong kV_first_wrong dc_first_wrong pm_first_wrong cd_first_wrong ct_first_wrong : Value}
    {f_first_unlike : Addr} {od_first_unlike an_first_unlike : Option Addr} {sl_first_unlike : Array (Option Value)} {oc_first_unlike kV_first_unlike dc_first_unlike pm_first_unlike cd_first_unlike ct_first_unlike : Value}
    {f_absent_lists : Addr} {od_absent_lists an_absent_lists : Option Addr} {sl_absent_lists : Array (Option Value)} {oc_absent_lists kV_absent_lists dc_absent_lists pm_absent_lists cd_absent_lists ct_absent_lists : Value}
    {f_worst_absent : Addr} {od_worst_absent an_worst_absent : Option Addr} {sl_worst_absent : Array (Option Value)} {oc_worst_absent kV_worst_absent dc_worst_absent pm_worst_absent cd_worst_absent ct_worst_absent : Value}
    {f_rows_of : Addr} {od_rows_of an_rows_of : Option Addr} {sl_rows_of : Array (Option Value)} {oc_rows_of kV_rows_of dc_rows_of pm_rows_of cd_rows_of ct_rows_of : Value}
    {f_longest_first : Addr} {od_longest_first an_longest_first : Option Addr} {sl_longest_first : Array (Option Value)} {oc_longest_first kV_longest_first dc_longest_first pm_longest_first ct_longest_first : Value}
    {f_rounds_needed : Addr} {od_rounds_needed an_rounds_needed : Option Addr} {sl_rounds_needed : Array (Option Value)} {oc_rounds_needed kV_rounds_needed dc_rounds_needed pm_rounds_needed cd_rounds_needed ct_rounds_needed : Value}
    {f_best_orders : Addr} {od_best_orders an_best_orders : Option Addr} {sl_best_orders : Array (Option Value)} {oc_best_orders kV_best_orders dc_best_orders pm_best_orders cd_best_orders ct_best_orders : Value}
    {f_is_fewest : Addr} {od_is_fewest an_is_fewest : Option Addr} {sl_is_fewest : Array (Option Value)} {oc_is_fewest kV_is_fewest dc_is_fewest pm_is_fewest cd_is_fewest ct_is_fewest : Value}
    {f_are_orders_of : Addr} {od_are_orders_of an_are_orders_of : Option Addr} {sl_are_orders_of : Array (Option Value)} {oc_are_orders_of kV_are_orders_of dc_are_orders_of pm_are_orders_of cd_are_orders_of ct_are_orders_of : Value}
    {f_are_shown : Addr} {od_are_shown an_are_shown : Option Addr} {sl_are_shown : Array (Option Value)} {oc_are_shown kV_are_shown dc_are_shown pm_are_shown ct_are_shown : Value}
    {f_is_shown : Addr} {od_is_shown an_is_shown : Option Addr} {sl_is_shown : Array (Option Value)} {oc_is_shown kV_is_shown dc_is_shown pm_is_shown cd_is_shown ct_is_shown : Value}
    {f_fewest : Addr} {od_fewest an_fewest : Option Addr} {sl_fewest : Array (Option Value)} {oc_fewest kV_fewest dc_fewest pm_fewest cd_fewest ct_fewest : Value}
    {f_law_number : Addr} {od_law_number an_law_number : Option Addr} {sl_law_number : Array (Option Value)} {oc_law_number kV_law_number dc_law_number pm_law_number cd_law_number ct_law_number : Value}
    {f_law_whole : Addr} {od_law_whole an_law_whole : Option Addr} {sl_law_whole : Array (Option Value)} {oc_law_whole kV_law_whole dc_law_whole pm_law_whole cd_law_whole ct_law_whole : Value}
    {f_law_says : Addr} {od_law_says an_law_says : Option Addr} {sl_law_says : Array (Option Value)} {oc_law_says kV_law_says dc_law_says pm_law_says cd_law_says ct_law_says : Value}
    {f_law_ups : Addr} {od_law_ups an_law_ups : Option Addr} {sl_law_ups : Array (Option Value)} {oc_law_ups kV_law_ups dc_law_ups pm_law_ups cd_law_ups ct_law_ups : Value}
    {f_law_called : Addr} {od_law_called an_law_called : Option Addr} {sl_law_called : Array (Option Value)} {oc_law_called kV_law_called dc_law_called pm_law_called cd_law_called ct_law_called : Value}
    {f_law_last : Addr} {od_law_last an_law_last : Option Addr} {sl_law_last : Array (Option Value)} {oc_law_last kV_law_last dc_law_last pm_law_last cd_law_last ct_law_last : Value}
    {f_law_are_marks : Addr} {od_law_are_marks an_law_are_marks : Option Addr} {sl_law_are_marks : Array (Option Value)} {oc_law_are_marks kV_law_are_marks dc_law_are_marks pm_law_are_marks cd_law_are_marks ct_law_are_marks : Value}
    {f_law_is_fewest : Addr} {od_law_is_fewest an_law_is_fewest : Option Addr} {sl_law_is_fewest : Array (Option Value)} {oc_law_is_fewest kV_law_is_fewest dc_law_is_fewest pm_law_is_fewest cd_law_is_fewest ct_law_is_fewest : Value}
    {f_law_told : Addr} {od_law_told an_law_told : Option Addr} {sl_law_told : Array (Option Value)} {oc_law_told kV_law_told dc_law_told pm_law_told cd_law_told ct_law_told : Value}
    {f_law_right : Addr} {od_law_right an_law_right : Option Addr} {sl_law_right : Array (Option Value)} {oc_law_right kV_law_right dc_law_right pm_law_right cd_law_right ct_law_right : Value}
    {f_law : Addr} {od_law an_law : Option Addr} {sl_law : Array (Option Value)} {oc_law kV_law dc_law pm_law cd_law ct_law : Value}
    {C_Answer : Addr}
    {C_Fewest : Addr}
    {C_Right : Addr}
    {C_Wrong : Addr}
    {C_Worst : Addr}
    {f_Fewest_init : Addr} {od_Fewest_init an_Fewest_init : Option Addr} {sl_Fewest_init : Array (Option Value)} {oc_Fewest_init kV_Fewest_init dc_Fewest_init pm_Fewest_init cd_Fewest_init ct_Fewest_init : Value}
    {f_Fewest_shows : Addr} {od_Fewest_shows an_Fewest_shows : Option Addr} {sl_Fewest_shows : Array (Option Value)} {oc_Fewest_shows kV_Fewest_shows dc_Fewest_shows pm_Fewest_shows cd_Fewest_shows ct_Fewest_shows : Value}
    {f_Right_shows : Addr} {od_Right_shows an_Right_shows : Option Addr} {sl_Right_shows : Array (Option Value)} {oc_Right_shows kV_Right_shows dc_Right_shows pm_Right_shows cd_Right_shows ct_Right_shows : Value}
    {f_Wrong_init : Addr} {od_Wrong_init an_Wrong_init : Option Addr} {sl_Wrong_init : Array (Option Value)} {oc_Wrong_init kV_Wrong_init dc_Wrong_init pm_Wrong_init cd_Wrong_init ct_Wrong_init : Value}
    {f_Wrong_shows : Addr} {od_Wrong_shows an_Wrong_shows : Option Addr} {sl_Wrong_shows : Array (Option Value)} {oc_Wrong_shows kV_Wrong_shows dc_Wrong_shows pm_Wrong_shows cd_Wrong_shows ct_Wrong_shows : Value}
    {f_Worst_init : Addr} {od_Worst_init an_Worst_init : Option Addr} {sl_Worst_init : Array (Option Value)} {oc_Worst_init kV_Worst_init dc_Worst_init pm_Worst_init cd_Worst_init ct_Worst_init : Value}
    {f_Worst_shows : Addr} {od_Worst_shows an_Worst_shows : Option Addr} {sl_Worst_shows : Array (Option Value)} {oc_Worst_shows kV_Worst_shows dc_Worst_shows pm_Worst_shows cd_Worst_shows ct_Worst_shows : Value}
    {dd_longest_first : Option Addr} {vs_longest_first : Array Value} {sd_longest_first : Array (Option Value)}
    {dd_are_shown : Option Addr} {vs_are_shown : Array Value} {sd_are_shown : Array (Option Value)}
    (X : K.In h) (G : h.Ns mainGlobals mg) (hfa : mg "law" = some (.ref fa))
    (z_all : PySem.W.nsIn K mainGlobals "all" = some none)
    (z_bool : PySem.W.nsIn K mainGlobals "bool" = some none)
    (z_enumerate : PySem.W.nsIn K mainGlobals "enumerate" = some none)
    (z_int : PySem.W.nsIn K mainGlobals "int" = some none)
    (z_isinstance : PySem.W.nsIn K mainGlobals "isinstance" = some none)
    (z_len : PySem.W.nsIn K mainGlobals "len" = some none)
    (z_list : PySem.W.nsIn K mainGlobals "list" = some none)
    (z_max : PySem.W.nsIn K mainGlobals "max" = some none)
    (z_min : PySem.W.nsIn K mainGlobals "min" = some none)
    (z_range : PySem.W.nsIn K mainGlobals "range" = some none)
    (z_reversed : PySem.W.nsIn K mainGlobals "reversed" = some none)
    (z_set : PySem.W.nsIn K mainGlobals "set" = some none)
    (z_sorted : PySem.W.nsIn K mainGlobals "sorted" = some none)
    (z_sum : PySem.W.nsIn K mainGlobals "sum" = some none)
    (z_zip : PySem.W.nsIn K mainGlobals "zip" = some none)
    (g_MOST_PEOPLE : PySem.W.nsIn K mainGlobals "MOST_PEOPLE" = some (some (.int 40 t_MOST_PEOPLE)))
    (a_is_number : PySem.W.nsIn K mainGlobals "is_number" = some (some (.ref f_is_number)))
    (l_is_number : K.lookup f_is_number = some ⟨oc_is_number, od_is_number, .func (PySem.W.fnOf "is_number" "is_number" (defArgs s_is_number) (defBody s_is_number) (defScope s_is_number) .none kV_is_number dc_is_number pm_is_number an_is_number cd_is_number ct_is_number), sl_is_number⟩)
    (cc_is_number : PySem.W.codeIn K cd_is_number "is_number" = true)
    (k_is_number : PySem.W.keepIn K (.ref f_is_number) = true)
    (a_is_person : PySem.W.nsIn K mainGlobals "is_person" = some (some (.ref f_is_person)))
    (l_is_person : K.lookup f_is_person = some ⟨oc_is_person, od_is_person, .func (PySem.W.fnOf "is_person" "is_person" (defArgs s_is_person) (defBody s_is_person) (defScope s_is_person) .none kV_is_person dc_is_person pm_is_person an_is_person cd_is_person ct_is_person), sl_is_person⟩)
    (cc_is_person : PySem.W.codeIn K cd_is_person "is_person" = true)
    (k_is_person : PySem.W.keepIn K (.ref f_is_person) = true)
    (a_is_ups : PySem.W.nsIn K mainGlobals "is_ups" = some (some (.ref f_is_ups)))
    (l_is_ups : K.lookup f_is_ups = some ⟨oc_is_ups, od_is_ups, .func (PySem.W.fnOf "is_ups" "is_ups" (defArgs s_is_ups) (defBody s_is_ups) (defScope s_is_ups) .none kV_is_ups dc_is_ups pm_is_ups an_is_ups cd_is_ups ct_is_ups), sl_is_ups⟩)
    (cc_is_ups : PySem.W.codeIn K cd_is_ups "is_ups" = true)
    (k_is_ups : PySem.W.keepIn K (.ref f_is_ups) = true)
    (a_is_orders : PySem.W.nsIn K mainGlobals "is_orders" = some (some (.ref f_is_orders)))
    (l_is_orders : K.lookup f_is_orders = some ⟨oc_is_orders, od_is_orders, .func (PySem.W.fnOf "is_orders" "is_orders" (defArgs s_is_orders) (defBody s_is_orders) (defScope s_is_orders) .none kV_is_orders dc_is_orders pm_is_orders an_is_orders cd_is_orders ct_is_orders), sl_is_orders⟩)
    (cc_is_orders : PySem.W.codeIn K cd_is_orders "is_orders" = true)
    (k_is_orders : PySem.W.keepIn K (.ref f_is_orders) = true)
    (a_nobody_is_called_twice : PySem.W.nsIn K mainGlobals "nobody_is_called_twice" = some (some (.ref f_nobody_is_called_twice)))
    (l_nobody_is_called_twice : K.lookup f_nobody_is_called_twice = some ⟨oc_nobody_is_called_twice, od_nobody_is_called_twice, .func (PySem.W.fnOf "nobody_is_called_twice" "nobody_is_called_twice" (defArgs s_nobody_is_called_twice) (defBody s_nobody_is_called_twice) (defScope s_nobody_is_called_twice) .none kV_nobody_is_called_twice dc_nobody_is_called_twice pm_nobody_is_called_twice an_nobody_is_called_twice cd_nobody_is_called_twice ct_nobody_is_called_twice), sl_nobody_is_called_twice⟩)
    (cc_nobody_is_called_twice : PySem.W.codeIn K cd_nobody_is_called_twice "nobody_is_called_twice" = true)
    (k_nobody_is_called_twice : PySem.W.keepIn K (.ref f_nobody_is_called_twice) = true)
    (a_all_are_come_to : PySem.W.nsIn K mainGlobals "all_are_come_to" = some (some (.ref f_all_are_come_to)))
    (l_all_are_come_to : K.lookup f_all_are_come_to = some ⟨oc_all_are_come_to, od_all_are_come_to, .func (PySem.W.fnOf "all_are_come_to" "all_are_come_to" (defArgs s_all_are_come_to) (defBody s_all_are_come_to) (defScope s_all_are_come_to) .none kV_all_are_come_to dc_all_are_come_to pm_all_are_come_to an_all_are_come_to cd_all_are_come_to ct_all_are_come_to), sl_all_are_come_to⟩)
    (cc_all_are_come_to : PySem.W.codeIn K cd_all_are_come_to "all_are_come_to" = true)
    (k_all_are_come_to : PySem.W.keepIn K (.ref f_all_are_come_to) = true)
    (a_is_absent : PySem.W.nsIn K mainGlobals "is_absent" = some (some (.ref f_is_absent)))
    (l_is_absent : K.lookup f_is_absent = some ⟨oc_is_absent, od_is_absent, .func (PySem.W.fnOf "is_absent" "is_absent" (defArgs s_is_absent) (defBody s_is_absent) (defScope s_is_absent) .none kV_is_absent dc_is_absent pm_is_absent an_is_absent cd_is_absent ct_is_absent), sl_is_absent⟩)
    (cc_is_absent : PySem.W.codeIn K cd_is_absent "is_absent" = true)
    (k_is_absent : PySem.W.keepIn K (.ref f_is_absent) = true)
    (a_copied : PySem.W.nsIn K mainGlobals "copied" = some (some (.ref f_copied)))
    (l_copied : K.lookup f_copied = some ⟨oc_copied, od_copied, .func (PySem.W.fnOf "copied" "copied" (defArgs s_copied) (defBody s_copied) (defScope s_copied) .none kV_copied dc_copied pm_copied an_copied cd_copied ct_copied), sl_copied⟩)
    (cc_copied : PySem.W.codeIn K cd_copied "copied" = true)
    (k_copied : PySem.W.keepIn K (.ref f_copied) = true)
    (a_take_ups : PySem.W.nsIn K mainGlobals "take_ups" = some (some (.ref f_take_ups)))
    (l_take_ups : K.lookup f_take_ups = some ⟨oc_take_ups, od_take_ups, .func (PySem.W.fnOf "take_ups" "take_ups" (defArgs s_take_ups) (defBody s_take_ups) (defScope s_take_ups) .none kV_take_ups dc_take_ups pm_take_ups an_take_ups cd_take_ups ct_take_ups), sl_take_ups⟩)
    (cc_take_ups : PySem.W.codeIn K cd_take_ups "take_ups" = true)
    (k_take_ups : PySem.W.keepIn K (.ref f_take_ups) = true)
    (a_first_rows : PySem.W.nsIn K mainGlobals "first_rows" = some (some (.ref f_first_rows)))
    (l_first_rows : K.lookup f_first_rows = some ⟨oc_first_rows, od_first_rows, .func (PySem.W.fnOf "first_rows" "first_rows" (defArgs s_first_rows) (defBody s_first_rows) (defScope s_first_rows) .none kV_first_rows dc_first_rows pm_first_rows an_first_rows cd_first_rows ct_first_rows), sl_first_rows⟩)
    (cc_first_rows : PySem.W.codeIn K cd_first_rows "first_rows" = true)
    (k_first_rows : PySem.W.keepIn K (.ref f_first_rows) = true)
    (a_callers : PySem.W.nsIn K mainGlobals "callers" = some (some (.ref f_callers)))
    (l_callers : K.lookup f_callers = some ⟨oc_callers, od_callers, .func (PySem.W.fnOf "callers" "callers" (defArgs s_callers) (defBody s_callers) (defScope s_callers) .none kV_callers dc_callers pm_callers an_callers cd_callers ct_callers), sl_callers⟩)
    (cc_callers : PySem.W.codeIn K cd_callers "callers" = true)
    (k_callers : PySem.W.keepIn K (.ref f_callers) = true)
    (a_next_round : PySem.W.nsIn K mainGlobals "next_round" = some (some (.ref f_next_round)))
    (l_next_round : K.lookup f_next_round = some ⟨oc_next_round, od_next_round, .func (PySem.W.fnOf "next_round" "next_round" (defArgs s_next_round) (defBody s_next_round) (defScope s_next_round) .none kV_next_round dc_next_round pm_next_round an_next_round cd_next_round ct_next_round), sl_next_round⟩)
    (cc_next_round : PySem.W.codeIn K cd_next_round "next_round" = true)
    (k_next_round : PySem.W.keepIn K (.ref f_next_round) = true)
    (a_all_rounds : PySem.W.nsIn K mainGlobals "all_rounds" = some (some (.ref f_all_rounds)))
    (l_all_rounds : K.lookup f_all_rounds = some ⟨oc_all_rounds, od_all_rounds, .func (PySem.W.fnOf "all_rounds" "all_rounds" (defArgs s_all_rounds) (defBody s_all_rounds) (defScope s_all_rounds) .none kV_all_rounds dc_all_rounds pm_all_rounds an_all_rounds cd_all_rounds ct_all_rounds), sl_all_rounds⟩)
    (cc_all_rounds : PySem.W.codeIn K cd_all_rounds "all_rounds" = true)
    (k_all_rounds : PySem.W.keepIn K (.ref f_all_rounds) = true)
    (a_first_wrong : PySem.W.nsIn K mainGlobals "first_wrong" = some (some (.ref f_first_wrong)))
    (l_first_wrong : K.lookup f_first_wrong = some ⟨oc_first_wrong, od_first_wrong, .func (PySem.W.fnOf "first_wrong" "first_wrong" (defArgs s_first_wrong) (defBody s_first_wrong) (defScope s_first_wrong) .none kV_first_wrong dc_first_wrong pm_first_wrong an_first_wrong cd_first_wrong ct_first_wrong), sl_first_wrong⟩)
    (cc_first_wrong : PySem.W.codeIn K cd_first_wrong "first_wrong" = true)
    (k_first_wrong : PySem.W.keepIn K (.ref f_first_wrong) = true)
    (a_first_unlike : PySem.W.nsIn K mainGlobals "first_unlike" = some (some (.ref f_first_unlike)))
    (l_first_unlike : K.lookup f_first_unlike = some ⟨oc_first_unlike, od_first_unlike, .func (PySem.W.fnOf "first_unlike" "first_unlike" (defArgs s_first_unlike) (defBody s_first_unlike) (defScope s_first_unlike) .none kV_first_unlike dc_first_unlike pm_first_unlike an_first_unlike cd_first_unlike ct_first_unlike), sl_first_unlike⟩)
    (cc_first_unlike : PySem.W.codeIn K cd_first_unlike "first_unlike" = true)
    (k_first_unlike : PySem.W.keepIn K (.ref f_first_unlike) = true)
    (a_absent_lists : PySem.W.nsIn K mainGlobals "absent_lists" = some (some (.ref f_absent_lists)))
    (l_absent_lists : K.lookup f_absent_lists = some ⟨oc_absent_lists, od_absent_lists, .func (PySem.W.fnOf "absent_lists" "absent_lists" (defArgs s_absent_lists) (defBody s_absent_lists) (defScope s_absent_lists) .none kV_absent_lists dc_absent_lists pm_absent_lists an_absent_lists cd_absent_lists ct_absent_lists), sl_absent_lists⟩)
    (cc_absent_lists : PySem.W.codeIn K cd_absent_lists "absent_lists" = true)
    (k_absent_lists : PySem.W.keepIn K (.ref f_absent_lists) = true)
    (a_worst_absent : PySem.W.nsIn K mainGlobals "worst_absent" = some (some (.ref f_worst_absent)))
    (l_worst_absent : K.lookup f_worst_absent = some ⟨oc_worst_absent, od_worst_absent, .func (PySem.W.fnOf "worst_absent" "worst_absent" (defArgs s_worst_absent) (defBody s_worst_absent) (defScope s_worst_absent) .none kV_worst_absent dc_worst_absent pm_worst_absent an_worst_absent cd_worst_absent ct_worst_absent), sl_worst_absent⟩)
    (cc_worst_absent : PySem.W.codeIn K cd_worst_absent "worst_absent" = true)
    (k_worst_absent : PySem.W.keepIn K (.ref f_worst_absent) = true)
    (a_rows_of : PySem.W.nsIn K mainGlobals "rows_of" = some (some (.ref f_rows_of)))
    (l_rows_of : K.lookup f_rows_of = some ⟨oc_rows_of, od_rows_of, .func (PySem.W.fnOf "rows_of" "rows_of" (defArgs s_rows_of) (defBody s_rows_of) (defScope s_rows_of) .none kV_rows_of dc_rows_of pm_rows_of an_rows_of cd_rows_of ct_rows_of), sl_rows_of⟩)
    (cc_rows_of : PySem.W.codeIn K cd_rows_of "rows_of" = true)
    (k_rows_of : PySem.W.keepIn K (.ref f_rows_of) = true)
    (a_longest_first : PySem.W.nsIn K mainGlobals "longest_first" = some (some (.ref f_longest_first)))
    (l_longest_first : K.lookup f_longest_first = some ⟨oc_longest_first, od_longest_first, .func (PySem.W.fnOf "longest_first" "longest_first" (defArgs s_longest_first) (defBody s_longest_first) (defScope s_longest_first) .none kV_longest_first dc_longest_first pm_longest_first an_longest_first (.ref c_longest_first) ct_longest_first), sl_longest_first⟩)
    (cc_longest_first : PySem.W.codeIn K (.ref c_longest_first) "longest_first" = true)
    (k_longest_first : PySem.W.keepIn K (.ref f_longest_first) = true)
    (a_rounds_needed : PySem.W.nsIn K mainGlobals "rounds_needed" = some (some (.ref f_rounds_needed)))
    (l_rounds_needed : K.lookup f_rounds_needed = some ⟨oc_rounds_needed, od_rounds_needed, .func (PySem.W.fnOf "rounds_needed" "rounds_needed" (defArgs s_rounds_needed) (defBody s_rounds_needed) (defScope s_rounds_needed) .none kV_rounds_needed dc_rounds_needed pm_rounds_needed an_rounds_needed cd_rounds_needed ct_rounds_needed), sl_rounds_needed⟩)
    (cc_rounds_needed : PySem.W.codeIn K cd_rounds_needed "rounds_needed" = true)
    (k_rounds_needed : PySem.W.keepIn K (.ref f_rounds_needed) = true)
    (a_best_orders : PySem.W.nsIn K mainGlobals "best_orders" = some (some (.ref f_best_orders)))
    (l_best_orders : K.lookup f_best_orders = some ⟨oc_best_orders, od_best_orders, .func (PySem.W.fnOf "best_orders" "best_orders" (defArgs s_best_orders) (defBody s_best_orders) (defScope s_best_orders) .none kV_best_orders dc_best_orders pm_best_orders an_best_orders cd_best_orders ct_best_orders), sl_best_orders⟩)
    (cc_best_orders : PySem.W.codeIn K cd_best_orders "best_orders" = true)
    (k_best_orders : PySem.W.keepIn K (.ref f_best_orders) = true)
    (a_is_fewest : PySem.W.nsIn K mainGlobals "is_fewest" = some (some (.ref f_is_fewest)))
    (l_is_fewest : K.lookup f_is_fewest = some ⟨oc_is_fewest, od_is_fewest, .func (PySem.W.fnOf "is_fewest" "is_fewest" (defArgs s_is_fewest) (defBody s_is_fewest) (defScope s_is_fewest) .none kV_is_fewest dc_is_fewest pm_is_fewest an_is_fewest cd_is_fewest ct_is_fewest), sl_is_fewest⟩)
    (cc_is_fewest : PySem.W.codeIn K cd_is_fewest "is_fewest" = true)
    (k_is_fewest : PySem.W.keepIn K (.ref f_is_fewest) = true)
    (a_are_orders_of : PySem.W.nsIn K mainGlobals "are_orders_of" = some (some (.ref f_are_orders_of)))
    (l_are_orders_of : K.lookup f_are_orders_of = some ⟨oc_are_orders_of, od_are_orders_of, .func (PySem.W.fnOf "are_orders_of" "are_orders_of" (defArgs s_are_orders_of) (defBody s_are_orders_of) (defScope s_are_orders_of) .none kV_are_orders_of dc_are_orders_of pm_are_orders_of an_are_orders_of cd_are_orders_of ct_are_orders_of), sl_are_orders_of⟩)
    (cc_are_orders_of : PySem.W.codeIn K cd_are_orders_of "are_orders_of" = true)
    (k_are_orders_of : PySem.W.keepIn K (.ref f_are_orders_of) = true)
    (a_are_shown : PySem.W.nsIn K mainGlobals "are_shown" = some (some (.ref f_are_shown)))
    (l_are_shown : K.lookup f_are_shown = some ⟨oc_are_shown, od_are_shown, .func (PySem.W.fnOf "are_shown" "are_shown" (defArgs s_are_shown) (defBody s_are_shown) (defScope s_are_shown) .none kV_are_shown dc_are_shown pm_are_shown an_are_shown (.ref c_are_shown) ct_are_shown), sl_are_shown⟩)
    (cc_are_shown : PySem.W.codeIn K (.ref c_are_shown) "are_shown" = true)
    (k_are_shown : PySem.W.keepIn K (.ref f_are_shown) = true)
    (a_is_shown : PySem.W.nsIn K mainGlobals "is_shown" = some (some (.ref f_is_shown)))
    (l_is_shown : K.lookup f_is_shown = some ⟨oc_is_shown, od_is_shown, .func (PySem.W.fnOf "is_shown" "is_shown" (defArgs s_is_shown) (defBody s_is_shown) (defScope s_is_shown) .none kV_is_shown dc_is_shown pm_is_shown an_is_shown cd_is_shown ct_is_shown), sl_is_shown⟩)
    (cc_is_shown : PySem.W.codeIn K cd_is_shown "is_shown" = true)
    (k_is_shown : PySem.W.keepIn K (.ref f_is_shown) = true)
    (a_fewest : PySem.W.nsIn K mainGlobals "fewest" = some (some (.ref f_fewest)))
    (l_fewest : K.lookup f_fewest = some ⟨oc_fewest, od_fewest, .func (PySem.W.fnOf "fewest" "fewest" (defArgs s_fewest) (defBody s_fewest) (defScope s_fewest) .none kV_fewest dc_fewest pm_fewest an_fewest cd_fewest ct_fewest), sl_fewest⟩)
    (cc_fewest : PySem.W.codeIn K cd_fewest "fewest" = true)
    (k_fewest : PySem.W.keepIn K (.ref f_fewest) = true)
    (a_law_number : PySem.W.nsIn K mainGlobals "_law_number" = some (some (.ref f_law_number)))
    (l_law_number : K.lookup f_law_number = some ⟨oc_law_number, od_law_number, .func (PySem.W.fnOf "_law_number" "_law_number" (defArgs s_law_number) (defBody s_law_number) (defScope s_law_number) .none kV_law_number dc_law_number pm_law_number an_law_number cd_law_number ct_law_number), sl_law_number⟩)
    (cc_law_number : PySem.W.codeIn K cd_law_number "_law_number" = true)
    (k_law_number : PySem.W.keepIn K (.ref f_law_number) = true)
    (a_law_whole : PySem.W.nsIn K mainGlobals "_law_whole" = some (some (.ref f_law_whole)))
    (l_law_whole : K.lookup f_law_whole = some ⟨oc_law_whole, od_law_whole, .func (PySem.W.fnOf "_law_whole" "_law_whole" (defArgs s_law_whole) (defBody s_law_whole) (defScope s_law_whole) .none kV_law_whole dc_law_whole pm_law_whole an_law_whole cd_law_whole ct_law_whole), sl_law_whole⟩)
    (cc_law_whole : PySem.W.codeIn K cd_law_whole "_law_whole" = true)
    (k_law_whole : PySem.W.keepIn K (.ref f_law_whole) = true)
    (a_law_says : PySem.W.nsIn K mainGlobals "_law_says" = some (some (.ref f_law_says)))
    (l_law_says : K.lookup f_law_says = some ⟨oc_law_says, od_law_says, .func (PySem.W.fnOf "_law_says" "_law_says" (defArgs s_law_says) (defBody s_law_says) (defScope s_law_says) .none kV_law_says dc_law_says pm_law_says an_law_says cd_law_says ct_law_says), sl_law_says⟩)
    (cc_law_says : PySem.W.codeIn K cd_law_says "_law_says" = true)
    (k_law_says : PySem.W.keepIn K (.ref f_law_says) = true)
    (a_law_ups : PySem.W.nsIn K mainGlobals "_law_ups" = some (some (.ref f_law_ups)))
    (l_law_ups : K.lookup f_law_ups = some ⟨oc_law_ups, od_law_ups, .func (PySem.W.fnOf "_law_ups" "_law_ups" (defArgs s_law_ups) (defBody s_law_ups) (defScope s_law_ups) .none kV_law_ups dc_law_ups pm_law_ups an_law_ups cd_law_ups ct_law_ups), sl_law_ups⟩)
    (cc_law_ups : PySem.W.codeIn K cd_law_ups "_law_ups" = true)
    (k_law_ups : PySem.W.keepIn K (.ref f_law_ups) = true)
    (a_law_called : PySem.W.nsIn K mainGlobals "_law_called" = some (some (.ref f_law_called)))
    (l_law_called : K.lookup f_law_called = some ⟨oc_law_called, od_law_called, .func (PySem.W.fnOf "_law_called" "_law_called" (defArgs s_law_called) (defBody s_law_called) (defScope s_law_called) .none kV_law_called dc_law_called pm_law_called an_law_called cd_law_called ct_law_called), sl_law_called⟩)
    (cc_law_called : PySem.W.codeIn K cd_law_called "_law_called" = true)
    (k_law_called : PySem.W.keepIn K (.ref f_law_called) = true)
    (a_law_last : PySem.W.nsIn K mainGlobals "_law_last" = some (some (.ref f_law_last)))
    (l_law_last : K.lookup f_law_last = some ⟨oc_law_last, od_law_last, .func (PySem.W.fnOf "_law_last" "_law_last" (defArgs s_law_last) (defBody s_law_last) (defScope s_law_last) .none kV_law_last dc_law_last pm_law_last an_law_last cd_law_last ct_law_last), sl_law_last⟩)
    (cc_law_last : PySem.W.codeIn K cd_law_last "_law_last" = true)
    (k_law_last : PySem.W.keepIn K (.ref f_law_last) = true)
    (a_law_are_marks : PySem.W.nsIn K mainGlobals "_law_are_marks" = some (some (.ref f_law_are_marks)))
    (l_law_are_marks : K.lookup f_law_are_marks = some ⟨oc_law_are_marks, od_law_are_marks, .func (PySem.W.fnOf "_law_are_marks" "_law_are_marks" (defArgs s_law_are_marks) (defBody s_law_are_marks) (defScope s_law_are_marks) .none kV_law_are_marks dc_law_are_marks pm_law_are_marks an_law_are_marks cd_law_are_marks ct_law_are_marks), sl_law_are_marks⟩)
    (cc_law_are_marks : PySem.W.codeIn K cd_law_are_marks "_law_are_marks" = true)
    (k_law_are_marks : PySem.W.keepIn K (.ref f_law_are_marks) = true)
    (a_law_is_fewest : PySem.W.nsIn K mainGlobals "_law_is_fewest" = some (some (.ref f_law_is_fewest)))
    (l_law_is_fewest : K.lookup f_law_is_fewest = some ⟨oc_law_is_fewest, od_law_is_fewest, .func (PySem.W.fnOf "_law_is_fewest" "_law_is_fewest" (defArgs s_law_is_fewest) (defBody s_law_is_fewest) (defScope s_law_is_fewest) .none kV_law_is_fewest dc_law_is_fewest pm_law_is_fewest an_law_is_fewest cd_law_is_fewest ct_law_is_fewest), sl_law_is_fewest⟩)
    (cc_law_is_fewest : PySem.W.codeIn K cd_law_is_fewest "_law_is_fewest" = true)
    (k_law_is_fewest : PySem.W.keepIn K (.ref f_law_is_fewest) = true)
    (a_law_told : PySem.W.nsIn K mainGlobals "_law_told" = some (some (.ref f_law_told)))
    (l_law_told : K.lookup f_law_told = some ⟨oc_law_told, od_law_told, .func (PySem.W.fnOf "_law_told" "_law_told" (defArgs s_law_told) (defBody s_law_told) (defScope s_law_told) .none kV_law_told dc_law_told pm_law_told an_law_told cd_law_told ct_law_told), sl_law_told⟩)
    (cc_law_told : PySem.W.codeIn K cd_law_told "_law_told" = true)
    (k_law_told : PySem.W.keepIn K (.ref f_law_told) = true)
    (a_law_right : PySem.W.nsIn K mainGlobals "_law_right" = some (some (.ref f_law_right)))
    (l_law_right : K.lookup f_law_right = some ⟨oc_law_right, od_law_right, .func (PySem.W.fnOf "_law_right" "_law_right" (defArgs s_law_right) (defBody s_law_right) (defScope s_law_right) .none kV_law_right dc_law_right pm_law_right an_law_right cd_law_right ct_law_right), sl_law_right⟩)
    (cc_law_right : PySem.W.codeIn K cd_law_right "_law_right" = true)
    (k_law_right : PySem.W.keepIn K (.ref f_law_right) = true)
    (a_law : PySem.W.nsIn K mainGlobals "law" = some (some (.ref f_law)))
    (l_law : K.lookup f_law = some ⟨oc_law, od_law, .func (PySem.W.fnOf "law" "law" (defArgs s_law) (defBody s_law) (defScope s_law) .none kV_law dc_law pm_law an_law cd_law ct_law), sl_law⟩)
    (cc_law : PySem.W.codeIn K cd_law "law" = true)
    (k_law : PySem.W.keepIn K (.ref f_law) = true)
    (aC_Answer : PySem.W.nsIn K mainGlobals "Answer" = some (some (.ref C_Answer)))
    (aC_Fewest : PySem.W.nsIn K mainGlobals "Fewest" = some (some (.ref C_Fewest)))
    (aC_Right : PySem.W.nsIn K mainGlobals "Right" = some (some (.ref C_Right)))
    (aC_Wrong : PySem.W.nsIn K mainGlobals "Wrong" = some (some (.ref C_Wrong)))
    (aC_Worst : PySem.W.nsIn K mainGlobals "Worst" = some (some (.ref C_Worst)))
    (a_Fewest_init : PySem.W.findIn K (.ref C_Fewest) "__init__" = some (some (.ref f_Fewest_init)))
    (i_Fewest_init : PySem.W.isFn K (.ref f_Fewest_init) = true)
    (l_Fewest_init : K.lookup f_Fewest_init = some ⟨oc_Fewest_init, od_Fewest_init, .func (PySem.W.fnOf "__init__" "Fewest.__init__" (defArgs s_Fewest_init) (defBody s_Fewest_init) (defScope s_Fewest_init) .none kV_Fewest_init dc_Fewest_init pm_Fewest_init an_Fewest_init cd_Fewest_init ct_Fewest_init), sl_Fewest_init⟩)
    (cc_Fewest_init : PySem.W.codeIn K cd_Fewest_init "Fewest.__init__" = true)
    (k_Fewest_init : PySem.W.keepIn K (.ref f_Fewest_init) = true)
    (a_Fewest_shows : PySem.W.findIn K (.ref C_Fewest) "shows" = some (some (.ref f_Fewest_shows)))
    (i_Fewest_shows : PySem.W.isFn K (.ref f_Fewest_shows) = true)
    (l_Fewest_shows : K.lookup f_Fewest_shows = some ⟨oc_Fewest_shows, od_Fewest_shows, .func (PySem.W.fnOf "shows" "Fewest.shows" (defArgs s_Fewest_shows) (defBody s_Fewest_shows) (defScope s_Fewest_shows) .none kV_Fewest_shows dc_Fewest_shows pm_Fewest_shows an_Fewest_shows cd_Fewest_shows ct_Fewest_shows), sl_Fewest_shows⟩)
    (cc_Fewest_shows : PySem.W.codeIn K cd_Fewest_shows "Fewest.shows" = true)
    (k_Fewest_shows : PySem.W.keepIn K (.ref f_Fewest_shows) = true)
    (a_Right_shows : PySem.W.findIn K (.ref C_Right) "shows" = some (some (.ref f_Right_shows)))
    (i_Right_shows : PySem.W.isFn K (.ref f_Right_shows) = true)
    (l_Right_shows : K.lookup f_Right_shows = some ⟨oc_Right_shows, od_Right_shows, .func (PySem.W.fnOf "shows" "Right.shows" (defArgs s_Right_shows) (defBody s_Right_shows) (defScope s_Right_shows) .none kV_Right_shows dc_Right_shows pm_Right_shows an_Right_shows cd_Right_shows ct_Right_shows), sl_Right_shows⟩)
    (cc_Right_shows : PySem.W.codeIn K cd_Right_shows "Right.shows" = true)
    (k_Right_shows : PySem.W.keepIn K (.ref f_Right_shows) = true)
    (a_Wrong_init : PySem.W.findIn K (.ref C_Wrong) "__init__" = some (some (.ref f_Wrong_init)))
    (i_Wrong_init : PySem.W.isFn K (.ref f_Wrong_init) = true)
    (l_Wrong_init : K.lookup f_Wrong_init = some ⟨oc_Wrong_init, od_Wrong_init, .func (PySem.W.fnOf "__init__" "Wrong.__init__" (defArgs s_Wrong_init) (defBody s_Wrong_init) (defScope s_Wrong_init) .none kV_Wrong_init dc_Wrong_init pm_Wrong_init an_Wrong_init cd_Wrong_init ct_Wrong_init), sl_Wrong_init⟩)
    (cc_Wrong_init : PySem.W.codeIn K cd_Wrong_init "Wrong.__init__" = true)
    (k_Wrong_init : PySem.W.keepIn K (.ref f_Wrong_init) = true)
    (a_Wrong_shows : PySem.W.findIn K (.ref C_Wrong) "shows" = some (some (.ref f_Wrong_shows)))
    (i_Wrong_shows : PySem.W.isFn K (.ref f_Wrong_shows) = true)
    (l_Wrong_shows : K.lookup f_Wrong_shows = some ⟨oc_Wrong_shows, od_Wrong_shows, .func (PySem.W.fnOf "shows" "Wrong.shows" (defArgs s_Wrong_shows) (defBody s_Wrong_shows) (defScope s_Wrong_shows) .none kV_Wrong_shows dc_Wrong_shows pm_Wrong_shows an_Wrong_shows cd_Wrong_shows ct_Wrong_shows), sl_Wrong_shows⟩)
    (cc_Wrong_shows : PySem.W.codeIn K cd_Wrong_shows "Wrong.shows" = true)
    (k_Wrong_shows : PySem.W.keepIn K (.ref f_Wrong_shows) = true)
    (a_Worst_init : PySem.W.findIn K (.ref C_Worst) "__init__" = some (some (.ref f_Worst_init)))
    (i_Worst_init : PySem.W.isFn K (.ref f_Worst_init) = true)
    (l_Worst_init : K.lookup f_Worst_init = some ⟨oc_Worst_init, od_Worst_init, .func (PySem.W.fnOf "__init__" "Worst.__init__" (defArgs s_Worst_init) (defBody s_Worst_init) (defScope s_Worst_init) .none kV_Worst_init dc_Worst_init pm_Worst_init an_Worst_init cd_Worst_init ct_Worst_init), sl_Worst_init⟩)
    (cc_Worst_init : PySem.W.codeIn K cd_Worst_init "Worst.__init__" = true)
    (k_Worst_init : PySem.W.keepIn K (.ref f_Worst_init) = true)
    (a_Worst_shows : PySem.W.findIn K (.ref C_Worst) "shows" = some (some (.ref f_Worst_shows)))
    (i_Worst_shows : PySem.W.isFn K (.ref f_Worst_shows) = true)
    (l_Worst_shows : K.lookup f_Worst_shows = some ⟨oc_Worst_shows, od_Worst_shows, .func (PySem.W.fnOf "shows" "Worst.shows" (defArgs s_Worst_shows) (defBody s_Worst_shows) (defScope s_Worst_shows) .none kV_Worst_shows dc_Worst_shows pm_Worst_shows an_Worst_shows cd_Worst_shows ct_Worst_shows), sl_Worst_shows⟩)
    (cc_Worst_shows : PySem.W.codeIn K cd_Worst_shows "Worst.shows" = true)
    (k_Worst_shows : PySem.W.keepIn K (.ref f_Worst_shows) = true)
    (tyN : PySem.W.specialIn K (.builtin "object.__class__") "__get__" = some (some (.builtin "getset_descriptor.__get__")))
    (tyK : PySem.W.takesIn K (.builtin "object.__class__") = some true)
    (tyA_Fewest : PySem.W.findIn K (.ref C_Fewest) "__class__" = some (some (.builtin "object.__class__")))
    (tyM_Fewest : PySem.W.mroIn K C_Fewest (.type "object") = some true)
    (ki_Fewest_Answer : PySem.W.kitOne K (.ref C_Fewest) (.ref C_Answer) = some true)
    (ki_Fewest_Fewest : PySem.W.kitOne K (.ref C_Fewest) (.ref C_Fewest) = some true)
    (ki_Fewest_Right : PySem.W.kitOne K (.ref C_Fewest) (.ref C_Right) = some false)
    (ki_Fewest_Worst : PySem.W.kitOne K (.ref C_Fewest) (.ref C_Worst) = some false)
    (ki_Fewest_Wrong : PySem.W.kitOne K (.ref C_Fewest) (.ref C_Wrong) = some false)
    (tyA_Wrong : PySem.W.findIn K (.ref C_Wrong) "__class__" = some (some (.builtin "object.__class__")))
    (tyM_Wrong : PySem.W.mroIn K C_Wrong (.type "object") = some true)
    (ki_Wrong_Answer : PySem.W.kitOne K (.ref C_Wrong) (.ref C_Answer) = some true)
    (ki_Wrong_Fewest : PySem.W.kitOne K (.ref C_Wrong) (.ref C_Fewest) = some false)
    (ki_Wrong_Right : PySem.W.kitOne K (.ref C_Wrong) (.ref C_Right) = some false)
    (ki_Wrong_Worst : PySem.W.kitOne K (.ref C_Wrong) (.ref C_Worst) = some false)
    (ki_Wrong_Wrong : PySem.W.kitOne K (.ref C_Wrong) (.ref C_Wrong) = some true)
    (tyA_Worst : PySem.W.findIn K (.ref C_Worst) "__class__" = some (some (.builtin "object.__class__")))
    (tyM_Worst : PySem.W.mroIn K C_Worst (.type "object") = some true)
    (ki_Worst_Answer : PySem.W.kitOne K (.ref C_Worst) (.ref C_Answer) = some true)
    (ki_Worst_Fewest : PySem.W.kitOne K (.ref C_Worst) (.ref C_Fewest) = some false)
    (ki_Worst_Right : PySem.W.kitOne K (.ref C_Worst) (.ref C_Right) = some false)
    (ki_Worst_Worst : PySem.W.kitOne K (.ref C_Worst) (.ref C_Worst) = some true)
    (ki_Worst_Wrong : PySem.W.kitOne K (.ref C_Worst) (.ref C_Wrong) = some false)
    (pg_Fewest : PySem.W.plainGet K C_Fewest Str.empty = true)
    (hd_Fewest : PySem.W.hasDictIn K C_Fewest = true)
    (po_Fewest : PySem.W.plainOver K C_Fewest = true)
    (sa_Fewest : PySem.W.findIn K (.ref C_Fewest) "__setattr__" = some (some (.builtin "object.__setattr__")))
    (mk_Fewest : PySem.W.makesIn K C_Fewest = true)
    (kc_Fewest : PySem.W.keepIn K (.ref C_Fewest) = true)
    (na_Fewest_orders : PySem.W.findIn K (.ref C_Fewest) "orders" = some none)
    (na_Fewest_marks : PySem.W.findIn K (.ref C_Fewest) "marks" = some none)
    (pg_Wrong : PySem.W.plainGet K C_Wrong Str.empty = true)
    (hd_Wrong : PySem.W.hasDictIn K C_Wrong = true)
    (po_Wrong : PySem.W.plainOver K C_Wrong = true)
    (sa_Wrong : PySem.W.findIn K (.ref C_Wrong) "__setattr__" = some (some (.builtin "object.__setattr__")))
    (mk_Wrong : PySem.W.makesIn K C_Wrong = true)
    (kc_Wrong : PySem.W.keepIn K (.ref C_Wrong) = true)
    (na_Wrong_turn : PySem.W.findIn K (.ref C_Wrong) "turn" = some none)
    (na_Wrong_spot : PySem.W.findIn K (.ref C_Wrong) "spot" = some none)
    (pg_Worst : PySem.W.plainGet K C_Worst Str.empty = true)
    (hd_Worst : PySem.W.hasDictIn K C_Worst = true)
    (po_Worst : PySem.W.plainOver K C_Worst = true)
    (sa_Worst : PySem.W.findIn K (.ref C_Worst) "__setattr__" = some (some (.builtin "object.__setattr__")))
    (mk_Worst : PySem.W.makesIn K C_Worst = true)
    (kc_Worst : PySem.W.keepIn K (.ref C_Worst) = true)
    (na_Worst_absent : PySem.W.findIn K (.ref C_Worst) "absent" = some none)
    (na_Worst_turns : PySem.W.findIn K (.ref C_Worst) "turns" = some none)
    (lc_longest_first : K.lookup c_longest_first = some ⟨.type "code", dd_longest_first, .fields vs_longest_first, sd_longest_first⟩)
    (vp_longest_first : vs_longest_first[11]? = some (.ref P_longest_first))
    (tb_longest_first : PySem.W.tabIn K "longest_first" = some (c_longest_first, P_longest_first))
    (ch_longest_first : PySem.W.codeHdIn K c_longest_first P_longest_first = true)
    (nt_longest_first : K.lookup P_longest_first = none)
    (lc_are_shown : K.lookup c_are_shown = some ⟨.type "code", dd_are_shown, .fields vs_are_shown, sd_are_shown⟩)
    (vp_are_shown : vs_are_shown[11]? = some (.ref P_are_shown))
    (tb_are_shown : PySem.W.tabIn K "are_shown" = some (c_are_shown, P_are_shown))
    (ch_are_shown : PySem.W.codeHdIn K c_are_shown P_are_shown = true)
    (nt_are_shown : K.lookup P_are_shown = none)
    (dj : (([P_are_shown] : List Addr).all fun P => !([P_longest_first] : List Addr).contains P) = true)
    : ∃ (fd : FuncData) (ts gs : List (Addr × Addr)), Paired (fun (y : Str) (q : Addr × Addr) => PySem.W.tabIn K y = some q ∧ K.lookup q.2 = none) ((["longest_first"] : List Str) ++ (["are_shown"] : List Str)) (ts ++ gs) ∧ ((gs.map (·.2)).all fun P => !(ts.map (·.2)).contains P) = true ∧ (∀ (s : Shared) (u : Value), BindsTo s fd ⟨[u], []⟩ [("_law_script", u)]) ∧ ∀ base : Heap, K.In base → base.Ns mainGlobals mg → BmOk mg base → FnOk l.prog w K mg base CX0 9 fa fd ["_law_script"] (spLawG K (ts.map (·.2)) (gs.map (·.2))) := by
  have e := hfa.symm.trans (PySem.W.mg_of X G a_law)
  cases e
  have F_is_number := fun_mk (st := s_is_number) l_is_number cc_is_number k_is_number
  have B_is_number := F_is_number.binds (ps := ["thing"]) fun _ _ _ _ _ _ us hl => match us, hl with | [_], _ => rfl
  have F_is_person := fun_mk (st := s_is_person) l_is_person cc_is_person k_is_person
  have B_is_person := F_is_person.binds (ps := ["thing", "people"]) fun _ _ _ _ _ _ us hl => match us, hl with | [_, _], _ => rfl
  have F_is_ups := fun_mk (st := s_is_ups) l_is_ups cc_is_ups k_is_ups
  have B_is_ups := F_is_ups.binds (ps := ["ups"]) fun _ _ _ _ _ _ us hl => match us, hl with | [_], _ => rfl
  have F_is_orders := fun_mk (st := s_is_orders) l_is_orders cc_is_orders k_is_orders
  have B_is_orders := F_is_orders.binds (ps := ["orders"]) fun _ _ _ _ _ _ us hl => match us, hl with | [_], _ => rfl
  have F_nobody_is_called_twice := fun_mk (st := s_nobody_is_called_twice) l_nobody_is_called_twice cc_nobody_is_called_twice k_nobody_is_called_twice
  have B_nobody_is_called_twice := F_nobody_is_called_twice.binds (ps := ["orders"]) fun _ _ _ _ _ _ us hl => match us, hl with | [_], _ => rfl
  have F_all_are_come_to := fun_mk (st := s_all_are_come_to) l_all_are_come_to cc_all_are_come_to k_all_are_come_to
  have B_all_are_come_to := F_all_are_come_to.binds (ps := ["orders"]) fun _ _ _ _ _ _ us hl => match us, hl with | [_], _ => rfl
  have F_is_absent := fun_mk (st := s_is_absent) l_is_absent cc_is_absent k_is_absent
  have B_is_absent := F_is_absent.binds (ps := ["absent", "people"]) fun _ _ _ _ _ _ us hl => match us, hl with | [_, _], _ => rfl
  have F_copied := fun_mk (st := s_copied) l_copied cc_copied k_copied
  have B_copied := F_copied.binds (ps := ["thing"]) fun _ _ _ _ _ _ us hl => match us, hl with | [_], _ => rfl
  have F_take_ups := fun_mk (st := s_take_ups) l_take_ups cc_take_ups k_take_ups
  have B_take_ups := F_take_ups.binds (ps := ["ups"]) fun _ _ _ _ _ _ us hl => match us, hl with | [_], _ => rfl
  have F_first_rows := fun_mk (st := s_first_rows) l_first_rows cc_first_rows k_first_rows
  have B_first_rows := F_first_rows.binds (ps := ["orders"]) fun _ _ _ _ _ _ us hl => match us, hl with | [_], _ => rfl
  have F_callers := fun_mk (st := s_callers) l_callers cc_callers k_callers
  have B_callers := F_callers.binds (ps := ["rows"]) fun _ _ _ _ _ _ us hl => match us, hl with | [_], _ => rfl
  have F_next_round := fun_mk (st := s_next_round) l_next_round cc_next_round k_next_round
  have B_next_round := F_next_round.binds (ps := ["orders", "rows", "absent"]) fun _ _ _ _ _ _ us hl => match us, hl with | [_, _, _], _ => rfl
  have F_all_rounds := fun_mk (st := s_all_rounds) l_all_rounds cc_all_rounds k_all_rounds
  have B_all_rounds := F_all_rounds.binds (ps := ["orders", "absent"]) fun _ _ _ _ _ _ us hl => match us, hl with | [_, _], _ => rfl
  have F_first_wrong := fun_mk (st := s_first_wrong) l_first_wrong cc_first_wrong k_first_wrong
  have B_first_wrong := F_first_wrong.binds (ps := ["orders", "calls"]) fun _ _ _ _ _ _ us hl => match us, hl with | [_, _], _ => rfl
  have F_first_unlike := fun_mk (st := s_first_unlike) l_first_unlike cc_first_unlike k_first_unlike
  have B_first_unlike := F_first_unlike.binds (ps := ["ones", "others"]) fun _ _ _ _ _ _ us hl => match us, hl with | [_, _], _ => rfl
  have F_absent_lists := fun_mk (st := s_absent_lists) l_absent_lists cc_absent_lists k_absent_lists
  have B_absent_lists := F_absent_lists.binds (ps := ["people", "many"]) fun _ _ _ _ _ _ us hl => match us, hl with | [_, _], _ => rfl
  have F_worst_absent := fun_mk (st := s_worst_absent) l_worst_absent cc_worst_absent k_worst_absent
  have B_worst_absent := F_worst_absent.binds (ps := ["orders", "many"]) fun _ _ _ _ _ _ us hl => match us, hl with | [_, _], _ => rfl
  have F_rows_of := fun_mk (st := s_rows_of) l_rows_of cc_rows_of k_rows_of
  have B_rows_of := F_rows_of.binds (ps := ["ups"]) fun _ _ _ _ _ _ us hl => match us, hl with | [_], _ => rfl
  have F_longest_first := fun_mk (st := s_longest_first) l_longest_first cc_longest_first k_longest_first
  have B_longest_first := F_longest_first.binds (ps := ["row", "marks"]) fun _ _ _ _ _ _ us hl => match us, hl with | [_, _], _ => rfl
  have F_rounds_needed := fun_mk (st := s_rounds_needed) l_rounds_needed cc_rounds_needed k_rounds_needed
  have B_rounds_needed := F_rounds_needed.binds (ps := ["row", "marks"]) fun _ _ _ _ _ _ us hl => match us, hl with | [_, _], _ => rfl
  have F_best_orders := fun_mk (st := s_best_orders) l_best_orders cc_best_orders k_best_orders
  have B_best_orders := F_best_orders.binds (ps := ["ups"]) fun _ _ _ _ _ _ us hl => match us, hl with | [_], _ => rfl
  have F_is_fewest := fun_mk (st := s_is_fewest) l_is_fewest cc_is_fewest k_is_fewest
  have B_is_fewest := F_is_fewest.binds (ps := ["orders", "marks", "ups"]) fun _ _ _ _ _ _ us hl => match us, hl with | [_, _, _], _ => rfl
  have F_are_orders_of := fun_mk (st := s_are_orders_of) l_are_orders_of cc_are_orders_of k_are_orders_of
  have B_are_orders_of := F_are_orders_of.binds (ps := ["orders", "ups"]) fun _ _ _ _ _ _ us hl => match us, hl with | [_, _], _ => rfl
  have F_are_shown := fun_mk (st := s_are_shown) l_are_shown cc_are_shown k_are_shown
  have B_are_shown := F_are_shown.binds (ps := ["marks", "orders"]) fun _ _ _ _ _ _ us hl => match us, hl with | [_, _], _ => rfl
  have F_is_shown := fun_mk (st := s_is_shown) l_is_shown cc_is_shown k_is_shown
  have B_is_shown := F_is_shown.binds (ps := ["mark", "row", "marks"]) fun _ _ _ _ _ _ us hl => match us, hl with | [_, _, _], _ => rfl
  have F_fewest := fun_mk (st := s_fewest) l_fewest cc_fewest k_fewest
  have B_fewest := F_fewest.binds (ps := ["ups"]) fun _ _ _ _ _ _ us hl => match us, hl with | [_], _ => rfl
  have F_law_number := fun_mk (st := s_law_number) l_law_number cc_law_number k_law_number
  have B_law_number := F_law_number.binds (ps := ["_law_cell", "_law_at", "_law_whole_here"]) fun _ _ _ _ _ _ us hl => match us, hl with | [_, _, _], _ => rfl
  have F_law_whole := fun_mk (st := s_law_whole) l_law_whole cc_law_whole k_law_whole
  have B_law_whole := F_law_whole.binds (ps := ["_law_found"]) fun _ _ _ _ _ _ us hl => match us, hl with | [_], _ => rfl
  have F_law_says := fun_mk (st := s_law_says) l_law_says cc_law_says k_law_says
  have B_law_says := F_law_says.binds (ps := ["_law_said", "_law_due"]) fun _ _ _ _ _ _ us hl => match us, hl with | [_, _], _ => rfl
  have F_law_ups := fun_mk (st := s_law_ups) l_law_ups cc_law_ups k_law_ups
  have B_law_ups := F_law_ups.binds (ps := ["_law_script", "_law_by", "_law_most"]) fun _ _ _ _ _ _ us hl => match us, hl with | [_, _, _], _ => rfl
  have F_law_called := fun_mk (st := s_law_called) l_law_called cc_law_called k_law_called
  have B_law_called := F_law_called.binds (ps := ["_law_ups_here"]) fun _ _ _ _ _ _ us hl => match us, hl with | [_], _ => rfl
  have F_law_last := fun_mk (st := s_law_last) l_law_last cc_law_last k_law_last
  have B_law_last := F_law_last.binds (ps := ["_law_orders"]) fun _ _ _ _ _ _ us hl => match us, hl with | [_], _ => rfl
  have F_law_are_marks := fun_mk (st := s_law_are_marks) l_law_are_marks cc_law_are_marks k_law_are_marks
  have B_law_are_marks := F_law_are_marks.binds (ps := ["_law_orders", "_law_marks"]) fun _ _ _ _ _ _ us hl => match us, hl with | [_, _], _ => rfl
  have F_law_is_fewest := fun_mk (st := s_law_is_fewest) l_law_is_fewest cc_law_is_fewest k_law_is_fewest
  have B_law_is_fewest := F_law_is_fewest.binds (ps := ["_law_ups_here", "_law_orders", "_law_marks"]) fun _ _ _ _ _ _ us hl => match us, hl with | [_, _, _], _ => rfl
  have F_law_told := fun_mk (st := s_law_told) l_law_told cc_law_told k_law_told
  have B_law_told := F_law_told.binds (ps := ["_law_found"]) fun _ _ _ _ _ _ us hl => match us, hl with | [_], _ => rfl
  have F_law_right := fun_mk (st := s_law_right) l_law_right cc_law_right k_law_right
  have B_law_right := F_law_right.binds (ps := ["_law_ups_here", "_law_others"]) fun _ _ _ _ _ _ us hl => match us, hl with | [_, _], _ => rfl
  have F_law := fun_mk (st := s_law) l_law cc_law k_law
  have B_law := F_law.binds (ps := ["_law_script"]) fun _ _ _ _ _ _ us hl => match us, hl with | [_], _ => rfl
  have F_Fewest_init := fun_mk (st := s_Fewest_init) l_Fewest_init cc_Fewest_init k_Fewest_init
  have B_Fewest_init := F_Fewest_init.binds (ps := ["self", "orders", "marks"]) fun _ _ _ _ _ _ us hl => match us, hl with | [_, _, _], _ => rfl
  have F_Fewest_shows := fun_mk (st := s_Fewest_shows) l_Fewest_shows cc_Fewest_shows k_Fewest_shows
  have B_Fewest_shows := F_Fewest_shows.binds (ps := ["self", "ups"]) fun _ _ _ _ _ _ us hl => match us, hl with | [_, _], _ => rfl
  have F_Right_shows := fun_mk (st := s_Right_shows) l_Right_shows cc_Right_shows k_Right_shows
  have B_Right_shows := F_Right_shows.binds (ps := ["self", "orders", "calls"]) fun _ _ _ _ _ _ us hl => match us, hl with | [_, _, _], _ => rfl
  have F_Wrong_init := fun_mk (st := s_Wrong_init) l_Wrong_init cc_Wrong_init k_Wrong_init
  have B_Wrong_init := F_Wrong_init.binds (ps := ["self", "turn", "spot"]) fun _ _ _ _ _ _ us hl => match us, hl with | [_, _, _], _ => rfl
  have F_Wrong_shows := fun_mk (st := s_Wrong_shows) l_Wrong_shows cc_Wrong_shows k_Wrong_shows
  have B_Wrong_shows := F_Wrong_shows.binds (ps := ["self", "orders", "calls"]) fun _ _ _ _ _ _ us hl => match us, hl with | [_, _, _], _ => rfl
  have F_Worst_init := fun_mk (st := s_Worst_init) l_Worst_init cc_Worst_init k_Worst_init
  have B_Worst_init := F_Worst_init.binds (ps := ["self", "absent", "turns"]) fun _ _ _ _ _ _ us hl => match us, hl with | [_, _, _], _ => rfl
  have F_Worst_shows := fun_mk (st := s_Worst_shows) l_Worst_shows cc_Worst_shows k_Worst_shows
  have B_Worst_shows := F_Worst_shows.binds (ps := ["self", "orders", "many"]) fun _ _ _ _ _ _ us hl => match us, hl with | [_, _, _], _ => rfl
  have T : Txt K mg ⟨f_is_number, (PySem.W.fnOf "is_number" "is_number" (defArgs s_is_number) (defBody s_is_number) (defScope s_is_number) .none kV_is_number dc_is_number pm_is_number an_is_number cd_is_number ct_is_number), f_is_person, (PySem.W.fnOf "is_person" "is_person" (defArgs s_is_person) (defBody s_is_person) (defScope s_is_person) .none kV_is_person dc_is_person pm_is_person an_is_person cd_is_person ct_is_person), f_is_ups, (PySem.W.fnOf "is_ups" "is_ups" (defArgs s_is_ups) (defBody s_is_ups) (defScope s_is_ups) .none kV_is_ups dc_is_ups pm_is_ups an_is_ups cd_is_ups ct_is_ups), f_is_orders, (PySem.W.fnOf "is_orders" "is_orders" (defArgs s_is_orders) (defBody s_is_orders) (defScope s_is_orders) .none kV_is_orders dc_is_orders pm_is_orders an_is_orders cd_is_orders ct_is_orders), f_nobody_is_called_twice, (PySem.W.fnOf "nobody_is_called_twice" "nobody_is_called_twice" (defArgs s_nobody_is_called_twice) (defBody s_nobody_is_called_twice) (defScope s_nobody_is_called_twice) .none kV_nobody_is_called_twice dc_nobody_is_called_twice pm_nobody_is_called_twice an_nobody_is_called_twice cd_nobody_is_called_twice ct_nobody_is_called_twice), f_all_are_come_to, (PySem.W.fnOf "all_are_come_to" "all_are_come_to" (defArgs s_all_are_come_to) (defBody s_all_are_come_to) (defScope s_all_are_come_to) .none kV_all_are_come_to dc_all_are_come_to pm_all_are_come_to an_all_are_come_to cd_all_are_come_to ct_all_are_come_to), f_is_absent, (PySem.W.fnOf "is_absent" "is_absent" (defArgs s_is_absent) (defBody s_is_absent) (defScope s_is_absent) .none kV_is_absent dc_is_absent pm_is_absent an_is_absent cd_is_absent ct_is_absent), f_copied, (PySem.W.fnOf "copied" "copied" (defArgs s_copied) (defBody s_copied) (defScope s_copied) .none kV_copied dc_copied pm_copied an_copied cd_copied ct_copied), f_take_ups, (PySem.W.fnOf "take_ups" "take_ups" (defArgs s_take_ups) (defBody s_take_ups) (defScope s_take_ups) .none kV_take_ups dc_take_ups pm_take_ups an_take_ups cd_take_ups ct_take_ups), f_first_rows, (PySem.W.fnOf "first_rows" "first_rows" (defArgs s_first_rows) (defBody s_first_rows) (defScope s_first_rows) .none kV_first_rows dc_first_rows pm_first_rows an_first_rows cd_first_rows ct_first_rows), f_callers, (PySem.W.fnOf "callers" "callers" (defArgs s_callers) (defBody s_callers) (defScope s_callers) .none kV_callers dc_callers pm_callers an_callers cd_callers ct_callers), f_next_round, (PySem.W.fnOf "next_round" "next_round" (defArgs s_next_round) (defBody s_next_round) (defScope s_next_round) .none kV_next_round dc_next_round pm_next_round an_next_round cd_next_round ct_next_round), f_all_rounds, (PySem.W.fnOf "all_rounds" "all_rounds" (defArgs s_all_rounds) (defBody s_all_rounds) (defScope s_all_rounds) .none kV_all_rounds dc_all_rounds pm_all_rounds an_all_rounds cd_all_rounds ct_all_rounds), f_first_wrong, (PySem.W.fnOf "first_wrong" "first_wrong" (defArgs s_first_wrong) (defBody s_first_wrong) (defScope s_first_wrong) .none kV_first_wrong dc_first_wrong pm_first_wrong an_first_wrong cd_first_wrong ct_first_wrong), f_first_unlike, (PySem.W.fnOf "first_unlike" "first_unlike" (defArgs s_first_unlike) (defBody s_first_unlike) (defScope s_first_unlike) .none kV_first_unlike dc_first_unlike pm_first_unlike an_first_unlike cd_first_unlike ct_first_unlike), f_absent_lists, (PySem.W.fnOf "absent_lists" "absent_lists" (defArgs s_absent_lists) (defBody s_absent_lists) (defScope s_absent_lists) .none kV_absent_lists dc_absent_lists pm_absent_lists an_absent_lists cd_absent_lists ct_absent_lists), f_worst_absent, (PySem.W.fnOf "worst_absent" "worst_absent" (defArgs s_worst_absent) (defBody s_worst_absent) (defScope s_worst_absent) .none kV_worst_absent dc_worst_absent pm_worst_absent an_worst_absent cd_worst_absent ct_worst_absent), f_rows_of, (PySem.W.fnOf "rows_of" "rows_of" (defArgs s_rows_of) (defBody s_rows_of) (defScope s_rows_of) .none kV_rows_of dc_rows_of pm_rows_of an_rows_of cd_rows_of ct_rows_of), f_longest_first, (PySem.W.fnOf "longest_first" "longest_first" (defArgs s_longest_first) (defBody s_longest_first) (defScope s_longest_first) .none kV_longest_first dc_longest_first pm_longest_first an_longest_first (.ref c_longest_first) ct_longest_first), f_rounds_needed, (PySem.W.fnOf "rounds_needed" "rounds_needed" (defArgs s_rounds_needed) (defBody s_rounds_needed) (defScope s_rounds_needed) .none kV_rounds_needed dc_rounds_needed pm_rounds_needed an_rounds_needed cd_rounds_needed ct_rounds_needed), f_best_orders, (PySem.W.fnOf "best_orders" "best_orders" (defArgs s_best_orders) (defBody s_best_orders) (defScope s_best_orders) .none kV_best_orders dc_best_orders pm_best_orders an_best_orders cd_best_orders ct_best_orders), f_is_fewest, (PySem.W.fnOf "is_fewest" "is_fewest" (defArgs s_is_fewest) (defBody s_is_fewest) (defScope s_is_fewest) .none kV_is_fewest dc_is_fewest pm_is_fewest an_is_fewest cd_is_fewest ct_is_fewest), f_are_orders_of, (PySem.W.fnOf "are_orders_of" "are_orders_of" (defArgs s_are_orders_of) (defBody s_are_orders_of) (defScope s_are_orders_of) .none kV_are_orders_of dc_are_orders_of pm_are_orders_of an_are_orders_of cd_are_orders_of ct_are_orders_of), f_are_shown, (PySem.W.fnOf "are_shown" "are_shown" (defArgs s_are_shown) (defBody s_are_shown) (defScope s_are_shown) .none kV_are_shown dc_are_shown pm_are_shown an_are_shown (.ref c_are_shown) ct_are_shown), f_is_shown, (PySem.W.fnOf "is_shown" "is_shown" (defArgs s_is_shown) (defBody s_is_shown) (defScope s_is_shown) .none kV_is_shown dc_is_shown pm_is_shown an_is_shown cd_is_shown ct_is_shown), f_fewest, (PySem.W.fnOf "fewest" "fewest" (defArgs s_fewest) (defBody s_fewest) (defScope s_fewest) .none kV_fewest dc_fewest pm_fewest an_fewest cd_fewest ct_fewest), f_law_number, (PySem.W.fnOf "_law_number" "_law_number" (defArgs s_law_number) (defBody s_law_number) (defScope s_law_number) .none kV_law_number dc_law_number pm_law_number an_law_number cd_law_number ct_law_number), f_law_whole, (PySem.W.fnOf "_law_whole" "_law_whole" (defArgs s_law_whole) (defBody s_law_whole) (defScope s_law_whole) .none kV_law_whole dc_law_whole pm_law_whole an_law_whole cd_law_whole ct_law_whole), f_law_says, (PySem.W.fnOf "_law_says" "_law_says" (defArgs s_law_says) (defBody s_law_says) (defScope s_law_says) .none kV_law_says dc_law_says pm_law_says an_law_says cd_law_says ct_law_says), f_law_ups, (PySem.W.fnOf "_law_ups" "_law_ups" (defArgs s_law_ups) (defBody s_law_ups) (defScope s_law_ups) .none kV_law_ups dc_law_ups pm_law_ups an_law_ups cd_law_ups ct_law_ups), f_law_called, (PySem.W.fnOf "_law_called" "_law_called" (defArgs s_law_called) (defBody s_law_called) (defScope s_law_called) .none kV_law_called dc_law_called pm_law_called an_law_called cd_law_called ct_law_called), f_law_last, (PySem.W.fnOf "_law_last" "_law_last" (defArgs s_law_last) (defBody s_law_last) (defScope s_law_last) .none kV_law_last dc_law_last pm_law_last an_law_last cd_law_last ct_law_last), f_law_are_marks, (PySem.W.fnOf "_law_are_marks" "_law_are_marks" (defArgs s_law_are_marks) (defBody s_law_are_marks) (defScope s_law_are_marks) .none kV_law_are_marks dc_law_are_marks pm_law_are_marks an_law_are_marks cd_law_are_marks ct_law_are_marks), f_law_is_fewest, (PySem.W.fnOf "_law_is_fewest" "_law_is_fewest" (defArgs s_law_is_fewest) (defBody s_law_is_fewest) (defScope s_law_is_fewest) .none kV_law_is_fewest dc_law_is_fewest pm_law_is_fewest an_law_is_fewest cd_law_is_fewest ct_law_is_fewest), f_law_told, (PySem.W.fnOf "_law_told" "_law_told" (defArgs s_law_told) (defBody s_law_told) (defScope s_law_told) .none kV_law_told dc_law_told pm_law_told an_law_told cd_law_told ct_law_told), f_law_right, (PySem.W.fnOf "_law_right" "_law_right" (defArgs s_law_right) (defBody s_law_right) (defScope s_law_right) .none kV_law_right dc_law_right pm_law_right an_law_right cd_law_right ct_law_right), fa, (PySem.W.fnOf "law" "law" (defArgs s_law) (defBody s_law) (defScope s_law) .none kV_law dc_law pm_law an_law cd_law ct_law), f_Fewest_init, (PySem.W.fnOf "__init__" "Fewest.__init__" (defArgs s_Fewest_init) (defBody s_Fewest_init) (defScope s_Fewest_init) .none kV_Fewest_init dc_Fewest_init pm_Fewest_init an_Fewest_init cd_Fewest_init ct_Fewest_init), f_Fewest_shows, (PySem.W.fnOf "shows" "Fewest.shows" (defArgs s_Fewest_shows) (defBody s_Fewest_shows) (defScope s_Fewest_shows) .none kV_Fewest_shows dc_Fewest_shows pm_Fewest_shows an_Fewest_shows cd_Fewest_shows ct_Fewest_shows), f_Right_shows, (PySem.W.fnOf "shows" "Right.shows" (defArgs s_Right_shows) (defBody s_Right_shows) (defScope s_Right_shows) .none kV_Right_shows dc_Right_shows pm_Right_shows an_Right_shows cd_Right_shows ct_Right_shows), f_Wrong_init, (PySem.W.fnOf "__init__" "Wrong.__init__" (defArgs s_Wrong_init) (defBody s_Wrong_init) (defScope s_Wrong_init) .none kV_Wrong_init dc_Wrong_init pm_Wrong_init an_Wrong_init cd_Wrong_init ct_Wrong_init), f_Wrong_shows, (PySem.W.fnOf "shows" "Wrong.shows" (defArgs s_Wrong_shows) (defBody s_Wrong_shows) (defScope s_Wrong_shows) .none kV_Wrong_shows dc_Wrong_shows pm_Wrong_shows an_Wrong_shows cd_Wrong_shows ct_Wrong_shows), f_Worst_init, (PySem.W.fnOf "__init__" "Worst.__init__" (defArgs s_Worst_init) (defBody s_Worst_init) (defScope s_Worst_init) .none kV_Worst_init dc_Worst_init pm_Worst_init an_Worst_init cd_Worst_init ct_Worst_init), f_Worst_shows, (PySem.W.fnOf "shows" "Worst.shows" (defArgs s_Worst_shows) (defBody s_Worst_shows) (defScope s_Worst_shows) .none kV_Worst_shows dc_Worst_shows pm_Worst_shows an_Worst_shows cd_Worst_shows ct_Worst_shows), fa, fa, C_Answer, C_Fewest, C_Right, C_Wrong, C_Worst, c_longest_first, P_longest_first, c_are_shown, P_are_shown, t_MOST_PEOPLE⟩ := {
    n_all := PySem.W.mg_none_of X G z_all
    n_bool := PySem.W.mg_none_of X G z_bool
    n_enumerate := PySem.W.mg_none_of X G z_enumerate
    n_int := PySem.W.mg_none_of X G z_int
    n_isinstance := PySem.W.mg_none_of X G z_isinstance
    n_len := PySem.W.mg_none_of X G z_len
    n_list := PySem.W.mg_none_of X G z_list
    n_max := PySem.W.mg_none_of X G z_max
    n_min := PySem.W.mg_none_of X G z_min
    n_range := PySem.W.mg_none_of X G z_range
    n_reversed := PySem.W.mg_none_of X G z_reversed
    n_set := PySem.W.mg_none_of X G z_set
    n_sorted := PySem.W.mg_none_of X G z_sorted
    n_sum := PySem.W.mg_none_of X G z_sum
    n_zip := PySem.W.mg_none_of X G z_zip
    g_MOST_PEOPLE := PySem.W.mg_of X G g_MOST_PEOPLE
    f_is_number := F_is_number
    b_is_number := B_is_number
    m_is_number := PySem.W.mg_of X G a_is_number
    k_is_number := k_is_number
    f_is_person := F_is_person
    b_is_person := B_is_person
    m_is_person := PySem.W.mg_of X G a_is_person
    k_is_person := k_is_person
    f_is_ups := F_is_ups
    b_is_ups := B_is_ups
    m_is_ups := PySem.W.mg_of X G a_is_ups
    k_is_ups := k_is_ups
    f_is_orders := F_is_orders
    b_is_orders := B_is_orders
    m_is_orders := PySem.W.mg_of X G a_is_orders
    k_is_orders := k_is_orders
    f_nobody_is_called_twice := F_nobody_is_called_twice
    b_nobody_is_called_twice := B_nobody_is_called_twice
    m_nobody_is_called_twice := PySem.W.mg_of X G a_nobody_is_called_twice
    k_nobody_is_called_twice := k_nobody_is_called_twice
    f_all_are_come_to := F_all_are_come_to
    b_all_are_come_to := B_all_are_come_to
    m_all_are_come_to := PySem.W.mg_of X G a_all_are_come_to
    k_all_are_come_to := k_all_are_come_to
    f_is_absent := F_is_absent
    b_is_absent := B_is_absent
    m_is_absent := PySem.W.mg_of X G a_is_absent
    k_is_absent := k_is_absent
    f_copied := F_copied
    b_copied := B_copied
    m_copied := PySem.W.mg_of X G a_copied
    k_copied := k_copied
    f_take_ups := F_take_ups
    b_take_ups := B_take_ups
    m_take_ups := PySem.W.mg_of X G a_take_ups
    k_take_ups := k_take_ups
    f_first_rows := F_first_rows
    b_first_rows := B_first_rows
    m_first_rows := PySem.W.mg_of X G a_first_rows
    k_first_rows := k_first_rows
    f_callers := F_callers
    b_callers := B_callers
    m_callers := PySem.W.mg_of X G a_callers
    k_callers := k_callers
    f_next_round := F_next_round
    b_next_round := B_next_round
    m_next_round := PySem.W.mg_of X G a_next_round
    k_next_round := k_next_round
    f_all_rounds := F_all_rounds
    b_all_rounds := B_all_rounds
    m_all_rounds := PySem.W.mg_of X G a_all_rounds
    k_all_rounds := k_all_rounds
    f_first_wrong := F_first_wrong
    b_first_wrong := B_first_wrong
    m_first_wrong := PySem.W.mg_of X G a_first_wrong
    k_first_wrong := k_first_wrong
    f_first_unlike := F_first_unlike
    b_first_unlike := B_first_unlike
    m_first_unlike := PySem.W.mg_of X G a_first_unlike
    k_first_unlike := k_first_unlike
    f_absent_lists := F_absent_lists
    b_absent_lists := B_absent_lists
    m_absent_lists := PySem.W.mg_of X G a_absent_lists
    k_absent_lists := k_absent_lists
    f_worst_absent := F_worst_absent
    b_worst_absent := B_worst_absent
    m_worst_absent := PySem.W.mg_of X G a_worst_absent
    k_worst_absent := k_worst_absent
    f_rows_of := F_rows_of
    b_rows_of := B_rows_of
    m_rows_of := PySem.W.mg_of X G a_rows_of
    k_rows_of := k_rows_of
    f_longest_first := F_longest_first
    b_longest_first := B_longest_first
    m_longest_first := PySem.W.mg_of X G a_longest_first
    k_longest_first := k_longest_first
    f_rounds_needed := F_rounds_needed
    b_rounds_needed := B_rounds_needed
    m_rounds_needed := PySem.W.mg_of X G a_rounds_needed
    k_rounds_needed := k_rounds_needed
    f_best_orders := F_best_orders
    b_best_orders := B_best_orders
    m_best_orders := PySem.W.mg_of X G a_best_orders
    k_best_orders := k_best_orders
    f_is_fewest := F_is_fewest
    b_is_fewest := B_is_fewest
    m_is_fewest := PySem.W.mg_of X G a_is_fewest
    k_is_fewest := k_is_fewest
    f_are_orders_of := F_are_orders_of
    b_are_orders_of := B_are_orders_of
    m_are_orders_of := PySem.W.mg_of X G a_are_orders_of
    k_are_orders_of := k_are_orders_of
    f_are_shown := F_are_shown
    b_are_shown := B_are_shown
    m_are_shown := PySem.W.mg_of X G a_are_shown
    k_are_shown := k_are_shown
    f_is_shown := F_is_shown
    b_is_shown := B_is_shown
    m_is_shown := PySem.W.mg_of X G a_is_shown
    k_is_shown := k_is_shown
    f_fewest := F_fewest
    b_fewest := B_fewest
    m_fewest := PySem.W.mg_of X G a_fewest
    k_fewest := k_fewest
    f_law_number := F_law_number
    b_law_number := B_law_number
    m_law_number := PySem.W.mg_of X G a_law_number
    k_law_number := k_law_number
    f_law_whole := F_law_whole
    b_law_whole := B_law_whole
    m_law_whole := PySem.W.mg_of X G a_law_whole
    k_law_whole := k_law_whole
    f_law_says := F_law_says
    b_law_says := B_law_says
    m_law_says := PySem.W.mg_of X G a_law_says
    k_law_says := k_law_says
    f_law_ups := F_law_ups
    b_law_ups := B_law_ups
    m_law_ups := PySem.W.mg_of X G a_law_ups
    k_law_ups := k_law_ups
    f_law_called := F_law_called
    b_law_called := B_law_called
    m_law_called := PySem.W.mg_of X G a_law_called
    k_law_called := k_law_called
    f_law_last := F_law_last
    b_law_last := B_law_last
    m_law_last := PySem.W.mg_of X G a_law_last
    k_law_last := k_law_last
    f_law_are_marks := F_law_are_marks
    b_law_are_marks := B_law_are_marks
    m_law_are_marks := PySem.W.mg_of X G a_law_are_marks
    k_law_are_marks := k_law_are_marks
    f_law_is_fewest := F_law_is_fewest
    b_law_is_fewest := B_law_is_fewest
    m_law_is_fewest := PySem.W.mg_of X G a_law_is_fewest
    k_law_is_fewest := k_law_is_fewest
    f_law_told := F_law_told
    b_law_told := B_law_told
    m_law_told := PySem.W.mg_of X G a_law_told
    k_law_told := k_law_told
    f_law_right := F_law_right
    b_law_right := B_law_right
    m_law_right := PySem.W.mg_of X G a_law_right
    k_law_right := k_law_right
    f_law := F_law
    b_law := B_law
    m_law := PySem.W.mg_of X G a_law
    k_law := k_law
    f_Fewest_init := F_Fewest_init
    b_Fewest_init := B_Fewest_init
    f_Fewest_shows := F_Fewest_shows
    b_Fewest_shows := B_Fewest_shows
    mt_Fewest_shows := ⟨a_Fewest_shows, i_Fewest_shows, k_Fewest_shows⟩
    f_Right_shows := F_Right_shows
    b_Right_shows := B_Right_shows
    mt_Right_shows := ⟨a_Right_shows, i_Right_shows, k_Right_shows⟩
    f_Wrong_init := F_Wrong_init
    b_Wrong_init := B_Wrong_init
    f_Wrong_shows := F_Wrong_shows
    b_Wrong_shows := B_Wrong_shows
    mt_Wrong_shows := ⟨a_Wrong_shows, i_Wrong_shows, k_Wrong_shows⟩
    f_Worst_init := F_Worst_init
    b_Worst_init := B_Worst_init
    f_Worst_shows := F_Worst_shows
    b_Worst_shows := B_Worst_shows
    mt_Worst_shows := ⟨a_Worst_shows, i_Worst_shows, k_Worst_shows⟩
    cl_Fewest := ⟨pg_Fewest, hd_Fewest, po_Fewest, sa_Fewest⟩
    k_Fewest := ⟨mk_Fewest, a_Fewest_init, i_Fewest_init, kc_Fewest⟩
    c_Fewest := PySem.W.mg_of X G aC_Fewest
    na_Fewest_orders := na_Fewest_orders
    na_Fewest_marks := na_Fewest_marks
    cl_Wrong := ⟨pg_Wrong, hd_Wrong, po_Wrong, sa_Wrong⟩
    k_Wrong := ⟨mk_Wrong, a_Wrong_init, i_Wrong_init, kc_Wrong⟩
    c_Wrong := PySem.W.mg_of X G aC_Wrong
    na_Wrong_turn := na_Wrong_turn
    na_Wrong_spot := na_Wrong_spot
    cl_Worst := ⟨pg_Worst, hd_Worst, po_Worst, sa_Worst⟩
    k_Worst := ⟨mk_Worst, a_Worst_init, i_Worst_init, kc_Worst⟩
    c_Worst := PySem.W.mg_of X G aC_Worst
    na_Worst_absent := na_Worst_absent
    na_Worst_turns := na_Worst_turns
    c_Answer := PySem.W.mg_of X G aC_Answer
    c_Right := PySem.W.mg_of X G aC_Right
    tyN := tyN
    tyK := tyK
    tyA_Fewest := tyA_Fewest
    tyM_Fewest := tyM_Fewest
    ki_Fewest_Answer := ki_Fewest_Answer
    ki_Fewest_Fewest := ki_Fewest_Fewest
    ki_Fewest_Right := ki_Fewest_Right
    ki_Fewest_Worst := ki_Fewest_Worst
    ki_Fewest_Wrong := ki_Fewest_Wrong
    tyA_Wrong := tyA_Wrong
    tyM_Wrong := tyM_Wrong
    ki_Wrong_Answer := ki_Wrong_Answer
    ki_Wrong_Fewest := ki_Wrong_Fewest
    ki_Wrong_Right := ki_Wrong_Right
    ki_Wrong_Worst := ki_Wrong_Worst
    ki_Wrong_Wrong := ki_Wrong_Wrong
    tyA_Worst := tyA_Worst
    tyM_Worst := tyM_Worst
    ki_Worst_Answer := ki_Worst_Answer
    ki_Worst_Fewest := ki_Worst_Fewest
    ki_Worst_Right := ki_Worst_Right
    ki_Worst_Worst := ki_Worst_Worst
    ki_Worst_Wrong := ki_Worst_Wrong
    cd_longest_first := rfl
    hd_longest_first := ch_longest_first
    nt_longest_first := nt_longest_first
    cd_are_shown := rfl
    hd_are_shown := ch_are_shown
    nt_are_shown := nt_are_shown }
  exact ⟨_, [(c_longest_first, P_longest_first)], [(c_are_shown, P_are_shown)], (.cons ⟨tb_longest_first, nt_longest_first⟩ (.cons ⟨tb_are_shown, nt_are_shown⟩ .nil)), dj, fun s u => .of_eq rfl, fun base kb nb B => ok_law T kb B⟩
theorem walk {l : PySem.W.OpenLaw} {q : Program} {loose : List Str} {XP : (Str → Option Value) → Heap → Prop} {YP : World → Heap → Prop} {d : DefRec} {K : Params → PySem.W.Frag} (hn : l.most = some 63) (hdf : d.params.defaults = [])
    (hfd : ((["longest_first"] : List Str) ++ (["are_shown"] : List Str)).all (fun y => ((recsOf q).find? fun e => e.name == y).isSome) = true)
    (hY : ∀ (w : World) (h : Heap), YP w h → (K w.params).In h)
    (F : ∀ (w : World) (mg : Str → Option Value) (fa : Addr) (h : Heap), (K w.params).In h → h.Ns mainGlobals mg → mg d.name = some (.ref fa) →
      ∃ (fd : FuncData) (ts gs : List (Addr × Addr)), Paired (fun (y : Str) (q : Addr × Addr) => PySem.W.tabIn (K w.params) y = some q ∧ (K w.params).lookup q.2 = none) ((["longest_first"] : List Str) ++ (["are_shown"] : List Str)) (ts ++ gs) ∧ ((gs.map (·.2)).all fun P => !(ts.map (·.2)).contains P) = true ∧ (∀ (s : Shared) (u : Value), BindsTo s fd ⟨[u], []⟩ [("_law_script", u)]) ∧
        ∀ base : Heap, (K w.params).In base → base.Ns mainGlobals mg → BmOk mg base → FnOk l.prog w (K w.params) mg base CX0 9 fa fd ["_law_script"] (spLawG (K w.params) (ts.map (·.2)) (gs.map (·.2)))) :
    PySem.W.WalkO q loose XP YP l.row.toRowW d [] (fun f vs => PySem.call f vs) :=
  L2.walk_ofG (k := 9) (x := "_law_script") (CX := CX0) (tn := ["longest_first"]) (gn := ["are_shown"]) hn hdf ⟨rfl, by decide, by decide⟩ hfd hY F fun _ _ _ _ z => z
end Toy
open PySem PySem.W PyProof.Rows
set_option maxRecDepth 100000 in
set_option maxHeartbeats 0 in
theorem PySem.Challenge.cw_callchain_k01_whole_fewest_holds : PySem.Challenge.rw_callchain_k01_whole_fewest.Holds := by
  w_on; o_law; k_head; (case hw => w_witness2)
  k_fill
  refine Toy.walk (l := PySem.Challenge.rw_callchain_k01_whole_fewest) rfl rfl (by kernel_rfl) (fun w h Y => by first | exact PySem.W.kIn_of Y | exact PySem.W.km_in_of Y) ?F
  case F =>
    intro w mg fa h KX G hmg
    refine' Toy.all_mk KX G hmg ?z_all ?z_bool ?z_enumerate ?z_int ?z_isinstance ?z_len ?z_list ?z_max ?z_min ?z_range ?z_reversed ?z_set ?z_sorted ?z_sum ?z_zip ?g_MOST_PEOPLE ?a_is_number ?l_is_number ?cc_is_number ?k_is_number ?a_is_person ?l_is_person ?cc_is_person ?k_is_person ?a_is_ups ?l_is_ups ?cc_is_ups ?k_is_ups ?a_is_orders ?l_is_orders ?cc_is_orders ?k_is_orders ?a_nobody_is_called_twice ?l_nobody_is_called_twice ?cc_nobody_is_called_twice ?k_nobody_is_called_twice ?a_all_are_come_to ?l_all_are_come_to ?cc_all_are_come_to ?k_all_are_come_to ?a_is_absent ?l_is_absent ?cc_is_absent ?k_is_absent ?a_copied ?l_copied ?cc_copied ?k_copied ?a_take_ups ?l_take_ups ?cc_take_ups ?k_take_ups ?a_first_rows ?l_first_rows ?cc_first_rows ?k_first_rows ?a_callers ?l_callers ?cc_callers ?k_callers ?a_next_round ?l_next_round ?cc_next_round ?k_next_round ?a_all_rounds ?l_all_rounds ?cc_all_rounds ?k_all_rounds ?a_first_wrong ?l_first_wrong ?cc_first_wrong ?k_first_wrong ?a_first_unlike ?l_first_unlike ?cc_first_unlike ?k_first_unlike ?a_absent_lists ?l_absent_lists ?cc_absent_lists ?k_absent_lists ?a_worst_absent ?l_worst_absent ?cc_worst_absent ?k_worst_absent ?a_rows_of ?l_rows_of ?cc_rows_of ?k_rows_of ?a_longest_first ?l_longest_first ?cc_longest_first ?k_longest_first ?a_rounds_needed ?l_rounds_needed ?cc_rounds_needed ?k_rounds_needed ?a_best_orders ?l_best_orders ?cc_best_orders ?k_best_orders ?a_is_fewest ?l_is_fewest ?cc_is_fewest ?k_is_fewest ?a_are_orders_of ?l_are_orders_of ?cc_are_orders_of ?k_are_orders_of ?a_are_shown ?l_are_shown ?cc_are_shown ?k_are_shown ?a_is_shown ?l_is_shown ?cc_is_shown ?k_is_shown ?a_fewest ?l_fewest ?cc_fewest ?k_fewest ?a_law_number ?l_law_number ?cc_law_number ?k_law_number ?a_law_whole ?l_law_whole ?cc_law_whole ?k_law_whole ?a_law_says ?l_law_says ?cc_law_says ?k_law_says ?a_law_ups ?l_law_ups ?cc_law_ups ?k_law_ups ?a_law_called ?l_law_called ?cc_law_called ?k_law_called ?a_law_last ?l_law_last ?cc_law_last ?k_law_last ?a_law_are_marks ?l_law_are_marks ?cc_law_are_marks ?k_law_are_marks ?a_law_is_fewest ?l_law_is_fewest ?cc_law_is_fewest ?k_law_is_fewest ?a_law_told ?l_law_told ?cc_law_told ?k_law_told ?a_law_right ?l_law_right ?cc_law_right ?k_law_right ?a_law ?l_law ?cc_law ?k_law ?aC_Answer ?aC_Fewest ?aC_Right ?aC_Wrong ?aC_Worst ?a_Fewest_init ?i_Fewest_init ?l_Fewest_init ?cc_Fewest_init ?k_Fewest_init ?a_Fewest_shows ?i_Fewest_shows ?l_Fewest_shows ?cc_Fewest_shows ?k_Fewest_shows ?a_Right_shows ?i_Right_shows ?l_Right_shows ?cc_Right_shows ?k_Right_shows ?a_Wrong_init ?i_Wrong_init ?l_Wrong_init ?cc_Wrong_init ?k_Wrong_init ?a_Wrong_shows ?i_Wrong_shows ?l_Wrong_shows ?cc_Wrong_shows ?k_Wrong_shows ?a_Worst_init ?i_Worst_init ?l_Worst_init ?cc_Worst_init ?k_Worst_init ?a_Worst_shows ?i_Worst_shows ?l_Worst_shows ?cc_Worst_shows ?k_Worst_shows ?tyN ?tyK ?tyA_Fewest ?tyM_Fewest ?ki_Fewest_Answer ?ki_Fewest_Fewest ?ki_Fewest_Right ?ki_Fewest_Worst ?ki_Fewest_Wrong ?tyA_Wrong ?tyM_Wrong ?ki_Wrong_Answer ?ki_Wrong_Fewest ?ki_Wrong_Right ?ki_Wrong_Worst ?ki_Wrong_Wrong ?tyA_Worst ?tyM_Worst ?ki_Worst_Answer ?ki_Worst_Fewest ?ki_Worst_Right ?ki_Worst_Worst ?ki_Worst_Wrong ?pg_Fewest ?hd_Fewest ?po_Fewest ?sa_Fewest ?mk_Fewest ?kc_Fewest ?na_Fewest_orders ?na_Fewest_marks ?pg_Wrong ?hd_Wrong ?po_Wrong ?sa_Wrong ?mk_Wrong ?kc_Wrong ?na_Wrong_turn ?na_Wrong_spot ?pg_Worst ?hd_Worst ?po_Worst ?sa_Worst ?mk_Worst ?kc_Worst ?na_Worst_absent ?na_Worst_turns ?lc_longest_first ?vp_longest_first ?tb_longest_first ?ch_longest_first ?nt_longest_first ?lc_are_shown ?vp_are_shown ?tb_are_shown ?ch_are_shown ?nt_are_shown ?dj
    (case z_all => k_is)
    (case z_bool => k_is)
    (case z_enumerate => k_is)
    (case z_int => k_is)
    (case z_isinstance => k_is)
    (case z_len => k_is)
    (case z_list => k_is)
    (case z_max => k_is)
    (case z_min => k_is)
    (case z_range => k_is)
    (case z_reversed => k_is)
    (case z_set => k_is)
    (case z_sorted => k_is)
    (case z_sum => k_is)
    (case z_zip => k_is)
    (case g_MOST_PEOPLE => k_is)
    (case a_is_number => k_is)
    (case l_is_number => k_is)
    (case cc_is_number => k_is)
    (case k_is_number => k_is)
    (case a_is_person => k_is)
    (case l_is_person => k_is)
    (case cc_is_person => k_is)
    (case k_is_person => k_is)
    (case a_is_ups => k_is)
    (case l_is_ups => k_is)
    (case cc_is_ups => k_is)
    (case k_is_ups => k_is)
    (case a_is_orders => k_is)
    (case l_is_orders => k_is)
    (case cc_is_orders => k_is)
    (case k_is_orders => k_is)
    (case a_nobody_is_called_twice => k_is)
    (case l_nobody_is_called_twice => k_is)
    (case cc_nobody_is_called_twice => k_is)
    (case k_nobody_is_called_twice => k_is)
    (case a_all_are_come_to => k_is)
    (case l_all_are_come_to => k_is)
    (case cc_all_are_come_to => k_is)
    (case k_all_are_come_to => k_is)
    (case a_is_absent => k_is)
    (case l_is_absent => k_is)
    (case cc_is_absent => k_is)
    (case k_is_absent => k_is)
    (case a_copied => k_is)
    (case l_copied => k_is)
    (case cc_copied => k_is)
    (case k_copied => k_is)
    (case a_take_ups => k_is)
    (case l_take_ups => k_is)
    (case cc_take_ups => k_is)
    (case k_take_ups => k_is)
    (case a_first_rows => k_is)
    (case l_first_rows => k_is)
    (case cc_first_rows => k_is)
    (case k_first_rows => k_is)
    (case a_callers => k_is)
    (case l_callers => k_is)
    (case cc_callers => k_is)
    (case k_callers => k_is)
    (case a_next_round => k_is)
    (case l_next_round => k_is)
    (case cc_next_round => k_is)
    (case k_next_round => k_is)
    (case a_all_rounds => k_is)
    (case l_all_rounds => k_is)
    (case cc_all_rounds => k_is)
    (case k_all_rounds => k_is)
    (case a_first_wrong => k_is)
    (case l_first_wrong => k_is)
    (case cc_first_wrong => k_is)
    (case k_first_wrong => k_is)
    (case a_first_unlike => k_is)
    (case l_first_unlike => k_is)
    (case cc_first_unlike => k_is)
    (case k_first_unlike => k_is)
    (case a_absent_lists => k_is)
    (case l_absent_lists => k_is)
    (case cc_absent_lists => k_is)
    (case k_absent_lists => k_is)
    (case a_worst_absent => k_is)
    (case l_worst_absent => k_is)
    (case cc_worst_absent => k_is)
    (case k_worst_absent => k_is)
    (case a_rows_of => k_is)
    (case l_rows_of => k_is)
    (case cc_rows_of => k_is)
    (case k_rows_of => k_is)
    (case a_longest_first => k_is)
    (case l_longest_first => k_is)
    (case cc_longest_first => k_is)
    (case k_longest_first => k_is)
    (case a_rounds_needed => k_is)
    (case l_rounds_needed => k_is)
    (case cc_rounds_needed => k_is)
    (case k_rounds_needed => k_is)
    (case a_best_orders => k_is)
    (case l_best_orders => k_is)
    (case cc_best_orders => k_is)
    (case k_best_orders => k_is)
    (case a_is_fewest => k_is)
    (case l_is_fewest => k_is)
    (case cc_is_fewest => k_is)
    (case k_is_fewest => k_is)
    (case a_are_orders_of => k_is)
    (case l_are_orders_of => k_is)
    (case cc_are_orders_of => k_is)
    (case k_are_orders_of => k_is)
    (case a_are_shown => k_is)
    (case l_are_shown => k_is)
    (case cc_are_shown => k_is)
    (case k_are_shown => k_is)
    (case a_is_shown => k_is)
    (case l_is_shown => k_is)
    (case cc_is_shown => k_is)
    (case k_is_shown => k_is)
    (case a_fewest => k_is)
    (case l_fewest => k_is)
    (case cc_fewest => k_is)
    (case k_fewest => k_is)
    (case a_law_number => k_is)
    (case l_law_number => k_is)
    (case cc_law_number => k_is)
    (case k_law_number => k_is)
    (case a_law_whole => k_is)
    (case l_law_whole => k_is)
    (case cc_law_whole => k_is)
    (case k_law_whole => k_is)
    (case a_law_says => k_is)
    (case l_law_says => k_is)
    (case cc_law_says => k_is)
    (case k_law_says => k_is)
    (case a_law_ups => k_is)
    (case l_law_ups => k_is)
    (case cc_law_ups => k_is)
    (case k_law_ups => k_is)
    (case a_law_called => k_is)
    (case l_law_called => k_is)
    (case cc_law_called => k_is)
    (case k_law_called => k_is)
    (case a_law_last => k_is)
    (case l_law_last => k_is)
    (case cc_law_last => k_is)
    (case k_law_last => k_is)
    (case a_law_are_marks => k_is)
    (case l_law_are_marks => k_is)
    (case cc_law_are_marks => k_is)
    (case k_law_are_marks => k_is)
    (case a_law_is_fewest => k_is)
    (case l_law_is_fewest => k_is)
    (case cc_law_is_fewest => k_is)
    (case k_law_is_fewest => k_is)
    (case a_law_told => k_is)
    (case l_law_told => k_is)
    (case cc_law_told => k_is)
    (case k_law_told => k_is)
    (case a_law_right => k_is)
    (case l_law_right => k_is)
    (case cc_law_right => k_is)
    (case k_law_right => k_is)
    (case a_law => k_is)
    (case l_law => k_is)
    (case cc_law => k_is)
    (case k_law => k_is)
    (case aC_Answer => k_is)
    (case aC_Fewest => k_is)
    (case aC_Right => k_is)
    (case aC_Wrong => k_is)
    (case aC_Worst => k_is)
    (case a_Fewest_init => k_is)
    (case i_Fewest_init => k_is)
    (case l_Fewest_init => k_is)
    (case cc_Fewest_init => k_is)
    (case k_Fewest_init => k_is)
    (case a_Fewest_shows => k_is)
    (case i_Fewest_shows => k_is)
    (case l_Fewest_shows => k_is)
    (case cc_Fewest_shows => k_is)
    (case k_Fewest_shows => k_is)
    (case a_Right_shows => k_is)
    (case i_Right_shows => k_is)
    (case l_Right_shows => k_is)
    (case cc_Right_shows => k_is)
    (case k_Right_shows => k_is)
    (case a_Wrong_init => k_is)
    (case i_Wrong_init => k_is)
    (case l_Wrong_init => k_is)
    (case cc_Wrong_init => k_is)
    (case k_Wrong_init => k_is)
    (case a_Wrong_shows => k_is)
    (case i_Wrong_shows => k_is)
    (case l_Wrong_shows => k_is)
    (case cc_Wrong_shows => k_is)
    (case k_Wrong_shows => k_is)
    (case a_Worst_init => k_is)
    (case i_Worst_init => k_is)
    (case l_Worst_init => k_is)
    (case cc_Worst_init => k_is)
    (case k_Worst_init => k_is)
    (case a_Worst_shows => k_is)
    (case i_Worst_shows => k_is)
    (case l_Worst_shows => k_is)
    (case cc_Worst_shows => k_is)
    (case k_Worst_shows => k_is)
    (case tyN => k_is)
    (case tyK => k_is)
    (case tyA_Fewest => k_is)
    (case tyM_Fewest => k_is)
    (case ki_Fewest_Answer => kernel_rfl)
    (case ki_Fewest_Fewest => kernel_rfl)
    (case ki_Fewest_Right => kernel_rfl)
    (case ki_Fewest_Worst => kernel_rfl)
    (case ki_Fewest_Wrong => kernel_rfl)
    (case tyA_Wrong => k_is)
    (case tyM_Wrong => k_is)
    (case ki_Wrong_Answer => kernel_rfl)
    (case ki_Wrong_Fewest => kernel_rfl)
    (case ki_Wrong_Right => kernel_rfl)
    (case ki_Wrong_Worst => kernel_rfl)
    (case ki_Wrong_Wrong => kernel_rfl)
    (case tyA_Worst => k_is)
    (case tyM_Worst => k_is)
    (case ki_Worst_Answer => kernel_rfl)
    (case ki_Worst_Fewest => kernel_rfl)
    (case ki_Worst_Right => kernel_rfl)
    (case ki_Worst_Worst => kernel_rfl)
    (case ki_Worst_Wrong => kernel_rfl)
    (case pg_Fewest => k_is)
    (case hd_Fewest => k_is)
    (case po_Fewest => k_is)
    (case sa_Fewest => k_is)
    (case mk_Fewest => k_is)
    (case kc_Fewest => k_is)
    (case na_Fewest_orders => k_is)
    (case na_Fewest_marks => k_is)
    (case pg_Wrong => k_is)
    (case hd_Wrong => k_is)
    (case po_Wrong => k_is)
    (case sa_Wrong => k_is)
    (case mk_Wrong => k_is)
    (case kc_Wrong => k_is)
    (case na_Wrong_turn => k_is)
    (case na_Wrong_spot => k_is)
    (case pg_Worst => k_is)
    (case hd_Worst => k_is)
    (case po_Worst => k_is)
    (case sa_Worst => k_is)
    (case mk_Worst => k_is)
    (case kc_Worst => k_is)
    (case na_Worst_absent => k_is)
    (case na_Worst_turns => k_is)
    (case lc_longest_first => k_is)
    (case vp_longest_first => rfl)
    (case tb_longest_first => kernel_rfl)
    (case ch_longest_first => kernel_rfl)
    (case nt_longest_first => kernel_rfl)
    (case lc_are_shown => k_is)
    (case vp_are_shown => rfl)
    (case tb_are_shown => kernel_rfl)
    (case ch_are_shown => kernel_rfl)
    (case nt_are_shown => kernel_rfl)
    (case dj => kernel_rfl)
