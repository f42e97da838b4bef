import PyProof.Rows.All
import Wide.All
import OpenK.AllK
import Wide.FinOn
import KE.RegKIsAll
import PyProof.EqAt
import PyProof.EqKinds
import PyProof.TupleCall
import KE.BitLaws
import PyProof.GenQ
import PyProof.GenArm
import PyProof.TupleOfGen
import PySem.Challenge.RW_tastehouse_k03_names_found
section
def L2.genNames : List PySem.Str := ["is_unfit", "is_cooked_of_any", "are_heights", "all_straight", "straight_of", "tasting_needs", "recipes_from", "others_from", "is_word", "is_rising", "are_tables", "are_needs", "are_words", "are_recipes", "are_tastings", "is_told_list", "is_same", "pots_of_turn", "pot_of", "are_mishaps", "order_of", "is_order_of", "is_turn_of", "choices_of", "many_ahead"]
end

section
set_option Elab.async false
set_option linter.all false
set_option maxRecDepth 100000

namespace L2
open PySem PySem.Spec PyProof.Rows


abbrev Key := Sum Int Str
def keyIs : Key → Value → Bool
  | .inl k, v => Value.isInt k v
  | .inr x, v => Value.isStrOf x v
def keyH (w : World) : Key → Int
  | .inl k => hashInt k
  | .inr x => hashStr w x
theorem keyIs_shape : ∀ {k : Key} {v : Value}, keyIs k v = true → (∃ i t, k = Sum.inl i ∧ v = Value.int i t) ∨ (∃ x t, k = Sum.inr x ∧ v = Value.str x t)
  | .inl i, v, h => by
    obtain ⟨t, e⟩ := Value.isInt_shape (k := i) (v := v) h
    exact .inl ⟨i, t, rfl, e⟩
  | .inr x, v, h => by
    obtain ⟨t, e⟩ := Value.isStrOf_shape (x := x) (v := v) h
    exact .inr ⟨x, t, rfl, e⟩
theorem key_ll (a b : Int) : decide ((Sum.inl a : Key) = Sum.inl b) = (a == b) := by
  by_cases e : a = b
  · subst e; simp
  · have h : ¬ (Sum.inl a : Key) = Sum.inl b := fun q => e (Sum.inl.inj q)
    rw [decide_eq_false h]
    exact (beq_eq_false_iff_ne.mpr e).symm
theorem key_rr (a b : Str) : decide ((Sum.inr a : Key) = Sum.inr b) = decide (a = b) := by
  by_cases e : a = b
  · subst e; simp
  · have h : ¬ (Sum.inr a : Key) = Sum.inr b := fun q => e (Sum.inr.inj q)
    rw [decide_eq_false h, decide_eq_false e]
theorem key_lr (a : Int) (b : Str) : decide ((Sum.inl a : Key) = Sum.inr b) = false := decide_eq_false (fun q => nomatch q)
theorem key_rl (a : Str) (b : Int) : decide ((Sum.inr a : Key) = Sum.inl b) = false := decide_eq_false (fun q => nomatch q)

def mixKind (prog : Program) (w : World) : PySem.KeyKind prog w Key where
  is := keyIs
  hash := keyH w
  inj := fun v a b ha hb => by
    rcases keyIs_shape ha with ⟨i, t, rfl, rfl⟩ | ⟨x, t, rfl, rfl⟩
    · rcases keyIs_shape hb with ⟨j, u, rfl, e⟩ | ⟨y, u, rfl, e⟩
      · injection e with e1 _; rw [e1]
      · exact nomatch e
    · rcases keyIs_shape hb with ⟨j, u, rfl, e⟩ | ⟨y, u, rfl, e⟩
      · exact nomatch e
      · injection e with e1 _; rw [e1]
  byValue := fun k v h => by
    rcases keyIs_shape h with ⟨i, t, rfl, rfl⟩ | ⟨x, t, rfl, rfl⟩ <;> rfl
  pyHash := fun hv h => by
    rcases keyIs_shape hv with ⟨i, t, rfl, rfl⟩ | ⟨x, t, rfl, rfl⟩
    · exact wpAny_pyHash_int h
    · exact wpAny_pyHash_str h
  eqBool := fun hu hv h => by
    rcases keyIs_shape hu with ⟨i, t, rfl, rfl⟩ | ⟨x, t, rfl, rfl⟩
    · rcases keyIs_shape hv with ⟨j, u, rfl, rfl⟩ | ⟨y, u, rfl, rfl⟩
      · rw [key_ll] at h; exact wpAny_eqBool_int h
      · rw [key_lr] at h; exact SeqAt.EqAt.int_str i t y u _ _ _ _ h
    · rcases keyIs_shape hv with ⟨j, u, rfl, rfl⟩ | ⟨y, u, rfl, rfl⟩
      · rw [key_rl] at h; exact SeqAt.EqAt.str_int x t j u _ _ _ _ h
      · rw [key_rr] at h; exact wpAny_eqBool_str h
  «strs» := fun k x t v h => by
    rcases keyIs_shape h with ⟨i, u, rfl, e⟩ | ⟨y, u, rfl, e⟩
    · exact nomatch e
    · injection e with e1 _
      subst e1
      cases v <;> rfl

end L2

namespace L2
open PySem PySem.Spec PyProof.Rows


inductive V where
  | non | bl (b : Bool) | int (i : Int) | str (x : Str) | byt (b : Array UInt8) | flt (b : UInt64) | ref (a : Addr) | ty (n : String)
  deriving DecidableEq

def RelV : V → Value → Prop
  | .non, u => u = Value.none
  | .bl b, u => u = Value.bool b
  | .int i, u => ∃ t, u = Value.int i t
  | .str x, u => ∃ t, u = Value.str x t
  | .byt b, u => ∃ t, u = Value.bytes b t
  | .flt b, u => ∃ t, u = Value.float b t
  | .ref a, u => u = Value.ref a
  | .ty n, u => u = Value.type n

abbrev Vals : List V → List Value → Prop := Paired RelV
theorem Vals.length {xs : List V} {us : List Value} (r : Vals xs us) : xs.length = us.length := Paired.length r
theorem Vals.get : ∀ {xs : List V} {us : List Value} {i : Nat} {x : V}, Vals xs us → xs[i]? = some x → ∃ u, us[i]? = some u ∧ RelV x u
  | _, _, _, _, .nil, e => by simp at e
  | _, _, 0, _, .cons r _, e => by simp at e; subst e; exact ⟨_, rfl, r⟩
  | _, _, i + 1, x, .cons _ t, e => by
    obtain ⟨u, h1, h2⟩ := Vals.get (i := i) (x := x) t (by simpa using e)
    exact ⟨u, by simpa using h1, h2⟩
theorem Vals.set {x : V} {u : Value} (r : RelV x u) : ∀ {xs : List V} {us : List Value} (i : Nat), Vals xs us → Vals (xs.set i x) (us.set i u)
  | _, _, _, .nil => .nil
  | _, _, 0, .cons _ t => .cons r t
  | _, _, i + 1, .cons q t => .cons q (Vals.set r i t)
theorem Vals.append : ∀ {xs ys : List V} {us ws : List Value}, Vals xs us → Vals ys ws → Vals (xs ++ ys) (us ++ ws)
  | _, _, _, _, .nil, s => s
  | _, _, _, _, .cons r t, s => .cons r (Vals.append t s)
theorem Vals.take : ∀ {xs : List V} {us : List Value} (n : Nat), Vals xs us → Vals (xs.take n) (us.take n)
  | _, _, 0, _ => .nil
  | _, _, _ + 1, .nil => .nil
  | _, _, n + 1, .cons r t => .cons r (Vals.take n t)
theorem Vals.drop : ∀ {xs : List V} {us : List Value} (n : Nat), Vals xs us → Vals (xs.drop n) (us.drop n)
  | _, _, 0, r => r
  | _, _, _ + 1, .nil => .nil
  | _, _, n + 1, .cons _ t => Vals.drop n t
def RelO : Option V → Option Value → Prop
  | some v, some u => RelV v u
  | none, none => True
  | _, _ => False
def KV {κ : Type} : List (κ × V) → List (κ × Value) → Prop := Paired fun (p : κ × V) (q : κ × Value) => p.1 = q.1 ∧ RelV p.2 q.2


def kV : Key → V
  | .inl i => .int i
  | .inr x => .str x


inductive HO where
  
  | lst (xs : List V)
  
  | tup (xs : List V)
  
  | dK (kvs : List (Key × V)) | dT (kvs : List (List Key × V))
  
  | set (S : Int → Bool) (n : Nat)
  
  | ins (C dx : Addr) (fs : List (Str × V))
  
  | own (x : Addr)
  
  | xd (fs : List (Str × V))
  
  | met (f x : Addr)
  
  | rng (lo hi : Int)
  
  | frz (o : Obj) (u : HO)
  
  | tbl (ps : Array Value)
  
  | ext (φ : Heap → Prop)

abbrev Hp := Addr → Option HO
def upd (H : Hp) (a : Addr) (o : HO) : Hp := fun b => if b = a then some o else H b
theorem upd_same {H : Hp} {a : Addr} {o : HO} : upd H a o a = some o := by unfold upd; rw [if_pos rfl]
theorem upd_ne {H : Hp} {a b : Addr} {o : HO} (h : b ≠ a) : upd H a o b = H b := by unfold upd; rw [if_neg h]
theorem ne_of_none {H : Hp} {a b : Addr} {o : HO} (h : H a = some o) (h' : H b = none) : a ≠ b := by
  intro e; subst e; rw [h] at h'; cases h'

section
variable (P : Program) (w : World)
def ObjOk (H : Hp) (h : Heap) (a : Addr) : HO → Prop
  | .lst xs => xs.length ≤ sizeLine ∧ ∃ (its : List Value) (n : Nat), Vals xs its ∧ h.get? a = some { cls := .type "list", data := .seq its.toArray n }
  | .tup xs => xs.length ≤ sizeLine ∧ ∃ its : List Value, Vals xs its ∧ IsTup h a its.toArray
  | .dK kvs => kvs.length ≤ sizeLine ∧ (a == sysModules) = false ∧ ∃ vs, KV kvs vs ∧ h.DictOf (mixKind P w) a vs
  | .dT kvs => kvs.length ≤ sizeLine ∧ (a == sysModules) = false ∧ ∃ xs : List (List Key × Addr × Value),
      Paired (fun (p : List Key × V) (q : List Key × Addr × Value) => p.1 = q.1 ∧ H q.2.1 = some (.tup (p.1.map kV)) ∧ RelV p.2 q.2.2) kvs xs ∧
      ∃ o es ep, h.get? a = some o ∧ o.ExactDict ∧ o.data = .dict es ep ∧ es.toList = xs.map (entryOfKey (tupleKind (mixKind P w))) ∧ (xs.map (·.1)).Nodup
  | .set S n => h.SetOf (intKind P w) a S n
  | .ins C dx fs => H dx = some (.own a) ∧ fs.length ≤ 1000 ∧ dx ≠ a ∧ h.get? a = some (PySem.W.instObj C dx) ∧
      ∃ mA, h.Ns1 dx mA ∧ (∀ f, RelO (fs.lookup f) (mA f)) ∧ PySem.Within mA (fs.map (·.1))
  | .own _ => ∃ o, h.get? a = some o
  | .xd fs => ∃ mA, h.Ns1 a mA ∧ ∀ f, RelO (fs.lookup f) (mA f)
  | .rng lo hi => ∃ t u v, h.get? a = some { cls := .type "range", data := .fields #[.int lo t, .int hi u, .int 1 v] }
  | .frz o u => h.get? a = some o ∧ ObjOk H h a u
  | .tbl _ => ∃ qs : Array Value, h.get? a = some { cls := .none, data := .fields qs } ∧ TriplesOk qs.toList
  | .met f x => h.get? a = some (PySem.W.methodObj (.ref f) (.ref x))
  | .ext φ => φ h ∧ (∃ o, h.get? a = some o) ∧ ∀ h1 h2 : Heap, φ h1 → (∀ o, h1.get? a = some o → h2.get? a = some o) → φ h2

def HOk (H : Hp) (h : Heap) : Prop := ∀ a o, H a = some o → ObjOk P w H h a o
end

section
variable {P : Program} {w : World} {H H' : Hp} {h h' : Heap} {a : Addr} {o : HO}
theorem ObjOk.lt (x : ObjOk P w H h a o) : a < h.objs.size := by
  cases o with
  | lst xs => obtain ⟨_, _, _, _, e⟩ := x; exact Heap.lt_size e
  | tup xs => obtain ⟨_, _, _, p⟩ := x; exact p.lt
  | dK kvs => obtain ⟨_, _, _, _, o, _, _, e, _⟩ := x; exact Heap.lt_size e
  | dT kvs => obtain ⟨_, _, _, _, o, _, _, e, _⟩ := x; exact Heap.lt_size e
  | set S n => obtain ⟨o, _, _, _, e, _⟩ := x; exact Heap.lt_size e
  | ins C dx fs => obtain ⟨_, _, _, e, _⟩ := x; exact Heap.lt_size e
  | own y => obtain ⟨_, e⟩ := x; exact Heap.lt_size e
  | xd fs => obtain ⟨_, ⟨_, _, _, e, _⟩, _⟩ := x; exact Heap.lt_size e
  | rng lo hi => obtain ⟨_, _, _, e⟩ := x; exact Heap.lt_size e
  | frz ob u => obtain ⟨e, _⟩ := x; exact Heap.lt_size e
  | tbl ps => obtain ⟨_, e, _⟩ := x; exact Heap.lt_size e
  | met f y => exact Heap.lt_size (show h.get? a = some _ from x)
  | ext φ => obtain ⟨_, ⟨_, e⟩, _⟩ := x; exact Heap.lt_size e
theorem Paired.mapP {α β : Type} {F G : α → β → Prop} : ∀ {l₁ : List α} {l₂ : List β}, Paired F l₁ l₂ → (∀ a b, F a b → G a b) → Paired G l₁ l₂
  | _, _, .nil, _ => .nil
  | _, _, .cons r t, f => .cons (f _ _ r) (Paired.mapP t f)
theorem ObjOk.stay (x : ObjOk P w H h a o) (k : ∀ b u, (b = a ∨ H b = some (.own a)) → h.get? b = some u → h'.get? b = some u)
    (ho : ∀ b, H b = some (.own a) → H' b = some (.own a)) (ht : ∀ b xs, H b = some (.tup xs) → H' b = some (.tup xs)) : ObjOk P w H' h' a o := by
  induction o with
  | lst xs => obtain ⟨z, its, n, r, e⟩ := x; exact ⟨z, its, n, r, k _ _ (.inl rfl) e⟩
  | tup xs => obtain ⟨z, its, r, ob, e, c⟩ := x; exact ⟨z, its, r, ob, k _ _ (.inl rfl) e, c⟩
  | dK kvs => obtain ⟨z, y, vs, r, ob, es, ep, e, c⟩ := x; exact ⟨z, y, vs, r, ob, es, ep, k _ _ (.inl rfl) e, c⟩
  | dT kvs =>
    obtain ⟨z, y, xs, r, ob, es, ep, e, c⟩ := x
    exact ⟨z, y, xs, Paired.mapP r fun p q z => ⟨z.1, ht _ _ z.2.1, z.2.2⟩, ob, es, ep, k _ _ (.inl rfl) e, c⟩
  | set S n => obtain ⟨ob, es, ep, t, e, c⟩ := x; exact ⟨ob, es, ep, t, k _ _ (.inl rfl) e, c⟩
  | ins C dx fs =>
    obtain ⟨d, z, ne, e, mA, ⟨od, es, ep, e2, c⟩, r⟩ := x
    exact ⟨ho _ d, z, ne, k _ _ (.inl rfl) e, mA, ⟨od, es, ep, k _ _ (.inr d) e2, c⟩, r⟩
  | own y => obtain ⟨ob, e⟩ := x; exact ⟨ob, k _ _ (.inl rfl) e⟩
  | xd fs => obtain ⟨mA, ⟨od, es, ep, e, c⟩, r⟩ := x; exact ⟨mA, ⟨od, es, ep, k _ _ (.inl rfl) e, c⟩, r⟩
  | rng lo hi => obtain ⟨t, u, v, e⟩ := x; exact ⟨t, u, v, k _ _ (.inl rfl) e⟩
  | frz ob u ih => obtain ⟨e, q⟩ := x; exact ⟨k _ _ (.inl rfl) e, ih q⟩
  | tbl ps => obtain ⟨qs, e, z⟩ := x; exact ⟨qs, k a _ (.inl rfl) e, z⟩
  | met f y =>
    have e : h.get? a = some (PySem.W.methodObj (.ref f) (.ref y)) := x
    show h'.get? a = some (PySem.W.methodObj (.ref f) (.ref y))
    exact k a _ (.inl rfl) e
  | ext φ => obtain ⟨p, ⟨o, e⟩, st⟩ := x; exact ⟨st _ _ p fun o q => k _ _ (.inl rfl) q, ⟨o, k _ _ (.inl rfl) e⟩, st⟩
theorem HOk.lt (x : HOk P w H h) (e : H a = some o) : a < h.objs.size := (x a o e).lt
theorem HOk.fresh (x : HOk P w H h) (e : h.objs.size ≤ a) : H a = none := by
  cases q : H a with
  | none => rfl
  | some u => exact absurd (Nat.lt_of_lt_of_le (x.lt q) e) (Nat.lt_irrefl _)

theorem HOk.kept (x : HOk P w H h) (k : ∀ b u, h.get? b = some u → h'.get? b = some u) : HOk P w H h' := fun a o e =>
  (x a o e).stay (fun b u _ q => k b u q) (fun _ q => q) fun _ _ q => q

theorem HOk.laid (x : HOk P w H h) (k : ∀ b u, h.get? b = some u → h'.get? b = some u) (hp : h.objs.size ≤ a) (new : ObjOk P w (upd H a o) h' a o) : HOk P w (upd H a o) h' := fun b u e => by
  have hn := x.fresh hp
  by_cases hb : b = a
  · subst hb; rw [upd_same] at e; cases e; exact new
  · rw [upd_ne hb] at e
    exact (x b u e).stay (fun c v _ q => k c v q) (fun c q => by rw [upd_ne (ne_of_none q hn)]; exact q) fun c xs q => by rw [upd_ne (ne_of_none q hn)]; exact q
end


def Rd (H : Hp) (a : Addr) (u : HO) : Prop := H a = some u ∨ ∃ o, H a = some (.frz o u)
theorem Rd.of {H : Hp} {a : Addr} {u : HO} (h : H a = some u) : Rd H a u := .inl h
theorem Rd.ok {P : Program} {w : World} {H : Hp} {h : Heap} {a : Addr} {u : HO} (r : Rd H a u) (x : HOk P w H h) : ObjOk P w H h a u := by
  rcases r with r | ⟨o, r⟩
  · exact x a u r
  · obtain ⟨_, q⟩ := x a _ r
    exact q

def Mut : Option HO → Prop
  | some (.lst _) => True
  | some (.dK _) => True
  | some (.dT _) => True
  | some (.set _ _) => True
  | some (.ins _ _ _) => True
  | some (.ext _) => True
  | _ => False
section
variable {P : Program} {w : World} {H : Hp} {h h' : Heap} {x e : Addr} {o' : HO}

theorem HOk.write (ok : HOk P w H h) (mu : Mut (H x)) (he : e = x ∨ H e = some (.own x)) (k : ∀ b u, b ≠ e → h.get? b = some u → h'.get? b = some u) (heo : ∃ u, h'.get? e = some u)
    (new : ObjOk P w (upd H x o') h' x o') : HOk P w (upd H x o') h' := fun b u q => by
  have nown : ∀ c y, H c = some (.own y) → c ≠ x := fun c y r z => by subst z; rw [r] at mu; exact mu
  have ntup : ∀ c xs, H c = some (.tup xs) → c ≠ x := fun c xs r z => by subst z; rw [r] at mu; exact mu
  by_cases hb : b = x
  · subst hb; rw [upd_same] at q; cases q; exact new
  · rw [upd_ne hb] at q
    by_cases hbe : b = e
    · have q' : H b = some (.own x) := by
        rcases he with z | z
        · exact absurd (hbe.trans z) hb
        · rw [hbe]; exact z
      rw [q] at q'; cases q'
      obtain ⟨v, hv⟩ := heo
      exact ⟨v, by rw [hbe]; exact hv⟩
    · refine (ok b u q).stay (fun c v hc r => k c v ?_ r) (fun c r => by rw [upd_ne (nown c b r)]; exact r) fun c xs r => by rw [upd_ne (ntup c xs r)]; exact r
      rcases hc with rfl | hc
      · exact hbe
      · rintro rfl
        rcases he with z | z
        · exact nown c b hc z
        · rw [hc] at z; cases z; exact hb rfl
end


structure Un (fs ex : List Addr) (H H' : Hp) (h h' : Heap) : Prop where
  keep : ∀ b o, h.get? b = some o → H b = none → b ∉ fs → b ∉ ex → h'.get? b = some o
  slot : ∀ b o, h.get? b = some o → H b = none → b ∈ fs → b ∉ ex → ∃ sl, h'.get? b = some { o with slots := sl }
  free : ∀ b o, h.get? b = some o → H b = none → b ∉ ex → H' b = none
  there : ∀ b o, h.get? b = some o → b ∉ ex → ∃ o', h'.get? b = some o'
  tups : ∀ b xs, H b = some (.tup xs) → H' b = some (.tup xs)
  frzs : ∀ b o u, H b = some (.frz o u) → H' b = some (.frz o u)
  tbls : ∀ b ps, H b = some (.tbl ps) → ∃ more, H' b = some (.tbl (ps ++ more))
section
variable {fs fs' ex ex' : List Addr} {H H1 H2 : Hp} {h h1 h2 h' : Heap} {a x e : Addr} {o : HO}
theorem Un.any (u : Un fs ex H H1 h h1) {b : Addr} {ob : Obj} (q : h.get? b = some ob) (n : H b = none) (hx : b ∉ ex) : ∃ sl, h1.get? b = some { ob with slots := sl } := by
  by_cases hb : b ∈ fs
  · exact u.slot b ob q n hb hx
  · exact ⟨ob.slots, u.keep b ob q n hb hx⟩
theorem Un.trans (a : Un fs ex H H1 h h1) (b : Un fs ex H1 H2 h1 h2) : Un fs ex H H2 h h2 where
  keep := fun c ob q n hc hx => b.keep c ob (a.keep c ob q n hc hx) (a.free c ob q n hx) hc hx
  slot := fun c ob q n hc hx => by
    obtain ⟨sl, e1⟩ := a.slot c ob q n hc hx
    obtain ⟨sl', e2⟩ := b.slot c _ e1 (a.free c ob q n hx) hc hx
    exact ⟨sl', e2⟩
  free := fun c ob q n hx => by
    obtain ⟨o', e1⟩ := a.there c ob q hx
    exact b.free c o' e1 (a.free c ob q n hx) hx
  there := fun c ob q hx => by
    obtain ⟨o', e1⟩ := a.there c ob q hx
    exact b.there c o' e1 hx
  tups := fun c xs q => b.tups c xs (a.tups c xs q)
  frzs := fun c ob xs q => b.frzs c ob xs (a.frzs c ob xs q)
  tbls := fun c ps q => by
    obtain ⟨m1, e1⟩ := a.tbls c ps q
    obtain ⟨m2, e2⟩ := b.tbls c _ e1
    exact ⟨m1 ++ m2, by rw [e2, Array.append_assoc]⟩
theorem Un.kept (k : ∀ b u, h.get? b = some u → h'.get? b = some u) : Un fs ex H H h h' :=
  ⟨fun b ob q _ _ _ => k b ob q, fun b ob q _ _ _ => ⟨ob.slots, k b ob q⟩, fun _ _ _ n _ => n, fun b ob q _ => ⟨ob, k b ob q⟩, fun _ _ q => q, fun _ _ _ q => q, fun _ ps q => ⟨#[], by rw [q]; simp⟩⟩
theorem Un.refl : Un fs ex H H h h := Un.kept fun _ _ q => q
theorem Un.laid (k : ∀ b u, h.get? b = some u → h'.get? b = some u) (hp : h.objs.size ≤ a) (hn : H a = none) : Un fs ex H (upd H a o) h h' where
  keep := fun b u q _ _ _ => k b u q
  slot := fun b u q _ _ _ => ⟨u.slots, k b u q⟩
  free := fun b u q n _ => by rw [upd_ne (Nat.ne_of_lt (Nat.lt_of_lt_of_le (Heap.lt_size q) hp))]; exact n
  there := fun b u q _ => ⟨u, k b u q⟩
  tups := fun b xs q => by rw [upd_ne (ne_of_none q hn)]; exact q
  frzs := fun b u xs q => by rw [upd_ne (ne_of_none q hn)]; exact q
  tbls := fun b ps q => ⟨#[], by rw [upd_ne (ne_of_none q hn), q]; simp⟩
theorem Un.write (mu : Mut (H x)) (he : e = x ∨ H e = some (.own x)) (k : ∀ b u, b ≠ e → h.get? b = some u → h'.get? b = some u) (heo : ∃ u, h'.get? e = some u) : Un fs ex H (upd H x o) h h' := by
  have hx : ∀ b, H b = none → b ≠ x := fun b n z => by subst z; rw [n] at mu; exact mu
  have hb : ∀ b, H b = none → b ≠ e := fun b n z => by
    subst z
    rcases he with r | r
    · exact hx b n r
    · rw [n] at r; cases r
  have hm : ∀ b u, H b = some u → ¬ Mut (some u) → b ≠ x := fun b u q nm z => by subst z; rw [q] at mu; exact nm mu
  refine ⟨fun b u q n _ _ => k b u (hb b n) q, fun b u q n _ _ => ⟨u.slots, k b u (hb b n) q⟩, fun b u q n _ => by rw [upd_ne (hx b n)]; exact n, fun b u q _ => ?_,
    fun b xs q => by rw [upd_ne (hm b _ q fun z => z)]; exact q, fun b u xs q => by rw [upd_ne (hm b _ q fun z => z)]; exact q, fun b ps q => ⟨#[], by rw [upd_ne (hm b _ q fun z => z), q]; simp⟩⟩
  by_cases hbe : b = e
  · subst hbe; exact heo
  · exact ⟨u, k b u hbe q⟩
theorem Un.mono (u : Un fs ex H H1 h h1) (hs : ∀ b ∈ fs, b ∈ fs') (hx : ∀ b ∈ ex, b ∈ ex') : Un fs' ex' H H1 h h1 :=
  ⟨fun b ob q n hb he => u.keep b ob q n (fun z => hb (hs b z)) fun z => he (hx b z), fun _ _ q n _ he => u.any q n fun z => he (hx _ z), fun b ob q n he => u.free b ob q n fun z => he (hx b z), fun b ob q he => u.there b ob q fun z => he (hx b z), u.tups, u.frzs, u.tbls⟩
end


def trk (h : Heap) (H : Hp) : List Addr := (List.range h.objs.size).filter fun a => (H a).isSome
def hidT (h : Heap) (H : Hp) : Heap := PySem.W.hideAll h (trk h H)
theorem hidT_size (h : Heap) (H : Hp) : (hidT h H).objs.size = h.objs.size := PySem.W.hideAll_size _ _
theorem hidT_get {h : Heap} {H : Hp} {b : Addr} {o : Obj} (e : h.get? b = some o) (n : H b = none) : (hidT h H).get? b = some o :=
  PySem.W.hideAll_get _ e fun hm => by
    have q : (H b).isSome = true := (List.mem_filter.mp hm).2
    rw [n] at q; simp at q
theorem of_hidT {h : Heap} {H : Hp} {b : Addr} {o : Obj} (e : (hidT h H).get? b = some o) : h.get? b = some o ∧ H b = none := by
  have e' : h.get? b = some o := PySem.W.of_hideAll (trk h H) e
  refine ⟨e', ?_⟩
  cases q : H b with
  | none => rfl
  | some x =>
    have hm : b ∈ trk h H := List.mem_filter.mpr ⟨List.mem_range.mpr (Heap.lt_size e'), by simp [q]⟩
    have z : (hidT h H).get? b = none := PySem.W.hideAll_none (trk h H) hm
    rw [z] at e; cases e


def allNews (g h : Heap) (L : Addr) : List (Addr × Obj) := (List.range h.objs.size).filterMap fun a => if a = L ∨ (g.get? a).isSome = true then none else (h.get? a).map fun o => (a, o)
def rest (g h : Heap) (L d : Addr) : List (Addr × Obj) := (allNews g h L).filter fun p => decide (p.1 ≠ d)
end L2

namespace L2
open PySem PySem.Spec PyProof.Rows


def recK (K : PySem.W.Frag) (cd : Value) (P : Addr) : Prop := ∃ (c : Addr) (oc : Value) (od : Option Addr) (vs : Array Value) (sl : Array (Option Value)), cd = .ref c ∧ K.lookup c = some ⟨oc, od, .fields vs, sl⟩ ∧ vs.getD 11 .none = .ref P ∧ oc = .type "code" ∧ vs[11]? = some (.ref P) ∧
  (∃ x y, vs.getD 18 .none = .str x y) ∧ (∃ x y, vs.getD 7 .none = .int x y) ∧ (∃ x, vs.getD 9 .none = .bool x) ∧ ∃ x y, vs.getD 10 .none = .int x y
def Tb (K : PySem.W.Frag) (mg : Str → Option Value) (P : Addr) : Prop := ∃ nm ∈ genNames, ∃ (f : Addr) (oc : Value) (od : Option Addr) (fd : FuncData) (sl : Array (Option Value)), mg nm = some (.ref f) ∧ K.lookup f = some ⟨oc, od, .func fd, sl⟩ ∧ recK K fd.code P
structure Mod (K : PySem.W.Frag) (mg : Str → Option Value) (base : Heap) : Prop where
  kin : K.In base
  glob : base.Ns mainGlobals mg
  blt : ∃ mb, base.Ns builtinsNs mb ∧ ∀ x : Str, x ≠ "__name__" → mb x = bootBuiltins x
  nolimit : base.NoLimit
  bmain : ∃ bm ob, mg "__builtins__" = some (.ref bm) ∧ bm ≠ builtinsNs ∧ base.get? bm = some ob ∧ ob.cls = .type "module" ∧ ob.dict = some builtinsNs ∧ ob.data = .plain


structure Cx where
  prog : Program
  w : World
  K : PySem.W.Frag
  mg : Str → Option Value
  base : Heap
  A : Around
  N : List Str
  s_0 : Shared
  H_0 : Hp
  env : Env
  outer : List Env
  stack : List Env
  ex : List Addr
  fn : Str → Bool
  calm : Bool
  pn : List (Addr × Obj)
  xe : Value → Shared → Prop

def frs (l : List Env) : List Addr := l.filterMap (·.frame)
abbrev Cx.fs (X : Cx) : List Addr := frs X.outer

def Vis (sc : Scope) (x : Str) : Prop := sc.names.lookup x = some .local ∨ sc.names.lookup x = some .cell ∨ sc.names.lookup x = some .free
def Loc (sc : Scope) (x : Str) : Prop := sc.names.lookup x = some .local ∨ sc.names.lookup x = some .cell
def Look (env : Env) (h : Heap) (m : Str → Option Value) (x : Str) (u : Value) : Prop :=
  (env.kindOf x = some .local ∧ m x = some u) ∨ ((env.kindOf x = some .cell ∨ env.kindOf x = some .free) ∧ ∃ c, env.cells.lookup x = some c ∧ h.IsCell c (some u))

structure Cx.Ok (X : Cx) : Prop where
  mod : Mod X.K X.mg X.base
  kind : X.env.scope.kind = .function
  glob : X.env.globals = mainGlobals
  blt : X.env.builtins = builtinsNs
  above : X.s_0.heap.objs.size ≤ X.env.locals
  inj : ∀ x y c, X.env.cells.lookup x = some c → X.env.cells.lookup y = some c → x = y
  has : ∀ x, (X.env.kindOf x = some .cell ∨ X.env.kindOf x = some .free) → ∃ c, X.env.cells.lookup x = some c
  cab : ∀ x c, X.fn x = true → X.env.cells.lookup x = some c → X.s_0.heap.objs.size ≤ c
  hd : X.calm = true → X.A.handled = none
  frames : X.A.frames = some X.stack
  stk : X.stack = X.outer ∨ (X.stack = X.env :: X.outer ∧ X.env.frame = some X.env.locals)
  exf : ∀ b ∈ X.ex, b ≠ X.env.locals ∧ ∀ x c, X.env.cells.lookup x = some c → c ≠ b
  bs : ∀ b o, X.base.get? b = some o → X.s_0.heap.get? b = some o ∧ X.H_0 b = none
  bsz : X.base.objs.size ≤ X.s_0.heap.objs.size
  noex : ∀ b o, X.base.get? b = some o → b ∉ X.ex
  exfs : ∀ b ∈ X.ex, b ∉ X.fs
  funs : X.s_0.heap.FunFrames X.base X.outer
  frf : ∀ b ∈ X.fs, X.H_0 b = none
  tabs : ∀ b, Tb X.K X.mg b → ∃ ps, X.H_0 b = some (.tbl ps)

def GB (a b : Array GenState) : Prop := AllBare b ∧ a.size ≤ b.size
theorem GB.self {a b : Array GenState} (h : GB a b) : GB b b := ⟨h.1, Nat.le_refl _⟩
theorem GB.trans {a b c : Array GenState} (h : GB a b) (g : GB b c) : GB a c := ⟨g.1, Nat.le_trans h.2 g.2⟩
structure Inv (X : Cx) (pins : List (Addr × Obj)) (σ : List (Option V)) (H : Hp) (s : Shared) : Prop where
  ok : X.Ok
  os : s.os = X.s_0.os
  bare : GB X.s_0.gens s.gens
  base : Un X.fs X.ex X.H_0 H X.s_0.heap s.heap
  loc : ∃ m, s.heap.Ns X.env.locals m ∧ ∀ (i : Nat) (x : Str) (v : V), X.N[i]? = some x → σ[i]? = some (some v) → Vis X.env.scope x → ∃ u, RelV v u ∧ Look X.env s.heap m x u
  cell : ∀ x c, X.env.cells.lookup x = some c → ∃ v, s.heap.IsCell c v
  free : H X.env.locals = none
  freeC : ∀ x c, X.env.cells.lookup x = some c → H c = none
  pin : ∀ p ∈ X.pn ++ pins, s.heap.get? p.1 = some p.2 ∧ H p.1 = none ∧ p.1 ≠ X.env.locals ∧ p.1 ∉ X.fs ∧ ∀ v, p.2.data ≠ .cell v
  hok : HOk X.prog X.w H s.heap
  len : σ.length = X.N.length

section
variable {X : Cx} {pins : List (Addr × Obj)} {σ : List (Option V)} {H H' : Hp} {s : Shared} {h' : Heap}

theorem Cx.Ok.nofr (ok : X.Ok) {b : Addr} {o : Obj} (e : X.base.get? b = some o) : b ∉ X.fs := fun hb => by
  have := (ok.funs.mem hb).1
  rw [e] at this; cases this
theorem Inv.bs (I : Inv X pins σ H s) : ∀ b o, X.base.get? b = some o → s.heap.get? b = some o ∧ H b = none := fun b o e =>
  ⟨I.base.keep b o (I.ok.bs b o e).1 (I.ok.bs b o e).2 (I.ok.nofr e) (I.ok.noex b o e), I.base.free b o (I.ok.bs b o e).1 (I.ok.bs b o e).2 (I.ok.noex b o e)⟩
theorem Inv.bk (I : Inv X pins σ H s) : ∀ b o, X.base.get? b = some o → s.heap.get? b = some o := fun b o e => (I.bs b o e).1
theorem Inv.mod (I : Inv X pins σ H s) : Mod X.K X.mg X.base := I.ok.mod
theorem Inv.tabs (I : Inv X pins σ H s) : ∀ b, Tb X.K X.mg b → ∃ ps, H b = some (.tbl ps) := fun b h => by
  obtain ⟨ps, e⟩ := I.ok.tabs b h
  obtain ⟨m, e1⟩ := I.base.tbls b ps e
  exact ⟨_, e1⟩
theorem Inv.kIn (I : Inv X pins σ H s) : X.K.In s.heap := I.ok.mod.kin.keeps I.bk
theorem Inv.nolimit (I : Inv X pins σ H s) : s.heap.NoLimit := I.ok.mod.nolimit.keeps I.bk

theorem Inv.fr (I : Inv X pins σ H s) : ∃ m, Fr X.base X.env.locals s.heap m :=
  let ⟨m, hn, _⟩ := I.loc
  ⟨m, hn, I.bk, Nat.le_trans I.ok.bsz I.ok.above⟩
theorem Inv.lt (I : Inv X pins σ H s) : X.env.locals < s.heap.objs.size := let ⟨_, hn, _⟩ := I.loc; hn.lt
theorem Inv.sz (I : Inv X pins σ H s) : X.s_0.heap.objs.size ≤ s.heap.objs.size := Nat.le_trans I.ok.above (Nat.le_of_lt I.lt)
theorem Inv.nofs (I : Inv X pins σ H s) {a : Addr} (h : s.heap.objs.size ≤ a) : a ∉ X.fs := fun hb => by
  obtain ⟨_, o, ho, _⟩ := I.ok.funs.mem hb
  exact absurd (Nat.lt_of_lt_of_le (Heap.lt_size ho) (Nat.le_trans I.sz h)) (Nat.lt_irrefl _)
theorem Inv.cne (I : Inv X pins σ H s) : ∀ x c, X.env.cells.lookup x = some c → c ≠ X.env.locals := fun x c e z => by
  obtain ⟨v, o, ho, hd⟩ := I.cell x c e
  obtain ⟨m, ⟨o', es, ep, ho', hd', _⟩, _⟩ := I.loc
  rw [z, ho'] at ho; cases ho; rw [hd'] at hd; cases hd
theorem Inv.funs (I : Inv X pins σ H s) : s.heap.FunFrames X.base X.outer := by
  have all : ∀ (l : List Env), (∀ b ∈ frs l, b ∈ X.fs) → X.s_0.heap.FunFrames X.base l → s.heap.FunFrames X.base l := by
    intro l
    induction l with
    | nil => intro _ _; trivial
    | cons env r ih =>
      intro hs hl
      obtain ⟨hk, ⟨L, o, hf, hn, ho, hd⟩, hr⟩ := hl
      have hL : L ∈ X.fs := hs L (by unfold frs; rw [List.filterMap_cons, hf]; exact List.mem_cons_self)
      obtain ⟨sl, e⟩ := I.base.slot L o ho (I.ok.frf L hL) hL fun z => I.ok.exfs L z hL
      exact ⟨hk, ⟨L, _, hf, hn, e, hd⟩, ih (fun b hb => hs b (by unfold frs; rw [List.filterMap_cons, hf]; exact List.mem_cons_of_mem _ hb)) hr⟩
  exact all X.outer (fun _ hb => hb) I.ok.funs


theorem Inv.stack (I : Inv X pins σ H s) : s.heap.FunFrames X.base X.stack := by
  rcases I.ok.stk with e | ⟨e, hf⟩
  · rw [e]; exact I.funs
  · rw [e]
    obtain ⟨m, hn, _⟩ := I.loc
    refine .cons (by rw [I.ok.kind]; decide) hf hn ?_ I.funs
    exact Heap.get?_none_of_le (Nat.le_trans I.ok.bsz I.ok.above)
theorem Inv.stkSub (I : Inv X pins σ H s) : ∀ b ∈ frs X.stack, b ∈ X.env.locals :: X.fs := fun b hb => by
  rcases I.ok.stk with e | ⟨e, hf⟩
  · rw [e] at hb; exact List.mem_cons_of_mem _ hb
  · rw [e] at hb
    unfold frs at hb
    rw [List.filterMap_cons, hf] at hb
    exact hb
theorem Inv.stkFree (I : Inv X pins σ H s) : ∀ b ∈ frs X.stack, H b = none := fun b hb => by
  rcases List.mem_cons.mp (I.stkSub b hb) with e | hb
  · rw [e]; exact I.free
  · obtain ⟨_, o, ho, _⟩ := I.ok.funs.mem hb
    exact I.base.free b o ho (I.ok.frf b hb) fun z => I.ok.exfs b z hb


theorem Inv.step {g' : Array GenState} {t' : Nat} {d' : Drawn} {ch : List Addr} (I : Inv X pins σ H s)
    (hch : ∀ b ∈ ch, (b ∈ X.ex ∨ X.s_0.heap.objs.size ≤ b) ∧ b ≠ X.env.locals ∧ (∀ x c, X.env.cells.lookup x = some c → c ≠ b) ∧ ∀ p ∈ X.pn ++ pins, p.1 ≠ b)
    (keep : ∀ b o, b ≠ X.env.locals → b ∉ X.fs → b ∉ ch → s.heap.get? b = some o → H b = none → h'.get? b = some o)
    (slot : ∀ b o, b ≠ X.env.locals → b ∈ X.fs → b ∉ ch → s.heap.get? b = some o → H b = none → ∃ sl, h'.get? b = some { o with slots := sl }) (free : ∀ b o, b ∉ ch → s.heap.get? b = some o → H b = none → H' b = none)
    (there : ∀ b o, b ∉ ch → s.heap.get? b = some o → ∃ o', h'.get? b = some o')
    (tups : ∀ b xs, H b = some (.tup xs) → H' b = some (.tup xs)) (frzs : ∀ b o u, H b = some (.frz o u) → H' b = some (.frz o u)) (tbls : ∀ b ps, H b = some (.tbl ps) → ∃ more, H' b = some (.tbl (ps ++ more)))
    (ns : ∀ m, s.heap.Ns X.env.locals m → h'.Ns X.env.locals m) (hok : HOk X.prog X.w H' h') (hg : GB s.gens g') :
    Inv X pins σ H' { s with heap := h', gens := g', drawn := d', toks := t' } := by
  have neL : ∀ b o, X.s_0.heap.get? b = some o → b ≠ X.env.locals := fun b o e => Nat.ne_of_lt (Nat.lt_of_lt_of_le (Heap.lt_size e) I.ok.above)
  have neC : ∀ b o, X.s_0.heap.get? b = some o → b ∉ X.ex → b ∉ ch := fun b o e hx hb => by
    rcases (hch b hb).1 with z | z
    · exact hx z
    · exact absurd (Nat.lt_of_lt_of_le (Heap.lt_size e) z) (Nat.lt_irrefl _)
  have cellK : ∀ x c, X.env.cells.lookup x = some c → ∀ v, s.heap.IsCell c v → h'.IsCell c v := fun x c e v ⟨o, ho, hd⟩ => by
    have nch : c ∉ ch := fun z => (hch c z).2.2.1 x c e rfl
    by_cases hc : c ∈ X.fs
    · obtain ⟨sl, q⟩ := slot c o (I.cne x c e) hc nch ho (I.freeC x c e)
      exact ⟨_, q, hd⟩
    · exact ⟨o, keep c o (I.cne x c e) hc nch ho (I.freeC x c e), hd⟩
  refine ⟨I.ok, I.os, I.bare.trans hg, ⟨fun b o e n hb hx => ?_, fun b o e n hb hx => ?_, fun b o e n hx => ?_, fun b o e hx => ?_, fun b xs e => tups b xs (I.base.tups b xs e), fun b o xs e => frzs b o xs (I.base.frzs b o xs e), fun b ps e => ?_⟩, ?_, fun x c e => ?_, ?_, fun x c e => ?_, fun p hp => ?_, hok, I.len⟩
  · exact keep b o (neL b o e) hb (neC b o e hx) (I.base.keep b o e n hb hx) (I.base.free b o e n hx)
  · obtain ⟨sl, e1⟩ := I.base.slot b o e n hb hx
    obtain ⟨sl', e2⟩ := slot b _ (neL b o e) hb (neC b o e hx) e1 (I.base.free b o e n hx)
    exact ⟨sl', e2⟩
  · obtain ⟨o', e1⟩ := I.base.there b o e hx
    exact free b o' (neC b o e hx) e1 (I.base.free b o e n hx)
  · obtain ⟨o', e1⟩ := I.base.there b o e hx
    exact there b o' (neC b o e hx) e1
  · obtain ⟨m1, e1⟩ := I.base.tbls b ps e
    obtain ⟨m2, e2⟩ := tbls b _ e1
    exact ⟨m1 ++ m2, by rw [e2, Array.append_assoc]⟩
  · obtain ⟨m, hn, hl⟩ := I.loc
    refine ⟨m, ns m hn, fun i x v e1 e2 e3 => ?_⟩
    obtain ⟨u, r, l⟩ := hl i x v e1 e2 e3
    refine ⟨u, r, ?_⟩
    rcases l with l | ⟨k, c, e, z⟩
    · exact .inl l
    · exact .inr ⟨k, c, e, cellK x c e _ z⟩
  · obtain ⟨v, z⟩ := I.cell x c e
    exact ⟨v, cellK x c e v z⟩
  · obtain ⟨m, ⟨o, _, _, ho, _⟩, _⟩ := I.loc
    exact free _ o (fun z => (hch _ z).2.1 rfl) ho I.free
  · obtain ⟨v, o, ho, hd⟩ := I.cell x c e
    exact free c o (fun z => (hch c z).2.2.1 x c e rfl) ho (I.freeC x c e)
  · obtain ⟨e, n, ne, nf, d⟩ := I.pin p hp
    have nch : p.1 ∉ ch := fun z => (hch p.1 z).2.2.2 p hp rfl
    exact ⟨keep p.1 p.2 ne nf nch e n, free p.1 p.2 nch e n, ne, nf, d⟩

theorem Inv.un {t' : Nat} (I : Inv X pins σ H s) (u : Un X.fs [] H H' s.heap h') (hok : HOk X.prog X.w H' h') : Inv X pins σ H' { s with heap := h', toks := t' } := by
  obtain ⟨m, ⟨o, es, ep, ho, r⟩, _⟩ := id I.loc
  obtain ⟨sl, hL⟩ := u.any ho I.free (by simp)
  exact I.step (g' := s.gens) (d' := s.drawn) (ch := []) (fun _ z => nomatch z) (fun b o _ hb _ e n => u.keep b o e n hb (by simp)) (fun b o _ hb _ e n => u.slot b o e n hb (by simp)) (fun b o _ e n => u.free b o e n (by simp)) (fun b o _ e => u.there b o e (by simp)) u.tups u.frzs u.tbls (fun m' hm => by
    obtain ⟨o', es', ep', ho', r'⟩ := hm
    rw [ho] at ho'; cases ho'
    exact ⟨_, es', ep', hL, r'⟩) hok I.bare.self

theorem Inv.call {g' : Array GenState} {t' : Nat} {d' : Drawn} {ch : List Addr} (I : Inv X pins σ H s) (u : Un (frs X.stack) ch H H' s.heap h') (hok : HOk X.prog X.w H' h') (hg : GB s.gens g')
    (hch : ∀ b ∈ ch, (b ∈ X.ex ∨ X.s_0.heap.objs.size ≤ b) ∧ b ≠ X.env.locals ∧ (∀ x c, X.env.cells.lookup x = some c → c ≠ b) ∧ ∀ p ∈ X.pn ++ pins, p.1 ≠ b) :
    Inv X pins σ H' { s with heap := h', gens := g', drawn := d', toks := t' } := by
  obtain ⟨m, ⟨o, es, ep, ho, r⟩, _⟩ := id I.loc
  obtain ⟨sl, hL⟩ := u.any ho I.free fun z => (hch _ z).2.1 rfl
  exact I.step (ch := ch) hch (fun b o hL hb hc e n => u.keep b o e n (fun z => (List.mem_cons.mp (I.stkSub b z)).elim hL hb) hc) (fun b o _ _ hc e n => u.any e n hc) (fun b o hc e n => u.free b o e n hc) (fun b o hc e => u.there b o e hc) u.tups u.frzs u.tbls (fun m' hm => by
    obtain ⟨o', es', ep', ho', r'⟩ := hm
    rw [ho] at ho'; cases ho'
    exact ⟨_, es', ep', hL, r'⟩) hok hg

theorem Inv.turned {t' : Nat} {it : Addr} (I : Inv X pins σ H s) (k : ∀ b o, b ≠ it → s.heap.get? b = some o → h'.get? b = some o) (hn : H it = none) (hL : it ≠ X.env.locals)
    (h1 : it ∈ X.ex ∨ X.s_0.heap.objs.size ≤ it) (h2 : ∀ x c, X.env.cells.lookup x = some c → c ≠ it) (h3 : ∀ p ∈ X.pn ++ pins, p.1 ≠ it) : Inv X pins σ H { s with heap := h', toks := t' } := by
  have nit : ∀ b u, H b = some u → b ≠ it := fun b u e z => by rw [z, hn] at e; cases e
  refine I.step (g' := s.gens) (d' := s.drawn) (ch := [it]) (fun b hb => ?_) (fun b o _ _ hc e _ => k b o (fun z => hc (by simp [z])) e) (fun b o _ _ hc e _ => ⟨o.slots, k b o (fun z => hc (by simp [z])) e⟩) (fun _ _ _ _ n => n)
    (fun b o hc e => ⟨o, k b o (fun z => hc (by simp [z])) e⟩) (fun _ _ e => e) (fun _ _ _ e => e) (fun b ps e => ⟨#[], by rw [e]; simp⟩) (fun m hm => ?_) (fun b u e => ?_) I.bare.self
  · have e : b = it := by simpa using hb
    subst e
    exact ⟨h1, hL, h2, h3⟩
  · obtain ⟨o, es, ep, ho, r⟩ := hm
    exact ⟨o, es, ep, k _ o (Ne.symm hL) ho, r⟩
  · refine (I.hok b u e).stay (fun c v hc q => k c v ?_ q) (fun _ q => q) fun _ _ q => q
    rcases hc with z | z
    · rw [z]; exact nit b u e
    · exact nit c _ z
theorem Inv.tok (I : Inv X pins σ H s) (t : Nat) : Inv X pins σ H { s with toks := t } := I.un (h' := s.heap) (t' := t) Un.refl I.hok

theorem Inv.kept {t' : Nat} (I : Inv X pins σ H s) (k : ∀ b u, s.heap.get? b = some u → h'.get? b = some u) : Inv X pins σ H { s with heap := h', toks := t' } := I.un (Un.kept k) (I.hok.kept k)

theorem Inv.laid {a : Addr} {o : HO} {t' : Nat} (I : Inv X pins σ H s) (k : ∀ b u, s.heap.get? b = some u → h'.get? b = some u) (hp : s.heap.objs.size ≤ a) (new : ObjOk X.prog X.w (upd H a o) h' a o) :
    Inv X pins σ (upd H a o) { s with heap := h', toks := t' } := I.un (Un.laid k hp (I.hok.fresh hp)) (I.hok.laid k hp new)

theorem Inv.write {x e : Addr} {o : HO} {t' : Nat} (I : Inv X pins σ H s) (mu : Mut (H x)) (he : e = x ∨ H e = some (.own x)) (k : ∀ b u, b ≠ e → s.heap.get? b = some u → h'.get? b = some u) (heo : ∃ u, h'.get? e = some u)
    (new : ObjOk X.prog X.w (upd H x o) h' x o) : Inv X pins σ (upd H x o) { s with heap := h', toks := t' } := I.un (Un.write mu he k heo) (I.hok.write mu he k heo new)

theorem Inv.weak {σ' : List (Option V)} (I : Inv X pins σ H s) (hl : σ'.length = σ.length) (w : ∀ (i : Nat) v, σ'[i]? = some (some v) → σ[i]? = some (some v)) : Inv X pins σ' H s :=
  ⟨I.ok, I.os, I.bare, I.base, let ⟨m, hn, hl'⟩ := I.loc; ⟨m, hn, fun i x v e1 e2 e3 => hl' i x v e1 (w i v e2) e3⟩, I.cell, I.free, I.freeC, I.pin, I.hok, hl.trans I.len⟩
theorem Inv.pins_of {pins' : List (Addr × Obj)} (I : Inv X pins σ H s) (h : ∀ p ∈ pins', s.heap.get? p.1 = some p.2 ∧ H p.1 = none ∧ p.1 ≠ X.env.locals ∧ p.1 ∉ X.fs ∧ ∀ v, p.2.data ≠ .cell v) : Inv X pins' σ H s :=
  ⟨I.ok, I.os, I.bare, I.base, I.loc, I.cell, I.free, I.freeC, fun p hp => (List.mem_append.mp hp).elim (fun z => I.pin p (List.mem_append_left _ z)) (h p), I.hok, I.len⟩

theorem nodup_ix {N : List Str} (hN : N.Nodup) {i j : Nat} {x : Str} (a : N[i]? = some x) (b : N[j]? = some x) : i = j := by
  obtain ⟨h1, e1⟩ := List.getElem?_eq_some_iff.mp a
  obtain ⟨h2, e2⟩ := List.getElem?_eq_some_iff.mp b
  exact (List.getElem_inj hN).mp (e1.trans e2.symm)


theorem store_ok2 {M : Model} {A : Around} {E : Value → Shared → Prop} {i : Nat} {x : Str} {v : V} {u : Value} {Q : Unit → Shared → Prop} (I : Inv X pins σ H s) (hN : X.N.Nodup) (hi : X.N[i]? = some x) (hx : Loc X.env.scope x) (r : RelV v u)
    (h : ∀ s', Inv X pins (σ.set i (some v)) H s' → (∃ a, Heap.SameBut a s.heap s'.heap ∧ (a = X.env.locals ∨ X.env.cells.lookup x = some a)) → Q () s') (hf : X.fn x = true ∨ X.env.scope.names.lookup x = some .local := by first | exact .inl rfl | exact .inr rfl | assumption) : wpAny M A (storeName X.env x u) Q E s := by
  obtain ⟨m, hn, hl⟩ := id I.loc
  have hcls : (X.env.scope.kind == .class || (X.env.scope.kind == .module && X.env.locals != X.env.globals)) = false := by rw [I.ok.kind]; rfl
  have hiσ : i < σ.length := by rw [I.len]; exact (List.getElem?_eq_some_iff.mp hi).1
  have cne := I.cne
  have tracked : ∀ {a : Addr} {h' : Heap}, (∃ o, s.heap.get? a = some o ∧ H a = none) → Heap.SameBut a s.heap h' → HOk X.prog X.w H h' := fun {a h'} ha hs b ob e => by
    obtain ⟨_, _, hfree⟩ := ha
    refine (I.hok b ob e).stay (fun c w' hc q => (hs.2 c ?_).trans q) (fun _ q => q) fun _ _ q => q
    rintro rfl
    rcases hc with rfl | hc
    · rw [hfree] at e; cases e
    · rw [hfree] at hc; cases hc
  rcases hx with hk | hk
  · refine wpAny_storeName_local hk hn (fun h' hn' hs => ?_) hcls
    obtain ⟨oL, _, _, hoL, _⟩ := id hn
    refine h _ ⟨I.ok, I.os, I.bare, ⟨fun b o e n hb hx => ?_, fun b o e n hb hx => ?_, I.base.free, fun b o e hx => ?_, I.base.tups, I.base.frzs, I.base.tbls⟩, ⟨_, hn', fun j y v' e1 e2 e3 => ?_⟩, fun y c e => ?_, I.free, I.freeC, fun p hp => ?_, tracked ⟨oL, hoL, I.free⟩ hs, by simpa using I.len⟩ ⟨_, hs, .inl rfl⟩
    · exact (hs.2 b (Nat.ne_of_lt (Nat.lt_of_lt_of_le (Heap.lt_size e) I.ok.above))).trans (I.base.keep b o e n hb hx)
    · obtain ⟨sl, e1⟩ := I.base.slot b o e n hb hx
      exact ⟨sl, (hs.2 b (Nat.ne_of_lt (Nat.lt_of_lt_of_le (Heap.lt_size e) I.ok.above))).trans e1⟩
    · obtain ⟨o', e1⟩ := I.base.there b o e hx
      exact ⟨o', (hs.2 b (Nat.ne_of_lt (Nat.lt_of_lt_of_le (Heap.lt_size e) I.ok.above))).trans e1⟩
    · by_cases hj : j = i
      · subst hj
        rw [hi] at e1; cases e1
        rw [List.getElem?_set_self hiσ] at e2
        cases e2
        exact ⟨u, r, .inl ⟨hk, by simp⟩⟩
      · rw [List.getElem?_set_ne (Ne.symm hj)] at e2
        obtain ⟨u', r', q⟩ := hl j y v' e1 e2 e3
        refine ⟨u', r', ?_⟩
        rcases q with ⟨k, e⟩ | ⟨k, c, e, z⟩
        · refine .inl ⟨k, ?_⟩
          have : y ≠ x := fun e => hj (nodup_ix hN e1 (e ▸ hi))
          simp [this, e]
        · exact .inr ⟨k, c, e, z.sameBut hs (cne y c e)⟩
    · obtain ⟨w', z⟩ := I.cell y c e
      exact ⟨w', z.sameBut hs (cne y c e)⟩
    · obtain ⟨e, n, ne, nf, d⟩ := I.pin p hp
      exact ⟨(hs.2 p.1 ne).trans e, n, ne, nf, d⟩
  · have hfn : X.fn x = true := by
      rcases hf with z | z
      · exact z
      · rw [z] at hk; cases hk
    obtain ⟨c, hc⟩ := I.ok.has x (.inl hk)
    obtain ⟨w', z⟩ := I.cell x c hc
    refine wpAny_storeName_cell I.ok.kind hk hc z (fun h' hc' hs => ?_)
    obtain ⟨oc, hoc, hocd⟩ := id z
    refine h { s with heap := h' } ⟨I.ok, I.os, I.bare, ⟨fun b o e n hb hx => ?_, fun b o e n hb hx => ?_, I.base.free, fun b o e hx => ?_, I.base.tups, I.base.frzs, I.base.tbls⟩, ⟨m, hn.sameBut hs (Ne.symm (cne x c hc)), fun j y v' e1 e2 e3 => ?_⟩, fun y c' e => ?_, I.free, I.freeC, fun p hp => ?_, tracked ⟨oc, hoc, I.freeC x c hc⟩ hs, by simpa using I.len⟩ ⟨c, hs, .inr hc⟩
    · exact (hs.2 b (Nat.ne_of_lt (Nat.lt_of_lt_of_le (Heap.lt_size e) (I.ok.cab x c hfn hc)))).trans (I.base.keep b o e n hb hx)
    · obtain ⟨sl, e1⟩ := I.base.slot b o e n hb hx
      exact ⟨sl, (hs.2 b (Nat.ne_of_lt (Nat.lt_of_lt_of_le (Heap.lt_size e) (I.ok.cab x c hfn hc)))).trans e1⟩
    · obtain ⟨o', e1⟩ := I.base.there b o e hx
      exact ⟨o', (hs.2 b (Nat.ne_of_lt (Nat.lt_of_lt_of_le (Heap.lt_size e) (I.ok.cab x c hfn hc)))).trans e1⟩
    · by_cases hj : j = i
      · subst hj
        rw [hi] at e1; cases e1
        rw [List.getElem?_set_self hiσ] at e2
        cases e2
        exact ⟨u, r, .inr ⟨.inl hk, c, hc, hc'⟩⟩
      · rw [List.getElem?_set_ne (Ne.symm hj)] at e2
        obtain ⟨u', r', q⟩ := hl j y v' e1 e2 e3
        refine ⟨u', r', ?_⟩
        rcases q with q | ⟨k, c', e, z'⟩
        · exact .inl q
        · refine .inr ⟨k, c', e, z'.sameBut hs ?_⟩
          rintro rfl
          exact hj (nodup_ix hN e1 (I.ok.inj _ _ _ e hc ▸ hi))
    · by_cases hcc : c' = c
      · subst hcc; exact ⟨_, hc'⟩
      · obtain ⟨w2, z2⟩ := I.cell y c' e
        exact ⟨w2, z2.sameBut hs hcc⟩
    · obtain ⟨e, n, ne, nf, d⟩ := I.pin p hp
      refine ⟨(hs.2 p.1 ?_).trans e, n, ne, nf, d⟩
      intro q
      rw [q, hoc] at e
      have q' : oc = p.2 := Option.some.inj e
      exact d w' (by rw [← q']; exact hocd)
theorem store_ok {M : Model} {A : Around} {E : Value → Shared → Prop} {i : Nat} {x : Str} {v : V} {u : Value} {Q : Unit → Shared → Prop} (I : Inv X pins σ H s) (hN : X.N.Nodup) (hi : X.N[i]? = some x) (hx : Loc X.env.scope x) (r : RelV v u)
    (h : ∀ s', Inv X pins (σ.set i (some v)) H s' → Q () s') (hf : X.fn x = true ∨ X.env.scope.names.lookup x = some .local := by first | exact .inl rfl | exact .inr rfl | assumption) : wpAny M A (storeName X.env x u) Q E s :=
  store_ok2 I hN hi hx r (fun s' I' _ => h s' I') hf

theorem Inv.call' {s' : Shared} {ch : List Addr} (I : Inv X pins σ H s) (ho : s'.os = s.os) (u : Un (frs X.stack) ch H H' s.heap s'.heap) (hok : HOk X.prog X.w H' s'.heap) (hg : GB s.gens s'.gens)
    (hch : ∀ b ∈ ch, (b ∈ X.ex ∨ X.s_0.heap.objs.size ≤ b) ∧ b ≠ X.env.locals ∧ (∀ x c, X.env.cells.lookup x = some c → c ≠ b) ∧ ∀ p ∈ X.pn ++ pins, p.1 ≠ b) : Inv X pins σ H' s' := by
  obtain ⟨h', g', d', t', o'⟩ := s'
  have e : o' = s.os := ho
  subst e
  exact I.call (g' := g') (t' := t') (d' := d') u hok hg hch
end



abbrev XK := Value → Option Addr → Hp → Prop
abbrev St := List (Option V)
abbrev VK := V → Hp → Prop

abbrev TE := St → Hp → VK → Prop
abbrev TT := St → Hp → (Bool → Hp → Prop) → Prop
abbrev TA := St → Hp → (List V → Hp → Prop) → Prop

structure Ends where
  nx : St → Hp → Prop
  rt : VK
  bk : St → Hp → Prop := fun _ _ => False
  ct : St → Hp → Prop := fun _ _ => False
abbrev TS := Ends → St → Hp → Prop

def EP (X : Cx) (pins : List (Addr × Obj)) (σ : St) (Q : VK) (u : Value) (s' : Shared) : Prop := ∃ v H', Inv X pins σ H' s' ∧ RelV v u ∧ Q v H'
def TP (X : Cx) (pins : List (Addr × Obj)) (σ : St) (Q : Bool → Hp → Prop) (b : Bool) (s' : Shared) : Prop := ∃ H', Inv X pins σ H' s' ∧ Q b H'
def AP (X : Cx) (pins : List (Addr × Obj)) (σ : St) (Q : List V → Hp → Prop) (us : List Value) (s' : Shared) : Prop := ∃ vs H', Inv X pins σ H' s' ∧ Vals vs us ∧ Q vs H'
def SP (X : Cx) (pins : List (Addr × Obj)) (D : Ends) (f : Flow) (s' : Shared) : Prop :=
  match f with
  | .next => ∃ σ' H', Inv X pins σ' H' s' ∧ D.nx σ' H'
  | .brk => ∃ σ' H', Inv X pins σ' H' s' ∧ D.bk σ' H'
  | .cont => ∃ σ' H', Inv X pins σ' H' s' ∧ D.ct σ' H'
  | .ret u => ∃ v σ' H', Inv X pins σ' H' s' ∧ RelV v u ∧ D.rt v H'

def PE (X : Cx) (e : Expr) (t : TE) : Prop :=
  ∀ (pins : List (Addr × Obj)) (s : Shared) (σ : St) (H : Hp) (Q : VK), Inv X pins σ H s → t σ H Q → wpAny (model X.prog X.w) X.A (eval e X.env) (EP X pins σ Q) X.xe s
def PT (X : Cx) (e : Expr) (t : TT) : Prop :=
  ∀ (pins : List (Addr × Obj)) (s : Shared) (σ : St) (H : Hp) (Q : Bool → Hp → Prop), Inv X pins σ H s → t σ H Q → wpAny (model X.prog X.w) X.A (isTrue e X.env (eval e X.env)) (TP X pins σ Q) X.xe s

def PW (X : Cx) (e : Expr) (t : TT) : Prop :=
  ∀ (whole : Sem Value) (pins : List (Addr × Obj)) (s : Shared) (σ : St) (H : Hp) (Q : Bool → Hp → Prop), Inv X pins σ H s → t σ H Q → wpAny (model X.prog X.w) X.A (isTrue e X.env whole) (TP X pins σ Q) X.xe s
theorem PW.pt {X : Cx} {e : Expr} {t : TT} (h : PW X e t) : PT X e t := h _

def PA (X : Cx) (es : List Expr) (t : TA) : Prop :=
  ∀ (pos : Pos) (pins : List (Addr × Obj)) (s : Shared) (σ : St) (H : Hp) (Q : List V → Hp → Prop), Inv X pins σ H s → t σ H Q → wpAny (model X.prog X.w) X.A (spliced (backTo pos (starEach es X.env))) (AP X pins σ Q) X.xe s
def PS (X : Cx) (st : Stmt) (t : TS) : Prop :=
  ∀ (pins : List (Addr × Obj)) (s : Shared) (σ : St) (H : Hp) (D : Ends), Inv X pins σ H s → t D σ H → wpAny (model X.prog X.w) X.A (exec st X.env) (SP X pins D) X.xe s
def PSs (X : Cx) (st : List Stmt) (t : TS) : Prop :=
  ∀ (pins : List (Addr × Obj)) (s : Shared) (σ : St) (H : Hp) (D : Ends), Inv X pins σ H s → t D σ H → wpAny (model X.prog X.w) X.A (execs st X.env) (SP X pins D) X.xe s

theorem thn {α : Type} {t : Sem α} {Q Q' : α → Shared → Prop} {M : Model} {A : Around} {E : Value → Shared → Prop} {s : Shared} (h : wpAny M A t Q E s) (hQ : ∀ a s, Q a s → Q' a s) : wpAny M A t Q' E s := wpAny_mono h hQ fun _ _ x => x
end L2

namespace L2
open PySem PySem.Spec PyProof.Rows
section
variable {X : Cx}


def tVar (i : Nat) : TE := fun σ H Q => ∃ v, σ[i]? = some (some v) ∧ Q v H
def tC (v : V) : TE := fun _ H Q => Q v H
theorem pe_var {i : Nat} {x : Str} {pos : Pos} (hN : X.N[i]? = some x) (hv : Vis X.env.scope x) (hd : (x == ("__debug__" : Str)) = false := by decide) (hcd : (x == ("__classdict__" : Str)) = false := by decide) : PE X (.Name x pos) (tVar i) := by
  intro pins s σ H Q I h
  obtain ⟨v, e, h⟩ := h
  obtain ⟨m, hn, hl⟩ := I.loc
  obtain ⟨u, r, l⟩ := hl i x v hN e hv
  have fin : EP X pins σ Q u s := ⟨v, H, I, r, h⟩
  rcases l with ⟨hk, hm⟩ | ⟨hk, c, hc, hcell⟩
  · exact wpAny_Name (wpAny_loadName_local I.ok.kind hk hn hm fin) hd
  · rcases hk with hk | hk
    · exact wpAny_Name (wpAny_loadName_cell I.ok.kind hk hc hcell fin) hd
    · exact wpAny_Name (wpAny_loadName_free I.ok.kind hk hc hcell fin hcd) hd
theorem pe_int {i j pos} : PE X (.Constant (.int i) j pos) (tC (.int i)) := fun _ _ _ H _ I h => wpAny_Constant_int ⟨.int i, H, I.tok _, ⟨_, rfl⟩, h⟩
theorem pe_bl {b j pos} : PE X (.Constant (.bool b) j pos) (tC (.bl b)) := fun _ _ _ H _ I h => Constant_bool ⟨.bl b, H, I, rfl, h⟩
theorem pe_non {j pos} : PE X (.Constant .none j pos) (tC .non) := fun _ _ _ H _ I h => Constant_none ⟨.non, H, I, rfl, h⟩
theorem pe_str {x j pos} : PE X (.Constant (.str x) j pos) (tC (.str x)) := fun _ _ _ H _ I h => Calls.Constant_str ⟨.str x, H, I.tok _, ⟨_, rfl⟩, h⟩


def Gl (X : Cx) (x : Str) : Prop := X.env.kindOf x = some .globalImplicit
theorem ld_glob {E : Value → Shared → Prop} {pins : List (Addr × Obj)} {s : Shared} {σ : St} {H : Hp} {x : Str} {u : Value} {pos : Pos} {Q : Value → Shared → Prop} (I : Inv X pins σ H s) (hg : Gl X x) (hm : X.mg x = some u) (h : Q u s)
    (hd : (x == ("__debug__" : Str)) = false := by decide) : wpAny (model X.prog X.w) X.A (eval (.Name x pos) X.env) Q E s :=
  Calls.Name_function_global I.ok.kind hg (Calls.loadGlobal_global (by rw [I.ok.glob]; exact I.mod.glob.keeps I.bk) hm h) hd
theorem ld_blt {E : Value → Shared → Prop} {pins : List (Addr × Obj)} {s : Shared} {σ : St} {H : Hp} {x : Str} {u : Value} {pos : Pos} {Q : Value → Shared → Prop} (I : Inv X pins σ H s) (hg : Gl X x) (hm : X.mg x = none) (hv : bootBuiltins x = some u) (h : Q u s)
    (hn : x ≠ "__name__" := by decide) (hd : (x == ("__debug__" : Str)) = false := by decide) : wpAny (model X.prog X.w) X.A (eval (.Name x pos) X.env) Q E s := by
  obtain ⟨mb, h1, h2⟩ := I.mod.blt
  exact Calls.Name_function_global I.ok.kind hg (Calls.loadGlobal_builtin (by rw [I.ok.glob]; exact I.mod.glob.keeps I.bk) hm (by rw [I.ok.blt]; exact h1.keeps I.bk) ((h2 x hn).trans hv) h) hd

theorem pe_glob {x : Str} {v : V} {u : Value} {pos : Pos} (hg : Gl X x) (hm : X.mg x = some u) (r : RelV v u) (hd : (x == ("__debug__" : Str)) = false := by decide) : PE X (.Name x pos) (tC v) :=
  fun _ _ _ H _ I h => ld_glob I hg hm ⟨v, H, I, r, h⟩ hd
theorem pe_bltn {x : Str} {v : V} {u : Value} {pos : Pos} (hg : Gl X x) (hm : X.mg x = none) (hv : bootBuiltins x = some u) (r : RelV v u) (hn : x ≠ "__name__" := by decide) (hd : (x == ("__debug__" : Str)) = false := by decide) : PE X (.Name x pos) (tC v) :=
  fun _ _ _ H _ I h => ld_blt I hg hm hv ⟨v, H, I, r, h⟩ hn hd



variable {a b : Expr} {ta tb : TE} {pos : Pos}
variable {tA tB' : TT} {rest : List Expr}
def tAnd (t u : TT) : TT := fun σ H Q => t σ H fun c H1 => if c = true then u σ H1 Q else Q false H1
def tOr (t u : TT) : TT := fun σ H Q => t σ H fun c H1 => if c = true then Q true H1 else u σ H1 Q
def tNot (t : TT) : TT := fun σ H Q => t σ H fun c H1 => Q (!c) H1
theorem pw_and1 (ha : PT X a tA) : PW X (.BoolOp .And [a] pos) tA := by
  intro wh pins s σ H Q I h
  refine isTrue_and (thn (ha pins s σ H Q I h) fun c s1 e => ?_)
  cases c with
  | true => exact isTrue_and_nil e
  | false => exact e
theorem pw_or1 (ha : PT X a tA) : PW X (.BoolOp .Or [a] pos) tA := by
  intro wh pins s σ H Q I h
  refine isTrue_or (thn (ha pins s σ H Q I h) fun c s1 e => ?_)
  cases c with
  | false => exact isTrue_or_nil e
  | true => exact e
theorem pw_and (ha : PT X a tA) (hb : PW X (.BoolOp .And (b :: rest) pos) tB') : PW X (.BoolOp .And (a :: b :: rest) pos) (tAnd tA tB') := by
  intro wh pins s σ H Q I h
  refine isTrue_and (thn (ha pins s σ H _ I h) fun c s1 ⟨H1, I1, q1⟩ => ?_)
  cases c with
  | true => exact hb wh pins s1 σ H1 Q I1 q1
  | false => exact ⟨H1, I1, q1⟩
theorem pw_or (ha : PT X a tA) (hb : PW X (.BoolOp .Or (b :: rest) pos) tB') : PW X (.BoolOp .Or (a :: b :: rest) pos) (tOr tA tB') := by
  intro wh pins s σ H Q I h
  refine isTrue_or (thn (ha pins s σ H _ I h) fun c s1 ⟨H1, I1, q1⟩ => ?_)
  cases c with
  | true => exact ⟨H1, I1, q1⟩
  | false => exact hb wh pins s1 σ H1 Q I1 q1
theorem pt_not (ha : PT X a tA) : PT X (.UnaryOp .Not a pos) (tNot tA) := by
  intro pins s σ H Q I h
  exact isTrue_not (ha pins s σ H (fun c H1 => Q (!c) H1) I h)

def tAndV (ta tb : TE) : TE := fun σ H Q => ta σ H fun x H1 => ∃ c, x = .bl c ∧ if c = true then tb σ H1 Q else Q (.bl false) H1
def tOrV (ta tb : TE) : TE := fun σ H Q => ta σ H fun x H1 => ∃ c, x = .bl c ∧ if c = true then Q (.bl true) H1 else tb σ H1 Q
def tNotV (ta : TE) : TE := fun σ H Q => ta σ H fun x H1 => ∃ c, x = .bl c ∧ Q (.bl (!c)) H1
theorem pe_one {op} {t : TE} (h : PE X a t) : PE X (.BoolOp op [a] pos) t := fun pins s σ H Q I hw => BoolOp_one (h pins s σ H Q I hw)
theorem pe_and (ha : PE X a ta) (hb : PE X (.BoolOp .And (b :: rest) pos) tb) : PE X (.BoolOp .And (a :: b :: rest) pos) (tAndV ta tb) := by
  intro pins s σ H Q I h
  refine BoolOp_and (thn (ha pins s σ H _ I h) fun v s1 ⟨x, H1, I1, r1, q1⟩ => ?_)
  obtain ⟨c, rfl, q1⟩ := q1
  cases r1
  refine wpAny_truthy_bool ?_
  cases c with
  | true => exact hb pins s1 σ H1 Q I1 q1
  | false => exact ⟨.bl false, H1, I1, rfl, q1⟩
theorem pe_or (ha : PE X a ta) (hb : PE X (.BoolOp .Or (b :: rest) pos) tb) : PE X (.BoolOp .Or (a :: b :: rest) pos) (tOrV ta tb) := by
  intro pins s σ H Q I h
  refine BoolOp_or (thn (ha pins s σ H _ I h) fun v s1 ⟨x, H1, I1, r1, q1⟩ => ?_)
  obtain ⟨c, rfl, q1⟩ := q1
  cases r1
  refine wpAny_truthy_bool ?_
  cases c with
  | false => exact hb pins s1 σ H1 Q I1 q1
  | true => exact ⟨.bl true, H1, I1, rfl, q1⟩
theorem pe_not (ha : PE X a ta) : PE X (.UnaryOp .Not a pos) (tNotV ta) := by
  intro pins s σ H Q I h
  refine UnaryOp_ (thn (ha pins s σ H _ I h) fun v s1 ⟨x, H1, I1, r1, q1⟩ => ?_)
  obtain ⟨c, rfl, q1⟩ := q1
  cases r1
  exact not_of (wpAny_truthy_bool ⟨.bl (!c), H1, I1, rfl, q1⟩)

def tIf (t : TT) (ta tb : TE) : TE := fun σ H Q => t σ H fun c H1 => if c = true then ta σ H1 Q else tb σ H1 Q
theorem pe_ifExp {c : Expr} (hc : PT X c tA) (ha : PE X a ta) (hb : PE X b tb) : PE X (.IfExp c a b pos) (tIf tA ta tb) := by
  intro pins s σ H Q I h
  refine wpAny_IfExp (thn (hc pins s σ H _ I h) fun d s1 ⟨H1, I1, q1⟩ => ?_)
  cases d with
  | true => exact ha pins s1 σ H1 Q I1 q1
  | false => exact hb pins s1 σ H1 Q I1 q1
end
end L2

namespace L2
open PySem PySem.Spec PyProof.Rows


def SqL (K : PySem.W.Frag) (H : Hp) (a : Addr) (xs : List V) : Prop :=
  Rd H a (.lst xs) ∨
    ∃ (o : Obj) (its : Array Value) (n : Nat), K.lookup a = some o ∧ o.cls = .type "list" ∧ o.dict = none ∧ o.data = .seq its n ∧ its.size ≤ sizeLine ∧ Vals xs its.toList
def SqT (K : PySem.W.Frag) (H : Hp) (a : Addr) (xs : List V) : Prop :=
  Rd H a (.tup xs) ∨
    ∃ (o : Obj) (its : Array Value) (n : Nat), K.lookup a = some o ∧ o.cls = .type "tuple" ∧ o.data = .seq its n ∧ its.size ≤ sizeLine ∧ Vals xs its.toList
def absV : Value → Option V
  | .none => some .non
  | .bool b => some (.bl b)
  | .int i _ => some (.int i)
  | .str x _ => some (.str x)
  | .bytes b _ => some (.byt b)
  | .float b _ => some (.flt b)
  | .ref a => some (.ref a)
  | .type n => some (.ty n)
  | _ => none
theorem RelV.abs {x : V} {u : Value} (r : RelV x u) : absV u = some x := by
  cases x with
  | non => cases r; rfl
  | bl _ => cases r; rfl
  | int _ => obtain ⟨t, rfl⟩ := r; rfl
  | str _ => obtain ⟨t, rfl⟩ := r; rfl
  | byt _ => obtain ⟨t, rfl⟩ := r; rfl
  | flt _ => obtain ⟨t, rfl⟩ := r; rfl
  | ref _ => cases r; rfl
  | ty _ => cases r; rfl
theorem RelV.inj {x y : V} {u : Value} (r : RelV x u) (q : RelV y u) : x = y := Option.some.inj (r.abs.symm.trans q.abs)
theorem Vals.inj : ∀ {xs ys : List V} {us : List Value}, Vals xs us → Vals ys us → xs = ys
  | _, _, _, .nil, .nil => rfl
  | _, _, _, .cons r t, .cons r' t' => by rw [r.inj r', Vals.inj t t']
section
variable {X : Cx} {pins : List (Addr × Obj)} {σ : St} {H : Hp} {s : Shared} {a : Addr} {xs ys : List V}
theorem SqL.of {K : PySem.W.Frag} (h : H a = some (.lst xs)) : SqL K H a xs := .inl (.inl h)
theorem SqT.of {K : PySem.W.Frag} (h : H a = some (.tup xs)) : SqT K H a xs := .inl (.inl h)
theorem Inv.list (I : Inv X pins σ H s) (h : SqL X.K H a xs) : ∃ its : List Value, Vals xs its ∧ PlainL s.heap a its.toArray ∧ xs.length ≤ sizeLine := by
  rcases h with h | ⟨o, its, n, hk, hc, hd, hs, hz, r⟩
  · obtain ⟨z, its, n, r, e⟩ := h.ok I.hok
    exact ⟨its, r, ⟨_, n, e, rfl, rfl, rfl⟩, z⟩
  · refine ⟨its.toList, r, ⟨o, n, I.kIn a o hk, hc, hd, by simpa using hs⟩, ?_⟩
    have e := r.length
    simp only [Array.length_toList] at e
    omega
theorem Inv.tuple (I : Inv X pins σ H s) (h : SqT X.K H a xs) : ∃ its : List Value, Vals xs its ∧ IsTup s.heap a its.toArray ∧ xs.length ≤ sizeLine := by
  rcases h with h | ⟨o, its, n, hk, hc, hs, hz, r⟩
  · obtain ⟨z, its, r, p⟩ := h.ok I.hok
    exact ⟨its, r, p, z⟩
  · refine ⟨its.toList, r, ⟨o, I.kIn a o hk, hc, n, by simpa using hs⟩, ?_⟩
    have e := r.length
    simp only [Array.length_toList] at e
    omega
theorem Inv.list_inj (I : Inv X pins σ H s) (h : SqL X.K H a xs) (h' : SqL X.K H a ys) : xs = ys := by
  obtain ⟨its, r, ⟨o, n, e, _, _, d⟩, _⟩ := I.list h
  obtain ⟨its', r', ⟨o', n', e', _, _, d'⟩, _⟩ := I.list h'
  rw [e] at e'; cases e'
  rw [d] at d'
  injection d' with d1 _
  have : its = its' := by simpa using congrArg Array.toList d1
  subst this
  exact r.inj r'
theorem Inv.tuple_inj (I : Inv X pins σ H s) (h : SqT X.K H a xs) (h' : SqT X.K H a ys) : xs = ys := by
  obtain ⟨its, r, ⟨o, e, _, n, d⟩, _⟩ := I.tuple h
  obtain ⟨its', r', ⟨o', e', _, n', d'⟩, _⟩ := I.tuple h'
  rw [e] at e'; cases e'
  rw [d] at d'
  injection d' with d1 _
  have : its = its' := by simpa using congrArg Array.toList d1
  subst this
  exact r.inj r'
end


abbrev Cx.wish (X : Cx) (E : Value → Shared → Prop) : Cx := { X with xe := E }

abbrev Cx.nox (X : Cx) : Cx := X.wish fun _ _ => False
theorem Cx.Ok.wish {X : Cx} (ok : X.Ok) (E : Value → Shared → Prop) : (X.wish E).Ok :=
  ⟨ok.mod, ok.kind, ok.glob, ok.blt, ok.above, ok.inj, ok.has, ok.cab, ok.hd, ok.frames, ok.stk, ok.exf, ok.bs, ok.bsz, ok.noex, ok.exfs, ok.funs, ok.frf, ok.tabs⟩
theorem Cx.Ok.unwish {X : Cx} {E : Value → Shared → Prop} (ok : (X.wish E).Ok) : X.Ok :=
  ⟨ok.mod, ok.kind, ok.glob, ok.blt, ok.above, ok.inj, ok.has, ok.cab, ok.hd, ok.frames, ok.stk, ok.exf, ok.bs, ok.bsz, ok.noex, ok.exfs, ok.funs, ok.frf, ok.tabs⟩
section
variable {X : Cx} {pins : List (Addr × Obj)} {σ : St} {H : Hp} {s : Shared} {E : Value → Shared → Prop}
theorem Inv.wish (I : Inv X pins σ H s) (E : Value → Shared → Prop) : Inv (X.wish E) pins σ H s := ⟨I.ok.wish E, I.os, I.bare, I.base, I.loc, I.cell, I.free, I.freeC, I.pin, I.hok, I.len⟩
theorem Inv.unwish (I : Inv (X.wish E) pins σ H s) : Inv X pins σ H s := ⟨I.ok.unwish, I.os, I.bare, I.base, I.loc, I.cell, I.free, I.freeC, I.pin, I.hok, I.len⟩
theorem SP.unwish {D : Ends} {f : Flow} {s' : Shared} (h : SP (X.wish E) pins D f s') : SP X pins D f s' := by
  cases f with
  | next => obtain ⟨σ', H', I, q⟩ := h; exact ⟨σ', H', I.unwish, q⟩
  | brk => obtain ⟨σ', H', I, q⟩ := h; exact ⟨σ', H', I.unwish, q⟩
  | cont => obtain ⟨σ', H', I, q⟩ := h; exact ⟨σ', H', I.unwish, q⟩
  | ret u => obtain ⟨v, σ', H', I, r, q⟩ := h; exact ⟨v, σ', H', I.unwish, r, q⟩
theorem PE.nox {e : Expr} {t : TE} (h : PE X.nox e t) : PE X e t := fun pins s σ H Q I hw =>
  wpAny_mono (h pins s σ H Q (I.wish _) hw) (fun _ _ ⟨v, H', I', r, q⟩ => ⟨v, H', I'.unwish, r, q⟩) fun _ _ z => False.elim z
theorem PT.nox {e : Expr} {t : TT} (h : PT X.nox e t) : PT X e t := fun pins s σ H Q I hw =>
  wpAny_mono (h pins s σ H Q (I.wish _) hw) (fun _ _ ⟨H', I', q⟩ => ⟨H', I'.unwish, q⟩) fun _ _ z => False.elim z
theorem PSs.nox {st : List Stmt} {t : TS} (h : PSs X.nox st t) : PSs X st t := fun pins s σ H D I hw =>
  wpAny_mono (h pins s σ H D (I.wish _) hw) (fun _ _ q => q.unwish) fun _ _ z => False.elim z
end


section
variable {X : Cx} {st : Stmt} {rest : List Stmt} {t u : TS} {e : Expr} {te : TE} {pos : Pos}
def tNext : TS := fun D σ H => D.nx σ H
def tSeq (t u : TS) : TS := fun D σ H => t { D with nx := u D } σ H
theorem pss_nil : PSs X [] tNext := fun _ _ σ H _ I h => wpAny_execs_nil ⟨σ, H, I, h⟩
theorem pss_cons (h1 : PS X st t) (h2 : PSs X rest u) : PSs X (st :: rest) (tSeq t u) := by
  intro pins s σ H D I h
  refine wpAny_execs_cons (thn (h1 pins s σ H { D with nx := u D } I h) fun f s1 q => ?_)
  cases f with
  | next =>
    obtain ⟨σ', H', I', q⟩ := q
    exact h2 pins s1 σ' H' D I' q
  | ret v => exact q
  | brk => exact q
  | cont => exact q
theorem pss_one (h1 : PS X st t) : PSs X [st] t := by
  intro pins s σ H D I h
  refine wpAny_execs_cons (thn (h1 pins s σ H D I h) fun f s1 q => ?_)
  cases f with
  | next => exact wpAny_execs_nil q
  | ret v => exact q
  | brk => exact q
  | cont => exact q
theorem Inv.quiet {pins : List (Addr × Obj)} {σ : St} {H : Hp} {s : Shared} (I : Inv X pins σ H s) : interactive X.env = false := by simp [interactive, I.ok.kind]

def tDrop (te : TE) : TS := fun D σ H => te σ H fun _ H1 => D.nx σ H1
theorem ps_expr (he : PE X e te) (hs : swapsWith e none pos.line X.env = pure false := by rfl) : PS X (.Expr e pos) (tDrop te) := by
  intro pins s σ H D I h
  exact wpAny_Expr_any (thn (he pins s σ H _ I h) fun v s1 ⟨x, H1, I1, r1, q1⟩ => ⟨σ, H1, I1, q1⟩) I.quiet hs
def tRet (te : TE) : TS := fun D σ H => te σ H D.rt
theorem ps_ret (he : PE X e te) : PS X (.Return (some e) pos) (tRet te) := by
  intro pins s σ H D I h
  exact wpAny_Return_some (thn (he pins s σ H _ I h) fun v s1 ⟨x, H1, I1, r1, q1⟩ => ⟨x, σ, H1, I1, r1, q1⟩)
def tIfS (c : TT) (t u : TS) : TS := fun D σ H => c σ H fun b H1 => if b = true then t D σ H1 else u D σ H1
theorem ps_if {c : Expr} {a b : List Stmt} {tc : TT} (hc : PT X c tc) (ha : PSs X a t) (hb : PSs X b u) : PS X (.If c a b pos) (tIfS tc t u) := by
  intro pins s σ H D I h
  refine wpAny_If (thn (hc pins s σ H _ I h) fun d s1 ⟨H1, I1, q1⟩ => ?_)
  cases d with
  | true => exact ha pins s1 σ H1 D I1 q1
  | false => exact hb pins s1 σ H1 D I1 q1

end


abbrev TG := V → St → Hp → (St → Hp → Prop) → Prop
abbrev TGs := List V → St → Hp → (St → Hp → Prop) → Prop
def PG (X : Cx) (target : Expr) (t : TG) : Prop :=
  ∀ (pins : List (Addr × Obj)) (s : Shared) (σ : St) (H : Hp) (v : V) (u : Value) (Q : St → Hp → Prop), Inv X pins σ H s → RelV v u → t v σ H Q →
    wpAny (model X.prog X.w) X.A (assign target X.env u) (fun _ s' => ∃ σ' H', Inv X pins σ' H' s' ∧ Q σ' H') X.xe s

def PGs (X : Cx) (ts : List Expr) (t : TGs) : Prop :=
  ∀ (pins : List (Addr × Obj)) (s : Shared) (σ : St) (H : Hp) (vs : List V) (us : List Value) (Q : St → Hp → Prop), Inv X pins σ H s → Vals vs us → t vs σ H Q →
    wpAny (model X.prog X.w) X.A (assignInOrder ((assignEach ts X.env).map (·.2)) us) (fun _ s' => ∃ σ' H', Inv X pins σ' H' s' ∧ Q σ' H') X.xe s

abbrev TSet := V → V → V → Hp → (Hp → Prop) → Prop
def PSet (X : Cx) (t : TSet) : Prop :=
  ∀ (pins : List (Addr × Obj)) (s : Shared) (σ : St) (H : Hp) (o i v : V) (ov iv u : Value) (Q : Hp → Prop), Inv X pins σ H s → RelV o ov → RelV i iv → RelV v u → t o i v H Q →
    wpAny (model X.prog X.w) X.A (setItem ov iv u) (fun _ s' => ∃ H', Inv X pins σ H' s' ∧ Q H') X.xe s

section
variable {X : Cx} {pos : Pos}
def gName (i : Nat) : TG := fun v σ H Q => Q (σ.set i (some v)) H
theorem pg_name {i : Nat} {x : Str} (hN : X.N.Nodup) (hi : X.N[i]? = some x) (hx : Loc X.env.scope x) (hf : X.fn x = true ∨ X.env.scope.names.lookup x = some .local := by first | exact .inl rfl | exact .inr rfl | assumption) : PG X (.Name x pos) (gName i) := by
  intro pins s σ H v u Q I r h
  exact wpAny_assign_Name (store_ok I hN hi hx r (fun s' I' => ⟨_, H, I', h⟩) hf)
def gNil : TGs := fun vs σ H Q => vs = [] ∧ Q σ H
def gCons (t : TG) (u : TGs) : TGs := fun vs σ H Q => ∃ v r, vs = v :: r ∧ t v σ H fun σ' H' => u r σ' H' Q
theorem pgs_nil : PGs X [] gNil := by
  intro pins s σ H vs us Q I r h
  obtain ⟨e, h⟩ := h
  subst e
  cases r
  exact assignInOrder_nil ⟨σ, H, I, h⟩
theorem pgs_cons {e : Expr} {es : List Expr} {t : TG} {u : TGs} (h1 : PG X e t) (h2 : PGs X es u)
    (hs : (assignEach (e :: es) X.env).map (·.2) = assign e X.env :: (assignEach es X.env).map (·.2) := by rfl) : PGs X (e :: es) (gCons t u) := by
  intro pins s σ H vs us Q I r h
  obtain ⟨v, vr, e1, h⟩ := h
  subst e1
  cases r with
  | cons r rr =>
    rw [hs]
    refine assignInOrder_cons (thn (h1 pins s σ H _ _ _ I r h) fun _ s1 ⟨σ1, H1, I1, q1⟩ => ?_)
    exact h2 pins s1 σ1 H1 _ _ Q I1 rr q1

def gTup (K : PySem.W.Frag) (n : Nat) (t : TGs) : TG := fun v σ H Q => ∃ a xs, v = .ref a ∧ SqT K H a xs ∧ xs.length = n ∧ t xs σ H Q
theorem pg_tup {es : List Expr} {k : Nat} {t : TGs} {n : Nat} (hc : X.calm = true) (h : PGs X es t)
    (hn : (assignEach es X.env).length = n := by rfl) (hst : (assignEach es X.env).findIdx? (·.1) = none := by rfl) : PG X (.Tuple es k pos) (gTup X.K n t) := by
  intro pins s σ H v u Q I r hw
  obtain ⟨a, xs, e1, hq, hl, hw⟩ := hw
  subst e1
  cases r
  obtain ⟨its, rv, ht, hz⟩ := I.tuple hq
  refine assign_Tuple_tuple (I.ok.hd hc) ht (by simp [hn, ← hl, rv.length]) hst fun h' hx => ?_
  have I1 : Inv X pins σ H { s with heap := h' } := I.kept (t' := s.toks) fun b o e => hx b o (Nat.ne_of_lt (Heap.lt_size e)) e
  exact h pins _ σ H xs _ Q I1 (by simpa using rv) hw

def gSub (to ti : TE) (t : TSet) : TG := fun v σ H Q => to σ H fun o H1 => ti σ H1 fun i H2 => t o i v H2 fun H3 => Q σ H3
theorem pg_sub {o i : Expr} {to ti : TE} {t : TSet} (ho : PE X o to) (hi : PE X i ti) (hs : PSet X t)
    (ha : ∀ v, assign (.Subscript o i pos) X.env v = (do
      let ov ← holding [v] (eval o X.env)
      let iv ← holding [v, ov] (eval i X.env)
      standAt pos
      holding [v, ov, iv] (setItem ov iv v)
      release [v, ov, iv] []) := by intro _; rfl) : PG X (.Subscript o i pos) (gSub to ti t) := by
  intro pins s σ H v u Q I r h
  rw [ha]
  refine wpAny_bind (wpAny_holding (thn (ho pins s σ H _ I h) fun ov s1 ⟨x, H1, I1, r1, q1⟩ => ?_))
  refine wpAny_bind (wpAny_holding (thn (hi pins s1 σ H1 _ I1 q1) fun iv s2 ⟨y, H2, I2, r2, q2⟩ => ?_))
  refine wpAny_bind (wpAny_standAt (wpAny_bind (wpAny_holding (thn (hs pins s2 σ H2 x y v ov iv u _ I2 r1 r2 r q2) fun _ s3 ⟨H3, I3, q3⟩ => ?_))))
  exact wpAny_release ⟨σ, H3, I3, q3⟩

def tAsg (te : TE) (g : TG) : TS := fun D σ H => te σ H fun x H1 => g x σ H1 D.nx
theorem ps_asg {tg e : Expr} {te : TE} {g : TG} (he : PE X e te) (hg : PG X tg g) (hs : swapsWithSole [tg] e pos.line X.env = pure false := by rfl) (hw : swappedStores [tg] e X.env = pure none := by rfl)
    (h1 : (assignEach [tg] X.env).map (·.2) = [assign tg X.env] := by rfl) : PS X (.Assign [tg] e pos) (tAsg te g) := by
  intro pins s σ H D I h
  refine wpAny_Assign_stores (thn (he pins s σ H _ I h) fun v s1 ⟨x, H1, I1, r1, q1⟩ => ?_) hs hw
  rw [h1]
  exact thn (hg pins s1 σ H1 x v _ I1 r1 q1) fun _ s2 q => q

theorem ps_set {i : Nat} {x : Str} {e : Expr} {te : TE} {pos' : Pos} (hN : X.N.Nodup) (hi : X.N[i]? = some x) (hx : Loc X.env.scope x) (he : PE X e te) (hs : swapsWith e (some (.Name x pos')) pos.line X.env = pure false := by rfl) (hf : X.fn x = true ∨ X.env.scope.names.lookup x = some .local := by first | exact .inl rfl | exact .inr rfl | assumption) :
    PS X (.Assign [.Name x pos'] e pos) (tAsg te (gName i)) := by
  intro pins s σ H D I h
  refine wpAny_Assign_Name (thn (he pins s σ H _ I h) fun v s1 ⟨y, H1, I1, r1, q1⟩ => ?_) hs
  exact store_ok I1 hN hi hx r1 (fun s2 I2 => ⟨_, H1, I2, q1⟩) hf

end


section
variable {X : Cx} {pos : Pos}

end



structure It where
  go : Nat → Hp → Prop
  yld : Nat → Hp → V → Hp → Prop
  stop : Nat → Hp → Prop

def FpOk (X : Cx) (pins : List (Addr × Obj)) (H : Hp) (b : Addr) : Prop :=
  H b = none ∧ b ≠ X.env.locals ∧ b ∉ X.fs ∧ (b ∈ X.ex ∨ X.s_0.heap.objs.size ≤ b) ∧ (∀ x c, X.env.cells.lookup x = some c → c ≠ b) ∧ ∀ p ∈ X.pn ++ pins, p.1 ≠ b
theorem Inv.fpOk {X : Cx} {pins : List (Addr × Obj)} {σ : St} {H H' : Hp} {s : Shared} {b : Addr} (I : Inv X pins σ H s) (hb : s.heap.objs.size ≤ b) (hn : H' b = none) : FpOk X pins H' b := by
  refine ⟨hn, Nat.ne_of_gt (Nat.lt_of_lt_of_le I.lt hb), I.nofs hb, .inr (Nat.le_trans I.sz hb), fun x c e z => ?_, fun p hp z => ?_⟩
  · obtain ⟨v, q⟩ := I.cell x c e
    exact absurd (Nat.lt_of_lt_of_le q.lt (by rw [z]; exact hb)) (Nat.lt_irrefl _)
  · exact absurd (Nat.lt_of_lt_of_le (Heap.lt_size (I.pin p hp).1) (by rw [z]; exact hb)) (Nat.lt_irrefl _)
structure Turn (P : Program) (w : World) (K : PySem.W.Frag) (tg : Expr) (J : It) (fp : List Addr) (it : Addr) (tn : Nat → Heap → Prop) : Prop where
  mem : it ∈ fp
  obj : ∀ i h, tn i h → ∀ b ∈ fp, ∃ o, h.get? b = some o ∧ ∀ v, o.data ≠ .cell v
  keep : ∀ i h h', tn i h → (∀ b ∈ fp, ∀ o, h.get? b = some o → h'.get? b = some o) → tn i h'
  item : ∀ (X : Cx), X.prog = P → X.w = w → X.K = K → X.calm = true → ∀ (i : Nat) (pins : List (Addr × Obj)) (s : Shared) (σ : St) (H : Hp) (E : Value → Shared → Prop), Inv X pins σ H s → (∀ b ∈ fp, FpOk X pins H b) → tn i s.heap → J.go i H →
    wpAny (model P w) X.A (pyNext (.ref it)) (fun r s1 => ∃ u, r = some u ∧
      wpAny (model P w) X.A (letOwnedTupleGo tg (.ref it) u) (fun _ s2 => ∃ x H', Inv X pins σ H' s2 ∧ RelV x u ∧ J.yld i H x H' ∧ tn (i + 1) s2.heap ∧ ∀ b ∈ fp, H' b = none) E s1) E s
  done : ∀ (X : Cx), X.prog = P → X.w = w → X.K = K → X.calm = true → ∀ (i : Nat) (pins : List (Addr × Obj)) (s : Shared) (σ : St) (H : Hp) (E : Value → Shared → Prop), Inv X pins σ H s → (∀ b ∈ fp, FpOk X pins H b) → tn i s.heap → J.stop i H →
    wpAny (model P w) X.A (pyNext (.ref it)) (fun r s1 => r = none ∧ Inv X pins σ H s1) E s
  self : ∀ (A : Around) (i : Nat) (s : Shared) (Q : Value → Shared → Prop) (E : Value → Shared → Prop), tn i s.heap → Q (.ref it) s → wpAny (model P w) A (pyIter (.ref it)) Q E s
abbrev TI := St → Hp → (It → Hp → Prop) → Prop

def PIE (X : Cx) (pins : List (Addr × Obj)) (σ : St) (tg : Expr) (R : It → Hp → Prop) (itv : Value) (s2 : Shared) : Prop :=
  ∃ (it : Addr) (fp : List Addr) (tn : Nat → Heap → Prop) (J : It) (H' : Hp), itv = .ref it ∧ Inv X pins σ H' s2 ∧ Turn X.prog X.w X.K tg J fp it tn ∧ tn 0 s2.heap ∧ (∀ b ∈ fp, FpOk X pins H' b) ∧ R J H'
def PI (X : Cx) (tg iter : Expr) (wi : TI) : Prop :=
  ∀ (pins : List (Addr × Obj)) (s : Shared) (σ : St) (H : Hp) (R : It → Hp → Prop), Inv X pins σ H s → wi σ H R →
    wpAny (model X.prog X.w) X.A (eval iter X.env) (fun v s1 => wpAny (model X.prog X.w) X.A (pyIter v) (PIE X pins σ tg R) X.xe s1) X.xe s


theorem go_of {M : Model} {A : Around} {E : Value → Shared → Prop} {s : Shared} {tg : Expr} {it : Addr} {u : Value} {o : Obj} {n : String} {vs : Array Value} {Q : Unit → Shared → Prop} (ho : s.heap.get? it = some o) (hc : o.cls = .type n) (hd : o.data = .fields vs)
    (hn : ["enumerate", "zip", "dict_itemiterator", "dict_reverseitemiterator", "odict_iterator", "itertools.zip_longest", "itertools.pairwise"].contains n = false) (hQ : Q () s) : wpAny M A (letOwnedTupleGo tg (.ref it) u) Q E s := by
  unfold letOwnedTupleGo
  cases tg <;> first
    | exact wpAny_pure hQ
    | (cases u <;> first
        | exact wpAny_pure hQ
        | (refine wpAny_bind (wpAny_load ho ?_)
           rw [hc, hd]
           show wpAny M A (if (["enumerate", "zip", "dict_itemiterator", "dict_reverseitemiterator", "odict_iterator", "itertools.zip_longest", "itertools.pairwise"].contains n && vs[0]? == some (rawInt _)) = true then _ else _) Q E s
           rw [if_neg (by intro h; rw [hn, Bool.false_and] at h; cases h)]
           exact wpAny_pure hQ))


def Itl (K : PySem.W.Frag) (a : Addr) : It :=
  ⟨fun i H => ∃ xs x, SqL K H a xs ∧ xs[i]? = some x, fun i H x H' => H' = H ∧ ∀ xs, SqL K H a xs → xs[i]? = some x, fun i H => ∃ xs, SqL K H a xs ∧ xs.length ≤ i⟩
def Itt (K : PySem.W.Frag) (a : Addr) : It :=
  ⟨fun i H => ∃ xs x, SqT K H a xs ∧ xs[i]? = some x, fun i H x H' => H' = H ∧ ∀ xs, SqT K H a xs → xs[i]? = some x, fun i H => ∃ xs, SqT K H a xs ∧ xs.length ≤ i⟩

def Itr (lo : Int) (n : Nat) : It := ⟨fun i _ => i < n, fun i H x H' => H' = H ∧ x = .int (lo + i), fun i _ => n ≤ i⟩
theorem turn_list {P : Program} {w : World} {K : PySem.W.Frag} {tg : Expr} (a it : Addr) : Turn P w K tg (Itl K a) [it] it (fun i h => h.IsListIter it a i) where
  mem := by simp
  obj := fun i h st b hb => by
    have e : b = it := by simpa using hb
    subst e
    obtain ⟨o, e, c, d⟩ := st
    exact ⟨o, e, fun v z => by rw [d] at z; cases z⟩
  keep := fun i h h' st k => st.at fun o e => k it (by simp) o e
  item := by
    intro X hP hw hK hc i pins s σ H E I hf st hg
    subst hP hw hK
    obtain ⟨xs, x, hq, hx⟩ := hg
    obtain ⟨its, rv, p, hz⟩ := I.list hq
    obtain ⟨u, hu, ru⟩ := rv.get hx
    obtain ⟨f0, f1, f2, f3, f4, f5⟩ := hf it (by simp)
    refine wpAny_pyNext_list_item st p.isList (x := u) (by simpa using hu) fun h' st' sb => ?_
    have I1 : Inv X pins σ H { s with heap := h' } := I.turned (t' := s.toks) (fun b o hb e => (sb.2 b hb).trans e) f0 f1 f3 f4 f5
    obtain ⟨o, e, c, d⟩ := id st'
    exact ⟨u, rfl, go_of (s := { s with heap := h' }) e c d (by decide) ⟨x, H, I1, ru, ⟨rfl, fun ys hy => by rw [I.list_inj hy hq]; exact hx⟩, st', fun b hb => (hf b hb).1⟩⟩
  done := by
    intro X hP hw hK hc i pins s σ H E I hf st hg
    subst hP hw hK
    obtain ⟨xs, hq, hx⟩ := hg
    obtain ⟨its, rv, p, hz⟩ := I.list hq
    obtain ⟨f0, f1, f2, f3, f4, f5⟩ := hf it (by simp)
    have hl := rv.length
    exact wpAny_pyNext_list_end (I.ok.hd hc) st p.isList (by simp; omega) fun h' eb => ⟨rfl, I.turned (t' := s.toks) (fun b o hb e => eb b o hb e) f0 f1 f3 f4 f5⟩
  self := fun _ _ _ _ _ st h => wpAny_pyIter_listiter st h
theorem turn_tuple {P : Program} {w : World} {K : PySem.W.Frag} {tg : Expr} (a it : Addr) : Turn P w K tg (Itt K a) [it] it (fun i h => h.IsTupleIter it a i) where
  mem := by simp
  obj := fun i h st b hb => by
    have e : b = it := by simpa using hb
    subst e
    obtain ⟨o, e, c, d⟩ := st
    exact ⟨o, e, fun v z => by rw [d] at z; cases z⟩
  keep := fun i h h' st k => st.at fun o e => k it (by simp) o e
  item := by
    intro X hP hw hK hc i pins s σ H E I hf st hg
    subst hP hw hK
    obtain ⟨xs, x, hq, hx⟩ := hg
    obtain ⟨its, rv, p, hz⟩ := I.tuple hq
    obtain ⟨u, hu, ru⟩ := rv.get hx
    obtain ⟨f0, f1, f2, f3, f4, f5⟩ := hf it (by simp)
    refine wpAny_pyNext_tuple_item st (show s.heap.IsTuple a its.toArray from p) (x := u) (by simpa using hu) fun h' st' sb => ?_
    have I1 : Inv X pins σ H { s with heap := h' } := I.turned (t' := s.toks) (fun b o hb e => (sb.2 b hb).trans e) f0 f1 f3 f4 f5
    obtain ⟨o, e, c, d⟩ := id st'
    exact ⟨u, rfl, go_of (s := { s with heap := h' }) e c d (by decide) ⟨x, H, I1, ru, ⟨rfl, fun ys hy => by rw [I.tuple_inj hy hq]; exact hx⟩, st', fun b hb => (hf b hb).1⟩⟩
  done := by
    intro X hP hw hK hc i pins s σ H E I hf st hg
    subst hP hw hK
    obtain ⟨xs, hq, hx⟩ := hg
    obtain ⟨its, rv, p, hz⟩ := I.tuple hq
    obtain ⟨f0, f1, f2, f3, f4, f5⟩ := hf it (by simp)
    have hl := rv.length
    exact wpAny_pyNext_tuple_end (I.ok.hd hc) st (show s.heap.IsTuple a its.toArray from p) (by simp; omega) fun h' eb => ⟨rfl, I.turned (t' := s.toks) (fun b o hb e => eb b o hb e) f0 f1 f3 f4 f5⟩
  self := fun _ _ _ _ _ st h => wpAny_pyIter_tupleiter st h
theorem turn_range {P : Program} {w : World} {K : PySem.W.Frag} {tg : Expr} (it : Addr) (lo : Int) (n : Nat) : Turn P w K tg (Itr lo n) [it] it (fun i h => IsRangeIter h it (lo + (i : Nat) * 1) ((n : Int) - (i : Nat)) 1) where
  mem := by simp
  obj := fun i h st b hb => by
    have e : b = it := by simpa using hb
    subst e
    exact ⟨_, st, fun v z => by
      have z' : Data.fields _ = Data.cell v := z
      cases z'⟩
  keep := fun i h h' st k => k it (by simp) _ st
  item := by
    intro X hP hw hK hc i pins s σ H E I hf st hg
    subst hP hw hK
    obtain ⟨f0, f1, f2, f3, f4, f5⟩ := hf it (by simp)
    have W := Walks.range (prog := X.prog) (w := X.w) (I.ok.hd hc) it lo 1 n
    refine W.item i s _ _ hg st fun v h' tk hv st' kk => ?_
    obtain ⟨t, rfl⟩ := hv
    have I1 : Inv X pins σ H { s with heap := h', toks := tk } := I.turned (fun b o hb e => kk b o (by simpa using hb) e) f0 f1 f3 f4 f5
    refine ⟨_, rfl, go_of (s := { s with heap := h', toks := tk }) (n := "range_iterator") st' rfl rfl (by decide) ⟨.int (lo + i), H, I1, ⟨t, ?_⟩, ⟨rfl, rfl⟩, st', fun b hb => (hf b hb).1⟩⟩
    rw [Int.mul_one]
  done := by
    intro X hP hw hK hc i pins s σ H E I hf st hg
    subst hP hw hK
    obtain ⟨f0, f1, f2, f3, f4, f5⟩ := hf it (by simp)
    exact wpAny_pyNext_range_end (I.ok.hd hc) st (by have : n ≤ i := hg; omega) fun h' eb => ⟨rfl, I.turned (t' := s.toks) (fun b o hb e => eb b o hb e) f0 f1 f3 f4 f5⟩
  self := fun _ _ _ _ _ st h => wpAny_pyIter_rangeiter st h
end L2

namespace L2
open PySem PySem.Spec PyProof.Rows
section
variable {X : Cx} {tg : Expr}
theorem range_it {pins : List (Addr × Obj)} {σ : St} {H : Hp} {s : Shared} {R : It → Hp → Prop} {E : Value → Shared → Prop} {lo hi : Int} {t u v : Tok} {tk : Nat} (I : Inv X pins σ H s) (h1 : -(2 ^ 62) ≤ lo) (h2 : lo < 2 ^ 62) (h3 : -(2 ^ 62) ≤ hi) (h4 : hi < 2 ^ 62)
    (q : R (Itr lo (hi - lo).toNat) H) : wpAny (model X.prog X.w) X.A (pyIter (.ref s.heap.objs.size)) (PIE X pins σ tg R) E { s with heap := s.heap.push { cls := .type "range", data := .fields #[.int lo t, .int hi u, .int 1 v] }, toks := tk } := by
  refine wpAny_pyIter_range (IsRange.new ..) (small_one h1 h2 h3 h4) ?_
  have I1 : Inv X pins σ H { s with heap := s.heap.push { cls := .type "range", data := .fields #[.int lo t, .int hi u, .int 1 v] }, toks := tk } := I.kept fun b o e => Heap.get?_push_of_some _ e
  refine ⟨(s.heap.push { cls := .type "range", data := .fields #[.int lo t, .int hi u, .int 1 v] }).objs.size, [(s.heap.push { cls := .type "range", data := .fields #[.int lo t, .int hi u, .int 1 v] }).objs.size], _, _, H, rfl,
    I1.kept (t' := tk) fun b o e => Heap.get?_push_of_some _ e, turn_range _ lo (hi - lo).toNat, ?_, fun b hb => ?_, q⟩
  · have e1 : lo + ((0 : Nat) : Int) * 1 = lo := by simp
    have e2 : (((hi - lo).toNat : Nat) : Int) - ((0 : Nat) : Int) = Builtin.Range.rangeSize lo hi 1 := by rw [rangeSize_one]; split <;> omega
    show IsRangeIter _ _ (lo + ((0 : Nat) : Int) * 1) ((((hi - lo).toNat : Nat) : Int) - ((0 : Nat) : Int)) 1
    rw [e1, e2]
    exact Heap.get?_push_size _ rfl
  · have e : b = (s.heap.push { cls := .type "range", data := .fields #[.int lo t, .int hi u, .int 1 v] }).objs.size := by simpa using hb
    subst e
    exact I1.fpOk (Nat.le_refl _) (I1.hok.fresh (Nat.le_refl _))
def iRng1 (ta : TA) : TI := fun σ H R => ta σ H fun vs H1 => ∃ j : Int, vs = [.int j] ∧ -(2 ^ 62) ≤ j ∧ j < 2 ^ 62 ∧ R (Itr 0 j.toNat) H1
theorem pi_range1 {a : Expr} {ta : TA} {p pos : Pos} (hg : Gl X "range") (hm : X.mg "range" = none) (ha : PA X [a] ta) (hs : starEach [a] X.env = [(false, eval a X.env)] := by rfl) : PI X tg (.Call (.Name "range" p) [a] [] pos) (iRng1 ta) := by
  intro pins s σ H R I h
  refine Call_ (ld_blt I hg hm boot_range (PyProof.Rows.callWith_type1 (thn (ha pos pins s σ H _ I h) fun us s1 ⟨vs, H1, I1, r1, q1⟩ => ?_) hs rfl))
  obtain ⟨j, e, q1, q2, q⟩ := q1
  subst e
  cases r1 with
  | cons r rr =>
    cases rr
    obtain ⟨t, rfl⟩ := r
    exact call_range_1 (range_it I1 (by omega) (by omega) q1 q2 (by simpa using q))
def tFor (wi : TI) (g : TG) (tb : TS) : TS := fun D σ H => wi σ H fun J H1 => ∃ W : Nat → Nat → St → Hp → Prop, (∃ m, W 0 m σ H1) ∧ ∀ i m σ H, W i m σ H →
  (J.stop i H ∧ D.nx σ H) ∨ (J.go i H ∧ ∃ N : St → Hp → Prop, (∀ σ' H', N σ' H' → ∃ m', m' < m ∧ W (i + 1) m' σ' H') ∧ ∀ x H', J.yld i H x H' → g x σ H' fun σ2 H2 => tb { D with nx := N, ct := N, bk := D.nx } σ2 H2)

def pinsAt (fp : List Addr) (h : Heap) : List (Addr × Obj) := fp.filterMap fun b => (h.get? b).map fun o => (b, o)
theorem mem_pinsAt {fp : List Addr} {h : Heap} {b : Addr} {o : Obj} (hb : b ∈ fp) (e : h.get? b = some o) : (b, o) ∈ pinsAt fp h := List.mem_filterMap.mpr ⟨b, hb, by rw [e]; rfl⟩
theorem of_pinsAt {fp : List Addr} {h : Heap} {p : Addr × Obj} (hp : p ∈ pinsAt fp h) : p.1 ∈ fp ∧ h.get? p.1 = some p.2 := by
  obtain ⟨b, hb, e⟩ := List.mem_filterMap.mp hp
  cases q : h.get? b with
  | none => rw [q] at e; cases e
  | some o =>
    rw [q] at e
    have e' : (b, o) = p := Option.some.inj e
    subst e'
    exact ⟨hb, q⟩
theorem Inv.pinned {pins : List (Addr × Obj)} {σ : St} {H : Hp} {s : Shared} {fp : List Addr} (I : Inv X pins σ H s) (hf : ∀ b ∈ fp, FpOk X pins H b) (ho : ∀ b ∈ fp, ∃ o, s.heap.get? b = some o ∧ ∀ v, o.data ≠ .cell v) : Inv X (pins ++ pinsAt fp s.heap) σ H s :=
  I.pins_of fun p hp => (List.mem_append.mp hp).elim (fun z => I.pin p (List.mem_append_right _ z)) fun z => by
    obtain ⟨hb, e⟩ := of_pinsAt z
    obtain ⟨f0, f1, f2, _⟩ := hf p.1 hb
    obtain ⟨o, e', d⟩ := ho p.1 hb
    rw [e] at e'; cases e'
    exact ⟨e, f0, f1, f2, d⟩
theorem Inv.unpinned {pins pl : List (Addr × Obj)} {σ : St} {H : Hp} {s : Shared} (I : Inv X (pins ++ pl) σ H s) : Inv X pins σ H s := I.pins_of fun p hp => I.pin p (List.mem_append_right _ (List.mem_append_left _ hp))
theorem ps_for {iter : Expr} {body : List Stmt} {wi : TI} {g : TG} {tb : TS} {pos : Pos} (hp : PassesOwn (model X.prog X.w) X.A X.env X.xe) (hc : X.calm = true) (hi : PI X tg iter wi) (hg : PG X tg g) (hb : PSs X body tb)
    (hs : ∀ x, foldedSetIterable iter X.env x = pure x := by intro _; rfl) : PS X (.For tg iter body [] pos) (tFor wi g tb) := by
  intro pins s σ H D I h
  refine wpAny_For (thn (hi pins s σ H _ I h) fun v s1 h1 => thn h1 fun itv s2 h2 => ?_) hs
  obtain ⟨it, fp, tn, J, H2, e, I2, T, st2, f2, W, ⟨m0, w0⟩, turn⟩ := h2
  subst e
  have stat : ∀ {H' : Hp}, (∀ b ∈ fp, H' b = none) → ∀ b ∈ fp, FpOk X pins H' b := fun hn b hb => ⟨hn b hb, (f2 b hb).2⟩
  refine codeAny_forLoop_any (fun n s' => ∃ i σ' H', Inv X pins σ' H' s' ∧ tn i s'.heap ∧ (∀ b ∈ fp, H' b = none) ∧ W i n σ' H') ?_ m0 ⟨0, σ, H2, I2, st2, fun b hb => (f2 b hb).1, w0⟩
  rintro n s3 ⟨i, σ3, H3, I3, st3, fr3, w3⟩
  rcases turn i n σ3 H3 w3 with ⟨stop, qn⟩ | ⟨go, N, hN, step⟩
  · refine wpAny_passesOwn hp (thn (T.done X rfl rfl rfl hc i pins s3 σ3 H3 X.xe I3 (stat fr3) st3 stop) fun r s4 ⟨hr, I4⟩ => ?_)
    subst hr
    exact wpAny_execs_nil ⟨σ3, H3, I4, qn⟩
  · refine wpAny_passesOwn hp (thn (T.item X rfl rfl rfl hc i pins s3 σ3 H3 X.xe I3 (stat fr3) st3 go) fun r s4 ⟨u, hr, h4⟩ => ?_)
    subst hr
    refine wpAny_passesOwn hp (thn h4 fun _ s5 ⟨x, H5, I5, r5, y5, st5, fr5⟩ => ?_)
    have I5' := I5.pinned (stat fr5) (T.obj _ _ st5)
    refine wpAny_passesOwn hp (thn (hg _ s5 σ3 H5 x u _ I5' r5 (step x H5 y5)) fun _ s6 ⟨σ6, H6, I6, q6⟩ => ?_)
    refine wpAny_passesOwn hp (thn (hb _ s6 σ6 H6 _ I6 q6) fun f s7 q7 => ?_)
    have again : ∀ {σ7 : St} {H7 : Hp}, Inv X (pins ++ pinsAt fp s5.heap) σ7 H7 s7 → N σ7 H7 → ∃ m, m < n ∧ ∃ i σ' H', Inv X pins σ' H' s7 ∧ tn i s7.heap ∧ (∀ b ∈ fp, H' b = none) ∧ W i m σ' H' := fun {σ7 H7} I7 n7 => by
      obtain ⟨m', hm, w7⟩ := hN σ7 H7 n7
      refine ⟨m', hm, i + 1, σ7, H7, I7.unpinned, T.keep _ _ _ st5 fun b hb o e => (I7.pin (b, o) (List.mem_append_right _ (List.mem_append_right _ (mem_pinsAt hb e)))).1, fun b hb => ?_, w7⟩
      obtain ⟨o, e, d⟩ := T.obj _ _ st5 b hb
      exact (I7.pin (b, o) (List.mem_append_right _ (List.mem_append_right _ (mem_pinsAt hb e)))).2.1
    cases f with
    | next => obtain ⟨σ7, H7, I7, n7⟩ := q7; exact again I7 n7
    | cont => obtain ⟨σ7, H7, I7, n7⟩ := q7; exact again I7 n7
    | brk => obtain ⟨σ7, H7, I7, q7⟩ := q7; exact ⟨σ7, H7, I7.unpinned, q7⟩
    | ret v => obtain ⟨x7, σ7, H7, I7, r7, q7⟩ := q7; exact ⟨x7, σ7, H7, I7.unpinned, r7, q7⟩
end



end L2

namespace L2
open PySem PySem.Spec PyProof.Rows

abbrev R2 := V → V → Hp → VK → Prop

def OpR (X : Cx) (f : Value → Value → Sem Value) (r : R2) : Prop :=
  ∀ (pins : List (Addr × Obj)) (s : Shared) (σ : St) (H : Hp) (x y : V) (v u : Value) (Q : VK), Inv X pins σ H s → RelV x v → RelV y u → r x y H Q →
    wpAny (model X.prog X.w) X.A (f v u) (EP X pins σ Q) X.xe s

def UnR (X : Cx) (f : Value → Sem Value) (r : V → Hp → VK → Prop) : Prop :=
  ∀ (pins : List (Addr × Obj)) (s : Shared) (σ : St) (H : Hp) (x : V) (v : Value) (Q : VK), Inv X pins σ H s → RelV x v → r x H Q →
    wpAny (model X.prog X.w) X.A (f v) (EP X pins σ Q) X.xe s

def CallR (X : Cx) (f : Value) (r : List V → Hp → VK → Prop) : Prop :=
  ∀ (pins : List (Addr × Obj)) (s : Shared) (σ : St) (H : Hp) (xs : List V) (us : List Value) (Q : VK), Inv X pins σ H s → Vals xs us → r xs H Q →
    wpAny (model X.prog X.w) X.A (call f us) (EP X pins σ Q) X.xe s

def TruR (X : Cx) (r : V → Hp → (Bool → Hp → Prop) → Prop) : Prop :=
  ∀ (pins : List (Addr × Obj)) (s : Shared) (σ : St) (H : Hp) (x : V) (v : Value) (Q : Bool → Hp → Prop), Inv X pins σ H s → RelV x v → r x H Q →
    wpAny (model X.prog X.w) X.A (truthy v) (TP X pins σ Q) X.xe s

def tOp (r : R2) (ta tb : TE) : TE := fun σ H Q => ta σ H fun x H1 => tb σ H1 fun y H2 => r x y H2 Q
def tUn (r : V → Hp → VK → Prop) (ta : TE) : TE := fun σ H Q => ta σ H fun x H1 => r x H1 Q

def rI (C : Int → Int → Prop) (g : Int → Int → V) : R2 := fun x y H Q => ∃ i j, x = .int i ∧ y = .int j ∧ C i j ∧ Q (g i j) H
def rI0 (g : Int → Int → V) : R2 := fun x y H Q => ∃ i j, x = .int i ∧ y = .int j ∧ Q (g i j) H
def rU (g : Int → V) : V → Hp → VK → Prop := fun x H Q => ∃ i, x = .int i ∧ Q (g i) H

section
variable {X : Cx} {a b c : Expr} {ta tb tc : TE} {pos : Pos}

theorem binT (ha : PE X a ta) (hb : PE X b tb) {pins : List (Addr × Obj)} {s : Shared} {σ : St} {H : Hp} {R : V → V → Hp → Prop} (I : Inv X pins σ H s)
    (h : ta σ H fun x H1 => tb σ H1 fun y H2 => R x y H2) {Q : Value → Shared → Prop} {f : Value → Value → Sem Value}
    (hf : ∀ v u s2 x y H2, Inv X pins σ H2 s2 → RelV x v → RelV y u → R x y H2 → wpAny (model X.prog X.w) X.A (f v u) Q X.xe s2) :
    wpAny (model X.prog X.w) X.A (eval a X.env) (fun v s₁ => wpAny (model X.prog X.w) X.A (eval b X.env) (fun u s₂ => wpAny (model X.prog X.w) X.A (f v u) Q X.xe s₂) X.xe s₁) X.xe s := by
  refine thn (ha pins s σ H _ I h) fun v s1 ⟨x, H1, I1, r1, q1⟩ => ?_
  refine thn (hb pins s1 σ H1 _ I1 q1) fun u s2 ⟨y, H2, I2, r2, q2⟩ => ?_
  exact hf v u s2 x y H2 I2 r1 r2 q2

theorem pe_op {op : Operator} {r : R2} (ho : OpR X (binaryOp op) r) (ha : PE X a ta) (hb : PE X b tb) : PE X (.BinOp a op b pos) (tOp r ta tb) := by
  intro pins s σ H Q I h
  exact wpAny_BinOp (binT ha hb I h fun v u s2 x y H2 I2 rx ry q => ho pins s2 σ H2 x y v u Q I2 rx ry q)
theorem pe_un {op : UnaryOp} {r : V → Hp → VK → Prop} (ho : UnR X (unaryOp op) r) (ha : PE X a ta) : PE X (.UnaryOp op a pos) (tUn r ta) := by
  intro pins s σ H Q I h
  exact UnaryOp_ (thn (ha pins s σ H _ I h) fun v s1 ⟨x, H1, I1, r1, q1⟩ => ho pins s1 σ H1 x v Q I1 r1 q1)

theorem opI {f : Value → Value → Sem Value} {C : Int → Int → Prop} {g : Int → Int → Int}
    (rule : ∀ (i j : Int) (t u : Tok) (s : Shared) (Q : Value → Shared → Prop) (E : Value → Shared → Prop), C i j → Q (.int (g i j) s.toks) { s with toks := s.toks + 1 } → wpAny (model X.prog X.w) X.A (f (.int i t) (.int j u)) Q E s) :
    OpR X f (rI C fun i j => .int (g i j)) := by
  intro pins s σ H x y v u Q I rx ry h
  obtain ⟨i, j, rfl, rfl, hc, q⟩ := h
  obtain ⟨t, rfl⟩ := rx
  obtain ⟨t', rfl⟩ := ry
  exact rule i j t t' s _ _ hc ⟨.int (g i j), H, I.tok _, ⟨_, rfl⟩, q⟩
theorem opI0 {f : Value → Value → Sem Value} {g : Int → Int → Int}
    (rule : ∀ (i j : Int) (t u : Tok) (s : Shared) (Q : Value → Shared → Prop) (E : Value → Shared → Prop), Q (.int (g i j) s.toks) { s with toks := s.toks + 1 } → wpAny (model X.prog X.w) X.A (f (.int i t) (.int j u)) Q E s) :
    OpR X f (rI0 fun i j => .int (g i j)) := by
  intro pins s σ H x y v u Q I rx ry h
  obtain ⟨i, j, rfl, rfl, q⟩ := h
  obtain ⟨t, rfl⟩ := rx
  obtain ⟨t', rfl⟩ := ry
  exact rule i j t t' s _ _ ⟨.int (g i j), H, I.tok _, ⟨_, rfl⟩, q⟩
theorem opB0 {f : Value → Value → Sem Value} {g : Int → Int → Bool}
    (rule : ∀ (i j : Int) (t u : Tok) (s : Shared) (Q : Value → Shared → Prop) (E : Value → Shared → Prop), Q (.bool (g i j)) s → wpAny (model X.prog X.w) X.A (f (.int i t) (.int j u)) Q E s) :
    OpR X f (rI0 fun i j => .bl (g i j)) := by
  intro pins s σ H x y v u Q I rx ry h
  obtain ⟨i, j, rfl, rfl, q⟩ := h
  obtain ⟨t, rfl⟩ := rx
  obtain ⟨t', rfl⟩ := ry
  exact rule i j t t' s _ _ ⟨.bl (g i j), H, I, rfl, q⟩

def CDiv (i j : Int) : Prop := 0 < j ∧ j < 1073741824
def CPow (i j : Int) : Prop := 0 ≤ j ∧ j ≤ 1000000 ∧ i.natAbs < 2 ^ 64
def CMul (i j : Int) : Prop := (-(2 ^ 64) < i ∧ i < 2 ^ 64) ∨ (-(2 ^ 64) < j ∧ j < 2 ^ 64)
theorem CMul.ok {i j : Int} (h : CMul i j) : IntMulOk i j := by
  rcases h with ⟨h1, h2⟩ | ⟨h1, h2⟩
  · exact .of_left (intBits_le_64 h1 h2)
  · exact .of_right (intBits_le_64 h1 h2)
theorem op_add : OpR X (binaryOp .Add) (rI0 fun i j => .int (i + j)) := opI0 fun _ _ _ _ _ _ _ q => add_int q
theorem op_sub : OpR X (binaryOp .Sub) (rI0 fun i j => .int (i - j)) := opI0 fun _ _ _ _ _ _ _ q => sub_int q
theorem op_mul : OpR X (binaryOp .Mult) (rI CMul fun i j => .int (i * j)) := opI fun _ _ _ _ _ _ _ hc q => mul_int q hc.ok

theorem op_fdiv : OpR X (binaryOp .FloorDiv) (rI CDiv fun i j => .int (i / j)) := opI fun i j _ _ _ _ _ hc q => by
  have h1 : (0 : Int) < j := hc.1
  have h2 : j < 1073741824 := hc.2
  exact floordiv_int (by omega) (by rw [Int.fdiv_eq_ediv_of_nonneg i (by omega)]; exact q) (.inl (PyProof.noPylong_small (by omega)))
theorem op_mod : OpR X (binaryOp .Mod) (rI (fun _ j => 0 < j) fun i j => .int (i % j)) := opI fun i j _ _ _ _ _ hc q => by
  have h1 : (0 : Int) < j := hc
  exact mod_int' (by omega) (by rw [Int.fmod_eq_emod_of_nonneg i (by omega)]; exact q)
theorem op_pow : OpR X (binaryOp .Pow) (rI CPow fun i j => .int (i ^ j.toNat)) := opI fun _ _ _ _ _ _ _ hc q => pow_int_small hc.1 hc.2.1 hc.2.2 q
theorem unI {f : Value → Sem Value} {g : Int → Int}
    (rule : ∀ (i : Int) (t : Tok) (s : Shared) (Q : Value → Shared → Prop) (E : Value → Shared → Prop), Q (.int (g i) s.toks) { s with toks := s.toks + 1 } → wpAny (model X.prog X.w) X.A (f (.int i t)) Q E s) :
    UnR X f (rU fun i => .int (g i)) := by
  intro pins s σ H x v Q I rx h
  obtain ⟨i, rfl, q⟩ := h
  obtain ⟨t, rfl⟩ := rx
  exact rule i t s _ _ ⟨.int (g i), H, I.tok _, ⟨_, rfl⟩, q⟩
theorem un_neg : UnR X (unaryOp .USub) (rU fun i => .int (-i)) := unI fun _ _ _ _ _ q => neg_int q
end



section
variable {X : Cx} {a b c : Expr} {ta tb tc : TE} {pos : Pos}
theorem fin_bl {pins : List (Addr × Obj)} {σ : St} {H : Hp} {s : Shared} {Q : VK} {k k' : Bool} (I : Inv X pins σ H s) (q : Q (.bl k) H) (e : k = k') : EP X pins σ Q (.bool k') s := by
  subst e
  exact ⟨.bl k, H, I, rfl, q⟩
theorem op_lt : OpR X (compareOp .Lt) (rI0 fun i j => .bl (decide (i < j))) := opB0 fun _ _ _ _ _ _ _ q => lt_int q
theorem op_le : OpR X (compareOp .LtE) (rI0 fun i j => .bl (decide (i ≤ j))) := opB0 fun _ _ _ _ _ _ _ q => le_int q
theorem op_gt : OpR X (compareOp .Gt) (rI0 fun i j => .bl (decide (j < i))) := opB0 fun _ _ _ _ _ _ _ q => gt_int q
theorem op_ge : OpR X (compareOp .GtE) (rI0 fun i j => .bl (decide (j ≤ i))) := opB0 fun _ _ _ _ _ _ _ q => ge_int q
theorem op_lt_str : OpR X (compareOp .Lt) (fun x y H Q => ∃ i j, x = .str i ∧ y = .str j ∧ Q (.bl (decide (i.cps.toList < j.cps.toList))) H) := by
  intro pins s σ H x y v u Q I rx ry h
  obtain ⟨i, j, rfl, rfl, q⟩ := h
  obtain ⟨t, rfl⟩ := rx
  obtain ⟨t', rfl⟩ := ry
  exact lt_str (fin_bl I q rfl)

theorem OpR.or {f : Value → Value → Sem Value} {r r' : R2} (h : OpR X f r) (h' : OpR X f r') : OpR X f (fun x y H Q => r x y H Q ∨ r' x y H Q) := by
  intro pins s σ H x y v u Q I rx ry q
  rcases q with q | q
  · exact h pins s σ H x y v u Q I rx ry q
  · exact h' pins s σ H x y v u Q I rx ry q

theorem nomark (b : Expr) {op : CmpOp} (h : op ≠ .In := by decide) (h2 : op ≠ .NotIn := by decide) : behindInMarks op b = false := by
  have e1 : (op == CmpOp.In) = false := by cases op <;> first | rfl | exact absurd rfl h
  have e2 : (op == CmpOp.NotIn) = false := by cases op <;> first | rfl | exact absurd rfl h2
  cases b <;> simp [behindInMarks, e1, e2]

theorem pe_cmpR {op : CmpOp} {r : R2} (ho : OpR X (compareOp op) r) (ha : PE X a ta) (hb : PE X b tb) (hm : behindInMarks op b = false) : PE X (.Compare a [op] [b] pos) (tOp r ta tb) := by
  intro pins s σ H Q I h
  exact wpAny_Compare1 (binT ha hb I h fun v u s2 x y H2 I2 rx ry q => ho pins s2 σ H2 x y v u Q I2 rx ry q) hm

def tTest (t : TE) : TT := fun σ H Q => t σ H fun x H' => ∃ k, x = .bl k ∧ Q k H'
theorem pt_cmpR {op : CmpOp} {r : R2} (ho : OpR X (compareOp op) r) (ha : PE X a ta) (hb : PE X b tb) (hm : behindInMarks op b = false) : PT X (.Compare a [op] [b] pos) (tTest (tOp r ta tb)) := by
  intro pins s σ H Q I h
  refine wpAny_isTrue_Compare1 (thn (ha pins s σ H _ I h) fun v s1 ⟨x, H1, I1, r1, q1⟩ => thn (hb pins s1 σ H1 _ I1 q1) fun u s2 ⟨y, H2, I2, r2, q2⟩ =>
    thn (ho pins s2 σ H2 x y v u _ I2 r1 r2 q2) fun c s3 ⟨z, H3, I3, r3, k, e, q3⟩ => ?_) hm
  subst e
  cases r3
  exact wpAny_truthy_bool ⟨H3, I3, q3⟩

def tChain (r r' : R2) (ta tb tc : TE) : TE := fun σ H Q => ta σ H fun x H1 => tb σ H1 fun y H2 => r x y H2 fun z H3 => ∃ k, z = .bl k ∧
  (if k = true then tc σ H3 fun w' H4 => r' y w' H4 Q else Q (.bl false) H3)
theorem pe_chain {op op' : CmpOp} {r r' : R2} (ho : OpR X (compareOp op) r) (ho' : OpR X (compareOp op') r') (ha : PE X a ta) (hb : PE X b tb) (hc : PE X c tc)
    (hm : lastMarks [op, op'] [b, c] = false := by with_unfolding_all rfl) : PE X (.Compare a [op, op'] [b, c] pos) (tChain r r' ta tb tc) := by
  intro pins s σ H Q I h
  refine Compare_chain (thn (ha pins s σ H _ I h) fun v s1 ⟨x, H1, I1, r1, q1⟩ => chain_link (thn (hb pins s1 σ H1 _ I1 q1) fun u s2 ⟨y, H2, I2, r2, q2⟩ =>
    thn (ho pins s2 σ H2 x y v u _ I2 r1 r2 q2) fun d s3 ⟨z, H3, I3, r3, k, e, q3⟩ => ?_)) hm
  subst e
  cases r3
  refine wpAny_truthy_bool ?_
  cases k with
  | false => exact ite_ff ⟨.bl false, H3, I3, rfl, q3⟩
  | true => exact ite_tt (chain_last (thn (hc pins s3 σ H3 _ I3 q3) fun w' s4 ⟨z', H4, I4, r4, q4⟩ => ho' pins s4 σ H4 y z' u w' Q I4 r2 r4 q4))
def TruV (K : PySem.W.Frag) (x : V) (H : Hp) (k : Bool) : Prop :=
  match x with
  | .non => k = false
  | .bl b => k = b
  | .int i => k = (i != 0)
  | .str y => y.length ≤ sizeLine ∧ k = ((y.length : Int) != 0)
  | .byt y => y.size ≤ sizeLine ∧ k = ((y.size : Int) != 0)
  | .ref p => (∃ xs, SqL K H p xs ∧ k = !xs.isEmpty) ∨ (∃ xs, SqT K H p xs ∧ k = !xs.isEmpty) ∨ ∃ kvs, H p = some (.dK kvs) ∧ k = !kvs.isEmpty
  | _ => False
theorem isEmpty_kv {κ : Type} {kvs : List (κ × V)} {vs : List (κ × Value)} (r : KV kvs vs) : (!vs.isEmpty) = !kvs.isEmpty := by
  cases r <;> rfl
theorem isEmpty_of {xs : List V} {its : List Value} (r : Vals xs its) : (!its.toArray.isEmpty) = !xs.isEmpty := by
  cases r <;> simp
theorem line63 : (sizeLine : Nat) < 2 ^ 63 := by rw [sizeLine_eq]; decide
theorem tru_ok : TruR X (fun x H Q => ∃ k, TruV X.K x H k ∧ Q k H) := by
  intro pins s σ H x v Q I rx h
  obtain ⟨k, e, q⟩ := h
  have hl := line63
  have hs : sizeLine = 16777216 := sizeLine_eq
  cases x with
  | non =>
    cases rx
    have e' : k = false := e
    subst e'
    exact truthy_none ⟨H, I, q⟩
  | bl b =>
    cases rx
    have e' : k = b := e
    subst e'
    exact wpAny_truthy_bool ⟨H, I, q⟩
  | int i =>
    obtain ⟨t, rfl⟩ := rx
    have e' : k = (i != 0) := e
    subst e'
    exact PySem.P.truthy_int ⟨H, I, q⟩
  | str y =>
    obtain ⟨t, rfl⟩ := rx
    obtain ⟨hy, e'⟩ : y.length ≤ sizeLine ∧ k = ((y.length : Int) != 0) := e
    subst e'
    exact PySem.P.truthy_str (by omega) ⟨H, I.tok _, q⟩
  | byt y =>
    obtain ⟨t, rfl⟩ := rx
    obtain ⟨hy, e'⟩ : y.size ≤ sizeLine ∧ k = ((y.size : Int) != 0) := e
    subst e'
    exact PySem.W.truthy_bytes (by omega) ⟨H, I.tok _, q⟩
  | ref p =>
    cases rx
    have e' : (∃ xs, SqL X.K H p xs ∧ k = !xs.isEmpty) ∨ (∃ xs, SqT X.K H p xs ∧ k = !xs.isEmpty) ∨ ∃ kvs, H p = some (.dK kvs) ∧ k = !kvs.isEmpty := e
    rcases e' with ⟨xs, hx, e'⟩ | ⟨xs, hx, e'⟩ | ⟨kvs, hx, e'⟩
    · subst e'
      obtain ⟨its, r, pl, hz⟩ := I.list hx
      have hlen := r.length
      exact wpAny_truthy_list pl.isList (by simp only [List.size_toArray]; omega) ⟨H, I.tok _, by rw [isEmpty_of r]; exact q⟩
    · subst e'
      obtain ⟨its, r, pl, hz⟩ := I.tuple hx
      have hlen := r.length
      exact truthy_tuple pl (by simp only [List.size_toArray]; omega) ⟨H, I.tok _, by rw [isEmpty_of r]; exact q⟩
    · subst e'
      obtain ⟨hz, hS, vs, r, m⟩ : kvs.length ≤ sizeLine ∧ (p == sysModules) = false ∧ ∃ vs, KV kvs vs ∧ s.heap.DictOf (mixKind X.prog X.w) p vs := I.hok p _ hx
      have hlen : kvs.length = vs.length := Paired.length r
      exact wpAny_truthy_dict hS m (by omega) ⟨H, I.tok _, by rw [isEmpty_kv r]; exact q⟩
  | _ => exact (show False from e).elim

theorem pt_truth (ha : PE X a ta) (he : ∀ whole, isTrue a X.env whole = (do let v ← whole; standAt a.pos; holding [v] (truthy v))) :
    PT X a (fun σ H Q => ta σ H fun x H' => ∃ k, TruV X.K x H' k ∧ Q k H') := by
  intro pins s σ H Q I h
  exact isTrue_plain (thn (ha pins s σ H _ I h) fun v s1 ⟨x, H1, I1, r1, q1⟩ => tru_ok pins s1 σ H1 x v Q I1 r1 q1) (he _)


theorem op_add_str : OpR X (binaryOp .Add) (fun x y H Q => ∃ i j, x = .str i ∧ y = .str j ∧ i.length + j.length ≤ sizeLine ∧ Q (.str (i ++ j)) H) := by
  intro pins s σ H x y v u Q I rx ry h
  obtain ⟨i, j, rfl, rfl, hz, q⟩ := h
  obtain ⟨t, rfl⟩ := rx
  obtain ⟨t', rfl⟩ := ry
  exact add_str (fun t' tk => ⟨.str (i ++ j), H, I.tok _, ⟨_, rfl⟩, q⟩) hz
theorem vals1 {x : V} {us : List Value} (r : Vals [x] us) : ∃ u, us = [u] ∧ RelV x u := by
  cases r with
  | cons r1 r2 => cases r2; exact ⟨_, rfl, r1⟩
theorem vals2 {x y : V} {us : List Value} (r : Vals [x, y] us) : ∃ u w', us = [u, w'] ∧ RelV x u ∧ RelV y w' := by
  cases r with
  | cons r1 r2 =>
    cases r2 with
    | cons r3 r4 => cases r4; exact ⟨_, _, rfl, r1, r3⟩
theorem call_max2 (hc : X.calm = true) : CallR X (.builtin "max") (fun xs H Q => ∃ i j, xs = [.int i, .int j] ∧ Q (.int (if j > i then j else i)) H) := by
  intro pins s σ H xs us Q I r h
  obtain ⟨i, j, rfl, q⟩ := h
  obtain ⟨u, w', rfl, ⟨t, rfl⟩, ⟨t', rfl⟩⟩ := vals2 r
  refine max_two_ints (I.ok.hd hc) fun h' tk k => ⟨_, H, I.kept k, ?_, q⟩
  by_cases hj : j > i
  · rw [if_pos hj, if_pos hj]; exact ⟨_, rfl⟩
  · rw [if_neg hj, if_neg hj]; exact ⟨_, rfl⟩
theorem call_min2 (hc : X.calm = true) : CallR X (.builtin "min") (fun xs H Q => ∃ i j, xs = [.int i, .int j] ∧ Q (.int (if j < i then j else i)) H) := by
  intro pins s σ H xs us Q I r h
  obtain ⟨i, j, rfl, q⟩ := h
  obtain ⟨u, w', rfl, ⟨t, rfl⟩, ⟨t', rfl⟩⟩ := vals2 r
  refine min_two_ints (I.ok.hd hc) fun h' tk k => ⟨_, H, I.kept k, ?_, q⟩
  by_cases hj : j < i
  · rw [if_pos hj, if_pos hj]; exact ⟨_, rfl⟩
  · rw [if_neg hj, if_neg hj]; exact ⟨_, rfl⟩
theorem call_int1 : CallR X (.type "int") (fun xs H Q => (∃ i, xs = [.int i] ∧ Q (.int i) H) ∨ ∃ k, xs = [.bl k] ∧ Q (.int (if k then 1 else 0)) H) := by
  intro pins s σ H xs us Q I r h
  rcases h with ⟨i, rfl, q⟩ | ⟨k, rfl, q⟩
  · obtain ⟨u, rfl, t, rfl⟩ := vals1 r
    exact call_int_int ⟨.int i, H, I, ⟨_, rfl⟩, q⟩
  · obtain ⟨u, rfl, r1⟩ := vals1 r
    cases r1
    exact call_int_bool ⟨.int (if k then 1 else 0), H, I.tok _, ⟨_, rfl⟩, q⟩
def LenV (K : PySem.W.Frag) (x : V) (H : Hp) (n : Nat) : Prop :=
  match x with
  | .str y => y.length ≤ sizeLine ∧ n = y.length
  | .byt y => y.size ≤ sizeLine ∧ n = y.size
  | .ref p => (∃ xs, SqL K H p xs ∧ n = xs.length) ∨ ∃ xs, SqT K H p xs ∧ n = xs.length
  | _ => False
theorem call_len : CallR X (.builtin "len") (fun xs H Q => ∃ x n, xs = [x] ∧ LenV X.K x H n ∧ Q (.int n) H) := by
  intro pins s σ H xs us Q I r h
  obtain ⟨x, n, rfl, e, q⟩ := h
  obtain ⟨u, rfl, rx⟩ := vals1 r
  have hl := line63
  have hs : sizeLine = 16777216 := sizeLine_eq
  cases x with
  | str y =>
    obtain ⟨t, rfl⟩ := rx
    obtain ⟨hy, e'⟩ : y.length ≤ sizeLine ∧ n = y.length := e
    subst e'
    exact len_str (by omega) ⟨.int _, H, I.tok _, ⟨_, rfl⟩, q⟩
  | byt y =>
    obtain ⟨t, rfl⟩ := rx
    obtain ⟨hy, e'⟩ : y.size ≤ sizeLine ∧ n = y.size := e
    subst e'
    exact PySem.W.len_bytes (by omega) ⟨.int _, H, I.tok _, ⟨_, rfl⟩, q⟩
  | ref p =>
    cases rx
    have e' : (∃ xs, SqL X.K H p xs ∧ n = xs.length) ∨ ∃ xs, SqT X.K H p xs ∧ n = xs.length := e
    rcases e' with ⟨xs, hx, e'⟩ | ⟨xs, hx, e'⟩
    · subst e'
      obtain ⟨its, r', pl, hz⟩ := I.list hx
      have hlen := r'.length
      exact Calls.call_len_list pl.isList (by simp only [List.size_toArray]; omega) ⟨.int xs.length, H, I.tok _, ⟨_, by simp only [List.size_toArray]; rw [hlen]⟩, q⟩
    · subst e'
      obtain ⟨its, r', pl, hz⟩ := I.tuple hx
      have hlen := r'.length
      exact len_tuple pl (by simp only [List.size_toArray]; omega) ⟨.int xs.length, H, I.tok _, ⟨_, by simp only [List.size_toArray]; rw [hlen]⟩, q⟩
  | _ => exact (show False from e).elim

end
end L2

namespace L2
open PySem PySem.Spec PyProof.Rows


structure ObjM (h : Heap) (x dx C : Addr) (mA : Str → Option Value) : Prop where
  obj : h.get? x = some (PySem.W.instObj C dx)
  ns : h.Ns1 dx mA
  ne : dx ≠ x

theorem lookIn_ns {h : Heap} {dx : Addr} {mA : Str → Option Value} (n : h.Ns1 dx mA) : ∃ od, h.get? dx = some od ∧ ∀ name, PySem.W.lookIn name od = some (mA name) := by
  obtain ⟨o, es, ep, ho, hd, hk, _, hm⟩ := n
  refine ⟨o, ho, fun name => ?_⟩
  have e := hm name
  unfold nsFind findBy at e
  rw [← Array.find?_toList] at e
  unfold PySem.W.lookIn
  rw [hd]
  dsimp only
  split
  · rename_i y q
    rw [q] at e
    exact congrArg some e
  · rename_i q
    rw [q] at e
    have a : es.toList.any (·.refKey) = false := by
      rw [List.any_eq_false]
      intro y hy
      obtain ⟨z, t, hkey⟩ := hk y (Array.mem_toList_iff.mp hy)
      simp [DictEntry.refKey, hkey]
    have a' : ¬ es.toList.any (·.refKey) = true := by rw [a]; exact Bool.false_ne_true
    rw [if_neg a']
    exact congrArg some e

theorem ObjM.look {h : Heap} {x dx C : Addr} {mA : Str → Option Value} (I : ObjM h x dx C mA) : ∃ od, PySem.W.InstAt h x (PySem.W.instObj C dx) C (some od) ∧ ∀ name, PySem.W.lookIn name od = some (mA name) :=
  let ⟨od, ho, hl⟩ := lookIn_ns I.ns
  ⟨od, ⟨I.obj, rfl, rfl, ho⟩, hl⟩

section
variable {prog : Program} {w : World} {A : Around} {E : Value → Shared → Prop} {s : Shared} {K : PySem.W.Frag} {x dx C f : Addr} {mA : Str → Option Value} {name : Str} {v : Value}

end


section
variable {P : Program} {w : World} {H H' : Hp} {h h' : Heap} {a C dx : Addr} {fs fs' : List (Str × V)}
theorem ins_get (hok : HOk P w H h) (e : H a = some (.ins C dx fs)) : ∃ mA, ObjM h a dx C mA ∧ (∀ f, RelO (fs.lookup f) (mA f)) ∧ PySem.Within mA (fs.map (·.1)) ∧ fs.length ≤ 1000 ∧ H dx = some (.own a) := by
  obtain ⟨d, z, ne, ob, mA, n, r, q⟩ := (show ObjOk P w H h a (.ins C dx fs) from hok a _ e)
  exact ⟨mA, ⟨ob, n, ne⟩, r, q, z, d⟩
end


structure Cls (K : PySem.W.Frag) (C : Addr) : Prop where
  pg : PySem.W.plainGet K C Str.empty = true
  hd : PySem.W.hasDictIn K C = true
  po : PySem.W.plainOver K C = true
  sa : PySem.W.findIn K (.ref C) "__setattr__" = some (some (.builtin "object.__setattr__"))
theorem Cls.get {K : PySem.W.Frag} {C : Addr} (c : Cls K C) (f : Str) : PySem.W.plainGet K C f = true := c.pg

structure Con (K : PySem.W.Frag) (C : Addr) (f : Str) (v : V) (u : Value) : Prop where
  at_ : PySem.W.findIn K (.ref C) f = some (some u)
  rel : RelV v u
  get : PySem.W.specialIn K u "__get__" = some none
  cp : PySem.W.copiedNames.contains f = false

structure Meth (K : PySem.W.Frag) (C : Addr) (m : Str) (f : Addr) : Prop where
  at_ : PySem.W.findIn K (.ref C) m = some (some (.ref f))
  fn : PySem.W.isFn K (.ref f) = true
  kp : PySem.W.keepIn K (.ref f) = true

section
variable {X : Cx} {pins : List (Addr × Obj)} {σ : St} {H : Hp} {s : Shared} {a C dx : Addr} {fs : List (Str × V)} {f : Str} {v : V} {A : Around} {E : Value → Shared → Prop}

theorem Inv.made (I : Inv X pins σ H s) : Inv X pins σ (upd (upd H s.heap.objs.size (.own (s.heap.objs.size + 1))) (s.heap.objs.size + 1) (.ins C s.heap.objs.size []))
    { s with heap := (s.heap.push PySem.W.emptyDict).push (PySem.W.instObj C s.heap.objs.size) } := by
  have e1 : (s.heap.push PySem.W.emptyDict).get? s.heap.objs.size = some PySem.W.emptyDict := Heap.get?_push_size s.heap rfl
  have e2 : ((s.heap.push PySem.W.emptyDict).push (PySem.W.instObj C s.heap.objs.size)).get? (s.heap.objs.size + 1) = some (PySem.W.instObj C s.heap.objs.size) := by
    have := Heap.get?_push_size (s.heap.push PySem.W.emptyDict) (o := PySem.W.instObj C s.heap.objs.size) rfl
    rwa [Heap.size_push] at this
  have e3 : (s.heap.push PySem.W.emptyDict).Ns s.heap.objs.size (fun _ => none) := ⟨PySem.W.emptyDict, #[], _, e1, rfl, (fun e he => absurd he (by simp)), fun _ => rfl⟩
  have I1 := I.laid (a := s.heap.objs.size) (o := .own (s.heap.objs.size + 1)) (h' := s.heap.push PySem.W.emptyDict) (t' := s.toks) (fun b u q => Heap.get?_push_of_some _ q) (Nat.le_refl _) ⟨_, e1⟩
  refine I1.laid (a := s.heap.objs.size + 1) (o := .ins C s.heap.objs.size []) (t' := s.toks) (fun b u q => Heap.get?_push_of_some _ q) (Nat.le_of_eq (Heap.size_push _ _)) ?_
  have ne : s.heap.objs.size ≠ s.heap.objs.size + 1 := Nat.ne_of_lt (Nat.lt_succ_self _)
  refine ⟨by rw [upd_ne ne, upd_same], Nat.zero_le _, ne, e2, fun _ => none, (Heap.Ns1.of_empty e3).at fun o q => Heap.get?_push_of_some _ q, fun _ => True.intro, fun y hy => absurd rfl hy⟩


end



section
variable {X : Cx} {o e value : Expr} {f : Str} {pos pos' tpos : Pos} {ta tv : TE}
end


section
variable {X : Cx} {pins : List (Addr × Obj)} {σ : St} {H : Hp} {s : Shared} {A : Around} {E : Value → Shared → Prop} {Q : Value → Shared → Prop} {c : Value} {b : Bool}

inductive TyOf (K : PySem.W.Frag) (H : Hp) : V → Value → Prop where
  | non : TyOf K H .non (.type "NoneType")
  | bl (x : Bool) : TyOf K H (.bl x) (.type "bool")
  | int (i : Int) : TyOf K H (.int i) (.type "int")
  | str (x : Str) : TyOf K H (.str x) (.type "str")
  | flt (x : UInt64) : TyOf K H (.flt x) (.type "float")
  | lst {a : Addr} {xs : List V} (e : H a = some (.lst xs)) : TyOf K H (.ref a) (.type "list")
  | frz {a : Addr} {o : Obj} {xs : List V} (e : H a = some (.frz o (.lst xs))) : TyOf K H (.ref a) (.type "list")
  | tup {a : Addr} {xs : List V} (e : H a = some (.tup xs)) : TyOf K H (.ref a) (.type "tuple")
  | dK {a : Addr} {kvs : List (Key × V)} (e : H a = some (.dK kvs)) : TyOf K H (.ref a) (.type "dict")
  | dT {a : Addr} {kvs : List (List Key × V)} (e : H a = some (.dT kvs)) : TyOf K H (.ref a) (.type "dict")
  | ins {a C dx : Addr} {fs : List (Str × V)} (e : H a = some (.ins C dx fs)) (cl : Cls K C) (ha : PySem.W.findIn K (.ref C) "__class__" = some (some (.builtin "object.__class__")))
      (hn : PySem.W.specialIn K (.builtin "object.__class__") "__get__" = some (some (.builtin "getset_descriptor.__get__"))) (htk : PySem.W.takesIn K (.builtin "object.__class__") = some true)
      (hm : PySem.W.mroIn K C (.type "object") = some true) : TyOf K H (.ref a) (.ref C)

theorem isinst_ok {x : V} {u t : Value} (I : Inv X pins σ H s) (rx : RelV x u) (ty : TyOf X.K H x t) (e : PySem.W.kitOne X.K t c = some b) (h : ∀ tk, Q (.bool b) { s with toks := tk }) :
    wpAny (model X.prog X.w) A (call (.builtin "isinstance") [u, c]) Q E s := by
  cases ty with
  | non => cases (show u = Value.none from rx); exact PySem.W.kia_one PySem.W.kitx_none I.kIn True.intro e (fun z => nomatch z) h
  | bl y => cases (show u = Value.bool y from rx); exact PySem.W.kia_one PySem.W.kitx_bool I.kIn True.intro e (fun z => nomatch z) h
  | int i => obtain ⟨t, q⟩ := (show ∃ t, u = Value.int i t from rx); cases q; exact PySem.W.kia_one PySem.W.kitx_int I.kIn True.intro e (fun z => nomatch z) h
  | str y => obtain ⟨t, q⟩ := (show ∃ t, u = Value.str y t from rx); cases q; exact PySem.W.kia_one PySem.W.kitx_str I.kIn True.intro e (fun z => nomatch z) h
  | flt y => obtain ⟨t, q⟩ := (show ∃ t, u = Value.float y t from rx); cases q; exact PySem.W.kia_one PySem.W.kitx_float I.kIn True.intro e (fun z => nomatch z) h
  | @lst a xs ea =>
    cases (show u = Value.ref a from rx)
    obtain ⟨_, _, n, _, h1⟩ := (show ObjOk X.prog X.w H s.heap a (.lst xs) from I.hok a _ ea)
    exact PySem.W.kia_one PySem.W.kitx_list I.kIn ⟨_, h1, rfl⟩ e (fun z => nomatch z) h
  | @frz a ob xs ea =>
    cases (show u = Value.ref a from rx)
    obtain ⟨_, _, _, n, _, h1⟩ := (show ObjOk X.prog X.w H s.heap a (.frz ob (.lst xs)) from I.hok a _ ea)
    exact PySem.W.kia_one PySem.W.kitx_list I.kIn ⟨_, h1, rfl⟩ e (fun z => nomatch z) h
  | @tup a xs ea =>
    cases (show u = Value.ref a from rx)
    obtain ⟨_, _, _, p⟩ := (show ObjOk X.prog X.w H s.heap a (.tup xs) from I.hok a _ ea)
    obtain ⟨o, h1, h2, _⟩ := p
    exact PySem.W.kia_one PySem.W.kitx_tuple I.kIn ⟨o, h1, h2⟩ e (fun z => nomatch z) h
  | @dK a kvs ea =>
    cases (show u = Value.ref a from rx)
    obtain ⟨_, _, vs, _, p⟩ := (show ObjOk X.prog X.w H s.heap a (.dK kvs) from I.hok a _ ea)
    obtain ⟨o, es, ep, h1, h2, _⟩ := p
    exact PySem.W.kia_one PySem.W.kitx_dict I.kIn ⟨o, h1, h2.1⟩ e (fun z => nomatch z) h
  | @dT a kvs ea =>
    cases (show u = Value.ref a from rx)
    obtain ⟨_, _, xs, _, o, es, ep, h1, h2, _⟩ := (show ObjOk X.prog X.w H s.heap a (.dT kvs) from I.hok a _ ea)
    exact PySem.W.kia_one PySem.W.kitx_dict I.kIn ⟨o, h1, h2.1⟩ e (fun z => nomatch z) h
  | @ins a C dx fs ea cl ha hn htk hm =>
    cases (show u = Value.ref a from rx)
    obtain ⟨mA, O, _⟩ := ins_get I.hok ea
    obtain ⟨od, J, _⟩ := O.look
    exact PySem.W.kia_one (PySem.W.kitx_own (cl.get _) cl.hd ha hn htk hm) I.kIn J e (fun z => nomatch z) h
end
end L2

namespace L2
open PySem PySem.Spec PyProof.Rows


structure Room (k : Nat) (A : Around) : Prop where
  hd : A.handled = none
  dp : A.depth + 3 * k + 5 < recursionLimit
  un : A.units + 16 * k + 200 < cLine
theorem Room.mono {j k : Nat} {A : Around} (r : Room k A) (h : j ≤ k) : Room j A := ⟨r.hd, by have := r.dp; omega, by have := r.un; omega⟩
theorem Room.deeper {k : Nat} {A : Around} (r : Room (k + 1) A) (env : Env) : Room k (A.deeper env) :=
  ⟨r.hd, by have := r.dp; show A.depth + 1 + 3 * k + 5 < _; omega, by have := r.un; show A.units + 3 + 16 * k + 200 < _; omega⟩
theorem Room.in1 {k : Nat} {A : Around} (r : Room (k + 1) A) : Room k A.in1 :=
  ⟨r.hd, by have := r.dp; show A.depth + 3 * k + 5 < _; omega, by have := r.un; show A.units + 1 + 16 * k + 200 < _; omega⟩
theorem Room.depth {k : Nat} {A : Around} (r : Room k A) : A.depth < recursionLimit := by have := r.dp; omega
theorem Room.units {k : Nat} {A : Around} (r : Room k A) : A.units + 64 < cLine := by have := r.un; omega
def tNil : TA := fun _ H Q => Q [] H
def tCons (ta : TE) (tr : TA) : TA := fun σ H Q => ta σ H fun x H1 => tr σ H1 fun xs H2 => Q (x :: xs) H2
section
variable {X : Cx} {e : Expr} {es : List Expr} {te : TE} {t : TA} {pos : Pos}
theorem pa_nil : PA X [] tNil := fun _ _ _ _ H Q I h => Calls.spliced_nil ⟨[], H, I, .nil, h⟩
theorem pa_cons (ha : PE X e te) (hr : PA X es t) (hs : starEach (e :: es) X.env = (false, eval e X.env) :: starEach es X.env := by rfl) : PA X (e :: es) (tCons te t) := by
  intro pos pins s σ H Q I h
  rw [hs]
  show wpAny _ _ (spliced ((false, eval e X.env) :: backTo pos (starEach es X.env))) _ _ s
  refine Calls.spliced_cons (thn (ha pins s σ H _ I h) fun u s1 ⟨x, H1, I1, r1, q1⟩ => ?_)
  exact thn (hr pos pins s1 σ H1 _ I1 q1) fun us s2 ⟨xs, H2, I2, r2, q2⟩ => ⟨x :: xs, H2, I2, .cons r1 r2, q2⟩


def tTup (t : TA) : TE := fun σ H Q => t σ H fun xs H1 => xs.length ≤ sizeLine ∧ ∀ p, H1 p = none → Q (.ref p) (upd H1 p (.tup xs))
def tLst (t : TA) : TE := fun σ H Q => t σ H fun xs H1 => xs.length ≤ sizeLine ∧ ∀ p, H1 p = none → Q (.ref p) (upd H1 p (.lst xs))
theorem pe_tup {x1} (h : PA X es t) : PE X (.Tuple es x1 pos) (tTup t) := by
  intro pins s σ H Q I hq
  refine wpAny_Tuple_spliced (thn (h pos pins s σ H _ I hq) fun us s1 ⟨xs, H1, I1, r, z, q⟩ => ⟨by rw [← r.length]; exact z, ?_⟩)
  have hf : H1 s1.heap.objs.size = none := I1.hok.fresh (Nat.le_refl _)
  refine ⟨.ref s1.heap.objs.size, upd H1 s1.heap.objs.size (.tup xs), I1.laid (t' := s1.toks) (fun b u e => Heap.get?_push_of_some _ e) (Nat.le_refl _) ?_, rfl, q _ hf⟩
  exact ⟨z, us, r, ⟨_, Heap.get?_push_size _ rfl, rfl, _, rfl⟩⟩
theorem pe_lst (h : PA X es t) : PE X (.List es pos) (tLst t) := by
  intro pins s σ H Q I hq
  refine wpAny_List_spliced (thn (h pos pins s σ H _ I hq) fun us s1 ⟨xs, H1, I1, r, z, q⟩ => ⟨by rw [← r.length]; exact z, ?_⟩)
  have hf : H1 s1.heap.objs.size = none := I1.hok.fresh (Nat.le_refl _)
  refine ⟨.ref s1.heap.objs.size, upd H1 s1.heap.objs.size (.lst xs), I1.laid (t' := s1.toks) (fun b u e => Heap.get?_push_of_some _ e) (Nat.le_refl _) ?_, rfl, q _ hf⟩
  exact ⟨z, us, 0, r, Heap.get?_push_size _ rfl⟩
end



abbrev Sp := List V → Hp → VK → XK → Prop

abbrev CXT := List Env → Hp → Shared → XK → Value → Shared → Prop


structure Env0 (P : Program) (w : World) (K : PySem.W.Frag) (mg : Str → Option Value) (base : Heap) (A : Around) (outer : List Env) (s : Shared) (H : Hp) : Prop where
  frames : A.frames = some outer
  mod : Mod K mg base
  bs : ∀ b o, base.get? b = some o → s.heap.get? b = some o ∧ H b = none
  bsz : base.objs.size ≤ s.heap.objs.size
  funs : s.heap.FunFrames base outer
  frf : ∀ b ∈ frs outer, H b = none
  hok : HOk P w H s.heap
  bare : AllBare s.gens
  tabs : ∀ b, Tb K mg b → ∃ ps, H b = some (.tbl ps)

def CE (outer : List Env) (P : Program) (w : World) (H : Hp) (s : Shared) (Q : VK) (u : Value) (s' : Shared) : Prop :=
  ∃ v H', s'.os = s.os ∧ GB s.gens s'.gens ∧ Un (frs outer) [] H H' s.heap s'.heap ∧ HOk P w H' s'.heap ∧ RelV v u ∧ Q v H'
def CR (CX : CXT) (outer : List Env) (P : Program) (w : World) (H : Hp) (s : Shared) (Q : VK) (E : XK) (r : Result) (s' : Shared) : Prop :=
  match r with
  | .ok (.ret u) => CE outer P w H s Q u s'
  | .ok _ => False
  | .error e => CX outer H s E e s'
structure FnOk (P : Program) (w : World) (K : PySem.W.Frag) (mg : Str → Option Value) (base : Heap) (CX : CXT) (k : Nat) (f : Addr) (fd : FuncData) (ps : List Str) (sp : Sp) : Prop where
  len : ∀ vs H Q E, sp vs H Q E → vs.length = ps.length
  run : ∀ (A : Around) (outer : List Env) (s : Shared) (H : Hp) (args : Args) (us : List Value) (vs : List V) (Q : VK) (E : XK), Room k A → Env0 P w K mg base A outer s H → BindsTo s fd args (ps.zip us) → Vals vs us → sp vs H Q E →
    codeAny (model P w) A (.call (.ref f) args) (CR CX outer P w H s Q E) s
theorem FnOk.mono {P : Program} {w : World} {K : PySem.W.Frag} {mg : Str → Option Value} {base : Heap} {CX : CXT} {j k : Nat} {f : Addr} {fd : FuncData} {ps : List Str} {sp : Sp} (F : FnOk P w K mg base CX j f fd ps sp) (h : j ≤ k) :
    FnOk P w K mg base CX k f fd ps sp := ⟨F.len, fun A outer s H args us vs Q E hr => F.run A outer s H args us vs Q E (hr.mono h)⟩

theorem FnOk.imp {P : Program} {w : World} {K : PySem.W.Frag} {mg : Str → Option Value} {base : Heap} {CX : CXT} {k : Nat} {f : Addr} {fd : FuncData} {ps : List Str} {sp sp' : Sp} (F : FnOk P w K mg base CX k f fd ps sp)
    (h : ∀ vs H Q E, sp' vs H Q E → sp vs H Q E) : FnOk P w K mg base CX k f fd ps sp' :=
  ⟨fun vs H Q E q => F.len vs H Q E (h _ _ _ _ q), fun A outer s H args us vs Q E hr he hb hv hs => F.run A outer s H args us vs Q E hr he hb hv (h _ _ _ _ hs)⟩

theorem Env0.in1 {P : Program} {w : World} {K : PySem.W.Frag} {mg : Str → Option Value} {base : Heap} {A : Around} {outer : List Env} {s : Shared} {H : Hp} (e : Env0 P w K mg base A outer s H) :
    Env0 P w K mg base A.in1 outer s H := ⟨e.frames, e.mod, e.bs, e.bsz, e.funs, e.frf, e.hok, e.bare, e.tabs⟩

section
variable {X : Cx} {pins : List (Addr × Obj)} {σ : St} {H : Hp} {s s' : Shared}

theorem Inv.env0 (I : Inv X pins σ H s) : Env0 X.prog X.w X.K X.mg X.base X.A X.stack s H :=
  ⟨I.ok.frames, I.ok.mod, I.bs, Nat.le_trans I.ok.bsz I.sz, I.stack, I.stkFree, I.hok, I.bare.1, I.tabs⟩

theorem Inv.after {Q : VK} {u : Value} (I : Inv X pins σ H s) (h : CE X.stack X.prog X.w H s Q u s') : EP X pins σ Q u s' := by
  obtain ⟨v, H', os, bare, un, hok, r, q⟩ := h
  obtain ⟨hh, g, d, t, os'⟩ := s'
  obtain rfl : os' = s.os := os
  exact ⟨v, H', I.call (h' := hh) (g' := g) (d' := d) (t' := t) (ch := []) un hok bare (fun b z => absurd z (by simp)), r, q⟩
end



def tCall (sp : Sp) (dvs : List V) (E : XK) (t : TA) : TE := fun σ H Q => t σ H fun vs H1 => sp (vs ++ dvs) H1 Q E

def Binds (K : PySem.W.Frag) (fd : FuncData) (ps : List Str) (ds : List Value) : Prop :=
  ∀ (s : Shared) (us : List Value), K.In s.heap → (us ++ ds).length = ps.length → BindsTo s fd ⟨us, []⟩ (ps.zip (us ++ ds))

theorem Binds.all {K : PySem.W.Frag} {fd : FuncData} {ps : List Str} (h : ∀ us : List Value, us.length = ps.length → bindArgs fd ⟨us, []⟩ = pure (ps.zip us)) : Binds K fd ps [] := fun s us _ hl => by
  rw [List.append_nil] at hl ⊢
  exact .of_eq (h us hl)


def Passes (CX : CXT) (X : Cx) (E : XK) : Prop := ∀ (pins : List (Addr × Obj)) (σ : St) (H : Hp) (s : Shared) (e : Value) (s' : Shared), Inv X pins σ H s → CX X.stack H s E e s' → X.xe e s'

section
variable {X : Cx} {CX : CXT} {k : Nat} {f C : Addr} {fd : FuncData} {ps : List Str} {sp : Sp} {dvs : List V} {ds : List Value} {E : XK} {x m : Str} {p pos apos : Pos} {e o : Expr} {es : List Expr} {ta : TE} {t : TA}


theorem run_fn {pins : List (Addr × Obj)} {σ : St} {H : Hp} {s : Shared} {Q : VK} {us : List Value} {vs : List V} (F : FnOk X.prog X.w X.K X.mg X.base CX k f fd ps sp) (hr : Room k X.A) (hb : Binds X.K fd ps ds) (hd : Vals dvs ds) (hx : Passes CX X E)
    (I : Inv X pins σ H s) (r : Vals vs us) (h : sp (vs ++ dvs) H Q E) : wpAny (model X.prog X.w) X.A (call (.ref f) us) (EP X pins σ Q) X.xe s := by
  have r2 : Vals (vs ++ dvs) (us ++ ds) := r.append hd
  have hl : (us ++ ds).length = ps.length := by rw [← r2.length]; exact F.len _ _ _ _ h
  refine wpAny_call (codeAny_mono (F.run X.A X.stack s H ⟨us, []⟩ (us ++ ds) (vs ++ dvs) Q E hr I.env0 (hb s us I.kIn hl) r2 h) fun r s' hq => ?_)
  cases r with
  | error e => exact hx pins σ H s e s' I hq
  | ok fl =>
    cases fl with
    | ret u => exact I.after hq
    | next => exact False.elim hq
    | brk => exact False.elim hq
    | cont => exact False.elim hq

theorem pe_call (F : FnOk X.prog X.w X.K X.mg X.base CX k f fd ps sp) (hr : Room k X.A) (hg : Gl X x) (hm : X.mg x = some (.ref f)) (hk : PySem.W.keepIn X.K (.ref f) = true) (hb : Binds X.K fd ps ds) (hd : Vals dvs ds) (hx : Passes CX X E)
    (ha : PA X (e :: es) t) (hdb : (x == ("__debug__" : Str)) = false := by decide) (he : starEach (e :: es) X.env = (false, eval e X.env) :: starEach es X.env := by rfl) (hpl : (backTo pos (starEach es X.env)).any (·.1) = false := by rfl) :
    PE X (.Call (.Name x p) (e :: es) [] pos) (tCall sp dvs E t) := by
  intro pins s σ H Q I h
  refine wpAny_Call_Name_kw (ld_glob I hg hm ?_ hdb)
  refine PySem.W.callWith_K (h₀ := X.base) I.ok.mod.kin hk (thn (ha pos pins s σ H _ I h) fun us s1 ⟨vs, H1, I1, r, q⟩ => ⟨I1.kIn, ?_⟩) he hpl
  exact run_fn F hr hb hd hx I1 r q
structure Mk (K : PySem.W.Frag) (C f : Addr) : Prop where
  makes : PySem.W.makesIn K C = true
  init : PySem.W.findIn K (.ref C) "__init__" = some (some (.ref f))
  fn : PySem.W.isFn K (.ref f) = true
  kp : PySem.W.keepIn K (.ref C) = true

end



section
variable {X : Cx} {CX : CXT} {k : Nat} {f C : Addr} {fd : FuncData} {ps ks : List Str} {sp : Sp} {E : XK} {x m : Str} {p pos apos kpos : Pos} {e o : Expr} {es : List Expr} {kws : List Keyword} {te ta : TE} {t tk : TA} {nm : Option Str}
structure KBinds (K : PySem.W.Frag) (fd : FuncData) (ps ks : List Str) (g : List Value → List Value → List Value) (gV : List V → List V → List V) : Prop where
  to : ∀ (s : Shared) (us ws : List Value), K.In s.heap → (g us ws).length = ps.length → BindsTo s fd ⟨us, ks.zip ws⟩ (ps.zip (g us ws))
  rel : ∀ {vs : List V} {us : List Value} {zs : List V} {ws : List Value}, Vals vs us → Vals zs ws → Vals (gV vs zs) (g us ws)
variable {g : List Value → List Value → List Value} {gV : List V → List V → List V}
end



structure FnScope (N P : List Str) (sc : Scope) : Prop where
  kind : sc.kind = .function
  co : sc.isCoroutine = false
  gen : sc.isGenerator = false
  nd : N.Nodup
  pre : N.take P.length = P
  par : ∀ x ∈ P, sc.names.lookup x = some .local ∨ sc.names.lookup x = some .cell
  nofree : ∀ y ∈ sc.names, y.2 ≠ .free

theorem bindL_out {kindOf : Str → Option NameKind} {x : Str} : ∀ {binds : List (Str × Value)} {m : Str → Option Value}, (∀ v, (x, v) ∉ binds) → bindL kindOf binds m x = m x
  | [], _, _ => rfl
  | (n, v) :: r, m, h => by
    unfold bindL
    rw [bindL_out fun w hw => h w (List.mem_cons_of_mem _ hw)]
    split
    · have : x ≠ n := by rintro rfl; exact h v List.mem_cons_self
      simp [this]
    · rfl
theorem bindC_out {kindOf : Str → Option NameKind} {x : Str} : ∀ {binds : List (Str × Value)} {m : Str → Option Value}, (∀ v, (x, v) ∉ binds) → bindC kindOf binds m x = m x
  | [], _, _ => rfl
  | (n, v) :: r, m, h => by
    unfold bindC
    rw [bindC_out fun w hw => h w (List.mem_cons_of_mem _ hw)]
    split
    · rfl
    · have : x ≠ n := by rintro rfl; exact h v List.mem_cons_self
      simp [this]
theorem bindL_get {kindOf : Str → Option NameKind} {x : Str} {v : Value} : ∀ {P : List Str} {vs : List Value} {i : Nat} {m : Str → Option Value}, P.Nodup → P[i]? = some x → vs[i]? = some v → kindOf x = some .local →
    bindL kindOf (P.zip vs) m x = some v
  | [], _, _, _, _, h, _, _ => by simp at h
  | _ :: _, [], _, _, _, _, h, _ => by simp at h
  | p :: P, w :: vs, 0, m, nd, h1, h2, hk => by
    simp at h1 h2; subst h1; subst h2
    show bindL kindOf ((p, w) :: P.zip vs) m p = _
    unfold bindL
    rw [bindL_out fun v hv => (List.nodup_cons.mp nd).1 (List.of_mem_zip hv).1, if_pos hk]
    simp
  | p :: P, w :: vs, i + 1, m, nd, h1, h2, hk => by
    show bindL kindOf ((p, w) :: P.zip vs) m x = _
    unfold bindL
    exact bindL_get (i := i) (List.nodup_cons.mp nd).2 (by simpa using h1) (by simpa using h2) hk
theorem bindC_get {kindOf : Str → Option NameKind} {x : Str} {v : Value} : ∀ {P : List Str} {vs : List Value} {i : Nat} {m : Str → Option Value}, P.Nodup → P[i]? = some x → vs[i]? = some v → kindOf x ≠ some .local →
    bindC kindOf (P.zip vs) m x = some v
  | [], _, _, _, _, h, _, _ => by simp at h
  | _ :: _, [], _, _, _, _, h, _ => by simp at h
  | p :: P, w :: vs, 0, m, nd, h1, h2, hk => by
    simp at h1 h2; subst h1; subst h2
    show bindC kindOf ((p, w) :: P.zip vs) m p = _
    unfold bindC
    rw [bindC_out fun v hv => (List.nodup_cons.mp nd).1 (List.of_mem_zip hv).1, if_neg hk]
    simp
  | p :: P, w :: vs, i + 1, m, nd, h1, h2, hk => by
    show bindC kindOf ((p, w) :: P.zip vs) m x = _
    unfold bindC
    exact bindC_get (i := i) (List.nodup_cons.mp nd).2 (by simpa using h1) (by simpa using h2) hk


def start (N : List Str) (vs : List V) : St := vs.map some ++ List.replicate (N.length - vs.length) none


def cxOf (CX : CXT) (P : Program) (w : World) (K : PySem.W.Frag) (mg : Str → Option Value) (base : Heap) (N : List Str) (qual : Str) (scope : Scope) (f : Addr) (cd : Value) (A : Around) (outer : List Env) (s : Shared) (H : Hp) (E : XK) : Cx where
  prog := P
  w := w
  K := K
  mg := mg
  base := base
  A := A.deeper (envOfC qual scope s.heap.objs.size f cd)
  N := N
  s_0 := s
  H_0 := H
  env := envOfC qual scope s.heap.objs.size f cd
  outer := outer
  stack := envOfC qual scope s.heap.objs.size f cd :: outer
  ex := []
  calm := true
  fn := fun _ => true
  pn := []
  xe := fun e s' => wpAny (model P w) (A.deeper (envOfC qual scope s.heap.objs.size f cd)) (leaving (envOfC qual scope s.heap.objs.size f cd) e) (fun _ s'' => CX outer H s E e s'') (fun e' s'' => CX outer H s E e' s'') s'

theorem cell_has {sc : Scope} {n : Nat} {x : Str} (h : sc.names.lookup x = some .cell) : ∃ c, (cellsFrom n sc.names []).lookup x = some c := by
  have q := PySem.W.cellsFrom_some sc.names n [] (.inl h)
  exact Option.isSome_iff_exists.mp q

theorem inv_start {CX : CXT} {P : Program} {w : World} {K : PySem.W.Frag} {mg : Str → Option Value} {base : Heap} {N ps : List Str} {qual : Str} {scope : Scope} {f : Addr} {cd : Value} {A : Around} {outer : List Env} {s s1 : Shared} {H : Hp} {E : XK} {us : List Value} {vs : List V}
    (S : FnScope N ps scope) (hd : A.handled = none) (e0 : Env0 P w K mg base A outer s H) (hl : vs.length = ps.length) (r : Vals vs us)
    (x : InCallC s s.heap.objs.size (bindL (envOfC qual scope s.heap.objs.size f cd).kindOf (ps.zip us) fun _ => none) (cellsFrom (s.heap.objs.size + 1) scope.names []) (bindC (envOfC qual scope s.heap.objs.size f cd).kindOf (ps.zip us) fun _ => none) s1) :
    Inv (cxOf CX P w K mg base N qual scope f cd A outer s H E) [] (start N vs) H s1 := by
  have hpl : ps.length ≤ N.length := by have := congrArg List.length S.pre; rw [List.length_take] at this; omega
  obtain ⟨h1, tk, rfl, hk⟩ := x.done
  have noA : ∀ b : Addr, b ∉ (cxOf CX P w K mg base N qual scope f cd A outer s H E).ex := fun b z => absurd (show b ∈ ([] : List Addr) from z) (by simp)
  refine ⟨⟨e0.mod, S.kind, rfl, rfl, Nat.le_refl _, fun y z c h1 h2 => ?_, fun y hy => ?_, fun y c _ h => ?_, fun _ => hd, Around.frames_deeper e0.frames, .inr ⟨rfl, rfl⟩, fun b z => absurd z (noA b), e0.bs, e0.bsz, fun b _ _ => noA b, fun b z => absurd z (noA b), e0.funs, e0.frf, e0.tabs⟩,
    rfl, ⟨e0.bare, Nat.le_refl _⟩, Un.kept hk, ⟨_, x.toInCall.ns, fun i y v h1 h2 h3 => ?_⟩, fun y c h => ⟨_, x.cell y c h⟩, e0.hok.fresh (Nat.le_refl _), fun y c h => ?_, fun p hp => absurd (show p ∈ ([] : List (Addr × Obj)) from hp) (by simp), e0.hok.kept hk, ?_⟩
  · exact name_of_addr x.apart (PySem.mem_of_lookup h1) (PySem.mem_of_lookup h2)
  · have hy : scope.names.lookup y = some .cell ∨ scope.names.lookup y = some .free := hy
    rcases hy with hy | hy
    · exact cell_has hy
    · exact absurd rfl (S.nofree _ (PySem.mem_of_lookup hy))
  · exact Nat.le_of_lt (x.above y c (PySem.mem_of_lookup h))
  · have hi : i < vs.length := by
      unfold start at h2
      by_cases hi : i < vs.length
      · exact hi
      · rw [List.getElem?_append_right (by simpa using hi)] at h2
        rw [List.getElem?_replicate] at h2
        split at h2 <;> cases h2
    have ha : vs[i]? = some v := by
      unfold start at h2
      rw [List.getElem?_append_left (by simpa using hi), List.getElem?_map] at h2
      cases e : vs[i]? with
      | none => rw [e] at h2; cases h2
      | some a => rw [e] at h2; cases h2; rfl
    obtain ⟨u, hu, rv⟩ := r.get ha
    have hp : ps[i]? = some y := by
      rw [← S.pre, List.getElem?_take_of_lt (by omega)]; exact h1
    have ndP : ps.Nodup := by rw [← S.pre]; exact S.nd.sublist (List.take_sublist _ _)
    refine ⟨u, rv, ?_⟩
    rcases S.par y (List.mem_of_getElem? hp) with k | k
    · exact .inl ⟨k, bindL_get ndP hp hu k⟩
    · obtain ⟨c, e⟩ := cell_has (n := s.heap.objs.size + 1) k
      refine .inr ⟨.inl k, c, e, ?_⟩
      have q := x.cell y c e
      rw [bindC_get ndP hp hu (by show scope.names.lookup y ≠ _; rw [k]; decide)] at q
      exact q
  · exact e0.hok.fresh (Nat.le_of_lt (x.above y c (PySem.mem_of_lookup h)))
  · unfold start
    show _ = N.length
    rw [List.length_append, List.length_map, List.length_replicate]
    omega


theorem fn_of {CX : CXT} {P : Program} {w : World} {K : PySem.W.Frag} {mg : Str → Option Value} {base : Heap} {k : Nat} {f : Addr} {name qual : Str} {params : Arguments} {body : List Stmt} {scope : Scope} {dV kV doc pm cdv ct oc : Value} {an od : Option Addr}
    {osl : Array (Option Value)} {N ps : List Str} {sp : Sp} (lk : K.lookup f = some ⟨oc, od, .func (PySem.W.fnOf name qual params body scope dV kV doc pm an cdv ct), osl⟩) (hcd : PySem.W.codeIn K cdv qual = true) (S : FnScope N ps scope)
    (len : ∀ vs H Q E, sp vs H Q E → vs.length = ps.length)
    (hbody : ∀ (A : Around) (outer : List Env) (s : Shared) (H : Hp) (vs : List V) (Q : VK) (E : XK), Room k (A.deeper (envOfC qual scope s.heap.objs.size f cdv)) → sp vs H Q E →
      ∃ t, PSs (cxOf CX P w K mg base N qual scope f cdv A outer s H E) body t ∧ t { nx := fun _ H' => Q .non H', rt := Q } (start N vs) H) :
    FnOk P w K mg base CX (k + 1) f (PySem.W.fnOf name qual params body scope dV kV doc pm an cdv ct) ps sp := by
  refine ⟨len, fun A outer s H args us vs Q E hr e0 hb r hsp => ?_⟩
  have hl := len _ _ _ _ hsp
  have KX : K.In s.heap := e0.mod.kin.keeps fun b o e => (e0.bs b o e).1
  have lim : s.heap.NoLimit := e0.mod.nolimit.keeps fun b o e => (e0.bs b o e).1
  have hkind : ∀ y ∈ ps.zip us, scope.names.lookup y.1 = some .local ∨ (scope.names.lookup y.1 = some .cell ∧ ((cellsFrom (s.heap.objs.size + 1) scope.names []).lookup y.1).isSome = true) := fun ⟨n, v⟩ hy => by
    rcases S.par n (List.of_mem_zip hy).1 with q | q
    · exact .inl q
    · exact .inr ⟨q, PySem.W.cellsFrom_some _ _ _ (.inl q)⟩
  refine codeAny_call_function hr.depth (KX _ _ lk) rfl S.co S.gen rfl (PySem.W.codeRec_of KX hcd) (hb _ _ _ _ ?_)
  refine wpAny_newFunctionEnv_cells S.kind hkind fun env he s1 x => ?_
  subst he
  refine ⟨lim.keeps x.toInCall.keep, codeAny_func ?_⟩
  obtain ⟨t, ht, hq⟩ := hbody A outer s H vs Q E (hr.deeper _) hsp
  have I : Inv (cxOf CX P w K mg base N qual scope f cdv A outer s H E) [] (start N vs) H s1 := inv_start S hr.hd e0 hl r x
  refine wpAny_mono (ht [] s1 (start N vs) H _ I hq) (fun fl s' hs => ?_) fun e s' hs => hs
  have fin : ∀ {σ' : St} {H' : Hp} {v : V} {u : Value}, Inv (cxOf CX P w K mg base N qual scope f cdv A outer s H E) [] σ' H' s' → RelV v u → Q v H' → CE outer P w H s Q u s' :=
    fun {σ' H' v u} J rv q => ⟨v, H', J.os, J.bare, J.base, J.hok, rv, q⟩
  cases fl with
  | ret u =>
    obtain ⟨v, σ', H', J, rv, q⟩ := hs
    exact fin J rv q
  | next =>
    obtain ⟨σ', H', J, q⟩ := hs
    exact fin (v := V.non) (u := Value.none) J rfl q
  | brk =>
    obtain ⟨_, _, _, q⟩ := hs
    exact False.elim q
  | cont =>
    obtain ⟨_, _, _, q⟩ := hs
    exact False.elim q
end L2

namespace L2
open PySem PySem.Spec PyProof.Rows
section
variable {X : Cx} {x : Str} {p pos : Pos} {e : Expr} {es : List Expr} {t : TA} {id T : String} {r : List V → Hp → VK → Prop}

def tCB (r : List V → Hp → VK → Prop) (t : TA) : TE := fun σ H Q => t σ H fun vs H1 => r vs H1 Q

theorem pe_callB (hc : CallR X (.builtin id) r) (hg : Gl X x) (hm : X.mg x = none) (hv : bootBuiltins x = some (.builtin id)) (ha : PA X (e :: es) t) (hn : x ≠ "__name__" := by decide) (hdb : (x == ("__debug__" : Str)) = false := by decide)
    (he : starEach (e :: es) X.env = (false, eval e X.env) :: starEach es X.env := by rfl) (hpl : (backTo pos (starEach es X.env)).any (·.1) = false := by rfl) : PE X (.Call (.Name x p) (e :: es) [] pos) (tCB r t) := by
  intro pins s σ H Q I h
  refine wpAny_Call_Name_kw (ld_blt I hg hm hv ?_ hn hdb)
  exact PyProof.Rows.callWith_builtin1 (thn (ha pos pins s σ H _ I h) fun us s1 ⟨vs, H1, I1, r1, q1⟩ => hc pins s1 σ H1 vs us Q I1 r1 q1) he hpl

theorem pe_callTy (hc : CallR X (.type T) r) (hg : Gl X x) (hm : X.mg x = none) (hv : bootBuiltins x = some (.type T)) (ha : PA X (e :: es) t) (hn : x ≠ "__name__" := by decide) (hdb : (x == ("__debug__" : Str)) = false := by decide)
    (he : starEach (e :: es) X.env = (false, eval e X.env) :: starEach es X.env := by rfl) (hpl : (backTo pos (starEach es X.env)).any (·.1) = false := by rfl) : PE X (.Call (.Name x p) (e :: es) [] pos) (tCB r t) := by
  intro pins s σ H Q I h
  refine wpAny_Call_Name_kw (ld_blt I hg hm hv ?_ hn hdb)
  exact PyProof.Rows.callWith_type1 (thn (ha pos pins s σ H _ I h) fun us s1 ⟨vs, H1, I1, r1, q1⟩ => hc pins s1 σ H1 vs us Q I1 r1 q1) he hpl

end
end L2

namespace HT
open PySem PyProof.Rows


section
open PySem.SeqAt
open PySem.AutoSeq1 (wpAny_loadPart')
open PySem.MeetsSeq PySem.MeetsSeq2 PySem.MeetsSeq3

end

section
variable {prog : Program} {w : World} {A : Around} {E : Value → Shared → Prop} {s : Shared}

theorem cat_tup {t b : Addr} {vs ws : List Value} {Q : Value → Shared → Prop} (ht : IsTup s.heap t vs.toArray) (hb : IsTup s.heap b ws.toArray) (hv : vs ≠ [])
    (h1 : ws = [] → Q (.ref t) s) (h2 : ws ≠ [] → Q (.ref s.heap.objs.size) { s with heap := s.heap.push { cls := .type "tuple", data := .seq (vs ++ ws).toArray } })
    (hsz : vs.length + ws.length ≤ sizeLine) : wpAny (model prog w) A (binaryOp .Add (.ref t) (.ref b)) Q E s := by
  obtain ⟨⟨cls, dd, data, sl⟩, ho, hc, n, hd⟩ := id ht
  obtain ⟨⟨cls2, dd2, data2, sl2⟩, ho2, hc2, n2, hd2⟩ := id hb
  simp only at hc hd hc2 hd2
  subst hc hd hc2 hd2
  have e : vs.toArray ++ ws.toArray = (vs ++ ws).toArray := by simp
  by_cases hw : ws = []
  · exact concat_meets ⟨_, ho, rfl⟩ ⟨_, ho2, rfl⟩ noFill_tuple_add seq_tuple_add PySem.F.slot_tuple_add PySem.F.entry_tuple_add (PySem.F.args_tuple_add_2 _ _)
      (tuple_addW1 t b vs.toArray ws.toArray n n2 dd dd2 sl sl2 (by simpa using hv) (by simp [hw])) ⟨ho, ho2, h1 hw⟩
  · refine concat_meets ⟨_, ho, rfl⟩ ⟨_, ho2, rfl⟩ noFill_tuple_add seq_tuple_add PySem.F.slot_tuple_add PySem.F.entry_tuple_add (PySem.F.args_tuple_add_2 _ _)
      (tuple_addW2 t b vs.toArray ws.toArray n n2 dd dd2 sl sl2 (by simpa using hv) (by simpa using hw) (by rw [List.size_toArray, List.size_toArray]; exact hsz)) ⟨ho, ho2, ?_⟩
    rw [e]
    exact h2 hw



def sIx (n d : Nat) : Option Int → Nat
  | none => d
  | some v => if v < 0 then (v + (n : Int)).toNat else min v.toNat n
theorem sIx_le (n d : Nat) (hd : d ≤ n) (o : Option Int) : sIx n d o ≤ n := by
  cases o with
  | none => exact hd
  | some v =>
    show (if v < 0 then (v + (n : Int)).toNat else min v.toNat n) ≤ n
    by_cases hv : v < 0
    · rw [if_pos hv]; omega
    · rw [if_neg hv]; exact Nat.min_le_right _ _
theorem clip_eq (v : Int) (n d : Nat) : (if v < 0 then max (v + (n : Int)) 0 else min v (n : Int)) = ((sIx n d (some v) : Nat) : Int) := by
  show (if v < 0 then max (v + (n : Int)) 0 else min v (n : Int)) = (((if v < 0 then (v + (n : Int)).toNat else min v.toNat n) : Nat) : Int)
  by_cases hv : v < 0
  · simp only [if_pos hv]; omega
  · simp only [if_neg hv]; omega
theorem adjust_gen (lo hi : Option Int) (n : Nat) : Builtin.Slice.sliceAdjust lo hi 1 (n : Int) = (((sIx n 0 lo : Nat) : Int), ((sIx n n hi : Nat) : Int)) := by
  have h1 : ¬ ((1 : Int) < 0) := by omega
  unfold Builtin.Slice.sliceAdjust
  simp only [h1, if_false]
  refine Prod.ext ?_ ?_
  · cases lo with
    | none => rfl
    | some v => exact clip_eq v n 0
  · cases hi with
    | none => rfl
    | some v => exact clip_eq v n n
theorem places_gen (i j : Nat) : Builtin.Slice.slicePlaces (i : Int) (j : Int) 1 = j - i := by
  unfold Builtin.Slice.slicePlaces
  have h1 : (1 : Int) > 0 := by omega
  simp only [h1, if_true, Int.ediv_one]
  split <;> omega
theorem slicePart_ {v : Value} {o : Option Int} {Q : Option Int → Shared → Prop} (p : IsPart v o) (h : Q o s) : wpAny (model prog w) A (Builtin.Slice.slicePartIndex v) Q E s := by
  cases p with
  | none => exact slicePart_none h
  | int i t => exact slicePart_int h
theorem sliceApplied_gen {sl : Addr} {vl vu : Value} {lo hi : Option Int} {n : Nat} {Q : Int × Int × Nat → Shared → Prop} (hs : s.heap.IsSliceOf sl vl vu .none) (pl : IsPart vl lo) (pu : IsPart vu hi)
    (h : Q (((sIx n 0 lo : Nat) : Int), 1, sIx n n hi - sIx n 0 lo) s) : wpAny (model prog w) A (Builtin.Slice.sliceApplied (.ref sl) (pure (n : Int))) Q E s := by
  obtain ⟨os, hos, hcs, hds⟩ := id hs
  unfold Builtin.Slice.sliceApplied Builtin.Slice.sliceFields
  refine wpAny_bind (wpAny_bind (wpAny_field hos hds (x := vl) rfl (wpAny_bind (wpAny_field hos hds (x := vu) rfl (wpAny_bind (wpAny_field hos hds (x := .none) rfl (wpAny_pure ?_)))))))
  refine wpAny_bind (slicePart_none ?_)
  show wpAny _ _ (if ((1 : Int) == 0) = true then _ else _) _ _ s
  rw [if_neg (by decide)]
  refine wpAny_bind (slicePart_ pl (wpAny_bind (slicePart_ pu (wpAny_bind (wpAny_pure ?_)))))
  show wpAny _ _ (match Builtin.Slice.sliceAdjust lo hi 1 (n : Int) with | (lo, hi) => pure (lo, (1 : Int), Builtin.Slice.slicePlaces lo hi 1)) _ _ s
  rw [adjust_gen lo hi n]
  show wpAny _ _ (pure (((sIx n 0 lo : Nat) : Int), (1 : Int), Builtin.Slice.slicePlaces ((sIx n 0 lo : Nat) : Int) ((sIx n n hi : Nat) : Int) 1)) _ _ s
  rw [places_gen]
  exact wpAny_pure h
theorem pick_gen (xs : Array Value) (i k : Nat) : ((List.range k).filterMap fun (m : Nat) => xs[((i : Int) + (m : Int) * 1).toNat]?).toArray = ((xs.toList.drop i).take k).toArray := by
  have e : (fun (m : Nat) => xs[((i : Int) + (m : Int) * 1).toNat]?) = fun m => xs[i + m]? := by
    funext m
    have : ((i : Int) + (m : Int) * 1).toNat = i + m := by omega
    rw [this]
  rw [e]
  have := pick_run xs i k
  rw [List.filterMap_map] at this
  have e2 : ((fun x => xs[x]?) ∘ fun x => i + x) = fun m => xs[i + m]? := rfl
  rw [e2] at this
  rw [this]

theorem getItem_tuple_cut {t sl : Addr} {items : Array Value} {vl vu : Value} {lo hi : Option Int} {Q : Value → Shared → Prop} (ht : IsTup s.heap t items) (hs : s.heap.IsSliceOf sl vl vu .none) (pl : IsPart vl lo) (pu : IsPart vu hi)
    (hw : ¬ (sIx items.size 0 lo = 0 ∧ sIx items.size items.size hi = items.size))
    (h : Q (.ref s.heap.objs.size) { s with heap := s.heap.push { cls := .type "tuple", data := .seq ((items.toList.drop (sIx items.size 0 lo)).take (sIx items.size items.size hi - sIx items.size 0 lo)).toArray } })
    (hsz : items.size ≤ sizeLine) : wpAny (model prog w) A (getItem (.ref t) (.ref sl)) Q E s := by
  have htake : sizeOk (.seq ((items.toList.drop (sIx items.size 0 lo)).take (sIx items.size items.size hi - sIx items.size 0 lo)).toArray) := by
    show ((items.toList.drop (sIx items.size 0 lo)).take (sIx items.size items.size hi - sIx items.size 0 lo)).toArray.size ≤ sizeLine
    rw [List.size_toArray, List.length_take, List.length_drop, Array.length_toList]
    omega
  have hj : sIx items.size items.size hi ≤ items.size := sIx_le _ _ (Nat.le_refl _) hi
  obtain ⟨os, hos, hcs, hds⟩ := id hs
  have hTs : s.TypeIs (.ref sl) "slice" := ⟨os, hos, hcs⟩
  unfold getItem
  try with_reducible refine wpAny_holding ?_
  first | refine wpAny_bind (wpAny_pure ?_) | skip
  refine wpAny_bind (wpAny_sequenceKey ht.typeIs (by decide) ?_)
  refine wpAny_bind (wpAny_callSpecial?_slot (name := Str.ofString "__getitem__") ht.typeIs PyProof.Rows.slot_tuple_getitem
    (wpAny_call_entry PyProof.Rows.slot_tuple_getitem ht.typeIs entry_tuple_getitem ?_ (args_tuple_getitem _ _)))
  show wpAny _ _ (Builtin.Tuple.tupleItemsOf (.ref t) >>= _) _ _ s
  refine wpAny_bind (tupleItemsOf_ ht ?_)
  refine wpAny_bind (wpAny_typeOf hTs ?_)
  rw [if_pos (by decide)]
  refine wpAny_bind (sliceApplied_gen hs pl pu ?_)
  have hno : ¬ ((((sIx items.size 0 lo : Nat) : Int) == 0 && (1 : Int) == 1 && (sIx items.size items.size hi - sIx items.size 0 lo) == items.size) = true) := by
    intro q
    rw [Bool.and_eq_true, Bool.and_eq_true] at q
    have q1 : ((sIx items.size 0 lo : Nat) : Int) = 0 := eq_of_beq q.1.1
    have q2 : sIx items.size items.size hi - sIx items.size 0 lo = items.size := eq_of_beq q.2
    exact hw ⟨by omega, by omega⟩
  show wpAny _ _ (if (((sIx items.size 0 lo : Nat) : Int) == 0 && (1 : Int) == 1 && (sIx items.size items.size hi - sIx items.size 0 lo) == items.size) = true then _ else _) _ _ s
  rw [if_neg hno, pick_gen]
  first
    | exact wpAny_bind (m := Builtin.Tuple.tupleExact _) (wpAny_newObj_type (wpAny_pure ⟨_, rfl, wpAny_pure h⟩) htake)
    | exact wpAny_bind (m := Builtin.Tuple.tupleExact _) (wpAny_newObj_type (wpAny_bind (wpAny_pure (wpAny_pure ⟨_, rfl, wpAny_pure h⟩))) htake)
    | exact wpAny_bind (wpAny_bind (m := Builtin.Tuple.tupleExact _) (wpAny_newObj_type (wpAny_pure (wpAny_pure ⟨_, rfl, wpAny_pure h⟩)) htake))
    | exact wpAny_bind (wpAny_bind (m := Builtin.Tuple.tupleExact _) (wpAny_newObj_type (wpAny_pure ⟨_, rfl, wpAny_pure h⟩) htake))
end
end HT

namespace L2
open PySem PySem.Spec PyProof.Rows


abbrev TO := St → Hp → (Option Int → Hp → Prop) → Prop

def PO (X : Cx) (e : Option Expr) (t : TO) : Prop :=
  ∀ (pins : List (Addr × Obj)) (s : Shared) (σ : St) (H : Hp) (Q : Option Int → Hp → Prop), Inv X pins σ H s → t σ H Q →
    wpAny (model X.prog X.w) X.A (evalPart e X.env) (fun u s' => ∃ o H', Inv X pins σ H' s' ∧ IsPart u o ∧ Q o H') X.xe s
def tNoPart : TO := fun _ H Q => Q none H
def tPart (t : TE) : TO := fun σ H Q => t σ H fun x H1 => ∃ i, x = .int i ∧ Q (some i) H1

section
variable {X : Cx} {e : Expr} {te : TE} {lo hi : Option Expr} {tl th : TO} {pos p2 : Pos}

theorem po_none : PO X none tNoPart := by
  intro pins s σ H Q I h
  rw [evalPart_none]
  exact wpAny_pure ⟨none, H, I, .none, h⟩
theorem po_some (h : PE X e te) : PO X (some e) (tPart te) := by
  intro pins s σ H Q I hw
  rw [evalPart_some]
  refine thn (h pins s σ H _ I hw) fun u s1 ⟨x, H1, I1, r1, q1⟩ => ?_
  obtain ⟨i, rfl, q⟩ := q1
  obtain ⟨t, rfl⟩ := r1
  exact ⟨some i, H1, I1, .int i t, q⟩


def SlR (X : Cx) (r : V → Option Int → Option Int → Hp → VK → Prop) : Prop :=
  ∀ (pins : List (Addr × Obj)) (s : Shared) (σ : St) (H : Hp) (x : V) (v vl vu : Value) (lo hi : Option Int) (sl : Addr) (Q : VK), Inv X pins σ H s → RelV x v → s.heap.IsSliceOf sl vl vu .none → IsPart vl lo → IsPart vu hi → r x lo hi H Q →
    ∃ T id, typeLookup (.type T) "__getitem__" = pure (some (.builtin id)) ∧ s.TypeIs v T ∧ wpAny (model X.prog X.w) X.A (getItem v (.ref sl)) (EP X pins σ Q) X.xe s
theorem SlR.or {r r' : V → Option Int → Option Int → Hp → VK → Prop} (h : SlR X r) (h' : SlR X r') : SlR X (fun x lo hi H Q => r x lo hi H Q ∨ r' x lo hi H Q) := by
  intro pins s σ H x v vl vu lo hi sl Q I rx hs pl pu q
  rcases q with q | q
  · exact h pins s σ H x v vl vu lo hi sl Q I rx hs pl pu q
  · exact h' pins s σ H x v vl vu lo hi sl Q I rx hs pl pu q
def tSl (r : V → Option Int → Option Int → Hp → VK → Prop) (te : TE) (tl th : TO) : TE := fun σ H Q => te σ H fun x H1 => tl σ H1 fun l H2 => th σ H2 fun u H3 => r x l u H3 Q

theorem pe_slice {r : V → Option Int → Option Int → Hp → VK → Prop} (hr : SlR X r) (he : PE X e te) (hl : PO X lo tl) (hu : PO X hi th) : PE X (.Subscript e (.Slice lo hi none p2) pos) (tSl r te tl th) := by
  intro pins s σ H Q I h
  refine Subscript_ (thn (he pins s σ H _ I h) fun v s1 ⟨x, H1, I1, r1, q1⟩ => ?_)
  refine wpAny_Slice (thn (hl pins s1 σ H1 _ I1 q1) fun vl s2 ⟨l, H2, I2, pl, q2⟩ => thn (hu pins s2 σ H2 _ I2 q2) fun vu s3 ⟨u, H3, I3, pu, q3⟩ => ?_)
  rw [evalPart_none]
  refine wpAny_pure ?_
  have I4 : Inv X pins σ H3 { s3 with heap := s3.heap.push { cls := .type "slice", data := .fields #[vl, vu, .none] } } := I3.kept (t' := s3.toks) fun b ob q => Heap.get?_push_of_some _ q
  obtain ⟨T, id, hT, ht, hg⟩ := hr pins { s3 with heap := s3.heap.push { cls := .type "slice", data := .fields #[vl, vu, .none] } } σ H3 x v vl vu l u s3.heap.objs.size Q I4 r1 (Heap.IsSliceOf.new ..) pl pu q3
  show wpAny (model X.prog X.w) X.A (subscriptTail e (.Slice lo hi none p2) v (.ref s3.heap.objs.size)) (EP X pins σ Q) X.xe { s3 with heap := s3.heap.push { cls := .type "slice", data := .fields #[vl, vu, .none] } }
  exact tail_any (ops := [.ref s3.heap.objs.size, v]) ht hT hg (by with_unfolding_all rfl)


def cutV (xs : List V) (lo hi : Option Int) : List V := (xs.drop (HT.sIx xs.length 0 lo)).take (HT.sIx xs.length xs.length hi - HT.sIx xs.length 0 lo)
theorem cutV_length (xs : List V) (lo hi : Option Int) : (cutV xs lo hi).length ≤ xs.length := by
  unfold cutV
  rw [List.length_take, List.length_drop]
  omega

def rSlT (K : PySem.W.Frag) : V → Option Int → Option Int → Hp → VK → Prop := fun x lo hi H Q => ∃ a xs, x = .ref a ∧ SqT K H a xs ∧
  ¬ (HT.sIx xs.length 0 lo = 0 ∧ HT.sIx xs.length xs.length hi = xs.length) ∧ ∀ p, H p = none → Q (.ref p) (upd H p (.tup (cutV xs lo hi)))
theorem sl_tup : SlR X (rSlT X.K) := by
  intro pins s σ H x v vl vu lo hi sl Q I rx hs pl pu h
  obtain ⟨a, xs, rfl, hx, hw, q⟩ := h
  cases rx
  obtain ⟨its, r, ht, hz⟩ := I.tuple hx
  have hlen : its.toArray.size = xs.length := by rw [List.size_toArray]; exact r.length.symm
  refine ⟨"tuple", _, PyProof.Rows.slot_tuple_getitem.lookup, ht.typeIs, ?_⟩
  refine HT.getItem_tuple_cut ht hs pl pu (by rw [hlen]; exact hw) ?_ (by rw [hlen]; exact hz)
  rw [hlen]
  refine ⟨.ref s.heap.objs.size, _, I.laid (t' := s.toks) (o := .tup (cutV xs lo hi)) (fun b ob q => Heap.get?_push_of_some _ q) (Nat.le_refl _) ?_, rfl, q _ (I.hok.fresh (Nat.le_refl _))⟩
  exact ⟨Nat.le_trans (cutV_length xs lo hi) hz, _, (r.drop (HT.sIx xs.length 0 lo)).take (HT.sIx xs.length xs.length hi - HT.sIx xs.length 0 lo), IsTup.new _ _⟩


def rCatT (K : PySem.W.Frag) : R2 := fun x y H Q => ∃ a b xs ys, x = .ref a ∧ y = .ref b ∧ SqT K H a xs ∧ SqT K H b ys ∧ xs ≠ [] ∧ xs.length + ys.length ≤ sizeLine ∧
  (ys = [] → Q (.ref a) H) ∧ (ys ≠ [] → ∀ p, H p = none → Q (.ref p) (upd H p (.tup (xs ++ ys))))
theorem Vals.nil_iff {xs : List V} {us : List Value} (r : Vals xs us) : us = [] ↔ xs = [] := by
  cases r with
  | nil => simp
  | cons _ _ => simp
theorem op_catT : OpR X (binaryOp .Add) (rCatT X.K) := by
  intro pins s σ H x y v u Q I rx ry h
  obtain ⟨a, b, xs, ys, rfl, rfl, ha, hb, hx, hz, q1, q2⟩ := h
  cases rx
  cases ry
  obtain ⟨its, r1, p1, _⟩ := I.tuple ha
  obtain ⟨its2, r2, p2, _⟩ := I.tuple hb
  refine HT.cat_tup p1 p2 (fun z => hx (r1.nil_iff.mp z)) (fun z => ⟨.ref a, H, I, rfl, q1 (r2.nil_iff.mp z)⟩) (fun z => ?_) (by rw [← r1.length, ← r2.length]; exact hz)
  refine ⟨.ref s.heap.objs.size, _, I.laid (t' := s.toks) (o := .tup (xs ++ ys)) (fun b ob q => Heap.get?_push_of_some _ q) (Nat.le_refl _) ?_, rfl, q2 (fun w => z (r2.nil_iff.mpr w)) _ (I.hok.fresh (Nat.le_refl _))⟩
  exact ⟨by rw [List.length_append]; exact hz, _, r1.append r2, IsTup.new _ _⟩

end
end L2

namespace L2
open PySem PySem.Spec PyProof.Rows



def ixN (n : Nat) (i : Int) : Option Nat := if 0 ≤ i then (if i < n then some i.toNat else none) else if -(n : Int) ≤ i then some (i + n).toNat else none
def atI {α : Type} (xs : List α) (i : Int) : Option α := (ixN xs.length i).bind fun j => xs[j]?
theorem ixN_seq {n : Nat} {i : Int} {j : Nat} (h : ixN n i = some j) : seqIndex? i n = some j ∧ j < n ∧ -(n : Int) ≤ i ∧ i < n := by
  unfold ixN at h
  by_cases h0 : 0 ≤ i
  · rw [if_pos h0] at h
    by_cases h1 : i < n
    · rw [if_pos h1] at h
      have e : i.toNat = j := Option.some.inj h
      exact ⟨by rw [seqIndex_of h0 h1, e], by omega, by omega, h1⟩
    · rw [if_neg h1] at h; cases h
  · rw [if_neg h0] at h
    by_cases h1 : -(n : Int) ≤ i
    · rw [if_pos h1] at h
      have e : (i + n).toNat = j := Option.some.inj h
      exact ⟨by rw [seqIndex_neg (by omega) h1, e], by omega, h1, by omega⟩
    · rw [if_neg h1] at h; cases h
theorem atI_get {α : Type} {xs : List α} {i : Int} {v : α} (h : atI xs i = some v) : ∃ j, seqIndex? i xs.length = some j ∧ xs[j]? = some v ∧ j < xs.length ∧ -(xs.length : Int) ≤ i ∧ i < xs.length := by
  unfold atI at h
  cases e : ixN xs.length i with
  | none => rw [e] at h; cases h
  | some j =>
    rw [e] at h
    obtain ⟨h1, h2, h3, h4⟩ := ixN_seq e
    exact ⟨j, h1, h, h2, h3, h4⟩
def PlainIx (b : Expr) : Prop := ∀ o i, subscripted b false o i = operate [o, i] (getItem o i)

def IxR (X : Cx) (r : R2) : Prop :=
  ∀ (value slice : Expr) (pins : List (Addr × Obj)) (s : Shared) (σ : St) (H : Hp) (x y : V) (v u : Value) (Q : VK), Inv X pins σ H s → RelV x v → RelV y u → r x y H Q →
    subscripted slice false v u = operate [v, u] (getItem v u) → wpAny (model X.prog X.w) X.A (subscriptTail value slice v u) (EP X pins σ Q) X.xe s

def MtR (X : Cx) (id : String) (r : V → List V → Hp → VK → Prop) : Prop :=
  ∀ (pins : List (Addr × Obj)) (s : Shared) (σ : St) (H : Hp) (x : V) (xs : List V) (v : Value) (us : List Value) (Q : VK), Inv X pins σ H s → RelV x v → Vals xs us → r x xs H Q →
    wpAny (model X.prog X.w) X.A (call (.builtin id) (v :: us)) (EP X pins σ Q) X.xe s
section
variable {X : Cx} {a b : Expr} {ta tb : TE} {pos : Pos}
theorem IxR.or {r r' : R2} (h : IxR X r) (h' : IxR X r') : IxR X (fun x y H Q => r x y H Q ∨ r' x y H Q) := by
  intro value slice pins s σ H x y v u Q I rx ry q hs
  rcases q with q | q
  · exact h value slice pins s σ H x y v u Q I rx ry q hs
  · exact h' value slice pins s σ H x y v u Q I rx ry q hs
theorem MtR.or {id : String} {r r' : V → List V → Hp → VK → Prop} (h : MtR X id r) (h' : MtR X id r') : MtR X id (fun x xs H Q => r x xs H Q ∨ r' x xs H Q) := by
  intro pins s σ H x xs v us Q I rx rs q
  rcases q with q | q
  · exact h pins s σ H x xs v us Q I rx rs q
  · exact h' pins s σ H x xs v us Q I rx rs q

theorem pe_ix {r : R2} (hr : IxR X r) (ha : PE X a ta) (hb : PE X b tb) (hs : PlainIx b) : PE X (.Subscript a b pos) (tOp r ta tb) := by
  intro pins s σ H Q I h
  exact Subscript_ (binT ha hb I h fun v u s2 x y H2 I2 rx ry q => hr a b pins s2 σ H2 x y v u Q I2 rx ry q (hs _ _))

def rIxL (K : PySem.W.Frag) : R2 := fun x y H Q => ∃ p xs i v, x = .ref p ∧ y = .int i ∧ SqL K H p xs ∧ atI xs i = some v ∧ Q v H
def rIxT (K : PySem.W.Frag) : R2 := fun x y H Q => ∃ p xs i v, x = .ref p ∧ y = .int i ∧ SqT K H p xs ∧ atI xs i = some v ∧ Q v H
def rIxS : R2 := fun x y H Q => ∃ z i c, x = .str z ∧ y = .int i ∧ z.length ≤ sizeLine ∧ atI z.cps.toList i = some c ∧ Q (.str ⟨#[c]⟩) H
theorem ix_list : IxR X (rIxL X.K) := by
  intro value slice pins s σ H x y v u Q I rx ry h hs
  obtain ⟨p, xs, i, z, rfl, rfl, hq, he, q⟩ := h
  cases rx
  obtain ⟨t, rfl⟩ := ry
  obtain ⟨its, r, pl, hz⟩ := I.list hq
  obtain ⟨j, h1, h2, h3, h4, h5⟩ := atI_get he
  obtain ⟨w, ew, rw'⟩ := r.get h2
  have hl := r.length
  have hn := line63
  have fin : EP X pins σ Q w s := ⟨z, H, I, rw', q⟩
  by_cases h0 : 0 ≤ i
  · have hj : i.toNat = j := by
      rw [seqIndex_of h0 h5] at h1
      exact Option.some.inj h1
    exact item_listR pl.isList h0 (by omega) (by rw [hj]; simpa using ew) fin hs
  · have hj : (i + (its.toArray.size : Int)).toNat = j := by
      rw [seqIndex_neg (by omega) h4] at h1
      rw [List.size_toArray, ← hl]
      exact Option.some.inj h1
    exact subscriptTail_builtinR (x := w) pl.isList.typeIs slot_list_getitem.lookup
      (wpAny_getItem_list_neg (Q := fun r s' => r = w ∧ EP X pins σ Q r s') pl.isList (by omega) (by rw [List.size_toArray] <;> omega) (by omega) (by rw [hj]; simpa using ew) ⟨rfl, fin⟩) hs
theorem ix_tup : IxR X (rIxT X.K) := by
  intro value slice pins s σ H x y v u Q I rx ry h hs
  obtain ⟨p, xs, i, z, rfl, rfl, hq, he, q⟩ := h
  cases rx
  obtain ⟨t, rfl⟩ := ry
  obtain ⟨its, r, pl, hz⟩ := I.tuple hq
  obtain ⟨j, h1, h2, h3, h4, h5⟩ := atI_get he
  obtain ⟨w, ew, rw'⟩ := r.get h2
  have hl := r.length
  have hn := line63
  have fin : EP X pins σ Q w s := ⟨z, H, I, rw', q⟩
  exact subscriptTail_builtinR (x := w) pl.typeIs slot_tuple_getitem.lookup
    (getItem_tuple (j := j) (Q := fun r s' => r = w ∧ EP X pins σ Q r s') pl (by omega) (by omega) (by rw [List.size_toArray, ← hl]; exact h1) (by simpa using ew) ⟨rfl, fin⟩) hs
theorem ix_str : IxR X rIxS := by
  intro value slice pins s σ H x y v u Q I rx ry h hs
  obtain ⟨z, i, c, rfl, rfl, hz, he, q⟩ := h
  obtain ⟨t, rfl⟩ := rx
  obtain ⟨t', rfl⟩ := ry
  obtain ⟨j, h1, h2, h3, h4, h5⟩ := atI_get he
  have hl : z.cps.toList.length = z.length := by simp [Str.length]
  rw [hl] at h1 h4 h5
  have hn := line63
  exact tail_any (typeIs_str s z t) slot_str_getitem.lookup (getItem_str (c := c) (by
    have e1 : decide (i < -(2 ^ 63 : Int)) = false := decide_eq_false (by omega)
    have e2 : decide (i ≥ 2 ^ 63) = false := decide_eq_false (by omega)
    rw [e1, e2, Bool.or_false]) (by rw [h1]; simpa using h2) ⟨.str ⟨#[c]⟩, H, I.tok _, ⟨_, rfl⟩, q⟩) hs

def rIx (K : PySem.W.Frag) : R2 := fun x y H Q => rIxL K x y H Q ∨ rIxT K x y H Q ∨ rIxS x y H Q
theorem ix_seq : IxR X (rIx X.K) := ix_list.or (ix_tup.or ix_str)



theorem mapSeq_set (its : List Value) (n j : Nat) (u : Value) : Obj.mapSeq (·.setIfInBounds j u) { cls := .type "list", data := .seq its.toArray n } = { cls := .type "list", data := .seq (its.set j u).toArray n } := by
  simp [Obj.mapSeq]
theorem Inv.lst {pins : List (Addr × Obj)} {σ : St} {H : Hp} {s : Shared} {p : Addr} {xs : List V} (I : Inv X pins σ H s) (h : H p = some (.lst xs)) :
    ∃ (its : List Value) (n : Nat), Vals xs its ∧ s.heap.get? p = some { cls := .type "list", data := .seq its.toArray n } ∧ xs.length ≤ sizeLine := by
  obtain ⟨z, its, n, r, e⟩ := I.hok p _ h
  exact ⟨its, n, r, e, z⟩

theorem Inv.lstUpd {pins : List (Addr × Obj)} {σ : St} {H : Hp} {s : Shared} {p : Addr} {xs ys : List V} {its its' : List Value} {n n' : Nat} {f : Obj → Obj} (I : Inv X pins σ H s) (h : H p = some (.lst xs))
    (ho : s.heap.get? p = some { cls := .type "list", data := .seq its.toArray n }) (hf : f { cls := .type "list", data := .seq its.toArray n } = { cls := .type "list", data := .seq its'.toArray n' }) (r : Vals ys its') (hz : ys.length ≤ sizeLine) (t : Nat) :
    Inv X pins σ (upd H p (.lst ys)) { s with heap := s.heap.update p f, toks := t } := by
  have e : (s.heap.update p f).get? p = some { cls := .type "list", data := .seq its'.toArray n' } := by
    rw [Heap.get?_update_self f ho (by rw [hf] <;> rfl), hf]
  refine I.write (x := p) (e := p) (by rw [h]; trivial) (.inl rfl) (fun b u hb q => (Heap.get?_update_other _ _ (Ne.symm hb)).trans q) ⟨_, e⟩ ?_
  exact ⟨hz, its', n', r, e⟩
def rSetL : V → V → V → Hp → (Hp → Prop) → Prop := fun o i v H Q => ∃ p xs k j, o = .ref p ∧ i = .int k ∧ H p = some (.lst xs) ∧ ixN xs.length k = some j ∧ Q (upd H p (.lst (xs.set j v)))
theorem set_list : PSet X rSetL := by
  intro pins s σ H o i v ov iv u Q I ro ri rv h
  obtain ⟨p, xs, k, j, rfl, rfl, hp, hj, q⟩ := h
  cases ro
  obtain ⟨t, rfl⟩ := ri
  obtain ⟨its, n, r, ho, hz⟩ := I.lst hp
  obtain ⟨h1, h2, h3, h4⟩ := ixN_seq hj
  have hl := r.length
  have hn := line63
  have I' : Inv X pins σ (upd H p (.lst (xs.set j v))) { s with heap := s.heap.update p (Obj.mapSeq (·.setIfInBounds j u)) } :=
    I.lstUpd hp ho (mapSeq_set its n j u) (r.set rv j) (by rw [List.length_set]; exact hz) s.toks
  by_cases h0 : 0 ≤ k
  · have hk : k.toNat = j := by
      rw [seqIndex_of h0 h4] at h1
      exact Option.some.inj h1
    exact PySem.W.ki_setAt ho h0 (by omega) (by rw [List.size_toArray, ← hl]; exact h4) (by rw [hk]; exact ⟨_, I', q⟩)
  · have hk : (k + (its.toArray.size : Int)).toNat = j := by
      rw [seqIndex_neg (by omega) h3] at h1
      rw [List.size_toArray, ← hl]
      exact Option.some.inj h1
    exact PySem.W.ki_setBack ho (by omega) (by rw [List.size_toArray, ← hl]; exact h3) (by omega) (by rw [hk]; exact ⟨_, I', q⟩)


theorem slice_bounds (lo hi : Option Int) (n : Nat) : (sliceBounds lo hi none n).1 = ((HT.sIx n 0 lo : Nat) : Int) ∧ (sliceBounds lo hi none n).2.1 = ((HT.sIx n n hi : Nat) : Int) ∧ (sliceBounds lo hi none n).2.2 = 1 := by
  refine ⟨?_, ?_, rfl⟩
  · cases lo with
    | none => simp [sliceBounds, HT.sIx]
    | some i =>
      simp only [sliceBounds, HT.sIx, Option.getD_none, show (1 : Int) > 0 by decide, if_true]
      by_cases h : i < 0
      · simp only [h, if_true] <;> omega
      · simp only [h, if_false] <;> omega
  · cases hi with
    | none => simp [sliceBounds, HT.sIx]
    | some i =>
      simp only [sliceBounds, HT.sIx, Option.getD_none, show (1 : Int) > 0 by decide, if_true]
      by_cases h : i < 0
      · simp only [h, if_true] <;> omega
      · simp only [h, if_false] <;> omega
theorem slicePick_cut (its : List Value) (lo hi : Option Int) : slicePick its.toArray lo hi none = ((its.drop (HT.sIx its.length 0 lo)).take (HT.sIx its.length its.length hi - HT.sIx its.length 0 lo)).toArray := by
  obtain ⟨h1, h2, h3⟩ := slice_bounds lo hi its.toArray.size
  unfold slicePick
  rw [h1, h2, h3]
  simp only [sliceRange_one, pick_run, List.size_toArray] <;> rfl

def rSlL (K : PySem.W.Frag) : V → Option Int → Option Int → Hp → VK → Prop := fun x lo hi H Q => ∃ a xs, x = .ref a ∧ SqL K H a xs ∧ ∀ p, H p = none → Q (.ref p) (upd H p (.lst (cutV xs lo hi)))
theorem sl_list : SlR X (rSlL X.K) := by
  intro pins s σ H x v vl vu lo hi sl Q I rx hs pl pu h
  obtain ⟨a, xs, rfl, hx, q⟩ := h
  cases rx
  obtain ⟨its, r, ht, hz⟩ := I.list hx
  have hlen := r.length
  refine ⟨"list", _, slot_list_getitem.lookup, ht.isList.typeIs, ?_⟩
  refine wpAny_getItem_list_slice ht.isList hs pl pu .none (by simp) ?_ (by rw [List.size_toArray] <;> omega)
  rw [slicePick_cut, ← hlen]
  refine ⟨.ref s.heap.objs.size, _, I.laid (t' := s.toks) (o := .lst (cutV xs lo hi)) (fun b ob q => Heap.get?_push_of_some _ q) (Nat.le_refl _) ?_, rfl, q _ (I.hok.fresh (Nat.le_refl _))⟩
  exact ⟨Nat.le_trans (cutV_length xs lo hi) hz, _, 0, (r.drop (HT.sIx xs.length 0 lo)).take (HT.sIx xs.length xs.length hi - HT.sIx xs.length 0 lo), Heap.get?_push_size _ rfl⟩


theorem CallR.or {f : Value} {r r' : List V → Hp → VK → Prop} (h : CallR X f r) (h' : CallR X f r') : CallR X f (fun xs H Q => r xs H Q ∨ r' xs H Q) := by
  intro pins s σ H xs us Q I rs q
  rcases q with q | q
  · exact h pins s σ H xs us Q I rs q
  · exact h' pins s σ H xs us Q I rs q
theorem call_tuple_of : CallR X (.type "tuple") (fun xs H Q => ∃ p ys, xs = [.ref p] ∧ ((SqL X.K H p ys ∧ ∀ l, H l = none → Q (.ref l) (upd H l (.tup ys))) ∨ (SqT X.K H p ys ∧ Q (.ref p) H))) := by
  intro pins s σ H xs us Q I r h
  obtain ⟨p, ys, rfl, h⟩ := h
  obtain ⟨u, rfl, rx⟩ := vals1 r
  cases rx
  rcases h with ⟨hq, q⟩ | ⟨hq, q⟩
  · obtain ⟨its, r', pl, hz⟩ := I.list hq
    have hlen := r'.length
    refine call_tuple_list pl.isList (fun h' kp => ?_) (by simp only [List.size_toArray] <;> omega)
    have I1 : Inv X pins σ H { s with heap := h' } := I.kept (t' := s.toks) kp
    have I2 : Inv X pins σ (upd H h'.objs.size (.tup ys)) { s with heap := h'.push { cls := .type "tuple", data := .seq its.toArray } } :=
      I1.laid (t' := s.toks) (fun b o e => Heap.get?_push_of_some _ e) (Nat.le_refl _) (show ObjOk X.prog X.w _ _ _ (.tup ys) from ⟨hz, its, r', IsTup.new _ _⟩)
    exact ⟨.ref h'.objs.size, _, I2, rfl, q _ (I1.hok.fresh (Nat.le_refl _))⟩
  · obtain ⟨its, r', pl, hz⟩ := I.tuple hq
    exact call_tuple_same pl ⟨.ref p, H, I, rfl, q⟩



def tyV (K : PySem.W.Frag) (T : String) (x : V) (H : Hp) : Prop := match x with
  | .str _ => T = "str"
  | .int _ => T = "int"
  | .ref p => (T = "list" ∧ ∃ xs, SqL K H p xs) ∨ (T = "tuple" ∧ ∃ o, K.lookup p = some o ∧ o.cls = .type "tuple" ∧ o.dict = none) ∨
      (T = "dict" ∧ ((∃ kvs, H p = some (.dK kvs)) ∨ ∃ kvs, H p = some (.dT kvs))) ∨ (T = "set" ∧ ∃ S n, H p = some (.set S n))
  | _ => False
theorem tyV_is {pins : List (Addr × Obj)} {σ : St} {H : Hp} {s : Shared} {T : String} {x : V} {v : Value} (I : Inv X pins σ H s) (r : RelV x v) (ty : tyV X.K T x H) :
    s.TypeIs v T ∧ ∀ a, v = .ref a → ∃ ob, s.heap.get? a = some ob ∧ ob.dict = none := by
  cases x with
  | str z =>
    obtain ⟨t, rfl⟩ := r
    cases (show T = "str" from ty)
    exact ⟨typeIs_str s z t, fun _ e => nomatch e⟩
  | int i =>
    obtain ⟨t, rfl⟩ := r
    cases (show T = "int" from ty)
    exact ⟨typeIs_int s i t, fun _ e => nomatch e⟩
  | ref p =>
    cases r
    rcases ty with ⟨rfl, xs, hq⟩ | ⟨rfl, o, hk, hc, hd⟩ | ⟨rfl, hk⟩ | ⟨rfl, S, n, hk⟩
    · obtain ⟨its, _, pl, _⟩ := I.list hq
      refine ⟨pl.isList.typeIs, fun a e => ?_⟩
      cases e
      obtain ⟨o, n, e, c, hd, _⟩ := pl
      exact ⟨o, e, hd⟩
    · refine ⟨⟨o, I.kIn p o hk, hc⟩, fun a e => ?_⟩
      cases e
      exact ⟨o, I.kIn _ o hk, hd⟩
    · have z : ∃ o, s.heap.get? p = some o ∧ o.ExactDict := by
        rcases hk with ⟨kvs, hk⟩ | ⟨kvs, hk⟩
        · obtain ⟨_, _, _, _, o, _, _, e, ex, _⟩ := I.hok p _ hk
          exact ⟨o, e, ex⟩
        · obtain ⟨_, _, _, _, o, _, _, e, ex, _⟩ := I.hok p _ hk
          exact ⟨o, e, ex⟩
      obtain ⟨o, e, ex⟩ := z
      refine ⟨⟨o, e, ex.1⟩, fun a e2 => ?_⟩
      cases e2
      exact ⟨o, e, ex.2.1⟩
    · obtain ⟨o, _, _, _, e, ex, _⟩ := I.hok p _ hk
      refine ⟨⟨o, e, ex.1⟩, fun a e2 => ?_⟩
      cases e2
      exact ⟨o, e, ex.2.1⟩
  | _ => exact False.elim ty
def tBM (K : PySem.W.Frag) (T : String) (r : V → List V → Hp → VK → Prop) (to : TE) (t : TA) : TE := fun σ H Q => to σ H fun x H1 => tyV K T x H1 ∧ t σ H1 fun xs H2 => r x xs H2 Q
variable {o e : Expr} {es : List Expr} {to : TE} {t : TA} {name : Str} {apos cpos : Pos} {T id : String} {r : V → List V → Hp → VK → Prop}
theorem pe_bm (pa : PlainAttrs T) (slot : Slot T name id) (hty : typeOf (.builtin id) = pure (.type "method_descriptor")) (hm : MtR X id r) (ho : PE X o to) (ha : PA X (e :: es) t)
    (hbase : attributeBase o name X.env (eval o X.env) = eval o X.env := by rfl)
    (hfew : ((backTo cpos (starEach (e :: es) X.env)).all (fun x => !x.1) && (backToKw cpos (keywordEach [] X.env)).all (fun x => x.1.isSome)
      && decide ((e :: es).length + ([] : List Keyword).length + (if ([] : List Keyword).isEmpty then 0 else 1) < 30)) = true := by rfl)
    (hline : (apos.endLine == cpos.line) = true := by rfl) (hs : starEach (e :: es) X.env = (false, eval e X.env) :: starEach es X.env := by rfl) (hplain : (backTo cpos (starEach es X.env)).any (·.1) = false := by rfl) :
    PE X (.Call (.Attribute o name apos) (e :: es) [] cpos) (tBM X.K T r to t) := by
  intro pins s σ H Q I h
  refine wpAny_Call_method_late hbase hfew hline rfl (thn (ho pins s σ H _ I h) fun v s1 ⟨x, H1, I1, r1, ty, q1⟩ => ?_)
  obtain ⟨h1, h2⟩ := tyV_is I1 r1 ty
  refine ⟨T, id, pa, slot, hty, h1, h2, ?_⟩
  have hA := ha cpos pins s1 σ H1 _ I1 q1
  rw [hs] at hA ⊢
  refine Calls.callWith_builtin (by show (false || (backTo cpos (starEach es X.env)).any (·.1)) = false; rw [hplain] <;> rfl) (Calls.evalArgs_plain ?_)
  exact thn hA fun us s2 ⟨vs, H2, I2, r2, q2⟩ => hm pins s2 σ H2 x vs v us Q I2 r1 r2 q2

end
end L2

namespace L2
open PySem PySem.Spec PyProof.Rows

def MtM (X : Cx) (id : String) (r : V → List V → Hp → VK → Prop) : Prop :=
  ∀ (pins : List (Addr × Obj)) (s : Shared) (σ : St) (H : Hp) (x : V) (xs : List V) (v : Value) (us : List Value) (Q : VK), Inv X pins σ H s → RelV x v → Vals xs us → r x xs H Q →
    wpAny (model X.prog X.w) X.A (call (.builtin id) (v :: us)) (EP X pins σ Q) X.xe s


theorem Vals.one : ∀ {x : V} {us : List Value}, Vals [x] us → ∃ u, us = [u] ∧ RelV x u
  | _, _, .cons r .nil => ⟨_, rfl, r⟩
theorem Vals.zero : ∀ {us : List Value}, Vals [] us → us = []
  | _, .nil => rfl
theorem Vals.eraseIdx : ∀ {xs : List V} {us : List Value} (i : Nat), Vals xs us → Vals (xs.eraseIdx i) (us.eraseIdx i)
  | _, _, _, .nil => .nil
  | _, _, 0, .cons _ t => t
  | _, _, i + 1, .cons r t => .cons r (Vals.eraseIdx i t)
theorem Vals.reverse {xs : List V} {us : List Value} (h : Vals xs us) : Vals xs.reverse us.reverse := by
  induction h with
  | nil => exact .nil
  | cons r t ih => rw [List.reverse_cons, List.reverse_cons]; exact Vals.append ih (.cons r .nil)
theorem Vals.rep {xs : List V} {us : List Value} (h : Vals xs us) : ∀ k : Nat, Vals (List.replicate k xs).flatten (List.replicate k us).flatten
  | 0 => .nil
  | k + 1 => by
    rw [List.replicate_succ, List.replicate_succ, List.flatten_cons, List.flatten_cons]
    exact Vals.append h (Vals.rep h k)
theorem len_erase {α : Type} : ∀ (l : List α) (i : Nat), (l.eraseIdx i).length ≤ l.length
  | [], _ => Nat.le_refl _
  | _ :: _, 0 => Nat.le_succ _
  | _ :: r, i + 1 => Nat.succ_le_succ (len_erase r i)
section
variable {X : Cx} {pins : List (Addr × Obj)} {σ : St} {H : Hp} {s : Shared} {l b : Addr} {xs ys zs : List V}


theorem Inv.lset {its its' : List Value} {n : Nat} {f : Array Value → Array Value} {t' : Nat} (I : Inv X pins σ H s) (hH : H l = some (.lst xs))
    (e : s.heap.get? l = some { cls := .type "list", data := .seq its.toArray n }) (hf : f its.toArray = its'.toArray) (hv : Vals ys its') (hz : ys.length ≤ sizeLine) :
    Inv X pins σ (upd H l (.lst ys)) { s with heap := s.heap.update l (Obj.mapSeq f), toks := t' } := by
  have q := PySem.IsL.update e f
  rw [hf] at q
  refine I.write (x := l) (e := l) (by rw [hH]; exact trivial) (.inl rfl) (fun b' u hb hu => (Heap.get?_update_other s.heap (Obj.mapSeq f) (Ne.symm hb)).trans hu) ⟨_, q⟩ ?_
  exact ⟨hz, its', _, hv, q⟩
theorem Inv.lnew {its : List Value} {t' : Nat} (I : Inv X pins σ H s) (hv : Vals ys its) (hz : ys.length ≤ sizeLine) :
    Inv X pins σ (upd H s.heap.objs.size (.lst ys)) { s with heap := s.heap.push { cls := .type "list", data := .seq its.toArray }, toks := t' } :=
  I.laid (fun _ _ q => Heap.get?_push_of_some _ q) (Nat.le_refl _) ⟨hz, its, 0, hv, Heap.get?_push_size _ rfl⟩
theorem Inv.fresh (I : Inv X pins σ H s) : H s.heap.objs.size = none := I.hok.fresh (Nat.le_refl _)
theorem Inv.lstM (I : Inv X pins σ H s) (hH : H l = some (.lst xs)) : xs.length ≤ sizeLine ∧ ∃ (its : List Value) (n : Nat), Vals xs its ∧ xs.length = its.length ∧ s.heap.get? l = some { cls := .type "list", data := .seq its.toArray n } := by
  obtain ⟨z, its, n, r, e⟩ := I.hok l _ hH
  exact ⟨z, its, n, r, r.length, e⟩

end

section
variable {X : Cx}


def rAppend : V → List V → Hp → VK → Prop := fun x vs H Q => ∃ l xs y, x = .ref l ∧ vs = [y] ∧ H l = some (.lst xs) ∧ xs.length < sizeLine ∧ Q .non (upd H l (.lst (xs ++ [y])))
theorem mt_append : MtM X "list.append" rAppend := by
  intro pins s σ H x vs v us Q I rx rv h
  obtain ⟨l, xs, y, rfl, rfl, hH, hz, q⟩ := h
  cases rx
  obtain ⟨u, rfl, ru⟩ := rv.one
  obtain ⟨z, its, n, r, hl, e⟩ := I.lstM hH
  refine call_meets F.slot_list_append ⟨_, e, rfl⟩ F.entry_list_append (F.args_list_append_2 _ _) (PySem.list_append l its.toArray n u (by rw [List.size_toArray]; omega)) ⟨e, ?_⟩
  refine ⟨.non, _, I.lset (its' := its ++ [u]) hH e (by simp) (r.append (.cons ru .nil)) ?_, rfl, q⟩
  rw [List.length_append, List.length_singleton]
  omega

def rPopAt : V → List V → Hp → VK → Prop := fun x vs H Q => ∃ l xs i k y, x = .ref l ∧ vs = [.int i] ∧ H l = some (.lst xs) ∧ -(2 ^ 63) ≤ i ∧ i < 2 ^ 63 ∧ seqIndex? i xs.length = some k ∧ xs[k]? = some y ∧ Q y (upd H l (.lst (xs.eraseIdx k)))
theorem mt_popAt : MtM X "list.pop" rPopAt := by
  intro pins s σ H x vs v us Q I rx rv h
  obtain ⟨l, xs, i, k, y, rfl, rfl, hH, h1, h2, hk, hy, q⟩ := h
  cases rx
  obtain ⟨u, rfl, ru⟩ := rv.one
  obtain ⟨t, rfl⟩ := ru
  obtain ⟨z, its, n, r, hl, e⟩ := I.lstM hH
  obtain ⟨w, hw, rw'⟩ := r.get hy
  refine call_meets F.slot_list_pop ⟨_, e, rfl⟩ F.entry_list_pop (F.args_list_pop_2 _ _)
    (MeetsSeq.list_pop_at l its.toArray n i t k w (fitsIndex_both h1 h2) (by rw [List.size_toArray, ← hl]; exact hk) (by rw [← Array.getElem?_toList]; exact hw) (by rw [List.size_toArray]; omega)) ⟨e, ?_⟩
  refine ⟨y, _, I.lset (its' := its.eraseIdx k) hH e ?_ (r.eraseIdx k) ?_, rw', q⟩
  · show its.toArray.eraseIdxIfInBounds k = (its.eraseIdx k).toArray
    rw [List.eraseIdxIfInBounds_toArray]
  · have := len_erase xs k
    omega

def rCat : R2 := fun x y H Q => ∃ l b xs zs, x = .ref l ∧ y = .ref b ∧ H l = some (.lst xs) ∧ H b = some (.lst zs) ∧ xs.length + zs.length ≤ sizeLine ∧ ∀ p, H p = none → Q (.ref p) (upd H p (.lst (xs ++ zs)))
theorem op_cat : OpR X (binaryOp .Add) rCat := by
  intro pins s σ H x y v u Q I rx ry h
  obtain ⟨l, b, xs, zs, rfl, rfl, hH, hB, hz, q⟩ := h
  cases rx
  cases ry
  obtain ⟨z, its, n, r, hl, e⟩ := I.lstM hH
  obtain ⟨z2, its2, n2, r2, hl2, e2⟩ := I.lstM hB
  refine PySem.P.add_list e e2 ?_ (by rw [List.size_toArray, List.size_toArray]; omega)
  have ea : its.toArray ++ its2.toArray = (its ++ its2).toArray := by simp
  rw [ea]
  exact ⟨.ref _, _, I.lnew (t' := s.toks) (r.append r2) (by rw [List.length_append]; omega), rfl, q _ I.fresh⟩

end


section
variable {prog : Program} {w : World} {A : Around} {E : Value → Shared → Prop} {s : Shared}
set_option maxRecDepth 100000 in

end

section
variable {X : Cx}

end
end L2

namespace L2
open PySem PySem.Spec PyProof.Rows

section
variable {prog : Program} {w : World} {A : Around} {E : Value → Shared → Prop} {s : Shared} {l : Addr} {its : List Value} {ns : List Int} {Q : Value → Shared → Prop}
end


section
variable {X : Cx}

end


section
variable {X : Cx}
end


section
variable {X : Cx}
end


section
variable {X : Cx}
end


mutual
inductive Dp (K : PySem.W.Frag) (H : Hp) : V → PyData → Prop
  | non : Dp K H .non .none
  | bl (b : Bool) : Dp K H (.bl b) (.bool b)
  | int (i : Int) : Dp K H (.int i) (.int i)
  | str (x : Str) : Dp K H (.str x) (.str x)
  | lst {a : Addr} {xs : List V} {ds : List PyData} : SqL K H a xs → DpAll K H xs ds → Dp K H (.ref a) (.list ds)
  | tup {a : Addr} {xs : List V} {ds : List PyData} : SqT K H a xs → DpAll K H xs ds → Dp K H (.ref a) (.tuple ds)
inductive DpAll (K : PySem.W.Frag) (H : Hp) : List V → List PyData → Prop
  | nil : DpAll K H [] []
  | cons {v : V} {vs : List V} {d : PyData} {ds : List PyData} : Dp K H v d → DpAll K H vs ds → DpAll K H (v :: vs) (d :: ds)
end
section
variable {X : Cx} {pins : List (Addr × Obj)} {σ : St} {H : Hp} {s : Shared}
mutual
theorem Dp.reads (I : Inv X pins σ H s) : ∀ (d : PyData) (v : V) (u : Value), Dp X.K H v d → RelV v u → ∃ as, Reads s.heap u d as
  | .none, _, _, h, r => by
    cases h
    cases r
    exact ⟨_, Reads.none⟩
  | .bool b, _, _, h, r => by
    cases h
    cases r
    exact ⟨_, Reads.bool b⟩
  | .int i, _, _, h, r => by
    cases h
    obtain ⟨t, rfl⟩ := r
    exact ⟨_, Reads.int i t⟩
  | .str x, _, _, h, r => by
    cases h
    obtain ⟨t, rfl⟩ := r
    exact ⟨_, Reads.str x t⟩
  | .list ds, _, _, h, r => by
    cases h with
    | lst hs ha =>
      cases r
      obtain ⟨its, rv, ⟨o, n, ho, hc, _, hd⟩, _⟩ := I.list hs
      obtain ⟨as, hr⟩ := Dp.readsAll I ds _ its ha rv
      exact ⟨_, Reads.list ho hc hd hr⟩
  | .tuple ds, _, _, h, r => by
    cases h with
    | tup hs ha =>
      cases r
      obtain ⟨its, rv, ⟨o, ho, hc, n, hd⟩, _⟩ := I.tuple hs
      obtain ⟨as, hr⟩ := Dp.readsAll I ds _ its ha rv
      exact ⟨_, Reads.tuple ho hc hd hr⟩
  | .dict _, _, _, h, _ => by cases h
theorem Dp.readsAll (I : Inv X pins σ H s) : ∀ (ds : List PyData) (vs : List V) (us : List Value), DpAll X.K H vs ds → Vals vs us → ∃ as, ReadsAll s.heap us ds as
  | [], _, _, h, r => by
    cases h
    cases r
    exact ⟨_, ReadsAll.nil⟩
  | d :: ds, _, _, h, r => by
    cases h with
    | cons h1 h2 =>
      cases r with
      | cons r1 r2 =>
        obtain ⟨as, q1⟩ := Dp.reads I d _ _ h1 r1
        obtain ⟨bs, q2⟩ := Dp.readsAll I ds _ _ h2 r2
        exact ⟨_, ReadsAll.cons q1 q2⟩
end
end
section
variable {X : Cx}
def rEqD (K : PySem.W.Frag) : R2 := fun x y H Q => ∃ d e, Dp K H x d ∧ Dp K H y e ∧ SeqAt.shaped d = true ∧ SeqAt.shaped e = true ∧ Q (.bl (PyData.eqv d e)) H
def rNeD (K : PySem.W.Frag) : R2 := fun x y H Q => ∃ d e, Dp K H x d ∧ Dp K H y e ∧ SeqAt.shaped d = true ∧ SeqAt.shaped e = true ∧ Q (.bl (!PyData.eqv d e)) H
theorem op_eqD (hu : X.A.units + 64 < cLine) : OpR X (compareOp .Eq) (rEqD X.K) := by
  intro pins s σ H x y v u Q I rx ry h
  obtain ⟨d, e, hd, he, sd, se, q⟩ := h
  obtain ⟨as, r1⟩ := Dp.reads I d x v hd rx
  obtain ⟨bs, r2⟩ := Dp.reads I e y u he ry
  exact SeqAt.compareEq_shaped r1 r2 sd se hu ⟨.bl _, H, I, rfl, q⟩
theorem op_neD (hu : X.A.units + 64 < cLine) : OpR X (compareOp .NotEq) (rNeD X.K) := by
  intro pins s σ H x y v u Q I rx ry h
  obtain ⟨d, e, hd, he, sd, se, q⟩ := h
  obtain ⟨as, r1⟩ := Dp.reads I d x v hd rx
  obtain ⟨bs, r2⟩ := Dp.reads I e y u he ry
  exact SeqAt.compareNe_shaped r1 r2 sd se hu ⟨.bl _, H, I, rfl, q⟩
end
end L2

namespace L2
open PySem PySem.Spec PyProof.Rows
abbrev CellAt (h : Heap) (c : Addr) (v : Option Value) : Prop := h.IsCell c v
def relS (scope sc : Scope) : Scope :=
  { scope with names := scope.names.map fun (n, k) => if (k == .free && sc.kind == .function && sc.names.lookup n == some .cell) then (n, .cell) else (n, k) }

def cloFrom (cells : List (Str × Addr)) : List (Str × NameKind) → List (Str × Addr) → List (Str × Addr)
  | [], acc => acc
  | (n, k) :: r, acc => if k == .free then cloFrom cells r ((n, (cells.lookup n).getD 0) :: acc) else cloFrom cells r acc

theorem closure_loop (env : Env) (f : Str × NameKind → List (Str × Addr) → Sem (ForInStep (List (Str × Addr))))
    (hf : ∀ n k c, f (n, k) c = if k == .free then (do let a ← cellOf env n; pure (.yield ((n, a) :: c))) else pure (.yield c)) :
    ∀ (names : List (Str × NameKind)) (acc : List (Str × Addr)), (∀ y ∈ names, y.2 = .free → ∃ c, env.cells.lookup y.1 = some c) → forIn names acc f = pure (cloFrom env.cells names acc)
  | [], acc, _ => by rw [List.forIn_nil]; rfl
  | (n, k) :: r, acc, h => by
    rw [List.forIn_cons, hf]
    have ih := fun acc => closure_loop env f hf r acc fun y hy => h y (List.mem_cons_of_mem _ hy)
    unfold cloFrom
    by_cases hk : (k == NameKind.free) = true
    · rw [if_pos hk, if_pos hk]
      obtain ⟨c, hc⟩ := h (n, k) List.mem_cons_self (by simpa using hk)
      have e : cellOf env n = pure c := by unfold cellOf; rw [hc]
      rw [e]
      have e2 : (env.cells.lookup n).getD 0 = c := by rw [hc]; rfl
      rw [e2]
      exact ih _
    · rw [if_neg hk, if_neg hk]
      exact ih _
theorem closure_ok {scope : Scope} {env : Env} (h : ∀ y ∈ scope.names, y.2 = .free → ∃ c, env.cells.lookup y.1 = some c) : closureFor scope env = pure (cloFrom env.cells scope.names []) := by
  simp only [closureFor]
  rw [closure_loop env _ (fun n k c => rfl) scope.names [] h]
  rfl

theorem mem_lookup {α : Type} : ∀ {l : List (Str × α)} {n : Str} {c : α}, (n, c) ∈ l → ∃ c', l.lookup n = some c'
  | (k, v) :: r, n, c, h => by
    rw [List.lookup_cons]
    cases hb : n == k with
    | true => exact ⟨_, rfl⟩
    | false =>
      rcases List.mem_cons.mp h with e | h
      · cases e; simp at hb
      · exact mem_lookup h

theorem cloFrom_mem {cells : List (Str × Addr)} : ∀ {names : List (Str × NameKind)} {acc : List (Str × Addr)} {n : Str} {c : Addr}, (n, c) ∈ cloFrom cells names acc → (n, c) ∈ acc ∨ ((n, .free) ∈ names ∧ c = (cells.lookup n).getD 0)
  | [], _, _, _, h => .inl h
  | (m, k) :: r, acc, n, c, h => by
    unfold cloFrom at h
    split at h
    · rename_i hk
      have hk : k = .free := by simpa using hk
      rcases cloFrom_mem h with h | ⟨h1, h2⟩
      · rcases List.mem_cons.mp h with e | h
        · cases e; exact .inr ⟨hk ▸ List.mem_cons_self, rfl⟩
        · exact .inl h
      · exact .inr ⟨List.mem_cons_of_mem _ h1, h2⟩
    · rcases cloFrom_mem h with h | ⟨h1, h2⟩
      · exact .inl h
      · exact .inr ⟨List.mem_cons_of_mem _ h1, h2⟩
theorem cloFrom_acc {cells : List (Str × Addr)} : ∀ {names : List (Str × NameKind)} {acc : List (Str × Addr)} {p : Str × Addr}, p ∈ acc → p ∈ cloFrom cells names acc
  | [], _, _, h => h
  | (m, k) :: r, acc, p, h => by
    unfold cloFrom
    split
    · exact cloFrom_acc (List.mem_cons_of_mem _ h)
    · exact cloFrom_acc h
theorem cloFrom_has {cells : List (Str × Addr)} : ∀ {names : List (Str × NameKind)} {acc : List (Str × Addr)} {n : Str}, (n, .free) ∈ names → (n, (cells.lookup n).getD 0) ∈ cloFrom cells names acc
  | (m, k) :: r, acc, n, h => by
    unfold cloFrom
    rcases List.mem_cons.mp h with e | h
    · cases e
      exact cloFrom_acc List.mem_cons_self
    · split
      · exact cloFrom_has h
      · exact cloFrom_has h

theorem cells_mem : ∀ {names : List (Str × NameKind)} {h : Heap} {acc : List (Str × Addr)} {x : Str} {c : Addr}, (x, c) ∈ cellsFrom h.objs.size names acc →
    (x, c) ∈ acc ∨ ((x, .cell) ∈ names ∧ h.objs.size ≤ c ∧ CellAt (pushCells h names) c none)
  | [], _, _, _, _, h => .inl h
  | (n, k) :: r, h, acc, x, c, hm => by
    unfold cellsFrom at hm
    unfold pushCells
    split at hm
    · rename_i hk
      rw [if_pos hk]
      have hk : k = .cell := by simpa using hk
      rw [← Heap.size_push h { cls := .type "cell", data := .cell none }] at hm
      rcases cells_mem hm with hm | ⟨h1, h2, h3⟩
      · rcases List.mem_cons.mp hm with e | hm
        · cases e
          exact .inr ⟨hk ▸ List.mem_cons_self, Nat.le_refl _, _, pushCells_keeps r _ _ _ (Heap.get?_push_size _ rfl), rfl⟩
        · exact .inl hm
      · rw [Heap.size_push] at h2
        exact .inr ⟨List.mem_cons_of_mem _ h1, Nat.le_of_succ_le h2, h3⟩
    · rename_i hk
      rw [if_neg hk]
      rcases cells_mem hm with hm | ⟨h1, h2, h3⟩
      · exact .inl hm
      · exact .inr ⟨List.mem_cons_of_mem _ h1, h2, h3⟩
theorem cells_acc : ∀ {names : List (Str × NameKind)} {n : Nat} {acc : List (Str × Addr)} {p : Str × Addr}, p ∈ acc → p ∈ cellsFrom n names acc
  | [], _, _, _, h => h
  | (m, k) :: r, n, acc, p, h => by
    unfold cellsFrom
    split
    · exact cells_acc (List.mem_cons_of_mem _ h)
    · exact cells_acc h
theorem cells_has : ∀ {names : List (Str × NameKind)} {n : Nat} {acc : List (Str × Addr)} {x : Str}, (x, .cell) ∈ names → ∃ c, (x, c) ∈ cellsFrom n names acc
  | (m, k) :: r, n, acc, x, h => by
    unfold cellsFrom
    rcases List.mem_cons.mp h with e | h
    · cases e
      exact ⟨n, cells_acc List.mem_cons_self⟩
    · split
      · exact cells_has h
      · exact cells_has h
theorem cells_inj : ∀ {names : List (Str × NameKind)} {h : Heap} {acc : List (Str × Addr)} {x y : Str} {c : Addr}, (∀ p ∈ acc, p.2 < h.objs.size) → (∀ x y c, (x, c) ∈ acc → (y, c) ∈ acc → x = y) →
    (x, c) ∈ cellsFrom h.objs.size names acc → (y, c) ∈ cellsFrom h.objs.size names acc → x = y
  | [], _, _, _, _, _, _, hi, h1, h2 => hi _ _ _ h1 h2
  | (n, k) :: r, h, acc, x, y, c, hl, hi, h1, h2 => by
    unfold cellsFrom at h1 h2
    split at h1
    · rename_i hk
      rw [if_pos hk] at h2
      rw [← Heap.size_push h { cls := .type "cell", data := .cell none }] at h1 h2
      refine cells_inj (h := h.push _) (fun p hp => ?_) (fun x y c a b => ?_) h1 h2
      · rw [Heap.size_push]
        rcases List.mem_cons.mp hp with rfl | hp
        · exact Nat.lt_succ_self _
        · exact Nat.lt_succ_of_lt (hl p hp)
      · rcases List.mem_cons.mp a with e | a <;> rcases List.mem_cons.mp b with e' | b
        · cases e; cases e'; rfl
        · cases e; exact absurd (hl _ b) (Nat.lt_irrefl _)
        · cases e'; exact absurd (hl _ a) (Nat.lt_irrefl _)
        · exact hi _ _ _ a b
    · rename_i hk
      rw [if_neg hk] at h2
      exact cells_inj hl hi h1 h2

theorem newEnv_comp {M : Model} {A : Around} {E : Value → Shared → Prop} {s : Shared} {scope : Scope} {globals : Addr} {closure : List (Str × Addr)} {qual : Str} {func : Option Addr} {code : Value} {around : Env} {builtins : Addr} {Q : Env → Shared → Prop}
    (h : Q (newEnv scope s.heap.objs.size globals (cellsFrom (s.heap.objs.size + 1) scope.names closure) qual func code (some around) builtins)
      { s with heap := pushCells (s.heap.push { cls := .type "dict", data := .dict #[] }) scope.names }) :
    wpAny M A (newFunctionEnv scope globals closure [] qual func code (some around) builtins) Q E s := by
  simp only [newFunctionEnv, Option.isSome_some, if_true]
  refine wpAny_bind (wpAny_alloc ?_)
  refine wpAny_bind (wpAny_layCells _ (fun n k c => rfl) scope.names closure _ _ ?_)
  rw [show ({ s with heap := s.heap.push { cls := .type "dict", data := .dict #[] } } : Shared).heap.objs.size = s.heap.objs.size + 1 from Heap.size_push ..]
  rw [List.forIn_nil]
  exact wpAny_bind (wpAny_pure (wpAny_pure h))


theorem lookup_relS {sc : Scope} : ∀ {names : List (Str × NameKind)} {x : Str} {k : NameKind},
    (names.map fun (n, k) => if (k == NameKind.free && sc.kind == .function && sc.names.lookup n == some .cell) then (n, NameKind.cell) else (n, k)).lookup x = some k →
    ∃ k', names.lookup x = some k' ∧ (k = k' ∨ (k' = .free ∧ k = .cell))
  | [], _, _, h => by simp at h
  | (n, k₀) :: r, x, k, h => by
    have ih := @lookup_relS sc r x k
    have h' : List.lookup x ((if (k₀ == NameKind.free && sc.kind == .function && sc.names.lookup n == some .cell) = true then (n, NameKind.cell) else (n, k₀)) :: (r.map _)) = some k := h
    cases hx : x == n with
    | true =>
      simp only [List.lookup_cons, hx]
      by_cases hc : (k₀ == NameKind.free && sc.kind == .function && sc.names.lookup n == some .cell) = true
      · rw [if_pos hc] at h'
        simp only [List.lookup_cons, hx] at h'
        cases h'
        simp only [Bool.and_eq_true, beq_iff_eq] at hc
        exact ⟨k₀, rfl, .inr ⟨hc.1.1, rfl⟩⟩
      · rw [if_neg hc] at h'
        simp only [List.lookup_cons, hx] at h'
        cases h'
        exact ⟨_, rfl, .inl rfl⟩
    | false =>
      simp only [List.lookup_cons, hx]
      by_cases hc : (k₀ == NameKind.free && sc.kind == .function && sc.names.lookup n == some .cell) = true
      · rw [if_pos hc] at h'
        simp only [List.lookup_cons, hx] at h'
        exact ih h'
      · rw [if_neg hc] at h'
        simp only [List.lookup_cons, hx] at h'
        exact ih h'
structure BlkOk (N : List Str) (sc scope : Scope) (own : List (Str × Nat)) : Prop where
  kind : scope.kind = .function
  uniq : ∀ y ∈ scope.names, scope.names.lookup y.1 = some y.2
  ix : ∀ p ∈ own, N[p.2]? = some p.1
  free : ∀ y ∈ scope.names, y.2 = .free → sc.names.lookup y.1 = some .cell ∨ sc.names.lookup y.1 = some .free
  own : ∀ y ∈ scope.names, y.2 = .local ∨ y.2 = .cell → y.1 ∈ own.map (·.1) ∨ y.1 ∉ N

def wipe (σ : St) : List Nat → St
  | [] => σ
  | v :: vs => (wipe σ vs).set v none
theorem wipe_length (σ : St) : ∀ vs : List Nat, (wipe σ vs).length = σ.length
  | [] => rfl
  | v :: vs => by unfold wipe; rw [List.length_set, wipe_length σ vs]
theorem wipe_some {σ : St} {i : Nat} {x : V} : ∀ {vs : List Nat}, (wipe σ vs)[i]? = some (some x) → σ[i]? = some (some x) ∧ i ∉ vs
  | [], h => ⟨h, by simp⟩
  | v :: vs, h => by
    unfold wipe at h
    by_cases hi : v = i
    · subst hi
      by_cases hv : v < (wipe σ vs).length
      · rw [List.getElem?_set_self hv] at h; cases h
      · rw [List.getElem?_eq_none (by simpa using hv)] at h; cases h
    · rw [List.getElem?_set_ne hi] at h
      obtain ⟨h1, h2⟩ := wipe_some h
      exact ⟨h1, by simp only [List.mem_cons, not_or]; exact ⟨fun e => hi e.symm, h2⟩⟩


abbrev Cx.blk (X : Cx) (s : Shared) (H : Hp) (scope : Scope) (cenv : Env) (fp : List Addr) : Cx := { X with s_0 := s, H_0 := H, env := cenv, outer := X.stack, ex := fp, fn := fun x => scope.names.lookup x == some .cell, pn := [], xe := fun _ _ => False }
section
variable {X : Cx} {pins : List (Addr × Obj)} {σ : St} {H : Hp} {s : Shared}
theorem block_start {scope : Scope} {own : List (Str × Nat)} {fp : List Addr} (I : Inv X pins σ H s) (ok : BlkOk X.N X.env.scope scope own) (hN : X.N.Nodup) (hfp : ∀ b ∈ fp, FpOk X pins H b ∧ b < s.heap.objs.size) :
    Inv (X.blk s H scope (compEnvC scope (cellsFrom (s.heap.objs.size + 1) scope.names (cloFrom X.env.cells scope.names [])) s.heap.objs.size X.env) fp) [] (wipe σ (own.map (·.2))) H { s with heap := pushCells (s.heap.push { cls := .type "dict", data := .dict #[] }) scope.names } := by
  have hfree : ∀ y ∈ scope.names, y.2 = .free → ∃ c, X.env.cells.lookup y.1 = some c := fun y hy e => by
    rcases ok.free y hy e with k | k
    · exact I.ok.has _ (.inl k)
    · exact I.ok.has _ (.inr k)
  generalize hcenv : compEnvC scope (cellsFrom (s.heap.objs.size + 1) scope.names (cloFrom X.env.cells scope.names [])) s.heap.objs.size X.env = cenv
  have kp : ∀ b o, s.heap.get? b = some o → (pushCells (s.heap.push { cls := .type "dict", data := .dict #[] }) scope.names).get? b = some o := fun b o e => pushCells_keeps _ _ _ _ (Heap.get?_push_of_some _ e)
  have hL : cenv.locals = s.heap.objs.size := by rw [← hcenv]; rfl
  have hcl : cenv.cells = cellsFrom (s.heap.objs.size + 1) scope.names (cloFrom X.env.cells scope.names []) := by rw [← hcenv]; rfl
  have hsc : cenv.scope = relS scope X.env.scope := by rw [← hcenv]; rfl
  rw [← Heap.size_push s.heap { cls := .type "dict", data := .dict #[] }] at hcl
  have cm : ∀ {y c}, (y, c) ∈ cloFrom X.env.cells scope.names [] → X.env.cells.lookup y = some c ∧ c < s.heap.objs.size := fun {y c} hm => by
    rcases cloFrom_mem hm with hm | ⟨h1, rfl⟩
    · cases hm
    · obtain ⟨c, hc⟩ := hfree _ h1 rfl
      rw [hc]
      obtain ⟨w, z⟩ := I.cell _ _ hc
      exact ⟨rfl, z.lt⟩
  have mem : ∀ {y c}, cenv.cells.lookup y = some c → (X.env.cells.lookup y = some c ∧ c < s.heap.objs.size) ∨ (s.heap.objs.size + 1 ≤ c ∧ CellAt (pushCells (s.heap.push { cls := .type "dict", data := .dict #[] }) scope.names) c none) := fun {y c} e => by
    rw [hcl] at e
    rcases cells_mem (PySem.mem_of_lookup e) with hm | ⟨_, h2, h3⟩
    · exact .inl (cm hm)
    · rw [Heap.size_push] at h2; exact .inr ⟨h2, h3⟩
  have look : ∀ {y}, scope.names.lookup y = some .free → ∃ c, cenv.cells.lookup y = some c ∧ X.env.cells.lookup y = some c := fun {y} hl => by
    have hy : (y, NameKind.free) ∈ scope.names := PySem.mem_of_lookup hl
    obtain ⟨c', e'⟩ := mem_lookup (cells_acc (names := scope.names) (n := (s.heap.push { cls := .type "dict", data := .dict #[] }).objs.size) (cloFrom_has (cells := X.env.cells) (acc := []) hy))
    rw [← hcl] at e'
    refine ⟨c', e', ?_⟩
    rw [hcl] at e'
    rcases cells_mem (PySem.mem_of_lookup e') with hm | ⟨h1, _, _⟩
    · exact (cm hm).1
    · have := ok.uniq _ h1
      rw [hl] at this; cases this
  have okB : (X.blk s H scope cenv fp).Ok := by
    refine ⟨I.ok.mod, by show cenv.scope.kind = _; rw [hsc]; exact ok.kind, by show cenv.globals = _; rw [← hcenv]; exact I.ok.glob, by show cenv.builtins = _; rw [← hcenv]; exact I.ok.blt, by show s.heap.objs.size ≤ cenv.locals; rw [hL]; exact Nat.le_refl _,
      fun y z c e1 e2 => ?_, fun y hy => ?_, fun y c z e => ?_, I.ok.hd, I.ok.frames, .inl rfl, fun b hb => ⟨?_, fun y c e z => ?_⟩, I.bs, Nat.le_trans I.ok.bsz I.sz, fun b o e hb => ?_, fun b hb z => ?_, I.stack, I.stkFree, I.tabs⟩
    · have e1 : cenv.cells.lookup y = some c := e1
      have e2 : cenv.cells.lookup z = some c := e2
      rw [hcl] at e1 e2
      refine cells_inj (fun p hp => ?_) (fun y z c a b => I.ok.inj y z c (cm a).1 (cm b).1) (PySem.mem_of_lookup e1) (PySem.mem_of_lookup e2)
      rw [Heap.size_push]
      exact Nat.lt_succ_of_lt (cm (y := p.1) (c := p.2) hp).2
    · show ∃ c, cenv.cells.lookup y = some c
      have key : ∀ k, cenv.kindOf y = some k → (k = .cell ∨ k = .free) → ∃ c, cenv.cells.lookup y = some c := fun k hk hk' => by
        unfold Env.kindOf at hk
        rw [hsc] at hk
        obtain ⟨k', e, r⟩ := lookup_relS hk
        have : k' = .cell ∨ k' = .free := by
          rcases r with rfl | ⟨rfl, _⟩
          · exact hk'
          · exact .inr rfl
        rcases this with rfl | rfl
        · obtain ⟨c, hm⟩ := cells_has (n := (s.heap.push { cls := .type "dict", data := .dict #[] }).objs.size) (acc := cloFrom X.env.cells scope.names []) (PySem.mem_of_lookup e)
          obtain ⟨c', e'⟩ := mem_lookup hm
          exact ⟨c', by rw [hcl]; exact e'⟩
        · obtain ⟨c, h1, _⟩ := look e
          exact ⟨c, h1⟩
      rcases hy with hy | hy
      · exact key _ hy (.inl rfl)
      · exact key _ hy (.inr rfl)
    · have z : (scope.names.lookup y == some NameKind.cell) = true := z
      have z : scope.names.lookup y = some .cell := by simpa using z
      have e : cenv.cells.lookup y = some c := e
      rw [hcl] at e
      rcases cells_mem (PySem.mem_of_lookup e) with hm | ⟨_, h2, _⟩
      · rcases cloFrom_mem hm with hm | ⟨h1, _⟩
        · cases hm
        · have q := ok.uniq _ h1
          rw [z] at q; cases q
      · rw [Heap.size_push] at h2
        exact Nat.le_of_succ_le h2
    · show b ≠ cenv.locals
      rw [hL]; exact Nat.ne_of_lt (hfp b hb).2
    · have e : cenv.cells.lookup y = some c := e
      rcases mem e with ⟨h1, _⟩ | ⟨h1, _⟩
      · exact (hfp b hb).1.2.2.2.2.1 y c h1 z
      · have h2 : s.heap.objs.size + 1 ≤ b := by rw [← z]; exact h1
        exact absurd (Nat.lt_of_lt_of_le (hfp b hb).2 (Nat.le_of_succ_le h2)) (Nat.lt_irrefl _)
    · rcases (hfp b hb).1.2.2.2.1 with z | z
      · exact I.ok.noex b o e z
      · exact absurd (Nat.lt_of_lt_of_le (Heap.lt_size e) (Nat.le_trans I.ok.bsz z)) (Nat.lt_irrefl _)
    · rcases List.mem_cons.mp (I.stkSub b z) with z | z
      · exact (hfp b hb).1.2.1 z
      · exact (hfp b hb).1.2.2.1 z
  refine ⟨okB, rfl, I.bare.self, Un.kept kp, ⟨fun _ => none, ?_, fun i y av e1 e2 e3 => ?_⟩, fun y c e => ?_, ?_, fun y c e => ?_, fun p hp => ?_, I.hok.kept kp, by rw [wipe_length]; exact I.len⟩
  · show Heap.Ns _ cenv.locals _
    rw [hL]
    exact Heap.Ns.keeps (Heap.Ns.new ..) fun b o e => pushCells_keeps _ _ _ _ e
  · obtain ⟨e2, hne⟩ := wipe_some e2
    have hfr : scope.names.lookup y = some .free ∧ (cenv.kindOf y = some .cell ∨ cenv.kindOf y = some .free) := by
      have key : ∀ k, cenv.scope.names.lookup y = some k → k = .local ∨ k = .cell ∨ k = .free → scope.names.lookup y = some .free ∧ (cenv.kindOf y = some .cell ∨ cenv.kindOf y = some .free) := fun k hk hk' => by
        have hk0 := hk
        rw [hsc] at hk
        obtain ⟨k', e, r⟩ := lookup_relS hk
        have no : ¬ (k' = .local ∨ k' = .cell) := fun hh => by
          rcases ok.own _ (PySem.mem_of_lookup e) hh with e' | e'
          · obtain ⟨p, hp, hpy⟩ := List.mem_map.mp e'
            have e3 := ok.ix p hp
            have : p.1 = y := hpy
            rw [this] at e3
            exact hne (List.mem_map.mpr ⟨p, hp, nodup_ix hN e3 e1⟩)
          · exact e' (List.mem_of_getElem? e1)
        rcases r with rfl | ⟨rfl, rfl⟩
        · rcases hk' with rfl | rfl | rfl
          · exact absurd (.inl rfl) no
          · exact absurd (.inr rfl) no
          · exact ⟨e, .inr hk0⟩
        · exact ⟨e, .inl hk0⟩
      have e3 : Vis cenv.scope y := e3
      rcases e3 with e3 | e3 | e3
      · exact key _ e3 (.inl rfl)
      · exact key _ e3 (.inr (.inl rfl))
      · exact key _ e3 (.inr (.inr rfl))
    obtain ⟨m, hn, hl⟩ := I.loc
    have hvis : Vis X.env.scope y := (ok.free _ (PySem.mem_of_lookup hfr.1) rfl).elim (fun k => .inr (.inl k)) (fun k => .inr (.inr k))
    obtain ⟨w, r, q⟩ := hl i y av e1 e2 hvis
    refine ⟨w, r, .inr ⟨hfr.2, ?_⟩⟩
    obtain ⟨c, h1, h2⟩ := look hfr.1
    rcases q with ⟨k, _⟩ | ⟨_, c', e', z⟩
    · have k : X.env.scope.names.lookup y = some .local := k
      rcases ok.free _ (PySem.mem_of_lookup hfr.1) rfl with k' | k' <;> rw [show X.env.scope.names.lookup y = _ from k'] at k <;> cases k
    · rw [h2] at e'; cases e'
      exact ⟨c, h1, z.keeps kp⟩
  · have e : cenv.cells.lookup y = some c := e
    rcases mem e with ⟨h1, _⟩ | ⟨_, z⟩
    · obtain ⟨w, z⟩ := I.cell y c h1
      exact ⟨w, z.keeps kp⟩
    · exact ⟨_, z⟩
  · show H cenv.locals = none
    rw [hL]; exact I.hok.fresh (Nat.le_refl _)
  · have e : cenv.cells.lookup y = some c := e
    rcases mem e with ⟨h1, _⟩ | ⟨h1, _⟩
    · exact I.freeC y c h1
    · exact I.hok.fresh (Nat.le_of_succ_le h1)
  · exact absurd (show p ∈ ([] : List (Addr × Obj)) ++ [] from hp) (by simp)


theorem app_ok {E : Value → Shared → Prop} {D : Addr} {xs : List V} {y : V} {v : Value} {Q : Value → Shared → Prop} (I : Inv X pins σ H s) (hD : H D = some (.lst xs)) (hz : xs.length < sizeLine) (r : RelV y v)
    (h : ∀ s', Inv X pins σ (upd H D (.lst (xs ++ [y]))) s' → Q .none s') : wpAny (model X.prog X.w) X.A (call (.builtin "list.append") [.ref D, v]) Q E s := by
  obtain ⟨hz', its, n, ri, e⟩ := I.hok D _ hD
  have hl := ri.length
  refine append_at (hsz := by rw [List.size_toArray]; omega) e fun h' sb ho' => ?_
  refine h { s with heap := h' } (I.write (t' := s.toks) (by rw [hD]; trivial) (.inl rfl) (fun b u hb q => (sb.2 b hb).trans q) ⟨_, ho'⟩ ⟨by rw [List.length_append]; exact hz, its ++ [v], n + 1, ri.append (.cons r .nil), ?_⟩)
  rw [ho']
  simp


def PTs (X : Cx) (ifs : List Expr) (t : TT) : Prop :=
  ∀ (pins : List (Addr × Obj)) (s : Shared) (σ : St) (H : Hp) (Q : Bool → Hp → Prop), Inv X pins σ H s → t σ H Q →
    wpAny (model X.prog X.w) X.A (forIn ifs true fun c r => if r = true then do let ok ← isTrue c X.env (eval c X.env); pure (ForInStep.yield ok) else pure (ForInStep.yield r)) (TP X pins σ Q) X.xe s
def tYes : TT := fun _ H Q => Q true H
theorem pts_nil : PTs X [] tYes := fun _ _ _ H _ I h => wpAny_tests_nil ⟨H, I, h⟩
theorem pts_one {c : Expr} {t : TT} (h : PT X c t) : PTs X [c] t := fun pins s σ H Q I hw => wpAny_tests_one (h pins s σ H Q I hw)
end

theorem thnF {α : Type} {t : Sem α} {Q Q' : α → Shared → Prop} {M : Model} {A : Around} {E : Value → Shared → Prop} {s : Shared} (h : wpAny M A t Q (fun _ _ => False) s) (hQ : ∀ a s, Q a s → Q' a s) : wpAny M A t Q' E s := wpAny_mono h hQ fun _ _ z => False.elim z


theorem compLoop_any {prog : Program} {w : World} {A : Around} {R : Result → Shared → Prop} {s : Shared} {elt target iter : Expr} {ifs : List Expr} {scope : Scope} {pos : Pos} {it acc : Value} {env : Env} (I : Nat → Shared → Prop)
    (turn : ∀ n s, I n s → wpAny (model prog w) A (pyNext it) (fun r s₁ => match r with
      | none => R (.ok .next) s₁
      | some v => wpAny (model prog w) A (letOwnedTupleGo target it v) (fun _ s₁' => wpAny (model prog w) A (assign target env v) (fun _ s₂ =>
          wpAny (model prog w) A (forIn ifs true fun c r => if r = true then do let ok ← isTrue c env (eval c env); pure (ForInStep.yield ok) else pure (ForInStep.yield r)) (fun ok s₃ =>
            if ok = true then wpAny (model prog w) A (eval elt env) (fun x s₄ =>
              wpAny (model prog w) A (call (.builtin "list.append") [acc, x]) (fun _ s₅ => ∃ m, m < n ∧ I m s₅) (notedBy (model prog w) A env fun e s' => R (.error e) s') s₄) (notedBy (model prog w) A env fun e s' => R (.error e) s') s₃
            else ∃ m, m < n ∧ I m s₃) (notedBy (model prog w) A env fun e s' => R (.error e) s') s₂) (notedBy (model prog w) A env fun e s' => R (.error e) s') s₁') (notedBy (model prog w) A env fun e s' => R (.error e) s') s₁) (notedBy (model prog w) A env fun e s' => R (.error e) s') s)
    (n : Nat) (h : I n s) :
    codeAny (model prog w) A (.compLoop (.ListComp elt [⟨target, iter, ifs, 0⟩] scope pos) 0 it acc env) R s := by
  refine codeAny_loop rfl I (fun n s hI => ?_) n h
  show wpAny _ A ((compTurn (.ListComp elt [⟨target, iter, ifs, 0⟩] scope pos) 0 it acc env).onRaise (fun x => do noteFrame x env; theTreesLotGoes x)) _ _ s
  refine wpAny_noted ?_
  rw [compTurn_list]
  refine wpAny_bind (wpAny_standAt (wpAny_bind (wpAny_mono (turn n s hI) (fun r s₁ h₁ => ?_) fun _ _ h' => h')))
  cases r with
  | none => exact wpAny_pure h₁
  | some v =>
    refine wpAny_bind (wpAny_mono h₁ (fun _ s₁' h₁' => ?_) fun _ _ h' => h')
    refine wpAny_bind (wpAny_mono h₁' (fun _ s₂ h₂ => wpAny_bind (wpAny_mono h₂ (fun ok s₃ h₃ => ?_) fun _ _ h' => h')) fun _ _ h' => h')
    cases ok with
    | false => exact wpAny_pure ⟨rfl, h₃⟩
    | true =>
      exact wpAny_bind (wpAny_bind (wpAny_mono h₃ (fun x s₄ h₄ => wpAny_bind (wpAny_mono h₄ (fun _ s₅ h₅ => wpAny_pure (wpAny_pure ⟨rfl, h₅⟩)) fun _ _ h' => h')) fun _ _ h' => h'))

section
variable {X : Cx}

def tLc (wi : TI) (g : TG) (tt : TT) (te : TE) (vs : List Nat) : TE := fun σ H Q => wi σ H fun J H1 => ∀ D, H1 D = none → ∃ W : Nat → Nat → Hp → Prop, (∃ m, W 0 m (upd H1 D (.lst []))) ∧ ∀ i m H, W i m H →
  (J.stop i H ∧ Q (.ref D) H) ∨ (J.go i H ∧ ∃ Nx : Hp → Prop, (∀ H', Nx H' → ∃ m', m' < m ∧ W (i + 1) m' H') ∧ ∀ x H', J.yld i H x H' → g x (wipe σ vs) H' fun σ2 H2 => wipe σ2 vs = wipe σ vs ∧ tt σ2 H2 fun b H3 =>
    if b = true then te σ2 H3 fun y H4 => ∃ acc, H4 D = some (.lst acc) ∧ acc.length < sizeLine ∧ Nx (upd H4 D (.lst (acc ++ [y]))) else Nx H3)
theorem lc_core {pins : List (Addr × Obj)} {s : Shared} {σ : St} {H : Hp} {Q : VK} {elt tg iter : Expr} {ifs : List Expr} {scope : Scope} {own : List (Str × Nat)} {pos pos' : Pos} {wi : TI} {g : TG} {tt : TT} {te : TE} {use : Option (Value → Sem Unit)} {Qf : Value → Shared → Prop}
    (hc : X.calm = true) (hN : X.N.Nodup) (I : Inv X pins σ H s) (hi : PI X tg iter wi) (ok : BlkOk X.N X.env.scope scope own)
    (hg : ∀ (s : Shared) (H : Hp) (C : Addr) (cl : List (Str × Addr)) (fp : List Addr), PG (X.blk s H scope (compEnvC scope cl C X.env) fp) tg g) (ht : ∀ (s : Shared) (H : Hp) (C : Addr) (cl : List (Str × Addr)) (fp : List Addr), PTs (X.blk s H scope (compEnvC scope cl C X.env) fp) ifs tt)
    (he : ∀ (s : Shared) (H : Hp) (C : Addr) (cl : List (Str × Addr)) (fp : List Addr), PE (X.blk s H scope (compEnvC scope cl C X.env) fp) elt te) (hs : ∀ x, foldedSetIterable iter X.env x = pure x)
    (h : tLc wi g tt te (own.map (·.2)) σ H Q)
    (hRR : ∀ D C s' m H', Inv X pins σ H' s' → Q (.ref D) H' → s'.heap.Ns C m → FpOk X pins H' C → compPost (model X.prog X.w) X.A X.xe use Qf (.ref D) C (.ok .next) s') :
    wpAny (model X.prog X.w) X.A (comprehension (.ListComp elt [⟨tg, iter, ifs, 0⟩] scope pos) scope X.env pos' (newList []) false (eval iter X.env) use) Qf X.xe s := by
  have hfree : ∀ y ∈ scope.names, y.2 = .free → ∃ c, X.env.cells.lookup y.1 = some c := fun y hy e => by
    rcases ok.free y hy e with k | k
    · exact I.ok.has _ (.inl k)
    · exact I.ok.has _ (.inr k)
  refine wpAny_comprehension_free (use := use) rfl hs (closure_ok hfree) ok.kind (fun y hy e => by rw [ok.uniq y hy, e])
    (thn (hi pins s σ H _ I h) fun xv s1 hx => thn hx fun itv s2 h2 => ?_)
  obtain ⟨it, fp, tn, J, H2, e, I2, T, st2, f2, q⟩ := h2
  subst e
  refine wpAny_newObj_type (newEnv_comp ?_) (by show 0 ≤ sizeLine; decide)
  generalize hD : s2.heap.objs.size = D
  have hDn : H2 D = none := I2.hok.fresh (Nat.le_of_eq hD)
  obtain ⟨W, ⟨m0, w0⟩, turn⟩ := q D hDn
  generalize hs3 : ({ s2 with heap := s2.heap.push { cls := .type "list", data := .seq ([] : List Value).toArray } } : Shared) = s3
  have I3 : Inv X pins σ (upd H2 D (.lst [])) s3 := by
    rw [← hs3]
    refine I2.laid (t' := s2.toks) (fun b o e => Heap.get?_push_of_some _ e) (Nat.le_of_eq hD) ⟨Nat.zero_le _, [], 0, .nil, ?_⟩
    rw [← hD]
    exact Heap.get?_push_size _ rfl
  have h3 : s3.heap = s2.heap.push { cls := .type "list", data := .seq ([] : List Value).toArray } := by rw [← hs3]
  have sz : ∀ b ∈ fp, b < s2.heap.objs.size := fun b hb => by
    obtain ⟨o, e, _⟩ := T.obj _ _ st2 b hb
    exact Heap.lt_size e
  have f3 : ∀ b ∈ fp, FpOk X pins (upd H2 D (.lst [])) b ∧ b < s3.heap.objs.size := fun b hb => by
    have hlt := sz b hb
    refine ⟨⟨?_, (f2 b hb).2⟩, by rw [h3, Heap.size_push]; exact Nat.lt_succ_of_lt hlt⟩
    rw [upd_ne (by rw [← hD]; exact Nat.ne_of_lt hlt)]
    exact (f2 b hb).1
  have st3 : tn 0 s3.heap := T.keep _ _ _ st2 fun b _ o e => by rw [h3]; exact Heap.get?_push_of_some _ e
  have I4 := block_start I3 ok hN f3
  have pg := hg s3 (upd H2 D (.lst [])) s3.heap.objs.size (cellsFrom (s3.heap.objs.size + 1) scope.names (cloFrom X.env.cells scope.names [])) fp
  have pt := ht s3 (upd H2 D (.lst [])) s3.heap.objs.size (cellsFrom (s3.heap.objs.size + 1) scope.names (cloFrom X.env.cells scope.names [])) fp
  have pe := he s3 (upd H2 D (.lst [])) s3.heap.objs.size (cellsFrom (s3.heap.objs.size + 1) scope.names (cloFrom X.env.cells scope.names [])) fp
  show codeAny _ _ (.compStart (.ListComp elt [⟨tg, iter, ifs, 0⟩] scope pos) 0 (.ref it) (.ref D) (compEnvC scope (cellsFrom (s3.heap.objs.size + 1) scope.names (cloFrom X.env.cells scope.names [])) s3.heap.objs.size X.env)) (compPost (model X.prog X.w) X.A X.xe use Qf (.ref D) s3.heap.objs.size) { s3 with heap := pushCells (s3.heap.push { cls := .type "dict", data := .dict #[] }) scope.names }
  have nfp : ∀ b ∈ fp, (upd H2 D (.lst [])) b = none := fun b hb => (f3 b hb).1.1
  generalize hce : compEnvC scope (cellsFrom (s3.heap.objs.size + 1) scope.names (cloFrom X.env.cells scope.names [])) s3.heap.objs.size X.env = ce at I4 pg pt pe ⊢
  have cL : ce.locals = s3.heap.objs.size := by subst hce; rfl
  generalize hH3 : upd H2 D (.lst []) = H3 at I3 I4 pg pt pe w0 nfp f3
  generalize hs4 : ({ s3 with heap := pushCells (s3.heap.push { cls := .type "dict", data := .dict #[] }) scope.names } : Shared) = s4 at I4 ⊢
  have st4 : tn 0 s4.heap := T.keep _ _ _ st3 fun b _ o e => by rw [← hs4]; exact pushCells_keeps _ _ _ _ (Heap.get?_push_of_some _ e)
  have stat : ∀ {σ' : St} {H' : Hp} {s' : Shared}, Inv (X.blk s3 H3 scope ce fp) [] σ' H' s' → (∀ b ∈ fp, H' b = none) → ∀ b ∈ fp, FpOk (X.blk s3 H3 scope ce fp) [] H' b := fun {σ' H' s'} I' hn b hb =>
    ⟨hn b hb, (I'.ok.exf b hb).1, I'.ok.exfs b hb, .inl hb, fun x c e => (I'.ok.exf b hb).2 x c e, fun p hp => absurd (show p ∈ ([] : List (Addr × Obj)) ++ [] from hp) (by simp)⟩
  have loop : codeAny (model X.prog X.w) X.A (.compLoop (.ListComp elt [⟨tg, iter, ifs, 0⟩] scope pos) 0 (.ref it) (.ref D) ce) (compPost (model X.prog X.w) X.A X.xe use Qf (.ref D) s3.heap.objs.size) s4 := by
    refine compLoop_any (fun n s' => ∃ i H', Inv (X.blk s3 H3 scope ce fp) [] (wipe σ (own.map (·.2))) H' s' ∧ tn i s'.heap ∧ (∀ b ∈ fp, H' b = none) ∧ W i n H') ?_ m0 ⟨0, H3, I4, st4, nfp, w0⟩
    rintro n s5 ⟨i, H5, I5, st5, n5, w5⟩
    rcases turn i n H5 w5 with ⟨stop, qq⟩ | ⟨go, Nx, hNx, step⟩
    · have td := T.done (X.blk s3 H3 scope ce fp) rfl rfl rfl hc i [] s5 _ H5 (fun _ _ => False) I5 (stat I5 n5) st5 stop
      refine thnF td fun r s6 ⟨hr, I6⟩ => ?_
      subst hr
      have I7 : Inv X pins σ H5 s6 := I3.call' (ch := fp) I6.os I6.base I6.hok I6.bare fun b hb => ⟨(f3 b hb).1.2.2.2.1, (f3 b hb).1.2.1, (f3 b hb).1.2.2.2.2.1, (f3 b hb).1.2.2.2.2.2⟩
      have nC : H5 s3.heap.objs.size = none := by
        have z : H5 ce.locals = none := I6.free
        rw [cL] at z
        exact z
      obtain ⟨m, hn, _⟩ := I6.loc
      have hn : s6.heap.Ns ce.locals m := hn
      rw [cL] at hn
      exact hRR D s3.heap.objs.size s6 m H5 I7 qq hn (I3.fpOk (Nat.le_refl _) nC)
    · have ti := T.item (X.blk s3 H3 scope ce fp) rfl rfl rfl hc i [] s5 _ H5 (fun _ _ => False) I5 (stat I5 n5) st5 go
      refine thnF ti fun r s6 ⟨u, hr, h6⟩ => ?_
      subst hr
      refine thnF h6 fun _ s7 ⟨x, H7, I7, r7, y7, st7, n7⟩ => ?_
      have I7' := I7.pinned (stat I7 n7) (T.obj _ _ st7)
      refine thnF (pg _ s7 _ H7 x u _ I7' r7 (step x H7 y7)) fun _ s8 ⟨σ8, H8, I8, hw8, q8⟩ => ?_
      refine thnF (pt _ s8 σ8 H8 _ I8 q8) fun b s9 ⟨H9, I9, q9⟩ => ?_
      have fin : ∀ {s' : Shared} {H' : Hp}, Inv (X.blk s3 H3 scope ce fp) ([] ++ pinsAt fp s7.heap) σ8 H' s' → Nx H' → ∃ m, m < n ∧ ∃ i H', Inv (X.blk s3 H3 scope ce fp) [] (wipe σ (own.map (·.2))) H' s' ∧ tn i s'.heap ∧ (∀ b ∈ fp, H' b = none) ∧ W i m H' := fun {s' H'} I' nx => by
        obtain ⟨m', hm, w'⟩ := hNx H' nx
        have pin' : ∀ b ∈ fp, ∀ o, s7.heap.get? b = some o → s'.heap.get? b = some o ∧ H' b = none := fun b hb o e =>
          let z := I'.pin (b, o) (List.mem_append_right _ (List.mem_append_right _ (mem_pinsAt hb e)))
          ⟨z.1, z.2.1⟩
        have hl : (wipe σ (own.map (·.2))).length = σ8.length := by rw [← hw8, wipe_length]
        refine ⟨m', hm, i + 1, H', (I'.unpinned (pins := [])).weak hl (fun j v e => ?_), T.keep _ _ _ st7 fun b hb o e => (pin' b hb o e).1, fun b hb => ?_, w'⟩
        · rw [← hw8] at e
          exact (wipe_some e).1
        · obtain ⟨o, e, _⟩ := T.obj _ _ st7 b hb
          exact (pin' b hb o e).2
      cases b with
      | false =>
        simp only [Bool.false_eq_true, if_false] at q9 ⊢
        exact fin I9 q9
      | true =>
        simp only [if_true] at q9 ⊢
        refine thnF (pe _ s9 σ8 H9 _ I9 q9) fun z s10 ⟨yv, H10, I10, r10, acc, hD10, hz10, nx⟩ => ?_
        exact app_ok (X := X.blk s3 H3 scope ce fp) I10 hD10 hz10 r10 fun s11 I11 => fin I11 nx
  exact codeAny_compStart_list loop (T.self X.A 0 _ _ _ st4 loop)

theorem pe_lc {elt tg iter : Expr} {ifs : List Expr} {scope : Scope} {own : List (Str × Nat)} {pos : Pos} {wi : TI} {g : TG} {tt : TT} {te : TE} (hc : X.calm = true) (hN : X.N.Nodup) (hi : PI X tg iter wi) (ok : BlkOk X.N X.env.scope scope own)
    (hg : ∀ (s : Shared) (H : Hp) (C : Addr) (cl : List (Str × Addr)) (fp : List Addr), PG (X.blk s H scope (compEnvC scope cl C X.env) fp) tg g) (ht : ∀ (s : Shared) (H : Hp) (C : Addr) (cl : List (Str × Addr)) (fp : List Addr), PTs (X.blk s H scope (compEnvC scope cl C X.env) fp) ifs tt)
    (he : ∀ (s : Shared) (H : Hp) (C : Addr) (cl : List (Str × Addr)) (fp : List Addr), PE (X.blk s H scope (compEnvC scope cl C X.env) fp) elt te) (hs : ∀ x, foldedSetIterable iter X.env x = pure x := by intro _; rfl) :
    PE X (.ListComp elt [⟨tg, iter, ifs, 0⟩] scope pos) (tLc wi g tt te (own.map (·.2))) := by
  intro pins s σ H Q I h
  rw [eval_ListComp]
  refine lc_core hc hN I hi ok hg ht he hs h fun D C s' m H' I' q hn f => ⟨m, hn, fun h'' sb => ?_⟩
  obtain ⟨f0, f1, f2, f3, f4, f5⟩ := f
  exact ⟨.ref D, H', I'.turned (t' := s'.toks) (fun b o hb e => (sb.2 b hb).trans e) f0 f1 f3 f4 f5, rfl, q⟩

end



def blkC (N : List Str) (sc scope : Scope) (own : List (Str × Nat)) : Bool :=
  (match scope.kind with | .function => true | _ => false) && (scope.names.all fun y => decide (scope.names.lookup y.1 = some y.2)) && (own.all fun p => decide (N[p.2]? = some p.1)) &&
    (scope.names.all fun y => match y.2 with
      | .free => (match sc.names.lookup y.1 with | some .cell => true | some .free => true | _ => false)
      | .local => decide (y.1 ∈ own.map (·.1)) || decide (y.1 ∉ N)
      | .cell => decide (y.1 ∈ own.map (·.1)) || decide (y.1 ∉ N)
      | _ => true)
theorem blkOk_by {N : List Str} {sc scope : Scope} {own : List (Str × Nat)} (h : blkC N sc scope own = true) : BlkOk N sc scope own := by
  unfold blkC at h
  simp only [Bool.and_eq_true, List.all_eq_true, decide_eq_true_eq] at h
  obtain ⟨⟨⟨h1, h2⟩, h3⟩, h4⟩ := h
  refine ⟨?_, h2, h3, fun y hy e => ?_, fun y hy e => ?_⟩
  · split at h1
    · assumption
    · cases h1
  · have q := h4 y hy
    simp only [e] at q
    split at q <;> first | exact .inl (by assumption) | exact .inr (by assumption) | cases q
  · have q := h4 y hy
    rcases e with e | e <;> (simp only [e, Bool.or_eq_true, decide_eq_true_eq] at q; exact q)
end L2

namespace L2
open PySem PySem.Spec PyProof.Rows

section
variable {prog : Program} {w : World} {A : Around} {R : Result → Shared → Prop} {s : Shared} {elt t0 i0 t1 i1 : Expr} {ifs0 ifs1 : List Expr} {scope : Scope} {pos : Pos} {it acc : Value} {env : Env}

end

theorem wipe_out {σ : St} {i : Nat} : ∀ {vs : List Nat}, i ∉ vs → (wipe σ vs)[i]? = σ[i]?
  | [], _ => rfl
  | v :: vs, h => by
    have h1 : v ≠ i := fun e => h (by rw [e]; exact List.mem_cons_self)
    have h2 : i ∉ vs := fun m => h (List.mem_cons_of_mem _ m)
    unfold wipe
    rw [List.getElem?_set_ne h1]
    exact wipe_out h2
section
variable {X : Cx}

end
end L2

namespace L2
open PySem PySem.Spec PyProof.Rows


section
variable {κ : Type} [DecidableEq κ]
def valV (kvs : List (κ × V)) (k : κ) : Option V := (kvs.find? fun kv => decide (kv.1 = k)).map (·.2)

def putK (kvs : List (κ × V)) (k : κ) (v : V) : List (κ × V) :=
  if (kvs.any fun kv => decide (kv.1 = k)) = true then kvs.map (fun kv => if kv.1 = k then (kv.1, v) else kv) else kvs ++ [(k, v)]
def dropK (kvs : List (κ × V)) (k : κ) : List (κ × V) := kvs.filter fun kv => decide (kv.1 ≠ k)

theorem valV_pos {p : κ × V} {r : List (κ × V)} {k : κ} (e : p.1 = k) : valV (p :: r) k = some p.2 := by simp [valV, List.find?_cons, e]
theorem valV_neg {p : κ × V} {r : List (κ × V)} {k : κ} (e : ¬ p.1 = k) : valV (p :: r) k = valV r k := by simp [valV, List.find?_cons, e]
theorem valV_any (k : κ) : ∀ kvs : List (κ × V), (kvs.any fun kv => decide (kv.1 = k)) = (valV kvs k).isSome
  | [] => rfl
  | p :: r => by
    rw [List.any_cons]
    by_cases e : p.1 = k
    · simp only [valV_pos e, decide_eq_true e, Bool.true_or, Option.isSome_some]
    · rw [valV_neg e, decide_eq_false e, Bool.false_or]; exact valV_any k r
theorem RelO.isSome_eq {o : Option V} {u : Option Value} (r : RelO o u) : o.isSome = u.isSome := by
  cases o with
  | none => cases u with
    | none => rfl
    | some _ => exact (show False from r).elim
  | some _ => cases u with
    | none => exact (show False from r).elim
    | some _ => rfl
theorem RelO.getD {o : Option V} {u : Option Value} {d : V} {d' : Value} (r : RelO o u) (rd : RelV d d') : RelV (o.getD d) (u.getD d') := by
  cases o with
  | none => cases u with
    | none => exact rd
    | some _ => exact (show False from r).elim
  | some _ => cases u with
    | none => exact (show False from r).elim
    | some _ => exact r


theorem KV.val {kvs : List (κ × V)} {vs : List (κ × Value)} (r : KV kvs vs) (k : κ) : RelO (valV kvs k) (valueAt vs k) := by
  unfold KV at r
  induction r with
  | nil => exact True.intro
  | @cons p q ps qs h t ih =>
    obtain ⟨h1, h2⟩ := h
    by_cases e : p.1 = k
    · have e' : q.1 = k := h1.symm.trans e
      have b : valueAt (q :: qs) k = some q.2 := by simp [valueAt, List.find?_cons, e']
      rw [valV_pos e, b]; exact h2
    · have e' : ¬ q.1 = k := fun z => e (h1.trans z)
      have b : valueAt (q :: qs) k = valueAt qs k := by simp [valueAt, List.find?_cons, e']
      rw [valV_neg e, b]; exact ih
theorem KV.any {kvs : List (κ × V)} {vs : List (κ × Value)} (r : KV kvs vs) (k : κ) : (kvs.any fun kv => decide (kv.1 = k)) = vs.any fun kv => decide (kv.1 = k) := by
  unfold KV at r
  induction r with
  | nil => rfl
  | cons h t ih => rw [List.any_cons, List.any_cons, ih, h.1]
theorem KV.repl {kvs : List (κ × V)} {vs : List (κ × Value)} (r : KV kvs vs) (k : κ) {y : V} {u : Value} (ry : RelV y u) :
    KV (kvs.map fun kv => if kv.1 = k then (kv.1, y) else kv) (vs.map fun kv => if kv.1 = k then (kv.1, u) else kv) := by
  unfold KV at r ⊢
  induction r with
  | nil => exact .nil
  | @cons p q ps qs h t ih =>
    rw [List.map_cons, List.map_cons]
    refine .cons ?_ ih
    obtain ⟨h1, h2⟩ := h
    by_cases e : p.1 = k
    · rw [if_pos e, if_pos (h1.symm.trans e)]; exact ⟨h1, ry⟩
    · rw [if_neg e, if_neg (fun z => e (h1.trans z))]; exact ⟨h1, h2⟩
theorem KV.put {kvs : List (κ × V)} {vs : List (κ × Value)} (r : KV kvs vs) (k : κ) {y : V} {u : Value} (ry : RelV y u) : KV (putK kvs k y) (stored vs k u) := by
  unfold putK stored
  rw [r.any k]
  by_cases e : (vs.any fun kv => decide (kv.1 = k)) = true
  · rw [if_pos e, if_pos e]; exact r.repl k ry
  · rw [if_neg e, if_neg e]; exact Paired.snoc r ⟨rfl, ry⟩
theorem KV.drop {kvs : List (κ × V)} {vs : List (κ × Value)} (r : KV kvs vs) (k : κ) : KV (dropK kvs k) (without vs k) := by
  unfold KV at r ⊢
  unfold dropK without
  induction r with
  | nil => exact .nil
  | @cons p q ps qs h t ih =>
    obtain ⟨h1, h2⟩ := h
    rw [List.filter_cons, List.filter_cons]
    by_cases e : p.1 = k
    · have a : ¬ decide (p.1 ≠ k) = true := by simp [e]
      have b : ¬ decide (q.1 ≠ k) = true := by simp [h1.symm.trans e]
      rw [if_neg a, if_neg b]; exact ih
    · have e' : ¬ q.1 = k := fun z => e (h1.trans z)
      have a : decide (p.1 ≠ k) = true := by simp [e]
      have b : decide (q.1 ≠ k) = true := by simp [e']
      rw [if_pos a, if_pos b]; exact .cons ⟨h1, h2⟩ ih
theorem KV.length {kvs : List (κ × V)} {vs : List (κ × Value)} (r : KV kvs vs) : kvs.length = vs.length := Paired.length r
end



abbrev KT (H : Hp) : List (List Key × V) → List (List Key × Addr × Value) → Prop := Paired fun p q => p.1 = q.1 ∧ H q.2.1 = some (.tup (p.1.map kV)) ∧ RelV p.2 q.2.2
theorem KT.val {H : Hp} {kvs : List (List Key × V)} {xs : List (List Key × Addr × Value)} (r : KT H kvs xs) (k : List Key) : RelO (valV kvs k) ((atKey xs k).map (·.2)) := by
  induction r with
  | nil => exact True.intro
  | @cons p q ps qs h t ih =>
    obtain ⟨h1, _, h2⟩ := h
    by_cases e : p.1 = k
    · have e' : q.1 = k := h1.symm.trans e
      have b : atKey (q :: qs) k = some q.2 := by simp [atKey, List.find?_cons, e']
      rw [valV_pos e, b]; exact h2
    · have e' : ¬ q.1 = k := fun z => e (h1.trans z)
      have b : atKey (q :: qs) k = atKey qs k := by simp [atKey, List.find?_cons, e']
      rw [valV_neg e, b]; exact ih
theorem KT.repl {H : Hp} {kvs : List (List Key × V)} {xs : List (List Key × Addr × Value)} (r : KT H kvs xs) (k : List Key) {y : V} {u : Value} (ry : RelV y u) :
    KT H (kvs.map fun kv => if kv.1 = k then (kv.1, y) else kv) (xs.map (putAt k u)) := by
  induction r with
  | nil => exact .nil
  | @cons p q ps qs h t ih =>
    rw [List.map_cons, List.map_cons]
    refine .cons ?_ ih
    obtain ⟨h1, h2, h3⟩ := h
    unfold putAt
    by_cases e : p.1 = k
    · rw [if_pos e, if_pos (h1.symm.trans e)]; exact ⟨h1, h2, ry⟩
    · rw [if_neg e, if_neg (fun z => e (h1.trans z))]; exact ⟨h1, h2, h3⟩
theorem KT.put {H : Hp} {kvs : List (List Key × V)} {xs : List (List Key × Addr × Value)} (r : KT H kvs xs) (k : List Key) {b : Addr} {y : V} {u : Value} (hb : H b = some (.tup (k.map kV))) (ry : RelV y u) :
    KT H (putK kvs k y) (storedH xs k b u) := by
  have e : (kvs.any fun kv => decide (kv.1 = k)) = (atKey xs k).isSome := by
    rw [valV_any, (r.val k).isSome_eq, Option.isSome_map]
  unfold putK storedH
  rw [e]
  by_cases q : (atKey xs k).isSome = true
  · rw [if_pos q, if_pos q]; exact r.repl k ry
  · rw [if_neg q, if_neg q]; exact Paired.snoc r ⟨rfl, hb, ry⟩
theorem KT.keeps {H H' : Hp} {kvs : List (List Key × V)} {xs : List (List Key × Addr × Value)} (r : KT H kvs xs) (ht : ∀ b ys, H b = some (.tup ys) → H' b = some (.tup ys)) : KT H' kvs xs :=
  Paired.mapP r fun _ _ z => ⟨z.1, ht _ _ z.2.1, z.2.2⟩

section
variable {P : Program} {w : World} {H : Hp} {h : Heap} {a : Addr}
end


def DGet (H : Hp) (a : Addr) (y : V) (r : Option V) : Prop :=
  (∃ kvs k, Rd H a (.dK kvs) ∧ y = kV k ∧ r = valV kvs k) ∨ ∃ kvs k b, Rd H a (.dT kvs) ∧ y = .ref b ∧ H b = some (.tup (k.map kV)) ∧ r = valV kvs k

def DPut (H : Hp) (a : Addr) (y v : V) (H' : Hp) : Prop :=
  (∃ kvs k, H a = some (.dK kvs) ∧ y = kV k ∧ kvs.length < sizeLine ∧ H' = upd H a (.dK (putK kvs k v))) ∨
  ∃ kvs k b, H a = some (.dT kvs) ∧ y = .ref b ∧ H b = some (.tup (k.map kV)) ∧ kvs.length < sizeLine ∧ H' = upd H a (.dT (putK kvs k v))
theorem DGet.k {H : Hp} {a : Addr} {kvs : List (Key × V)} {k : Key} (e : H a = some (.dK kvs)) : DGet H a (kV k) (valV kvs k) := .inl ⟨kvs, k, .inl e, rfl, rfl⟩
theorem DGet.t {H : Hp} {a b : Addr} {kvs : List (List Key × V)} {k : List Key} (e : H a = some (.dT kvs)) (eb : H b = some (.tup (k.map kV))) : DGet H a (.ref b) (valV kvs k) := .inr ⟨kvs, k, b, .inl e, rfl, eb, rfl⟩
theorem DPut.k {H : Hp} {a : Addr} {kvs : List (Key × V)} {k : Key} {v : V} (e : H a = some (.dK kvs)) (hl : kvs.length < sizeLine) : DPut H a (kV k) v (upd H a (.dK (putK kvs k v))) := .inl ⟨kvs, k, e, rfl, hl, rfl⟩
theorem DPut.t {H : Hp} {a b : Addr} {kvs : List (List Key × V)} {k : List Key} {v : V} (e : H a = some (.dT kvs)) (eb : H b = some (.tup (k.map kV))) (hl : kvs.length < sizeLine) :
    DPut H a (.ref b) v (upd H a (.dT (putK kvs k v))) := .inr ⟨kvs, k, b, e, rfl, eb, hl, rfl⟩


section
variable {X : Cx} {pins : List (Addr × Obj)} {σ : St} {H : Hp} {s : Shared} {a : Addr} {y v : V} {u r : Value} {o : Option V} {A : Around} {E : Value → Shared → Prop}

end

section
variable {X : Cx} {pins : List (Addr × Obj)} {σ : St} {H : Hp} {s : Shared} {a : Addr} {kvs : List (Key × V)} {k : Key} {u : Value} {A : Around} {E : Value → Shared → Prop}

end




section
variable {X : Cx} {o i e value : Expr} {pos pos' tpos : Pos} {td ty tv : TE}
end



section
variable {X : Cx} {pos : Pos}
end


structure M1 (X : Cx) (o : Expr) (m : Str) (apos : Pos) (e : Expr) (cpos : Pos) : Prop where
  base : attributeBase o m X.env (eval o X.env) = eval o X.env
  few : ((backTo cpos (starEach [e] X.env)).all (fun x => !x.1) && (backToKw cpos (keywordEach [] X.env)).all (fun x => x.1.isSome)
    && decide (([e] : List Expr).length + ([] : List Keyword).length + (if ([] : List Keyword).isEmpty then 0 else 1) < 30)) = true
  line : (apos.endLine == cpos.line) = true
  trees : backTo cpos (starEach [e] X.env) = [(false, eval e X.env)]
structure M2 (X : Cx) (o : Expr) (m : Str) (apos : Pos) (e f : Expr) (cpos : Pos) : Prop where
  base : attributeBase o m X.env (eval o X.env) = eval o X.env
  few : ((backTo cpos (starEach [e, f] X.env)).all (fun x => !x.1) && (backToKw cpos (keywordEach [] X.env)).all (fun x => x.1.isSome)
    && decide (([e, f] : List Expr).length + ([] : List Keyword).length + (if ([] : List Keyword).isEmpty then 0 else 1) < 30)) = true
  line : (apos.endLine == cpos.line) = true
  trees : backTo cpos (starEach [e, f] X.env) = [(false, eval e X.env), (false, eval f X.env)]


section
variable {X : Cx} {pins : List (Addr × Obj)} {σ : St} {H : Hp} {s : Shared} {a : Addr} {y d : V} {u r : Value} {o : Option V} {A : Around} {E : Value → Shared → Prop}

end

section
variable {X : Cx} {o e f : Expr} {apos cpos : Pos} {td ty tx : TE}
end


section
variable {X : Cx} {pins : List (Addr × Obj)} {σ : St} {H : Hp} {s : Shared} {a : Addr} {kvs : List (Key × V)} {A : Around} {E : Value → Shared → Prop}
end


section
variable {X : Cx} {pins : List (Addr × Obj)} {σ : St} {H : Hp} {s : Shared} {a : Addr} {y : V} {u : Value} {A : Around} {E : Value → Shared → Prop}

end
end L2

namespace L2
open PySem PySem.Spec PyProof.Rows

section
variable {prog : Program} {w : World} {A : Around} {E : Value → Shared → Prop}

end

section
variable {X : Cx}
end
end L2

namespace L2
open PySem PySem.Spec PyProof.Rows

section
variable {X : Cx} {pins : List (Addr × Obj)} {σ : St} {H : Hp} {s : Shared} {h' : Heap}

theorem Inv.turnedNew {t' : Nat} {ch : List Addr} {T : Addr} {ob : HO} (I : Inv X pins σ H s) (k : ∀ b o, b ∉ ch → s.heap.get? b = some o → h'.get? b = some o) (hf : ∀ b ∈ ch, FpOk X pins H b) (hT : s.heap.objs.size ≤ T)
    (new : ObjOk X.prog X.w (upd H T ob) h' T ob) : Inv X pins σ (upd H T ob) { s with heap := h', toks := t' } := by
  have hn : H T = none := I.hok.fresh hT
  have nit : ∀ b u, H b = some u → b ∉ ch := fun b u e z => by
    have q := (hf b z).1
    rw [q] at e; cases e
  refine I.step (g' := s.gens) (d' := s.drawn) (ch := ch) (fun b hb => ⟨(hf b hb).2.2.2.1, (hf b hb).2.1, (hf b hb).2.2.2.2.1, (hf b hb).2.2.2.2.2⟩) (fun b o _ _ hc e _ => k b o hc e) (fun b o _ _ hc e _ => ⟨o.slots, k b o hc e⟩)
    (fun b o _ e n => ?_) (fun b o hc e => ⟨o, k b o hc e⟩) (fun b xs e => ?_) (fun b o u e => ?_) (fun b ps e => ⟨#[], ?_⟩) (fun m hm => ?_) (fun b u e => ?_) I.bare.self
  · rw [upd_ne (Nat.ne_of_lt (Nat.lt_of_lt_of_le (Heap.lt_size e) hT))]; exact n
  · rw [upd_ne (ne_of_none e hn)]; exact e
  · rw [upd_ne (ne_of_none e hn)]; exact e
  · rw [upd_ne (ne_of_none e hn), e]; simp
  · obtain ⟨o, es, ep, ho, r⟩ := hm
    exact ⟨o, es, ep, k _ o (fun z => (hf _ z).2.1 rfl) ho, r⟩
  · by_cases hb : b = T
    · subst hb
      rw [upd_same] at e
      cases e
      exact new
    · rw [upd_ne hb] at e
      refine (I.hok b u e).stay (fun c v hc q => k c v ?_ q) (fun c q => by rw [upd_ne (ne_of_none q hn)]; exact q) fun c xs q => by rw [upd_ne (ne_of_none q hn)]; exact q
      rcases hc with z | z
      · rw [z]; exact nit b u e
      · exact nit c _ z


end

section
variable {X : Cx}
theorem pi_one {tg : Expr} {pins : List (Addr × Obj)} {σ : St} {H : Hp} {s : Shared} {R : It → Hp → Prop} {J : It} {tn : Nat → Heap → Prop} {tk : Nat} (I : Inv X pins σ H s) (o : Obj)
    (T : Turn X.prog X.w X.K tg J [s.heap.objs.size] s.heap.objs.size tn) (st : tn 0 (s.heap.push o)) (q : R J H) : PIE X pins σ tg R (.ref s.heap.objs.size) { s with heap := s.heap.push o, toks := tk } := by
  refine ⟨s.heap.objs.size, [s.heap.objs.size], tn, J, H, rfl, I.kept fun b ob e => Heap.get?_push_of_some _ e, T, st, fun b hb => ?_, q⟩
  have e : b = s.heap.objs.size := by simpa using hb
  subst e
  exact I.fpOk (Nat.le_refl _) (I.hok.fresh (Nat.le_refl _))
end



def Itc (lo c : Int) (n : Nat) : It := ⟨fun i _ => i < n, fun i H x H' => H' = H ∧ x = .int (lo + (i : Nat) * c), fun i _ => n ≤ i⟩
theorem turn_rangeC {P : Program} {w : World} {K : PySem.W.Frag} {tg : Expr} (it : Addr) (lo c : Int) (n : Nat) : Turn P w K tg (Itc lo c n) [it] it (fun i h => IsRangeIter h it (lo + (i : Nat) * c) ((n : Int) - (i : Nat)) c) where
  mem := by simp
  obj := fun i h st b hb => by
    have e : b = it := by simpa using hb
    subst e
    exact ⟨_, st, fun v z => nomatch z⟩
  keep := fun i h h' st k => k it (by simp) _ st
  item := by
    intro X hP hw hK hc i pins s σ H E I hf st hg
    subst hP hw hK
    obtain ⟨f0, f1, f2, f3, f4, f5⟩ := hf it (by simp)
    have W := Walks.range (prog := X.prog) (w := X.w) (I.ok.hd hc) it lo c n
    refine W.item i s _ _ hg st fun v h' tk hv st' kk => ?_
    obtain ⟨t, rfl⟩ := hv
    have I1 : Inv X pins σ H { s with heap := h', toks := tk } := I.turned (fun b o hb e => kk b o (by simpa using hb) e) f0 f1 f3 f4 f5
    exact ⟨_, rfl, go_of (s := { s with heap := h', toks := tk }) (n := "range_iterator") st' rfl rfl (by decide) ⟨.int (lo + (i : Nat) * c), H, I1, ⟨t, rfl⟩, ⟨rfl, rfl⟩, st', fun b hb => (hf b hb).1⟩⟩
  done := by
    intro X hP hw hK hc i pins s σ H E I hf st hg
    subst hP hw hK
    obtain ⟨f0, f1, f2, f3, f4, f5⟩ := hf it (by simp)
    exact wpAny_pyNext_range_end (I.ok.hd hc) st (by have : n ≤ i := hg; omega) fun h' eb => ⟨rfl, I.turned (t' := s.toks) (fun b o hb e => eb b o hb e) f0 f1 f3 f4 f5⟩
  self := fun A i s Q E st h => wpAny_pyIter_rangeiter st h

def RgC (i j c : Int) (n : Nat) : Prop := c ≠ 0 ∧ c.natAbs < 1073741824 ∧ Builtin.Range.small i j c = true ∧ Builtin.Range.rangeSize i j c = n
theorem RgC.neg {i j : Int} (ha : -(2 ^ 62) ≤ i) (ha' : i < 2 ^ 62) (hb : -(2 ^ 62) ≤ j) (hb' : j < 2 ^ 62) : RgC i j (-1) (i - j).toNat :=
  ⟨by decide, by decide, PySem.W.small_down ha ha' hb hb', PySem.W.rangeSize_downNat i j⟩
def iRng3 (ta : TA) : TI := fun σ H R => ta σ H fun vs H1 => ∃ (i j c : Int) (n : Nat), vs = [.int i, .int j, .int c] ∧ RgC i j c n ∧ R (Itc i c n) H1
section
variable {X : Cx} {tg : Expr}
theorem pi_range3 {a b c : Expr} {ta : TA} {p pos : Pos} (hg : Gl X "range") (hm : X.mg "range" = none) (ha : PA X [a, b, c] ta)
    (hs : starEach [a, b, c] X.env = (false, eval a X.env) :: starEach [b, c] X.env := by rfl) (hpl : (backTo pos (starEach [b, c] X.env)).any (·.1) = false := by rfl) :
    PI X tg (.Call (.Name "range" p) [a, b, c] [] pos) (iRng3 ta) := by
  intro pins s σ H R I h
  refine Call_ (ld_blt I hg hm boot_range (PyProof.Rows.callWith_type1 (thn (ha pos pins s σ H _ I h) fun us s1 ⟨vs, H1, I1, r1, q1⟩ => ?_) hs hpl))
  obtain ⟨i, j, k, n, e, ⟨c0, c1, c2, c3⟩, q⟩ := q1
  subst e
  cases r1 with
  | cons r rr =>
    cases rr with
    | cons r' rr =>
      cases rr with
      | cons r'' rr =>
        cases rr
        obtain ⟨t, rfl⟩ := r
        obtain ⟨t', rfl⟩ := r'
        obtain ⟨t'', rfl⟩ := r''
        refine call_range_3 c0 ?_ (.inl (PyProof.noPylong_small c1))
        refine wpAny_pyIter_range (IsRange.new ..) c2 ?_
        have I2 : Inv X pins σ H1 { s1 with heap := s1.heap.push { cls := .type "range", data := .fields #[.int i t, .int j t', .int k t''] } } := I1.kept (t' := s1.toks) fun b o e => Heap.get?_push_of_some _ e
        refine pi_one (tk := s1.toks) I2 _ (turn_rangeC _ i k n) ?_ q
        have e1 : i + ((0 : Nat) : Int) * k = i := by simp
        have e2 : (n : Int) - ((0 : Nat) : Int) = Builtin.Range.rangeSize i j k := by rw [c3]; simp
        show IsRangeIter _ _ (i + ((0 : Nat) : Int) * k) ((n : Int) - ((0 : Nat) : Int)) k
        rw [e1, e2]
        exact Heap.get?_push_size _ rfl
end

section
variable {X : Cx} {tg : Expr}
end


section
variable {prog : Program} {w : World} {A : Around} {E : Value → Shared → Prop} {s : Shared}
end


section
variable {X : Cx} {pins : List (Addr × Obj)} {σ : St} {H : Hp} {s : Shared} {d : Addr} {o : Obj}
end


section
variable {P : Program} {w : World} {K : PySem.W.Frag} {tg : Expr} {d : Addr} {o : Obj} {es : Array DictEntry} {ep : Nat}
end



section
variable {X : Cx} {tg e : Expr} {td : TE} {apos cpos : Pos}
end



def Ite (K : PySem.W.Frag) (a : Addr) : It :=
  ⟨fun i H => ∃ (xs : List V) (x : V), SqL K H a xs ∧ xs[i]? = some x, fun i H v H' => ∃ T x, v = .ref T ∧ H T = none ∧ H' = upd H T (.tup [.int (i : Nat), x]) ∧ ∀ xs, SqL K H a xs → xs[i]? = some x, fun i H => ∃ xs : List V, SqL K H a xs ∧ xs.length ≤ i⟩
theorem turn_enum {P : Program} {w : World} {K : PySem.W.Frag} {elts : List Expr} {kk : Nat} {tpos : Pos} (a e it : Addr) :
    Turn P w K (.Tuple elts kk tpos) (Ite K a) [e, it] e (fun i h => (∃ old, IsEnum h e it ((i : Nat) : Int) old) ∧ h.IsListIter it a i ∧ e ≠ it) where
  mem := by simp
  obj := fun i h st b hb => by
    obtain ⟨⟨old, he⟩, ⟨o, ho, hc, hd⟩, _⟩ := st
    have e' : b = e ∨ b = it := by simpa using hb
    rcases e' with z | z
    · rw [z]; exact ⟨_, he, fun v q => nomatch q⟩
    · rw [z]; exact ⟨o, ho, fun v q => by rw [hd] at q; cases q⟩
  keep := fun i h h' st k => let ⟨⟨old, he⟩, hi, hne⟩ := st; ⟨⟨old, k e (by simp) _ he⟩, hi.at fun o q => k it (by simp) o q, hne⟩
  item := by
    intro X hP hw hK hc i pins s σ H E I hf st hg
    subst hP hw hK
    obtain ⟨⟨old, he⟩, hit, hne⟩ := st
    obtain ⟨xs, x, hq, hx⟩ := hg
    obtain ⟨its, rv, p, hz⟩ := I.list hq
    obtain ⟨u, hu, ru⟩ := rv.get hx
    have hel : e < s.heap.objs.size := Heap.lt_size he
    have hil : it < s.heap.objs.size := by obtain ⟨_, q, _⟩ := hit; exact Heap.lt_size q
    refine wpAny_pyNext_enum_item he hit p.isList (x := u) (by simpa using hu) hne fun h' ho hit' hT hsz hk => ?_
    refine ⟨_, rfl, wpAny_letOwnedTupleGo_enum (s := { s with heap := h', toks := s.toks + 1 }) ho fun h'' he' sb => ?_⟩
    have hT2 : h''.get? s.heap.objs.size = some { cls := .type "tuple", data := .seq #[.int i s.toks, u] } := (sb.2 _ (Nat.ne_of_gt hel)).trans hT
    have new : ObjOk X.prog X.w (upd H s.heap.objs.size (.tup [.int (i : Nat), x])) h'' s.heap.objs.size (.tup [.int (i : Nat), x]) :=
      ⟨by show 2 ≤ sizeLine; decide, [.int i s.toks, u], .cons ⟨_, rfl⟩ (.cons ru .nil), ⟨_, hT2, rfl, _, rfl⟩⟩
    have I1 : Inv X pins σ (upd H s.heap.objs.size (.tup [.int (i : Nat), x])) { s with heap := h'', toks := s.toks + 1 } :=
      I.turnedNew (ch := [e, it]) (fun b ob hb q => (sb.2 b (fun z => hb (by simp [z]))).trans (hk b ob (fun z => hb (by simp [z])) (fun z => hb (by simp [z])) q)) hf (Nat.le_refl _) new
    refine ⟨.ref s.heap.objs.size, _, I1, rfl, ⟨_, x, rfl, I.hok.fresh (Nat.le_refl _), rfl, fun ys hy => by rw [I.list_inj hy hq]; exact hx⟩, ⟨⟨u, ?_⟩, hit'.at fun o q => (sb.2 it (Ne.symm hne)).trans q, hne⟩, fun b hb => ?_⟩
    · have e1 : ((i + 1 : Nat) : Int) = (i : Int) + 1 := by omega
      rw [e1]; exact he'
    · have hb' : b < s.heap.objs.size := by
        have e' : b = e ∨ b = it := by simpa using hb
        rcases e' with z | z
        · rw [z]; exact hel
        · rw [z]; exact hil
      rw [upd_ne (Nat.ne_of_lt hb')]
      exact (hf b hb).1
  done := by
    intro X hP hw hK hc i pins s σ H E I hf st hg
    subst hP hw hK
    obtain ⟨⟨old, he⟩, hit, hne⟩ := st
    obtain ⟨xs, hq, hx⟩ := hg
    obtain ⟨its, rv, p, hz⟩ := I.list hq
    obtain ⟨f0, f1, f2, f3, f4, f5⟩ := hf it (by simp)
    have hl := rv.length
    exact wpAny_pyNext_enum_end (I.ok.hd hc) he hit p.isList (by simp; omega) fun h' eb => ⟨rfl, I.turned (t' := s.toks) (fun b o hb q => eb b o hb q) f0 f1 f3 f4 f5⟩
  self := fun A i s Q E st h => let ⟨⟨_, he⟩, _⟩ := st; wpAny_pyIter_enum he h
end L2

section 
namespace Bits
open PySem PyProof.Rows

end Bits
end 

section 
namespace TL
open PySem PySem.Builtin PySem.Builtin.Str PySem.StrLaws

abbrev tl (x : Str) : List Nat := x.cps.toList
def pre (S l : List Nat) : Bool := l.take S.length == S

end TL
end 

namespace L2
open PySem PySem.Spec PyProof.Rows

theorem strs_of_vals : ∀ {ys : List Str} {us : List Value}, Vals (ys.map V.str) us → StrsAre us ys
  | [], _, .nil => .nil
  | y :: ys, _, .cons r t => by
    obtain ⟨k, rfl⟩ := r
    exact .cons y k (strs_of_vals t)


section
variable {X : Cx} {pins : List (Addr × Obj)} {σ : St} {H : Hp} {s : Shared} {Q : VK}
end

section
variable {X : Cx}


theorem mt_join : MtR X "str.join" (fun x xs H Q => ∃ a p, ∃ ys : List Str, x = .str a ∧ xs = [.ref p] ∧ (SqL X.K H p (ys.map V.str) ∨ SqT X.K H p (ys.map V.str)) ∧
    (ys.map (·.length)).sum + ys.length * a.length ≤ 16777216 ∧ Q (.str (Txt.join a ys)) H) := by
  intro pins s σ H x xs v us Q I rx rs h
  obtain ⟨a, p, ys, rfl, rfl, hp, hz, h⟩ := h
  obtain ⟨t, rfl⟩ := rx
  cases rs with
  | cons r1 rs =>
    cases rs
    cases r1
    rcases hp with hp | hp
    · obtain ⟨its, r, ⟨o, n, ho, hc, _, hd⟩, _⟩ := I.list hp
      exact PyProof.Rows.join_list (items := its.toArray) ⟨o, ho, hc, n, hd⟩ (by rw [List.toList_toArray]; exact strs_of_vals r) hz fun t' k => ⟨.str _, H, I.tok k, ⟨t', rfl⟩, h⟩
    · obtain ⟨its, r, ht, _⟩ := I.tuple hp
      exact PyProof.Rows.join_tuple (items := its.toArray) ht (by rw [List.toList_toArray]; exact strs_of_vals r) hz fun t' k => ⟨.str _, H, I.tok k, ⟨t', rfl⟩, h⟩


end

section
variable {X : Cx} {o e : Expr} {to te : TE}
end
end L2

namespace L2
open PySem PySem.Spec PyProof.Rows

section
variable {X : Cx}
theorem op_le_str : OpR X (compareOp .LtE) (fun x y H Q => ∃ i j, x = .str i ∧ y = .str j ∧ Q (.bl (!decide (j.cps.toList < i.cps.toList))) H) := by
  intro pins s σ H x y v u Q I rx ry h
  obtain ⟨i, j, rfl, rfl, q⟩ := h
  obtain ⟨t, rfl⟩ := rx
  obtain ⟨t', rfl⟩ := ry
  exact PySem.P.le_str (fin_bl I q rfl)
theorem op_gt_str : OpR X (compareOp .Gt) (fun x y H Q => ∃ i j, x = .str i ∧ y = .str j ∧ Q (.bl (decide (j.cps.toList < i.cps.toList))) H) := by
  intro pins s σ H x y v u Q I rx ry h
  obtain ⟨i, j, rfl, rfl, q⟩ := h
  obtain ⟨t, rfl⟩ := rx
  obtain ⟨t', rfl⟩ := ry
  exact PySem.P.gt_str (fin_bl I q rfl)
theorem op_ge_str : OpR X (compareOp .GtE) (fun x y H Q => ∃ i j, x = .str i ∧ y = .str j ∧ Q (.bl (!decide (i.cps.toList < j.cps.toList))) H) := by
  intro pins s σ H x y v u Q I rx ry h
  obtain ⟨i, j, rfl, rfl, q⟩ := h
  obtain ⟨t, rfl⟩ := rx
  obtain ⟨t', rfl⟩ := ry
  exact PySem.P.ge_str (fin_bl I q rfl)

end


theorem IsPart.raw {v : Value} {o : Option Int} (p : IsPart v o) : ∃ l : Option (Int × Tok), v = partValue l ∧ l.map (·.1) = o := by
  cases p with
  | none => exact ⟨none, rfl, rfl⟩
  | int i t => exact ⟨some (i, t), rfl, rfl⟩


def clipS (n d : Nat) : Option Int → Int
  | none => (d : Int)
  | some i => max 0 (min (if i < 0 then i + (n : Int) else i) (n : Int))
theorem clipS_eq (n d : Nat) (o : Option Int) : clipS n d o = ((HT.sIx n d o : Nat) : Int) := by
  cases o with
  | none => rfl
  | some v =>
    show max (0 : Int) (min (if v < 0 then v + (n : Int) else v) (n : Int)) = (((if v < 0 then (v + (n : Int)).toNat else min v.toNat n) : Nat) : Int)
    by_cases hv : v < 0
    · simp only [if_pos hv]
      omega
    · simp only [if_neg hv]
      omega
theorem sidx_clip (a b : Option Int) (n : Nat) : Builtin.Str.strSliceIndices a b 1 n = sliceRange (clipS n 0 a) (clipS n n b) 1 := by
  have h1 : ((1 : Int) > 0) = True := by simp
  cases a <;> cases b <;> first
    | rfl
    | (simp only [Builtin.Str.strSliceIndices, clipS, h1, if_true]; rfl)
    | simp [Builtin.Str.strSliceIndices, clipS]
theorem sidx (a b : Option Int) (n : Nat) : Builtin.Str.strSliceIndices a b 1 n = (List.range (HT.sIx n n b - HT.sIx n 0 a)).map (fun k => HT.sIx n 0 a + k) := by
  rw [sidx_clip, clipS_eq, clipS_eq]
  generalize HT.sIx n 0 a = p
  generalize HT.sIx n n b = q
  simp only [sliceRange, show ((1 : Int) > 0) = True from by simp, if_true]
  by_cases hlt : (p : Int) < q
  · have e3 : (((q : Int) - p + 1 - 1) / 1).toNat = q - p := by first | omega | (simp; done) | (simp; omega)
    simp only [hlt, if_true, e3]
    refine List.map_congr_left fun k _ => ?_
    omega
  · have : q - p = 0 := by omega
    simp [hlt, this]


def cutS (z : Str) (lo hi : Option Int) : Str :=
  ⟨((z.cps.toList.drop (HT.sIx z.length 0 lo)).take (HT.sIx z.length z.length hi - HT.sIx z.length 0 lo)).toArray⟩
theorem sliceText_cut (z : Str) (lo hi : Option Int) : PySem.StrLaws.sliceText z lo hi = cutS z lo hi := by
  have h1 : HT.sIx z.length 0 lo ≤ z.length := HT.sIx_le _ _ (Nat.zero_le _) _
  have h2 : HT.sIx z.length z.length hi ≤ z.length := HT.sIx_le _ _ (Nat.le_refl _) _
  have hp : HT.sIx z.length 0 lo ≤ max (HT.sIx z.length 0 lo) (HT.sIx z.length z.length hi) := Nat.le_max_left _ _
  have hq : max (HT.sIx z.length 0 lo) (HT.sIx z.length z.length hi) ≤ z.length := Nat.max_le.mpr ⟨h1, h2⟩
  have hd : max (HT.sIx z.length 0 lo) (HT.sIx z.length z.length hi) - HT.sIx z.length 0 lo = HT.sIx z.length z.length hi - HT.sIx z.length 0 lo := by omega
  have e : Builtin.Str.strSliceIndices lo hi 1 z.length =
      Builtin.Str.strSliceIndices (some ((HT.sIx z.length 0 lo : Nat) : Int)) (some ((max (HT.sIx z.length 0 lo) (HT.sIx z.length z.length hi) : Nat) : Int)) 1 z.length := by
    rw [PySem.StrLaws.strSliceIndices_plain hp hq, hd, sidx]
  have e2 : PySem.StrLaws.sliceText z lo hi =
      PySem.StrLaws.sliceText z (some ((HT.sIx z.length 0 lo : Nat) : Int)) (some ((max (HT.sIx z.length 0 lo) (HT.sIx z.length z.length hi) : Nat) : Int)) := by
    unfold PySem.StrLaws.sliceText
    rw [e]
  rw [e2, PySem.StrLaws.sliceText_nat z hp hq, hd]
  rfl
theorem cutS_length (z : Str) (lo hi : Option Int) : (cutS z lo hi).length ≤ z.length := by
  show (((z.cps.toList.drop (HT.sIx z.length 0 lo)).take (HT.sIx z.length z.length hi - HT.sIx z.length 0 lo)).toArray).size ≤ z.cps.size
  rw [List.size_toArray, List.length_take, List.length_drop, Array.length_toList]
  omega
def rSlS : V → Option Int → Option Int → Hp → VK → Prop := fun x lo hi H Q => ∃ z, x = .str z ∧ z.length ≤ sizeLine ∧ Q (.str (cutS z lo hi)) H
theorem sl_str {X : Cx} : SlR X rSlS := by
  intro pins s σ H x v vl vu lo hi sl Q I rx hs pl pu h
  obtain ⟨z, rfl, hz, q⟩ := h
  obtain ⟨t, rfl⟩ := rx
  obtain ⟨os, hos, hcs, hds⟩ := hs
  obtain ⟨l, rfl, rfl⟩ := IsPart.raw pl
  obtain ⟨u, rfl, rfl⟩ := IsPart.raw pu
  refine ⟨"str", _, F.slot_str_getitem.lookup, typeIs_str _ _ _, ?_⟩
  refine wpAny_getItem_str_slice (l := l) (u := u) (st := none) ⟨os, hos, hcs, hds⟩ rfl ?_
  have hl : (PySem.StrLaws.sliceText z (l.map (·.1)) (u.map (·.1))).length ≤ sizeLine := by
    rw [sliceText_cut]
    exact Nat.le_trans (cutS_length z _ _) hz
  rw [← sliceText_cut] at q
  unfold PySem.StrLaws.sliceText at q hl
  show Made.post (if ((1 : Int) == 1 && (Builtin.Str.strSliceIndices (l.map (·.1)) (u.map (·.1)) 1 z.length).length == z.length) = true then Made.val (.str z t)
    else Made.str ⟨((Builtin.Str.strSliceIndices (l.map (·.1)) (u.map (·.1)) 1 z.length).filterMap (z.cps[·]?)).toArray⟩) (EP X pins σ Q) s
  by_cases c : ((1 : Int) == 1 && (Builtin.Str.strSliceIndices (l.map (·.1)) (u.map (·.1)) 1 z.length).length == z.length) = true
  · rw [if_pos c] at q ⊢
    exact ⟨.str z, H, I, ⟨t, rfl⟩, q⟩
  · rw [if_neg c] at q hl ⊢
    exact ⟨hl, .str _, H, I.tok _, ⟨_, rfl⟩, q⟩
end L2

namespace Att
open PySem PySem.W PySem.Calls PyProof.Rows


theorem ints_of_wellAll {P : Params} {h : Heap} : ∀ (ns : List Int) (vs : List Value), WellAll P h vs (ns.map WData.int) → IntsAre vs ns := by
  intro ns
  induction ns with
  | nil =>
    intro vs w
    rw [List.map_nil] at w
    cases w
    exact .nil
  | cons n ns ih =>
    intro vs w
    rw [List.map_cons] at w
    cases w with
    | cons a b =>
      cases a
      exact .cons _ _ (ih _ b)

theorem script_of {l : OpenLaw} {n : Nat} (hn : l.most = some n) {P : Params} {h : Heap} {args : List WData} {vals : List Value}
    (hpre : l.row.toRowW.claim.pre args = true) (hwl : WellAll P h vals args) :
    ∃ a vs ns, vals = [Value.ref a] ∧ args = [WData.list (ns.map WData.int)] ∧ h.get? a = some { cls := .type "list", data := .seq vs.toArray } ∧ IntsAre vs ns ∧ ns.length ≤ n := by
  have hsh : WShape.hasAll [] args [.list .int] = true := (pre_splitW hpre).1
  have hc : l.pre.holds [] { args := args } = true := (pre_splitW hpre).2
  obtain ⟨d, r, rfl, h1, h2⟩ := hasAllW_cons hsh
  obtain rfl := hasAllW_nil h2
  obtain ⟨xs, rfl, h3⟩ := hasW_list h1
  obtain ⟨ns, rfl⟩ := items_int h3
  have hlen : ns.length ≤ n := by
    unfold OpenLaw.pre at hc
    have h4 : (WTm.not (.lt (.lit (.int (n : Int))) (.len (.arg 0)))).holds [] { args := [.list (ns.map .int)] } = true := by
      have h4 := (holds_andW hc).1
      rw [hn] at h4
      exact h4
    have h5 := condW_of h4 (w_not (w_lt w_lit (w_len_list (w_arg rfl))))
    rw [List.length_map] at h5
    refine Nat.le_of_not_lt fun q => ?_
    have q' : (n : Int) < ((ns.length : Nat) : Int) := by omega
    first
      | (rw [decide_eq_true q'] at h5; exact absurd h5 (by decide))
      | (simp at h5; omega)
  cases hwl with
  | cons w1 w2 =>
    cases w2
    cases w1 with
    | list ho hall => exact ⟨_, _, ns, rfl, rfl, ho, ints_of_wellAll ns _ hall, hlen⟩

theorem post_true (l : OpenLaw) (args : List WData) : l.row.toRowW.claim.post args (.bool true) args = true :=
  postW_of (r := l.row.toRowW) (X := (true == true))
    (show WShape.has [] (.bool true) .bool = true by first | rfl | decide | simp [WShape.has, WShape.arms, WShape.armsAll])
    (show (WTm.eq .res (.lit (.bool true))).value [] { args := args, res := some (.bool true), after := args } = some (.bool (true == true)) from w_eq_bool (w_res rfl) w_lit) rfl


theorem attach_call {l : OpenLaw} {n : Nat} {q : Program} {loose : List Str} {XP : (Str → Option Value) → Heap → Prop} {YP : World → Heap → Prop} {d : DefRec}
    (hn : l.most = some n) (hdf : d.params.defaults = [])
    (call : ∀ (w : World) (s₀ s₁ : Shared) (mg mb : Str → Option Value) (fa : Addr) (o : Obj) (pm cd doc : Value) (a : Addr) (vs : List Value) (ns : List Int),
      Ground q loose [] XP w s₀ mg mb s₁.heap → YP w s₁.heap →
      s₁.heap.get? fa = some o → o.data = .func (docDef d.name d.params d.body d.scope pm cd doc) → s₁.heap.CodeRec cd d.name → mg d.name = some (.ref fa) →
      s₁.heap.get? a = some { cls := .type "list", data := .seq vs.toArray } → IntsAre vs ns → ns.length ≤ n → s₁.gens = #[] →
      codeAny (model l.prog w) callerA (.call (.ref fa) ⟨[.ref a], []⟩) (fun r s' => r = .ok (.ret (.bool true)) ∧ OldK s₁.heap s'.heap ∧ s'.os = s₁.os ∧ AllBare s'.gens) s₁) :
    WalkO q loose XP YP l.row.toRowW d [] (fun f vs => PySem.call f vs) := by
  intro w s₀ s₁ mg mb G Y fa o pm cd doc dV kV ho hd hcd hD hmg hg args vals as hpre hlay hrd hwl hlo
  obtain rfl : dV = .none := Dflts.none hD hdf
  obtain rfl : kV = .none := Dflts.noKw hD
  obtain ⟨a, vs, ns, rfl, rfl, hobj, hints, hlen⟩ := script_of hn hpre hwl
  refine enter_call (codeAny_mono (call w s₀ s₁ mg mb fa o pm cd doc a vs ns G Y ho (fd_plain hd) hcd hmg hobj hints hlen hg) fun r s' hq => ?_)
  obtain ⟨rfl, h2, h3, h4⟩ := hq
  exact ⟨.inl ⟨.bool true, .bool true, [], rfl, fun _ => rfl, .bool true, post_true l _, fun _ => ⟨List.Pairwise.nil, fun _ hm => (nomatch hm)⟩⟩, h2, h3, h4⟩


section
variable {prog : Program} {w : World} {A : Around} {E : Value → Shared → Prop} {s : Shared} {K : Frag}


end
end Att

namespace L2
open PySem PySem.Spec PyProof.Rows

theorem vals_ints : ∀ {vs : List Value} {ns : List Int}, IntsAre vs ns → Vals (ns.map V.int) vs
  | _, _, .nil => .nil
  | _, _, .cons n t h => .cons ⟨t, rfl⟩ (vals_ints h)


def Only (H : Hp) : Prop := ∀ b, H b = none ∨ (∃ o xs, H b = some (.frz o (.lst xs))) ∨ H b = some (.tbl #[])

open Classical in
theorem law_call {P : Program} {w : World} {K : PySem.W.Frag} {mg mb : Str → Option Value} {CX : CXT} {k : Nat} {fa a : Addr} {fd : FuncData} {x : Str} {sp : Sp} {s₁ : Shared} {vs : List Value} {ns : List Int}
    (KX : K.In s₁.heap) (hns : s₁.heap.Ns mainGlobals mg) (hb : s₁.heap.Ns builtinsNs mb) (hbb : ∀ x : Str, x ≠ "__name__" → mb x = bootBuiltins x) (hlim : s₁.heap.NoLimit) (hg : s₁.gens = #[])
    (hbm : ∃ bm ob, mg "__builtins__" = some (.ref bm) ∧ bm ≠ builtinsNs ∧ s₁.heap.get? bm = some ob ∧ ob.cls = .type "module" ∧ ob.dict = some builtinsNs ∧ ob.data = .plain)
    (htb : ∀ b, Tb K mg b → (∃ c, s₁.heap.TableAt c b #[]) ∧ K.lookup b = none)
    (ha : s₁.heap.get? a = some { cls := .type "list", data := .seq vs.toArray }) (hi : IntsAre vs ns) (hl : ns.length ≤ sizeLine) (hr : Room k callerA)
    (F : ∀ base : Heap, K.In base → base.Ns mainGlobals mg → FnOk P w K mg base CX k fa fd [x] sp) (hbind : ∀ (s : Shared) (u : Value), BindsTo s fd ⟨[u], []⟩ [(x, u)])
    (hsp : ∀ H : Hp, Only H → SqL K H a (ns.map V.int) → sp [.ref a] H (fun v _ => v = .bl true) fun _ _ _ => False)
    (hCX : ∀ H e s', CX [] H s₁ (fun _ _ _ => False) e s' → False) :
    codeAny (model P w) callerA (.call (.ref fa) ⟨[.ref a], []⟩) (fun r s' => r = .ok (.ret (.bool true)) ∧ OldK s₁.heap s'.heap ∧ s'.os = s₁.os ∧ AllBare s'.gens) s₁ := by
  have rv := vals_ints hi
  have lenV := hi.length
  have core : ∀ H : Hp, Only H → SqL K H a (ns.map V.int) → HOk P w H s₁.heap → (∀ b, H b ≠ none → (b = a ∨ Tb K mg b) ∧ K.lookup b = none) → (∀ b, Tb K mg b → H b = some (.tbl #[])) →
      codeAny (model P w) callerA (.call (.ref fa) ⟨[.ref a], []⟩) (fun r s' => r = .ok (.ret (.bool true)) ∧ OldK s₁.heap s'.heap ∧ s'.os = s₁.os ∧ AllBare s'.gens) s₁ := by
    intro H hO hS hok hA hT
    have base_of : ∀ {b : Addr} {o : Obj}, s₁.heap.get? b = some o → H b = none → (hidT s₁.heap H).get? b = some o := fun e n => hidT_get e n
    have objs : ∀ {b : Addr} {o : Obj}, s₁.heap.get? b = some o → H b ≠ none → o = { cls := .type "list", data := .seq vs.toArray } ∨ o = { cls := .none, data := .fields #[] } := fun {b o} e n => by
      rcases (hA b n).1 with rfl | z
      · rw [ha] at e; cases e; exact .inl rfl
      · obtain ⟨⟨c, z⟩, _⟩ := htb b z
        rw [z.2] at e; cases e; exact .inr rfl
    have noA : ∀ {b : Addr} {o : Obj} {es : Array DictEntry} {ep : Nat}, s₁.heap.get? b = some o → o.data = .dict es ep → H b = none := fun {b o es ep} e d => by
      cases q : H b with
      | none => rfl
      | some u =>
        rcases objs e (by rw [q]; exact fun z => nomatch z) with rfl | rfl <;> cases d
    have nsK : ∀ {b : Addr} {m : Str → Option Value}, s₁.heap.Ns b m → (hidT s₁.heap H).Ns b m := fun {b m} ⟨o, es, ep, e, d, r⟩ => ⟨o, es, ep, base_of e (noA e d), d, r⟩
    have hKb : K.In (hidT s₁.heap H) := fun b o e => base_of (KX b o e) (by
      cases q : H b with
      | none => rfl
      | some u =>
        rw [(hA b (by rw [q]; exact fun z => nomatch z)).2] at e; cases e)
    have hM : Mod K mg (hidT s₁.heap H) := ⟨hKb, nsK hns, ⟨mb, nsK hb, hbb⟩, let ⟨mc, h1, h2⟩ := hlim; ⟨mc, nsK h1, h2⟩, by
      obtain ⟨bm, ob, h1, h2, h3, h4, h5, h6⟩ := hbm
      refine ⟨bm, ob, h1, h2, base_of h3 ?_, h4, h5, h6⟩
      cases q : H bm with
      | none => rfl
      | some u =>
        rcases objs h3 (by rw [q]; exact fun z => nomatch z) with rfl | rfl <;> exact absurd h4 (by simp)⟩
    have e0 : Env0 P w K mg (hidT s₁.heap H) callerA [] s₁ H := ⟨rfl, hM, fun b o e => of_hidT e, Nat.le_of_eq (hidT_size _ _), trivial, fun b hb => absurd (show b ∈ ([] : List Addr) from hb) (by simp), hok, .of_eq hg, fun b z => ⟨_, hT b z⟩⟩
    refine codeAny_mono ((F _ hKb (nsK hns)).run callerA [] s₁ H ⟨[.ref a], []⟩ [.ref a] [.ref a] _ _ hr e0 (hbind s₁ (.ref a)) (.cons rfl .nil) (hsp H hO hS)) fun r s' h => ?_
    cases r with
    | error e => exact (hCX H e s' h).elim
    | ok fl =>
      cases fl with
      | next => exact False.elim h
      | brk => exact False.elim h
      | cont => exact False.elim h
      | ret u =>
        obtain ⟨v, H', os, bare, un, hok', r', q⟩ := h
        have q' : v = .bl true := q
        subst q'
        obtain rfl : u = Value.bool true := r'
        refine ⟨rfl, ⟨fun b o e => ?_, fun b o e => un.there b o e (by simp)⟩, os, bare.1⟩
        cases q : H b with
        | none => exact .inl (un.keep b o e q (by intro z; exact absurd (show b ∈ ([] : List Addr) from z) (by simp)) (by simp))
        | some u =>
          rcases hO b with z | ⟨ob, xs, z⟩ | z
          · rw [q] at z; cases z
          · have z2 := un.frzs b ob _ z
            obtain ⟨e1, _⟩ := hok b _ z
            obtain ⟨e2, _⟩ := hok' b _ z2
            rw [e] at e1; cases e1
            exact .inl e2
          · obtain ⟨m, z2⟩ := un.tbls b _ z
            obtain ⟨qs, e2, _⟩ := hok' b _ z2
            have nb : H b ≠ none := by rw [q]; exact fun y => nomatch y
            rcases (hA b nb).1 with rfl | y
            · obtain ⟨_, e1, _⟩ := hok b _ z
              rw [ha] at e1; cases e1
            · obtain ⟨⟨c, y⟩, _⟩ := htb b y
              have y2 := y.2
              rw [e] at y2
              cases y2
              exact .inr (.inl ⟨y.isCodeTable, rfl, #[], qs, rfl, by rw [e2]; simp⟩)
  have tbOk : ∀ b, Tb K mg b → s₁.heap.get? b = some { cls := .none, data := .fields #[] } := fun b z => by
    obtain ⟨⟨c, z⟩, _⟩ := htb b z
    exact z.2
  have nta : ∀ b, Tb K mg b → b ≠ a := fun b z y => by
    have := tbOk b z
    rw [y, ha] at this; cases this
  cases hk : K.lookup a with
  | some o =>

    have e := KX a o hk
    rw [ha] at e
    cases e
    refine core (fun b => if Tb K mg b then some (.tbl #[]) else none) (fun b => ?_) (.inr ⟨_, vs.toArray, _, hk, rfl, rfl, rfl, by rw [List.size_toArray, lenV]; exact hl, by simpa using rv⟩) (fun b u z => ?_) (fun b z => ?_) fun b z => if_pos z
    · by_cases hb : Tb K mg b
      · exact .inr (.inr (if_pos hb))
      · exact .inl (if_neg hb)
    · by_cases hb : Tb K mg b
      · have z' := (if_pos hb).symm.trans z
        cases z'
        exact ⟨#[], tbOk b hb, trivial⟩
      · have z' := (if_neg hb).symm.trans z
        cases z'
    · by_cases hb : Tb K mg b
      · exact ⟨.inr hb, (htb b hb).2⟩
      · exact absurd (if_neg hb) z
  | none =>
    refine core (fun b => if b = a then some (.frz { cls := .type "list", data := .seq vs.toArray } (.lst (ns.map V.int))) else if Tb K mg b then some (.tbl #[]) else none) (fun b => ?_) (.inl (.inr ⟨{ cls := .type "list", data := .seq vs.toArray }, if_pos rfl⟩)) (fun b u z => ?_) (fun b z => ?_) fun b z => (if_neg (nta b z)).trans (if_pos z)
    · by_cases hb : b = a
      · exact .inr (.inl ⟨_, _, if_pos hb⟩)
      · by_cases ht : Tb K mg b
        · exact .inr (.inr ((if_neg hb).trans (if_pos ht)))
        · exact .inl ((if_neg hb).trans (if_neg ht))
    · by_cases hb : b = a
      · have z' := (if_pos hb).symm.trans z
        cases z'
        subst hb
        exact ⟨ha, by rw [List.length_map]; exact hl, vs, _, rv, ha⟩
      · by_cases ht : Tb K mg b
        · have z' := ((if_neg hb).trans (if_pos ht)).symm.trans z
          cases z'
          exact ⟨#[], tbOk b ht, trivial⟩
        · have z' := ((if_neg hb).trans (if_neg ht)).symm.trans z
          cases z'
    · by_cases hb : b = a
      · exact ⟨.inl hb, by rw [hb]; exact hk⟩
      · by_cases ht : Tb K mg b
        · exact ⟨.inr ht, (htb b ht).2⟩
        · exact absurd ((if_neg hb).trans (if_neg ht)) z
end L2

namespace L2
open PySem PySem.Spec PyProof.Rows

theorem walk_of {l : PySem.W.OpenLaw} {n k : Nat} {q : Program} {loose : List Str} {XP : (Str → Option Value) → Heap → Prop} {YP : World → Heap → Prop} {d : DefRec} {K : Params → PySem.W.Frag} {CX : World → CXT} {sp : World → Sp} {x : Str}
    (hn : l.most = some n) (hn2 : n ≤ sizeLine) (hdf : d.params.defaults = []) (hr : Room k callerA)
    (hY : ∀ (w : World) (h : Heap), YP w h → (K w.params).In h)
    (hR : ∀ (w : World) (mg : Str → Option Value) (h : Heap), (K w.params).In h → h.Ns mainGlobals mg → ∀ nm ∈ genNames, (∃ r ∈ recsOf q, r.name = nm) ∨ ∀ f : Addr, mg nm ≠ some (.ref f))
    (hT : ∀ (w : World) (mg : Str → Option Value) (h : Heap), (K w.params).In h → h.Ns mainGlobals mg → ∀ b, Tb (K w.params) mg b → (K w.params).lookup b = none)
    (F : ∀ (w : World) (mg : Str → Option Value) (fa : Addr) (h : Heap), (K w.params).In h → h.Ns mainGlobals mg → mg d.name = some (.ref fa) →
      ∃ fd : FuncData, (∀ (s : Shared) (u : Value), BindsTo s fd ⟨[u], []⟩ [(x, u)]) ∧
        ∀ base : Heap, (K w.params).In base → base.Ns mainGlobals mg → FnOk l.prog w (K w.params) mg base (CX w) k fa fd [x] (sp w))
    (hsp : ∀ (w : World) (H : Hp) (a : Addr) (ns : List Int), ns.length ≤ n → Only H → SqL (K w.params) H a (ns.map V.int) → sp w [.ref a] H (fun v _ => v = .bl true) fun _ _ _ => False)
    (hCX : ∀ (w : World) (H : Hp) (s : Shared) (e : Value) (s' : Shared), CX w [] H s (fun _ _ _ => False) e s' → False) :
    PySem.W.WalkO q loose XP YP l.row.toRowW d [] (fun f vs => PySem.call f vs) := by
  refine Att.attach_call hn hdf fun w s₀ s₁ mg mb fa o pm cd doc a vs ns G Y ho hd hcd hmg hobj hints hlen hg => ?_
  have KX := hY w _ Y
  obtain ⟨fd, hb, hF⟩ := F w mg fa _ KX G.T.g hmg
  have htb : ∀ b, Tb (K w.params) mg b → (∃ c, s₁.heap.TableAt c b #[]) ∧ (K w.params).lookup b = none := fun b hb => by
    refine ⟨?_, hT w mg _ KX G.T.g b hb⟩
    obtain ⟨nm, hn', f, oc, od, fd', sl, h1, h2, c, oc', od', vs', sl', h3, h4, h5, _⟩ := hb
    rcases hR w mg _ KX G.T.g nm hn' with ⟨r, hr', rfl⟩ | no
    case inr => exact absurd h1 (no f)
    obtain ⟨a', o', fd2, c2, P2, g1, g2, g3, g4, g5, g6⟩ := G.T.tab r hr'
    rw [h1] at g1
    cases g1
    rw [KX _ _ h2] at g2
    cases g2
    cases g3
    rw [h3] at g4
    cases g4
    obtain ⟨o5, vs5, file, tf, flags, tg, inF, text, tt, op, k1, k2, k3, _⟩ := g5
    rw [KX _ _ h4] at k1
    cases k1
    cases k2
    rw [h5] at k3
    cases k3
    exact ⟨_, g6⟩
  exact law_call KX G.T.g G.T.b G.T.builtins G.T.nolimit hg G.T.bmain htb hobj hints (Nat.le_trans hlen hn2) hr hF hb (fun H hO hS => hsp w H a ns hlen hO hS) fun H e s' => hCX w H s₁ e s'

theorem walk_ofK {l : PySem.W.OpenLaw} {n k : Nat} {q : Program} {loose : List Str} {XP : (Str → Option Value) → Heap → Prop} {YP : World → Heap → Prop} {d : DefRec} {K : Params → PySem.W.Frag} {CX : CXT} {sp : PySem.W.Frag → Sp} {x : Str}
    (hn : l.most = some n) (hn2 : n ≤ sizeLine) (hdf : d.params.defaults = []) (hr : Room k callerA)
    (hY : ∀ (w : World) (h : Heap), YP w h → (K w.params).In h)
    (hR : ∀ (w : World) (mg : Str → Option Value) (h : Heap), (K w.params).In h → h.Ns mainGlobals mg → ∀ nm ∈ genNames, (∃ r ∈ recsOf q, r.name = nm) ∨ ∀ f : Addr, mg nm ≠ some (.ref f))
    (hT : ∀ (w : World) (mg : Str → Option Value) (h : Heap), (K w.params).In h → h.Ns mainGlobals mg → ∀ b, Tb (K w.params) mg b → (K w.params).lookup b = none)
    (F : ∀ (w : World) (mg : Str → Option Value) (fa : Addr) (h : Heap), (K w.params).In h → h.Ns mainGlobals mg → mg d.name = some (.ref fa) →
      ∃ fd : FuncData, (∀ (s : Shared) (u : Value), BindsTo s fd ⟨[u], []⟩ [(x, u)]) ∧
        ∀ base : Heap, (K w.params).In base → base.Ns mainGlobals mg → FnOk l.prog w (K w.params) mg base CX k fa fd [x] (sp (K w.params)))
    (hsp : ∀ (K : PySem.W.Frag) (H : Hp) (a : Addr) (ns : List Int), ns.length ≤ n → Only H → SqL K H a (ns.map V.int) → sp K [.ref a] H (fun v _ => v = .bl true) fun _ _ _ => False)
    (hCX : ∀ (H : Hp) (s : Shared) (e : Value) (s' : Shared), CX [] H s (fun _ _ _ => False) e s' → False) :
    PySem.W.WalkO q loose XP YP l.row.toRowW d [] (fun f vs => PySem.call f vs) :=
  walk_of (K := K) (CX := fun _ => CX) (sp := fun w => sp (K w.params)) hn hn2 hdf hr hY hR hT F (fun w H a ns h1 h2 h3 => hsp (K w.params) H a ns h1 h2 h3) fun _ H s e s' => hCX H s e s'
end L2




namespace L2
open PySem PySem.Spec PyProof.Rows



def defArgs (s : Stmt) : Arguments := match s with
  | .FunctionDef _ a _ _ _ _ _ _ _ _ => a
  | _ => { posonlyargs := [], args := [], vararg := none, kwonlyargs := [], kw_defaults := [], kwarg := none, defaults := [] }
def defBody (s : Stmt) : List Stmt := match s with
  | .FunctionDef _ _ b _ _ _ _ _ _ _ => b
  | _ => []
def defScope (s : Stmt) : Scope := match s with
  | .FunctionDef _ _ _ _ _ _ sc _ _ _ => sc
  | _ => { kind := .function, names := [], isGenerator := false, isCoroutine := false }


abbrev CX0 : CXT := fun _ _ _ _ _ _ => False
abbrev E0 : XK := fun _ _ _ => False
theorem pass0 {X : Cx} : Passes CX0 X E0 := fun _ _ _ _ _ _ _ h => h.elim


structure Fun (K : PySem.W.Frag) (x qual : Str) (st : Stmt) (f : Addr) (fd : FuncData) : Prop where
  ex : ∃ (oc : Value) (od : Option Addr) (kV doc pm : Value) (an : Option Addr) (cdv ct : Value) (osl : Array (Option Value)),
    fd = PySem.W.fnOf x qual (defArgs st) (defBody st) (defScope st) .none kV doc pm an cdv ct ∧ K.lookup f = some ⟨oc, od, .func fd, osl⟩ ∧ PySem.W.codeIn K cdv qual = true
  kp : PySem.W.keepIn K (.ref f) = true
section
variable {P : Program} {w : World} {K : PySem.W.Frag} {mg : Str → Option Value} {base : Heap}

theorem Fun.ok {x qual : Str} {st : Stmt} {f : Addr} {fd : FuncData} {N ps : List Str} {k : Nat} {sp : Sp} (F : Fun K x qual st f fd) (S : FnScope N ps (defScope st)) (len : ∀ vs H Q E, sp vs H Q E → vs.length = ps.length)
    (hbody : ∀ (cdv : Value) (A : Around) (outer : List Env) (s : Shared) (H : Hp) (vs : List V) (Q : VK) (E : XK), Room k (A.deeper (envOfC qual (defScope st) s.heap.objs.size f cdv)) → sp vs H Q E →
      ∃ t, PSs (cxOf CX0 P w K mg base N qual (defScope st) f cdv A outer s H E).nox (defBody st) t ∧ t { nx := fun _ H' => Q .non H', rt := Q } (start N vs) H) : FnOk P w K mg base CX0 (k + 1) f fd ps sp := by
  obtain ⟨oc, od, kV, doc, pm, an, cdv, ct, osl, rfl, lk, hcd⟩ := F.ex
  refine fn_of lk hcd S len fun A outer s H vs Q E hr hsp => ?_
  obtain ⟨t, h, q⟩ := hbody cdv A outer s H vs Q E hr hsp
  exact ⟨t, h.nox, q⟩

theorem Fun.binds {x qual : Str} {st : Stmt} {f : Addr} {fd : FuncData} {ps : List Str} (F : Fun K x qual st f fd)
    (h : ∀ (kV doc pm : Value) (an : Option Addr) (cdv ct : Value) (us : List Value), us.length = ps.length → bindArgs (PySem.W.fnOf x qual (defArgs st) (defBody st) (defScope st) .none kV doc pm an cdv ct) ⟨us, []⟩ = pure (ps.zip us)) : Binds K fd ps [] := by
  obtain ⟨oc, od, kV, doc, pm, an, cdv, ct, osl, rfl, lk, hcd⟩ := F.ex
  exact .all (h kV doc pm an cdv ct)
theorem fun_mk {x qual : Str} {st : Stmt} {f : Addr} {oc : Value} {od an : Option Addr} {osl : Array (Option Value)} {kV doc pm cdv ct : Value} (l : K.lookup f = some ⟨oc, od, .func (PySem.W.fnOf x qual (defArgs st) (defBody st) (defScope st) .none kV doc pm an cdv ct), osl⟩)
    (c : PySem.W.codeIn K cdv qual = true) (k : PySem.W.keepIn K (.ref f) = true) : Fun K x qual st f (PySem.W.fnOf x qual (defArgs st) (defBody st) (defScope st) .none kV doc pm an cdv ct) := ⟨⟨oc, od, kV, doc, pm, an, cdv, ct, osl, rfl, l, c⟩, k⟩
end
section
variable {X : Cx}
end


def Same (H H' : Hp) : Prop := ∀ b o, H b = some o → H' b = some o
theorem Same.refl (H : Hp) : Same H H := fun _ _ h => h
theorem Same.trans {H H1 H2 : Hp} (a : Same H H1) (b : Same H1 H2) : Same H H2 := fun c o h => b c o (a c o h)
theorem Same.free {H H' : Hp} (e : Same H H') {l : Addr} (h : H' l = Option.none) : H l = Option.none := by
  cases q : H l with
  | none => rfl
  | some o =>
    rw [e l o q] at h
    cases h
theorem Same.seq {K : PySem.W.Frag} {H H' : Hp} {a : Addr} {xs : List V} (e : Same H H') (h : SqL K H a xs) : SqL K H' a xs := by
  rcases h with (h | ⟨o, h⟩) | h
  · exact .inl (.inl (e _ _ h))
  · exact .inl (.inr ⟨o, e _ _ h⟩)
  · exact .inr h


section
variable {κ : Type} [DecidableEq κ]
end

theorem Same.made {H H1 : Hp} {x dx C : Addr} (nx : H x = Option.none) (nd : H dx = Option.none) (k : ∀ b o, (upd (upd H dx (.own x)) x (.ins C dx [])) b = some o → b ≠ x → H1 b = some o) : Same H H1 := fun b o e =>
  k b o (by rw [upd_ne (ne_of_none e nx), upd_ne (ne_of_none e nd)]; exact e) (ne_of_none e nx)
end L2
end

section
set_option Elab.async false
set_option linter.all false
set_option maxRecDepth 100000
set_option maxHeartbeats 4000000

namespace L2.Q3
open PySem PySem.Spec PyProof.Rows

abbrev D := PyData

inductive W where
  | d (x : D)
  | fr (xs : List D)
  | sl (i : Nat)
abbrev Rho := List (Option W)

mutual
inductive Dr (K : PySem.W.Frag) (Fz : Addr → Prop) (H : Hp) : V → D → Prop
  | non : Dr K Fz H .non .none
  | bl (b : Bool) : Dr K Fz H (.bl b) (.bool b)
  | int (i : Int) : Dr K Fz H (.int i) (.int i)
  | str (x : Str) : Dr K Fz H (.str x) (.str x)
  | lst {a : Addr} {xs : List V} {ds : List D} : Fz a → H a = some (.lst xs) → DrAll K Fz H xs ds → Dr K Fz H (.ref a) (.list ds)
  | tup {a : Addr} {xs : List V} {ds : List D} : Fz a → H a = some (.tup xs) → DrAll K Fz H xs ds → Dr K Fz H (.ref a) (.tuple ds)
  | tuk {a : Addr} {xs : List V} {ds : List D} : (∃ (o : Obj) (its : Array Value) (n : Nat), K.lookup a = some o ∧ o.cls = .type "tuple" ∧ o.data = .seq its n ∧ its.size ≤ sizeLine ∧ Vals xs its.toList) → DrAll K Fz H xs ds → Dr K Fz H (.ref a) (.tuple ds)
  | dct {a : Addr} {x : Str} {v : V} {dv : D} : Fz a → H a = some (.dK [(.inr x, v)]) → Dr K Fz H v dv → Dr K Fz H (.ref a) (.dict [(.str x, dv)])
  
  | scr {a : Addr} {xs : List V} {ds : List D} : ((Fz a ∧ ∃ o, H a = some (.frz o (.lst xs))) ∨ ∃ (o : Obj) (its : Array Value) (n : Nat), K.lookup a = some o ∧ o.cls = .type "list" ∧ o.dict = none ∧ o.data = .seq its n ∧ its.size ≤ sizeLine ∧ Vals xs its.toList) →
      DrAll K Fz H xs ds → Dr K Fz H (.ref a) (.dict [(.none, .list ds)])
inductive DrAll (K : PySem.W.Frag) (Fz : Addr → Prop) (H : Hp) : List V → List D → Prop
  | nil : DrAll K Fz H [] []
  | cons {v : V} {vs : List V} {d : D} {ds : List D} : Dr K Fz H v d → DrAll K Fz H vs ds → DrAll K Fz H (v :: vs) (d :: ds)
end

section
variable {K : PySem.W.Frag} {Fz Fz' : Addr → Prop} {H H' : Hp}
mutual
theorem Dr.keep (g : ∀ q, Fz q → Fz' q) (k : ∀ q o, Fz q → H q = some o → H' q = some o) : ∀ (d : D) (v : V), Dr K Fz H v d → Dr K Fz' H' v d
  | .none, _, h => by cases h; exact .non
  | .bool b, _, h => by cases h; exact .bl b
  | .int i, _, h => by cases h; exact .int i
  | .str x, _, h => by cases h; exact .str x
  | .list ds, _, h => by
    cases h with
    | lst hf hs ha => exact .lst (g _ hf) (k _ _ hf hs) (DrAll.keep g k ds _ ha)
  | .tuple ds, _, h => by
    cases h with
    | tup hf hs ha => exact .tup (g _ hf) (k _ _ hf hs) (DrAll.keep g k ds _ ha)
    | tuk hs ha => exact .tuk hs (DrAll.keep g k ds _ ha)
  | .dict kvs, v, h => Dr.keepD g k kvs v h
theorem Dr.keepD (g : ∀ q, Fz q → Fz' q) (k : ∀ q o, Fz q → H q = some o → H' q = some o) : ∀ (kvs : List (D × D)) (v : V), Dr K Fz H v (.dict kvs) → Dr K Fz' H' v (.dict kvs)
  | [], _, h => nomatch h
  | [(.none, .list ds)], _, h => by
    cases h with
    | scr hs hd => exact .scr (hs.imp (fun ⟨hf, o, ho⟩ => ⟨g _ hf, o, k _ _ hf ho⟩) id) (DrAll.keep g k ds _ hd)
  | [(.str x, b)], _, h => by
    cases h with
    | dct hf hs hd => exact .dct (g _ hf) (k _ _ hf hs) (Dr.keep g k b _ hd)
  | _ :: _ :: _, _, h => nomatch h
theorem DrAll.keep (g : ∀ q, Fz q → Fz' q) (k : ∀ q o, Fz q → H q = some o → H' q = some o) : ∀ (ds : List D) (vs : List V), DrAll K Fz H vs ds → DrAll K Fz' H' vs ds
  | [], _, h => by cases h; exact .nil
  | d :: ds, _, h => by
    cases h with
    | cons h1 h2 => exact .cons (Dr.keep g k d _ h1) (DrAll.keep g k ds _ h2)
end
theorem Dr.fz {p : Addr} {ds : List D} (h : Dr K Fz H (.ref p) (.list ds)) : Fz p := by
  cases h; assumption
theorem DrAll.length : ∀ {vs : List V} {ds : List D}, DrAll K Fz H vs ds → vs.length = ds.length
  | _, _, .nil => rfl
  | _, _, .cons _ t => by simp [DrAll.length t]
theorem DrAll.get : ∀ {vs : List V} {ds : List D} {i : Nat} {d : D}, DrAll K Fz H vs ds → ds[i]? = some d → ∃ v, vs[i]? = some v ∧ Dr K Fz H v d
  | _, _, _, _, .nil, e => by simp at e
  | _, _, 0, _, .cons r _, e => by simp at e; subst e; exact ⟨_, rfl, r⟩
  | _, _, i + 1, d, .cons _ t, e => by
    obtain ⟨u, h1, h2⟩ := DrAll.get (i := i) (d := d) t (by simpa using e)
    exact ⟨u, by simpa using h1, h2⟩
theorem DrAll.append : ∀ {vs us : List V} {ds es : List D}, DrAll K Fz H vs ds → DrAll K Fz H us es → DrAll K Fz H (vs ++ us) (ds ++ es)
  | _, _, _, _, .nil, s => s
  | _, _, _, _, .cons r t, s => .cons r (DrAll.append t s)
theorem DrAll.take : ∀ {vs : List V} {ds : List D} (n : Nat), DrAll K Fz H vs ds → DrAll K Fz H (vs.take n) (ds.take n)
  | _, _, 0, _ => .nil
  | _, _, _ + 1, .nil => .nil
  | _, _, n + 1, .cons r t => .cons r (DrAll.take n t)
theorem DrAll.drop : ∀ {vs : List V} {ds : List D} (n : Nat), DrAll K Fz H vs ds → DrAll K Fz H (vs.drop n) (ds.drop n)
  | _, _, 0, r => r
  | _, _, _ + 1, .nil => .nil
  | _, _, n + 1, .cons _ t => DrAll.drop n t
theorem DrAll.set {x : V} {u : D} (r : Dr K Fz H x u) : ∀ {xs : List V} {us : List D} (i : Nat), DrAll K Fz H xs us → DrAll K Fz H (xs.set i x) (us.set i u)
  | _, _, _, .nil => .nil
  | _, _, 0, .cons _ t => .cons r t
  | _, _, i + 1, .cons q t => .cons q (DrAll.set r i t)
theorem DrAll.reverse {vs : List V} {ds : List D} (h : DrAll K Fz H vs ds) : DrAll K Fz H vs.reverse ds.reverse := by
  induction vs generalizing ds with
  | nil => cases h; exact .nil
  | cons v vs ih =>
    cases h with
    | cons h1 h2 =>
      rw [List.reverse_cons, List.reverse_cons]
      exact (ih h2).append (.cons h1 .nil)
mutual
theorem Dr.dp : ∀ (d : D) (v : V), d.canLay0 = true → Dr K Fz H v d → Dp K H v d
  | .none, _, _, h => by cases h; exact .non
  | .bool b, _, _, h => by cases h; exact .bl b
  | .int i, _, _, h => by cases h; exact .int i
  | .str x, _, _, h => by cases h; exact .str x
  | .list ds, _, c, h => by
    cases h with
    | lst hf hs ha => exact .lst (SqL.of hs) (DrAll.dp ds _ c ha)
  | .tuple ds, _, c, h => by
    cases h with
    | tup hf hs ha => exact .tup (SqT.of hs) (DrAll.dp ds _ c ha)
    | tuk hs ha => exact .tup (.inr hs) (DrAll.dp ds _ c ha)
  | .dict _, _, c, _ => nomatch c
theorem DrAll.dp : ∀ (ds : List D) (vs : List V), PyData.canLayAll0 ds = true → DrAll K Fz H vs ds → DpAll K H vs ds
  | [], _, _, h => by cases h; exact .nil
  | d :: ds, _, c, h => by
    cases h with
    | cons h1 h2 =>
      have c' : d.canLay0 = true ∧ PyData.canLayAll0 ds = true := by simpa [PyData.canLayAll0] using c
      exact .cons (Dr.dp d _ c'.1 h1) (DrAll.dp ds _ c'.2 h2)
end
end


def RepW (K : PySem.W.Frag) (Fz : Addr → Prop) (σ : St) (H : Hp) : W → V → Prop
  | .d x, v => Dr K Fz H v x
  | .fr xs, v => ∃ p vs, v = .ref p ∧ H p = some (.lst vs) ∧ DrAll K Fz H vs xs
  | .sl i, v => σ[i]? = some (some v)

def RepS (K : PySem.W.Frag) (Fz : Addr → Prop) (H : Hp) : W → V → Prop
  | .d x, v => Dr K Fz H v x
  | .fr xs, v => ∃ p vs, v = .ref p ∧ H p = some (.lst vs) ∧ DrAll K Fz H vs xs
  | .sl _, _ => False

def Own (ρ : Rho) (σ : St) (p : Addr) : Prop := ∃ (i : Nat) (xs : List D), ρ[i]? = some (some (W.fr xs)) ∧ σ[i]? = some (some (V.ref p))
structure Rel (K : PySem.W.Frag) (Fz : Addr → Prop) (ρ : Rho) (σ : St) (H : Hp) : Prop where
  len : ρ.length = σ.length
  val : ∀ (i : Nat) (w : W), ρ[i]? = some (some w) → ∃ v, σ[i]? = some (some v) ∧ RepS K Fz H w v
  apart : ∀ (i j : Nat) (xs ys : List D) (p : Addr), ρ[i]? = some (some (W.fr xs)) → ρ[j]? = some (some (W.fr ys)) → σ[i]? = some (some (V.ref p)) → σ[j]? = some (some (V.ref p)) → i = j
  nofz : ∀ p, Own ρ σ p → ¬ Fz p
  fzl : ∀ q, Fz q → H q ≠ none
structure Step (Ow : Addr → Prop) (Fz Fz' : Addr → Prop) (H H' : Hp) : Prop where
  
  fzl : ∀ q, Fz' q → H' q ≠ none
  keep : ∀ q o, H q = some o → ¬ Ow q → H' q = some o
  live : ∀ q, H' q = none → H q = none
  grow : ∀ q, Fz q → Fz' q
  new : ∀ q, Fz' q → Fz q ∨ H q = none ∨ Ow q
theorem Step.refl {Ow Fz : Addr → Prop} {H : Hp} (l : ∀ q, Fz q → H q ≠ none) : Step Ow Fz Fz H H := ⟨l, fun _ _ e _ => e, fun _ e => e, fun _ e => e, fun _ e => .inl e⟩
theorem Step.trans {Ow Ow1 Fz Fz1 Fz2 : Addr → Prop} {H H1 H2 : Hp} (a : Step Ow Fz Fz1 H H1) (b : Step Ow1 Fz1 Fz2 H1 H2) (o : ∀ q, Ow1 q → Ow q ∨ H q = none)   : Step Ow Fz Fz2 H H2 where
  fzl := b.fzl
  keep := fun q u e n => b.keep q u (a.keep q u e n) fun z => (o q z).elim n fun z => by rw [z] at e; cases e
  live := fun q e => a.live q (b.live q e)
  grow := fun q e => b.grow q (a.grow q e)
  new := fun q e => by
    rcases b.new q e with e | e | e
    · exact a.new q e
    · exact .inr (.inl (a.live q e))
    · exact (o q e).elim (fun z => .inr (.inr z)) fun z => .inr (.inl z)
theorem Step.weak {Ow Ow' Fz Fz' : Addr → Prop} {H H' : Hp} (a : Step Ow Fz Fz' H H') (o : ∀ q, Ow q → Ow' q) : Step Ow' Fz Fz' H H' :=
  ⟨a.fzl, fun q u e n => a.keep q u e fun z => n (o q z), a.live, a.grow, fun q e => (a.new q e).imp id fun z => z.imp id (o q)⟩


def frs : List W → List V → List Addr
  | .fr _ :: ws, .ref p :: vs => p :: frs ws vs
  | _ :: ws, _ :: vs => frs ws vs
  | _, _ => []
def isL : W → Bool
  | .fr _ => true
  | .d (.list _) => true
  | _ => false

def Kp (ρ ρ' : Rho) : Prop := ∀ (k : Nat) (w : W), ρ[k]? = some (some w) → ∃ w', ρ'[k]? = some (some w') ∧ (isL w = true → isL w' = true)
theorem Kp.refl {ρ : Rho} : Kp ρ ρ := fun k w e => ⟨w, e, id⟩
theorem Kp.trans {ρ ρ1 ρ2 : Rho} (a : Kp ρ ρ1) (b : Kp ρ1 ρ2) : Kp ρ ρ2 := fun k w e => by
  obtain ⟨w1, e1, i1⟩ := a k w e
  obtain ⟨w2, e2, i2⟩ := b k w1 e1
  exact ⟨w2, e2, fun z => i2 (i1 z)⟩

structure PostL (K : PySem.W.Frag) (Fz Fz' : Addr → Prop) (ρ ρ' : Rho) (σ : St) (H H' : Hp) (ws : List W) (vs : List V) : Prop where
  rel : Rel K Fz' ρ' σ H'
  rep : Paired (RepW K Fz' σ H') ws vs
  fresh : ∀ p ∈ frs ws vs, H p = none ∧ ¬ Fz' p ∧ ¬ Own ρ' σ p
  nd : (frs ws vs).Nodup
  step : Step (Own ρ σ) Fz Fz' H H'
  own : ∀ p, Own ρ' σ p → Own ρ σ p
  kept : Kp ρ ρ'
end L2.Q3
end

section
set_option Elab.async false
set_option linter.all false
set_option maxRecDepth 100000
set_option maxHeartbeats 4000000

namespace L2.Q3
open PySem PySem.Spec PyProof.Rows
section
variable {K : PySem.W.Frag} {Fz Fz' Fz1 Fz2 : Addr → Prop} {ρ ρ' ρ1 ρ2 : Rho} {σ : St} {H H' H1 H2 : Hp} {w : W} {v : V} {ws : List W} {vs : List V}
theorem Rel.dr (r : Rel K Fz ρ σ H) (s : Step (Own ρ σ) Fz Fz' H H') {v : V} {x : D} (h : Dr K Fz H v x) : Dr K Fz' H' v x :=
  h.keep s.grow (fun q o hf e => s.keep q o e fun ow => r.nofz q ow hf) _ _
theorem Rel.drAll (r : Rel K Fz ρ σ H) (s : Step (Own ρ σ) Fz Fz' H H') {vs : List V} {xs : List D} (h : DrAll K Fz H vs xs) : DrAll K Fz' H' vs xs :=
  h.keep s.grow (fun q o hf e => s.keep q o e fun ow => r.nofz q ow hf) _ _
theorem Rel.rep (r : Rel K Fz ρ σ H) (s : Step (Own ρ σ) Fz Fz' H H') (h : RepW K Fz σ H w v) (f : ∀ xs p, w = .fr xs → v = .ref p → ¬ Own ρ σ p) : RepW K Fz' σ H' w v := by
  cases w with
  | d x => exact r.dr s h
  | fr xs =>
    obtain ⟨p, us, rfl, e, a⟩ := h
    exact ⟨p, us, rfl, s.keep p _ e (f xs p rfl rfl), r.drAll s a⟩
  | sl i => exact h
theorem frs_fr {xs : List D} {p : Addr} : frs (.fr xs :: ws) (.ref p :: vs) = p :: frs ws vs := rfl
theorem frs_d {x : D} : frs (.d x :: ws) (v :: vs) = frs ws vs := by cases v <;> rfl
theorem frs_sl {i : Nat} : frs (.sl i :: ws) (v :: vs) = frs ws vs := by cases v <;> rfl
theorem frs_one_nd : (frs [w] [v]).Nodup := by
  cases w with
  | d x => rw [frs_d]; exact List.nodup_nil
  | sl i => rw [frs_sl]; exact List.nodup_nil
  | fr xs => cases v <;> first | exact List.nodup_nil | (rw [frs_fr]; exact List.nodup_cons.mpr ⟨by simp [frs], List.nodup_nil⟩)
theorem PostL.cons (a : PostL K Fz Fz1 ρ ρ1 σ H H1 [w] [v]) (b : PostL K Fz1 Fz2 ρ1 ρ2 σ H1 H2 ws vs) : PostL K Fz Fz2 ρ ρ2 σ H H2 (w :: ws) (v :: vs) := by
  obtain ⟨ra, rb⟩ : RepW K Fz1 σ H1 w v ∧ True := by
    cases a.rep with
    | cons r _ => exact ⟨r, trivial⟩
  have fa : ∀ xs p, w = .fr xs → v = .ref p → H p = none ∧ ¬ Fz1 p ∧ ¬ Own ρ1 σ p := fun xs p e1 e2 => by
    subst e1; subst e2
    exact a.fresh p (by rw [frs_fr]; exact List.mem_cons_self)
  have live1 : ∀ p xs, w = .fr xs → v = .ref p → H1 p ≠ none := fun p xs e1 e2 => by
    subst e1; subst e2
    obtain ⟨q, us, e, h, _⟩ := ra
    cases e
    rw [h]; exact fun z => nomatch z
  have tail : ∀ p ∈ frs ws vs, H p = none ∧ ¬ Fz2 p ∧ ¬ Own ρ2 σ p := fun p hp => by
    obtain ⟨h1, h2, h3⟩ := b.fresh p hp
    exact ⟨a.step.live p h1, h2, h3⟩
  have head : ∀ xs p, w = .fr xs → v = .ref p → H p = none ∧ ¬ Fz2 p ∧ ¬ Own ρ2 σ p ∧ p ∉ frs ws vs := fun xs p e1 e2 => by
    obtain ⟨h1, h2, h3⟩ := fa xs p e1 e2
    have hl := live1 p xs e1 e2
    refine ⟨h1, fun z => ?_, fun z => h3 (b.own p z), fun z => hl (b.fresh p z).1⟩
    rcases b.step.new p z with z | z | z
    · exact h2 z
    · exact hl z
    · exact h3 z
  refine ⟨b.rel, .cons (a.rel.rep b.step ra fun xs p e1 e2 => (fa xs p e1 e2).2.2) b.rep, ?_, ?_, a.step.trans b.step fun q z => .inl (a.own q z), fun p z => a.own p (b.own p z), a.kept.trans b.kept⟩
  · intro p hp
    cases w with
    | d x => rw [frs_d] at hp; exact tail p hp
    | sl i => rw [frs_sl] at hp; exact tail p hp
    | fr xs =>
      cases v with
      | ref q =>
        rw [frs_fr] at hp
        rcases List.mem_cons.mp hp with rfl | hp
        · obtain ⟨x1, x2, x3, _⟩ := head xs p rfl rfl; exact ⟨x1, x2, x3⟩
        · exact tail p hp
      | _ => exact tail p hp
  · cases w with
    | d x => rw [frs_d]; exact b.nd
    | sl i => rw [frs_sl]; exact b.nd
    | fr xs =>
      cases v with
      | ref q => rw [frs_fr]; exact List.nodup_cons.mpr ⟨(head xs q rfl rfl).2.2.2, b.nd⟩
      | _ => exact b.nd
theorem PostL.nil (r : Rel K Fz ρ σ H) : PostL K Fz Fz ρ ρ σ H H [] [] :=
  ⟨r, .nil, fun p hp => absurd (show p ∈ ([] : List Addr) from hp) (by simp), List.nodup_nil, .refl r.fzl, fun _ z => z, Kp.refl⟩
theorem PostL.rep1 (a : PostL K Fz Fz' ρ ρ' σ H H' [w] [v]) : RepW K Fz' σ H' w v := by
  cases a.rep with
  | cons r _ => exact r

theorem PostL.plain (r : Rel K Fz ρ σ H) {x : D} (h : Dr K Fz H v x) : PostL K Fz Fz ρ ρ σ H H [.d x] [v] :=
  ⟨r, .cons h .nil, fun p hp => by rw [frs_d] at hp; exact absurd hp (by simp [frs]), frs_one_nd, .refl r.fzl, fun _ z => z, Kp.refl⟩


def rdSlot : Option (Option W) → Option D
  | some (some (.d x)) => some x
  | some (some (.fr xs)) => some (.list xs)
  | _ => none
theorem rdSlot_some {o : Option (Option W)} {x : D} (h : rdSlot o = some x) : o = some (some (.d x)) ∨ ∃ xs, o = some (some (.fr xs)) ∧ x = .list xs := by
  rcases o with _ | _ | w
  · cases h
  · cases h
  · cases w with
    | d y => cases h; exact .inl rfl
    | fr xs => cases h; exact .inr ⟨xs, rfl, rfl⟩
    | sl _ => cases h
def rdW (ρ : Rho) : W → Option D
  | .d x => some x
  | .fr xs => some (.list xs)
  | .sl i => rdSlot ρ[i]?
def rdAll (ρ : Rho) : List W → Option (List D)
  | [] => some []
  | w :: ws => (rdW ρ w).bind fun x => (rdAll ρ ws).bind fun xs => some (x :: xs)

def Rdg (K : PySem.W.Frag) (Fz : Addr → Prop) (H : Hp) (v : V) (x : D) : Prop :=
  Dr K Fz H v x ∨ ∃ p vs xs, v = .ref p ∧ x = .list xs ∧ H p = some (.lst vs) ∧ DrAll K Fz H vs xs
theorem Rel.rdg (r : Rel K Fz ρ σ H) (h : RepW K Fz σ H w v) {x : D} (e : rdW ρ w = some x) : Rdg K Fz H v x := by
  cases w with
  | d y => cases e; exact .inl h
  | fr xs =>
    obtain ⟨p, us, rfl, q, a⟩ := h
    cases e
    exact .inr ⟨p, us, xs, rfl, rfl, q, a⟩
  | sl i =>
    have h' : σ[i]? = some (some v) := h
    rcases rdSlot_some e with q | ⟨xs, q, rfl⟩
    · obtain ⟨u, hu, hr⟩ := r.val i _ q
      rw [h'] at hu
      cases hu
      exact .inl hr
    · obtain ⟨u, hu, hr⟩ := r.val i _ q
      rw [h'] at hu
      cases hu
      obtain ⟨p, us, e1, e2, e3⟩ := hr
      exact .inr ⟨p, us, xs, e1, rfl, e2, e3⟩
theorem Rel.rdgAll (r : Rel K Fz ρ σ H) : ∀ {ws : List W} {vs : List V} {xs : List D}, Paired (RepW K Fz σ H) ws vs → rdAll ρ ws = some xs → Paired (Rdg K Fz H) vs xs
  | [], _, _, .nil, e => by cases e; exact .nil
  | w :: ws, _, _, .cons h t, e => by
    unfold rdAll at e
    cases e1 : rdW ρ w with
    | none => rw [e1] at e; cases e
    | some x =>
      rw [e1] at e
      cases e2 : rdAll ρ ws with
      | none => rw [e2] at e; cases e
      | some xs =>
        rw [e2] at e
        cases e
        exact .cons (r.rdg h e1) (r.rdgAll t e2)
end



structure Made (K : PySem.W.Frag) (Fz Fz' : Addr → Prop) (H H' : Hp) (w : W) (v : V) : Prop where
  fzl : ∀ q, Fz' q → H' q ≠ none
  keep : ∀ q o, H q = some o → H' q = some o
  live : ∀ q, H' q = none → H q = none
  grow : ∀ q, Fz q → Fz' q
  new : ∀ q, Fz' q → Fz q ∨ H q = none
  rep : RepS K Fz' H' w v
  fresh : ∀ xs p, w = .fr xs → v = .ref p → H p = none ∧ ¬ Fz' p
theorem Made.val {K : PySem.W.Frag} {Fz : Addr → Prop} {H : Hp} {x : D} {v : V} (l : ∀ q, Fz q → H q ≠ none) (h : Dr K Fz H v x) : Made K Fz Fz H H (.d x) v :=
  ⟨l, fun _ _ e => e, fun _ e => e, fun _ e => e, fun _ e => .inl e, h, fun _ _ e => nomatch e⟩
def Atom (K : PySem.W.Frag) (r : List V → Hp → VK → Prop) (g : List D → Option W) : Prop :=
  ∀ (Fz : Addr → Prop) (H : Hp) (vs : List V) (xs : List D) (w : W) (Q : VK), (∀ q, Fz q → H q ≠ none) → Paired (Rdg K Fz H) vs xs → g xs = some w → (∀ v H' Fz', Made K Fz Fz' H H' w v → Q v H') → r vs H Q
section
variable {K : PySem.W.Frag} {Fz Fz' Fz1 Fz2 : Addr → Prop} {ρ ρ' ρ1 ρ2 : Rho} {σ : St} {H H' H1 H2 : Hp} {w : W} {v : V} {ws : List W} {vs : List V}
theorem Made.step {Ow : Addr → Prop} (m : Made K Fz Fz' H H' w v) : Step Ow Fz Fz' H H' := ⟨m.fzl, fun q o e _ => m.keep q o e, m.live, m.grow, fun q e => (m.new q e).imp id .inl⟩
theorem RepS.rep (h : RepS K Fz H w v) : RepW K Fz σ H w v := by
  cases w with
  | d _ => exact h
  | fr _ => exact h
  | sl _ => exact h.elim
theorem Rel.step0 (r : Rel K Fz ρ σ H) (s : Step (fun _ => False) Fz Fz' H H') (hn : ∀ q, Fz' q → Fz q ∨ H q = none) : Rel K Fz' ρ σ H' := by
  have s' : Step (Own ρ σ) Fz Fz' H H' := s.weak fun _ z => z.elim
  refine ⟨r.len, fun i w e => ?_, r.apart, fun p o z => ?_, s.fzl⟩
  · obtain ⟨v, hv, hr⟩ := r.val i w e
    refine ⟨v, hv, ?_⟩
    cases w with
    | d x => exact r.dr s' hr
    | fr xs =>
      obtain ⟨p, us, e1, e2, e3⟩ := hr
      exact ⟨p, us, e1, s.keep p _ e2 id, r.drAll s' e3⟩
    | sl _ => exact hr
  · rcases hn p z with z | z
    · exact r.nofz p o z
    · obtain ⟨i, xs, e1, e2⟩ := o
      obtain ⟨v, hv, q, us, e3, e4, _⟩ := r.val i _ e1
      rw [e2] at hv
      cases hv
      cases e3
      rw [z] at e4
      cases e4

theorem PostL.made (a : PostL K Fz Fz1 ρ ρ1 σ H H1 ws vs) (m : Made K Fz1 Fz2 H1 H2 w v) : PostL K Fz Fz2 ρ ρ1 σ H H2 [w] [v] := by
  have r2 : Rel K Fz2 ρ1 σ H2 := a.rel.step0 m.step m.new
  refine ⟨r2, .cons m.rep.rep .nil, ?_, frs_one_nd, a.step.trans (m.step (Ow := Own ρ1 σ)) fun q z => .inl (a.own q z), a.own, a.kept⟩
  intro p hp
  cases w with
  | d x => rw [frs_d] at hp; exact absurd hp (by simp [frs])
  | sl i => exact m.rep.elim
  | fr xs =>
    obtain ⟨q, us, e1, e2, e3⟩ := m.rep
    subst e1
    rw [frs_fr] at hp
    have hp : p = q := by simpa [frs] using hp
    subst hp
    obtain ⟨h1, h2⟩ := m.fresh xs p rfl rfl
    refine ⟨a.step.live p h1, h2, fun z => ?_⟩
    obtain ⟨i, ys, f1, f2⟩ := z
    obtain ⟨u, hu, q, us', f3, f4, _⟩ := a.rel.val i _ f1
    rw [f2] at hu
    cases hu
    cases f3
    rw [h1] at f4
    cases f4
end


abbrev Fe := Rho → Option (W × Rho)
abbrev Ft := Rho → Option (Bool × Rho)
abbrev Fa := Rho → Option (List W × Rho)
def tE (K : PySem.W.Frag) (f : Fe) : TE := fun σ H Q => ∃ Fz ρ w ρ', Rel K Fz ρ σ H ∧ f ρ = some (w, ρ') ∧ ∀ v H' Fz', PostL K Fz Fz' ρ ρ' σ H H' [w] [v] → Q v H'
def tT (K : PySem.W.Frag) (f : Ft) : TT := fun σ H Q => ∃ Fz ρ b ρ', Rel K Fz ρ σ H ∧ f ρ = some (b, ρ') ∧ ∀ H' Fz', PostL K Fz Fz' ρ ρ' σ H H' [] [] → Q b H'
def tA (K : PySem.W.Frag) (f : Fa) : TA := fun σ H Q => ∃ Fz ρ ws ρ', Rel K Fz ρ σ H ∧ f ρ = some (ws, ρ') ∧ ∀ vs H' Fz', PostL K Fz Fz' ρ ρ' σ H H' ws vs → Q vs H'
structure DE (X : Cx) (e : Expr) (f : Fe) : Prop where
  ok : PE X e (tE X.K f)
structure DT (X : Cx) (e : Expr) (f : Ft) : Prop where
  ok : PT X e (tT X.K f)
structure DA (X : Cx) (es : List Expr) (f : Fa) : Prop where
  ok : PA X es (tA X.K f)
theorem PE.imp {X : Cx} {e : Expr} {t t' : TE} (h : PE X e t) (i : ∀ σ H Q, t' σ H Q → t σ H Q) : PE X e t' := fun pins s σ H Q I q => h pins s σ H Q I (i σ H Q q)
theorem PT.imp {X : Cx} {e : Expr} {t t' : TT} (h : PT X e t) (i : ∀ σ H Q, t' σ H Q → t σ H Q) : PT X e t' := fun pins s σ H Q I q => h pins s σ H Q I (i σ H Q q)
theorem PA.imp {X : Cx} {e : List Expr} {t t' : TA} (h : PA X e t) (i : ∀ σ H Q, t' σ H Q → t σ H Q) : PA X e t' := fun pos pins s σ H Q I q => h pos pins s σ H Q I (i σ H Q q)


def faNil : Fa := fun ρ => some ([], ρ)
def faCons (f : Fe) (g : Fa) : Fa := fun ρ => (f ρ).bind fun p => (g p.2).bind fun q => some (p.1 :: q.1, q.2)
theorem faCons_some {f : Fe} {g : Fa} {ρ ρ' : Rho} {ws : List W} (h : faCons f g ρ = some (ws, ρ')) : ∃ w ρ1 us, f ρ = some (w, ρ1) ∧ g ρ1 = some (us, ρ') ∧ ws = w :: us := by
  unfold faCons at h
  cases e1 : f ρ with
  | none => rw [e1] at h; cases h
  | some p =>
    rw [e1] at h
    obtain ⟨w, ρ1⟩ := p
    cases e2 : g ρ1 with
    | none => simp only [Option.bind_some, e2] at h; cases h
    | some q =>
      obtain ⟨us, ρ2⟩ := q
      simp only [Option.bind_some, e2] at h
      cases h
      exact ⟨w, ρ1, us, rfl, e2, rfl⟩
theorem da_nil {X : Cx} : DA X [] faNil := ⟨PA.imp pa_nil fun σ H Q h => by
  obtain ⟨Fz, ρ, ws, ρ', r, e, q⟩ := h
  cases e
  exact q _ _ _ (.nil r)⟩
theorem da_cons {X : Cx} {e : Expr} {es : List Expr} {f : Fe} {g : Fa} (ha : DE X e f) (hr : DA X es g) (hs : starEach (e :: es) X.env = (false, eval e X.env) :: starEach es X.env := by rfl) : DA X (e :: es) (faCons f g) := ⟨PA.imp (pa_cons ha.ok hr.ok hs) fun σ H Q h => by
  obtain ⟨Fz, ρ, ws, ρ', r, e, q⟩ := h
  obtain ⟨w, ρ1, us, e1, e2, rfl⟩ := faCons_some e
  refine ⟨Fz, ρ, w, ρ1, r, e1, fun v H1 Fz1 p1 => ?_⟩
  exact ⟨Fz1, ρ1, us, ρ', p1.rel, e2, fun vs H2 Fz2 p2 => q _ _ _ (p1.cons p2)⟩⟩

def feAtom (g : List D → Option W) (f : Fa) : Fe := fun ρ => (f ρ).bind fun p => (rdAll p.2 p.1).bind fun xs => (g xs).bind fun w => some (w, p.2)
theorem feAtom_some {g : List D → Option W} {f : Fa} {ρ ρ' : Rho} {w : W} (h : feAtom g f ρ = some (w, ρ')) : ∃ ws xs, f ρ = some (ws, ρ') ∧ rdAll ρ' ws = some xs ∧ g xs = some w := by
  unfold feAtom at h
  cases e1 : f ρ with
  | none => rw [e1] at h; cases h
  | some p =>
    obtain ⟨ws, ρ1⟩ := p
    simp only [e1, Option.bind_some] at h
    cases e2 : rdAll ρ1 ws with
    | none => rw [e2] at h; cases h
    | some xs =>
      simp only [e2, Option.bind_some] at h
      cases e3 : g xs with
      | none => rw [e3] at h; cases h
      | some w' =>
        simp only [e3, Option.bind_some] at h
        cases h
        exact ⟨ws, xs, rfl, e2, e3⟩
theorem atom_go {K : PySem.W.Frag} {r : List V → Hp → VK → Prop} {g : List D → Option W} {f : Fa} (ha : Atom K r g) {σ : St} {H : Hp} {Q : VK} (h : tE K (feAtom g f) σ H Q) : tA K f σ H fun vs H1 => r vs H1 Q := by
  obtain ⟨Fz, ρ, w, ρ', rl, e, q⟩ := h
  obtain ⟨ws, xs, e1, e2, e3⟩ := feAtom_some e
  refine ⟨Fz, ρ, ws, ρ', rl, e1, fun vs H1 Fz1 p1 => ?_⟩
  exact ha Fz1 H1 vs xs w Q p1.rel.fzl (p1.rel.rdgAll p1.rep e2) e3 fun v H2 Fz2 m => q v H2 Fz2 (p1.made m)

theorem atom_go2 {K : PySem.W.Frag} {r : R2} {g : List D → Option W} {fa fb : Fe} (ha : Atom K (fun vs H Q => match vs with | [x, y] => r x y H Q | _ => False) g) {σ : St} {H : Hp} {Q : VK} (h : tE K (feAtom g (faCons fa (faCons fb faNil))) σ H Q) :
    tE K fa σ H fun x H1 => tE K fb σ H1 fun y H2 => r x y H2 Q := by
  obtain ⟨Fz, ρ, w, ρ', rl, e, q⟩ := h
  obtain ⟨ws, xs, e1, e2, e3⟩ := feAtom_some e
  obtain ⟨w1, ρ1, us, g1, g2, rfl⟩ := faCons_some e1
  obtain ⟨w2, ρ2, us2, g3, g4, rfl⟩ := faCons_some g2
  cases g4
  refine ⟨Fz, ρ, w1, ρ1, rl, g1, fun v1 H1 Fz1 p1 => ⟨Fz1, ρ1, w2, ρ', p1.rel, g3, fun v2 H2 Fz2 p2 => ?_⟩⟩
  have p12 := p1.cons p2
  exact ha Fz2 H2 [v1, v2] xs w Q p12.rel.fzl (p12.rel.rdgAll p12.rep e2) e3 fun v H3 Fz3 m => q v H3 Fz3 (p12.made m)
theorem atom_go1 {K : PySem.W.Frag} {r : V → Hp → VK → Prop} {g : List D → Option W} {fa : Fe} (ha : Atom K (fun vs H Q => match vs with | [x] => r x H Q | _ => False) g) {σ : St} {H : Hp} {Q : VK} (h : tE K (feAtom g (faCons fa faNil)) σ H Q) :
    tE K fa σ H fun x H1 => r x H1 Q := by
  obtain ⟨Fz, ρ, w, ρ', rl, e, q⟩ := h
  obtain ⟨ws, xs, e1, e2, e3⟩ := feAtom_some e
  obtain ⟨w1, ρ1, us, g1, g2, rfl⟩ := faCons_some e1
  cases g2
  refine ⟨Fz, ρ, w1, ρ', rl, g1, fun v1 H1 Fz1 p1 => ?_⟩
  exact ha Fz1 H1 [v1] xs w Q p1.rel.fzl (p1.rel.rdgAll p1.rep e2) e3 fun v H3 Fz3 m => q v H3 Fz3 (p1.made m)
end L2.Q3
end

section
set_option Elab.async false
set_option linter.all false
set_option maxRecDepth 100000
set_option maxHeartbeats 4000000

namespace L2.Q3
open PySem PySem.Spec PyProof.Rows
section
variable {K : PySem.W.Frag} {Fz Fz' : Addr → Prop} {H H' : Hp} {v : V} {x : D}
theorem paired1 {α β : Type} {R : α → β → Prop} {vs : List α} {x : β} (h : Paired R vs [x]) : ∃ v, vs = [v] ∧ R v x := by
  cases h with
  | cons a t => cases t; exact ⟨_, rfl, a⟩
theorem paired2 {α β : Type} {R : α → β → Prop} {vs : List α} {x y : β} (h : Paired R vs [x, y]) : ∃ v u, vs = [v, u] ∧ R v x ∧ R u y := by
  cases h with
  | cons a t =>
    obtain ⟨u, rfl, b⟩ := paired1 t
    exact ⟨_, u, rfl, a, b⟩
theorem Rdg.non (h : Rdg K Fz H v .none) : v = .non := by
  rcases h with h | ⟨_, _, _, _, e, _⟩
  · cases h; rfl
  · cases e
theorem Rdg.bool {b : Bool} (h : Rdg K Fz H v (.bool b)) : v = .bl b := by
  rcases h with h | ⟨_, _, _, _, e, _⟩
  · cases h; rfl
  · cases e
theorem Rdg.int {i : Int} (h : Rdg K Fz H v (.int i)) : v = .int i := by
  rcases h with h | ⟨_, _, _, _, e, _⟩
  · cases h; rfl
  · cases e
theorem Rdg.str {y : Str} (h : Rdg K Fz H v (.str y)) : v = .str y := by
  rcases h with h | ⟨_, _, _, _, e, _⟩
  · cases h; rfl
  · cases e
theorem Rdg.tup {ds : List D} (h : Rdg K Fz H v (.tuple ds)) : ∃ a xs, v = .ref a ∧ SqT K H a xs ∧ DrAll K Fz H xs ds := by
  rcases h with h | ⟨_, _, _, _, e, _⟩
  · cases h with
    | tup a b c => exact ⟨_, _, rfl, SqT.of b, c⟩
    | tuk b c => exact ⟨_, _, rfl, .inr b, c⟩
  · cases e
theorem Rdg.lst {ds : List D} (h : Rdg K Fz H v (.list ds)) : ∃ a xs, v = .ref a ∧ H a = some (.lst xs) ∧ DrAll K Fz H xs ds := by
  rcases h with h | ⟨p, vs, xs, e1, e, e2, e3⟩
  · cases h with
    | lst a b c => exact ⟨_, _, rfl, b, c⟩
  · cases e; exact ⟨p, vs, e1, e2, e3⟩
theorem Rdg.scr {ds : List D} (h : Rdg K Fz H v (.dict [(.none, .list ds)])) : ∃ a xs, v = .ref a ∧ SqL K H a xs ∧ DrAll K Fz H xs ds := by
  rcases h with h | ⟨p, vs, xs, e1, e, e2, e3⟩
  · cases h with
    | scr a c => exact ⟨_, _, rfl, a.imp (fun z => .inr z.2) id, c⟩
  · cases e
theorem Rdg.dp (h : Rdg K Fz H v x) (c : x.canLay0 = true) : Dp K H v x := by
  rcases h with h | ⟨p, vs, xs, rfl, rfl, e2, e3⟩
  · exact h.dp _ _ c
  · exact .lst (SqL.of e2) (e3.dp _ _ c)
theorem upd_new {p : Addr} {o : HO} (hp : H p = none) : ∀ q u, H q = some u → upd H p o q = some u := fun q u e => by rw [upd_ne (ne_of_none e hp)]; exact e
theorem upd_live {p : Addr} {o : HO} : ∀ q, upd H p o q = none → H q = none := fun q e => by
  by_cases z : q = p
  · subst z; rw [upd_same] at e; cases e
  · rw [upd_ne z] at e; exact e
theorem Made.newT {p : Addr} {vs : List V} {ds : List D} (l : ∀ q, Fz q → H q ≠ none) (hp : H p = none) (a : DrAll K Fz H vs ds) : Made K Fz (fun q => Fz q ∨ q = p) H (upd H p (.tup vs)) (.d (.tuple ds)) (.ref p) := by
  have k := upd_new (o := .tup vs) hp
  refine ⟨fun q z => ?_, k, upd_live, fun q => .inl, fun q e => e.imp id fun z => by rw [z]; exact hp, .tup (.inr rfl) upd_same (a.keep (fun q => .inl) (fun q o _ e => k q o e) _ _), fun _ _ e => nomatch e⟩
  rcases z with z | rfl
  · exact fun e => l q z (upd_live q e)
  · rw [upd_same]; exact fun e => nomatch e
theorem Made.newL {p : Addr} {vs : List V} {ds : List D} (l : ∀ q, Fz q → H q ≠ none) (hp : H p = none) (a : DrAll K Fz H vs ds) : Made K Fz Fz H (upd H p (.lst vs)) (.fr ds) (.ref p) := by
  have k := upd_new (o := .lst vs) hp
  refine ⟨fun q z e => l q z (upd_live q e), k, upd_live, fun q => id, fun q e => .inl e, ⟨p, vs, rfl, upd_same, a.keep (fun q => id) (fun q o _ e => k q o e) _ _⟩, fun xs q e1 e2 => ?_⟩
  cases e2; exact ⟨hp, fun z => l _ z hp⟩
end
end L2.Q3
end

section
set_option Elab.async false
set_option linter.all false
set_option maxRecDepth 100000
set_option maxHeartbeats 4000000
namespace L2.Q3
open PySem PySem.Spec PyProof.Rows
abbrev r2 (r : R2) : List V → Hp → VK → Prop := fun vs H Q => match vs with | [x, y] => r x y H Q | _ => False
abbrev r1 (r : V → Hp → VK → Prop) : List V → Hp → VK → Prop := fun vs H Q => match vs with | [x] => r x H Q | _ => False
section
variable {X : Cx} {K : PySem.W.Frag}


theorem op_catT0 : OpR X (binaryOp .Add) (fun x y H Q => ∃ a b ys, x = .ref a ∧ y = .ref b ∧ SqT X.K H a [] ∧ SqT X.K H b ys ∧ Q (.ref b) H) := by
  intro pins s σ H x y v u Q I rx ry h
  obtain ⟨a, b, ys, rfl, rfl, ha, hb, q⟩ := h
  cases rx
  cases ry
  obtain ⟨its, r1, p1, _⟩ := I.tuple ha
  obtain ⟨its2, r2, p2, _⟩ := I.tuple hb
  cases r1
  obtain ⟨⟨cls, dd, data, sl⟩, ho, hc, n, hd⟩ := id p1
  obtain ⟨⟨cls2, dd2, data2, sl2⟩, ho2, hc2, n2, hd2⟩ := id p2
  simp only at hc hd hc2 hd2
  subst hc hd hc2 hd2
  exact concat_meets ⟨_, ho, rfl⟩ ⟨_, ho2, rfl⟩ noFill_tuple_add seq_tuple_add PySem.F.slot_tuple_add PySem.F.entry_tuple_add (PySem.F.args_tuple_add_2 _ _)
    (tuple_addW0 a b _ its2.toArray n n2 dd dd2 sl sl2 (by simp)) ⟨ho, ho2, ⟨.ref b, H, I, rfl, q⟩⟩
def rAdd4 (K : PySem.W.Frag) : R2 := fun x y H Q =>
  rI0 (fun i j => .int (i + j)) x y H Q ∨ (∃ i j, x = .str i ∧ y = .str j ∧ i.length + j.length ≤ sizeLine ∧ Q (.str (i ++ j)) H) ∨ rCatT K x y H Q ∨
    (∃ a b ys, x = .ref a ∧ y = .ref b ∧ SqT K H a [] ∧ SqT K H b ys ∧ Q (.ref b) H) ∨ rCat x y H Q
theorem op_add4 : OpR X (binaryOp .Add) (rAdd4 X.K) := op_add.or (op_add_str.or (op_catT.or (op_catT0.or op_cat)))
def gAdd : List D → Option W
  | [.int i, .int j] => some (.d (.int (i + j)))
  | [.str a, .str b] => if a.length + b.length ≤ 16777216 then some (.d (.str (a ++ b))) else none
  | [.tuple a, .tuple b] => if a.length + b.length ≤ 16777216 then some (.d (.tuple (a ++ b))) else none
  | [.list a, .list b] => if a.length + b.length ≤ 16777216 then some (.fr (a ++ b)) else none
  | _ => none
theorem some_ite {α : Type} {c : Prop} [Decidable c] {a b : α} (h : (if c then some a else none) = some b) : c ∧ a = b := by
  by_cases hc : c
  · rw [if_pos hc] at h; exact ⟨hc, Option.some.inj h⟩
  · rw [if_neg hc] at h; cases h
theorem atom_add : Atom K (r2 (rAdd4 K)) gAdd := by
  intro Fz H vs xs w Q l h e k
  unfold gAdd at e
  split at e
  · cases e
    obtain ⟨v, u, rfl, h1, h2⟩ := paired2 h
    rw [h1.int, h2.int]
    exact .inl ⟨_, _, rfl, rfl, k _ _ _ (.val l (.int _))⟩
  · obtain ⟨hc, rfl⟩ := some_ite e
    obtain ⟨v, u, rfl, h1, h2⟩ := paired2 h
    rw [h1.str, h2.str]
    exact .inr (.inl ⟨_, _, rfl, rfl, by rw [sizeLine_eq]; exact hc, k _ _ _ (.val l (.str _))⟩)
  · rename_i as bs
    obtain ⟨hc, rfl⟩ := some_ite e
    obtain ⟨v, u, rfl, h1, h2⟩ := paired2 h
    obtain ⟨a, us, rfl, s1, d1⟩ := h1.tup
    obtain ⟨b, zs, rfl, s2, d2⟩ := h2.tup
    have l1 := d1.length
    have l2 := d2.length
    by_cases hn : us = []
    · subst hn
      cases d1
      refine .inr (.inr (.inr (.inl ⟨a, b, zs, rfl, rfl, s1, s2, k _ _ _ (.val l ?_)⟩)))
      rw [List.nil_append]
      rcases h2 with h2 | ⟨_, _, _, _, e, _⟩
      · exact h2
      · cases e
    · refine .inr (.inr (.inl ⟨a, b, us, zs, rfl, rfl, s1, s2, hn, by rw [sizeLine_eq]; omega, fun z => ?_, fun z p hp => ?_⟩))
      · subst z
        cases d2
        refine k _ _ _ (.val l ?_)
        rw [List.append_nil]
        rcases h1 with h1 | ⟨_, _, _, _, e, _⟩
        · exact h1
        · cases e
      · exact k _ _ _ (.newT l hp (d1.append d2))
  · obtain ⟨hc, rfl⟩ := some_ite e
    obtain ⟨v, u, rfl, h1, h2⟩ := paired2 h
    obtain ⟨a, us, rfl, s1, d1⟩ := h1.lst
    obtain ⟨b, zs, rfl, s2, d2⟩ := h2.lst
    have l1 := d1.length
    have l2 := d2.length
    exact .inr (.inr (.inr (.inr ⟨a, b, us, zs, rfl, rfl, s1, s2, by rw [sizeLine_eq]; omega, fun p hp => k _ _ _ (.newL l hp (d1.append d2))⟩)))
  · cases e

def gI (c : Int → Int → Bool) (g : Int → Int → D) : List D → Option W
  | [.int i, .int j] => if c i j = true then some (.d (g i j)) else none
  | _ => none
theorem atom_int {C : Int → Int → Prop} {gv : Int → Int → V} {c : Int → Int → Bool} {g : Int → Int → D} (hc : ∀ i j, c i j = true → C i j) (hg : ∀ (Fz : Addr → Prop) (H : Hp) i j, Dr K Fz H (gv i j) (g i j)) : Atom K (r2 (rI C gv)) (gI c g) := by
  intro Fz H vs xs w Q l h e k
  unfold gI at e
  split at e
  · obtain ⟨hcc, rfl⟩ := some_ite e
    obtain ⟨v, u, rfl, h1, h2⟩ := paired2 h
    rw [h1.int, h2.int]
    exact ⟨_, _, rfl, rfl, hc _ _ hcc, k _ _ _ (.val l (hg _ _ _ _))⟩
  · cases e
def gI0 (g : Int → Int → D) : List D → Option W
  | [.int i, .int j] => some (.d (g i j))
  | _ => none
theorem atom_int0 {gv : Int → Int → V} {g : Int → Int → D} (hg : ∀ (Fz : Addr → Prop) (H : Hp) i j, Dr K Fz H (gv i j) (g i j)) : Atom K (r2 (rI0 gv)) (gI0 g) := by
  intro Fz H vs xs w Q l h e k
  unfold gI0 at e
  split at e
  · cases e
    obtain ⟨v, u, rfl, h1, h2⟩ := paired2 h
    rw [h1.int, h2.int]
    exact ⟨_, _, rfl, rfl, k _ _ _ (.val l (hg _ _ _ _))⟩
  · cases e
abbrev gSub := gI0 fun i j => .int (i - j)
abbrev gMul := gI (fun i j => (decide (-(2 ^ 64) < i) && decide (i < 2 ^ 64)) || (decide (-(2 ^ 64) < j) && decide (j < 2 ^ 64))) fun i j => .int (i * j)
abbrev gMod := gI (fun _ j => decide (0 < j)) fun i j => .int (i % j)
abbrev gDiv := gI (fun _ j => decide (0 < j) && decide (j < 1073741824)) fun i j => .int (i / j)
abbrev gPow := gI (fun i j => decide (0 ≤ j) && (decide (j ≤ 1000000) && decide (i.natAbs < 2 ^ 64))) fun i j => .int (i ^ j.toNat)
theorem atom_sub : Atom K (r2 (rI0 fun i j => .int (i - j))) gSub := atom_int0 fun _ _ _ _ => .int _
theorem atom_mul : Atom K (r2 (rI CMul fun i j => .int (i * j))) gMul := atom_int (fun i j h => by
  simp only [Bool.or_eq_true, Bool.and_eq_true, decide_eq_true_eq] at h
  exact h) fun _ _ _ _ => .int _
theorem atom_mod : Atom K (r2 (rI (fun _ j => 0 < j) fun i j => .int (i % j))) gMod := atom_int (fun i j h => by simpa using h) fun _ _ _ _ => .int _
theorem atom_div : Atom K (r2 (rI CDiv fun i j => .int (i / j))) gDiv := atom_int (fun i j h => by
  simp only [Bool.and_eq_true, decide_eq_true_eq] at h
  exact h) fun _ _ _ _ => .int _
theorem atom_pow : Atom K (r2 (rI CPow fun i j => .int (i ^ j.toNat))) gPow := atom_int (fun i j h => by
  simp only [Bool.and_eq_true, decide_eq_true_eq] at h
  exact h) fun _ _ _ _ => .int _

def rCmp2 (p : Int → Int → Bool) (q : List Nat → List Nat → Bool) : R2 := fun x y H Q => rI0 (fun i j => .bl (p i j)) x y H Q ∨ ∃ i j, x = .str i ∧ y = .str j ∧ Q (.bl (q i.cps.toList j.cps.toList)) H
def gCmp (p : Int → Int → Bool) (q : List Nat → List Nat → Bool) : List D → Option W
  | [.int i, .int j] => some (.d (.bool (p i j)))
  | [.str a, .str b] => some (.d (.bool (q a.cps.toList b.cps.toList)))
  | _ => none
theorem atom_cmp {p : Int → Int → Bool} {q : List Nat → List Nat → Bool} : Atom K (r2 (rCmp2 p q)) (gCmp p q) := by
  intro Fz H vs xs w Q l h e k
  unfold gCmp at e
  split at e
  · cases e
    obtain ⟨v, u, rfl, h1, h2⟩ := paired2 h
    rw [h1.int, h2.int]
    exact .inl ⟨_, _, rfl, rfl, k _ _ _ (.val l (.bl _))⟩
  · cases e
    obtain ⟨v, u, rfl, h1, h2⟩ := paired2 h
    rw [h1.str, h2.str]
    exact .inr ⟨_, _, rfl, rfl, k _ _ _ (.val l (.bl _))⟩
  · cases e
abbrev pLt : Int → Int → Bool := fun i j => decide (i < j)
abbrev pLe : Int → Int → Bool := fun i j => decide (i ≤ j)
abbrev pGt : Int → Int → Bool := fun i j => decide (j < i)
abbrev pGe : Int → Int → Bool := fun i j => decide (j ≤ i)
abbrev qLt : List Nat → List Nat → Bool := fun i j => decide (i < j)
abbrev qLe : List Nat → List Nat → Bool := fun i j => !decide (j < i)
abbrev qGt : List Nat → List Nat → Bool := fun i j => decide (j < i)
abbrev qGe : List Nat → List Nat → Bool := fun i j => !decide (i < j)
theorem op_lt2 : OpR X (compareOp .Lt) (rCmp2 pLt qLt) := op_lt.or op_lt_str
theorem op_le2 : OpR X (compareOp .LtE) (rCmp2 pLe qLe) := op_le.or op_le_str
theorem op_gt2 : OpR X (compareOp .Gt) (rCmp2 pGt qGt) := op_gt.or op_gt_str
theorem op_ge2 : OpR X (compareOp .GtE) (rCmp2 pGe qGe) := op_ge.or op_ge_str
def gEq (n : Bool) : List D → Option W
  | [x, y] => if SeqAt.shaped x = true ∧ SeqAt.shaped y = true then some (.d (.bool (PyData.eqv x y != n))) else none
  | _ => none
theorem atom_eq : Atom K (r2 (rEqD K)) (gEq false) := by
  intro Fz H vs xs w Q l h e k
  unfold gEq at e
  split at e
  · obtain ⟨⟨c1, c2⟩, rfl⟩ := some_ite e
    obtain ⟨v, u, rfl, h1, h2⟩ := paired2 h
    refine ⟨_, _, h1.dp (SeqAt.canLay_of_shaped c1), h2.dp (SeqAt.canLay_of_shaped c2), c1, c2, ?_⟩
    have := k _ _ _ (.val l (.bl (PyData.eqv _ _ != false)))
    simpa using this
  · cases e
theorem atom_ne : Atom K (r2 (rNeD K)) (gEq true) := by
  intro Fz H vs xs w Q l h e k
  unfold gEq at e
  split at e
  · obtain ⟨⟨c1, c2⟩, rfl⟩ := some_ite e
    obtain ⟨v, u, rfl, h1, h2⟩ := paired2 h
    refine ⟨_, _, h1.dp (SeqAt.canLay_of_shaped c1), h2.dp (SeqAt.canLay_of_shaped c2), c1, c2, ?_⟩
    have := k _ _ _ (.val l (.bl (PyData.eqv _ _ != true)))
    simpa using this
  · cases e

def rInD (K : PySem.W.Frag) (n : Bool) : R2 := fun x y H Q => ∃ d xs, Dp K H x d ∧ (Dp K H y (.list xs) ∨ Dp K H y (.tuple xs)) ∧ SeqAt.shaped d = true ∧ PyData.canLayAll0 xs = true ∧ Q (.bl ((xs.any fun z => PyData.eqv z d) != n)) H
theorem op_notInD (hu : X.A.units + 65 < cLine) : OpR X (compareOp .NotIn) (rInD X.K true) := by
  intro pins s σ H x y v u Q I rx ry h
  obtain ⟨d, xs, hd, he, sd, se, q⟩ := h
  obtain ⟨as, r1⟩ := Dp.reads I d x v hd rx
  have q' : EP X pins σ Q (.bool (!(xs.any fun z => PyData.eqv z d))) s := ⟨.bl _, H, I, rfl, by simpa using q⟩
  rcases he with he | he
  · obtain ⟨bs, r2⟩ := Dp.reads I _ y u he ry
    exact SeqAt.notIn_list_reads r2 r1 se (SeqAt.canLay_of_shaped sd) (room_in_shaped sd hu) q'
  · obtain ⟨bs, r2⟩ := Dp.reads I _ y u he ry
    exact SeqAt.notIn_tuple_reads r2 r1 se (SeqAt.canLay_of_shaped sd) (room_in_shaped sd hu) q'
def gIn (n : Bool) : List D → Option W
  | [x, .list ys] => if SeqAt.shaped x = true ∧ PyData.canLayAll0 ys = true then some (.d (.bool ((ys.any fun z => PyData.eqv z x) != n))) else none
  | [x, .tuple ys] => if SeqAt.shaped x = true ∧ PyData.canLayAll0 ys = true then some (.d (.bool ((ys.any fun z => PyData.eqv z x) != n))) else none
  | _ => none
theorem atom_in {n : Bool} : Atom K (r2 (rInD K n)) (gIn n) := by
  intro Fz H vs xs w Q l h e k
  unfold gIn at e
  split at e
  · obtain ⟨⟨c1, c2⟩, rfl⟩ := some_ite e
    obtain ⟨v, u, rfl, h1, h2⟩ := paired2 h
    exact ⟨_, _, h1.dp (SeqAt.canLay_of_shaped c1), .inl (h2.dp c2), c1, c2, k _ _ _ (.val l (.bl _))⟩
  · obtain ⟨⟨c1, c2⟩, rfl⟩ := some_ite e
    obtain ⟨v, u, rfl, h1, h2⟩ := paired2 h
    exact ⟨_, _, h1.dp (SeqAt.canLay_of_shaped c1), .inr (h2.dp c2), c1, c2, k _ _ _ (.val l (.bl _))⟩
  · cases e
end
end L2.Q3
end

section
set_option Elab.async false
set_option linter.all false
set_option maxRecDepth 100000
set_option maxHeartbeats 4000000
namespace L2.Q3
open PySem PySem.Spec PyProof.Rows
section
variable {K : PySem.W.Frag} {Fz Fz' Fz1 Fz2 : Addr → Prop} {ρ ρ' ρ1 ρ2 : Rho} {σ : St} {H H' H1 H2 : Hp} {w : W} {v : V} {ws ws1 : List W} {vs vs1 : List V}
theorem PostL.seq (a : PostL K Fz Fz1 ρ ρ1 σ H H1 ws1 vs1) (b : PostL K Fz1 Fz2 ρ1 ρ2 σ H1 H2 ws vs) : PostL K Fz Fz2 ρ ρ2 σ H H2 ws vs :=
  ⟨b.rel, b.rep, fun p hp => ⟨a.step.live p (b.fresh p hp).1, (b.fresh p hp).2⟩, b.nd, a.step.trans b.step fun q z => .inl (a.own q z), fun p z => a.own p (b.own p z), a.kept.trans b.kept⟩
theorem PostL.drop (a : PostL K Fz Fz1 ρ ρ1 σ H H1 ws vs) : PostL K Fz Fz1 ρ ρ1 σ H H1 [] [] := a.seq (.nil a.rel)
end


def fVar (i : Nat) : Fe := fun ρ => match ρ[i]? with
  | some (some (.d x)) => some (.d x, ρ)
  | some (some (.fr _)) => some (.sl i, ρ)
  | _ => none
theorem fVar_some {i : Nat} {ρ ρ' : Rho} {w : W} (h : fVar i ρ = some (w, ρ')) : ρ' = ρ ∧ ((∃ x, ρ[i]? = some (some (.d x)) ∧ w = .d x) ∨ ∃ xs, ρ[i]? = some (some (.fr xs)) ∧ w = .sl i) := by
  unfold fVar at h
  split at h
  · rename_i x e
    cases h; exact ⟨rfl, .inl ⟨x, e, rfl⟩⟩
  · rename_i x e
    cases h; exact ⟨rfl, .inr ⟨x, e, rfl⟩⟩
  · cases h
section
variable {X : Cx}
theorem de_var {i : Nat} {x : Str} {pos : Pos} (hN : X.N[i]? = some x) (hv : Vis X.env.scope x) (hd : (x == ("__debug__" : Str)) = false := by decide) (hcd : (x == ("__classdict__" : Str)) = false := by decide) : DE X (.Name x pos) (fVar i) :=
  ⟨PE.imp (pe_var hN hv hd hcd) fun σ H Q h => by
    obtain ⟨Fz, ρ, w, ρ', r, e, q⟩ := h
    obtain ⟨rfl, ⟨x, e1, rfl⟩ | ⟨xs, e1, rfl⟩⟩ := fVar_some e
    · obtain ⟨v, hv, hr⟩ := r.val i _ e1
      exact ⟨v, hv, q v H Fz (.plain r hr)⟩
    · obtain ⟨v, hv, hr⟩ := r.val i _ e1
      exact ⟨v, hv, q v H Fz ⟨r, .cons hv .nil, fun p hp => by rw [frs_sl] at hp; exact absurd hp (by simp [frs]), frs_one_nd, .refl r.fzl, fun _ z => z, Kp.refl⟩⟩⟩
def fC (x : D) : Fe := fun ρ => some (.d x, ρ)
theorem de_con {e : Expr} {v : V} {x : D} (h : PE X e (tC v)) (hd : ∀ (Fz : Addr → Prop) (H : Hp), Dr X.K Fz H v x) : DE X e (fC x) :=
  ⟨PE.imp h fun σ H Q h => by
    obtain ⟨Fz, ρ, w, ρ', r, e, q⟩ := h
    cases e
    exact q v H Fz (.plain r (hd _ _))⟩
theorem de_int {i : Int} {j : Nat} {pos : Pos} : DE X (.Constant (.int i) j pos) (fC (.int i)) := de_con pe_int fun _ _ => .int i
theorem de_bool {b : Bool} {j : Nat} {pos : Pos} : DE X (.Constant (.bool b) j pos) (fC (.bool b)) := de_con pe_bl fun _ _ => .bl b
theorem de_none {j : Nat} {pos : Pos} : DE X (.Constant .none j pos) (fC .none) := de_con pe_non fun _ _ => .non
theorem de_str {x : Str} {j : Nat} {pos : Pos} : DE X (.Constant (.str x) j pos) (fC (.str x)) := de_con pe_str fun _ _ => .str x

theorem de_gint {x : Str} {i : Int} {t : Tok} {pos : Pos} (hg : Gl X x) (hm : X.mg x = some (.int i t)) (hd : (x == ("__debug__" : Str)) = false := by decide) : DE X (.Name x pos) (fC (.int i)) := de_con (pe_glob (v := .int i) hg hm ⟨t, rfl⟩ hd) fun _ _ => .int i


abbrev fe2 (g : List D → Option W) (fa fb : Fe) : Fe := feAtom g (faCons fa (faCons fb faNil))
abbrev fe1 (g : List D → Option W) (fa : Fe) : Fe := feAtom g (faCons fa faNil)
variable {a b c : Expr} {fa fb fc : Fe} {pos : Pos} {g g' : List D → Option W} {r r' : R2}
theorem de_op {op : Operator} (ho : OpR X (binaryOp op) r) (at_ : Atom X.K (r2 r) g) (ha : DE X a fa) (hb : DE X b fb) : DE X (.BinOp a op b pos) (fe2 g fa fb) :=
  ⟨PE.imp (pe_op ho ha.ok hb.ok) fun _ _ _ h => atom_go2 at_ h⟩
theorem de_cmp {op : CmpOp} (ho : OpR X (compareOp op) r) (at_ : Atom X.K (r2 r) g) (ha : DE X a fa) (hb : DE X b fb) (hm : behindInMarks op b = false) : DE X (.Compare a [op] [b] pos) (fe2 g fa fb) :=
  ⟨PE.imp (pe_cmpR ho ha.ok hb.ok hm) fun _ _ _ h => atom_go2 at_ h⟩

def ftB (f : Fe) : Ft := fun ρ => (f ρ).bind fun p => match p.1 with | .d (.bool b) => some (b, p.2) | _ => none
theorem ftB_some {f : Fe} {ρ ρ' : Rho} {b : Bool} (h : ftB f ρ = some (b, ρ')) : f ρ = some (.d (.bool b), ρ') := by
  unfold ftB at h
  cases e : f ρ with
  | none => rw [e] at h; cases h
  | some p =>
    obtain ⟨w, ρ1⟩ := p
    simp only [e, Option.bind_some] at h
    split at h
    · cases h; rfl
    · cases h
theorem test_go {K : PySem.W.Frag} {f : Fe} {σ : St} {H : Hp} {Q : Bool → Hp → Prop} (h : tT K (ftB f) σ H Q) : tE K f σ H fun x H' => ∃ k, x = .bl k ∧ Q k H' := by
  obtain ⟨Fz, ρ, b, ρ', r, e, q⟩ := h
  refine ⟨Fz, ρ, _, ρ', r, ftB_some e, fun v H' Fz' p => ?_⟩
  have hr : Dr K Fz' H' v (.bool b) := p.rep1
  cases hr
  exact ⟨b, rfl, q H' Fz' p.drop⟩
theorem dt_cmp {op : CmpOp} (ho : OpR X (compareOp op) r) (at_ : Atom X.K (r2 r) g) (ha : DE X a fa) (hb : DE X b fb) (hm : behindInMarks op b = false) : DT X (.Compare a [op] [b] pos) (ftB (fe2 g fa fb)) :=
  ⟨PT.imp (pt_cmpR ho ha.ok hb.ok hm) fun _ _ _ h => atom_go2 at_ (test_go h)⟩

def feChain (g g' : List D → Option W) (fa fb fc : Fe) : Fe := fun ρ => (faCons fa (faCons fb faNil) ρ).bind fun p => (rdAll p.2 p.1).bind fun xs => (g xs).bind fun
  | .d (.bool true) => (fc p.2).bind fun q => match p.1 with
    | [_, y] => (rdAll q.2 [y, q.1]).bind fun ys => (g' ys).bind fun w => some (w, q.2)
    | _ => none
  | .d (.bool false) => some (.d (.bool false), p.2)
  | _ => none
theorem chain_go {K : PySem.W.Frag} (at_ : Atom K (r2 r) g) (at' : Atom K (r2 r') g') {σ : St} {H : Hp} {Q : VK} (h : tE K (feChain g g' fa fb fc) σ H Q) : tChain r r' (tE K fa) (tE K fb) (tE K fc) σ H Q := by
  obtain ⟨Fz, ρ, w, ρ', rl, e, q⟩ := h
  unfold feChain at e
  cases e1 : faCons fa (faCons fb faNil) ρ with
  | none => rw [e1] at e; cases e
  | some p =>
    obtain ⟨ws, ρ2⟩ := p
    simp only [e1, Option.bind_some] at e
    obtain ⟨w1, ρ1, us, g1, g2, rfl⟩ := faCons_some e1
    obtain ⟨w2, ρ2', us2, g3, g4, rfl⟩ := faCons_some g2
    cases g4
    cases e2 : rdAll ρ2 [w1, w2] with
    | none => rw [e2] at e; cases e
    | some xs =>
      simp only [e2, Option.bind_some] at e
      refine ⟨Fz, ρ, w1, ρ1, rl, g1, fun v1 H1 Fz1 p1 => ⟨Fz1, ρ1, w2, ρ2, p1.rel, g3, fun v2 H2 Fz2 p2 => ?_⟩⟩
      have p12 := p1.cons p2
      cases e3 : g xs with
      | none => rw [e3] at e; cases e
      | some w3 =>
        simp only [e3, Option.bind_some] at e
        refine at_ Fz2 H2 [v1, v2] xs w3 _ p12.rel.fzl (p12.rel.rdgAll p12.rep e2) e3 fun v3 H3 Fz3 m => ?_
        have p3 := p12.made m
        cases w3 with
        | fr _ => cases e
        | sl _ => cases e
        | d x =>
          cases x with
          | bool k =>
            have hk : Dr K Fz3 H3 v3 (.bool k) := p3.rep1
            cases hk
            refine ⟨k, rfl, ?_⟩
            cases k with
            | false =>
              simp only at e
              cases e
              rw [if_neg (by decide)]
              exact q _ H3 Fz3 p3
            | true =>
              simp only at e
              rw [if_pos rfl]
              cases e4 : fc ρ2 with
              | none => rw [e4] at e; cases e
              | some z =>
                obtain ⟨w4, ρ4⟩ := z
                simp only [e4, Option.bind_some] at e
                cases e5 : rdAll ρ4 [w2, w4] with
                | none => rw [e5] at e; cases e
                | some ys =>
                  simp only [e5, Option.bind_some] at e
                  cases e6 : g' ys with
                  | none => rw [e6] at e; cases e
                  | some w5 =>
                    simp only [e6, Option.bind_some] at e
                    cases e
                    refine ⟨Fz3, ρ2, w4, ρ', p3.rel, e4, fun v4 H4 Fz4 p4 => ?_⟩
                    have p2' : PostL K Fz1 Fz3 ρ1 ρ2 σ H1 H3 [w2] [v2] := by
                      refine ⟨p3.rel, .cons (p2.rel.rep (m.step (Ow := Own ρ2 σ)) p2.rep1 fun xs p z1 z2 => ?_) .nil, fun p hp => ?_, frs_one_nd, p2.step.trans (m.step (Ow := Own ρ2 σ)) fun q z => .inl (p2.own q z), p2.own, p2.kept⟩
                      · subst z1; subst z2
                        exact (p2.fresh p (by rw [frs_fr]; exact List.mem_cons_self)).2.2
                      · obtain ⟨y1, y2, y3⟩ := p2.fresh p hp
                        refine ⟨y1, fun z => ?_, y3⟩
                        rcases m.new p z with z | z
                        · exact y2 z
                        · cases w2 with
                          | d _ => rw [frs_d] at hp; exact absurd hp (by simp [frs])
                          | sl _ => rw [frs_sl] at hp; exact absurd hp (by simp [frs])
                          | fr ys =>
                            obtain ⟨p', us, e1, e2, _⟩ := p2.rep1
                            subst e1
                            rw [frs_fr] at hp
                            have : p = p' := by simpa [frs] using hp
                            subst this
                            rw [z] at e2; cases e2
                    have p24 := p2'.cons p4
                    have tot := (p1.seq p24)
                    exact at' Fz4 H4 [v2, v4] ys w Q tot.rel.fzl (tot.rel.rdgAll tot.rep e5) e6 fun v H5 Fz5 m5 => q v H5 Fz5 (tot.made m5)
          | _ => cases e
theorem de_chain {op op' : CmpOp} (ho : OpR X (compareOp op) r) (at_ : Atom X.K (r2 r) g) (ho' : OpR X (compareOp op') r') (at' : Atom X.K (r2 r') g') (ha : DE X a fa) (hb : DE X b fb) (hc : DE X c fc)
    (hm : lastMarks [op, op'] [b, c] = false := by with_unfolding_all rfl) : DE X (.Compare a [op, op'] [b, c] pos) (feChain g g' fa fb fc) :=
  ⟨PE.imp (pe_chain ho ho' ha.ok hb.ok hc.ok hm) fun _ _ _ h => chain_go at_ at' h⟩
def tru : D → Option Bool
  | .none => some false
  | .bool b => some b
  | .int i => some (i != 0)
  | .str y => if y.length ≤ 16777216 then some ((y.length : Int) != 0) else none
  | .list xs => some (!xs.isEmpty)
  | .tuple xs => some (!xs.isEmpty)
  | .dict _ => none
def ftV (f : Fe) : Ft := fun ρ => (f ρ).bind fun p => (rdW p.2 p.1).bind fun x => (tru x).bind fun b => some (b, p.2)
theorem isEmpty_dr {K : PySem.W.Frag} {Fz : Addr → Prop} {H : Hp} {vs : List V} {xs : List D} (h : DrAll K Fz H vs xs) : xs.isEmpty = vs.isEmpty := by
  cases h <;> rfl
theorem tru_go {K : PySem.W.Frag} {Fz : Addr → Prop} {H : Hp} {v : V} {x : D} {b : Bool} (h : Rdg K Fz H v x) (e : tru x = some b) : TruV K v H b := by
  cases x with
  | none => cases e; rw [h.non]; exact rfl
  | bool _ => cases e; rw [h.bool]; exact rfl
  | int _ => cases e; rw [h.int]; exact rfl
  | str y =>
    obtain ⟨hc, rfl⟩ := some_ite e
    rw [h.str]
    exact ⟨by rw [sizeLine_eq]; exact hc, rfl⟩
  | list xs =>
    cases e
    obtain ⟨a, us, rfl, hs, hd⟩ := h.lst
    exact .inl ⟨us, SqL.of hs, by rw [isEmpty_dr hd]⟩
  | tuple xs =>
    cases e
    obtain ⟨a, us, rfl, hs, hd⟩ := h.tup
    exact .inr (.inl ⟨us, hs, by rw [isEmpty_dr hd]⟩)
  | dict _ => cases e
theorem dt_val (ha : DE X a fa) (he : ∀ whole, isTrue a X.env whole = (do let v ← whole; standAt a.pos; holding [v] (truthy v)) := by intro _; rfl) : DT X a (ftV fa) :=
  ⟨PT.imp (pt_truth ha.ok he) fun σ H Q h => by
    obtain ⟨Fz, ρ, b, ρ', r, e, q⟩ := h
    unfold ftV at e
    cases e1 : fa ρ with
    | none => rw [e1] at e; cases e
    | some p =>
      obtain ⟨w, ρ1⟩ := p
      simp only [e1, Option.bind_some] at e
      cases e2 : rdW ρ1 w with
      | none => rw [e2] at e; cases e
      | some x =>
        simp only [e2, Option.bind_some] at e
        cases e3 : tru x with
        | none => rw [e3] at e; cases e
        | some b' =>
          simp only [e3, Option.bind_some] at e
          cases e
          exact ⟨Fz, ρ, w, ρ', r, e1, fun v H' Fz' p => ⟨b, tru_go (p.rel.rdg p.rep1 e2) e3, q H' Fz' p.drop⟩⟩⟩

def ftAnd (f g : Ft) : Ft := fun ρ => (f ρ).bind fun p => if p.1 = true then g p.2 else some (false, p.2)
def ftOr (f g : Ft) : Ft := fun ρ => (f ρ).bind fun p => if p.1 = true then some (true, p.2) else g p.2
def ftNot (f : Ft) : Ft := fun ρ => (f ρ).bind fun p => some (!p.1, p.2)
variable {ft gt : Ft} {rest : List Expr}
structure DW (X : Cx) (e : Expr) (f : Ft) : Prop where
  ok : PW X e (tT X.K f)
theorem PW.imp {e : Expr} {t t' : TT} (h : PW X e t) (i : ∀ σ H Q, t' σ H Q → t σ H Q) : PW X e t' := fun wh pins s σ H Q I q => h wh pins s σ H Q I (i σ H Q q)
theorem and_go {K : PySem.W.Frag} {σ : St} {H : Hp} {Q : Bool → Hp → Prop} (h : tT K (ftAnd ft gt) σ H Q) : tAnd (tT K ft) (tT K gt) σ H Q := by
  obtain ⟨Fz, ρ, b, ρ', r, e, q⟩ := h
  unfold ftAnd at e
  cases e1 : ft ρ with
  | none => rw [e1] at e; cases e
  | some p =>
    obtain ⟨k, ρ1⟩ := p
    simp only [e1, Option.bind_some] at e
    refine ⟨Fz, ρ, k, ρ1, r, e1, fun H1 Fz1 p1 => ?_⟩
    cases k with
    | true =>
      rw [if_pos rfl] at e ⊢
      exact ⟨Fz1, ρ1, b, ρ', p1.rel, e, fun H2 Fz2 p2 => q H2 Fz2 (p1.seq p2)⟩
    | false =>
      rw [if_neg (by decide)] at e ⊢
      cases e
      exact q H1 Fz1 p1
theorem or_go {K : PySem.W.Frag} {σ : St} {H : Hp} {Q : Bool → Hp → Prop} (h : tT K (ftOr ft gt) σ H Q) : tOr (tT K ft) (tT K gt) σ H Q := by
  obtain ⟨Fz, ρ, b, ρ', r, e, q⟩ := h
  unfold ftOr at e
  cases e1 : ft ρ with
  | none => rw [e1] at e; cases e
  | some p =>
    obtain ⟨k, ρ1⟩ := p
    simp only [e1, Option.bind_some] at e
    refine ⟨Fz, ρ, k, ρ1, r, e1, fun H1 Fz1 p1 => ?_⟩
    cases k with
    | false =>
      rw [if_neg (by decide)] at e ⊢
      exact ⟨Fz1, ρ1, b, ρ', p1.rel, e, fun H2 Fz2 p2 => q H2 Fz2 (p1.seq p2)⟩
    | true =>
      rw [if_pos rfl] at e ⊢
      cases e
      exact q H1 Fz1 p1
theorem dw_and1 (ha : DT X a ft) : DW X (.BoolOp .And [a] pos) ft := ⟨pw_and1 ha.ok⟩
theorem dw_or1 (ha : DT X a ft) : DW X (.BoolOp .Or [a] pos) ft := ⟨pw_or1 ha.ok⟩
theorem dw_and (ha : DT X a ft) (hb : DW X (.BoolOp .And (b :: rest) pos) gt) : DW X (.BoolOp .And (a :: b :: rest) pos) (ftAnd ft gt) := ⟨PW.imp (pw_and ha.ok hb.ok) fun _ _ _ h => and_go h⟩
theorem dw_or (ha : DT X a ft) (hb : DW X (.BoolOp .Or (b :: rest) pos) gt) : DW X (.BoolOp .Or (a :: b :: rest) pos) (ftOr ft gt) := ⟨PW.imp (pw_or ha.ok hb.ok) fun _ _ _ h => or_go h⟩
theorem dt_w {e : Expr} (h : DW X e ft) : DT X e ft := ⟨PW.pt h.ok⟩
theorem dt_not (ha : DT X a ft) : DT X (.UnaryOp .Not a pos) (ftNot ft) :=
  ⟨PT.imp (pt_not ha.ok) fun σ H Q h => by
    obtain ⟨Fz, ρ, b, ρ', r, e, q⟩ := h
    unfold ftNot at e
    cases e1 : ft ρ with
    | none => rw [e1] at e; cases e
    | some p =>
      obtain ⟨k, ρ1⟩ := p
      simp only [e1, Option.bind_some] at e
      cases e
      exact ⟨Fz, ρ, k, ρ', r, e1, fun H1 Fz1 p1 => q H1 Fz1 p1⟩⟩

def feAnd (fa fb : Fe) : Fe := fun ρ => (ftB fa ρ).bind fun p => if p.1 = true then fb p.2 else some (.d (.bool false), p.2)
def feOr (fa fb : Fe) : Fe := fun ρ => (ftB fa ρ).bind fun p => if p.1 = true then some (.d (.bool true), p.2) else fb p.2
def feNot (fa : Fe) : Fe := fun ρ => (ftB fa ρ).bind fun p => some (.d (.bool (!p.1)), p.2)
def feIf (ft : Ft) (fa fb : Fe) : Fe := fun ρ => (ft ρ).bind fun p => if p.1 = true then fa p.2 else fb p.2
theorem ftB_go {K : PySem.W.Frag} {σ : St} {H : Hp} {Q : VK} {k : Bool → Fe} (h : tE K (fun ρ => (ftB fa ρ).bind fun p => k p.1 p.2) σ H Q) : tE K fa σ H fun x H1 => ∃ c, x = .bl c ∧ tE K (k c) σ H1 Q := by
  obtain ⟨Fz, ρ, w, ρ', r, e, q⟩ := h
  dsimp only at e
  cases e1 : ftB fa ρ with
  | none => rw [e1] at e; cases e
  | some p =>
    obtain ⟨c, ρ1⟩ := p
    simp only [e1, Option.bind_some] at e
    refine ⟨Fz, ρ, _, ρ1, r, ftB_some e1, fun v H1 Fz1 p1 => ?_⟩
    have hr : Dr K Fz1 H1 v (.bool c) := p1.rep1
    cases hr
    exact ⟨c, rfl, Fz1, ρ1, w, ρ', p1.rel, e, fun v2 H2 Fz2 p2 => q v2 H2 Fz2 (p1.seq p2)⟩
theorem tE_con {K : PySem.W.Frag} {σ : St} {H : Hp} {Q : VK} {v : V} {x : D} (h : tE K (fC x) σ H Q) (hd : ∀ (Fz : Addr → Prop) (H : Hp), Dr K Fz H v x) : Q v H := by
  obtain ⟨Fz, ρ, w, ρ', r, e, q⟩ := h
  cases e
  exact q v H Fz (.plain r (hd _ _))
theorem tE_mono {K : PySem.W.Frag} {σ : St} {H : Hp} {Q Q' : VK} {f : Fe} (h : tE K f σ H Q) (i : ∀ v H, Q v H → Q' v H) : tE K f σ H Q' := by
  obtain ⟨Fz, ρ, w, ρ', r, e, q⟩ := h
  exact ⟨Fz, ρ, w, ρ', r, e, fun v H' Fz' p => i _ _ (q v H' Fz' p)⟩
theorem de_one {op : BoolOp} (h : DE X a fa) : DE X (.BoolOp op [a] pos) fa := ⟨pe_one h.ok⟩
theorem de_and (ha : DE X a fa) (hb : DE X (.BoolOp .And (b :: rest) pos) fb) : DE X (.BoolOp .And (a :: b :: rest) pos) (feAnd fa fb) :=
  ⟨PE.imp (pe_and ha.ok hb.ok) fun σ H Q h => by
    have e : feAnd fa fb = fun ρ => (ftB fa ρ).bind fun p => (if p.1 = true then fb else fC (.bool false)) p.2 := by
      funext ρ; unfold feAnd; congr; funext p; split <;> rfl
    rw [e] at h
    refine tE_mono (ftB_go (k := fun c => if c = true then fb else fC (.bool false)) h) fun v H1 z => ?_
    obtain ⟨c, e, z⟩ := z
    refine ⟨c, e, ?_⟩
    cases c with
    | true => rw [if_pos rfl] at z ⊢; exact z
    | false => rw [if_neg (by decide)] at z ⊢; exact tE_con z fun _ _ => .bl false⟩
theorem de_or (ha : DE X a fa) (hb : DE X (.BoolOp .Or (b :: rest) pos) fb) : DE X (.BoolOp .Or (a :: b :: rest) pos) (feOr fa fb) :=
  ⟨PE.imp (pe_or ha.ok hb.ok) fun σ H Q h => by
    have e : feOr fa fb = fun ρ => (ftB fa ρ).bind fun p => (if p.1 = true then fC (.bool true) else fb) p.2 := by
      funext ρ; unfold feOr; congr; funext p; split <;> rfl
    rw [e] at h
    refine tE_mono (ftB_go (k := fun c => if c = true then fC (.bool true) else fb) h) fun v H1 z => ?_
    obtain ⟨c, e, z⟩ := z
    refine ⟨c, e, ?_⟩
    cases c with
    | true => rw [if_pos rfl] at z ⊢; exact tE_con z fun _ _ => .bl true
    | false => rw [if_neg (by decide)] at z ⊢; exact z⟩
theorem de_not (ha : DE X a fa) : DE X (.UnaryOp .Not a pos) (feNot fa) :=
  ⟨PE.imp (pe_not ha.ok) fun σ H Q h => tE_mono (ftB_go (k := fun c => fC (.bool (!c))) h) fun v H1 ⟨c, e, z⟩ => ⟨c, e, tE_con z fun _ _ => .bl (!c)⟩⟩
theorem de_if (hc : DT X c ft) (ha : DE X a fa) (hb : DE X b fb) : DE X (.IfExp c a b pos) (feIf ft fa fb) :=
  ⟨PE.imp (pe_ifExp hc.ok ha.ok hb.ok) fun σ H Q h => by
    obtain ⟨Fz, ρ, w, ρ', r, e, q⟩ := h
    unfold feIf at e
    cases e1 : ft ρ with
    | none => rw [e1] at e; cases e
    | some p =>
      obtain ⟨k, ρ1⟩ := p
      simp only [e1, Option.bind_some] at e
      refine ⟨Fz, ρ, k, ρ1, r, e1, fun H1 Fz1 p1 => ?_⟩
      cases k with
      | true =>
        rw [if_pos rfl] at e ⊢
        exact ⟨Fz1, ρ1, w, ρ', p1.rel, e, fun v H2 Fz2 p2 => q v H2 Fz2 (p1.seq p2)⟩
      | false =>
        rw [if_neg (by decide)] at e ⊢
        exact ⟨Fz1, ρ1, w, ρ', p1.rel, e, fun v H2 Fz2 p2 => q v H2 Fz2 (p1.seq p2)⟩⟩
end
end L2.Q3
end

section
set_option Elab.async false
set_option linter.all false
set_option maxRecDepth 100000
set_option maxHeartbeats 4000000
namespace L2.Q3
open PySem PySem.Spec PyProof.Rows

def esc1 (ρ : Rho) : W → Option (D × Rho)
  | .d x => some (x, ρ)
  | .fr xs => some (.list xs, ρ)
  | .sl i => match ρ[i]? with
    | some (some (.d x)) => some (x, ρ)
    | some (some (.fr xs)) => some (.list xs, ρ.set i (some (.d (.list xs))))
    | _ => none
def escAll (ρ : Rho) : List W → Option (List D × Rho)
  | [] => some ([], ρ)
  | w :: ws => (esc1 ρ w).bind fun p => (escAll p.2 ws).bind fun q => some (p.1 :: q.1, q.2)
section
variable {K : PySem.W.Frag} {Fz Fz' Fz1 Fz2 : Addr → Prop} {ρ ρ' ρ1 ρ2 : Rho} {σ : St} {H H' H1 H2 : Hp} {w : W} {v : V} {ws ws1 : List W} {vs vs1 : List V}
theorem esc1_sl {i : Nat} {x : D} (h : esc1 ρ (.sl i) = some (x, ρ')) : (ρ[i]? = some (some (.d x)) ∧ ρ' = ρ) ∨ ∃ xs, ρ[i]? = some (some (.fr xs)) ∧ x = .list xs ∧ ρ' = ρ.set i (some (.d (.list xs))) := by
  unfold esc1 at h
  simp only at h
  split at h
  · rename_i y e
    cases h; exact .inl ⟨e, rfl⟩
  · rename_i y e
    cases h; exact .inr ⟨y, e, rfl, rfl⟩
  · cases h
theorem Rel.more (r : Rel K Fz ρ σ H) {p : Addr} (hp : H p ≠ none) (no : ¬ Own ρ σ p) : Rel K (fun q => Fz q ∨ q = p) ρ σ H := by
  refine ⟨r.len, fun i w e => ?_, r.apart, fun q o z => ?_, fun q z => ?_⟩
  · obtain ⟨v, hv, hr⟩ := r.val i w e
    refine ⟨v, hv, ?_⟩
    cases w with
    | d x => exact Dr.keep (fun q => .inl) (fun _ _ _ e => e) _ _ hr
    | fr xs =>
      obtain ⟨a, us, e1, e2, e3⟩ := hr
      exact ⟨a, us, e1, e2, DrAll.keep (fun q => .inl) (fun _ _ _ e => e) _ _ e3⟩
    | sl _ => exact hr
  · rcases z with z | rfl
    · exact r.nofz q o z
    · exact no o
  · rcases z with z | rfl
    · exact r.fzl q z
    · exact hp
theorem getElem?_set_eq {α : Type} {l : List α} {i : Nat} {a b : α} (h : l[i]? = some b) : (l.set i a)[i]? = some a := by
  have : i < l.length := (List.getElem?_eq_some_iff.mp h).1
  rw [List.getElem?_set_self this]
theorem own_set {i : Nat} {x : Option W} (hx : ∀ xs, x ≠ some (.fr xs)) {p : Addr} (h : Own (ρ.set i x) σ p) : Own ρ σ p ∧ ∃ j xs, j ≠ i ∧ ρ[j]? = some (some (W.fr xs)) ∧ σ[j]? = some (some (V.ref p)) := by
  obtain ⟨j, xs, e1, e2⟩ := h
  by_cases z : i = j
  · subst z
    by_cases hl : i < ρ.length
    · rw [List.getElem?_set_self hl] at e1
      exact absurd (Option.some.inj e1) (hx xs)
    · rw [List.getElem?_eq_none (by simpa using hl)] at e1; cases e1
  · rw [List.getElem?_set_ne z] at e1
    exact ⟨⟨j, xs, e1, e2⟩, j, xs, fun e => z e.symm, e1, e2⟩

theorem Rel.freeze (r : Rel K Fz ρ σ H) {i : Nat} {xs : List D} {p : Addr} (e1 : ρ[i]? = some (some (.fr xs))) (e2 : σ[i]? = some (some (V.ref p))) :
    Rel K (fun q => Fz q ∨ q = p) (ρ.set i (some (.d (.list xs)))) σ H ∧ Dr K (fun q => Fz q ∨ q = p) H (.ref p) (.list xs) := by
  obtain ⟨v, hv, a, us, h1, h2, h3⟩ := r.val i _ e1
  rw [e2] at hv
  cases hv
  cases h1
  have d3 : DrAll K (fun q => Fz q ∨ q = p) H us xs := DrAll.keep (fun q => .inl) (fun _ _ _ e => e) _ _ h3
  have hd : Dr K (fun q => Fz q ∨ q = p) H (.ref p) (.list xs) := .lst (.inr rfl) h2 d3
  refine ⟨⟨by rw [List.length_set]; exact r.len, fun j w e => ?_, fun j k as bs q f1 f2 f3 f4 => ?_, fun q o z => ?_, fun q z => ?_⟩, hd⟩
  · by_cases z : i = j
    · subst z
      rw [getElem?_set_eq e1] at e
      cases e
      exact ⟨_, e2, hd⟩
    · rw [List.getElem?_set_ne z] at e
      obtain ⟨v, hv, hr⟩ := r.val j w e
      refine ⟨v, hv, ?_⟩
      cases w with
      | d x => exact Dr.keep (fun q => .inl) (fun _ _ _ e => e) _ _ hr
      | fr ys =>
        obtain ⟨b, us', g1, g2, g3⟩ := hr
        exact ⟨b, us', g1, g2, DrAll.keep (fun q => .inl) (fun _ _ _ e => e) _ _ g3⟩
      | sl _ => exact hr
  · have ne : ∀ {j as}, (ρ.set i (some (.d (.list xs))))[j]? = some (some (W.fr as)) → ρ[j]? = some (some (W.fr as)) := fun {j as} f => by
      by_cases z : i = j
      · subst z; rw [getElem?_set_eq e1] at f; cases f
      · rw [List.getElem?_set_ne z] at f; exact f
    exact r.apart j k as bs q (ne f1) (ne f2) f3 f4
  · obtain ⟨o1, j, ys, nj, g1, g2⟩ := own_set (fun xs e => by cases e) o
    rcases z with z | rfl
    · exact r.nofz q o1 z
    · exact nj (r.apart j i ys xs q g1 e1 g2 e2)
  · rcases z with z | rfl
    · exact r.fzl q z
    · rw [h2]; exact fun e => nomatch e
theorem esc_go : ∀ {ws : List W} {vs : List V} {Fz : Addr → Prop} {ρ ρ' : Rho} {xs : List D}, Rel K Fz ρ σ H → Paired (RepW K Fz σ H) ws vs → (∀ p ∈ frs ws vs, ¬ Fz p ∧ ¬ Own ρ σ p) → (frs ws vs).Nodup → escAll ρ ws = some (xs, ρ') →
    ∃ Fz' : Addr → Prop, (∀ q, Fz q → Fz' q) ∧ (∀ q, Fz' q → Fz q ∨ q ∈ frs ws vs ∨ Own ρ σ q) ∧ Rel K Fz' ρ' σ H ∧ DrAll K Fz' H vs xs ∧ (∀ p, Own ρ' σ p → Own ρ σ p) ∧ Kp ρ ρ'
  | [], _, Fz, ρ, _, _, r, .nil, _, _, e => by
    cases e
    exact ⟨Fz, fun _ z => z, fun _ z => .inl z, r, .nil, fun _ z => z, Kp.refl⟩
  | w :: ws, _, Fz, ρ, ρ', xs, r, .cons (b := v) (l₂ := vs) h t, hf, nd, e => by
    unfold escAll at e
    cases e1 : esc1 ρ w with
    | none => rw [e1] at e; cases e
    | some p =>
      obtain ⟨x, ρ1⟩ := p
      simp only [e1, Option.bind_some] at e
      cases e2 : escAll ρ1 ws with
      | none => rw [e2] at e; cases e
      | some q =>
        obtain ⟨ys, ρ2⟩ := q
        simp only [e2, Option.bind_some] at e
        cases e
        have key : ∃ Fz1 : Addr → Prop, (∀ q, Fz q → Fz1 q) ∧ (∀ q, Fz1 q → Fz q ∨ q ∈ frs (w :: ws) (v :: vs) ∨ Own ρ σ q) ∧ Rel K Fz1 ρ1 σ H ∧ Dr K Fz1 H v x ∧ (∀ p, Own ρ1 σ p → Own ρ σ p) ∧ Kp ρ ρ1 ∧
            (∀ p ∈ frs ws vs, ¬ Fz1 p) := by
          cases w with
          | d y =>
            cases e1
            exact ⟨Fz, fun _ z => z, fun _ z => .inl z, r, h, fun _ z => z, Kp.refl, fun p hp => (hf p (by rw [frs_d]; exact hp)).1⟩
          | fr zs =>
            obtain ⟨p, us, rfl, g1, g2⟩ := h
            cases e1
            rw [frs_fr] at nd hf
            obtain ⟨n1, n2⟩ := hf p List.mem_cons_self
            refine ⟨fun q => Fz q ∨ q = p, fun _ => .inl, fun q z => z.imp id fun z => .inl (by rw [frs_fr, z]; exact List.mem_cons_self), r.more (by rw [g1]; exact fun e => nomatch e) n2, .lst (.inr rfl) g1 (DrAll.keep (fun q => .inl) (fun _ _ _ e => e) _ _ g2), fun _ z => z, Kp.refl, fun q hq z => ?_⟩
            rcases z with z | rfl
            · exact (hf q (List.mem_cons_of_mem _ hq)).1 z
            · exact (List.nodup_cons.mp nd).1 hq
          | sl i =>
            rw [frs_sl] at nd hf
            have h' : σ[i]? = some (some v) := h
            rcases esc1_sl e1 with ⟨g, rfl⟩ | ⟨zs, g, rfl, rfl⟩
            · obtain ⟨u, hu, hr⟩ := r.val i _ g
              rw [h'] at hu
              cases hu
              exact ⟨Fz, fun _ z => z, fun _ z => .inl z, r, hr, fun _ z => z, Kp.refl, fun p hp => (hf p hp).1⟩
            · obtain ⟨u, hu, p, us, g1, g2, g3⟩ := r.val i _ g
              rw [h'] at hu
              cases hu
              subst g1
              obtain ⟨fr, fd⟩ := r.freeze g h'
              refine ⟨fun q => Fz q ∨ q = p, fun _ => .inl, fun q z => z.imp id fun z => .inr (by rw [z]; exact ⟨i, zs, g, h'⟩), fr, fd, fun q o => (own_set (fun xs e => by cases e) o).1, fun k w e => ?_, fun q hq z => ?_⟩
              · by_cases z : i = k
                · subst z; exact ⟨_, getElem?_set_eq g, fun _ => rfl⟩
                · exact ⟨w, by rw [List.getElem?_set_ne z]; exact e, id⟩
              · rcases z with z | rfl
                · exact (hf q hq).1 z
                · exact (hf q hq).2 ⟨i, zs, g, h'⟩
        obtain ⟨Fz1, k1, k2, k3, k4, k5, k6, k7⟩ := key
        have hf' : ∀ p ∈ frs ws vs, ¬ Fz1 p ∧ ¬ Own ρ1 σ p := fun p hp => ⟨k7 p hp, fun o => by
          have o' := k5 p o
          cases w with
          | d y => rw [frs_d] at hf; exact (hf p hp).2 o'
          | sl i => rw [frs_sl] at hf; exact (hf p hp).2 o'
          | fr zs =>
            obtain ⟨p', us, rfl, _⟩ := h
            rw [frs_fr] at hf; exact (hf p (List.mem_cons_of_mem _ hp)).2 o'⟩
        have nd' : (frs ws vs).Nodup := by
          cases w with
          | d y => rw [frs_d] at nd; exact nd
          | sl i => rw [frs_sl] at nd; exact nd
          | fr zs =>
            obtain ⟨p', us, rfl, _⟩ := h
            rw [frs_fr] at nd; exact (List.nodup_cons.mp nd).2
        have sub : ∀ q, q ∈ frs ws vs → q ∈ frs (w :: ws) (v :: vs) := fun q hq => by
          cases w with
          | d y => rw [frs_d]; exact hq
          | sl i => rw [frs_sl]; exact hq
          | fr zs =>
            obtain ⟨p', us, rfl, _⟩ := h
            rw [frs_fr]; exact List.mem_cons_of_mem _ hq
        have t' : Paired (RepW K Fz1 σ H) ws vs := L2.Paired.mapP t fun a b z => by
          cases a with
          | d y => exact Dr.keep k1 (fun _ _ _ e => e) _ _ z
          | fr zs =>
            obtain ⟨p', us, g1, g2, g3⟩ := z
            exact ⟨p', us, g1, g2, DrAll.keep k1 (fun _ _ _ e => e) _ _ g3⟩
          | sl i => exact z
        obtain ⟨Fz2, m1, m2, m3, m4, m5, m6⟩ := esc_go k3 t' hf' nd' e2
        refine ⟨Fz2, fun q z => m1 q (k1 q z), fun q z => ?_, m3, .cons (Dr.keep m1 (fun _ _ _ e => e) _ _ k4) m4, fun p z => k5 p (m5 p z), k6.trans m6⟩
        · rcases m2 q z with z | z | z
          · exact k2 q z
          · exact .inr (.inl (sub q z))
          · exact .inr (.inr (k5 q z))

theorem PostL.esc (a : PostL K Fz Fz1 ρ ρ1 σ H H1 ws vs) {xs : List D} (e : escAll ρ1 ws = some (xs, ρ2)) : ∃ Fz2, PostL K Fz Fz2 ρ ρ2 σ H H1 [] [] ∧ DrAll K Fz2 H1 vs xs := by
  obtain ⟨Fz2, m1, m2, m3, m4, m5, m6⟩ := esc_go a.rel a.rep (fun p hp => (a.fresh p hp).2) a.nd e
  refine ⟨Fz2, ⟨m3, .nil, fun p hp => absurd (show p ∈ ([] : List Addr) from hp) (by simp), List.nodup_nil, ⟨m3.fzl, a.step.keep, a.step.live, fun q z => m1 q (a.step.grow q z), fun q z => ?_⟩, fun p z => a.own p (m5 p z), a.kept.trans m6⟩, m4⟩
  · rcases m2 q z with z | z | z
    · exact a.step.new q z
    · exact .inr (.inl (a.fresh q z).1)
    · exact .inr (.inr (a.own q z))
end

def feTup (f : Fa) : Fe := fun ρ => (f ρ).bind fun p => (escAll p.2 p.1).bind fun q => if q.1.length ≤ 16777216 then some (.d (.tuple q.1), q.2) else none
def feLst (f : Fa) : Fe := fun ρ => (f ρ).bind fun p => (escAll p.2 p.1).bind fun q => if q.1.length ≤ 16777216 then some (.fr q.1, q.2) else none
theorem disp_some {f : Fa} {ρ ρ' : Rho} {mk : List D → W} {w : W} (h : ((f ρ).bind fun p => (escAll p.2 p.1).bind fun q => if q.1.length ≤ 16777216 then some (mk q.1, q.2) else none) = some (w, ρ')) :
    ∃ ws ρ1 xs, f ρ = some (ws, ρ1) ∧ escAll ρ1 ws = some (xs, ρ') ∧ xs.length ≤ 16777216 ∧ w = mk xs := by
  cases e1 : f ρ with
  | none => rw [e1] at h; cases h
  | some p =>
    obtain ⟨ws, ρ1⟩ := p
    simp only [e1, Option.bind_some] at h
    cases e2 : escAll ρ1 ws with
    | none => rw [e2] at h; cases h
    | some q =>
      obtain ⟨xs, ρ2⟩ := q
      simp only [e2, Option.bind_some] at h
      obtain ⟨h1, h2⟩ := some_ite h
      cases h2
      exact ⟨ws, ρ1, xs, rfl, e2, h1, rfl⟩
section
variable {X : Cx} {es : List Expr} {f : Fa} {pos : Pos}
theorem de_tup {x1} (h : DA X es f) : DE X (.Tuple es x1 pos) (feTup f) :=
  ⟨PE.imp (pe_tup h.ok) fun σ H Q h => by
    obtain ⟨Fz, ρ, w, ρ', r, e, q⟩ := h
    obtain ⟨ws, ρ1, xs, e1, e2, hl, rfl⟩ := disp_some (mk := fun xs => W.d (.tuple xs)) e
    refine ⟨Fz, ρ, ws, ρ1, r, e1, fun vs H1 Fz1 p1 => ?_⟩
    obtain ⟨Fz2, p2, d2⟩ := p1.esc e2
    exact ⟨by rw [d2.length, sizeLine_eq]; exact hl, fun p hp => q _ _ _ (p2.made (.newT p2.rel.fzl hp d2))⟩⟩
theorem de_lst (h : DA X es f) : DE X (.List es pos) (feLst f) :=
  ⟨PE.imp (pe_lst h.ok) fun σ H Q h => by
    obtain ⟨Fz, ρ, w, ρ', r, e, q⟩ := h
    obtain ⟨ws, ρ1, xs, e1, e2, hl, rfl⟩ := disp_some (mk := fun xs => W.fr xs) e
    refine ⟨Fz, ρ, ws, ρ1, r, e1, fun vs H1 Fz1 p1 => ?_⟩
    obtain ⟨Fz2, p2, d2⟩ := p1.esc e2
    exact ⟨by rw [d2.length, sizeLine_eq]; exact hl, fun p hp => q _ _ _ (p2.made (.newL p2.rel.fzl hp d2))⟩⟩
end
end L2.Q3
end

section
set_option Elab.async false
set_option linter.all false
set_option maxRecDepth 100000
set_option maxHeartbeats 4000000
namespace L2.Q3
open PySem PySem.Spec PyProof.Rows

abbrev Fn := List W → Option (W × List W)
structure ArgsOk (K : PySem.W.Frag) (Fz : Addr → Prop) (H : Hp) (ws : List W) (vs : List V) : Prop where
  len : ws.length = vs.length
  rep : ∀ (k : Nat) (w : W), ws[k]? = some w → ∃ v, vs[k]? = some v ∧ RepS K Fz H w v
  apart : ∀ (i j : Nat) (xs ys : List D) (p : Addr), ws[i]? = some (W.fr xs) → ws[j]? = some (W.fr ys) → vs[i]? = some (V.ref p) → vs[j]? = some (V.ref p) → i = j
  nofz : ∀ (k : Nat) (xs : List D) (p : Addr), ws[k]? = some (W.fr xs) → vs[k]? = some (V.ref p) → ¬ Fz p
  fzl : ∀ q, Fz q → H q ≠ none
def AOwn (ws : List W) (vs : List V) (p : Addr) : Prop := ∃ (k : Nat) (xs : List D), ws[k]? = some (W.fr xs) ∧ vs[k]? = some (V.ref p)
structure CPost (K : PySem.W.Frag) (Fz Fz' : Addr → Prop) (H H' : Hp) (ws : List W) (vs : List V) (r : W) (v : V) (fin : List W) : Prop where
  step : Step (AOwn ws vs) Fz Fz' H H'
  rep : RepS K Fz' H' r v
  fresh : ∀ xs p, r = .fr xs → v = .ref p → H p = none ∧ ¬ Fz' p
  fin : ∀ (k : Nat) (p : Addr) (xs : List D), ws[k]? = some (W.fr xs) → vs[k]? = some (V.ref p) →
    (∃ ys us, fin[k]? = some (W.fr ys) ∧ H' p = some (.lst us) ∧ DrAll K Fz' H' us ys ∧ ¬ Fz' p) ∨ (∃ ys, fin[k]? = some (W.d (.list ys)) ∧ Dr K Fz' H' (.ref p) (.list ys))
def spF (K : PySem.W.Frag) (np : Nat) (F : Fn) : Sp := fun vs H Q _ => vs.length = np ∧ ∃ Fz ws r fin, ArgsOk K Fz H ws vs ∧ F ws = some (r, fin) ∧ ∀ v H' Fz', CPost K Fz Fz' H H' ws vs r v fin → Q v H'

def arg1 (ρ : Rho) : W → Option W
  | .d x => some (.d x)
  | .fr xs => some (.fr xs)
  | .sl i => match ρ[i]? with
    | some (some (.d x)) => some (.d x)
    | some (some (.fr xs)) => some (.fr xs)
    | _ => none
def argsOf (ρ : Rho) : List W → Option (List W)
  | [] => some []
  | w :: ws => (arg1 ρ w).bind fun x => (argsOf ρ ws).bind fun xs => some (x :: xs)
def slots : List W → List Nat
  | .sl i :: ws => i :: slots ws
  | _ :: ws => slots ws
  | [] => []
def put1 (ρ : Rho) (i : Nat) (w : W) : Rho := match ρ[i]? with
  | some (some (.fr _)) => ρ.set i (some w)
  | _ => ρ
def putBack : Rho → List W → List W → Rho
  | ρ, .sl i :: ws, w :: fin => putBack (put1 ρ i w) ws fin
  | ρ, .d _ :: ws, _ :: fin => putBack ρ ws fin
  | ρ, .fr _ :: ws, _ :: fin => putBack ρ ws fin
  | ρ, _, _ => ρ
def feCall (F : Fn) (f : Fa) : Fe := fun ρ => (f ρ).bind fun p => (argsOf p.2 p.1).bind fun ws => if (slots p.1).Nodup then (F ws).bind fun r => if r.2.length = p.1.length then some (r.1, putBack p.2 p.1 r.2) else none else none
theorem mem_slots {i : Nat} : ∀ {ws : List W}, i ∈ slots ws ↔ ∃ k : Nat, ws[k]? = some (W.sl i)
  | [] => by simp [slots]
  | w :: ws => by
    have ih := mem_slots (i := i) (ws := ws)
    have sh : (∃ k : Nat, (w :: ws)[k]? = some (W.sl i)) ↔ w = .sl i ∨ ∃ k : Nat, ws[k]? = some (W.sl i) := by
      constructor
      · rintro ⟨k, e⟩
        cases k with
        | zero => exact .inl (by simpa using e)
        | succ k => exact .inr ⟨k, by simpa using e⟩
      · rintro (e | ⟨k, e⟩)
        · exact ⟨0, by simp [e]⟩
        · exact ⟨k + 1, by simpa using e⟩
    rw [sh]
    cases w with
    | d x => simp [slots, ih]
    | fr xs => simp [slots, ih]
    | sl j => simp [slots, ih, eq_comm]
theorem put1_other {ρ : Rho} {i j : Nat} {w : W} (h : i ≠ j) : (put1 ρ i w)[j]? = ρ[j]? := by
  unfold put1
  split
  · rw [List.getElem?_set_ne h]
  · rfl
theorem put1_len {ρ : Rho} {i : Nat} {w : W} : (put1 ρ i w).length = ρ.length := by
  unfold put1
  split
  · rw [List.length_set]
  · rfl
theorem put1_fr {ρ : Rho} {i : Nat} {w : W} {xs : List D} (h : ρ[i]? = some (some (.fr xs))) : (put1 ρ i w)[i]? = some (some w) := by
  unfold put1
  rw [h]
  exact getElem?_set_eq h
theorem put1_no {ρ : Rho} {i : Nat} {w : W} (h : ∀ xs, ρ[i]? ≠ some (some (.fr xs))) : put1 ρ i w = ρ := by
  unfold put1
  split
  · rename_i xs e; exact absurd e (h xs)
  · rfl
theorem putBack_len : ∀ {ws fin : List W} {ρ : Rho}, (putBack ρ ws fin).length = ρ.length
  | [], _, _ => by unfold putBack; rfl
  | w :: ws, [], _ => by cases w <;> rfl
  | .d _ :: ws, _ :: fin, ρ => putBack_len (ws := ws)
  | .fr _ :: ws, _ :: fin, ρ => putBack_len (ws := ws)
  | .sl i :: ws, w :: fin, ρ => by
    show (putBack (put1 ρ i w) ws fin).length = _
    rw [putBack_len (ws := ws), put1_len]

theorem putBack_at : ∀ {ws fin : List W} {ρ : Rho}, (slots ws).Nodup → fin.length = ws.length → ∀ (i : Nat),
    ((∀ k : Nat, ws[k]? ≠ some (W.sl i)) ∧ (putBack ρ ws fin)[i]? = ρ[i]?) ∨
    ∃ k : Nat, ws[k]? = some (W.sl i) ∧ ((∃ xs w, ρ[i]? = some (some (W.fr xs)) ∧ fin[k]? = some w ∧ (putBack ρ ws fin)[i]? = some (some w)) ∨ ((∀ xs, ρ[i]? ≠ some (some (W.fr xs))) ∧ (putBack ρ ws fin)[i]? = ρ[i]?))
  | [], fin, ρ, _, _, i => .inl ⟨by simp, by unfold putBack; rfl⟩
  | w :: ws, [], ρ, _, hl, i => by simp at hl
  | w :: ws, z :: fin, ρ, nd, hl, i => by
    have hl' : fin.length = ws.length := by simpa using hl
    have lift : ∀ {ρ1 : Rho}, putBack ρ (w :: ws) (z :: fin) = putBack ρ1 ws fin → ρ1[i]? = ρ[i]? → w ≠ .sl i → (slots ws).Nodup →
        ((∀ k : Nat, (w :: ws)[k]? ≠ some (W.sl i)) ∧ (putBack ρ (w :: ws) (z :: fin))[i]? = ρ[i]?) ∨
        ∃ k : Nat, (w :: ws)[k]? = some (W.sl i) ∧ ((∃ xs w', ρ[i]? = some (some (W.fr xs)) ∧ (z :: fin)[k]? = some w' ∧ (putBack ρ (w :: ws) (z :: fin))[i]? = some (some w')) ∨ ((∀ xs, ρ[i]? ≠ some (some (W.fr xs))) ∧ (putBack ρ (w :: ws) (z :: fin))[i]? = ρ[i]?)) := by
      intro ρ1 e1 e2 e3 nd'
      rcases putBack_at (ρ := ρ1) nd' hl' i with ⟨h1, h2⟩ | ⟨k, h1, h2⟩
      · refine .inl ⟨fun k => ?_, by rw [e1, h2, e2]⟩
        cases k with
        | zero => simpa using e3
        | succ k => simpa using h1 k
      · refine .inr ⟨k + 1, by simpa using h1, ?_⟩
        rw [e1, ← e2]
        rcases h2 with ⟨xs, w', g1, g2, g3⟩ | ⟨g1, g2⟩
        · exact .inl ⟨xs, w', g1, by simpa using g2, g3⟩
        · exact .inr ⟨g1, g2⟩
    cases w with
    | d x => exact lift (ρ1 := ρ) rfl rfl (fun e => nomatch e) nd
    | fr xs => exact lift (ρ1 := ρ) rfl rfl (fun e => nomatch e) nd
    | sl j =>
      have nd2 : (slots ws).Nodup := (List.nodup_cons.mp nd).2
      have nj : j ∉ slots ws := (List.nodup_cons.mp nd).1
      by_cases hj : j = i
      · subst hj
        refine .inr ⟨0, rfl, ?_⟩
        have none' : ∀ k : Nat, ws[k]? ≠ some (W.sl j) := fun k e => nj (mem_slots.mpr ⟨k, e⟩)
        have un : (putBack (put1 ρ j z) ws fin)[j]? = (put1 ρ j z)[j]? := by
          rcases putBack_at (ρ := put1 ρ j z) nd2 hl' j with ⟨h1, h2⟩ | ⟨k, h1, h2⟩
          · exact h2
          · exact absurd h1 (none' k)
        by_cases hx : ∃ xs, ρ[j]? = some (some (W.fr xs))
        · obtain ⟨xs, e⟩ := hx
          exact .inl ⟨xs, z, e, rfl, by show (putBack (put1 ρ j z) ws fin)[j]? = _; rw [un, put1_fr e]⟩
        · have hx' : ∀ xs, ρ[j]? ≠ some (some (W.fr xs)) := fun xs e => hx ⟨xs, e⟩
          exact .inr ⟨hx', by show (putBack (put1 ρ j z) ws fin)[j]? = _; rw [un, put1_no hx']⟩
      · exact lift (ρ1 := put1 ρ j z) rfl (put1_other hj) (fun e => hj (by cases e; rfl)) nd2
section
variable {K : PySem.W.Frag} {Fz Fz' Fz1 Fz2 : Addr → Prop} {ρ ρ' ρ1 ρ2 : Rho} {σ : St} {H H' H1 H2 : Hp} {w : W} {v : V} {ws ws1 : List W} {vs vs1 : List V}
theorem argsOf_at : ∀ {ws ws' : List W}, argsOf ρ ws = some ws' → ws'.length = ws.length ∧ ∀ (k : Nat) (w' : W), ws'[k]? = some w' → ∃ w, ws[k]? = some w ∧ arg1 ρ w = some w'
  | [], _, e => by cases e; exact ⟨rfl, fun k w' e => by simp at e⟩
  | w :: ws, ws', e => by
    unfold argsOf at e
    cases e1 : arg1 ρ w with
    | none => rw [e1] at e; cases e
    | some x =>
      simp only [e1, Option.bind_some] at e
      cases e2 : argsOf ρ ws with
      | none => rw [e2] at e; cases e
      | some xs =>
        simp only [e2, Option.bind_some] at e
        cases e
        obtain ⟨h1, h2⟩ := argsOf_at e2
        refine ⟨by simp [h1], fun k w' e => ?_⟩
        cases k with
        | zero => simp at e; subst e; exact ⟨w, rfl, e1⟩
        | succ k => simp at e; obtain ⟨u, g1, g2⟩ := h2 k w' e; exact ⟨u, by simpa using g1, g2⟩
theorem arg1_sl {i : Nat} {w : W} (h : arg1 ρ (.sl i) = some w) : ρ[i]? = some (some w) ∧ ∀ j, w ≠ .sl j := by
  unfold arg1 at h
  simp only at h
  split at h
  · rename_i x e; cases h; exact ⟨e, fun _ e => nomatch e⟩
  · rename_i x e; cases h; exact ⟨e, fun _ e => nomatch e⟩
  · cases h
theorem paired_at {α β : Type} {R : α → β → Prop} : ∀ {as : List α} {bs : List β}, Paired R as bs → as.length = bs.length ∧ ∀ (k : Nat) (a : α), as[k]? = some a → ∃ b, bs[k]? = some b ∧ R a b
  | _, _, .nil => ⟨rfl, fun k a e => by simp at e⟩
  | _, _, .cons h t => by
    obtain ⟨h1, h2⟩ := paired_at t
    refine ⟨by simp [h1], fun k a e => ?_⟩
    cases k with
    | zero => simp at e; subst e; exact ⟨_, rfl, h⟩
    | succ k => simp at e; obtain ⟨b, g1, g2⟩ := h2 k a e; exact ⟨b, by simpa using g1, g2⟩
theorem mem_frs {p : Addr} : ∀ {ws : List W} {vs : List V}, (∃ (k : Nat) (xs : List D), ws[k]? = some (W.fr xs) ∧ vs[k]? = some (V.ref p)) → p ∈ frs ws vs
  | [], vs, h => by obtain ⟨k, xs, e, _⟩ := h; simp at e
  | w :: ws, [], h => by obtain ⟨k, xs, _, e⟩ := h; simp at e
  | w :: ws, v :: vs, ⟨0, xs, e1, e2⟩ => by
    simp at e1 e2; subst e1; subst e2
    rw [frs_fr]; exact List.mem_cons_self
  | w :: ws, v :: vs, ⟨k + 1, xs, e1, e2⟩ => by
    have ih := mem_frs (p := p) (ws := ws) (vs := vs) ⟨k, xs, by simpa using e1, by simpa using e2⟩
    cases w with
    | d x => rw [frs_d]; exact ih
    | sl i => rw [frs_sl]; exact ih
    | fr ys =>
      cases v with
      | ref q => rw [frs_fr]; exact List.mem_cons_of_mem _ ih
      | _ => exact ih
theorem frs_inj {p : Addr} : ∀ {ws : List W} {vs : List V}, (frs ws vs).Nodup → ∀ {i j : Nat} {xs ys : List D}, ws[i]? = some (W.fr xs) → ws[j]? = some (W.fr ys) → vs[i]? = some (V.ref p) → vs[j]? = some (V.ref p) → i = j
  | [], vs, _, i, j, xs, ys, e1, e2, e3, e4 => by simp at e1
  | w :: ws, [], _, i, j, xs, ys, e1, e2, e3, e4 => by simp at e3
  | w :: ws, v :: vs, nd, 0, 0, xs, ys, e1, e2, e3, e4 => rfl
  | w :: ws, v :: vs, nd, 0, j + 1, xs, ys, e1, e2, e3, e4 => by
    simp at e1 e3; subst e1; subst e3
    rw [frs_fr] at nd
    exact absurd (mem_frs ⟨j, ys, by simpa using e2, by simpa using e4⟩) (List.nodup_cons.mp nd).1
  | w :: ws, v :: vs, nd, i + 1, 0, xs, ys, e1, e2, e3, e4 => by
    simp at e2 e4; subst e2; subst e4
    rw [frs_fr] at nd
    exact absurd (mem_frs ⟨i, xs, by simpa using e1, by simpa using e3⟩) (List.nodup_cons.mp nd).1
  | w :: ws, v :: vs, nd, i + 1, j + 1, xs, ys, e1, e2, e3, e4 => by
    have nd' : (frs ws vs).Nodup := by
      cases w with
      | d x => rw [frs_d] at nd; exact nd
      | sl i => rw [frs_sl] at nd; exact nd
      | fr ys =>
        cases v with
        | ref q => rw [frs_fr] at nd; exact (List.nodup_cons.mp nd).2
        | _ => exact nd
    rw [frs_inj nd' (i := i) (j := j) (by simpa using e1) (by simpa using e2) (by simpa using e3) (by simpa using e4)]

theorem PostL.args (a : PostL K Fz Fz1 ρ ρ1 σ H H1 ws vs) (nd : (slots ws).Nodup) (e : argsOf ρ1 ws = some ws1) : ArgsOk K Fz1 H1 ws1 vs ∧
    (∀ (k : Nat) (xs : List D) (p : Addr), ws1[k]? = some (W.fr xs) → vs[k]? = some (V.ref p) → (ws[k]? = some (W.fr xs) ∧ p ∈ frs ws vs) ∨ ∃ i, ws[k]? = some (W.sl i) ∧ ρ1[i]? = some (some (W.fr xs)) ∧ σ[i]? = some (some (V.ref p))) := by
  obtain ⟨l1, f1⟩ := argsOf_at e
  obtain ⟨l2, f2⟩ := paired_at a.rep
  have key : ∀ (k : Nat) (xs : List D) (p : Addr), ws1[k]? = some (W.fr xs) → vs[k]? = some (V.ref p) → (ws[k]? = some (W.fr xs) ∧ p ∈ frs ws vs) ∨ ∃ i, ws[k]? = some (W.sl i) ∧ ρ1[i]? = some (some (W.fr xs)) ∧ σ[i]? = some (some (V.ref p)) := by
    intro k xs p e1 e2
    obtain ⟨w, g1, g2⟩ := f1 k _ e1
    obtain ⟨v, g3, g4⟩ := f2 k w g1
    rw [e2] at g3
    cases g3
    cases w with
    | d x => cases g2
    | fr ys => cases g2; exact .inl ⟨g1, mem_frs ⟨k, xs, g1, e2⟩⟩
    | sl i => exact .inr ⟨i, g1, (arg1_sl g2).1, g4⟩
  refine ⟨⟨by omega, fun k w' e1 => ?_, fun i j xs ys p e1 e2 e3 e4 => ?_, fun k xs p e1 e2 => ?_, a.rel.fzl⟩, key⟩
  · obtain ⟨w, g1, g2⟩ := f1 k w' e1
    obtain ⟨v, g3, g4⟩ := f2 k w g1
    refine ⟨v, g3, ?_⟩
    cases w with
    | d x => cases g2; exact g4
    | fr xs => cases g2; exact g4
    | sl i =>
      obtain ⟨h1, h2⟩ := arg1_sl g2
      obtain ⟨u, hu, hr⟩ := a.rel.val i _ h1
      have g4' : σ[i]? = some (some v) := g4
      rw [g4'] at hu
      cases hu
      exact hr
  · rcases key i xs p e1 e3 with ⟨k1, k2⟩ | ⟨m, k1, k2, k3⟩
    · rcases key j ys p e2 e4 with ⟨k4, k5⟩ | ⟨n, k4, k5, k6⟩
      · exact frs_inj a.nd k1 k4 e3 e4
      · exact absurd ⟨n, ys, k5, k6⟩ (a.fresh p k2).2.2
    · rcases key j ys p e2 e4 with ⟨k4, k5⟩ | ⟨n, k4, k5, k6⟩
      · exact absurd ⟨m, xs, k2, k3⟩ (a.fresh p k5).2.2
      · have := a.rel.apart m n xs ys p k2 k5 k3 k6
        subst this
        exact slots_inj nd k1 k4
  · rcases key k xs p e1 e2 with ⟨k1, k2⟩ | ⟨m, k1, k2, k3⟩
    · exact (a.fresh p k2).2.1
    · exact a.rel.nofz p ⟨m, xs, k2, k3⟩
where
  slots_inj : ∀ {ws : List W} {i j m : Nat}, (slots ws).Nodup → ws[i]? = some (W.sl m) → ws[j]? = some (W.sl m) → i = j
    | [], i, j, m, _, e1, _ => by simp at e1
    | w :: ws, 0, 0, m, _, _, _ => rfl
    | w :: ws, 0, j + 1, m, nd, e1, e2 => by
      simp at e1 e2; subst e1
      exact absurd (mem_slots.mpr ⟨j, e2⟩) (List.nodup_cons.mp nd).1
    | w :: ws, i + 1, 0, m, nd, e1, e2 => by
      simp at e1 e2; subst e2
      exact absurd (mem_slots.mpr ⟨i, e1⟩) (List.nodup_cons.mp nd).1
    | w :: ws, i + 1, j + 1, m, nd, e1, e2 => by
      have nd' : (slots ws).Nodup := by
        cases w with
        | d x => exact nd
        | fr xs => exact nd
        | sl k => exact (List.nodup_cons.mp nd).2
      have e1' : ws[i]? = some (W.sl m) := by simpa using e1
      have e2' : ws[j]? = some (W.sl m) := by simpa using e2
      rw [slots_inj nd' e1' e2']

theorem PostL.call (a : PostL K Fz Fz1 ρ ρ1 σ H H1 ws vs) (nd : (slots ws).Nodup) (e : argsOf ρ1 ws = some ws1) {r : W} {fin : List W} (hl : fin.length = ws.length) (c : CPost K Fz1 Fz2 H1 H2 ws1 vs r v fin) :
    PostL K Fz Fz2 ρ (putBack ρ1 ws fin) σ H H2 [r] [v] := by
  obtain ⟨ao, key⟩ := a.args nd e
  obtain ⟨l1, f1⟩ := argsOf_at e
  obtain ⟨l2, f2⟩ := paired_at a.rep
  have ow : ∀ q, AOwn ws1 vs q → q ∈ frs ws vs ∨ Own ρ1 σ q := fun q ⟨k, xs, e1, e2⟩ => by
    rcases key k xs q e1 e2 with ⟨_, k2⟩ | ⟨m, _, k2, k3⟩
    · exact .inl k2
    · exact .inr ⟨m, xs, k2, k3⟩
  have drk : ∀ {v x}, Dr K Fz1 H1 v x → Dr K Fz2 H2 v x := fun h => h.keep c.step.grow (fun q o hf e => c.step.keep q o e fun ⟨k, xs, e1, e2⟩ => ao.nofz k xs q e1 e2 hf) _ _
  have drak : ∀ {vs xs}, DrAll K Fz1 H1 vs xs → DrAll K Fz2 H2 vs xs := fun h => h.keep c.step.grow (fun q o hf e => c.step.keep q o e fun ⟨k, xs, e1, e2⟩ => ao.nofz k xs q e1 e2 hf) _ _
  have slot : ∀ (i : Nat), ((putBack ρ1 ws fin)[i]? = ρ1[i]? ∧ ((∀ k : Nat, ws[k]? ≠ some (W.sl i)) ∨ ∀ xs, ρ1[i]? ≠ some (some (W.fr xs)))) ∨
      ∃ (k : Nat) (xs : List D) (w : W) (p : Addr), ws[k]? = some (W.sl i) ∧ ρ1[i]? = some (some (W.fr xs)) ∧ fin[k]? = some w ∧ (putBack ρ1 ws fin)[i]? = some (some w) ∧ σ[i]? = some (some (V.ref p)) ∧ ws1[k]? = some (W.fr xs) ∧ vs[k]? = some (V.ref p) := by
    intro i
    rcases putBack_at (ρ := ρ1) nd hl i with ⟨h1, h2⟩ | ⟨k, h1, ⟨xs, w, g1, g2, g3⟩ | ⟨g1, g2⟩⟩
    · exact .inl ⟨h2, .inl h1⟩
    · obtain ⟨u, hu, p, us, q1, q2, q3⟩ := a.rel.val i _ g1
      subst q1
      obtain ⟨v', hv', rv'⟩ := f2 k _ h1
      have rv'' : σ[i]? = some (some v') := rv'
      rw [hu] at rv''
      cases rv''
      have hk : k < ws1.length := by
        rw [l1]
        exact (List.getElem?_eq_some_iff.mp h1).1
      obtain ⟨w', hw'⟩ : ∃ w', ws1[k]? = some w' := ⟨ws1[k], List.getElem?_eq_getElem hk⟩
      obtain ⟨w0, m1, m2⟩ := f1 k w' hw'
      rw [h1] at m1
      cases m1
      have := (arg1_sl m2).1
      rw [g1] at this
      cases this
      exact .inr ⟨k, xs, w, p, h1, g1, g2, g3, hu, hw', hv'⟩
    · exact .inl ⟨g2, .inr g1⟩
  have keepOwn : ∀ (i : Nat) (xs : List D) (p : Addr), ρ1[i]? = some (some (W.fr xs)) → σ[i]? = some (some (V.ref p)) → (∀ k : Nat, ws[k]? ≠ some (W.sl i)) → ¬ AOwn ws1 vs p := fun i xs p e1 e2 h ⟨k, ys, e3, e4⟩ => by
    rcases key k ys p e3 e4 with ⟨_, k2⟩ | ⟨m, k1, k2, k3⟩
    · exact (a.fresh p k2).2.2 ⟨i, xs, e1, e2⟩
    · have := a.rel.apart i m xs ys p e1 k2 e2 k3
      subst this
      exact h k k1
  have own' : ∀ p, Own (putBack ρ1 ws fin) σ p → Own ρ1 σ p := fun p ⟨i, xs, e1, e2⟩ => by
    rcases slot i with ⟨h1, _⟩ | ⟨k, ys, w, q, h1, h2, h3, h4, h5, _, _⟩
    · rw [h1] at e1; exact ⟨i, xs, e1, e2⟩
    · exact ⟨i, ys, h2, e2⟩
  have step' : Step (Own ρ σ) Fz Fz2 H H2 := by
    refine ⟨c.step.fzl, fun q o e n => c.step.keep q o (a.step.keep q o e n) fun z => ?_, fun q e => a.step.live q (c.step.live q e), fun q e => c.step.grow q (a.step.grow q e), fun q e => ?_⟩
    · rcases ow q z with z | z
      · rw [(a.fresh q z).1] at e; cases e
      · exact n (a.own q z)
    · rcases c.step.new q e with z | z | z
      · exact a.step.new q z
      · exact .inr (.inl (a.step.live q z))
      · rcases ow q z with z | z
        · exact .inr (.inl (a.fresh q z).1)
        · exact .inr (.inr (a.own q z))
  refine ⟨⟨by rw [putBack_len]; exact a.rel.len, fun i w e => ?_, fun i j xs ys p e1 e2 e3 e4 => ?_, fun p o z => ?_, c.step.fzl⟩, .cons c.rep.rep .nil, fun p hp => ?_, frs_one_nd, step', fun p z => a.own p (own' p z), a.kept.trans fun k w e => ?_⟩
  · rcases slot i with ⟨h1, h2⟩ | ⟨k, xs, w', p, h1, h2, h3, h4, h5, h6, h7⟩
    · rw [h1] at e
      obtain ⟨u, hu, hr⟩ := a.rel.val i w e
      refine ⟨u, hu, ?_⟩
      cases w with
      | d x => exact drk hr
      | sl _ => exact hr
      | fr xs =>
        obtain ⟨p, us, q1, q2, q3⟩ := hr
        subst q1
        have hno : ∀ k : Nat, ws[k]? ≠ some (W.sl i) := by
          rcases h2 with h2 | h2
          · exact h2
          · exact absurd e (h2 xs)
        exact ⟨p, us, rfl, c.step.keep p _ q2 (keepOwn i xs p e hu hno), drak q3⟩
    · rw [h4] at e
      cases e
      refine ⟨_, h5, ?_⟩
      rcases c.fin k p xs h6 h7 with ⟨ys, us, g1, g2, g3, g4⟩ | ⟨ys, g1, g2⟩
      · rw [h3] at g1; cases g1
        exact ⟨p, us, rfl, g2, g3⟩
      · rw [h3] at g1; cases g1
        exact g2
  · have old : ∀ {i xs}, (putBack ρ1 ws fin)[i]? = some (some (W.fr xs)) → ∃ ys, ρ1[i]? = some (some (W.fr ys)) := fun {i xs} e => by
      rcases slot i with ⟨h1, _⟩ | ⟨k, ys, w', q, h1, h2, _⟩
      · rw [h1] at e; exact ⟨xs, e⟩
      · exact ⟨ys, h2⟩
    obtain ⟨as, g1⟩ := old e1
    obtain ⟨bs, g2⟩ := old e2
    exact a.rel.apart i j as bs p g1 g2 e3 e4
  · obtain ⟨i, xs, e1, e2⟩ := o
    rcases slot i with ⟨h1, h2⟩ | ⟨k, ys, w', q, h1, h2, h3, h4, h5, h6, h7⟩
    · rw [h1] at e1
      have hno : ∀ k : Nat, ws[k]? ≠ some (W.sl i) := by
        rcases h2 with h2 | h2
        · exact h2
        · exact absurd e1 (h2 xs)
      rcases c.step.new p z with z | z | z
      · exact a.rel.nofz p ⟨i, xs, e1, e2⟩ z
      · obtain ⟨u, hu, p', us, q1, q2, _⟩ := a.rel.val i _ e1
        rw [e2] at hu
        cases hu
        cases q1
        rw [z] at q2; cases q2
      · exact keepOwn i xs p e1 e2 hno z
    · rw [h4] at e1
      cases e1
      rw [e2] at h5
      cases h5
      rcases c.fin k p ys h6 h7 with ⟨zs, us, g1, g2, g3, g4⟩ | ⟨zs, g1, g2⟩
      · exact g4 z
      · rw [h3] at g1; cases g1
  · cases r with
    | d x => rw [frs_d] at hp; exact absurd hp (by simp [frs])
    | sl i => exact c.rep.elim
    | fr xs =>
      obtain ⟨q, us, e1, e2, e3⟩ := c.rep
      subst e1
      rw [frs_fr] at hp
      have hp : p = q := by simpa [frs] using hp
      subst hp
      obtain ⟨h1, h2⟩ := c.fresh xs p rfl rfl
      refine ⟨a.step.live p h1, h2, fun z => ?_⟩
      obtain ⟨i, ys, f1, f2⟩ := own' p z
      obtain ⟨u, hu, q, us', f3, f4, _⟩ := a.rel.val i _ f1
      rw [f2] at hu
      cases hu
      cases f3
      rw [h1] at f4
      cases f4
  · rcases slot k with ⟨h1, h2⟩ | ⟨m, ys, w', q, h1, h2, h3, h4, h5, h6, h7⟩
    · exact ⟨w, by rw [h1]; exact e, id⟩
    · refine ⟨w', h4, fun _ => ?_⟩
      rcases c.fin m q ys h6 h7 with ⟨zs, us, g1, _⟩ | ⟨zs, g1, _⟩
      · rw [h3] at g1; cases g1; rfl
      · rw [h3] at g1; cases g1; rfl
end

theorem call_go {K : PySem.W.Frag} {np : Nat} {F : Fn} {f : Fa} {E : XK} (hnp : ∀ σ H ρ ws ρ' Fz vs H' Fz', f ρ = some (ws, ρ') → PostL K Fz Fz' ρ ρ' σ H H' ws vs → vs.length = np) {σ : St} {H : Hp} {Q : VK} (h : tE K (feCall F f) σ H Q) : tCall (spF K np F) [] E (tA K f) σ H Q := by
  obtain ⟨Fz, ρ, w, ρ', r, e, q⟩ := h
  unfold feCall at e
  cases e1 : f ρ with
  | none => rw [e1] at e; cases e
  | some p =>
    obtain ⟨ws, ρ1⟩ := p
    simp only [e1, Option.bind_some] at e
    cases e2 : argsOf ρ1 ws with
    | none => rw [e2] at e; cases e
    | some ws1 =>
      simp only [e2, Option.bind_some] at e
      by_cases nd : (slots ws).Nodup
      · rw [if_pos nd] at e
        cases e3 : F ws1 with
        | none => rw [e3] at e; cases e
        | some z =>
          obtain ⟨r', fin⟩ := z
          simp only [e3, Option.bind_some] at e
          obtain ⟨hl, e4⟩ := some_ite e
          cases e4
          refine ⟨Fz, ρ, ws, ρ1, r, e1, fun vs H1 Fz1 p1 => ?_⟩
          show spF K np F (vs ++ []) H1 Q E
          rw [List.append_nil]
          exact ⟨hnp _ _ _ _ _ _ _ _ _ e1 p1, Fz1, ws1, w, fin, (p1.args nd e2).1, e3, fun v H2 Fz2 c => q v H2 Fz2 (p1.call nd e2 hl c)⟩
      · rw [if_neg nd] at e; cases e

structure DAn (X : Cx) (es : List Expr) (f : Fa) (n : Nat) : Prop where
  da : DA X es f
  many : ∀ ρ ws ρ', f ρ = some (ws, ρ') → ws.length = n
theorem dan_nil {X : Cx} : DAn X [] faNil 0 := ⟨da_nil, fun _ _ _ e => by cases e; rfl⟩
theorem dan_cons {X : Cx} {e : Expr} {es : List Expr} {f : Fe} {g : Fa} {n : Nat} (ha : DE X e f) (hr : DAn X es g n) (hs : starEach (e :: es) X.env = (false, eval e X.env) :: starEach es X.env := by rfl) : DAn X (e :: es) (faCons f g) (n + 1) :=
  ⟨da_cons ha hr.da hs, fun ρ ws ρ' e => by
    obtain ⟨w, ρ1, us, e1, e2, rfl⟩ := faCons_some e
    simp [hr.many _ _ _ e2]⟩
section
variable {X : Cx} {k np : Nat} {f : Addr} {fd : FuncData} {ps : List Str} {F : Fn} {x : Str} {p pos : Pos} {e : Expr} {es : List Expr} {fa : Fa} {CX : CXT} {E : XK}
theorem de_call (G : FnOk X.prog X.w X.K X.mg X.base CX k f fd ps (spF X.K np F)) (hr : Room k X.A) (hg : Gl X x) (hm : X.mg x = some (.ref f)) (hk : PySem.W.keepIn X.K (.ref f) = true) (hb : Binds X.K fd ps []) (hx : Passes CX X E)
    (ha : DAn X (e :: es) fa np) (hdb : (x == ("__debug__" : Str)) = false := by decide) (he : starEach (e :: es) X.env = (false, eval e X.env) :: starEach es X.env := by rfl) (hpl : (backTo pos (starEach es X.env)).any (·.1) = false := by rfl) :
    DE X (.Call (.Name x p) (e :: es) [] pos) (feCall F fa) :=
  ⟨PE.imp (pe_call G hr hg hm hk hb .nil hx ha.da.ok hdb he hpl) fun _ _ _ h => call_go (fun σ H ρ ws ρ' Fz vs H' Fz' e1 p1 => by
    rw [← (paired_at p1.rep).1]; exact ha.many _ _ _ e1) h⟩
end
end L2.Q3
end

section
set_option Elab.async false
set_option linter.all false
set_option maxRecDepth 100000
set_option maxHeartbeats 4000000
namespace L2.Q3
open PySem PySem.Spec PyProof.Rows

inductive Out where
  | nx | bk | ct | rt (r : W)
abbrev Fs := Rho → Option (Out × Rho)

def KpF (fix : Nat → Bool) (ρ ρ' : Rho) : Prop := ∀ (k : Nat) (w : W), fix k = true → ρ[k]? = some (some w) → ∃ w', ρ'[k]? = some (some w') ∧ (isL w = true → isL w' = true)
theorem KpF.trans {fix : Nat → Bool} {ρ ρ1 ρ2 : Rho} (a : KpF fix ρ ρ1) (b : KpF fix ρ1 ρ2) : KpF fix ρ ρ2 := fun k w f e => by
  obtain ⟨w1, e1, i1⟩ := a k w f e
  obtain ⟨w2, e2, i2⟩ := b k w1 f e1
  exact ⟨w2, e2, fun z => i2 (i1 z)⟩
structure SPost (K : PySem.W.Frag) (fix : Nat → Bool) (Fz Fz' : Addr → Prop) (ρ ρ' : Rho) (σ σ' : St) (H H' : Hp) : Prop where
  rel : Rel K Fz' ρ' σ' H'
  step : Step (Own ρ σ) Fz Fz' H H'
  own : ∀ p, Own ρ' σ' p → Own ρ σ p ∨ H p = none
  same : ∀ k, fix k = true → σ'[k]? = σ[k]?
  kept : KpF fix ρ ρ'
  len : σ'.length = σ.length
theorem SPost.trans {K : PySem.W.Frag} {fix : Nat → Bool} {Fz Fz1 Fz2 : Addr → Prop} {ρ ρ1 ρ2 : Rho} {σ σ1 σ2 : St} {H H1 H2 : Hp} (a : SPost K fix Fz Fz1 ρ ρ1 σ σ1 H H1) (b : SPost K fix Fz1 Fz2 ρ1 ρ2 σ1 σ2 H1 H2) : SPost K fix Fz Fz2 ρ ρ2 σ σ2 H H2 :=
  ⟨b.rel, a.step.trans b.step a.own, fun p z => (b.own p z).elim (a.own p) fun z => .inr (a.step.live p z), fun k h => (b.same k h).trans (a.same k h), a.kept.trans b.kept, b.len.trans a.len⟩
theorem SPost.refl {K : PySem.W.Frag} {fix : Nat → Bool} {Fz : Addr → Prop} {ρ : Rho} {σ : St} {H : Hp} (r : Rel K Fz ρ σ H) : SPost K fix Fz Fz ρ ρ σ σ H H :=
  ⟨r, .refl r.fzl, fun _ z => .inl z, fun _ _ => rfl, fun k w _ e => ⟨w, e, id⟩, rfl⟩

structure RRep (K : PySem.W.Frag) (Fz' : Addr → Prop) (ρ ρ' : Rho) (σ σ' : St) (H H' : Hp) (r : W) (v : V) : Prop where
  rep : RepS K Fz' H' r v
  fresh : ∀ xs p, r = .fr xs → v = .ref p → ¬ Fz' p ∧ ¬ Own ρ' σ' p ∧ (Own ρ σ p ∨ H p = none)
theorem RRep.after {K : PySem.W.Frag} {fix : Nat → Bool} {Fz Fz1 Fz2 : Addr → Prop} {ρ ρ1 ρ2 : Rho} {σ σ1 σ2 : St} {H H1 H2 : Hp} {r : W} {v : V} (a : SPost K fix Fz Fz1 ρ ρ1 σ σ1 H H1) (b : RRep K Fz2 ρ1 ρ2 σ1 σ2 H1 H2 r v) : RRep K Fz2 ρ ρ2 σ σ2 H H2 r v :=
  ⟨b.rep, fun xs p e1 e2 => by
    obtain ⟨h1, h2, h3⟩ := b.fresh xs p e1 e2
    exact ⟨h1, h2, h3.elim (a.own p) fun z => .inr (a.step.live p z)⟩⟩
def goal (K : PySem.W.Frag) (D : Ends) (Fz' : Addr → Prop) (ρ ρ' : Rho) (σ σ' : St) (H H' : Hp) : Out → Prop
  | .nx => D.nx σ' H'
  | .bk => D.bk σ' H'
  | .ct => D.ct σ' H'
  | .rt r => ∀ v, RRep K Fz' ρ ρ' σ σ' H H' r v → D.rt v H'
def tS (K : PySem.W.Frag) (fix : Nat → Bool) (f : Fs) : TS := fun D σ H => ∃ Fz ρ o ρ', Rel K Fz ρ σ H ∧ f ρ = some (o, ρ') ∧ ∀ σ' H' Fz', SPost K fix Fz Fz' ρ ρ' σ σ' H H' → goal K D Fz' ρ ρ' σ σ' H H' o
structure DS (X : Cx) (fix : Nat → Bool) (st : Stmt) (f : Fs) : Prop where
  ok : PS X st (tS X.K fix f)
structure DSs (X : Cx) (fix : Nat → Bool) (sts : List Stmt) (f : Fs) : Prop where
  ok : PSs X sts (tS X.K fix f)
theorem PS.imp {X : Cx} {e : Stmt} {t t' : TS} (h : PS X e t) (i : ∀ D σ H, t' D σ H → t D σ H) : PS X e t' := fun pins s σ H D I q => h pins s σ H D I (i D σ H q)
theorem PSs.imp {X : Cx} {e : List Stmt} {t t' : TS} (h : PSs X e t) (i : ∀ D σ H, t' D σ H → t D σ H) : PSs X e t' := fun pins s σ H D I q => h pins s σ H D I (i D σ H q)

theorem PostL.sp {K : PySem.W.Frag} {fix : Nat → Bool} {Fz Fz' : Addr → Prop} {ρ ρ' : Rho} {σ : St} {H H' : Hp} {ws : List W} {vs : List V} (a : PostL K Fz Fz' ρ ρ' σ H H' ws vs) : SPost K fix Fz Fz' ρ ρ' σ σ H H' :=
  ⟨a.rel, a.step, fun p z => .inl (a.own p z), fun _ _ => rfl, fun k w _ e => a.kept k w e, rfl⟩
def fNx : Fs := fun ρ => some (.nx, ρ)
def fSeq (f g : Fs) : Fs := fun ρ => (f ρ).bind fun p => match p.1 with
  | .nx => g p.2
  | o => some (o, p.2)
section
variable {X : Cx} {fix : Nat → Bool} {st : Stmt} {sts : List Stmt} {f g : Fs} {pos : Pos} {e : Expr} {fe : Fe} {ft : Ft}
theorem dss_nil : DSs X fix [] fNx := ⟨PSs.imp pss_nil fun D σ H h => by
  obtain ⟨Fz, ρ, o, ρ', r, e, q⟩ := h
  cases e
  exact q σ H Fz (.refl r)⟩
theorem seq_go {K : PySem.W.Frag} {D : Ends} {σ : St} {H : Hp} (h : tS K fix (fSeq f g) D σ H) : tSeq (tS K fix f) (tS K fix g) D σ H := by
  obtain ⟨Fz, ρ, o, ρ', r, e, q⟩ := h
  unfold fSeq at e
  cases e1 : f ρ with
  | none => rw [e1] at e; cases e
  | some p =>
    obtain ⟨o1, ρ1⟩ := p
    simp only [e1, Option.bind_some] at e
    refine ⟨Fz, ρ, o1, ρ1, r, e1, fun σ1 H1 Fz1 p1 => ?_⟩
    cases o1 with
    | nx =>
      simp only at e
      refine ⟨Fz1, ρ1, o, ρ', p1.rel, e, fun σ2 H2 Fz2 p2 => ?_⟩
      have := q σ2 H2 Fz2 (p1.trans p2)
      cases o with
      | rt r => exact fun v hv => this v (hv.after p1)
      | _ => exact this
    | bk => simp only at e; cases e; exact q σ1 H1 Fz1 p1
    | ct => simp only at e; cases e; exact q σ1 H1 Fz1 p1
    | rt r => simp only at e; cases e; exact q σ1 H1 Fz1 p1
theorem dss_cons (h1 : DS X fix st f) (h2 : DSs X fix sts g) : DSs X fix (st :: sts) (fSeq f g) := ⟨PSs.imp (pss_cons h1.ok h2.ok) fun D σ H h => seq_go h⟩
theorem dss_one (h1 : DS X fix st f) : DSs X fix [st] f := ⟨pss_one h1.ok⟩
def fDrop (fe : Fe) : Fs := fun ρ => (fe ρ).bind fun p => some (.nx, p.2)
theorem ds_expr (h : DE X e fe) (hsw : swapsWith e none pos.line X.env = pure false := by rfl) : DS X fix (.Expr e pos) (fDrop fe) := ⟨PS.imp (ps_expr h.ok hsw) fun D σ H h => by
  obtain ⟨Fz, ρ, o, ρ', r, e, q⟩ := h
  unfold fDrop at e
  cases e1 : fe ρ with
  | none => rw [e1] at e; cases e
  | some p =>
    obtain ⟨w, ρ1⟩ := p
    simp only [e1, Option.bind_some] at e
    cases e
    exact ⟨Fz, ρ, w, ρ', r, e1, fun v H1 Fz1 p1 => q σ H1 Fz1 p1.sp⟩⟩

def outW (np : Nat) (ρ : Rho) : W → Option (W × Rho)
  | .d x => some (.d x, ρ)
  | .fr xs => some (.fr xs, ρ)
  | .sl i => if i < np then (esc1 ρ (.sl i)).bind fun p => some (.d p.1, p.2) else match ρ[i]? with
    | some (some (.d x)) => some (.d x, ρ)
    | some (some (.fr xs)) => some (.fr xs, ρ.set i none)
    | _ => none
def fRet (np : Nat) (fe : Fe) : Fs := fun ρ => (fe ρ).bind fun p => (outW np p.2 p.1).bind fun q => some (.rt q.1, q.2)
theorem ds_ret {np : Nat} (hnp : ∀ k, fix k = true → k < np) (h : DE X e fe) : DS X fix (.Return (some e) pos) (fRet np fe) := ⟨PS.imp (ps_ret h.ok) fun D σ H h => by
  obtain ⟨Fz, ρ, o, ρ', r, e, q⟩ := h
  unfold fRet at e
  cases e1 : fe ρ with
  | none => rw [e1] at e; cases e
  | some p =>
    obtain ⟨w, ρ1⟩ := p
    simp only [e1, Option.bind_some] at e
    cases e2 : outW np ρ1 w with
    | none => rw [e2] at e; cases e
    | some z =>
      obtain ⟨w2, ρ2⟩ := z
      simp only [e2, Option.bind_some] at e
      cases e
      refine ⟨Fz, ρ, w, ρ1, r, e1, fun v H1 Fz1 p1 => ?_⟩
      cases w with
      | d x =>
        cases e2
        exact q σ H1 Fz1 p1.sp v ⟨p1.rep1, fun _ _ e => nomatch e⟩
      | fr xs =>
        cases e2
        exact q σ H1 Fz1 p1.sp v ⟨p1.rep1, fun ys p z1 z2 => by
          cases z1; subst z2
          obtain ⟨h1, h2, h3⟩ := p1.fresh p (by rw [frs_fr]; exact List.mem_cons_self)
          exact ⟨h2, h3, .inr h1⟩⟩
      | sl i =>
        have hs : σ[i]? = some (some v) := p1.rep1
        unfold outW at e2
        simp only at e2
        by_cases hi : i < np
        · rw [if_pos hi] at e2
          cases e3 : esc1 ρ1 (.sl i) with
          | none => rw [e3] at e2; cases e2
          | some z =>
            obtain ⟨x, ρ3⟩ := z
            simp only [e3, Option.bind_some] at e2
            cases e2
            obtain ⟨Fz2, p2, d2⟩ := p1.esc (xs := [x]) (ρ2 := ρ') (by unfold escAll; rw [e3]; rfl)
            cases d2 with
            | cons d3 _ => exact q σ H1 Fz2 p2.sp v ⟨d3, fun _ _ e => nomatch e⟩
        · rw [if_neg hi] at e2
          split at e2
          · rename_i x g
            cases e2
            obtain ⟨u, hu, hr⟩ := p1.rel.val i _ g
            rw [hs] at hu
            cases hu
            exact q σ H1 Fz1 p1.sp v ⟨hr, fun _ _ e => nomatch e⟩
          · rename_i xs g
            cases e2
            obtain ⟨u, hu, p, us, g1, g2, g3⟩ := p1.rel.val i _ g
            rw [hs] at hu
            cases hu
            subst g1
            have pw : Own ρ1 σ p := ⟨i, xs, g, hs⟩
            have hset : ∀ {j : Nat} {w : W}, (ρ1.set i none)[j]? = some (some w) → j ≠ i ∧ ρ1[j]? = some (some w) := fun {j w} z => by
              by_cases hj : i = j
              · subst hj; rw [getElem?_set_eq g] at z; cases z
              · rw [List.getElem?_set_ne hj] at z; exact ⟨fun y => hj y.symm, z⟩
            have no : ¬ Own (ρ1.set i none) σ p := fun ⟨j, ys, h1, h2⟩ => by
              obtain ⟨hj, h3⟩ := hset h1
              exact hj (p1.rel.apart j i ys xs p h3 g h2 hs)
            have sub : ∀ q, Own (ρ1.set i none) σ q → Own ρ1 σ q := fun q ⟨j, ys, h1, h2⟩ => ⟨j, ys, (hset h1).2, h2⟩
            have rl : Rel X.K Fz1 (ρ1.set i none) σ H1 := ⟨by rw [List.length_set]; exact p1.rel.len, fun j w z => p1.rel.val j w (hset z).2, fun j k as bs q z1 z2 z3 z4 => p1.rel.apart j k as bs q (hset z1).2 (hset z2).2 z3 z4, fun q z => p1.rel.nofz q (sub q z), p1.rel.fzl⟩
            have sp : SPost X.K fix Fz Fz1 ρ (ρ1.set i none) σ σ H H1 := ⟨rl, p1.step, fun q z => .inl (p1.own q (sub q z)), fun _ _ => rfl, fun k w hk z => by
              obtain ⟨w', z1, z2⟩ := p1.kept k w z
              have : i ≠ k := fun y => hi (by rw [y]; exact hnp k hk)
              exact ⟨w', by rw [List.getElem?_set_ne this]; exact z1, z2⟩, rfl⟩
            exact q σ H1 Fz1 sp (.ref p) ⟨⟨p, us, rfl, g2, g3⟩, fun ys p' z1 z2 => by
              cases z1; cases z2
              exact ⟨p1.rel.nofz p pw, no, .inl (p1.own p pw)⟩⟩
          · cases e2⟩
def fIf (ft : Ft) (f g : Fs) : Fs := fun ρ => (ft ρ).bind fun p => if p.1 = true then f p.2 else g p.2
theorem then_go {K : PySem.W.Frag} {D : Ends} {Fz Fz1 : Addr → Prop} {ρ ρ1 ρ' : Rho} {σ : St} {H H1 : Hp} {o : Out} (p1 : PostL K Fz Fz1 ρ ρ1 σ H H1 [] []) (e : f ρ1 = some (o, ρ'))
    (q : ∀ σ' H' Fz', SPost K fix Fz Fz' ρ ρ' σ σ' H H' → goal K D Fz' ρ ρ' σ σ' H H' o) : tS K fix f D σ H1 := by
  refine ⟨Fz1, ρ1, o, ρ', p1.rel, e, fun σ2 H2 Fz2 p2 => ?_⟩
  have := q σ2 H2 Fz2 (p1.sp.trans p2)
  cases o with
  | rt r => exact fun v hv => this v (hv.after (p1.sp (fix := fix)))
  | _ => exact this
theorem ds_if {a b : List Stmt} (hc : DT X e ft) (ha : DSs X fix a f) (hb : DSs X fix b g) : DS X fix (.If e a b pos) (fIf ft f g) := ⟨PS.imp (ps_if hc.ok ha.ok hb.ok) fun D σ H h => by
  obtain ⟨Fz, ρ, o, ρ', r, e, q⟩ := h
  unfold fIf at e
  cases e1 : ft ρ with
  | none => rw [e1] at e; cases e
  | some p =>
    obtain ⟨b, ρ1⟩ := p
    simp only [e1, Option.bind_some] at e
    refine ⟨Fz, ρ, b, ρ1, r, e1, fun H1 Fz1 p1 => ?_⟩
    cases b with
    | true => rw [if_pos rfl] at e ⊢; exact then_go p1 e q
    | false => rw [if_neg (by decide)] at e ⊢; exact then_go p1 e q⟩
end

section
variable {K : PySem.W.Frag} {Fz Fz' Fz1 : Addr → Prop} {ρ ρ' ρ1 : Rho} {σ σ' : St} {H H' H1 : Hp} {w : W} {v : V}
theorem set_cases {α : Type} {l : List (Option α)} {i j : Nat} {a : Option α} {b : α} (h : (l.set i a)[j]? = some (some b)) : (j = i ∧ a = some b) ∨ (j ≠ i ∧ l[j]? = some (some b)) := by
  by_cases z : i = j
  · subst z
    by_cases hl : i < l.length
    · rw [List.getElem?_set_self hl] at h
      exact .inl ⟨rfl, Option.some.inj h⟩
    · rw [List.getElem?_eq_none (by simpa using hl)] at h; cases h
  · rw [List.getElem?_set_ne z] at h
    exact .inr ⟨fun e => z e.symm, h⟩
theorem Rel.store (r : Rel K Fz ρ σ H) (i : Nat) (h : RepS K Fz H w v) (f : ∀ xs p, w = .fr xs → v = .ref p → ¬ Fz p ∧ ¬ Own ρ σ p) : Rel K Fz (ρ.set i (some w)) (σ.set i (some v)) H ∧
    ∀ p, Own (ρ.set i (some w)) (σ.set i (some v)) p → Own ρ σ p ∨ (v = .ref p ∧ ∃ xs, w = .fr xs) := by
  have own : ∀ (j : Nat) (xs : List D) (p : Addr), (ρ.set i (some w))[j]? = some (some (W.fr xs)) → (σ.set i (some v))[j]? = some (some (V.ref p)) → (j = i ∧ w = .fr xs ∧ v = .ref p) ∨ (j ≠ i ∧ ρ[j]? = some (some (W.fr xs)) ∧ σ[j]? = some (some (V.ref p))) := fun j xs p e1 e2 => by
    rcases set_cases e1 with ⟨rfl, z1⟩ | ⟨hj, z1⟩
    · rcases set_cases e2 with ⟨_, z2⟩ | ⟨hj, _⟩
      · exact .inl ⟨rfl, Option.some.inj z1, Option.some.inj z2⟩
      · exact absurd rfl hj
    · rcases set_cases e2 with ⟨z, _⟩ | ⟨_, z2⟩
      · exact absurd z hj
      · exact .inr ⟨hj, z1, z2⟩
  refine ⟨⟨by rw [List.length_set, List.length_set]; exact r.len, fun j u e => ?_, fun j k xs ys p e1 e2 e3 e4 => ?_, fun p o z => ?_, r.fzl⟩, fun p o => ?_⟩
  · rcases set_cases e with ⟨rfl, z⟩ | ⟨hj, z⟩
    · cases z
      have hl : j < σ.length := by
        rw [← r.len]
        have := (List.getElem?_eq_some_iff.mp e).1
        rwa [List.length_set] at this
      exact ⟨v, by rw [List.getElem?_set_self hl], h⟩
    · obtain ⟨u', h1, h2⟩ := r.val j u z
      exact ⟨u', by rw [List.getElem?_set_ne (fun e => hj e.symm)]; exact h1, h2⟩
  · rcases own j xs p e1 e3 with ⟨a1, a2, a3⟩ | ⟨a1, a2, a3⟩
    · rcases own k ys p e2 e4 with ⟨b1, b2, b3⟩ | ⟨b1, b2, b3⟩
      · rw [a1, b1]
      · exact absurd ⟨k, ys, b2, b3⟩ (f xs p a2 a3).2
    · rcases own k ys p e2 e4 with ⟨b1, b2, b3⟩ | ⟨b1, b2, b3⟩
      · exact absurd ⟨j, xs, a2, a3⟩ (f ys p b2 b3).2
      · exact r.apart j k xs ys p a2 b2 a3 b3
  · obtain ⟨j, xs, e1, e2⟩ := o
    rcases own j xs p e1 e2 with ⟨a1, a2, a3⟩ | ⟨a1, a2, a3⟩
    · exact (f xs p a2 a3).1 z
    · exact r.nofz p ⟨j, xs, a2, a3⟩ z
  · obtain ⟨j, xs, e1, e2⟩ := o
    rcases own j xs p e1 e2 with ⟨a1, a2, a3⟩ | ⟨a1, a2, a3⟩
    · exact .inr ⟨a3, xs, a2⟩
    · exact .inl ⟨j, xs, a2, a3⟩
theorem kpf_set {fix : Nat → Bool} {i : Nat} {x : Option W} (hi : fix i = false) : KpF fix ρ (ρ.set i x) := fun k w hk e => by
  have : i ≠ k := fun z => by rw [z, hk] at hi; cases hi
  exact ⟨w, by rw [List.getElem?_set_ne this]; exact e, id⟩
theorem fix_set {fix : Nat → Bool} {i : Nat} {x : Option V} (hi : fix i = false) : ∀ k, fix k = true → (σ.set i x)[k]? = σ[k]? := fun k hk => by
  have : i ≠ k := fun z => by rw [z, hk] at hi; cases hi
  rw [List.getElem?_set_ne this]
end
def setW (i : Nat) (ρ : Rho) : W → Option Rho
  | .d x => some (ρ.set i (some (.d x)))
  | .fr xs => some (ρ.set i (some (.fr xs)))
  | .sl j => (esc1 ρ (.sl j)).bind fun p => some (p.2.set i (some (.d p.1)))
def fSet (i : Nat) (fe : Fe) : Fs := fun ρ => (fe ρ).bind fun p => (setW i p.2 p.1).bind fun ρ2 => some (.nx, ρ2)
section
variable {X : Cx} {fix : Nat → Bool} {pos pos' : Pos} {e : Expr} {fe : Fe}
theorem set_go {i : Nat} (hi : fix i = false) {D : Ends} {σ : St} {H : Hp} {K : PySem.W.Frag} (h : tS K fix (fSet i fe) D σ H) : tAsg (tE K fe) (gName i) D σ H := by
  obtain ⟨Fz, ρ, o, ρ', r, e, q⟩ := h
  unfold fSet at e
  cases e1 : fe ρ with
  | none => rw [e1] at e; cases e
  | some p =>
    obtain ⟨w, ρ1⟩ := p
    simp only [e1, Option.bind_some] at e
    cases e2 : setW i ρ1 w with
    | none => rw [e2] at e; cases e
    | some ρ2 =>
      simp only [e2, Option.bind_some] at e
      cases e
      refine ⟨Fz, ρ, w, ρ1, r, e1, fun v H1 Fz1 p1 => ?_⟩
      have fin : ∀ {w' : W} {Fz2 : Addr → Prop} {ρ3 : Rho}, PostL K Fz Fz2 ρ ρ3 σ H H1 [] [] → RepS K Fz2 H1 w' v → (∀ xs p, w' = .fr xs → v = .ref p → H p = none ∧ ¬ Fz2 p ∧ ¬ Own ρ3 σ p) → ρ' = ρ3.set i (some w') → D.nx (σ.set i (some v)) H1 := by
        intro w' Fz2 ρ3 p2 hr hf he
        subst he
        obtain ⟨h1, h2⟩ := p2.rel.store i hr fun xs p z1 z2 => (hf xs p z1 z2).2
        refine q (σ.set i (some v)) H1 Fz2 ⟨h1, p2.step, fun p z => ?_, fix_set hi, fun k w hk z => ?_, by rw [List.length_set]⟩
        · rcases h2 p z with z | ⟨z1, xs, z2⟩
          · exact .inl (p2.own p z)
          · exact .inr (hf xs p z2 z1).1
        · obtain ⟨w1, y1, y2⟩ := p2.kept k w z
          obtain ⟨w3, y3, y4⟩ := kpf_set (x := some w') hi k w1 hk y1
          exact ⟨w3, y3, fun y => y4 (y2 y)⟩
      cases w with
      | d x => cases e2; exact fin (w' := .d x) p1.drop p1.rep1 (fun _ _ e => nomatch e) rfl
      | fr xs =>
        cases e2
        exact fin (w' := .fr xs) p1.drop p1.rep1 (fun ys p z1 z2 => by
          cases z1; subst z2
          exact p1.fresh p (by rw [frs_fr]; exact List.mem_cons_self)) rfl
      | sl j =>
        unfold setW at e2
        simp only at e2
        cases e3 : esc1 ρ1 (.sl j) with
        | none => rw [e3] at e2; cases e2
        | some z =>
          obtain ⟨x, ρ3⟩ := z
          simp only [e3, Option.bind_some] at e2
          cases e2
          obtain ⟨Fz2, p2, d2⟩ := p1.esc (xs := [x]) (ρ2 := ρ3) (by unfold escAll; rw [e3]; rfl)
          cases d2 with
          | cons d3 _ => exact fin (w' := .d x) p2 d3 (fun _ _ e => nomatch e) rfl
theorem ds_set {i : Nat} {x : Str} (hi : fix i = false) (hN : X.N.Nodup) (hn : X.N[i]? = some x) (hx : Loc X.env.scope x) (he : DE X e fe) (hs : swapsWith e (some (.Name x pos')) pos.line X.env = pure false := by rfl)
    (hf : X.fn x = true ∨ X.env.scope.names.lookup x = some .local := by first | exact .inl rfl | exact .inr rfl | assumption) : DS X fix (.Assign [.Name x pos'] e pos) (fSet i fe) :=
  ⟨PS.imp (ps_set hN hn hx he.ok hs hf) fun D σ H h => set_go hi h⟩
end
end L2.Q3
end

section
set_option Elab.async false
set_option linter.all false
set_option maxRecDepth 100000
set_option maxHeartbeats 4000000
namespace L2.Q3
open PySem PySem.Spec PyProof.Rows

def finOf (np : Nat) (ρ : Rho) : List W := (ρ.take np).map fun o => o.getD (.d .none)
def noFr : List W → List Bool → Bool
  | .fr _ :: ws, b :: bs => b && noFr ws bs
  | _ :: ws, _ :: bs => noFr ws bs
  | _, _ => true

def fnOf (fx : List Bool) (n : Nat) (fs : Fs) : Fn := fun ws => if ws.length = fx.length ∧ noFr ws fx = true then (fs (ws.map some ++ List.replicate (n - fx.length) none)).bind fun p => match p.1 with
  | .rt r => some (r, finOf fx.length p.2)
  | .nx => some (.d .none, finOf fx.length p.2)
  | _ => none else none
def fixOf (fx : List Bool) : Nat → Bool := fun k => fx.getD k false
theorem fixOf_lt {fx : List Bool} {k : Nat} (h : fixOf fx k = true) : k < fx.length := by
  unfold fixOf at h
  by_cases hk : k < fx.length
  · exact hk
  · rw [List.getD_eq_getElem?_getD, List.getElem?_eq_none (by omega)] at h; cases h
theorem noFr_at : ∀ {ws : List W} {fx : List Bool}, noFr ws fx = true → ∀ {k : Nat} {xs : List D}, ws[k]? = some (W.fr xs) → k < fx.length → fixOf fx k = true
  | [], _, _, k, xs, e, _ => by simp at e
  | _ :: _, [], _, k, xs, _, h => by simp at h
  | w :: ws, b :: bs, h, 0, xs, e, _ => by
    simp at e; subst e
    have : b = true ∧ noFr ws bs = true := by simpa [noFr] using h
    simp [fixOf, this.1]
  | w :: ws, b :: bs, h, k + 1, xs, e, hk => by
    have h' : noFr ws bs = true := by
      cases w with
      | fr _ => have : b = true ∧ noFr ws bs = true := by simpa [noFr] using h
                exact this.2
      | d _ => exact h
      | sl _ => exact h
    have := noFr_at h' (k := k) (xs := xs) (by simpa using e) (by simpa using hk)
    simpa [fixOf] using this
section
variable {K : PySem.W.Frag} {Fz : Addr → Prop} {H : Hp} {ws : List W} {vs : List V} {N : List Str}
theorem start_rel (a : ArgsOk K Fz H ws vs) (hn : ws.length ≤ N.length) : Rel K Fz (ws.map some ++ List.replicate (N.length - ws.length) none) (start N vs) H ∧ ∀ p, Own (ws.map some ++ List.replicate (N.length - ws.length) none) (start N vs) p ↔ AOwn ws vs p := by
  have hl := a.len
  have gw : ∀ {k : Nat} {w : W}, (ws.map some ++ List.replicate (N.length - ws.length) none)[k]? = some (some w) ↔ ws[k]? = some w := fun {k w} => by
    by_cases hk : k < ws.length
    · rw [List.getElem?_append_left (by simpa using hk), List.getElem?_map]
      cases ws[k]? <;> simp
    · rw [List.getElem?_append_right (by simpa using hk), List.getElem?_replicate]
      have : ws[k]? = none := List.getElem?_eq_none (by omega)
      rw [this]
      split <;> simp
  have gv : ∀ {k : Nat} {v : V}, (start N vs)[k]? = some (some v) ↔ vs[k]? = some v := fun {k v} => by
    unfold start
    by_cases hk : k < vs.length
    · rw [List.getElem?_append_left (by simpa using hk), List.getElem?_map]
      cases vs[k]? <;> simp
    · rw [List.getElem?_append_right (by simpa using hk), List.getElem?_replicate]
      have : vs[k]? = none := List.getElem?_eq_none (by omega)
      rw [this]
      split <;> simp
  have ow : ∀ p, Own (ws.map some ++ List.replicate (N.length - ws.length) none) (start N vs) p ↔ AOwn ws vs p := fun p =>
    ⟨fun ⟨i, xs, e1, e2⟩ => ⟨i, xs, gw.mp e1, gv.mp e2⟩, fun ⟨i, xs, e1, e2⟩ => ⟨i, xs, gw.mpr e1, gv.mpr e2⟩⟩
  refine ⟨⟨by unfold start; simp [hl], fun i w e => ?_, fun i j xs ys p e1 e2 e3 e4 => a.apart i j xs ys p (gw.mp e1) (gw.mp e2) (gv.mp e3) (gv.mp e4), fun p o => ?_, a.fzl⟩, ow⟩
  · obtain ⟨v, h1, h2⟩ := a.rep i w (gw.mp e)
    exact ⟨v, gv.mpr h1, h2⟩
  · obtain ⟨k, xs, e1, e2⟩ := (ow p).mp o
    exact a.nofz k xs p e1 e2
end
theorem out_some {fx : List Bool} {o : Out} {ρ' : Rho} {r : W} {fin : List W} (e : (match o with | .rt r => some (r, finOf fx.length ρ') | .nx => some (W.d .none, finOf fx.length ρ') | _ => none) = some (r, fin)) :
    fin = finOf fx.length ρ' ∧ (o = .rt r ∨ (o = .nx ∧ r = .d .none)) := by
  cases o with
  | rt r' => simp only at e; cases e; exact ⟨rfl, .inl rfl⟩
  | nx => simp only at e; cases e; exact ⟨rfl, .inr ⟨rfl, rfl⟩⟩
  | bk => simp only at e; cases e
  | ct => simp only at e; cases e
section
variable {P : Program} {w : World} {K : PySem.W.Frag} {mg : Str → Option Value} {base : Heap}

theorem fun_okG {x qual : Str} {st : Stmt} {f : Addr} {fd : FuncData} {N ps : List Str} {k : Nat} {sp : Sp} (F : Fun K x qual st f fd) (S : FnScope N ps (defScope st)) (len : ∀ vs H Q E, sp vs H Q E → vs.length = ps.length)
    (hbody : ∀ (cdv : Value), fd.code = cdv → ∀ (A : Around) (outer : List Env) (s : Shared) (H : Hp) (vs : List V) (Q : VK) (E : XK), Room k (A.deeper (envOfC qual (defScope st) s.heap.objs.size f cdv)) → sp vs H Q E →
      ∃ t, PSs (cxOf CX0 P w K mg base N qual (defScope st) f cdv A outer s H E).nox (defBody st) t ∧ t { nx := fun _ H' => Q .non H', rt := Q } (start N vs) H) : FnOk P w K mg base CX0 (k + 1) f fd ps sp := by
  obtain ⟨oc, od, kV, doc, pm, an, cdv, ct, osl, rfl, lk, hcd⟩ := F.ex
  refine fn_of lk hcd S len fun A outer s H vs Q E hr hsp => ?_
  obtain ⟨t, h, q⟩ := hbody cdv rfl A outer s H vs Q E hr hsp
  exact ⟨t, h.nox, q⟩

theorem fn_linG {x qual : Str} {st : Stmt} {f : Addr} {fd : FuncData} {N ps : List Str} {k : Nat} {fx : List Bool} {fs : Fs} (F : Fun K x qual st f fd) (S : FnScope N ps (defScope st)) (hp : ps.length = fx.length) (hn : fx.length ≤ N.length)
    (hbody : ∀ (cdv : Value), fd.code = cdv → ∀ (A : Around) (outer : List Env) (s : Shared) (H : Hp) (E : XK), Room k (A.deeper (envOfC qual (defScope st) s.heap.objs.size f cdv)) →
      DSs (cxOf CX0 P w K mg base N qual (defScope st) f cdv A outer s H E).nox (fixOf fx) (defBody st) fs) : FnOk P w K mg base CX0 (k + 1) f fd ps (spF K fx.length (fnOf fx N.length fs)) := by
  refine fun_okG F S (fun vs H Q E h => by rw [h.1, hp]) fun cdv hcdv A outer s H vs Q E hr h => ?_
  obtain ⟨hv, Fz, ws, r, fin, a, e, q⟩ := h
  refine ⟨_, (hbody cdv hcdv A outer s H E hr).ok, ?_⟩
  unfold fnOf at e
  by_cases hc : ws.length = fx.length ∧ noFr ws fx = true
  · rw [if_pos hc] at e
    obtain ⟨hw, hf⟩ := hc
    cases e1 : fs (ws.map some ++ List.replicate (N.length - fx.length) none) with
    | none => rw [e1] at e; cases e
    | some p =>
      obtain ⟨o, ρ'⟩ := p
      simp only [e1, Option.bind_some] at e
      rw [← hw] at e1
      obtain ⟨r0, ow0⟩ := start_rel (N := N) a (by omega)
      refine ⟨Fz, _, o, ρ', r0, e1, fun σ' H' Fz' sp => ?_⟩
      have slot : ∀ (k : Nat) (xs : List D) (p : Addr), ws[k]? = some (W.fr xs) → vs[k]? = some (V.ref p) → k < fx.length ∧ σ'[k]? = some (some (V.ref p)) ∧ ∃ w', ρ'[k]? = some (some w') ∧ isL w' = true := by
        intro k xs p h1 h2
        have hk : k < fx.length := by rw [← hw]; exact (List.getElem?_eq_some_iff.mp h1).1
        have hfix := noFr_at hf h1 hk
        have s1 : (start N vs)[k]? = some (some (V.ref p)) := by
          unfold start
          rw [List.getElem?_append_left (by simp; omega), List.getElem?_map, h2]; rfl
        have s2 : (ws.map some ++ List.replicate (N.length - ws.length) none)[k]? = some (some (W.fr xs)) := by
          rw [List.getElem?_append_left (by simp; omega), List.getElem?_map, h1]; rfl
        obtain ⟨w', z1, z2⟩ := sp.kept k _ hfix s2
        exact ⟨hk, by rw [sp.same k hfix]; exact s1, w', z1, z2 rfl⟩
      have fin' : ∀ (k : Nat) (p : Addr) (xs : List D), ws[k]? = some (W.fr xs) → vs[k]? = some (V.ref p) →
          (∃ ys us, (finOf fx.length ρ')[k]? = some (W.fr ys) ∧ H' p = some (.lst us) ∧ DrAll K Fz' H' us ys ∧ ¬ Fz' p) ∨ (∃ ys, (finOf fx.length ρ')[k]? = some (W.d (.list ys)) ∧ Dr K Fz' H' (.ref p) (.list ys)) := by
        intro k p xs h1 h2
        obtain ⟨hk, s1, w', s2, s3⟩ := slot k xs p h1 h2
        have g : (finOf fx.length ρ')[k]? = some w' := by
          unfold finOf
          rw [List.getElem?_map, List.getElem?_take_of_lt hk, s2]; rfl
        obtain ⟨u, hu, hr'⟩ := sp.rel.val k w' s2
        rw [s1] at hu
        cases hu
        cases w' with
        | fr ys =>
          obtain ⟨p', us, z1, z2, z3⟩ := hr'
          cases z1
          exact .inl ⟨ys, us, g, z2, z3, sp.rel.nofz p ⟨k, ys, s2, s1⟩⟩
        | d x =>
          cases x with
          | list ys => exact .inr ⟨ys, g, hr'⟩
          | _ => cases s3
        | sl _ => cases s3
      have step' : Step (AOwn ws vs) Fz Fz' H H' := sp.step.weak fun q z => (ow0 q).mp z
      have noA : ∀ p us, H' p = some (.lst us) → ¬ Fz' p → ¬ Own ρ' σ' p → AOwn ws vs p → False := fun p us h1 h2 h3 ⟨k, xs, h4, h5⟩ => by
        obtain ⟨hk, s1, w', s2, s3⟩ := slot k xs p h4 h5
        cases w' with
        | fr ys => exact h3 ⟨k, ys, s2, s1⟩
        | d x =>
          cases x with
          | list ys =>
            obtain ⟨u, hu, hr'⟩ := sp.rel.val k _ s2
            rw [s1] at hu
            cases hu
            exact h2 (Dr.fz hr')
          | _ => cases s3
        | sl _ => cases s3
      obtain ⟨rfl, ho⟩ := out_some e
      rcases ho with rfl | ⟨rfl, rfl⟩
      · intro v rr
        refine q v H' Fz' ⟨step', rr.rep, fun xs p z1 z2 => ?_, fun k p xs h1 h2 => fin' k p xs h1 h2⟩
        obtain ⟨y1, y2, y3⟩ := rr.fresh xs p z1 z2
        refine ⟨?_, y1⟩
        rcases y3 with y3 | y3
        · subst z1; subst z2
          obtain ⟨p', us, e1, e2, _⟩ := rr.rep
          cases e1
          exact (noA p us e2 y1 y2 ((ow0 p).mp y3)).elim
        · exact y3
      · exact q .non H' Fz' ⟨step', (show Dr K Fz' H' V.non .none from .non), fun _ _ e => (nomatch e), fun k p xs h1 h2 => fin' k p xs h1 h2⟩
  · rw [if_neg hc] at e; cases e
theorem fn_lin {x qual : Str} {st : Stmt} {f : Addr} {fd : FuncData} {N ps : List Str} {k : Nat} {fx : List Bool} {fs : Fs} (F : Fun K x qual st f fd) (S : FnScope N ps (defScope st)) (hp : ps.length = fx.length) (hn : fx.length ≤ N.length)
    (hbody : ∀ (cdv : Value) (A : Around) (outer : List Env) (s : Shared) (H : Hp) (E : XK), Room k (A.deeper (envOfC qual (defScope st) s.heap.objs.size f cdv)) →
      DSs (cxOf CX0 P w K mg base N qual (defScope st) f cdv A outer s H E).nox (fixOf fx) (defBody st) fs) : FnOk P w K mg base CX0 (k + 1) f fd ps (spF K fx.length (fnOf fx N.length fs)) :=
  fn_linG F S hp hn fun cdv _ => hbody cdv

theorem FnOk.fn {CX : CXT} {k np : Nat} {f : Addr} {fd : FuncData} {ps : List Str} {F G : Fn} (h : FnOk P w K mg base CX k f fd ps (spF K np F)) (i : ∀ ws r, G ws = some r → F ws = some r) : FnOk P w K mg base CX k f fd ps (spF K np G) :=
  h.imp fun vs H Q E ⟨hv, Fz, ws, r, fin, a, e, q⟩ => ⟨hv, Fz, ws, r, fin, a, i ws _ e, q⟩
end

section
variable {K : PySem.W.Frag} {Fz Fz1 : Addr → Prop} {ρ ρ1 : Rho} {σ : St} {H H1 : Hp} {ws : List W} {vs : List V}
theorem PostL.write (a : PostL K Fz Fz1 ρ ρ1 σ H H1 ws vs) {i : Nat} {xs ys : List D} {p : Addr} {us : List V} (e1 : ρ1[i]? = some (some (.fr xs))) (e2 : σ[i]? = some (some (V.ref p))) (d : DrAll K Fz1 H1 us ys) {x : D} {v : V} (dx : Dr K Fz1 H1 v x) :
    PostL K Fz Fz1 ρ (ρ1.set i (some (.fr ys))) σ H (upd H1 p (.lst us)) [.d x] [v] := by
  have own : Own ρ1 σ p := ⟨i, xs, e1, e2⟩
  have nf : ¬ Fz1 p := a.rel.nofz p own
  have ne : ∀ q o, H1 q = some o → q ≠ p → upd H1 p (.lst us) q = some o := fun q o e h => by rw [upd_ne h]; exact e
  have st : Step (Own ρ1 σ) Fz1 Fz1 H1 (upd H1 p (.lst us)) := by
    refine ⟨fun q z e => a.rel.fzl q z (upd_live q e), fun q o e n => ne q o e fun z => n (z ▸ own), upd_live, fun _ z => z, fun _ z => .inl z⟩
  have old : ∀ {j ys'}, (ρ1.set i (some (.fr ys)))[j]? = some (some (W.fr ys')) → ∃ zs, ρ1[j]? = some (some (W.fr zs)) := fun {j ys'} h => by
    rcases set_cases h with ⟨rfl, _⟩ | ⟨_, z⟩
    · exact ⟨xs, e1⟩
    · exact ⟨ys', z⟩
  have ow : ∀ q, Own (ρ1.set i (some (.fr ys))) σ q → Own ρ1 σ q := fun q ⟨j, zs, h1, h2⟩ => by
    obtain ⟨zs', z⟩ := old h1
    exact ⟨j, zs', z, h2⟩
  refine ⟨⟨by rw [List.length_set]; exact a.rel.len, fun j w h => ?_, fun j k as bs q h1 h2 h3 h4 => ?_, fun q z => a.rel.nofz q (ow q z), st.fzl⟩, .cons (a.rel.dr st dx) .nil, fun q hq => ?_, frs_one_nd, a.step.trans st fun q z => .inl (a.own q z), fun q z => a.own q (ow q z), a.kept.trans fun k w h => ?_⟩
  · rcases set_cases h with ⟨rfl, z⟩ | ⟨hj, z⟩
    · cases z
      exact ⟨_, e2, p, us, rfl, upd_same, a.rel.drAll st d⟩
    · obtain ⟨u, h1, h2⟩ := a.rel.val j w z
      refine ⟨u, h1, ?_⟩
      cases w with
      | d y => exact a.rel.dr st h2
      | sl _ => exact h2
      | fr zs =>
        obtain ⟨q, us', z1, z2, z3⟩ := h2
        subst z1
        refine ⟨q, us', rfl, ne q _ z2 fun y => ?_, a.rel.drAll st z3⟩
        subst y
        exact hj (a.rel.apart j i zs xs q z e1 h1 e2)
  · obtain ⟨as', z1⟩ := old h1
    obtain ⟨bs', z2⟩ := old h2
    exact a.rel.apart j k as' bs' q z1 z2 h3 h4
  · rw [frs_d] at hq; exact absurd hq (by simp [frs])
  · by_cases hk : i = k
    · subst hk; exact ⟨_, getElem?_set_eq e1, fun _ => rfl⟩
    · exact ⟨w, by rw [List.getElem?_set_ne hk]; exact h, id⟩
theorem PostL.cut1 {w1 : W} {v1 : V} (a : PostL K Fz Fz1 ρ ρ1 σ H H1 (w1 :: ws) (v1 :: vs)) : PostL K Fz Fz1 ρ ρ1 σ H H1 ws vs ∧ RepW K Fz1 σ H1 w1 v1 := by
  have hr : RepW K Fz1 σ H1 w1 v1 ∧ Paired (RepW K Fz1 σ H1) ws vs := by
    cases a.rep with
    | cons x y => exact ⟨x, y⟩
  have sub : ∀ q, q ∈ frs ws vs → q ∈ frs (w1 :: ws) (v1 :: vs) := fun q hq => by
    cases w1 with
    | d y => rw [frs_d]; exact hq
    | sl i => rw [frs_sl]; exact hq
    | fr zs =>
      obtain ⟨p', us, rfl, _⟩ := hr.1
      rw [frs_fr]; exact List.mem_cons_of_mem _ hq
  have nd : (frs ws vs).Nodup := by
    have := a.nd
    cases w1 with
    | d y => rw [frs_d] at this; exact this
    | sl i => rw [frs_sl] at this; exact this
    | fr zs =>
      obtain ⟨p', us, rfl, _⟩ := hr.1
      rw [frs_fr] at this; exact (List.nodup_cons.mp this).2
  exact ⟨⟨a.rel, hr.2, fun p hp => a.fresh p (sub p hp), nd, a.step, a.own, a.kept⟩, hr.1⟩
end

def frAt (ρ : Rho) (i : Nat) : Option (List D) := match ρ[i]? with
  | some (some (.fr xs)) => some xs
  | _ => none
theorem frAt_some {ρ : Rho} {i : Nat} {xs : List D} (h : frAt ρ i = some xs) : ρ[i]? = some (some (W.fr xs)) := by
  unfold frAt at h
  split at h
  · rename_i ys e; cases h; exact e
  · cases h

def feMeth (h : List D → List D → Option (D × List D)) (fo : Fe) (fa : Fa) : Fe := fun ρ => (fo ρ).bind fun p => match p.1 with
  | .sl i => if (frAt p.2 i).isSome then (fa p.2).bind fun q => (escAll q.2 q.1).bind fun z => (frAt z.2 i).bind fun xs => (h xs z.1).bind fun r => some (.d r.1, z.2.set i (some (.fr r.2))) else none
  | _ => none
theorem feMeth_some {h : List D → List D → Option (D × List D)} {fo : Fe} {fa : Fa} {ρ ρ' : Rho} {w : W} (e : feMeth h fo fa ρ = some (w, ρ')) :
    ∃ i ρ1 ws ρ2 ys ρ3 xs x zs, fo ρ = some (.sl i, ρ1) ∧ (∃ as, ρ1[i]? = some (some (W.fr as))) ∧ fa ρ1 = some (ws, ρ2) ∧ escAll ρ2 ws = some (ys, ρ3) ∧ ρ3[i]? = some (some (W.fr xs)) ∧ h xs ys = some (x, zs) ∧ w = .d x ∧ ρ' = ρ3.set i (some (.fr zs)) := by
  unfold feMeth at e
  cases e1 : fo ρ with
  | none => rw [e1] at e; cases e
  | some p =>
    obtain ⟨w1, ρ1⟩ := p
    simp only [e1, Option.bind_some] at e
    cases w1 with
    | d _ => cases e
    | fr _ => cases e
    | sl i =>
      simp only at e
      by_cases hc : (frAt ρ1 i).isSome = true
      · rw [if_pos hc] at e
        obtain ⟨as, ha⟩ := Option.isSome_iff_exists.mp hc
        cases e2 : fa ρ1 with
        | none => rw [e2] at e; cases e
        | some q =>
          obtain ⟨ws, ρ2⟩ := q
          simp only [e2, Option.bind_some] at e
          cases e3 : escAll ρ2 ws with
          | none => rw [e3] at e; cases e
          | some z =>
            obtain ⟨ys, ρ3⟩ := z
            simp only [e3, Option.bind_some] at e
            cases e5 : frAt ρ3 i with
            | none => rw [e5] at e; cases e
            | some xs =>
              simp only [e5, Option.bind_some] at e
              cases e4 : h xs ys with
              | none => rw [e4] at e; cases e
              | some r =>
                obtain ⟨x, zs⟩ := r
                simp only [e4, Option.bind_some] at e
                cases e
                exact ⟨i, ρ1, ws, ρ2, ys, ρ3, xs, x, zs, rfl, ⟨as, frAt_some ha⟩, e2, e3, frAt_some e5, e4, rfl, rfl⟩
      · rw [if_neg hc] at e; cases e

def MethAtom (K : PySem.W.Frag) (r : V → List V → Hp → VK → Prop) (h : List D → List D → Option (D × List D)) : Prop :=
  ∀ (Fz : Addr → Prop) (H : Hp) (p : Addr) (us : List V) (xs : List D) (vs : List V) (ys : List D) (x : D) (zs : List D) (Q : VK), H p = some (.lst us) → DrAll K Fz H us xs → DrAll K Fz H vs ys → h xs ys = some (x, zs) →
    (∀ v us', Dr K Fz H v x → DrAll K Fz H us' zs → Q v (upd H p (.lst us'))) → r (.ref p) vs H Q
section
variable {X : Cx} {o : Expr} {fo : Fe} {fa : Fa} {r : V → List V → Hp → VK → Prop} {h : List D → List D → Option (D × List D)}
theorem meth_go {K : PySem.W.Frag} (at_ : MethAtom K r h) {σ : St} {H : Hp} {Q : VK} (hq : tE K (feMeth h fo fa) σ H Q) : tBM K "list" r (tE K fo) (tA K fa) σ H Q := by
  obtain ⟨Fz, ρ, w, ρ', rl, e, q⟩ := hq
  obtain ⟨i, ρ1, ws, ρ2, ys, ρ3, xs, x, zs, e1, ⟨as, e0⟩, e2, e3, e4, e5, rfl, rfl⟩ := feMeth_some e
  refine ⟨Fz, ρ, .sl i, ρ1, rl, e1, fun v H1 Fz1 p1 => ?_⟩
  have hs : σ[i]? = some (some v) := p1.rep1
  obtain ⟨u, hu, p, us, z1, z2, z3⟩ := p1.rel.val i _ e0
  rw [hs] at hu
  cases hu
  subst z1
  refine ⟨.inl ⟨rfl, us, SqL.of z2⟩, Fz1, ρ1, ws, ρ2, p1.rel, e2, fun vs H2 Fz2 p2 => ?_⟩
  obtain ⟨Fz3, p3, d3⟩ := p2.esc e3
  obtain ⟨u, hu, p', us', y1, y2, y3⟩ := p3.rel.val i _ e4
  rw [hs] at hu
  cases hu
  cases y1
  have p13 := p1.seq p3
  exact at_ Fz3 H2 p us' xs vs ys x zs Q y2 y3 d3 e5 fun v us2 dv du => q v _ Fz3 (p13.write e4 hs du dv)
theorem de_meth {id : String} {name : Str} {apos cpos : Pos} {e : Expr} {es : List Expr} (slot : Slot "list" name id) (hty : typeOf (.builtin id) = pure (.type "method_descriptor")) (hm : MtR X id r) (at_ : MethAtom X.K r h) (ho : DE X o fo) (ha : DA X (e :: es) fa)
    (hbase : attributeBase o name X.env (eval o X.env) = eval o X.env := by rfl)
    (hfew : ((backTo cpos (starEach (e :: es) X.env)).all (fun x => !x.1) && (backToKw cpos (keywordEach [] X.env)).all (fun x => x.1.isSome)
      && decide ((e :: es).length + ([] : List Keyword).length + (if ([] : List Keyword).isEmpty then 0 else 1) < 30)) = true := by rfl)
    (hline : (apos.endLine == cpos.line) = true := by rfl) (hs : starEach (e :: es) X.env = (false, eval e X.env) :: starEach es X.env := by rfl) (hplain : (backTo cpos (starEach es X.env)).any (·.1) = false := by rfl) :
    DE X (.Call (.Attribute o name apos) (e :: es) [] cpos) (feMeth h fo fa) :=
  ⟨PE.imp (pe_bm PySem.F.plainAttrs_list slot hty hm ho.ok ha.ok hbase hfew hline hs hplain) fun _ _ _ h => meth_go at_ h⟩
end
def hAppend : List D → List D → Option (D × List D)
  | xs, [y] => if xs.length < 16777216 then some (.none, xs ++ [y]) else none
  | _, _ => none
theorem at_append {K : PySem.W.Frag} : MethAtom K rAppend hAppend := by
  intro Fz H p us xs vs ys x zs Q e1 d1 d2 e2 k
  unfold hAppend at e2
  split at e2
  · obtain ⟨hl, z⟩ := some_ite e2
    cases z
    cases d2 with
    | cons d3 d4 =>
      cases d4
      exact ⟨p, us, _, rfl, rfl, e1, by rw [d1.length, sizeLine_eq]; exact hl, k _ _ .non (d1.append (.cons d3 .nil))⟩
  · cases e2
end L2.Q3
end

section
set_option Elab.async false
set_option linter.all false
set_option maxRecDepth 100000
set_option maxHeartbeats 4000000
namespace L2.Q3
open PySem PySem.Spec PyProof.Rows
section
variable {K : PySem.W.Frag} {Fz Fz1 : Addr → Prop} {ρ ρ1 : Rho} {σ : St} {H H1 : Hp} {ws : List W} {vs : List V}
theorem PostL.head {w1 : W} {v1 : V} (a : PostL K Fz Fz1 ρ ρ1 σ H H1 (w1 :: ws) (v1 :: vs)) : PostL K Fz Fz1 ρ ρ1 σ H H1 [w1] [v1] := by
  have hr := a.cut1.2
  refine ⟨a.rel, .cons hr .nil, fun p hp => a.fresh p ?_, frs_one_nd, a.step, a.own, a.kept⟩
  cases w1 with
  | d y => rw [frs_d] at hp; exact absurd hp (by simp [frs])
  | sl i => rw [frs_sl] at hp; exact absurd hp (by simp [frs])
  | fr zs =>
    obtain ⟨p', us, rfl, _⟩ := hr
    rw [frs_fr] at hp ⊢
    have : p = p' := by simpa [frs] using hp
    rw [this]; exact List.mem_cons_self
end

theorem at_popAt {K : PySem.W.Frag} : MethAtom K rPopAt (fun xs ys => match ys with
    | [.int i] => if 0 ≤ i ∧ i < xs.length ∧ i < 16777216 then (xs[i.toNat]?).bind fun x => some (x, xs.eraseIdx i.toNat) else none
    | _ => none) := by
  intro Fz H p us xs vs ys x zs Q e1 d1 d2 e2 k
  dsimp only at e2
  split at e2
  · rename_i i
    by_cases hc : 0 ≤ i ∧ i < xs.length ∧ i < 16777216
    · rw [if_pos hc] at e2
      cases e3 : xs[i.toNat]? with
      | none => rw [e3] at e2; cases e2
      | some y =>
        simp only [e3, Option.bind_some] at e2
        cases e2
        cases d2 with
        | cons d3 d4 =>
          cases d3
          cases d4
          obtain ⟨v, hv, dv⟩ := d1.get e3
          have hl := d1.length
          have hx : ixN us.length i = some i.toNat := by
            unfold ixN
            rw [if_pos hc.1, if_pos (by omega)]
          refine ⟨p, us, i, i.toNat, v, rfl, rfl, e1, by omega, by omega, (ixN_seq hx).1, hv, k _ _ dv ?_⟩
          exact eraseDr d1 i.toNat
    · rw [if_neg hc] at e2; cases e2
  · cases e2
where
  eraseDr {K : PySem.W.Frag} {Fz : Addr → Prop} {H : Hp} : ∀ {us : List V} {xs : List D}, DrAll K Fz H us xs → ∀ (n : Nat), DrAll K Fz H (us.eraseIdx n) (xs.eraseIdx n)
    | _, _, .nil, n => by simp; exact .nil
    | _, _, .cons h t, 0 => t
    | _, _, .cons h t, n + 1 => .cons h (eraseDr t n)
def hPopAt' : List D → List D → Option (D × List D) := fun xs ys => match ys with
    | [.int i] => if 0 ≤ i ∧ i < xs.length ∧ i < 16777216 then (xs[i.toNat]?).bind fun x => some (x, xs.eraseIdx i.toNat) else none
    | _ => none
theorem at_popAt' {K : PySem.W.Frag} : MethAtom K rPopAt hPopAt' := at_popAt
theorem atI_dr {K : PySem.W.Frag} {Fz : Addr → Prop} {H : Hp} {us : List V} {xs : List D} {i : Int} {x : D} (d : DrAll K Fz H us xs) (e : atI xs i = some x) : ∃ v, atI us i = some v ∧ Dr K Fz H v x := by
  unfold atI at e ⊢
  rw [d.length]
  cases h : ixN xs.length i with
  | none => rw [h] at e; cases e
  | some j =>
    simp only [h, Option.bind_some] at e ⊢
    exact d.get e
def gIx : List D → Option W
  | [.list xs, .int i] => (atI xs i).bind fun x => some (.d x)
  | [.tuple xs, .int i] => (atI xs i).bind fun x => some (.d x)
  | [.str z, .int i] => if z.length ≤ 16777216 then (atI z.cps.toList i).bind fun c => some (.d (.str ⟨#[c]⟩)) else none
  | [.dict [(.none, .list xs)], .int i] => (atI xs i).bind fun x => some (.d x)
  | _ => none
theorem bind_some_d {α : Type} {o : Option α} {f : α → W} {w : W} (h : (o.bind fun x => some (f x)) = some w) : ∃ x, o = some x ∧ f x = w := by
  cases o with
  | none => cases h
  | some x => exact ⟨x, rfl, Option.some.inj h⟩
theorem atom_ix {K : PySem.W.Frag} : Atom K (r2 (rIx K)) gIx := by
  intro Fz H vs xs w Q l h e k
  unfold gIx at e
  split at e
  · obtain ⟨x, e1, rfl⟩ := bind_some_d e
    obtain ⟨v, u, rfl, h1, h2⟩ := paired2 h
    obtain ⟨a, us, rfl, s1, d1⟩ := h1.lst
    rw [h2.int]
    obtain ⟨y, g1, g2⟩ := atI_dr d1 e1
    exact .inl ⟨a, us, _, y, rfl, rfl, SqL.of s1, g1, k _ _ _ (.val l g2)⟩
  · obtain ⟨x, e1, rfl⟩ := bind_some_d e
    obtain ⟨v, u, rfl, h1, h2⟩ := paired2 h
    obtain ⟨a, us, rfl, s1, d1⟩ := h1.tup
    rw [h2.int]
    obtain ⟨y, g1, g2⟩ := atI_dr d1 e1
    exact .inr (.inl ⟨a, us, _, y, rfl, rfl, s1, g1, k _ _ _ (.val l g2)⟩)
  · rename_i z i
    by_cases hc : z.length ≤ 16777216
    · rw [if_pos hc] at e
      obtain ⟨c, e1, rfl⟩ := bind_some_d e
      obtain ⟨v, u, rfl, h1, h2⟩ := paired2 h
      rw [h1.str, h2.int]
      exact .inr (.inr ⟨_, _, c, rfl, rfl, by rw [sizeLine_eq]; exact hc, e1, k _ _ _ (.val l (.str _))⟩)
    · rw [if_neg hc] at e; cases e
  · obtain ⟨x, e1, rfl⟩ := bind_some_d e
    obtain ⟨v, u, rfl, h1, h2⟩ := paired2 h
    obtain ⟨a, us, rfl, s1, d1⟩ := h1.scr
    rw [h2.int]
    obtain ⟨y, g1, g2⟩ := atI_dr d1 e1
    exact .inl ⟨a, us, _, y, rfl, rfl, s1, g1, k _ _ _ (.val l g2)⟩
  · cases e
section
variable {X : Cx} {a b : Expr} {fa fb : Fe} {pos : Pos}
theorem de_ix (ha : DE X a fa) (hb : DE X b fb) (hs : PlainIx b := by exact fun _ _ => rfl) : DE X (.Subscript a b pos) (fe2 gIx fa fb) := ⟨PE.imp (pe_ix ix_seq ha.ok hb.ok hs) fun _ _ _ h => atom_go2 atom_ix h⟩

theorem de_callB {x : Str} {id : String} {p : Pos} {e : Expr} {es : List Expr} {f : Fa} {r : List V → Hp → VK → Prop} {g : List D → Option W} (hc : CallR X (.builtin id) r) (at_ : Atom X.K r g) (hg : Gl X x) (hm : X.mg x = none) (hv : bootBuiltins x = some (.builtin id)) (ha : DA X (e :: es) f)
    (hn : x ≠ "__name__" := by decide) (hdb : (x == ("__debug__" : Str)) = false := by decide)
    (he : starEach (e :: es) X.env = (false, eval e X.env) :: starEach es X.env := by rfl) (hpl : (backTo pos (starEach es X.env)).any (·.1) = false := by rfl) : DE X (.Call (.Name x p) (e :: es) [] pos) (feAtom g f) :=
  ⟨PE.imp (pe_callB hc hg hm hv ha.ok hn hdb he hpl) fun _ _ _ h => atom_go at_ h⟩
theorem de_callTy {x : Str} {T : String} {p : Pos} {e : Expr} {es : List Expr} {f : Fa} {r : List V → Hp → VK → Prop} {g : List D → Option W} (hc : CallR X (.type T) r) (at_ : Atom X.K r g) (hg : Gl X x) (hm : X.mg x = none) (hv : bootBuiltins x = some (.type T)) (ha : DA X (e :: es) f)
    (hn : x ≠ "__name__" := by decide) (hdb : (x == ("__debug__" : Str)) = false := by decide)
    (he : starEach (e :: es) X.env = (false, eval e X.env) :: starEach es X.env := by rfl) (hpl : (backTo pos (starEach es X.env)).any (·.1) = false := by rfl) : DE X (.Call (.Name x p) (e :: es) [] pos) (feAtom g f) :=
  ⟨PE.imp (pe_callTy hc hg hm hv ha.ok hn hdb he hpl) fun _ _ _ h => atom_go at_ h⟩
def gLen : List D → Option W
  | [.list xs] => some (.d (.int xs.length))
  | [.tuple xs] => some (.d (.int xs.length))
  | [.str z] => if z.length ≤ 16777216 then some (.d (.int z.length)) else none
  | [.dict [(.none, .list xs)]] => some (.d (.int xs.length))
  | _ => none
theorem atom_len {K : PySem.W.Frag} : Atom K (fun xs H Q => ∃ x n, xs = [x] ∧ LenV K x H n ∧ Q (.int n) H) gLen := by
  intro Fz H vs xs w Q l h e k
  unfold gLen at e
  split at e
  · cases e
    obtain ⟨v, rfl, h1⟩ := paired1 h
    obtain ⟨a, us, rfl, s1, d1⟩ := h1.lst
    exact ⟨_, _, rfl, .inl ⟨us, SqL.of s1, d1.length.symm⟩, k _ _ _ (.val l (.int _))⟩
  · cases e
    obtain ⟨v, rfl, h1⟩ := paired1 h
    obtain ⟨a, us, rfl, s1, d1⟩ := h1.tup
    exact ⟨_, _, rfl, .inr ⟨us, s1, d1.length.symm⟩, k _ _ _ (.val l (.int _))⟩
  · obtain ⟨hc, rfl⟩ := some_ite e
    obtain ⟨v, rfl, h1⟩ := paired1 h
    rw [h1.str]
    exact ⟨_, _, rfl, ⟨by rw [sizeLine_eq]; exact hc, rfl⟩, k _ _ _ (.val l (.int _))⟩
  · cases e
    obtain ⟨v, rfl, h1⟩ := paired1 h
    obtain ⟨a, us, rfl, s1, d1⟩ := h1.scr
    exact ⟨_, _, rfl, .inl ⟨us, s1, d1.length.symm⟩, k _ _ _ (.val l (.int _))⟩
  · cases e
def gInt : List D → Option W
  | [.int i] => some (.d (.int i))
  | [.bool b] => some (.d (.int (if b then 1 else 0)))
  | _ => none
theorem atom_int1 {K : PySem.W.Frag} : Atom K (fun xs H Q => (∃ i, xs = [.int i] ∧ Q (.int i) H) ∨ ∃ k, xs = [.bl k] ∧ Q (.int (if k then 1 else 0)) H) gInt := by
  intro Fz H vs xs w Q l h e k
  unfold gInt at e
  split at e
  · cases e
    obtain ⟨v, rfl, h1⟩ := paired1 h
    rw [h1.int]
    exact .inl ⟨_, rfl, k _ _ _ (.val l (.int _))⟩
  · cases e
    obtain ⟨v, rfl, h1⟩ := paired1 h
    rw [h1.bool]
    exact .inr ⟨_, rfl, k _ _ _ (.val l (.int _))⟩
  · cases e
def gMax2 : List D → Option W := gI0 fun i j => .int (if j > i then j else i)
def gMin2 : List D → Option W := gI0 fun i j => .int (if j < i then j else i)
theorem atom_c2 {K : PySem.W.Frag} {gv : Int → Int → Int} : Atom K (fun xs H Q => ∃ i j, xs = [.int i, .int j] ∧ Q (.int (gv i j)) H) (gI0 fun i j => .int (gv i j)) := by
  intro Fz H vs xs w Q l h e k
  unfold gI0 at e
  split at e
  · cases e
    obtain ⟨v, u, rfl, h1, h2⟩ := paired2 h
    rw [h1.int, h2.int]
    exact ⟨_, _, rfl, k _ _ _ (.val l (.int _))⟩
  · cases e
def gTuple : List D → Option W
  | [.list xs] => some (.d (.tuple xs))
  | [.tuple xs] => some (.d (.tuple xs))
  | _ => none
theorem atom_tuple {K : PySem.W.Frag} : Atom K (fun xs H Q => ∃ p ys, xs = [.ref p] ∧ ((SqL K H p ys ∧ ∀ l, H l = none → Q (.ref l) (upd H l (.tup ys))) ∨ (SqT K H p ys ∧ Q (.ref p) H))) gTuple := by
  intro Fz H vs xs w Q l h e k
  unfold gTuple at e
  split at e
  · cases e
    obtain ⟨v, rfl, h1⟩ := paired1 h
    obtain ⟨a, us, rfl, s1, d1⟩ := h1.lst
    exact ⟨a, us, rfl, .inl ⟨SqL.of s1, fun p hp => k _ _ _ (.newT l hp d1)⟩⟩
  · cases e
    obtain ⟨v, rfl, h1⟩ := paired1 h
    obtain ⟨a, us, rfl, s1, d1⟩ := h1.tup
    refine ⟨a, us, rfl, .inr ⟨s1, k _ _ _ (.val l ?_)⟩⟩
    rcases h1 with h1 | ⟨_, _, _, _, e, _⟩
    · exact h1
    · cases e
  · cases e
def strsOf : List D → Option (List Str)
  | [] => some []
  | .str b :: xs => (strsOf xs).bind fun bs => some (b :: bs)
  | _ => none
theorem strs_dr {K : PySem.W.Frag} {Fz : Addr → Prop} {H : Hp} : ∀ {us : List V} {xs : List D} {bs : List Str}, DrAll K Fz H us xs → strsOf xs = some bs → us = bs.map V.str
  | _, _, _, .nil, e => by cases e; rfl
  | _, x :: xs, bs, .cons h t, e => by
    cases x with
    | str b =>
      unfold strsOf at e
      cases e1 : strsOf xs with
      | none => rw [e1] at e; cases e
      | some cs =>
        simp only [e1, Option.bind_some] at e
        cases e
        cases h
        rw [strs_dr t e1]; rfl
    | _ => cases e
theorem dr_strs {K : PySem.W.Frag} {Fz : Addr → Prop} {H : Hp} : ∀ (bs : List Str), DrAll K Fz H (bs.map V.str) (bs.map PyData.str)
  | [] => .nil
  | b :: bs => .cons (.str b) (dr_strs bs)

end

def feSm (h : D → List D → Option D) (fo : Fe) (fa : Fa) : Fe := fun ρ => (fo ρ).bind fun p => match p.1 with
  | .d (.str z) => (fa p.2).bind fun q => (rdAll q.2 q.1).bind fun ys => (h (.str z) ys).bind fun x => some (.d x, q.2)
  | _ => none
section
variable {X : Cx} {o : Expr} {fo : Fe} {fa : Fa} {r : V → List V → Hp → VK → Prop} {h : D → List D → Option D}
def SmAtom (K : PySem.W.Frag) (r : V → List V → Hp → VK → Prop) (h : D → List D → Option D) : Prop :=
  ∀ (Fz : Addr → Prop) (H : Hp) (z : Str) (vs : List V) (ys : List D) (x : D) (Q : VK), Paired (Rdg K Fz H) vs ys → h (.str z) ys = some x → (∀ v, Dr K Fz H v x → Q v H) → r (.str z) vs H Q
theorem sm_go {K : PySem.W.Frag} (at_ : SmAtom K r h) {σ : St} {H : Hp} {Q : VK} (hq : tE K (feSm h fo fa) σ H Q) : tBM K "str" r (tE K fo) (tA K fa) σ H Q := by
  obtain ⟨Fz, ρ, w, ρ', rl, e, q⟩ := hq
  unfold feSm at e
  cases e1 : fo ρ with
  | none => rw [e1] at e; cases e
  | some p =>
    obtain ⟨w1, ρ1⟩ := p
    simp only [e1, Option.bind_some] at e
    split at e
    · rename_i z
      refine ⟨Fz, ρ, _, ρ1, rl, e1, fun v H1 Fz1 p1 => ?_⟩
      have hv : Dr K Fz1 H1 v (.str z) := p1.rep1
      cases hv
      refine ⟨rfl, ?_⟩
      cases e2 : fa ρ1 with
      | none => rw [e2] at e; cases e
      | some q2 =>
        obtain ⟨ws, ρ2⟩ := q2
        simp only [e2, Option.bind_some] at e
        cases e3 : rdAll ρ2 ws with
        | none => rw [e3] at e; cases e
        | some ys =>
          simp only [e3, Option.bind_some] at e
          cases e4 : h (.str z) ys with
          | none => rw [e4] at e; cases e
          | some x =>
            simp only [e4, Option.bind_some] at e
            cases e
            refine ⟨Fz1, ρ1, ws, ρ', p1.rel, e2, fun vs H2 Fz2 p2 => ?_⟩
            exact at_ Fz2 H2 z vs ys x Q (p2.rel.rdgAll p2.rep e3) e4 fun v dv => q v H2 Fz2 ((p1.seq p2).made (.val p2.rel.fzl dv))
    · cases e
theorem de_sm {id : String} {name : Str} {apos cpos : Pos} {e : Expr} {es : List Expr} (slot : Slot "str" name id) (hty : typeOf (.builtin id) = pure (.type "method_descriptor")) (hm : MtR X id r) (at_ : SmAtom X.K r h) (ho : DE X o fo) (ha : DA X (e :: es) fa)
    (hbase : attributeBase o name X.env (eval o X.env) = eval o X.env := by rfl)
    (hfew : ((backTo cpos (starEach (e :: es) X.env)).all (fun x => !x.1) && (backToKw cpos (keywordEach [] X.env)).all (fun x => x.1.isSome)
      && decide ((e :: es).length + ([] : List Keyword).length + (if ([] : List Keyword).isEmpty then 0 else 1) < 30)) = true := by rfl)
    (hline : (apos.endLine == cpos.line) = true := by rfl) (hs : starEach (e :: es) X.env = (false, eval e X.env) :: starEach es X.env := by rfl) (hplain : (backTo cpos (starEach es X.env)).any (·.1) = false := by rfl) :
    DE X (.Call (.Attribute o name apos) (e :: es) [] cpos) (feSm h fo fa) :=
  ⟨PE.imp (pe_bm PySem.F.plainAttrs_str slot hty hm ho.ok ha.ok hbase hfew hline hs hplain) fun _ _ _ h => sm_go at_ h⟩
def hJoin : D → List D → Option D
  | .str a, [.list xs] => (strsOf xs).bind fun ys => if (ys.map (·.length)).sum + ys.length * a.length ≤ 16777216 then some (.str (Txt.join a ys)) else none
  | _, _ => none
theorem at_join {K : PySem.W.Frag} : SmAtom K (fun x xs H Q => ∃ a p, ∃ ys : List Str, x = .str a ∧ xs = [.ref p] ∧ (SqL K H p (ys.map V.str) ∨ SqT K H p (ys.map V.str)) ∧
    (ys.map (·.length)).sum + ys.length * a.length ≤ 16777216 ∧ Q (.str (Txt.join a ys)) H) hJoin := by
  intro Fz H z vs ys x Q h e k
  unfold hJoin at e
  split at e
  · rename_i a xs ha
    cases ha
    cases e1 : strsOf xs with
    | none => rw [e1] at e; cases e
    | some bs =>
      simp only [e1, Option.bind_some] at e
      obtain ⟨hc, rfl⟩ := some_ite e
      obtain ⟨v, rfl, h1⟩ := paired1 h
      obtain ⟨a, us, rfl, s1, d1⟩ := h1.lst
      exact ⟨z, a, bs, rfl, rfl, .inl (by rw [← strs_dr d1 e1]; exact SqL.of s1), hc, k _ (.str _)⟩
  · cases e
end

def fStore (fe fo fi : Fe) : Fs := fun ρ => (faCons fe (faCons fo (faCons fi faNil)) ρ).bind fun p => match p.1 with
  | [w, .sl s, wi] => (rdW p.2 wi).bind fun xi => match xi with
    | .int k => (escAll p.2 [w]).bind fun z => match z.1 with
      | [x] => (frAt z.2 s).bind fun xs => (ixN xs.length k).bind fun j => some (.nx, z.2.set s (some (.fr (xs.set j x))))
      | _ => none
    | _ => none
  | _ => none
section
variable {X : Cx} {fix : Nat → Bool} {pos pos' : Pos} {e o i : Expr} {fe fo fi : Fe}
theorem store_go {K : PySem.W.Frag} {D : Ends} {σ : St} {H : Hp} (h : tS K fix (fStore fe fo fi) D σ H) : tAsg (tE K fe) (L2.gSub (tE K fo) (tE K fi) rSetL) D σ H := by
  obtain ⟨Fz, ρ, o, ρ', r, e, q⟩ := h
  unfold fStore at e
  cases e1 : faCons fe (faCons fo (faCons fi faNil)) ρ with
  | none => rw [e1] at e; cases e
  | some p =>
    obtain ⟨ws, ρ3⟩ := p
    simp only [e1, Option.bind_some] at e
    obtain ⟨w, ρ1, us, g1, g2, rfl⟩ := faCons_some e1
    obtain ⟨w2, ρ2, us2, g3, g4, rfl⟩ := faCons_some g2
    obtain ⟨w3, ρ3', us3, g5, g6, rfl⟩ := faCons_some g4
    cases g6
    cases w2 with
    | d _ => cases e
    | fr _ => cases e
    | sl s =>
      simp only at e
      cases e2 : rdW ρ3 w3 with
      | none => rw [e2] at e; cases e
      | some xi =>
        simp only [e2, Option.bind_some] at e
        cases xi with
        | int k =>
          simp only at e
          cases e3 : escAll ρ3 [w] with
          | none => rw [e3] at e; cases e
          | some z =>
            obtain ⟨xs1, ρ4⟩ := z
            simp only [e3, Option.bind_some] at e
            split at e
            · rename_i x
              cases e4 : frAt ρ4 s with
              | none => rw [e4] at e; cases e
              | some xs =>
                simp only [e4, Option.bind_some] at e
                cases e5 : ixN xs.length k with
                | none => rw [e5] at e; cases e
                | some j =>
                  simp only [e5, Option.bind_some] at e
                  cases e
                  refine ⟨Fz, ρ, w, ρ1, r, g1, fun v H1 Fz1 p1 => ?_⟩
                  refine ⟨Fz1, ρ1, .sl s, ρ2, p1.rel, g3, fun vo H2 Fz2 p2 => ?_⟩
                  refine ⟨Fz2, ρ2, w3, ρ3, p2.rel, g5, fun vi H3 Fz3 p3 => ?_⟩
                  have p123 := p1.cons (p2.cons p3)
                  have hvi : Rdg K Fz3 H3 vi (.int k) := p3.rel.rdg p3.rep1 e2
                  have hs : σ[s]? = some (some vo) := by
                    have := p123.cut1.1.cut1.2
                    exact this
                  obtain ⟨Fz4, p4, d4⟩ := p123.head.esc e3
                  cases d4 with
                  | cons dx _ =>
                    have e4' := frAt_some e4
                    obtain ⟨u, hu, pp, us, z1, z2, z3⟩ := p4.rel.val s _ e4'
                    rw [hs] at hu
                    cases hu
                    subst z1
                    rw [hvi.int]
                    refine ⟨pp, us, k, j, rfl, rfl, z2, by rw [z3.length]; exact e5, ?_⟩
                    have w5 := p4.write e4' hs (z3.set dx j) dx
                    exact q σ _ Fz4 w5.sp
            · cases e
        | _ => cases e
theorem ds_store (he : DE X e fe) (ho : DE X o fo) (hi : DE X i fi)
    (ha : ∀ v, assign (.Subscript o i pos') X.env v = (do
      let ov ← holding [v] (eval o X.env)
      let iv ← holding [v, ov] (eval i X.env)
      standAt pos'
      holding [v, ov, iv] (setItem ov iv v)
      release [v, ov, iv] []) := by intro _; rfl)
    (hs : swapsWithSole [.Subscript o i pos'] e pos.line X.env = pure false := by rfl) (hw : swappedStores [.Subscript o i pos'] e X.env = pure none := by rfl) (h1 : (assignEach [.Subscript o i pos'] X.env).map (·.2) = [assign (.Subscript o i pos') X.env] := by rfl) :
    DS X fix (.Assign [.Subscript o i pos'] e pos) (fStore fe fo fi) :=
  ⟨PS.imp (ps_asg he.ok (pg_sub ho.ok hi.ok set_list ha) hs hw h1) fun D σ H h => store_go h⟩
end
end L2.Q3
end

section
set_option Elab.async false
set_option linter.all false
set_option maxRecDepth 100000
set_option maxHeartbeats 4000000
namespace L2.Q3
open PySem PySem.Spec PyProof.Rows

abbrev Fg := D → Rho → Option Rho
abbrev Fgs := List D → Rho → Option Rho
def tG (K : PySem.W.Frag) (fix : Nat → Bool) (fg : Fg) : TG := fun v σ H Q => ∃ Fz ρ x ρ', Rel K Fz ρ σ H ∧ Dr K Fz H v x ∧ fg x ρ = some ρ' ∧ ∀ σ', SPost K fix Fz Fz ρ ρ' σ σ' H H → (∀ p, Own ρ' σ' p → Own ρ σ p) → Q σ' H
def tGs (K : PySem.W.Frag) (fix : Nat → Bool) (fg : Fgs) : TGs := fun vs σ H Q => ∃ Fz ρ xs ρ', Rel K Fz ρ σ H ∧ DrAll K Fz H vs xs ∧ fg xs ρ = some ρ' ∧ ∀ σ', SPost K fix Fz Fz ρ ρ' σ σ' H H → (∀ p, Own ρ' σ' p → Own ρ σ p) → Q σ' H
structure DG (X : Cx) (fix : Nat → Bool) (e : Expr) (fg : Fg) : Prop where
  ok : PG X e (tG X.K fix fg)
structure DGs (X : Cx) (fix : Nat → Bool) (es : List Expr) (fg : Fgs) : Prop where
  ok : PGs X es (tGs X.K fix fg)
theorem PG.imp {X : Cx} {e : Expr} {t t' : TG} (h : PG X e t) (i : ∀ v σ H Q, t' v σ H Q → t v σ H Q) : PG X e t' := fun pins s σ H v u Q I r q => h pins s σ H v u Q I r (i v σ H Q q)
theorem PGs.imp {X : Cx} {e : List Expr} {t t' : TGs} (h : PGs X e t) (i : ∀ v σ H Q, t' v σ H Q → t v σ H Q) : PGs X e t' := fun pins s σ H v u Q I r q => h pins s σ H v u Q I r (i v σ H Q q)
def gN (i : Nat) : Fg := fun x ρ => some (ρ.set i (some (.d x)))
def gsNil : Fgs := fun xs ρ => match xs with | [] => some ρ | _ => none
def gsCons (f : Fg) (g : Fgs) : Fgs := fun xs ρ => match xs with | x :: xs => (f x ρ).bind fun ρ1 => g xs ρ1 | _ => none
def gT (n : Nat) (g : Fgs) : Fg := fun x ρ => match x with | .tuple xs => if xs.length = n then g xs ρ else none | _ => none
section
variable {X : Cx} {fix : Nat → Bool} {pos : Pos}
theorem dg_name {i : Nat} {x : Str} (hi : fix i = false) (hN : X.N.Nodup) (hn : X.N[i]? = some x) (hx : Loc X.env.scope x) (hf : X.fn x = true ∨ X.env.scope.names.lookup x = some .local := by first | exact .inl rfl | exact .inr rfl | assumption) : DG X fix (.Name x pos) (gN i) :=
  ⟨PG.imp (pg_name hN hn hx hf) fun v σ H Q h => by
    obtain ⟨Fz, ρ, x, ρ', r, d, e, q⟩ := h
    cases e
    obtain ⟨h1, h2⟩ := r.store (w := .d x) i d (fun _ _ e => nomatch e)
    have h3 : ∀ p, Own (ρ.set i (some (W.d x))) (σ.set i (some v)) p → Own ρ σ p := fun p z => by
      rcases h2 p z with z | ⟨_, _, z⟩
      · exact z
      · cases z
    exact q _ ⟨h1, .refl r.fzl, fun p z => .inl (h3 p z), fix_set hi, kpf_set hi, by rw [List.length_set]⟩ h3⟩
theorem dgs_nil : DGs X fix [] gsNil := ⟨PGs.imp pgs_nil fun vs σ H Q h => by
  obtain ⟨Fz, ρ, xs, ρ', r, d, e, q⟩ := h
  cases d with
  | nil => cases e; exact ⟨rfl, q σ (.refl r) fun _ z => z⟩
  | cons _ _ => cases e⟩
theorem dgs_cons {e : Expr} {es : List Expr} {f : Fg} {g : Fgs} (h1 : DG X fix e f) (h2 : DGs X fix es g) (hs : (assignEach (e :: es) X.env).map (·.2) = assign e X.env :: (assignEach es X.env).map (·.2) := by rfl) : DGs X fix (e :: es) (gsCons f g) :=
  ⟨PGs.imp (pgs_cons h1.ok h2.ok hs) fun vs σ H Q h => by
    obtain ⟨Fz, ρ, xs, ρ', r, d, e, q⟩ := h
    cases d with
    | nil => cases e
    | @cons v vs x xs dx dxs =>
      unfold gsCons at e
      simp only at e
      cases e1 : f x ρ with
      | none => rw [e1] at e; cases e
      | some ρ1 =>
        simp only [e1, Option.bind_some] at e
        refine ⟨v, vs, rfl, Fz, ρ, x, ρ1, r, dx, e1, fun σ1 p1 o1 => ?_⟩
        exact ⟨Fz, ρ1, xs, ρ', p1.rel, dxs, e, fun σ2 p2 o2 => q σ2 (p1.trans p2) fun p z => o1 p (o2 p z)⟩⟩
theorem dg_tup {es : List Expr} {k : Nat} {g : Fgs} {n : Nat} (hc : X.calm = true) (h : DGs X fix es g) (hn : (assignEach es X.env).length = n := by rfl) (hst : (assignEach es X.env).findIdx? (·.1) = none := by rfl) : DG X fix (.Tuple es k pos) (gT n g) :=
  ⟨PG.imp (pg_tup hc h.ok hn hst) fun v σ H Q h => by
    obtain ⟨Fz, ρ, x, ρ', r, d, e, q⟩ := h
    unfold gT at e
    split at e
    · rename_i xs
      by_cases hl : xs.length = n
      · rw [if_pos hl] at e
        obtain ⟨a, us, rfl, s1, d1⟩ := Rdg.tup (Fz := Fz) (H := H) (K := X.K) (v := v) (ds := xs) (.inl d)
        exact ⟨a, us, rfl, s1, by rw [d1.length]; exact hl, Fz, ρ, xs, ρ', r, d1, e, q⟩
      · rw [if_neg hl] at e; cases e
    · cases e⟩

end

def Walk (K : PySem.W.Frag) (Fz : Addr → Prop) (H : Hp) (J : It) (items : List D) : Prop :=
  ∀ (Fz' : Addr → Prop) (H' : Hp), (∀ q, Fz q → Fz' q) → (∀ q o, Fz q → H q = some o → H' q = some o) → (∀ q, Fz' q → H' q ≠ none) →
    (∀ (i : Nat) (x : D), items[i]? = some x → J.go i H' ∧ ∀ v H'', J.yld i H' v H'' → ∃ Fz'', Made K Fz' Fz'' H' H'' (.d x) v) ∧ J.stop items.length H'
abbrev Fi := Rho → Option (List D × Rho)
def tI (K : PySem.W.Frag) (fi : Fi) : TI := fun σ H R => ∃ Fz ρ items ρ', Rel K Fz ρ σ H ∧ fi ρ = some (items, ρ') ∧ ∀ J H1 Fz1, PostL K Fz Fz1 ρ ρ' σ H H1 [] [] → Walk K Fz1 H1 J items → R J H1
structure DI (X : Cx) (tg iter : Expr) (fi : Fi) : Prop where
  ok : PI X tg iter (tI X.K fi)
theorem PI.imp {X : Cx} {tg e : Expr} {t t' : TI} (h : PI X tg e t) (i : ∀ σ H Q, t' σ H Q → t σ H Q) : PI X tg e t' := fun pins s σ H Q I q => h pins s σ H Q I (i σ H Q q)
section
variable {X : Cx} {tg : Expr}

theorem pi_seq {l : Expr} {tl : TE} (hl : PE X l tl) : PI X tg l (fun σ H R => tl σ H fun x H1 => ∃ a, x = .ref a ∧ ((∃ xs, SqL X.K H1 a xs ∧ R (Itl X.K a) H1) ∨ ∃ xs, SqT X.K H1 a xs ∧ R (Itt X.K a) H1)) := by
  intro pins s σ H R I h
  refine thn (hl pins s σ H _ I h) fun v s1 ⟨x, H1, I1, r1, q1⟩ => ?_
  obtain ⟨a, e, ⟨xs, hq, q⟩ | ⟨xs, hq, q⟩⟩ := q1
  · subst e
    cases r1
    obtain ⟨its, rv, p, hz⟩ := I1.list hq
    refine wpAny_pyIter_list p.isList ?_
    refine ⟨s1.heap.objs.size, [s1.heap.objs.size], _, _, H1, rfl, I1.kept (t' := s1.toks) fun b o e => Heap.get?_push_of_some _ e, turn_list a _, ⟨_, Heap.get?_push_size _ rfl, rfl, rfl⟩, fun b hb => ?_, q⟩
    have e : b = s1.heap.objs.size := by simpa using hb
    subst e
    exact I1.fpOk (Nat.le_refl _) (I1.hok.fresh (Nat.le_refl _))
  · subst e
    cases r1
    obtain ⟨its, rv, p, hz⟩ := I1.tuple hq
    refine wpAny_pyIter_tuple (show s1.heap.IsTuple a its.toArray from p) ?_
    refine ⟨s1.heap.objs.size, [s1.heap.objs.size], _, _, H1, rfl, I1.kept (t' := s1.toks) fun b o e => Heap.get?_push_of_some _ e, turn_tuple a _, ⟨_, Heap.get?_push_size _ rfl, rfl, rfl⟩, fun b hb => ?_, q⟩
    have e : b = s1.heap.objs.size := by simpa using hb
    subst e
    exact I1.fpOk (Nat.le_refl _) (I1.hok.fresh (Nat.le_refl _))
def itemsOf : D → Option (List D)
  | .list xs => some xs
  | .tuple xs => some xs
  | _ => none
def fiSeq (fe : Fe) : Fi := fun ρ => (fe ρ).bind fun p => (esc1 p.2 p.1).bind fun z => (itemsOf z.1).bind fun xs => some (xs, z.2)
theorem fiSeq_some {fe : Fe} {ρ ρ' : Rho} {xs : List D} (e : fiSeq fe ρ = some (xs, ρ')) : ∃ w ρ1 x, fe ρ = some (w, ρ1) ∧ esc1 ρ1 w = some (x, ρ') ∧ itemsOf x = some xs := by
  unfold fiSeq at e
  cases e1 : fe ρ with
  | none => rw [e1] at e; cases e
  | some p =>
    obtain ⟨w, ρ1⟩ := p
    simp only [e1, Option.bind_some] at e
    cases e2 : esc1 ρ1 w with
    | none => rw [e2] at e; cases e
    | some z =>
      obtain ⟨x, ρ2⟩ := z
      simp only [e2, Option.bind_some] at e
      cases e3 : itemsOf x with
      | none => rw [e3] at e; cases e
      | some ys =>
        simp only [e3, Option.bind_some] at e
        cases e
        exact ⟨w, ρ1, x, rfl, e2, e3⟩
theorem getElem?_lt {α : Type} {l : List α} {i : Nat} {x : α} (h : l[i]? = some x) : i < l.length := (List.getElem?_eq_some_iff.mp h).1
theorem walk_list {K : PySem.W.Frag} {Fz : Addr → Prop} {H : Hp} {a : Addr} {ds : List D} (h : Dr K Fz H (.ref a) (.list ds)) : Walk K Fz H (Itl K a) ds := by
  intro Fz' H' g k l
  cases h with
  | lst hf hs hd =>
    have hs' := k _ _ hf hs
    have hd' := hd.keep g (fun q o z e => k q o z e) _ _
    refine ⟨fun i x e => ?_, _, SqL.of hs', by rw [hd.length]; exact Nat.le_refl _⟩
    obtain ⟨v, h1, h2⟩ := hd'.get e
    refine ⟨⟨_, v, SqL.of hs', h1⟩, fun v' H'' y => ?_⟩
    obtain ⟨rfl, y⟩ := y
    have := y _ (SqL.of hs')
    rw [h1] at this
    cases this
    exact ⟨Fz', .val l h2⟩
theorem walk_tup {K : PySem.W.Frag} {Fz : Addr → Prop} {H : Hp} {a : Addr} {ds : List D} (h : Dr K Fz H (.ref a) (.tuple ds)) : Walk K Fz H (Itt K a) ds := by
  intro Fz' H' g k l
  obtain ⟨b, us, e0, s1, d1⟩ := Rdg.tup (Fz := Fz') (H := H') (K := K) (v := .ref a) (ds := ds) (.inl (h.keep g (fun q o z e => k q o z e) _ _))
  cases e0
  refine ⟨fun i x e => ?_, _, s1, by rw [d1.length]; exact Nat.le_refl _⟩
  obtain ⟨v, h1, h2⟩ := d1.get e
  refine ⟨⟨_, v, s1, h1⟩, fun v' H'' y => ?_⟩
  obtain ⟨rfl, y⟩ := y
  have := y _ s1
  rw [h1] at this
  cases this
  exact ⟨Fz', .val l h2⟩
theorem seq_state {K : PySem.W.Frag} {fe : Fe} {σ : St} {H : Hp} {R : D → V → Hp → Prop} (h : ∃ Fz ρ items ρ', Rel K Fz ρ σ H ∧ fiSeq fe ρ = some (items, ρ') ∧ ∀ v x H1 Fz1, itemsOf x = some items → PostL K Fz Fz1 ρ ρ' σ H H1 [] [] → Dr K Fz1 H1 v x → R x v H1) :
    tE K fe σ H fun v H1 => ∃ x, R x v H1 := by
  obtain ⟨Fz, ρ, items, ρ', r, e, q⟩ := h
  obtain ⟨w, ρ1, x, e1, e2, e3⟩ := fiSeq_some e
  refine ⟨Fz, ρ, w, ρ1, r, e1, fun v H1 Fz1 p1 => ?_⟩
  obtain ⟨Fz2, p2, d2⟩ := p1.esc (xs := [x]) (ρ2 := ρ') (by unfold escAll; rw [e2]; rfl)
  cases d2 with
  | cons dx _ => exact ⟨x, q v x H1 Fz2 e3 p2 dx⟩
theorem di_seq {e : Expr} {fe : Fe} (h : DE X e fe) : DI X tg e (fiSeq fe) :=
  ⟨PI.imp (pi_seq h.ok) fun σ H R h => by
    obtain ⟨Fz, ρ, items, ρ', r, e, q⟩ := h
    refine tE_mono (seq_state (R := fun x v H1 => ∃ a, v = .ref a ∧ ((∃ xs, SqL X.K H1 a xs ∧ R (Itl X.K a) H1) ∨ ∃ xs, SqT X.K H1 a xs ∧ R (Itt X.K a) H1)) ⟨Fz, ρ, items, ρ', r, e, fun v x H1 Fz1 hi p1 d => ?_⟩) fun v H1 ⟨_, z⟩ => z
    cases x with
    | list xs =>
      cases hi
      obtain ⟨a, us, rfl, s1, d1⟩ := Rdg.lst (Fz := Fz1) (H := H1) (K := X.K) (v := v) (ds := items) (.inl d)
      exact ⟨a, rfl, .inl ⟨us, SqL.of s1, q _ H1 Fz1 p1 (walk_list d)⟩⟩
    | tuple xs =>
      cases hi
      obtain ⟨a, us, rfl, s1, d1⟩ := Rdg.tup (Fz := Fz1) (H := H1) (K := X.K) (v := v) (ds := items) (.inl d)
      exact ⟨a, rfl, .inr ⟨us, s1, q _ H1 Fz1 p1 (walk_tup d)⟩⟩
    | _ => cases hi⟩

def rangeD (lo : Int) (n : Nat) : List D := (List.range n).map fun (i : Nat) => PyData.int (lo + (i : Int))
theorem walk_range {K : PySem.W.Frag} {Fz : Addr → Prop} {H : Hp} {lo : Int} {n : Nat} : Walk K Fz H (Itr lo n) (rangeD lo n) := by
  intro Fz' H' g k l
  refine ⟨fun i x e => ?_, by show n ≤ _; simp [rangeD]⟩
  have hi : i < n := by have := getElem?_lt e; simpa [rangeD] using this
  have hx : x = .int (lo + (i : Int)) := by
    unfold rangeD at e
    rw [List.getElem?_map, List.getElem?_range hi] at e
    cases e; rfl
  refine ⟨hi, fun v H'' y => ?_⟩
  obtain ⟨rfl, rfl⟩ := y
  rw [hx]
  exact ⟨Fz', .val l (.int _)⟩
def fiR1 (f : Fa) : Fi := fun ρ => (f ρ).bind fun p => (rdAll p.2 p.1).bind fun xs => match xs with
  | [.int j] => if j < 2 ^ 62 ∧ -(2 ^ 62) ≤ j then some (rangeD 0 j.toNat, p.2) else none
  | _ => none
theorem di_range1 {a : Expr} {f : Fa} {p pos : Pos} (hg : Gl X "range") (hm : X.mg "range" = none) (ha : DA X [a] f) (hs : starEach [a] X.env = [(false, eval a X.env)] := by rfl) : DI X tg (.Call (.Name "range" p) [a] [] pos) (fiR1 f) :=
  ⟨PI.imp (pi_range1 hg hm ha.ok hs) fun σ H R h => by
    obtain ⟨Fz, ρ, items, ρ', r, e, q⟩ := h
    unfold fiR1 at e
    cases e1 : f ρ with
    | none => rw [e1] at e; cases e
    | some z =>
      obtain ⟨ws, ρ1⟩ := z
      simp only [e1, Option.bind_some] at e
      cases e2 : rdAll ρ1 ws with
      | none => rw [e2] at e; cases e
      | some xs =>
        simp only [e2, Option.bind_some] at e
        split at e
        · rename_i j
          obtain ⟨hc, z⟩ := some_ite e
          cases z
          refine ⟨Fz, ρ, ws, ρ', r, e1, fun vs H1 Fz1 p1 => ?_⟩
          obtain ⟨v, rfl, h1⟩ := paired1 (p1.rel.rdgAll p1.rep e2)
          rw [h1.int]
          exact ⟨j, rfl, hc.2, hc.1, q _ H1 Fz1 p1.drop walk_range⟩
        · cases e⟩
end

def forL (tg : Fg) (body : Fs) : List D → Rho → Option (Out × Rho)
  | [], ρ => some (.nx, ρ)
  | x :: xs, ρ => (tg x ρ).bind fun ρ1 => (body ρ1).bind fun p => match p.1 with
    | .nx => forL tg body xs p.2
    | .ct => forL tg body xs p.2
    | .bk => some (.nx, p.2)
    | .rt r => some (.rt r, p.2)
def fFor (fi : Fi) (tg : Fg) (body : Fs) : Fs := fun ρ => (fi ρ).bind fun p => forL tg body p.1 p.2
section
variable {X : Cx} {fix : Nat → Bool} {tg iter : Expr} {body : List Stmt} {fi : Fi} {fg : Fg} {fb : Fs} {pos : Pos}
theorem for_go {K : PySem.W.Frag} {D : Ends} {σ : St} {H : Hp} (h : tS K fix (fFor fi fg fb) D σ H) : tFor (tI K fi) (tG K fix fg) (tS K fix fb) D σ H := by
  obtain ⟨Fz, ρ, o, ρ', r, e, q⟩ := h
  unfold fFor at e
  cases e1 : fi ρ with
  | none => rw [e1] at e; cases e
  | some p =>
    obtain ⟨items, ρ1⟩ := p
    simp only [e1, Option.bind_some] at e
    refine ⟨Fz, ρ, items, ρ1, r, e1, fun J H1 Fz1 p1 wk => ?_⟩
    refine ⟨fun i m σi Hi => i ≤ items.length ∧ m = items.length - i ∧ ∃ Fzi ρi, SPost K fix Fz1 Fzi ρ1 ρi σ σi H1 Hi ∧ forL fg fb (items.drop i) ρi = some (o, ρ'), ⟨items.length, Nat.zero_le _, rfl, Fz1, ρ1, .refl p1.rel, by simpa using e⟩, ?_⟩
    rintro i m σi Hi ⟨hi, rfl, Fzi, ρi, sp, ei⟩
    obtain ⟨w1, w2⟩ := wk Fzi Hi sp.step.grow (fun q o z e => sp.step.keep q o e fun ow => p1.rel.nofz q ow z) sp.rel.fzl
    have fin : ∀ {σ2 H2 Fz2 ρ2} {o' : Out}, SPost K fix Fz1 Fz2 ρ1 ρ2 σ σ2 H1 H2 → o' = o → ρ2 = ρ' → goal K D Fz2 ρ ρ2 σ σ2 H H2 o' := by
      intro σ2 H2 Fz2 ρ2 o' s2 h1 h2
      subst h1; subst h2
      exact q σ2 H2 Fz2 ((p1.sp (fix := fix)).trans s2)
    by_cases hlt : i < items.length
    · right
      obtain ⟨x, hx⟩ : ∃ x, items[i]? = some x := ⟨items[i], List.getElem?_eq_getElem hlt⟩
      obtain ⟨go, yl⟩ := w1 i x hx
      have hdrop : items.drop i = x :: items.drop (i + 1) := by
        rw [List.drop_eq_getElem_cons hlt]
        have : items[i] = x := by rw [List.getElem?_eq_getElem hlt] at hx; exact Option.some.inj hx
        rw [this]
      rw [hdrop] at ei
      unfold forL at ei
      cases e2 : fg x ρi with
      | none => rw [e2] at ei; cases ei
      | some ρa =>
        simp only [e2, Option.bind_some] at ei
        cases e3 : fb ρa with
        | none => rw [e3] at ei; cases ei
        | some z =>
          obtain ⟨ob, ρb⟩ := z
          simp only [e3, Option.bind_some] at ei
          refine ⟨go, fun σ' H' => i + 1 ≤ items.length ∧ ∃ Fzi ρi, SPost K fix Fz1 Fzi ρ1 ρi σ σ' H1 H' ∧ forL fg fb (items.drop (i + 1)) ρi = some (o, ρ'), fun σ' H' ⟨h1, h2⟩ => ⟨items.length - (i + 1), by omega, h1, rfl, h2⟩, fun v H2 yv => ?_⟩
          obtain ⟨Fz2, md⟩ := yl v H2 yv
          have r2 : Rel K Fz2 ρi σi H2 := sp.rel.step0 md.step md.new
          have sp2 : SPost K fix Fz1 Fz2 ρ1 ρi σ σi H1 H2 := ⟨r2, sp.step.trans (md.step (Ow := Own ρi σi)) sp.own, sp.own, sp.same, sp.kept, sp.len⟩
          refine ⟨Fz2, ρi, x, ρa, r2, md.rep, e2, fun σa pa _ => ?_⟩
          have spa := sp2.trans pa
          refine ⟨Fz2, ρa, ob, ρb, pa.rel, e3, fun σb Hb Fzb pb => ?_⟩
          have spb := spa.trans pb
          cases ob with
          | nx => exact ⟨hlt, Fzb, ρb, spb, ei⟩
          | ct => exact ⟨hlt, Fzb, ρb, spb, ei⟩
          | bk =>
            simp only at ei
            cases ei
            exact fin spb rfl rfl
          | rt r =>
            simp only at ei
            cases ei
            intro v hv
            exact fin (o' := .rt r) spb rfl rfl v ((hv.after spa).after (p1.sp (fix := fix)))
    · left
      have hi' : i = items.length := by omega
      subst hi'
      rw [List.drop_length] at ei
      unfold forL at ei
      cases ei
      exact ⟨w2, fin sp rfl rfl⟩
theorem ds_for (hp : PassesOwn (model X.prog X.w) X.A X.env X.xe) (hc : X.calm = true) (hi : DI X tg iter fi) (hg : DG X fix tg fg) (hb : DSs X fix body fb) (hs : ∀ x, foldedSetIterable iter X.env x = pure x := by intro _; rfl) : DS X fix (.For tg iter body [] pos) (fFor fi fg fb) :=
  ⟨PS.imp (ps_for hp hc hi.ok hg.ok hb.ok hs) fun D σ H h => for_go h⟩
end


section
variable {X : Cx} {fix : Nat → Bool} {body : List Stmt} {ft : Ft} {fb : Fs} {pos : Pos} {c : Expr}
end
end L2.Q3
end

section
set_option Elab.async false
set_option linter.all false
set_option maxRecDepth 100000
set_option maxHeartbeats 4000000
namespace L2.Q3
open PySem PySem.Spec PyProof.Rows

def wipeR (ρ : Rho) : List Nat → Rho
  | [] => ρ
  | v :: vs => (wipeR ρ vs).set v none
theorem wipeR_length (ρ : Rho) : ∀ vs : List Nat, (wipeR ρ vs).length = ρ.length
  | [] => rfl
  | v :: vs => by unfold wipeR; rw [List.length_set, wipeR_length ρ vs]
theorem wipeR_some {ρ : Rho} {i : Nat} {x : W} : ∀ {vs : List Nat}, (wipeR ρ vs)[i]? = some (some x) → ρ[i]? = some (some x) ∧ i ∉ vs
  | [], h => ⟨h, by simp⟩
  | v :: vs, h => by
    unfold wipeR at h
    rcases set_cases h with ⟨_, z⟩ | ⟨hi, z⟩
    · cases z
    · obtain ⟨h1, h2⟩ := wipeR_some z
      exact ⟨h1, by simp only [List.mem_cons, not_or]; exact ⟨hi, h2⟩⟩
theorem wipeR_out {ρ : Rho} {i : Nat} : ∀ {vs : List Nat}, i ∉ vs → (wipeR ρ vs)[i]? = ρ[i]?
  | [], _ => rfl
  | v :: vs, h => by
    have h1 : v ≠ i := fun e => h (by rw [e]; exact List.mem_cons_self)
    have h2 : i ∉ vs := fun m => h (List.mem_cons_of_mem _ m)
    unfold wipeR
    rw [List.getElem?_set_ne h1]
    exact wipeR_out h2

def restR (ρ0 ρ : Rho) : List Nat → Rho
  | [] => ρ
  | v :: vs => (restR ρ0 ρ vs).set v (ρ0[v]?.getD none)
theorem restR_length (ρ0 ρ : Rho) : ∀ vs : List Nat, (restR ρ0 ρ vs).length = ρ.length
  | [] => rfl
  | v :: vs => by unfold restR; rw [List.length_set, restR_length ρ0 ρ vs]
theorem restR_some {ρ0 ρ : Rho} {i : Nat} {x : W} : ∀ {vs : List Nat}, (restR ρ0 ρ vs)[i]? = some (some x) → (i ∈ vs ∧ ρ0[i]? = some (some x)) ∨ (i ∉ vs ∧ ρ[i]? = some (some x))
  | [], h => .inr ⟨by simp, h⟩
  | v :: vs, h => by
    unfold restR at h
    rcases set_cases h with ⟨rfl, z⟩ | ⟨hi, z⟩
    · left
      refine ⟨List.mem_cons_self, ?_⟩
      cases e : ρ0[i]? with
      | none => rw [e] at z; cases z
      | some y => rw [e] at z; exact congrArg some z
    · rcases restR_some z with ⟨h1, h2⟩ | ⟨h1, h2⟩
      · exact .inl ⟨List.mem_cons_of_mem _ h1, h2⟩
      · exact .inr ⟨by simp only [List.mem_cons, not_or]; exact ⟨hi, h1⟩, h2⟩
theorem restR_in {ρ0 ρ : Rho} {i : Nat} {x : Option W} (hl : i < ρ.length) (e : ρ0[i]? = some x) : ∀ {vs : List Nat}, i ∈ vs → (restR ρ0 ρ vs)[i]? = some x
  | [], h => by simp at h
  | v :: vs, h => by
    unfold restR
    by_cases hv : v = i
    · subst hv
      rw [List.getElem?_set_self (by rw [restR_length]; exact hl), e]; rfl
    · rw [List.getElem?_set_ne hv]
      rcases List.mem_cons.mp h with h | h
      · exact absurd h.symm hv
      · exact restR_in hl e h
theorem restR_out {ρ0 ρ : Rho} {i : Nat} : ∀ {vs : List Nat}, i ∉ vs → (restR ρ0 ρ vs)[i]? = ρ[i]?
  | [], _ => rfl
  | v :: vs, h => by
    have h1 : v ≠ i := fun e => h (by rw [e]; exact List.mem_cons_self)
    have h2 : i ∉ vs := fun m => h (List.mem_cons_of_mem _ m)
    unfold restR
    rw [List.getElem?_set_ne h1]
    exact restR_out h2
def compL (fg : Fg) (ft : Ft) (fe : Fe) (vs : List Nat) : List D → Rho → List D → Option (List D × Rho)
  | [], ρ, acc => some (acc, ρ)
  | x :: xs, ρ, acc => (fg x (wipeR ρ vs)).bind fun ρ1 => (ft ρ1).bind fun p => if p.1 = true then (fe p.2).bind fun q => (esc1 q.2 q.1).bind fun z => if acc.length < 16777216 then compL fg ft fe vs xs z.2 (acc ++ [z.1]) else none
    else compL fg ft fe vs xs p.2 acc
def feComp (fi : Fi) (fg : Fg) (ft : Ft) (fe : Fe) (vs : List Nat) : Fe := fun ρ => (fi ρ).bind fun p => if vs.all (fun i => (frAt p.2 i).isNone) = true then (compL fg ft fe vs p.1 p.2 []).bind fun q => some (.fr q.1, restR p.2 q.2 vs) else none
section
variable {K : PySem.W.Frag} {Fz Fz1 : Addr → Prop} {ρ ρ1 ρ2 : Rho} {σ : St} {H H1 : Hp}
theorem Rel.wiped (r : Rel K Fz ρ σ H) (vs : List Nat) : Rel K Fz (wipeR ρ vs) (wipe σ vs) H ∧ ∀ p, Own (wipeR ρ vs) (wipe σ vs) p → Own ρ σ p := by
  have ow : ∀ p, Own (wipeR ρ vs) (wipe σ vs) p → Own ρ σ p := fun p ⟨i, xs, e1, e2⟩ => ⟨i, xs, (wipeR_some e1).1, (wipe_some e2).1⟩
  refine ⟨⟨by rw [wipeR_length, wipe_length]; exact r.len, fun i w e => ?_, fun i j xs ys p e1 e2 e3 e4 => r.apart i j xs ys p (wipeR_some e1).1 (wipeR_some e2).1 (wipe_some e3).1 (wipe_some e4).1, fun p o => r.nofz p (ow p o), r.fzl⟩, ow⟩
  obtain ⟨e1, e2⟩ := wipeR_some e
  obtain ⟨v, h1, h2⟩ := r.val i w e1
  exact ⟨v, by rw [wipe_out e2]; exact h1, h2⟩
end

def blkFix (vs : List Nat) : Nat → Bool := fun k => !vs.contains k
theorem wipe_eq {σ σ' : St} {vs : List Nat} (hl : σ'.length = σ.length) (h : ∀ k, blkFix vs k = true → σ'[k]? = (wipe σ vs)[k]?) : wipe σ' vs = wipe σ vs := by
  apply List.ext_getElem?
  intro k
  by_cases hk : k ∈ vs
  · by_cases hkl : k < σ.length
    · have f : ∀ (τ : St) (vs : List Nat), k ∈ vs → k < τ.length → (wipe τ vs)[k]? = some none := by
        intro τ vs
        induction vs with
        | nil => intro h; simp at h
        | cons v vs ih =>
          intro h hl
          unfold wipe
          by_cases hv : v = k
          · subst hv; rw [List.getElem?_set_self (by rw [wipe_length]; exact hl)]
          · rw [List.getElem?_set_ne hv]
            rcases List.mem_cons.mp h with h | h
            · exact absurd h.symm hv
            · exact ih h hl
      rw [f σ' vs hk (by omega), f σ vs hk hkl]
    · rw [List.getElem?_eq_none (by rw [wipe_length]; omega), List.getElem?_eq_none (by rw [wipe_length]; omega)]
  · rw [wipe_out hk, h k (by simp [blkFix, hk])]
section
variable {X : Cx} {tg iter elt : Expr} {fi : Fi} {fg : Fg} {ft : Ft} {fe : Fe}
theorem comp_go {K : PySem.W.Frag} {vs : List Nat} {σ : St} {H : Hp} {Q : VK} (h : tE K (feComp fi fg ft fe vs) σ H Q) : tLc (tI K fi) (tG K (blkFix vs) fg) (tT K ft) (tE K fe) vs σ H Q := by
  obtain ⟨Fz, ρ, w, ρ', r, e, q⟩ := h
  unfold feComp at e
  cases e1 : fi ρ with
  | none => rw [e1] at e; cases e
  | some p =>
    obtain ⟨items, ρ1⟩ := p
    simp only [e1, Option.bind_some] at e
    by_cases hv : vs.all (fun i => (frAt ρ1 i).isNone) = true
    · rw [if_pos hv] at e
      cases e2 : compL fg ft fe vs items ρ1 [] with
      | none => rw [e2] at e; cases e
      | some z =>
        obtain ⟨ys, ρ2⟩ := z
        simp only [e2, Option.bind_some] at e
        cases e
        refine ⟨Fz, ρ, items, ρ1, r, e1, fun J H1 Fz1 p1 wk D hD => ?_⟩
        obtain ⟨rw1, ow1⟩ := p1.rel.wiped vs
        have nofr : ∀ i xs, i ∈ vs → ρ1[i]? ≠ some (some (W.fr xs)) := fun i xs hi z => by
          have := List.all_eq_true.mp hv i hi
          unfold frAt at this
          rw [z] at this
          cases this
        have ownEq : ∀ p, Own ρ1 σ p → Own (wipeR ρ1 vs) (wipe σ vs) p := fun p ⟨i, xs, z1, z2⟩ => by
          have hi : i ∉ vs := fun hi => nofr i xs hi z1
          exact ⟨i, xs, by rw [wipeR_out hi]; exact z1, by rw [wipe_out hi]; exact z2⟩
        have nfD : ¬ Fz1 D := fun z => p1.rel.fzl D z hD
        have k0 := upd_new (o := HO.lst []) hD
        have st0 : Step (Own (wipeR ρ1 vs) (wipe σ vs)) Fz1 Fz1 H1 (upd H1 D (.lst [])) := ⟨fun q z e => p1.rel.fzl q z (upd_live q e), fun q o e _ => k0 q o e, upd_live, fun _ z => z, fun _ z => .inl z⟩
        refine ⟨fun i m Hi => i ≤ items.length ∧ m = items.length - i ∧ ∃ Fzi ρi acc us, Rel K Fzi (wipeR ρi vs) (wipe σ vs) Hi ∧ Step (Own (wipeR ρ1 vs) (wipe σ vs)) Fz1 Fzi H1 Hi ∧ (∀ p, Own (wipeR ρi vs) (wipe σ vs) p → Own (wipeR ρ1 vs) (wipe σ vs) p) ∧
          Kp (wipeR ρ1 vs) (wipeR ρi vs) ∧ ρi.length = ρ1.length ∧ Hi D = some (.lst us) ∧ DrAll K Fzi Hi us acc ∧ ¬ Fzi D ∧ compL fg ft fe vs (items.drop i) ρi acc = some (ys, ρ2), ⟨items.length, Nat.zero_le _, rfl, Fz1, ρ1, [], [], ?_, st0, fun _ z => z, .refl, rfl, upd_same, .nil, nfD, by simpa using e2⟩, ?_⟩
        · exact rw1.step0 ⟨st0.fzl, fun q o e _ => k0 q o e, upd_live, fun _ z => z, fun _ z => .inl z⟩ fun _ z => .inl z
        rintro i m Hi ⟨hi, rfl, Fzi, ρi, acc, us, ri, sti, owi, kpi, lni, hDi, dai, nfi, ei⟩
        obtain ⟨w1, w2⟩ := wk Fzi Hi sti.grow (fun q o z e => sti.keep q o e fun ow => p1.rel.nofz q (ow1 q ow) z) ri.fzl
        have nown : ∀ {ρ' : Rho} {σ' : St}, (∀ p, Own ρ' σ' p → Own (wipeR ρi vs) (wipe σ vs) p) → ¬ Own ρ' σ' D := fun sub z => by
          obtain ⟨j, xs, z1, z2⟩ := owi D (sub D z)
          obtain ⟨u, hu, p', us', y1, y2, _⟩ := rw1.val j _ z1
          rw [z2] at hu; cases hu; cases y1
          rw [hD] at y2; cases y2
        by_cases hlt : i < items.length
        · right
          obtain ⟨x, hx⟩ : ∃ x, items[i]? = some x := ⟨items[i], List.getElem?_eq_getElem hlt⟩
          obtain ⟨go, yl⟩ := w1 i x hx
          have hdrop : items.drop i = x :: items.drop (i + 1) := by
            rw [List.drop_eq_getElem_cons hlt]
            have : items[i] = x := by rw [List.getElem?_eq_getElem hlt] at hx; exact Option.some.inj hx
            rw [this]
          rw [hdrop] at ei
          unfold compL at ei
          cases e3 : fg x (wipeR ρi vs) with
          | none => rw [e3] at ei; cases ei
          | some ρa =>
            simp only [e3, Option.bind_some] at ei
            cases e4 : ft ρa with
            | none => rw [e4] at ei; cases ei
            | some zt =>
              obtain ⟨b, ρb⟩ := zt
              simp only [e4, Option.bind_some] at ei
              refine ⟨go, fun H' => i + 1 ≤ items.length ∧ ∃ Fzi ρi acc us, Rel K Fzi (wipeR ρi vs) (wipe σ vs) H' ∧ Step (Own (wipeR ρ1 vs) (wipe σ vs)) Fz1 Fzi H1 H' ∧ (∀ p, Own (wipeR ρi vs) (wipe σ vs) p → Own (wipeR ρ1 vs) (wipe σ vs) p) ∧
                Kp (wipeR ρ1 vs) (wipeR ρi vs) ∧ ρi.length = ρ1.length ∧ H' D = some (.lst us) ∧ DrAll K Fzi H' us acc ∧ ¬ Fzi D ∧ compL fg ft fe vs (items.drop (i + 1)) ρi acc = some (ys, ρ2), fun H' ⟨h1, h2⟩ => ⟨items.length - (i + 1), by omega, h1, rfl, h2⟩, fun v H2 yv => ?_⟩
              obtain ⟨Fz2, md⟩ := yl v H2 yv
              have r2 : Rel K Fz2 (wipeR ρi vs) (wipe σ vs) H2 := ri.step0 md.step md.new
              have st2 : Step (Own (wipeR ρi vs) (wipe σ vs)) Fzi Fz2 Hi H2 := md.step
              refine ⟨Fz2, wipeR ρi vs, x, ρa, r2, md.rep, e3, fun σa pa oa => ?_⟩
              have wq : wipe σa vs = wipe σ vs := wipe_eq (by rw [pa.len, wipe_length]) pa.same
              refine ⟨wq, Fz2, ρa, b, ρb, pa.rel, e4, fun H3 Fz3 p3 => ?_⟩
              have spa : SPost K (blkFix vs) Fzi Fz2 (wipeR ρi vs) ρa (wipe σ vs) σa Hi H2 := ⟨pa.rel, st2.trans pa.step fun q z => .inl z, fun p z => .inl (oa p z), pa.same, pa.kept, pa.len⟩
              have back : ∀ {Fzc ρc Hc}, PostL K Fz2 Fzc ρa ρc σa H2 Hc [] [] → Rel K Fzc (wipeR ρc vs) (wipe σ vs) Hc ∧ Step (Own (wipeR ρ1 vs) (wipe σ vs)) Fz1 Fzc H1 Hc ∧ (∀ p, Own (wipeR ρc vs) (wipe σ vs) p → Own (wipeR ρ1 vs) (wipe σ vs) p) ∧
                  Kp (wipeR ρ1 vs) (wipeR ρc vs) ∧ ρc.length = ρ1.length ∧ Hc D = some (.lst us) ∧ DrAll K Fzc Hc us acc ∧ ¬ Fzc D ∧ ¬ Own (wipeR ρc vs) (wipe σ vs) D := by
                intro Fzc ρc Hc pc
                have sp := spa.trans (pc.sp (fix := blkFix vs))
                obtain ⟨x1, x2⟩ := sp.rel.wiped vs
                rw [wq] at x1 x2
                have ownc : ∀ p, Own (wipeR ρc vs) (wipe σ vs) p → Own (wipeR ρi vs) (wipe σ vs) p := fun p z => oa p (pc.own p (x2 p z))
                refine ⟨x1, sti.trans sp.step fun q z => .inl (owi q z), fun p z => owi p (ownc p z), kpi.trans fun k w z => ?_, ?_, sp.step.keep D _ hDi (nown fun _ z => z), ri.drAll sp.step dai, fun z => ?_, nown ownc⟩
                · obtain ⟨z1, z2⟩ := wipeR_some z
                  obtain ⟨w', y1, y2⟩ := sp.kept k w (by simp [blkFix, z2]) z
                  exact ⟨w', by rw [wipeR_out z2]; exact y1, y2⟩
                · have := sp.rel.len
                  rw [sp.len, wipe_length, ← p1.rel.len] at this
                  exact this
                · rcases sp.step.new D z with z | z | z
                  · exact nfi z
                  · rw [hDi] at z; cases z
                  · exact nown (fun _ z => z) z
              cases b with
              | false =>
                rw [if_neg (by decide)] at ei
                dsimp only
                rw [if_neg (by decide)]
                obtain ⟨x1, x2, x3, x4, x5, x6, x7, x8, _⟩ := back p3
                exact ⟨hlt, Fz3, ρb, acc, us, x1, x2, x3, x4, x5, x6, x7, x8, ei⟩
              | true =>
                rw [if_pos rfl] at ei
                dsimp only
                rw [if_pos rfl]
                cases e5 : fe ρb with
                | none => rw [e5] at ei; cases ei
                | some zf =>
                  obtain ⟨wv, ρc⟩ := zf
                  simp only [e5, Option.bind_some] at ei
                  cases e6 : esc1 ρc wv with
                  | none => rw [e6] at ei; cases ei
                  | some ze =>
                    obtain ⟨y, ρd⟩ := ze
                    simp only [e6, Option.bind_some] at ei
                    by_cases hz : acc.length < 16777216
                    · rw [if_pos hz] at ei
                      refine ⟨Fz3, ρb, wv, ρc, p3.rel, e5, fun v4 H4 Fz4 p4 => ?_⟩
                      obtain ⟨Fz5, p5, d5⟩ := p4.esc (xs := [y]) (ρ2 := ρd) (by unfold escAll; rw [e6]; rfl)
                      cases d5 with
                      | cons dy _ =>
                        obtain ⟨x1, x2, x3, x4, x5, x6, x7, x8, x9⟩ := back (p3.seq p5)
                        have hk : ∀ q o, H4 q = some o → q ≠ D → upd H4 D (HO.lst (us ++ [v4])) q = some o := fun q o z h => by rw [upd_ne h]; exact z
                        have hstep : ∀ {Ow : Addr → Prop}, (∀ q, Fz5 q → q ≠ D) := fun q z h => x8 (h ▸ z)
                        have drk : ∀ {v x}, Dr K Fz5 H4 v x → Dr K Fz5 (upd H4 D (HO.lst (us ++ [v4]))) v x := fun h => h.keep (fun _ z => z) (fun q o z e => hk q o e fun h => x8 (h ▸ z)) _ _
                        have drak : ∀ {vs xs}, DrAll K Fz5 H4 vs xs → DrAll K Fz5 (upd H4 D (HO.lst (us ++ [v4]))) vs xs := fun h => h.keep (fun _ z => z) (fun q o z e => hk q o e fun h => x8 (h ▸ z)) _ _
                        refine ⟨us, x6, by rw [x7.length, sizeLine_eq]; exact hz, hlt, Fz5, ρd, acc ++ [y], us ++ [v4], ?_, ?_, x3, x4, x5, upd_same, drak (x7.append (.cons dy .nil)), x8, ei⟩
                        · refine ⟨x1.len, fun j w z => ?_, x1.apart, x1.nofz, fun q z e => x1.fzl q z (upd_live q e)⟩
                          obtain ⟨u, h1, h2⟩ := x1.val j w z
                          refine ⟨u, h1, ?_⟩
                          cases w with
                          | d x => exact drk h2
                          | sl _ => exact h2
                          | fr xs =>
                            obtain ⟨pp, us', y1, y2, y3⟩ := h2
                            subst y1
                            exact ⟨pp, us', rfl, hk pp _ y2 fun h => x9 ⟨j, xs, z, h ▸ h1⟩, drak y3⟩
                        · refine ⟨fun q z e => x1.fzl q z (upd_live q e), fun q o e n => hk q o (x2.keep q o e n) fun h => ?_, fun q e => x2.live q (upd_live q e), x2.grow, x2.new⟩
                          subst h
                          rw [hD] at e; cases e
                    · rw [if_neg hz] at ei; cases ei
        · left
          have hi' : i = items.length := by omega
          subst hi'
          rw [List.drop_length] at ei
          unfold compL at ei
          cases ei
          have own' : ∀ p, Own (restR ρ1 ρ2 vs) σ p → Own (wipeR ρ2 vs) (wipe σ vs) p := fun p ⟨j, xs, z1, z2⟩ => by
            rcases restR_some z1 with ⟨h1, h2⟩ | ⟨h1, h2⟩
            · exact absurd h2 (nofr j xs h1)
            · exact ⟨j, xs, by rw [wipeR_out h1]; exact h2, by rw [wipe_out h1]; exact z2⟩
          have stt : Step (Own ρ1 σ) Fz1 Fzi H1 Hi := sti.weak ow1
          refine ⟨w2, q (.ref D) Hi Fzi ⟨⟨?_, fun j w z => ?_, fun j k xs ys' p z1 z2 z3 z4 => ?_, fun p z => ri.nofz p (own' p z), ri.fzl⟩, .cons ⟨D, us, rfl, hDi, dai⟩ .nil, fun p hp => ?_, frs_one_nd, p1.step.trans stt fun q z => .inl (p1.own q z), fun p z => p1.own p (ow1 p (owi p (own' p z))), p1.kept.trans fun k w z => ?_⟩⟩
          · rw [restR_length, lni]; exact p1.rel.len
          · rcases restR_some z with ⟨h1, h2⟩ | ⟨h1, h2⟩
            · obtain ⟨u, g1, g2⟩ := p1.rel.val j w h2
              refine ⟨u, g1, ?_⟩
              cases w with
              | d x => exact p1.rel.dr stt g2
              | fr xs => exact absurd h2 (nofr j xs h1)
              | sl _ => exact g2
            · obtain ⟨u, g1, g2⟩ := ri.val j w (by rw [wipeR_out h1]; exact h2)
              exact ⟨u, by rw [wipe_out h1] at g1; exact g1, g2⟩
          · rcases restR_some z1 with ⟨h1, h2⟩ | ⟨h1, h2⟩
            · exact absurd h2 (nofr j xs h1)
            · rcases restR_some z2 with ⟨h3, h4⟩ | ⟨h3, h4⟩
              · exact absurd h4 (nofr k ys' h3)
              · exact ri.apart j k xs ys' p (by rw [wipeR_out h1]; exact h2) (by rw [wipeR_out h3]; exact h4) (by rw [wipe_out h1]; exact z3) (by rw [wipe_out h3]; exact z4)
          · rw [frs_fr] at hp
            have hp : p = D := by simpa [frs] using hp
            subst hp
            exact ⟨p1.step.live p hD, nfi, fun z => nown (fun _ z => z) (own' p z)⟩
          · by_cases hk : k ∈ vs
            · exact ⟨w, restR_in (by rw [lni]; exact getElem?_lt z) z hk, id⟩
            · obtain ⟨w', y1, y2⟩ := kpi k w (by rw [wipeR_out hk]; exact z)
              exact ⟨w', by rw [restR_out hk]; rw [wipeR_out hk] at y1; exact y1, y2⟩
    · rw [if_neg hv] at e; cases e
end
end L2.Q3
end

section
set_option Elab.async false
set_option linter.all false
set_option maxRecDepth 100000
set_option maxHeartbeats 4000000

namespace PySem
open Sem (wp)
open AutoSeq1 (wpAny_loadPart')
section
variable {prog : Program} {w : World} {A : Around} {E : Value → Shared → Prop} {s : Shared}
theorem q_nextT {it t : Addr} {i : Nat} {items : Array Value} {x : Value} {Q : Value → Shared → Prop} (hit : s.heap.IsTupleIter it t i) (ht : s.heap.IsTuple t items) (hx : items[i]? = some x)
    (hQ : ∀ h', h'.IsTupleIter it t (i + 1) → Heap.SameBut it s.heap h' → Q x { s with heap := h' }) : wpAny (model prog w) A (Builtin.SmallTypes.nextOf (.ref it)) Q E s := by
  obtain ⟨o, g1, g2, g3⟩ := id hit
  obtain ⟨ol, g4, _, nl, g5⟩ := ht
  unfold Builtin.SmallTypes.nextOf
  refine wpAny_bind (wpAny_callSpecial?_slot (name := Str.ofString "__next__") hit.typeIs F.slot_tuple_iterator_next (wpAny_call_entry F.slot_tuple_iterator_next hit.typeIs F.entry_tuple_iterator_next ?_ (F.args_tuple_iterator_next_1 _)))
  show wpAny _ _ (field (.ref it) 0 >>= _) _ _ s
  refine wpAny_bind (wpAny_field g1 g3 (x := .ref t) rfl ?_)
  show wpAny _ _ (if (Value.ref t == Value.none) = true then _ else _) _ _ s
  rw [if_neg (show ¬ ((Value.ref t == Value.none) = true) from Bool.false_ne_true)]
  show wpAny _ _ (field (.ref it) 1 >>= _) _ _ s
  refine wpAny_bind (wpAny_field g1 g3 (x := .int i 0) rfl ?_)
  show wpAny _ _ (seqItems? (.ref t) >>= _) _ _ s
  refine wpAny_bind (wpAny_seqItems g4 g5 ?_)
  simp only [Int.toNat_natCast, hx]
  refine wpAny_bind (wpAny_setField g1 g3 (by simp) (wpAny_pure ⟨x, rfl, wpAny_pure (hQ _ ?_ (Heap.SameBut.update ..))⟩))
  exact ⟨_, Heap.get?_update_self _ g1 (Obj.isFreed_of_fields (Obj.data_mapFields g3 _)), (Obj.cls_mapFields ..).trans g2, by rw [Obj.data_mapFields g3]; simp [rawInt]⟩
theorem q_nextTend {it t : Addr} {i : Nat} {items : Array Value} {Q : Value → Shared → Prop} (hh : A.handled = none) (hit : s.heap.IsTupleIter it t i) (ht : s.heap.IsTuple t items) (hx : items[i]? = none)
    (hE : ∀ h' e, Heap.ExtBut it s.heap h' → (∃ o, h'.get? e = some o ∧ o.cls = .type "StopIteration") → E (.ref e) { s with heap := h' }) : wpAny (model prog w) A (Builtin.SmallTypes.nextOf (.ref it)) Q E s := by
  obtain ⟨o, g1, g2, g3⟩ := id hit
  obtain ⟨ol, g4, _, nl, g5⟩ := ht
  unfold Builtin.SmallTypes.nextOf
  refine wpAny_bind (wpAny_callSpecial?_slot (name := Str.ofString "__next__") hit.typeIs F.slot_tuple_iterator_next (wpAny_call_entry F.slot_tuple_iterator_next hit.typeIs F.entry_tuple_iterator_next ?_ (F.args_tuple_iterator_next_1 _)))
  show wpAny _ _ (field (.ref it) 0 >>= _) _ _ s
  refine wpAny_bind (wpAny_field g1 g3 (x := .ref t) rfl ?_)
  show wpAny _ _ (if (Value.ref t == Value.none) = true then _ else _) _ _ s
  rw [if_neg (show ¬ ((Value.ref t == Value.none) = true) from Bool.false_ne_true)]
  show wpAny _ _ (field (.ref it) 1 >>= _) _ _ s
  refine wpAny_bind (wpAny_field g1 g3 (x := .int i 0) rfl ?_)
  show wpAny _ _ (seqItems? (.ref t) >>= _) _ _ s
  refine wpAny_bind (wpAny_seqItems g4 g5 ?_)
  simp only [Int.toNat_natCast, hx]
  refine wpAny_bind (wpAny_rule (wpAny_bind (wpAny_setField g1 g3 (by simp) ?_)))
  show wpAny _ _ (newExc (.type "StopIteration") [] >>= _) _ _ _
  refine wpAny_bind ?_
  simp only [newExc, newTuple]
  refine wpAny_bind (wpAny_newObj_type ?_ (by size_fits))
  refine wpAny_bind (m := firstArgMember _ _) (wpAny_of_eq (a := Value.none) (by first | rfl | (simp only [firstArgMember]; rfl)) ?_)
  refine wpAny_newObj_type ?_ (by size_fits)
  simp only [raiseNew]
  refine wpAny_bind (wpAny_handled ?_)
  first | rw [show A.in1.handled = none from hh] | rw [hh]
  refine wpAny_bind (wpAny_pure (wpAny_throw ?_))
  exact hE _ _ (((Heap.SameBut.update ..).extBut.push _).push _) ⟨_, Heap.get?_push_size _ rfl, rfl⟩
end
theorem q_drawsT {prog : Program} {w : World} {A : Around} (hh : A.handled = none) (it t : Addr) (hne : t ≠ it) (items : Array Value) :
    Draws prog w A it [it, t] items.size (fun i v => items[i]? = some v) (fun i h => h.IsTupleIter it t i ∧ h.IsTuple t items) where
  live := fun _ _ st => let ⟨o, ho, _⟩ := st.1; ⟨o, ho⟩
  frame := fun _ _ _ st hk => ⟨st.1.at fun o e => hk it (by simp) o e, st.2.at fun o e => hk t (by simp) o e⟩
  item := fun i s Q E hi st hQ => by
    refine q_nextT st.1 st.2 (x := items[i]) (by simp [hi]) fun h' a b => ?_
    exact hQ _ h' s.toks (by simp [hi]) ⟨a, st.2.extBut b.extBut hne⟩ b
  done := fun s Q E st hE => q_nextTend hh st.1 st.2 (by simp) hE
theorem q_meetsT (l : Addr) (items : Array Value) (n : Nat) (dct : Option Addr) (sl : Array (Option Value)) :
    Meets (Builtin.«enumerate.__new__» ⟨[.type "enumerate", .ref l], []⟩) (fun _ R s => s.heap.get? l = some { cls := .type "tuple", dict := dct, data := .seq items n, slots := sl } ∧
      R (.ok (.ret (.ref (s.heap.push { cls := .type "tuple_iterator", data := .fields #[.ref l, .int 0 0] }).objs.size)))
        { s with heap := (s.heap.push { cls := .type "tuple_iterator", data := .fields #[.ref l, .int 0 0] }).push { cls := .type "enumerate", data := .fields #[.none, .bool false, .ref s.heap.objs.size, rawInt 0, .none, .none] } }) :=
  .of_wp fun prog w A R s h => by
    obtain ⟨hp, g, d, tk, os⟩ := s; obtain ⟨hl, h⟩ := h
    have hsub := sub_enumerate
    have hL : Heap.IsTuple (Shared.heap ⟨hp, g, d, tk, os⟩) l items := ⟨_, hl, rfl, n, rfl⟩
    wp_walk using wpAny_loadPart' hl
    refine wpAny_stack_any fun st => wpAny_pure ?_
    split
    · rename_i c _ _ _ _ _
      cases (c == Value.type "enumerate")
      · wp_walk using wpAny_loadPart' hl, wpAny_pyIter_tuple hL
        exact ⟨_, rfl, h⟩
      · wp_walk using wpAny_loadPart' hl, wpAny_pyIter_tuple hL
        exact ⟨_, rfl, h⟩
    · wp_walk using wpAny_loadPart' hl, wpAny_pyIter_tuple hL
      exact ⟨_, rfl, h⟩
section
variable {prog : Program} {w : World} {A : Around} {E : Value → Shared → Prop} {s : Shared}
theorem q_enumT {l : Addr} {items : Array Value} {Q : Value → Shared → Prop} (hL : s.heap.IsTuple l items)
    (h : ∀ h', IsEnum h' (s.heap.objs.size + 1) s.heap.objs.size 0 .none → h'.IsTupleIter s.heap.objs.size l 0 → h'.objs.size = s.heap.objs.size + 2 → (∀ b o, s.heap.get? b = some o → h'.get? b = some o) → Q (.ref (s.heap.objs.size + 1)) { s with heap := h' }) :
    wpAny (model prog w) A (call (.type "enumerate") [.ref l]) Q E s := by
  obtain ⟨⟨c, dct, dt, sl⟩, hl, hc, n, hd⟩ := hL
  replace hc : c = .type "tuple" := hc
  replace hd : dt = .seq items n := hd
  subst hc hd
  refine callType_new F.called_enumerate (by decide) (F.typeCall_enumerate_1 _) (F.newCall_enumerate_1 _) (fun obj => F.args_object_init_2 obj _) F.entry_enumerate_new (q_meetsT l items n dct sl) ⟨hl, ?_⟩
  have hz : (s.heap.push { cls := .type "tuple_iterator", data := .fields #[.ref l, .int 0 0] }).objs.size = s.heap.objs.size + 1 := Heap.size_push ..
  show _ ∧ _
  rw [hz]
  have he : IsEnum ((s.heap.push { cls := .type "tuple_iterator", data := .fields #[.ref l, .int 0 0] }).push
      { cls := .type "enumerate", data := .fields #[.none, .bool false, .ref s.heap.objs.size, rawInt 0, .none, .none] }) (s.heap.objs.size + 1) s.heap.objs.size 0 .none := by
    have := Heap.get?_push_size (s.heap.push { cls := .type "tuple_iterator", data := .fields #[.ref l, .int 0 0] })
      (o := { cls := .type "enumerate", data := .fields #[.none, .bool false, .ref s.heap.objs.size, rawInt 0, .none, .none] }) rfl
    rw [hz] at this; exact this
  refine ⟨⟨_, he, rfl⟩, h _ he ⟨_, Heap.get?_push_of_some _ (Heap.get?_push_size _ rfl), rfl, rfl⟩ (by rw [Heap.size_push, hz]) fun b o x => Heap.get?_push_of_some _ (Heap.get?_push_of_some _ x)⟩
end
end PySem
namespace L2.Q3
open PySem PySem.Spec PyProof.Rows

def IteT (K : PySem.W.Frag) (a : Addr) : It :=
  ⟨fun i H => ∃ (xs : List V) (x : V), SqT K H a xs ∧ xs[i]? = some x, fun i H v H' => ∃ T x, v = .ref T ∧ H T = none ∧ H' = upd H T (.tup [.int (i : Nat), x]) ∧ ∀ xs, SqT K H a xs → xs[i]? = some x, fun i H => ∃ xs : List V, SqT K H a xs ∧ xs.length = i⟩
theorem turn_enumT {P : Program} {w : World} {K : PySem.W.Frag} {elts : List Expr} {kk : Nat} {tpos : Pos} (a e it : Addr) :
    Turn P w K (.Tuple elts kk tpos) (IteT K a) [e, it] e (fun i h => (∃ old, IsEnum h e it ((i : Nat) : Int) old) ∧ h.IsTupleIter it a i ∧ e ≠ it ∧ a ≠ it ∧ e ≠ a) where
  mem := by simp
  obj := fun i h st b hb => by
    obtain ⟨⟨old, he⟩, ⟨o, ho, hc, hd⟩, _⟩ := st
    have e' : b = e ∨ b = it := by simpa using hb
    rcases e' with z | z
    · rw [z]; exact ⟨_, he, fun v q => nomatch q⟩
    · rw [z]; exact ⟨o, ho, fun v q => by rw [hd] at q; cases q⟩
  keep := fun i h h' st k => let ⟨⟨old, he⟩, hi, hne⟩ := st; ⟨⟨old, k e (by simp) _ he⟩, hi.at fun o q => k it (by simp) o q, hne⟩
  item := by
    intro X hP hw hK hc i pins s σ H E I hf st hg
    subst hP hw hK
    obtain ⟨⟨old, he⟩, hit, hne, hai, hea⟩ := st
    obtain ⟨xs, x, hq, hx⟩ := hg
    obtain ⟨its, rv, p, hz⟩ := I.tuple hq
    obtain ⟨u, hu, ru⟩ := rv.get hx
    have hel : e < s.heap.objs.size := Heap.lt_size he
    have hil : it < s.heap.objs.size := by obtain ⟨_, q, _⟩ := hit; exact Heap.lt_size q
    have hlt : i < its.toArray.size := by rw [List.size_toArray]; exact getElem?_lt hu
    refine wpAny_pyNext_enum_itemD (q_drawsT (A := X.A.in1) (show X.A.in1.handled = none from I.ok.hd hc) it a hai its.toArray) he ⟨hit, p⟩ hlt hne (by simp; exact ⟨hne, hea⟩) fun x' h' tk hx' ho hit' hT hsz hk => ?_
    have hxu : x' = u := by
      have : its.toArray[i]? = some u := by simpa using hu
      rw [this] at hx'; exact (Option.some.inj hx').symm
    subst hxu
    refine ⟨_, rfl, wpAny_letOwnedTupleGo_enum (s := { s with heap := h', toks := tk + 1 }) ho fun h'' he' sb => ?_⟩
    have hT2 : h''.get? s.heap.objs.size = some { cls := .type "tuple", data := .seq #[.int i tk, x'] } := (sb.2 _ (Nat.ne_of_gt hel)).trans hT
    have new : ObjOk X.prog X.w (upd H s.heap.objs.size (.tup [.int (i : Nat), x])) h'' s.heap.objs.size (.tup [.int (i : Nat), x]) :=
      ⟨by show 2 ≤ sizeLine; decide, [.int i tk, x'], .cons ⟨_, rfl⟩ (.cons ru .nil), ⟨_, hT2, rfl, _, rfl⟩⟩
    have I1 : Inv X pins σ (upd H s.heap.objs.size (.tup [.int (i : Nat), x])) { s with heap := h'', toks := tk + 1 } :=
      I.turnedNew (ch := [e, it]) (fun b ob hb q => (sb.2 b (fun z => hb (by simp [z]))).trans (hk b ob (fun z => hb (by simp [z])) (fun z => hb (by simp [z])) q)) hf (Nat.le_refl _) new
    refine ⟨.ref s.heap.objs.size, _, I1, rfl, ⟨_, x, rfl, I.hok.fresh (Nat.le_refl _), rfl, fun ys hy => by rw [I.tuple_inj hy hq]; exact hx⟩, ⟨⟨x', ?_⟩, hit'.1.at fun o q => (sb.2 it (Ne.symm hne)).trans q, hne, hai, hea⟩, fun b hb => ?_⟩
    · have e1 : ((i + 1 : Nat) : Int) = (i : Int) + 1 := by omega
      rw [e1]; exact he'
    · have hb' : b < s.heap.objs.size := by
        have e' : b = e ∨ b = it := by simpa using hb
        rcases e' with z | z
        · rw [z]; exact hel
        · rw [z]; exact hil
      rw [upd_ne (Nat.ne_of_lt hb')]
      exact (hf b hb).1
  done := by
    intro X hP hw hK hc i pins s σ H E I hf st hg
    subst hP hw hK
    obtain ⟨⟨old, he⟩, hit, hne, hai, hea⟩ := st
    obtain ⟨xs, hq, hx⟩ := hg
    obtain ⟨its, rv, p, hz⟩ := I.tuple hq
    obtain ⟨f0, f1, f2, f3, f4, f5⟩ := hf it (by simp)
    have hl := rv.length
    have hn : its.toArray.size = i := by rw [List.size_toArray]; omega
    subst hn
    exact wpAny_pyNext_enum_endD (q_drawsT (A := X.A.in1) (show X.A.in1.handled = none from I.ok.hd hc) it a hai its.toArray) he ⟨hit, p⟩ fun h' eb => ⟨rfl, I.turned (t' := s.toks) (fun b o hb q => eb b o hb q) f0 f1 f3 f4 f5⟩
  self := fun A i s Q E st h => let ⟨⟨_, he⟩, _⟩ := st; wpAny_pyIter_enum he h
section
variable {X : Cx}
theorem pi_enumS {e : Expr} {ta : TA} {p pos tpos : Pos} {elts : List Expr} {kk : Nat} (hg : Gl X "enumerate") (hm : X.mg "enumerate" = none) (ha : PA X [e] ta) (hs : starEach [e] X.env = [(false, eval e X.env)] := by rfl) :
    PI X (.Tuple elts kk tpos) (.Call (.Name "enumerate" p) [e] [] pos) (fun σ H R => ta σ H fun vs H1 => ∃ a, vs = [.ref a] ∧ ((∃ xs, SqL X.K H1 a xs ∧ R (Ite X.K a) H1) ∨ ∃ xs, SqT X.K H1 a xs ∧ R (IteT X.K a) H1)) := by
  intro pins s σ H R I h
  refine Call_ (ld_blt I hg hm boot_enumerate (PyProof.Rows.callWith_type1 (thn (ha pos pins s σ H _ I h) fun us s1 ⟨vs, H1, I1, r1, q1⟩ => ?_) hs rfl))
  have fin2 : ∀ b, b ∈ [s1.heap.objs.size + 1, s1.heap.objs.size] → FpOk X pins H1 b := fun b hb => by
    have e' : b = s1.heap.objs.size + 1 ∨ b = s1.heap.objs.size := by simpa using hb
    have hle : s1.heap.objs.size ≤ b := by
      rcases e' with z | z
      · rw [z]; exact Nat.le_add_right _ _
      · rw [z]; exact Nat.le_refl _
    exact I1.fpOk hle (I1.hok.fresh hle)
  obtain ⟨a, ex, ⟨xs, hq, q⟩ | ⟨xs, hq, q⟩⟩ := q1
  · subst ex
    cases r1 with
    | cons r rr =>
      cases rr
      cases r
      obtain ⟨its, rv, p', hz⟩ := I1.list hq
      refine call_enumerate_list p'.isList fun h' he hit hsz hk => wpAny_pyIter_enum he ?_
      have I2 : Inv X pins σ H1 { s1 with heap := h' } := I1.kept (t' := s1.toks) hk
      exact ⟨s1.heap.objs.size + 1, [s1.heap.objs.size + 1, s1.heap.objs.size], _, _, H1, rfl, I2, turn_enum a (s1.heap.objs.size + 1) s1.heap.objs.size, ⟨⟨.none, he⟩, hit, Nat.succ_ne_self _⟩, fin2, q⟩
  · subst ex
    cases r1 with
    | cons r rr =>
      cases rr
      cases r
      obtain ⟨its, rv, p', hz⟩ := I1.tuple hq
      have hal : a < s1.heap.objs.size := by obtain ⟨o, ho, _⟩ := p'; exact Heap.lt_size ho
      refine q_enumT p' fun h' he hit hsz hk => wpAny_pyIter_enum he ?_
      have I2 : Inv X pins σ H1 { s1 with heap := h' } := I1.kept (t' := s1.toks) hk
      exact ⟨s1.heap.objs.size + 1, [s1.heap.objs.size + 1, s1.heap.objs.size], _, _, H1, rfl, I2, turn_enumT a (s1.heap.objs.size + 1) s1.heap.objs.size, ⟨⟨.none, he⟩, hit, Nat.succ_ne_self _, Nat.ne_of_lt hal, Nat.ne_of_gt (Nat.lt_succ_of_lt hal)⟩, fin2, q⟩
def enumD (xs : List D) : List D := xs.zipIdx.map fun p => .tuple [.int (p.2 : Int), p.1]
theorem enumD_at {xs : List D} {i : Nat} {y : D} (h : (enumD xs)[i]? = some y) : ∃ x, xs[i]? = some x ∧ y = .tuple [.int (i : Int), x] := by
  unfold enumD at h
  rw [List.getElem?_map, List.getElem?_zipIdx] at h
  cases e : xs[i]? with
  | none => rw [e] at h; cases h
  | some x => rw [e] at h; simp at h; exact ⟨x, rfl, h.symm⟩
theorem enumD_len {xs : List D} : (enumD xs).length = xs.length := by simp [enumD]
theorem walk_enum {K : PySem.W.Frag} {Fz : Addr → Prop} {H : Hp} {a : Addr} {ds : List D} (h : Dr K Fz H (.ref a) (.list ds)) : Walk K Fz H (Ite K a) (enumD ds) := by
  intro Fz' H' g k l
  cases h with
  | lst hf hs hd =>
    have hs' := k _ _ hf hs
    have hd' := hd.keep g (fun q o z e => k q o z e) _ _
    refine ⟨fun i y e => ?_, _, SqL.of hs', by rw [hd.length, enumD_len]; exact Nat.le_refl _⟩
    obtain ⟨x, ex, rfl⟩ := enumD_at e
    obtain ⟨v, h1, h2⟩ := hd'.get ex
    refine ⟨⟨_, v, SqL.of hs', h1⟩, fun v' H'' y => ?_⟩
    obtain ⟨T, x', rfl, hT, rfl, y⟩ := y
    have := y _ (SqL.of hs')
    rw [h1] at this
    cases this
    exact ⟨_, .newT l hT (.cons (.int _) (.cons h2 .nil))⟩
theorem walk_enumT {K : PySem.W.Frag} {Fz : Addr → Prop} {H : Hp} {a : Addr} {ds : List D} (h : Dr K Fz H (.ref a) (.tuple ds)) : Walk K Fz H (IteT K a) (enumD ds) := by
  intro Fz' H' g k l
  obtain ⟨b, us, e0, s1, d1⟩ := Rdg.tup (Fz := Fz') (H := H') (K := K) (v := .ref a) (ds := ds) (.inl (h.keep g (fun q o z e => k q o z e) _ _))
  cases e0
  refine ⟨fun i y e => ?_, _, s1, by rw [d1.length, enumD_len]⟩
  obtain ⟨x, ex, rfl⟩ := enumD_at e
  obtain ⟨v, h1, h2⟩ := d1.get ex
  refine ⟨⟨_, v, s1, h1⟩, fun v' H'' y => ?_⟩
  obtain ⟨T, x', rfl, hT, rfl, y⟩ := y
  have := y _ s1
  rw [h1] at this
  cases this
  exact ⟨_, .newT l hT (.cons (.int _) (.cons h2 .nil))⟩
def fiEnum (fe : Fe) : Fi := fun ρ => (fiSeq fe ρ).bind fun p => some (enumD p.1, p.2)
theorem di_enum {e : Expr} {fe : Fe} {p pos tpos : Pos} {elts : List Expr} {kk : Nat} (hg : Gl X "enumerate") (hm : X.mg "enumerate" = none) (h : DE X e fe) (hs : starEach [e] X.env = [(false, eval e X.env)] := by rfl) :
    DI X (.Tuple elts kk tpos) (.Call (.Name "enumerate" p) [e] [] pos) (fiEnum fe) :=
  ⟨PI.imp (pi_enumS hg hm (pa_cons h.ok pa_nil (hs := hs)) hs) fun σ H R h => by
    obtain ⟨Fz, ρ, items, ρ', r, e, q⟩ := h
    unfold fiEnum at e
    cases e1 : fiSeq fe ρ with
    | none => rw [e1] at e; cases e
    | some z =>
      obtain ⟨xs, ρ1⟩ := z
      simp only [e1, Option.bind_some] at e
      cases e
      refine tE_mono (seq_state (R := fun x v H1 => ∃ a, v = .ref a ∧ ((∃ xs, SqL X.K H1 a xs ∧ R (Ite X.K a) H1) ∨ ∃ xs, SqT X.K H1 a xs ∧ R (IteT X.K a) H1)) ⟨Fz, ρ, xs, ρ', r, e1, fun v x H1 Fz1 hi p1 d => ?_⟩) fun v H1 ⟨_, a, z1, z2⟩ => ⟨a, by rw [z1], z2⟩
      cases x with
      | list ys =>
        cases hi
        obtain ⟨a, us, rfl, s1, d1⟩ := Rdg.lst (Fz := Fz1) (H := H1) (K := X.K) (v := v) (ds := xs) (.inl d)
        exact ⟨a, rfl, .inl ⟨us, SqL.of s1, q _ H1 Fz1 p1 (walk_enum d)⟩⟩
      | tuple ys =>
        cases hi
        obtain ⟨a, us, rfl, s1, d1⟩ := Rdg.tup (Fz := Fz1) (H := H1) (K := X.K) (v := v) (ds := xs) (.inl d)
        exact ⟨a, rfl, .inr ⟨us, s1, q _ H1 Fz1 p1 (walk_enumT d)⟩⟩
      | _ => cases hi⟩
end
end L2.Q3
end

section
set_option Elab.async false
set_option linter.all false
set_option maxRecDepth 100000
set_option maxHeartbeats 4000000
namespace L2.Q3
open PySem PySem.Spec PyProof.Rows

structure DTs (X : Cx) (ifs : List Expr) (f : Ft) : Prop where
  ok : PTs X ifs (tT X.K f)
def ftYes : Ft := fun ρ => some (true, ρ)
section
variable {X : Cx} {fix : Nat → Bool}
theorem PTs.imp {ifs : List Expr} {t t' : TT} (h : PTs X ifs t) (i : ∀ σ H Q, t' σ H Q → t σ H Q) : PTs X ifs t' := fun pins s σ H Q I q => h pins s σ H Q I (i σ H Q q)
theorem dts_nil : DTs X [] ftYes := ⟨PTs.imp pts_nil fun σ H Q h => by
  obtain ⟨Fz, ρ, b, ρ', r, e, q⟩ := h
  cases e
  exact q H Fz (.nil r)⟩
theorem dts_one {c : Expr} {f : Ft} (h : DT X c f) : DTs X [c] f := ⟨pts_one h.ok⟩
variable {elt tg iter : Expr} {ifs : List Expr} {scope : Scope} {own : List (Str × Nat)} {vs : List Nat} {pos : Pos} {fi : Fi} {fg : Fg} {ft : Ft} {fe : Fe}
theorem de_lc (hc : X.calm = true) (hN : X.N.Nodup) (hv : own.map (·.2) = vs) (hi : DI X tg iter fi) (ok : BlkOk X.N X.env.scope scope own)
    (hg : ∀ (s : Shared) (H : Hp) (C : Addr) (cl : List (Str × Addr)) (fp : List Addr), DG (X.blk s H scope (compEnvC scope cl C X.env) fp) (blkFix vs) tg fg) (ht : ∀ (s : Shared) (H : Hp) (C : Addr) (cl : List (Str × Addr)) (fp : List Addr), DTs (X.blk s H scope (compEnvC scope cl C X.env) fp) ifs ft)
    (he : ∀ (s : Shared) (H : Hp) (C : Addr) (cl : List (Str × Addr)) (fp : List Addr), DE (X.blk s H scope (compEnvC scope cl C X.env) fp) elt fe) (hs : ∀ x, foldedSetIterable iter X.env x = pure x := by intro _; rfl) :
    DE X (.ListComp elt [⟨tg, iter, ifs, 0⟩] scope pos) (feComp fi fg ft fe vs) := by
  subst hv
  exact ⟨PE.imp (pe_lc hc hN hi.ok ok (fun s H C cl fp => (hg s H C cl fp).ok) (fun s H C cl fp => (ht s H C cl fp).ok) (fun s H C cl fp => (he s H C cl fp).ok) hs) fun σ H Q h => comp_go h⟩
end

section
variable {prog : Program} {w : World} {A : Around} {E : Value → Shared → Prop} {s : Shared}
theorem q_whole {t sl : Addr} {items : Array Value} {vl vu : Value} {lo hi : Option Int} {Q : Value → Shared → Prop} (ht : IsTup s.heap t items) (hs : s.heap.IsSliceOf sl vl vu .none) (pl : IsPart vl lo) (pu : IsPart vu hi)
    (hw : HT.sIx items.size 0 lo = 0 ∧ HT.sIx items.size items.size hi = items.size) (h : Q (.ref t) s) : wpAny (model prog w) A (getItem (.ref t) (.ref sl)) Q E s := by
  obtain ⟨os, hos, hcs, hds⟩ := id hs
  have hTs : s.TypeIs (.ref sl) "slice" := ⟨os, hos, hcs⟩
  unfold getItem
  try with_reducible refine wpAny_holding ?_
  first | refine wpAny_bind (wpAny_pure ?_) | skip
  refine wpAny_bind (wpAny_sequenceKey ht.typeIs (by decide) ?_)
  refine wpAny_bind (wpAny_callSpecial?_slot (name := Str.ofString "__getitem__") ht.typeIs PyProof.Rows.slot_tuple_getitem
    (wpAny_call_entry PyProof.Rows.slot_tuple_getitem ht.typeIs entry_tuple_getitem ?_ (args_tuple_getitem _ _)))
  show wpAny _ _ (Builtin.Tuple.tupleItemsOf (.ref t) >>= _) _ _ s
  refine wpAny_bind (tupleItemsOf_ ht ?_)
  refine wpAny_bind (wpAny_typeOf hTs ?_)
  rw [if_pos (by decide)]
  refine wpAny_bind (HT.sliceApplied_gen hs pl pu ?_)
  have yes : (((HT.sIx items.size 0 lo : Nat) : Int) == 0 && (1 : Int) == 1 && (HT.sIx items.size items.size hi - HT.sIx items.size 0 lo) == items.size) = true := by
    rw [hw.1, hw.2]; simp
  show wpAny _ _ (if (((HT.sIx items.size 0 lo : Nat) : Int) == 0 && (1 : Int) == 1 && (HT.sIx items.size items.size hi - HT.sIx items.size 0 lo) == items.size) = true then _ else _) _ _ s
  rw [if_pos yes]
  unfold Builtin.Tuple.tupleIsExact
  refine wpAny_bind (wpAny_bind (wpAny_typeOf ht.typeIs (wpAny_pure ?_)))
  rw [if_pos (by decide)]
  exact wpAny_bind (wpAny_rule (wpAny_bind (wpAny_pure (wpAny_pure ⟨_, rfl, wpAny_pure h⟩))))
end
section
variable {X : Cx}
theorem sl_whole : SlR X (fun x lo hi H Q => ∃ a xs, x = .ref a ∧ SqT X.K H a xs ∧ (HT.sIx xs.length 0 lo = 0 ∧ HT.sIx xs.length xs.length hi = xs.length) ∧ Q (.ref a) H) := by
  intro pins s σ H x v vl vu lo hi sl Q I rx hs pl pu h
  obtain ⟨a, xs, rfl, hx, hw, q⟩ := h
  cases rx
  obtain ⟨its, r, ht, hz⟩ := I.tuple hx
  have hlen : its.toArray.size = xs.length := by rw [List.size_toArray]; exact r.length.symm
  exact ⟨"tuple", _, PyProof.Rows.slot_tuple_getitem.lookup, ht.typeIs, q_whole ht hs pl pu (by rw [hlen]; exact hw) ⟨.ref a, H, I, rfl, q⟩⟩
def rSl4 (K : PySem.W.Frag) : V → Option Int → Option Int → Hp → VK → Prop := fun x lo hi H Q => rSlT K x lo hi H Q ∨ (∃ a xs, x = .ref a ∧ SqT K H a xs ∧ (HT.sIx xs.length 0 lo = 0 ∧ HT.sIx xs.length xs.length hi = xs.length) ∧ Q (.ref a) H) ∨ rSlL K x lo hi H Q ∨ rSlS x lo hi H Q
theorem sl_4 : SlR X (rSl4 X.K) := sl_tup.or (sl_whole.or (sl_list.or sl_str))
def cutD (xs : List D) (lo hi : Option Int) : List D := (xs.drop (HT.sIx xs.length 0 lo)).take (HT.sIx xs.length xs.length hi - HT.sIx xs.length 0 lo)
def gSl : D → Option Int → Option Int → Option W
  | .tuple xs, lo, hi => some (.d (.tuple (cutD xs lo hi)))
  | .list xs, lo, hi => some (.fr (cutD xs lo hi))
  | .str z, lo, hi => if z.length ≤ 16777216 then some (.d (.str (cutS z lo hi))) else none
  | _, _, _ => none
theorem cut_dr {K : PySem.W.Frag} {Fz : Addr → Prop} {H : Hp} {us : List V} {xs : List D} (d : DrAll K Fz H us xs) (lo hi : Option Int) : DrAll K Fz H (cutV us lo hi) (cutD xs lo hi) := by
  unfold cutV cutD
  rw [d.length]
  exact (d.drop _).take _
theorem cutD_whole {xs : List D} {lo hi : Option Int} (h : HT.sIx xs.length 0 lo = 0 ∧ HT.sIx xs.length xs.length hi = xs.length) : cutD xs lo hi = xs := by
  unfold cutD
  rw [h.1, h.2]; simp
theorem sl_atom {K : PySem.W.Frag} {Fz : Addr → Prop} {H : Hp} {v : V} {x : D} {lo hi : Option Int} {w : W} {Q : VK} (l : ∀ q, Fz q → H q ≠ none) (h : Rdg K Fz H v x) (e : gSl x lo hi = some w) (k : ∀ v H' Fz', Made K Fz Fz' H H' w v → Q v H') : rSl4 K v lo hi H Q := by
  unfold gSl at e
  split at e
  · cases e
    obtain ⟨a, us, rfl, s1, d1⟩ := h.tup
    have hl := d1.length
    by_cases hw : HT.sIx us.length 0 lo = 0 ∧ HT.sIx us.length us.length hi = us.length
    · refine .inr (.inl ⟨a, us, rfl, s1, hw, k _ _ _ (.val l ?_)⟩)
      rw [cutD_whole (by rw [← hl]; exact hw)]
      rcases h with h | ⟨_, _, _, _, e, _⟩
      · exact h
      · cases e
    · exact .inl ⟨a, us, rfl, s1, hw, fun p hp => k _ _ _ (.newT l hp (cut_dr d1 lo hi))⟩
  · cases e
    obtain ⟨a, us, rfl, s1, d1⟩ := h.lst
    exact .inr (.inr (.inl ⟨a, us, rfl, SqL.of s1, fun p hp => k _ _ _ (.newL l hp (cut_dr d1 _ _))⟩))
  · obtain ⟨hc, rfl⟩ := some_ite e
    rw [h.str]
    exact .inr (.inr (.inr ⟨_, rfl, by rw [sizeLine_eq]; exact hc, k _ _ _ (.val l (.str _))⟩))
  · cases e
abbrev Fo := Rho → Option (Option Int × Rho)
def tO (K : PySem.W.Frag) (f : Fo) : TO := fun σ H Q => ∃ Fz ρ o ρ', Rel K Fz ρ σ H ∧ f ρ = some (o, ρ') ∧ ∀ H' Fz', PostL K Fz Fz' ρ ρ' σ H H' [] [] → Q o H'
structure DO (X : Cx) (e : Option Expr) (f : Fo) : Prop where
  ok : PO X e (tO X.K f)
theorem PO.imp {e : Option Expr} {t t' : TO} (h : PO X e t) (i : ∀ σ H Q, t' σ H Q → t σ H Q) : PO X e t' := fun pins s σ H Q I q => h pins s σ H Q I (i σ H Q q)
def foN : Fo := fun ρ => some (none, ρ)
def foS (fe : Fe) : Fo := fun ρ => (fe ρ).bind fun p => match p.1 with
  | .d (.int i) => some (some i, p.2)
  | _ => none
theorem do_none : DO X none foN := ⟨PO.imp po_none fun σ H Q h => by
  obtain ⟨Fz, ρ, o, ρ', r, e, q⟩ := h
  cases e
  exact q H Fz (.nil r)⟩
theorem do_some {e : Expr} {fe : Fe} (h : DE X e fe) : DO X (some e) (foS fe) := ⟨PO.imp (po_some h.ok) fun σ H Q h => by
  obtain ⟨Fz, ρ, o, ρ', r, e, q⟩ := h
  unfold foS at e
  cases e1 : fe ρ with
  | none => rw [e1] at e; cases e
  | some z =>
    obtain ⟨w, ρ1⟩ := z
    simp only [e1, Option.bind_some] at e
    split at e
    · cases e
      refine ⟨Fz, ρ, _, ρ', r, e1, fun v H1 Fz1 p1 => ?_⟩
      rename_i i
      have hv : Dr X.K Fz1 H1 v (.int i) := p1.rep1
      cases hv
      exact ⟨i, rfl, q H1 Fz1 p1.drop⟩
    · cases e⟩
def feSl (fe : Fe) (fl fh : Fo) : Fe := fun ρ => (fe ρ).bind fun p => (fl p.2).bind fun l => (fh l.2).bind fun u => (rdW u.2 p.1).bind fun x => (gSl x l.1 u.1).bind fun w => some (w, u.2)
theorem de_slice {e : Expr} {lo hi : Option Expr} {p2 pos : Pos} {fe : Fe} {fl fh : Fo} (he : DE X e fe) (hl : DO X lo fl) (hu : DO X hi fh) : DE X (.Subscript e (.Slice lo hi none p2) pos) (feSl fe fl fh) :=
  ⟨PE.imp (pe_slice sl_4 he.ok hl.ok hu.ok) fun σ H Q h => by
    obtain ⟨Fz, ρ, w, ρ', r, e, q⟩ := h
    unfold feSl at e
    cases e1 : fe ρ with
    | none => rw [e1] at e; cases e
    | some z1 =>
      obtain ⟨w1, ρ1⟩ := z1
      simp only [e1, Option.bind_some] at e
      cases e2 : fl ρ1 with
      | none => rw [e2] at e; cases e
      | some z2 =>
        obtain ⟨l, ρ2⟩ := z2
        simp only [e2, Option.bind_some] at e
        cases e3 : fh ρ2 with
        | none => rw [e3] at e; cases e
        | some z3 =>
          obtain ⟨u, ρ3⟩ := z3
          simp only [e3, Option.bind_some] at e
          cases e4 : rdW ρ3 w1 with
          | none => rw [e4] at e; cases e
          | some x =>
            simp only [e4, Option.bind_some] at e
            cases e5 : gSl x l u with
            | none => rw [e5] at e; cases e
            | some w5 =>
              simp only [e5, Option.bind_some] at e
              cases e
              refine ⟨Fz, ρ, w1, ρ1, r, e1, fun v H1 Fz1 p1 => ⟨Fz1, ρ1, l, ρ2, p1.rel, e2, fun H2 Fz2 p2 => ⟨Fz2, ρ2, u, ρ', p2.rel, e3, fun H3 Fz3 p3 => ?_⟩⟩⟩
              have p13 := p1.cons (p2.seq p3)
              exact sl_atom p13.rel.fzl (p13.rel.rdg p13.rep1 e4) e5 fun v4 H4 Fz4 m => q v4 H4 Fz4 (p13.made m)⟩
end

section
variable {X : Cx}

def kindD : D → String
  | .none => "NoneType"
  | .bool _ => "bool"
  | .int _ => "int"
  | .str _ => "str"
  | .list _ => "list"
  | .tuple _ => "tuple"
  | .dict _ => "dict"
def isOf (a b : String) : Bool := a == b || (a == "bool" && b == "int")
structure IsiOk (K : PySem.W.Frag) (n : String) : Prop where
  ok : ∀ a, a ∈ ["NoneType", "bool", "int", "str", "list", "tuple", "dict"] → PySem.W.kitOne K (.type a) (.type n) = some (isOf a n)
theorem isi_dr {pins : List (Addr × Obj)} {σ : St} {H : Hp} {s : Shared} {A : Around} {E : Value → Shared → Prop} {Q : Value → Shared → Prop} {Fz : Addr → Prop} {n : String} {x : D} {v : V} {u : Value} (I : Inv X pins σ H s) (rv : RelV v u) (ok : IsiOk X.K n) (ns : ∀ ys, x ≠ .dict [(.none, .list ys)])
    (h : Rdg X.K Fz H v x) (q : ∀ tk, Q (.bool (isOf (kindD x) n)) { s with toks := tk }) : wpAny (model X.prog X.w) A (call (.builtin "isinstance") [u, .type n]) Q E s := by
  rcases h with h | ⟨p, vs, xs, rfl, rfl, e, _⟩
  · cases h with
    | non => exact isinst_ok I rv .non (ok.ok "NoneType" (by simp)) q
    | bl b => exact isinst_ok I rv (.bl b) (ok.ok "bool" (by simp)) q
    | int i => exact isinst_ok I rv (.int i) (ok.ok "int" (by simp)) q
    | str z => exact isinst_ok I rv (.str z) (ok.ok "str" (by simp)) q
    | lst hf hs ha => exact isinst_ok I rv (.lst hs) (ok.ok "list" (by simp)) q
    | tup hf hs ha => exact isinst_ok I rv (.tup hs) (ok.ok "tuple" (by simp)) q
    | tuk hs ha =>
      obtain ⟨o, its, m, h1, h2, _⟩ := hs
      cases (show u = Value.ref _ from rv)
      exact PySem.W.kia_one PySem.W.kitx_tuple I.kIn ⟨o, I.kIn _ o h1, h2⟩ (ok.ok "tuple" (by simp)) (fun z => nomatch z) q
    | dct hf hs ha => exact isinst_ok I rv (.dK hs) (ok.ok "dict" (by simp)) q
    | scr hs ha => exact absurd rfl (ns _)
  · exact isinst_ok I rv (.lst e) (ok.ok "list" (by simp)) q
def gIsi (n : String) : D → Option Bool
  | .dict [(.none, .list _)] => none
  | x => some (isOf (kindD x) n)
theorem gIsi_some {n : String} {x : D} {b : Bool} (h : gIsi n x = some b) : (∀ ys, x ≠ .dict [(.none, .list ys)]) ∧ b = isOf (kindD x) n := by
  unfold gIsi at h
  split at h
  · cases h
  · rename_i hx
    cases h
    exact ⟨fun ys e => hx ys e, rfl⟩
def feIsi (n : String) (fe : Fe) : Fe := fun ρ => (fe ρ).bind fun p => (rdW p.2 p.1).bind fun x => (gIsi n x).bind fun b => some (.d (.bool b), p.2)
theorem de_isi {e : Expr} {fe : Fe} {y : Str} {n : String} {p p2 pos : Pos} (he : DE X e fe) (ok : IsiOk X.K n) (hg : Gl X "isinstance") (hm : X.mg "isinstance" = none) (hg2 : Gl X y) (hm2 : X.mg y = none) (hv2 : bootBuiltins y = some (.type n))
    (hn2 : y ≠ "__name__" := by decide) (hd2 : (y == ("__debug__" : Str)) = false := by decide)
    (hs : starEach [e, .Name y p2] X.env = (false, eval e X.env) :: starEach [.Name y p2] X.env := by rfl) (hs2 : starEach [.Name y p2] X.env = [(false, eval (.Name y p2) X.env)] := by rfl) (hpl : (backTo pos (starEach [.Name y p2] X.env)).any (·.1) = false := by rfl) :
    DE X (.Call (.Name "isinstance" p) [e, .Name y p2] [] pos) (feIsi n fe) := by
  refine ⟨fun pins s σ H Q I h => ?_⟩
  obtain ⟨Fz, ρ, w, ρ', r, ee, q⟩ := h
  unfold feIsi at ee
  cases e1 : fe ρ with
  | none => rw [e1] at ee; cases ee
  | some z =>
    obtain ⟨w1, ρ1⟩ := z
    simp only [e1, Option.bind_some] at ee
    cases e2 : rdW ρ1 w1 with
    | none => rw [e2] at ee; cases ee
    | some x =>
      simp only [e2, Option.bind_some] at ee
      cases e3 : gIsi n x with
      | none => rw [e3] at ee; cases ee
      | some b =>
        simp only [e3, Option.bind_some] at ee
        cases ee
        obtain ⟨ns, rfl⟩ := gIsi_some e3
        refine wpAny_Call_Name_kw (ld_blt I hg hm (u := .builtin "isinstance") (by decide +kernel) ?_)
        have tt : tCons (tE X.K fe) (tCons (tC (.ty n)) tNil) σ H fun vs H1 => ∃ v Fz1, vs = [v, .ty n] ∧ PostL X.K Fz Fz1 ρ ρ' σ H H1 [w1] [v] := ⟨Fz, ρ, w1, ρ', r, e1, fun v H1 Fz1 p1 => ⟨v, Fz1, rfl, p1⟩⟩
        have pa := pa_cons he.ok (pa_cons (pe_bltn (v := .ty n) hg2 hm2 hv2 rfl hn2 hd2) pa_nil (hs := hs2)) hs
        exact PyProof.Rows.callWith_builtin1 (thn (pa pos pins s σ H _ I tt) fun us s1 hh => by
          obtain ⟨vs, H1, I1, r1, v, Fz1, ev, p1⟩ := hh
          subst ev
          cases r1 with
          | cons ra rb =>
            cases rb with
            | cons rc rd =>
              cases rd
              cases rc
              exact isi_dr I1 ra ok ns (p1.rel.rdg p1.rep1 e2) fun tk => ⟨.bl _, H1, I1.tok _, rfl, q _ H1 Fz1 (p1.made (.val p1.rel.fzl (.bl _)))⟩) hs hpl
end
end L2.Q3
end

section
set_option Elab.async false
set_option linter.all false
set_option maxRecDepth 100000
set_option maxHeartbeats 4000000
namespace L2.Q3
open PySem PySem.Spec PyProof.Rows

theorem hu64 {A : Around} {k : Nat} (hr : Room k A) : A.units + 64 < cLine := hr.units
theorem hu65 {A : Around} {k : Nat} (hr : Room k A) : A.units + 65 < cLine := by have := hr.un; omega
def gNeg : List D → Option W
  | [.int i] => some (.d (.int (-i)))
  | _ => none
section
variable {X : Cx} {a : Expr} {fa : Fe} {pos : Pos}
theorem de_neg' (ha : DE X a fa) : DE X (.UnaryOp .USub a pos) (fe1 gNeg fa) :=
  ⟨PE.imp (pe_un un_neg ha.ok) fun σ H Q h => atom_go1 (r := rU fun i => .int (-i)) (fun Fz H vs xs w Q l h e k => by
    unfold gNeg at e
    split at e
    · cases e
      obtain ⟨v, rfl, h1⟩ := paired1 h
      rw [h1.int]
      exact ⟨_, rfl, k _ _ _ (.val l (.int _))⟩
    · cases e) h⟩
end

structure Cal (P : Program) (w : World) (K : PySem.W.Frag) (mg : Str → Option Value) (base : Heap) (k : Nat) (x : Str) (np : Nat) (F : Fn) : Prop where
  ex : ∃ f fd ps, FnOk P w K mg base CX0 k f fd ps (spF K np F) ∧ mg x = some (.ref f) ∧ PySem.W.keepIn K (.ref f) = true ∧ Binds K fd ps []
theorem Cal.mono {P : Program} {w : World} {K : PySem.W.Frag} {mg : Str → Option Value} {base : Heap} {j k : Nat} {x : Str} {np : Nat} {F : Fn} (C : Cal P w K mg base j x np F) (h : j ≤ k) : Cal P w K mg base k x np F := by
  obtain ⟨f, fd, ps, h1, h2⟩ := C.ex
  exact ⟨f, fd, ps, h1.mono h, h2⟩

structure Dfn (K : PySem.W.Frag) (mg : Str → Option Value) (x : Str) (st : Stmt) : Prop where
  ex : ∃ f fd, Fun K x x st f fd ∧ mg x = some (.ref f)
section
variable {X : Cx} {k np : Nat} {F : Fn} {x : Str} {p pos : Pos} {e : Expr} {es : List Expr} {fa : Fa}
theorem de_callC (C : Cal X.prog X.w X.K X.mg X.base k x np F) (hr : Room k X.A) (hg : Gl X x) (ha : DAn X (e :: es) fa np) (hdb : (x == ("__debug__" : Str)) = false := by decide)
    (he : starEach (e :: es) X.env = (false, eval e X.env) :: starEach es X.env := by rfl) (hpl : (backTo pos (starEach es X.env)).any (·.1) = false := by rfl) : DE X (.Call (.Name x p) (e :: es) [] pos) (feCall F fa) := by
  obtain ⟨f, fd, ps, h1, h2, h3, h4⟩ := C.ex
  exact de_call h1 hr hg h2 h3 h4 pass0 ha hdb he hpl
end
section
variable {P : Program} {w : World} {K : PySem.W.Frag} {mg : Str → Option Value} {base : Heap}
theorem cal_of {x : Str} {st : Stmt} {N ps : List Str} {k np : Nat} {fx : List Bool} {fs : Fs} (d : Dfn K mg x st) (S : FnScope N ps (defScope st)) (hp : ps.length = fx.length) (hn : fx.length ≤ N.length) (hnp : fx.length = np)
    (hb : ∀ (kV doc pm : Value) (an : Option Addr) (cdv ct : Value) (us : List Value), us.length = ps.length → bindArgs (PySem.W.fnOf x x (defArgs st) (defBody st) (defScope st) .none kV doc pm an cdv ct) ⟨us, []⟩ = pure (ps.zip us))
    (hbody : ∀ (f : Addr) (cdv : Value) (A : Around) (outer : List Env) (s : Shared) (H : Hp) (E : XK), Room k (A.deeper (envOfC x (defScope st) s.heap.objs.size f cdv)) →
      DSs (cxOf CX0 P w K mg base N x (defScope st) f cdv A outer s H E).nox (fixOf fx) (defBody st) fs) : Cal P w K mg base (k + 1) x np (fnOf fx N.length fs) := by
  obtain ⟨f, fd, F, h⟩ := d.ex
  subst hnp
  exact ⟨f, fd, ps, fn_lin F S hp hn (hbody f), h, F.kp, F.binds hb⟩
theorem Cal.fn {k np : Nat} {x : Str} {F G : Fn} (C : Cal P w K mg base k x np F) (i : ∀ ws r, G ws = some r → F ws = some r) : Cal P w K mg base k x np G := by
  obtain ⟨f, fd, ps, h1, h2⟩ := C.ex
  exact ⟨f, fd, ps, FnOk.fn h1 i, h2⟩
end
end L2.Q3
end

section
set_option Elab.async false
set_option linter.all false
set_option maxRecDepth 100000
set_option maxHeartbeats 4000000

namespace PySem
open Sem (wp)
theorem q_orStand (t : SetTable) (n : Nat) : (t.orStandIn n).led = t.led ∧ ((t.orStandIn n).plain = t.plain ∨ (t.orStandIn n).plain = false) := by
  unfold SetTable.orStandIn
  split
  · exact ⟨rfl, .inl rfl⟩
  · exact ⟨rfl, .inr rfl⟩
theorem q_layNew (t : SetTable) (es : Array (Int × Value)) (h : Int) (x : Value) : (layNew t es h x).2.1.led = t.led := by
  unfold layNew
  cases t.freeSlot h with
  | none => rfl
  | some p =>
    obtain ⟨slot, wd⟩ := p
    exact (q_orStand (t.put slot).1 _).1
theorem q_laid {mask finger moves : Nat} {led plain : Bool} {hs : Array Int} {r : SetTable × Array Nat} (h : SetTable.laid mask finger moves led plain hs = some r) : r.1.led = led ∧ r.1.plain = plain := by
  unfold SetTable.laid at h
  cases e : SetTable.layClean mask hs with
  | none => rw [e] at h; cases h
  | some ow => rw [e] at h; cases h; exact ⟨rfl, rfl⟩
theorem q_relayAll (t : SetTable) (es : Array (Int × Value)) (n : Nat) : (relayAll t es n).2.1.led = t.led ∧ ((relayAll t es n).2.1.plain = t.plain ∨ (relayAll t es n).2.1.plain = false) := by
  unfold relayAll
  cases e : t.relaid (es.map (·.1)) n with
  | none => exact ⟨rfl, .inr rfl⟩
  | some r =>
    obtain ⟨t', order⟩ := r
    have := q_laid (h := e)
    dsimp only
    split
    · exact ⟨this.1, .inl this.2⟩
    · exact ⟨rfl, .inr rfl⟩
def keyE (e : Int × Value) : Str := match e.2 with
  | .str k _ => k
  | _ => ""
def SetQ (prog : Program) (w : World) (h : Heap) (a : Addr) (b : Bool) (ks : List Str) : Prop :=
  ∃ o es ep t, h.get? a = some o ∧ o.ExactSet ∧ o.data = .set es ep t ∧ ElemsOf (strKind prog w) es.toList ∧ es.size < scanBound ∧ t.fits es.size = true ∧ es.toList.map keyE = ks ∧ ks.Nodup ∧ t.led = b ∧ (ks = [] ∨ t.plain = false)
theorem SetQ.keeps {prog : Program} {w : World} {h h' : Heap} {a : Addr} {b : Bool} {ks : List Str} (x : SetQ prog w h a b ks) (k : ∀ o, h.get? a = some o → h'.get? a = some o) : SetQ prog w h' a b ks := by
  obtain ⟨o, es, ep, t, ho, r⟩ := x
  exact ⟨o, es, ep, t, k o ho, r⟩
theorem q_strIs {prog : Program} {w : World} {k : Str} {v : Value} (h : (strKind prog w).is k v = true) : ∃ t, v = .str k t := Value.isStrOf_shape (x := k) (v := v) h
theorem q_keyE {prog : Program} {w : World} {k : Str} {e : Int × Value} (h : (strKind prog w).is k e.2 = true) : keyE e = k := by
  obtain ⟨t, ht⟩ := q_strIs h
  unfold keyE; rw [ht]
section
variable {prog : Program} {w : World} {A : Around} {E : Value → Shared → Prop} {s : Shared}
theorem q_add {a : Addr} {b : Bool} {ks : List Str} {x : Str} {tk : Tok} {Q : Bool → Shared → Prop} (hS : SetQ prog w s.heap a b ks) (hroom : ks.length + 1 < scanBound)
    (h : ∀ h' ks', Heap.SameBut a s.heap h' → (if x ∈ ks then ks' = ks else ks'.Perm (ks ++ [x])) → SetQ prog w h' a b ks' → Q (!decide (x ∈ ks)) { s with heap := h' }) :
    wpAny (model prog w) A (setAddHashed a (.str x tk) ((strKind prog w).hash x)) Q E s := by
  obtain ⟨o, es, ep, t, ho, hex, hd, hel, hb, hf, hks, hnd, hled, hpl⟩ := id hS
  have hkey : (strKind prog w).is x (.str x tk) = true := strKind_is prog w x tk
  have hsc : (Value.str x tk).scannable = true := rfl
  have hlen : es.size = ks.length := by rw [← hks, List.length_map, Array.length_toList]
  unfold setAddHashed setAddHashedIn
  refine wpAny_holding (wpAny_bind (wpAny_setState_of ho hd hf ?_))
  dsimp only
  rw [byScan_of hsc hb hel]
  simp only [↓reduceIte]
  unfold setAddByScan
  refine wpAny_bind (wpAny_bind (wpAny_rule (wpAny_bind (wpAny_setScan_of hkey ho hd hf hel ?_))))
  cases hr : List.findIdx? (fun e => (strKind prog w).is x e.2) es.toList with
  | some j =>
    dsimp only
    obtain ⟨hj, hpj, _⟩ := List.findIdx?_eq_some_iff_getElem.mp hr
    have hmem : x ∈ ks := by
      rw [← hks, ← q_keyE hpj]
      exact List.mem_map.mpr ⟨_, List.getElem_mem hj, rfl⟩
    refine wpAny_pure (wpAny_pure ?_)
    have := h s.heap ks (Heap.SameBut.refl a s.heap) (by rw [if_pos hmem]) hS
    rw [decide_eq_true hmem] at this
    exact this
  | none =>
    dsimp only
    have hmem : x ∉ ks := by
      rw [← hks]
      intro hx
      obtain ⟨e, he, hk⟩ := List.mem_map.mp hx
      obtain ⟨⟨k', hk', _⟩, _⟩ := hel e he
      have e1 := q_keyE hk'
      rw [hk] at e1
      subst e1
      have := List.findIdx?_eq_none_iff.mp hr e he
      rw [hk'] at this; exact Bool.noConfusion this
    have hperm := layNew_perm t es ((strKind prog w).hash x) (.str x tk)
    have hfits := layNew_fits t es ((strKind prog w).hash x) (.str x tk)
    have hl1 := q_layNew t es ((strKind prog w).hash x) (.str x tk)
    generalize hL : layNew t es ((strKind prog w).hash x) (.str x tk) = L at hperm hfits hl1 ⊢
    obtain ⟨es1, t1, wasDummy, gave⟩ := L
    dsimp only at hperm hfits hl1 ⊢
    rw [Array.toList_push] at hperm
    have hel1 : ElemsOf (strKind prog w) es1.toList := (hel.push hkey hsc).perm hperm
    have hb1 : es1.size < scanBound := by rw [← Array.length_toList, hperm.length_eq, List.length_append, Array.length_toList, hlen]; exact hroom
    have hp1 : (es1.toList.map keyE).Perm (ks ++ [x]) := by
      have := hperm.map keyE
      rw [List.map_append, hks] at this
      exact this
    have hnd' : (ks ++ [x]).Nodup := by
      rw [List.nodup_append]
      exact ⟨hnd, by simp, fun y hy z hz => by rw [List.mem_singleton.mp hz]; exact fun e => hmem (e ▸ hy)⟩
    refine wpAny_bind ?_
    have go : ∀ {t2 : SetTable}, t2.fits es1.size = true → t2.led = b → t2.plain = false → wpAny (model prog w) A (do
        storeSet a es1 t2
        if (!wasDummy && t2.tooFull) = true then do
            (match (relayAll t2 es1 (SetTable.grown es1.size)).2.2 with | true => rule "set.scan.the-table-gave-way" | false => pure ())
            storeSet a (relayAll t2 es1 (SetTable.grown es1.size)).1 (relayAll t2 es1 (SetTable.grown es1.size)).2.1
            pure (some true)
          else pure (some true)) (fun r s' => r = some true ∧ Q true s') E s := by
      intro t2 f2 l2 p2
      refine wpAny_bind (wpAny_storeSet_of ho hd ?_ (fits_of_scanBound hb1))
      have hg : (s.heap.update a (Obj.putSet es1 t2)).get? a = some { o with data := .set es1 (ep + 1) t2 } := by
        have := Heap.get?_update_self (Obj.putSet es1 t2) ho (by rw [putSet_of es1 t2 hd]; rfl)
        rw [putSet_of es1 t2 hd] at this; exact this
      have hsb1 := Heap.SameBut.update s.heap a (Obj.putSet es1 t2)
      split
      · have hp := relayAll_perm t2 es1 (SetTable.grown es1.size)
        have hfr := relayAll_fits t2 es1 (SetTable.grown es1.size)
        have hlr := q_relayAll t2 es1 (SetTable.grown es1.size)
        generalize hRl : relayAll t2 es1 (SetTable.grown es1.size) = Rl at hp hfr hlr ⊢
        obtain ⟨es2, t3, gave2⟩ := Rl
        dsimp only at hp hfr hlr ⊢
        have hsz : es2.size = es1.size := by rw [← Array.length_toList, hp.length_eq, Array.length_toList]
        refine wpAny_bind ?_
        have nxt : wpAny (model prog w) A (do
            storeSet a es2 t3
            pure (some true)) (fun r s' => r = some true ∧ Q true s') E { s with heap := s.heap.update a (Obj.putSet es1 t2) } := by
          refine wpAny_bind (wpAny_storeSet_of hg rfl ?_ (fits_of_scanBound (by rw [hsz]; exact hb1)))
          have hg2 := Heap.get?_update_self (Obj.putSet es2 t3) hg rfl
          have := h _ (es2.toList.map keyE) (hsb1.trans (Heap.SameBut.update _ a (Obj.putSet es2 t3))) (by rw [if_neg hmem]; exact (hp.map keyE).trans hp1)
            ⟨_, es2, ep + 1 + 1, t3, hg2, hex, rfl, hel1.perm hp, by rw [hsz]; exact hb1, hfr, rfl, ((hp.map keyE).trans hp1).nodup_iff.mpr hnd', by rw [hlr.1]; exact l2, .inr (by rcases hlr.2 with z | z; rw [z]; exact p2; exact z)⟩
          rw [decide_eq_false hmem] at this
          exact wpAny_pure ⟨rfl, this⟩
        cases gave2 with
        | true => exact wpAny_rule nxt
        | false => exact wpAny_pure nxt
      · have := h _ (es1.toList.map keyE) hsb1 (by rw [if_neg hmem]; exact hp1) ⟨_, es1, ep + 1, t2, hg, hex, rfl, hel1, hb1, f2, rfl, hp1.nodup_iff.mpr hnd', l2, .inr p2⟩
        rw [decide_eq_false hmem] at this
        exact wpAny_pure ⟨rfl, this⟩
    have fin : ∀ {t2 : SetTable}, t2.fits es1.size = true → t2.led = b → t2.plain = false → wpAny (model prog w) A (do
        storeSet a es1 t2
        if (!wasDummy && t2.tooFull) = true then do
            (match (relayAll t2 es1 (SetTable.grown es1.size)).2.2 with | true => rule "set.scan.the-table-gave-way" | false => pure ())
            storeSet a (relayAll t2 es1 (SetTable.grown es1.size)).1 (relayAll t2 es1 (SetTable.grown es1.size)).2.1
            pure (some true)
          else pure (some true)) (fun a_1 s₁ => wpAny (model prog w) A (match a_1 with | some added => pure added | none => setAddHashedIn a (Value.str x tk) ((strKind prog w).hash x) 99999) Q E s₁) E s := fun f2 l2 p2 =>
      wpAny_mono (go f2 l2 p2) (fun r s' hr => by obtain ⟨rfl, hq⟩ := hr; exact wpAny_pure hq) fun _ _ z => z
    have cont : wpAny (model prog w) A (do
        let byValue ← if t1.plain = true then hashByValue 8 (Value.str x tk) else pure true
        let t2 : SetTable := if byValue = true then t1 else { t1 with plain := false }
        storeSet a es1 t2
        if (!wasDummy && t2.tooFull) = true then do
            (match (relayAll t2 es1 (SetTable.grown es1.size)).2.2 with | true => rule "set.scan.the-table-gave-way" | false => pure ())
            storeSet a (relayAll t2 es1 (SetTable.grown es1.size)).1 (relayAll t2 es1 (SetTable.grown es1.size)).2.1
            pure (some true)
          else pure (some true)) (fun a_1 s₁ => wpAny (model prog w) A (match a_1 with | some added => pure added | none => setAddHashedIn a (Value.str x tk) ((strKind prog w).hash x) 99999) Q E s₁) E s := by
      by_cases hp : t1.plain = true
      · rw [if_pos hp, hashByValue_scannable 8 hsc]
        refine wpAny_bind (wpAny_pure ?_)
        exact fin (t2 := { t1 with plain := false }) (SetTable.fits_plain_off hfits) (by rw [← hled, ← hl1]) rfl
      · rw [if_neg hp]
        refine wpAny_bind (wpAny_pure ?_)
        exact fin (t2 := t1) hfits (by rw [hl1, hled]) (by simpa using hp)
    cases gave with
    | true => exact wpAny_rule cont
    | false => exact wpAny_pure cont
end
end PySem
end

section
set_option Elab.async false
set_option linter.all false
set_option maxRecDepth 100000
set_option maxHeartbeats 4000000
namespace PySem
open Sem (wp)

abbrev qText (w : World) : Bool := w.params.followText "set-order"
section
variable {prog : Program} {w : World} {A : Around} {E : Value → Shared → Prop} {s : Shared}
abbrev qFresh (w : World) : Obj := { cls := .type "set", dict := none, data := .set #[] 0 (.fresh 0 0 (!qText w)) }
theorem q_setNew (a : Value) {Q₁ : Value → Shared → Prop} (h : Q₁ (.ref s.heap.objs.size) { s with heap := s.heap.push (qFresh w) }) :
    codeAny (model prog w) A (.call (.builtin "set.__new__") ⟨[.type "set", a], []⟩) (wants Q₁ E) s := by
  refine codeAny_of_tree ?_
  show wpAny _ A.in1 (do checkBuiltinCall "set.__new__" ⟨[.type "set", a], []⟩; again (.builtin "set.__new__" ⟨[.type "set", a], []⟩)) _ _ s
  refine wpAny_bind (wpAny_of_eq (F.newCall_set_1 a) (wpAny_pure ⟨plainId_quiet F.plain_set_new _, codeAny_builtin F.entry_set_new ?_⟩))
  rw [Around.under_plainId F.plain_set_new _]
  unfold Builtin.«set.__new__» Builtin.Frozenset.newClass
  have hsub := sub_set_self
  obtain ⟨hp, g, d, tk, os⟩ := s
  dsimp only
  wp_walk
  refine wpAny_askSetting (wpAny_pure ?_)
  dsimp only
  simp only [newObj]
  refine wpAny_bind (wpAny_alloc (wpAny_pure ?_))
  exact wpAny_pure h
theorem q_fresh {h : Heap} {a : Addr} (e : h.get? a = some (qFresh w)) : SetQ prog w h a (!qText w) [] :=
  ⟨_, #[], 0, _, e, ⟨rfl, rfl, rfl⟩, rfl, fun e he => by simp at he, by decide, by rfl, rfl, List.nodup_nil, rfl, .inl rfl⟩

def uniqS (xs : List Str) : List Str := xs.foldl (fun acc x => if x ∈ acc then acc else acc ++ [x]) []
theorem uniqS_snoc (xs : List Str) (x : Str) : uniqS (xs ++ [x]) = if x ∈ uniqS xs then uniqS xs else uniqS xs ++ [x] := by
  unfold uniqS
  rw [List.foldl_append]; rfl
theorem uniqS_len (xs : List Str) : (uniqS xs).length ≤ xs.length := by
  have g : ∀ (xs acc : List Str), (xs.foldl (fun acc x => if x ∈ acc then acc else acc ++ [x]) acc).length ≤ acc.length + xs.length := by
    intro xs
    induction xs with
    | nil => intro acc; exact Nat.le_refl _
    | cons x xs ih =>
      intro acc
      rw [List.foldl_cons]
      refine Nat.le_trans (ih _) ?_
      split
      · simp
      · simp; omega
  have := g xs []
  simpa [uniqS] using this
end
section
variable {prog : Program} {w : World} {A : Around} {R : Result → Shared → Prop} {I : Addr} {fp wr : List Addr} {G : Array GenState → Array GenState → Prop} {n : Nat} {P : Nat → Value → Prop} {St : Nat → Shared → Prop}
theorem q_update (W : WalksS prog w A.in1 I fp wr G n P St) (S : Addr) (hSf : S ∉ fp) (xs : List Str) (hn : xs.length = n) (hval : ∀ i v, P i v → ∃ x t, xs[i]? = some x ∧ v = .str x t) (hb : n + 1 < scanBound) (b : Bool) :
    ∀ (k i : Nat) (s : Shared) (ks : List Str), n - i = k → i ≤ n → St i s → ks.Perm (uniqS (xs.take i)) → SetQ prog w s.heap S b ks →
      (∀ s' ks', Moved (S :: wr) G s s' → ks'.Perm (uniqS xs) → SetQ prog w s'.heap S b ks' → R (.ok (.ret .none)) s') →
      codeAny (model prog w) A (.builtin "set.update.loop" ⟨[.ref S, .ref I], []⟩) R s := by
  have hSw : S ∉ wr := fun h => hSf (W.sub _ h)
  have hsub : ∀ b ∈ wr, b ∈ S :: wr := fun b hb => List.mem_cons_of_mem _ hb
  intro k
  induction k with
  | zero =>
    intro i s ks hk hi hst hp hS hR
    have hin : i = n := by omega
    subst hin
    refine codeAny_builtin PyProof.Rows.F.entry_set_update_loop ?_
    rw [Around.under_plainId PyProof.Rows.F.plain_set_update_loop _]
    show wpAny _ A.in1 (pyNext (.ref I) >>= _) _ _ s
    refine wpAny_bind (W.done s _ _ hst fun s' hm => ?_)
    show wpAny _ A.in1 (ret Value.none) _ _ s'
    rw [← hn, List.take_length] at hp
    exact wpAny_pure (hR s' ks (hm.mono hsub) hp (hS.keeps fun o e => hm.heap S _ hSw e))
  | succ k ih =>
    intro i s ks hk hi hst hp hS hR
    have hlt : i < n := by omega
    refine codeAny_builtin PyProof.Rows.F.entry_set_update_loop ?_
    rw [Around.under_plainId PyProof.Rows.F.plain_set_update_loop _]
    show wpAny _ A.in1 (pyNext (.ref I) >>= _) _ _ s
    refine wpAny_bind (W.item i s _ _ hlt hst fun v s' hP hst' hm => ?_)
    obtain ⟨x, t, hx, rfl⟩ := hval i v hP
    have hS' : SetQ prog w s'.heap S b ks := hS.keeps fun o e => hm.heap S _ hSw e
    show wpAny _ A.in1 (holding [Value.str x t] (setAdd S (.str x t)) >>= _) _ _ s'
    refine wpAny_bind (wpAny_holding ?_)
    unfold setAdd
    refine wpAny_holding ?_
    refine wpAny_bind ((strKind prog w).pyHash (k := x) (strKind_is _ _ _ _) ?_)
    have hl := uniqS_len (xs.take i)
    rw [List.length_take] at hl
    have hroom : ks.length + 1 < scanBound := by rw [hp.length_eq]; omega
    refine q_add (s := { s' with toks := s'.toks + 1 }) hS' hroom fun h' ks' hsb hpk hS2 => ?_
    have htake : xs.take (i + 1) = xs.take i ++ [x] := by
      rw [List.take_succ, hx]; rfl
    have hp' : ks'.Perm (uniqS (xs.take (i + 1))) := by
      rw [htake, uniqS_snoc]
      by_cases hm' : x ∈ ks
      · rw [if_pos hm'] at hpk
        rw [if_pos (hp.mem_iff.mp hm'), hpk]; exact hp
      · rw [if_neg hm'] at hpk
        rw [if_neg (fun z => hm' (hp.mem_iff.mpr z))]
        exact hpk.trans (hp.append_right [x])
    refine wpAny_pure ⟨plainId_quiet PyProof.Rows.F.plain_set_update_loop _, ih (i + 1) _ ks' (by omega) hlt (W.frame _ s' _ _ hst' (Nat.le_succ _) fun b hb o e => ?_) hp' hS2 fun s'' ks'' hm'' hp'' hS'' => ?_⟩
    · rw [hsb.2 b (fun h : b = S => hSf (by rw [← h]; exact hb))]; exact e
    · refine hR s'' ks'' (Moved.trans W.gtrans ((hm.mono hsub).then_heap (Nat.le_succ _) fun b o hb e => ?_) hm'') hp'' hS''
      rw [hsb.2 b (fun h : b = S => hb (by rw [h]; exact List.mem_cons_self))]; exact e
end
section
variable {prog : Program} {w : World} {A : Around} {E : Value → Shared → Prop} {s : Shared}
theorem q_set {l : Addr} {items : Array Value} {xs : List Str} {Q : Value → Shared → Prop} (hh : A.handled = none) (hl : s.heap.IsList l items) (hn : xs.length = items.size) (hi : ∀ (i : Nat) (v : Value), items[i]? = some v → ∃ x t, xs[i]? = some x ∧ v = .str x t) (hb : items.size + 1 < scanBound)
    (h : ∀ (h' : Heap) (tk : Nat) (ks : List Str), ks.Perm (uniqS xs) → SetQ prog w h' s.heap.objs.size (!qText w) ks → (∀ b o, b < s.heap.objs.size → s.heap.get? b = some o → h'.get? b = some o) → Q (.ref s.heap.objs.size) { s with heap := h', toks := tk }) :
    wpAny (model prog w) A (call (.type "set") [.ref l]) Q E s := by
  obtain ⟨c, tl, hmro⟩ := F.called_set.mro
  have hmade := F.called_set.made
  have hsub := F.called_set.sub
  refine wpAny_call (codeAny_of_tree ?_)
  show wpAny _ _ (callAny (.type "set") _) _ _ _
  refine wpAny_pure ⟨Code.quiet_builtin _ (by decide +kernel), codeAny_builtin F.entry_type_call ?_⟩
  rw [Around.under_plain (weight_type_call_type "set" [.ref l] []) rfl]
  have h1 := F.called_set.notType
  have h2 := F.called_set.canCreate
  have hct := F.typeCall_set_1 (.ref l)
  repeat (any_goals (first | assumption | wp_step))
  refine codeAny_mono (q_setNew (.ref l) (E := E) (Q₁ := fun obj s₁ => obj = .ref s.heap.objs.size ∧ s₁ = { s with heap := s.heap.push (qFresh w) }) ⟨rfl, rfl⟩) fun r s₁ hr => ?_
  cases r with
  | error e => exact hr
  | ok fl =>
    cases fl with
    | ret obj =>
      obtain ⟨rfl, rfl⟩ := hr
      have hS : (s.heap.push (qFresh w)).get? s.heap.objs.size = some (qFresh w) := Heap.get?_push_size _ rfl
      have hT : Shared.TypeIs { s with heap := s.heap.push (qFresh w) } (.ref s.heap.objs.size) "set" := ⟨_, hS, rfl⟩
      have hli := F.called_set.init.lookup
      have hbi := F.called_set.init.bind (.ref s.heap.objs.size)
      repeat (any_goals (first | assumption | wp_step))
      refine codeAny_mono (codeAny_call_builtin (R := wants (fun r s₂ => r = .none ∧ ∃ h' tk ks, s₂ = { s with heap := h', toks := tk } ∧ ks.Perm (uniqS xs) ∧ SetQ prog w h' s.heap.objs.size (!qText w) ks ∧
          (∀ b o, b < s.heap.objs.size → s.heap.get? b = some o → h'.get? b = some o)) E) F.called_set.init.plain F.entry_set_init (check_set_init_1 hT ?_)) fun r₂ s₂ hr₂ => ?_
      · obtain ⟨ol, hol, hcl, nl, hdl⟩ := hl
        obtain ⟨ocls, odict, odata, oslots⟩ := ol
        simp only at hcl hdl
        subst hcl; subst hdl
        have hol' : (s.heap.push (qFresh w)).get? l = some { cls := .type "list", dict := odict, data := .seq items nl, slots := oslots } := Heap.get?_push_of_some _ hol
        have hsls := F.sub_list_set
        have hslf := F.sub_list_frozenset
        have hne : (Value.type "list" == Value.type "dict") = false := by decide
        have hl1 : (s.heap.push (qFresh w)).IsList l items := ⟨_, hol', rfl, nl, rfl⟩
        unfold Builtin.«set.__init__» noKeywords Builtin.Frozenset.updateFrom
        generalize hPI : pyIter = PI
        wp_walk
        subst hPI
        refine wpAny_pyIter_list hl1 ?_
        refine wpAny_bind (wpAny_runValue ?_)
        have hlS : l < s.heap.objs.size := Heap.lt_size hol
        have hh3 : A.in1.in1.in1.handled = none := by simp [hh]
        have hneI : l ≠ (s.heap.push (qFresh w)).objs.size := by
          rw [Heap.size_push]; exact Nat.ne_of_lt (Nat.lt_succ_of_lt hlS)
        have hSf : s.heap.objs.size ∉ [(s.heap.push (qFresh w)).objs.size, l] := by
          rw [Heap.size_push]; simp only [List.mem_cons, List.mem_singleton, List.not_mem_nil, or_false, not_or]
          exact ⟨Nat.ne_of_lt (Nat.lt_succ_self _), Nat.ne_of_gt hlS⟩
        refine q_update ((Walks.list hh3 _ l hneI items).toS) s.heap.objs.size hSf xs hn hi hb (!qText w) (items.size - 0) 0 _ [] (by omega) (Nat.zero_le _)
          ⟨⟨_, Heap.get?_push_size _ rfl, rfl, rfl⟩, (hl1.push _)⟩ (by simp [uniqS]) (q_fresh (Heap.get?_push_of_some _ hS)) ?hR
        intro s' ks' hm hp' hS'
        obtain ⟨h', g', d', tk', os'⟩ := s'
        have eg : g' = s.gens := hm.gens
        have ed : d' = s.drawn := hm.drawn
        have eo : os' = s.os := hm.os
        subst eg; subst ed; subst eo
        show wpAny _ _ _ _ _ _
        refine wpAny_pure ?_
        show wpAny _ _ (ret Value.none) _ _ _
        refine wpAny_pure ⟨rfl, h', tk', ks', rfl, hp', hS', fun b o hb e => ?_⟩
        have hb1 : b ≠ s.heap.objs.size := Nat.ne_of_lt hb
        have hb2 : b ≠ (s.heap.push (qFresh w)).objs.size := by
          rw [Heap.size_push]; exact Nat.ne_of_lt (Nat.lt_succ_of_lt hb)
        exact hm.heap b o (by simp only [List.mem_cons, List.mem_singleton, List.not_mem_nil, or_false, not_or]; exact ⟨hb1, hb2⟩) (Heap.get?_push_of_some _ (Heap.get?_push_of_some _ e))
      · cases r₂ with
        | error e => exact hr₂
        | ok fl₂ =>
          cases fl₂ with
          | ret r =>
            obtain ⟨rfl, h', tk, ks, rfl, hp, hS', hk'⟩ := hr₂
            repeat (any_goals (first | assumption | wp_step))
            exact h _ _ _ hp hS' hk'
          | _ => exact hr₂.elim
    | _ => exact hr.elim
end
end PySem
end

section
set_option Elab.async false
set_option linter.all false
set_option maxRecDepth 100000
set_option maxHeartbeats 4000000
namespace PySem
open Sem (wp)
namespace F
theorem q_slot_next : Slot "set_iterator" "__next__" "set_iterator.__next__" :=
  .of (owner := "set_iterator") (n := "__next__") (by rw [typeLookup_type, builtinLookup_eq_fast]; kernel_rfl) (by decide +kernel) (by decide +kernel) (by decide +kernel) (by first | exact .inl (by decide +kernel) | exact .inr (by decide +kernel)) (by rw [isSubtype_type]; kernel_rfl)
theorem q_entry_next : entryFor table "set_iterator.__next__" = some Builtin.«set_iterator.__next__» := entryFor_of_tree (by kernel_rfl)
theorem q_owner : Manifest.owners.lookup (String.ofList "rotareti_tes".toList.reverse) = some Manifest.sig_set_iterator := by kernel_rfl
theorem q_args_next (a : Value) : argsOk "set_iterator.__next__" ⟨[a], []⟩ := by
  unfold argsOk; rw [signature?_of (id := "set_iterator.__next__") (n := ['_', '_', 't', 'x', 'e', 'n', '_', '_']) (o := "rotareti_tes".toList) (by kernel_rfl) q_owner]; kernel_rfl
theorem q_entry_iter : entryFor table "set.__iter__" = some Builtin.«frozenset.__iter__» :=
  entryFor_alias (id' := "frozenset.__iter__") (by kernel_rfl) (by first | rfl | decide +kernel | (unfold String.splitOn; simp +decide [String.splitOnAux])) (by decide +kernel) (by kernel_rfl)
end F

abbrev qIt (first : Value) (i : Nat) (a : Addr) (n ep : Nat) : Obj := { cls := .type "set_iterator", dict := none, data := .fields #[first, rawInt i, .ref a, rawInt n, rawInt ep], slots := #[] }
section
variable {prog : Program} {w : World} {A : Around} {E : Value → Shared → Prop} {s : Shared}

theorem q_itemD {I T a : Addr} {i n ep j : Nat} {o oT : Obj} {es : Array (Int × Value)} {t : SetTable} {places : Array Value} {c : Nat} {v : Value} {hv : Int} {Q : Option Value → Shared → Prop}
    (hI : s.heap.get? I = some (qIt (.ref T) i a n ep)) (hT : s.heap.get? T = some oT) (hTd : oT.data = .seq places c) (ho : s.heap.get? a = some o) (hd : o.data = .set es ep t) (hf : t.fits es.size = true) (hn : es.size = n)
    (hp : places[i]? = some (rawInt j)) (he : es[j]? = some (hv, v))
    (hQ : ∀ h', h'.get? I = some (qIt (.ref T) (i + 1) a n ep) → Heap.SameBut I s.heap h' → Q (some v) { s with heap := h' }) : wpAny (model prog w) A (pyNext (.ref I)) Q E s := by
  have hTy : s.TypeIs (.ref I) "set_iterator" := ⟨_, hI, rfl⟩
  unfold pyNext
  refine wpAny_bind (wpAny_attempt (wpAny_callSpecial?_slot (name := Str.ofString "__next__") hTy F.q_slot_next (wpAny_call_entry F.q_slot_next hTy F.q_entry_next ?_ (F.q_args_next _))))
  show wpAny _ _ (fieldsOf (.ref I) >>= _) _ _ s
  refine wpAny_bind (wpAny_fieldsOf hI rfl ?_)
  show wpAny _ _ (setEntries a >>= _) _ _ s
  refine wpAny_bind (wpAny_setEntries_of ho hd hf ?_)
  rw [if_neg (by rw [hn]; simp [rawInt])]
  show wpAny _ _ (seqItems? (.ref T) >>= _) _ _ s
  refine wpAny_bind (wpAny_seqItems hT hTd ?_)
  dsimp only
  simp only [Int.toNat_natCast, hp]
  show wpAny _ _ (setNextDrawn a _ _ >>= _) _ _ s
  unfold setNextDrawn
  refine wpAny_bind (wpAny_bind (wpAny_setState_of ho hd hf ?_))
  dsimp only
  rw [if_neg (by simp)]
  simp only [Int.toNat_natCast, he]
  refine wpAny_pure ?_
  refine wpAny_bind (wpAny_setField_rec hI (by simp) fun h₁ hI₁ hs₁ => ?_)
  exact wpAny_pure ⟨v, rfl, wpAny_pure (hQ h₁ hI₁ hs₁)⟩
theorem q_endD {I T a : Addr} {i n ep : Nat} {o oT : Obj} {es : Array (Int × Value)} {t : SetTable} {places : Array Value} {c : Nat} {Q : Option Value → Shared → Prop} (hh : A.handled = none)
    (hI : s.heap.get? I = some (qIt (.ref T) i a n ep)) (hT : s.heap.get? T = some oT) (hTd : oT.data = .seq places c) (ho : s.heap.get? a = some o) (hd : o.data = .set es ep t) (hf : t.fits es.size = true) (hn : es.size = n)
    (hp : places[i]? = none) (hQ : ∀ h', Heap.ExtBut I s.heap h' → Q none { s with heap := h' }) : wpAny (model prog w) A (pyNext (.ref I)) Q E s := by
  have hTy : s.TypeIs (.ref I) "set_iterator" := ⟨_, hI, rfl⟩
  unfold pyNext
  refine wpAny_bind (wpAny_attempt (wpAny_callSpecial?_slot (name := Str.ofString "__next__") hTy F.q_slot_next (wpAny_call_entry F.q_slot_next hTy F.q_entry_next ?_ (F.q_args_next _))))
  show wpAny _ _ (fieldsOf (.ref I) >>= _) _ _ s
  refine wpAny_bind (wpAny_fieldsOf hI rfl ?_)
  show wpAny _ _ (setEntries a >>= _) _ _ s
  refine wpAny_bind (wpAny_setEntries_of ho hd hf ?_)
  rw [if_neg (by rw [hn]; simp [rawInt])]
  show wpAny _ _ (seqItems? (.ref T) >>= _) _ _ s
  refine wpAny_bind (wpAny_seqItems hT hTd ?_)
  dsimp only
  simp only [Int.toNat_natCast, hp]
  refine wpAny_bind (wpAny_setField_rec hI (by simp) fun h₁ hI₁ hs₁ => ?_)
  refine wpAny_bind (wpAny_setField_rec hI₁ (by simp) fun h₂ hI₂ hs₂ => ?_)
  show wpAny _ _ (newExc (.type "StopIteration") [] >>= _) _ _ _
  refine wpAny_bind ?_
  simp only [newExc, newTuple]
  refine wpAny_bind (wpAny_newObj_type ?_ (by size_fits))
  refine wpAny_bind (m := firstArgMember _ _) (wpAny_of_eq (a := Value.none) (by first | rfl | (simp only [firstArgMember]; rfl)) ?_)
  refine wpAny_newObj_type ?_ (by size_fits)
  simp only [raiseNew]
  refine wpAny_bind (wpAny_handled ?_)
  first | rw [show A.in1.handled = none from hh] | rw [hh]
  refine wpAny_bind (wpAny_pure (wpAny_throw ?_))
  refine wpAny_bind (wpAny_isInstance (T := "StopIteration") (b := true) ⟨_, Heap.get?_push_size _ rfl, rfl⟩ isSubtype_stop ?_)
  exact wpAny_pure (hQ _ (((hs₁.trans hs₂).extBut.push _).push _))

theorem q_itemN {I a : Addr} {sl sl' i n ep : Nat} {o : Obj} {es : Array (Int × Value)} {t : SetTable} {v : Value} {Q : Option Value → Shared → Prop}
    (hI : s.heap.get? I = some (qIt (rawInt sl) i a n ep)) (ho : s.heap.get? a = some o) (hd : o.data = .set es ep t) (hf : t.fits es.size = true) (hn : es.size = n)
    (hx : ∀ {A : Around} {E : Value → Shared → Prop} {R : Option (Value × Nat) → Shared → Prop}, R (some (v, sl')) s → wpAny (model prog w) A (setNext a sl i ep) R E s)
    (hQ : ∀ h', h'.get? I = some (qIt (rawInt sl') (i + 1) a n ep) → Heap.SameBut I s.heap h' → Q (some v) { s with heap := h' }) : wpAny (model prog w) A (pyNext (.ref I)) Q E s := by
  have hTy : s.TypeIs (.ref I) "set_iterator" := ⟨_, hI, rfl⟩
  unfold pyNext
  refine wpAny_bind (wpAny_attempt (wpAny_callSpecial?_slot (name := Str.ofString "__next__") hTy F.q_slot_next (wpAny_call_entry F.q_slot_next hTy F.q_entry_next ?_ (F.q_args_next _))))
  show wpAny _ _ (fieldsOf (.ref I) >>= _) _ _ s
  refine wpAny_bind (wpAny_fieldsOf hI rfl ?_)
  show wpAny _ _ (setEntries a >>= _) _ _ s
  refine wpAny_bind (wpAny_setEntries_of ho hd hf ?_)
  rw [if_neg (by rw [hn]; simp [rawInt])]
  show wpAny _ _ (setNext a ((sl : Int).toNat) ((i : Int).toNat) ((ep : Int).toNat) >>= _) _ _ s
  simp only [Int.toNat_natCast]
  refine wpAny_bind (hx ?_)
  dsimp only
  refine wpAny_bind (wpAny_setField_rec hI (by simp) fun h₁ hI₁ hs₁ => ?_)
  refine wpAny_bind (wpAny_setField_rec hI₁ (by simp) fun h₂ hI₂ hs₂ => ?_)
  exact wpAny_pure ⟨v, rfl, wpAny_pure (hQ h₂ hI₂ (hs₁.trans hs₂))⟩
theorem q_endN {I a : Addr} {sl i n ep : Nat} {o : Obj} {es : Array (Int × Value)} {t : SetTable} {Q : Option Value → Shared → Prop} (hh : A.handled = none)
    (hI : s.heap.get? I = some (qIt (rawInt sl) i a n ep)) (ho : s.heap.get? a = some o) (hd : o.data = .set es ep t) (hf : t.fits es.size = true) (hn : es.size = n)
    (hx : ∀ {A : Around} {E : Value → Shared → Prop} {R : Option (Value × Nat) → Shared → Prop}, R none s → wpAny (model prog w) A (setNext a sl i ep) R E s)
    (hQ : ∀ h', Heap.ExtBut I s.heap h' → Q none { s with heap := h' }) : wpAny (model prog w) A (pyNext (.ref I)) Q E s := by
  have hTy : s.TypeIs (.ref I) "set_iterator" := ⟨_, hI, rfl⟩
  unfold pyNext
  refine wpAny_bind (wpAny_attempt (wpAny_callSpecial?_slot (name := Str.ofString "__next__") hTy F.q_slot_next (wpAny_call_entry F.q_slot_next hTy F.q_entry_next ?_ (F.q_args_next _))))
  show wpAny _ _ (fieldsOf (.ref I) >>= _) _ _ s
  refine wpAny_bind (wpAny_fieldsOf hI rfl ?_)
  show wpAny _ _ (setEntries a >>= _) _ _ s
  refine wpAny_bind (wpAny_setEntries_of ho hd hf ?_)
  rw [if_neg (by rw [hn]; simp [rawInt])]
  show wpAny _ _ (setNext a ((sl : Int).toNat) ((i : Int).toNat) ((ep : Int).toNat) >>= _) _ _ s
  simp only [Int.toNat_natCast]
  refine wpAny_bind (hx ?_)
  dsimp only
  refine wpAny_bind (wpAny_setField_rec hI (by simp) fun h₁ hI₁ hs₁ => ?_)
  show wpAny _ _ (newExc (.type "StopIteration") [] >>= _) _ _ _
  refine wpAny_bind ?_
  simp only [newExc, newTuple]
  refine wpAny_bind (wpAny_newObj_type ?_ (by size_fits))
  refine wpAny_bind (m := firstArgMember _ _) (wpAny_of_eq (a := Value.none) (by first | rfl | (simp only [firstArgMember]; rfl)) ?_)
  refine wpAny_newObj_type ?_ (by size_fits)
  simp only [raiseNew]
  refine wpAny_bind (wpAny_handled ?_)
  first | rw [show A.in1.handled = none from hh] | rw [hh]
  refine wpAny_bind (wpAny_pure (wpAny_throw ?_))
  refine wpAny_bind (wpAny_isInstance (T := "StopIteration") (b := true) ⟨_, Heap.get?_push_size _ rfl, rfl⟩ isSubtype_stop ?_)
  exact wpAny_pure (hQ _ ((hs₁.extBut.push _).push _))

theorem q_nextText {a : Addr} {sl i ep : Nat} {o : Obj} {es : Array (Int × Value)} {t : SetTable} {R : Option (Value × Nat) → Shared → Prop} (hw : qText w = true) (ho : s.heap.get? a = some o) (hd : o.data = .set es ep t) (hf : t.fits es.size = true)
    (h : R (((pickOrder (w.params.setOrder a ep) es)[i]?).map fun e => (e.2, sl)) s) : wpAny (model prog w) A (setNext a sl i ep) R E s := by
  unfold setNext
  refine wpAny_bind (wpAny_setState_of ho hd hf ?_)
  dsimp only
  unfold setsByText
  refine wpAny_bind (wpAny_bind (wpAny_askSetting (wpAny_pure ?_)))
  refine wpAny_ite_split (fun _ => ?_) (fun z => absurd hw z)
  rw [if_neg (by simp)]
  refine wpAny_bind ?_
  unfold setWalk setsByText
  refine wpAny_bind (wpAny_setState_of ho hd hf ?_)
  dsimp only
  refine wpAny_bind (wpAny_bind (wpAny_askSetting (wpAny_pure ?_)))
  refine wpAny_ite_split (fun _ => ?_) (fun z => absurd hw z)
  refine wpAny_bind (wpAny_askSetting ?_)
  exact wpAny_pure (wpAny_pure h)
theorem q_nextPlace {a : Addr} {sl i ep : Nat} {o : Obj} {es : Array (Int × Value)} {t : SetTable} {R : Option (Value × Nat) → Shared → Prop} (hw : qText w = false) (hl : t.led = true) (hz : es.size ≤ 1) (ho : s.heap.get? a = some o) (hd : o.data = .set es ep t) (hf : t.fits es.size = true)
    (h : R (match es[SetTable.below t.place sl]?, t.place[SetTable.below t.place sl]? with | some (_, x), some j => some (x, j + 1) | _, _ => none) s) : wpAny (model prog w) A (setNext a sl i ep) R E s := by
  unfold setNext
  refine wpAny_bind (wpAny_setState_of ho hd hf ?_)
  dsimp only
  unfold setsByText
  refine wpAny_bind (wpAny_bind (wpAny_askSetting (wpAny_pure ?_)))
  have hw' : ¬ (qText w = true) := by rw [hw]; decide
  refine wpAny_ite_split (fun z => absurd z hw') (fun _ => ?_)
  refine wpAny_ite_split (fun z => ?_) (fun _ => ?_)
  · change (!t.plain && decide (es.size > 1)) = true at z
    rw [Bool.and_eq_true, decide_eq_true_eq] at z
    exact absurd z.2 (by omega)
  · refine wpAny_bind ?_
    show wpAny _ _ (if (!t.led && !es.isEmpty) = true then unsupported "set:maker-not-led" else pure ()) _ _ _
    rw [if_neg (by rw [hl]; simp)]
    exact wpAny_pure (wpAny_pure h)
end
end PySem
end

section
set_option Elab.async false
set_option linter.all false
set_option maxRecDepth 100000
set_option maxHeartbeats 4000000
namespace PySem
open Sem (wp)
theorem q_erase {α : Type} : ∀ (l : List α) (i : Nat) (x : α), l[i]? = some x → (x :: l.eraseIdx i).Perm l
  | [], _, _, h => by simp at h
  | a :: l, 0, x, h => by simp at h; subst h; exact List.Perm.refl _
  | a :: l, i + 1, x, h => by
    have ih := q_erase l i x (by simpa using h)
    exact (List.Perm.swap a x _).trans (ih.cons a)
theorem q_pick {α : Type} (next : Nat → Nat) : ∀ (fuel k : Nat) (left : List α) (out : Array α), left.length = fuel → (pickOrder.go next fuel k left out).toList.Perm (out.toList ++ left)
  | 0, k, left, out, h => by
    unfold pickOrder.go
    rw [List.length_eq_zero_iff.mp h, List.append_nil]
  | fuel + 1, k, left, out, h => by
    unfold pickOrder.go
    have hlt : next k % left.length < left.length := Nat.mod_lt _ (by omega)
    rw [List.getElem?_eq_getElem hlt]
    dsimp only
    refine (q_pick next fuel (k + 1) _ _ (by rw [List.length_eraseIdx_of_lt hlt]; omega)).trans ?_
    rw [Array.toList_push, List.append_assoc]
    exact (q_erase left _ _ (List.getElem?_eq_getElem hlt)).append_left _
theorem q_pickOrder {α : Type} (next : Nat → Nat) (xs : Array α) : (pickOrder next xs).toList.Perm xs.toList := by
  have := q_pick next xs.size 0 xs.toList #[] (by simp)
  simpa [pickOrder] using this
section
variable {prog : Program} {w : World} {A : Around} {E : Value → Shared → Prop}
theorem q_choose {s : Shared} {src : Source} {n : Nat} {Q : Nat → Shared → Prop} (hn : n ≠ 0) (h : ∀ i d, i < n → Q i { s with drawn := d }) : wpAny (model prog w) A (choose src n) Q E s := fun Γ p hΓ => by
  show wp _ Γ (.choose src n .pure) _ _ _ _
  rw [Sem.wp_choose]
  exact ⟨hn, h _ _ (Nat.mod_lt _ (Nat.pos_of_ne_zero hn))⟩
theorem q_draw {α : Type} : ∀ (n : Nat) (xs : List α) (s : Shared) (Q : List α → Shared → Prop), xs.length = n → (∀ ys d, ys.Perm xs → Q ys { s with drawn := d }) → wpAny (model prog w) A (drawOrder n xs) Q E s
  | 0, xs, s, Q, hl, h => by
    have : xs = [] := List.length_eq_zero_iff.mp hl
    subst this
    unfold drawOrder
    exact wpAny_pure (h [] s.drawn (List.Perm.refl _))
  | n + 1, [], s, Q, hl, h => by simp at hl
  | n + 1, x :: xs, s, Q, hl, h => by
    unfold drawOrder
    refine wpAny_bind (q_choose (by simp) fun i d hi => ?_)
    obtain ⟨y, hy⟩ : ∃ y, (x :: xs)[i]? = some y := ⟨(x :: xs)[i], List.getElem?_eq_getElem hi⟩
    rw [hy]
    dsimp only
    refine wpAny_bind (q_draw n _ _ _ (by rw [List.length_eraseIdx_of_lt hi]; simp at hl ⊢; omega) fun ys d' hp => wpAny_pure ?_)
    exact h _ d' ((hp.cons y).trans (q_erase _ _ _ hy))
end
namespace F
theorem q_slot_iter : Slot "set_iterator" "__iter__" "set_iterator.__iter__" :=
  .of (owner := "set_iterator") (n := "__iter__") (by rw [typeLookup_type, builtinLookup_eq_fast]; kernel_rfl) (by decide +kernel) (by decide +kernel) (by decide +kernel) (by first | exact .inl (by decide +kernel) | exact .inr (by decide +kernel)) (by rw [isSubtype_type]; kernel_rfl)
theorem q_entry_self : entryFor table "set_iterator.__iter__" = some Builtin.«dict_keyiterator.__iter__» :=
  entryFor_alias (id' := "dict_keyiterator.__iter__") (by kernel_rfl) (by first | rfl | decide +kernel | (unfold String.splitOn; simp +decide [String.splitOnAux])) (by decide +kernel) (by kernel_rfl)
theorem q_args_self (a : Value) : argsOk "set_iterator.__iter__" ⟨[a], []⟩ := by
  unfold argsOk; rw [signature?_of (id := "set_iterator.__iter__") (n := ['_', '_', 'r', 'e', 't', 'i', '_', '_']) (o := "rotareti_tes".toList) (by kernel_rfl) q_owner]; kernel_rfl
end F

def qP (ord : List Str) (i : Nat) (v : Value) : Prop := ∃ x t, ord[i]? = some x ∧ v = .str x t
theorem q_at {prog : Program} {w : World} {es : List (Int × Value)} (hel : ElemsOf (strKind prog w) es) {i : Nat} {e : Int × Value} (h : es[i]? = some e) : ∃ t, e.2 = .str (keyE e) t := by
  obtain ⟨⟨k, hk, _⟩, _⟩ := hel e (List.mem_of_getElem? h)
  obtain ⟨t, ht⟩ := q_strIs hk
  rw [q_keyE hk]
  exact ⟨t, ht⟩
theorem q_range {l : List Str} {d : Str} : (List.range l.length).map (fun j => l.getD j d) = l := by
  apply List.ext_getElem?
  intro i
  rw [List.getElem?_map]
  by_cases hi : i < l.length
  · rw [List.getElem?_range hi, List.getElem?_eq_getElem hi]
    simp [hi]
  · rw [List.getElem?_eq_none (by simpa using hi), List.getElem?_eq_none (by omega)]; rfl
theorem q_below0 (p : Nat) : SetTable.below #[p] 0 = 0 := by
  simp [SetTable.below, SetTable.below.go]
theorem q_below1 (p : Nat) : SetTable.below #[p] (p + 1) = 1 := by
  simp [SetTable.below, SetTable.below.go]
section
variable {prog : Program} {w : World} {A : Around}
theorem q_walkD {I T a : Addr} {n ep : Nat} {o oT : Obj} {es : Array (Int × Value)} {t : SetTable} {c : Nat} (ps : List Nat) (hIT : I ≠ T) (hIa : I ≠ a) (hTd : oT.data = .seq (ps.map fun (i : Nat) => rawInt i).toArray c) (hd : o.data = .set es ep t) (hel : ElemsOf (strKind prog w) es.toList) (hf : t.fits es.size = true) (hn : es.size = n) (hp : ps.Perm (List.range n)) (hh : A.handled = none) :
    Walks prog w A I [I, a, T] [I] n (qP (ps.map fun j => (es.toList.map keyE).getD j "")) (fun i h => h.get? I = some (qIt (.ref T) i a n ep) ∧ h.get? T = some oT ∧ h.get? a = some o) where
  sub := by simp
  frame := fun i h h' st k => ⟨k I (by simp) _ st.1, k T (by simp) _ st.2.1, k a (by simp) _ st.2.2⟩
  item := fun i s Q E hi st hQ => by
    have hlen : ps.length = n := by rw [hp.length_eq, List.length_range]
    have hi' : i < ps.length := by omega
    obtain ⟨j, hj⟩ : ∃ j, ps[i]? = some j := ⟨ps[i], List.getElem?_eq_getElem hi'⟩
    have hjn : j < es.size := by
      rw [hn]
      exact List.mem_range.mp (hp.mem_iff.mp (List.mem_of_getElem? hj))
    have hel' : es.toList[j]? = some es[j] := by simp [hjn]
    obtain ⟨tk, hv⟩ := q_at hel hel'
    refine q_itemD (j := j) (hv := es[j].1) (v := es[j].2) st.1 st.2.1 hTd st.2.2 hd hf hn ?_ (by simp [hjn]) fun h' hI' sb => ?_
    · simp [hj]
    · refine hQ _ h' s.toks ⟨keyE es[j], tk, ?_, hv⟩ ⟨hI', (sb.2 T hIT.symm).trans st.2.1, (sb.2 a hIa.symm).trans st.2.2⟩ fun b ob hb e => ?_
      · rw [List.getElem?_map, hj]
        simp [hjn]
      · exact (sb.2 b (by simpa using hb)).trans e
  done := fun s Q E st hQ => by
    have hlen : ps.length = n := by rw [hp.length_eq, List.length_range]
    refine q_endD hh st.1 st.2.1 hTd st.2.2 hd hf hn (by simp [hlen]) fun h' eb => hQ h' s.toks fun b ob hb e => eb b ob (by simpa using hb) e
  self := fun i s Q E st h => wpAny_pyIter_slot (T := "set_iterator") ⟨_, st.1, rfl⟩ F.q_slot_iter (wpAny_call_entry F.q_slot_iter ⟨_, st.1, rfl⟩ F.q_entry_self (by
    show wpAny _ _ (ret (.ref I)) _ _ s
    exact wpAny_pure ⟨_, rfl, "set_iterator", _, ⟨_, st.1, rfl⟩, F.q_slot_next.lookup, h⟩) (F.q_args_self _))
theorem q_walkT {I a : Addr} {n ep : Nat} {o : Obj} {es : Array (Int × Value)} {t : SetTable} (hw : qText w = true) (hIa : I ≠ a) (hd : o.data = .set es ep t) (hel : ElemsOf (strKind prog w) es.toList) (hf : t.fits es.size = true) (hn : es.size = n) (hh : A.handled = none) :
    Walks prog w A I [I, a] [I] n (qP ((pickOrder (w.params.setOrder a ep) es).toList.map keyE)) (fun i h => h.get? I = some (qIt (rawInt (0 : Nat)) i a n ep) ∧ h.get? a = some o) where
  sub := by simp
  frame := fun i h h' st k => ⟨k I (by simp) _ st.1, k a (by simp) _ st.2⟩
  item := fun i s Q E hi st hQ => by
    have hp := q_pickOrder (w.params.setOrder a ep) es
    have hsz : (pickOrder (w.params.setOrder a ep) es).size = n := by
      have := hp.length_eq
      simp only [Array.length_toList] at this
      omega
    obtain ⟨e, he⟩ : ∃ e, (pickOrder (w.params.setOrder a ep) es)[i]? = some e := ⟨_, Array.getElem?_eq_getElem (by omega)⟩
    have he' : (pickOrder (w.params.setOrder a ep) es).toList[i]? = some e := by rw [Array.getElem?_toList]; exact he
    obtain ⟨tk, hv⟩ := q_at (hel.perm hp) he'
    refine q_itemN (v := e.2) (sl' := 0) st.1 st.2 hd hf hn (fun {A E R} hr => q_nextText hw st.2 hd hf (by rw [he]; exact hr)) fun h' hI' sb => ?_
    refine hQ _ h' s.toks ⟨keyE e, tk, by rw [List.getElem?_map, he']; rfl, hv⟩ ⟨hI', (sb.2 a hIa.symm).trans st.2⟩ fun b ob hb e => (sb.2 b (by simpa using hb)).trans e
  done := fun s Q E st hQ => by
    have hp := q_pickOrder (w.params.setOrder a ep) es
    have hsz : (pickOrder (w.params.setOrder a ep) es).size = n := by
      have := hp.length_eq
      simp only [Array.length_toList] at this
      omega
    refine q_endN hh st.1 st.2 hd hf hn (fun {A E R} hr => q_nextText hw st.2 hd hf (by rw [Array.getElem?_eq_none (by omega)]; exact hr)) fun h' eb => hQ h' s.toks fun b ob hb e => eb b ob (by simpa using hb) e
  self := fun i s Q E st h => wpAny_pyIter_slot (T := "set_iterator") ⟨_, st.1, rfl⟩ F.q_slot_iter (wpAny_call_entry F.q_slot_iter ⟨_, st.1, rfl⟩ F.q_entry_self (by
    show wpAny _ _ (ret (.ref I)) _ _ s
    exact wpAny_pure ⟨_, rfl, "set_iterator", _, ⟨_, st.1, rfl⟩, F.q_slot_next.lookup, h⟩) (F.q_args_self _))
theorem q_walkP {I a : Addr} {n ep : Nat} {o : Obj} {es : Array (Int × Value)} {t : SetTable} (hw : qText w = false) (hl : t.led = true) (hz : es.size ≤ 1) (hIa : I ≠ a) (hd : o.data = .set es ep t) (hel : ElemsOf (strKind prog w) es.toList) (hf : t.fits es.size = true) (hn : es.size = n) (hh : A.handled = none) :
    Walks prog w A I [I, a] [I] n (qP (es.toList.map keyE)) (fun i h => ∃ sl : Nat, h.get? I = some (qIt (rawInt sl) i a n ep) ∧ (i = 0 → sl = 0) ∧ (0 < i → ∃ p, t.place = #[p] ∧ sl = p + 1) ∧ h.get? a = some o) where
  sub := by simp
  frame := fun i h h' ⟨sl, h1, h2, h3, h4⟩ k => ⟨sl, k I (by simp) _ h1, h2, h3, k a (by simp) _ h4⟩
  item := fun i s Q E hi ⟨sl, h1, h2, h3, h4⟩ hQ => by
    have hpl : t.place.size = es.size := by
      simp only [SetTable.fits, Bool.and_eq_true, beq_iff_eq] at hf
      exact hf.1
    have h0 : i = 0 := by omega
    subst h0
    have hs := h2 rfl
    subst hs
    obtain ⟨p, hp⟩ : ∃ p, t.place = #[p] := Array.size_eq_one_iff.mp (by omega)
    obtain ⟨e, he⟩ : ∃ e, es[0]? = some e := ⟨es[0], Array.getElem?_eq_getElem (by omega)⟩
    have he' : es.toList[0]? = some e := by rw [Array.getElem?_toList]; exact he
    obtain ⟨tk, hv⟩ := q_at hel he'
    refine q_itemN (v := e.2) (sl' := p + 1) h1 h4 hd hf hn (fun {A E R} hr => q_nextPlace hw hl hz h4 hd hf (by rw [hp, q_below0, he]; exact hr)) fun h' hI' sb => ?_
    exact hQ _ h' s.toks ⟨keyE e, tk, by rw [List.getElem?_map, he']; rfl, hv⟩ ⟨p + 1, hI', fun z => absurd z (by simp), fun _ => ⟨p, hp, rfl⟩, (sb.2 a hIa.symm).trans h4⟩ fun b ob hb e => (sb.2 b (by simpa using hb)).trans e
  done := fun s Q E ⟨sl, h1, h2, h3, h4⟩ hQ => by
    have hpl : t.place.size = es.size := by
      simp only [SetTable.fits, Bool.and_eq_true, beq_iff_eq] at hf
      exact hf.1
    refine q_endN hh h1 h4 hd hf hn (fun {A E R} hr => q_nextPlace hw hl hz h4 hd hf ?_) fun h' eb => hQ h' s.toks fun b ob hb e => eb b ob (by simpa using hb) e
    by_cases h0 : n = 0
    · have e1 : es = #[] := Array.size_eq_zero_iff.mp (by omega)
      rw [e1]
      simpa using hr
    · obtain ⟨p, hp, rfl⟩ := h3 (by omega)
      rw [hp, q_below1, Array.getElem?_eq_none (by omega)]
      exact hr
  self := fun i s Q E ⟨sl, h1, h2, h3, h4⟩ h => wpAny_pyIter_slot (T := "set_iterator") ⟨_, h1, rfl⟩ F.q_slot_iter (wpAny_call_entry F.q_slot_iter ⟨_, h1, rfl⟩ F.q_entry_self (by
    show wpAny _ _ (ret (.ref I)) _ _ s
    exact wpAny_pure ⟨_, rfl, "set_iterator", _, ⟨_, h1, rfl⟩, F.q_slot_next.lookup, h⟩) (F.q_args_self _))
end
end PySem
end

section
set_option Elab.async false
set_option linter.all false
set_option maxRecDepth 100000
set_option maxHeartbeats 4000000
namespace PySem
open Sem (wp)
section
variable {prog : Program} {w : World} {A : Around} {E : Value → Shared → Prop} {s : Shared}
theorem q_iter {a : Addr} {ks : List Str} {Q : Value → Shared → Prop} (hS : SetQ prog w s.heap a (!qText w) ks)
    (h : ∀ (h' : Heap) (d : Drawn) (I : Addr) (fp : List Addr) (ord : List Str) (St : Nat → Heap → Prop), ord.Perm ks → (∀ b o, s.heap.get? b = some o → h'.get? b = some o) → s.heap.objs.size ≤ I → (∀ b ∈ fp, b < h'.objs.size ∧ (b = a ∨ s.heap.objs.size ≤ b)) →
      (∀ A' : Around, A'.handled = none → Walks prog w A' I fp [I] ks.length (qP ord) St) → St 0 h' → Q (.ref I) { s with heap := h', drawn := d }) : wpAny (model prog w) A (pyIter (.ref a)) Q E s := by
  obtain ⟨o, es, ep, t, ho, hex, hd, hel, hb, hf, hks, hnd, hled, hpl⟩ := id hS
  have hT : s.TypeIs (.ref a) "set" := ⟨o, ho, hex.1⟩
  have hlen : es.size = ks.length := by rw [← hks, List.length_map, Array.length_toList]
  have hal : a < s.heap.objs.size := Heap.lt_size ho
  refine wpAny_pyIter_slot hT F.slot_set_iter (wpAny_call_entry F.slot_set_iter hT F.q_entry_iter ?_ (F.args_set_iter_1 _))
  show wpAny _ _ (Builtin.Frozenset.sizeOf a >>= _) _ _ s
  unfold Builtin.Frozenset.sizeOf
  refine wpAny_bind (wpAny_bind (wpAny_setEntries_of ho hd hf (wpAny_pure ?_)))
  refine wpAny_bind ?_
  unfold setDrawn setsByText
  refine wpAny_bind (wpAny_setState_of ho hd hf ?_)
  dsimp only
  refine wpAny_bind (wpAny_bind (wpAny_askSetting (wpAny_pure (wpAny_pure ?_))))
  refine wpAny_ite_split (fun z => ?_) (fun z => ?_)
  · refine wpAny_bind (q_draw es.size (List.range es.size) _ _ (by simp) fun ps d hp => ?_)
    refine wpAny_bind (wpAny_newTuple ?_ (by rw [List.length_map, hp.length_eq, List.length_range]; exact fits_of_scanBound hb))
    have ho1 : (s.heap.push { cls := .type "tuple", data := .seq (ps.map fun (i : Nat) => rawInt i).toArray }).get? a = some o := Heap.get?_push_of_some _ ho
    refine wpAny_bind (wpAny_setEpoch_of (s := { s with heap := s.heap.push { cls := .type "tuple", data := .seq (ps.map fun (i : Nat) => rawInt i).toArray }, drawn := d }) ho1 hd hf ?_)
    refine wpAny_bind ?_
    simp only [newFields]
    refine wpAny_newObj_type ?_ (by size_fits)
    have hsz : (s.heap.push { cls := .type "tuple", data := .seq (ps.map fun (i : Nat) => rawInt i).toArray }).objs.size = s.heap.objs.size + 1 := Heap.size_push ..
    have hTt : (s.heap.push { cls := .type "tuple", data := .seq (ps.map fun (i : Nat) => rawInt i).toArray }).get? s.heap.objs.size = some { cls := .type "tuple", data := .seq (ps.map fun (i : Nat) => rawInt i).toArray } := Heap.get?_push_size _ rfl
    rw [hlen] at hp
    refine wpAny_pure ⟨_, rfl, "set_iterator", _, ⟨_, Heap.get?_push_size _ rfl, rfl⟩, F.q_slot_next.lookup, ?_⟩
    have hI := Heap.get?_push_size (s.heap.push { cls := .type "tuple", data := .seq (ps.map fun (i : Nat) => rawInt i).toArray }) (o := qIt (.ref s.heap.objs.size) 0 a es.size ep) rfl
    rw [hsz, hlen] at hI
    rw [hsz, hlen]
    refine h _ d _ [s.heap.objs.size + 1, a, s.heap.objs.size] (ps.map fun j => (es.toList.map keyE).getD j "") (fun i h => h.get? (s.heap.objs.size + 1) = some (qIt (.ref s.heap.objs.size) i a ks.length ep) ∧ h.get? s.heap.objs.size = some { cls := .type "tuple", data := .seq (ps.map fun (i : Nat) => rawInt i).toArray } ∧ h.get? a = some o)
      ?_ (fun b ob e => Heap.get?_push_of_some _ (Heap.get?_push_of_some _ e)) (Nat.le_succ _) (fun b hb' => ?_) (fun A' hh' => ?_) ⟨hI, Heap.get?_push_of_some _ hTt, Heap.get?_push_of_some _ ho1⟩
    · have := hp.map fun j => (es.toList.map keyE).getD j ""
      rw [hks] at this ⊢
      rw [q_range] at this
      exact this
    · rw [Heap.size_push, hsz]
      simp only [List.mem_cons, List.not_mem_nil, or_false] at hb'
      rcases hb' with rfl | rfl | rfl
      · exact ⟨Nat.lt_succ_self _, .inr (Nat.le_succ _)⟩
      · exact ⟨Nat.lt_succ_of_lt (Nat.lt_succ_of_lt hal), .inl rfl⟩
      · exact ⟨Nat.lt_succ_of_lt (Nat.lt_succ_self _), .inr (Nat.le_refl _)⟩
    · exact q_walkD (T := s.heap.objs.size) (oT := { cls := .type "tuple", data := .seq (ps.map fun (i : Nat) => rawInt i).toArray }) (o := o) ps (Nat.ne_of_gt (Nat.lt_succ_self _)) (Nat.ne_of_gt (Nat.lt_succ_of_lt hal)) rfl hd hel hf hlen hp hh'
  · refine wpAny_bind (wpAny_pure ?_)
    refine wpAny_bind (wpAny_setEpoch_of ho hd hf ?_)
    refine wpAny_bind ?_
    simp only [newFields]
    refine wpAny_newObj_type ?_ (by size_fits)
    refine wpAny_pure ⟨_, rfl, "set_iterator", _, ⟨_, Heap.get?_push_size _ rfl, rfl⟩, F.q_slot_next.lookup, ?_⟩
    have hI := Heap.get?_push_size s.heap (o := qIt (rawInt (0 : Nat)) 0 a es.size ep) rfl
    rw [hlen] at hI
    rw [hlen]
    have hfp : ∀ b ∈ [s.heap.objs.size, a], b < (s.heap.push (qIt (rawInt (0 : Nat)) 0 a ks.length ep)).objs.size ∧ (b = a ∨ s.heap.objs.size ≤ b) := fun b hb' => by
      rw [Heap.size_push]
      simp only [List.mem_cons, List.not_mem_nil, or_false] at hb'
      rcases hb' with rfl | rfl
      · exact ⟨Nat.lt_succ_self _, .inr (Nat.le_refl _)⟩
      · exact ⟨Nat.lt_succ_of_lt hal, .inl rfl⟩
    by_cases hw : qText w = true
    · refine h (s.heap.push (qIt (rawInt (0 : Nat)) 0 a ks.length ep)) s.drawn s.heap.objs.size [s.heap.objs.size, a] ((pickOrder (w.params.setOrder a ep) es).toList.map keyE) (fun i h => h.get? s.heap.objs.size = some (qIt (rawInt (0 : Nat)) i a ks.length ep) ∧ h.get? a = some o)
        ?_ (fun b ob e => Heap.get?_push_of_some _ e) (Nat.le_refl _) hfp (fun A' hh' => q_walkT hw (Nat.ne_of_gt hal) hd hel hf hlen hh') ⟨hI, Heap.get?_push_of_some _ ho⟩
      have := (q_pickOrder (w.params.setOrder a ep) es).map keyE
      rw [hks] at this
      exact this
    · have hw' : qText w = false := by simpa using hw
      have hz : es.size ≤ 1 := by
        rcases hpl with e | e
        · rw [hlen, e]; simp
        · have z' : ¬ (!qText w && (!t.plain && decide (es.size > 1))) = true := z
          rw [hw', e] at z'
          simpa using z'
      refine h (s.heap.push (qIt (rawInt (0 : Nat)) 0 a ks.length ep)) s.drawn s.heap.objs.size [s.heap.objs.size, a] (es.toList.map keyE) (fun i h => ∃ sl : Nat, h.get? s.heap.objs.size = some (qIt (rawInt sl) i a ks.length ep) ∧ (i = 0 → sl = 0) ∧ (0 < i → ∃ p, t.place = #[p] ∧ sl = p + 1) ∧ h.get? a = some o)
        (by rw [hks]) (fun b ob e => Heap.get?_push_of_some _ e) (Nat.le_refl _) hfp (fun A' hh' => q_walkP hw' (by rw [hled, hw']; rfl) hz (Nat.ne_of_gt hal) hd hel hf hlen hh') ⟨0, hI, fun _ => rfl, fun z => absurd z (by omega), Heap.get?_push_of_some _ ho⟩
end
end PySem
end

section
set_option Elab.async false
set_option linter.all false
set_option maxRecDepth 100000
set_option maxHeartbeats 4000000
namespace PySem
open Sem (wp)
open PySem.W PySem.Calls PyProof.Rows PySem.Spec
section
variable {prog : Program} {w : World} {A : Around} {E : Value → Shared → Prop} {s : Shared}
theorem sz_eq : sizeLine = 16777216 := by decide
theorem q_hint {r : Addr} {Q : Bool → Shared → Prop} (hT : s.TypeIs (.ref r) "set") (h : Q false s) : wpAny (model prog w) A (Builtin.List.listLengthHint (.ref r)) Q E s := by
  unfold Builtin.List.listLengthHint
  refine wpAny_bind (wpAny_specialOf hT PySem.F.slot_set_len.lookup ?_)
  generalize hid : ("set.__len__" : String) = id0
  wp_delta
  rw [show splitId id0 = some ("set", "__len__") from by subst hid; decide +kernel]
  subst hid
  refine wpAny_bind (wpAny_isInstance (T := "set") (b := true) hT (by rw [isSubtype_type]; kernel_rfl) ?_)
  refine wpAny_ite_split (fun z => absurd z (by decide)) (fun _ => wpAny_ite_split (fun _ => ?_) (fun z => absurd (by decide +kernel) z))
  exact wpAny_bind (wpAny_typeOf hT (wpAny_pure h))
theorem q_typeIs {a : Addr} {b : Bool} {ks : List Str} (hS : SetQ prog w s.heap a b ks) : s.TypeIs (.ref a) "set" := by
  obtain ⟨o, es, ep, t, ho, hex, _⟩ := hS
  exact ⟨o, ho, hex.1⟩
theorem q_extend {R : Result → Shared → Prop} {a S : Addr} {ks : List Str} {res : Value} {c₀ : Nat} (hh : A.handled = none) (hQ : SetQ prog w s.heap a (!qText w) ks) (hSa : S ≠ a) (hS : s.heap.get? S = some { cls := .type "list", data := .seq #[] c₀ }) (hn : ks.length ≤ sizeLine)
    (hR : ∀ h' tk d acc c' ord, ord.Perm ks → (∀ b o, b ≠ S → s.heap.get? b = some o → h'.get? b = some o) → h'.get? S = some { cls := .type "list", dict := none, data := .seq acc c', slots := #[] } → ItemsOf (qP ord) acc ks.length → R (.ok (.ret res)) { s with heap := h', drawn := d, toks := tk }) :
    wpAny (model prog w) A.in1 (Builtin.List.listExtendWith (.ref S) (.ref a) res)
      (fun fin s' => match fin with | .done f => R (.ok f) s' | .again c' => c'.quiet = true ∧ codeAny (model prog w) A c' R s') (fun e s' => R (.error e) s') s := by
  unfold Builtin.List.listExtendWith
  refine wpAny_bind (wpAny_typeOf (T := "set") (q_typeIs hQ) ?_)
  have h1 : Builtin.List.listSameRef (.ref S) (.ref a) = false := by simp [Builtin.List.listSameRef, hSa]
  have h2 : (Value.type "set" == Value.type "list") = false := by decide
  have h3 : (Value.type "set" == Value.type "tuple") = false := by decide
  simp only [h1, h2, h3, Bool.or_false, Bool.false_eq_true, if_false]
  refine wpAny_bind (q_iter hQ fun h' d I fp ord St hp hk hI hfp W st => ?_)
  have hS1 := hk S _ hS
  have hSf : S ∉ fp := fun z => by
    rcases (hfp S z).2 with e | e
    · exact hSa e
    · exact absurd (Heap.lt_size hS) (Nat.not_lt.mpr e)
  have key : ∀ (h2 : Heap) (c₁ tk : Nat), St 0 h2 → (∀ b o, b ≠ S → s.heap.get? b = some o → h2.get? b = some o) → h2.get? S = some { cls := .type "list", data := .seq #[] c₁ } →
      codeAny (model prog w) A (.builtin "list.extend.loop" ⟨[.ref S, .ref I, res], []⟩) R { s with heap := h2, drawn := d, toks := tk } := fun h2 c₁ tk st2 k2 g2 => by
    refine codeAny_extend_loopS (W A.in1 hh).toS hn S hSf res ks.length 0 _ #[] c₁ rfl (Nat.zero_le _) st2 g2 (ItemsOf.nil _) fun s' acc' c' hm hS' hacc => ?_
    have e1 := Moved.eq_with hm
    rw [e1]
    refine hR s'.heap s'.toks d acc' c' ord hp (fun b o hb e => hm.heap b o (fun z => ?_) (k2 b o hb e)) hS' hacc
    rcases List.mem_cons.mp z with e' | z
    · exact hb e'
    · exact absurd (Heap.lt_size e) (by rw [List.mem_singleton.mp z]; exact Nat.not_lt.mpr hI)
  refine wpAny_bind (wpAny_holding (q_hint (q_typeIs (hQ.keeps fun o e => hk a o e)) ?_))
  refine wpAny_ite_split (fun _ => ?_) (fun _ => wpAny_pure ⟨plainId_quiet PySem.F.plain_extend_loop _, key _ c₀ _ st (fun b o _ e => hk b o e) hS1⟩)
  refine wpAny_bind (wpAny_rule (wpAny_bind ?_))
  show wpAny _ _ (updateSeq S (·.push .none) >>= fun _ => updateSeq S (·.pop)) _ _ _
  refine wpAny_bind (wpAny_updateSeq hS1 rfl ?_)
  have hS2 := Heap.get?_update_self (Obj.mapSeq (·.push Value.none)) hS1 rfl
  refine wpAny_updateSeq (hz := by seq_fits) hS2 rfl ?_
  have hS3 := Heap.get?_update_self (Obj.mapSeq (·.pop)) hS2 rfl
  have oth : ∀ b o, b ≠ S → h'.get? b = some o → ((h'.update S (Obj.mapSeq (·.push Value.none))).update S (Obj.mapSeq (·.pop))).get? b = some o := fun b o hb e =>
    (Heap.get?_update_other _ _ (Ne.symm hb)).trans ((Heap.get?_update_other _ _ (Ne.symm hb)).trans e)
  exact wpAny_pure ⟨plainId_quiet PySem.F.plain_extend_loop _, key _ _ _ ((W A.in1 hh).frame 0 _ _ st fun b hb o e => oth b o (fun z => hSf (z ▸ hb)) e) (fun b o hb e => oth b o hb (hk b o e)) hS3⟩
theorem q_collect {R : List Value → Shared → Prop} {a : Addr} {ks : List Str} (hh : A.handled = none) (hQ : SetQ prog w s.heap a (!qText w) ks) (hn : ks.length ≤ sizeLine)
    (h : ∀ h' tk d acc ord, ord.Perm ks → s.heap.objs.size < h'.objs.size → (∀ b o, s.heap.get? b = some o → h'.get? b = some o) → ItemsOf (qP ord) acc ks.length → R acc.toList { s with heap := h', drawn := d, toks := tk }) :
    wpAny (model prog w) A (collect (.ref a)) R E s := by
  have hal : a < s.heap.objs.size := by obtain ⟨o, es, ep, t, ho, _⟩ := hQ; exact Heap.lt_size ho
  unfold collect
  refine wpAny_bind (wpAny_runValue (codeAny_builtin entry_proto_collect' ?_))
  rw [Around.under_plainId PySem.F.plain_proto_collect _]
  show wpAny _ A.in1 (newList [] >>= fun l => again (.builtin "list.__iadd__" ⟨[l, .ref a], []⟩)) _ _ s
  refine wpAny_bind (wpAny_newObj_type (wpAny_pure ⟨plainId_quiet PySem.F.plain_list_iadd _, codeAny_builtin entry_list_iadd' ?_⟩))
  rw [Around.under_plainId PySem.F.plain_list_iadd _]
  have hS1 : (s.heap.push { cls := .type "list", data := .seq ([] : List Value).toArray }).get? s.heap.objs.size = some { cls := .type "list", data := .seq #[] } := Heap.get?_push_size _ rfl
  show wpAny _ A.in1 (Builtin.List.listExtendWith (.ref s.heap.objs.size) (.ref a) (.ref s.heap.objs.size)) _ _ _
  have key := q_extend (A := A) (s := { s with heap := s.heap.push { cls := .type "list", data := .seq ([] : List Value).toArray } }) (res := .ref s.heap.objs.size) (c₀ := 0)
    (R := fun (q : Result) (s' : Shared) => ∃ (h' : Heap) (tk : Nat) (d : Drawn) (acc : Array Value) (c' : Nat) (ord : List Str), q = .ok (.ret (.ref s.heap.objs.size)) ∧ s' = { s with heap := h', drawn := d, toks := tk } ∧ ord.Perm ks ∧
      (∀ b o, s.heap.get? b = some o → h'.get? b = some o) ∧ h'.get? s.heap.objs.size = some { cls := .type "list", dict := none, data := .seq acc c', slots := #[] } ∧ ItemsOf (qP ord) acc ks.length)
    hh (hQ.keeps fun o e => Heap.get?_push_of_some _ e) (Nat.ne_of_gt hal) hS1 hn
    (fun h' tk d acc c' ord hp hk g hacc => ⟨h', tk, d, acc, c', ord, rfl, rfl, hp, fun b o e => hk b o (Nat.ne_of_lt (Heap.lt_size e)) (Heap.get?_push_of_some _ e), g, hacc⟩)
  refine wpAny_mono key (fun f s' x => ?_) fun e s' x => ?_
  · cases f with
    | done f =>
      obtain ⟨h', tk, d, acc, c', ord, e, rfl, hp, hk, g, hacc⟩ := x
      cases e
      show wpAny _ A (load s.heap.objs.size >>= _) _ _ _
      exact wpAny_bind (wpAny_load g (wpAny_pure (h h' tk d acc ord hp (Heap.lt_size g) hk hacc)))
    | again c1 =>
      refine ⟨x.1, codeAny_mono x.2 fun q s2 y => ?_⟩
      obtain ⟨h', tk, d, acc, c', ord, rfl, rfl, hp, hk, g, hacc⟩ := y
      show wpAny _ A (load s.heap.objs.size >>= _) _ _ _
      exact wpAny_bind (wpAny_load g (wpAny_pure (h h' tk d acc ord hp (Heap.lt_size g) hk hacc)))
  · obtain ⟨_, _, _, _, _, _, e', _⟩ := x
    cases e'
theorem qP_strs {ord : List Str} {acc : Array Value} (h : ItemsOf (qP ord) acc ord.length) : StrsAre acc.toList ord := by
  have gen : ∀ (l : List Value) (o : List Str), l.length = o.length → (∀ (i : Nat) (v : Value), l[i]? = some v → ∃ x t, o[i]? = some x ∧ v = .str x t) → StrsAre l o := by
    intro l
    induction l with
    | nil =>
      intro o e _
      cases o with
      | nil => exact .nil
      | cons _ _ => cases e
    | cons v l ih =>
      intro o e hi
      cases o with
      | nil => cases e
      | cons x o =>
        obtain ⟨y, t, e1, rfl⟩ := hi 0 v rfl
        cases e1
        exact .cons _ t (ih o (by simpa using e) fun i u hu => hi (i + 1) u hu)
  exact gen _ _ (by rw [Array.length_toList]; exact h.1) fun i v e => h.2 i v (by rw [← Array.getElem?_toList]; exact e)
theorem q_sorted {a : Addr} {ks : List Str} {Q : Value → Shared → Prop} (hh : A.handled = none) (hQ : SetQ prog w s.heap a (!qText w) ks) (hn : ks.length < 64)
    (h : ∀ (h' : Heap) (tk : Nat) (d : Drawn) (D : Addr) (vs : List Value) (c : Nat) (ys : List Str), s.heap.objs.size ≤ D → (∀ b o, s.heap.get? b = some o → h'.get? b = some o) → StrsAre vs ys → ys.Perm ks → sortedS ys = true → h'.get? D = some (seqObj "list" vs.toArray c) → Q (.ref D) { s with heap := h', drawn := d, toks := tk }) :
    wpAny (model prog w) A (call (.builtin "sorted") [.ref a]) Q E s := by
  refine Calls.call_function_entry kind_sorted plain_sorted entry_sorted (args_sorted1 _) ?_
  unfold Builtin.«sorted»
  refine wpAny_bind (m := checkCount "sorted" 1 1 _) (wpAny_pure (wpAny_bind (q_collect (A := A.in1) hh hQ (by rw [sz_eq]; omega) fun h' tk d acc ord hp hsz hk hacc => ?_)))
  have hS : StrsAre acc.toList ord := qP_strs (by rw [hp.length_eq]; exact hacc)
  have hl : acc.toList.length = ks.length := by rw [Array.length_toList]; exact hacc.1
  refine wpAny_bind (wpAny_newList ?_ (by rw [hl, sz_eq]; omega))
  have hoL : (h'.push (seqObj "list" acc.toList.toArray 0)).get? h'.objs.size = some (seqObj "list" acc.toList.toArray 0) := Heap.get?_push_size _ rfl
  refine wpAny_bind (wpAny_holding (wpAny_call_entry slot_list_sort ⟨_, hoL, rfl⟩ entry_list_sort (list_sort_treeK strKind_oneLt hoL hS.keysOf (fun v₁ v₂ rest e => keyKind_strs (by rw [← e]; exact hS)) (by rw [hl]; exact hn) fun st' a1 a2 => ⟨_, rfl, ?_⟩) (args_list_sort _)))
  obtain ⟨ys, b1, b2, b3⟩ := sorted_out_str hS a1 a2
  obtain ⟨c, hc⟩ := PyProof.Rows.sortedHeap_at (vs := acc.toList) (out := (arrOf st').map (·.2)) hoL
  refine wpAny_pure ⟨_, rfl, h _ tk d h'.objs.size ((arrOf st').map (·.2)).toList c ys (Nat.le_of_lt hsz) (fun b o e => ?_) b1 (b2.trans hp) b3 (by rw [Array.toArray_toList]; exact hc)⟩
  have hb := hk b o e
  rw [PyProof.Rows.sortedHeap_old (Nat.ne_of_lt (Heap.lt_size hb)) (Nat.lt_of_lt_of_le (Heap.lt_size hb) (by rw [Heap.size_push]; exact Nat.le_succ _))]
  exact Heap.get?_push_of_some _ hb
end
end PySem
end

section
set_option Elab.async false
set_option linter.all false
set_option maxRecDepth 100000
set_option maxHeartbeats 4000000

namespace PySem
open Sem (wp)

structure Nx (prog : Program) (w : World) (it : Addr) (fp : List Addr) (xs : Array Value) (S : Nat → Heap → Prop) : Prop where
  frame : ∀ i h h', S i h → (∀ b ∈ fp, ∀ o, h.get? b = some o → h'.get? b = some o) → S i h'
  live : ∀ i h, S i h → ∃ o, h.get? it = some o
  item : ∀ (A : Around) (i : Nat) (s : Shared) (Q : Value → Shared → Prop) (E : Value → Shared → Prop) (x : Value), xs[i]? = some x → S i s.heap → (∀ h', S (i + 1) h' → Heap.SameBut it s.heap h' → Q x { s with heap := h' }) →
    wpAny (model prog w) A (Builtin.SmallTypes.nextOf (.ref it)) Q E s
  done : ∀ (A : Around) (i : Nat) (s : Shared) (Q : Value → Shared → Prop) (E : Value → Shared → Prop), A.handled = none → xs[i]? = none → S i s.heap →
    (∀ h' e, Heap.ExtBut it s.heap h' → (∃ o, h'.get? e = some o ∧ o.cls = .type "StopIteration") → E (.ref e) { s with heap := h' }) → wpAny (model prog w) A (Builtin.SmallTypes.nextOf (.ref it)) Q E s
structure ZA (z TI TO i1 i2 : Addr) (f1 f2 : List Addr) : Prop where
  TIz : TI ≠ z
  TOz : TO ≠ z
  TT : TI ≠ TO
  m1 : i1 ∈ f1
  m2 : i2 ∈ f2
  z1 : z ∉ f1
  z2 : z ∉ f2
  o1 : TO ∉ f1
  o2 : TO ∉ f2
  t1 : TI ≠ i1
  t2 : TI ≠ i2
  a1 : i1 ∉ f2
  a2 : i2 ∉ f1
section
variable {prog : Program} {w : World} {A : Around} {E : Value → Shared → Prop} {s : Shared}
variable {z TI TO i1 i2 : Addr} {f1 f2 : List Addr} {xs ys : Array Value} {S1 S2 : Nat → Heap → Prop} {k : Nat}
end

def SqB : Bool → Heap → Addr → Array Value → Prop
  | true, h, a, xs => h.IsTuple a xs
  | false, h, a, xs => h.IsList a xs
theorem SqB.push {h : Heap} {a : Addr} {xs : Array Value} (o : Obj) : ∀ {b : Bool}, SqB b h a xs → SqB b (h.push o) a xs
  | true, q => q.at fun _ e => Heap.get?_push_of_some _ e
  | false, q => Heap.IsList.push q _
section
variable {prog : Program} {w : World} {A : Around} {E : Value → Shared → Prop} {s : Shared}
end
end PySem
end

section
set_option Elab.async false
set_option linter.all false
set_option maxRecDepth 100000
set_option maxHeartbeats 4000000
namespace L2.Q3
open PySem PySem.Spec PyProof.Rows

def SqV (K : PySem.W.Frag) : Bool → Hp → Addr → List V → Prop
  | true, H, a, xs => SqT K H a xs
  | false, H, a, xs => SqL K H a xs
theorem SqV.its {X : Cx} {pins : List (Addr × Obj)} {σ : St} {H : Hp} {s : Shared} {a : Addr} {xs : List V} (I : Inv X pins σ H s) : ∀ {t : Bool}, SqV X.K t H a xs → ∃ its : List Value, Vals xs its ∧ SqB t s.heap a its.toArray ∧ a < s.heap.objs.size
  | true, h => by
    obtain ⟨its, r, p, _⟩ := I.tuple h
    exact ⟨its, r, p, by obtain ⟨o, ho, _⟩ := p; exact Heap.lt_size ho⟩
  | false, h => by
    obtain ⟨its, r, p, _⟩ := I.list h
    exact ⟨its, r, p.isList, p.lt⟩
theorem SqV.inj {X : Cx} {pins : List (Addr × Obj)} {σ : St} {H : Hp} {s : Shared} {a : Addr} {xs ys : List V} (I : Inv X pins σ H s) : ∀ {t : Bool}, SqV X.K t H a xs → SqV X.K t H a ys → xs = ys
  | true, h, h' => I.tuple_inj h h'
  | false, h, h' => I.list_inj h h'
section
variable {X : Cx}
def zipD (xs ys : List D) : List D := (xs.zip ys).map fun p => .tuple [p.1, p.2]
def fiZip (fa fb : Fe) : Fi := fun ρ => (faCons fa (faCons fb faNil) ρ).bind fun p => (escAll p.2 p.1).bind fun z => match z.1 with
  | [x, y] => (itemsOf x).bind fun xs => (itemsOf y).bind fun ys => some (zipD xs ys, z.2)
  | _ => none
end
end L2.Q3
end

section
set_option Elab.async false
set_option linter.all false
set_option maxRecDepth 100000
set_option maxHeartbeats 4000000
namespace L2.Q3
open PySem PySem.Spec PyProof.Rows

def gListRange : List D → Option W
  | [.int n] => if n ≤ 16777216 ∧ -16777216 ≤ n then some (.fr ((List.range n.toNat).map fun k => .int ((k : Nat) : Int))) else none
  | _ => none
section
variable {X : Cx}
theorem itemsOf_ints : ∀ {n : Nat} {acc : Array Value}, ItemsOf (fun i v => ∃ t, v = Value.int (0 + (i : Int) * 1) t) acc n → Vals ((List.range n).map fun k => V.int ((k : Nat) : Int)) acc.toList := by
  intro n acc h
  obtain ⟨hl, hi⟩ := h
  have : ∀ (m : Nat), m ≤ n → Vals ((List.range m).map fun k => V.int ((k : Nat) : Int)) (acc.toList.take m) := by
    intro m
    induction m with
    | zero => intro _; simp; exact .nil
    | succ m ih =>
      intro hm
      have h1 := ih (by omega)
      have hv : acc[m]? = some acc[m] := Array.getElem?_eq_getElem (by omega)
      obtain ⟨t, ht⟩ := hi m _ hv
      rw [ht] at hv
      have e2 : acc.toList[m]? = some (Value.int (0 + (m : Int) * 1) t) := by rw [Array.getElem?_toList]; exact hv
      rw [List.range_succ, List.map_append, List.take_succ, e2]
      have e3 : Vals (List.map (fun k => V.int ((k : Nat) : Int)) [m]) (some (Value.int (0 + (m : Int) * 1) t)).toList := .cons ⟨t, by simp⟩ .nil
      exact h1.append e3
  have := this n (Nat.le_refl _)
  rwa [List.take_of_length_le (by rw [Array.length_toList]; omega)] at this
theorem dr_ints {K : PySem.W.Frag} {Fz : Addr → Prop} {H : Hp} : ∀ (ks : List Int), DrAll K Fz H (ks.map V.int) (ks.map PyData.int)
  | [] => .nil
  | k :: ks => .cons (.int k) (dr_ints ks)
theorem de_listrange {a : Expr} {fa : Fa} {p p2 pos pos2 : Pos} (hc : X.calm = true) (hg : Gl X "list") (hm : X.mg "list" = none) (hg2 : Gl X "range") (hm2 : X.mg "range" = none) (ha : DA X [a] fa)
    (hs2 : starEach [a] X.env = [(false, eval a X.env)] := by rfl) (hs : starEach [.Call (.Name "range" p2) [a] [] pos2] X.env = [(false, eval (.Call (.Name "range" p2) [a] [] pos2) X.env)] := by rfl) :
    DE X (.Call (.Name "list" p) [.Call (.Name "range" p2) [a] [] pos2] [] pos) (feAtom gListRange fa) := by
  refine ⟨fun pins s σ H Q I h => ?_⟩
  refine wpAny_Call_Name_kw (ld_blt I hg hm (u := .type "list") (by decide +kernel) (PyProof.Rows.callWith_type1 ?_ hs rfl))
  rw [hs]
  show wpAny _ _ (spliced ((false, eval (.Call (.Name "range" p2) [a] [] pos2) X.env) :: [])) _ _ s
  refine Calls.spliced_cons ?_
  obtain ⟨Fz, ρ, w, ρ', r, e, q⟩ := h
  obtain ⟨ws, xs, e1, e2, e3⟩ := feAtom_some e
  unfold gListRange at e3
  split at e3
  · rename_i n
    obtain ⟨hb, rfl⟩ := some_ite e3
    have ha' := ha.ok pos2 pins s σ H (fun vs H1 => ∃ Fz1, PostL X.K Fz Fz1 ρ ρ' σ H H1 ws vs) I ⟨Fz, ρ, ws, ρ', r, e1, fun vs H1 Fz1 p1 => ⟨Fz1, p1⟩⟩
    refine wpAny_Call_Name_kw (ld_blt I hg2 hm2 boot_range (PyProof.Rows.callWith_type1 (thn ha' fun us s1 ⟨vs, H1, I1, r1, Fz1, p1⟩ => ?_) hs2 rfl))
    obtain ⟨v, rfl, hv⟩ := paired1 (p1.rel.rdgAll p1.rep e2)
    rw [hv.int] at r1
    cases r1 with
    | cons rr rn =>
      cases rn
      obtain ⟨t, rfl⟩ := rr
      refine call_range_1 ?_
      refine Calls.spliced_nil ?_
      have hn : Builtin.Range.rangeSize 0 n 1 = ((n.toNat : Nat) : Int) := by rw [rangeSize_one]; split <;> omega
      refine call_list_range (I.ok.hd hc) (IsRange.new ..) (small_one (by omega) (by omega) (by omega) (by omega)) hn (by omega) fun h' tk acc c' kp e hi => ?_
      have r5 := itemsOf_ints hi
      have kp' : ∀ b o, s1.heap.get? b = some o → h'.get? b = some o := fun b o q => kp b o (Heap.get?_push_of_some _ q)
      have hle : s1.heap.objs.size ≤ (s1.heap.push { cls := .type "range", data := .fields #[.int 0 s1.toks, .int n t, .int 1 (s1.toks + 1)] }).objs.size := by rw [Heap.size_push]; exact Nat.le_succ _
      refine ⟨.ref _, _, I1.laid (t' := tk) kp' hle (show ObjOk X.prog X.w _ h' _ (.lst ((List.range n.toNat).map fun k => V.int ((k : Nat) : Int))) from ⟨by rw [List.length_map, List.length_range, sizeLine_eq]; omega, acc.toList, c', r5, by simpa using e⟩), rfl, ?_⟩
      have hf := I1.hok.fresh hle
      have dd : DrAll X.K Fz1 H1 ((List.range n.toNat).map fun k => V.int ((k : Nat) : Int)) ((List.range n.toNat).map fun k => PyData.int ((k : Nat) : Int)) := by
        have := dr_ints (K := X.K) (Fz := Fz1) (H := H1) ((List.range n.toNat).map fun k => ((k : Nat) : Int))
        simpa [List.map_map, Function.comp_def] using this
      exact q _ _ Fz1 (p1.made (.newL p1.rel.fzl hf dd))
  · cases e3
end

section
variable {K : PySem.W.Frag} {Fz : Addr → Prop} {ρ : Rho} {σ : St} {H : Hp} {p : Addr} {o : HO}
end
def feDict1 (x : Str) (fe : Fe) : Fe := fun ρ => (fe ρ).bind fun p => (esc1 p.2 p.1).bind fun z => some (.d (.dict [(.str x, z.1)]), z.2)
section
variable {X : Cx}
end
end L2.Q3
end

section
set_option Elab.async false
set_option linter.all false
set_option maxRecDepth 100000
set_option maxHeartbeats 4000000
namespace L2.Q3
open PySem PySem.Spec PyProof.Rows
section
variable {prog : Program} {w : World} {A : Around} {E : Value → Shared → Prop} {s : Shared}
end
def feRev (fe fs : Fe) : Fe := fun ρ => (faCons fe (faCons fs faNil) ρ).bind fun p => (rdAll p.2 p.1).bind fun xs => match xs with
  | [.tuple xs, .int k] => if k = -1 then some (.d (.tuple xs.reverse), p.2) else none
  | _ => none
section
variable {X : Cx}
end
end L2.Q3
end

section
set_option Elab.async false
set_option linter.all false
set_option maxRecDepth 100000
set_option maxHeartbeats 4000000
namespace L2.Q3
open PySem PySem.Spec PyProof.Rows
def leS (a b : Str) : Bool := !ltCps b.cps.toList a.cps.toList

def sortU (xs : List Str) : List Str := (uniqS xs).mergeSort leS
theorem leS_anti {a b : Str} (h1 : leS a b = true) (h2 : leS b a = true) : a = b := by
  unfold leS at h1 h2
  rw [ltCps_eq] at h1 h2
  have g1 : ¬ b.cps.toList < a.cps.toList := by simpa using h1
  have g2 : ¬ a.cps.toList < b.cps.toList := by simpa using h2
  have e : a.cps.toList = b.cps.toList := List.le_antisymm g1 g2
  cases a; cases b
  simp only at e
  rw [Array.toList_inj.mp e]
theorem leS_total (a b : Str) : (leS a b || leS b a) = true := by
  unfold leS
  rw [ltCps_eq, ltCps_eq]
  have := List.le_total a.cps.toList b.cps.toList
  rcases this with h | h
  · have h' : ¬ b.cps.toList < a.cps.toList := h
    simp [h']
  · have h' : ¬ a.cps.toList < b.cps.toList := h
    simp [h']
theorem leS_trans (a b c : Str) (h1 : leS a b = true) (h2 : leS b c = true) : leS a c = true := by
  unfold leS at *
  rw [ltCps_eq] at *
  have g1 : a.cps.toList ≤ b.cps.toList := by
    show ¬ _
    simpa using h1
  have g2 : b.cps.toList ≤ c.cps.toList := by
    show ¬ _
    simpa using h2
  have g3 : a.cps.toList ≤ c.cps.toList := List.le_trans g1 g2
  have g3' : ¬ c.cps.toList < a.cps.toList := g3
  simp [g3']
theorem rising_pw : ∀ (p : Str) (l : List Str), risingS p l = true → (p :: l).Pairwise (fun a b => leS a b = true)
  | p, [], _ => by simp
  | p, x :: r, h => by
    have h' : leS p x = true ∧ risingS x r = true := by
      have : (leS p x && risingS x r) = true := h
      simpa using this
    have ih := rising_pw x r h'.2
    refine List.pairwise_cons.mpr ⟨fun y hy => ?_, ih⟩
    rcases List.mem_cons.mp hy with rfl | hy
    · exact h'.1
    · exact leS_trans _ _ _ h'.1 ((List.pairwise_cons.mp ih).1 y hy)
theorem sorted_pw : ∀ (l : List Str), sortedS l = true → l.Pairwise (fun a b => leS a b = true)
  | [], _ => List.Pairwise.nil
  | x :: r, h => rising_pw x r h
theorem sortU_eq {xs ys : List Str} (hp : ys.Perm (uniqS xs)) (hs : sortedS ys = true) : ys = sortU xs := by
  refine List.Perm.eq_of_pairwise (le := fun a b => leS a b = true) (fun a b _ _ h1 h2 => leS_anti h1 h2) (sorted_pw ys hs) ?_ (hp.trans (List.mergeSort_perm _ _).symm)
  exact List.pairwise_mergeSort leS_trans leS_total _
def gSortSet : List D → Option W
  | [.list xs] => (strsOf xs).bind fun ss => if ss.length < 60 then some (.fr ((sortU ss).map .str)) else none
  | _ => none
theorem strs_vals {ys : List Str} : ∀ {vs : List Value}, StrsAre vs ys → Vals (ys.map V.str) vs := by
  intro vs h
  induction h with
  | nil => exact .nil
  | cons x t h ih => exact .cons ⟨t, rfl⟩ ih
section
variable {X : Cx}
theorem Inv.dr {pins : List (Addr × Obj)} {σ : St} {H : Hp} {s : Shared} (I : Inv X pins σ H s) (d : Drawn) : Inv X pins σ H { s with drawn := d } :=
  ⟨I.ok, I.os, I.bare, I.base, I.loc, I.cell, I.free, I.freeC, I.pin, I.hok, I.len⟩
theorem de_sortset {a : Expr} {fa : Fa} {p p2 pos pos2 : Pos} (hc : X.calm = true) (hg : Gl X "sorted") (hm : X.mg "sorted" = none) (hg2 : Gl X "set") (hm2 : X.mg "set" = none) (ha : DA X [a] fa)
    (hs2 : starEach [a] X.env = [(false, eval a X.env)] := by rfl) (hs : starEach [.Call (.Name "set" p2) [a] [] pos2] X.env = [(false, eval (.Call (.Name "set" p2) [a] [] pos2) X.env)] := by rfl) :
    DE X (.Call (.Name "sorted" p) [.Call (.Name "set" p2) [a] [] pos2] [] pos) (feAtom gSortSet fa) := by
  refine ⟨fun pins s σ H Q I h => ?_⟩
  refine wpAny_Call_Name_kw (ld_blt I hg hm (u := .builtin "sorted") (by decide +kernel) (PyProof.Rows.callWith_builtin1 ?_ hs rfl))
  rw [hs]
  show wpAny _ _ (spliced ((false, eval (.Call (.Name "set" p2) [a] [] pos2) X.env) :: [])) _ _ s
  refine Calls.spliced_cons ?_
  obtain ⟨Fz, ρ, w, ρ', r, e, q⟩ := h
  obtain ⟨ws, xs, e1, e2, e3⟩ := feAtom_some e
  unfold gSortSet at e3
  split at e3
  · rename_i ds
    cases e4 : strsOf ds with
    | none => rw [e4] at e3; cases e3
    | some ss =>
      simp only [e4, Option.bind_some] at e3
      obtain ⟨hb, rfl⟩ := some_ite e3
      have ha' := ha.ok pos2 pins s σ H (fun vs H1 => ∃ Fz1, PostL X.K Fz Fz1 ρ ρ' σ H H1 ws vs) I ⟨Fz, ρ, ws, ρ', r, e1, fun vs H1 Fz1 p1 => ⟨Fz1, p1⟩⟩
      refine wpAny_Call_Name_kw (ld_blt I hg2 hm2 (u := .type "set") (by decide +kernel) (PyProof.Rows.callWith_type1 (thn ha' fun us s1 ⟨vs, H1, I1, r1, Fz1, p1⟩ => ?_) hs2 rfl))
      obtain ⟨v, rfl, hv⟩ := paired1 (p1.rel.rdgAll p1.rep e2)
      obtain ⟨l, vl, rfl, hl, dl⟩ := hv.lst
      cases r1 with
      | cons rr rn =>
        cases rn
        cases rr
        obtain ⟨its, rv, pl, _⟩ := I1.list (SqL.of hl)
        have hvs := strs_dr dl e4
        subst hvs
        have hlen : its.length = ss.length := by rw [← rv.length, List.length_map]
        have hit : ∀ (i : Nat) (v : Value), its.toArray[i]? = some v → ∃ x t, ss[i]? = some x ∧ v = .str x t := fun i v ev => by
          have ev' : its[i]? = some v := by simpa using ev
          have hi : i < ss.length := by rw [← hlen]; exact getElem?_lt ev'
          have ex : (ss.map V.str)[i]? = some (V.str ss[i]) := by rw [List.getElem?_map, List.getElem?_eq_getElem hi]; rfl
          obtain ⟨u, hu, ru⟩ := rv.get ex
          rw [ev'] at hu
          cases hu
          obtain ⟨t, rfl⟩ := ru
          exact ⟨_, t, List.getElem?_eq_getElem hi, rfl⟩
        have hbnd : ss.length + 1 < scanBound := by
          have : (61 : Nat) ≤ scanBound := by decide
          omega
        refine q_set (I.ok.hd hc) pl.isList (xs := ss) (by rw [List.size_toArray, hlen]) hit (by rw [List.size_toArray, hlen]; exact hbnd) fun h' tk ks hp hS kp => ?_
        have kp' : ∀ b o, s1.heap.get? b = some o → h'.get? b = some o := fun b o e => kp b o (Heap.lt_size e) e
        refine Calls.spliced_nil ?_
        have hk : ks.length ≤ ss.length := by rw [hp.length_eq]; exact uniqS_len ss
        have hsz1 : s1.heap.objs.size ≤ h'.objs.size := by
          obtain ⟨o, _, _, _, ho, _⟩ := hS
          exact Nat.le_of_lt (Heap.lt_size ho)
        refine q_sorted (s := { s1 with heap := h', toks := tk }) (I.ok.hd hc) hS (by omega) fun h2 tk2 d D vs2 c ys hD kp2 b1 b2 b3 g2 => ?_
        have ey : ys = sortU ss := sortU_eq (b2.trans hp) b3
        subst ey
        have hle : s1.heap.objs.size ≤ D := Nat.le_trans hsz1 hD
        have hln : (sortU ss).length ≤ ss.length := by rw [(b2.trans hp).length_eq]; exact uniqS_len ss
        have I2 : Inv X pins σ (upd H1 D (.lst ((sortU ss).map V.str))) { s1 with heap := h2, toks := tk2 } := I1.laid (t' := tk2) (fun b o e => kp2 b o (kp' b o e)) hle (show ObjOk X.prog X.w _ h2 _ (.lst ((sortU ss).map V.str)) from ⟨by rw [List.length_map, sizeLine_eq]; omega, vs2, c, strs_vals b1, g2⟩)
        exact ⟨.ref D, _, Inv.dr I2 d, rfl, q _ _ Fz1 (p1.made (.newL p1.rel.fzl (I1.hok.fresh hle) (dr_strs _)))⟩
  · cases e3
end
end L2.Q3
end

section
set_option Elab.async false
set_option linter.all false
namespace L2.Q3
open PySem PySem.Spec PyProof.Rows
section
variable {P : Program} {w : World} {K : PySem.W.Frag} {mg : Str → Option Value} {base : Heap}

end

def scrD (ns : List Int) : W := .d (.dict [(.none, .list (ns.map .int))])
theorem dr_scr {K : PySem.W.Frag} {Fz : Addr → Prop} {H : Hp} : ∀ (ns : List Int), DrAll K Fz H (ns.map V.int) (ns.map PyData.int)
  | [] => .nil
  | n :: ns => .cons (.int n) (dr_scr ns)
theorem sp_script {K : PySem.W.Frag} {H : Hp} {a : Addr} {ns : List Int} {F : Fn} {E : XK} (hS : SqL K H a (ns.map V.int)) (hF : ∃ fin, F [scrD ns] = some (.d (.bool true), fin)) (hO : ∀ u, H a ≠ some (.lst u)) : spF K 1 F [.ref a] H (fun v _ => v = .bl true) E := by
  obtain ⟨fin, e⟩ := hF
  have go : ∀ (Fz : Addr → Prop), (∀ q, Fz q → H q ≠ none) → Dr K Fz H (.ref a) (.dict [(.none, .list (ns.map .int))]) → spF K 1 F [.ref a] H (fun v _ => v = .bl true) E := fun Fz l d => by
    refine ⟨rfl, Fz, [scrD ns], .d (.bool true), fin, ⟨rfl, fun k w h => ?_, fun i j xs ys p h1 => ?_, fun k xs p h1 => ?_, l⟩, e, fun v H' Fz' cp => ?_⟩
    · cases k with
      | zero => cases h; exact ⟨_, rfl, d⟩
      | succ k => cases h
    · cases i with
      | zero => cases h1
      | succ k => cases h1
    · cases k with
      | zero => cases h1
      | succ k => cases h1
    · have := cp.rep
      cases this
      rfl
  rcases hS with (hS | ⟨o, hS⟩) | hS
  · exact absurd hS (hO _)
  · exact go (fun q => q = a) (fun q z => by rw [z, hS]; exact fun e => nomatch e) (.scr (.inl ⟨rfl, o, hS⟩) (dr_scr ns))
  · exact go (fun _ => False) (fun _ z => z.elim) (.scr (.inr hS) (dr_scr ns))
theorem only_no {H : Hp} {a : Addr} (h : Only H) : ∀ u, H a ≠ some (.lst u) := fun u e => by
  rcases h a with z | ⟨o, xs, z⟩ | z
  · rw [z] at e; cases e
  · rw [z] at e; cases e
  · rw [z] at e; cases e

section
variable {X : Cx}
def rEqLen (K : PySem.W.Frag) : R2 := fun x y H Q => ∃ a b xs ys, x = .ref a ∧ y = .ref b ∧ SqL K H a xs ∧ SqL K H b ys ∧ xs.length ≠ ys.length ∧ Q (.bl false) H
theorem op_eqLen (hu : X.A.units + 64 < cLine) : OpR X (compareOp .Eq) (rEqLen X.K) := by
  intro pins s σ H x y v u Q I rx ry h
  obtain ⟨a, b, xs, ys, rfl, rfl, h1, h2, hn, q⟩ := h
  cases rx
  cases ry
  obtain ⟨i1, r1, p1, _⟩ := I.list h1
  obtain ⟨i2, r2, p2, _⟩ := I.list h2
  refine SeqAt.eq_list_lengthsAt p1.isList p2.isList ?_ (by omega) ⟨.bl false, H, I, rfl, q⟩
  have e1 := r1.length
  have e2 := r2.length
  simp only [List.size_toArray, bne_iff_ne, ne_eq]
  omega
theorem op_eq2 (hu : X.A.units + 64 < cLine) : OpR X (compareOp .Eq) (fun x y H Q => rEqD X.K x y H Q ∨ rEqLen X.K x y H Q) := (op_eqD hu).or (op_eqLen hu)
end
def gEq2 : List D → Option W
  | [.list xs, .list ys] => if xs.length = ys.length then gEq false [.list xs, .list ys] else some (.d (.bool false))
  | xs => gEq false xs
theorem atom_eq2 {K : PySem.W.Frag} : Atom K (r2 fun x y H Q => rEqD K x y H Q ∨ rEqLen K x y H Q) gEq2 := by
  have old : ∀ (Fz : Addr → Prop) (H : Hp) (vs : List V) (xs : List D) (w : W) (Q : VK), (∀ q, Fz q → H q ≠ none) → Paired (Rdg K Fz H) vs xs → gEq false xs = some w → (∀ v H' Fz', Made K Fz Fz' H H' w v → Q v H') → r2 (fun x y H Q => rEqD K x y H Q ∨ rEqLen K x y H Q) vs H Q := by
    intro Fz H vs xs w Q l h e k
    have := atom_eq (K := K) Fz H vs xs w Q l h e k
    unfold r2 at this ⊢
    split at this
    · exact .inl this
    · exact this.elim
  intro Fz H vs xs w Q l h e k
  unfold gEq2 at e
  split at e
  · rename_i xs ys
    split at e
    · exact old Fz H vs _ w Q l h e k
    · rename_i hn
      cases e
      obtain ⟨v, u, rfl, h1, h2⟩ := paired2 h
      obtain ⟨a, us, rfl, s1, d1⟩ := h1.lst
      obtain ⟨b, us', rfl, s2, d2⟩ := h2.lst
      exact .inr ⟨a, b, us, us', rfl, rfl, SqL.of s1, SqL.of s2, by rw [d1.length, d2.length]; exact hn, k _ _ _ (.val l (.bl false))⟩
  · exact old Fz H vs _ w Q l h e k
end L2.Q3
end

section
set_option Elab.async false
set_option linter.all false
set_option maxRecDepth 100000
set_option maxHeartbeats 4000000
namespace L2.Q3
open PySem PySem.Spec PyProof.Rows

def compD (j : Nat) (fg : Fg) (ft : Ft) (fe : Fe) (vs : List Nat) : Nat → Nat → Rho → List D → Option (List D × Rho)
  | 0, _, _, _ => none
  | n + 1, i, ρ, acc => (frAt ρ j).bind fun cur => match cur[i]? with
    | none => some (acc, ρ)
    | some x => (fg x (wipeR ρ vs)).bind fun ρ1 => (ft ρ1).bind fun p => if p.1 = true then (fe p.2).bind fun q => (esc1 q.2 q.1).bind fun z => if acc.length < 16777216 then compD j fg ft fe vs n (i + 1) z.2 (acc ++ [z.1]) else none
      else compD j fg ft fe vs n (i + 1) p.2 acc
def feCompO (j : Nat) (fg : Fg) (ft : Ft) (fe : Fe) (vs : List Nat) : Fe := fun ρ => match frAt ρ j with
  | some xs => if j ∉ vs ∧ vs.all (fun i => (frAt ρ i).isNone) = true then (compD j fg ft fe vs (xs.length + 1) 0 ρ []).bind fun q => some (.fr q.1, restR ρ q.2 vs) else none
  | none => feComp (fiSeq (fVar j)) fg ft fe vs ρ
def iSeq (K : PySem.W.Frag) (fe : Fe) : TI := fun σ H R => tE K fe σ H fun x H1 => ∃ a, x = .ref a ∧ ((∃ xs, SqL K H1 a xs ∧ R (Itl K a) H1) ∨ ∃ xs, SqT K H1 a xs ∧ R (Itt K a) H1)
theorem iSeq_of {K : PySem.W.Frag} {fe : Fe} {σ : St} {H : Hp} {R : It → Hp → Prop} (h : tI K (fiSeq fe) σ H R) : iSeq K fe σ H R := by
  obtain ⟨Fz, ρ, items, ρ', r, e, q⟩ := h
  refine tE_mono (seq_state (R := fun x v H1 => ∃ a, v = .ref a ∧ ((∃ xs, SqL K H1 a xs ∧ R (Itl K a) H1) ∨ ∃ xs, SqT K H1 a xs ∧ R (Itt K a) H1)) ⟨Fz, ρ, items, ρ', r, e, fun v x H1 Fz1 hi p1 d => ?_⟩) fun v H1 ⟨_, z⟩ => z
  cases x with
  | list xs =>
    cases hi
    obtain ⟨a, us, rfl, s1, d1⟩ := Rdg.lst (Fz := Fz1) (H := H1) (K := K) (v := v) (ds := items) (.inl d)
    exact ⟨a, rfl, .inl ⟨us, SqL.of s1, q _ H1 Fz1 p1 (walk_list d)⟩⟩
  | tuple xs =>
    cases hi
    obtain ⟨a, us, rfl, s1, d1⟩ := Rdg.tup (Fz := Fz1) (H := H1) (K := K) (v := v) (ds := items) (.inl d)
    exact ⟨a, rfl, .inr ⟨us, s1, q _ H1 Fz1 p1 (walk_tup d)⟩⟩
  | _ => cases hi
section
variable {X : Cx} {tg iter elt : Expr} {fg : Fg} {ft : Ft} {fe : Fe}
theorem compO_go {K : PySem.W.Frag} {j : Nat} {vs : List Nat} {σ : St} {H : Hp} {Q : VK} (h : tE K (feCompO j fg ft fe vs) σ H Q) : tLc (iSeq K (fVar j)) (tG K (blkFix vs) fg) (tT K ft) (tE K fe) vs σ H Q := by
  obtain ⟨Fz, ρ, w, ρ', r, e, q⟩ := h
  unfold feCompO at e
  cases e1 : frAt ρ j with
  | none =>
    rw [e1] at e
    exact iSeq_of (comp_go (fi := fiSeq (fVar j)) ⟨Fz, ρ, w, ρ', r, e, q⟩)
  | some items =>
    simp only [e1] at e
    by_cases hv0 : j ∉ vs ∧ vs.all (fun i => (frAt ρ i).isNone) = true
    · rw [if_pos hv0] at e
      obtain ⟨hjv, hv⟩ := hv0
      cases e2 : compD j fg ft fe vs (items.length + 1) 0 ρ [] with
      | none => rw [e2] at e; cases e
      | some z =>
        obtain ⟨ys, ρ2⟩ := z
        simp only [e2, Option.bind_some] at e
        cases e
        have ej := frAt_some e1
        obtain ⟨va, hva, a, usa, rfl, hla, dla⟩ := r.val j _ ej
        refine ⟨Fz, ρ, .sl j, ρ, r, by unfold fVar; rw [ej], fun v H1 Fz1 p1v => ?_⟩
        have hvv : σ[j]? = some (some v) := p1v.rep1
        rw [hva] at hvv
        cases hvv
        have p1 := p1v.drop
        obtain ⟨vb, hvb, b, usb, eb, hlb, dlb⟩ := p1.rel.val j _ ej
        rw [hva] at hvb
        cases hvb
        cases eb
        refine ⟨a, rfl, .inl ⟨usb, SqL.of hlb, fun D hD => ?_⟩⟩
        have hsl : ∀ {ρi : Rho} {Fzi : Addr → Prop} {Hi : Hp} {cur : List PyData}, Rel K Fzi (wipeR ρi vs) (wipe σ vs) Hi → frAt ρi j = some cur → ∃ us, Hi a = some (.lst us) ∧ DrAll K Fzi Hi us cur := fun {ρi Fzi Hi cur} ri ec => by
          obtain ⟨v, hv1, p, us, e1, e2, e3⟩ := ri.val j (.fr cur) (by rw [wipeR_out hjv]; exact frAt_some ec)
          rw [wipe_out hjv, hva] at hv1
          cases hv1
          cases e1
          exact ⟨us, e2, e3⟩
        obtain ⟨rw1, ow1⟩ := p1.rel.wiped vs
        have nofr : ∀ i xs, i ∈ vs → ρ[i]? ≠ some (some (W.fr xs)) := fun i xs hi z => by
          have := List.all_eq_true.mp hv i hi
          unfold frAt at this
          rw [z] at this
          cases this
        have ownEq : ∀ p, Own ρ σ p → Own (wipeR ρ vs) (wipe σ vs) p := fun p ⟨i, xs, z1, z2⟩ => by
          have hi : i ∉ vs := fun hi => nofr i xs hi z1
          exact ⟨i, xs, by rw [wipeR_out hi]; exact z1, by rw [wipe_out hi]; exact z2⟩
        have nfD : ¬ Fz1 D := fun z => p1.rel.fzl D z hD
        have k0 := upd_new (o := HO.lst []) hD
        have st0 : Step (Own (wipeR ρ vs) (wipe σ vs)) Fz1 Fz1 H1 (upd H1 D (.lst [])) := ⟨fun q z e => p1.rel.fzl q z (upd_live q e), fun q o e _ => k0 q o e, upd_live, fun _ z => z, fun _ z => .inl z⟩
        refine ⟨fun i m Hi => ∃ Fzi ρi acc us, Rel K Fzi (wipeR ρi vs) (wipe σ vs) Hi ∧ Step (Own (wipeR ρ vs) (wipe σ vs)) Fz1 Fzi H1 Hi ∧ (∀ p, Own (wipeR ρi vs) (wipe σ vs) p → Own (wipeR ρ vs) (wipe σ vs) p) ∧
          Kp (wipeR ρ vs) (wipeR ρi vs) ∧ ρi.length = ρ.length ∧ Hi D = some (.lst us) ∧ DrAll K Fzi Hi us acc ∧ ¬ Fzi D ∧ compD j fg ft fe vs m i ρi acc = some (ys, ρ2), ⟨items.length + 1, Fz1, ρ, [], [], ?_, st0, fun _ z => z, .refl, rfl, upd_same, .nil, nfD, e2⟩, ?_⟩
        · exact rw1.step0 ⟨st0.fzl, fun q o e _ => k0 q o e, upd_live, fun _ z => z, fun _ z => .inl z⟩ fun _ z => .inl z
        rintro i m Hi ⟨Fzi, ρi, acc, us, ri, sti, owi, kpi, lni, hDi, dai, nfi, ei⟩
        have nown : ∀ {ρ' : Rho} {σ' : St}, (∀ p, Own ρ' σ' p → Own (wipeR ρi vs) (wipe σ vs) p) → ¬ Own ρ' σ' D := fun sub z => by
          obtain ⟨j, xs, z1, z2⟩ := owi D (sub D z)
          obtain ⟨u, hu, p', us', y1, y2, _⟩ := rw1.val j _ z1
          rw [z2] at hu; cases hu; cases y1
          rw [hD] at y2; cases y2
        cases m with
        | zero => cases ei
        | succ m =>
        unfold compD at ei
        cases ec : frAt ρi j with
        | none => rw [ec] at ei; cases ei
        | some cur =>
        simp only [ec, Option.bind_some] at ei
        obtain ⟨uc, huc, dcc⟩ := hsl ri ec
        cases hx : cur[i]? with
        | some x =>
          right
          simp only [hx] at ei
          obtain ⟨vx, hvx, dvx⟩ := dcc.get hx
          have go : (Itl K a).go i Hi := ⟨uc, vx, SqL.of huc, hvx⟩
          cases e3 : fg x (wipeR ρi vs) with
          | none => rw [e3] at ei; cases ei
          | some ρa =>
            simp only [e3, Option.bind_some] at ei
            cases e4 : ft ρa with
            | none => rw [e4] at ei; cases ei
            | some zt =>
              obtain ⟨b, ρb⟩ := zt
              simp only [e4, Option.bind_some] at ei
              refine ⟨go, fun H' => ∃ Fzi ρi acc us, Rel K Fzi (wipeR ρi vs) (wipe σ vs) H' ∧ Step (Own (wipeR ρ vs) (wipe σ vs)) Fz1 Fzi H1 H' ∧ (∀ p, Own (wipeR ρi vs) (wipe σ vs) p → Own (wipeR ρ vs) (wipe σ vs) p) ∧
                Kp (wipeR ρ vs) (wipeR ρi vs) ∧ ρi.length = ρ.length ∧ H' D = some (.lst us) ∧ DrAll K Fzi H' us acc ∧ ¬ Fzi D ∧ compD j fg ft fe vs m (i + 1) ρi acc = some (ys, ρ2), fun H' h2 => ⟨m, Nat.lt_succ_self m, h2⟩, fun v H2 yv => ?_⟩
              obtain ⟨eH, yv⟩ := yv
              have eH' := eH.symm
              subst eH'
              have hvx' := yv _ (SqL.of huc)
              rw [hvx] at hvx'
              cases hvx'
              obtain ⟨Fz2, md⟩ : ∃ Fz2, Made K Fzi Fz2 Hi Hi (.d x) vx := ⟨Fzi, .val ri.fzl dvx⟩
              have r2 : Rel K Fz2 (wipeR ρi vs) (wipe σ vs) Hi := ri.step0 md.step md.new
              have st2 : Step (Own (wipeR ρi vs) (wipe σ vs)) Fzi Fz2 Hi Hi := md.step
              refine ⟨Fz2, wipeR ρi vs, x, ρa, r2, md.rep, e3, fun σa pa oa => ?_⟩
              have wq : wipe σa vs = wipe σ vs := wipe_eq (by rw [pa.len, wipe_length]) pa.same
              refine ⟨wq, Fz2, ρa, b, ρb, pa.rel, e4, fun H3 Fz3 p3 => ?_⟩
              have spa : SPost K (blkFix vs) Fzi Fz2 (wipeR ρi vs) ρa (wipe σ vs) σa Hi Hi := ⟨pa.rel, st2.trans pa.step fun q z => .inl z, fun p z => .inl (oa p z), pa.same, pa.kept, pa.len⟩
              have back : ∀ {Fzc ρc Hc}, PostL K Fz2 Fzc ρa ρc σa Hi Hc [] [] → Rel K Fzc (wipeR ρc vs) (wipe σ vs) Hc ∧ Step (Own (wipeR ρ vs) (wipe σ vs)) Fz1 Fzc H1 Hc ∧ (∀ p, Own (wipeR ρc vs) (wipe σ vs) p → Own (wipeR ρ vs) (wipe σ vs) p) ∧
                  Kp (wipeR ρ vs) (wipeR ρc vs) ∧ ρc.length = ρ.length ∧ Hc D = some (.lst us) ∧ DrAll K Fzc Hc us acc ∧ ¬ Fzc D ∧ ¬ Own (wipeR ρc vs) (wipe σ vs) D := by
                intro Fzc ρc Hc pc
                have sp := spa.trans (pc.sp (fix := blkFix vs))
                obtain ⟨x1, x2⟩ := sp.rel.wiped vs
                rw [wq] at x1 x2
                have ownc : ∀ p, Own (wipeR ρc vs) (wipe σ vs) p → Own (wipeR ρi vs) (wipe σ vs) p := fun p z => oa p (pc.own p (x2 p z))
                refine ⟨x1, sti.trans sp.step fun q z => .inl (owi q z), fun p z => owi p (ownc p z), kpi.trans fun k w z => ?_, ?_, sp.step.keep D _ hDi (nown fun _ z => z), ri.drAll sp.step dai, fun z => ?_, nown ownc⟩
                · obtain ⟨z1, z2⟩ := wipeR_some z
                  obtain ⟨w', y1, y2⟩ := sp.kept k w (by simp [blkFix, z2]) z
                  exact ⟨w', by rw [wipeR_out z2]; exact y1, y2⟩
                · have := sp.rel.len
                  rw [sp.len, wipe_length, ← p1.rel.len] at this
                  exact this
                · rcases sp.step.new D z with z | z | z
                  · exact nfi z
                  · rw [hDi] at z; cases z
                  · exact nown (fun _ z => z) z
              cases b with
              | false =>
                rw [if_neg (by decide)] at ei
                dsimp only
                rw [if_neg (by decide)]
                obtain ⟨x1, x2, x3, x4, x5, x6, x7, x8, _⟩ := back p3
                exact ⟨Fz3, ρb, acc, us, x1, x2, x3, x4, x5, x6, x7, x8, ei⟩
              | true =>
                rw [if_pos rfl] at ei
                dsimp only
                rw [if_pos rfl]
                cases e5 : fe ρb with
                | none => rw [e5] at ei; cases ei
                | some zf =>
                  obtain ⟨wv, ρc⟩ := zf
                  simp only [e5, Option.bind_some] at ei
                  cases e6 : esc1 ρc wv with
                  | none => rw [e6] at ei; cases ei
                  | some ze =>
                    obtain ⟨y, ρd⟩ := ze
                    simp only [e6, Option.bind_some] at ei
                    by_cases hz : acc.length < 16777216
                    · rw [if_pos hz] at ei
                      refine ⟨Fz3, ρb, wv, ρc, p3.rel, e5, fun v4 H4 Fz4 p4 => ?_⟩
                      obtain ⟨Fz5, p5, d5⟩ := p4.esc (xs := [y]) (ρ2 := ρd) (by unfold escAll; rw [e6]; rfl)
                      cases d5 with
                      | cons dy _ =>
                        obtain ⟨x1, x2, x3, x4, x5, x6, x7, x8, x9⟩ := back (p3.seq p5)
                        have hk : ∀ q o, H4 q = some o → q ≠ D → upd H4 D (HO.lst (us ++ [v4])) q = some o := fun q o z h => by rw [upd_ne h]; exact z
                        have hstep : ∀ {Ow : Addr → Prop}, (∀ q, Fz5 q → q ≠ D) := fun q z h => x8 (h ▸ z)
                        have drk : ∀ {v x}, Dr K Fz5 H4 v x → Dr K Fz5 (upd H4 D (HO.lst (us ++ [v4]))) v x := fun h => h.keep (fun _ z => z) (fun q o z e => hk q o e fun h => x8 (h ▸ z)) _ _
                        have drak : ∀ {vs xs}, DrAll K Fz5 H4 vs xs → DrAll K Fz5 (upd H4 D (HO.lst (us ++ [v4]))) vs xs := fun h => h.keep (fun _ z => z) (fun q o z e => hk q o e fun h => x8 (h ▸ z)) _ _
                        refine ⟨us, x6, by rw [x7.length, sizeLine_eq]; exact hz, Fz5, ρd, acc ++ [y], us ++ [v4], ?_, ?_, x3, x4, x5, upd_same, drak (x7.append (.cons dy .nil)), x8, ei⟩
                        · refine ⟨x1.len, fun j w z => ?_, x1.apart, x1.nofz, fun q z e => x1.fzl q z (upd_live q e)⟩
                          obtain ⟨u, h1, h2⟩ := x1.val j w z
                          refine ⟨u, h1, ?_⟩
                          cases w with
                          | d x => exact drk h2
                          | sl _ => exact h2
                          | fr xs =>
                            obtain ⟨pp, us', y1, y2, y3⟩ := h2
                            subst y1
                            exact ⟨pp, us', rfl, hk pp _ y2 fun h => x9 ⟨j, xs, z, h ▸ h1⟩, drak y3⟩
                        · refine ⟨fun q z e => x1.fzl q z (upd_live q e), fun q o e n => hk q o (x2.keep q o e n) fun h => ?_, fun q e => x2.live q (upd_live q e), x2.grow, x2.new⟩
                          subst h
                          rw [hD] at e; cases e
                    · rw [if_neg hz] at ei; cases ei
        | none =>
          left
          simp only [hx] at ei
          cases ei
          have w2 : (Itl K a).stop i Hi := ⟨uc, SqL.of huc, by rw [dcc.length]; exact List.getElem?_eq_none_iff.mp hx⟩
          have own' : ∀ p, Own (restR ρ ρ2 vs) σ p → Own (wipeR ρ2 vs) (wipe σ vs) p := fun p ⟨j, xs, z1, z2⟩ => by
            rcases restR_some z1 with ⟨h1, h2⟩ | ⟨h1, h2⟩
            · exact absurd h2 (nofr j xs h1)
            · exact ⟨j, xs, by rw [wipeR_out h1]; exact h2, by rw [wipe_out h1]; exact z2⟩
          have stt : Step (Own ρ σ) Fz1 Fzi H1 Hi := sti.weak ow1
          refine ⟨w2, q (.ref D) Hi Fzi ⟨⟨?_, fun j w z => ?_, fun j k xs ys' p z1 z2 z3 z4 => ?_, fun p z => ri.nofz p (own' p z), ri.fzl⟩, .cons ⟨D, us, rfl, hDi, dai⟩ .nil, fun p hp => ?_, frs_one_nd, p1.step.trans stt fun q z => .inl (p1.own q z), fun p z => p1.own p (ow1 p (owi p (own' p z))), p1.kept.trans fun k w z => ?_⟩⟩
          · rw [restR_length, lni]; exact p1.rel.len
          · rcases restR_some z with ⟨h1, h2⟩ | ⟨h1, h2⟩
            · obtain ⟨u, g1, g2⟩ := p1.rel.val j w h2
              refine ⟨u, g1, ?_⟩
              cases w with
              | d x => exact p1.rel.dr stt g2
              | fr xs => exact absurd h2 (nofr j xs h1)
              | sl _ => exact g2
            · obtain ⟨u, g1, g2⟩ := ri.val j w (by rw [wipeR_out h1]; exact h2)
              exact ⟨u, by rw [wipe_out h1] at g1; exact g1, g2⟩
          · rcases restR_some z1 with ⟨h1, h2⟩ | ⟨h1, h2⟩
            · exact absurd h2 (nofr j xs h1)
            · rcases restR_some z2 with ⟨h3, h4⟩ | ⟨h3, h4⟩
              · exact absurd h4 (nofr k ys' h3)
              · exact ri.apart j k xs ys' p (by rw [wipeR_out h1]; exact h2) (by rw [wipeR_out h3]; exact h4) (by rw [wipe_out h1]; exact z3) (by rw [wipe_out h3]; exact z4)
          · rw [frs_fr] at hp
            have hp : p = D := by simpa [frs] using hp
            subst hp
            exact ⟨p1.step.live p hD, nfi, fun z => nown (fun _ z => z) (own' p z)⟩
          · by_cases hk : k ∈ vs
            · exact ⟨w, restR_in (by rw [lni]; exact getElem?_lt z) z hk, id⟩
            · obtain ⟨w', y1, y2⟩ := kpi k w (by rw [wipeR_out hk]; exact z)
              exact ⟨w', by rw [restR_out hk]; rw [wipeR_out hk] at y1; exact y1, y2⟩
    · rw [if_neg hv0] at e; cases e
theorem de_lcO {j : Nat} {x : Str} {elt tg : Expr} {ifs : List Expr} {scope : Scope} {own : List (Str × Nat)} {vs : List Nat} {p pos : Pos} (hc : X.calm = true) (hN : X.N.Nodup) (hv : own.map (·.2) = vs) (hi : DE X (.Name x p) (fVar j)) (ok : BlkOk X.N X.env.scope scope own)
    (hg : ∀ (s : Shared) (H : Hp) (C : Addr) (cl : List (Str × Addr)) (fp : List Addr), DG (X.blk s H scope (compEnvC scope cl C X.env) fp) (blkFix vs) tg fg) (ht : ∀ (s : Shared) (H : Hp) (C : Addr) (cl : List (Str × Addr)) (fp : List Addr), DTs (X.blk s H scope (compEnvC scope cl C X.env) fp) ifs ft)
    (he : ∀ (s : Shared) (H : Hp) (C : Addr) (cl : List (Str × Addr)) (fp : List Addr), DE (X.blk s H scope (compEnvC scope cl C X.env) fp) elt fe) (hs : ∀ y, foldedSetIterable (.Name x p) X.env y = pure y := by intro _; rfl) :
    DE X (.ListComp elt [⟨tg, .Name x p, ifs, 0⟩] scope pos) (feCompO j fg ft fe vs) := by
  subst hv
  exact ⟨PE.imp (pe_lc hc hN (pi_seq hi.ok) ok (fun s H C cl fp => (hg s H C cl fp).ok) (fun s H C cl fp => (ht s H C cl fp).ok) (fun s H C cl fp => (he s H C cl fp).ok) hs) fun σ H Q h => compO_go h⟩
end
end L2.Q3
end

section
set_option Elab.async false
set_option linter.all false
set_option maxRecDepth 100000
set_option maxHeartbeats 4000000

namespace L2.Q3
open PySem PySem.Spec PyProof.Rows
def oS {α : Type} (o : Option α) (Q : α → Prop) : Prop := ∃ x, o = some x ∧ Q x
theorem oS_some {α : Type} {x : α} {Q : α → Prop} : oS (some x) Q ↔ Q x := ⟨fun ⟨y, e, q⟩ => by cases e; exact q, fun q => ⟨x, rfl, q⟩⟩
theorem oS_none {α : Type} {Q : α → Prop} : oS (none : Option α) Q ↔ False := ⟨fun ⟨y, e, q⟩ => (nomatch e), False.elim⟩
theorem oS_bind {α β : Type} {o : Option α} {f : α → Option β} {Q : β → Prop} : oS (o.bind f) Q ↔ oS o fun x => oS (f x) Q := by
  cases o with
  | none => simp only [Option.bind_none, oS_none]
  | some x => simp only [Option.bind_some, oS_some]
theorem oS_ite {α : Type} {c : Prop} [Decidable c] {a b : Option α} {Q : α → Prop} : oS (if c then a else b) Q ↔ if c then oS a Q else oS b Q := by
  split <;> exact Iff.rfl
theorem oS_ite_none {α : Type} {c : Prop} [Decidable c] {a : Option α} {Q : α → Prop} : oS (if c then a else none) Q ↔ c ∧ oS a Q := by
  by_cases h : c
  · simp [h]
  · simp [h, oS_none]
theorem oS_mono {α : Type} {o : Option α} {Q R : α → Prop} (h : oS o Q) (i : ∀ x, Q x → R x) : oS o R := let ⟨x, e, q⟩ := h; ⟨x, e, i x q⟩

theorem oS_for {fi : Fi} {g : Fg} {b : Fs} {ρ : Rho} {Q : Out × Rho → Prop} (h : oS (fi ρ) fun p => ∃ Inv : List D → Rho → Prop, Inv p.1 p.2 ∧ (∀ ρ, Inv [] ρ → Q (.nx, ρ)) ∧ ∀ x xs ρ, Inv (x :: xs) ρ → oS (g x ρ) fun ρ2 => oS (b ρ2) fun q => match q.1 with
    | .nx => Inv xs q.2
    | .ct => Inv xs q.2
    | .bk => Q (.nx, q.2)
    | .rt r => Q (.rt r, q.2)) : oS (fFor fi g b ρ) Q := by
  unfold fFor
  simp only [oS_bind]
  refine oS_mono h fun p ⟨Inv, h0, hd, hs⟩ => ?_
  obtain ⟨items, ρ1⟩ := p
  have : ∀ (items : List D) (ρ1 : Rho), Inv items ρ1 → oS (forL g b items ρ1) Q := by
    intro items
    induction items with
    | nil => intro ρ1 hi; exact ⟨_, rfl, hd _ hi⟩
    | cons x xs ih =>
      intro ρ1 hi
      unfold forL
      simp only [oS_bind]
      refine oS_mono (hs x xs ρ1 hi) fun ρ2 h => ?_
      refine oS_mono h fun p h => ?_
      obtain ⟨o, ρ3⟩ := p
      cases o with
      | nx => exact ih _ h
      | ct => exact ih _ h
      | bk => exact oS_some.mpr h
      | rt r => exact oS_some.mpr h
  exact this items ρ1 h0
section
variable {ρ : Rho} {Q : W × Rho → Prop} {g : Fg} {t : Ft} {f : Fe} {vs : List Nat}

def Turn1 (g : Fg) (t : Ft) (f : Fe) (vs : List Nat) (x : D) (acc : List D) (ρ : Rho) (K : List D → Rho → Prop) : Prop :=
  oS (g x (wipeR ρ vs)) fun ρ1 => oS (t ρ1) fun p => if p.1 = true then oS (f p.2) fun q => oS (esc1 q.2 q.1) fun z => acc.length < 16777216 ∧ K (acc ++ [z.1]) z.2 else K acc p.2
theorem compL_inv {Inv : List D → List D → Rho → Prop} {R : List D → Rho → Prop} (hd : ∀ acc ρ, Inv [] acc ρ → R acc ρ) (hs : ∀ x xs acc ρ, Inv (x :: xs) acc ρ → Turn1 g t f vs x acc ρ (Inv xs)) :
    ∀ (items acc : List D) (ρ : Rho), Inv items acc ρ → oS (compL g t f vs items ρ acc) fun p => R p.1 p.2
  | [], acc, ρ, h => ⟨_, rfl, hd _ _ h⟩
  | x :: xs, acc, ρ, h => by
    unfold compL
    simp only [oS_bind]
    refine oS_mono (hs x xs acc ρ h) fun ρ1 h => oS_mono h fun p h => ?_
    obtain ⟨b, ρ2⟩ := p
    cases b with
    | true =>
      simp only [if_true, oS_bind] at h ⊢
      refine oS_mono h fun q h => oS_mono h fun z h => ?_
      rw [oS_ite_none]
      exact ⟨h.1, compL_inv hd hs xs _ _ h.2⟩
    | false => exact compL_inv hd hs xs acc ρ2 h
theorem oS_comp {fi : Fi} (h : oS (fi ρ) fun p => vs.all (fun i => (frAt p.2 i).isNone) = true ∧ ∃ Inv : List D → List D → Rho → Prop, Inv p.1 [] p.2 ∧ (∀ acc ρ, Inv [] acc ρ → Q (.fr acc, restR p.2 ρ vs)) ∧ ∀ x xs acc ρ, Inv (x :: xs) acc ρ → Turn1 g t f vs x acc ρ (Inv xs)) :
    oS (feComp fi g t f vs ρ) Q := by
  unfold feComp
  simp only [oS_bind]
  refine oS_mono h fun p ⟨hv, Inv, h0, hd, hs⟩ => ?_
  rw [oS_ite_none]
  refine ⟨hv, ?_⟩
  simp only [oS_bind, oS_some]
  exact compL_inv (R := fun acc ρ' => Q (.fr acc, restR p.2 ρ' vs)) hd hs p.1 [] p.2 h0

theorem oS_compO {j : Nat} {xs : List D} (e : frAt ρ j = some xs) (hj : j ∉ vs) (hv : vs.all (fun i => (frAt ρ i).isNone) = true) (Inv : List D → List D → Rho → Prop) (h0 : Inv xs [] ρ) (hd : ∀ acc ρ', Inv [] acc ρ' → Q (.fr acc, restR ρ ρ' vs)) (hk : ∀ ys acc ρ', Inv ys acc ρ' → frAt ρ' j = some xs)
    (hs : ∀ x ys acc ρ', Inv (x :: ys) acc ρ' → Turn1 g t f vs x acc ρ' (Inv ys)) : oS (feCompO j g t f vs ρ) Q := by
  unfold feCompO
  rw [e]
  simp only
  rw [oS_ite_none]
  refine ⟨⟨hj, hv⟩, ?_⟩
  simp only [oS_bind, oS_some]
  have main : ∀ (k i : Nat) (acc : List D) (ρ' : Rho), i + k = xs.length → Inv (xs.drop i) acc ρ' → oS (compD j g t f vs (k + 1) i ρ' acc) fun p => Q (.fr p.1, restR ρ p.2 vs) := by
    intro k
    induction k with
    | zero =>
      intro i acc ρ' hi hI
      unfold compD
      rw [hk _ _ _ hI]
      have e1 : xs[i]? = none := List.getElem?_eq_none (by omega)
      simp only [Option.bind_some, e1]
      rw [List.drop_eq_nil_of_le (by omega)] at hI
      exact ⟨_, rfl, hd _ _ hI⟩
    | succ k ih =>
      intro i acc ρ' hi hI
      unfold compD
      rw [hk _ _ _ hI]
      have hlt : i < xs.length := by omega
      have e1 : xs[i]? = some xs[i] := List.getElem?_eq_getElem hlt
      simp only [Option.bind_some, e1]
      rw [List.drop_eq_getElem_cons hlt] at hI
      simp only [oS_bind]
      refine oS_mono (hs _ _ acc ρ' hI) fun ρ1 h => oS_mono h fun p h => ?_
      obtain ⟨b, ρ2⟩ := p
      cases b with
      | true =>
        simp only [if_true, oS_bind] at h ⊢
        refine oS_mono h fun q h => oS_mono h fun z h => ?_
        rw [oS_ite_none]
        exact ⟨h.1, ih (i + 1) _ _ (by omega) h.2⟩
      | false => exact ih (i + 1) acc ρ2 (by omega) h
  exact main xs.length 0 [] ρ (by omega) (by simpa using h0)
end

theorem fn_wp {fx : List Bool} {n : Nat} {fs : Fs} {ws : List W} {Q : W × List W → Prop} (hl : ws.length = fx.length) (hf : noFr ws fx = true) (h : oS (fs (ws.map some ++ List.replicate (n - fx.length) none)) fun p => match p.1 with
    | .rt r => Q (r, finOf fx.length p.2)
    | .nx => Q (.d .none, finOf fx.length p.2)
    | _ => False) : oS (fnOf fx n fs ws) Q := by
  unfold fnOf
  rw [oS_ite_none]
  refine ⟨⟨hl, hf⟩, ?_⟩
  simp only [oS_bind]
  refine oS_mono h fun p h => ?_
  obtain ⟨o, ρ⟩ := p
  cases o with
  | rt r => exact oS_some.mpr h
  | nx => exact oS_some.mpr h
  | bk => exact h.elim
  | ct => exact h.elim
end L2.Q3
end

section
set_option Elab.async false
set_option linter.all false
set_option maxRecDepth 100000
set_option maxHeartbeats 4000000
namespace L2.Q3
open PySem PySem.Spec PyProof.Rows
section
variable {ρ : Rho}
theorem o_seq {f g : Fs} {Q} : oS (fSeq f g ρ) Q ↔ oS (f ρ) fun p => oS (match p.1 with | .nx => g p.2 | o => some (o, p.2)) Q := oS_bind
theorem o_if {t : Ft} {f g : Fs} {Q} : oS (fIf t f g ρ) Q ↔ oS (t ρ) fun p => oS (if p.1 = true then f p.2 else g p.2) Q := oS_bind
theorem o_nx {Q} : oS (fNx ρ) Q ↔ Q (.nx, ρ) := oS_some
theorem o_set {i : Nat} {f : Fe} {Q} : oS (fSet i f ρ) Q ↔ oS (f ρ) fun p => oS (setW i p.2 p.1) fun ρ2 => Q (.nx, ρ2) := by unfold fSet; simp only [oS_bind, oS_some]
theorem o_ret {np : Nat} {f : Fe} {Q} : oS (fRet np f ρ) Q ↔ oS (f ρ) fun p => oS (outW np p.2 p.1) fun q => Q (.rt q.1, q.2) := by unfold fRet; simp only [oS_bind, oS_some]
theorem o_drop {f : Fe} {Q} : oS (fDrop f ρ) Q ↔ oS (f ρ) fun p => Q (.nx, p.2) := by unfold fDrop; simp only [oS_bind, oS_some]
theorem o_store {fe fo fi : Fe} {Q} : oS (fStore fe fo fi ρ) Q ↔ oS (faCons fe (faCons fo (faCons fi faNil)) ρ) fun p => oS (match p.1 with
  | [w, .sl s, wi] => (rdW p.2 wi).bind fun xi => match xi with
    | .int k => (escAll p.2 [w]).bind fun z => match z.1 with
      | [x] => (frAt z.2 s).bind fun xs => (ixN xs.length k).bind fun j => some (.nx, z.2.set s (some (.fr (xs.set j x))))
      | _ => none
    | _ => none
  | _ => none) Q := oS_bind
theorem o_C {x : D} {Q} : oS (fC x ρ) Q ↔ Q (.d x, ρ) := oS_some
theorem o_var {i : Nat} {Q} : oS (fVar i ρ) Q ↔ oS (match ρ[i]? with | some (some (.d x)) => some (.d x, ρ) | some (some (.fr _)) => some (.sl i, ρ) | _ => none) Q := Iff.rfl
theorem o_atom {g : List D → Option W} {f : Fa} {Q} : oS (feAtom g f ρ) Q ↔ oS (f ρ) fun p => oS (rdAll p.2 p.1) fun xs => oS (g xs) fun w => Q (w, p.2) := by unfold feAtom; simp only [oS_bind, oS_some]
theorem o_nil {Q} : oS (faNil ρ) Q ↔ Q ([], ρ) := oS_some
theorem o_cons {f : Fe} {g : Fa} {Q} : oS (faCons f g ρ) Q ↔ oS (f ρ) fun p => oS (g p.2) fun q => Q (p.1 :: q.1, q.2) := by unfold faCons; simp only [oS_bind, oS_some]
theorem o_tB {f : Fe} {Q} : oS (ftB f ρ) Q ↔ oS (f ρ) fun p => oS (match p.1 with | .d (.bool b) => some (b, p.2) | _ => none) Q := oS_bind
theorem o_tV {f : Fe} {Q} : oS (ftV f ρ) Q ↔ oS (f ρ) fun p => oS (rdW p.2 p.1) fun x => oS (tru x) fun b => Q (b, p.2) := by unfold ftV; simp only [oS_bind, oS_some]
theorem o_tNot {f : Ft} {Q} : oS (ftNot f ρ) Q ↔ oS (f ρ) fun p => Q (!p.1, p.2) := by unfold ftNot; simp only [oS_bind, oS_some]
theorem o_tAnd {f g : Ft} {Q} : oS (ftAnd f g ρ) Q ↔ oS (f ρ) fun p => oS (if p.1 = true then g p.2 else some (false, p.2)) Q := oS_bind
theorem o_tOr {f g : Ft} {Q} : oS (ftOr f g ρ) Q ↔ oS (f ρ) fun p => oS (if p.1 = true then some (true, p.2) else g p.2) Q := oS_bind
theorem o_tY {Q} : oS (ftYes ρ) Q ↔ Q (true, ρ) := oS_some
theorem o_and {f g : Fe} {Q} : oS (feAnd f g ρ) Q ↔ oS (ftB f ρ) fun p => oS (if p.1 = true then g p.2 else some (.d (.bool false), p.2)) Q := oS_bind
theorem o_or {f g : Fe} {Q} : oS (feOr f g ρ) Q ↔ oS (ftB f ρ) fun p => oS (if p.1 = true then some (.d (.bool true), p.2) else g p.2) Q := oS_bind
theorem o_not {f : Fe} {Q} : oS (feNot f ρ) Q ↔ oS (ftB f ρ) fun p => Q (.d (.bool (!p.1)), p.2) := by unfold feNot; simp only [oS_bind, oS_some]
theorem o_ifE {t : Ft} {f g : Fe} {Q} : oS (feIf t f g ρ) Q ↔ oS (t ρ) fun p => oS (if p.1 = true then f p.2 else g p.2) Q := oS_bind
theorem o_chain {g g' : List D → Option W} {fa fb fc : Fe} {Q} : oS (feChain g g' fa fb fc ρ) Q ↔ oS (faCons fa (faCons fb faNil) ρ) fun p => oS (rdAll p.2 p.1) fun xs => oS (g xs) fun w => oS (match w with
  | .d (.bool true) => (fc p.2).bind fun q => match p.1 with
    | [_, y] => (rdAll q.2 [y, q.1]).bind fun ys => (g' ys).bind fun w => some (w, q.2)
    | _ => none
  | .d (.bool false) => some (.d (.bool false), p.2)
  | _ => none) Q := by unfold feChain; simp only [oS_bind] <;> exact Iff.rfl
theorem o_tup {f : Fa} {Q} : oS (feTup f ρ) Q ↔ oS (f ρ) fun p => oS (escAll p.2 p.1) fun q => q.1.length ≤ 16777216 ∧ Q (.d (.tuple q.1), q.2) := by unfold feTup; simp only [oS_bind, oS_ite_none, oS_some]
theorem o_lst {f : Fa} {Q} : oS (feLst f ρ) Q ↔ oS (f ρ) fun p => oS (escAll p.2 p.1) fun q => q.1.length ≤ 16777216 ∧ Q (.fr q.1, q.2) := by unfold feLst; simp only [oS_bind, oS_ite_none, oS_some]
theorem o_call {F : Fn} {f : Fa} {Q} : oS (feCall F f ρ) Q ↔ oS (f ρ) fun p => oS (argsOf p.2 p.1) fun as => (slots p.1).Nodup ∧ oS (F as) fun r => r.2.length = p.1.length ∧ Q (r.1, putBack p.2 p.1 r.2) := by unfold feCall; simp only [oS_bind, oS_ite_none, oS_some]
theorem o_isi {n : String} {f : Fe} {Q} : oS (feIsi n f ρ) Q ↔ oS (f ρ) fun p => oS (rdW p.2 p.1) fun x => oS (gIsi n x) fun b => Q (.d (.bool b), p.2) := by unfold feIsi; simp only [oS_bind, oS_some]
theorem o_foN {Q} : oS (foN ρ) Q ↔ Q (none, ρ) := oS_some
theorem o_foS {f : Fe} {Q} : oS (foS f ρ) Q ↔ oS (f ρ) fun p => oS (match p.1 with | .d (.int i) => some (some i, p.2) | _ => none) Q := oS_bind
theorem o_sl {f : Fe} {l h : Fo} {Q} : oS (feSl f l h ρ) Q ↔ oS (f ρ) fun p => oS (l p.2) fun l => oS (h l.2) fun u => oS (rdW u.2 p.1) fun x => oS (gSl x l.1 u.1) fun w => Q (w, u.2) := by unfold feSl; simp only [oS_bind, oS_some]
theorem o_meth {m : List D → List D → Option (D × List D)} {fo : Fe} {fa : Fa} {Q} : oS (feMeth m fo fa ρ) Q ↔ oS (fo ρ) fun p => oS (match p.1 with
  | .sl i => if (frAt p.2 i).isSome then (fa p.2).bind fun q => (escAll q.2 q.1).bind fun z => (frAt z.2 i).bind fun xs => (m xs z.1).bind fun r => some (.d r.1, z.2.set i (some (.fr r.2))) else none
  | _ => none) Q := oS_bind
theorem o_sm {m : D → List D → Option D} {fo : Fe} {fa : Fa} {Q} : oS (feSm m fo fa ρ) Q ↔ oS (fo ρ) fun p => oS (match p.1 with
  | .d (.str z) => (fa p.2).bind fun q => (rdAll q.2 q.1).bind fun ys => (m (.str z) ys).bind fun x => some (.d x, q.2)
  | _ => none) Q := oS_bind
theorem o_dict1 {x : Str} {f : Fe} {Q} : oS (feDict1 x f ρ) Q ↔ oS (f ρ) fun p => oS (esc1 p.2 p.1) fun z => Q (.d (.dict [(.str x, z.1)]), z.2) := by unfold feDict1; simp only [oS_bind, oS_some]
theorem o_rev {f g : Fe} {Q} : oS (feRev f g ρ) Q ↔ oS (faCons f (faCons g faNil) ρ) fun p => oS (rdAll p.2 p.1) fun xs => oS (match xs with
  | [.tuple xs, .int k] => if k = -1 then some (.d (.tuple xs.reverse), p.2) else none
  | _ => none) Q := by unfold feRev; simp only [oS_bind] <;> exact Iff.rfl
theorem o_iseq {f : Fe} {Q} : oS (fiSeq f ρ) Q ↔ oS (f ρ) fun p => oS (esc1 p.2 p.1) fun z => oS (itemsOf z.1) fun xs => Q (xs, z.2) := by unfold fiSeq; simp only [oS_bind, oS_some]
theorem o_R1 {f : Fa} {Q} : oS (fiR1 f ρ) Q ↔ oS (f ρ) fun p => oS (rdAll p.2 p.1) fun xs => oS (match xs with
  | [.int j] => if j < 2 ^ 62 ∧ -(2 ^ 62) ≤ j then some (rangeD 0 j.toNat, p.2) else none
  | _ => none) Q := by unfold fiR1; simp only [oS_bind] <;> exact Iff.rfl
theorem o_enum {f : Fe} {Q} : oS (fiEnum f ρ) Q ↔ oS (fiSeq f ρ) fun p => Q (enumD p.1, p.2) := by unfold fiEnum; simp only [oS_bind, oS_some]
theorem o_zip {f g : Fe} {Q} : oS (fiZip f g ρ) Q ↔ oS (faCons f (faCons g faNil) ρ) fun p => oS (escAll p.2 p.1) fun z => oS (match z.1 with
  | [x, y] => (itemsOf x).bind fun xs => (itemsOf y).bind fun ys => some (zipD xs ys, z.2)
  | _ => none) Q := by unfold fiZip; simp only [oS_bind] <;> exact Iff.rfl
theorem g_mod {i j : Int} {Q} : oS (gMod [.int i, .int j]) Q ↔ 0 < j ∧ Q (.d (.int (i % j))) := by
  show oS (if decide (0 < j) = true then _ else none) Q ↔ _
  rw [oS_ite_none, oS_some]; simp
theorem g_div {i j : Int} {Q} : oS (gDiv [.int i, .int j]) Q ↔ (0 < j ∧ j < 1073741824) ∧ Q (.d (.int (i / j))) := by
  show oS (if (decide (0 < j) && decide (j < 1073741824)) = true then _ else none) Q ↔ _
  rw [oS_ite_none, oS_some]; simp
theorem g_mul {i j : Int} {Q} : oS (gMul [.int i, .int j]) Q ↔ ((-(2 ^ 64) < i ∧ i < 2 ^ 64) ∨ (-(2 ^ 64) < j ∧ j < 2 ^ 64)) ∧ Q (.d (.int (i * j))) := by
  show oS (if ((decide (-(2 ^ 64) < i) && decide (i < 2 ^ 64)) || (decide (-(2 ^ 64) < j) && decide (j < 2 ^ 64))) = true then _ else none) Q ↔ _
  rw [oS_ite_none, oS_some]; simp
theorem g_sub {i j : Int} {Q} : oS (gSub [.int i, .int j]) Q ↔ Q (.d (.int (i - j))) := oS_some
theorem g_add {i j : Int} {Q} : oS (gAdd [.int i, .int j]) Q ↔ Q (.d (.int (i + j))) := oS_some
theorem g_addT {a b : List D} {Q} : oS (gAdd [.tuple a, .tuple b]) Q ↔ a.length + b.length ≤ 16777216 ∧ Q (.d (.tuple (a ++ b))) := by
  show oS (if _ then _ else none) Q ↔ _
  rw [oS_ite_none, oS_some]
theorem g_addL {a b : List D} {Q} : oS (gAdd [.list a, .list b]) Q ↔ a.length + b.length ≤ 16777216 ∧ Q (.fr (a ++ b)) := by
  show oS (if _ then _ else none) Q ↔ _
  rw [oS_ite_none, oS_some]
theorem g_addS {a b : Str} {Q} : oS (gAdd [.str a, .str b]) Q ↔ a.length + b.length ≤ 16777216 ∧ Q (.d (.str (a ++ b))) := by
  show oS (if _ then _ else none) Q ↔ _
  rw [oS_ite_none, oS_some]
theorem g_cmp {p : Int → Int → Bool} {q : List Nat → List Nat → Bool} {i j : Int} {Q} : oS (gCmp p q [.int i, .int j]) Q ↔ Q (.d (.bool (p i j))) := oS_some
theorem g_eqI {i j : Int} {Q} : oS (gEq2 [.int i, .int j]) Q ↔ Q (.d (.bool (i == j))) := by
  show oS (gEq false [.int i, .int j]) Q ↔ _
  show oS (if SeqAt.shaped (.int i) = true ∧ SeqAt.shaped (.int j) = true then some (W.d (PyData.bool (PyData.eqv (.int i) (.int j) != false))) else none) Q ↔ _
  rw [if_pos ⟨rfl, rfl⟩, oS_some]
  simp [PyData.eqv]
theorem g_neI {i j : Int} {Q} : oS (gEq true [.int i, .int j]) Q ↔ Q (.d (.bool (!(i == j)))) := by
  show oS (if SeqAt.shaped (.int i) = true ∧ SeqAt.shaped (.int j) = true then some (W.d (PyData.bool (PyData.eqv (.int i) (.int j) != true))) else none) Q ↔ _
  rw [if_pos ⟨rfl, rfl⟩, oS_some]
  simp [PyData.eqv]
theorem g_ixL {xs : List D} {i : Int} {Q} : oS (gIx [.list xs, .int i]) Q ↔ oS (atI xs i) fun x => Q (.d x) := by
  show oS ((atI xs i).bind _) Q ↔ _
  rw [oS_bind]; simp only [oS_some]
theorem g_ixT {xs : List D} {i : Int} {Q} : oS (gIx [.tuple xs, .int i]) Q ↔ oS (atI xs i) fun x => Q (.d x) := by
  show oS ((atI xs i).bind _) Q ↔ _
  rw [oS_bind]; simp only [oS_some]
theorem g_ixC {xs : List D} {i : Int} {Q} : oS (gIx [.dict [(.none, .list xs)], .int i]) Q ↔ oS (atI xs i) fun x => Q (.d x) := by
  show oS ((atI xs i).bind _) Q ↔ _
  rw [oS_bind]; simp only [oS_some]
theorem oS_atI {α : Type} {xs : List α} {i : Int} {Q : α → Prop} (h0 : 0 ≤ i) (h1 : i < xs.length) (h : ∀ x, x ∈ xs → xs[i.toNat]? = some x → Q x) : oS (atI xs i) Q := by
  unfold atI ixN
  rw [if_pos h0, if_pos h1, Option.bind_some]
  have hl : i.toNat < xs.length := by omega
  exact ⟨xs[i.toNat], List.getElem?_eq_getElem hl, h _ (List.getElem_mem hl) (List.getElem?_eq_getElem hl)⟩
theorem atI_lit0 {α : Type} {a : α} {xs : List α} : atI (a :: xs) 0 = some a := by
  unfold atI ixN
  rw [if_pos (by decide), if_pos (by simp <;> omega)]
  rfl
theorem atI_lit1 {α : Type} {a b : α} {xs : List α} : atI (a :: b :: xs) 1 = some b := by
  unfold atI ixN
  rw [if_pos (by decide), if_pos (by simp <;> omega)]
  rfl
theorem atI_lit2 {α : Type} {a b c : α} {xs : List α} : atI (a :: b :: c :: xs) 2 = some c := by
  unfold atI ixN
  rw [if_pos (by decide), if_pos (by simp <;> omega)]
  rfl
theorem atI_lit3 {α : Type} {a b c d : α} {xs : List α} : atI (a :: b :: c :: d :: xs) 3 = some d := by
  unfold atI ixN
  rw [if_pos (by decide), if_pos (by simp <;> omega)]
  rfl
theorem oS_iteb {α : Type} {b : Bool} {x y : Option α} {Q : α → Prop} : oS (if b = true then x else y) Q ↔ if b = true then oS x Q else oS y Q := oS_ite
end
end L2.Q3
end

section
set_option Elab.async false
set_option linter.all false
set_option maxRecDepth 100000
set_option maxHeartbeats 4000000
namespace L2
open PySem PySem.Spec PyProof.Rows


structure GenHere (X : Cx) : Prop where
  ex : ∃ P, Tb X.K X.mg P ∧ recK X.K X.env.code P
section
variable {X : Cx} {pins : List (Addr × Obj)} {σ : St} {H : Hp} {s : Shared}

theorem gen_code {A : Around} {pos : Pos} {qn : Str} {scope : Scope} {Q : Value → Shared → Prop} {E : Value → Shared → Prop} (I : Inv X pins σ H s) (G : GenHere X)
    (hQ : ∀ code s', Inv X pins σ H s' → (∀ b o, H b = none → s.heap.get? b = some o → s'.heap.get? b = some o) → s'.gens = s.gens → Q code s') :
    wpAny (model X.prog X.w) A (genexprCode X.env pos qn scope) Q E s := by
  obtain ⟨P, hT, c, oc, od, vs, sl, hc, lk, h11, hcl, h11', ⟨f1, f2, h18⟩, ⟨g1, g2, h7⟩, ⟨k1, h9⟩, t1, t2, h10⟩ := G.ex
  obtain ⟨ps, hP⟩ := I.tabs P hT
  obtain ⟨qs, ePt, tri⟩ := I.hok P _ hP
  have ec : s.heap.get? c = some ⟨oc, od, .fields vs, sl⟩ := I.kIn c _ lk
  have nc : H c = none := (I.bs c _ (I.ok.mod.kin c _ lk)).2
  have hne : c ≠ P := fun e => by rw [e, hP] at nc; cases nc
  have hcode : s.heap.IsCode c P qs := ⟨_, vs, f1, f2, g1, g2, k1, t1, t2, _, ec, rfl, h11, h18, h7, h9, h10, ePt, rfl, tri, hne⟩
  have htab : s.heap.TableAt c P qs := ⟨⟨_, vs, ec, hcl, rfl, h11'⟩, ePt⟩
  cases hnf : codeAmong pos qs.toList with
  | some cv =>
    unfold genexprCode codeAt
    rw [hc, if_neg (show ¬ ((Value.ref c == Value.none) = true) from Bool.false_ne_true)]
    refine wpAny_bind (wpAny_fieldsOf ec rfl ?_)
    rw [h11]
    refine wpAny_bind (wpAny_fieldsOf ePt rfl ?_)
    rw [hnf]
    exact wpAny_pure (hQ cv s I (fun _ _ _ e => e) rfl)
  | none =>
    refine wpAny_genexprCodeX hc hcode htab hnf fun c' h' tk hx hge hlt hcode' _ htab' _ => ?_
    obtain ⟨_, _, _, _, _, _, _, _, _, op, _, _, _, _, _, _, _, e1, e2, tri', _⟩ := hcode'
    have kp : ∀ b o, H b = none → s.heap.get? b = some o → h'.get? b = some o := fun b o n e => hx b o (fun z => by rw [z, hP] at n; cases n) e
    obtain ⟨m, ⟨oL, es, ep, hL, rL⟩, _⟩ := id I.loc
    refine hQ _ _ (I.step (g' := s.gens) (d' := s.drawn) (t' := tk) (h' := h') (H' := H) (ch := []) (fun _ z => nomatch z) (fun b o _ _ _ e n => kp b o n e) (fun b o _ _ _ e n => ⟨o.slots, kp b o n e⟩) (fun _ _ _ _ n => n)
      (fun b o _ e => ?_) (fun _ _ e => e) (fun _ _ _ e => e) (fun b ps e => ⟨#[], by rw [e]; simp⟩) (fun m' hm => ?_) (fun b u e => ?_) I.bare.self) kp rfl
    · by_cases hb : b = P
      · rw [hb]; exact ⟨_, htab'.2⟩
      · exact ⟨o, hx b o hb e⟩
    · obtain ⟨o', es', ep', ho', r'⟩ := hm
      exact ⟨o', es', ep', kp _ _ I.free ho', r'⟩
    · by_cases hb : b = P
      · subst hb
        rw [hP] at e
        cases e
        refine ⟨_, htab'.2, ?_⟩
        have e3 := htab'.2
        rw [e1] at e3
        cases e3
        cases e2
        exact tri'
      · refine (I.hok b u e).stay (fun d v hd q => hx d v ?_ q) (fun _ q => q) fun _ _ q => q
        rcases hd with rfl | hd
        · exact hb
        · intro z; rw [z, hP] at hd; cases hd
theorem gen_blt {A : Around} {Q : Addr → Shared → Prop} {E : Value → Shared → Prop} (I : Inv X pins σ H s) (h : Q builtinsNs s) : wpAny (model X.prog X.w) A (builtinsFor X.env.globals X.env.builtins) Q E s := by
  obtain ⟨bm, ob, h1, h2, h3, h4, h5, h6⟩ := I.mod.bmain
  rw [I.ok.glob]
  exact wpAny_builtinsFor (I.mod.glob.keeps I.bk) h1 h2 (I.bk _ _ h3) h4 h5 h6 h
end

abbrev Cx.gblk (X : Cx) (s : Shared) (gs : Array GenState) (H : Hp) (scope : Scope) (genv : Env) (fp : List Addr) (A' : Around) : Cx :=
  { X with A := A', s_0 := { s with gens := gs }, H_0 := H, env := genv, outer := X.stack, stack := genv :: X.stack, ex := fp, fn := fun x => scope.names.lookup x == some .cell, pn := [], xe := fun _ _ => False }
section
variable {X : Cx} {pins : List (Addr × Obj)} {σ : St} {H : Hp} {s : Shared}
theorem gblock_start {scope : Scope} {own : List (Str × Nat)} {fp : List Addr} {A' : Around} {code : Value} {gs : Array GenState} {h5 : Heap} {tk : Nat} {m0 : Str → Option Value} {a : Addr} {go : Obj} {genv : Env}
    (I : Inv X pins σ H s) (ok : BlkOk X.N X.env.scope scope own) (hN : X.N.Nodup) (hcell : ∀ y ∈ scope.names, y.2 ≠ .cell) (hfp : ∀ b ∈ fp, FpOk X pins H b ∧ b < s.heap.objs.size)
    (he : genv = genEnv scope (cloFrom X.env.cells scope.names []) s.heap.objs.size code builtinsNs X.env) (hA : A'.frames = some (genv :: X.stack)) (hh : A'.handled = none) (hgs : GB s.gens gs)
    (kp : ∀ b o, s.heap.get? b = some o → h5.get? b = some o) (hns : h5.Ns s.heap.objs.size m0) (ha : h5.get? a = some go) (ha1 : s.heap.objs.size < a) (hgo : ∀ v, go.data ≠ .cell v) :
    Inv (X.gblk s gs H scope genv fp A') [(a, go)] (wipe σ (own.map (·.2))) H { s with heap := h5, gens := gs, toks := tk } := by
  have hfree : ∀ y ∈ scope.names, y.2 = .free → ∃ c, X.env.cells.lookup y.1 = some c := fun y hy e => by
    rcases ok.free y hy e with k | k
    · exact I.ok.has _ (.inl k)
    · exact I.ok.has _ (.inr k)
  have hL : genv.locals = s.heap.objs.size := by rw [he]; rfl
  have hcl : genv.cells = cloFrom X.env.cells scope.names [] := by rw [he]; rfl
  have hsc : genv.scope = scope := by rw [he]; rfl
  have hfr : genv.frame = some s.heap.objs.size := by rw [he]; rfl
  have cm : ∀ {y c}, (y, c) ∈ cloFrom X.env.cells scope.names [] → X.env.cells.lookup y = some c ∧ c < s.heap.objs.size := fun {y c} hm => by
    rcases cloFrom_mem hm with hm | ⟨h1, rfl⟩
    · cases hm
    · obtain ⟨c, hc⟩ := hfree _ h1 rfl
      rw [hc]
      obtain ⟨w, z⟩ := I.cell _ _ hc
      exact ⟨rfl, z.lt⟩
  have mem : ∀ {y c}, genv.cells.lookup y = some c → X.env.cells.lookup y = some c ∧ c < s.heap.objs.size := fun {y c} e => by
    rw [hcl] at e
    exact cm (PySem.mem_of_lookup e)
  have look : ∀ {y}, scope.names.lookup y = some .free → ∃ c, genv.cells.lookup y = some c ∧ X.env.cells.lookup y = some c := fun {y} hl => by
    have hy : (y, NameKind.free) ∈ scope.names := PySem.mem_of_lookup hl
    obtain ⟨c', e'⟩ := mem_lookup (cloFrom_has (cells := X.env.cells) (acc := []) hy)
    rw [← hcl] at e'
    exact ⟨c', e', (mem e').1⟩
  have nocell : ∀ y, scope.names.lookup y ≠ some .cell := fun y e => hcell _ (PySem.mem_of_lookup e) rfl
  have okB : (X.gblk s gs H scope genv fp A').Ok := by
    refine ⟨I.ok.mod, by show genv.scope.kind = _; rw [hsc]; exact ok.kind, by show genv.globals = _; rw [he]; exact I.ok.glob, by show genv.builtins = _; rw [he]; rfl, by show s.heap.objs.size ≤ genv.locals; rw [hL]; exact Nat.le_refl _,
      fun y z c e1 e2 => I.ok.inj y z c (mem e1).1 (mem e2).1, fun y hy => ?_, fun y c z e => ?_, fun _ => hh, hA, .inr ⟨rfl, by show genv.frame = some genv.locals; rw [hfr, hL]⟩, fun b hb => ⟨?_, fun y c e z => ?_⟩, I.bs, Nat.le_trans I.ok.bsz I.sz, fun b o e hb => ?_, fun b hb z => ?_, I.stack, I.stkFree, I.tabs⟩
    · have hy : scope.names.lookup y = some .cell ∨ scope.names.lookup y = some .free := by
        have hy' : genv.scope.names.lookup y = some .cell ∨ genv.scope.names.lookup y = some .free := hy
        rw [hsc] at hy'; exact hy'
      rcases hy with hy | hy
      · exact absurd hy (nocell y)
      · obtain ⟨c, h1, _⟩ := look hy
        exact ⟨c, h1⟩
    · have z : (scope.names.lookup y == some NameKind.cell) = true := z
      exact absurd (by simpa using z) (nocell y)
    · show b ≠ genv.locals
      rw [hL]; exact Nat.ne_of_lt (hfp b hb).2
    · exact (hfp b hb).1.2.2.2.2.1 y c (mem e).1 z
    · rcases (hfp b hb).1.2.2.2.1 with z | z
      · exact I.ok.noex b o e z
      · exact absurd (Nat.lt_of_lt_of_le (Heap.lt_size e) (Nat.le_trans I.ok.bsz z)) (Nat.lt_irrefl _)
    · rcases List.mem_cons.mp (I.stkSub b z) with z | z
      · exact (hfp b hb).1.2.1 z
      · exact (hfp b hb).1.2.2.1 z
  refine ⟨okB, rfl, ⟨hgs.1, Nat.le_refl _⟩, Un.kept kp, ⟨m0, ?_, fun i y av e1 e2 e3 => ?_⟩, fun y c e => ?_, ?_, fun y c e => ?_, fun p hp => ?_, I.hok.kept kp, by rw [wipe_length]; exact I.len⟩
  · show Heap.Ns _ genv.locals _
    rw [hL]; exact hns
  · obtain ⟨e2, hne⟩ := wipe_some e2
    have e3 : Vis genv.scope y := e3
    rw [hsc] at e3
    have no : ∀ k, scope.names.lookup y = some k → ¬ (k = .local ∨ k = .cell) := fun k e hh => by
      rcases ok.own _ (PySem.mem_of_lookup e) hh with e' | e'
      · obtain ⟨p, hp, hpy⟩ := List.mem_map.mp e'
        have e4 := ok.ix p hp
        have : p.1 = y := hpy
        rw [this] at e4
        exact hne (List.mem_map.mpr ⟨p, hp, nodup_ix hN e4 e1⟩)
      · exact e' (List.mem_of_getElem? e1)
    have hfr : scope.names.lookup y = some .free := by
      rcases e3 with e3 | e3 | e3
      · exact absurd (.inl rfl) (no _ e3)
      · exact absurd (.inr rfl) (no _ e3)
      · exact e3
    obtain ⟨m, hn, hl⟩ := I.loc
    have hvis : Vis X.env.scope y := (ok.free _ (PySem.mem_of_lookup hfr) rfl).elim (fun k => .inr (.inl k)) (fun k => .inr (.inr k))
    obtain ⟨w, r, q⟩ := hl i y av e1 e2 hvis
    refine ⟨w, r, .inr ⟨.inr (by show genv.scope.names.lookup y = _; rw [hsc]; exact hfr), ?_⟩⟩
    obtain ⟨c, h1, h2⟩ := look hfr
    rcases q with ⟨k, _⟩ | ⟨_, c', e', z⟩
    · have k : X.env.scope.names.lookup y = some .local := k
      rcases ok.free _ (PySem.mem_of_lookup hfr) rfl with k' | k' <;> rw [show X.env.scope.names.lookup y = _ from k'] at k <;> cases k
    · rw [h2] at e'; cases e'
      exact ⟨c, h1, z.keeps kp⟩
  · obtain ⟨w, z⟩ := I.cell y c (mem e).1
    exact ⟨w, z.keeps kp⟩
  · show H genv.locals = none
    rw [hL]; exact I.hok.fresh (Nat.le_refl _)
  · exact I.freeC y c (mem e).1
  · have hp : p = (a, go) := by simpa using hp
    subst hp
    refine ⟨ha, I.hok.fresh (Nat.le_of_lt ha1), ?_, ?_, hgo⟩
    · show a ≠ genv.locals
      rw [hL]; exact Nat.ne_of_gt ha1
    · intro z
      have z' : a ∈ frs X.stack := z
      rcases List.mem_cons.mp (I.stkSub a z') with z2 | z2
      · exact absurd (Nat.lt_trans I.lt ha1) (by rw [z2]; exact Nat.lt_irrefl _)
      · exact I.nofs (Nat.le_of_lt ha1) z2
theorem Inv.setGen {g : Nat} {x : GenState} (I : Inv X pins σ H s) (hx : x.bare = true) : Inv X pins σ H (s.setGen g x) := by
  refine ⟨I.ok, I.os, ⟨fun y hy => ?_, ?_⟩, I.base, I.loc, I.cell, I.free, I.freeC, I.pin, I.hok, I.len⟩
  · have hy : y ∈ s.gens.setIfInBounds g x := hy
    rcases Array.mem_or_eq_of_mem_setIfInBounds hy with z | z
    · exact I.bare.1 y z
    · rw [z]; exact hx
  · show X.s_0.gens.size ≤ (s.gens.setIfInBounds g x).size
    rw [Array.size_setIfInBounds]; exact I.bare.2
end
end L2
end

section
set_option Elab.async false
set_option linter.all false
set_option maxRecDepth 100000
set_option maxHeartbeats 4000000
namespace L2
open PySem PySem.Spec PyProof.Rows

theorem eval_genN (elt target iter : Expr) (ifs : List Expr) (cls : List Comprehension) (scope : Scope) (pos : Pos) (env : Env) (hco : scope.isCoroutine = false) :
    eval (.GeneratorExp elt (⟨target, iter, ifs, 0⟩ :: cls) scope pos) env = (do
      let x ← eval iter env
      standAt iter.pos
      let x ← genFold iter env x
      let it ← holding [x] (pyIter x)
      enterFrame
      let cl ← closureFor scope env
      let code ← genexprCode env pos (env.qual ++ "<genexpr>") scope
      let bi ← builtinsFor env.globals env.builtins
      let cenv ← newFunctionEnv scope env.globals cl [(".0", it)] (env.qual ++ "<genexpr>.") none code none bi
      newGenerator (.compStart (.GeneratorExp elt (⟨target, iter, ifs, 0⟩ :: cls) scope pos) 0 it .none cenv) "<genexpr>" (env.qual ++ "<genexpr>")) := by
  rw [arm_eval_GeneratorExp]
  simp only [hco, Bool.false_eq_true, if_false]
  cases iter <;> rfl
section
variable {M : Model} {A : Around} {E : Value → Shared → Prop} {s : Shared}
theorem wpAny_gen_makeN {env : Env} {elt target iter : Expr} {ifs : List Expr} {cls : List Comprehension} {scope : Scope} {cl : List (Str × Addr)} {pos : Pos} {Q : Value → Shared → Prop}
    (hco : scope.isCoroutine = false) (hclos : closureFor scope env = pure cl) (hcell : ∀ y ∈ scope.names, y.2 ≠ .cell) (h0 : scope.names.lookup (".0" : Str) = some NameKind.local) (hkind : scope.kind = .function)
    (hroom : A.depth < recursionLimit)
    (h : wpAny M A (eval iter env) (fun xv s₁ => wpAny M A (pyIter xv) (fun it s₂ => s₂.heap.NoLimit ∧
      wpAny M A (genexprCode env pos (env.qual ++ "<genexpr>") scope) (fun code s₃ => wpAny M A (builtinsFor env.globals env.builtins) (fun bi s₄ =>
        ∀ h', h'.Ns s₄.heap.objs.size (fun y => if y = ".0" then some it else none) → Heap.SameBut s₄.heap.objs.size (s₄.heap.push { cls := .type "frame", data := .dict #[] }) h' →
          Q (.ref h'.objs.size) { s₄ with
            gens := s₄.gens.push (.fresh (.compStart (.GeneratorExp elt (⟨target, iter, ifs, 0⟩ :: cls) scope pos) 0 it .none (genEnv scope cl s₄.heap.objs.size code bi env))),
            toks := s₄.toks + 1 + 1 + 1,
            heap := h'.push { cls := .type "generator", data := .fields #[.int s₄.gens.size 0, .str "<genexpr>" (s₄.toks + 1), .str (env.qual ++ "<genexpr>") (s₄.toks + 1 + 1)] } }) E s₃) E s₂) E s₁) E s)
    (hs : ∀ x, genFold iter env x = pure x) :
    wpAny M A (eval (.GeneratorExp elt (⟨target, iter, ifs, 0⟩ :: cls) scope pos) env) Q E s := by
  rw [eval_genN _ _ _ _ _ _ _ _ hco, hclos]
  refine wpAny_bind (wpAny_mono h (fun xv s₁ h₁ => ?_) fun _ _ e => e)
  refine wpAny_bind (wpAny_standAt ?_)
  refine wpAny_bind (wpAny_of_eq (hs xv) ?_)
  refine wpAny_bind (wpAny_holding (wpAny_mono h₁ (fun it s₂ h₂ => ?_) fun _ _ e => e))
  refine wpAny_bind (wpAny_enterFrame h₂.1 hroom ?_)
  refine wpAny_bind (wpAny_pure ?_)
  refine wpAny_bind (wpAny_mono h₂.2 (fun code s₃ h₃ => ?_) fun _ _ e => e)
  refine wpAny_bind (wpAny_mono h₃ (fun bi s₄ h₄ => ?_) fun _ _ e => e)
  have hbinds : ∀ y ∈ ([((".0" : Str), it)] : List (Str × Value)), scope.names.lookup y.1 = some NameKind.local := by
    intro y hy
    rcases List.mem_cons.mp hy with rfl | hy
    · exact h0
    · cases hy
  refine wpAny_bind (wpAny_newFunctionEnv hcell hbinds (fun h' hn' hs' => ?_) hkind)
  have e : (fun y : Str => ([((".0" : Str), it)] : List (Str × Value)).reverse.lookup y) = fun y : Str => if y = (".0" : Str) then some it else none := by
    funext y
    by_cases hy : y = ".0"
    · subst hy; simp
    · have : (y == (".0" : Str)) = false := by simpa using hy
      simp [List.lookup, this, hy]
  rw [e] at hn'
  simp only [newGenerator, newFields]
  refine wpAny_bind (wpAny_newGen (wpAny_bind (wpAny_mkText (wpAny_bind (wpAny_mkText (wpAny_newObj_type ?_ (by size_fits)))))))
  exact h₄ h' hn' hs'
end

theorem segF {M : Model} {A A0 : Around} {R : GenEnd} {Y : Protocol} {n : Nat} {s₀ : Shared} {c : Code} {fs : List Frame} {s : Shared} {α β : Type} {m : Sem α} {K : α → Sem β} {K' : β → Sem Fin} {H' : Value → Sem Fin} {gd lv} {Q : α → Shared → Prop}
    (hA : A0 = A.over c fs) (h : wpAny M A0 m Q (fun _ _ => False) s) (hQ : ∀ a s', Q a s' → Seg M A R Y n s₀ c ((K a).wrap K' H' gd lv) fs s') : Seg M A R Y n s₀ c ((m >>= K).wrap K' H' gd lv) fs s := by
  subst hA
  exact seg_bind_wrap (thnF h hQ)

structure GS (Xg : Cx) (pa : Addr × Obj) (pins : List (Addr × Obj)) (σ' : St) (fpA : List Addr) (Stt : Heap → Prop) (H : Hp) (s : Shared) : Prop where
  mem : pa ∈ pins
  inv : Inv Xg pins σ' H s
  st : Stt s.heap
  keep : ∀ h h', Stt h → (∀ b ∈ fpA, ∀ o, h.get? b = some o → h'.get? b = some o) → Stt h'
  non : ∀ b ∈ fpA, H b = none
abbrev GC := V → Hp → (Hp → Prop) → Prop
def gY (Xg : Cx) (pa : Addr × Obj) (C : GC) : Protocol := fun _ _ v s kap =>
  ∃ (pins : List (Addr × Obj)) (σ' : St) (fpA : List Addr) (Stt : Heap → Prop) (y : V) (H4 : Hp) (Nx : Hp → Prop), GS Xg pa pins σ' fpA Stt H4 s ∧ RelV y v ∧ C y H4 Nx ∧
    ∀ (s'' : Shared) (H5 : Hp), GS Xg pa pins σ' fpA Stt H5 s'' → Nx H5 → kap (.send .none) s''
def gP (Xg : Cx) (pa : Addr × Obj) (Qe : Hp → Prop) : Nat → Shared → Shared → Prop := fun _ _ s₁ => ∃ pins σ' H, pa ∈ pins ∧ Inv Xg pins σ' H s₁ ∧ Qe H
abbrev gR (P : Nat → Shared → Shared → Prop) : GenEnd := fun n s₀ r s₁ => r = .ok .next ∧ P n s₀ s₁
theorem set_get {g : Nat} {s : Shared} {x : GenState} (h : g < s.gens.size) : (s.setGen g x).gens[g]? = some x := by simp [Shared.setGen, h]
section
variable {Xg : Cx} {pa : Addr × Obj} {pins : List (Addr × Obj)} {σ' : St} {fpA : List Addr} {Stt : Heap → Prop} {H : Hp} {s : Shared} {g : Nat} {C : GC} {Qe : Hp → Prop} {A : Around}
theorem GS.set {x : GenState} (h : GS Xg pa pins σ' fpA Stt H s) (hx : x.bare = true) : GS Xg pa pins σ' fpA Stt H (s.setGen g x) := ⟨h.mem, h.inv.setGen hx, h.st, h.keep, h.non⟩

theorem gnext {n : Nat} {gs : GenState} {Q : Option Value → Shared → Prop} {E : Value → Shared → Prop} (hh : A.handled = none) (hroom : A.depth < recursionLimit) (hgo : ∀ h : Heap, h.get? pa.1 = some pa.2 → h.IsGen pa.1 g) (hgl : g < Xg.s_0.gens.size)
    (G : GS Xg pa pins σ' fpA Stt H s) (hgs : s.gens[g]? = some gs) (hgoes : gs.Goes (model Xg.prog Xg.w) A.in1 (gR (gP Xg pa Qe)) (gY Xg pa C) n (.send .none) (s.setGen g .running))
    (hQe : ∀ s' pins σ' H', pa ∈ pins → Inv Xg pins σ' H' s' → Qe H' → Q none s')
    (hY : ∀ v s' y H4 Nx pins σ' fpA Stt gs', GS Xg pa pins σ' fpA Stt H4 s' → RelV y v → C y H4 Nx → s'.gens[g]? = some gs' →
      (∀ s'' H5, GS Xg pa pins σ' fpA Stt H5 s'' → Nx H5 → ∃ m, n = m + 1 ∧ gs'.Goes (model Xg.prog Xg.w) A.in1 (gR (gP Xg pa Qe)) (gY Xg pa C) m (.send .none) s'') → Q (some v) s') :
    wpAny (model Xg.prog Xg.w) A (pyNext (.ref pa.1)) Q E s := by
  refine wpAny_pyNext_genexpQ (P := gP Xg pa Qe) hh G.inv.nolimit hroom (hgo _ (G.inv.pin _ (List.mem_append_right _ G.mem)).1) hgs hgoes (fun v s1 gs' hb hv => ?_) (fun s1 hp h' hk => ?_)
  · obtain ⟨pins, σ', fpA, Stt, y, H4, Nx, G4, r4, c4, kap⟩ := hv
    refine hY v _ y H4 Nx pins σ' fpA Stt gs' (G4.set hb) r4 c4 (set_get (Nat.lt_of_lt_of_le hgl G4.inv.bare.2)) fun s'' H5 G5 nx => ?_
    have z := kap s'' H5 G5 nx
    cases n with
    | zero => exact z.elim
    | succ m => exact ⟨m, rfl, z⟩
  · obtain ⟨pins, σ', H1, hm, I1, qe⟩ := hp
    exact hQe _ pins σ' H1 hm ((I1.setGen (g := g) (x := .finished) rfl).kept (t' := s1.toks) hk) qe
end
end L2
end

section
set_option Elab.async false
set_option linter.all false
set_option maxRecDepth 100000
set_option maxHeartbeats 4000000
namespace L2
open PySem PySem.Spec PyProof.Rows


theorem Inv.atA {X : Cx} {pins : List (Addr × Obj)} {σ : St} {H : Hp} {s : Shared} (A' : Around) (hf : A'.frames = X.A.frames) (hh : A'.handled = none) (I : Inv X pins σ H s) : Inv { X with A := A' } pins σ H s :=
  ⟨⟨I.ok.mod, I.ok.kind, I.ok.glob, I.ok.blt, I.ok.above, I.ok.inj, I.ok.has, I.ok.cab, fun _ => hh, hf.trans I.ok.frames, I.ok.stk, I.ok.exf, I.ok.bs, I.ok.bsz, I.ok.noex, I.ok.exfs, I.ok.funs, I.ok.frf, I.ok.tabs⟩, I.os, I.bare, I.base, I.loc, I.cell, I.free, I.freeC, I.pin, I.hok, I.len⟩

def GTurn (J : It) (g : TG) (tt : TT) (te : TE) (vs : List Nat) (σ : St) (C : GC) (Qe : Nat → Hp → Prop) (W : Nat → Nat → Hp → Prop) : Prop :=
  ∀ i m H, W i m H → (J.stop i H ∧ Qe m H) ∨ (J.go i H ∧ ∃ Nx : Hp → Prop, (∀ H', Nx H' → ∃ m', m' < m ∧ W (i + 1) m' H') ∧ ∀ x H', J.yld i H x H' → g x (wipe σ vs) H' fun σ2 H2 => wipe σ2 vs = wipe σ vs ∧ tt σ2 H2 fun b H3 =>
    if b = true then te σ2 H3 fun y H4 => C y H4 Nx else Nx H3)
section
variable {P : Program} {w : World} {Xo Xi : Cx} {A1 : Around} {c : Code} {fs : List Frame} {genv : Env} {pa : Addr × Obj} {elt tg : Expr} {ifs : List Expr} {it : Addr} {ip : Pos} {J : It} {fp : List Addr} {tn : Nat → Heap → Prop} {T0 : Sem Fin} {hx : Value → Sem Unit}
  {g : TG} {tt : TT} {te : TE} {vs : List Nat} {σ : St} {C : GC} {Qe : Nat → Hp → Prop} {W : Nat → Nat → Hp → Prop} {R : GenEnd} {pins0 : List (Addr × Obj)}
theorem last_loop (eA : Xi.A = A1.over c fs) (eenv : Xi.env = genv) (eprog : Xi.prog = P) (ew : Xi.w = w) (hc : Xi.calm = true) (exe : Xi.xe = fun _ _ => False)
    (hto : ∀ pins σ H s, Inv Xo pins σ H s → Inv Xi pins σ H s) (hfrom : ∀ pins σ H s, Inv Xi pins σ H s → Inv Xo pins σ H s)
    (hden : (model P w).den c = T0.onRaise hx)
    (hturn : T0 = (do
      standAt ip
      match ← pyNext (.ref it) with
      | none => pure (.done .next)
      | some v =>
        letOwnedTupleGo tg (.ref it) v
        assign tg genv v
        let mut ok := true
        for c in ifs do
          if ok then ok ← isTrue c genv (eval c genv)
        if ok then
          (do let v ← eval elt genv; standAt elt.pos; let _ ← yieldOut genv v)
        again c))
    (hq : c.quiet = true) (hfs : splitAtGen fs = none) (hfg : fs.any Frame.guarded = false) (hco : genv.scope.isCoroutine = false)
    (pgt : PG Xi tg g) (ptt : PTs Xi ifs tt) (pee : PE Xi elt te) (T : Turn P w Xi.K tg J fp it tn) (hpa : pa ∈ pins0) (f0 : ∀ H, (∀ b ∈ fp, H b = none) → ∀ b ∈ fp, FpOk Xi pins0 H b) (turn : GTurn J g tt te vs σ C Qe W)
    (fin : ∀ (m n : Nat), m < n → ∀ (s₀ s : Shared) (H : Hp), Inv Xi pins0 (wipe σ vs) H s → Qe m H → Seg (model P w) A1 R (gY Xo pa C) n s₀ c (.pure (.done .next)) fs s) :
    ∀ (m n : Nat), m < n → ∀ (i : Nat) (s₀ s : Shared) (H : Hp), Inv Xi pins0 (wipe σ vs) H s → tn i s.heap → (∀ b ∈ fp, H b = none) → W i m H → Seg (model P w) A1 R (gY Xo pa C) n s₀ c ((model P w).den c) fs s := by
  subst eprog ew
  intro m
  induction m using Nat.strongRecOn with
  | ind m ih =>
    intro n hmn i s₀ s H I st hn hW
    rw [hden, hturn, Sem.onRaise_eq_wrap]
    refine seg_bind_wrap (wpAny_standAt ?_)
    rcases turn i m H hW with ⟨stop, qe⟩ | ⟨go', Nx, hNx, step⟩
    · have td := T.done Xi rfl rfl rfl hc i pins0 s _ H (fun _ _ => False) I (f0 H hn) st stop
      refine segF eA td fun r s1 ⟨hr, I1⟩ => ?_
      subst hr
      exact fin m n hmn s₀ s1 H I1 qe
    · have ti := T.item Xi rfl rfl rfl hc i pins0 s _ H (fun _ _ => False) I (f0 H hn) st go'
      refine segF eA ti fun r s1 ⟨u, hr, h1⟩ => ?_
      subst hr
      refine segF eA h1 fun _ s2 ⟨x, H2, I2, r2, y2, st2, n2⟩ => ?_
      have I2' := I2.pinned (f0 H2 n2) (T.obj _ _ st2)
      have hg2 := pgt _ s2 _ H2 x u _ I2' r2 (step x H2 y2)
      rw [exe, eenv] at hg2
      refine segF eA hg2 fun _ s3 ⟨σ3, H3, I3, hw3, q3⟩ => ?_
      have ht3 := ptt _ s3 σ3 H3 _ I3 q3
      rw [exe, eenv] at ht3
      refine segF eA ht3 fun b s4 ⟨H4, I4, q4⟩ => ?_
      have back : ∀ {s' : Shared} {H' : Hp}, Inv Xi (pins0 ++ pinsAt fp s2.heap) σ3 H' s' → Inv Xi pins0 (wipe σ vs) H' s' ∧ tn (i + 1) s'.heap ∧ ∀ b ∈ fp, H' b = none := fun {s' H'} I' => by
        have pin' : ∀ b ∈ fp, ∀ o, s2.heap.get? b = some o → s'.heap.get? b = some o ∧ H' b = none := fun b hb o e =>
          let z := I'.pin (b, o) (List.mem_append_right _ (List.mem_append_right _ (mem_pinsAt hb e)))
          ⟨z.1, z.2.1⟩
        have hl : (wipe σ vs).length = σ3.length := by rw [← hw3, wipe_length]
        refine ⟨(I'.unpinned (pins := pins0)).weak hl (fun j v e => ?_), T.keep _ _ _ st2 fun b hb o e => (pin' b hb o e).1, fun b hb => ?_⟩
        · rw [← hw3] at e
          exact (wipe_some e).1
        · obtain ⟨o, e, _⟩ := T.obj _ _ st2 b hb
          exact (pin' b hb o e).2
      cases b with
      | false =>
        simp only [Bool.false_eq_true, if_false] at q4 ⊢
        obtain ⟨m', hm, w'⟩ := hNx H4 q4
        obtain ⟨I5, t5, n5⟩ := back I4
        exact seg_again hq (ih m' hm n (by omega) (i + 1) s₀ s4 H4 I5 t5 n5 w')
      | true =>
        simp only [if_true] at q4 ⊢
        have hy : ∀ v, yieldOut genv v = yieldValue v := fun v => by simp only [yieldOut, hco, Bool.false_eq_true, if_false]
        simp only [hy]
        rw [Sem.bind_eq_wrap', Sem.bind_eq_wrap', Sem.wrap_wrap, Sem.wrap_wrap]
        have he5 := pee _ s4 σ3 H4 _ I4 q4
        rw [exe, eenv, eA] at he5
        refine seg_wrap (thnF he5 fun v s5 ⟨y, H5, I5, r5, c5⟩ => ?_)
        obtain ⟨I6, t6, n6⟩ := back I5
        cases n with
        | zero => exact absurd hmn (Nat.not_lt_zero _)
        | succ n' =>
          refine seg_at (seg_yield hfs rfl hfg ⟨pins0, wipe σ vs, fp, tn (i + 1), y, H5, Nx, ⟨hpa, hfrom _ _ _ _ I6, t6, T.keep _, n6⟩, r5, c5, fun s'' H6 G6 nx => ?_⟩)
          obtain ⟨m', hm, w'⟩ := hNx H6 nx
          exact seg_again hq (ih m' hm n' (by omega) (i + 1) s'' s'' H6 (hto _ _ _ _ G6.inv) G6.st G6.non w')
end
end L2
end

section
set_option Elab.async false
set_option linter.all false
set_option maxRecDepth 100000
set_option maxHeartbeats 4000000
namespace L2
open PySem PySem.Spec PyProof.Rows
theorem compTurn2g_out (elt t0 i0 t1 i1 : Expr) (ifs0 ifs1 : List Expr) (scope : Scope) (pos : Pos) (it acc : Value) (env : Env) :
    compTurn (.GeneratorExp elt [⟨t0, i0, ifs0, 0⟩, ⟨t1, i1, ifs1, 0⟩] scope pos) 0 it acc env = (do
      standAt i0.pos
      match ← pyNext it with
      | none => pure (.done .next)
      | some v =>
        letOwnedTupleGo t0 it v
        assign t0 env v
        let mut ok := true
        for c in ifs0 do
          if ok then ok ← isTrue c env (eval c env)
        if ok then
          let x ← eval i1 env
          standAt i1.pos
          let x ← foldedSetIterable i1 env x
          let _ ← runOwn (.compStart (.GeneratorExp elt [⟨t0, i0, ifs0, 0⟩, ⟨t1, i1, ifs1, 0⟩] scope pos) 1 (← holding [x] (pyIter x)) acc env) env
        again (.compLoop (.GeneratorExp elt [⟨t0, i0, ifs0, 0⟩, ⟨t1, i1, ifs1, 0⟩] scope pos) 0 it acc env)) := by rfl
theorem compTurn2g_in (elt t0 i0 t1 i1 : Expr) (ifs0 ifs1 : List Expr) (scope : Scope) (pos : Pos) (it acc : Value) (env : Env) :
    compTurn (.GeneratorExp elt [⟨t0, i0, ifs0, 0⟩, ⟨t1, i1, ifs1, 0⟩] scope pos) 1 it acc env = (do
      standAt i1.pos
      match ← pyNext it with
      | none => pure (.done .next)
      | some v =>
        letOwnedTupleGo t1 it v
        assign t1 env v
        let mut ok := true
        for c in ifs1 do
          if ok then ok ← isTrue c env (eval c env)
        if ok then
          (do let v ← eval elt env; standAt elt.pos; let _ ← yieldOut env v)
        again (.compLoop (.GeneratorExp elt [⟨t0, i0, ifs0, 0⟩, ⟨t1, i1, ifs1, 0⟩] scope pos) 1 it acc env)) := by rfl

def GTurn2 (J : It) (g : TG) (tt : TT) (wi1 : TI) (g1 : TG) (tt1 : TT) (te : TE) (vs vs1 : List Nat) (σ : St) (C : GC) (Qe : Hp → Prop) (W : Nat → Nat → Hp → Prop) : Prop :=
  ∀ i m H, W i m H → (J.stop i H ∧ Qe H) ∨ (J.go i H ∧ ∀ x H', J.yld i H x H' → g x (wipe σ vs) H' fun σ2 H2 => wipe σ2 vs = wipe σ vs ∧ tt σ2 H2 fun b H3 =>
    if b = true then wi1 σ2 H3 fun J1 H4 => ∃ W1 : Nat → Nat → Hp → Prop, (∃ k, k < m ∧ W1 0 k H4) ∧ GTurn J1 g1 tt1 te vs1 σ2 C (fun k H => ∃ m', m' ≤ k ∧ W (i + 1) m' H) W1
    else ∃ m', m' < m ∧ W (i + 1) m' H3)
abbrev gE2 (elt tg iter : Expr) (ifs : List Expr) (tg1 iter1 : Expr) (ifs1 : List Expr) (scope : Scope) (pos : Pos) : Expr := .GeneratorExp elt [⟨tg, iter, ifs, 0⟩, ⟨tg1, iter1, ifs1, 0⟩] scope pos
section
variable {X : Cx} {P : Program} {w : World} {Xo : Cx} {A1 : Around} {genv : Env} {pa : Addr × Obj} {elt tg iter tg1 iter1 : Expr} {ifs ifs1 : List Expr} {scope : Scope} {pos : Pos} {it : Addr} {J : It} {fp : List Addr} {tn : Nat → Heap → Prop}
  {g g1 : TG} {tt tt1 : TT} {te : TE} {wi1 : TI} {vs vs1 : List Nat} {σ : St} {C : GC} {Qe : Hp → Prop} {W : Nat → Nat → Hp → Prop} {pins0 : List (Addr × Obj)}
theorem inner2 {kk : Result → Sem Fin} {gg : Bool} {ll : List Value} {p : Pos} {R : GenEnd} {it1 : Addr} {J1 : It} {fp1 : List Addr} {tn1 : Nat → Heap → Prop} {W1 : Nat → Nat → Hp → Prop} {Q1 : Nat → Hp → Prop} {σ3 : St} {n k0 : Nat} {s₀ s6 : Shared} {H6 : Hp}
    (eA : Xo.A = A1.over (.compLoop (gE2 elt tg iter ifs tg1 iter1 ifs1 scope pos) 0 (.ref it) .none genv) []) (eenv : Xo.env = genv) (hc : Xo.calm = true) (exe : Xo.xe = fun _ _ => False)
    (hh : A1.handled = none) (hco : genv.scope.isCoroutine = false) (hgg : gg = false)
    (pg1 : ∀ A', A'.handled = none → A'.depth = Xo.A.depth → A'.units = Xo.A.units → PG { Xo with A := A' } tg1 g1) (pt1 : ∀ A', A'.handled = none → A'.depth = Xo.A.depth → A'.units = Xo.A.units → PTs { Xo with A := A' } ifs1 tt1) (pe1 : ∀ A', A'.handled = none → A'.depth = Xo.A.depth → A'.units = Xo.A.units → PE { Xo with A := A' } elt te)
    (T1 : Turn Xo.prog Xo.w Xo.K tg1 J1 fp1 it1 tn1) (hpa : pa ∈ pins0) (f0 : ∀ H, (∀ b ∈ fp1, H b = none) → ∀ b ∈ fp1, FpOk Xo pins0 H b) (turn : GTurn J1 g1 tt1 te vs1 σ3 C Q1 W1)
    (hk : ∀ (k n : Nat), k < n → ∀ (s₀ s : Shared) (H : Hp), Inv Xo pins0 (wipe σ3 vs1) H s → Q1 k H → Seg (model Xo.prog Xo.w) A1 R (gY Xo pa C) n s₀ (.compLoop (gE2 elt tg iter ifs tg1 iter1 ifs1 scope pos) 0 (.ref it) .none genv) (kk (.ok .next)) [] s)
    (hkn : k0 < n) (I6 : Inv Xo pins0 (wipe σ3 vs1) H6 s6) (st6 : tn1 0 s6.heap) (n6 : ∀ b ∈ fp1, H6 b = none) (w0 : W1 0 k0 H6) :
    Seg (model Xo.prog Xo.w) A1 R (gY Xo pa C) n s₀ (.compStart (gE2 elt tg iter ifs tg1 iter1 ifs1 scope pos) 1 (.ref it1) .none genv) ((model Xo.prog Xo.w).den (.compStart (gE2 elt tg iter ifs tg1 iter1 ifs1 scope pos) 1 (.ref it1) .none genv))
      [.ret kk none gg ll (.compLoop (gE2 elt tg iter ifs tg1 iter1 ifs1 scope pos) 0 (.ref it) .none genv) p []] s6 := by
  subst hgg
  generalize hfr : Frame.ret kk none false ll (.compLoop (gE2 elt tg iter ifs tg1 iter1 ifs1 scope pos) 0 (.ref it) .none genv) p [] = fr
  generalize hA' : A1.over (.compLoop (gE2 elt tg iter ifs tg1 iter1 ifs1 scope pos) 1 (.ref it1) .none genv) [fr] = A'
  have hf' : A'.frames = Xo.A.frames := by
    rw [eA, ← hA', ← hfr]
    unfold Around.over
    dsimp only
    rw [show Code.envs (.compLoop (gE2 elt tg iter ifs tg1 iter1 ifs1 scope pos) 1 (.ref it1) .none genv) = [] from rfl, show Code.envs (.compLoop (gE2 elt tg iter ifs tg1 iter1 ifs1 scope pos) 0 (.ref it) .none genv) = [genv] from rfl]
    simp only [List.map_cons, List.map_nil, Frame.where_, envsOf_cons, show envsOf [] = [] from rfl, List.append_nil]
    rw [show Code.envs (.compLoop (gE2 elt tg iter ifs tg1 iter1 ifs1 scope pos) 0 (.ref it) .none genv) = [genv] from rfl]
    rfl
  have hh' : A'.handled = none := by
    rw [← hA', ← hfr]
    exact hh
  have hd' : A'.depth = Xo.A.depth := by
    rw [eA, ← hA', ← hfr]
    rfl
  have hu' : A'.units = Xo.A.units := by
    rw [eA, ← hA', ← hfr]
    rfl
  have loop := last_loop (P := Xo.prog) (w := Xo.w) (Xo := Xo) (Xi := { Xo with A := A' }) (A1 := A1) (c := .compLoop (gE2 elt tg iter ifs tg1 iter1 ifs1 scope pos) 1 (.ref it1) .none genv) (fs := [fr]) (genv := genv) (pa := pa) (R := R) (it := it1) (ip := iter1.pos) (pins0 := pins0)
    hA'.symm eenv rfl rfl hc exe (fun _ _ _ _ I => I.atA A' hf' hh') (fun _ _ _ _ I => Inv.atA (X := { Xo with A := A' }) Xo.A hf'.symm (by rw [eA]; exact hh) I) rfl (compTurn2g_in elt tg iter tg1 iter1 ifs ifs1 scope pos (.ref it1) .none genv) rfl (by rw [← hfr]; rfl) (by rw [← hfr]; rfl) hco
    (pg1 A' hh' hd' hu') (pt1 A' hh' hd' hu') (pe1 A' hh' hd' hu') T1 hpa f0 turn
    (fun m n hmn s₀ s H I q => by
      rw [← hfr]
      exact seg_leaf (.ok .next) (hk m n hmn s₀ s H (Inv.atA (X := { Xo with A := A' }) Xo.A hf'.symm (by rw [eA]; exact hh) I) q))
    k0 n hkn 0 s₀ s6 H6 (I6.atA A' hf' hh') st6 n6 w0
  have hd : (model Xo.prog Xo.w).den (.compStart (gE2 elt tg iter ifs tg1 iter1 ifs1 scope pos) 1 (.ref it1) .none genv) = (compStart (gE2 elt tg iter ifs tg1 iter1 ifs1 scope pos) 1 (.ref it1) .none genv).onRaise (fun x => do noteFrame x genv; standAt theWindowsPlace) := rfl
  rw [hd]
  unfold compStart; rw [Sem.onRaise_eq_wrap]
  show Seg _ A1 _ _ _ s₀ _ ((ask >>= _).wrap _ _ _ _) _ _
  refine seg_bind_wrap (wpAny_askSetting ?_)
  split
  · exact seg_again rfl loop
  · refine seg_bind_wrap (wpAny_rule ?_)
    show Seg _ A1 _ _ _ s₀ _ ((standAt iter1.pos >>= _).wrap _ _ _ _) _ _
    exact seg_bind_wrap (wpAny_standAt (seg_bind_wrap (T1.self _ 0 _ _ _ st6 (seg_again rfl loop))))
theorem loop2 (eA : Xo.A = A1.over (.compLoop (gE2 elt tg iter ifs tg1 iter1 ifs1 scope pos) 0 (.ref it) .none genv) []) (eenv : Xo.env = genv) (eprog : Xo.prog = P) (ew : Xo.w = w) (hc : Xo.calm = true) (exe : Xo.xe = fun _ _ => False)
    (hh : A1.handled = none) (hco : genv.scope.isCoroutine = false) (hs1 : ∀ x, foldedSetIterable iter1 genv x = pure x) (hv : ∀ i ∈ vs1, i ∈ vs)
    (pgt : PG Xo tg g) (ptt : PTs Xo ifs tt) (pi1 : PI Xo tg1 iter1 wi1)
    (pg1 : ∀ A', A'.handled = none → A'.depth = Xo.A.depth → A'.units = Xo.A.units → PG { Xo with A := A' } tg1 g1) (pt1 : ∀ A', A'.handled = none → A'.depth = Xo.A.depth → A'.units = Xo.A.units → PTs { Xo with A := A' } ifs1 tt1) (pe1 : ∀ A', A'.handled = none → A'.depth = Xo.A.depth → A'.units = Xo.A.units → PE { Xo with A := A' } elt te)
    (T : Turn P w Xo.K tg J fp it tn) (hpa : pa ∈ pins0) (f0 : ∀ H, (∀ b ∈ fp, H b = none) → ∀ b ∈ fp, FpOk Xo pins0 H b) (turn : GTurn2 J g tt wi1 g1 tt1 te vs vs1 σ C Qe W) :
    ∀ (m n : Nat), m < n → ∀ (i : Nat) (s₀ s : Shared) (H : Hp), Inv Xo pins0 (wipe σ vs) H s → tn i s.heap → (∀ b ∈ fp, H b = none) → W i m H → Seg (model P w) A1 (gR (gP Xo pa Qe)) (gY Xo pa C) n s₀
      (.compLoop (gE2 elt tg iter ifs tg1 iter1 ifs1 scope pos) 0 (.ref it) .none genv) ((model P w).den (.compLoop (gE2 elt tg iter ifs tg1 iter1 ifs1 scope pos) 0 (.ref it) .none genv)) [] s := by
  subst eprog ew
  intro m
  induction m using Nat.strongRecOn with
  | ind m ih =>
    intro n hmn i s₀ s H I st hn hW
    have hd : (model Xo.prog Xo.w).den (.compLoop (gE2 elt tg iter ifs tg1 iter1 ifs1 scope pos) 0 (.ref it) .none genv) = (compTurn (gE2 elt tg iter ifs tg1 iter1 ifs1 scope pos) 0 (.ref it) .none genv).onRaise (leaving genv) := rfl
    rw [hd, compTurn2g_out, Sem.onRaise_eq_wrap]
    refine seg_bind_wrap (wpAny_standAt ?_)
    rcases turn i m H hW with ⟨stop, qe⟩ | ⟨go', step⟩
    · have td := T.done Xo rfl rfl rfl hc i pins0 s _ H (fun _ _ => False) I (f0 H hn) st stop
      refine segF eA td fun r s1 ⟨hr, I1⟩ => ?_
      subst hr
      exact seg_end (.ok .next) ⟨rfl, _, _, H, hpa, I1, qe⟩
    · have ti := T.item Xo rfl rfl rfl hc i pins0 s _ H (fun _ _ => False) I (f0 H hn) st go'
      refine segF eA ti fun r s1 ⟨u, hr, h1⟩ => ?_
      subst hr
      refine segF eA h1 fun _ s2 ⟨x, H2, I2, r2, y2, st2, n2⟩ => ?_
      have I2' := I2.pinned (f0 H2 n2) (T.obj _ _ st2)
      have hg2 := pgt _ s2 _ H2 x u _ I2' r2 (step x H2 y2)
      rw [exe, eenv] at hg2
      refine segF eA hg2 fun _ s3 ⟨σ3, H3, I3, hw3, q3⟩ => ?_
      have ht3 := ptt _ s3 σ3 H3 _ I3 q3
      rw [exe, eenv] at ht3
      refine segF eA ht3 fun b s4 ⟨H4, I4, q4⟩ => ?_
      have hl3 : (wipe σ vs).length = σ3.length := by rw [← hw3, wipe_length]
      have back : ∀ {σ' : St} {s' : Shared} {H' : Hp}, Inv Xo (pins0 ++ pinsAt fp s2.heap) σ' H' s' → (wipe σ vs).length = σ'.length → (∀ (j : Nat) v, (wipe σ vs)[j]? = some (some v) → σ'[j]? = some (some v)) → Inv Xo pins0 (wipe σ vs) H' s' ∧ tn (i + 1) s'.heap ∧ ∀ b ∈ fp, H' b = none := fun {σ' s' H'} I' hl hk => by
        have pin' : ∀ b ∈ fp, ∀ o, s2.heap.get? b = some o → s'.heap.get? b = some o ∧ H' b = none := fun b hb o e =>
          let z := I'.pin (b, o) (List.mem_append_right _ (List.mem_append_right _ (mem_pinsAt hb e)))
          ⟨z.1, z.2.1⟩
        refine ⟨(I'.unpinned (pins := pins0)).weak hl hk, T.keep _ _ _ st2 fun b hb o e => (pin' b hb o e).1, fun b hb => ?_⟩
        obtain ⟨o, e, _⟩ := T.obj _ _ st2 b hb
        exact (pin' b hb o e).2
      have hk3 : ∀ (j : Nat) v, (wipe σ vs)[j]? = some (some v) → σ3[j]? = some (some v) := fun j v e => by
        rw [← hw3] at e
        exact (wipe_some e).1
      have hk4 : ∀ (j : Nat) v, (wipe σ vs)[j]? = some (some v) → (wipe σ3 vs1)[j]? = some (some v) := fun j v e => by
        rw [← hw3] at e
        obtain ⟨e1, e2⟩ := wipe_some e
        rw [wipe_out fun z => e2 (hv j z)]
        exact e1
      cases b with
      | false =>
        simp only [Bool.false_eq_true, if_false] at q4 ⊢
        obtain ⟨m', hm, w'⟩ := q4
        obtain ⟨I5, t5, n5⟩ := back I4 hl3 hk3
        exact seg_again rfl (ih m' hm n (by omega) (i + 1) s₀ s4 H4 I5 t5 n5 w')
      | true =>
        simp only [if_true] at q4 ⊢
        have hi5 := pi1 _ s4 σ3 H4 _ I4 q4
        rw [exe, eenv] at hi5
        refine segF eA hi5 fun xv s5 h5 => ?_
        refine segF eA (wpAny_standAt (Q := fun _ s' => s' = s5) rfl) fun _ s5' e' => ?_
        subst e'
        rw [hs1 xv]
        refine segF eA (wpAny_pure (Q := fun a s' => a = xv ∧ s' = s5') ⟨rfl, rfl⟩) fun xv' s5'' e' => ?_
        obtain ⟨rfl, rfl⟩ := e'
        refine segF eA (wpAny_holding h5) fun itv s6 h6 => ?_
        obtain ⟨it1, fp1, tn1, J1, H6, rfl, I6, T1, st6, f6, W1, ⟨k0, hk0, w0⟩, turn1⟩ := h6
        have turn1' : GTurn J1 g1 tt1 te vs1 σ3 C (fun k H => k ≤ k0 ∧ ∃ m', m' ≤ k ∧ W (i + 1) m' H) (fun j k H => k ≤ k0 ∧ W1 j k H) := fun j k H ⟨hk, hw⟩ => by
          rcases turn1 j k H hw with ⟨x1, x2⟩ | ⟨x1, Nx, x2, x3⟩
          · exact .inl ⟨x1, hk, x2⟩
          · exact .inr ⟨x1, Nx, fun H' nx => let ⟨k', y1, y2⟩ := x2 H' nx; ⟨k', y1, by omega, y2⟩, x3⟩
        refine seg_call (c' := .compStart (gE2 elt tg iter ifs tg1 iter1 ifs1 scope pos) 1 (.ref it1) .none genv) fun p => ?_
        refine inner2 (pins0 := pins0 ++ pinsAt fp s2.heap) (k0 := k0) eA eenv hc exe hh hco rfl pg1 pt1 pe1 T1 (List.mem_append_left _ hpa) (fun H hn b hb => ⟨hn b hb, (f6 b hb).2⟩) turn1' (fun k n hkn s₀ s H I q => ?_) (by omega) (I6.weak (wipe_length _ _) fun j v e => (wipe_some e).1) st6 (fun b hb => (f6 b hb).1) ⟨Nat.le_refl _, w0⟩
        obtain ⟨q0, m', q1, q2⟩ := q
        obtain ⟨I7, t7, n7⟩ := back I (hl3.trans (wipe_length σ3 vs1).symm) hk4
        exact seg_again rfl (ih m' (by omega) n (by omega) (i + 1) s₀ s H I7 t7 n7 q2)
end
end L2
end

section
set_option Elab.async false
set_option linter.all false
set_option maxRecDepth 100000
set_option maxHeartbeats 4000000
namespace L2
open PySem PySem.Spec PyProof.Rows

structure At1 (X : Cx) (A1 : Around) : Prop where
  hd : A1.handled = none
  fr : A1.frames = X.A.frames
abbrev gOver (A1 : Around) (e : Expr) (it : Addr) (genv : Env) : Around := A1.over (.compLoop e 0 (.ref it) .none genv) []

def SegOf (X : Cx) (k : Nat) (e : Expr) (tg : Expr) (scope : Scope) (σ : St) (vs : List Nat) (Rdy : It → GC → (Hp → Prop) → Hp → Prop) : Prop :=
  ∀ (s4 : Shared) (gs : Array GenState) (H4 : Hp) (C0 : Addr) (cl : List (Str × Addr)) (code : Value) (fp : List Addr) (A1 : Around) (it : Addr) (pa : Addr × Obj) (J : It) (tn : Nat → Heap → Prop) (C : GC) (Qe : Hp → Prop) (H' : Hp) (s' : Shared),
    At1 X A1 → Room k (gOver A1 e it (genEnv scope cl C0 code builtinsNs X.env)) → pa.1 ∉ fp → Turn X.prog X.w X.K tg J fp it tn → Rdy J C Qe H' →
    Inv (X.gblk s4 gs H4 scope (genEnv scope cl C0 code builtinsNs X.env) fp (gOver A1 e it (genEnv scope cl C0 code builtinsNs X.env))) [pa] (wipe σ vs) H' s' → tn 0 s'.heap → (∀ b ∈ fp, H' b = none) →
    ∃ n, Seg (model X.prog X.w) A1 (gR (gP (X.gblk s4 gs H4 scope (genEnv scope cl C0 code builtinsNs X.env) fp (gOver A1 e it (genEnv scope cl C0 code builtinsNs X.env))) pa Qe))
      (gY (X.gblk s4 gs H4 scope (genEnv scope cl C0 code builtinsNs X.env) fp (gOver A1 e it (genEnv scope cl C0 code builtinsNs X.env))) pa C) n s' (.compStart e 0 (.ref it) .none (genEnv scope cl C0 code builtinsNs X.env))
      ((model X.prog X.w).den (.compStart e 0 (.ref it) .none (genEnv scope cl C0 code builtinsNs X.env))) [] s'
theorem gstart {prog : Program} {w : World} {A1 : Around} {R : GenEnd} {Y : Protocol} {n : Nat} {s₀ s : Shared} {elt tg iter : Expr} {ifs : List Expr} {cls : List Comprehension} {scope : Scope} {pos : Pos} {it : Addr} {genv : Env}
    (loop : Seg (model prog w) A1 R Y n s₀ (.compLoop (.GeneratorExp elt (⟨tg, iter, ifs, 0⟩ :: cls) scope pos) 0 (.ref it) .none genv) ((model prog w).den (.compLoop (.GeneratorExp elt (⟨tg, iter, ifs, 0⟩ :: cls) scope pos) 0 (.ref it) .none genv)) [] s)
    (self : ∀ (A : Around) (Q : Value → Shared → Prop) (E : Value → Shared → Prop), Q (.ref it) s → wpAny (model prog w) A (pyIter (.ref it)) Q E s) :
    Seg (model prog w) A1 R Y n s₀ (.compStart (.GeneratorExp elt (⟨tg, iter, ifs, 0⟩ :: cls) scope pos) 0 (.ref it) .none genv) ((model prog w).den (.compStart (.GeneratorExp elt (⟨tg, iter, ifs, 0⟩ :: cls) scope pos) 0 (.ref it) .none genv)) [] s := by
  have hd : (model prog w).den (.compStart (.GeneratorExp elt (⟨tg, iter, ifs, 0⟩ :: cls) scope pos) 0 (.ref it) .none genv) = (compStart (.GeneratorExp elt (⟨tg, iter, ifs, 0⟩ :: cls) scope pos) 0 (.ref it) .none genv).onRaise (leaving genv) := rfl
  rw [hd]
  unfold compStart; rw [Sem.onRaise_eq_wrap]
  show Seg _ A1 _ _ _ s₀ _ ((ask >>= _).wrap _ _ _ _) [] s
  refine seg_bind_wrap (wpAny_askSetting ?_)
  split
  · exact seg_again rfl loop
  · refine seg_bind_wrap (wpAny_rule ?_)
    show Seg _ A1 _ _ _ s₀ _ ((standAt iter.pos >>= _).wrap _ _ _ _) [] s
    exact seg_bind_wrap (wpAny_standAt (seg_bind_wrap (self _ _ _ (seg_again rfl loop))))
section
variable {X : Cx} {pins : List (Addr × Obj)} {σ : St} {elt tg iter tg1 iter1 : Expr} {ifs ifs1 : List Expr} {scope : Scope} {gpos : Pos} {vs vs1 : List Nat} {g g1 : TG} {tt tt1 : TT} {te : TE} {wi1 : TI} {k : Nat}
def Rdy2 (g : TG) (tt : TT) (wi1 : TI) (g1 : TG) (tt1 : TT) (te : TE) (vs vs1 : List Nat) (σ : St) : It → GC → (Hp → Prop) → Hp → Prop := fun J C Qe H => ∃ W : Nat → Nat → Hp → Prop, (∃ m, W 0 m H) ∧ GTurn2 J g tt wi1 g1 tt1 te vs vs1 σ C Qe W
theorem gexf {X : Cx} {pins : List (Addr × Obj)} {σ : St} {H0 H : Hp} {s : Shared} {pa : Addr × Obj} {fp : List Addr} (I : Inv X [pa] σ H0 s) (hex : X.ex = fp) (hpn : X.pn = []) (hpa : pa.1 ∉ fp) (hn : ∀ b ∈ fp, H b = none) : ∀ b ∈ fp, FpOk X [pa] H b := fun b hb => by
  subst hex
  refine ⟨hn b hb, (I.ok.exf b hb).1, I.ok.exfs b hb, .inl hb, fun x c e => (I.ok.exf b hb).2 x c e, fun p hp z => ?_⟩
  rw [hpn] at hp
  have : p = pa := by simpa using hp
  rw [this] at z
  exact hpa (by rw [z]; exact hb)
theorem seg2 (hc : X.calm = true) (hco : scope.isCoroutine = false) (hs1 : ∀ env x, foldedSetIterable iter1 env x = pure x) (hv : ∀ i ∈ vs1, i ∈ vs)
    (hg : ∀ (s : Shared) (gs : Array GenState) (H : Hp) (C : Addr) (cl : List (Str × Addr)) (code : Value) (fp : List Addr) (A' : Around), Room k A' → PG (X.gblk s gs H scope (genEnv scope cl C code builtinsNs X.env) fp A') tg g)
    (ht : ∀ (s : Shared) (gs : Array GenState) (H : Hp) (C : Addr) (cl : List (Str × Addr)) (code : Value) (fp : List Addr) (A' : Around), Room k A' → PTs (X.gblk s gs H scope (genEnv scope cl C code builtinsNs X.env) fp A') ifs tt)
    (hi1 : ∀ (s : Shared) (gs : Array GenState) (H : Hp) (C : Addr) (cl : List (Str × Addr)) (code : Value) (fp : List Addr) (A' : Around), Room k A' → PI (X.gblk s gs H scope (genEnv scope cl C code builtinsNs X.env) fp A') tg1 iter1 wi1)
    (hg1 : ∀ (s : Shared) (gs : Array GenState) (H : Hp) (C : Addr) (cl : List (Str × Addr)) (code : Value) (fp : List Addr) (A' : Around), Room k A' → PG (X.gblk s gs H scope (genEnv scope cl C code builtinsNs X.env) fp A') tg1 g1)
    (ht1 : ∀ (s : Shared) (gs : Array GenState) (H : Hp) (C : Addr) (cl : List (Str × Addr)) (code : Value) (fp : List Addr) (A' : Around), Room k A' → PTs (X.gblk s gs H scope (genEnv scope cl C code builtinsNs X.env) fp A') ifs1 tt1)
    (he : ∀ (s : Shared) (gs : Array GenState) (H : Hp) (C : Addr) (cl : List (Str × Addr)) (code : Value) (fp : List Addr) (A' : Around), Room k A' → PE (X.gblk s gs H scope (genEnv scope cl C code builtinsNs X.env) fp A') elt te) :
    SegOf X k (gE2 elt tg iter ifs tg1 iter1 ifs1 scope gpos) tg scope σ vs (Rdy2 g tt wi1 g1 tt1 te vs vs1 σ) := by
  intro s4 gs H4 C0 cl code fp A1 it pa J tn C Qe H' s' hA hr hpf T ⟨W, ⟨m, w0⟩, turn⟩ I st hn
  have rm : ∀ A' : Around, A'.handled = none → A'.depth = (gOver A1 (gE2 elt tg iter ifs tg1 iter1 ifs1 scope gpos) it (genEnv scope cl C0 code builtinsNs X.env)).depth → A'.units = (gOver A1 (gE2 elt tg iter ifs tg1 iter1 ifs1 scope gpos) it (genEnv scope cl C0 code builtinsNs X.env)).units → Room k A' := fun A' h1 h2 h3 => ⟨h1, by rw [h2]; exact hr.dp, by rw [h3]; exact hr.un⟩
  refine ⟨m + 1, gstart (loop2 (Xo := X.gblk s4 gs H4 scope (genEnv scope cl C0 code builtinsNs X.env) fp (gOver A1 (gE2 elt tg iter ifs tg1 iter1 ifs1 scope gpos) it (genEnv scope cl C0 code builtinsNs X.env))) (W := W) rfl rfl rfl rfl hc rfl hA.hd hco (hs1 _) hv
    (hg _ _ _ _ _ _ _ _ hr) (ht _ _ _ _ _ _ _ _ hr) (hi1 _ _ _ _ _ _ _ _ hr) (fun A' h1 h2 h3 => hg1 _ _ _ _ _ _ _ _ (rm A' h1 h2 h3)) (fun A' h1 h2 h3 => ht1 _ _ _ _ _ _ _ _ (rm A' h1 h2 h3)) (fun A' h1 h2 h3 => he _ _ _ _ _ _ _ _ (rm A' h1 h2 h3)) T (List.mem_singleton.mpr rfl) (fun H hn => gexf (pins := []) I rfl rfl hpf hn) turn m (m + 1) (Nat.lt_succ_self _) 0 _ _ H' I st hn w0) fun A Q E h => T.self A 0 _ Q E st h⟩
end

def GMade (X : Cx) (pins : List (Addr × Obj)) (σ : St) (e tg : Expr) (scope : Scope) (R : It → Hp → Prop) (v : Value) (s5 : Shared) : Prop :=
  ∃ (it a : Addr) (fp : List Addr) (tn : Nat → Heap → Prop) (J : It) (H4 : Hp) (s4 : Shared) (code : Value) (h5 : Heap) (go : Obj) (tk : Nat) (m0 : Str → Option Value) (genv : Env),
    v = .ref a ∧ Inv X pins σ H4 s4 ∧ Turn X.prog X.w X.K tg J fp it tn ∧ tn 0 s4.heap ∧ (∀ b ∈ fp, FpOk X pins H4 b ∧ b < s4.heap.objs.size) ∧ R J H4 ∧
    genv = genEnv scope (cloFrom X.env.cells scope.names []) s4.heap.objs.size code builtinsNs X.env ∧
    s5 = { s4 with gens := s4.gens.push (.fresh (.compStart e 0 (.ref it) .none genv)), toks := tk, heap := h5 } ∧
    (∀ b o, s4.heap.get? b = some o → h5.get? b = some o) ∧ h5.Ns s4.heap.objs.size m0 ∧ h5.get? a = some go ∧ h5.IsGen a s4.gens.size ∧ s4.heap.objs.size < a ∧ h5.objs.size = a + 1 ∧ ∀ v, go.data ≠ .cell v
section
variable {X : Cx} {pins : List (Addr × Obj)} {σ : St} {H : Hp} {s : Shared} {elt tg iter : Expr} {ifs : List Expr} {cls : List Comprehension} {scope : Scope} {gpos : Pos} {own : List (Str × Nat)} {wi : TI} {R : It → Hp → Prop}
theorem gen_made (I : Inv X pins σ H s) (G : GenHere X) (hi : PI X tg iter wi) (hw : wi σ H R) (ok : BlkOk X.N X.env.scope scope own) (hcell : ∀ y ∈ scope.names, y.2 ≠ .cell) (h0 : scope.names.lookup (".0" : Str) = some NameKind.local)
    (hco : scope.isCoroutine = false) (hroom : X.A.depth < recursionLimit) (hs : ∀ x, genFold iter X.env x = pure x) :
    wpAny (model X.prog X.w) X.A (eval (.GeneratorExp elt (⟨tg, iter, ifs, 0⟩ :: cls) scope gpos) X.env) (GMade X pins σ (.GeneratorExp elt (⟨tg, iter, ifs, 0⟩ :: cls) scope gpos) tg scope R) X.xe s := by
  have hfree : ∀ y ∈ scope.names, y.2 = .free → ∃ c, X.env.cells.lookup y.1 = some c := fun y hy e => by
    rcases ok.free y hy e with k | k
    · exact I.ok.has _ (.inl k)
    · exact I.ok.has _ (.inr k)
  refine wpAny_gen_makeN hco (closure_ok hfree) hcell h0 ok.kind hroom (thn (hi pins s σ H _ I hw) fun xv s1 hx => thn hx fun itv s2 h2 => ?_) hs
  obtain ⟨it, fp, tn, J, H2, rfl, I2, T, st2, f2, q⟩ := h2
  refine ⟨I2.nolimit, gen_code I2 G fun code s3 I3 kp3 hg3 => gen_blt I3 fun h' hn' hs' => ?_⟩
  have sz2 : ∀ b ∈ fp, ∃ o, s3.heap.get? b = some o := fun b hb => by
    obtain ⟨o, e, _⟩ := T.obj _ _ st2 b hb
    exact ⟨o, kp3 b o (f2 b hb).1 e⟩
  have hsz : h'.objs.size = s3.heap.objs.size + 1 := by rw [hs'.1, Heap.size_push]
  have kp4 : ∀ b o, s3.heap.get? b = some o → h'.get? b = some o := fun b o e => (hs'.2 b (Nat.ne_of_lt (Heap.lt_size e))).trans (Heap.get?_push_of_some _ e)
  refine ⟨it, h'.objs.size, fp, tn, J, H2, s3, code, _, _, _, _, _, rfl, I3, T, T.keep _ _ _ st2 fun b hb o e => kp3 b o (f2 b hb).1 e, fun b hb => ⟨f2 b hb, ?_⟩, q, rfl, rfl, fun b o e => Heap.get?_push_of_some _ (kp4 b o e), hn'.keeps fun b o e => Heap.get?_push_of_some _ e,
    Heap.get?_push_size _ rfl, ⟨_, _, _, Heap.get?_push_size _ rfl, rfl, rfl, rfl⟩, by rw [hsz]; exact Nat.lt_succ_self _, by rw [Heap.size_push], fun v z => nomatch z⟩
  obtain ⟨o, e⟩ := sz2 b hb
  exact Heap.lt_size e
end
end L2
end

section
set_option Elab.async false
set_option linter.all false
set_option maxRecDepth 100000
set_option maxHeartbeats 4000000
namespace L2
open PySem PySem.Spec PyProof.Rows
theorem over_frames {A : Around} {l : List Env} {e : Expr} {it : Addr} {genv : Env} (hf : Code.isFrame (.compLoop e 0 (.ref it) .none genv) = true) (h : A.frames = some l) : (gOver A e it genv).frames = some (genv :: l) := by
  unfold gOver Around.over
  dsimp only
  rw [show Code.envs (.compLoop e 0 (.ref it) .none genv) = [genv] by unfold Code.envs; rw [hf]; rfl, h]
  rfl
section
variable {X : Cx} {pins : List (Addr × Obj)} {σ : St} {e tg : Expr} {scope : Scope} {own : List (Str × Nat)} {k : Nat} {Rdy : It → GC → (Hp → Prop) → Hp → Prop} {R : It → Hp → Prop} {A1 : Around} {v : Value} {s5 : Shared}
structure GOpen (X : Cx) (pins : List (Addr × Obj)) (σ : St) (vs : List Nat) (Rdy : It → GC → (Hp → Prop) → Hp → Prop) (A1 : Around) (s5 : Shared) (a : Addr) (go : Obj) (g : Nat) (fp : List Addr) (Stt : Heap → Prop) (J : It) (H4 : Hp) (Xg : Cx) (gs0 : GenState) : Prop where
  prog : Xg.prog = X.prog
  w : Xg.w = X.w
  gen : ∀ h : Heap, h.get? a = some go → h.IsGen a g
  lt : g < Xg.s_0.gens.size
  gs : GS Xg (a, go) [(a, go)] (wipe σ vs) fp Stt H4 s5
  g0 : s5.gens[g]? = some gs0
  asz : a + 1 = s5.heap.objs.size
  fsz : ∀ b ∈ fp, b < s5.heap.objs.size
  back : ∀ pins' σ' H' s', Inv Xg pins' σ' H' s' → Inv X pins σ H' s'
  goes : ∀ C Qe H' s', GS Xg (a, go) [(a, go)] (wipe σ vs) fp Stt H' s' → Rdy J C Qe H' → ∃ n, gs0.Goes (model X.prog X.w) A1 (gR (gP Xg (a, go) Qe)) (gY Xg (a, go) C) n (.send .none) s'
theorem gen_open (hN : X.N.Nodup) (ok : BlkOk X.N X.env.scope scope own) (hcell : ∀ y ∈ scope.names, y.2 ≠ .cell) (S : SegOf X k e tg scope σ (own.map (·.2)) Rdy) (hf : ∀ it genv, Code.isFrame (.compLoop e 0 (.ref it) .none genv) = true)
    (hA : At1 X A1) (hroom : ∀ it genv, Room k (gOver A1 e it genv)) (hm : GMade X pins σ e tg scope R v s5) :
    ∃ (a : Addr) (go : Obj) (g : Nat) (fp : List Addr) (Stt : Heap → Prop) (J : It) (H4 : Hp) (Xg : Cx) (gs0 : GenState), v = .ref a ∧ R J H4 ∧ GOpen X pins σ (own.map (·.2)) Rdy A1 s5 a go g fp Stt J H4 Xg gs0 := by
  obtain ⟨it, a, fp, tn, J, H4, s4, code, h5, go, tk, m0, genv, rfl, I4, T, st4, f4, q, hgenv, hs5, kp5, hns5, ha5, hgen5, hC, hsz5, hgo⟩ := hm
  have hgs5 : s5.gens = s4.gens.push (.fresh (.compStart e 0 (.ref it) .none genv)) := by rw [hs5]
  have hb5 : GB s4.gens s5.gens := by
    rw [hgs5]
    exact ⟨AllBare.push I4.bare.1 rfl, by rw [Array.size_push]; exact Nat.le_succ _⟩
  have h5h : s5.heap = h5 := by rw [hs5]
  have hafp : a ∉ fp := fun z => absurd (Nat.lt_trans hC (f4 a z).2) (Nat.lt_irrefl _)
  have I5 : Inv (X.gblk s4 s5.gens H4 scope genv fp (gOver A1 e it genv)) [(a, go)] (wipe σ (own.map (·.2))) H4 s5 := by
    have z := gblock_start (tk := tk) (code := code) I4 ok hN hcell f4 hgenv (over_frames (hf it genv) (hA.fr.trans I4.ok.frames)) (show (gOver A1 e it genv).handled = none from hA.hd) hb5 kp5 hns5 ha5 hC hgo
    have e : s5 = { s4 with heap := h5, gens := s5.gens, toks := tk } := by rw [hs5]
    rw [← e] at z; exact z
  refine ⟨a, go, s4.gens.size, fp, tn 0, J, H4, X.gblk s4 s5.gens H4 scope genv fp (gOver A1 e it genv), .fresh (.compStart e 0 (.ref it) .none genv), rfl, q, rfl, rfl, fun h eh => ?_, ?_, ⟨List.mem_singleton.mpr rfl, I5, T.keep _ _ _ st4 fun b _ o eb => by rw [h5h]; exact kp5 b o eb, T.keep 0, fun b hb => (f4 b hb).1.1⟩, ?_, by rw [h5h, hsz5], fun b hb => ?_, fun pins' σ' H' s' I' => ?_, fun C Qe H' s' G hR => ?_⟩
  · obtain ⟨o, nm, qn, e1, r⟩ := hgen5
    rw [ha5] at e1; cases e1
    exact ⟨go, nm, qn, eh, r⟩
  · show _ < s5.gens.size
    rw [hgs5, Array.size_push]; exact Nat.lt_succ_self _
  · rw [hgs5]; simp
  · have := (f4 b hb).2
    rw [h5h, hsz5]
    exact Nat.lt_trans this (Nat.lt_trans hC (Nat.lt_succ_self _))
  · exact I4.call' (ch := fp) I'.os I'.base I'.hok ⟨I'.bare.1, Nat.le_trans hb5.2 I'.bare.2⟩ fun b hb => ⟨(f4 b hb).1.2.2.2.1, (f4 b hb).1.2.1, (f4 b hb).1.2.2.2.2.1, (f4 b hb).1.2.2.2.2.2⟩
  · subst hgenv
    obtain ⟨n, z⟩ := S s4 s5.gens H4 _ _ code fp A1 it (a, go) J tn C Qe H' s' hA (hroom it _) hafp T hR G.inv G.st G.non
    exact ⟨n, rfl, z⟩
end
def cApp (S : Addr) : GC := fun y H Nx => ∃ acc, H S = some (.lst acc) ∧ acc.length < sizeLine ∧ Nx (upd H S (.lst (acc ++ [y])))

theorem gather {Xg : Cx} {pa : Addr × Obj} {g : Nat} {Qe : Hp → Prop} {A : Around} {S : Addr} {R : Result → Shared → Prop} {res : Value} (hh : A.handled = none) (hroom : A.depth < recursionLimit) (hgo : ∀ h : Heap, h.get? pa.1 = some pa.2 → h.IsGen pa.1 g) (hgl : g < Xg.s_0.gens.size)
    (hEnd : ∀ pins σ' s' H, Inv Xg pins σ' H s' → Qe H → R (.ok (.ret res)) s') :
    ∀ (n : Nat) (pins : List (Addr × Obj)) (σ' : St) (fpA : List Addr) (Stt : Heap → Prop) (H : Hp) (s : Shared) (gs : GenState), GS Xg pa pins σ' fpA Stt H s → s.gens[g]? = some gs → gs.Goes (model Xg.prog Xg.w) A.in1.in1 (gR (gP Xg pa Qe)) (gY Xg pa (cApp S)) n (.send .none) (s.setGen g .running) →
      codeAny (model Xg.prog Xg.w) A (.builtin "list.extend.loop" ⟨[.ref S, .ref pa.1, res], []⟩) R s := by
  intro n
  induction n using Nat.strongRecOn with
  | ind n ih =>
    intro pins σ' fpA Stt H s gs hG hgs hgoes
    refine codeAny_builtin F.entry_extend_loop (by
      rw [Around.under_plainId F.plain_extend_loop _]
      show wpAny _ A.in1 (pyNext (.ref pa.1) >>= _) _ _ s
      refine wpAny_bind (gnext (A := A.in1) hh hroom hgo hgl hG hgs hgoes (fun s' pins' σ'' H' _ I' qe => wpAny_pure (hEnd _ _ s' H' I' qe)) fun v s1 y H4 Nx pins' σ'' fpA' Stt' gs' G4 r4 c4 hg4 kap => ?_)
      obtain ⟨acc, hS, hz, nx⟩ := c4
      obtain ⟨hz', its, c, ri, eS⟩ := G4.inv.hok S _ hS
      have hlen := ri.length
      show wpAny _ A.in1 (updateSeq S (·.push v) >>= _) _ _ s1
      refine wpAny_bind (wpAny_updateSeq eS rfl (wpAny_pure ⟨plainId_quiet F.plain_extend_loop _, ?_⟩) (by simp only [List.size_toArray]; omega) (by simp only [Array.size_push, List.size_toArray]; omega))
      have I5 := G4.inv.write (e := S) (x := S) (o := .lst (acc ++ [y])) (h' := s1.heap.update S (Obj.mapSeq (·.push v))) (t' := s1.toks) (by rw [hS]; trivial) (.inl rfl) (fun b u hb q => (Heap.get?_update_other _ _ (Ne.symm hb)).trans q) ⟨_, Heap.get?_update_self _ eS rfl⟩
        ⟨by rw [List.length_append]; exact hz, its ++ [v], c + 1, ri.append (.cons r4 .nil), by rw [Heap.get?_update_self _ eS rfl]; simp [Obj.mapSeq]⟩
      have hSf : S ∉ fpA' := fun z => by
        have := G4.non S z
        rw [hS] at this; cases this
      have G5 : GS Xg pa pins' σ'' fpA' Stt' (upd H4 S (.lst (acc ++ [y]))) { s1 with heap := s1.heap.update S (Obj.mapSeq (·.push v)), toks := s1.toks } :=
        ⟨G4.mem, I5, G4.keep _ _ G4.st fun b hb o e => (Heap.get?_update_other _ _ (fun z => hSf (by rw [z]; exact hb))).trans e, G4.keep, fun b hb => by rw [upd_ne (fun z => hSf (by rw [← z]; exact hb))]; exact G4.non b hb⟩
      obtain ⟨m, hm, z⟩ := kap _ _ (G5.set (g := g) (x := .running) rfl) nx
      exact ih m (by omega) pins' σ'' fpA' Stt' _ _ gs' G5 hg4 z)
section
variable {X : Cx} {pins : List (Addr × Obj)} {σ : St} {e tg : Expr} {scope : Scope} {own : List (Str × Nat)} {k : Nat} {Rdy : It → GC → (Hp → Prop) → Hp → Prop} {v : Value} {s5 : Shared}

theorem tup_of_gen {Q : VK} (hN : X.N.Nodup) (ok : BlkOk X.N X.env.scope scope own) (hcell : ∀ y ∈ scope.names, y.2 ≠ .cell) (S : SegOf X k e tg scope σ (own.map (·.2)) Rdy) (hf : ∀ it genv, Code.isFrame (.compLoop e 0 (.ref it) .none genv) = true)
    (hh : X.A.handled = none) (hdp : X.A.depth < recursionLimit) (hroom : ∀ it genv, Room k (gOver X.A.in1.in1.in1.in1 e it genv))
    (hm : GMade X pins σ e tg scope (fun J H1 => ∀ D, H1 D = none → Rdy J (cApp D) (fun H => ∃ acc, H D = some (.lst acc) ∧ ∀ p, H p = none → Q (.ref p) (upd H p (.tup acc))) (upd H1 D (.lst []))) v s5) :
    wpAny (model X.prog X.w) X.A (call (.type "tuple") [v]) (EP X pins σ Q) X.xe s5 := by
  obtain ⟨a, go, g, fp, Stt, J, H4, Xg, gs0, rfl, q, O⟩ := gen_open (A1 := X.A.in1.in1.in1.in1) hN ok hcell S hf ⟨hh, rfl⟩ hroom hm
  generalize hS : s5.heap.objs.size = D
  have hDn : H4 D = none := O.gs.inv.hok.fresh (Nat.le_of_eq hS)
  have hDf : D ∉ fp := fun z => by
    have := O.fsz D z
    rw [hS] at this
    exact absurd this (Nat.lt_irrefl _)
  have ha5 : s5.heap.get? a = some go := (O.gs.inv.pin _ (List.mem_append_right _ O.gs.mem)).1
  have hDa : D ≠ a := by rw [← hS, ← O.asz]; exact Nat.succ_ne_self a
  have tyA : s5.TypeIs (.ref a) "generator" := (O.gen _ ha5).typeIs
  have A4 : ∀ (A' : Around), A' = X.A.in1.in1 → codeAny (model X.prog X.w) A' (.builtin "list.extend.loop" ⟨[.ref D, .ref a, .ref D], []⟩)
      (fun r s' => r = .ok (.ret (.ref D)) ∧ ∃ H', Inv X pins σ H' s' ∧ ∃ acc, H' D = some (.lst acc) ∧ ∀ p, H' p = none → Q (.ref p) (upd H' p (.tup acc)))
      { s5 with heap := ((s5.heap.push { cls := .type "list", data := .seq ([] : List Value).toArray }).update D (Obj.mapSeq (·.push Value.none))).update D (Obj.mapSeq (·.pop)) } := by
    intro A' hA'
    subst hA'
    have hS₁ : (s5.heap.push { cls := .type "list", data := .seq ([] : List Value).toArray }).get? D = some { cls := .type "list", data := .seq ([] : List Value).toArray } := by rw [← hS]; exact Heap.get?_push_size _ rfl
    have hS₂ := Heap.get?_update_self (Obj.mapSeq (·.push Value.none)) hS₁ rfl
    have hS₃ := Heap.get?_update_self (Obj.mapSeq (·.pop)) hS₂ rfl
    have kp7 : ∀ b o, s5.heap.get? b = some o → (((s5.heap.push { cls := .type "list", data := .seq ([] : List Value).toArray }).update D (Obj.mapSeq (·.push Value.none))).update D (Obj.mapSeq (·.pop))).get? b = some o := fun b o e => by
      have hb : b ≠ D := by rw [← hS]; exact Nat.ne_of_lt (Heap.lt_size e)
      exact (Heap.get?_update_other _ _ (Ne.symm hb)).trans ((Heap.get?_update_other _ _ (Ne.symm hb)).trans (Heap.get?_push_of_some _ e))
    have I7 : Inv Xg [(a, go)] (wipe σ (own.map (·.2))) (upd H4 D (.lst [])) { s5 with heap := ((s5.heap.push { cls := .type "list", data := .seq ([] : List Value).toArray }).update D (Obj.mapSeq (·.push Value.none))).update D (Obj.mapSeq (·.pop)) } :=
      O.gs.inv.laid (t' := s5.toks) kp7 (Nat.le_of_eq hS) ⟨Nat.zero_le _, [], _, .nil, by rw [hS₃]; rfl⟩
    have G7 : GS Xg (a, go) [(a, go)] (wipe σ (own.map (·.2))) fp Stt (upd H4 D (.lst [])) { s5 with heap := ((s5.heap.push { cls := .type "list", data := .seq ([] : List Value).toArray }).update D (Obj.mapSeq (·.push Value.none))).update D (Obj.mapSeq (·.pop)) } :=
      ⟨O.gs.mem, I7, O.gs.keep _ _ O.gs.st fun b _ o e => kp7 b o e, O.gs.keep, fun b hb => by rw [upd_ne (fun z => hDf (by rw [← z]; exact hb))]; exact O.gs.non b hb⟩
    obtain ⟨n, hgo⟩ := O.goes _ _ _ _ (G7.set (g := g) (x := .running) rfl) (q D hDn)
    rw [← O.prog, ← O.w] at hgo ⊢
    exact gather (pa := (a, go)) (A := X.A.in1.in1) (S := D) (res := .ref D) hh hdp O.gen O.lt (fun _ _ s' H' I' qe => ⟨rfl, H', O.back _ _ _ _ I', qe⟩) n _ _ _ _ _ _ gs0 G7 O.g0 hgo
  have col : ∀ {Q₂ : List Value → Shared → Prop} {E₂ : Value → Shared → Prop}, (∀ (s' : Shared) (its : List Value), (∃ H' acc, Inv X pins σ H' s' ∧ Vals acc its ∧ acc.length ≤ sizeLine ∧ ∀ p, H' p = none → Q (.ref p) (upd H' p (.tup acc))) → Q₂ its s') →
      wpAny (model X.prog X.w) X.A.in1.in1 (collect (.ref a)) Q₂ E₂ s5 := fun {Q₂ E₂} hQ₂ => by
    unfold collect
    refine wpAny_bind (wpAny_runValue (codeAny_builtin F.entry_proto_collect (by
      rw [Around.under_plainId F.plain_proto_collect _]
      show wpAny _ X.A.in1.in1.in1 (newList [] >>= fun l => again (.builtin "list.__iadd__" ⟨[l, .ref a], []⟩)) _ _ s5
      refine wpAny_bind (wpAny_newObj_type (wpAny_pure ⟨plainId_quiet F.plain_list_iadd _, codeAny_builtin F.entry_list_iadd ?_⟩))
      rw [Around.under_plainId F.plain_list_iadd _, hS]
      have ha1 : (s5.heap.push { cls := .type "list", data := .seq ([] : List Value).toArray }).get? a = some go := Heap.get?_push_of_some _ ha5
      have ty1 : ({ s5 with heap := s5.heap.push { cls := .type "list", data := .seq ([] : List Value).toArray } } : Shared).TypeIs (.ref a) "generator" := (O.gen _ ha1).typeIs
      show wpAny _ _ (Builtin.List.listExtendWith (.ref D) (.ref a) (.ref D)) _ _ _
      unfold Builtin.List.listExtendWith
      refine wpAny_bind (wpAny_typeOf ty1 ?_)
      have n1 : Builtin.List.listSameRef (.ref D) (.ref a) = false := by simp [Builtin.List.listSameRef, hDa]
      simp only [n1, show (Value.type "generator" == Value.type "list") = false by decide, show (Value.type "generator" == Value.type "tuple") = false by decide, Bool.or_false, Bool.false_eq_true, if_false]
      refine wpAny_bind (wpAny_pyIter_gen (O.gen _ ha1) (wpAny_bind (wpAny_holding ?_)))
      unfold Builtin.List.listLengthHint
      refine wpAny_bind (wpAny_specialOf ty1 F.gen_no_len ?_)
      show wpAny _ _ (specialOf (Value.ref a) (Str.ofString "__length_hint__") >>= _) _ _ _
      refine wpAny_bind (wpAny_specialOf ty1 F.gen_no_hint (wpAny_pure ?_))
      show wpAny _ _ (rule "list.extend.makes-room" >>= fun _ => Builtin.List.listTouch (.ref D) >>= fun _ => again (.builtin "list.extend.loop" ⟨[.ref D, .ref a, .ref D], []⟩)) _ _ _
      refine wpAny_bind (wpAny_rule (wpAny_bind ?_))
      show wpAny _ _ (updateSeq D (·.push .none) >>= fun _ => updateSeq D (·.pop)) _ _ _
      have hS₁ : (s5.heap.push { cls := .type "list", data := .seq ([] : List Value).toArray }).get? D = some { cls := .type "list", data := .seq ([] : List Value).toArray } := by rw [← hS]; exact Heap.get?_push_size _ rfl
      refine wpAny_bind (wpAny_updateSeq hS₁ rfl (wpAny_updateSeq (Heap.get?_update_self (Obj.mapSeq (·.push Value.none)) hS₁ rfl) rfl (wpAny_pure ⟨plainId_quiet F.plain_extend_loop _, codeAny_mono (A4 _ rfl) fun r s' h => ?_⟩)))
      obtain ⟨rfl, H', I', acc, hacc, qq⟩ := h
      obtain ⟨hz, its, c, ri, eS⟩ := I'.hok D _ hacc
      show wpAny _ _ (load D >>= _) _ _ s'
      refine wpAny_bind (wpAny_load eS (wpAny_pure (hQ₂ s' _ ⟨H', acc, I', ?_, hz, qq⟩)))
      simpa using ri)))
  refine callType_codes (Q₁ := fun obj s₁ => s₁.TypeIs obj "tuple" ∧ EP X pins σ Q obj s₁) F.called_tuple (F.typeCall_tuple_1 _) F.entry_object_init ?_ fun obj s₁ h₁ =>
    ⟨h₁.1, F.args_object_init_2 obj _, object_init_meets F.called_tuple.init.lookup F.called_tuple.made (by decide) _ _ X.A.in1 _ s₁ ⟨h₁.1, rfl, h₁.2⟩⟩
  refine codeAny_of_tree (by
    show wpAny _ X.A.in1.in1 (do checkBuiltinCall "tuple.__new__" ⟨[.type "tuple", .ref a], []⟩; again (.builtin "tuple.__new__" ⟨[.type "tuple", .ref a], []⟩)) _ _ s5
    refine wpAny_bind (wpAny_of_eq (F.newCall_tuple_1 _) (wpAny_pure ⟨plainId_quiet F.plain_tuple_new _, codeAny_builtin F.entry_tuple_new (by
      rw [Around.under_plainId F.plain_tuple_new _]
      have hsub := sub_tuple_self
      have hinit := init_tuple_lookup
      have hmh := madeHere_tuple
      wp_walk using wpAny_typeOf tyA, col
      intro s' its hh
      obtain ⟨H', acc, I', ri, hz, qq⟩ := hh
      have hlen := ri.length
      show wpAny _ _ (Builtin.Tuple.tupleExact its.toArray >>= fun v => ret v) _ _ _
      unfold Builtin.Tuple.tupleExact
      refine wpAny_bind (wpAny_newObj_type (wpAny_pure ?_) (by show its.toArray.size ≤ sizeLine; rw [List.size_toArray, ← hlen]; exact hz))
      have I2 : Inv X pins σ (upd H' s'.heap.objs.size (.tup acc)) { s' with heap := s'.heap.push { cls := .type "tuple", data := .seq its.toArray } } :=
        I'.laid (t' := s'.toks) (fun b o e => Heap.get?_push_of_some _ e) (Nat.le_refl _) (show ObjOk X.prog X.w _ _ _ (.tup acc) from ⟨hz, its, ri, IsTup.new _ _⟩)
      exact ⟨⟨_, Heap.get?_push_size _ rfl, rfl⟩, .ref s'.heap.objs.size, _, I2, rfl, qq _ (I'.hok.fresh (Nat.le_refl _))⟩)⟩)))
end
end L2
end

section
set_option Elab.async false
set_option linter.all false
set_option maxRecDepth 100000
set_option maxHeartbeats 4000000
namespace L2
open PySem PySem.Spec PyProof.Rows

section
variable {X : Cx} {pins : List (Addr × Obj)} {σ : St} {e tg : Expr} {scope : Scope} {own : List (Str × Nat)} {k : Nat} {Rdy : It → GC → (Hp → Prop) → Hp → Prop} {v : Value} {s5 : Shared}
end
end L2
end

section
set_option Elab.async false
set_option linter.all false
set_option maxRecDepth 100000
set_option maxHeartbeats 4000000
namespace L2.Q3
open PySem PySem.Spec PyProof.Rows


abbrev Con := D → List D → Option (Option (List D))
def genL (con : Con) (fg : Fg) (ft : Ft) (fe : Fe) (vs : List Nat) : List D → Rho → List D → Option (Bool × List D × Rho)
  | [], ρ, acc => some (true, acc, ρ)
  | x :: xs, ρ, acc => (fg x (wipeR ρ vs)).bind fun ρ1 => (ft ρ1).bind fun p => if p.1 = true then (fe p.2).bind fun q => (esc1 q.2 q.1).bind fun z => (con z.1 acc).bind fun o => match o with
      | some acc' => genL con fg ft fe vs xs z.2 acc'
      | none => some (false, acc, z.2)
    else genL con fg ft fe vs xs p.2 acc
def gen2L (con : Con) (fg : Fg) (ft : Ft) (fi1 : Fi) (fg1 : Fg) (ft1 : Ft) (fe : Fe) (vs vs1 : List Nat) : List D → Rho → List D → Option (Bool × List D × Rho)
  | [], ρ, acc => some (true, acc, ρ)
  | x :: xs, ρ, acc => (fg x (wipeR ρ vs)).bind fun ρ1 => (ft ρ1).bind fun p => if p.1 = true then (fi1 p.2).bind fun q => (genL con fg1 ft1 fe vs1 q.1 q.2 acc).bind fun r => if r.1 = true then gen2L con fg ft fi1 fg1 ft1 fe vs vs1 xs r.2.2 r.2.1 else some r
    else gen2L con fg ft fi1 fg1 ft1 fe vs vs1 xs p.2 acc

def cnt2 (con : Con) (fg : Fg) (ft : Ft) (fi1 : Fi) (fg1 : Fg) (ft1 : Ft) (fe : Fe) (vs vs1 : List Nat) : List D → Rho → List D → Nat
  | [], _, _ => 0
  | x :: xs, ρ, acc => ((fg x (wipeR ρ vs)).bind fun ρ1 => (ft ρ1).bind fun p => if p.1 = true then (fi1 p.2).bind fun q => (genL con fg1 ft1 fe vs1 q.1 q.2 acc).bind fun r => some (q.1.length + 1 + cnt2 con fg ft fi1 fg1 ft1 fe vs vs1 xs r.2.2 r.2.1)
    else some (1 + cnt2 con fg ft fi1 fg1 ft1 fe vs vs1 xs p.2 acc)).getD 0
structure StepB (HB : Hp) (Ow : Addr → Prop) (Fz Fz' : Addr → Prop) (H H' : Hp) : Prop where
  fzl : ∀ q, Fz' q → H' q ≠ none
  keep : ∀ q o, H q = some o → (HB q ≠ none ∨ Fz q) → ¬ Ow q → H' q = some o
  live : ∀ q, H' q = none → H q = none
  grow : ∀ q, Fz q → Fz' q
  new : ∀ q, Fz' q → Fz q ∨ H q = none ∨ Ow q
theorem Step.toB {HB : Hp} {Ow Fz Fz' : Addr → Prop} {H H' : Hp} (a : Step Ow Fz Fz' H H') : StepB HB Ow Fz Fz' H H' := ⟨a.fzl, fun q o e _ n => a.keep q o e n, a.live, a.grow, a.new⟩
theorem StepB.trans {HB : Hp} {Ow Ow1 Fz Fz1 Fz2 : Addr → Prop} {H H1 H2 : Hp} (a : StepB HB Ow Fz Fz1 H H1) (b : StepB HB Ow1 Fz1 Fz2 H1 H2) (o : ∀ q, Ow1 q → Ow q ∨ H q = none) : StepB HB Ow Fz Fz2 H H2 where
  fzl := b.fzl
  keep := fun q u e c n => b.keep q u (a.keep q u e c n) (c.imp id (a.grow q)) fun z => (o q z).elim n fun z => by rw [z] at e; cases e
  live := fun q e => a.live q (b.live q e)
  grow := fun q e => b.grow q (a.grow q e)
  new := fun q e => by
    rcases b.new q e with e | e | e
    · exact a.new q e
    · exact .inr (.inl (a.live q e))
    · exact (o q e).elim (fun z => .inr (.inr z)) fun z => .inr (.inl z)

structure Blk (K : PySem.W.Frag) (HB : Hp) (vs : List Nat) (σ : St) (Fz1 : Addr → Prop) (ρ1 : Rho) (H1 : Hp) (Fzi : Addr → Prop) (ρi : Rho) (Hi : Hp) : Prop where
  rel : Rel K Fzi (wipeR ρi vs) (wipe σ vs) Hi
  step : StepB HB (Own (wipeR ρ1 vs) (wipe σ vs)) Fz1 Fzi H1 Hi
  own : ∀ p, Own (wipeR ρi vs) (wipe σ vs) p → Own (wipeR ρ1 vs) (wipe σ vs) p
  kp : Kp (wipeR ρ1 vs) (wipeR ρi vs)
  len : ρi.length = ρ1.length
structure ConOk (K : PySem.W.Frag) (HB : Hp) (Acc : (Addr → Prop) → Hp → List D → Prop) (con : Con) (C : GC) (Qs : Hp → Prop) : Prop where
  stab : ∀ {Ow Fz Fz' H H' acc}, Step Ow Fz Fz' H H' → (∀ q, Ow q → HB q ≠ none) → (∀ q, Fz q → ¬ Ow q) → Acc Fz H acc → Acc Fz' H' acc
  go : ∀ {Fz H v y acc acc' Nx}, Acc Fz H acc → Dr K Fz H v y → (∀ q, Fz q → H q ≠ none) → con y acc = some (some acc') → (∀ H', (∀ q o, H q = some o → (HB q ≠ none ∨ Fz q) → H' q = some o) → (∀ q, H' q = none → H q = none) → Acc Fz H' acc' → Nx H') → C v H Nx
  st : ∀ {Fz H v y acc Nx}, Acc Fz H acc → Dr K Fz H v y → con y acc = some none → Qs H → C v H Nx
section
variable {K : PySem.W.Frag} {HB : Hp} {Acc : (Addr → Prop) → Hp → List D → Prop} {con : Con} {C : GC} {Qs : Hp → Prop} {vs : List Nat} {σ : St} {Fz1 : Addr → Prop} {ρ1 : Rho} {H1 : Hp} {J : It} {items : List D} {fg : Fg} {ft : Ft} {fe : Fe}
theorem Blk.start (rw1 : Rel K Fz1 (wipeR ρ1 vs) (wipe σ vs) H1) : Blk K HB vs σ Fz1 ρ1 H1 Fz1 ρ1 H1 := ⟨rw1, Step.toB (.refl rw1.fzl), fun _ z => z, .refl, rfl⟩

theorem Blk.part {Fzi Fzc : Addr → Prop} {ρi ρc : Rho} {Hi Hc : Hp} {σa : St} (b : Blk K HB vs σ Fz1 ρ1 H1 Fzi ρi Hi) (sp : SPost K (blkFix vs) Fzi Fzc (wipeR ρi vs) ρc (wipe σ vs) σa Hi Hc) (oa : ∀ p, Own ρc σa p → Own (wipeR ρi vs) (wipe σ vs) p) (hl : σ.length = ρ1.length) :
    Blk K HB vs σ Fz1 ρ1 H1 Fzc ρc Hc := by
  have wq : wipe σa vs = wipe σ vs := wipe_eq (by rw [sp.len, wipe_length]) sp.same
  obtain ⟨x1, x2⟩ := sp.rel.wiped vs
  rw [wq] at x1 x2
  have ownc : ∀ p, Own (wipeR ρc vs) (wipe σ vs) p → Own (wipeR ρi vs) (wipe σ vs) p := fun p z => oa p (x2 p z)
  refine ⟨x1, b.step.trans sp.step.toB fun q z => .inl (b.own q z), fun p z => b.own p (ownc p z), b.kp.trans fun k w z => ?_, ?_⟩
  · obtain ⟨z1, z2⟩ := wipeR_some z
    obtain ⟨w', y1, y2⟩ := sp.kept k w (by simp [blkFix, z2]) z
    exact ⟨w', by rw [wipeR_out z2]; exact y1, y2⟩
  · have := sp.rel.len
    rw [sp.len, wipe_length, hl] at this
    exact this

theorem Blk.eaten {Fzi : Addr → Prop} {ρi : Rho} {Hi H' : Hp} (b : Blk K HB vs σ Fz1 ρ1 H1 Fzi ρi Hi) (hbo : ∀ p, Own (wipeR ρ1 vs) (wipe σ vs) p → HB p ≠ none) (k : ∀ q o, Hi q = some o → (HB q ≠ none ∨ Fzi q) → H' q = some o) (l : ∀ q, H' q = none → Hi q = none) : Blk K HB vs σ Fz1 ρ1 H1 Fzi ρi H' := by
  have drk : ∀ {v x}, Dr K Fzi Hi v x → Dr K Fzi H' v x := fun h => h.keep (fun _ z => z) (fun q o z e => k q o e (.inr z)) _ _
  have drak : ∀ {vs xs}, DrAll K Fzi Hi vs xs → DrAll K Fzi H' vs xs := fun h => h.keep (fun _ z => z) (fun q o z e => k q o e (.inr z)) _ _
  have fz : ∀ q, Fzi q → H' q ≠ none := fun q z e => b.rel.fzl q z (l q e)
  refine ⟨⟨b.rel.len, fun j w z => ?_, b.rel.apart, b.rel.nofz, fz⟩, b.step.trans (Ow1 := fun _ => False) ⟨fz, fun q o e c _ => k q o e c, l, fun _ z => z, fun _ z => .inl z⟩ fun _ z => z.elim, b.own, b.kp, b.len⟩
  obtain ⟨u, h1, h2⟩ := b.rel.val j w z
  refine ⟨u, h1, ?_⟩
  cases w with
  | d x => exact drk h2
  | sl _ => exact h2
  | fr xs =>
    obtain ⟨pp, us', y1, y2, y3⟩ := h2
    subst y1
    exact ⟨pp, us', rfl, k pp _ y2 (.inl (hbo pp (b.own pp ⟨j, xs, z, h1⟩))), drak y3⟩
theorem lastL (co : ConOk K HB Acc con C Qs) (wk : Walk K Fz1 H1 J items) (rw1 : Rel K Fz1 (wipeR ρ1 vs) (wipe σ vs) H1) (hl : σ.length = ρ1.length) (hbo : ∀ p, Own (wipeR ρ1 vs) (wipe σ vs) p → HB p ≠ none) {acc0 : List D} (hacc : Acc Fz1 H1 acc0)
    {r : Bool × List D × Rho} (e : genL con fg ft fe vs items ρ1 acc0 = some r) (ex : Nat) {Qe : Nat → Hp → Prop} (hend : ∀ Fzi Hi, Blk K HB vs σ Fz1 ρ1 H1 Fzi r.2.2 Hi → Acc Fzi Hi r.2.1 → r.1 = true → Qe ex Hi) (hstop : ∀ Fzi Hi, Blk K HB vs σ Fz1 ρ1 H1 Fzi r.2.2 Hi → r.1 = false → Qs Hi) :
    ∃ W : Nat → Nat → Hp → Prop, W 0 (items.length + ex) H1 ∧ GTurn J (tG K (blkFix vs) fg) (tT K ft) (tE K fe) vs σ C Qe W := by
  refine ⟨fun i m Hi => i ≤ items.length ∧ m = items.length - i + ex ∧ ∃ Fzi ρi acc, Blk K HB vs σ Fz1 ρ1 H1 Fzi ρi Hi ∧ Acc Fzi Hi acc ∧ genL con fg ft fe vs (items.drop i) ρi acc = some r, ⟨Nat.zero_le _, rfl, Fz1, ρ1, acc0, .start rw1, hacc, by simpa using e⟩, ?_⟩
  rintro i m Hi ⟨hi, rfl, Fzi, ρi, acc, bi, ai, ei⟩
  obtain ⟨w1, w2⟩ := wk Fzi Hi bi.step.grow (fun q o z e => bi.step.keep q o e (.inr z) fun ow => rw1.nofz q ow z) bi.rel.fzl
  by_cases hlt : i < items.length
  · right
    obtain ⟨x, hx⟩ : ∃ x, items[i]? = some x := ⟨items[i], List.getElem?_eq_getElem hlt⟩
    obtain ⟨go, yl⟩ := w1 i x hx
    have hdrop : items.drop i = x :: items.drop (i + 1) := by
      rw [List.drop_eq_getElem_cons hlt]
      have : items[i] = x := by rw [List.getElem?_eq_getElem hlt] at hx; exact Option.some.inj hx
      rw [this]
    rw [hdrop] at ei
    unfold genL at ei
    cases e3 : fg x (wipeR ρi vs) with
    | none => rw [e3] at ei; cases ei
    | some ρa =>
      simp only [e3, Option.bind_some] at ei
      cases e4 : ft ρa with
      | none => rw [e4] at ei; cases ei
      | some zt =>
        obtain ⟨b, ρb⟩ := zt
        simp only [e4, Option.bind_some] at ei
        refine ⟨go, fun H' => i + 1 ≤ items.length ∧ ∃ Fzi ρi acc, Blk K HB vs σ Fz1 ρ1 H1 Fzi ρi H' ∧ Acc Fzi H' acc ∧ genL con fg ft fe vs (items.drop (i + 1)) ρi acc = some r, fun H' ⟨h1, h2⟩ => ⟨items.length - (i + 1) + ex, by omega, h1, rfl, h2⟩, fun v H2 yv => ?_⟩
        obtain ⟨Fz2, md⟩ := yl v H2 yv
        have r2 : Rel K Fz2 (wipeR ρi vs) (wipe σ vs) H2 := bi.rel.step0 md.step md.new
        have st2 : Step (Own (wipeR ρi vs) (wipe σ vs)) Fzi Fz2 Hi H2 := md.step
        refine ⟨Fz2, wipeR ρi vs, x, ρa, r2, md.rep, e3, fun σa pa oa => ?_⟩
        refine ⟨wipe_eq (by rw [pa.len, wipe_length]) pa.same, Fz2, ρa, b, ρb, pa.rel, e4, fun H3 Fz3 p3 => ?_⟩
        have spa : SPost K (blkFix vs) Fzi Fz2 (wipeR ρi vs) ρa (wipe σ vs) σa Hi H2 := ⟨pa.rel, st2.trans pa.step fun q z => .inl z, fun p z => .inl (oa p z), pa.same, pa.kept, pa.len⟩
        have back : ∀ {Fzc ρc Hc}, PostL K Fz2 Fzc ρa ρc σa H2 Hc [] [] → Blk K HB vs σ Fz1 ρ1 H1 Fzc ρc Hc ∧ Acc Fzc Hc acc := fun {Fzc ρc Hc} pc => by
          have sp := spa.trans (pc.sp (fix := blkFix vs))
          exact ⟨bi.part sp (fun p z => oa p (pc.own p z)) hl, co.stab sp.step (fun q z => hbo q (bi.own q z)) (fun q z ow => bi.rel.nofz q ow z) ai⟩
        cases b with
        | false =>
          rw [if_neg (by decide)] at ei
          dsimp only
          rw [if_neg (by decide)]
          obtain ⟨x1, x2⟩ := back p3
          exact ⟨hlt, Fz3, ρb, acc, x1, x2, ei⟩
        | true =>
          rw [if_pos rfl] at ei
          dsimp only
          rw [if_pos rfl]
          cases e5 : fe ρb with
          | none => rw [e5] at ei; cases ei
          | some zf =>
            obtain ⟨wv, ρc⟩ := zf
            simp only [e5, Option.bind_some] at ei
            cases e6 : esc1 ρc wv with
            | none => rw [e6] at ei; cases ei
            | some ze =>
              obtain ⟨y, ρd⟩ := ze
              simp only [e6, Option.bind_some] at ei
              refine ⟨Fz3, ρb, wv, ρc, p3.rel, e5, fun v4 H4 Fz4 p4 => ?_⟩
              obtain ⟨Fz5, p5, d5⟩ := p4.esc (xs := [y]) (ρ2 := ρd) (by unfold escAll; rw [e6]; rfl)
              cases d5 with
              | cons dy _ =>
                obtain ⟨x1, x2⟩ := back (p3.seq p5)
                cases e7 : con y acc with
                | none => rw [e7] at ei; cases ei
                | some oc =>
                  simp only [e7, Option.bind_some] at ei
                  cases oc with
                  | some acc' => exact co.go x2 dy x1.rel.fzl e7 fun H' k l a => ⟨hlt, Fz5, ρd, acc', x1.eaten hbo k l, a, ei⟩
                  | none =>
                    cases ei
                    exact co.st x2 dy e7 (hstop Fz5 H4 x1 rfl)
  · left
    have hi' : i = items.length := by omega
    subst hi'
    rw [List.drop_length] at ei
    unfold genL at ei
    cases ei
    refine ⟨w2, ?_⟩
    rw [Nat.sub_self, Nat.zero_add]
    exact hend Fzi Hi bi ai rfl
end
end L2.Q3
end

section
set_option Elab.async false
set_option linter.all false
set_option maxRecDepth 100000
set_option maxHeartbeats 4000000
namespace L2.Q3
open PySem PySem.Spec PyProof.Rows
theorem wipeR_in {k : Nat} : ∀ {ρ : Rho} {vs : List Nat}, k ∈ vs → k < ρ.length → (wipeR ρ vs)[k]? = some none
  | _, [], h, _ => by simp at h
  | ρ, v :: vs, h, hl => by
    unfold wipeR
    by_cases hv : v = k
    · subst hv; rw [List.getElem?_set_self (by rw [wipeR_length]; exact hl)]
    · rw [List.getElem?_set_ne hv]
      rcases List.mem_cons.mp h with h | h
      · exact absurd h.symm hv
      · exact wipeR_in h hl
theorem wipeR_sub {ρ : Rho} {vs vs1 : List Nat} (hv : ∀ i ∈ vs1, i ∈ vs) : wipeR (wipeR ρ vs1) vs = wipeR ρ vs := by
  apply List.ext_getElem?
  intro k
  by_cases hk : k ∈ vs
  · by_cases hkl : k < ρ.length
    · rw [wipeR_in hk (by rw [wipeR_length]; exact hkl), wipeR_in hk hkl]
    · rw [List.getElem?_eq_none (by rw [wipeR_length, wipeR_length]; omega), List.getElem?_eq_none (by rw [wipeR_length]; omega)]
  · rw [wipeR_out hk, wipeR_out hk, wipeR_out fun z => hk (hv k z)]
theorem wipe_sub {σ : St} {vs vs1 : List Nat} (hv : ∀ i ∈ vs1, i ∈ vs) : wipe (wipe σ vs1) vs = wipe σ vs :=
  wipe_eq (wipe_length _ _) fun k hk => by
    have hk : k ∉ vs := by simpa [blkFix] using hk
    rw [wipe_out hk, wipe_out fun z => hk (hv k z)]
section
variable {K : PySem.W.Frag} {HB : Hp} {Acc : (Addr → Prop) → Hp → List D → Prop} {con : Con} {C : GC} {Qs : Hp → Prop} {vs vs1 : List Nat} {σ : St} {Fz1 : Addr → Prop} {ρ1 : Rho} {H1 : Hp} {J : It} {items : List D} {fg fg1 : Fg} {ft ft1 : Ft} {fi1 : Fi} {fe : Fe}

theorem Blk.outer {Fzi Fzc Fze : Addr → Prop} {ρi ρc ρe : Rho} {Hi Hc He : Hp} {σa : St} (b : Blk K HB vs σ Fz1 ρ1 H1 Fzi ρi Hi) (sp : SPost K (blkFix vs) Fzi Fzc (wipeR ρi vs) ρc (wipe σ vs) σa Hi Hc) (oa : ∀ p, Own ρc σa p → Own (wipeR ρi vs) (wipe σ vs) p) (hl : σ.length = ρ1.length)
    (hv : ∀ i ∈ vs1, i ∈ vs) (bi : Blk K HB vs1 σa Fzc ρc Hc Fze ρe He) : Blk K HB vs σ Fz1 ρ1 H1 Fze ρe He := by
  have wq : wipe σa vs = wipe σ vs := wipe_eq (by rw [sp.len, wipe_length]) sp.same
  obtain ⟨x1, x2⟩ := bi.rel.wiped vs
  rw [wipeR_sub hv, wipe_sub hv, wq] at x1 x2
  have b1 := b.part sp oa hl
  have oc : ∀ p, Own (wipeR ρc vs1) (wipe σa vs1) p → Own (wipeR ρi vs) (wipe σ vs) p := fun p z => oa p ((sp.rel.wiped vs1).2 p z)
  have ownc : ∀ p, Own (wipeR ρe vs) (wipe σ vs) p → Own (wipeR ρi vs) (wipe σ vs) p := fun p z => oc p (bi.own p (x2 p z))
  refine ⟨x1, b1.step.trans bi.step fun q z => .inl (b.own q (oc q z)), fun p z => b.own p (ownc p z), b1.kp.trans fun k w z => ?_, bi.len.trans b1.len⟩
  obtain ⟨z1, z2⟩ := wipeR_some z
  have z3 : k ∉ vs1 := fun y => z2 (hv k y)
  obtain ⟨w', y1, y2⟩ := bi.kp k w (by rw [wipeR_out z3]; exact z1)
  exact ⟨w', by rw [wipeR_out z2]; rw [wipeR_out z3] at y1; exact y1, y2⟩
theorem twoL (co : ConOk K HB Acc con C Qs) (wk : Walk K Fz1 H1 J items) (rw1 : Rel K Fz1 (wipeR ρ1 vs) (wipe σ vs) H1) (hl : σ.length = ρ1.length) (hbo : ∀ p, Own (wipeR ρ1 vs) (wipe σ vs) p → HB p ≠ none) {acc0 : List D} (hacc : Acc Fz1 H1 acc0) (hv : ∀ i ∈ vs1, i ∈ vs)
    {r : Bool × List D × Rho} (e : gen2L con fg ft fi1 fg1 ft1 fe vs vs1 items ρ1 acc0 = some r) {Qe : Hp → Prop} (hend : ∀ Fzi Hi, Blk K HB vs σ Fz1 ρ1 H1 Fzi r.2.2 Hi → Acc Fzi Hi r.2.1 → r.1 = true → Qe Hi) (hstop : ∀ Fzi Hi, Blk K HB vs σ Fz1 ρ1 H1 Fzi r.2.2 Hi → r.1 = false → Qs Hi) :
    ∃ W : Nat → Nat → Hp → Prop, (∃ m, W 0 m H1) ∧ GTurn2 J (tG K (blkFix vs) fg) (tT K ft) (tI K fi1) (tG K (blkFix vs1) fg1) (tT K ft1) (tE K fe) vs vs1 σ C Qe W := by
  refine ⟨fun i m Hi => i ≤ items.length ∧ ∃ Fzi ρi acc, Blk K HB vs σ Fz1 ρ1 H1 Fzi ρi Hi ∧ Acc Fzi Hi acc ∧ gen2L con fg ft fi1 fg1 ft1 fe vs vs1 (items.drop i) ρi acc = some r ∧ m = cnt2 con fg ft fi1 fg1 ft1 fe vs vs1 (items.drop i) ρi acc, ⟨_, Nat.zero_le _, Fz1, ρ1, acc0, .start rw1, hacc, by simpa using e, rfl⟩, ?_⟩
  rintro i m Hi ⟨hi, Fzi, ρi, acc, bi, ai, ei, hm⟩
  obtain ⟨w1, w2⟩ := wk Fzi Hi bi.step.grow (fun q o z e => bi.step.keep q o e (.inr z) fun ow => rw1.nofz q ow z) bi.rel.fzl
  by_cases hlt : i < items.length
  · right
    obtain ⟨x, hx⟩ : ∃ x, items[i]? = some x := ⟨items[i], List.getElem?_eq_getElem hlt⟩
    obtain ⟨go, yl⟩ := w1 i x hx
    have hdrop : items.drop i = x :: items.drop (i + 1) := by
      rw [List.drop_eq_getElem_cons hlt]
      have : items[i] = x := by rw [List.getElem?_eq_getElem hlt] at hx; exact Option.some.inj hx
      rw [this]
    rw [hdrop] at ei hm
    unfold gen2L at ei
    unfold cnt2 at hm
    cases e3 : fg x (wipeR ρi vs) with
    | none => rw [e3] at ei; cases ei
    | some ρa =>
      simp only [e3, Option.bind_some] at ei hm
      cases e4 : ft ρa with
      | none => rw [e4] at ei; cases ei
      | some zt =>
        obtain ⟨b, ρb⟩ := zt
        simp only [e4, Option.bind_some] at ei hm
        refine ⟨go, fun v H2 yv => ?_⟩
        obtain ⟨Fz2, md⟩ := yl v H2 yv
        have r2 : Rel K Fz2 (wipeR ρi vs) (wipe σ vs) H2 := bi.rel.step0 md.step md.new
        have st2 : Step (Own (wipeR ρi vs) (wipe σ vs)) Fzi Fz2 Hi H2 := md.step
        refine ⟨Fz2, wipeR ρi vs, x, ρa, r2, md.rep, e3, fun σa pa oa => ?_⟩
        refine ⟨wipe_eq (by rw [pa.len, wipe_length]) pa.same, Fz2, ρa, b, ρb, pa.rel, e4, fun H3 Fz3 p3 => ?_⟩
        have spa : SPost K (blkFix vs) Fzi Fz2 (wipeR ρi vs) ρa (wipe σ vs) σa Hi H2 := ⟨pa.rel, st2.trans pa.step fun q z => .inl z, fun p z => .inl (oa p z), pa.same, pa.kept, pa.len⟩
        cases b with
        | false =>
          rw [if_neg (by decide)] at ei hm
          dsimp only
          rw [if_neg (by decide)]
          have sp := spa.trans (p3.sp (fix := blkFix vs))
          exact ⟨_, by rw [hm]; exact Nat.lt_of_lt_of_eq (Nat.lt_add_of_pos_left Nat.one_pos) rfl, hlt, Fz3, ρb, acc, bi.part sp (fun p z => oa p (p3.own p z)) hl, co.stab sp.step (fun q z => hbo q (bi.own q z)) (fun q z ow => bi.rel.nofz q ow z) ai, ei, rfl⟩
        | true =>
          rw [if_pos rfl] at ei hm
          dsimp only
          rw [if_pos rfl]
          cases e5 : fi1 ρb with
          | none => rw [e5] at ei; cases ei
          | some zf =>
            obtain ⟨items1, ρc⟩ := zf
            simp only [e5, Option.bind_some] at ei hm
            cases e6 : genL con fg1 ft1 fe vs1 items1 ρc acc with
            | none => rw [e6] at ei; cases ei
            | some r1 =>
              simp only [e6, Option.bind_some] at ei hm
              refine ⟨Fz3, ρb, items1, ρc, p3.rel, e5, fun J1 H4 Fz4 p4 wk1 => ?_⟩
              have p34 := p3.seq p4
              have sp := spa.trans (p34.sp (fix := blkFix vs))
              have oc : ∀ p, Own ρc σa p → Own (wipeR ρi vs) (wipe σ vs) p := fun p z => oa p (p34.own p z)
              obtain ⟨y1, y2⟩ := p4.rel.wiped vs1
              have a4 : Acc Fz4 H4 acc := co.stab sp.step (fun q z => hbo q (bi.own q z)) (fun q z ow => bi.rel.nofz q ow z) ai
              obtain ⟨W1, h0, h1⟩ := lastL co wk1 y1 (by have := p4.rel.len; omega) (fun p z => hbo p (bi.own p (oc p (y2 p z)))) a4 e6 (cnt2 con fg ft fi1 fg1 ft1 fe vs vs1 (items.drop (i + 1)) r1.2.2 r1.2.1)
                (Qe := fun k H => ∃ m', m' ≤ k ∧ i + 1 ≤ items.length ∧ ∃ Fzi ρi acc, Blk K HB vs σ Fz1 ρ1 H1 Fzi ρi H ∧ Acc Fzi H acc ∧ gen2L con fg ft fi1 fg1 ft1 fe vs vs1 (items.drop (i + 1)) ρi acc = some r ∧ m' = cnt2 con fg ft fi1 fg1 ft1 fe vs vs1 (items.drop (i + 1)) ρi acc)
                (fun Fze He be ae ht => by
                  rw [if_pos ht] at ei
                  exact ⟨_, Nat.le_refl _, hlt, Fze, r1.2.2, r1.2.1, bi.outer sp oc hl hv be, ae, ei, rfl⟩)
                (fun Fze He be hf => by
                  rw [if_neg (by rw [hf]; decide)] at ei
                  cases ei
                  exact hstop Fze He (bi.outer sp oc hl hv be) hf)
              refine ⟨W1, ⟨_, ?_, h0⟩, h1⟩
              rw [hm]
              simp only [Option.getD_some]
              omega
  · left
    have hi' : i = items.length := by omega
    subst hi'
    rw [List.drop_length] at ei
    unfold gen2L at ei
    cases ei
    exact ⟨w2, hend Fzi Hi bi ai rfl⟩

theorem Blk.post {Fz : Addr → Prop} {ρ ρ2 : Rho} {H Hi : Hp} {Fzi : Addr → Prop} (p1 : PostL K Fz Fz1 ρ ρ1 σ H H1 [] []) (b : Blk K H1 vs σ Fz1 ρ1 H1 Fzi ρ2 Hi) : PostL K Fz Fzi ρ (restR ρ1 ρ2 vs) σ H Hi [] [] := by
  obtain ⟨rw1, ow1⟩ := p1.rel.wiped vs
  have nv : ∀ (j : Nat) (xs : List D) (p : Addr), j ∈ vs → ρ1[j]? = some (some (W.fr xs)) → σ[j]? = some (some (V.ref p)) → ¬ Own (wipeR ρ1 vs) (wipe σ vs) p := fun j xs p hj e1 e2 ⟨i, ys, f1, f2⟩ => by
    obtain ⟨g1, g2⟩ := wipeR_some f1
    have := p1.rel.apart i j ys xs p g1 e1 (wipe_some f2).1 e2
    exact g2 (this ▸ hj)
  have live : ∀ (j : Nat) (xs : List D) (p : Addr), ρ1[j]? = some (some (W.fr xs)) → σ[j]? = some (some (V.ref p)) → ∃ us, H1 p = some (.lst us) ∧ DrAll K Fz1 H1 us xs := fun j xs p e1 e2 => by
    obtain ⟨u, hu, q, us, h1, h2, h3⟩ := p1.rel.val j _ e1
    rw [e2] at hu; cases hu; cases h1
    exact ⟨us, h2, h3⟩
  have own' : ∀ p, Own (restR ρ1 ρ2 vs) σ p → Own ρ1 σ p := fun p ⟨j, xs, z1, z2⟩ => by
    rcases restR_some z1 with ⟨h1, h2⟩ | ⟨h1, h2⟩
    · exact ⟨j, xs, h2, z2⟩
    · exact ow1 p (b.own p ⟨j, xs, by rw [wipeR_out h1]; exact h2, by rw [wipe_out h1]; exact z2⟩)
  have stt : Step (Own ρ1 σ) Fz1 Fzi H1 Hi := ⟨b.step.fzl, fun q o e n => b.step.keep q o e (.inl (by rw [e]; exact fun z => nomatch z)) fun z => n (ow1 q z), b.step.live, b.step.grow, fun q z => (b.step.new q z).imp id fun y => y.imp id (ow1 q)⟩
  refine ⟨⟨?_, fun j w z => ?_, fun j k xs ys' p z1 z2 z3 z4 => ?_, fun p ⟨j, xs, z1, z2⟩ hz => ?_, b.rel.fzl⟩, .nil, fun p hp => absurd (show p ∈ ([] : List Addr) from hp) (by simp), List.nodup_nil, p1.step.trans stt fun q z => .inl (p1.own q z), fun p z => p1.own p (own' p z), p1.kept.trans fun k w z => ?_⟩
  · rw [restR_length, b.len]; exact p1.rel.len
  · rcases restR_some z with ⟨h1, h2⟩ | ⟨h1, h2⟩
    · obtain ⟨u, g1, g2⟩ := p1.rel.val j w h2
      refine ⟨u, g1, ?_⟩
      cases w with
      | d x => exact p1.rel.dr stt g2
      | fr xs =>
        obtain ⟨p, us, k1, k2, k3⟩ := g2
        subst k1
        exact ⟨p, us, rfl, b.step.keep p _ k2 (.inl (by rw [k2]; exact fun z => nomatch z)) (nv j xs p h1 h2 g1), p1.rel.drAll stt k3⟩
      | sl _ => exact g2
    · obtain ⟨u, g1, g2⟩ := b.rel.val j w (by rw [wipeR_out h1]; exact h2)
      exact ⟨u, by rw [wipe_out h1] at g1; exact g1, g2⟩
  · have out : ∀ (k : Nat) (ys : List D), k ∉ vs → ρ2[k]? = some (some (W.fr ys)) → σ[k]? = some (some (V.ref p)) → Own (wipeR ρ1 vs) (wipe σ vs) p := fun k ys h1 h2 h3 => b.own p ⟨k, ys, by rw [wipeR_out h1]; exact h2, by rw [wipe_out h1]; exact h3⟩
    rcases restR_some z1 with ⟨h1, h2⟩ | ⟨h1, h2⟩
    · rcases restR_some z2 with ⟨h3, h4⟩ | ⟨h3, h4⟩
      · exact p1.rel.apart j k xs ys' p h2 h4 z3 z4
      · exact absurd (out k ys' h3 h4 z4) (nv j xs p h1 h2 z3)
    · rcases restR_some z2 with ⟨h3, h4⟩ | ⟨h3, h4⟩
      · exact absurd (out j xs h1 h2 z3) (nv k ys' p h3 h4 z4)
      · exact b.rel.apart j k xs ys' p (by rw [wipeR_out h1]; exact h2) (by rw [wipeR_out h3]; exact h4) (by rw [wipe_out h1]; exact z3) (by rw [wipe_out h3]; exact z4)
  · rcases restR_some z1 with ⟨h1, h2⟩ | ⟨h1, h2⟩
    · obtain ⟨us, k1, _⟩ := live j xs p h2 z2
      rcases b.step.new p hz with y | y | y
      · exact p1.rel.nofz p ⟨j, xs, h2, z2⟩ y
      · rw [k1] at y; cases y
      · exact nv j xs p h1 h2 z2 y
    · exact b.rel.nofz p ⟨j, xs, by rw [wipeR_out h1]; exact h2, by rw [wipe_out h1]; exact z2⟩ hz
  · by_cases hk : k ∈ vs
    · exact ⟨w, restR_in (by rw [b.len]; exact getElem?_lt z) z hk, id⟩
    · obtain ⟨w', y1, y2⟩ := b.kp k w (by rw [wipeR_out hk]; exact z)
      exact ⟨w', by rw [restR_out hk]; rw [wipeR_out hk] at y1; exact y1, y2⟩
end
end L2.Q3
end

section
set_option Elab.async false
set_option linter.all false
set_option maxRecDepth 100000
set_option maxHeartbeats 4000000
namespace L2.Q3
open PySem PySem.Spec PyProof.Rows

def conApp : Con := fun y acc => if acc.length < 16777216 then some (some (acc ++ [y])) else none
def conStop (go : Bool) : Con := fun y acc => match y with
  | .bool b => if b = go then some (some acc) else some none
  | _ => none
def AccD (K : PySem.W.Frag) (D : Addr) : (Addr → Prop) → Hp → List Q3.D → Prop := fun Fz H acc => ∃ us, H D = some (.lst us) ∧ DrAll K Fz H us acc ∧ ¬ Fz D
section
variable {K : PySem.W.Frag} {HB : Hp}
theorem con_app {D : Addr} (hD : HB D = none) : ConOk K HB (AccD K D) conApp (cApp D) (fun _ => True) := by
  refine ⟨fun {Ow Fz Fz' H H' acc} st ho hn a => ?_, fun {Fz H v y acc acc' Nx} a dy l e k => ?_, fun {Fz H v y acc Nx} a dy e q => by
    unfold conApp at e
    by_cases hz : acc.length < 16777216
    · rw [if_pos hz] at e; cases e
    · rw [if_neg hz] at e; cases e⟩
  · obtain ⟨us, h1, h2, h3⟩ := a
    have nD : ¬ Ow D := fun z => ho D z hD
    refine ⟨us, st.keep D _ h1 nD, h2.keep st.grow (fun q o z e => st.keep q o e (hn q z)) _ _, fun z => ?_⟩
    rcases st.new D z with z | z | z
    · exact h3 z
    · rw [h1] at z; cases z
    · exact nD z
  · obtain ⟨us, h1, h2, h3⟩ := a
    unfold conApp at e
    by_cases hz : acc.length < 16777216
    · rw [if_pos hz] at e
      cases e
      have hk : ∀ q o, H q = some o → q ≠ D → upd H D (HO.lst (us ++ [v])) q = some o := fun q o z h => by rw [upd_ne h]; exact z
      have nf : ∀ q, Fz q → q ≠ D := fun q z h => h3 (h ▸ z)
      refine ⟨us, h1, by rw [h2.length, sizeLine_eq]; exact hz, k _ (fun q o e c => hk q o e fun h => ?_) upd_live ⟨us ++ [v], upd_same, (h2.append (.cons dy .nil)).keep (fun _ z => z) (fun q o z e => hk q o e (nf q z)) _ _, h3⟩⟩
      subst h
      rcases c with c | c
      · exact c hD
      · exact h3 c
    · rw [if_neg hz] at e; cases e
end

def feG1 (con : Con) (out : Bool → List D → W) (fi : Fi) (fg : Fg) (ft : Ft) (fe : Fe) (vs : List Nat) : Fe := fun ρ => (fi ρ).bind fun p => (genL con fg ft fe vs p.1 p.2 []).bind fun q => some (out q.1 q.2.1, restR p.2 q.2.2 vs)
def feG2 (con : Con) (out : Bool → List D → W) (fi : Fi) (fg : Fg) (ft : Ft) (fi1 : Fi) (fg1 : Fg) (ft1 : Ft) (fe : Fe) (vs vs1 : List Nat) : Fe := fun ρ => (fi ρ).bind fun p => (gen2L con fg ft fi1 fg1 ft1 fe vs vs1 p.1 p.2 []).bind fun q => some (out q.1 q.2.1, restR p.2 q.2.2 vs)
def outTup : Bool → List D → W := fun _ ys => .d (.tuple ys)
def outLst : Bool → List D → W := fun _ ys => .fr ys
def outStop (go : Bool) : Bool → List D → W := fun b _ => .d (.bool (if b = true then go else !go))
theorem feG1_some {con : Con} {out : Bool → List D → W} {fi : Fi} {fg : Fg} {ft : Ft} {fe : Fe} {vs : List Nat} {ρ ρ' : Rho} {w : W} (e : feG1 con out fi fg ft fe vs ρ = some (w, ρ')) : ∃ items ρ1 r, fi ρ = some (items, ρ1) ∧ genL con fg ft fe vs items ρ1 [] = some r ∧ w = out r.1 r.2.1 ∧ ρ' = restR ρ1 r.2.2 vs := by
  unfold feG1 at e
  cases e1 : fi ρ with
  | none => rw [e1] at e; cases e
  | some p =>
    obtain ⟨items, ρ1⟩ := p
    simp only [e1, Option.bind_some] at e
    cases e2 : genL con fg ft fe vs items ρ1 [] with
    | none => rw [e2] at e; cases e
    | some r =>
      simp only [e2, Option.bind_some] at e
      cases e
      exact ⟨items, ρ1, r, rfl, e2, rfl, rfl⟩
theorem feG2_some {con : Con} {out : Bool → List D → W} {fi fi1 : Fi} {fg fg1 : Fg} {ft ft1 : Ft} {fe : Fe} {vs vs1 : List Nat} {ρ ρ' : Rho} {w : W} (e : feG2 con out fi fg ft fi1 fg1 ft1 fe vs vs1 ρ = some (w, ρ')) : ∃ items ρ1 r, fi ρ = some (items, ρ1) ∧ gen2L con fg ft fi1 fg1 ft1 fe vs vs1 items ρ1 [] = some r ∧ w = out r.1 r.2.1 ∧ ρ' = restR ρ1 r.2.2 vs := by
  unfold feG2 at e
  cases e1 : fi ρ with
  | none => rw [e1] at e; cases e
  | some p =>
    obtain ⟨items, ρ1⟩ := p
    simp only [e1, Option.bind_some] at e
    cases e2 : gen2L con fg ft fi1 fg1 ft1 fe vs vs1 items ρ1 [] with
    | none => rw [e2] at e; cases e
    | some r =>
      simp only [e2, Option.bind_some] at e
      cases e
      exact ⟨items, ρ1, r, rfl, e2, rfl, rfl⟩
section
variable {K : PySem.W.Frag} {fi fi1 : Fi} {fg fg1 : Fg} {ft ft1 : Ft} {fe : Fe} {vs vs1 : List Nat} {σ : St} {H : Hp} {Q : VK}
theorem hb_own {Fz1 : Addr → Prop} {ρ1 : Rho} {H1 : Hp} (r : Rel K Fz1 ρ1 σ H1) : ∀ p, Own (wipeR ρ1 vs) (wipe σ vs) p → H1 p ≠ none := fun p z => by
  obtain ⟨i, xs, e1, e2⟩ := (r.wiped vs).2 p z
  obtain ⟨u, hu, q, us, h1, h2, _⟩ := r.val i _ e1
  rw [e2] at hu; cases hu; cases h1
  rw [h2]; exact fun z => nomatch z

theorem acc0 {Fz1 : Addr → Prop} {ρ1 : Rho} {H1 : Hp} {D : Addr} (r : Rel K Fz1 ρ1 σ H1) (hD : H1 D = none) : Rel K Fz1 (wipeR ρ1 vs) (wipe σ vs) (upd H1 D (.lst [])) ∧ AccD K D Fz1 (upd H1 D (.lst [])) [] ∧ (∀ q o, H1 q = some o → upd H1 D (.lst []) q = some o) := by
  have k0 := upd_new (o := HO.lst []) hD
  exact ⟨(r.wiped vs).1.step0 ⟨fun q z e => r.fzl q z (upd_live q e), fun q o e _ => k0 q o e, upd_live, fun _ z => z, fun _ z => .inl z⟩ fun _ z => .inl z, ⟨[], upd_same, .nil, fun z => r.fzl D z hD⟩, k0⟩
theorem walk_upd {Fz1 : Addr → Prop} {H1 H2 : Hp} {J : It} {items : List D} (wk : Walk K Fz1 H1 J items) (k : ∀ q o, H1 q = some o → H2 q = some o) : Walk K Fz1 H2 J items := fun Fz' H' g kk l => wk Fz' H' g (fun q o z e => kk q o z (k q o e)) l
theorem Blk.base {HB : Hp} {Fz1 : Addr → Prop} {ρ1 : Rho} {H1 H2 : Hp} {Fzi : Addr → Prop} {ρi : Rho} {Hi : Hp} (k : ∀ q o, H1 q = some o → H2 q = some o) (l : ∀ q, H2 q = none → H1 q = none) (b : Blk K HB vs σ Fz1 ρ1 H2 Fzi ρi Hi) : Blk K HB vs σ Fz1 ρ1 H1 Fzi ρi Hi :=
  ⟨b.rel, ⟨b.step.fzl, fun q o e c n => b.step.keep q o (k q o e) c n, fun q e => l q (b.step.live q e), b.step.grow, fun q z => (b.step.new q z).imp id fun y => y.imp (l q) id⟩, b.own, b.kp, b.len⟩
theorem tup2_go (hs : ∀ i ∈ vs1, i ∈ vs) (h : tE K (feG2 conApp outTup fi fg ft fi1 fg1 ft1 fe vs vs1) σ H Q) : tI K fi σ H fun J H1 => ∀ D, H1 D = none → Rdy2 (tG K (blkFix vs) fg) (tT K ft) (tI K fi1) (tG K (blkFix vs1) fg1) (tT K ft1) (tE K fe) vs vs1 σ J (cApp D) (fun H => ∃ acc, H D = some (.lst acc) ∧ ∀ p, H p = none → Q (.ref p) (upd H p (.tup acc))) (upd H1 D (.lst [])) := by
  obtain ⟨Fz, ρ, w, ρ', r, e, q⟩ := h
  obtain ⟨items, ρ1, rr, e1, e2, rfl, rfl⟩ := feG2_some e
  refine ⟨Fz, ρ, items, ρ1, r, e1, fun J H1 Fz1 p1 wk D hD => ?_⟩
  obtain ⟨x1, x2, x3⟩ := acc0 (vs := vs) p1.rel hD
  exact twoL (HB := H1) (con_app hD) (walk_upd wk x3) x1 p1.rel.len.symm (hb_own p1.rel) x2 hs e2
    (fun Fzi Hi b a _ => by
      obtain ⟨us, h1, h2, h3⟩ := a
      have po := (b.base x3 upd_live).post p1
      exact ⟨us, h1, fun p hp => q _ _ _ (po.made (.newT po.rel.fzl hp h2))⟩)
    (fun Fzi Hi b hf => trivial)
theorem comp1_go (h : tE K (feG1 conApp outLst fi fg ft fe vs) σ H Q) : tLc (tI K fi) (tG K (blkFix vs) fg) (tT K ft) (tE K fe) vs σ H Q := by
  obtain ⟨Fz, ρ, w, ρ', r, e, q⟩ := h
  obtain ⟨items, ρ1, rr, e1, e2, rfl, rfl⟩ := feG1_some e
  refine ⟨Fz, ρ, items, ρ1, r, e1, fun J H1 Fz1 p1 wk D hD => ?_⟩
  obtain ⟨x1, x2, x3⟩ := acc0 (vs := vs) p1.rel hD
  obtain ⟨W, w0, tn⟩ := lastL (HB := H1) (con_app hD) (walk_upd wk x3) x1 p1.rel.len.symm (hb_own p1.rel) x2 e2 0 (Qe := fun _ => Q (.ref D))
    (fun Fzi Hi b a _ => by
      obtain ⟨us, h1, h2, h3⟩ := a
      have po := (b.base x3 upd_live).post p1
      refine q _ _ _ ⟨po.rel, .cons ⟨D, us, rfl, h1, h2⟩ .nil, fun p hp => ?_, frs_one_nd, po.step, po.own, po.kept⟩
      have hp : p = D := by simpa [frs, outLst] using hp
      subst hp
      exact ⟨p1.step.live p hD, h3, fun z => by
        obtain ⟨i, xs, g1, g2⟩ := z
        have : Own ρ1 σ p := by
          rcases restR_some g1 with ⟨_, y⟩ | ⟨y1, y2⟩
          · exact ⟨i, xs, y, g2⟩
          · exact (p1.rel.wiped vs).2 p (b.own p ⟨i, xs, by rw [wipeR_out y1]; exact y2, by rw [wipe_out y1]; exact g2⟩)
        obtain ⟨j, ys, k1, k2⟩ := this
        obtain ⟨u, hu, q', us', k3, k4, _⟩ := p1.rel.val j _ k1
        rw [k2] at hu; cases hu; cases k3
        rw [hD] at k4; cases k4⟩)
    (fun Fzi Hi b hf => trivial)
  exact ⟨W, ⟨_, w0⟩, tn⟩

end
end L2.Q3
end

section
set_option Elab.async false
set_option linter.all false
set_option maxRecDepth 100000
set_option maxHeartbeats 4000000
namespace L2.Q3
open PySem PySem.Spec PyProof.Rows

def gscC (scope : Scope) : Bool := (scope.names.all fun y => match y.2 with | .cell => false | _ => true) && (match scope.names.lookup (".0" : Str) with | some .local => true | _ => false) && !scope.isCoroutine
theorem gsc_by {scope : Scope} (h : gscC scope = true) : (∀ y ∈ scope.names, y.2 ≠ .cell) ∧ scope.names.lookup (".0" : Str) = some NameKind.local ∧ scope.isCoroutine = false := by
  unfold gscC at h
  simp only [Bool.and_eq_true, List.all_eq_true, Bool.not_eq_true'] at h
  obtain ⟨⟨h1, h2⟩, h3⟩ := h
  refine ⟨fun y hy e => ?_, ?_, h3⟩
  · have := h1 y hy
    rw [e] at this; cases this
  · split at h2
    · assumption
    · cases h2
theorem room_t {k : Nat} {A : Around} {elt : Expr} {cls : List Comprehension} {scope : Scope} {pos : Pos} {it : Addr} {genv : Env} (hr : Room (k + 1) A) : Room k (gOver A.in1.in1.in1.in1 (.GeneratorExp elt cls scope pos) it genv) := by
  refine ⟨hr.hd, ?_, ?_⟩
  · have := hr.dp
    show A.depth + frameCount [] + Code.weight (.compLoop (.GeneratorExp elt cls scope pos) 0 (.ref it) .none genv) + 3 * k + 5 < recursionLimit
    have e1 : frameCount [] = 0 := rfl
    have e2 : Code.weight (.compLoop (.GeneratorExp elt cls scope pos) 0 (.ref it) .none genv) = 1 := rfl
    omega
  · have := hr.un
    show A.units + 1 + 1 + 1 + 1 + unitsOf [] + Code.cUnits (.compLoop (.GeneratorExp elt cls scope pos) 0 (.ref it) .none genv) + 16 * k + 200 < cLine
    have e1 : unitsOf [] = 0 := rfl
    have e2 : Code.cUnits (.compLoop (.GeneratorExp elt cls scope pos) 0 (.ref it) .none genv) = 3 := rfl
    omega
theorem room_dp {k : Nat} {A : Around} (hr : Room k A) : A.depth < recursionLimit := by have := hr.dp; omega

abbrev InG (X : Cx) (k : Nat) (scope : Scope) (J : Cx → Prop) : Prop := ∀ (s : Shared) (gs : Array GenState) (H : Hp) (C : Addr) (cl : List (Str × Addr)) (code : Value) (fp : List Addr) (A' : Around), Room k A' → J (X.gblk s gs H scope (genEnv scope cl C code builtinsNs X.env) fp A')
section
variable {X : Cx} {elt tg iter tg1 iter1 : Expr} {ifs ifs1 : List Expr} {scope : Scope} {own : List (Str × Nat)} {vs vs1 : List Nat} {pos gpos p : Pos} {fi fi1 : Fi} {fg fg1 : Fg} {ft ft1 : Ft} {fe : Fe} {k : Nat}
theorem de_tupG2 (hr : Room (k + 1) X.A) (G : GenHere X) (hc : X.calm = true) (hN : X.N.Nodup) (hv : own.map (·.2) = vs) (hv1 : ∀ i ∈ vs1, i ∈ vs) (hg0 : Gl X "tuple") (hm0 : X.mg "tuple" = none) (hi : DI X tg iter fi) (ok : BlkOk X.N X.env.scope scope own) (hsc : gscC scope = true)
    (hg : InG X k scope fun Y => DG Y (blkFix vs) tg fg) (ht : InG X k scope fun Y => DTs Y ifs ft) (hi1 : InG X k scope fun Y => DI Y tg1 iter1 fi1) (hg1 : InG X k scope fun Y => DG Y (blkFix vs1) tg1 fg1) (ht1 : InG X k scope fun Y => DTs Y ifs1 ft1) (he : InG X k scope fun Y => DE Y elt fe) (hs : ∀ x, genFold iter X.env x = pure x := by intro _; rfl) (hs1 : ∀ env x, foldedSetIterable iter1 env x = pure x := by intro _ _; rfl)
    (hst : starEach [gE2 elt tg iter ifs tg1 iter1 ifs1 scope gpos] X.env = [(false, eval (gE2 elt tg iter ifs tg1 iter1 ifs1 scope gpos) X.env)] := by rfl) :
    DE X (.Call (.Name "tuple" p) [.GeneratorExp elt [⟨tg, iter, ifs, 0⟩, ⟨tg1, iter1, ifs1, 0⟩] scope gpos] [] pos) (feG2 conApp outTup fi fg ft fi1 fg1 ft1 fe vs vs1) := by
  subst hv
  obtain ⟨c1, c2, c3⟩ := gsc_by hsc
  refine ⟨fun pins s σ H Q I h => ?_⟩
  refine wpAny_Call_Name_kw (ld_blt I hg0 hm0 (u := .type "tuple") (by decide +kernel) (PyProof.Rows.callWith_type1 ?_ hst rfl))
  rw [hst]
  show wpAny _ _ (spliced ((false, eval (gE2 elt tg iter ifs tg1 iter1 ifs1 scope gpos) X.env) :: [])) _ _ s
  refine Calls.spliced_cons (thn (gen_made I G hi.ok (tup2_go hv1 h) ok c1 c2 c3 (room_dp hr) hs) fun v s5 hm => Calls.spliced_nil ?_)
  exact tup_of_gen hN ok c1 (seg2 hc c3 hs1 hv1 (fun s gs H C cl code fp A' r => (hg s gs H C cl code fp A' r).ok) (fun s gs H C cl code fp A' r => (ht s gs H C cl code fp A' r).ok) (fun s gs H C cl code fp A' r => (hi1 s gs H C cl code fp A' r).ok) (fun s gs H C cl code fp A' r => (hg1 s gs H C cl code fp A' r).ok) (fun s gs H C cl code fp A' r => (ht1 s gs H C cl code fp A' r).ok) fun s gs H C cl code fp A' r => (he s gs H C cl code fp A' r).ok) (fun _ _ => rfl) hr.hd (room_dp hr) (fun _ _ => room_t hr) hm
abbrev InB (X : Cx) (scope : Scope) (J : Cx → Prop) : Prop := ∀ (s : Shared) (H : Hp) (C : Addr) (cl : List (Str × Addr)) (fp : List Addr), J (X.blk s H scope (compEnvC scope cl C X.env) fp)
theorem de_lc1 (hc : X.calm = true) (hN : X.N.Nodup) (hv : own.map (·.2) = vs) (hi : DI X tg iter fi) (ok : BlkOk X.N X.env.scope scope own) (hg : InB X scope fun Y => DG Y (blkFix vs) tg fg) (ht : InB X scope fun Y => DTs Y ifs ft)
    (he : InB X scope fun Y => DE Y elt fe) (hs : ∀ x, foldedSetIterable iter X.env x = pure x := by intro _; rfl) :
    DE X (.ListComp elt [⟨tg, iter, ifs, 0⟩] scope pos) (feG1 conApp outLst fi fg ft fe vs) := by
  subst hv
  exact ⟨PE.imp (pe_lc hc hN hi.ok ok (fun s H C cl fp => (hg s H C cl fp).ok) (fun s H C cl fp => (ht s H C cl fp).ok) (fun s H C cl fp => (he s H C cl fp).ok) hs) fun σ H Q h => comp1_go h⟩
end

structure DfnG (K : PySem.W.Frag) (mg : Str → Option Value) (x : Str) (st : Stmt) : Prop where
  ex : ∃ f fd, Fun K x x st f fd ∧ mg x = some (.ref f) ∧ ∃ P, Tb K mg P ∧ recK K fd.code P
section
variable {P : Program} {w : World} {K : PySem.W.Frag} {mg : Str → Option Value} {base : Heap}
theorem cal_ofG {x : Str} {st : Stmt} {N ps : List Str} {k np : Nat} {fx : List Bool} {fs : Fs} (d : DfnG K mg x st) (S : FnScope N ps (defScope st)) (hp : ps.length = fx.length) (hn : fx.length ≤ N.length) (hnp : fx.length = np)
    (hb : ∀ (kV doc pm : Value) (an : Option Addr) (cdv ct : Value) (us : List Value), us.length = ps.length → bindArgs (PySem.W.fnOf x x (defArgs st) (defBody st) (defScope st) .none kV doc pm an cdv ct) ⟨us, []⟩ = pure (ps.zip us))
    (hbody : ∀ (f : Addr) (cdv : Value) (A : Around) (outer : List Env) (s : Shared) (H : Hp) (E : XK), GenHere (cxOf CX0 P w K mg base N x (defScope st) f cdv A outer s H E).nox → Room k (A.deeper (envOfC x (defScope st) s.heap.objs.size f cdv)) →
      DSs (cxOf CX0 P w K mg base N x (defScope st) f cdv A outer s H E).nox (fixOf fx) (defBody st) fs) : Cal P w K mg base (k + 1) x np (fnOf fx N.length fs) := by
  obtain ⟨f, fd, F, h, p, t1, t2⟩ := d.ex
  subst hnp
  exact ⟨f, fd, ps, fn_linG F S hp hn fun cdv hcd A outer s H E hr => hbody f cdv A outer s H E ⟨p, t1, by subst hcd; exact t2⟩ hr, h, F.kp, F.binds hb⟩
def recC (K : PySem.W.Frag) (cd : Value) : Option Addr := match cd with
  | .ref c => (match K.lookup c with
    | some ⟨.type "code", _, .fields vs, _⟩ => (match (vs[11]? : Option Value), vs.getD 18 .none, vs.getD 7 .none, vs.getD 9 .none, vs.getD 10 .none with
      | some (.ref P), .str _ _, .int _ _, .bool _, .int _ _ => some P
      | _, _, _, _, _ => none)
    | _ => none)
  | _ => none
theorem rec_of {cd : Value} {P : Addr} (h : recC K cd = some P) : recK K cd P := by
  unfold recC at h
  split at h
  · rename_i c
    split at h
    · rename_i od vs sl hl
      split at h
      · rename_i P' x1 x2 y1 y2 z1 u1 u2 h11 h18 h7 h9 h10
        cases h
        exact ⟨c, _, od, vs, sl, rfl, hl, by rw [Array.getD_eq_getD_getElem?, h11]; rfl, rfl, h11, ⟨x1, x2, h18⟩, ⟨y1, y2, h7⟩, ⟨z1, h9⟩, u1, u2, h10⟩
      · cases h
    · cases h
  · cases h
end
end L2.Q3
end

section
set_option Elab.async false
set_option linter.all false
set_option maxRecDepth 100000
set_option maxHeartbeats 4000000
namespace L2.Q3
open PySem PySem.Spec PyProof.Rows

def downD (i : Int) (n : Nat) : List D := (List.range n).map fun (k : Nat) => .int (i - k)
def fiR3 (f : Fa) : Fi := fun ρ => (f ρ).bind fun p => (rdAll p.2 p.1).bind fun xs => match xs with
  | [.int i, .int j, .int c] => if c = -1 ∧ (-(2 ^ 62) ≤ i ∧ i < 2 ^ 62 ∧ -(2 ^ 62) ≤ j ∧ j < 2 ^ 62) then some (downD i (i - j).toNat, p.2) else none
  | _ => none
theorem walk_down {K : PySem.W.Frag} {Fz : Addr → Prop} {H : Hp} {i : Int} {n : Nat} : Walk K Fz H (Itc i (-1) n) (downD i n) := by
  intro Fz' H' g k l
  refine ⟨fun m x hx => ?_, ?_⟩
  · unfold downD at hx
    rw [List.getElem?_map] at hx
    cases e : (List.range n)[m]? with
    | none => rw [e] at hx; cases hx
    | some y =>
      rw [e] at hx
      have hm : m < n := by simpa using getElem?_lt e
      have hy : y = m := by simpa [hm] using e.symm
      subst hy
      cases hx
      refine ⟨hm, fun v H'' hv => ?_⟩
      obtain ⟨rfl, rfl⟩ := hv
      refine ⟨Fz', .val l ?_⟩
      have : i + ((y : Nat) : Int) * (-1) = i - (y : Int) := by omega
      rw [this]; exact .int _
  · show n ≤ _
    unfold downD
    rw [List.length_map, List.length_range]; exact Nat.le_refl _
section
variable {X : Cx} {tg : Expr}
theorem paired3 {α β : Type} {R : α → β → Prop} {vs : List α} {x y z : β} (h : Paired R vs [x, y, z]) : ∃ v u t, vs = [v, u, t] ∧ R v x ∧ R u y ∧ R t z := by
  cases h with
  | cons a t =>
    obtain ⟨u, w, rfl, b, c⟩ := paired2 t
    exact ⟨_, u, w, rfl, a, b, c⟩
theorem di_range3 {a b c : Expr} {f : Fa} {p pos : Pos} (hg : Gl X "range") (hm : X.mg "range" = none) (ha : DA X [a, b, c] f) (hs : starEach [a, b, c] X.env = (false, eval a X.env) :: starEach [b, c] X.env := by rfl) (hpl : (backTo pos (starEach [b, c] X.env)).any (·.1) = false := by rfl) : DI X tg (.Call (.Name "range" p) [a, b, c] [] pos) (fiR3 f) :=
  ⟨PI.imp (pi_range3 hg hm ha.ok hs hpl) fun σ H R h => by
    obtain ⟨Fz, ρ, items, ρ', r, e, q⟩ := h
    unfold fiR3 at e
    cases e1 : f ρ with
    | none => rw [e1] at e; cases e
    | some z =>
      obtain ⟨ws, ρ1⟩ := z
      simp only [e1, Option.bind_some] at e
      cases e2 : rdAll ρ1 ws with
      | none => rw [e2] at e; cases e
      | some xs =>
        simp only [e2, Option.bind_some] at e
        split at e
        · rename_i i j c
          obtain ⟨hc, z⟩ := some_ite e
          cases z
          obtain ⟨rfl, h1, h2, h3, h4⟩ := hc
          refine ⟨Fz, ρ, ws, ρ', r, e1, fun vs H1 Fz1 p1 => ?_⟩
          obtain ⟨v, u, t, rfl, k1, k2, k3⟩ := paired3 (p1.rel.rdgAll p1.rep e2)
          rw [k1.int, k2.int, k3.int]
          exact ⟨i, j, -1, (i - j).toNat, rfl, RgC.neg h1 h2 h3 h4, q _ H1 Fz1 p1.drop walk_down⟩
        · cases e⟩
end

def fNone : Fs := fun _ => none
theorem ds_none {X : Cx} {fix : Nat → Bool} {st : Stmt} : DS X fix st fNone := ⟨fun pins s σ H D I h => by
  obtain ⟨Fz, ρ, o, ρ', r, e, q⟩ := h
  cases e⟩
end L2.Q3
end

section
set_option Elab.async false
set_option linter.all false
set_option maxRecDepth 100000
set_option maxHeartbeats 4000000
namespace L2.Q3.Tx
open PySem PySem.Spec PyProof.Rows
def D__law_cell_at : Fs := fSeq (fIf (ftB (fe2 (gCmp pLt qLt) (fVar 1) (feAtom gLen (faCons (fVar 0) (faNil))))) (fRet 2 (fe2 gIx (fVar 0) (fVar 1))) (fNx)) (fRet 2 (fC (.int 0)))
def F__law_cell_at : Fn := fnOf [true, true] 2 D__law_cell_at
def D__law_draw : Fs := fSeq (fIf (ftAnd (ftB (fe2 gEq2 (fe2 gIx (fVar 0) (fC (.int 1))) (fC (.int 1)))) (ftB (fe2 (gCmp pGt qGt) (fe2 gIx (fVar 0) (fC (.int 0))) (fC (.int 0))))) (fSeq (fSet 3 (fe2 gMod (fe2 gIx (fVar 0) (fC (.int 0))) (fVar 1))) (fSeq (fStore (fe2 gDiv (fe2 gIx (fVar 0) (fC (.int 0))) (fVar 1)) (fVar 0) (fC (.int 0))) (fRet 2 (fVar 3)))) (fNx)) (fSeq (fStore (fe2 gAdd (fe2 gIx (fVar 0) (fC (.int 2))) (fC (.int 1))) (fVar 0) (fC (.int 2))) (fSeq (fSet 2 (fe2 gMod (fe2 gMul (fe2 gAdd (fe2 gIx (fVar 0) (fC (.int 3))) (fC (.int 17))) (fe2 gAdd (fC (.int 69621)) (fe2 gMul (fC (.int 2)) (fe2 gIx (fVar 0) (fC (.int 2)))))) (fC (.int 2147483647)))) (fSeq (fSet 2 (fe2 gMod (fe2 gAdd (fe2 gAdd (fe2 gMul (fVar 2) (fVar 2)) (fe2 gMul (fC (.int 40503)) (fe2 gIx (fVar 0) (fC (.int 2))))) (fC (.int 5))) (fC (.int 2147483629)))) (fRet 2 (fe2 gMod (fe2 gDiv (fe2 gMod (fe2 gMul (fVar 2) (fC (.int 48271))) (fC (.int 2147483647))) (fC (.int 32))) (fVar 1))))))
def F__law_draw : Fn := fnOf [true, true] 4 D__law_draw
def D__law_pen : Fs := fRet 1 (feLst (faCons (fVar 0) (faCons (feAtom gInt (faCons (fe2 (gCmp pGe qGe) (fVar 0) (fe2 gPow (fC (.int 10)) (fC (.int 18)))) (faNil))) (faCons (fC (.int 0)) (faCons (fe2 gMod (fVar 0) (fC (.int 1000000007))) (faNil))))))
def F__law_pen : Fn := fnOf [true] 1 D__law_pen
def D__law_needs : Fs := fSeq (fSet 2 (feAtom gListRange (faCons (fVar 1) (faNil)))) (fRet 2 (feAtom gTuple (faCons (feComp (fiR1 (faCons (feAtom gMin2 (faCons (fVar 1) (faCons (feCall F__law_draw (faCons (fVar 0) (faCons (fC (.int 4)) (faNil)))) (faNil)))) (faNil))) (gN 3) (ftYes) (feMeth hPopAt' (fVar 2) (faCons (feCall F__law_draw (faCons (fVar 0) (faCons (feAtom gLen (faCons (fVar 2) (faNil))) (faNil)))) (faNil))) [3]) (faNil))))
def F__law_needs : Fn := fnOf [true, true] 4 D__law_needs
def D__law_spots : Fs := fSeq (fSet 1 (feLst (faCons (feTup (faNil)) (faNil)))) (fSeq (fFor (fiEnum (fVar 0)) (gT 2 (gsCons (gN 2) (gsCons (gN 3) (gsNil)))) (fSet 1 (fe2 gAdd (fe2 gAdd (fVar 1) (feLst (faCons (feTup (faCons (fVar 2) (faNil))) (faNil)))) (feComp (fiR1 (faCons (fVar 3) (faNil))) (gN 4) (ftYes) (feTup (faCons (fVar 2) (faCons (fVar 4) (faNil)))) [4])))) (fRet 1 (fVar 1)))
def F__law_spots : Fn := fnOf [true] 5 D__law_spots
def D__law_words : Fs := fSeq (fSet 1 (feLst (faNil))) (fSeq (fFor (fiR1 (faCons (feCall F__law_draw (faCons (fVar 0) (faCons (fC (.int 5)) (faNil)))) (faNil))) (gN 2) (fSeq (fSet 3 (fe2 gIx (feLst (faCons (fC (.int 1)) (faCons (fC (.int 1)) (faCons (fC (.int 2)) (faCons (fC (.int 8)) (faNil)))))) (feCall F__law_draw (faCons (fVar 0) (faCons (fC (.int 4)) (faNil)))))) (fSeq (fSet 4 (fe2 gIx (feLst (faCons (fC (.int 4)) (faCons (fC (.int 26)) (faNil)))) (feAtom gInt (faCons (fe2 (gCmp pGt qGt) (fVar 3) (fC (.int 1))) (faNil))))) (fDrop (feMeth hAppend (fVar 1) (faCons (feSm hJoin (fC (.str "")) (faCons (feComp (fiR1 (faCons (fVar 3) (faNil))) (gN 5) (ftYes) (fe2 gIx (fC (.str "abcdefghijklmnopqrstuvwxyz")) (feCall F__law_draw (faCons (fVar 0) (faCons (fVar 4) (faNil))))) [5]) (faNil))) (faNil))))))) (fRet 1 (feAtom gTuple (faCons (feAtom gSortSet (faCons (fVar 1) (faNil))) (faNil)))))
def F__law_words : Fn := fnOf [true] 6 D__law_words
def D__law_raw : Fs := fSeq (fSet 1 (feAtom gTuple (faCons (feComp (fiR1 (faCons (fe2 gAdd (fC (.int 1)) (feCall F__law_draw (faCons (fVar 0) (faCons (fC (.int 3)) (faNil))))) (faNil))) (gN 5) (ftYes) (fe2 gAdd (fC (.int 1)) (feCall F__law_draw (faCons (fVar 0) (faCons (fC (.int 3)) (faNil))))) [5]) (faNil)))) (fSeq (fSet 2 (feCall F__law_spots (faCons (fVar 1) (faNil)))) (fSeq (fSet 3 (fe2 gIx (feLst (faCons (fC (.int 2)) (faCons (fC (.int 4)) (faCons (fC (.int 8)) (faNil))))) (feCall F__law_draw (faCons (fVar 0) (faCons (fC (.int 3)) (faNil)))))) (fSeq (fSet 4 (feLst (faNil))) (fSeq (fFor (fiR1 (faCons (feCall F__law_draw (faCons (fVar 0) (faCons (fC (.int 9)) (faNil)))) (faNil))) (gN 5) (fSeq (fSet 7 (feTup (faCons (feCall F__law_draw (faCons (fVar 0) (faCons (fVar 3) (faNil)))) (faCons (fe2 gIx (fVar 2) (feCall F__law_draw (faCons (fVar 0) (faCons (feAtom gLen (faCons (fVar 2) (faNil))) (faNil))))) (faCons (feCall F__law_draw (faCons (fVar 0) (faCons (fC (.int 4)) (faNil)))) (faNil)))))) (fSeq (fSet 7 (fe2 gAdd (fVar 7) (feTup (faCons (fe2 gAdd (fC (.int 1)) (feCall F__law_draw (faCons (fVar 0) (faCons (fC (.int 3)) (faNil))))) (faCons (feCall F__law_needs (faCons (fVar 0) (faCons (fVar 3) (faNil)))) (faNil)))))) (fIf (ftB (fe2 (gIn true) (feSl (fVar 7) (foN) (foS (fC (.int 2)))) (feCompO 4 (gN 9) (ftYes) (feSl (fVar 9) (foN) (foS (fC (.int 2)))) [9]))) (fDrop (feMeth hAppend (fVar 4) (faCons (fVar 7) (faNil)))) (fNx))))) (fSeq (fSet 6 (feLst (faNil))) (fSeq (fFor (fiR1 (faCons (feCall F__law_draw (faCons (fVar 0) (faCons (fC (.int 7)) (faNil)))) (faNil))) (gN 5) (fSeq (fSet 8 (feCall F__law_draw (faCons (fVar 0) (faCons (feAtom gLen (faCons (fVar 1) (faNil))) (faNil))))) (fDrop (feMeth hAppend (fVar 6) (faCons (feTup (faCons (feTup (faCons (fVar 8) (faCons (feCall F__law_draw (faCons (fVar 0) (faCons (fe2 gIx (fVar 1) (fVar 8)) (faNil)))) (faNil)))) (faCons (feCall F__law_needs (faCons (fVar 0) (faCons (fVar 3) (faNil)))) (faCons (feCall F__law_words (faCons (fVar 0) (faNil))) (faNil))))) (faNil)))))) (fRet 1 (feTup (faCons (fVar 1) (faCons (feAtom gTuple (faCons (fVar 4) (faNil))) (faCons (feAtom gTuple (faCons (fVar 6) (faNil))) (faNil))))))))))))
def F__law_raw : Fn := fnOf [true] 10 D__law_raw
def D_is_tuple_of : Fs := fRet 3 (feAnd (feIsi "tuple" (fVar 0)) (feChain (gCmp pLe qLe) (gCmp pLe qLe) (fVar 1) (feAtom gLen (faCons (fVar 0) (faNil))) (fVar 2)))
def F_is_tuple_of : Fn := fnOf [true, true, true] 3 D_is_tuple_of
def D_is_number : Fs := fRet 1 (feAnd (feIsi "int" (fVar 0)) (feNot (feIsi "bool" (fVar 0))))
def F_is_number : Fn := fnOf [true] 1 D_is_number
def D_is_whole : Fs := fRet 3 (feAnd (feCall F_is_number (faCons (fVar 0) (faNil))) (feChain (gCmp pLe qLe) (gCmp pLe qLe) (fVar 1) (fVar 0) (fVar 2)))
def F_is_whole : Fn := fnOf [true, true, true] 3 D_is_whole
def D_is_spot_of : Fs := fSeq (fIf (ftNot (ftV (feCall F_is_tuple_of (faCons (fVar 1) (faCons (fC (.int 0)) (faCons (fC (.int 2)) (faNil))))))) (fRet 2 (fC (.bool false))) (fNx)) (fSeq (fIf (ftB (fe2 gEq2 (feAtom gLen (faCons (fVar 1) (faNil))) (fC (.int 0)))) (fRet 2 (fC (.bool true))) (fNx)) (fSeq (fSet 2 (fe2 gIx (fVar 1) (fC (.int 0)))) (fSeq (fIf (ftNot (ftV (feCall F_is_whole (faCons (fVar 2) (faCons (fC (.int 0)) (faCons (fe2 gSub (feAtom gLen (faCons (fVar 0) (faNil))) (fC (.int 1))) (faNil))))))) (fRet 2 (fC (.bool false))) (fNx)) (fRet 2 (feOr (fe2 gEq2 (feAtom gLen (faCons (fVar 1) (faNil))) (fC (.int 1))) (feCall F_is_whole (faCons (fe2 gIx (fVar 1) (fC (.int 1))) (faCons (fC (.int 0)) (faCons (fe2 gSub (fe2 gIx (fVar 0) (fVar 2)) (fC (.int 1))) (faNil))))))))))
def F_is_spot_of : Fn := fnOf [true, true] 3 D_is_spot_of
def D_is_spot : Fs := fRet 2 (feCall F_is_spot_of (faCons (fe2 gIx (fVar 0) (fC (.int 0))) (faCons (fVar 1) (faNil))))
def F_is_spot : Fn := fnOf [true, true] 2 D_is_spot
end L2.Q3.Tx
end

section
set_option Elab.async false
set_option linter.all false
set_option maxRecDepth 100000
set_option maxHeartbeats 4000000
namespace L2.Q3.Tx
open PySem PySem.Spec PyProof.Rows
def D__law_all : Fs := fSeq (fSet 3 (feLst (faNil))) (fSeq (fFor (fiSeq (feTup (faCons (fC (.int 2)) (faCons (fC (.int 1)) (faCons (fC (.int 0)) (faNil)))))) (gN 4) (fIf (ftB (fe2 (gCmp pGe qGe) (feAtom gLen (faCons (fVar 1) (faNil))) (fVar 4))) (fSet 3 (fe2 gAdd (fVar 3) (feComp (fiEnum (fe2 gIx (fVar 0) (fC (.int 1)))) (gT 2 (gsCons (gN 5) (gsCons (gN 6) (gsNil)))) (ftB (fe2 gEq2 (feSl (fVar 6) (foN) (foS (fC (.int 2)))) (feTup (faCons (fVar 2) (faCons (feSl (fVar 1) (foN) (foS (fVar 4))) (faNil)))))) (fVar 5) [5, 6]))) (fNx))) (fRet 3 (fVar 3)))
def F__law_all : Fn := fnOf [true, true, true] 7 D__law_all
def D_spots_around : Fs := fRet 1 (feComp (fiR3 (faCons (feAtom gLen (faCons (fVar 0) (faNil))) (faCons (fe1 gNeg (fC (.int 1))) (faCons (fe1 gNeg (fC (.int 1))) (faNil))))) (gN 1) (ftYes) (feSl (fVar 0) (foN) (foS (fVar 1))) [1])
def F_spots_around : Fn := fnOf [true] 2 D_spots_around
def D_recipes_from : Fs := fRet 3 (feG2 conApp outTup (fiSeq (feCall F_spots_around (faCons (fVar 1) (faNil)))) (gN 3) (ftYes) (fiEnum (fe2 gIx (fVar 0) (fC (.int 1)))) (gT 2 (gsCons (gN 4) (gsCons (gN 5) (gsNil)))) (ftAnd (ftB (fe2 gEq2 (fe2 gIx (fVar 5) (fC (.int 0))) (fVar 2))) (ftB (fe2 gEq2 (fe2 gIx (fVar 5) (fC (.int 1))) (fVar 3)))) (fVar 4) [3, 4, 5] [4, 5])
def F_recipes_from : Fn := fnOf [true, true, true] 6 D_recipes_from
def D_refuse_no_number : Fs := fIf (ftNot (ftV (feCall F_is_whole (faCons (fVar 0) (faCons (fVar 1) (faCons (fVar 2) (faNil))))))) (fNone) (fNx)
def F_refuse_no_number : Fn := fnOf [true, true, true] 3 D_refuse_no_number
def D_refuse_no_spot : Fs := fIf (ftNot (ftV (feCall F_is_spot (faCons (fVar 0) (faCons (fVar 1) (faNil)))))) (fNone) (fNx)
def F_refuse_no_spot : Fn := fnOf [true, true] 2 D_refuse_no_spot
def D_all_at : Fs := fSeq (fDrop (feCall F_refuse_no_spot (faCons (fVar 0) (faCons (fVar 1) (faNil))))) (fSeq (fDrop (feCall F_refuse_no_number (faCons (fVar 2) (faCons (fC (.int 0)) (faCons (fC (.int 7)) (faNil)))))) (fRet 3 (feCall F_recipes_from (faCons (fVar 0) (faCons (fVar 1) (faCons (fVar 2) (faNil)))))))
def F_all_at : Fn := fnOf [true, true, true] 3 D_all_at
def D_nearest_of : Fs := fRet 1 (feIf (ftV (fVar 0)) (fe2 gIx (fVar 0) (fC (.int 0))) (fC .none))
def F_nearest_of : Fn := fnOf [true] 1 D_nearest_of
def D_found_at : Fs := fRet 3 (feCall F_nearest_of (faCons (feCall F_all_at (faCons (fVar 0) (faCons (fVar 1) (faCons (fVar 2) (faNil))))) (faNil)))
def F_found_at : Fn := fnOf [true, true, true] 3 D_found_at
def D_law_v2 : Fs := fSeq (fFor (fiR1 (faCons (feAtom gMax2 (faCons (fC (.int 1)) (faCons (feAtom gMin2 (faCons (feAtom gLen (faCons (fVar 0) (faNil))) (faCons (fC (.int 3)) (faNil)))) (faNil)))) (faNil))) (gN 1) (fSeq (fSet 2 (feCall F__law_pen (faCons (feCall F__law_cell_at (faCons (fVar 0) (faCons (fVar 1) (faNil)))) (faNil)))) (fSeq (fSet 3 (feCall F__law_raw (faCons (fVar 2) (faNil)))) (fSeq (fSet 4 (feCall F__law_spots (faCons (fe2 gIx (fVar 3) (fC (.int 0))) (faNil)))) (fSeq (fFor (fiSeq (fVar 4)) (gN 5) (fFor (fiR1 (faCons (fC (.int 8)) (faNil))) (gN 6) (fSeq (fSet 9 (feCall F__law_all (faCons (fVar 3) (faCons (fVar 5) (faCons (fVar 6) (faNil)))))) (fIf (ftOr (ftB (fe2 (gEq true) (feCall F_all_at (faCons (fVar 3) (faCons (fVar 5) (faCons (fVar 6) (faNil))))) (feAtom gTuple (faCons (fVar 9) (faNil))))) (ftB (fe2 (gEq true) (feCall F_found_at (faCons (fVar 3) (faCons (fVar 5) (faCons (fVar 6) (faNil))))) (fe2 gIx (fe2 gAdd (fVar 9) (feLst (faCons (fC .none) (faNil)))) (fC (.int 0)))))) (fRet 1 (fC (.bool false))) (fNx))))) (fSeq (fSet 5 (fe2 gIx (fVar 4) (feCall F__law_draw (faCons (fVar 2) (faCons (feAtom gLen (faCons (fVar 4) (faNil))) (faNil)))))) (fSeq (fSet 6 (feCall F__law_draw (faCons (fVar 2) (faCons (fC (.int 8)) (faNil))))) (fIf (ftAnd (ftB (fe2 (gCmp pLt qLt) (feAtom gLen (faCons (fe2 gIx (fVar 3) (fC (.int 1))) (faNil))) (fC (.int 8)))) (ftB (fe2 (gIn true) (feTup (faCons (fVar 6) (faCons (fVar 5) (faNil)))) (feG1 conApp outLst (fiSeq (fe2 gIx (fVar 3) (fC (.int 1)))) (gN 9) (ftYes) (feSl (fVar 9) (foN) (foS (fC (.int 2)))) [9])))) (fSeq (fSet 7 (feTup (faCons (fe2 gIx (fVar 3) (fC (.int 0))) (faCons (fe2 gAdd (fe2 gIx (fVar 3) (fC (.int 1))) (feTup (faCons (feTup (faCons (fVar 6) (faCons (fVar 5) (faCons (fC (.int 0)) (faCons (fC (.int 1)) (faCons (feTup (faNil)) (faNil))))))) (faNil)))) (faCons (fe2 gIx (fVar 3) (fC (.int 2))) (faNil)))))) (fSeq (fSet 8 (fe2 gAdd (feTup (faCons (feAtom gLen (faCons (fe2 gIx (fVar 3) (fC (.int 1))) (faNil))) (faNil))) (feAtom gTuple (faCons (feCall F__law_all (faCons (fVar 3) (faCons (fVar 5) (faCons (fVar 6) (faNil))))) (faNil))))) (fSeq (fIf (ftOr (ftB (fe2 (gEq true) (feCall F_all_at (faCons (fVar 7) (faCons (fVar 5) (faCons (fVar 6) (faNil))))) (fVar 8))) (ftB (fe2 (gEq true) (feCall F_found_at (faCons (fVar 7) (faCons (fVar 5) (faCons (fVar 6) (faNil))))) (fe2 gIx (fVar 8) (fC (.int 0)))))) (fRet 1 (fC (.bool false))) (fNx)) (fIf (ftB (fe2 (gEq true) (feCall F_found_at (faCons (fVar 3) (faCons (fVar 5) (faCons (fVar 6) (faNil))))) (fe2 gIx (fe2 gAdd (fVar 8) (feTup (faCons (fC .none) (faNil)))) (fC (.int 1))))) (fRet 1 (fC (.bool false))) (fNx))))) (fNx))))))))) (fRet 1 (fC (.bool true)))
def F_law_v2 : Fn := fnOf [true] 10 D_law_v2
end L2.Q3.Tx
end

section
set_option Elab.async false
set_option linter.all false
set_option maxRecDepth 100000
set_option maxHeartbeats 4000000
namespace L2.Q3.Tk03
open PySem PySem.Spec PyProof.Rows L2.Q3.Tx
def top (i : Nat) : Stmt := PySem.Challenge.pw_tastehouse_k03_names_found.main.body.getD i (.Pass ⟨0, 0, 0, 0⟩)
structure Tf (K : PySem.W.Frag) (mg : Str → Option Value) : Prop where
  b_bool : mg "bool" = none
  b_enumerate : mg "enumerate" = none
  b_int : mg "int" = none
  b_isinstance : mg "isinstance" = none
  b_len : mg "len" = none
  b_list : mg "list" = none
  b_max : mg "max" = none
  b_min : mg "min" = none
  b_range : mg "range" = none
  b_set : mg "set" = none
  b_sorted : mg "sorted" = none
  b_tuple : mg "tuple" = none
  i_bool : IsiOk K "bool"
  i_int : IsiOk K "int"
  i_tuple : IsiOk K "tuple"
  g_MOST_NAME : ∃ t, mg "MOST_NAME" = some (.int 7 t)
def s__law_all : Stmt := top 28
theorem sc__law_all : FnScope ["_law_house", "_law_spot", "_law_name", "_law_row", "_law_long", "_law_k", "_law_one"] ["_law_house", "_law_spot", "_law_name"] (defScope s__law_all) := ⟨rfl, rfl, rfl, by decide +kernel, rfl, by decide +kernel, by decide +kernel⟩
theorem ok__law_all {P : Program} {w : World} {K : PySem.W.Frag} {mg : Str → Option Value} {base : Heap} (T : Tf K mg) (d : Dfn K mg "_law_all" s__law_all)  : Cal P w K mg base 1 "_law_all" 3 F__law_all :=
  cal_of (fx := [true, true, true]) d sc__law_all rfl (by decide) rfl (fun _ _ _ _ _ _ us hl => match us, hl with | [_, _, _], _ => rfl) fun _ _ _ _ _ _ _ hr => dss_cons (ds_set (i := 3) rfl sc__law_all.nd rfl (.inl rfl) (de_lst (da_nil))) (dss_cons (ds_for PassesOwn.never rfl (di_seq (de_tup (da_cons (de_int) (da_cons (de_int) (da_cons (de_int) (da_nil)))))) (dg_name (i := 4) rfl sc__law_all.nd rfl (.inr rfl)) (dss_one (ds_if (dt_cmp op_ge2 atom_cmp (de_callB call_len atom_len rfl T.b_len (by decide +kernel) (da_cons (de_var (i := 1) rfl (.inr (.inl rfl))) (da_nil))) (de_var (i := 4) rfl (.inr (.inl rfl))) (nomark _)) (dss_one (ds_set (i := 3) rfl sc__law_all.nd rfl (.inl rfl) (de_op op_add4 atom_add (de_var (i := 3) rfl (.inl rfl)) (de_lc (own := [("_law_k", 5), ("_law_one", 6)]) rfl sc__law_all.nd rfl (di_enum rfl T.b_enumerate (de_ix (de_var (i := 0) rfl (.inl rfl)) (de_int))) (blkOk_by (by kernel_rfl)) (fun _ _ _ _ _ => dg_tup rfl (dgs_cons (dg_name (i := 5) rfl sc__law_all.nd rfl (.inl rfl)) (dgs_cons (dg_name (i := 6) rfl sc__law_all.nd rfl (.inl rfl)) (dgs_nil)))) (fun _ _ _ _ _ => dts_one (dt_cmp (op_eq2 (hu64 hr)) atom_eq2 (de_slice (de_var (i := 6) rfl (.inl rfl)) (do_none) (do_some (de_int))) (de_tup (da_cons (de_var (i := 2) rfl (.inr (.inl rfl))) (da_cons (de_slice (de_var (i := 1) rfl (.inr (.inl rfl))) (do_none) (do_some (de_var (i := 4) rfl (.inr (.inl rfl))))) (da_nil)))) (nomark _))) (fun _ _ _ _ _ => de_var (i := 5) rfl (.inl rfl)))))) (dss_nil)))) (dss_one (ds_ret (np := 3) (fun k h => fixOf_lt h) (de_var (i := 3) rfl (.inl rfl)))))
def s__law_cell_at : Stmt := top 21
theorem sc__law_cell_at : FnScope ["_law_script", "_law_k"] ["_law_script", "_law_k"] (defScope s__law_cell_at) := ⟨rfl, rfl, rfl, by decide +kernel, rfl, by decide +kernel, by decide +kernel⟩
theorem ok__law_cell_at {P : Program} {w : World} {K : PySem.W.Frag} {mg : Str → Option Value} {base : Heap} (T : Tf K mg) (d : Dfn K mg "_law_cell_at" s__law_cell_at)  : Cal P w K mg base 1 "_law_cell_at" 2 F__law_cell_at :=
  cal_of (fx := [true, true]) d sc__law_cell_at rfl (by decide) rfl (fun _ _ _ _ _ _ us hl => match us, hl with | [_, _], _ => rfl) fun _ _ _ _ _ _ _ hr => dss_cons (ds_if (dt_cmp op_lt2 atom_cmp (de_var (i := 1) rfl (.inl rfl)) (de_callB call_len atom_len rfl T.b_len (by decide +kernel) (da_cons (de_var (i := 0) rfl (.inl rfl)) (da_nil))) (nomark _)) (dss_one (ds_ret (np := 2) (fun k h => fixOf_lt h) (de_ix (de_var (i := 0) rfl (.inl rfl)) (de_var (i := 1) rfl (.inl rfl))))) (dss_nil)) (dss_one (ds_ret (np := 2) (fun k h => fixOf_lt h) (de_int)))
def s__law_draw : Stmt := top 23
theorem sc__law_draw : FnScope ["_law_pen_here", "_law_bound", "_law_stir", "_law_found"] ["_law_pen_here", "_law_bound"] (defScope s__law_draw) := ⟨rfl, rfl, rfl, by decide +kernel, rfl, by decide +kernel, by decide +kernel⟩
theorem ok__law_draw {P : Program} {w : World} {K : PySem.W.Frag} {mg : Str → Option Value} {base : Heap} (T : Tf K mg) (d : Dfn K mg "_law_draw" s__law_draw)  : Cal P w K mg base 1 "_law_draw" 2 F__law_draw :=
  cal_of (fx := [true, true]) d sc__law_draw rfl (by decide) rfl (fun _ _ _ _ _ _ us hl => match us, hl with | [_, _], _ => rfl) fun _ _ _ _ _ _ _ hr => dss_cons (ds_if (dt_w (dw_and (dt_cmp (op_eq2 (hu64 hr)) atom_eq2 (de_ix (de_var (i := 0) rfl (.inl rfl)) (de_int)) (de_int) (nomark _)) (dw_and1 (dt_cmp op_gt2 atom_cmp (de_ix (de_var (i := 0) rfl (.inl rfl)) (de_int)) (de_int) (nomark _))))) (dss_cons (ds_set (i := 3) rfl sc__law_draw.nd rfl (.inl rfl) (de_op op_mod atom_mod (de_ix (de_var (i := 0) rfl (.inl rfl)) (de_int)) (de_var (i := 1) rfl (.inl rfl)))) (dss_cons (ds_store (de_op op_fdiv atom_div (de_ix (de_var (i := 0) rfl (.inl rfl)) (de_int)) (de_var (i := 1) rfl (.inl rfl))) (de_var (i := 0) rfl (.inl rfl)) (de_int)) (dss_one (ds_ret (np := 2) (fun k h => fixOf_lt h) (de_var (i := 3) rfl (.inl rfl)))))) (dss_nil)) (dss_cons (ds_store (de_op op_add4 atom_add (de_ix (de_var (i := 0) rfl (.inl rfl)) (de_int)) (de_int)) (de_var (i := 0) rfl (.inl rfl)) (de_int)) (dss_cons (ds_set (i := 2) rfl sc__law_draw.nd rfl (.inl rfl) (de_op op_mod atom_mod (de_op op_mul atom_mul (de_op op_add4 atom_add (de_ix (de_var (i := 0) rfl (.inl rfl)) (de_int)) (de_int)) (de_op op_add4 atom_add (de_int) (de_op op_mul atom_mul (de_int) (de_ix (de_var (i := 0) rfl (.inl rfl)) (de_int))))) (de_int))) (dss_cons (ds_set (i := 2) rfl sc__law_draw.nd rfl (.inl rfl) (de_op op_mod atom_mod (de_op op_add4 atom_add (de_op op_add4 atom_add (de_op op_mul atom_mul (de_var (i := 2) rfl (.inl rfl)) (de_var (i := 2) rfl (.inl rfl))) (de_op op_mul atom_mul (de_int) (de_ix (de_var (i := 0) rfl (.inl rfl)) (de_int)))) (de_int)) (de_int))) (dss_one (ds_ret (np := 2) (fun k h => fixOf_lt h) (de_op op_mod atom_mod (de_op op_fdiv atom_div (de_op op_mod atom_mod (de_op op_mul atom_mul (de_var (i := 2) rfl (.inl rfl)) (de_int)) (de_int)) (de_int)) (de_var (i := 1) rfl (.inl rfl))))))))
def s__law_pen : Stmt := top 22
theorem sc__law_pen : FnScope ["_law_cell"] ["_law_cell"] (defScope s__law_pen) := ⟨rfl, rfl, rfl, by decide +kernel, rfl, by decide +kernel, by decide +kernel⟩
theorem ok__law_pen {P : Program} {w : World} {K : PySem.W.Frag} {mg : Str → Option Value} {base : Heap} (T : Tf K mg) (d : Dfn K mg "_law_pen" s__law_pen)  : Cal P w K mg base 1 "_law_pen" 1 F__law_pen :=
  cal_of (fx := [true]) d sc__law_pen rfl (by decide) rfl (fun _ _ _ _ _ _ us hl => match us, hl with | [_], _ => rfl) fun _ _ _ _ _ _ _ hr => dss_one (ds_ret (np := 1) (fun k h => fixOf_lt h) (de_lst (da_cons (de_var (i := 0) rfl (.inl rfl)) (da_cons (de_callTy call_int1 atom_int1 rfl T.b_int (by decide +kernel) (da_cons (de_cmp op_ge2 atom_cmp (de_var (i := 0) rfl (.inl rfl)) (de_op op_pow atom_pow (de_int) (de_int)) (nomark _)) (da_nil))) (da_cons (de_int) (da_cons (de_op op_mod atom_mod (de_var (i := 0) rfl (.inl rfl)) (de_int)) (da_nil)))))))
def s__law_needs : Stmt := top 25
theorem sc__law_needs : FnScope ["_law_pen_here", "_law_names", "_law_left", "_law_k"] ["_law_pen_here", "_law_names"] (defScope s__law_needs) := ⟨rfl, rfl, rfl, by decide +kernel, rfl, by decide +kernel, by decide +kernel⟩
theorem ok__law_needs {P : Program} {w : World} {K : PySem.W.Frag} {mg : Str → Option Value} {base : Heap} (T : Tf K mg) (d : Dfn K mg "_law_needs" s__law_needs) (C__law_draw : Cal P w K mg base 1 "_law_draw" 2 F__law_draw) : Cal P w K mg base 2 "_law_needs" 2 F__law_needs :=
  cal_of (fx := [true, true]) d sc__law_needs rfl (by decide) rfl (fun _ _ _ _ _ _ us hl => match us, hl with | [_, _], _ => rfl) fun _ _ _ _ _ _ _ hr => dss_cons (ds_set (i := 2) rfl sc__law_needs.nd rfl (.inr rfl) (de_listrange rfl rfl T.b_list rfl T.b_range (da_cons (de_var (i := 1) rfl (.inl rfl)) (da_nil)))) (dss_one (ds_ret (np := 2) (fun k h => fixOf_lt h) (de_callTy call_tuple_of atom_tuple rfl T.b_tuple (by decide +kernel) (da_cons (de_lc (own := [("_law_k", 3)]) rfl sc__law_needs.nd rfl (di_range1 rfl T.b_range (da_cons (de_callB (call_min2 rfl) atom_c2 rfl T.b_min (by decide +kernel) (da_cons (de_var (i := 1) rfl (.inl rfl)) (da_cons (de_callC C__law_draw (hr.mono (by decide)) rfl (dan_cons (de_var (i := 0) rfl (.inr (.inl rfl))) (dan_cons (de_int) (dan_nil)))) (da_nil)))) (da_nil))) (blkOk_by (by kernel_rfl)) (fun _ _ _ _ _ => dg_name (i := 3) rfl sc__law_needs.nd rfl (.inl rfl)) (fun _ _ _ _ _ => dts_nil) (fun _ _ _ _ _ => de_meth PySem.F.slot_list_pop PySem.F.type_list_pop mt_popAt at_popAt' (de_var (i := 2) rfl (.inr (.inl rfl))) (da_cons (de_callC C__law_draw (hr.mono (by decide)) rfl (dan_cons (de_var (i := 0) rfl (.inr (.inl rfl))) (dan_cons (de_callB call_len atom_len rfl T.b_len (by decide +kernel) (da_cons (de_var (i := 2) rfl (.inr (.inl rfl))) (da_nil))) (dan_nil)))) (da_nil)))) (da_nil)))))
def s__law_spots : Stmt := top 24
theorem sc__law_spots : FnScope ["_law_tables", "_law_found", "_law_evening", "_law_many", "_law_table"] ["_law_tables"] (defScope s__law_spots) := ⟨rfl, rfl, rfl, by decide +kernel, rfl, by decide +kernel, by decide +kernel⟩
theorem ok__law_spots {P : Program} {w : World} {K : PySem.W.Frag} {mg : Str → Option Value} {base : Heap} (T : Tf K mg) (d : Dfn K mg "_law_spots" s__law_spots)  : Cal P w K mg base 1 "_law_spots" 1 F__law_spots :=
  cal_of (fx := [true]) d sc__law_spots rfl (by decide) rfl (fun _ _ _ _ _ _ us hl => match us, hl with | [_], _ => rfl) fun _ _ _ _ _ _ _ hr => dss_cons (ds_set (i := 1) rfl sc__law_spots.nd rfl (.inl rfl) (de_lst (da_cons (de_tup (da_nil)) (da_nil)))) (dss_cons (ds_for PassesOwn.never rfl (di_enum rfl T.b_enumerate (de_var (i := 0) rfl (.inl rfl))) (dg_tup rfl (dgs_cons (dg_name (i := 2) rfl sc__law_spots.nd rfl (.inr rfl)) (dgs_cons (dg_name (i := 3) rfl sc__law_spots.nd rfl (.inl rfl)) (dgs_nil)))) (dss_one (ds_set (i := 1) rfl sc__law_spots.nd rfl (.inl rfl) (de_op op_add4 atom_add (de_op op_add4 atom_add (de_var (i := 1) rfl (.inl rfl)) (de_lst (da_cons (de_tup (da_cons (de_var (i := 2) rfl (.inr (.inl rfl))) (da_nil))) (da_nil)))) (de_lc (own := [("_law_table", 4)]) rfl sc__law_spots.nd rfl (di_range1 rfl T.b_range (da_cons (de_var (i := 3) rfl (.inl rfl)) (da_nil))) (blkOk_by (by kernel_rfl)) (fun _ _ _ _ _ => dg_name (i := 4) rfl sc__law_spots.nd rfl (.inl rfl)) (fun _ _ _ _ _ => dts_nil) (fun _ _ _ _ _ => de_tup (da_cons (de_var (i := 2) rfl (.inr (.inl rfl))) (da_cons (de_var (i := 4) rfl (.inl rfl)) (da_nil))))))))) (dss_one (ds_ret (np := 1) (fun k h => fixOf_lt h) (de_var (i := 1) rfl (.inl rfl)))))
def s__law_words : Stmt := top 26
theorem sc__law_words : FnScope ["_law_pen_here", "_law_found", "_law_k", "_law_long", "_law_most", "_law_j"] ["_law_pen_here"] (defScope s__law_words) := ⟨rfl, rfl, rfl, by decide +kernel, rfl, by decide +kernel, by decide +kernel⟩
theorem ok__law_words {P : Program} {w : World} {K : PySem.W.Frag} {mg : Str → Option Value} {base : Heap} (T : Tf K mg) (d : Dfn K mg "_law_words" s__law_words) (C__law_draw : Cal P w K mg base 1 "_law_draw" 2 F__law_draw) : Cal P w K mg base 2 "_law_words" 1 F__law_words :=
  cal_of (fx := [true]) d sc__law_words rfl (by decide) rfl (fun _ _ _ _ _ _ us hl => match us, hl with | [_], _ => rfl) fun _ _ _ _ _ _ _ hr => dss_cons (ds_set (i := 1) rfl sc__law_words.nd rfl (.inl rfl) (de_lst (da_nil))) (dss_cons (ds_for PassesOwn.never rfl (di_range1 rfl T.b_range (da_cons (de_callC C__law_draw (hr.mono (by decide)) rfl (dan_cons (de_var (i := 0) rfl (.inr (.inl rfl))) (dan_cons (de_int) (dan_nil)))) (da_nil))) (dg_name (i := 2) rfl sc__law_words.nd rfl (.inl rfl)) (dss_cons (ds_set (i := 3) rfl sc__law_words.nd rfl (.inl rfl) (de_ix (de_lst (da_cons (de_int) (da_cons (de_int) (da_cons (de_int) (da_cons (de_int) (da_nil)))))) (de_callC C__law_draw (hr.mono (by decide)) rfl (dan_cons (de_var (i := 0) rfl (.inr (.inl rfl))) (dan_cons (de_int) (dan_nil)))))) (dss_cons (ds_set (i := 4) rfl sc__law_words.nd rfl (.inr rfl) (de_ix (de_lst (da_cons (de_int) (da_cons (de_int) (da_nil)))) (de_callTy call_int1 atom_int1 rfl T.b_int (by decide +kernel) (da_cons (de_cmp op_gt2 atom_cmp (de_var (i := 3) rfl (.inl rfl)) (de_int) (nomark _)) (da_nil))))) (dss_one (ds_expr (de_meth PySem.F.slot_list_append PySem.F.type_list_append mt_append at_append (de_var (i := 1) rfl (.inl rfl)) (da_cons (de_sm PySem.F.slot_str_join PySem.F.type_str_join mt_join at_join (de_str) (da_cons (de_lc (own := [("_law_j", 5)]) rfl sc__law_words.nd rfl (di_range1 rfl T.b_range (da_cons (de_var (i := 3) rfl (.inl rfl)) (da_nil))) (blkOk_by (by kernel_rfl)) (fun _ _ _ _ _ => dg_name (i := 5) rfl sc__law_words.nd rfl (.inl rfl)) (fun _ _ _ _ _ => dts_nil) (fun _ _ _ _ _ => de_ix (de_str) (de_callC C__law_draw (hr.mono (by decide)) rfl (dan_cons (de_var (i := 0) rfl (.inr (.inl rfl))) (dan_cons (de_var (i := 4) rfl (.inr (.inl rfl))) (dan_nil)))))) (da_nil))) (da_nil)))))))) (dss_one (ds_ret (np := 1) (fun k h => fixOf_lt h) (de_callTy call_tuple_of atom_tuple rfl T.b_tuple (by decide +kernel) (da_cons (de_sortset rfl rfl T.b_sorted rfl T.b_set (da_cons (de_var (i := 1) rfl (.inl rfl)) (da_nil))) (da_nil))))))
def s__law_raw : Stmt := top 27
theorem sc__law_raw : FnScope ["_law_pen_here", "_law_tables", "_law_spots_here", "_law_names", "_law_recipes", "_law_k", "_law_tastings", "_law_row", "_law_at", "_law_one"] ["_law_pen_here"] (defScope s__law_raw) := ⟨rfl, rfl, rfl, by decide +kernel, rfl, by decide +kernel, by decide +kernel⟩
theorem ok__law_raw {P : Program} {w : World} {K : PySem.W.Frag} {mg : Str → Option Value} {base : Heap} (T : Tf K mg) (d : Dfn K mg "_law_raw" s__law_raw) (C__law_draw : Cal P w K mg base 1 "_law_draw" 2 F__law_draw) (C__law_spots : Cal P w K mg base 1 "_law_spots" 1 F__law_spots) (C__law_needs : Cal P w K mg base 2 "_law_needs" 2 F__law_needs) (C__law_words : Cal P w K mg base 2 "_law_words" 1 F__law_words) : Cal P w K mg base 3 "_law_raw" 1 F__law_raw :=
  cal_of (fx := [true]) d sc__law_raw rfl (by decide) rfl (fun _ _ _ _ _ _ us hl => match us, hl with | [_], _ => rfl) fun _ _ _ _ _ _ _ hr => dss_cons (ds_set (i := 1) rfl sc__law_raw.nd rfl (.inl rfl) (de_callTy call_tuple_of atom_tuple rfl T.b_tuple (by decide +kernel) (da_cons (de_lc (own := [("_law_k", 5)]) rfl sc__law_raw.nd rfl (di_range1 rfl T.b_range (da_cons (de_op op_add4 atom_add (de_int) (de_callC C__law_draw (hr.mono (by decide)) rfl (dan_cons (de_var (i := 0) rfl (.inr (.inl rfl))) (dan_cons (de_int) (dan_nil))))) (da_nil))) (blkOk_by (by kernel_rfl)) (fun _ _ _ _ _ => dg_name (i := 5) rfl sc__law_raw.nd rfl (.inl rfl)) (fun _ _ _ _ _ => dts_nil) (fun _ _ _ _ _ => de_op op_add4 atom_add (de_int) (de_callC C__law_draw (hr.mono (by decide)) rfl (dan_cons (de_var (i := 0) rfl (.inr (.inl rfl))) (dan_cons (de_int) (dan_nil)))))) (da_nil)))) (dss_cons (ds_set (i := 2) rfl sc__law_raw.nd rfl (.inl rfl) (de_callC C__law_spots (hr.mono (by decide)) rfl (dan_cons (de_var (i := 1) rfl (.inl rfl)) (dan_nil)))) (dss_cons (ds_set (i := 3) rfl sc__law_raw.nd rfl (.inl rfl) (de_ix (de_lst (da_cons (de_int) (da_cons (de_int) (da_cons (de_int) (da_nil))))) (de_callC C__law_draw (hr.mono (by decide)) rfl (dan_cons (de_var (i := 0) rfl (.inr (.inl rfl))) (dan_cons (de_int) (dan_nil)))))) (dss_cons (ds_set (i := 4) rfl sc__law_raw.nd rfl (.inl rfl) (de_lst (da_nil))) (dss_cons (ds_for PassesOwn.never rfl (di_range1 rfl T.b_range (da_cons (de_callC C__law_draw (hr.mono (by decide)) rfl (dan_cons (de_var (i := 0) rfl (.inr (.inl rfl))) (dan_cons (de_int) (dan_nil)))) (da_nil))) (dg_name (i := 5) rfl sc__law_raw.nd rfl (.inl rfl)) (dss_cons (ds_set (i := 7) rfl sc__law_raw.nd rfl (.inl rfl) (de_tup (da_cons (de_callC C__law_draw (hr.mono (by decide)) rfl (dan_cons (de_var (i := 0) rfl (.inr (.inl rfl))) (dan_cons (de_var (i := 3) rfl (.inl rfl)) (dan_nil)))) (da_cons (de_ix (de_var (i := 2) rfl (.inl rfl)) (de_callC C__law_draw (hr.mono (by decide)) rfl (dan_cons (de_var (i := 0) rfl (.inr (.inl rfl))) (dan_cons (de_callB call_len atom_len rfl T.b_len (by decide +kernel) (da_cons (de_var (i := 2) rfl (.inl rfl)) (da_nil))) (dan_nil))))) (da_cons (de_callC C__law_draw (hr.mono (by decide)) rfl (dan_cons (de_var (i := 0) rfl (.inr (.inl rfl))) (dan_cons (de_int) (dan_nil)))) (da_nil)))))) (dss_cons (ds_set (i := 7) rfl sc__law_raw.nd rfl (.inl rfl) (de_op op_add4 atom_add (de_var (i := 7) rfl (.inl rfl)) (de_tup (da_cons (de_op op_add4 atom_add (de_int) (de_callC C__law_draw (hr.mono (by decide)) rfl (dan_cons (de_var (i := 0) rfl (.inr (.inl rfl))) (dan_cons (de_int) (dan_nil))))) (da_cons (de_callC C__law_needs (hr.mono (by decide)) rfl (dan_cons (de_var (i := 0) rfl (.inr (.inl rfl))) (dan_cons (de_var (i := 3) rfl (.inl rfl)) (dan_nil)))) (da_nil)))))) (dss_one (ds_if (dt_cmp (op_notInD (hu65 hr)) atom_in (de_slice (de_var (i := 7) rfl (.inl rfl)) (do_none) (do_some (de_int))) (de_lcO (own := [("_law_one", 9)]) rfl sc__law_raw.nd rfl (de_var (i := 4) rfl (.inl rfl)) (blkOk_by (by kernel_rfl)) (fun _ _ _ _ _ => dg_name (i := 9) rfl sc__law_raw.nd rfl (.inl rfl)) (fun _ _ _ _ _ => dts_nil) (fun _ _ _ _ _ => de_slice (de_var (i := 9) rfl (.inl rfl)) (do_none) (do_some (de_int)))) (by rfl)) (dss_one (ds_expr (de_meth PySem.F.slot_list_append PySem.F.type_list_append mt_append at_append (de_var (i := 4) rfl (.inl rfl)) (da_cons (de_var (i := 7) rfl (.inl rfl)) (da_nil))))) (dss_nil)))))) (dss_cons (ds_set (i := 6) rfl sc__law_raw.nd rfl (.inl rfl) (de_lst (da_nil))) (dss_cons (ds_for PassesOwn.never rfl (di_range1 rfl T.b_range (da_cons (de_callC C__law_draw (hr.mono (by decide)) rfl (dan_cons (de_var (i := 0) rfl (.inr (.inl rfl))) (dan_cons (de_int) (dan_nil)))) (da_nil))) (dg_name (i := 5) rfl sc__law_raw.nd rfl (.inl rfl)) (dss_cons (ds_set (i := 8) rfl sc__law_raw.nd rfl (.inl rfl) (de_callC C__law_draw (hr.mono (by decide)) rfl (dan_cons (de_var (i := 0) rfl (.inr (.inl rfl))) (dan_cons (de_callB call_len atom_len rfl T.b_len (by decide +kernel) (da_cons (de_var (i := 1) rfl (.inl rfl)) (da_nil))) (dan_nil))))) (dss_one (ds_expr (de_meth PySem.F.slot_list_append PySem.F.type_list_append mt_append at_append (de_var (i := 6) rfl (.inl rfl)) (da_cons (de_tup (da_cons (de_tup (da_cons (de_var (i := 8) rfl (.inl rfl)) (da_cons (de_callC C__law_draw (hr.mono (by decide)) rfl (dan_cons (de_var (i := 0) rfl (.inr (.inl rfl))) (dan_cons (de_ix (de_var (i := 1) rfl (.inl rfl)) (de_var (i := 8) rfl (.inl rfl))) (dan_nil)))) (da_nil)))) (da_cons (de_callC C__law_needs (hr.mono (by decide)) rfl (dan_cons (de_var (i := 0) rfl (.inr (.inl rfl))) (dan_cons (de_var (i := 3) rfl (.inl rfl)) (dan_nil)))) (da_cons (de_callC C__law_words (hr.mono (by decide)) rfl (dan_cons (de_var (i := 0) rfl (.inr (.inl rfl))) (dan_nil))) (da_nil))))) (da_nil))))))) (dss_one (ds_ret (np := 1) (fun k h => fixOf_lt h) (de_tup (da_cons (de_var (i := 1) rfl (.inl rfl)) (da_cons (de_callTy call_tuple_of atom_tuple rfl T.b_tuple (by decide +kernel) (da_cons (de_var (i := 4) rfl (.inl rfl)) (da_nil))) (da_cons (de_callTy call_tuple_of atom_tuple rfl T.b_tuple (by decide +kernel) (da_cons (de_var (i := 6) rfl (.inl rfl)) (da_nil))) (da_nil)))))))))))))
def s_spots_around : Stmt := top 17
theorem sc_spots_around : FnScope ["spot", "length"] ["spot"] (defScope s_spots_around) := ⟨rfl, rfl, rfl, by decide +kernel, rfl, by decide +kernel, by decide +kernel⟩
theorem ok_spots_around {P : Program} {w : World} {K : PySem.W.Frag} {mg : Str → Option Value} {base : Heap} (T : Tf K mg) (d : Dfn K mg "spots_around" s_spots_around)  : Cal P w K mg base 1 "spots_around" 1 F_spots_around :=
  cal_of (fx := [true]) d sc_spots_around rfl (by decide) rfl (fun _ _ _ _ _ _ us hl => match us, hl with | [_], _ => rfl) fun _ _ _ _ _ _ _ hr => dss_one (ds_ret (np := 1) (fun k h => fixOf_lt h) (de_lc (own := [("length", 1)]) rfl sc_spots_around.nd rfl (di_range3 rfl T.b_range (da_cons (de_callB call_len atom_len rfl T.b_len (by decide +kernel) (da_cons (de_var (i := 0) rfl (.inr (.inl rfl))) (da_nil))) (da_cons (de_neg' (de_int)) (da_cons (de_neg' (de_int)) (da_nil))))) (blkOk_by (by kernel_rfl)) (fun _ _ _ _ _ => dg_name (i := 1) rfl sc_spots_around.nd rfl (.inl rfl)) (fun _ _ _ _ _ => dts_nil) (fun _ _ _ _ _ => de_slice (de_var (i := 0) rfl (.inr (.inl rfl))) (do_none) (do_some (de_var (i := 1) rfl (.inl rfl))))))
def s_recipes_from : Stmt := top 18
theorem sc_recipes_from : FnScope ["house", "spot", "name", "around", "number", "recipe"] ["house", "spot", "name"] (defScope s_recipes_from) := ⟨rfl, rfl, rfl, by decide +kernel, rfl, by decide +kernel, by decide +kernel⟩
theorem ok_recipes_from {P : Program} {w : World} {K : PySem.W.Frag} {mg : Str → Option Value} {base : Heap} (T : Tf K mg) (d : DfnG K mg "recipes_from" s_recipes_from) (C_spots_around : Cal P w K mg base 1 "spots_around" 1 F_spots_around) : Cal P w K mg base 3 "recipes_from" 3 F_recipes_from :=
  cal_ofG (fx := [true, true, true]) d sc_recipes_from rfl (by decide) rfl (fun _ _ _ _ _ _ us hl => match us, hl with | [_, _, _], _ => rfl) fun _ _ _ _ _ _ _ hG hr => dss_one (ds_ret (np := 3) (fun k h => fixOf_lt h) (de_tupG2 (own := [("around", 3), ("number", 4), ("recipe", 5)]) (vs1 := [4, 5]) (k := 1) (hr.mono (by decide)) hG rfl sc_recipes_from.nd rfl (by decide) rfl T.b_tuple (di_seq (de_callC C_spots_around (hr.mono (by decide)) rfl (dan_cons (de_var (i := 1) rfl (.inl rfl)) (dan_nil)))) (blkOk_by (by kernel_rfl)) (by kernel_rfl) (fun _ _ _ _ _ _ _ _ hr => dg_name (i := 3) rfl sc_recipes_from.nd rfl (.inl rfl)) (fun _ _ _ _ _ _ _ _ hr => dts_nil) (fun _ _ _ _ _ _ _ _ hr => di_enum rfl T.b_enumerate (de_ix (de_var (i := 0) rfl (.inr (.inr rfl))) (de_int))) (fun _ _ _ _ _ _ _ _ hr => dg_tup rfl (dgs_cons (dg_name (i := 4) rfl sc_recipes_from.nd rfl (.inl rfl)) (dgs_cons (dg_name (i := 5) rfl sc_recipes_from.nd rfl (.inl rfl)) (dgs_nil)))) (fun _ _ _ _ _ _ _ _ hr => dts_one (dt_w (dw_and (dt_cmp (op_eq2 (hu64 hr)) atom_eq2 (de_ix (de_var (i := 5) rfl (.inl rfl)) (de_int)) (de_var (i := 2) rfl (.inr (.inr rfl))) (nomark _)) (dw_and1 (dt_cmp (op_eq2 (hu64 hr)) atom_eq2 (de_ix (de_var (i := 5) rfl (.inl rfl)) (de_int)) (de_var (i := 3) rfl (.inl rfl)) (nomark _)))))) (fun _ _ _ _ _ _ _ _ hr => de_var (i := 4) rfl (.inl rfl))))
def s_is_number : Stmt := top 3
theorem sc_is_number : FnScope ["thing"] ["thing"] (defScope s_is_number) := ⟨rfl, rfl, rfl, by decide +kernel, rfl, by decide +kernel, by decide +kernel⟩
theorem ok_is_number {P : Program} {w : World} {K : PySem.W.Frag} {mg : Str → Option Value} {base : Heap} (T : Tf K mg) (d : Dfn K mg "is_number" s_is_number)  : Cal P w K mg base 1 "is_number" 1 F_is_number :=
  cal_of (fx := [true]) d sc_is_number rfl (by decide) rfl (fun _ _ _ _ _ _ us hl => match us, hl with | [_], _ => rfl) fun _ _ _ _ _ _ _ hr => dss_one (ds_ret (np := 1) (fun k h => fixOf_lt h) (de_and (de_isi (de_var (i := 0) rfl (.inl rfl)) T.i_int rfl T.b_isinstance rfl T.b_int (by decide +kernel)) (de_one (de_not (de_isi (de_var (i := 0) rfl (.inl rfl)) T.i_bool rfl T.b_isinstance rfl T.b_bool (by decide +kernel))))))
def s_is_whole : Stmt := top 4
theorem sc_is_whole : FnScope ["thing", "least", "most"] ["thing", "least", "most"] (defScope s_is_whole) := ⟨rfl, rfl, rfl, by decide +kernel, rfl, by decide +kernel, by decide +kernel⟩
theorem ok_is_whole {P : Program} {w : World} {K : PySem.W.Frag} {mg : Str → Option Value} {base : Heap} (T : Tf K mg) (d : Dfn K mg "is_whole" s_is_whole) (C_is_number : Cal P w K mg base 1 "is_number" 1 F_is_number) : Cal P w K mg base 2 "is_whole" 3 F_is_whole :=
  cal_of (fx := [true, true, true]) d sc_is_whole rfl (by decide) rfl (fun _ _ _ _ _ _ us hl => match us, hl with | [_, _, _], _ => rfl) fun _ _ _ _ _ _ _ hr => dss_one (ds_ret (np := 3) (fun k h => fixOf_lt h) (de_and (de_callC C_is_number (hr.mono (by decide)) rfl (dan_cons (de_var (i := 0) rfl (.inl rfl)) (dan_nil))) (de_one (de_chain op_le2 atom_cmp op_le2 atom_cmp (de_var (i := 1) rfl (.inl rfl)) (de_var (i := 0) rfl (.inl rfl)) (de_var (i := 2) rfl (.inl rfl))))))
def s_refuse_no_number : Stmt := top 13
theorem sc_refuse_no_number : FnScope ["thing", "least", "most"] ["thing", "least", "most"] (defScope s_refuse_no_number) := ⟨rfl, rfl, rfl, by decide +kernel, rfl, by decide +kernel, by decide +kernel⟩
theorem ok_refuse_no_number {P : Program} {w : World} {K : PySem.W.Frag} {mg : Str → Option Value} {base : Heap} (T : Tf K mg) (d : Dfn K mg "refuse_no_number" s_refuse_no_number) (C_is_whole : Cal P w K mg base 2 "is_whole" 3 F_is_whole) : Cal P w K mg base 3 "refuse_no_number" 3 F_refuse_no_number :=
  cal_of (fx := [true, true, true]) d sc_refuse_no_number rfl (by decide) rfl (fun _ _ _ _ _ _ us hl => match us, hl with | [_, _, _], _ => rfl) fun _ _ _ _ _ _ _ hr => dss_one (ds_if (dt_not (dt_val (de_callC C_is_whole (hr.mono (by decide)) rfl (dan_cons (de_var (i := 0) rfl (.inl rfl)) (dan_cons (de_var (i := 1) rfl (.inl rfl)) (dan_cons (de_var (i := 2) rfl (.inl rfl)) (dan_nil))))))) (dss_one (ds_none)) (dss_nil))
def s_is_tuple_of : Stmt := top 5
theorem sc_is_tuple_of : FnScope ["thing", "least", "most"] ["thing", "least", "most"] (defScope s_is_tuple_of) := ⟨rfl, rfl, rfl, by decide +kernel, rfl, by decide +kernel, by decide +kernel⟩
theorem ok_is_tuple_of {P : Program} {w : World} {K : PySem.W.Frag} {mg : Str → Option Value} {base : Heap} (T : Tf K mg) (d : Dfn K mg "is_tuple_of" s_is_tuple_of)  : Cal P w K mg base 1 "is_tuple_of" 3 F_is_tuple_of :=
  cal_of (fx := [true, true, true]) d sc_is_tuple_of rfl (by decide) rfl (fun _ _ _ _ _ _ us hl => match us, hl with | [_, _, _], _ => rfl) fun _ _ _ _ _ _ _ hr => dss_one (ds_ret (np := 3) (fun k h => fixOf_lt h) (de_and (de_isi (de_var (i := 0) rfl (.inl rfl)) T.i_tuple rfl T.b_isinstance rfl T.b_tuple (by decide +kernel)) (de_one (de_chain op_le2 atom_cmp op_le2 atom_cmp (de_var (i := 1) rfl (.inl rfl)) (de_callB call_len atom_len rfl T.b_len (by decide +kernel) (da_cons (de_var (i := 0) rfl (.inl rfl)) (da_nil))) (de_var (i := 2) rfl (.inl rfl))))))
def s_is_spot_of : Stmt := top 6
theorem sc_is_spot_of : FnScope ["tables", "thing", "evening"] ["tables", "thing"] (defScope s_is_spot_of) := ⟨rfl, rfl, rfl, by decide +kernel, rfl, by decide +kernel, by decide +kernel⟩
theorem ok_is_spot_of {P : Program} {w : World} {K : PySem.W.Frag} {mg : Str → Option Value} {base : Heap} (T : Tf K mg) (d : Dfn K mg "is_spot_of" s_is_spot_of) (C_is_tuple_of : Cal P w K mg base 1 "is_tuple_of" 3 F_is_tuple_of) (C_is_whole : Cal P w K mg base 2 "is_whole" 3 F_is_whole) : Cal P w K mg base 3 "is_spot_of" 2 F_is_spot_of :=
  cal_of (fx := [true, true]) d sc_is_spot_of rfl (by decide) rfl (fun _ _ _ _ _ _ us hl => match us, hl with | [_, _], _ => rfl) fun _ _ _ _ _ _ _ hr => dss_cons (ds_if (dt_not (dt_val (de_callC C_is_tuple_of (hr.mono (by decide)) rfl (dan_cons (de_var (i := 1) rfl (.inl rfl)) (dan_cons (de_int) (dan_cons (de_int) (dan_nil))))))) (dss_one (ds_ret (np := 2) (fun k h => fixOf_lt h) (de_bool))) (dss_nil)) (dss_cons (ds_if (dt_cmp (op_eq2 (hu64 hr)) atom_eq2 (de_callB call_len atom_len rfl T.b_len (by decide +kernel) (da_cons (de_var (i := 1) rfl (.inl rfl)) (da_nil))) (de_int) (nomark _)) (dss_one (ds_ret (np := 2) (fun k h => fixOf_lt h) (de_bool))) (dss_nil)) (dss_cons (ds_set (i := 2) rfl sc_is_spot_of.nd rfl (.inl rfl) (de_ix (de_var (i := 1) rfl (.inl rfl)) (de_int))) (dss_cons (ds_if (dt_not (dt_val (de_callC C_is_whole (hr.mono (by decide)) rfl (dan_cons (de_var (i := 2) rfl (.inl rfl)) (dan_cons (de_int) (dan_cons (de_op op_sub atom_sub (de_callB call_len atom_len rfl T.b_len (by decide +kernel) (da_cons (de_var (i := 0) rfl (.inl rfl)) (da_nil))) (de_int)) (dan_nil))))))) (dss_one (ds_ret (np := 2) (fun k h => fixOf_lt h) (de_bool))) (dss_nil)) (dss_one (ds_ret (np := 2) (fun k h => fixOf_lt h) (de_or (de_cmp (op_eq2 (hu64 hr)) atom_eq2 (de_callB call_len atom_len rfl T.b_len (by decide +kernel) (da_cons (de_var (i := 1) rfl (.inl rfl)) (da_nil))) (de_int) (nomark _)) (de_one (de_callC C_is_whole (hr.mono (by decide)) rfl (dan_cons (de_ix (de_var (i := 1) rfl (.inl rfl)) (de_int)) (dan_cons (de_int) (dan_cons (de_op op_sub atom_sub (de_ix (de_var (i := 0) rfl (.inl rfl)) (de_var (i := 2) rfl (.inl rfl))) (de_int)) (dan_nil))))))))))))
def s_is_spot : Stmt := top 2
theorem sc_is_spot : FnScope ["house", "thing"] ["house", "thing"] (defScope s_is_spot) := ⟨rfl, rfl, rfl, by decide +kernel, rfl, by decide +kernel, by decide +kernel⟩
theorem ok_is_spot {P : Program} {w : World} {K : PySem.W.Frag} {mg : Str → Option Value} {base : Heap} (T : Tf K mg) (d : Dfn K mg "is_spot" s_is_spot) (C_is_spot_of : Cal P w K mg base 3 "is_spot_of" 2 F_is_spot_of) : Cal P w K mg base 4 "is_spot" 2 F_is_spot :=
  cal_of (fx := [true, true]) d sc_is_spot rfl (by decide) rfl (fun _ _ _ _ _ _ us hl => match us, hl with | [_, _], _ => rfl) fun _ _ _ _ _ _ _ hr => dss_one (ds_ret (np := 2) (fun k h => fixOf_lt h) (de_callC C_is_spot_of (hr.mono (by decide)) rfl (dan_cons (de_ix (de_var (i := 0) rfl (.inl rfl)) (de_int)) (dan_cons (de_var (i := 1) rfl (.inl rfl)) (dan_nil)))))
def s_refuse_no_spot : Stmt := top 12
theorem sc_refuse_no_spot : FnScope ["house", "thing"] ["house", "thing"] (defScope s_refuse_no_spot) := ⟨rfl, rfl, rfl, by decide +kernel, rfl, by decide +kernel, by decide +kernel⟩
theorem ok_refuse_no_spot {P : Program} {w : World} {K : PySem.W.Frag} {mg : Str → Option Value} {base : Heap} (T : Tf K mg) (d : Dfn K mg "refuse_no_spot" s_refuse_no_spot) (C_is_spot : Cal P w K mg base 4 "is_spot" 2 F_is_spot) : Cal P w K mg base 5 "refuse_no_spot" 2 F_refuse_no_spot :=
  cal_of (fx := [true, true]) d sc_refuse_no_spot rfl (by decide) rfl (fun _ _ _ _ _ _ us hl => match us, hl with | [_, _], _ => rfl) fun _ _ _ _ _ _ _ hr => dss_one (ds_if (dt_not (dt_val (de_callC C_is_spot (hr.mono (by decide)) rfl (dan_cons (de_var (i := 0) rfl (.inl rfl)) (dan_cons (de_var (i := 1) rfl (.inl rfl)) (dan_nil)))))) (dss_one (ds_none)) (dss_nil))
def s_all_at : Stmt := top 16
theorem sc_all_at : FnScope ["house", "spot", "name"] ["house", "spot", "name"] (defScope s_all_at) := ⟨rfl, rfl, rfl, by decide +kernel, rfl, by decide +kernel, by decide +kernel⟩
theorem ok_all_at {P : Program} {w : World} {K : PySem.W.Frag} {mg : Str → Option Value} {base : Heap} (T : Tf K mg) (d : Dfn K mg "all_at" s_all_at) (C_refuse_no_spot : Cal P w K mg base 5 "refuse_no_spot" 2 F_refuse_no_spot) (C_refuse_no_number : Cal P w K mg base 3 "refuse_no_number" 3 F_refuse_no_number) (C_recipes_from : Cal P w K mg base 3 "recipes_from" 3 F_recipes_from) : Cal P w K mg base 6 "all_at" 3 F_all_at :=
  cal_of (fx := [true, true, true]) d sc_all_at rfl (by decide) rfl (fun _ _ _ _ _ _ us hl => match us, hl with | [_, _, _], _ => rfl) fun _ _ _ _ _ _ _ hr => dss_cons (ds_expr (de_callC C_refuse_no_spot (hr.mono (by decide)) rfl (dan_cons (de_var (i := 0) rfl (.inl rfl)) (dan_cons (de_var (i := 1) rfl (.inl rfl)) (dan_nil))))) (dss_cons (ds_expr (de_callC C_refuse_no_number (hr.mono (by decide)) rfl (dan_cons (de_var (i := 2) rfl (.inl rfl)) (dan_cons (de_int) (dan_cons (de_gint rfl T.g_MOST_NAME.choose_spec) (dan_nil)))))) (dss_one (ds_ret (np := 3) (fun k h => fixOf_lt h) (de_callC C_recipes_from (hr.mono (by decide)) rfl (dan_cons (de_var (i := 0) rfl (.inl rfl)) (dan_cons (de_var (i := 1) rfl (.inl rfl)) (dan_cons (de_var (i := 2) rfl (.inl rfl)) (dan_nil))))))))
def s_nearest_of : Stmt := top 19
theorem sc_nearest_of : FnScope ["numbers"] ["numbers"] (defScope s_nearest_of) := ⟨rfl, rfl, rfl, by decide +kernel, rfl, by decide +kernel, by decide +kernel⟩
theorem ok_nearest_of {P : Program} {w : World} {K : PySem.W.Frag} {mg : Str → Option Value} {base : Heap} (T : Tf K mg) (d : Dfn K mg "nearest_of" s_nearest_of)  : Cal P w K mg base 1 "nearest_of" 1 F_nearest_of :=
  cal_of (fx := [true]) d sc_nearest_of rfl (by decide) rfl (fun _ _ _ _ _ _ us hl => match us, hl with | [_], _ => rfl) fun _ _ _ _ _ _ _ hr => dss_one (ds_ret (np := 1) (fun k h => fixOf_lt h) (de_if (dt_val (de_var (i := 0) rfl (.inl rfl))) (de_ix (de_var (i := 0) rfl (.inl rfl)) (de_int)) (de_none)))
def s_found_at : Stmt := top 15
theorem sc_found_at : FnScope ["house", "spot", "name"] ["house", "spot", "name"] (defScope s_found_at) := ⟨rfl, rfl, rfl, by decide +kernel, rfl, by decide +kernel, by decide +kernel⟩
theorem ok_found_at {P : Program} {w : World} {K : PySem.W.Frag} {mg : Str → Option Value} {base : Heap} (T : Tf K mg) (d : Dfn K mg "found_at" s_found_at) (C_nearest_of : Cal P w K mg base 1 "nearest_of" 1 F_nearest_of) (C_all_at : Cal P w K mg base 6 "all_at" 3 F_all_at) : Cal P w K mg base 7 "found_at" 3 F_found_at :=
  cal_of (fx := [true, true, true]) d sc_found_at rfl (by decide) rfl (fun _ _ _ _ _ _ us hl => match us, hl with | [_, _, _], _ => rfl) fun _ _ _ _ _ _ _ hr => dss_one (ds_ret (np := 3) (fun k h => fixOf_lt h) (de_callC C_nearest_of (hr.mono (by decide)) rfl (dan_cons (de_callC C_all_at (hr.mono (by decide)) rfl (dan_cons (de_var (i := 0) rfl (.inl rfl)) (dan_cons (de_var (i := 1) rfl (.inl rfl)) (dan_cons (de_var (i := 2) rfl (.inl rfl)) (dan_nil))))) (dan_nil))))
def s_law : Stmt := top 29
theorem sc_law : FnScope ["_law_script", "_law_k", "_law_pen_here", "_law_house", "_law_spots_here", "_law_spot", "_law_name", "_law_more", "_law_due", "_law_row"] ["_law_script"] (defScope s_law) := ⟨rfl, rfl, rfl, by decide +kernel, rfl, by decide +kernel, by decide +kernel⟩
theorem ok_lawF {P : Program} {w : World} {K : PySem.W.Frag} {mg : Str → Option Value} {base : Heap} {f : Addr} {fd : FuncData} (T : Tf K mg) (F : Fun K "law" "law" s_law f fd) (C__law_pen : Cal P w K mg base 1 "_law_pen" 1 F__law_pen) (C__law_cell_at : Cal P w K mg base 1 "_law_cell_at" 2 F__law_cell_at) (C__law_raw : Cal P w K mg base 3 "_law_raw" 1 F__law_raw) (C__law_spots : Cal P w K mg base 1 "_law_spots" 1 F__law_spots) (C__law_all : Cal P w K mg base 1 "_law_all" 3 F__law_all) (C_found_at : Cal P w K mg base 7 "found_at" 3 F_found_at) (C_all_at : Cal P w K mg base 6 "all_at" 3 F_all_at) (C__law_draw : Cal P w K mg base 1 "_law_draw" 2 F__law_draw) : FnOk P w K mg base CX0 8 f fd ["_law_script"] (spF K 1 F_law_v2) :=
  fn_lin (fx := [true]) F sc_law rfl (by decide) fun _ _ _ _ _ _ hr => dss_cons (ds_for PassesOwn.never rfl (di_range1 rfl T.b_range (da_cons (de_callB (call_max2 rfl) atom_c2 rfl T.b_max (by decide +kernel) (da_cons (de_int) (da_cons (de_callB (call_min2 rfl) atom_c2 rfl T.b_min (by decide +kernel) (da_cons (de_callB call_len atom_len rfl T.b_len (by decide +kernel) (da_cons (de_var (i := 0) rfl (.inl rfl)) (da_nil))) (da_cons (de_int) (da_nil)))) (da_nil)))) (da_nil))) (dg_name (i := 1) rfl sc_law.nd rfl (.inl rfl)) (dss_cons (ds_set (i := 2) rfl sc_law.nd rfl (.inl rfl) (de_callC C__law_pen (hr.mono (by decide)) rfl (dan_cons (de_callC C__law_cell_at (hr.mono (by decide)) rfl (dan_cons (de_var (i := 0) rfl (.inl rfl)) (dan_cons (de_var (i := 1) rfl (.inl rfl)) (dan_nil)))) (dan_nil)))) (dss_cons (ds_set (i := 3) rfl sc_law.nd rfl (.inl rfl) (de_callC C__law_raw (hr.mono (by decide)) rfl (dan_cons (de_var (i := 2) rfl (.inl rfl)) (dan_nil)))) (dss_cons (ds_set (i := 4) rfl sc_law.nd rfl (.inl rfl) (de_callC C__law_spots (hr.mono (by decide)) rfl (dan_cons (de_ix (de_var (i := 3) rfl (.inl rfl)) (de_int)) (dan_nil)))) (dss_cons (ds_for PassesOwn.never rfl (di_seq (de_var (i := 4) rfl (.inl rfl))) (dg_name (i := 5) rfl sc_law.nd rfl (.inl rfl)) (dss_one (ds_for PassesOwn.never rfl (di_range1 rfl T.b_range (da_cons (de_int) (da_nil))) (dg_name (i := 6) rfl sc_law.nd rfl (.inl rfl)) (dss_cons (ds_set (i := 9) rfl sc_law.nd rfl (.inl rfl) (de_callC C__law_all (hr.mono (by decide)) rfl (dan_cons (de_var (i := 3) rfl (.inl rfl)) (dan_cons (de_var (i := 5) rfl (.inl rfl)) (dan_cons (de_var (i := 6) rfl (.inl rfl)) (dan_nil)))))) (dss_one (ds_if (dt_w (dw_or (dt_cmp (op_neD (hu64 hr)) atom_ne (de_callC C_all_at (hr.mono (by decide)) rfl (dan_cons (de_var (i := 3) rfl (.inl rfl)) (dan_cons (de_var (i := 5) rfl (.inl rfl)) (dan_cons (de_var (i := 6) rfl (.inl rfl)) (dan_nil))))) (de_callTy call_tuple_of atom_tuple rfl T.b_tuple (by decide +kernel) (da_cons (de_var (i := 9) rfl (.inl rfl)) (da_nil))) (nomark _)) (dw_or1 (dt_cmp (op_neD (hu64 hr)) atom_ne (de_callC C_found_at (hr.mono (by decide)) rfl (dan_cons (de_var (i := 3) rfl (.inl rfl)) (dan_cons (de_var (i := 5) rfl (.inl rfl)) (dan_cons (de_var (i := 6) rfl (.inl rfl)) (dan_nil))))) (de_ix (de_op op_add4 atom_add (de_var (i := 9) rfl (.inl rfl)) (de_lst (da_cons (de_none) (da_nil)))) (de_int)) (nomark _))))) (dss_one (ds_ret (np := 1) (fun k h => fixOf_lt h) (de_bool))) (dss_nil))))))) (dss_cons (ds_set (i := 5) rfl sc_law.nd rfl (.inl rfl) (de_ix (de_var (i := 4) rfl (.inl rfl)) (de_callC C__law_draw (hr.mono (by decide)) rfl (dan_cons (de_var (i := 2) rfl (.inl rfl)) (dan_cons (de_callB call_len atom_len rfl T.b_len (by decide +kernel) (da_cons (de_var (i := 4) rfl (.inl rfl)) (da_nil))) (dan_nil)))))) (dss_cons (ds_set (i := 6) rfl sc_law.nd rfl (.inl rfl) (de_callC C__law_draw (hr.mono (by decide)) rfl (dan_cons (de_var (i := 2) rfl (.inl rfl)) (dan_cons (de_int) (dan_nil))))) (dss_one (ds_if (dt_w (dw_and (dt_cmp op_lt2 atom_cmp (de_callB call_len atom_len rfl T.b_len (by decide +kernel) (da_cons (de_ix (de_var (i := 3) rfl (.inl rfl)) (de_int)) (da_nil))) (de_int) (nomark _)) (dw_and1 (dt_cmp (op_notInD (hu65 hr)) atom_in (de_tup (da_cons (de_var (i := 6) rfl (.inl rfl)) (da_cons (de_var (i := 5) rfl (.inl rfl)) (da_nil)))) (de_lc1 (own := [("_law_row", 9)]) rfl sc_law.nd rfl (di_seq (de_ix (de_var (i := 3) rfl (.inl rfl)) (de_int))) (blkOk_by (by kernel_rfl)) (fun _ _ _ _ _ => dg_name (i := 9) rfl sc_law.nd rfl (.inl rfl)) (fun _ _ _ _ _ => dts_nil) (fun _ _ _ _ _ => de_slice (de_var (i := 9) rfl (.inl rfl)) (do_none) (do_some (de_int)))) (by rfl))))) (dss_cons (ds_set (i := 7) rfl sc_law.nd rfl (.inl rfl) (de_tup (da_cons (de_ix (de_var (i := 3) rfl (.inl rfl)) (de_int)) (da_cons (de_op op_add4 atom_add (de_ix (de_var (i := 3) rfl (.inl rfl)) (de_int)) (de_tup (da_cons (de_tup (da_cons (de_var (i := 6) rfl (.inl rfl)) (da_cons (de_var (i := 5) rfl (.inl rfl)) (da_cons (de_int) (da_cons (de_int) (da_cons (de_tup (da_nil)) (da_nil))))))) (da_nil)))) (da_cons (de_ix (de_var (i := 3) rfl (.inl rfl)) (de_int)) (da_nil)))))) (dss_cons (ds_set (i := 8) rfl sc_law.nd rfl (.inl rfl) (de_op op_add4 atom_add (de_tup (da_cons (de_callB call_len atom_len rfl T.b_len (by decide +kernel) (da_cons (de_ix (de_var (i := 3) rfl (.inl rfl)) (de_int)) (da_nil))) (da_nil))) (de_callTy call_tuple_of atom_tuple rfl T.b_tuple (by decide +kernel) (da_cons (de_callC C__law_all (hr.mono (by decide)) rfl (dan_cons (de_var (i := 3) rfl (.inl rfl)) (dan_cons (de_var (i := 5) rfl (.inl rfl)) (dan_cons (de_var (i := 6) rfl (.inl rfl)) (dan_nil))))) (da_nil))))) (dss_cons (ds_if (dt_w (dw_or (dt_cmp (op_neD (hu64 hr)) atom_ne (de_callC C_all_at (hr.mono (by decide)) rfl (dan_cons (de_var (i := 7) rfl (.inl rfl)) (dan_cons (de_var (i := 5) rfl (.inl rfl)) (dan_cons (de_var (i := 6) rfl (.inl rfl)) (dan_nil))))) (de_var (i := 8) rfl (.inl rfl)) (nomark _)) (dw_or1 (dt_cmp (op_neD (hu64 hr)) atom_ne (de_callC C_found_at (hr.mono (by decide)) rfl (dan_cons (de_var (i := 7) rfl (.inl rfl)) (dan_cons (de_var (i := 5) rfl (.inl rfl)) (dan_cons (de_var (i := 6) rfl (.inl rfl)) (dan_nil))))) (de_ix (de_var (i := 8) rfl (.inl rfl)) (de_int)) (nomark _))))) (dss_one (ds_ret (np := 1) (fun k h => fixOf_lt h) (de_bool))) (dss_nil)) (dss_one (ds_if (dt_cmp (op_neD (hu64 hr)) atom_ne (de_callC C_found_at (hr.mono (by decide)) rfl (dan_cons (de_var (i := 3) rfl (.inl rfl)) (dan_cons (de_var (i := 5) rfl (.inl rfl)) (dan_cons (de_var (i := 6) rfl (.inl rfl)) (dan_nil))))) (de_ix (de_op op_add4 atom_add (de_var (i := 8) rfl (.inl rfl)) (de_tup (da_cons (de_none) (da_nil)))) (de_int)) (nomark _)) (dss_one (ds_ret (np := 1) (fun k h => fixOf_lt h) (de_bool))) (dss_nil)))))) (dss_nil)))))))))) (dss_one (ds_ret (np := 1) (fun k h => fixOf_lt h) (de_bool)))
end L2.Q3.Tk03
end

section
set_option Elab.async false
set_option linter.all false
set_option maxRecDepth 100000
set_option maxHeartbeats 4000000
namespace L2.Q3
open PySem PySem.Spec PyProof.Rows

theorem has_rec {q : Program} {nm : Str} (h : ((recsOf q).any fun r => r.name == nm) = true) : ∃ r ∈ recsOf q, r.name = nm := by
  obtain ⟨r, hr, e⟩ := List.any_eq_true.mp h
  exact ⟨r, hr, by simpa using e⟩

def recV (vs : Array Value) : Option Addr := match (vs[11]? : Option Value), vs.getD 18 .none, vs.getD 7 .none, vs.getD 9 .none, vs.getD 10 .none with
  | some (.ref P), .str _ _, .int _ _, .bool _, .int _ _ => some P
  | _, _, _, _, _ => none
section
variable {K : PySem.W.Frag} {mg : Str → Option Value}
theorem rec_ofV {c P : Addr} {rd : Option Addr} {rv : Array Value} {rs : Array (Option Value)} (l : K.lookup c = some ⟨.type "code", rd, .fields rv, rs⟩) (h : recV rv = some P) : recK K (.ref c) P := by
  refine rec_of (P := P) ?_
  unfold recC
  simp only [l]
  exact h
theorem tab_none {nm : Str} {f c P : Addr} {oc : Value} {od : Option Addr} {sl : Array (Option Value)} {rd : Option Addr} {rv : Array Value} {rs : Array (Option Value)} {kV doc pm ct : Value} {an : Option Addr} {x qn : Str} {da : _} {db : _} {dsc : _}
    (a : mg nm = some (.ref f)) (l : K.lookup f = some ⟨oc, od, .func (PySem.W.fnOf x qn da db dsc .none kV doc pm an (.ref c) ct), sl⟩) (r : K.lookup c = some ⟨.type "code", rd, .fields rv, rs⟩) (p : recV rv = some P) (t : (K.lookup P).isNone = true)
    {f' b : Addr} {oc' : Value} {od' : Option Addr} {fd' : FuncData} {sl' : Array (Option Value)} (e1 : mg nm = some (.ref f')) (e2 : K.lookup f' = some ⟨oc', od', .func fd', sl'⟩) (e3 : recK K fd'.code b) : K.lookup b = none := by
  rw [a] at e1
  cases e1
  rw [l] at e2
  cases e2
  obtain ⟨c', oc2, od2, vs, sl2, h1, h2, h3, _⟩ := e3
  have h1 : (Value.ref c) = .ref c' := h1
  cases h1
  rw [r] at h2
  cases h2
  have : rv.getD 11 .none = Value.ref P := by
    unfold recV at p
    split at p
    · rename_i P' _ _ _ _ _ _ _ h11 _ _ _ _
      cases p
      rw [Array.getD_eq_getD_getElem?, h11]; rfl
    · cases p
  rw [this] at h3
  cases h3
  exact Option.isNone_iff_eq_none.mp t
end
end L2.Q3
end

section
set_option Elab.async false
set_option linter.all false
set_option maxRecDepth 100000
set_option maxHeartbeats 4000000
namespace L2.Q3
open PySem PySem.Spec PyProof.Rows

def GTurn1 (con : Con) (fg : Fg) (ft : Ft) (fe : Fe) (vs : List Nat) (x : D) (acc : List D) (ρ : Rho) (K : List D → Rho → Prop) (S : List D → Rho → Prop) : Prop :=
  oS (fg x (wipeR ρ vs)) fun ρ1 => oS (ft ρ1) fun p => if p.1 = true then oS (fe p.2) fun q => oS (esc1 q.2 q.1) fun z => oS (con z.1 acc) fun o => match o with | some acc' => K acc' z.2 | none => S acc z.2 else K acc p.2
section
variable {con : Con} {fg fg1 : Fg} {ft ft1 : Ft} {fi fi1 : Fi} {fe : Fe} {vs vs1 : List Nat} {out : Bool → List D → W} {ρ : Rho} {Q : W × Rho → Prop}
theorem genL_inv {Inv : List D → List D → Rho → Prop} {R : Bool × List D × Rho → Prop} (hd : ∀ acc ρ, Inv [] acc ρ → R (true, acc, ρ)) (hs : ∀ x xs acc ρ, Inv (x :: xs) acc ρ → GTurn1 con fg ft fe vs x acc ρ (Inv xs) fun acc ρ => R (false, acc, ρ)) :
    ∀ (items acc : List D) (ρ : Rho), Inv items acc ρ → oS (genL con fg ft fe vs items ρ acc) R
  | [], acc, ρ, h => ⟨_, rfl, hd _ _ h⟩
  | x :: xs, acc, ρ, h => by
    unfold genL
    simp only [oS_bind]
    refine oS_mono (hs x xs acc ρ h) fun ρ1 h => oS_mono h fun p h => ?_
    obtain ⟨b, ρ2⟩ := p
    cases b with
    | true =>
      simp only [if_true, oS_bind] at h ⊢
      refine oS_mono h fun q h => oS_mono h fun z h => oS_mono h fun o h => ?_
      cases o with
      | some acc' => exact genL_inv hd hs xs _ _ h
      | none => exact oS_some.mpr h
    | false => exact genL_inv hd hs xs acc ρ2 h
theorem gen2L_inv {Inv : List D → List D → Rho → Prop} {R : Bool × List D × Rho → Prop} (hd : ∀ acc ρ, Inv [] acc ρ → R (true, acc, ρ))
    (hs : ∀ x xs acc ρ, Inv (x :: xs) acc ρ → oS (fg x (wipeR ρ vs)) fun ρ1 => oS (ft ρ1) fun p => if p.1 = true then oS (fi1 p.2) fun q => ∃ Inv1 : List D → List D → Rho → Prop, Inv1 q.1 acc q.2 ∧ (∀ acc ρ, Inv1 [] acc ρ → Inv xs acc ρ) ∧
      ∀ y ys acc ρ, Inv1 (y :: ys) acc ρ → GTurn1 con fg1 ft1 fe vs1 y acc ρ (Inv1 ys) fun acc ρ => R (false, acc, ρ) else Inv xs acc p.2) :
    ∀ (items acc : List D) (ρ : Rho), Inv items acc ρ → oS (gen2L con fg ft fi1 fg1 ft1 fe vs vs1 items ρ acc) R
  | [], acc, ρ, h => ⟨_, rfl, hd _ _ h⟩
  | x :: xs, acc, ρ, h => by
    unfold gen2L
    simp only [oS_bind]
    refine oS_mono (hs x xs acc ρ h) fun ρ1 h => oS_mono h fun p h => ?_
    obtain ⟨b, ρ2⟩ := p
    cases b with
    | true =>
      simp only [if_true, oS_bind] at h ⊢
      refine oS_mono h fun q ⟨Inv1, h0, hd1, hs1⟩ => ?_
      refine oS_mono (genL_inv (R := fun r => if r.1 = true then Inv xs r.2.1 r.2.2 else R (false, r.2.1, r.2.2)) (fun acc ρ z => by simpa using hd1 acc ρ z) (fun y ys acc ρ z => by simpa using hs1 y ys acc ρ z) q.1 acc q.2 h0) fun r hr => ?_
      obtain ⟨b, acc', ρ'⟩ := r
      cases b with
      | true => simpa using gen2L_inv hd hs xs acc' ρ' (by simpa using hr)
      | false => exact oS_some.mpr (by simpa using hr)
    | false => exact gen2L_inv hd hs xs acc ρ2 h
theorem oS_g1 (h : oS (fi ρ) fun p => ∃ Inv : List D → List D → Rho → Prop, Inv p.1 [] p.2 ∧ (∀ acc ρ, Inv [] acc ρ → Q (out true acc, restR p.2 ρ vs)) ∧ ∀ x xs acc ρ, Inv (x :: xs) acc ρ → GTurn1 con fg ft fe vs x acc ρ (Inv xs) fun acc ρ => Q (out false acc, restR p.2 ρ vs)) :
    oS (feG1 con out fi fg ft fe vs ρ) Q := by
  unfold feG1
  simp only [oS_bind]
  refine oS_mono h fun p ⟨Inv, h0, hd, hs⟩ => ?_
  simp only [oS_some]
  exact genL_inv (R := fun r => Q (out r.1 r.2.1, restR p.2 r.2.2 vs)) hd hs p.1 [] p.2 h0
theorem oS_g2 (h : oS (fi ρ) fun p => ∃ Inv : List D → List D → Rho → Prop, Inv p.1 [] p.2 ∧ (∀ acc ρ, Inv [] acc ρ → Q (out true acc, restR p.2 ρ vs)) ∧
    ∀ x xs acc ρ, Inv (x :: xs) acc ρ → oS (fg x (wipeR ρ vs)) fun ρ1 => oS (ft ρ1) fun z => if z.1 = true then oS (fi1 z.2) fun q => ∃ Inv1 : List D → List D → Rho → Prop, Inv1 q.1 acc q.2 ∧ (∀ acc ρ, Inv1 [] acc ρ → Inv xs acc ρ) ∧
      ∀ y ys acc ρ, Inv1 (y :: ys) acc ρ → GTurn1 con fg1 ft1 fe vs1 y acc ρ (Inv1 ys) fun acc ρ => Q (out false acc, restR p.2 ρ vs) else Inv xs acc z.2) :
    oS (feG2 con out fi fg ft fi1 fg1 ft1 fe vs vs1 ρ) Q := by
  unfold feG2
  simp only [oS_bind]
  refine oS_mono h fun p ⟨Inv, h0, hd, hs⟩ => ?_
  simp only [oS_some]
  exact gen2L_inv (R := fun r => Q (out r.1 r.2.1, restR p.2 r.2.2 vs)) hd hs p.1 [] p.2 h0
theorem c_app {y : D} {acc : List D} {Q : Option (List D) → Prop} : oS (conApp y acc) Q ↔ acc.length < 16777216 ∧ Q (some (acc ++ [y])) := by
  unfold conApp
  rw [oS_ite_none, oS_some]
theorem c_stop {go b : Bool} {acc : List D} {Q : Option (List D) → Prop} : oS (conStop go (.bool b) acc) Q ↔ Q (if b = go then some acc else none) := by
  show oS (if b = go then some (some acc) else some none) Q ↔ _
  by_cases h : b = go
  · rw [if_pos h, if_pos h, oS_some]
  · rw [if_neg h, if_neg h, oS_some]
theorem o_R3 {f : Fa} {Q : List D × Rho → Prop} : oS (fiR3 f ρ) Q ↔ oS (f ρ) fun p => oS (rdAll p.2 p.1) fun xs => oS (match xs with
  | [.int i, .int j, .int c] => if c = -1 ∧ (-(2 ^ 62) ≤ i ∧ i < 2 ^ 62 ∧ -(2 ^ 62) ≤ j ∧ j < 2 ^ 62) then some (downD i (i - j).toNat, p.2) else none
  | _ => none) Q := by unfold fiR3; simp only [oS_bind] <;> exact Iff.rfl
end
end L2.Q3
end

section
set_option Elab.async false
set_option linter.all false
set_option maxRecDepth 100000
set_option maxHeartbeats 4000000
namespace L2.Q3.Tx
open PySem PySem.Spec PyProof.Rows L2
local macro_rules | `(tactic| walk_at "mir") => `(tactic| simp (config := { decide := true, maxSteps := 2000000 }) only [↓o_seq, ↓o_if, ↓o_nx, ↓o_set, ↓o_ret, ↓o_drop, ↓o_store, ↓o_C, ↓o_var, ↓o_atom, ↓o_nil, ↓o_cons, ↓o_tB, ↓o_tV, ↓o_tNot, ↓o_tAnd, ↓o_tOr, ↓o_tY, ↓o_and, ↓o_or, ↓o_not, ↓o_ifE, ↓o_chain, ↓o_tup, ↓o_lst, ↓o_call, ↓o_isi, ↓o_foN, ↓o_foS, ↓o_sl, ↓o_meth, ↓o_sm, ↓o_dict1, ↓o_rev, ↓o_iseq, ↓o_R1, ↓o_enum, ↓o_zip,
  o_seq, o_if, o_nx, o_set, o_ret, o_drop, o_store, o_C, o_var, o_atom, o_nil, o_cons, o_tB, o_tV, o_tNot, o_tAnd, o_tOr, o_tY, o_and, o_or, o_not, o_ifE, o_chain, o_tup, o_lst, o_call, o_isi, o_foN, o_foS, o_sl, o_meth, o_sm, o_dict1, o_rev, o_iseq, o_R1, o_enum, o_zip,
  ↓oS_bind, ↓oS_some, ↓oS_none, ↓oS_ite_none, ↓oS_iteb, oS_bind, oS_some, oS_none, oS_ite_none, oS_iteb, g_mod, g_div, g_mul, g_sub, g_add, g_addT, g_addL, g_addS, g_cmp, g_eqI, g_neI, g_ixL, g_ixT, g_ixC, atI_lit0, atI_lit1, atI_lit2, atI_lit3,
  gN, gT, gsNil, gsCons, rdAll, rdW, rdSlot, escAll, esc1, argsOf, arg1, slots, put1, putBack, setW, outW, finOf, frAt, tru, itemsOf, gLen, gInt, gNeg,
  List.getElem?_cons_zero, List.getElem?_cons_succ, List.set_cons_zero, List.set_cons_succ, List.length_cons, List.length_nil, List.take_succ_cons, List.take_zero, List.map_cons, List.map_nil, Option.getD_some, Option.isSome_some, Option.bind_some, Bool.true_and, Bool.and_true, Bool.not_true, Bool.not_false, if_true, if_false, ite_true, ite_false, reduceCtorEq, true_and, and_true, List.nodup_cons, List.not_mem_nil, not_false_eq_true, List.nodup_nil, List.mem_singleton, List.mem_cons, Nat.reduceAdd, Nat.zero_add, Nat.reduceLeDiff, Nat.reduceEqDiff, Nat.reduceLT, Int.reduceNeg, Bool.false_eq_true])

theorem ix40 : ixN 4 0 = some 0 := rfl
theorem ix42 : ixN 4 2 = some 2 := rfl
def IsPen (p : List D) : Prop := ∃ a b c d : Int, p = [.int a, .int b, .int c, .int d] ∧ 0 ≤ d ∧ d < 1000000007
theorem wp_draw {p : List D} {n : Int} (hp : IsPen p) (hn : 0 < n) (hn2 : n < 1073741824) {Q : W × List W → Prop} (h : ∀ r p', IsPen p' → 0 ≤ r → r < n → Q (.d (.int r), [.fr p', .d (.int n)])) : oS (F__law_draw [.fr p, .d (.int n)]) Q := by
  obtain ⟨a, b, c, d, rfl, h0, h1⟩ := hp
  refine fn_wp rfl rfl ?_
  show oS (D__law_draw [some (.fr [.int a, .int b, .int c, .int d]), some (.d (.int n)), none, none]) _
  unfold D__law_draw
  walk_at "mir"
  simp only [ix40, ix42]
  walk_at "mir"
  have pen : ∀ x y z : Int, IsPen [.int x, .int y, .int z, .int d] := fun x y z => ⟨x, y, z, d, rfl, h0, h1⟩
  have m : ∀ x : Int, 0 ≤ x % n ∧ x % n < n := fun x => ⟨Int.emod_nonneg _ (by omega), Int.emod_lt_of_pos _ hn⟩
  have m2 : ∀ x : Int, -2 ^ 64 < x % 2147483647 ∧ x % 2147483647 < 2 ^ 64 := fun x => by
    have a1 := Int.emod_nonneg x (show (2147483647 : Int) ≠ 0 by decide)
    have a2 := Int.emod_lt_of_pos x (show (0 : Int) < 2147483647 by decide)
    constructor <;> omega
  split
  · split
    · exact ⟨hn, ⟨hn, hn2⟩, h _ _ (pen _ _ _) (m _).1 (m _).2⟩
    · exact ⟨.inl trivial, .inl ⟨by omega, by omega⟩, .inl (m2 _), .inl trivial, .inr trivial, hn, h _ _ (pen _ _ _) (m _).1 (m _).2⟩
  · exact ⟨.inl trivial, .inl ⟨by omega, by omega⟩, .inl (m2 _), .inl trivial, .inr trivial, hn, h _ _ (pen _ _ _) (m _).1 (m _).2⟩
theorem wp_cell {ns : List Int} {k : Int} (hk : 0 ≤ k) {Q : W × List W → Prop} (h : ∀ x, Q (.d (.int x), [scrD ns, .d (.int k)])) : oS (F__law_cell_at [scrD ns, .d (.int k)]) Q := by
  refine fn_wp rfl rfl ?_
  show oS (D__law_cell_at [some (scrD ns), some (.d (.int k))]) _
  unfold D__law_cell_at scrD
  walk_at "mir"
  split
  · rename_i hl
    refine oS_atI hk (by simpa using hl) fun x hx _ => ?_
    obtain ⟨y, _, rfl⟩ := List.mem_map.mp hx
    exact h y
  · exact h 0
theorem pow18 : gPow [.int 10, .int 18] = some (.d (.int 1000000000000000000)) := rfl
theorem wp_pen {x : Int} {Q : W × List W → Prop} (h : ∀ p, IsPen p → Q (.fr p, [.d (.int x)])) : oS (F__law_pen [.d (.int x)]) Q := by
  refine fn_wp rfl rfl ?_
  show oS (D__law_pen [some (.d (.int x))]) _
  unfold D__law_pen
  walk_at "mir"
  simp only [pow18]
  walk_at "mir"
  exact h _ ⟨_, _, _, _, rfl, Int.emod_nonneg _ (by decide), Int.emod_lt_of_pos _ (by decide)⟩

def NS (x : D) : Prop := ∀ ys, x ≠ .dict [(.none, .list ys)]
def Good (x : D) : Prop := NS x ∧ ∀ xs, x = .tuple xs → ∀ y ∈ xs, NS y
theorem isi_ns {x : D} (h : NS x) (n : String) : gIsi n x = some (isOf (kindD x) n) := by
  unfold gIsi
  split
  · rename_i ys; exact absurd rfl (h ys)
  · rfl
def wholeB (x : D) (a b : Int) : Bool := match x with
  | .int i => decide (a ≤ i) && decide (i ≤ b)
  | _ => false
def numB (x : D) : Bool := match x with
  | .int _ => true
  | _ => false
theorem wp_number {x : D} (hx : NS x) {Q : W × List W → Prop} (h : Q (.d (.bool (numB x)), [.d x])) : oS (F_is_number [.d x]) Q := by
  refine fn_wp rfl rfl ?_
  show oS (D_is_number [some (.d x)]) _
  unfold D_is_number
  walk_at "mir"
  simp only [isi_ns hx]
  walk_at "mir"
  cases x with
  | int i =>
    have e1 : isOf (kindD (.int i)) "int" = true := rfl
    have e2 : isOf (kindD (.int i)) "bool" = false := rfl
    simp only [e1, e2]; walk_at "mir"; exact h
  | bool k =>
    have e1 : isOf (kindD (.bool k)) "int" = true := rfl
    have e2 : isOf (kindD (.bool k)) "bool" = true := rfl
    simp only [e1, e2]; walk_at "mir"; exact h
  | none =>
    have e1 : isOf (kindD .none) "int" = false := rfl
    simp only [e1]; walk_at "mir"; exact h
  | str y =>
    have e1 : isOf (kindD (.str y)) "int" = false := rfl
    simp only [e1]; walk_at "mir"; exact h
  | list y =>
    have e1 : isOf (kindD (.list y)) "int" = false := rfl
    simp only [e1]; walk_at "mir"; exact h
  | tuple y =>
    have e1 : isOf (kindD (.tuple y)) "int" = false := rfl
    simp only [e1]; walk_at "mir"; exact h
  | dict y =>
    have e1 : isOf (kindD (.dict y)) "int" = false := rfl
    simp only [e1]; walk_at "mir"; exact h
theorem wp_whole {x : D} {a b : Int} (hx : NS x) {Q : W × List W → Prop} (h : Q (.d (.bool (wholeB x a b)), [.d x, .d (.int a), .d (.int b)])) : oS (F_is_whole [.d x, .d (.int a), .d (.int b)]) Q := by
  refine fn_wp rfl rfl ?_
  show oS (D_is_whole [some (.d x), some (.d (.int a)), some (.d (.int b))]) _
  unfold D_is_whole
  walk_at "mir"
  refine wp_number hx ?_
  walk_at "mir"
  cases x with
  | int i =>
    simp only [numB]
    walk_at "mir"
    unfold wholeB at h
    cases hc : pLe a i with
    | true =>
      walk_at "mir"
      have : decide (a ≤ i) = true := hc
      simp only [this, Bool.true_and] at h
      exact h
    | false =>
      walk_at "mir"
      have : decide (a ≤ i) = false := hc
      simp only [this, Bool.false_and] at h
      exact h
  | _ => simp only [numB]; walk_at "mir"; exact h
def tupB (x : D) (a b : Int) : Bool := match x with
  | .tuple xs => decide (a ≤ xs.length) && decide ((xs.length : Int) ≤ b)
  | _ => false
theorem wp_tuple {x : D} {a b : Int} (hx : NS x) {Q : W × List W → Prop} (h : Q (.d (.bool (tupB x a b)), [.d x, .d (.int a), .d (.int b)])) : oS (F_is_tuple_of [.d x, .d (.int a), .d (.int b)]) Q := by
  refine fn_wp rfl rfl ?_
  show oS (D_is_tuple_of [some (.d x), some (.d (.int a)), some (.d (.int b))]) _
  unfold D_is_tuple_of
  walk_at "mir"
  simp only [isi_ns hx]
  walk_at "mir"
  cases x with
  | tuple y =>
    have e1 : isOf (kindD (.tuple y)) "tuple" = true := rfl
    simp only [e1]; walk_at "mir"
    unfold tupB at h
    cases hc : pLe a (y.length : Int) with
    | true =>
      walk_at "mir"
      have : decide (a ≤ (y.length : Int)) = true := hc
      simp only [this, Bool.true_and] at h
      exact h
    | false =>
      walk_at "mir"
      have : decide (a ≤ (y.length : Int)) = false := hc
      simp only [this, Bool.false_and] at h
      exact h
  | int i =>
    have e1 : isOf (kindD (.int i)) "tuple" = false := rfl
    simp only [e1]; walk_at "mir"; exact h
  | bool k =>
    have e1 : isOf (kindD (.bool k)) "tuple" = false := rfl
    simp only [e1]; walk_at "mir"; exact h
  | none =>
    have e1 : isOf (kindD .none) "tuple" = false := rfl
    simp only [e1]; walk_at "mir"; exact h
  | str y =>
    have e1 : isOf (kindD (.str y)) "tuple" = false := rfl
    simp only [e1]; walk_at "mir"; exact h
  | list y =>
    have e1 : isOf (kindD (.list y)) "tuple" = false := rfl
    simp only [e1]; walk_at "mir"; exact h
  | dict y =>
    have e1 : isOf (kindD (.dict y)) "tuple" = false := rfl
    simp only [e1]; walk_at "mir"; exact h
end L2.Q3.Tx
end

section
set_option Elab.async false
set_option linter.all false
set_option maxRecDepth 100000
set_option maxHeartbeats 4000000
namespace L2.Q3.Tx
open PySem PySem.Spec PyProof.Rows L2
local macro_rules | `(tactic| walk_at "mir") => `(tactic| simp (config := { decide := true, maxSteps := 2000000 }) only [↓o_seq, ↓o_if, ↓o_nx, ↓o_set, ↓o_ret, ↓o_drop, ↓o_store, ↓o_C, ↓o_var, ↓o_atom, ↓o_nil, ↓o_cons, ↓o_tB, ↓o_tV, ↓o_tNot, ↓o_tAnd, ↓o_tOr, ↓o_tY, ↓o_and, ↓o_or, ↓o_not, ↓o_ifE, ↓o_chain, ↓o_tup, ↓o_lst, ↓o_call, ↓o_isi, ↓o_foN, ↓o_foS, ↓o_sl, ↓o_meth, ↓o_sm, ↓o_dict1, ↓o_rev, ↓o_iseq, ↓o_R1, ↓o_enum, ↓o_zip,
  o_seq, o_if, o_nx, o_set, o_ret, o_drop, o_store, o_C, o_var, o_atom, o_nil, o_cons, o_tB, o_tV, o_tNot, o_tAnd, o_tOr, o_tY, o_and, o_or, o_not, o_ifE, o_chain, o_tup, o_lst, o_call, o_isi, o_foN, o_foS, o_sl, o_meth, o_sm, o_dict1, o_rev, o_iseq, o_R1, o_enum, o_zip,
  ↓oS_bind, ↓oS_some, ↓oS_none, ↓oS_ite_none, ↓oS_iteb, oS_bind, oS_some, oS_none, oS_ite_none, oS_iteb, g_mod, g_div, g_mul, g_sub, g_add, g_addT, g_addL, g_addS, g_cmp, g_eqI, g_neI, g_ixL, g_ixT, g_ixC, atI_lit0, atI_lit1, atI_lit2, atI_lit3,
  gN, gT, gsNil, gsCons, rdAll, rdW, rdSlot, escAll, esc1, argsOf, arg1, slots, put1, putBack, setW, outW, finOf, frAt, tru, itemsOf, gLen, gInt, gNeg,
  List.getElem?_cons_zero, List.getElem?_cons_succ, List.set_cons_zero, List.set_cons_succ, List.length_cons, List.length_nil, List.take_succ_cons, List.take_zero, List.map_cons, List.map_nil, Option.getD_some, Option.isSome_some, Option.bind_some, Bool.true_and, Bool.and_true, Bool.not_true, Bool.not_false, if_true, if_false, ite_true, ite_false, reduceCtorEq, true_and, and_true, List.nodup_cons, List.not_mem_nil, not_false_eq_true, List.nodup_nil, List.mem_singleton, List.mem_cons, Nat.reduceAdd, Nat.zero_add, Nat.reduceLeDiff, Nat.reduceEqDiff, Nat.reduceLT, Int.reduceNeg, Bool.false_eq_true])

def spotB (ts : List Int) (x : D) : Bool := match x with
  | .tuple [] => true
  | .tuple [a] => wholeB a 0 ((ts.length : Int) - 1)
  | .tuple [.int e, b] => wholeB (.int e) 0 ((ts.length : Int) - 1) && wholeB b 0 (ts.getD e.toNat 0 - 1)
  | _ => false
theorem wp_spot_of {ts : List Int} {x : D} (hx : Good x) {Q : W × List W → Prop} (h : Q (.d (.bool (spotB ts x)), [.d (.tuple (ts.map .int)), .d x])) : oS (F_is_spot_of [.d (.tuple (ts.map .int)), .d x]) Q := by
  refine fn_wp rfl rfl ?_
  show oS (D_is_spot_of [some (.d (.tuple (ts.map .int))), some (.d x), none]) _
  unfold D_is_spot_of
  walk_at "mir"
  refine wp_tuple hx.1 ?_
  walk_at "mir"
  have no : tupB x 0 2 = false → spotB ts x = false := by
    intro e
    unfold tupB at e
    unfold spotB
    split <;> first | rfl | (simp at e; done) | skip
  cases e : tupB x 0 2 with
  | false => walk_at "mir"; rw [no e] at h; exact h
  | true =>
    walk_at "mir"
    cases x with
    | tuple xs =>
      obtain ⟨n1, n2⟩ := hx
      have n3 := n2 xs rfl
      walk_at "mir"
      match xs, n3, e, h with
      | [], _, _, h =>
        have e0 : ((((([] : List D).length : Nat) : Int)) == 0) = true := rfl
        simp only [List.length_nil] at *
        walk_at "mir"
        exact h
      | [a], n3, _, h =>
        walk_at "mir"
        refine wp_whole (n3 a (by simp)) ?_
        walk_at "mir"
        have eL : (((ts.map PyData.int).length : Nat) : Int) = (ts.length : Int) := by simp
        unfold spotB at h
        simp only [List.length_map] at *
        cases hw : wholeB a 0 ((ts.length : Int) - 1) with
        | false => walk_at "mir"; rw [hw] at h; exact h
        | true => walk_at "mir"; rw [hw] at h; exact h
      | [a, b], n3, _, h =>
        walk_at "mir"
        refine wp_whole (n3 a (by simp)) ?_
        walk_at "mir"
        simp only [List.length_map] at *
        cases hw : wholeB a 0 ((ts.length : Int) - 1) with
        | false =>
          walk_at "mir"
          have : spotB ts (.tuple [a, b]) = false := by
            cases a with
            | int i =>
              show (wholeB (.int i) 0 ((ts.length : Int) - 1) && _) = false
              rw [hw]; rfl
            | _ => rfl
          rw [this] at h; exact h
        | true =>
          walk_at "mir"
          cases a with
          | int i =>
            have hi : 0 ≤ i ∧ i ≤ (ts.length : Int) - 1 := by simpa [wholeB] using hw
            walk_at "mir"
            refine oS_atI hi.1 (by simp; omega) fun y _ hy => ?_
            have hy' : y = .int (ts.getD i.toNat 0) := by
              rw [List.getElem?_map] at hy
              rw [List.getD_eq_getElem?_getD]
              cases hz : ts[i.toNat]? with
              | none => rw [hz] at hy; cases hy
              | some z => rw [hz] at hy; simpa using hy.symm
            subst hy'
            walk_at "mir"
            refine wp_whole (n3 b (by simp)) ?_
            walk_at "mir"
            have e5 : spotB ts (.tuple [.int i, b]) = wholeB b 0 (ts.getD i.toNat 0 - 1) := by
              show (wholeB (.int i) 0 ((ts.length : Int) - 1) && _) = _
              rw [hw]; rfl
            rw [e5] at h
            exact h
          | _ => cases hw
      | _ :: _ :: _ :: _, _, e, _ =>
        simp [tupB] at e
        omega
    | _ => cases e
theorem wp_spot {ts : List Int} {x r1 r2 : D} (hx : Good x) {Q : W × List W → Prop} (h : Q (.d (.bool (spotB ts x)), [.d (.tuple [.tuple (ts.map .int), r1, r2]), .d x])) : oS (F_is_spot [.d (.tuple [.tuple (ts.map .int), r1, r2]), .d x]) Q := by
  refine fn_wp rfl rfl ?_
  show oS (D_is_spot [some (.d (.tuple [.tuple (ts.map .int), r1, r2])), some (.d x)]) _
  unfold D_is_spot
  walk_at "mir"
  refine wp_spot_of hx ?_
  walk_at "mir"
  exact h
end L2.Q3.Tx
end

section
set_option Elab.async false
set_option linter.all false
set_option maxRecDepth 100000
set_option maxHeartbeats 4000000
namespace L2.Q3.Tx
open PySem PySem.Spec PyProof.Rows L2
local macro_rules | `(tactic| walk_at "mir2") => `(tactic| simp (config := { decide := true, maxSteps := 2000000 }) only [Turn1, wipeR, restR, ↓o_seq, ↓o_if, ↓o_nx, ↓o_set, ↓o_ret, ↓o_drop, ↓o_store, ↓o_C, ↓o_var, ↓o_atom, ↓o_nil, ↓o_cons, ↓o_tB, ↓o_tV, ↓o_tNot, ↓o_tAnd, ↓o_tOr, ↓o_tY, ↓o_and, ↓o_or, ↓o_not, ↓o_ifE, ↓o_chain, ↓o_tup, ↓o_lst, ↓o_call, ↓o_isi, ↓o_foN, ↓o_foS, ↓o_sl, ↓o_meth, ↓o_sm, ↓o_dict1, ↓o_rev, ↓o_iseq, ↓o_R1, ↓o_enum, ↓o_zip,
  o_seq, o_if, o_nx, o_set, o_ret, o_drop, o_store, o_C, o_var, o_atom, o_nil, o_cons, o_tB, o_tV, o_tNot, o_tAnd, o_tOr, o_tY, o_and, o_or, o_not, o_ifE, o_chain, o_tup, o_lst, o_call, o_isi, o_foN, o_foS, o_sl, o_meth, o_sm, o_dict1, o_rev, o_iseq, o_R1, o_enum, o_zip,
  ↓oS_bind, ↓oS_some, ↓oS_none, ↓oS_ite_none, ↓oS_iteb, oS_bind, oS_some, oS_none, oS_ite_none, oS_iteb, g_mod, g_div, g_mul, g_sub, g_add, g_addT, g_addL, g_addS, g_cmp, g_eqI, g_neI, g_ixL, g_ixT, g_ixC, atI_lit0, atI_lit1, atI_lit2, atI_lit3,
  gN, gT, gsNil, gsCons, rdAll, rdW, rdSlot, escAll, esc1, argsOf, arg1, slots, put1, putBack, setW, outW, finOf, frAt, tru, itemsOf, gLen, gInt, gNeg,
  List.getElem?_cons_zero, List.getElem?_cons_succ, List.set_cons_zero, List.set_cons_succ, List.length_cons, List.length_nil, List.take_succ_cons, List.take_zero, List.map_cons, List.map_nil, Option.getD_some, Option.getD_none, Option.isSome_some, Option.isNone_none, Option.isNone_some, Option.bind_some, Option.bind_none, Bool.true_and, Bool.and_true, Bool.not_true, Bool.not_false, if_true, if_false, ite_true, ite_false, reduceCtorEq, true_and, and_true, List.nodup_cons, List.not_mem_nil, not_false_eq_true, List.nodup_nil, List.mem_singleton, List.mem_cons, Nat.reduceAdd, Nat.zero_add, Nat.reduceLeDiff, Nat.reduceEqDiff, Nat.reduceLT, Int.reduceNeg, Bool.false_eq_true, List.all_cons, List.all_nil, List.append_nil])


def spS (ps : List (Int × Nat)) : List (List Int) := [] :: ps.flatMap fun p => [(p.2 : Int)] :: (List.range p.1.toNat).map fun (t : Nat) => [(p.2 : Int), (t : Int)]
def tupD (s : List Int) : D := .tuple (s.map .int)
def spotsD (ts : List Int) : List D := (spS ts.zipIdx).map tupD
theorem spS_snoc (ps : List (Int × Nat)) (p : Int × Nat) : spS (ps ++ [p]) = spS ps ++ ([(p.2 : Int)] :: (List.range p.1.toNat).map fun (t : Nat) => [(p.2 : Int), (t : Int)]) := by
  unfold spS
  rw [List.flatMap_append]; simp
theorem spS_len (ps : List (Int × Nat)) (h : ∀ p ∈ ps, p.1 ≤ 3) : (spS ps).length ≤ 1 + 4 * ps.length := by
  unfold spS
  induction ps with
  | nil => simp
  | cons p ps ih =>
    have h1 := ih fun q hq => h q (List.mem_cons_of_mem _ hq)
    have h2 := h p List.mem_cons_self
    simp only [List.flatMap_cons, List.length_cons, List.length_append, List.length_map, List.length_range] at h1 ⊢
    omega
theorem range_ints {n : Nat} {x : D} (h : x ∈ rangeD 0 n) : ∃ t : Nat, x = .int (t : Int) ∧ t < n := by
  unfold rangeD at h
  obtain ⟨i, hi, rfl⟩ := List.mem_map.mp h
  exact ⟨i, by simp, List.mem_range.mp hi⟩
theorem wp_spots {ts : List Int} (hl : ts.length ≤ 3) (hm : ∀ m ∈ ts, 0 ≤ m ∧ m ≤ 3) {Q : W × List W → Prop} (h : Q (.fr (spotsD ts), [.d (.tuple (ts.map .int))])) : oS (F__law_spots [.d (.tuple (ts.map .int))]) Q := by
  refine fn_wp rfl rfl ?_
  show oS (D__law_spots [some (.d (.tuple (ts.map .int))), none, none, none, none]) _
  unfold D__law_spots
  walk_at "mir2"
  refine oS_for ?_
  walk_at "mir2"
  refine ⟨fun items ρ => ∃ done rest o2 o3, ts.zipIdx = done ++ rest ∧ items = rest.map (fun p => .tuple [.int ((p.2 : Nat) : Int), .int p.1]) ∧ ρ = [some (.d (.tuple (ts.map .int))), some (.fr ((spS done).map tupD)), o2, o3, none], ⟨[], ts.zipIdx, none, none, rfl, ?_, rfl⟩, ?_, ?_⟩
  · unfold enumD
    rw [List.zipIdx_map, List.map_map]
    rfl
  · rintro ρ ⟨done, rest, o2, o3, e1, e2, rfl⟩
    have e3 : rest = [] := by simpa using e2.symm
    subst e3
    walk_at "mir2"
    have e4 : done = ts.zipIdx := by simpa using e1.symm
    subst e4
    exact h
  · rintro x xs ρ ⟨done, rest, o2, o3, e1, e2, rfl⟩
    cases rest with
    | nil => cases e2
    | cons p rest =>
      obtain ⟨m, ev⟩ := p
      rw [List.map_cons] at e2
      cases e2
      have hmem : (m, ev) ∈ ts.zipIdx := by rw [e1]; simp
      have hm' : 0 ≤ m ∧ m ≤ 3 := hm m (List.fst_mem_of_mem_zipIdx hmem)
      have hall : ∀ p ∈ ts.zipIdx, p.1 ≤ 3 := fun p hp => (hm p.1 (List.fst_mem_of_mem_zipIdx hp)).2
      have hlen := spS_len done fun q hq => hall q (by rw [e1]; simp [hq])
      have hdl : done.length ≤ 3 := by
        have := congrArg List.length e1
        simp at this
        omega
      walk_at "mir2"
      refine ⟨by rw [List.length_map]; omega, ?_⟩
      refine oS_comp ?_
      walk_at "mir2"
      refine ⟨⟨by omega, by omega⟩, ?_⟩
      refine ⟨fun items acc ρ => ∃ o4, acc ++ items.map (fun y => match y with | .int t => tupD [(ev : Int), t] | _ => .none) = (List.range m.toNat).map (fun (t : Nat) => tupD [(ev : Int), (t : Int)]) ∧ (∀ x ∈ items, ∃ t : Int, x = .int t) ∧
          ρ = [some (.d (.tuple (ts.map .int))), some (.fr ((spS done).map tupD)), some (.d (.int ev)), some (.d (.int m)), o4], ⟨none, ?_, fun x hx => ?_, rfl⟩, ?_, ?_⟩
      · unfold rangeD
        rw [List.nil_append, List.map_map]
        refine List.map_congr_left fun t _ => ?_
        simp
      · obtain ⟨t, rfl, _⟩ := range_ints hx
        exact ⟨_, rfl⟩
      · rintro acc ρ ⟨o4, e3, _, rfl⟩
        walk_at "mir2"
        rw [List.map_nil, List.append_nil] at e3
        subst e3
        refine ⟨by simp; omega, done ++ [(m, ev)], rest, some (.d (.int ev)), some (.d (.int m)), by rw [e1]; simp, rfl, ?_⟩
        rw [spS_snoc]
        simp [tupD, Function.comp_def]
      · rintro x xs acc ρ ⟨o4, e3, e4, rfl⟩
        obtain ⟨t, rfl⟩ := e4 x List.mem_cons_self
        walk_at "mir2"
        refine ⟨?_, _, ?_, fun y hy => e4 y (List.mem_cons_of_mem _ hy), rfl⟩
        · have := congrArg List.length e3
          simp at this
          omega
        · rw [← e3]
          simp [tupD]
end L2.Q3.Tx
end

section
set_option Elab.async false
set_option linter.all false
set_option maxRecDepth 100000
set_option maxHeartbeats 4000000
namespace L2.Q3.Tx
open PySem PySem.Spec PyProof.Rows L2
theorem mem_spS {ps : List (Int × Nat)} {s : List Int} : s ∈ spS ps ↔ s = [] ∨ ∃ p ∈ ps, s = [(p.2 : Int)] ∨ ∃ t : Nat, t < p.1.toNat ∧ s = [(p.2 : Int), (t : Int)] := by
  unfold spS
  rw [List.mem_cons, List.mem_flatMap]
  refine or_congr Iff.rfl ⟨?_, ?_⟩
  · rintro ⟨p, hp, h⟩
    refine ⟨p, hp, ?_⟩
    rcases List.mem_cons.mp h with h | h
    · exact .inl h
    · obtain ⟨t, ht, rfl⟩ := List.mem_map.mp h
      exact .inr ⟨t, List.mem_range.mp ht, rfl⟩
  · rintro ⟨p, hp, h | ⟨t, ht, rfl⟩⟩
    · exact ⟨p, hp, List.mem_cons.mpr (.inl h)⟩
    · exact ⟨p, hp, List.mem_cons.mpr (.inr (List.mem_map.mpr ⟨t, List.mem_range.mpr ht, rfl⟩))⟩
theorem zip_at {ts : List Int} {m : Int} {e : Nat} : (m, e) ∈ ts.zipIdx ↔ ts[e]? = some m := by
  rw [List.mem_zipIdx_iff_getElem?]
theorem spot_iff (ts : List Int) (hm : ∀ m ∈ ts, 0 ≤ m) (x : D) : spotB ts x = true ↔ ∃ s ∈ spS ts.zipIdx, x = tupD s := by
  constructor
  · intro h
    unfold spotB at h
    split at h
    · exact ⟨[], mem_spS.mpr (.inl rfl), rfl⟩
    · rename_i a
      cases a with
      | int i =>
        have hi : 0 ≤ i ∧ i ≤ (ts.length : Int) - 1 := by simpa [wholeB] using h
        have hl : i.toNat < ts.length := by omega
        have e : ((i.toNat : Nat) : Int) = i := by omega
        refine ⟨[i], mem_spS.mpr (.inr ⟨(ts[i.toNat], i.toNat), zip_at.mpr (List.getElem?_eq_getElem hl), .inl (by simp only [e])⟩), rfl⟩
      | _ => cases h
    · rename_i i b
      rw [Bool.and_eq_true] at h
      obtain ⟨h1, h2⟩ := h
      have hi : 0 ≤ i ∧ i ≤ (ts.length : Int) - 1 := by simpa [wholeB] using h1
      have hl : i.toNat < ts.length := by omega
      have e : ((i.toNat : Nat) : Int) = i := by omega
      cases b with
      | int t =>
        have ht : 0 ≤ t ∧ t ≤ ts.getD i.toNat 0 - 1 := by simpa [wholeB] using h2
        have eg : ts.getD i.toNat 0 = ts[i.toNat] := by rw [List.getD_eq_getElem?_getD, List.getElem?_eq_getElem hl]; rfl
        rw [eg] at ht
        refine ⟨[i, t], mem_spS.mpr (.inr ⟨(ts[i.toNat], i.toNat), zip_at.mpr (List.getElem?_eq_getElem hl), .inr ⟨t.toNat, by show t.toNat < ts[i.toNat].toNat; omega, ?_⟩⟩), rfl⟩
        have e2 : ((t.toNat : Nat) : Int) = t := by omega
        simp only [e, e2]
      | _ => cases h2
    · cases h
  · rintro ⟨s, hs, rfl⟩
    rcases mem_spS.mp hs with rfl | ⟨⟨m, e⟩, hp, rfl | ⟨t, ht, rfl⟩⟩
    · rfl
    · have h1 := zip_at.mp hp
      have h2 : e < ts.length := (List.getElem?_eq_some_iff.mp h1).1
      show wholeB (.int (e : Int)) 0 ((ts.length : Int) - 1) = true
      simp [wholeB]; omega
    · have h1 := zip_at.mp hp
      have h2 : e < ts.length := (List.getElem?_eq_some_iff.mp h1).1
      have hm' : 0 ≤ m := hm m (List.mem_of_getElem? h1)
      show (wholeB (.int (e : Int)) 0 ((ts.length : Int) - 1) && wholeB (.int (t : Int)) 0 (ts.getD ((e : Nat) : Int).toNat 0 - 1)) = true
      have eg : ts.getD ((e : Nat) : Int).toNat 0 = m := by rw [List.getD_eq_getElem?_getD, Int.toNat_natCast, h1]; rfl
      rw [eg]
      have ht' : t < m.toNat := ht
      simp [wholeB]
      omega
end L2.Q3.Tx
end

section
set_option Elab.async false
set_option linter.all false
set_option maxRecDepth 100000
set_option maxHeartbeats 4000000
namespace L2.Q3.Tx
open PySem PySem.Spec PyProof.Rows L2
local macro_rules | `(tactic| walk_at "mir2") => `(tactic| simp (config := { decide := true, maxSteps := 2000000 }) only [Turn1, wipeR, restR, ↓o_seq, ↓o_if, ↓o_nx, ↓o_set, ↓o_ret, ↓o_drop, ↓o_store, ↓o_C, ↓o_var, ↓o_atom, ↓o_nil, ↓o_cons, ↓o_tB, ↓o_tV, ↓o_tNot, ↓o_tAnd, ↓o_tOr, ↓o_tY, ↓o_and, ↓o_or, ↓o_not, ↓o_ifE, ↓o_chain, ↓o_tup, ↓o_lst, ↓o_call, ↓o_isi, ↓o_foN, ↓o_foS, ↓o_sl, ↓o_meth, ↓o_sm, ↓o_dict1, ↓o_rev, ↓o_iseq, ↓o_R1, ↓o_enum, ↓o_zip,
  o_seq, o_if, o_nx, o_set, o_ret, o_drop, o_store, o_C, o_var, o_atom, o_nil, o_cons, o_tB, o_tV, o_tNot, o_tAnd, o_tOr, o_tY, o_and, o_or, o_not, o_ifE, o_chain, o_tup, o_lst, o_call, o_isi, o_foN, o_foS, o_sl, o_meth, o_sm, o_dict1, o_rev, o_iseq, o_R1, o_enum, o_zip,
  ↓oS_bind, ↓oS_some, ↓oS_none, ↓oS_ite_none, ↓oS_iteb, oS_bind, oS_some, oS_none, oS_ite_none, oS_iteb, g_mod, g_div, g_mul, g_sub, g_add, g_addT, g_addL, g_addS, g_cmp, g_eqI, g_neI, g_ixL, g_ixT, g_ixC, atI_lit0, atI_lit1, atI_lit2, atI_lit3,
  gN, gT, gsNil, gsCons, rdAll, rdW, rdSlot, escAll, esc1, argsOf, arg1, slots, put1, putBack, setW, outW, finOf, frAt, tru, itemsOf, gLen, gInt, gNeg,
  List.getElem?_cons_zero, List.getElem?_cons_succ, List.set_cons_zero, List.set_cons_succ, List.length_cons, List.length_nil, List.take_succ_cons, List.take_zero, List.map_cons, List.map_nil, Option.getD_some, Option.getD_none, Option.isSome_some, Option.isNone_none, Option.isNone_some, Option.bind_some, Option.bind_none, Bool.true_and, Bool.and_true, Bool.not_true, Bool.not_false, if_true, if_false, ite_true, ite_false, reduceCtorEq, true_and, and_true, List.nodup_cons, List.not_mem_nil, not_false_eq_true, List.nodup_nil, List.mem_singleton, List.mem_cons, Nat.reduceAdd, Nat.zero_add, Nat.reduceLeDiff, Nat.reduceEqDiff, Nat.reduceLT, Int.reduceNeg, Bool.false_eq_true, List.all_cons, List.all_nil, List.append_nil])
theorem g_tuple {xs : List D} {Q : W → Prop} : oS (gTuple [.list xs]) Q ↔ Q (.d (.tuple xs)) := oS_some
theorem g_lr {n : Int} {Q : W → Prop} : oS (gListRange [.int n]) Q ↔ (n ≤ 16777216 ∧ -16777216 ≤ n) ∧ Q (.fr ((List.range n.toNat).map fun k => .int ((k : Nat) : Int))) := by
  show oS (if _ then _ else none) Q ↔ _
  rw [oS_ite_none, oS_some]
theorem g_min {i j : Int} {Q : W → Prop} : oS (gMin2 [.int i, .int j]) Q ↔ Q (.d (.int (if j < i then j else i))) := oS_some
theorem g_max {i j : Int} {Q : W → Prop} : oS (gMax2 [.int i, .int j]) Q ↔ Q (.d (.int (if j > i then j else i))) := oS_some
theorem rangeD_len {lo : Int} {n : Nat} : (rangeD lo n).length = n := by simp [rangeD]
end L2.Q3.Tx
end

section
set_option Elab.async false
set_option linter.all false
set_option maxRecDepth 100000
set_option maxHeartbeats 4000000
namespace L2.Q3.Tx
open PySem PySem.Spec PyProof.Rows L2
local macro_rules | `(tactic| walk_at "mir2") => `(tactic| simp (config := { decide := true, maxSteps := 2000000 }) only [Turn1, wipeR, restR, ↓o_seq, ↓o_if, ↓o_nx, ↓o_set, ↓o_ret, ↓o_drop, ↓o_store, ↓o_C, ↓o_var, ↓o_atom, ↓o_nil, ↓o_cons, ↓o_tB, ↓o_tV, ↓o_tNot, ↓o_tAnd, ↓o_tOr, ↓o_tY, ↓o_and, ↓o_or, ↓o_not, ↓o_ifE, ↓o_chain, ↓o_tup, ↓o_lst, ↓o_call, ↓o_isi, ↓o_foN, ↓o_foS, ↓o_sl, ↓o_meth, ↓o_sm, ↓o_dict1, ↓o_rev, ↓o_iseq, ↓o_R1, ↓o_enum, ↓o_zip,
  o_seq, o_if, o_nx, o_set, o_ret, o_drop, o_store, o_C, o_var, o_atom, o_nil, o_cons, o_tB, o_tV, o_tNot, o_tAnd, o_tOr, o_tY, o_and, o_or, o_not, o_ifE, o_chain, o_tup, o_lst, o_call, o_isi, o_foN, o_foS, o_sl, o_meth, o_sm, o_dict1, o_rev, o_iseq, o_R1, o_enum, o_zip,
  ↓oS_bind, ↓oS_some, ↓oS_none, ↓oS_ite_none, ↓oS_iteb, oS_bind, oS_some, oS_none, oS_ite_none, oS_iteb, g_mod, g_div, g_mul, g_sub, g_add, g_addT, g_addL, g_addS, g_cmp, g_eqI, g_neI, g_ixL, g_ixT, g_ixC, atI_lit0, atI_lit1, atI_lit2, atI_lit3,
  gN, gT, gsNil, gsCons, rdAll, rdW, rdSlot, escAll, esc1, argsOf, arg1, slots, put1, putBack, setW, outW, finOf, frAt, tru, itemsOf, gLen, gInt, gNeg,
  List.getElem?_cons_zero, List.getElem?_cons_succ, List.set_cons_zero, List.set_cons_succ, List.length_cons, List.length_nil, List.take_succ_cons, List.take_zero, List.map_cons, List.map_nil, Option.getD_some, Option.getD_none, Option.isSome_some, Option.isNone_none, Option.isNone_some, Option.bind_some, Option.bind_none, Bool.true_and, Bool.and_true, Bool.not_true, Bool.not_false, if_true, if_false, ite_true, ite_false, reduceCtorEq, true_and, and_true, List.nodup_cons, List.not_mem_nil, not_false_eq_true, List.nodup_nil, List.mem_singleton, List.mem_cons, Nat.reduceAdd, Nat.zero_add, Nat.reduceLeDiff, Nat.reduceEqDiff, Nat.reduceLT, Int.reduceNeg, Bool.false_eq_true, List.all_cons, List.all_nil, List.append_nil])
theorem strsOf_map : ∀ (ss : List Str), strsOf (ss.map .str) = some ss
  | [] => rfl
  | s :: ss => by
    show (strsOf (ss.map .str)).bind _ = _
    rw [strsOf_map ss]; rfl
theorem g_ixS {z : Str} {i : Int} {Q : W → Prop} : oS (gIx [.str z, .int i]) Q ↔ z.length ≤ 16777216 ∧ oS (atI z.cps.toList i) fun c => Q (.d (.str ⟨#[c]⟩)) := by
  show oS (if _ then _ else none) Q ↔ _
  rw [oS_ite_none, oS_bind]; simp only [oS_some]
theorem m_join {cs : List Str} {Q : D → Prop} (hc : ∀ c ∈ cs, c.length = 1) (hl : cs.length ≤ 8) (h : Q (.str (Txt.join "" cs))) : oS (hJoin (.str "") [.list (cs.map .str)]) Q := by
  show oS ((strsOf (cs.map .str)).bind _) Q
  rw [strsOf_map, Option.bind_some, oS_ite_none, oS_some]
  refine ⟨?_, h⟩
  have e : (cs.map (·.length)).sum = cs.length := by
    clear h hl
    induction cs with
    | nil => rfl
    | cons c cs ih =>
      have := ih fun c hc' => hc c (List.mem_cons_of_mem _ hc')
      have := hc c List.mem_cons_self
      simp only [List.map_cons, List.sum_cons, List.length_cons]
      omega
  have e0 : (("" : Str)).length = 0 := rfl
  rw [e, e0]; omega
theorem g_sset {ss : List Str} {Q : W → Prop} (hl : ss.length < 60) (h : Q (.fr ((sortU ss).map .str))) : oS (gSortSet [.list (ss.map .str)]) Q := by
  show oS ((strsOf (ss.map .str)).bind _) Q
  rw [strsOf_map, Option.bind_some, oS_ite_none, oS_some]
  exact ⟨hl, h⟩
theorem m_append {xs : List D} {y : D} {Q : D × List D → Prop} : oS (hAppend xs [y]) Q ↔ xs.length < 16777216 ∧ Q (.none, xs ++ [y]) := by
  show oS (if _ then _ else none) Q ↔ _
  rw [oS_ite_none, oS_some]
theorem abc_len : (("abcdefghijklmnopqrstuvwxyz" : Str)).cps.toList.length = 26 := by decide +kernel
theorem abc_ok : (("abcdefghijklmnopqrstuvwxyz" : Str)).length ≤ 16777216 := by decide +kernel
theorem wp_words {p : List D} (hp : IsPen p) {Q : W × List W → Prop} (h : ∀ (us : List Str) p', IsPen p' → Q (.d (.tuple (us.map .str)), [.fr p'])) : oS (F__law_words [.fr p]) Q := by
  refine fn_wp rfl rfl ?_
  show oS (D__law_words [some (.fr p), none, none, none, none, none]) _
  unfold D__law_words
  try walk_at "mir2"
  refine oS_for ?_
  try walk_at "mir2"
  refine wp_draw hp (by decide) (by decide) fun r p1 hp1 r0 r1 => ?_
  try walk_at "mir2"
  refine ⟨⟨by omega, by omega⟩, fun items ρ => ∃ p ss o2 o3 o4, IsPen p ∧ ρ = [some (.fr p), some (.fr ((ss : List Str).map .str)), o2, o3, o4, none] ∧ ss.length + items.length ≤ 4, ⟨p1, [], none, none, none, hp1, rfl, by rw [rangeD_len]; simp; omega⟩, ?_, ?_⟩
  · rintro ρ ⟨p2, ss, o2, o3, o4, hp2, rfl, hl⟩
    try walk_at "mir2"
    refine g_sset (by simp at hl; omega) ?_
    try walk_at "mir2"
    simp only [g_tuple]
    try walk_at "mir2"
    exact h _ p2 hp2
  · rintro x xs ρ ⟨p2, ss, o2, o3, o4, hp2, rfl, hl⟩
    simp only [List.length_cons] at hl
    try walk_at "mir2"
    refine wp_draw hp2 (by decide) (by decide) fun r2 p3 hp3 s0 s1 => ?_
    try walk_at "mir2"
    refine oS_atI s0 (by simp; omega) fun y hy _ => ?_
    obtain ⟨l, rfl, l1, l8⟩ : ∃ l : Int, y = .int l ∧ 1 ≤ l ∧ l ≤ 8 := by
      simp only [List.mem_cons, List.not_mem_nil, or_false] at hy
      rcases hy with rfl | rfl | rfl | rfl
      · exact ⟨1, rfl, by decide, by decide⟩
      · exact ⟨1, rfl, by decide, by decide⟩
      · exact ⟨2, rfl, by decide, by decide⟩
      · exact ⟨8, rfl, by decide, by decide⟩
    try walk_at "mir2"
    have hb : 0 ≤ (if pGt l 1 = true then (1 : Int) else 0) ∧ (if pGt l 1 = true then (1 : Int) else 0) < 2 := by split <;> decide
    refine oS_atI hb.1 (by simpa using hb.2) fun y hy _ => ?_
    obtain ⟨m, rfl, m1, m8⟩ : ∃ m : Int, y = .int m ∧ 1 ≤ m ∧ m ≤ 26 := by
      simp only [List.mem_cons, List.not_mem_nil, or_false] at hy
      rcases hy with rfl | rfl
      · exact ⟨4, rfl, by decide, by decide⟩
      · exact ⟨26, rfl, by decide, by decide⟩
    try walk_at "mir2"
    refine oS_comp ?_
    try walk_at "mir2"
    refine ⟨⟨by omega, by omega⟩, fun items acc ρ => ∃ p cs o5, IsPen p ∧ ρ = [some (.fr p), some (.fr (ss.map .str)), some (.d x), some (.d (.int l)), some (.d (.int m)), o5] ∧ acc = (cs : List Str).map .str ∧ (∀ c ∈ cs, c.length = 1) ∧ cs.length + items.length ≤ 8,
      ⟨p3, [], none, hp3, rfl, rfl, fun c hc => absurd hc (by simp), by rw [rangeD_len]; simp; omega⟩, ?_, ?_⟩
    · rintro acc ρ ⟨p4, cs, o5, hp4, rfl, rfl, hc, hl8⟩
      try walk_at "mir2"
      refine m_join hc (by simpa using hl8) ?_
      try walk_at "mir2"
      simp only [m_append]
      try walk_at "mir2"
      refine ⟨by simp; omega, p4, ss ++ [Txt.join "" cs], some (.d x), some (.d (.int l)), some (.d (.int m)), hp4, ?_, by simp; omega⟩
      simp
    · rintro z zs acc ρ ⟨p4, cs, o5, hp4, rfl, rfl, hc, hl8⟩
      simp only [List.length_cons] at hl8
      try walk_at "mir2"
      refine wp_draw hp4 (by omega) (by omega) fun r3 p5 hp5 t0 t1 => ?_
      try walk_at "mir2"
      simp only [g_ixS]
      refine ⟨abc_ok, oS_atI t0 (by rw [abc_len]; omega) fun c hcc _ => ?_⟩
      try walk_at "mir2"
      refine ⟨by simp; omega, p5, cs ++ [⟨#[c]⟩], _, hp5, rfl, by simp, fun d hd => ?_, by simp; omega⟩
      rcases List.mem_append.mp hd with hd | hd
      · exact hc d hd
      · rw [List.mem_singleton.mp hd]; rfl
end L2.Q3.Tx
end

section
set_option Elab.async false
set_option linter.all false
set_option maxRecDepth 100000
set_option maxHeartbeats 4000000
namespace L2.Q3.Tx
open PySem PySem.Spec PyProof.Rows L2
local macro_rules | `(tactic| walk_at "mir2") => `(tactic| simp (config := { decide := true, maxSteps := 2000000 }) only [Turn1, wipeR, restR, ↓o_seq, ↓o_if, ↓o_nx, ↓o_set, ↓o_ret, ↓o_drop, ↓o_store, ↓o_C, ↓o_var, ↓o_atom, ↓o_nil, ↓o_cons, ↓o_tB, ↓o_tV, ↓o_tNot, ↓o_tAnd, ↓o_tOr, ↓o_tY, ↓o_and, ↓o_or, ↓o_not, ↓o_ifE, ↓o_chain, ↓o_tup, ↓o_lst, ↓o_call, ↓o_isi, ↓o_foN, ↓o_foS, ↓o_sl, ↓o_meth, ↓o_sm, ↓o_dict1, ↓o_rev, ↓o_iseq, ↓o_R1, ↓o_enum, ↓o_zip,
  o_seq, o_if, o_nx, o_set, o_ret, o_drop, o_store, o_C, o_var, o_atom, o_nil, o_cons, o_tB, o_tV, o_tNot, o_tAnd, o_tOr, o_tY, o_and, o_or, o_not, o_ifE, o_chain, o_tup, o_lst, o_call, o_isi, o_foN, o_foS, o_sl, o_meth, o_sm, o_dict1, o_rev, o_iseq, o_R1, o_enum, o_zip,
  ↓oS_bind, ↓oS_some, ↓oS_none, ↓oS_ite_none, ↓oS_iteb, oS_bind, oS_some, oS_none, oS_ite_none, oS_iteb, g_mod, g_div, g_mul, g_sub, g_add, g_addT, g_addL, g_addS, g_cmp, g_eqI, g_neI, g_ixL, g_ixT, g_ixC, atI_lit0, atI_lit1, atI_lit2, atI_lit3,
  gN, gT, gsNil, gsCons, rdAll, rdW, rdSlot, escAll, esc1, argsOf, arg1, slots, put1, putBack, setW, outW, finOf, frAt, tru, itemsOf, gLen, gInt, gNeg,
  List.getElem?_cons_zero, List.getElem?_cons_succ, List.set_cons_zero, List.set_cons_succ, List.length_cons, List.length_nil, List.take_succ_cons, List.take_zero, List.map_cons, List.map_nil, Option.getD_some, Option.getD_none, Option.isSome_some, Option.isNone_none, Option.isNone_some, Option.bind_some, Option.bind_none, Bool.true_and, Bool.and_true, Bool.not_true, Bool.not_false, if_true, if_false, ite_true, ite_false, reduceCtorEq, true_and, and_true, List.nodup_cons, List.not_mem_nil, not_false_eq_true, List.nodup_nil, List.mem_singleton, List.mem_cons, Nat.reduceAdd, Nat.zero_add, Nat.reduceLeDiff, Nat.reduceEqDiff, Nat.reduceLT, Int.reduceNeg, Bool.false_eq_true, List.all_cons, List.all_nil, List.append_nil])
theorem can_ints : ∀ (s : List Int), PyData.canLayAll0 (s.map .int) = true ∧ PyData.depthAll (s.map .int) = 0
  | [] => ⟨rfl, rfl⟩
  | i :: s => by
    obtain ⟨h1, h2⟩ := can_ints s
    constructor
    · show (PyData.canLay0 (.int i) && PyData.canLayAll0 (s.map .int)) = true
      rw [h1]; rfl
    · show max (PyData.depth (.int i)) (PyData.depthAll (s.map .int)) = 0
      rw [h2]; rfl
theorem can_spot (a : Int) (s : List Int) : PyData.canLay0 (.tuple [.int a, tupD s]) = true ∧ PyData.depth (.tuple [.int a, tupD s]) ≤ 64 := by
  obtain ⟨h1, h2⟩ := can_ints s
  constructor
  · show (PyData.canLay0 (.int a) && (PyData.canLayAll0 (s.map .int) && true)) = true
    rw [h1]; rfl
  · show max (PyData.depth (.int a)) (max (PyData.depthAll (s.map .int) + 1) 0) + 1 ≤ 64
    have e : PyData.depth (.int a) = 0 := rfl
    rw [h2, e]; decide
theorem cut2 (x y : D) (r : List D) : gSl (.tuple (x :: y :: r)) none (some 2) = some (.d (.tuple [x, y])) := by
  show some (W.d (.tuple (cutD (x :: y :: r) none (some 2)))) = _
  have e1 : HT.sIx (x :: y :: r).length 0 none = 0 := rfl
  have e2 : HT.sIx (x :: y :: r).length (x :: y :: r).length (some 2) = 2 := by
    show (if (2 : Int) < 0 then ((2 : Int) + ((x :: y :: r).length : Int)).toNat else min (2 : Int).toNat (x :: y :: r).length) = 2
    rw [if_neg (by decide)]
    simp only [List.length_cons]
    show min 2 (r.length + 1 + 1) = 2
    omega
  unfold cutD
  rw [e1, e2]
  rfl
def KeyOk (x : D) : Prop := ∃ a s, x = .tuple [.int a, tupD s]
theorem keys_can : ∀ (ys : List D), (∀ y ∈ ys, KeyOk y) → PyData.canLayAll0 ys = true
  | [], _ => rfl
  | y :: ys, h => by
    obtain ⟨a, s, rfl⟩ := h y List.mem_cons_self
    show (PyData.canLay0 _ && PyData.canLayAll0 ys) = true
    rw [(can_spot a s).1, keys_can ys fun z hz => h z (List.mem_cons_of_mem _ hz)]; rfl
theorem spots_mem {ts : List Int} {y : D} (h : y ∈ spotsD ts) : ∃ s, y = tupD s ∧ s ∈ spS ts.zipIdx := by
  obtain ⟨s, hs, rfl⟩ := List.mem_map.mp h
  exact ⟨s, rfl, hs⟩
theorem spots_pos (ts : List Int) : 0 < (spotsD ts).length := by simp [spotsD, spS]
theorem spots_len {ts : List Int} (hl : ts.length ≤ 3) (hm : ∀ m ∈ ts, 0 ≤ m ∧ m ≤ 3) : (spotsD ts).length ≤ 13 := by
  have := spS_len ts.zipIdx fun p hp => (hm p.1 (List.fst_mem_of_mem_zipIdx hp)).2
  simp at this
  simp [spotsD]
  omega
def TabOk (ts : List Int) : Prop := 1 ≤ ts.length ∧ ts.length ≤ 3 ∧ ∀ m ∈ ts, 1 ≤ m ∧ m ≤ 3
theorem tab0 {ts : List Int} (h : TabOk ts) : ∀ m ∈ ts, 0 ≤ m ∧ m ≤ 3 := fun m hm => ⟨by have := h.2.2 m hm; omega, (h.2.2 m hm).2⟩
end L2.Q3.Tx
end

section
set_option Elab.async false
set_option linter.all false
set_option maxRecDepth 100000
set_option maxHeartbeats 4000000
namespace L2.Q3.Tx
open PySem PySem.Spec PyProof.Rows L2
local macro_rules | `(tactic| walk_at "mir2") => `(tactic| simp (config := { decide := true, maxSteps := 2000000 }) only [Turn1, wipeR, restR, ↓o_seq, ↓o_if, ↓o_nx, ↓o_set, ↓o_ret, ↓o_drop, ↓o_store, ↓o_C, ↓o_var, ↓o_atom, ↓o_nil, ↓o_cons, ↓o_tB, ↓o_tV, ↓o_tNot, ↓o_tAnd, ↓o_tOr, ↓o_tY, ↓o_and, ↓o_or, ↓o_not, ↓o_ifE, ↓o_chain, ↓o_tup, ↓o_lst, ↓o_call, ↓o_isi, ↓o_foN, ↓o_foS, ↓o_sl, ↓o_meth, ↓o_sm, ↓o_dict1, ↓o_rev, ↓o_iseq, ↓o_R1, ↓o_enum, ↓o_zip,
  o_seq, o_if, o_nx, o_set, o_ret, o_drop, o_store, o_C, o_var, o_atom, o_nil, o_cons, o_tB, o_tV, o_tNot, o_tAnd, o_tOr, o_tY, o_and, o_or, o_not, o_ifE, o_chain, o_tup, o_lst, o_call, o_isi, o_foN, o_foS, o_sl, o_meth, o_sm, o_dict1, o_rev, o_iseq, o_R1, o_enum, o_zip,
  ↓oS_bind, ↓oS_some, ↓oS_none, ↓oS_ite_none, ↓oS_iteb, oS_bind, oS_some, oS_none, oS_ite_none, oS_iteb, g_mod, g_div, g_mul, g_sub, g_add, g_addT, g_addL, g_addS, g_cmp, g_eqI, g_neI, g_ixL, g_ixT, g_ixC, atI_lit0, atI_lit1, atI_lit2, atI_lit3,
  gN, gT, gsNil, gsCons, rdAll, rdW, rdSlot, escAll, esc1, argsOf, arg1, slots, put1, putBack, setW, outW, finOf, frAt, tru, itemsOf, gLen, gInt, gNeg,
  List.getElem?_cons_zero, List.getElem?_cons_succ, List.set_cons_zero, List.set_cons_succ, List.length_cons, List.length_nil, List.take_succ_cons, List.take_zero, List.map_cons, List.map_nil, Option.getD_some, Option.getD_none, Option.isSome_some, Option.isNone_none, Option.isNone_some, Option.bind_some, Option.bind_none, Bool.true_and, Bool.and_true, Bool.not_true, Bool.not_false, if_true, if_false, ite_true, ite_false, reduceCtorEq, true_and, and_true, List.nodup_cons, List.not_mem_nil, not_false_eq_true, List.nodup_nil, List.mem_singleton, List.mem_cons, Nat.reduceAdd, Nat.zero_add, Nat.reduceLeDiff, Nat.reduceEqDiff, Nat.reduceLT, Int.reduceNeg, Bool.false_eq_true, List.all_cons, List.all_nil, List.append_nil])

theorem perm_pick {α : Type} : ∀ (l : List α) (i : Nat) (h : i < l.length), l.Perm (l[i] :: l.eraseIdx i)
  | x :: xs, 0, _ => .refl _
  | x :: xs, i + 1, h => by
    have ih := perm_pick xs i (by simpa using h)
    show (x :: xs).Perm (xs[i]'(by simpa using h) :: x :: xs.eraseIdx i)
    exact (ih.cons x).trans (.swap _ _ _)
theorem eraseIdx_map' {α β : Type} (f : α → β) : ∀ (l : List α) (i : Nat), (l.map f).eraseIdx i = (l.eraseIdx i).map f
  | [], _ => rfl
  | _ :: _, 0 => rfl
  | x :: xs, i + 1 => by
    show f x :: (xs.map f).eraseIdx i = f x :: (xs.eraseIdx i).map f
    rw [eraseIdx_map' f xs i]
theorem m_popI {l : List Int} {i : Int} {Q : D × List D → Prop} (h0 : 0 ≤ i) (h1 : i < l.length) (h2 : l.length ≤ 16777216) (h : ∀ (x : Int) (r : List Int), l.Perm (x :: r) → Q (.int x, r.map .int)) : oS (hPopAt' (l.map .int) [.int i]) Q := by
  show oS (if _ then _ else none) Q
  have hl : i.toNat < l.length := by omega
  rw [oS_ite_none]
  refine ⟨⟨h0, by simpa using h1, by first | omega | (simp; omega)⟩, ?_⟩
  rw [List.getElem?_map, List.getElem?_eq_getElem hl, Option.map_some, Option.bind_some, oS_some]
  have := h _ _ (perm_pick l i.toNat hl)
  rw [← eraseIdx_map'] at this
  exact this

structure NeedsOk (many : Int) (ns : List Int) : Prop where
  nd : ns.Nodup
  len : ns.length ≤ 3
  rng : ∀ n ∈ ns, 0 ≤ n ∧ n < many
theorem NeedsOk.mono {a b : Int} {ns : List Int} (h : NeedsOk a ns) (l : a ≤ b) : NeedsOk b ns := ⟨h.nd, h.len, fun n hn => by have := h.rng n hn; omega⟩
theorem wp_needsH {p : List D} {names : Int} (hp : IsPen p) (hn : 0 < names) (hn8 : names ≤ 8) {Q : W × List W → Prop} (h : ∀ ns p', IsPen p' → NeedsOk names ns → Q (.d (tupD ns), [.fr p', .d (.int names)])) : oS (F__law_needs [.fr p, .d (.int names)]) Q := by
  refine fn_wp rfl rfl ?_
  show oS (D__law_needs [some (.fr p), some (.d (.int names)), none, none]) _
  unfold D__law_needs
  walk_at "mir2"
  simp only [g_lr]
  walk_at "mir2"
  refine ⟨⟨by omega, by omega⟩, ?_⟩
  refine oS_comp ?_
  walk_at "mir2"
  refine wp_draw hp (by decide) (by decide) fun r p1 hp1 r0 r1 => ?_
  walk_at "mir2"
  simp only [g_min]
  walk_at "mir2"
  refine ⟨⟨by split <;> omega, by split <;> omega⟩, ?_⟩
  refine ⟨fun items acc ρ => ∃ p ls as o3, IsPen p ∧ ρ = [some (.fr p), some (.d (.int names)), some (.fr ((ls : List Int).map .int)), o3] ∧ acc = (as : List Int).map .int ∧ items.length ≤ ls.length ∧ (as ++ ls).Nodup ∧ (∀ n ∈ as ++ ls, 0 ≤ n ∧ n < names) ∧ as.length + items.length ≤ 3 ∧ ls.length ≤ 8,
    ⟨p1, (List.range names.toNat).map fun k => ((k : Nat) : Int), [], none, hp1, by rw [List.map_map]; rfl, rfl, ?_, ?_, ?_, ?_, ?_⟩, ?_, ?_⟩
  · rw [rangeD_len]; simp; split <;> omega
  · rw [List.nil_append]
    exact List.pairwise_map.mpr (List.nodup_range.imp fun h e => h (Int.ofNat.inj e))
  · intro n hn'
    rw [List.nil_append] at hn'
    obtain ⟨k, hk, rfl⟩ := List.mem_map.mp hn'
    have := List.mem_range.mp hk
    omega
  · rw [rangeD_len]; simp; split <;> omega
  · simp; omega
  · rintro acc ρ ⟨p2, ls, as, o3, hp2, rfl, rfl, _, hnd, hr, hl, _⟩
    walk_at "mir2"
    simp only [g_tuple]
    walk_at "mir2"
    exact h as p2 hp2 ⟨(List.nodup_append.mp hnd).1, by simpa using hl, fun n hn' => hr n (List.mem_append_left _ hn')⟩
  · rintro x xs acc ρ ⟨p2, ls, as, o3, hp2, rfl, rfl, hle, hnd, hr, hl, hl8⟩
    simp only [List.length_cons] at hle hl
    walk_at "mir2"
    simp only [List.length_map]
    refine wp_draw hp2 (by omega) (by omega) fun r p3 hp3 r0 r1 => ?_
    walk_at "mir2"
    refine m_popI r0 r1 (by omega) fun y rest hpm => ?_
    have hlen := hpm.length_eq
    simp only [List.length_cons] at hlen
    have hpp : (as ++ ls).Perm ((as ++ [y]) ++ rest) := by
      rw [List.append_assoc]
      exact hpm.append_left as
    walk_at "mir2"
    refine ⟨by first | omega | (simp; omega), p3, rest, as ++ [y], _, hp3, rfl, by simp, by omega, hpp.nodup hnd, fun n hn' => hr n (hpp.mem_iff.mpr hn'), by simp; omega, by omega⟩
structure Rcp where
  name : Int
  spot : List Int
  keep : Int
  sorts : Int
  needs : List Int
structure Tst where
  ev : Int
  tb : Int
  needs : List Int
  words : List Str
def Rcp.D (r : Rcp) : Q3.D := .tuple [.int r.name, tupD r.spot, .int r.keep, .int r.sorts, tupD r.needs]
def Tst.D (t : Tst) : Q3.D := .tuple [tupD [t.ev, t.tb], tupD t.needs, .tuple (t.words.map .str)]
structure RcpOk (ts : List Int) (r : Rcp) : Prop where
  name : 0 ≤ r.name ∧ r.name < 8
  spot : r.spot ∈ spS ts.zipIdx
  keep : 0 ≤ r.keep ∧ r.keep ≤ 3
  sorts : 1 ≤ r.sorts ∧ r.sorts ≤ 3
  needs : NeedsOk 8 r.needs
structure TstOk (ts : List Int) (t : Tst) : Prop where
  spot : [t.ev, t.tb] ∈ spS ts.zipIdx
  needs : NeedsOk 8 t.needs
structure House where
  ts : List Int
  rs : List Rcp
  tt : List Tst
def House.D (h : House) : Q3.D := .tuple [tupD h.ts, .tuple (h.rs.map Rcp.D), .tuple (h.tt.map Tst.D)]
structure HouseOk (h : House) : Prop where
  tab : TabOk h.ts
  rlen : h.rs.length ≤ 8
  rok : ∀ r ∈ h.rs, RcpOk h.ts r
  nd : (h.rs.map fun r => (r.name, r.spot)).Nodup
  tlen : h.tt.length ≤ 6
  tok : ∀ t ∈ h.tt, TstOk h.ts t
theorem eqv_ints (s t : List Int) : PyData.eqvAll (s.map .int) (t.map .int) = decide (s = t) := by
  induction s generalizing t with
  | nil => cases t <;> simp [PyData.eqvAll]
  | cons a s ih =>
    cases t with
    | nil => simp [PyData.eqvAll]
    | cons b t => simp [PyData.eqvAll, PyData.eqv, ih, Bool.beq_eq_decide_eq]
def keyD (k : Int × List Int) : D := .tuple [.int k.1, tupD k.2]
theorem eqv_key (k l : Int × List Int) : PyData.eqv (keyD k) (keyD l) = decide (k = l) := by
  obtain ⟨a, s⟩ := k
  obtain ⟨b, t⟩ := l
  show PyData.eqvAll [.int a, tupD s] [.int b, tupD t] = _
  have e : PyData.eqv (tupD s) (tupD t) = decide (s = t) := eqv_ints s t
  simp [PyData.eqvAll, PyData.eqv, e, Bool.beq_eq_decide_eq]
theorem keys_can' (ks : List (Int × List Int)) : PyData.canLayAll0 (ks.map keyD) = true := keys_can _ fun y hy => by
  obtain ⟨k, _, rfl⟩ := List.mem_map.mp hy
  exact ⟨k.1, k.2, rfl⟩
theorem g_inK {n : Bool} {k : Int × List Int} {ks : List (Int × List Int)} {Q : W → Prop} : oS (gIn n [keyD k, .list (ks.map keyD)]) Q ↔ Q (.d (.bool (decide (k ∈ ks) != n))) := by
  show oS (if _ then _ else none) Q ↔ _
  rw [oS_ite_none, oS_some]
  have e : ((ks.map keyD).any fun z => PyData.eqv z (keyD k)) = decide (k ∈ ks) := by
    rw [List.any_map]
    simp only [Function.comp_def, eqv_key]
    rw [Bool.eq_iff_iff, List.any_eq_true, decide_eq_true_iff]
    constructor
    · rintro ⟨x, hx, hxe⟩
      rw [← of_decide_eq_true hxe]; exact hx
    · intro hk
      exact ⟨k, hk, by simp⟩
  rw [e]
  refine ⟨fun z => z.2, fun z => ⟨⟨?_, keys_can' ks⟩, z⟩⟩
  have := can_spot k.1 k.2
  unfold SeqAt.shaped keyD
  simp [this.1, this.2]
def Rcp.key (r : Rcp) : Int × List Int := (r.name, r.spot)
theorem wp_rawH {p : List D} (hp : IsPen p) {Q : W × List W → Prop} (h : ∀ hh p', HouseOk hh → IsPen p' → Q (.d hh.D, [.fr p'])) : oS (F__law_raw [.fr p]) Q := by
  refine fn_wp rfl rfl ?_
  show oS (D__law_raw [some (.fr p), none, none, none, none, none, none, none, none, none]) _
  unfold D__law_raw
  try walk_at "mir2"
  refine oS_comp ?_
  try walk_at "mir2"
  refine wp_draw hp (by decide) (by decide) fun r p1 hp1 r0 r1 => ?_
  try walk_at "mir2"
  refine ⟨⟨by omega, by omega⟩, fun items acc ρ => ∃ p ts o5, IsPen p ∧ ρ = [some (.fr p), none, none, none, none, o5, none, none, none, none] ∧ acc = (ts : List Int).map .int ∧ (∀ m ∈ ts, 1 ≤ m ∧ m ≤ 3) ∧ ts.length + items.length = (1 + r).toNat,
    ⟨p1, [], none, hp1, rfl, rfl, fun c hc => absurd hc (by simp), by rw [rangeD_len]; simp⟩, ?_, ?_⟩
  case refine_2 =>
    rintro x xs acc ρ ⟨p2, ts, o5, hp2, rfl, rfl, hm, hl⟩
    simp only [List.length_cons] at hl
    try walk_at "mir2"
    refine wp_draw hp2 (by decide) (by decide) fun r2 p3 hp3 s0 s1 => ?_
    try walk_at "mir2"
    refine ⟨by simp; omega, p3, ts ++ [1 + r2], _, hp3, rfl, by simp, fun d hd => ?_, by simp; omega⟩
    rcases List.mem_append.mp hd with hd | hd
    · exact hm d hd
    · rw [List.mem_singleton.mp hd]; omega
  rintro acc ρ ⟨p2, ts, o5, hp2, rfl, rfl, hm, hl⟩
  have hT : TabOk ts := ⟨by simp at hl; omega, by simp at hl; omega, hm⟩
  try walk_at "mir2"
  simp only [g_tuple]
  try walk_at "mir2"
  refine wp_spots hT.2.1 (tab0 hT) ?_
  try walk_at "mir2"
  refine wp_draw hp2 (by decide) (by decide) fun r2 p3 hp3 s0 s1 => ?_
  try walk_at "mir2"
  refine oS_atI s0 (by simp; omega) fun y hy _ => ?_
  obtain ⟨nm, rfl, n1, n8⟩ : ∃ l : Int, y = .int l ∧ 1 ≤ l ∧ l ≤ 8 := by
    simp only [List.mem_cons, List.not_mem_nil, or_false] at hy
    rcases hy with rfl | rfl | rfl
    · exact ⟨2, rfl, by decide, by decide⟩
    · exact ⟨4, rfl, by decide, by decide⟩
    · exact ⟨8, rfl, by decide, by decide⟩
  try walk_at "mir2"
  refine oS_for ?_
  try walk_at "mir2"
  refine wp_draw hp3 (by decide) (by decide) fun r3 p4 hp4 t0 t1 => ?_
  try walk_at "mir2"
  refine ⟨⟨by omega, by omega⟩, fun items ρ => ∃ p rs o5 o7, IsPen p ∧ ρ = [some (.fr p), some (.d (.tuple (ts.map .int))), some (.fr (spotsD ts)), some (.d (.int nm)), some (.fr ((rs : List Rcp).map Rcp.D)), o5, none, o7, none, none] ∧ (∀ y ∈ rs, RcpOk ts y) ∧ (rs.map Rcp.key).Nodup ∧ rs.length + items.length ≤ 8,
    ⟨p4, [], none, none, hp4, rfl, fun c hc => absurd hc (by simp), by simp, by rw [rangeD_len]; simp; omega⟩, ?_, ?_⟩
  · rintro ρ ⟨p5, rs, o5, o7, hp5, rfl, hrs, hnd, hl5⟩
    try walk_at "mir2"
    refine oS_for ?_
    try walk_at "mir2"
    refine wp_draw hp5 (by decide) (by decide) fun r5 p6 hp6 u0 u1 => ?_
    try walk_at "mir2"
    refine ⟨⟨by omega, by omega⟩, fun items ρ => ∃ p ws o5 o8, IsPen p ∧ ρ = [some (.fr p), some (.d (.tuple (ts.map .int))), some (.fr (spotsD ts)), some (.d (.int nm)), some (.fr (rs.map Rcp.D)), o5, some (.fr ((ws : List Tst).map Tst.D)), o7, o8, none] ∧ (∀ t ∈ ws, TstOk ts t) ∧ ws.length + items.length ≤ 6,
      ⟨p6, [], o5, none, hp6, rfl, fun c hc => absurd hc (by simp), by rw [rangeD_len]; simp; omega⟩, ?_, ?_⟩
    · rintro ρ ⟨p7, ws, o5, o8, hp7, rfl, hws, hl6⟩
      try walk_at "mir2"
      simp only [g_tuple]
      try walk_at "mir2"
      exact h ⟨ts, rs, ws⟩ p7 ⟨hT, by simpa using hl5, hrs, hnd, by simpa using hl6, hws⟩ hp7
    · rintro x xs ρ ⟨p7, ws, o5', o8, hp7, rfl, hws, hl7⟩
      simp only [List.length_cons] at hl7
      try walk_at "mir2"
      simp only [List.length_map]
      refine wp_draw hp7 (by have := hT.1; omega) (by have := hT.2.1; omega) fun r6 p8 hp8 v0 v1 => ?_
      try walk_at "mir2"
      refine oS_atI v0 (by simpa using v1) fun y hy hy' => ?_
      obtain ⟨m, hm', rfl⟩ := List.mem_map.mp hy
      have hmm := hT.2.2 m hm'
      have hz : ts[r6.toNat]? = some m := by
        rw [List.getElem?_map] at hy'
        cases hq : ts[r6.toNat]? with
        | none => rw [hq] at hy'; cases hy'
        | some m' => rw [hq] at hy'; cases hy'; rfl
      try walk_at "mir2"
      refine wp_draw hp8 (by omega) (by omega) fun r7 p9 hp9 w0 w1 => ?_
      try walk_at "mir2"
      refine wp_needsH hp9 (by omega) (by omega) fun nd p10 hp10 hnd' => ?_
      try walk_at "mir2"
      refine wp_words hp10 fun us p11 hp11 => ?_
      try walk_at "mir2"
      simp only [m_append]
      try walk_at "mir2"
      refine ⟨by first | omega | (simp; omega), p11, ws ++ [⟨r6, r7, nd, us⟩], some (.d x), some (.d (.int r6)), hp11, by simp [Tst.D, tupD], fun t ht => ?_, by simp; omega⟩
      rcases List.mem_append.mp ht with ht | ht
      · exact hws t ht
      · rw [List.mem_singleton.mp ht]
        refine ⟨mem_spS.mpr (.inr ⟨(m, r6.toNat), zip_at.mpr hz, .inr ⟨r7.toNat, by show r7.toNat < m.toNat; omega, ?_⟩⟩), hnd'.mono n8⟩
        show [r6, r7] = [((r6.toNat : Nat) : Int), ((r7.toNat : Nat) : Int)]
        rw [Int.toNat_of_nonneg v0, Int.toNat_of_nonneg w0]
  · rintro x xs ρ ⟨p5, rs, o5, o7, hp5, rfl, hrs, hnd, hl5⟩
    simp only [List.length_cons] at hl5
    have hsp := spots_pos ts
    have hsl := spots_len hT.2.1 (tab0 hT)
    try walk_at "mir2"
    refine wp_draw hp5 (by omega) (by omega) fun r6 p6 hp6 u0 u1 => ?_
    try walk_at "mir2"
    refine wp_draw hp6 (by omega) (by omega) fun r7 p7 hp7 v0 v1 => ?_
    try walk_at "mir2"
    refine oS_atI v0 v1 fun y hy _ => ?_
    obtain ⟨sp, rfl, hsp'⟩ := spots_mem hy
    try walk_at "mir2"
    refine wp_draw hp7 (by decide) (by decide) fun r8 p8 hp8 w0 w1 => ?_
    try walk_at "mir2"
    refine wp_draw hp8 (by decide) (by decide) fun r9 p9 hp9 x0 x1 => ?_
    try walk_at "mir2"
    refine wp_needsH hp9 (by omega) (by omega) fun nd p10 hp10 hnd' => ?_
    try walk_at "mir2"
    simp only [List.cons_append, List.nil_append, cut2]
    try walk_at "mir2"
    refine oS_compO rfl (by simp) rfl (fun items acc ρ => ∃ o9 done rest, ρ = [some (.fr p10), some (.d (.tuple (ts.map .int))), some (.fr (spotsD ts)), some (.d (.int nm)), some (.fr (rs.map Rcp.D)), some (.d x), none, some (.d (.tuple [.int r6, tupD sp, .int r8, .int (1 + r9), tupD nd])), none, o9] ∧ rs = done ++ rest ∧ items = rest.map Rcp.D ∧ acc = (done.map Rcp.key).map keyD)
      ⟨none, [], rs, rfl, rfl, rfl, rfl⟩ ?_ ?_ ?_
    · rintro acc ρ ⟨o9, done, rest, rfl, e1, e2, rfl⟩
      have e3 : rest = [] := by simpa using e2.symm
      subst e3
      have e4 : done = rs := by simpa using e1.symm
      subst e4
      try walk_at "mir2"
      refine (g_inK (n := true) (k := (r6, sp)) (ks := done.map Rcp.key)).mpr ?_
      by_cases hk : (r6, sp) ∈ done.map Rcp.key
      · simp only [hk, decide_true, bne_self_eq_false]
        try walk_at "mir2"
        exact ⟨p10, done, _, _, hp10, rfl, hrs, hnd, by omega⟩
      · simp only [hk, decide_false, Bool.false_bne]
        try walk_at "mir2"
        simp only [m_append]
        try walk_at "mir2"
        refine ⟨by first | omega | (simp; omega), p10, done ++ [⟨r6, sp, r8, 1 + r9, nd⟩], some (.d x), some (.d (.tuple [.int r6, tupD sp, .int r8, .int (1 + r9), tupD nd])), hp10, by simp [Rcp.D], fun z hz => ?_, ?_, by simp; omega⟩
        · rcases List.mem_append.mp hz with hz | hz
          · exact hrs z hz
          · rw [List.mem_singleton.mp hz]
            exact ⟨⟨u0, by show r6 < 8; omega⟩, hsp', ⟨w0, by show r8 ≤ 3; omega⟩, ⟨by show 1 ≤ 1 + r9; omega, by show 1 + r9 ≤ 3; omega⟩, hnd'.mono n8⟩
        · rw [List.map_append, List.nodup_append]
          refine ⟨hnd, by simp, fun a ha b hb => ?_⟩
          have hb' : b = (r6, sp) := by simpa [Rcp.key] using hb
          subst hb'
          exact fun e => hk (e ▸ ha)
    · rintro ys acc ρ ⟨o9, done, rest, rfl, _⟩
      rfl
    · rintro y ys acc ρ ⟨o9, done, rest, rfl, e1, e2, rfl⟩
      cases rest with
      | nil => cases e2
      | cons s rest =>
        rw [List.map_cons] at e2
        cases e2
        have hlen : done.length ≤ 8 := by
          have : rs.length = done.length + (rest.length + 1) := by rw [e1]; simp
          omega
        try walk_at "mir2"
        simp only [Rcp.D, cut2]
        try walk_at "mir2"
        refine ⟨by simp; omega, _, done ++ [s], rest, rfl, by rw [e1]; simp, rfl, by simp [Rcp.key, keyD]⟩
end L2.Q3.Tx
end

section
set_option Elab.async false
set_option linter.all false
set_option maxRecDepth 100000
set_option maxHeartbeats 4000000
namespace L2.Q3.Tx
open PySem PySem.Spec PyProof.Rows L2
local macro_rules | `(tactic| walk_at "mir3") => `(tactic| simp (config := { decide := true, maxSteps := 2000000 }) only [Turn1, GTurn1, wipeR, restR, outTup, outLst, outStop, c_app, c_stop, ↓o_R3, o_R3, ↓o_seq, ↓o_if, ↓o_nx, ↓o_set, ↓o_ret, ↓o_drop, ↓o_store, ↓o_C, ↓o_var, ↓o_atom, ↓o_nil, ↓o_cons, ↓o_tB, ↓o_tV, ↓o_tNot, ↓o_tAnd, ↓o_tOr, ↓o_tY, ↓o_and, ↓o_or, ↓o_not, ↓o_ifE, ↓o_chain, ↓o_tup, ↓o_lst, ↓o_call, ↓o_isi, ↓o_foN, ↓o_foS, ↓o_sl, ↓o_meth, ↓o_sm, ↓o_dict1, ↓o_rev, ↓o_iseq, ↓o_R1, ↓o_enum, ↓o_zip,
  o_seq, o_if, o_nx, o_set, o_ret, o_drop, o_store, o_C, o_var, o_atom, o_nil, o_cons, o_tB, o_tV, o_tNot, o_tAnd, o_tOr, o_tY, o_and, o_or, o_not, o_ifE, o_chain, o_tup, o_lst, o_call, o_isi, o_foN, o_foS, o_sl, o_meth, o_sm, o_dict1, o_rev, o_iseq, o_R1, o_enum, o_zip,
  ↓oS_bind, ↓oS_some, ↓oS_none, ↓oS_ite_none, ↓oS_iteb, oS_bind, oS_some, oS_none, oS_ite_none, oS_iteb, g_mod, g_div, g_mul, g_sub, g_add, g_addT, g_addL, g_addS, g_cmp, g_eqI, g_neI, g_ixL, g_ixT, g_ixC, atI_lit0, atI_lit1, atI_lit2, atI_lit3,
  gN, gT, gsNil, gsCons, rdAll, rdW, rdSlot, escAll, esc1, argsOf, arg1, slots, put1, putBack, setW, outW, finOf, frAt, tru, itemsOf, gLen, gInt, gNeg,
  List.getElem?_cons_zero, List.getElem?_cons_succ, List.set_cons_zero, List.set_cons_succ, List.length_cons, List.length_nil, List.take_succ_cons, List.take_zero, List.map_cons, List.map_nil, Option.getD_some, Option.getD_none, Option.isSome_some, Option.isNone_none, Option.isNone_some, Option.bind_some, Option.bind_none, Bool.true_and, Bool.and_true, Bool.not_true, Bool.not_false, if_true, if_false, ite_true, ite_false, reduceCtorEq, true_and, and_true, List.nodup_cons, List.not_mem_nil, not_false_eq_true, List.nodup_nil, List.mem_singleton, List.mem_cons, Nat.reduceAdd, Nat.zero_add, Nat.reduceLeDiff, Nat.reduceEqDiff, Nat.reduceLT, Int.reduceNeg, Bool.false_eq_true, List.all_cons, List.all_nil, List.append_nil])



def around (s : List Int) : List (List Int) := (List.range (s.length + 1)).map fun k => s.take (s.length - k)
theorem sl_take {xs : List D} {k : Nat} (h : k ≤ xs.length) : gSl (.tuple xs) none (some (k : Int)) = some (.d (.tuple (xs.take k))) := by
  show some (W.d (.tuple (cutD xs none (some (k : Int))))) = _
  have e1 : HT.sIx xs.length 0 none = 0 := rfl
  have e2 : HT.sIx xs.length xs.length (some (k : Int)) = k := by
    show (if (k : Int) < 0 then ((k : Int) + (xs.length : Int)).toNat else min (k : Int).toNat xs.length) = k
    rw [if_neg (by omega)]
    omega
  unfold cutD
  rw [e1, e2]
  simp
theorem tupD_take (s : List Int) (k : Nat) : (s.map PyData.int).take k = (s.take k).map PyData.int := by rw [List.map_take]
theorem wp_around {s : List Int} (hs : s.length ≤ 100) {Q : W × List W → Prop} (h : Q (.fr ((around s).map tupD), [.d (tupD s)])) : oS (F_spots_around [.d (tupD s)]) Q := by
  refine fn_wp rfl rfl ?_
  show oS (D_spots_around [some (.d (.tuple (s.map .int))), none]) _
  unfold D_spots_around
  try walk_at "mir3"
  refine oS_comp ?_
  try walk_at "mir3"
  simp only [List.length_map]
  refine ⟨by omega, fun items acc ρ => ∃ o1 done rest, ρ = [some (.d (.tuple (s.map .int))), o1] ∧ List.range (s.length + 1) = done ++ rest ∧ items = rest.map (fun k : Nat => .int ((s.length : Int) - (k : Nat))) ∧ acc = (done.map fun k => s.take (s.length - k)).map tupD, ⟨none, [], List.range (s.length + 1), rfl, rfl, ?_, rfl⟩, ?_, ?_⟩
  · unfold downD
    have : ((s.length : Int) - -1).toNat = s.length + 1 := by omega
    rw [this]
  · rintro acc ρ ⟨o1, done, rest, rfl, e1, e2, rfl⟩
    have e3 : rest = [] := by simpa using e2.symm
    subst e3
    have e4 : done = List.range (s.length + 1) := by simpa using e1.symm
    subst e4
    try walk_at "mir3"
    exact h
  · rintro x xs acc ρ ⟨o1, done, rest, rfl, e1, e2, rfl⟩
    cases rest with
    | nil => cases e2
    | cons k rest =>
      rw [List.map_cons] at e2
      cases e2
      have hk : k < s.length + 1 := by
        have : k ∈ List.range (s.length + 1) := by rw [e1]; simp
        simpa using this
      have hd : done.length ≤ s.length + 1 := by
        have := congrArg List.length e1
        simp at this
        omega
      try walk_at "mir3"
      have ek : (s.length : Int) - (k : Nat) = ((s.length - k : Nat) : Int) := by omega
      rw [ek, sl_take (by rw [List.length_map]; omega), tupD_take]
      try walk_at "mir3"
      refine ⟨by simp; omega, _, done ++ [k], rest, rfl, by rw [e1]; simp, rfl, by simp [tupD]⟩
end L2.Q3.Tx
end

section
set_option Elab.async false
set_option linter.all false
set_option maxRecDepth 100000
set_option maxHeartbeats 4000000
namespace L2.Q3.Tx
open PySem PySem.Spec PyProof.Rows L2
local macro_rules | `(tactic| walk_at "mir3") => `(tactic| simp (config := { decide := true, maxSteps := 2000000 }) only [Turn1, GTurn1, wipeR, restR, outTup, outLst, outStop, c_app, c_stop, ↓o_R3, o_R3, ↓o_seq, ↓o_if, ↓o_nx, ↓o_set, ↓o_ret, ↓o_drop, ↓o_store, ↓o_C, ↓o_var, ↓o_atom, ↓o_nil, ↓o_cons, ↓o_tB, ↓o_tV, ↓o_tNot, ↓o_tAnd, ↓o_tOr, ↓o_tY, ↓o_and, ↓o_or, ↓o_not, ↓o_ifE, ↓o_chain, ↓o_tup, ↓o_lst, ↓o_call, ↓o_isi, ↓o_foN, ↓o_foS, ↓o_sl, ↓o_meth, ↓o_sm, ↓o_dict1, ↓o_rev, ↓o_iseq, ↓o_R1, ↓o_enum, ↓o_zip,
  o_seq, o_if, o_nx, o_set, o_ret, o_drop, o_store, o_C, o_var, o_atom, o_nil, o_cons, o_tB, o_tV, o_tNot, o_tAnd, o_tOr, o_tY, o_and, o_or, o_not, o_ifE, o_chain, o_tup, o_lst, o_call, o_isi, o_foN, o_foS, o_sl, o_meth, o_sm, o_dict1, o_rev, o_iseq, o_R1, o_enum, o_zip,
  ↓oS_bind, ↓oS_some, ↓oS_none, ↓oS_ite_none, ↓oS_iteb, oS_bind, oS_some, oS_none, oS_ite_none, oS_iteb, g_mod, g_div, g_mul, g_sub, g_add, g_addT, g_addL, g_addS, g_cmp, g_eqI, g_neI, g_ixL, g_ixT, g_ixC, atI_lit0, atI_lit1, atI_lit2, atI_lit3,
  gN, gT, gsNil, gsCons, rdAll, rdW, rdSlot, escAll, esc1, argsOf, arg1, slots, put1, putBack, setW, outW, finOf, frAt, tru, itemsOf, gLen, gInt, gNeg,
  List.getElem?_cons_zero, List.getElem?_cons_succ, List.set_cons_zero, List.set_cons_succ, List.length_cons, List.length_nil, List.take_succ_cons, List.take_zero, List.map_cons, List.map_nil, Option.getD_some, Option.getD_none, Option.isSome_some, Option.isNone_none, Option.isNone_some, Option.bind_some, Option.bind_none, Bool.true_and, Bool.and_true, Bool.not_true, Bool.not_false, if_true, if_false, ite_true, ite_false, reduceCtorEq, true_and, and_true, List.nodup_cons, List.not_mem_nil, not_false_eq_true, List.nodup_nil, List.mem_singleton, List.mem_cons, Nat.reduceAdd, Nat.zero_add, Nat.reduceLeDiff, Nat.reduceEqDiff, Nat.reduceLT, Int.reduceNeg, Bool.false_eq_true, List.all_cons, List.all_nil, List.append_nil])

def atS (rs : List Rcp) (name : Int) (s : List Int) : List Int := (rs.zipIdx.filter fun p => decide (p.1.name = name) && decide (p.1.spot = s)).map fun p => ((p.2 : Nat) : Int)

def allS (rs : List Rcp) (s : List Int) (name : Int) : List Int := (around s).flatMap fun a => atS rs name a
theorem g_eqT {s t : List Int} {Q : W → Prop} : oS (gEq2 [tupD s, tupD t]) Q ↔ Q (.d (.bool (decide (s = t)))) := by
  show oS (gEq false [tupD s, tupD t]) Q ↔ _
  show oS (if SeqAt.shaped (tupD s) = true ∧ SeqAt.shaped (tupD t) = true then some (W.d (PyData.bool (PyData.eqv (tupD s) (tupD t) != false))) else none) Q ↔ _
  have sh : ∀ s : List Int, SeqAt.shaped (tupD s) = true := fun s => by
    obtain ⟨h1, h2⟩ := can_ints s
    unfold SeqAt.shaped tupD
    have e1 : PyData.canLay0 (.tuple (s.map .int)) = PyData.canLayAll0 (s.map .int) := rfl
    have e2 : PyData.depth (.tuple (s.map .int)) = PyData.depthAll (s.map .int) + 1 := rfl
    rw [e1, e2, h1, h2]; decide
  rw [if_pos ⟨sh s, sh t⟩, oS_some]
  have e : PyData.eqv (tupD s) (tupD t) = decide (s = t) := eqv_ints s t
  rw [e]
  simp
theorem enum_rs (rs : List Rcp) : enumD (rs.map Rcp.D) = rs.zipIdx.map fun p => .tuple [.int ((p.2 : Nat) : Int), p.1.D] := by
  unfold enumD
  rw [List.zipIdx_map, List.map_map]
  rfl
theorem atS_len (rs : List Rcp) (name : Int) (s : List Int) : (atS rs name s).length ≤ rs.length := by
  unfold atS
  rw [List.length_map]
  exact Nat.le_trans (List.length_filter_le _ _) (by simp)
theorem around_len (s : List Int) : (around s).length = s.length + 1 := by simp [around]
theorem wp_recipes {hh : House} {s : List Int} {name : Int} (hr : hh.rs.length ≤ 100) (hs : s.length ≤ 2) {Q : W × List W → Prop} (h : Q (.d (tupD (allS hh.rs s name)), [.d hh.D, .d (tupD s), .d (.int name)])) : oS (F_recipes_from [.d hh.D, .d (tupD s), .d (.int name)]) Q := by
  refine fn_wp rfl rfl ?_
  show oS (D_recipes_from [some (.d (.tuple [tupD hh.ts, .tuple (hh.rs.map Rcp.D), .tuple (hh.tt.map Tst.D)])), some (.d (tupD s)), some (.d (.int name)), none, none, none]) _
  unfold D_recipes_from
  try walk_at "mir3"
  refine oS_g2 ?_
  try walk_at "mir3"
  refine wp_around (by omega) ?_
  try walk_at "mir3"
  refine ⟨fun items acc ρ => ∃ o3 o4 o5 done rest, ρ = [some (.d (.tuple [tupD hh.ts, .tuple (hh.rs.map Rcp.D), .tuple (hh.tt.map Tst.D)])), some (.d (tupD s)), some (.d (.int name)), o3, o4, o5] ∧ around s = done ++ rest ∧ items = rest.map tupD ∧ acc = (done.flatMap fun a => atS hh.rs name a).map .int,
    ⟨none, none, none, [], around s, rfl, rfl, rfl, rfl⟩, ?_, ?_⟩
  · rintro acc ρ ⟨o3, o4, o5, done, rest, rfl, e1, e2, rfl⟩
    have e3 : rest = [] := by simpa using e2.symm
    subst e3
    have e4 : done = around s := by simpa using e1.symm
    subst e4
    try walk_at "mir3"
    exact h
  · rintro x xs acc ρ ⟨o3, o4, o5, done, rest, rfl, e1, e2, rfl⟩
    cases rest with
    | nil => cases e2
    | cons a rest =>
      rw [List.map_cons] at e2
      cases e2
      have hd : done.length ≤ 3 := by
        have := congrArg List.length e1
        rw [around_len] at this
        simp at this
        omega
      have hdl : ∀ l : List (List Int), (l.flatMap fun a => atS hh.rs name a).length ≤ 100 * l.length := by
        intro l
        induction l with
        | nil => simp
        | cons b l ih =>
          have := atS_len hh.rs name b
          simp only [List.flatMap_cons, List.length_append, List.length_cons]
          omega
      have hdone := hdl done
      try walk_at "mir3"
      rw [enum_rs]
      refine ⟨fun items acc ρ => ∃ o4 o5 done1 rest1, ρ = [some (.d (.tuple [tupD hh.ts, .tuple (hh.rs.map Rcp.D), .tuple (hh.tt.map Tst.D)])), some (.d (tupD s)), some (.d (.int name)), some (.d (tupD a)), o4, o5] ∧ hh.rs.zipIdx = done1 ++ rest1 ∧ items = rest1.map (fun p => .tuple [.int ((p.2 : Nat) : Int), p.1.D]) ∧
        acc = ((done.flatMap fun a => atS hh.rs name a) ++ (done1.filter fun p => decide (p.1.name = name) && decide (p.1.spot = a)).map fun p => ((p.2 : Nat) : Int)).map .int, ⟨_, _, [], hh.rs.zipIdx, rfl, rfl, rfl, by simp⟩, ?_, ?_⟩
      · rintro acc ρ ⟨o4, o5, done1, rest1, rfl, f1, f2, rfl⟩
        have f3 : rest1 = [] := by simpa using f2.symm
        subst f3
        have f4 : done1 = hh.rs.zipIdx := by simpa using f1.symm
        subst f4
        exact ⟨_, _, _, done ++ [a], rest, rfl, by rw [e1]; simp, rfl, by simp [atS]⟩
      · rintro y ys acc ρ ⟨o4, o5, done1, rest1, rfl, f1, f2, rfl⟩
        cases rest1 with
        | nil => cases f2
        | cons r rest1 =>
          obtain ⟨r, i⟩ := r
          rw [List.map_cons] at f2
          cases f2
          have hlen1 : done1.length ≤ 100 := by
            have := congrArg List.length f1
            simp at this
            omega
          have hfl := List.length_filter_le (fun p : Rcp × Nat => decide (p.1.name = name) && decide (p.1.spot = a)) done1
          try walk_at "mir3"
          simp only [Rcp.D]
          try walk_at "mir3"
          by_cases hn : r.name = name
          · have e5 : (r.name == name) = true := by simpa using hn
            simp only [e5]
            try walk_at "mir3"
            simp only [g_eqT]
            try walk_at "mir3"
            by_cases hsp : r.spot = a
            · simp only [hsp, decide_true]
              try walk_at "mir3"
              refine ⟨by rw [List.length_map, List.length_append, List.length_map]; subst hsp; omega, _, _, done1 ++ [(r, i)], rest1, rfl, by rw [f1]; simp, rfl, ?_⟩
              rw [List.filter_append]
              simp [hn, hsp]
            · simp only [hsp, decide_false]
              try walk_at "mir3"
              refine ⟨_, _, done1 ++ [(r, i)], rest1, rfl, by rw [f1]; simp, rfl, ?_⟩
              rw [List.filter_append]
              simp [hn, hsp]
          · have e5 : (r.name == name) = false := by simpa using hn
            simp only [e5]
            try walk_at "mir3"
            refine ⟨_, _, done1 ++ [(r, i)], rest1, rfl, by rw [f1]; simp, rfl, ?_⟩
            rw [List.filter_append]
            simp [hn]
theorem wp_nearest {l : List Int} {Q : W × List W → Prop} (h : Q (.d (match l with | [] => .none | x :: _ => .int x), [.d (tupD l)])) : oS (F_nearest_of [.d (tupD l)]) Q := by
  refine fn_wp rfl rfl ?_
  show oS (D_nearest_of [some (.d (.tuple (l.map .int)))]) _
  unfold D_nearest_of
  cases l with
  | nil =>
    try walk_at "mir3"
    exact h
  | cons x l =>
    try walk_at "mir3"
    exact h
theorem wp_ref_number {x a b : Int} (h0 : a ≤ x) (h1 : x ≤ b) {Q : W × List W → Prop} (h : Q (.d .none, [.d (.int x), .d (.int a), .d (.int b)])) : oS (F_refuse_no_number [.d (.int x), .d (.int a), .d (.int b)]) Q := by
  refine fn_wp rfl rfl ?_
  show oS (D_refuse_no_number [some (.d (.int x)), some (.d (.int a)), some (.d (.int b))]) _
  unfold D_refuse_no_number
  try walk_at "mir3"
  refine wp_whole (x := .int x) (fun ys e => by cases e) ?_
  have e : wholeB (.int x) a b = true := by simp [wholeB, h0, h1]
  rw [e]
  try walk_at "mir3"
  exact h
theorem spot_good (s : List Int) : Good (tupD s) := ⟨fun ys e => (by cases e), fun xs e y hy => by
  cases e
  obtain ⟨i, _, rfl⟩ := List.mem_map.mp hy
  exact fun ys e => (nomatch e)⟩
theorem wp_ref_spot {hh : House} {s : List Int} (hT : TabOk hh.ts) (hs : s ∈ spS hh.ts.zipIdx) {Q : W × List W → Prop} (h : Q (.d .none, [.d hh.D, .d (tupD s)])) : oS (F_refuse_no_spot [.d hh.D, .d (tupD s)]) Q := by
  refine fn_wp rfl rfl ?_
  show oS (D_refuse_no_spot [some (.d hh.D), some (.d (tupD s))]) _
  unfold D_refuse_no_spot
  try walk_at "mir3"
  refine wp_spot (ts := hh.ts) (spot_good s) ?_
  rw [(spot_iff hh.ts (fun m hm => (tab0 hT m hm).1) (tupD s)).mpr ⟨s, hs, rfl⟩]
  try walk_at "mir3"
  exact h
theorem spot_len {ts : List Int} {s : List Int} (hs : s ∈ spS ts.zipIdx) : s.length ≤ 2 := by
  rcases mem_spS.mp hs with rfl | ⟨p, _, rfl | ⟨t, _, rfl⟩⟩ <;> simp
theorem wp_all_at {hh : House} {s : List Int} {name : Int} (hT : TabOk hh.ts) (hr : hh.rs.length ≤ 100) (hs : s ∈ spS hh.ts.zipIdx) (h0 : 0 ≤ name) (h7 : name ≤ 7) {Q : W × List W → Prop} (h : Q (.d (tupD (allS hh.rs s name)), [.d hh.D, .d (tupD s), .d (.int name)])) : oS (F_all_at [.d hh.D, .d (tupD s), .d (.int name)]) Q := by
  refine fn_wp rfl rfl ?_
  show oS (D_all_at [some (.d hh.D), some (.d (tupD s)), some (.d (.int name))]) _
  unfold D_all_at
  try walk_at "mir3"
  refine wp_ref_spot hT hs ?_
  try walk_at "mir3"
  refine wp_ref_number h0 h7 ?_
  try walk_at "mir3"
  refine wp_recipes hr (spot_len hs) ?_
  try walk_at "mir3"
  exact h
def hdD (l : List Int) : D := match l with | [] => .none | x :: _ => .int x
theorem wp_found_at {hh : House} {s : List Int} {name : Int} (hT : TabOk hh.ts) (hr : hh.rs.length ≤ 100) (hs : s ∈ spS hh.ts.zipIdx) (h0 : 0 ≤ name) (h7 : name ≤ 7) {Q : W × List W → Prop} (h : Q (.d (hdD (allS hh.rs s name)), [.d hh.D, .d (tupD s), .d (.int name)])) : oS (F_found_at [.d hh.D, .d (tupD s), .d (.int name)]) Q := by
  refine fn_wp rfl rfl ?_
  show oS (D_found_at [some (.d hh.D), some (.d (tupD s)), some (.d (.int name))]) _
  unfold D_found_at
  try walk_at "mir3"
  refine wp_all_at hT hr hs h0 h7 ?_
  try walk_at "mir3"
  refine wp_nearest ?_
  try walk_at "mir3"
  exact h
end L2.Q3.Tx
end

section
set_option Elab.async false
set_option linter.all false
set_option maxRecDepth 100000
set_option maxHeartbeats 4000000
namespace L2.Q3.Tx
open PySem PySem.Spec PyProof.Rows L2
local macro_rules | `(tactic| walk_at "mir3") => `(tactic| simp (config := { decide := true, maxSteps := 2000000 }) only [Turn1, GTurn1, wipeR, restR, outTup, outLst, outStop, c_app, c_stop, ↓o_R3, o_R3, ↓o_seq, ↓o_if, ↓o_nx, ↓o_set, ↓o_ret, ↓o_drop, ↓o_store, ↓o_C, ↓o_var, ↓o_atom, ↓o_nil, ↓o_cons, ↓o_tB, ↓o_tV, ↓o_tNot, ↓o_tAnd, ↓o_tOr, ↓o_tY, ↓o_and, ↓o_or, ↓o_not, ↓o_ifE, ↓o_chain, ↓o_tup, ↓o_lst, ↓o_call, ↓o_isi, ↓o_foN, ↓o_foS, ↓o_sl, ↓o_meth, ↓o_sm, ↓o_dict1, ↓o_rev, ↓o_iseq, ↓o_R1, ↓o_enum, ↓o_zip,
  o_seq, o_if, o_nx, o_set, o_ret, o_drop, o_store, o_C, o_var, o_atom, o_nil, o_cons, o_tB, o_tV, o_tNot, o_tAnd, o_tOr, o_tY, o_and, o_or, o_not, o_ifE, o_chain, o_tup, o_lst, o_call, o_isi, o_foN, o_foS, o_sl, o_meth, o_sm, o_dict1, o_rev, o_iseq, o_R1, o_enum, o_zip,
  ↓oS_bind, ↓oS_some, ↓oS_none, ↓oS_ite_none, ↓oS_iteb, oS_bind, oS_some, oS_none, oS_ite_none, oS_iteb, g_mod, g_div, g_mul, g_sub, g_add, g_addT, g_addL, g_addS, g_cmp, g_eqI, g_neI, g_ixL, g_ixT, g_ixC, atI_lit0, atI_lit1, atI_lit2, atI_lit3,
  gN, gT, gsNil, gsCons, rdAll, rdW, rdSlot, escAll, esc1, argsOf, arg1, slots, put1, putBack, setW, outW, finOf, frAt, tru, itemsOf, gLen, gInt, gNeg,
  List.getElem?_cons_zero, List.getElem?_cons_succ, List.set_cons_zero, List.set_cons_succ, List.length_cons, List.length_nil, List.take_succ_cons, List.take_zero, List.map_cons, List.map_nil, Option.getD_some, Option.getD_none, Option.isSome_some, Option.isNone_none, Option.isNone_some, Option.bind_some, Option.bind_none, Bool.true_and, Bool.and_true, Bool.not_true, Bool.not_false, if_true, if_false, ite_true, ite_false, reduceCtorEq, true_and, and_true, List.nodup_cons, List.not_mem_nil, not_false_eq_true, List.nodup_nil, List.mem_singleton, List.mem_cons, Nat.reduceAdd, Nat.zero_add, Nat.reduceLeDiff, Nat.reduceEqDiff, Nat.reduceLT, Int.reduceNeg, Bool.false_eq_true, List.all_cons, List.all_nil, List.append_nil])

theorem g_eqK {k l : Int × List Int} {Q : W → Prop} : oS (gEq2 [keyD k, keyD l]) Q ↔ Q (.d (.bool (decide (k = l)))) := by
  show oS (gEq false [keyD k, keyD l]) Q ↔ _
  show oS (if SeqAt.shaped (keyD k) = true ∧ SeqAt.shaped (keyD l) = true then some (W.d (PyData.bool (PyData.eqv (keyD k) (keyD l) != false))) else none) Q ↔ _
  have sh : ∀ k : Int × List Int, SeqAt.shaped (keyD k) = true := fun k => by
    have := can_spot k.1 k.2
    unfold SeqAt.shaped keyD
    simp [this.1, this.2]
  rw [if_pos ⟨sh k, sh l⟩, oS_some, eqv_key]
  simp

def lawAll (rs : List Rcp) (s : List Int) (name : Int) : List Int := [2, 1, 0].flatMap fun n => if n ≤ s.length then atS rs name (s.take n) else []
theorem lawAll_eq (rs : List Rcp) (s : List Int) (name : Int) (hs : s.length ≤ 2) : lawAll rs s name = allS rs s name := by
  match s, hs with
  | [], _ => simp [lawAll, allS, around]
  | [a], _ => simp [lawAll, allS, around, List.range_succ]
  | [a, b], _ => simp [lawAll, allS, around, List.range_succ]
  | _ :: _ :: _ :: _, h => simp at h
theorem wp_law_all {hh : House} {s : List Int} {name : Int} (hr : hh.rs.length ≤ 100) (hs : s.length ≤ 2) {Q : W × List W → Prop} (h : Q (.fr ((allS hh.rs s name).map .int), [.d hh.D, .d (tupD s), .d (.int name)])) : oS (F__law_all [.d hh.D, .d (tupD s), .d (.int name)]) Q := by
  rw [← lawAll_eq hh.rs s name hs] at h
  refine fn_wp rfl rfl ?_
  show oS (D__law_all [some (.d (.tuple [tupD hh.ts, .tuple (hh.rs.map Rcp.D), .tuple (hh.tt.map Tst.D)])), some (.d (.tuple (s.map .int))), some (.d (.int name)), none, none, none, none]) _
  unfold D__law_all
  try walk_at "mir3"
  refine oS_for ?_
  try walk_at "mir3"
  refine ⟨fun items ρ => ∃ o4 done rest, ρ = [some (.d (.tuple [tupD hh.ts, .tuple (hh.rs.map Rcp.D), .tuple (hh.tt.map Tst.D)])), some (.d (.tuple (s.map .int))), some (.d (.int name)), some (.fr ((done.flatMap fun n => if n ≤ s.length then atS hh.rs name (s.take n) else []).map .int)), o4, none, none] ∧ [2, 1, 0] = done ++ rest ∧ items = rest.map (fun n : Nat => .int (n : Int)),
    ⟨none, [], [2, 1, 0], rfl, rfl, rfl⟩, ?_, ?_⟩
  · rintro ρ ⟨o4, done, rest, rfl, e1, e2⟩
    have e3 : rest = [] := by simpa using e2.symm
    subst e3
    have e4 : done = [2, 1, 0] := by simpa using e1.symm
    subst e4
    try walk_at "mir3"
    exact h
  · rintro x xs ρ ⟨o4, done, rest, rfl, e1, e2⟩
    cases rest with
    | nil => cases e2
    | cons n rest =>
      rw [List.map_cons] at e2
      cases e2
      have hn : n ≤ 2 := by
        have : n ∈ [2, 1, 0] := by rw [e1]; simp
        simp at this
        omega
      have hd : done.length ≤ 3 := by
        have := congrArg List.length e1
        simp at this
        omega
      have hdl : ∀ l : List Nat, (l.flatMap fun n => if n ≤ s.length then atS hh.rs name (s.take n) else []).length ≤ 100 * l.length := by
        intro l
        induction l with
        | nil => simp
        | cons b l ih =>
          have := atS_len hh.rs name (s.take b)
          simp only [List.flatMap_cons, List.length_append, List.length_cons]
          split
          · omega
          · rw [List.length_nil]; omega
      have hdone := hdl done
      try walk_at "mir3"
      simp only [List.length_map]
      by_cases hc : n ≤ s.length
      · have e5 : pGe (s.length : Int) (n : Int) = true := by
          show decide _ = true
          simp; omega
        simp only [e5]
        try walk_at "mir3"
        refine oS_comp ?_
        try walk_at "mir3"
        rw [enum_rs]
        refine ⟨fun items acc ρ => ∃ o5 o6 done1 rest1, ρ = [some (.d (.tuple [tupD hh.ts, .tuple (hh.rs.map Rcp.D), .tuple (hh.tt.map Tst.D)])), some (.d (.tuple (s.map .int))), some (.d (.int name)), some (.fr ((done.flatMap fun n => if n ≤ s.length then atS hh.rs name (s.take n) else []).map .int)), some (.d (.int (n : Int))), o5, o6] ∧ hh.rs.zipIdx = done1 ++ rest1 ∧ items = rest1.map (fun p => .tuple [.int ((p.2 : Nat) : Int), p.1.D]) ∧
          acc = ((done1.filter fun p => decide (p.1.name = name) && decide (p.1.spot = s.take n)).map fun p => ((p.2 : Nat) : Int)).map .int, ⟨_, _, [], hh.rs.zipIdx, rfl, rfl, rfl, rfl⟩, ?_, ?_⟩
        · rintro acc ρ ⟨o5', o6', done1, rest1, rfl, f1, f2, rfl⟩
          have f3 : rest1 = [] := by simpa using f2.symm
          subst f3
          have f4 : done1 = hh.rs.zipIdx := by simpa using f1.symm
          subst f4
          have hfl := List.length_filter_le (fun p : Rcp × Nat => decide (p.1.name = name) && decide (p.1.spot = s.take n)) hh.rs.zipIdx
          rw [List.length_zipIdx] at hfl
          try walk_at "mir3"
          refine ⟨by rw [List.length_map, List.length_map, List.length_map]; omega, some (.d (.int (n : Int))), done ++ [n], rest, ?_, by rw [e1]; simp, rfl⟩
          simp [atS, hc]
        · rintro y ys acc ρ ⟨o5', o6', done1, rest1, rfl, f1, f2, rfl⟩
          cases rest1 with
          | nil => cases f2
          | cons r rest1 =>
            obtain ⟨r, i⟩ := r
            rw [List.map_cons] at f2
            cases f2
            have hlen1 : done1.length ≤ 100 := by
              have := congrArg List.length f1
              simp at this
              omega
            have hfl := List.length_filter_le (fun p : Rcp × Nat => decide (p.1.name = name) && decide (p.1.spot = s.take n)) done1
            try walk_at "mir3"
            simp only [Rcp.D, cut2]
            try walk_at "mir3"
            rw [sl_take (by rw [List.length_map]; exact hc), tupD_take]
            try walk_at "mir3"
            refine (g_eqK (k := (r.name, r.spot)) (l := (name, s.take n))).mpr ?_
            by_cases hk : (r.name, r.spot) = (name, s.take n)
            · simp only [hk, decide_true]
              try walk_at "mir3"
              refine ⟨by rw [List.length_map, List.length_map]; omega, _, _, done1 ++ [(r, i)], rest1, rfl, by rw [f1]; simp, rfl, ?_⟩
              rw [List.filter_append]
              have h1 : r.name = name := congrArg Prod.fst hk
              have h2 : r.spot = s.take n := congrArg Prod.snd hk
              simp [h1, h2]
            · simp only [hk, decide_false]
              try walk_at "mir3"
              refine ⟨_, _, done1 ++ [(r, i)], rest1, rfl, by rw [f1]; simp, rfl, ?_⟩
              rw [List.filter_append]
              have : ¬ (r.name = name ∧ r.spot = s.take n) := fun ⟨h1, h2⟩ => hk (by rw [h1, h2])
              simp only [Prod.mk.injEq] at hk
              simp only [List.filter_cons, List.filter_nil]
              rw [if_neg (by simpa using hk)]
              simp
      · have e5 : pGe (s.length : Int) (n : Int) = false := by
          show decide _ = false
          simp; omega
        simp only [e5]
        try walk_at "mir3"
        refine ⟨some (.d (.int (n : Int))), done ++ [n], rest, ?_, by rw [e1]; simp, rfl⟩
        simp [hc]
end L2.Q3.Tx
end

section
set_option Elab.async false
set_option linter.all false
set_option maxRecDepth 100000
set_option maxHeartbeats 4000000
namespace L2.Q3.Tx
open PySem PySem.Spec PyProof.Rows L2
local macro_rules | `(tactic| walk_at "mir2") => `(tactic| simp (config := { decide := true, maxSteps := 2000000 }) only [Turn1, wipeR, restR, ↓o_seq, ↓o_if, ↓o_nx, ↓o_set, ↓o_ret, ↓o_drop, ↓o_store, ↓o_C, ↓o_var, ↓o_atom, ↓o_nil, ↓o_cons, ↓o_tB, ↓o_tV, ↓o_tNot, ↓o_tAnd, ↓o_tOr, ↓o_tY, ↓o_and, ↓o_or, ↓o_not, ↓o_ifE, ↓o_chain, ↓o_tup, ↓o_lst, ↓o_call, ↓o_isi, ↓o_foN, ↓o_foS, ↓o_sl, ↓o_meth, ↓o_sm, ↓o_dict1, ↓o_rev, ↓o_iseq, ↓o_R1, ↓o_enum, ↓o_zip,
  o_seq, o_if, o_nx, o_set, o_ret, o_drop, o_store, o_C, o_var, o_atom, o_nil, o_cons, o_tB, o_tV, o_tNot, o_tAnd, o_tOr, o_tY, o_and, o_or, o_not, o_ifE, o_chain, o_tup, o_lst, o_call, o_isi, o_foN, o_foS, o_sl, o_meth, o_sm, o_dict1, o_rev, o_iseq, o_R1, o_enum, o_zip,
  ↓oS_bind, ↓oS_some, ↓oS_none, ↓oS_ite_none, ↓oS_iteb, oS_bind, oS_some, oS_none, oS_ite_none, oS_iteb, g_mod, g_div, g_mul, g_sub, g_add, g_addT, g_addL, g_addS, g_cmp, g_eqI, g_neI, g_ixL, g_ixT, g_ixC, atI_lit0, atI_lit1, atI_lit2, atI_lit3,
  gN, gT, gsNil, gsCons, rdAll, rdW, rdSlot, escAll, esc1, argsOf, arg1, slots, put1, putBack, setW, outW, finOf, frAt, tru, itemsOf, gLen, gInt, gNeg,
  List.getElem?_cons_zero, List.getElem?_cons_succ, List.set_cons_zero, List.set_cons_succ, List.length_cons, List.length_nil, List.take_succ_cons, List.take_zero, List.map_cons, List.map_nil, Option.getD_some, Option.getD_none, Option.isSome_some, Option.isNone_none, Option.isNone_some, Option.bind_some, Option.bind_none, Bool.true_and, Bool.and_true, Bool.not_true, Bool.not_false, if_true, if_false, ite_true, ite_false, reduceCtorEq, true_and, and_true, List.nodup_cons, List.not_mem_nil, not_false_eq_true, List.nodup_nil, List.mem_singleton, List.mem_cons, Nat.reduceAdd, Nat.zero_add, Nat.reduceLeDiff, Nat.reduceEqDiff, Nat.reduceLT, Int.reduceNeg, Bool.false_eq_true, List.all_cons, List.all_nil, List.append_nil])
end L2.Q3.Tx
end

section
set_option Elab.async false
set_option linter.all false
set_option maxRecDepth 100000
set_option maxHeartbeats 4000000
namespace L2.Q3.Tx
open PySem PySem.Spec PyProof.Rows L2
local macro_rules | `(tactic| walk_at "mir2") => `(tactic| simp (config := { decide := true, maxSteps := 2000000 }) only [Turn1, wipeR, restR, ↓o_seq, ↓o_if, ↓o_nx, ↓o_set, ↓o_ret, ↓o_drop, ↓o_store, ↓o_C, ↓o_var, ↓o_atom, ↓o_nil, ↓o_cons, ↓o_tB, ↓o_tV, ↓o_tNot, ↓o_tAnd, ↓o_tOr, ↓o_tY, ↓o_and, ↓o_or, ↓o_not, ↓o_ifE, ↓o_chain, ↓o_tup, ↓o_lst, ↓o_call, ↓o_isi, ↓o_foN, ↓o_foS, ↓o_sl, ↓o_meth, ↓o_sm, ↓o_dict1, ↓o_rev, ↓o_iseq, ↓o_R1, ↓o_enum, ↓o_zip,
  o_seq, o_if, o_nx, o_set, o_ret, o_drop, o_store, o_C, o_var, o_atom, o_nil, o_cons, o_tB, o_tV, o_tNot, o_tAnd, o_tOr, o_tY, o_and, o_or, o_not, o_ifE, o_chain, o_tup, o_lst, o_call, o_isi, o_foN, o_foS, o_sl, o_meth, o_sm, o_dict1, o_rev, o_iseq, o_R1, o_enum, o_zip,
  ↓oS_bind, ↓oS_some, ↓oS_none, ↓oS_ite_none, ↓oS_iteb, oS_bind, oS_some, oS_none, oS_ite_none, oS_iteb, g_mod, g_div, g_mul, g_sub, g_add, g_addT, g_addL, g_addS, g_cmp, g_eqI, g_neI, g_ixL, g_ixT, g_ixC, atI_lit0, atI_lit1, atI_lit2, atI_lit3,
  gN, gT, gsNil, gsCons, rdAll, rdW, rdSlot, escAll, esc1, argsOf, arg1, slots, put1, putBack, setW, outW, finOf, frAt, tru, itemsOf, gLen, gInt, gNeg,
  List.getElem?_cons_zero, List.getElem?_cons_succ, List.set_cons_zero, List.set_cons_succ, List.length_cons, List.length_nil, List.take_succ_cons, List.take_zero, List.map_cons, List.map_nil, Option.getD_some, Option.getD_none, Option.isSome_some, Option.isNone_none, Option.isNone_some, Option.bind_some, Option.bind_none, Bool.true_and, Bool.and_true, Bool.not_true, Bool.not_false, if_true, if_false, ite_true, ite_false, reduceCtorEq, true_and, and_true, List.nodup_cons, List.not_mem_nil, not_false_eq_true, List.nodup_nil, List.mem_singleton, List.mem_cons, Nat.reduceAdd, Nat.zero_add, Nat.reduceLeDiff, Nat.reduceEqDiff, Nat.reduceLT, Int.reduceNeg, Bool.false_eq_true, List.all_cons, List.all_nil, List.append_nil])
theorem shaped_ints (s : List Int) : SeqAt.shaped (.tuple (s.map .int)) = true := by
  obtain ⟨h1, h2⟩ := can_ints s
  unfold SeqAt.shaped
  have e1 : PyData.canLay0 (.tuple (s.map .int)) = PyData.canLayAll0 (s.map .int) := rfl
  have e2 : PyData.depth (.tuple (s.map .int)) = PyData.depthAll (s.map .int) + 1 := rfl
  rw [e1, e2, h1, h2]; rfl
end L2.Q3.Tx
end

section
set_option Elab.async false
set_option linter.all false
set_option maxRecDepth 100000
set_option maxHeartbeats 4000000
namespace L2.Q3.Tx
open PySem PySem.Spec PyProof.Rows L2
local macro_rules | `(tactic| walk_at "mir2") => `(tactic| simp (config := { decide := true, maxSteps := 2000000 }) only [Turn1, wipeR, restR, ↓o_seq, ↓o_if, ↓o_nx, ↓o_set, ↓o_ret, ↓o_drop, ↓o_store, ↓o_C, ↓o_var, ↓o_atom, ↓o_nil, ↓o_cons, ↓o_tB, ↓o_tV, ↓o_tNot, ↓o_tAnd, ↓o_tOr, ↓o_tY, ↓o_and, ↓o_or, ↓o_not, ↓o_ifE, ↓o_chain, ↓o_tup, ↓o_lst, ↓o_call, ↓o_isi, ↓o_foN, ↓o_foS, ↓o_sl, ↓o_meth, ↓o_sm, ↓o_dict1, ↓o_rev, ↓o_iseq, ↓o_R1, ↓o_enum, ↓o_zip,
  o_seq, o_if, o_nx, o_set, o_ret, o_drop, o_store, o_C, o_var, o_atom, o_nil, o_cons, o_tB, o_tV, o_tNot, o_tAnd, o_tOr, o_tY, o_and, o_or, o_not, o_ifE, o_chain, o_tup, o_lst, o_call, o_isi, o_foN, o_foS, o_sl, o_meth, o_sm, o_dict1, o_rev, o_iseq, o_R1, o_enum, o_zip,
  ↓oS_bind, ↓oS_some, ↓oS_none, ↓oS_ite_none, ↓oS_iteb, oS_bind, oS_some, oS_none, oS_ite_none, oS_iteb, g_mod, g_div, g_mul, g_sub, g_add, g_addT, g_addL, g_addS, g_cmp, g_eqI, g_neI, g_ixL, g_ixT, g_ixC, atI_lit0, atI_lit1, atI_lit2, atI_lit3,
  gN, gT, gsNil, gsCons, rdAll, rdW, rdSlot, escAll, esc1, argsOf, arg1, slots, put1, putBack, setW, outW, finOf, frAt, tru, itemsOf, gLen, gInt, gNeg,
  List.getElem?_cons_zero, List.getElem?_cons_succ, List.set_cons_zero, List.set_cons_succ, List.length_cons, List.length_nil, List.take_succ_cons, List.take_zero, List.map_cons, List.map_nil, Option.getD_some, Option.getD_none, Option.isSome_some, Option.isNone_none, Option.isNone_some, Option.bind_some, Option.bind_none, Bool.true_and, Bool.and_true, Bool.not_true, Bool.not_false, if_true, if_false, ite_true, ite_false, reduceCtorEq, true_and, and_true, List.nodup_cons, List.not_mem_nil, not_false_eq_true, List.nodup_nil, List.mem_singleton, List.mem_cons, Nat.reduceAdd, Nat.zero_add, Nat.reduceLeDiff, Nat.reduceEqDiff, Nat.reduceLT, Int.reduceNeg, Bool.false_eq_true, List.all_cons, List.all_nil, List.append_nil])
end L2.Q3.Tx
end

section
set_option Elab.async false
set_option linter.all false
set_option maxRecDepth 100000
set_option maxHeartbeats 4000000
namespace L2.Q3.Tx
open PySem PySem.Spec PyProof.Rows L2
local macro_rules | `(tactic| walk_at "mir3") => `(tactic| simp (config := { decide := true, maxSteps := 2000000 }) only [Turn1, GTurn1, wipeR, restR, outTup, outLst, outStop, c_app, c_stop, ↓o_R3, o_R3, ↓o_seq, ↓o_if, ↓o_nx, ↓o_set, ↓o_ret, ↓o_drop, ↓o_store, ↓o_C, ↓o_var, ↓o_atom, ↓o_nil, ↓o_cons, ↓o_tB, ↓o_tV, ↓o_tNot, ↓o_tAnd, ↓o_tOr, ↓o_tY, ↓o_and, ↓o_or, ↓o_not, ↓o_ifE, ↓o_chain, ↓o_tup, ↓o_lst, ↓o_call, ↓o_isi, ↓o_foN, ↓o_foS, ↓o_sl, ↓o_meth, ↓o_sm, ↓o_dict1, ↓o_rev, ↓o_iseq, ↓o_R1, ↓o_enum, ↓o_zip,
  o_seq, o_if, o_nx, o_set, o_ret, o_drop, o_store, o_C, o_var, o_atom, o_nil, o_cons, o_tB, o_tV, o_tNot, o_tAnd, o_tOr, o_tY, o_and, o_or, o_not, o_ifE, o_chain, o_tup, o_lst, o_call, o_isi, o_foN, o_foS, o_sl, o_meth, o_sm, o_dict1, o_rev, o_iseq, o_R1, o_enum, o_zip,
  ↓oS_bind, ↓oS_some, ↓oS_none, ↓oS_ite_none, ↓oS_iteb, oS_bind, oS_some, oS_none, oS_ite_none, oS_iteb, g_mod, g_div, g_mul, g_sub, g_add, g_addT, g_addL, g_addS, g_cmp, g_eqI, g_neI, g_ixL, g_ixT, g_ixC, atI_lit0, atI_lit1, atI_lit2, atI_lit3,
  gN, gT, gsNil, gsCons, rdAll, rdW, rdSlot, escAll, esc1, argsOf, arg1, slots, put1, putBack, setW, outW, finOf, frAt, tru, itemsOf, gLen, gInt, gNeg,
  List.getElem?_cons_zero, List.getElem?_cons_succ, List.set_cons_zero, List.set_cons_succ, List.length_cons, List.length_nil, List.take_succ_cons, List.take_zero, List.map_cons, List.map_nil, Option.getD_some, Option.getD_none, Option.isSome_some, Option.isNone_none, Option.isNone_some, Option.bind_some, Option.bind_none, Bool.true_and, Bool.and_true, Bool.not_true, Bool.not_false, if_true, if_false, ite_true, ite_false, reduceCtorEq, true_and, and_true, List.nodup_cons, List.not_mem_nil, not_false_eq_true, List.nodup_nil, List.mem_singleton, List.mem_cons, Nat.reduceAdd, Nat.zero_add, Nat.reduceLeDiff, Nat.reduceEqDiff, Nat.reduceLT, Int.reduceNeg, Bool.false_eq_true, List.all_cons, List.all_nil, List.append_nil])
theorem g_neTT {s t : List Int} {Q : W → Prop} : oS (gEq true [tupD s, tupD t]) Q ↔ Q (.d (.bool (!decide (s = t)))) := by
  show oS (if SeqAt.shaped (tupD s) = true ∧ SeqAt.shaped (tupD t) = true then some (W.d (PyData.bool (PyData.eqv (tupD s) (tupD t) != true))) else none) Q ↔ _
  rw [if_pos ⟨shaped_ints s, shaped_ints t⟩, oS_some]
  have e : PyData.eqv (tupD s) (tupD t) = decide (s = t) := eqv_ints s t
  rw [e]
  simp
theorem hdD_self (l : List Int) : PyData.eqv (hdD l) (hdD l) = true := by
  cases l with
  | nil => rfl
  | cons x l => simp [hdD, PyData.eqv]
theorem hdD_shaped (l : List Int) : SeqAt.shaped (hdD l) = true := by
  cases l <;> rfl
theorem g_neH {l : List Int} {Q : W → Prop} : oS (gEq true [hdD l, hdD l]) Q ↔ Q (.d (.bool false)) := by
  show oS (if SeqAt.shaped (hdD l) = true ∧ SeqAt.shaped (hdD l) = true then some (W.d (PyData.bool (PyData.eqv (hdD l) (hdD l) != true))) else none) Q ↔ _
  rw [if_pos ⟨hdD_shaped l, hdD_shaped l⟩, oS_some, hdD_self]
  rfl
theorem atI_hd (l : List Int) : atI (l.map PyData.int ++ [PyData.none]) 0 = some (hdD l) := by
  cases l with
  | nil => exact atI_lit0
  | cons x l => exact atI_lit0
theorem around_cons (s : List Int) : ∃ r, around s = s :: r ∧ ∀ a ∈ r, a ≠ s := by
  refine ⟨(List.range s.length).map fun k => s.take (s.length - (k + 1)), ?_, ?_⟩
  · unfold around
    rw [List.range_succ_eq_map, List.map_cons, List.map_map]
    simp
  · intro a ha e
    obtain ⟨k, hk, rfl⟩ := List.mem_map.mp ha
    have := congrArg List.length e
    have hk := List.mem_range.mp hk
    simp at this
    omega
theorem atS_snoc (rs : List Rcp) (r : Rcp) (name : Int) (a : List Int) : atS (rs ++ [r]) name a = atS rs name a ++ (if r.name = name ∧ r.spot = a then [(rs.length : Int)] else []) := by
  unfold atS
  rw [List.zipIdx_append, List.filter_append, List.map_append]
  congr 1
  by_cases h : r.name = name ∧ r.spot = a
  · rw [if_pos h]
    simp [h.1, h.2]
  · rw [if_neg h]
    simp only [List.zipIdx_cons, List.zipIdx_nil, List.filter_cons, List.filter_nil]
    rw [if_neg (by simpa using h)]
    rfl
theorem atS_none (rs : List Rcp) (name : Int) (a : List Int) (h : (name, a) ∉ rs.map fun r => (r.name, r.spot)) : atS rs name a = [] := by
  unfold atS
  rw [List.map_eq_nil_iff, List.filter_eq_nil_iff]
  rintro ⟨r, i⟩ hr hc
  have hm : r ∈ rs := (List.mem_zipIdx' hr).2 ▸ List.getElem_mem _
  simp only [Bool.and_eq_true, decide_eq_true_eq] at hc
  exact h (List.mem_map.mpr ⟨r, hm, by rw [hc.1, hc.2]⟩)
theorem allS_more (rs : List Rcp) (s : List Int) (name k t : Int) (nd : List Int) (h : (name, s) ∉ rs.map fun r => (r.name, r.spot)) : allS (rs ++ [⟨name, s, k, t, nd⟩]) s name = (rs.length : Int) :: allS rs s name := by
  obtain ⟨r, e, hr⟩ := around_cons s
  unfold allS
  rw [e, List.flatMap_cons, List.flatMap_cons, atS_snoc, atS_none rs name s h, if_pos ⟨rfl, rfl⟩]
  simp only [List.nil_append, List.singleton_append, List.cons.injEq, true_and]
  have : ∀ l : List (List Int), (∀ a ∈ l, a ≠ s) → (l.flatMap fun a => atS (rs ++ [⟨name, s, k, t, nd⟩]) name a) = l.flatMap fun a => atS rs name a := by
    intro l
    induction l with
    | nil => intro _; rfl
    | cons a l ih =>
      intro hl
      rw [List.flatMap_cons, List.flatMap_cons, ih fun b hb => hl b (List.mem_cons_of_mem _ hb), atS_snoc, if_neg (fun z => hl a List.mem_cons_self z.2.symm), List.append_nil]
  exact this r hr
theorem allS_len (rs : List Rcp) (s : List Int) (name : Int) (hr : rs.length ≤ 100) (hs : s.length ≤ 2) : (allS rs s name).length ≤ 300 := by
  have hdl : ∀ l : List (List Int), (l.flatMap fun a => atS rs name a).length ≤ 100 * l.length := by
    intro l
    induction l with
    | nil => simp
    | cons b l ih =>
      have := atS_len rs name b
      simp only [List.flatMap_cons, List.length_append, List.length_cons]
      omega
  have h1 := hdl (around s)
  rw [around_len] at h1
  show ((around s).flatMap fun a => atS rs name a).length ≤ 300
  omega
theorem true_law_v2 (ns : List Int) (hl : ns.length ≤ 63) : ∃ fin, F_law_v2 [scrD ns] = some (.d (.bool true), fin) := by
  have main : oS (F_law_v2 [scrD ns]) fun r => r.1 = .d (.bool true) := by
    refine fn_wp rfl rfl ?_
    show oS (D_law_v2 [some (scrD ns), none, none, none, none, none, none, none, none, none]) _
    unfold D_law_v2
    rw [o_seq]
    refine oS_for ?_
    unfold scrD
    try walk_at "mir3"
    simp only [g_min, g_max]
    try walk_at "mir3"
    simp only [g_min, g_max]
    try walk_at "mir3"
    refine ⟨⟨by split <;> split <;> omega, by split <;> split <;> omega⟩, fun items ρ => ∃ o1 o2 o3 o4 o5 o6 o7 o8 o9, ρ = [some (.d (.dict [(.none, .list (ns.map .int))])), o1, o2, o3, o4, o5, o6, o7, o8, o9] ∧ ∀ x ∈ items, ∃ k : Nat, x = .int (k : Int),
      ⟨none, none, none, none, none, none, none, none, none, rfl, fun x hx => ?_⟩, ?_, ?_⟩
    · obtain ⟨t, rfl, _⟩ := range_ints hx
      exact ⟨t, rfl⟩
    · rintro ρ ⟨o1, o2, o3, o4, o5, o6, o7, o8, o9, rfl, _⟩
      try walk_at "mir3"
    · rintro x xs ρ ⟨o1, o2, o3, o4, o5, o6, o7, o8, o9, rfl, hx⟩
      obtain ⟨k, rfl⟩ := hx x List.mem_cons_self
      have hxs : ∀ x ∈ xs, ∃ k : Nat, x = PyData.int (k : Int) := fun x h => hx x (List.mem_cons_of_mem _ h)
      try walk_at "mir3"
      refine wp_cell (ns := ns) (k := (k : Int)) (by omega) fun c => ?_
      unfold scrD
      try walk_at "mir3"
      refine wp_pen fun p hp => ?_
      try walk_at "mir3"
      refine wp_rawH hp fun hh p1 hH hp1 => ?_
      try walk_at "mir3"
      have hT := hH.tab
      have hr : hh.rs.length ≤ 100 := by have := hH.rlen; omega
      rw [show hh.D = .tuple [tupD hh.ts, .tuple (hh.rs.map Rcp.D), .tuple (hh.tt.map Tst.D)] from rfl]
      try walk_at "mir3"
      refine wp_spots hT.2.1 (tab0 hT) ?_
      try walk_at "mir3"
      have hsp := spots_pos hh.ts
      have hsl := spots_len hT.2.1 (tab0 hT)
      refine oS_for ?_
      try walk_at "mir3"
      refine ⟨fun items ρ => ∃ o5 o6 o9, ρ = [some (.d (.dict [(.none, .list (ns.map .int))])), some (.d (.int k)), some (.fr p1), some (.d (.tuple [tupD hh.ts, .tuple (hh.rs.map Rcp.D), .tuple (hh.tt.map Tst.D)])), some (.d (.list (spotsD hh.ts))), o5, o6, o7, o8, o9] ∧ ∀ x ∈ items, x ∈ spotsD hh.ts, ⟨o5, o6, o9, rfl, fun x hx => hx⟩, ?_, ?_⟩
      case refine_2 =>
        rintro x ys ρ ⟨o5', o6', o9', rfl, hx⟩
        obtain ⟨s, rfl, hs⟩ := spots_mem (hx x List.mem_cons_self)
        have hys : ∀ x ∈ ys, x ∈ spotsD hh.ts := fun x h => hx x (List.mem_cons_of_mem _ h)
        try walk_at "mir3"
        refine oS_for ?_
        try walk_at "mir3"
        refine ⟨fun items ρ => ∃ o6 o9, ρ = [some (.d (.dict [(.none, .list (ns.map .int))])), some (.d (.int k)), some (.fr p1), some (.d (.tuple [tupD hh.ts, .tuple (hh.rs.map Rcp.D), .tuple (hh.tt.map Tst.D)])), some (.d (.list (spotsD hh.ts))), some (.d (tupD s)), o6, o7, o8, o9] ∧ ∀ x ∈ items, ∃ k : Nat, x = .int (k : Int) ∧ k < 8, ⟨o6', o9', rfl, fun x hx => range_ints hx⟩, ?_, ?_⟩
        · rintro ρ ⟨o6, o9, rfl, _⟩
          exact ⟨_, _, _, rfl, hys⟩
        · rintro x zs ρ ⟨o6, o9, rfl, hz⟩
          obtain ⟨m, rfl, hm⟩ := hz x List.mem_cons_self
          try walk_at "mir3"
          refine wp_law_all (hh := hh) (name := (m : Int)) hr (spot_len hs) ?_
          try walk_at "mir3"
          refine wp_all_at (hh := hh) (name := (m : Int)) hT hr hs (by omega) (by omega) ?_
          try walk_at "mir3"
          simp only [g_tuple]
          try walk_at "mir3"
          refine g_neTT.mpr ?_
          simp only [decide_true]
          try walk_at "mir3"
          refine wp_found_at (hh := hh) (name := (m : Int)) hT hr hs (by omega) (by omega) ?_
          try walk_at "mir3"
          refine ⟨by rw [List.length_map]; have := allS_len hh.rs s (m : Int) hr (spot_len hs); omega, ?_⟩
          rw [atI_hd]
          try walk_at "mir3"
          refine g_neH.mpr ?_
          try walk_at "mir3"
          exact ⟨_, _, rfl, fun x h => hz x (List.mem_cons_of_mem _ h)⟩
      rintro ρ ⟨o5', o6', o9', rfl, _⟩
      try walk_at "mir3"
      refine wp_draw hp1 (by omega) (by omega) fun r p2 hp2 r0 r1 => ?_
      try walk_at "mir3"
      refine oS_atI r0 r1 fun x hx _ => ?_
      obtain ⟨s, rfl, hs⟩ := spots_mem hx
      try walk_at "mir3"
      refine wp_draw hp2 (by decide) (by decide) fun name p3 hp3 n0 n1 => ?_
      try walk_at "mir3"
      have fin : ∀ o7 o8 o9 : Option W, ∃ o1 o2 o3 o4 o5 o6 o7' o8' o9', [some (.d (.dict [(.none, .list (ns.map .int))])), some (.d (.int k)), some (.fr p3), some (.d (.tuple [tupD hh.ts, .tuple (hh.rs.map Rcp.D), .tuple (hh.tt.map Tst.D)])), some (.d (.list (spotsD hh.ts))), some (.d (tupD s)), some (.d (.int name)), o7, o8, o9] = [some (.d (.dict [(.none, .list (ns.map .int))])), o1, o2, o3, o4, o5, o6, o7', o8', o9'] ∧ ∀ x ∈ xs, ∃ k : Nat, x = PyData.int (k : Int) := fun o7 o8 o9 => ⟨_, _, _, _, _, _, _, _, _, rfl, hxs⟩
      simp only [List.length_map]
      by_cases h8 : pLt (hh.rs.length : Int) 8 = true
      case neg =>
        rw [if_neg h8]
        try walk_at "mir3"
        exact fin _ _ _
      rw [if_pos h8]
      refine oS_g1 ?_
      try walk_at "mir3"
      refine ⟨fun items acc ρ => ∃ o9 done rest, ρ = [some (.d (.dict [(.none, .list (ns.map .int))])), some (.d (.int k)), some (.fr p3), some (.d (.tuple [tupD hh.ts, .tuple (hh.rs.map Rcp.D), .tuple (hh.tt.map Tst.D)])), some (.d (.list (spotsD hh.ts))), some (.d (tupD s)), some (.d (.int name)), o7, o8, o9] ∧ hh.rs = done ++ rest ∧ items = rest.map Rcp.D ∧ acc = (done.map fun r => (r.name, r.spot)).map keyD, ⟨_, [], hh.rs, rfl, rfl, rfl, rfl⟩, ?_, ?_⟩
      case refine_2 =>
        rintro x ys acc ρ ⟨o9, done, rest, rfl, e1, e2, rfl⟩
        cases rest with
        | nil => cases e2
        | cons rr rest =>
          rw [List.map_cons] at e2
          cases e2
          have hd : done.length ≤ 100 := by
            have := congrArg List.length e1
            simp at this
            omega
          simp only [Rcp.D]
          try walk_at "mir3"
          simp only [cut2]
          try walk_at "mir3"
          refine ⟨by simp; omega, _, done ++ [rr], rest, rfl, by rw [e1]; simp, rfl, ?_⟩
          simp [keyD]
      rintro acc ρ ⟨o9, done, rest, rfl, e1, e2, rfl⟩
      have e3 : rest = [] := by simpa using e2.symm
      subst e3
      have e4 : done = hh.rs := by simpa using e1.symm
      subst e4
      try walk_at "mir3"
      refine (g_inK (k := (name, s))).mpr ?_
      by_cases hk : (name, s) ∈ hh.rs.map fun r => (r.name, r.spot)
      · simp only [hk, decide_true]
        try walk_at "mir3"
        exact fin _ _ _
      · simp only [hk, decide_false]
        try walk_at "mir3"
        refine ⟨by rw [List.length_map]; omega, ?_⟩
        refine wp_law_all (hh := hh) hr (spot_len hs) ?_
        try walk_at "mir3"
        simp only [g_tuple]
        try walk_at "mir3"
        have em : hh.rs.map Rcp.D ++ [.tuple [.int name, tupD s, .int 0, .int 1, .tuple []]] = (hh.rs ++ [(⟨name, s, 0, 1, []⟩ : Rcp)]).map Rcp.D := by simp [Rcp.D, tupD]
        have al := allS_len hh.rs s name hr (spot_len hs)
        refine ⟨by rw [List.length_map]; omega, ?_⟩
        simp only [em]
        refine wp_all_at (hh := { hh with rs := hh.rs ++ [⟨name, s, 0, 1, []⟩] }) hT (by simp; have := hH.rlen; omega) hs n0 (by omega) ?_
        try walk_at "mir3"
        rw [allS_more hh.rs s name 0 1 [] hk]
        simp only [List.length_map]
        refine (g_neTT (s := (hh.rs.length : Int) :: allS hh.rs s name) (t := (hh.rs.length : Int) :: allS hh.rs s name)).mpr ?_
        simp only [decide_true]
        try walk_at "mir3"
        refine wp_found_at (hh := { hh with rs := hh.rs ++ [⟨name, s, 0, 1, []⟩] }) hT (by simp; have := hH.rlen; omega) hs n0 (by omega) ?_
        try walk_at "mir3"
        rw [allS_more hh.rs s name 0 1 [] hk]
        simp only [List.singleton_append, List.cons_append, List.nil_append]
        try walk_at "mir3"
        simp only [hdD]
        try walk_at "mir3"
        simp only [beq_self_eq_true]
        try walk_at "mir3"
        refine wp_found_at (hh := hh) hT hr hs n0 (by omega) ?_
        try walk_at "mir3"
        simp only [List.singleton_append, List.cons_append, List.nil_append, List.length_append, List.length_map, List.length_cons, List.length_nil]
        refine ⟨by omega, ?_⟩
        have e9 : atI (PyData.int (hh.rs.length : Int) :: ((allS hh.rs s name).map PyData.int ++ [PyData.none])) 1 = some (hdD (allS hh.rs s name)) := by
          cases allS hh.rs s name with
          | nil => exact atI_lit1
          | cons x l => exact atI_lit1
        rw [e9]
        try walk_at "mir3"
        refine g_neH.mpr ?_
        try walk_at "mir3"
        exact fin _ _ _
  obtain ⟨⟨r, fin⟩, e, h⟩ := main
  exact ⟨fin, by rw [e]; rw [show r = .d (.bool true) from h]⟩
end L2.Q3.Tx
end

section
set_option Elab.async false
set_option linter.all false
set_option maxRecDepth 100000
set_option maxHeartbeats 4000000
namespace L2.Q3.Tk03
open PySem PySem.Spec PyProof.Rows L2.Q3.Tx
theorem all_mk {l : PySem.W.OpenLaw} {q : Program} {w : World} {K : PySem.W.Frag} {h : Heap} {mg : Str → Option Value} (X : K.In h) (G : h.Ns mainGlobals mg)
    {f__law_all : Addr} {od__law_all an__law_all : Option Addr} {sl__law_all : Array (Option Value)} {oc__law_all kV__law_all dc__law_all pm__law_all ct__law_all : Value} {cd__law_all : Value}
    {f__law_cell_at : Addr} {od__law_cell_at an__law_cell_at : Option Addr} {sl__law_cell_at : Array (Option Value)} {oc__law_cell_at kV__law_cell_at dc__law_cell_at pm__law_cell_at ct__law_cell_at : Value} {cd__law_cell_at : Value}
    {f__law_draw : Addr} {od__law_draw an__law_draw : Option Addr} {sl__law_draw : Array (Option Value)} {oc__law_draw kV__law_draw dc__law_draw pm__law_draw ct__law_draw : Value} {cd__law_draw : Value}
    {f__law_pen : Addr} {od__law_pen an__law_pen : Option Addr} {sl__law_pen : Array (Option Value)} {oc__law_pen kV__law_pen dc__law_pen pm__law_pen ct__law_pen : Value} {cd__law_pen : Value}
    {f__law_needs : Addr} {od__law_needs an__law_needs : Option Addr} {sl__law_needs : Array (Option Value)} {oc__law_needs kV__law_needs dc__law_needs pm__law_needs ct__law_needs : Value} {cd__law_needs : Value}
    {f__law_spots : Addr} {od__law_spots an__law_spots : Option Addr} {sl__law_spots : Array (Option Value)} {oc__law_spots kV__law_spots dc__law_spots pm__law_spots ct__law_spots : Value} {cd__law_spots : Value}
    {f__law_words : Addr} {od__law_words an__law_words : Option Addr} {sl__law_words : Array (Option Value)} {oc__law_words kV__law_words dc__law_words pm__law_words ct__law_words : Value} {cd__law_words : Value}
    {f__law_raw : Addr} {od__law_raw an__law_raw : Option Addr} {sl__law_raw : Array (Option Value)} {oc__law_raw kV__law_raw dc__law_raw pm__law_raw ct__law_raw : Value} {cd__law_raw : Value}
    {f_spots_around : Addr} {od_spots_around an_spots_around : Option Addr} {sl_spots_around : Array (Option Value)} {oc_spots_around kV_spots_around dc_spots_around pm_spots_around ct_spots_around : Value} {cd_spots_around : Value}
    {f_recipes_from : Addr} {od_recipes_from an_recipes_from : Option Addr} {sl_recipes_from : Array (Option Value)} {oc_recipes_from kV_recipes_from dc_recipes_from pm_recipes_from ct_recipes_from : Value} {ca_recipes_from tp_recipes_from : Addr} {rd_recipes_from : Option Addr} {rs_recipes_from : Array (Option Value)} {rv_recipes_from : Array Value}
    {f_is_number : Addr} {od_is_number an_is_number : Option Addr} {sl_is_number : Array (Option Value)} {oc_is_number kV_is_number dc_is_number pm_is_number ct_is_number : Value} {cd_is_number : Value}
    {f_is_whole : Addr} {od_is_whole an_is_whole : Option Addr} {sl_is_whole : Array (Option Value)} {oc_is_whole kV_is_whole dc_is_whole pm_is_whole ct_is_whole : Value} {cd_is_whole : Value}
    {f_refuse_no_number : Addr} {od_refuse_no_number an_refuse_no_number : Option Addr} {sl_refuse_no_number : Array (Option Value)} {oc_refuse_no_number kV_refuse_no_number dc_refuse_no_number pm_refuse_no_number ct_refuse_no_number : Value} {cd_refuse_no_number : Value}
    {f_is_tuple_of : Addr} {od_is_tuple_of an_is_tuple_of : Option Addr} {sl_is_tuple_of : Array (Option Value)} {oc_is_tuple_of kV_is_tuple_of dc_is_tuple_of pm_is_tuple_of ct_is_tuple_of : Value} {cd_is_tuple_of : Value}
    {f_is_spot_of : Addr} {od_is_spot_of an_is_spot_of : Option Addr} {sl_is_spot_of : Array (Option Value)} {oc_is_spot_of kV_is_spot_of dc_is_spot_of pm_is_spot_of ct_is_spot_of : Value} {cd_is_spot_of : Value}
    {f_is_spot : Addr} {od_is_spot an_is_spot : Option Addr} {sl_is_spot : Array (Option Value)} {oc_is_spot kV_is_spot dc_is_spot pm_is_spot ct_is_spot : Value} {cd_is_spot : Value}
    {f_refuse_no_spot : Addr} {od_refuse_no_spot an_refuse_no_spot : Option Addr} {sl_refuse_no_spot : Array (Option Value)} {oc_refuse_no_spot kV_refuse_no_spot dc_refuse_no_spot pm_refuse_no_spot ct_refuse_no_spot : Value} {cd_refuse_no_spot : Value}
    {f_all_at : Addr} {od_all_at an_all_at : Option Addr} {sl_all_at : Array (Option Value)} {oc_all_at kV_all_at dc_all_at pm_all_at ct_all_at : Value} {cd_all_at : Value}
    {f_nearest_of : Addr} {od_nearest_of an_nearest_of : Option Addr} {sl_nearest_of : Array (Option Value)} {oc_nearest_of kV_nearest_of dc_nearest_of pm_nearest_of ct_nearest_of : Value} {cd_nearest_of : Value}
    {f_found_at : Addr} {od_found_at an_found_at : Option Addr} {sl_found_at : Array (Option Value)} {oc_found_at kV_found_at dc_found_at pm_found_at ct_found_at : Value} {cd_found_at : Value}
    {f_law : Addr} {od_law an_law : Option Addr} {sl_law : Array (Option Value)} {oc_law kV_law dc_law pm_law ct_law : Value} {cd_law : Value}
    {vt_MOST_NAME : _}
    (hq : (["recipes_from"] : List Str).all (fun nm => (recsOf q).any fun r => r.name == nm) = true)
    (a__law_all : PySem.W.nsIn K mainGlobals "_law_all" = some (some (.ref f__law_all))) (l__law_all : K.lookup f__law_all = some ⟨oc__law_all, od__law_all, .func (PySem.W.fnOf "_law_all" "_law_all" (defArgs s__law_all) (defBody s__law_all) (defScope s__law_all) .none kV__law_all dc__law_all pm__law_all an__law_all cd__law_all ct__law_all), sl__law_all⟩) (c__law_all : PySem.W.codeIn K cd__law_all "_law_all" = true) (k__law_all : PySem.W.keepIn K (.ref f__law_all) = true)
    (a__law_cell_at : PySem.W.nsIn K mainGlobals "_law_cell_at" = some (some (.ref f__law_cell_at))) (l__law_cell_at : K.lookup f__law_cell_at = some ⟨oc__law_cell_at, od__law_cell_at, .func (PySem.W.fnOf "_law_cell_at" "_law_cell_at" (defArgs s__law_cell_at) (defBody s__law_cell_at) (defScope s__law_cell_at) .none kV__law_cell_at dc__law_cell_at pm__law_cell_at an__law_cell_at cd__law_cell_at ct__law_cell_at), sl__law_cell_at⟩) (c__law_cell_at : PySem.W.codeIn K cd__law_cell_at "_law_cell_at" = true) (k__law_cell_at : PySem.W.keepIn K (.ref f__law_cell_at) = true)
    (a__law_draw : PySem.W.nsIn K mainGlobals "_law_draw" = some (some (.ref f__law_draw))) (l__law_draw : K.lookup f__law_draw = some ⟨oc__law_draw, od__law_draw, .func (PySem.W.fnOf "_law_draw" "_law_draw" (defArgs s__law_draw) (defBody s__law_draw) (defScope s__law_draw) .none kV__law_draw dc__law_draw pm__law_draw an__law_draw cd__law_draw ct__law_draw), sl__law_draw⟩) (c__law_draw : PySem.W.codeIn K cd__law_draw "_law_draw" = true) (k__law_draw : PySem.W.keepIn K (.ref f__law_draw) = true)
    (a__law_pen : PySem.W.nsIn K mainGlobals "_law_pen" = some (some (.ref f__law_pen))) (l__law_pen : K.lookup f__law_pen = some ⟨oc__law_pen, od__law_pen, .func (PySem.W.fnOf "_law_pen" "_law_pen" (defArgs s__law_pen) (defBody s__law_pen) (defScope s__law_pen) .none kV__law_pen dc__law_pen pm__law_pen an__law_pen cd__law_pen ct__law_pen), sl__law_pen⟩) (c__law_pen : PySem.W.codeIn K cd__law_pen "_law_pen" = true) (k__law_pen : PySem.W.keepIn K (.ref f__law_pen) = true)
    (a__law_needs : PySem.W.nsIn K mainGlobals "_law_needs" = some (some (.ref f__law_needs))) (l__law_needs : K.lookup f__law_needs = some ⟨oc__law_needs, od__law_needs, .func (PySem.W.fnOf "_law_needs" "_law_needs" (defArgs s__law_needs) (defBody s__law_needs) (defScope s__law_needs) .none kV__law_needs dc__law_needs pm__law_needs an__law_needs cd__law_needs ct__law_needs), sl__law_needs⟩) (c__law_needs : PySem.W.codeIn K cd__law_needs "_law_needs" = true) (k__law_needs : PySem.W.keepIn K (.ref f__law_needs) = true)
    (a__law_spots : PySem.W.nsIn K mainGlobals "_law_spots" = some (some (.ref f__law_spots))) (l__law_spots : K.lookup f__law_spots = some ⟨oc__law_spots, od__law_spots, .func (PySem.W.fnOf "_law_spots" "_law_spots" (defArgs s__law_spots) (defBody s__law_spots) (defScope s__law_spots) .none kV__law_spots dc__law_spots pm__law_spots an__law_spots cd__law_spots ct__law_spots), sl__law_spots⟩) (c__law_spots : PySem.W.codeIn K cd__law_spots "_law_spots" = true) (k__law_spots : PySem.W.keepIn K (.ref f__law_spots) = true)
    (a__law_words : PySem.W.nsIn K mainGlobals "_law_words" = some (some (.ref f__law_words))) (l__law_words : K.lookup f__law_words = some ⟨oc__law_words, od__law_words, .func (PySem.W.fnOf "_law_words" "_law_words" (defArgs s__law_words) (defBody s__law_words) (defScope s__law_words) .none kV__law_words dc__law_words pm__law_words an__law_words cd__law_words ct__law_words), sl__law_words⟩) (c__law_words : PySem.W.codeIn K cd__law_words "_law_words" = true) (k__law_words : PySem.W.keepIn K (.ref f__law_words) = true)
    (a__law_raw : PySem.W.nsIn K mainGlobals "_law_raw" = some (some (.ref f__law_raw))) (l__law_raw : K.lookup f__law_raw = some ⟨oc__law_raw, od__law_raw, .func (PySem.W.fnOf "_law_raw" "_law_raw" (defArgs s__law_raw) (defBody s__law_raw) (defScope s__law_raw) .none kV__law_raw dc__law_raw pm__law_raw an__law_raw cd__law_raw ct__law_raw), sl__law_raw⟩) (c__law_raw : PySem.W.codeIn K cd__law_raw "_law_raw" = true) (k__law_raw : PySem.W.keepIn K (.ref f__law_raw) = true)
    (a_spots_around : PySem.W.nsIn K mainGlobals "spots_around" = some (some (.ref f_spots_around))) (l_spots_around : K.lookup f_spots_around = some ⟨oc_spots_around, od_spots_around, .func (PySem.W.fnOf "spots_around" "spots_around" (defArgs s_spots_around) (defBody s_spots_around) (defScope s_spots_around) .none kV_spots_around dc_spots_around pm_spots_around an_spots_around cd_spots_around ct_spots_around), sl_spots_around⟩) (c_spots_around : PySem.W.codeIn K cd_spots_around "spots_around" = true) (k_spots_around : PySem.W.keepIn K (.ref f_spots_around) = true)
    (a_recipes_from : PySem.W.nsIn K mainGlobals "recipes_from" = some (some (.ref f_recipes_from))) (l_recipes_from : K.lookup f_recipes_from = some ⟨oc_recipes_from, od_recipes_from, .func (PySem.W.fnOf "recipes_from" "recipes_from" (defArgs s_recipes_from) (defBody s_recipes_from) (defScope s_recipes_from) .none kV_recipes_from dc_recipes_from pm_recipes_from an_recipes_from (.ref ca_recipes_from) ct_recipes_from), sl_recipes_from⟩) (c_recipes_from : PySem.W.codeIn K (.ref ca_recipes_from) "recipes_from" = true) (k_recipes_from : PySem.W.keepIn K (.ref f_recipes_from) = true)
    (r_recipes_from : K.lookup ca_recipes_from = some ⟨.type "code", rd_recipes_from, .fields rv_recipes_from, rs_recipes_from⟩) (p_recipes_from : recV rv_recipes_from = some tp_recipes_from) (t_recipes_from : (K.lookup tp_recipes_from).isNone = true)
    (a_is_number : PySem.W.nsIn K mainGlobals "is_number" = some (some (.ref f_is_number))) (l_is_number : K.lookup f_is_number = some ⟨oc_is_number, od_is_number, .func (PySem.W.fnOf "is_number" "is_number" (defArgs s_is_number) (defBody s_is_number) (defScope s_is_number) .none kV_is_number dc_is_number pm_is_number an_is_number cd_is_number ct_is_number), sl_is_number⟩) (c_is_number : PySem.W.codeIn K cd_is_number "is_number" = true) (k_is_number : PySem.W.keepIn K (.ref f_is_number) = true)
    (a_is_whole : PySem.W.nsIn K mainGlobals "is_whole" = some (some (.ref f_is_whole))) (l_is_whole : K.lookup f_is_whole = some ⟨oc_is_whole, od_is_whole, .func (PySem.W.fnOf "is_whole" "is_whole" (defArgs s_is_whole) (defBody s_is_whole) (defScope s_is_whole) .none kV_is_whole dc_is_whole pm_is_whole an_is_whole cd_is_whole ct_is_whole), sl_is_whole⟩) (c_is_whole : PySem.W.codeIn K cd_is_whole "is_whole" = true) (k_is_whole : PySem.W.keepIn K (.ref f_is_whole) = true)
    (a_refuse_no_number : PySem.W.nsIn K mainGlobals "refuse_no_number" = some (some (.ref f_refuse_no_number))) (l_refuse_no_number : K.lookup f_refuse_no_number = some ⟨oc_refuse_no_number, od_refuse_no_number, .func (PySem.W.fnOf "refuse_no_number" "refuse_no_number" (defArgs s_refuse_no_number) (defBody s_refuse_no_number) (defScope s_refuse_no_number) .none kV_refuse_no_number dc_refuse_no_number pm_refuse_no_number an_refuse_no_number cd_refuse_no_number ct_refuse_no_number), sl_refuse_no_number⟩) (c_refuse_no_number : PySem.W.codeIn K cd_refuse_no_number "refuse_no_number" = true) (k_refuse_no_number : PySem.W.keepIn K (.ref f_refuse_no_number) = true)
    (a_is_tuple_of : PySem.W.nsIn K mainGlobals "is_tuple_of" = some (some (.ref f_is_tuple_of))) (l_is_tuple_of : K.lookup f_is_tuple_of = some ⟨oc_is_tuple_of, od_is_tuple_of, .func (PySem.W.fnOf "is_tuple_of" "is_tuple_of" (defArgs s_is_tuple_of) (defBody s_is_tuple_of) (defScope s_is_tuple_of) .none kV_is_tuple_of dc_is_tuple_of pm_is_tuple_of an_is_tuple_of cd_is_tuple_of ct_is_tuple_of), sl_is_tuple_of⟩) (c_is_tuple_of : PySem.W.codeIn K cd_is_tuple_of "is_tuple_of" = true) (k_is_tuple_of : PySem.W.keepIn K (.ref f_is_tuple_of) = true)
    (a_is_spot_of : PySem.W.nsIn K mainGlobals "is_spot_of" = some (some (.ref f_is_spot_of))) (l_is_spot_of : K.lookup f_is_spot_of = some ⟨oc_is_spot_of, od_is_spot_of, .func (PySem.W.fnOf "is_spot_of" "is_spot_of" (defArgs s_is_spot_of) (defBody s_is_spot_of) (defScope s_is_spot_of) .none kV_is_spot_of dc_is_spot_of pm_is_spot_of an_is_spot_of cd_is_spot_of ct_is_spot_of), sl_is_spot_of⟩) (c_is_spot_of : PySem.W.codeIn K cd_is_spot_of "is_spot_of" = true) (k_is_spot_of : PySem.W.keepIn K (.ref f_is_spot_of) = true)
    (a_is_spot : PySem.W.nsIn K mainGlobals "is_spot" = some (some (.ref f_is_spot))) (l_is_spot : K.lookup f_is_spot = some ⟨oc_is_spot, od_is_spot, .func (PySem.W.fnOf "is_spot" "is_spot" (defArgs s_is_spot) (defBody s_is_spot) (defScope s_is_spot) .none kV_is_spot dc_is_spot pm_is_spot an_is_spot cd_is_spot ct_is_spot), sl_is_spot⟩) (c_is_spot : PySem.W.codeIn K cd_is_spot "is_spot" = true) (k_is_spot : PySem.W.keepIn K (.ref f_is_spot) = true)
    (a_refuse_no_spot : PySem.W.nsIn K mainGlobals "refuse_no_spot" = some (some (.ref f_refuse_no_spot))) (l_refuse_no_spot : K.lookup f_refuse_no_spot = some ⟨oc_refuse_no_spot, od_refuse_no_spot, .func (PySem.W.fnOf "refuse_no_spot" "refuse_no_spot" (defArgs s_refuse_no_spot) (defBody s_refuse_no_spot) (defScope s_refuse_no_spot) .none kV_refuse_no_spot dc_refuse_no_spot pm_refuse_no_spot an_refuse_no_spot cd_refuse_no_spot ct_refuse_no_spot), sl_refuse_no_spot⟩) (c_refuse_no_spot : PySem.W.codeIn K cd_refuse_no_spot "refuse_no_spot" = true) (k_refuse_no_spot : PySem.W.keepIn K (.ref f_refuse_no_spot) = true)
    (a_all_at : PySem.W.nsIn K mainGlobals "all_at" = some (some (.ref f_all_at))) (l_all_at : K.lookup f_all_at = some ⟨oc_all_at, od_all_at, .func (PySem.W.fnOf "all_at" "all_at" (defArgs s_all_at) (defBody s_all_at) (defScope s_all_at) .none kV_all_at dc_all_at pm_all_at an_all_at cd_all_at ct_all_at), sl_all_at⟩) (c_all_at : PySem.W.codeIn K cd_all_at "all_at" = true) (k_all_at : PySem.W.keepIn K (.ref f_all_at) = true)
    (a_nearest_of : PySem.W.nsIn K mainGlobals "nearest_of" = some (some (.ref f_nearest_of))) (l_nearest_of : K.lookup f_nearest_of = some ⟨oc_nearest_of, od_nearest_of, .func (PySem.W.fnOf "nearest_of" "nearest_of" (defArgs s_nearest_of) (defBody s_nearest_of) (defScope s_nearest_of) .none kV_nearest_of dc_nearest_of pm_nearest_of an_nearest_of cd_nearest_of ct_nearest_of), sl_nearest_of⟩) (c_nearest_of : PySem.W.codeIn K cd_nearest_of "nearest_of" = true) (k_nearest_of : PySem.W.keepIn K (.ref f_nearest_of) = true)
    (a_found_at : PySem.W.nsIn K mainGlobals "found_at" = some (some (.ref f_found_at))) (l_found_at : K.lookup f_found_at = some ⟨oc_found_at, od_found_at, .func (PySem.W.fnOf "found_at" "found_at" (defArgs s_found_at) (defBody s_found_at) (defScope s_found_at) .none kV_found_at dc_found_at pm_found_at an_found_at cd_found_at ct_found_at), sl_found_at⟩) (c_found_at : PySem.W.codeIn K cd_found_at "found_at" = true) (k_found_at : PySem.W.keepIn K (.ref f_found_at) = true)
    (a_law : PySem.W.nsIn K mainGlobals "law" = some (some (.ref f_law))) (l_law : K.lookup f_law = some ⟨oc_law, od_law, .func (PySem.W.fnOf "law" "law" (defArgs s_law) (defBody s_law) (defScope s_law) .none kV_law dc_law pm_law an_law cd_law ct_law), sl_law⟩) (c_law : PySem.W.codeIn K cd_law "law" = true) (k_law : PySem.W.keepIn K (.ref f_law) = true)
    (z_bool : PySem.W.nsIn K mainGlobals "bool" = some none)
    (z_enumerate : PySem.W.nsIn K mainGlobals "enumerate" = some none)
    (z_int : PySem.W.nsIn K mainGlobals "int" = some none)
    (z_isinstance : PySem.W.nsIn K mainGlobals "isinstance" = some none)
    (z_len : PySem.W.nsIn K mainGlobals "len" = some none)
    (z_list : PySem.W.nsIn K mainGlobals "list" = some none)
    (z_max : PySem.W.nsIn K mainGlobals "max" = some none)
    (z_min : PySem.W.nsIn K mainGlobals "min" = some none)
    (z_range : PySem.W.nsIn K mainGlobals "range" = some none)
    (z_set : PySem.W.nsIn K mainGlobals "set" = some none)
    (z_sorted : PySem.W.nsIn K mainGlobals "sorted" = some none)
    (z_tuple : PySem.W.nsIn K mainGlobals "tuple" = some none)
    (z_is_unfit : PySem.W.nsIn K mainGlobals "is_unfit" = some none)
    (z_is_cooked_of_any : PySem.W.nsIn K mainGlobals "is_cooked_of_any" = some none)
    (z_are_heights : PySem.W.nsIn K mainGlobals "are_heights" = some none)
    (z_all_straight : PySem.W.nsIn K mainGlobals "all_straight" = some none)
    (z_straight_of : PySem.W.nsIn K mainGlobals "straight_of" = some none)
    (z_tasting_needs : PySem.W.nsIn K mainGlobals "tasting_needs" = some none)
    (z_others_from : PySem.W.nsIn K mainGlobals "others_from" = some none)
    (z_is_word : PySem.W.nsIn K mainGlobals "is_word" = some none)
    (z_is_rising : PySem.W.nsIn K mainGlobals "is_rising" = some none)
    (z_are_tables : PySem.W.nsIn K mainGlobals "are_tables" = some none)
    (z_are_needs : PySem.W.nsIn K mainGlobals "are_needs" = some none)
    (z_are_words : PySem.W.nsIn K mainGlobals "are_words" = some none)
    (z_are_recipes : PySem.W.nsIn K mainGlobals "are_recipes" = some none)
    (z_are_tastings : PySem.W.nsIn K mainGlobals "are_tastings" = some none)
    (z_is_told_list : PySem.W.nsIn K mainGlobals "is_told_list" = some none)
    (z_is_same : PySem.W.nsIn K mainGlobals "is_same" = some none)
    (z_pots_of_turn : PySem.W.nsIn K mainGlobals "pots_of_turn" = some none)
    (z_pot_of : PySem.W.nsIn K mainGlobals "pot_of" = some none)
    (z_are_mishaps : PySem.W.nsIn K mainGlobals "are_mishaps" = some none)
    (z_order_of : PySem.W.nsIn K mainGlobals "order_of" = some none)
    (z_is_order_of : PySem.W.nsIn K mainGlobals "is_order_of" = some none)
    (z_is_turn_of : PySem.W.nsIn K mainGlobals "is_turn_of" = some none)
    (z_choices_of : PySem.W.nsIn K mainGlobals "choices_of" = some none)
    (z_many_ahead : PySem.W.nsIn K mainGlobals "many_ahead" = some none)
    (v_MOST_NAME : PySem.W.nsIn K mainGlobals "MOST_NAME" = some (some (.int 7 vt_MOST_NAME)))
    (i_bool_NoneType : PySem.W.kitOne K (.type "NoneType") (.type "bool") = some false)
    (i_bool_bool : PySem.W.kitOne K (.type "bool") (.type "bool") = some true)
    (i_bool_int : PySem.W.kitOne K (.type "int") (.type "bool") = some false)
    (i_bool_str : PySem.W.kitOne K (.type "str") (.type "bool") = some false)
    (i_bool_list : PySem.W.kitOne K (.type "list") (.type "bool") = some false)
    (i_bool_tuple : PySem.W.kitOne K (.type "tuple") (.type "bool") = some false)
    (i_bool_dict : PySem.W.kitOne K (.type "dict") (.type "bool") = some false)
    (i_int_NoneType : PySem.W.kitOne K (.type "NoneType") (.type "int") = some false)
    (i_int_bool : PySem.W.kitOne K (.type "bool") (.type "int") = some true)
    (i_int_int : PySem.W.kitOne K (.type "int") (.type "int") = some true)
    (i_int_str : PySem.W.kitOne K (.type "str") (.type "int") = some false)
    (i_int_list : PySem.W.kitOne K (.type "list") (.type "int") = some false)
    (i_int_tuple : PySem.W.kitOne K (.type "tuple") (.type "int") = some false)
    (i_int_dict : PySem.W.kitOne K (.type "dict") (.type "int") = some false)
    (i_tuple_NoneType : PySem.W.kitOne K (.type "NoneType") (.type "tuple") = some false)
    (i_tuple_bool : PySem.W.kitOne K (.type "bool") (.type "tuple") = some false)
    (i_tuple_int : PySem.W.kitOne K (.type "int") (.type "tuple") = some false)
    (i_tuple_str : PySem.W.kitOne K (.type "str") (.type "tuple") = some false)
    (i_tuple_list : PySem.W.kitOne K (.type "list") (.type "tuple") = some false)
    (i_tuple_tuple : PySem.W.kitOne K (.type "tuple") (.type "tuple") = some true)
    (i_tuple_dict : PySem.W.kitOne K (.type "dict") (.type "tuple") = some false) :
    (∀ nm ∈ genNames, (∃ r ∈ recsOf q, r.name = nm) ∨ ∀ f : Addr, mg nm ≠ some (.ref f)) ∧ (∀ b, Tb K mg b → K.lookup b = none) ∧ ∀ fa : Addr, mg "law" = some (.ref fa) →
      ∃ fd : FuncData, (∀ (s : Shared) (v : Value), BindsTo s fd ⟨[v], []⟩ [("_law_script", v)]) ∧ ∀ base : Heap, K.In base → base.Ns mainGlobals mg → FnOk l.prog w K mg base CX0 8 fa fd ["_law_script"] (spF K 1 F_law_v2) := by
  refine ⟨fun nm hm => ?_, fun b hb => ?_, fun fa hfa => ?_⟩
  · simp only [genNames, List.mem_cons, List.not_mem_nil, or_false] at hm
    simp only [List.all_cons, List.all_nil, Bool.and_eq_true, Bool.and_true] at hq
    rcases hm with rfl | rfl | rfl | rfl | rfl | rfl | rfl | rfl | rfl | rfl | rfl | rfl | rfl | rfl | rfl | rfl | rfl | rfl | rfl | rfl | rfl | rfl | rfl | rfl | rfl
    · exact .inr fun f e => by rw [PySem.W.mg_none_of X G z_is_unfit] at e; cases e
    · exact .inr fun f e => by rw [PySem.W.mg_none_of X G z_is_cooked_of_any] at e; cases e
    · exact .inr fun f e => by rw [PySem.W.mg_none_of X G z_are_heights] at e; cases e
    · exact .inr fun f e => by rw [PySem.W.mg_none_of X G z_all_straight] at e; cases e
    · exact .inr fun f e => by rw [PySem.W.mg_none_of X G z_straight_of] at e; cases e
    · exact .inr fun f e => by rw [PySem.W.mg_none_of X G z_tasting_needs] at e; cases e
    · exact .inl (has_rec (hq))
    · exact .inr fun f e => by rw [PySem.W.mg_none_of X G z_others_from] at e; cases e
    · exact .inr fun f e => by rw [PySem.W.mg_none_of X G z_is_word] at e; cases e
    · exact .inr fun f e => by rw [PySem.W.mg_none_of X G z_is_rising] at e; cases e
    · exact .inr fun f e => by rw [PySem.W.mg_none_of X G z_are_tables] at e; cases e
    · exact .inr fun f e => by rw [PySem.W.mg_none_of X G z_are_needs] at e; cases e
    · exact .inr fun f e => by rw [PySem.W.mg_none_of X G z_are_words] at e; cases e
    · exact .inr fun f e => by rw [PySem.W.mg_none_of X G z_are_recipes] at e; cases e
    · exact .inr fun f e => by rw [PySem.W.mg_none_of X G z_are_tastings] at e; cases e
    · exact .inr fun f e => by rw [PySem.W.mg_none_of X G z_is_told_list] at e; cases e
    · exact .inr fun f e => by rw [PySem.W.mg_none_of X G z_is_same] at e; cases e
    · exact .inr fun f e => by rw [PySem.W.mg_none_of X G z_pots_of_turn] at e; cases e
    · exact .inr fun f e => by rw [PySem.W.mg_none_of X G z_pot_of] at e; cases e
    · exact .inr fun f e => by rw [PySem.W.mg_none_of X G z_are_mishaps] at e; cases e
    · exact .inr fun f e => by rw [PySem.W.mg_none_of X G z_order_of] at e; cases e
    · exact .inr fun f e => by rw [PySem.W.mg_none_of X G z_is_order_of] at e; cases e
    · exact .inr fun f e => by rw [PySem.W.mg_none_of X G z_is_turn_of] at e; cases e
    · exact .inr fun f e => by rw [PySem.W.mg_none_of X G z_choices_of] at e; cases e
    · exact .inr fun f e => by rw [PySem.W.mg_none_of X G z_many_ahead] at e; cases e
  · obtain ⟨nm, hm, f, oc, od, fd, sl, e1, e2, e3⟩ := hb
    simp only [genNames, List.mem_cons, List.not_mem_nil, or_false] at hm
    rcases hm with rfl | rfl | rfl | rfl | rfl | rfl | rfl | rfl | rfl | rfl | rfl | rfl | rfl | rfl | rfl | rfl | rfl | rfl | rfl | rfl | rfl | rfl | rfl | rfl | rfl
    · rw [PySem.W.mg_none_of X G z_is_unfit] at e1; cases e1
    · rw [PySem.W.mg_none_of X G z_is_cooked_of_any] at e1; cases e1
    · rw [PySem.W.mg_none_of X G z_are_heights] at e1; cases e1
    · rw [PySem.W.mg_none_of X G z_all_straight] at e1; cases e1
    · rw [PySem.W.mg_none_of X G z_straight_of] at e1; cases e1
    · rw [PySem.W.mg_none_of X G z_tasting_needs] at e1; cases e1
    · exact tab_none (PySem.W.mg_of X G a_recipes_from) l_recipes_from r_recipes_from p_recipes_from t_recipes_from e1 e2 e3
    · rw [PySem.W.mg_none_of X G z_others_from] at e1; cases e1
    · rw [PySem.W.mg_none_of X G z_is_word] at e1; cases e1
    · rw [PySem.W.mg_none_of X G z_is_rising] at e1; cases e1
    · rw [PySem.W.mg_none_of X G z_are_tables] at e1; cases e1
    · rw [PySem.W.mg_none_of X G z_are_needs] at e1; cases e1
    · rw [PySem.W.mg_none_of X G z_are_words] at e1; cases e1
    · rw [PySem.W.mg_none_of X G z_are_recipes] at e1; cases e1
    · rw [PySem.W.mg_none_of X G z_are_tastings] at e1; cases e1
    · rw [PySem.W.mg_none_of X G z_is_told_list] at e1; cases e1
    · rw [PySem.W.mg_none_of X G z_is_same] at e1; cases e1
    · rw [PySem.W.mg_none_of X G z_pots_of_turn] at e1; cases e1
    · rw [PySem.W.mg_none_of X G z_pot_of] at e1; cases e1
    · rw [PySem.W.mg_none_of X G z_are_mishaps] at e1; cases e1
    · rw [PySem.W.mg_none_of X G z_order_of] at e1; cases e1
    · rw [PySem.W.mg_none_of X G z_is_order_of] at e1; cases e1
    · rw [PySem.W.mg_none_of X G z_is_turn_of] at e1; cases e1
    · rw [PySem.W.mg_none_of X G z_choices_of] at e1; cases e1
    · rw [PySem.W.mg_none_of X G z_many_ahead] at e1; cases e1
  · have e := hfa.symm.trans (PySem.W.mg_of X G a_law)
    cases e
    have T : Tf K mg := ⟨PySem.W.mg_none_of X G z_bool, PySem.W.mg_none_of X G z_enumerate, PySem.W.mg_none_of X G z_int, PySem.W.mg_none_of X G z_isinstance, PySem.W.mg_none_of X G z_len, PySem.W.mg_none_of X G z_list, PySem.W.mg_none_of X G z_max, PySem.W.mg_none_of X G z_min, PySem.W.mg_none_of X G z_range, PySem.W.mg_none_of X G z_set, PySem.W.mg_none_of X G z_sorted, PySem.W.mg_none_of X G z_tuple, ⟨fun a ha => by
      simp only [List.mem_cons, List.not_mem_nil, or_false] at ha
      rcases ha with rfl | rfl | rfl | rfl | rfl | rfl | rfl
      · exact i_bool_NoneType
      · exact i_bool_bool
      · exact i_bool_int
      · exact i_bool_str
      · exact i_bool_list
      · exact i_bool_tuple
      · exact i_bool_dict⟩, ⟨fun a ha => by
      simp only [List.mem_cons, List.not_mem_nil, or_false] at ha
      rcases ha with rfl | rfl | rfl | rfl | rfl | rfl | rfl
      · exact i_int_NoneType
      · exact i_int_bool
      · exact i_int_int
      · exact i_int_str
      · exact i_int_list
      · exact i_int_tuple
      · exact i_int_dict⟩, ⟨fun a ha => by
      simp only [List.mem_cons, List.not_mem_nil, or_false] at ha
      rcases ha with rfl | rfl | rfl | rfl | rfl | rfl | rfl
      · exact i_tuple_NoneType
      · exact i_tuple_bool
      · exact i_tuple_int
      · exact i_tuple_str
      · exact i_tuple_list
      · exact i_tuple_tuple
      · exact i_tuple_dict⟩, ⟨_, PySem.W.mg_of X G v_MOST_NAME⟩⟩
    have d__law_all : Dfn K mg "_law_all" s__law_all := ⟨_, _, fun_mk (st := s__law_all) l__law_all c__law_all k__law_all, PySem.W.mg_of X G a__law_all⟩
    have d__law_cell_at : Dfn K mg "_law_cell_at" s__law_cell_at := ⟨_, _, fun_mk (st := s__law_cell_at) l__law_cell_at c__law_cell_at k__law_cell_at, PySem.W.mg_of X G a__law_cell_at⟩
    have d__law_draw : Dfn K mg "_law_draw" s__law_draw := ⟨_, _, fun_mk (st := s__law_draw) l__law_draw c__law_draw k__law_draw, PySem.W.mg_of X G a__law_draw⟩
    have d__law_pen : Dfn K mg "_law_pen" s__law_pen := ⟨_, _, fun_mk (st := s__law_pen) l__law_pen c__law_pen k__law_pen, PySem.W.mg_of X G a__law_pen⟩
    have d__law_needs : Dfn K mg "_law_needs" s__law_needs := ⟨_, _, fun_mk (st := s__law_needs) l__law_needs c__law_needs k__law_needs, PySem.W.mg_of X G a__law_needs⟩
    have d__law_spots : Dfn K mg "_law_spots" s__law_spots := ⟨_, _, fun_mk (st := s__law_spots) l__law_spots c__law_spots k__law_spots, PySem.W.mg_of X G a__law_spots⟩
    have d__law_words : Dfn K mg "_law_words" s__law_words := ⟨_, _, fun_mk (st := s__law_words) l__law_words c__law_words k__law_words, PySem.W.mg_of X G a__law_words⟩
    have d__law_raw : Dfn K mg "_law_raw" s__law_raw := ⟨_, _, fun_mk (st := s__law_raw) l__law_raw c__law_raw k__law_raw, PySem.W.mg_of X G a__law_raw⟩
    have d_spots_around : Dfn K mg "spots_around" s_spots_around := ⟨_, _, fun_mk (st := s_spots_around) l_spots_around c_spots_around k_spots_around, PySem.W.mg_of X G a_spots_around⟩
    have d_recipes_from : DfnG K mg "recipes_from" s_recipes_from := ⟨_, _, fun_mk (st := s_recipes_from) l_recipes_from c_recipes_from k_recipes_from, PySem.W.mg_of X G a_recipes_from, tp_recipes_from, ⟨"recipes_from", by simp [genNames], _, _, _, _, _, PySem.W.mg_of X G a_recipes_from, l_recipes_from, rec_ofV r_recipes_from p_recipes_from⟩, rec_ofV r_recipes_from p_recipes_from⟩
    have d_is_number : Dfn K mg "is_number" s_is_number := ⟨_, _, fun_mk (st := s_is_number) l_is_number c_is_number k_is_number, PySem.W.mg_of X G a_is_number⟩
    have d_is_whole : Dfn K mg "is_whole" s_is_whole := ⟨_, _, fun_mk (st := s_is_whole) l_is_whole c_is_whole k_is_whole, PySem.W.mg_of X G a_is_whole⟩
    have d_refuse_no_number : Dfn K mg "refuse_no_number" s_refuse_no_number := ⟨_, _, fun_mk (st := s_refuse_no_number) l_refuse_no_number c_refuse_no_number k_refuse_no_number, PySem.W.mg_of X G a_refuse_no_number⟩
    have d_is_tuple_of : Dfn K mg "is_tuple_of" s_is_tuple_of := ⟨_, _, fun_mk (st := s_is_tuple_of) l_is_tuple_of c_is_tuple_of k_is_tuple_of, PySem.W.mg_of X G a_is_tuple_of⟩
    have d_is_spot_of : Dfn K mg "is_spot_of" s_is_spot_of := ⟨_, _, fun_mk (st := s_is_spot_of) l_is_spot_of c_is_spot_of k_is_spot_of, PySem.W.mg_of X G a_is_spot_of⟩
    have d_is_spot : Dfn K mg "is_spot" s_is_spot := ⟨_, _, fun_mk (st := s_is_spot) l_is_spot c_is_spot k_is_spot, PySem.W.mg_of X G a_is_spot⟩
    have d_refuse_no_spot : Dfn K mg "refuse_no_spot" s_refuse_no_spot := ⟨_, _, fun_mk (st := s_refuse_no_spot) l_refuse_no_spot c_refuse_no_spot k_refuse_no_spot, PySem.W.mg_of X G a_refuse_no_spot⟩
    have d_all_at : Dfn K mg "all_at" s_all_at := ⟨_, _, fun_mk (st := s_all_at) l_all_at c_all_at k_all_at, PySem.W.mg_of X G a_all_at⟩
    have d_nearest_of : Dfn K mg "nearest_of" s_nearest_of := ⟨_, _, fun_mk (st := s_nearest_of) l_nearest_of c_nearest_of k_nearest_of, PySem.W.mg_of X G a_nearest_of⟩
    have d_found_at : Dfn K mg "found_at" s_found_at := ⟨_, _, fun_mk (st := s_found_at) l_found_at c_found_at k_found_at, PySem.W.mg_of X G a_found_at⟩
    have d_law : Dfn K mg "law" s_law := ⟨_, _, fun_mk (st := s_law) l_law c_law k_law, PySem.W.mg_of X G a_law⟩
    refine ⟨PySem.W.fnOf "law" "law" (defArgs s_law) (defBody s_law) (defScope s_law) .none kV_law dc_law pm_law an_law cd_law ct_law, fun s v => .of_eq rfl, fun base _ _ => ?_⟩
    have C__law_all : Cal l.prog w K mg base 1 "_law_all" 3 F__law_all := ok__law_all T d__law_all 
    have C__law_cell_at : Cal l.prog w K mg base 1 "_law_cell_at" 2 F__law_cell_at := ok__law_cell_at T d__law_cell_at 
    have C__law_draw : Cal l.prog w K mg base 1 "_law_draw" 2 F__law_draw := ok__law_draw T d__law_draw 
    have C__law_pen : Cal l.prog w K mg base 1 "_law_pen" 1 F__law_pen := ok__law_pen T d__law_pen 
    have C__law_needs : Cal l.prog w K mg base 2 "_law_needs" 2 F__law_needs := ok__law_needs T d__law_needs C__law_draw
    have C__law_spots : Cal l.prog w K mg base 1 "_law_spots" 1 F__law_spots := ok__law_spots T d__law_spots 
    have C__law_words : Cal l.prog w K mg base 2 "_law_words" 1 F__law_words := ok__law_words T d__law_words C__law_draw
    have C__law_raw : Cal l.prog w K mg base 3 "_law_raw" 1 F__law_raw := ok__law_raw T d__law_raw C__law_draw C__law_spots C__law_needs C__law_words
    have C_spots_around : Cal l.prog w K mg base 1 "spots_around" 1 F_spots_around := ok_spots_around T d_spots_around 
    have C_recipes_from : Cal l.prog w K mg base 3 "recipes_from" 3 F_recipes_from := ok_recipes_from T d_recipes_from C_spots_around
    have C_is_number : Cal l.prog w K mg base 1 "is_number" 1 F_is_number := ok_is_number T d_is_number 
    have C_is_whole : Cal l.prog w K mg base 2 "is_whole" 3 F_is_whole := ok_is_whole T d_is_whole C_is_number
    have C_refuse_no_number : Cal l.prog w K mg base 3 "refuse_no_number" 3 F_refuse_no_number := ok_refuse_no_number T d_refuse_no_number C_is_whole
    have C_is_tuple_of : Cal l.prog w K mg base 1 "is_tuple_of" 3 F_is_tuple_of := ok_is_tuple_of T d_is_tuple_of 
    have C_is_spot_of : Cal l.prog w K mg base 3 "is_spot_of" 2 F_is_spot_of := ok_is_spot_of T d_is_spot_of C_is_tuple_of C_is_whole
    have C_is_spot : Cal l.prog w K mg base 4 "is_spot" 2 F_is_spot := ok_is_spot T d_is_spot C_is_spot_of
    have C_refuse_no_spot : Cal l.prog w K mg base 5 "refuse_no_spot" 2 F_refuse_no_spot := ok_refuse_no_spot T d_refuse_no_spot C_is_spot
    have C_all_at : Cal l.prog w K mg base 6 "all_at" 3 F_all_at := ok_all_at T d_all_at C_refuse_no_spot C_refuse_no_number C_recipes_from
    have C_nearest_of : Cal l.prog w K mg base 1 "nearest_of" 1 F_nearest_of := ok_nearest_of T d_nearest_of 
    have C_found_at : Cal l.prog w K mg base 7 "found_at" 3 F_found_at := ok_found_at T d_found_at C_nearest_of C_all_at
    exact ok_lawF T (fun_mk (st := s_law) l_law c_law k_law) C__law_pen C__law_cell_at C__law_raw C__law_spots C__law_all C_found_at C_all_at C__law_draw
theorem walk {l : PySem.W.OpenLaw} {q : Program} {loose : List Str} {XP : (Str → Option Value) → Heap → Prop} {YP : World → Heap → Prop} {d : DefRec} {K : Params → PySem.W.Frag} (hn : l.most = some 63) (hdf : d.params.defaults = []) (hdn : d.name = "law")
    (hY : ∀ (w : World) (h : Heap), YP w h → (K w.params).In h)
    (A : ∀ (w : World) (mg : Str → Option Value) (h : Heap), (K w.params).In h → h.Ns mainGlobals mg → (∀ nm ∈ genNames, (∃ r ∈ recsOf q, r.name = nm) ∨ ∀ f : Addr, mg nm ≠ some (.ref f)) ∧ (∀ b, Tb (K w.params) mg b → (K w.params).lookup b = none) ∧ ∀ fa : Addr, mg "law" = some (.ref fa) →
      ∃ fd : FuncData, (∀ (s : Shared) (v : Value), BindsTo s fd ⟨[v], []⟩ [("_law_script", v)]) ∧ ∀ base : Heap, (K w.params).In base → base.Ns mainGlobals mg → FnOk l.prog w (K w.params) mg base CX0 8 fa fd ["_law_script"] (spF (K w.params) 1 F_law_v2)) :
    PySem.W.WalkO q loose XP YP l.row.toRowW d [] (fun f vs => PySem.call f vs) :=
  L2.walk_ofK (n := 63) (k := 8) (x := "_law_script") (CX := CX0) (sp := fun K => spF K 1 F_law_v2) hn (by decide) hdf ⟨rfl, by decide, by decide⟩ hY (fun w mg h X G => (A w mg h X G).1) (fun w mg h X G => (A w mg h X G).2.1) (fun w mg fa h X G e => (A w mg h X G).2.2 fa (hdn ▸ e)) (fun K H a ns hl hO hS => sp_script hS (true_law_v2 ns hl) (only_no hO)) fun _ _ _ _ z => z
end L2.Q3.Tk03
open PySem PySem.W PyProof.Rows
set_option maxRecDepth 100000 in
set_option maxHeartbeats 0 in
theorem PySem.Challenge.cw_tastehouse_k03_names_found_holds : PySem.Challenge.rw_tastehouse_k03_names_found.Holds := by
  w_on; o_law; k_head; (case hw => w_witness2)
  k_fill
  refine L2.Q3.Tk03.walk (l := PySem.Challenge.rw_tastehouse_k03_names_found) rfl rfl rfl (fun w h Y => PySem.W.kIn_of Y) ?A
  case A =>
    intro w mg h KX G
    refine' L2.Q3.Tk03.all_mk KX G ?hq ?a__law_all ?l__law_all ?c__law_all ?k__law_all ?a__law_cell_at ?l__law_cell_at ?c__law_cell_at ?k__law_cell_at ?a__law_draw ?l__law_draw ?c__law_draw ?k__law_draw ?a__law_pen ?l__law_pen ?c__law_pen ?k__law_pen ?a__law_needs ?l__law_needs ?c__law_needs ?k__law_needs ?a__law_spots ?l__law_spots ?c__law_spots ?k__law_spots ?a__law_words ?l__law_words ?c__law_words ?k__law_words ?a__law_raw ?l__law_raw ?c__law_raw ?k__law_raw ?a_spots_around ?l_spots_around ?c_spots_around ?k_spots_around ?a_recipes_from ?l_recipes_from ?c_recipes_from ?k_recipes_from ?r_recipes_from ?p_recipes_from ?t_recipes_from ?a_is_number ?l_is_number ?c_is_number ?k_is_number ?a_is_whole ?l_is_whole ?c_is_whole ?k_is_whole ?a_refuse_no_number ?l_refuse_no_number ?c_refuse_no_number ?k_refuse_no_number ?a_is_tuple_of ?l_is_tuple_of ?c_is_tuple_of ?k_is_tuple_of ?a_is_spot_of ?l_is_spot_of ?c_is_spot_of ?k_is_spot_of ?a_is_spot ?l_is_spot ?c_is_spot ?k_is_spot ?a_refuse_no_spot ?l_refuse_no_spot ?c_refuse_no_spot ?k_refuse_no_spot ?a_all_at ?l_all_at ?c_all_at ?k_all_at ?a_nearest_of ?l_nearest_of ?c_nearest_of ?k_nearest_of ?a_found_at ?l_found_at ?c_found_at ?k_found_at ?a_law ?l_law ?c_law ?k_law ?z_bool ?z_enumerate ?z_int ?z_isinstance ?z_len ?z_list ?z_max ?z_min ?z_range ?z_set ?z_sorted ?z_tuple ?z_is_unfit ?z_is_cooked_of_any ?z_are_heights ?z_all_straight ?z_straight_of ?z_tasting_needs ?z_others_from ?z_is_word ?z_is_rising ?z_are_tables ?z_are_needs ?z_are_words ?z_are_recipes ?z_are_tastings ?z_is_told_list ?z_is_same ?z_pots_of_turn ?z_pot_of ?z_are_mishaps ?z_order_of ?z_is_order_of ?z_is_turn_of ?z_choices_of ?z_many_ahead ?v_MOST_NAME ?i_bool_NoneType ?i_bool_bool ?i_bool_int ?i_bool_str ?i_bool_list ?i_bool_tuple ?i_bool_dict ?i_int_NoneType ?i_int_bool ?i_int_int ?i_int_str ?i_int_list ?i_int_tuple ?i_int_dict ?i_tuple_NoneType ?i_tuple_bool ?i_tuple_int ?i_tuple_str ?i_tuple_list ?i_tuple_tuple ?i_tuple_dict
    (case hq => rfl)
    (case a__law_all => k_is)
    (case l__law_all => k_is)
    (case c__law_all => k_is)
    (case k__law_all => k_is)
    (case a__law_cell_at => k_is)
    (case l__law_cell_at => k_is)
    (case c__law_cell_at => k_is)
    (case k__law_cell_at => k_is)
    (case a__law_draw => k_is)
    (case l__law_draw => k_is)
    (case c__law_draw => k_is)
    (case k__law_draw => k_is)
    (case a__law_pen => k_is)
    (case l__law_pen => k_is)
    (case c__law_pen => k_is)
    (case k__law_pen => k_is)
    (case a__law_needs => k_is)
    (case l__law_needs => k_is)
    (case c__law_needs => k_is)
    (case k__law_needs => k_is)
    (case a__law_spots => k_is)
    (case l__law_spots => k_is)
    (case c__law_spots => k_is)
    (case k__law_spots => k_is)
    (case a__law_words => k_is)
    (case l__law_words => k_is)
    (case c__law_words => k_is)
    (case k__law_words => k_is)
    (case a__law_raw => k_is)
    (case l__law_raw => k_is)
    (case c__law_raw => k_is)
    (case k__law_raw => k_is)
    (case a_spots_around => k_is)
    (case l_spots_around => k_is)
    (case c_spots_around => k_is)
    (case k_spots_around => k_is)
    (case a_recipes_from => k_is)
    (case l_recipes_from => k_is)
    (case c_recipes_from => k_is)
    (case k_recipes_from => k_is)
    (case r_recipes_from => k_is)
    (case p_recipes_from => rfl)
    (case t_recipes_from => rfl)
    (case a_is_number => k_is)
    (case l_is_number => k_is)
    (case c_is_number => k_is)
    (case k_is_number => k_is)
    (case a_is_whole => k_is)
    (case l_is_whole => k_is)
    (case c_is_whole => k_is)
    (case k_is_whole => k_is)
    (case a_refuse_no_number => k_is)
    (case l_refuse_no_number => k_is)
    (case c_refuse_no_number => k_is)
    (case k_refuse_no_number => k_is)
    (case a_is_tuple_of => k_is)
    (case l_is_tuple_of => k_is)
    (case c_is_tuple_of => k_is)
    (case k_is_tuple_of => k_is)
    (case a_is_spot_of => k_is)
    (case l_is_spot_of => k_is)
    (case c_is_spot_of => k_is)
    (case k_is_spot_of => k_is)
    (case a_is_spot => k_is)
    (case l_is_spot => k_is)
    (case c_is_spot => k_is)
    (case k_is_spot => k_is)
    (case a_refuse_no_spot => k_is)
    (case l_refuse_no_spot => k_is)
    (case c_refuse_no_spot => k_is)
    (case k_refuse_no_spot => k_is)
    (case a_all_at => k_is)
    (case l_all_at => k_is)
    (case c_all_at => k_is)
    (case k_all_at => k_is)
    (case a_nearest_of => k_is)
    (case l_nearest_of => k_is)
    (case c_nearest_of => k_is)
    (case k_nearest_of => k_is)
    (case a_found_at => k_is)
    (case l_found_at => k_is)
    (case c_found_at => k_is)
    (case k_found_at => k_is)
    (case a_law => k_is)
    (case l_law => k_is)
    (case c_law => k_is)
    (case k_law => k_is)
    (case z_bool => k_is)
    (case z_enumerate => k_is)
    (case z_int => k_is)
    (case z_isinstance => k_is)
    (case z_len => k_is)
    (case z_list => k_is)
    (case z_max => k_is)
    (case z_min => k_is)
    (case z_range => k_is)
    (case z_set => k_is)
    (case z_sorted => k_is)
    (case z_tuple => k_is)
    (case z_is_unfit => k_is)
    (case z_is_cooked_of_any => k_is)
    (case z_are_heights => k_is)
    (case z_all_straight => k_is)
    (case z_straight_of => k_is)
    (case z_tasting_needs => k_is)
    (case z_others_from => k_is)
    (case z_is_word => k_is)
    (case z_is_rising => k_is)
    (case z_are_tables => k_is)
    (case z_are_needs => k_is)
    (case z_are_words => k_is)
    (case z_are_recipes => k_is)
    (case z_are_tastings => k_is)
    (case z_is_told_list => k_is)
    (case z_is_same => k_is)
    (case z_pots_of_turn => k_is)
    (case z_pot_of => k_is)
    (case z_are_mishaps => k_is)
    (case z_order_of => k_is)
    (case z_is_order_of => k_is)
    (case z_is_turn_of => k_is)
    (case z_choices_of => k_is)
    (case z_many_ahead => k_is)
    (case v_MOST_NAME => k_is)
    (case i_bool_NoneType => kit_is)
    (case i_bool_bool => kit_is)
    (case i_bool_int => kit_is)
    (case i_bool_str => kit_is)
    (case i_bool_list => kit_is)
    (case i_bool_tuple => kit_is)
    (case i_bool_dict => kit_is)
    (case i_int_NoneType => kit_is)
    (case i_int_bool => kit_is)
    (case i_int_int => kit_is)
    (case i_int_str => kit_is)
    (case i_int_list => kit_is)
    (case i_int_tuple => kit_is)
    (case i_int_dict => kit_is)
    (case i_tuple_NoneType => kit_is)
    (case i_tuple_bool => kit_is)
    (case i_tuple_int => kit_is)
    (case i_tuple_str => kit_is)
    (case i_tuple_list => kit_is)
    (case i_tuple_tuple => kit_is)
    (case i_tuple_dict => kit_is)
end

