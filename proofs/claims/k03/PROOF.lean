import PyProof.Rows.All
import Wide.All
import OpenK.AllK
import Wide.FinOn
import Lean
import PyProof.EqAt
import PyProof.EqKinds
import PyProof.TupleCall
import PyProof.NeKinds
import PyProof.Rows.SortShellK
import PyProof.Rows.SortStr
import KE.KSortTup
import PyProof.Rows.SetFrom
import PyProof.SetKind
import PyProof.DictKinds
import PyProof.CollectWalk
import PyProof.CollectStr
import PyProof.DictIter
import PyProof.StrLawsIn
import PySem.Challenge.RW_wordmelt_k03_whole_read
set_option Elab.async false
set_option linter.all false
set_option maxRecDepth 100000
set_option maxHeartbeats 4000000
namespace L2
open PySem PySem.Spec PyProof.Rows
abbrev Key := Sum Int Str
def keyIs : Key → Value → Bool
  | .inl k, v => Value.isInt k v
  | .inr x, v => Value.isStrOf x v
def keyH (w : World) : Key → Int
  | .inl k => hashInt k
  | .inr x => hashStr w x
theorem keyIs_shape : ∀ {k : Key} {v : Value}, keyIs k v = true → (∃ i t, k = Sum.inl i ∧ v = Value.int i t) ∨ (∃ x t, k = Sum.inr x ∧ v = Value.str x t)
  | .inl i, v, h => by
    obtain ⟨t, e⟩ := Value.isInt_shape (k := i) (v := v) h
    exact .inl ⟨i, t, rfl, e⟩
  | .inr x, v, h => by
    obtain ⟨t, e⟩ := Value.isStrOf_shape (x := x) (v := v) h
    exact .inr ⟨x, t, rfl, e⟩
theorem key_ll (a b : Int) : decide ((Sum.inl a : Key) = Sum.inl b) = (a == b) := by
  by_cases e : a = b
  · subst e; simp
  · have h : ¬ (Sum.inl a : Key) = Sum.inl b := fun q => e (Sum.inl.inj q)
    rw [decide_eq_false h]
    exact (beq_eq_false_iff_ne.mpr e).symm
theorem key_rr (a b : Str) : decide ((Sum.inr a : Key) = Sum.inr b) = decide (a = b) := by
  by_cases e : a = b
  · subst e; simp
  · have h : ¬ (Sum.inr a : Key) = Sum.inr b := fun q => e (Sum.inr.inj q)
    rw [decide_eq_false h, decide_eq_false e]
theorem key_lr (a : Int) (b : Str) : decide ((Sum.inl a : Key) = Sum.inr b) = false := decide_eq_false (fun q => nomatch q)
theorem key_rl (a : Str) (b : Int) : decide ((Sum.inr a : Key) = Sum.inl b) = false := decide_eq_false (fun q => nomatch q)
def mixKind (prog : Program) (w : World) : PySem.KeyKind prog w Key where
  is := keyIs
  hash := keyH w
  inj := fun v a b ha hb => by
    rcases keyIs_shape ha with ⟨i, t, rfl, rfl⟩ | ⟨x, t, rfl, rfl⟩
    · rcases keyIs_shape hb with ⟨j, u, rfl, e⟩ | ⟨y, u, rfl, e⟩
      · injection e with e1 _; rw [e1]
      · exact nomatch e
    · rcases keyIs_shape hb with ⟨j, u, rfl, e⟩ | ⟨y, u, rfl, e⟩
      · exact nomatch e
      · injection e with e1 _; rw [e1]
  byValue := fun k v h => by
    rcases keyIs_shape h with ⟨i, t, rfl, rfl⟩ | ⟨x, t, rfl, rfl⟩ <;> rfl
  pyHash := fun hv h => by
    rcases keyIs_shape hv with ⟨i, t, rfl, rfl⟩ | ⟨x, t, rfl, rfl⟩
    · exact wpAny_pyHash_int h
    · exact wpAny_pyHash_str h
  eqBool := fun hu hv h => by
    rcases keyIs_shape hu with ⟨i, t, rfl, rfl⟩ | ⟨x, t, rfl, rfl⟩
    · rcases keyIs_shape hv with ⟨j, u, rfl, rfl⟩ | ⟨y, u, rfl, rfl⟩
      · rw [key_ll] at h; exact wpAny_eqBool_int h
      · rw [key_lr] at h; exact SeqAt.EqAt.int_str i t y u _ _ _ _ h
    · rcases keyIs_shape hv with ⟨j, u, rfl, rfl⟩ | ⟨y, u, rfl, rfl⟩
      · rw [key_rl] at h; exact SeqAt.EqAt.str_int x t j u _ _ _ _ h
      · rw [key_rr] at h; exact wpAny_eqBool_str h
  «strs» := fun k x t v h => by
    rcases keyIs_shape h with ⟨i, u, rfl, e⟩ | ⟨y, u, rfl, e⟩
    · exact nomatch e
    · injection e with e1 _
      subst e1
      cases v <;> rfl
end L2
namespace L2
open PySem PySem.Spec PyProof.Rows
inductive V where
  | non | bl (b : Bool) | int (i : Int) | str (x : Str) | byt (b : Array UInt8) | flt (b : UInt64) | ref (a : Addr) | ty (n : String)
  deriving DecidableEq
def RelV : V → Value → Prop
  | .non, u => u = Value.none
  | .bl b, u => u = Value.bool b
  | .int i, u => ∃ t, u = Value.int i t
  | .str x, u => ∃ t, u = Value.str x t
  | .byt b, u => ∃ t, u = Value.bytes b t
  | .flt b, u => ∃ t, u = Value.float b t
  | .ref a, u => u = Value.ref a
  | .ty n, u => u = Value.type n
abbrev Vals : List V → List Value → Prop := Paired RelV
theorem Vals.length {xs : List V} {us : List Value} (r : Vals xs us) : xs.length = us.length := Paired.length r
theorem Vals.get : ∀ {xs : List V} {us : List Value} {i : Nat} {x : V}, Vals xs us → xs[i]? = some x → ∃ u, us[i]? = some u ∧ RelV x u
  | _, _, _, _, .nil, e => by simp at e
  | _, _, 0, _, .cons r _, e => by simp at e; subst e; exact ⟨_, rfl, r⟩
  | _, _, i + 1, x, .cons _ t, e => by
    obtain ⟨u, h1, h2⟩ := Vals.get (i := i) (x := x) t (by simpa using e)
    exact ⟨u, by simpa using h1, h2⟩
theorem Vals.set {x : V} {u : Value} (r : RelV x u) : ∀ {xs : List V} {us : List Value} (i : Nat), Vals xs us → Vals (xs.set i x) (us.set i u)
  | _, _, _, .nil => .nil
  | _, _, 0, .cons _ t => .cons r t
  | _, _, i + 1, .cons q t => .cons q (Vals.set r i t)
theorem Vals.append : ∀ {xs ys : List V} {us ws : List Value}, Vals xs us → Vals ys ws → Vals (xs ++ ys) (us ++ ws)
  | _, _, _, _, .nil, s => s
  | _, _, _, _, .cons r t, s => .cons r (Vals.append t s)
theorem Vals.take : ∀ {xs : List V} {us : List Value} (n : Nat), Vals xs us → Vals (xs.take n) (us.take n)
  | _, _, 0, _ => .nil
  | _, _, _ + 1, .nil => .nil
  | _, _, n + 1, .cons r t => .cons r (Vals.take n t)
theorem Vals.drop : ∀ {xs : List V} {us : List Value} (n : Nat), Vals xs us → Vals (xs.drop n) (us.drop n)
  | _, _, 0, r => r
  | _, _, _ + 1, .nil => .nil
  | _, _, n + 1, .cons _ t => Vals.drop n t
def RelO : Option V → Option Value → Prop
  | some v, some u => RelV v u
  | none, none => True
  | _, _ => False
def KV {κ : Type} : List (κ × V) → List (κ × Value) → Prop := Paired fun (p : κ × V) (q : κ × Value) => p.1 = q.1 ∧ RelV p.2 q.2
def kV : Key → V
  | .inl i => .int i
  | .inr x => .str x
inductive HO where
  | lst (xs : List V)
  | tup (xs : List V)
  | dK (kvs : List (Key × V)) | dT (kvs : List (List Key × V))
  | set (S : Int → Bool) (n : Nat)
  | ins (C dx : Addr) (fs : List (Str × V))
  | own (x : Addr)
  | xd (fs : List (Str × V))
  | met (f x : Addr)
  | rng (lo hi : Int)
  | frz (o : Obj) (u : HO)
  | tbl (ps : Array Value)
  | ext (φ : Heap → Prop)
abbrev Hp := Addr → Option HO
def upd (H : Hp) (a : Addr) (o : HO) : Hp := fun b => if b = a then some o else H b
theorem upd_same {H : Hp} {a : Addr} {o : HO} : upd H a o a = some o := by unfold upd; rw [if_pos rfl]
theorem upd_ne {H : Hp} {a b : Addr} {o : HO} (h : b ≠ a) : upd H a o b = H b := by unfold upd; rw [if_neg h]
theorem ne_of_none {H : Hp} {a b : Addr} {o : HO} (h : H a = some o) (h' : H b = none) : a ≠ b := by
  intro e; subst e; rw [h] at h'; cases h'
section
variable (P : Program) (w : World)
def ObjOk (H : Hp) (h : Heap) (a : Addr) : HO → Prop
  | .lst xs => xs.length ≤ sizeLine ∧ ∃ (its : List Value) (n : Nat), Vals xs its ∧ h.get? a = some { cls := .type "list", data := .seq its.toArray n }
  | .tup xs => xs.length ≤ sizeLine ∧ ∃ its : List Value, Vals xs its ∧ IsTup h a its.toArray
  | .dK kvs => kvs.length ≤ sizeLine ∧ (a == sysModules) = false ∧ ∃ vs, KV kvs vs ∧ h.DictOf (mixKind P w) a vs
  | .dT kvs => kvs.length ≤ sizeLine ∧ (a == sysModules) = false ∧ ∃ xs : List (List Key × Addr × Value),
      Paired (fun (p : List Key × V) (q : List Key × Addr × Value) => p.1 = q.1 ∧ H q.2.1 = some (.tup (p.1.map kV)) ∧ RelV p.2 q.2.2) kvs xs ∧
      ∃ o es ep, h.get? a = some o ∧ o.ExactDict ∧ o.data = .dict es ep ∧ es.toList = xs.map (entryOfKey (tupleKind (mixKind P w))) ∧ (xs.map (·.1)).Nodup
  | .set S n => h.SetOf (intKind P w) a S n
  | .ins C dx fs => H dx = some (.own a) ∧ fs.length ≤ 1000 ∧ dx ≠ a ∧ h.get? a = some (PySem.W.instObj C dx) ∧
      ∃ mA, h.Ns1 dx mA ∧ (∀ f, RelO (fs.lookup f) (mA f)) ∧ PySem.Within mA (fs.map (·.1))
  | .own _ => ∃ o, h.get? a = some o
  | .xd fs => ∃ mA, h.Ns1 a mA ∧ ∀ f, RelO (fs.lookup f) (mA f)
  | .rng lo hi => ∃ t u v, h.get? a = some { cls := .type "range", data := .fields #[.int lo t, .int hi u, .int 1 v] }
  | .frz o u => h.get? a = some o ∧ ObjOk H h a u
  | .tbl ps => h.get? a = some { cls := .none, data := .fields ps }
  | .met f x => h.get? a = some (PySem.W.methodObj (.ref f) (.ref x))
  | .ext φ => φ h ∧ (∃ o, h.get? a = some o) ∧ ∀ h1 h2 : Heap, φ h1 → (∀ o, h1.get? a = some o → h2.get? a = some o) → φ h2
def HOk (H : Hp) (h : Heap) : Prop := ∀ a o, H a = some o → ObjOk P w H h a o
end
section
variable {P : Program} {w : World} {H H' : Hp} {h h' : Heap} {a : Addr} {o : HO}
theorem ObjOk.lt (x : ObjOk P w H h a o) : a < h.objs.size := by
  cases o with
  | lst xs => obtain ⟨_, _, _, _, e⟩ := x; exact Heap.lt_size e
  | tup xs => obtain ⟨_, _, _, p⟩ := x; exact p.lt
  | dK kvs => obtain ⟨_, _, _, _, o, _, _, e, _⟩ := x; exact Heap.lt_size e
  | dT kvs => obtain ⟨_, _, _, _, o, _, _, e, _⟩ := x; exact Heap.lt_size e
  | set S n => obtain ⟨o, _, _, _, e, _⟩ := x; exact Heap.lt_size e
  | ins C dx fs => obtain ⟨_, _, _, e, _⟩ := x; exact Heap.lt_size e
  | own y => obtain ⟨_, e⟩ := x; exact Heap.lt_size e
  | xd fs => obtain ⟨_, ⟨_, _, _, e, _⟩, _⟩ := x; exact Heap.lt_size e
  | rng lo hi => obtain ⟨_, _, _, e⟩ := x; exact Heap.lt_size e
  | frz ob u => obtain ⟨e, _⟩ := x; exact Heap.lt_size e
  | tbl ps => exact Heap.lt_size (show h.get? a = some _ from x)
  | met f y => exact Heap.lt_size (show h.get? a = some _ from x)
  | ext φ => obtain ⟨_, ⟨_, e⟩, _⟩ := x; exact Heap.lt_size e
theorem Paired.mapP {α β : Type} {F G : α → β → Prop} : ∀ {l₁ : List α} {l₂ : List β}, Paired F l₁ l₂ → (∀ a b, F a b → G a b) → Paired G l₁ l₂
  | _, _, .nil, _ => .nil
  | _, _, .cons r t, f => .cons (f _ _ r) (Paired.mapP t f)
theorem ObjOk.stay (x : ObjOk P w H h a o) (k : ∀ b u, (b = a ∨ H b = some (.own a)) → h.get? b = some u → h'.get? b = some u)
    (ho : ∀ b, H b = some (.own a) → H' b = some (.own a)) (ht : ∀ b xs, H b = some (.tup xs) → H' b = some (.tup xs)) : ObjOk P w H' h' a o := by
  induction o with
  | lst xs => obtain ⟨z, its, n, r, e⟩ := x; exact ⟨z, its, n, r, k _ _ (.inl rfl) e⟩
  | tup xs => obtain ⟨z, its, r, ob, e, c⟩ := x; exact ⟨z, its, r, ob, k _ _ (.inl rfl) e, c⟩
  | dK kvs => obtain ⟨z, y, vs, r, ob, es, ep, e, c⟩ := x; exact ⟨z, y, vs, r, ob, es, ep, k _ _ (.inl rfl) e, c⟩
  | dT kvs =>
    obtain ⟨z, y, xs, r, ob, es, ep, e, c⟩ := x
    exact ⟨z, y, xs, Paired.mapP r fun p q z => ⟨z.1, ht _ _ z.2.1, z.2.2⟩, ob, es, ep, k _ _ (.inl rfl) e, c⟩
  | set S n => obtain ⟨ob, es, ep, t, e, c⟩ := x; exact ⟨ob, es, ep, t, k _ _ (.inl rfl) e, c⟩
  | ins C dx fs =>
    obtain ⟨d, z, ne, e, mA, ⟨od, es, ep, e2, c⟩, r⟩ := x
    exact ⟨ho _ d, z, ne, k _ _ (.inl rfl) e, mA, ⟨od, es, ep, k _ _ (.inr d) e2, c⟩, r⟩
  | own y => obtain ⟨ob, e⟩ := x; exact ⟨ob, k _ _ (.inl rfl) e⟩
  | xd fs => obtain ⟨mA, ⟨od, es, ep, e, c⟩, r⟩ := x; exact ⟨mA, ⟨od, es, ep, k _ _ (.inl rfl) e, c⟩, r⟩
  | rng lo hi => obtain ⟨t, u, v, e⟩ := x; exact ⟨t, u, v, k _ _ (.inl rfl) e⟩
  | frz ob u ih => obtain ⟨e, q⟩ := x; exact ⟨k _ _ (.inl rfl) e, ih q⟩
  | tbl ps =>
    have e : h.get? a = some { cls := .none, data := .fields ps } := x
    show h'.get? a = some { cls := .none, data := .fields ps }
    exact k a _ (.inl rfl) e
  | met f y =>
    have e : h.get? a = some (PySem.W.methodObj (.ref f) (.ref y)) := x
    show h'.get? a = some (PySem.W.methodObj (.ref f) (.ref y))
    exact k a _ (.inl rfl) e
  | ext φ => obtain ⟨p, ⟨o, e⟩, st⟩ := x; exact ⟨st _ _ p fun o q => k _ _ (.inl rfl) q, ⟨o, k _ _ (.inl rfl) e⟩, st⟩
theorem HOk.lt (x : HOk P w H h) (e : H a = some o) : a < h.objs.size := (x a o e).lt
theorem HOk.fresh (x : HOk P w H h) (e : h.objs.size ≤ a) : H a = none := by
  cases q : H a with
  | none => rfl
  | some u => exact absurd (Nat.lt_of_lt_of_le (x.lt q) e) (Nat.lt_irrefl _)
theorem HOk.kept (x : HOk P w H h) (k : ∀ b u, h.get? b = some u → h'.get? b = some u) : HOk P w H h' := fun a o e =>
  (x a o e).stay (fun b u _ q => k b u q) (fun _ q => q) fun _ _ q => q
theorem HOk.laid (x : HOk P w H h) (k : ∀ b u, h.get? b = some u → h'.get? b = some u) (hp : h.objs.size ≤ a) (new : ObjOk P w (upd H a o) h' a o) : HOk P w (upd H a o) h' := fun b u e => by
  have hn := x.fresh hp
  by_cases hb : b = a
  · subst hb; rw [upd_same] at e; cases e; exact new
  · rw [upd_ne hb] at e
    exact (x b u e).stay (fun c v _ q => k c v q) (fun c q => by rw [upd_ne (ne_of_none q hn)]; exact q) fun c xs q => by rw [upd_ne (ne_of_none q hn)]; exact q
end
def Rd (H : Hp) (a : Addr) (u : HO) : Prop := H a = some u ∨ ∃ o, H a = some (.frz o u)
theorem Rd.ok {P : Program} {w : World} {H : Hp} {h : Heap} {a : Addr} {u : HO} (r : Rd H a u) (x : HOk P w H h) : ObjOk P w H h a u := by
  rcases r with r | ⟨o, r⟩
  · exact x a u r
  · obtain ⟨_, q⟩ := x a _ r
    exact q
def Mut : Option HO → Prop
  | some (.lst _) => True
  | some (.dK _) => True
  | some (.dT _) => True
  | some (.set _ _) => True
  | some (.ins _ _ _) => True
  | some (.ext _) => True
  | _ => False
section
variable {P : Program} {w : World} {H : Hp} {h h' : Heap} {x e : Addr} {o' : HO}
theorem HOk.write (ok : HOk P w H h) (mu : Mut (H x)) (he : e = x ∨ H e = some (.own x)) (k : ∀ b u, b ≠ e → h.get? b = some u → h'.get? b = some u) (heo : ∃ u, h'.get? e = some u)
    (new : ObjOk P w (upd H x o') h' x o') : HOk P w (upd H x o') h' := fun b u q => by
  have nown : ∀ c y, H c = some (.own y) → c ≠ x := fun c y r z => by subst z; rw [r] at mu; exact mu
  have ntup : ∀ c xs, H c = some (.tup xs) → c ≠ x := fun c xs r z => by subst z; rw [r] at mu; exact mu
  by_cases hb : b = x
  · subst hb; rw [upd_same] at q; cases q; exact new
  · rw [upd_ne hb] at q
    by_cases hbe : b = e
    · have q' : H b = some (.own x) := by
        rcases he with z | z
        · exact absurd (hbe.trans z) hb
        · rw [hbe]; exact z
      rw [q] at q'; cases q'
      obtain ⟨v, hv⟩ := heo
      exact ⟨v, by rw [hbe]; exact hv⟩
    · refine (ok b u q).stay (fun c v hc r => k c v ?_ r) (fun c r => by rw [upd_ne (nown c b r)]; exact r) fun c xs r => by rw [upd_ne (ntup c xs r)]; exact r
      rcases hc with rfl | hc
      · exact hbe
      · rintro rfl
        rcases he with z | z
        · exact nown c b hc z
        · rw [hc] at z; cases z; exact hb rfl
end
structure Un (fs ex : List Addr) (H H' : Hp) (h h' : Heap) : Prop where
  keep : ∀ b o, h.get? b = some o → H b = none → b ∉ fs → b ∉ ex → h'.get? b = some o
  slot : ∀ b o, h.get? b = some o → H b = none → b ∈ fs → b ∉ ex → ∃ sl, h'.get? b = some { o with slots := sl }
  free : ∀ b o, h.get? b = some o → H b = none → b ∉ ex → H' b = none
  there : ∀ b o, h.get? b = some o → b ∉ ex → ∃ o', h'.get? b = some o'
  tups : ∀ b xs, H b = some (.tup xs) → H' b = some (.tup xs)
  frzs : ∀ b o u, H b = some (.frz o u) → H' b = some (.frz o u)
  tbls : ∀ b ps, H b = some (.tbl ps) → ∃ more, H' b = some (.tbl (ps ++ more))
section
variable {fs fs' ex ex' : List Addr} {H H1 H2 : Hp} {h h1 h2 h' : Heap} {a x e : Addr} {o : HO}
theorem Un.any (u : Un fs ex H H1 h h1) {b : Addr} {ob : Obj} (q : h.get? b = some ob) (n : H b = none) (hx : b ∉ ex) : ∃ sl, h1.get? b = some { ob with slots := sl } := by
  by_cases hb : b ∈ fs
  · exact u.slot b ob q n hb hx
  · exact ⟨ob.slots, u.keep b ob q n hb hx⟩
theorem Un.trans (a : Un fs ex H H1 h h1) (b : Un fs ex H1 H2 h1 h2) : Un fs ex H H2 h h2 where
  keep := fun c ob q n hc hx => b.keep c ob (a.keep c ob q n hc hx) (a.free c ob q n hx) hc hx
  slot := fun c ob q n hc hx => by
    obtain ⟨sl, e1⟩ := a.slot c ob q n hc hx
    obtain ⟨sl', e2⟩ := b.slot c _ e1 (a.free c ob q n hx) hc hx
    exact ⟨sl', e2⟩
  free := fun c ob q n hx => by
    obtain ⟨o', e1⟩ := a.there c ob q hx
    exact b.free c o' e1 (a.free c ob q n hx) hx
  there := fun c ob q hx => by
    obtain ⟨o', e1⟩ := a.there c ob q hx
    exact b.there c o' e1 hx
  tups := fun c xs q => b.tups c xs (a.tups c xs q)
  frzs := fun c ob xs q => b.frzs c ob xs (a.frzs c ob xs q)
  tbls := fun c ps q => by
    obtain ⟨m1, e1⟩ := a.tbls c ps q
    obtain ⟨m2, e2⟩ := b.tbls c _ e1
    exact ⟨m1 ++ m2, by rw [e2, Array.append_assoc]⟩
theorem Un.kept (k : ∀ b u, h.get? b = some u → h'.get? b = some u) : Un fs ex H H h h' :=
  ⟨fun b ob q _ _ _ => k b ob q, fun b ob q _ _ _ => ⟨ob.slots, k b ob q⟩, fun _ _ _ n _ => n, fun b ob q _ => ⟨ob, k b ob q⟩, fun _ _ q => q, fun _ _ _ q => q, fun _ ps q => ⟨#[], by rw [q]; simp⟩⟩
theorem Un.refl : Un fs ex H H h h := Un.kept fun _ _ q => q
theorem Un.laid (k : ∀ b u, h.get? b = some u → h'.get? b = some u) (hp : h.objs.size ≤ a) (hn : H a = none) : Un fs ex H (upd H a o) h h' where
  keep := fun b u q _ _ _ => k b u q
  slot := fun b u q _ _ _ => ⟨u.slots, k b u q⟩
  free := fun b u q n _ => by rw [upd_ne (Nat.ne_of_lt (Nat.lt_of_lt_of_le (Heap.lt_size q) hp))]; exact n
  there := fun b u q _ => ⟨u, k b u q⟩
  tups := fun b xs q => by rw [upd_ne (ne_of_none q hn)]; exact q
  frzs := fun b u xs q => by rw [upd_ne (ne_of_none q hn)]; exact q
  tbls := fun b ps q => ⟨#[], by rw [upd_ne (ne_of_none q hn), q]; simp⟩
theorem Un.write (mu : Mut (H x)) (he : e = x ∨ H e = some (.own x)) (k : ∀ b u, b ≠ e → h.get? b = some u → h'.get? b = some u) (heo : ∃ u, h'.get? e = some u) : Un fs ex H (upd H x o) h h' := by
  have hx : ∀ b, H b = none → b ≠ x := fun b n z => by subst z; rw [n] at mu; exact mu
  have hb : ∀ b, H b = none → b ≠ e := fun b n z => by
    subst z
    rcases he with r | r
    · exact hx b n r
    · rw [n] at r; cases r
  have hm : ∀ b u, H b = some u → ¬ Mut (some u) → b ≠ x := fun b u q nm z => by subst z; rw [q] at mu; exact nm mu
  refine ⟨fun b u q n _ _ => k b u (hb b n) q, fun b u q n _ _ => ⟨u.slots, k b u (hb b n) q⟩, fun b u q n _ => by rw [upd_ne (hx b n)]; exact n, fun b u q _ => ?_,
    fun b xs q => by rw [upd_ne (hm b _ q fun z => z)]; exact q, fun b u xs q => by rw [upd_ne (hm b _ q fun z => z)]; exact q, fun b ps q => ⟨#[], by rw [upd_ne (hm b _ q fun z => z), q]; simp⟩⟩
  by_cases hbe : b = e
  · subst hbe; exact heo
  · exact ⟨u, k b u hbe q⟩
theorem Un.mono (u : Un fs ex H H1 h h1) (hs : ∀ b ∈ fs, b ∈ fs') (hx : ∀ b ∈ ex, b ∈ ex') : Un fs' ex' H H1 h h1 :=
  ⟨fun b ob q n hb he => u.keep b ob q n (fun z => hb (hs b z)) fun z => he (hx b z), fun _ _ q n _ he => u.any q n fun z => he (hx _ z), fun b ob q n he => u.free b ob q n fun z => he (hx b z), fun b ob q he => u.there b ob q fun z => he (hx b z), u.tups, u.frzs, u.tbls⟩
end
def trk (h : Heap) (H : Hp) : List Addr := (List.range h.objs.size).filter fun a => (H a).isSome
def hidT (h : Heap) (H : Hp) : Heap := PySem.W.hideAll h (trk h H)
theorem hidT_size (h : Heap) (H : Hp) : (hidT h H).objs.size = h.objs.size := PySem.W.hideAll_size _ _
theorem hidT_get {h : Heap} {H : Hp} {b : Addr} {o : Obj} (e : h.get? b = some o) (n : H b = none) : (hidT h H).get? b = some o :=
  PySem.W.hideAll_get _ e fun hm => by
    have q : (H b).isSome = true := (List.mem_filter.mp hm).2
    rw [n] at q; simp at q
theorem of_hidT {h : Heap} {H : Hp} {b : Addr} {o : Obj} (e : (hidT h H).get? b = some o) : h.get? b = some o ∧ H b = none := by
  have e' : h.get? b = some o := PySem.W.of_hideAll (trk h H) e
  refine ⟨e', ?_⟩
  cases q : H b with
  | none => rfl
  | some x =>
    have hm : b ∈ trk h H := List.mem_filter.mpr ⟨List.mem_range.mpr (Heap.lt_size e'), by simp [q]⟩
    have z : (hidT h H).get? b = none := PySem.W.hideAll_none (trk h H) hm
    rw [z] at e; cases e
end L2
namespace L2
open PySem PySem.Spec PyProof.Rows
structure Mod (K : PySem.W.Frag) (mg : Str → Option Value) (base : Heap) : Prop where
  kin : K.In base
  glob : base.Ns mainGlobals mg
  blt : ∃ mb, base.Ns builtinsNs mb ∧ ∀ x : Str, x ≠ "__name__" → mb x = bootBuiltins x
  nolimit : base.NoLimit
structure Cx where
  prog : Program
  w : World
  K : PySem.W.Frag
  mg : Str → Option Value
  base : Heap
  A : Around
  N : List Str
  s₀ : Shared
  H₀ : Hp
  env : Env
  outer : List Env
  stack : List Env
  ex : List Addr
  fn : Str → Bool
  calm : Bool
  pn : List (Addr × Obj)
  xe : Value → Shared → Prop
def frs (l : List Env) : List Addr := l.filterMap (·.frame)
abbrev Cx.fs (X : Cx) : List Addr := frs X.outer
def Vis (sc : Scope) (x : Str) : Prop := sc.names.lookup x = some .local ∨ sc.names.lookup x = some .cell ∨ sc.names.lookup x = some .free
def Loc (sc : Scope) (x : Str) : Prop := sc.names.lookup x = some .local ∨ sc.names.lookup x = some .cell
def Look (env : Env) (h : Heap) (m : Str → Option Value) (x : Str) (u : Value) : Prop :=
  (env.kindOf x = some .local ∧ m x = some u) ∨ ((env.kindOf x = some .cell ∨ env.kindOf x = some .free) ∧ ∃ c, env.cells.lookup x = some c ∧ h.IsCell c (some u))
structure Cx.Ok (X : Cx) : Prop where
  mod : Mod X.K X.mg X.base
  kind : X.env.scope.kind = .function
  glob : X.env.globals = mainGlobals
  blt : X.env.builtins = builtinsNs
  above : X.s₀.heap.objs.size ≤ X.env.locals
  inj : ∀ x y c, X.env.cells.lookup x = some c → X.env.cells.lookup y = some c → x = y
  has : ∀ x, (X.env.kindOf x = some .cell ∨ X.env.kindOf x = some .free) → ∃ c, X.env.cells.lookup x = some c
  cab : ∀ x c, X.fn x = true → X.env.cells.lookup x = some c → X.s₀.heap.objs.size ≤ c
  hd : X.calm = true → X.A.handled = none
  frames : X.A.frames = some X.stack
  stk : X.stack = X.outer ∨ (X.stack = X.env :: X.outer ∧ X.env.frame = some X.env.locals)
  exf : ∀ b ∈ X.ex, b ≠ X.env.locals ∧ ∀ x c, X.env.cells.lookup x = some c → c ≠ b
  bs : ∀ b o, X.base.get? b = some o → X.s₀.heap.get? b = some o ∧ X.H₀ b = none
  bsz : X.base.objs.size ≤ X.s₀.heap.objs.size
  noex : ∀ b o, X.base.get? b = some o → b ∉ X.ex
  exfs : ∀ b ∈ X.ex, b ∉ X.fs
  funs : X.s₀.heap.FunFrames X.base X.outer
  frf : ∀ b ∈ X.fs, X.H₀ b = none
structure Inv (X : Cx) (pins : List (Addr × Obj)) (σ : List (Option V)) (H : Hp) (s : Shared) : Prop where
  ok : X.Ok
  os : s.os = X.s₀.os
  bare : AllBare s.gens
  base : Un X.fs X.ex X.H₀ H X.s₀.heap s.heap
  loc : ∃ m, s.heap.Ns X.env.locals m ∧ ∀ (i : Nat) (x : Str) (v : V), X.N[i]? = some x → σ[i]? = some (some v) → Vis X.env.scope x → ∃ u, RelV v u ∧ Look X.env s.heap m x u
  cell : ∀ x c, X.env.cells.lookup x = some c → ∃ v, s.heap.IsCell c v
  free : H X.env.locals = none
  freeC : ∀ x c, X.env.cells.lookup x = some c → H c = none
  pin : ∀ p ∈ X.pn ++ pins, s.heap.get? p.1 = some p.2 ∧ H p.1 = none ∧ p.1 ≠ X.env.locals ∧ p.1 ∉ X.fs ∧ ∀ v, p.2.data ≠ .cell v
  hok : HOk X.prog X.w H s.heap
  len : σ.length = X.N.length
section
variable {X : Cx} {pins : List (Addr × Obj)} {σ : List (Option V)} {H H' : Hp} {s : Shared} {h' : Heap}
theorem Cx.Ok.nofr (ok : X.Ok) {b : Addr} {o : Obj} (e : X.base.get? b = some o) : b ∉ X.fs := fun hb => by
  have := (ok.funs.mem hb).1
  rw [e] at this; cases this
theorem Inv.bs (I : Inv X pins σ H s) : ∀ b o, X.base.get? b = some o → s.heap.get? b = some o ∧ H b = none := fun b o e =>
  ⟨I.base.keep b o (I.ok.bs b o e).1 (I.ok.bs b o e).2 (I.ok.nofr e) (I.ok.noex b o e), I.base.free b o (I.ok.bs b o e).1 (I.ok.bs b o e).2 (I.ok.noex b o e)⟩
theorem Inv.bk (I : Inv X pins σ H s) : ∀ b o, X.base.get? b = some o → s.heap.get? b = some o := fun b o e => (I.bs b o e).1
theorem Inv.mod (I : Inv X pins σ H s) : Mod X.K X.mg X.base := I.ok.mod
theorem Inv.kIn (I : Inv X pins σ H s) : X.K.In s.heap := I.ok.mod.kin.keeps I.bk
theorem Inv.lt (I : Inv X pins σ H s) : X.env.locals < s.heap.objs.size := let ⟨_, hn, _⟩ := I.loc; hn.lt
theorem Inv.sz (I : Inv X pins σ H s) : X.s₀.heap.objs.size ≤ s.heap.objs.size := Nat.le_trans I.ok.above (Nat.le_of_lt I.lt)
theorem Inv.nofs (I : Inv X pins σ H s) {a : Addr} (h : s.heap.objs.size ≤ a) : a ∉ X.fs := fun hb => by
  obtain ⟨_, o, ho, _⟩ := I.ok.funs.mem hb
  exact absurd (Nat.lt_of_lt_of_le (Heap.lt_size ho) (Nat.le_trans I.sz h)) (Nat.lt_irrefl _)
theorem Inv.cne (I : Inv X pins σ H s) : ∀ x c, X.env.cells.lookup x = some c → c ≠ X.env.locals := fun x c e z => by
  obtain ⟨v, o, ho, hd⟩ := I.cell x c e
  obtain ⟨m, ⟨o', es, ep, ho', hd', _⟩, _⟩ := I.loc
  rw [z, ho'] at ho; cases ho; rw [hd'] at hd; cases hd
theorem Inv.funs (I : Inv X pins σ H s) : s.heap.FunFrames X.base X.outer := by
  have all : ∀ (l : List Env), (∀ b ∈ frs l, b ∈ X.fs) → X.s₀.heap.FunFrames X.base l → s.heap.FunFrames X.base l := by
    intro l
    induction l with
    | nil => intro _ _; trivial
    | cons env r ih =>
      intro hs hl
      obtain ⟨hk, ⟨L, o, hf, hn, ho, hd⟩, hr⟩ := hl
      have hL : L ∈ X.fs := hs L (by unfold frs; rw [List.filterMap_cons, hf]; exact List.mem_cons_self)
      obtain ⟨sl, e⟩ := I.base.slot L o ho (I.ok.frf L hL) hL fun z => I.ok.exfs L z hL
      exact ⟨hk, ⟨L, _, hf, hn, e, hd⟩, ih (fun b hb => hs b (by unfold frs; rw [List.filterMap_cons, hf]; exact List.mem_cons_of_mem _ hb)) hr⟩
  exact all X.outer (fun _ hb => hb) I.ok.funs
theorem Inv.stack (I : Inv X pins σ H s) : s.heap.FunFrames X.base X.stack := by
  rcases I.ok.stk with e | ⟨e, hf⟩
  · rw [e]; exact I.funs
  · rw [e]
    obtain ⟨m, hn, _⟩ := I.loc
    refine .cons (by rw [I.ok.kind]; decide) hf hn ?_ I.funs
    exact Heap.get?_none_of_le (Nat.le_trans I.ok.bsz I.ok.above)
theorem Inv.stkSub (I : Inv X pins σ H s) : ∀ b ∈ frs X.stack, b ∈ X.env.locals :: X.fs := fun b hb => by
  rcases I.ok.stk with e | ⟨e, hf⟩
  · rw [e] at hb; exact List.mem_cons_of_mem _ hb
  · rw [e] at hb
    unfold frs at hb
    rw [List.filterMap_cons, hf] at hb
    exact hb
theorem Inv.stkFree (I : Inv X pins σ H s) : ∀ b ∈ frs X.stack, H b = none := fun b hb => by
  rcases List.mem_cons.mp (I.stkSub b hb) with e | hb
  · rw [e]; exact I.free
  · obtain ⟨_, o, ho, _⟩ := I.ok.funs.mem hb
    exact I.base.free b o ho (I.ok.frf b hb) fun z => I.ok.exfs b z hb
theorem Inv.step {g' : Array GenState} {t' : Nat} {d' : Drawn} {ch : List Addr} (I : Inv X pins σ H s)
    (hch : ∀ b ∈ ch, (b ∈ X.ex ∨ X.s₀.heap.objs.size ≤ b) ∧ b ≠ X.env.locals ∧ (∀ x c, X.env.cells.lookup x = some c → c ≠ b) ∧ ∀ p ∈ X.pn ++ pins, p.1 ≠ b)
    (keep : ∀ b o, b ≠ X.env.locals → b ∉ X.fs → b ∉ ch → s.heap.get? b = some o → H b = none → h'.get? b = some o)
    (slot : ∀ b o, b ≠ X.env.locals → b ∈ X.fs → b ∉ ch → s.heap.get? b = some o → H b = none → ∃ sl, h'.get? b = some { o with slots := sl }) (free : ∀ b o, b ∉ ch → s.heap.get? b = some o → H b = none → H' b = none)
    (there : ∀ b o, b ∉ ch → s.heap.get? b = some o → ∃ o', h'.get? b = some o')
    (tups : ∀ b xs, H b = some (.tup xs) → H' b = some (.tup xs)) (frzs : ∀ b o u, H b = some (.frz o u) → H' b = some (.frz o u)) (tbls : ∀ b ps, H b = some (.tbl ps) → ∃ more, H' b = some (.tbl (ps ++ more)))
    (ns : ∀ m, s.heap.Ns X.env.locals m → h'.Ns X.env.locals m) (hok : HOk X.prog X.w H' h') (hg : AllBare g') :
    Inv X pins σ H' { s with heap := h', gens := g', drawn := d', toks := t' } := by
  have neL : ∀ b o, X.s₀.heap.get? b = some o → b ≠ X.env.locals := fun b o e => Nat.ne_of_lt (Nat.lt_of_lt_of_le (Heap.lt_size e) I.ok.above)
  have neC : ∀ b o, X.s₀.heap.get? b = some o → b ∉ X.ex → b ∉ ch := fun b o e hx hb => by
    rcases (hch b hb).1 with z | z
    · exact hx z
    · exact absurd (Nat.lt_of_lt_of_le (Heap.lt_size e) z) (Nat.lt_irrefl _)
  have cellK : ∀ x c, X.env.cells.lookup x = some c → ∀ v, s.heap.IsCell c v → h'.IsCell c v := fun x c e v ⟨o, ho, hd⟩ => by
    have nch : c ∉ ch := fun z => (hch c z).2.2.1 x c e rfl
    by_cases hc : c ∈ X.fs
    · obtain ⟨sl, q⟩ := slot c o (I.cne x c e) hc nch ho (I.freeC x c e)
      exact ⟨_, q, hd⟩
    · exact ⟨o, keep c o (I.cne x c e) hc nch ho (I.freeC x c e), hd⟩
  refine ⟨I.ok, I.os, hg, ⟨fun b o e n hb hx => ?_, fun b o e n hb hx => ?_, fun b o e n hx => ?_, fun b o e hx => ?_, fun b xs e => tups b xs (I.base.tups b xs e), fun b o xs e => frzs b o xs (I.base.frzs b o xs e), fun b ps e => ?_⟩, ?_, fun x c e => ?_, ?_, fun x c e => ?_, fun p hp => ?_, hok, I.len⟩
  · exact keep b o (neL b o e) hb (neC b o e hx) (I.base.keep b o e n hb hx) (I.base.free b o e n hx)
  · obtain ⟨sl, e1⟩ := I.base.slot b o e n hb hx
    obtain ⟨sl', e2⟩ := slot b _ (neL b o e) hb (neC b o e hx) e1 (I.base.free b o e n hx)
    exact ⟨sl', e2⟩
  · obtain ⟨o', e1⟩ := I.base.there b o e hx
    exact free b o' (neC b o e hx) e1 (I.base.free b o e n hx)
  · obtain ⟨o', e1⟩ := I.base.there b o e hx
    exact there b o' (neC b o e hx) e1
  · obtain ⟨m1, e1⟩ := I.base.tbls b ps e
    obtain ⟨m2, e2⟩ := tbls b _ e1
    exact ⟨m1 ++ m2, by rw [e2, Array.append_assoc]⟩
  · obtain ⟨m, hn, hl⟩ := I.loc
    refine ⟨m, ns m hn, fun i x v e1 e2 e3 => ?_⟩
    obtain ⟨u, r, l⟩ := hl i x v e1 e2 e3
    refine ⟨u, r, ?_⟩
    rcases l with l | ⟨k, c, e, z⟩
    · exact .inl l
    · exact .inr ⟨k, c, e, cellK x c e _ z⟩
  · obtain ⟨v, z⟩ := I.cell x c e
    exact ⟨v, cellK x c e v z⟩
  · obtain ⟨m, ⟨o, _, _, ho, _⟩, _⟩ := I.loc
    exact free _ o (fun z => (hch _ z).2.1 rfl) ho I.free
  · obtain ⟨v, o, ho, hd⟩ := I.cell x c e
    exact free c o (fun z => (hch c z).2.2.1 x c e rfl) ho (I.freeC x c e)
  · obtain ⟨e, n, ne, nf, d⟩ := I.pin p hp
    have nch : p.1 ∉ ch := fun z => (hch p.1 z).2.2.2 p hp rfl
    exact ⟨keep p.1 p.2 ne nf nch e n, free p.1 p.2 nch e n, ne, nf, d⟩
theorem Inv.un {t' : Nat} (I : Inv X pins σ H s) (u : Un X.fs [] H H' s.heap h') (hok : HOk X.prog X.w H' h') : Inv X pins σ H' { s with heap := h', toks := t' } := by
  obtain ⟨m, ⟨o, es, ep, ho, r⟩, _⟩ := id I.loc
  obtain ⟨sl, hL⟩ := u.any ho I.free (by simp)
  exact I.step (g' := s.gens) (d' := s.drawn) (ch := []) (fun _ z => nomatch z) (fun b o _ hb _ e n => u.keep b o e n hb (by simp)) (fun b o _ hb _ e n => u.slot b o e n hb (by simp)) (fun b o _ e n => u.free b o e n (by simp)) (fun b o _ e => u.there b o e (by simp)) u.tups u.frzs u.tbls (fun m' hm => by
    obtain ⟨o', es', ep', ho', r'⟩ := hm
    rw [ho] at ho'; cases ho'
    exact ⟨_, es', ep', hL, r'⟩) hok I.bare
theorem Inv.call {g' : Array GenState} {t' : Nat} {d' : Drawn} {ch : List Addr} (I : Inv X pins σ H s) (u : Un (frs X.stack) ch H H' s.heap h') (hok : HOk X.prog X.w H' h') (hg : AllBare g')
    (hch : ∀ b ∈ ch, (b ∈ X.ex ∨ X.s₀.heap.objs.size ≤ b) ∧ b ≠ X.env.locals ∧ (∀ x c, X.env.cells.lookup x = some c → c ≠ b) ∧ ∀ p ∈ X.pn ++ pins, p.1 ≠ b) :
    Inv X pins σ H' { s with heap := h', gens := g', drawn := d', toks := t' } := by
  obtain ⟨m, ⟨o, es, ep, ho, r⟩, _⟩ := id I.loc
  obtain ⟨sl, hL⟩ := u.any ho I.free fun z => (hch _ z).2.1 rfl
  exact I.step (ch := ch) hch (fun b o hL hb hc e n => u.keep b o e n (fun z => (List.mem_cons.mp (I.stkSub b z)).elim hL hb) hc) (fun b o _ _ hc e n => u.any e n hc) (fun b o hc e n => u.free b o e n hc) (fun b o hc e => u.there b o e hc) u.tups u.frzs u.tbls (fun m' hm => by
    obtain ⟨o', es', ep', ho', r'⟩ := hm
    rw [ho] at ho'; cases ho'
    exact ⟨_, es', ep', hL, r'⟩) hok hg
theorem Inv.turned {t' : Nat} {it : Addr} (I : Inv X pins σ H s) (k : ∀ b o, b ≠ it → s.heap.get? b = some o → h'.get? b = some o) (hn : H it = none) (hL : it ≠ X.env.locals)
    (h1 : it ∈ X.ex ∨ X.s₀.heap.objs.size ≤ it) (h2 : ∀ x c, X.env.cells.lookup x = some c → c ≠ it) (h3 : ∀ p ∈ X.pn ++ pins, p.1 ≠ it) : Inv X pins σ H { s with heap := h', toks := t' } := by
  have nit : ∀ b u, H b = some u → b ≠ it := fun b u e z => by rw [z, hn] at e; cases e
  refine I.step (g' := s.gens) (d' := s.drawn) (ch := [it]) (fun b hb => ?_) (fun b o _ _ hc e _ => k b o (fun z => hc (by simp [z])) e) (fun b o _ _ hc e _ => ⟨o.slots, k b o (fun z => hc (by simp [z])) e⟩) (fun _ _ _ _ n => n)
    (fun b o hc e => ⟨o, k b o (fun z => hc (by simp [z])) e⟩) (fun _ _ e => e) (fun _ _ _ e => e) (fun b ps e => ⟨#[], by rw [e]; simp⟩) (fun m hm => ?_) (fun b u e => ?_) I.bare
  · have e : b = it := by simpa using hb
    subst e
    exact ⟨h1, hL, h2, h3⟩
  · obtain ⟨o, es, ep, ho, r⟩ := hm
    exact ⟨o, es, ep, k _ o (Ne.symm hL) ho, r⟩
  · refine (I.hok b u e).stay (fun c v hc q => k c v ?_ q) (fun _ q => q) fun _ _ q => q
    rcases hc with z | z
    · rw [z]; exact nit b u e
    · exact nit c _ z
theorem Inv.tok (I : Inv X pins σ H s) (t : Nat) : Inv X pins σ H { s with toks := t } := I.un (h' := s.heap) (t' := t) Un.refl I.hok
theorem Inv.kept {t' : Nat} (I : Inv X pins σ H s) (k : ∀ b u, s.heap.get? b = some u → h'.get? b = some u) : Inv X pins σ H { s with heap := h', toks := t' } := I.un (Un.kept k) (I.hok.kept k)
theorem Inv.laid {a : Addr} {o : HO} {t' : Nat} (I : Inv X pins σ H s) (k : ∀ b u, s.heap.get? b = some u → h'.get? b = some u) (hp : s.heap.objs.size ≤ a) (new : ObjOk X.prog X.w (upd H a o) h' a o) :
    Inv X pins σ (upd H a o) { s with heap := h', toks := t' } := I.un (Un.laid k hp (I.hok.fresh hp)) (I.hok.laid k hp new)
theorem Inv.write {x e : Addr} {o : HO} {t' : Nat} (I : Inv X pins σ H s) (mu : Mut (H x)) (he : e = x ∨ H e = some (.own x)) (k : ∀ b u, b ≠ e → s.heap.get? b = some u → h'.get? b = some u) (heo : ∃ u, h'.get? e = some u)
    (new : ObjOk X.prog X.w (upd H x o) h' x o) : Inv X pins σ (upd H x o) { s with heap := h', toks := t' } := I.un (Un.write mu he k heo) (I.hok.write mu he k heo new)
theorem Inv.weak {σ' : List (Option V)} (I : Inv X pins σ H s) (hl : σ'.length = σ.length) (w : ∀ (i : Nat) v, σ'[i]? = some (some v) → σ[i]? = some (some v)) : Inv X pins σ' H s :=
  ⟨I.ok, I.os, I.bare, I.base, let ⟨m, hn, hl'⟩ := I.loc; ⟨m, hn, fun i x v e1 e2 e3 => hl' i x v e1 (w i v e2) e3⟩, I.cell, I.free, I.freeC, I.pin, I.hok, hl.trans I.len⟩
theorem Inv.pins_of {pins' : List (Addr × Obj)} (I : Inv X pins σ H s) (h : ∀ p ∈ pins', s.heap.get? p.1 = some p.2 ∧ H p.1 = none ∧ p.1 ≠ X.env.locals ∧ p.1 ∉ X.fs ∧ ∀ v, p.2.data ≠ .cell v) : Inv X pins' σ H s :=
  ⟨I.ok, I.os, I.bare, I.base, I.loc, I.cell, I.free, I.freeC, fun p hp => (List.mem_append.mp hp).elim (fun z => I.pin p (List.mem_append_left _ z)) (h p), I.hok, I.len⟩
theorem nodup_ix {N : List Str} (hN : N.Nodup) {i j : Nat} {x : Str} (a : N[i]? = some x) (b : N[j]? = some x) : i = j := by
  obtain ⟨h1, e1⟩ := List.getElem?_eq_some_iff.mp a
  obtain ⟨h2, e2⟩ := List.getElem?_eq_some_iff.mp b
  exact (List.getElem_inj hN).mp (e1.trans e2.symm)
theorem store_ok2 {M : Model} {A : Around} {E : Value → Shared → Prop} {i : Nat} {x : Str} {v : V} {u : Value} {Q : Unit → Shared → Prop} (I : Inv X pins σ H s) (hN : X.N.Nodup) (hi : X.N[i]? = some x) (hx : Loc X.env.scope x) (r : RelV v u)
    (h : ∀ s', Inv X pins (σ.set i (some v)) H s' → (∃ a, Heap.SameBut a s.heap s'.heap ∧ (a = X.env.locals ∨ X.env.cells.lookup x = some a)) → Q () s') (hf : X.fn x = true ∨ X.env.scope.names.lookup x = some .local := by first | exact .inl rfl | exact .inr rfl | assumption) : wpAny M A (storeName X.env x u) Q E s := by
  obtain ⟨m, hn, hl⟩ := id I.loc
  have hcls : (X.env.scope.kind == .class || (X.env.scope.kind == .module && X.env.locals != X.env.globals)) = false := by rw [I.ok.kind]; rfl
  have hiσ : i < σ.length := by rw [I.len]; exact (List.getElem?_eq_some_iff.mp hi).1
  have cne := I.cne
  have tracked : ∀ {a : Addr} {h' : Heap}, (∃ o, s.heap.get? a = some o ∧ H a = none) → Heap.SameBut a s.heap h' → HOk X.prog X.w H h' := fun {a h'} ha hs b ob e => by
    obtain ⟨_, _, hfree⟩ := ha
    refine (I.hok b ob e).stay (fun c w' hc q => (hs.2 c ?_).trans q) (fun _ q => q) fun _ _ q => q
    rintro rfl
    rcases hc with rfl | hc
    · rw [hfree] at e; cases e
    · rw [hfree] at hc; cases hc
  rcases hx with hk | hk
  · refine wpAny_storeName_local hk hn (fun h' hn' hs => ?_) hcls
    obtain ⟨oL, _, _, hoL, _⟩ := id hn
    refine h _ ⟨I.ok, I.os, I.bare, ⟨fun b o e n hb hx => ?_, fun b o e n hb hx => ?_, I.base.free, fun b o e hx => ?_, I.base.tups, I.base.frzs, I.base.tbls⟩, ⟨_, hn', fun j y v' e1 e2 e3 => ?_⟩, fun y c e => ?_, I.free, I.freeC, fun p hp => ?_, tracked ⟨oL, hoL, I.free⟩ hs, by simpa using I.len⟩ ⟨_, hs, .inl rfl⟩
    · exact (hs.2 b (Nat.ne_of_lt (Nat.lt_of_lt_of_le (Heap.lt_size e) I.ok.above))).trans (I.base.keep b o e n hb hx)
    · obtain ⟨sl, e1⟩ := I.base.slot b o e n hb hx
      exact ⟨sl, (hs.2 b (Nat.ne_of_lt (Nat.lt_of_lt_of_le (Heap.lt_size e) I.ok.above))).trans e1⟩
    · obtain ⟨o', e1⟩ := I.base.there b o e hx
      exact ⟨o', (hs.2 b (Nat.ne_of_lt (Nat.lt_of_lt_of_le (Heap.lt_size e) I.ok.above))).trans e1⟩
    · by_cases hj : j = i
      · subst hj
        rw [hi] at e1; cases e1
        rw [List.getElem?_set_self hiσ] at e2
        cases e2
        exact ⟨u, r, .inl ⟨hk, by simp⟩⟩
      · rw [List.getElem?_set_ne (Ne.symm hj)] at e2
        obtain ⟨u', r', q⟩ := hl j y v' e1 e2 e3
        refine ⟨u', r', ?_⟩
        rcases q with ⟨k, e⟩ | ⟨k, c, e, z⟩
        · refine .inl ⟨k, ?_⟩
          have : y ≠ x := fun e => hj (nodup_ix hN e1 (e ▸ hi))
          simp [this, e]
        · exact .inr ⟨k, c, e, z.sameBut hs (cne y c e)⟩
    · obtain ⟨w', z⟩ := I.cell y c e
      exact ⟨w', z.sameBut hs (cne y c e)⟩
    · obtain ⟨e, n, ne, nf, d⟩ := I.pin p hp
      exact ⟨(hs.2 p.1 ne).trans e, n, ne, nf, d⟩
  · have hfn : X.fn x = true := by
      rcases hf with z | z
      · exact z
      · rw [z] at hk; cases hk
    obtain ⟨c, hc⟩ := I.ok.has x (.inl hk)
    obtain ⟨w', z⟩ := I.cell x c hc
    refine wpAny_storeName_cell I.ok.kind hk hc z (fun h' hc' hs => ?_)
    obtain ⟨oc, hoc, hocd⟩ := id z
    refine h { s with heap := h' } ⟨I.ok, I.os, I.bare, ⟨fun b o e n hb hx => ?_, fun b o e n hb hx => ?_, I.base.free, fun b o e hx => ?_, I.base.tups, I.base.frzs, I.base.tbls⟩, ⟨m, hn.sameBut hs (Ne.symm (cne x c hc)), fun j y v' e1 e2 e3 => ?_⟩, fun y c' e => ?_, I.free, I.freeC, fun p hp => ?_, tracked ⟨oc, hoc, I.freeC x c hc⟩ hs, by simpa using I.len⟩ ⟨c, hs, .inr hc⟩
    · exact (hs.2 b (Nat.ne_of_lt (Nat.lt_of_lt_of_le (Heap.lt_size e) (I.ok.cab x c hfn hc)))).trans (I.base.keep b o e n hb hx)
    · obtain ⟨sl, e1⟩ := I.base.slot b o e n hb hx
      exact ⟨sl, (hs.2 b (Nat.ne_of_lt (Nat.lt_of_lt_of_le (Heap.lt_size e) (I.ok.cab x c hfn hc)))).trans e1⟩
    · obtain ⟨o', e1⟩ := I.base.there b o e hx
      exact ⟨o', (hs.2 b (Nat.ne_of_lt (Nat.lt_of_lt_of_le (Heap.lt_size e) (I.ok.cab x c hfn hc)))).trans e1⟩
    · by_cases hj : j = i
      · subst hj
        rw [hi] at e1; cases e1
        rw [List.getElem?_set_self hiσ] at e2
        cases e2
        exact ⟨u, r, .inr ⟨.inl hk, c, hc, hc'⟩⟩
      · rw [List.getElem?_set_ne (Ne.symm hj)] at e2
        obtain ⟨u', r', q⟩ := hl j y v' e1 e2 e3
        refine ⟨u', r', ?_⟩
        rcases q with q | ⟨k, c', e, z'⟩
        · exact .inl q
        · refine .inr ⟨k, c', e, z'.sameBut hs ?_⟩
          rintro rfl
          exact hj (nodup_ix hN e1 (I.ok.inj _ _ _ e hc ▸ hi))
    · by_cases hcc : c' = c
      · subst hcc; exact ⟨_, hc'⟩
      · obtain ⟨w2, z2⟩ := I.cell y c' e
        exact ⟨w2, z2.sameBut hs hcc⟩
    · obtain ⟨e, n, ne, nf, d⟩ := I.pin p hp
      refine ⟨(hs.2 p.1 ?_).trans e, n, ne, nf, d⟩
      intro q
      rw [q, hoc] at e
      have q' : oc = p.2 := Option.some.inj e
      exact d w' (by rw [← q']; exact hocd)
theorem store_ok {M : Model} {A : Around} {E : Value → Shared → Prop} {i : Nat} {x : Str} {v : V} {u : Value} {Q : Unit → Shared → Prop} (I : Inv X pins σ H s) (hN : X.N.Nodup) (hi : X.N[i]? = some x) (hx : Loc X.env.scope x) (r : RelV v u)
    (h : ∀ s', Inv X pins (σ.set i (some v)) H s' → Q () s') (hf : X.fn x = true ∨ X.env.scope.names.lookup x = some .local := by first | exact .inl rfl | exact .inr rfl | assumption) : wpAny M A (storeName X.env x u) Q E s :=
  store_ok2 I hN hi hx r (fun s' I' _ => h s' I') hf
theorem Inv.call' {s' : Shared} {ch : List Addr} (I : Inv X pins σ H s) (ho : s'.os = s.os) (u : Un (frs X.stack) ch H H' s.heap s'.heap) (hok : HOk X.prog X.w H' s'.heap) (hg : AllBare s'.gens)
    (hch : ∀ b ∈ ch, (b ∈ X.ex ∨ X.s₀.heap.objs.size ≤ b) ∧ b ≠ X.env.locals ∧ (∀ x c, X.env.cells.lookup x = some c → c ≠ b) ∧ ∀ p ∈ X.pn ++ pins, p.1 ≠ b) : Inv X pins σ H' s' := by
  obtain ⟨h', g', d', t', o'⟩ := s'
  have e : o' = s.os := ho
  subst e
  exact I.call (g' := g') (t' := t') (d' := d') u hok hg hch
end
abbrev XK := Value → Option Addr → Hp → Prop
abbrev St := List (Option V)
abbrev VK := V → Hp → Prop
abbrev TE := St → Hp → VK → Prop
abbrev TT := St → Hp → (Bool → Hp → Prop) → Prop
abbrev TA := St → Hp → (List V → Hp → Prop) → Prop
structure Ends where
  nx : St → Hp → Prop
  rt : VK
  bk : St → Hp → Prop := fun _ _ => False
  ct : St → Hp → Prop := fun _ _ => False
abbrev TS := Ends → St → Hp → Prop
def EP (X : Cx) (pins : List (Addr × Obj)) (σ : St) (Q : VK) (u : Value) (s' : Shared) : Prop := ∃ v H', Inv X pins σ H' s' ∧ RelV v u ∧ Q v H'
def TP (X : Cx) (pins : List (Addr × Obj)) (σ : St) (Q : Bool → Hp → Prop) (b : Bool) (s' : Shared) : Prop := ∃ H', Inv X pins σ H' s' ∧ Q b H'
def AP (X : Cx) (pins : List (Addr × Obj)) (σ : St) (Q : List V → Hp → Prop) (us : List Value) (s' : Shared) : Prop := ∃ vs H', Inv X pins σ H' s' ∧ Vals vs us ∧ Q vs H'
def SP (X : Cx) (pins : List (Addr × Obj)) (D : Ends) (f : Flow) (s' : Shared) : Prop :=
  match f with
  | .next => ∃ σ' H', Inv X pins σ' H' s' ∧ D.nx σ' H'
  | .brk => ∃ σ' H', Inv X pins σ' H' s' ∧ D.bk σ' H'
  | .cont => ∃ σ' H', Inv X pins σ' H' s' ∧ D.ct σ' H'
  | .ret u => ∃ v σ' H', Inv X pins σ' H' s' ∧ RelV v u ∧ D.rt v H'
def PE (X : Cx) (e : Expr) (t : TE) : Prop :=
  ∀ (pins : List (Addr × Obj)) (s : Shared) (σ : St) (H : Hp) (Q : VK), Inv X pins σ H s → t σ H Q → wpAny (model X.prog X.w) X.A (eval e X.env) (EP X pins σ Q) X.xe s
def PT (X : Cx) (e : Expr) (t : TT) : Prop :=
  ∀ (pins : List (Addr × Obj)) (s : Shared) (σ : St) (H : Hp) (Q : Bool → Hp → Prop), Inv X pins σ H s → t σ H Q → wpAny (model X.prog X.w) X.A (isTrue e X.env (eval e X.env)) (TP X pins σ Q) X.xe s
def PW (X : Cx) (e : Expr) (t : TT) : Prop :=
  ∀ (whole : Sem Value) (pins : List (Addr × Obj)) (s : Shared) (σ : St) (H : Hp) (Q : Bool → Hp → Prop), Inv X pins σ H s → t σ H Q → wpAny (model X.prog X.w) X.A (isTrue e X.env whole) (TP X pins σ Q) X.xe s
theorem PW.pt {X : Cx} {e : Expr} {t : TT} (h : PW X e t) : PT X e t := h _
def PA (X : Cx) (es : List Expr) (t : TA) : Prop :=
  ∀ (pos : Pos) (pins : List (Addr × Obj)) (s : Shared) (σ : St) (H : Hp) (Q : List V → Hp → Prop), Inv X pins σ H s → t σ H Q → wpAny (model X.prog X.w) X.A (spliced (backTo pos (starEach es X.env))) (AP X pins σ Q) X.xe s
def PS (X : Cx) (st : Stmt) (t : TS) : Prop :=
  ∀ (pins : List (Addr × Obj)) (s : Shared) (σ : St) (H : Hp) (D : Ends), Inv X pins σ H s → t D σ H → wpAny (model X.prog X.w) X.A (exec st X.env) (SP X pins D) X.xe s
def PSs (X : Cx) (st : List Stmt) (t : TS) : Prop :=
  ∀ (pins : List (Addr × Obj)) (s : Shared) (σ : St) (H : Hp) (D : Ends), Inv X pins σ H s → t D σ H → wpAny (model X.prog X.w) X.A (execs st X.env) (SP X pins D) X.xe s
theorem thn {α : Type} {t : Sem α} {Q Q' : α → Shared → Prop} {M : Model} {A : Around} {E : Value → Shared → Prop} {s : Shared} (h : wpAny M A t Q E s) (hQ : ∀ a s, Q a s → Q' a s) : wpAny M A t Q' E s := wpAny_mono h hQ fun _ _ x => x
end L2
namespace L2
open PySem PySem.Spec PyProof.Rows
section
variable {X : Cx}
def tVar (i : Nat) : TE := fun σ H Q => ∃ v, σ[i]? = some (some v) ∧ Q v H
def tC (v : V) : TE := fun _ H Q => Q v H
theorem pe_var {i : Nat} {x : Str} {pos : Pos} (hN : X.N[i]? = some x) (hv : Vis X.env.scope x) (hd : (x == ("__debug__" : Str)) = false := by decide) (hcd : (x == ("__classdict__" : Str)) = false := by decide) : PE X (.Name x pos) (tVar i) := by
  intro pins s σ H Q I h
  obtain ⟨v, e, h⟩ := h
  obtain ⟨m, hn, hl⟩ := I.loc
  obtain ⟨u, r, l⟩ := hl i x v hN e hv
  have fin : EP X pins σ Q u s := ⟨v, H, I, r, h⟩
  rcases l with ⟨hk, hm⟩ | ⟨hk, c, hc, hcell⟩
  · exact wpAny_Name (wpAny_loadName_local I.ok.kind hk hn hm fin) hd
  · rcases hk with hk | hk
    · exact wpAny_Name (wpAny_loadName_cell I.ok.kind hk hc hcell fin) hd
    · exact wpAny_Name (wpAny_loadName_free I.ok.kind hk hc hcell fin hcd) hd
theorem pe_int {i j pos} : PE X (.Constant (.int i) j pos) (tC (.int i)) := fun _ _ _ H _ I h => wpAny_Constant_int ⟨.int i, H, I.tok _, ⟨_, rfl⟩, h⟩
theorem pe_bl {b j pos} : PE X (.Constant (.bool b) j pos) (tC (.bl b)) := fun _ _ _ H _ I h => Constant_bool ⟨.bl b, H, I, rfl, h⟩
theorem pe_non {j pos} : PE X (.Constant .none j pos) (tC .non) := fun _ _ _ H _ I h => Constant_none ⟨.non, H, I, rfl, h⟩
theorem pe_str {x j pos} : PE X (.Constant (.str x) j pos) (tC (.str x)) := fun _ _ _ H _ I h => Calls.Constant_str ⟨.str x, H, I.tok _, ⟨_, rfl⟩, h⟩
def Gl (X : Cx) (x : Str) : Prop := X.env.kindOf x = some .globalImplicit
theorem ld_glob {E : Value → Shared → Prop} {pins : List (Addr × Obj)} {s : Shared} {σ : St} {H : Hp} {x : Str} {u : Value} {pos : Pos} {Q : Value → Shared → Prop} (I : Inv X pins σ H s) (hg : Gl X x) (hm : X.mg x = some u) (h : Q u s)
    (hd : (x == ("__debug__" : Str)) = false := by decide) : wpAny (model X.prog X.w) X.A (eval (.Name x pos) X.env) Q E s :=
  Calls.Name_function_global I.ok.kind hg (Calls.loadGlobal_global (by rw [I.ok.glob]; exact I.mod.glob.keeps I.bk) hm h) hd
theorem ld_blt {E : Value → Shared → Prop} {pins : List (Addr × Obj)} {s : Shared} {σ : St} {H : Hp} {x : Str} {u : Value} {pos : Pos} {Q : Value → Shared → Prop} (I : Inv X pins σ H s) (hg : Gl X x) (hm : X.mg x = none) (hv : bootBuiltins x = some u) (h : Q u s)
    (hn : x ≠ "__name__" := by decide) (hd : (x == ("__debug__" : Str)) = false := by decide) : wpAny (model X.prog X.w) X.A (eval (.Name x pos) X.env) Q E s := by
  obtain ⟨mb, h1, h2⟩ := I.mod.blt
  exact Calls.Name_function_global I.ok.kind hg (Calls.loadGlobal_builtin (by rw [I.ok.glob]; exact I.mod.glob.keeps I.bk) hm (by rw [I.ok.blt]; exact h1.keeps I.bk) ((h2 x hn).trans hv) h) hd
theorem pe_glob {x : Str} {v : V} {u : Value} {pos : Pos} (hg : Gl X x) (hm : X.mg x = some u) (r : RelV v u) (hd : (x == ("__debug__" : Str)) = false := by decide) : PE X (.Name x pos) (tC v) :=
  fun _ _ _ H _ I h => ld_glob I hg hm ⟨v, H, I, r, h⟩ hd
theorem pe_bltn {x : Str} {v : V} {u : Value} {pos : Pos} (hg : Gl X x) (hm : X.mg x = none) (hv : bootBuiltins x = some u) (r : RelV v u) (hn : x ≠ "__name__" := by decide) (hd : (x == ("__debug__" : Str)) = false := by decide) : PE X (.Name x pos) (tC v) :=
  fun _ _ _ H _ I h => ld_blt I hg hm hv ⟨v, H, I, r, h⟩ hn hd
variable {a b : Expr} {ta tb : TE} {pos : Pos}
def tB (t : TE) : TT := fun σ H Q => t σ H fun x H1 => ∃ c, x = .bl c ∧ Q c H1
theorem pt_val {e : Expr} {t : TE} (h : PE X e t) (he : ∀ whole, isTrue e X.env whole = (do let v ← whole; standAt e.pos; holding [v] (truthy v)) := by intro _; rfl) : PT X e (tB t) := by
  intro pins s σ H Q I hw
  refine isTrue_plain (thn (h pins s σ H _ I hw) fun v s1 ⟨x, H1, I1, r1, q1⟩ => ?_) (he _)
  obtain ⟨d, rfl, q⟩ := q1
  cases r1
  exact wpAny_truthy_bool ⟨H1, I1, q⟩
variable {tA tB' : TT} {rest : List Expr}
def tAnd (t u : TT) : TT := fun σ H Q => t σ H fun c H1 => if c = true then u σ H1 Q else Q false H1
def tOr (t u : TT) : TT := fun σ H Q => t σ H fun c H1 => if c = true then Q true H1 else u σ H1 Q
def tNot (t : TT) : TT := fun σ H Q => t σ H fun c H1 => Q (!c) H1
theorem pw_and1 (ha : PT X a tA) : PW X (.BoolOp .And [a] pos) tA := by
  intro wh pins s σ H Q I h
  refine isTrue_and (thn (ha pins s σ H Q I h) fun c s1 e => ?_)
  cases c with
  | true => exact isTrue_and_nil e
  | false => exact e
theorem pw_or1 (ha : PT X a tA) : PW X (.BoolOp .Or [a] pos) tA := by
  intro wh pins s σ H Q I h
  refine isTrue_or (thn (ha pins s σ H Q I h) fun c s1 e => ?_)
  cases c with
  | false => exact isTrue_or_nil e
  | true => exact e
theorem pw_and (ha : PT X a tA) (hb : PW X (.BoolOp .And (b :: rest) pos) tB') : PW X (.BoolOp .And (a :: b :: rest) pos) (tAnd tA tB') := by
  intro wh pins s σ H Q I h
  refine isTrue_and (thn (ha pins s σ H _ I h) fun c s1 ⟨H1, I1, q1⟩ => ?_)
  cases c with
  | true => exact hb wh pins s1 σ H1 Q I1 q1
  | false => exact ⟨H1, I1, q1⟩
theorem pw_or (ha : PT X a tA) (hb : PW X (.BoolOp .Or (b :: rest) pos) tB') : PW X (.BoolOp .Or (a :: b :: rest) pos) (tOr tA tB') := by
  intro wh pins s σ H Q I h
  refine isTrue_or (thn (ha pins s σ H _ I h) fun c s1 ⟨H1, I1, q1⟩ => ?_)
  cases c with
  | true => exact ⟨H1, I1, q1⟩
  | false => exact hb wh pins s1 σ H1 Q I1 q1
theorem pt_not (ha : PT X a tA) : PT X (.UnaryOp .Not a pos) (tNot tA) := by
  intro pins s σ H Q I h
  exact isTrue_not (ha pins s σ H (fun c H1 => Q (!c) H1) I h)
def tAndV (ta tb : TE) : TE := fun σ H Q => ta σ H fun x H1 => ∃ c, x = .bl c ∧ if c = true then tb σ H1 Q else Q (.bl false) H1
def tOrV (ta tb : TE) : TE := fun σ H Q => ta σ H fun x H1 => ∃ c, x = .bl c ∧ if c = true then Q (.bl true) H1 else tb σ H1 Q
def tNotV (ta : TE) : TE := fun σ H Q => ta σ H fun x H1 => ∃ c, x = .bl c ∧ Q (.bl (!c)) H1
theorem pe_one {op} {t : TE} (h : PE X a t) : PE X (.BoolOp op [a] pos) t := fun pins s σ H Q I hw => BoolOp_one (h pins s σ H Q I hw)
theorem pe_and (ha : PE X a ta) (hb : PE X (.BoolOp .And (b :: rest) pos) tb) : PE X (.BoolOp .And (a :: b :: rest) pos) (tAndV ta tb) := by
  intro pins s σ H Q I h
  refine BoolOp_and (thn (ha pins s σ H _ I h) fun v s1 ⟨x, H1, I1, r1, q1⟩ => ?_)
  obtain ⟨c, rfl, q1⟩ := q1
  cases r1
  refine wpAny_truthy_bool ?_
  cases c with
  | true => exact hb pins s1 σ H1 Q I1 q1
  | false => exact ⟨.bl false, H1, I1, rfl, q1⟩
theorem pe_or (ha : PE X a ta) (hb : PE X (.BoolOp .Or (b :: rest) pos) tb) : PE X (.BoolOp .Or (a :: b :: rest) pos) (tOrV ta tb) := by
  intro pins s σ H Q I h
  refine BoolOp_or (thn (ha pins s σ H _ I h) fun v s1 ⟨x, H1, I1, r1, q1⟩ => ?_)
  obtain ⟨c, rfl, q1⟩ := q1
  cases r1
  refine wpAny_truthy_bool ?_
  cases c with
  | false => exact hb pins s1 σ H1 Q I1 q1
  | true => exact ⟨.bl true, H1, I1, rfl, q1⟩
theorem pe_not (ha : PE X a ta) : PE X (.UnaryOp .Not a pos) (tNotV ta) := by
  intro pins s σ H Q I h
  refine UnaryOp_ (thn (ha pins s σ H _ I h) fun v s1 ⟨x, H1, I1, r1, q1⟩ => ?_)
  obtain ⟨c, rfl, q1⟩ := q1
  cases r1
  exact not_of (wpAny_truthy_bool ⟨.bl (!c), H1, I1, rfl, q1⟩)
def tIf (t : TT) (ta tb : TE) : TE := fun σ H Q => t σ H fun c H1 => if c = true then ta σ H1 Q else tb σ H1 Q
theorem pe_ifExp {c : Expr} (hc : PT X c tA) (ha : PE X a ta) (hb : PE X b tb) : PE X (.IfExp c a b pos) (tIf tA ta tb) := by
  intro pins s σ H Q I h
  refine wpAny_IfExp (thn (hc pins s σ H _ I h) fun d s1 ⟨H1, I1, q1⟩ => ?_)
  cases d with
  | true => exact ha pins s1 σ H1 Q I1 q1
  | false => exact hb pins s1 σ H1 Q I1 q1
end
end L2
namespace L2
open PySem PySem.Spec PyProof.Rows
def SqL (K : PySem.W.Frag) (H : Hp) (a : Addr) (xs : List V) : Prop :=
  Rd H a (.lst xs) ∨
    ∃ (o : Obj) (its : Array Value) (n : Nat), K.lookup a = some o ∧ o.cls = .type "list" ∧ o.dict = none ∧ o.data = .seq its n ∧ its.size ≤ sizeLine ∧ Vals xs its.toList
def SqT (K : PySem.W.Frag) (H : Hp) (a : Addr) (xs : List V) : Prop :=
  Rd H a (.tup xs) ∨
    ∃ (o : Obj) (its : Array Value) (n : Nat), K.lookup a = some o ∧ o.cls = .type "tuple" ∧ o.data = .seq its n ∧ its.size ≤ sizeLine ∧ Vals xs its.toList
def absV : Value → Option V
  | .none => some .non
  | .bool b => some (.bl b)
  | .int i _ => some (.int i)
  | .str x _ => some (.str x)
  | .bytes b _ => some (.byt b)
  | .float b _ => some (.flt b)
  | .ref a => some (.ref a)
  | .type n => some (.ty n)
  | _ => none
theorem RelV.abs {x : V} {u : Value} (r : RelV x u) : absV u = some x := by
  cases x with
  | non => cases r; rfl
  | bl _ => cases r; rfl
  | int _ => obtain ⟨t, rfl⟩ := r; rfl
  | str _ => obtain ⟨t, rfl⟩ := r; rfl
  | byt _ => obtain ⟨t, rfl⟩ := r; rfl
  | flt _ => obtain ⟨t, rfl⟩ := r; rfl
  | ref _ => cases r; rfl
  | ty _ => cases r; rfl
theorem RelV.inj {x y : V} {u : Value} (r : RelV x u) (q : RelV y u) : x = y := Option.some.inj (r.abs.symm.trans q.abs)
theorem Vals.inj : ∀ {xs ys : List V} {us : List Value}, Vals xs us → Vals ys us → xs = ys
  | _, _, _, .nil, .nil => rfl
  | _, _, _, .cons r t, .cons r' t' => by rw [r.inj r', Vals.inj t t']
section
variable {X : Cx} {pins : List (Addr × Obj)} {σ : St} {H : Hp} {s : Shared} {a : Addr} {xs ys : List V}
theorem SqL.of {K : PySem.W.Frag} (h : H a = some (.lst xs)) : SqL K H a xs := .inl (.inl h)
theorem SqT.of {K : PySem.W.Frag} (h : H a = some (.tup xs)) : SqT K H a xs := .inl (.inl h)
theorem Inv.list (I : Inv X pins σ H s) (h : SqL X.K H a xs) : ∃ its : List Value, Vals xs its ∧ PlainL s.heap a its.toArray ∧ xs.length ≤ sizeLine := by
  rcases h with h | ⟨o, its, n, hk, hc, hd, hs, hz, r⟩
  · obtain ⟨z, its, n, r, e⟩ := h.ok I.hok
    exact ⟨its, r, ⟨_, n, e, rfl, rfl, rfl⟩, z⟩
  · refine ⟨its.toList, r, ⟨o, n, I.kIn a o hk, hc, hd, by simpa using hs⟩, ?_⟩
    have e := r.length
    simp only [Array.length_toList] at e
    omega
theorem Inv.tuple (I : Inv X pins σ H s) (h : SqT X.K H a xs) : ∃ its : List Value, Vals xs its ∧ IsTup s.heap a its.toArray ∧ xs.length ≤ sizeLine := by
  rcases h with h | ⟨o, its, n, hk, hc, hs, hz, r⟩
  · obtain ⟨z, its, r, p⟩ := h.ok I.hok
    exact ⟨its, r, p, z⟩
  · refine ⟨its.toList, r, ⟨o, I.kIn a o hk, hc, n, by simpa using hs⟩, ?_⟩
    have e := r.length
    simp only [Array.length_toList] at e
    omega
theorem Inv.list_inj (I : Inv X pins σ H s) (h : SqL X.K H a xs) (h' : SqL X.K H a ys) : xs = ys := by
  obtain ⟨its, r, ⟨o, n, e, _, _, d⟩, _⟩ := I.list h
  obtain ⟨its', r', ⟨o', n', e', _, _, d'⟩, _⟩ := I.list h'
  rw [e] at e'; cases e'
  rw [d] at d'
  injection d' with d1 _
  have : its = its' := by simpa using congrArg Array.toList d1
  subst this
  exact r.inj r'
theorem Inv.tuple_inj (I : Inv X pins σ H s) (h : SqT X.K H a xs) (h' : SqT X.K H a ys) : xs = ys := by
  obtain ⟨its, r, ⟨o, e, _, n, d⟩, _⟩ := I.tuple h
  obtain ⟨its', r', ⟨o', e', _, n', d'⟩, _⟩ := I.tuple h'
  rw [e] at e'; cases e'
  rw [d] at d'
  injection d' with d1 _
  have : its = its' := by simpa using congrArg Array.toList d1
  subst this
  exact r.inj r'
end
abbrev Cx.wish (X : Cx) (E : Value → Shared → Prop) : Cx := { X with xe := E }
abbrev Cx.nox (X : Cx) : Cx := X.wish fun _ _ => False
theorem Cx.Ok.wish {X : Cx} (ok : X.Ok) (E : Value → Shared → Prop) : (X.wish E).Ok :=
  ⟨ok.mod, ok.kind, ok.glob, ok.blt, ok.above, ok.inj, ok.has, ok.cab, ok.hd, ok.frames, ok.stk, ok.exf, ok.bs, ok.bsz, ok.noex, ok.exfs, ok.funs, ok.frf⟩
theorem Cx.Ok.unwish {X : Cx} {E : Value → Shared → Prop} (ok : (X.wish E).Ok) : X.Ok :=
  ⟨ok.mod, ok.kind, ok.glob, ok.blt, ok.above, ok.inj, ok.has, ok.cab, ok.hd, ok.frames, ok.stk, ok.exf, ok.bs, ok.bsz, ok.noex, ok.exfs, ok.funs, ok.frf⟩
section
variable {X : Cx} {pins : List (Addr × Obj)} {σ : St} {H : Hp} {s : Shared} {E : Value → Shared → Prop}
theorem Inv.wish (I : Inv X pins σ H s) (E : Value → Shared → Prop) : Inv (X.wish E) pins σ H s := ⟨I.ok.wish E, I.os, I.bare, I.base, I.loc, I.cell, I.free, I.freeC, I.pin, I.hok, I.len⟩
theorem Inv.unwish (I : Inv (X.wish E) pins σ H s) : Inv X pins σ H s := ⟨I.ok.unwish, I.os, I.bare, I.base, I.loc, I.cell, I.free, I.freeC, I.pin, I.hok, I.len⟩
theorem SP.unwish {D : Ends} {f : Flow} {s' : Shared} (h : SP (X.wish E) pins D f s') : SP X pins D f s' := by
  cases f with
  | next => obtain ⟨σ', H', I, q⟩ := h; exact ⟨σ', H', I.unwish, q⟩
  | brk => obtain ⟨σ', H', I, q⟩ := h; exact ⟨σ', H', I.unwish, q⟩
  | cont => obtain ⟨σ', H', I, q⟩ := h; exact ⟨σ', H', I.unwish, q⟩
  | ret u => obtain ⟨v, σ', H', I, r, q⟩ := h; exact ⟨v, σ', H', I.unwish, r, q⟩
theorem PSs.nox {st : List Stmt} {t : TS} (h : PSs X.nox st t) : PSs X st t := fun pins s σ H D I hw =>
  wpAny_mono (h pins s σ H D (I.wish _) hw) (fun _ _ q => q.unwish) fun _ _ z => False.elim z
end
section
variable {X : Cx} {st : Stmt} {rest : List Stmt} {t u : TS} {e : Expr} {te : TE} {pos : Pos}
def tNext : TS := fun D σ H => D.nx σ H
def tSeq (t u : TS) : TS := fun D σ H => t { D with nx := u D } σ H
theorem pss_nil : PSs X [] tNext := fun _ _ σ H _ I h => wpAny_execs_nil ⟨σ, H, I, h⟩
theorem pss_cons (h1 : PS X st t) (h2 : PSs X rest u) : PSs X (st :: rest) (tSeq t u) := by
  intro pins s σ H D I h
  refine wpAny_execs_cons (thn (h1 pins s σ H { D with nx := u D } I h) fun f s1 q => ?_)
  cases f with
  | next =>
    obtain ⟨σ', H', I', q⟩ := q
    exact h2 pins s1 σ' H' D I' q
  | ret v => exact q
  | brk => exact q
  | cont => exact q
theorem pss_one (h1 : PS X st t) : PSs X [st] t := by
  intro pins s σ H D I h
  refine wpAny_execs_cons (thn (h1 pins s σ H D I h) fun f s1 q => ?_)
  cases f with
  | next => exact wpAny_execs_nil q
  | ret v => exact q
  | brk => exact q
  | cont => exact q
theorem Inv.quiet {pins : List (Addr × Obj)} {σ : St} {H : Hp} {s : Shared} (I : Inv X pins σ H s) : interactive X.env = false := by simp [interactive, I.ok.kind]
def tDrop (te : TE) : TS := fun D σ H => te σ H fun _ H1 => D.nx σ H1
theorem ps_expr (he : PE X e te) (hs : swapsWith e none pos.line X.env = pure false := by rfl) : PS X (.Expr e pos) (tDrop te) := by
  intro pins s σ H D I h
  exact wpAny_Expr_any (thn (he pins s σ H _ I h) fun v s1 ⟨x, H1, I1, r1, q1⟩ => ⟨σ, H1, I1, q1⟩) I.quiet hs
def tRet (te : TE) : TS := fun D σ H => te σ H D.rt
theorem ps_ret (he : PE X e te) : PS X (.Return (some e) pos) (tRet te) := by
  intro pins s σ H D I h
  exact wpAny_Return_some (thn (he pins s σ H _ I h) fun v s1 ⟨x, H1, I1, r1, q1⟩ => ⟨x, σ, H1, I1, r1, q1⟩)
def tIfS (c : TT) (t u : TS) : TS := fun D σ H => c σ H fun b H1 => if b = true then t D σ H1 else u D σ H1
theorem ps_if {c : Expr} {a b : List Stmt} {tc : TT} (hc : PT X c tc) (ha : PSs X a t) (hb : PSs X b u) : PS X (.If c a b pos) (tIfS tc t u) := by
  intro pins s σ H D I h
  refine wpAny_If (thn (hc pins s σ H _ I h) fun d s1 ⟨H1, I1, q1⟩ => ?_)
  cases d with
  | true => exact ha pins s1 σ H1 D I1 q1
  | false => exact hb pins s1 σ H1 D I1 q1
end
abbrev TG := V → St → Hp → (St → Hp → Prop) → Prop
abbrev TGs := List V → St → Hp → (St → Hp → Prop) → Prop
def PG (X : Cx) (target : Expr) (t : TG) : Prop :=
  ∀ (pins : List (Addr × Obj)) (s : Shared) (σ : St) (H : Hp) (v : V) (u : Value) (Q : St → Hp → Prop), Inv X pins σ H s → RelV v u → t v σ H Q →
    wpAny (model X.prog X.w) X.A (assign target X.env u) (fun _ s' => ∃ σ' H', Inv X pins σ' H' s' ∧ Q σ' H') X.xe s
def PGs (X : Cx) (ts : List Expr) (t : TGs) : Prop :=
  ∀ (pins : List (Addr × Obj)) (s : Shared) (σ : St) (H : Hp) (vs : List V) (us : List Value) (Q : St → Hp → Prop), Inv X pins σ H s → Vals vs us → t vs σ H Q →
    wpAny (model X.prog X.w) X.A (assignInOrder ((assignEach ts X.env).map (·.2)) us) (fun _ s' => ∃ σ' H', Inv X pins σ' H' s' ∧ Q σ' H') X.xe s
abbrev TSet := V → V → V → Hp → (Hp → Prop) → Prop
section
variable {X : Cx} {pos : Pos}
def gName (i : Nat) : TG := fun v σ H Q => Q (σ.set i (some v)) H
theorem pg_name {i : Nat} {x : Str} (hN : X.N.Nodup) (hi : X.N[i]? = some x) (hx : Loc X.env.scope x) (hf : X.fn x = true ∨ X.env.scope.names.lookup x = some .local := by first | exact .inl rfl | exact .inr rfl | assumption) : PG X (.Name x pos) (gName i) := by
  intro pins s σ H v u Q I r h
  exact wpAny_assign_Name (store_ok I hN hi hx r (fun s' I' => ⟨_, H, I', h⟩) hf)
def gNil : TGs := fun vs σ H Q => vs = [] ∧ Q σ H
def gCons (t : TG) (u : TGs) : TGs := fun vs σ H Q => ∃ v r, vs = v :: r ∧ t v σ H fun σ' H' => u r σ' H' Q
theorem pgs_nil : PGs X [] gNil := by
  intro pins s σ H vs us Q I r h
  obtain ⟨e, h⟩ := h
  subst e
  cases r
  exact assignInOrder_nil ⟨σ, H, I, h⟩
theorem pgs_cons {e : Expr} {es : List Expr} {t : TG} {u : TGs} (h1 : PG X e t) (h2 : PGs X es u)
    (hs : (assignEach (e :: es) X.env).map (·.2) = assign e X.env :: (assignEach es X.env).map (·.2) := by rfl) : PGs X (e :: es) (gCons t u) := by
  intro pins s σ H vs us Q I r h
  obtain ⟨v, vr, e1, h⟩ := h
  subst e1
  cases r with
  | cons r rr =>
    rw [hs]
    refine assignInOrder_cons (thn (h1 pins s σ H _ _ _ I r h) fun _ s1 ⟨σ1, H1, I1, q1⟩ => ?_)
    exact h2 pins s1 σ1 H1 _ _ Q I1 rr q1
def gTup (K : PySem.W.Frag) (n : Nat) (t : TGs) : TG := fun v σ H Q => ∃ a xs, v = .ref a ∧ SqT K H a xs ∧ xs.length = n ∧ t xs σ H Q
theorem pg_tup {es : List Expr} {k : Nat} {t : TGs} {n : Nat} (hc : X.calm = true) (h : PGs X es t)
    (hn : (assignEach es X.env).length = n := by rfl) (hst : (assignEach es X.env).findIdx? (·.1) = none := by rfl) : PG X (.Tuple es k pos) (gTup X.K n t) := by
  intro pins s σ H v u Q I r hw
  obtain ⟨a, xs, e1, hq, hl, hw⟩ := hw
  subst e1
  cases r
  obtain ⟨its, rv, ht, hz⟩ := I.tuple hq
  refine assign_Tuple_tuple (I.ok.hd hc) ht (by simp [hn, ← hl, rv.length]) hst fun h' hx => ?_
  have I1 : Inv X pins σ H { s with heap := h' } := I.kept (t' := s.toks) fun b o e => hx b o (Nat.ne_of_lt (Heap.lt_size e)) e
  exact h pins _ σ H xs _ Q I1 (by simpa using rv) hw
def tAsg (te : TE) (g : TG) : TS := fun D σ H => te σ H fun x H1 => g x σ H1 D.nx
theorem ps_set {i : Nat} {x : Str} {e : Expr} {te : TE} {pos' : Pos} (hN : X.N.Nodup) (hi : X.N[i]? = some x) (hx : Loc X.env.scope x) (he : PE X e te) (hs : swapsWith e (some (.Name x pos')) pos.line X.env = pure false := by rfl) (hf : X.fn x = true ∨ X.env.scope.names.lookup x = some .local := by first | exact .inl rfl | exact .inr rfl | assumption) :
    PS X (.Assign [.Name x pos'] e pos) (tAsg te (gName i)) := by
  intro pins s σ H D I h
  refine wpAny_Assign_Name (thn (he pins s σ H _ I h) fun v s1 ⟨y, H1, I1, r1, q1⟩ => ?_) hs
  exact store_ok I1 hN hi hx r1 (fun s2 I2 => ⟨_, H1, I2, q1⟩) hf
end
structure It where
  go : Nat → Hp → Prop
  yld : Nat → Hp → V → Hp → Prop
  stop : Nat → Hp → Prop
def FpOk (X : Cx) (pins : List (Addr × Obj)) (H : Hp) (b : Addr) : Prop :=
  H b = none ∧ b ≠ X.env.locals ∧ b ∉ X.fs ∧ (b ∈ X.ex ∨ X.s₀.heap.objs.size ≤ b) ∧ (∀ x c, X.env.cells.lookup x = some c → c ≠ b) ∧ ∀ p ∈ X.pn ++ pins, p.1 ≠ b
theorem Inv.fpOk {X : Cx} {pins : List (Addr × Obj)} {σ : St} {H H' : Hp} {s : Shared} {b : Addr} (I : Inv X pins σ H s) (hb : s.heap.objs.size ≤ b) (hn : H' b = none) : FpOk X pins H' b := by
  refine ⟨hn, Nat.ne_of_gt (Nat.lt_of_lt_of_le I.lt hb), I.nofs hb, .inr (Nat.le_trans I.sz hb), fun x c e z => ?_, fun p hp z => ?_⟩
  · obtain ⟨v, q⟩ := I.cell x c e
    exact absurd (Nat.lt_of_lt_of_le q.lt (by rw [z]; exact hb)) (Nat.lt_irrefl _)
  · exact absurd (Nat.lt_of_lt_of_le (Heap.lt_size (I.pin p hp).1) (by rw [z]; exact hb)) (Nat.lt_irrefl _)
structure Turn (P : Program) (w : World) (K : PySem.W.Frag) (tg : Expr) (J : It) (fp : List Addr) (it : Addr) (tn : Nat → Heap → Prop) : Prop where
  mem : it ∈ fp
  obj : ∀ i h, tn i h → ∀ b ∈ fp, ∃ o, h.get? b = some o ∧ ∀ v, o.data ≠ .cell v
  keep : ∀ i h h', tn i h → (∀ b ∈ fp, ∀ o, h.get? b = some o → h'.get? b = some o) → tn i h'
  item : ∀ (X : Cx), X.prog = P → X.w = w → X.K = K → X.calm = true → ∀ (i : Nat) (pins : List (Addr × Obj)) (s : Shared) (σ : St) (H : Hp) (E : Value → Shared → Prop), Inv X pins σ H s → (∀ b ∈ fp, FpOk X pins H b) → tn i s.heap → J.go i H →
    wpAny (model P w) X.A (pyNext (.ref it)) (fun r s1 => ∃ u, r = some u ∧
      wpAny (model P w) X.A (letOwnedTupleGo tg (.ref it) u) (fun _ s2 => ∃ x H', Inv X pins σ H' s2 ∧ RelV x u ∧ J.yld i H x H' ∧ tn (i + 1) s2.heap ∧ ∀ b ∈ fp, H' b = none) E s1) E s
  done : ∀ (X : Cx), X.prog = P → X.w = w → X.K = K → X.calm = true → ∀ (i : Nat) (pins : List (Addr × Obj)) (s : Shared) (σ : St) (H : Hp) (E : Value → Shared → Prop), Inv X pins σ H s → (∀ b ∈ fp, FpOk X pins H b) → tn i s.heap → J.stop i H →
    wpAny (model P w) X.A (pyNext (.ref it)) (fun r s1 => r = none ∧ Inv X pins σ H s1) E s
  self : ∀ (A : Around) (i : Nat) (s : Shared) (Q : Value → Shared → Prop) (E : Value → Shared → Prop), tn i s.heap → Q (.ref it) s → wpAny (model P w) A (pyIter (.ref it)) Q E s
abbrev TI := St → Hp → (It → Hp → Prop) → Prop
def PIE (X : Cx) (pins : List (Addr × Obj)) (σ : St) (tg : Expr) (R : It → Hp → Prop) (itv : Value) (s2 : Shared) : Prop :=
  ∃ (it : Addr) (fp : List Addr) (tn : Nat → Heap → Prop) (J : It) (H' : Hp), itv = .ref it ∧ Inv X pins σ H' s2 ∧ Turn X.prog X.w X.K tg J fp it tn ∧ tn 0 s2.heap ∧ (∀ b ∈ fp, FpOk X pins H' b) ∧ R J H'
def PI (X : Cx) (tg iter : Expr) (wi : TI) : Prop :=
  ∀ (pins : List (Addr × Obj)) (s : Shared) (σ : St) (H : Hp) (R : It → Hp → Prop), Inv X pins σ H s → wi σ H R →
    wpAny (model X.prog X.w) X.A (eval iter X.env) (fun v s1 => wpAny (model X.prog X.w) X.A (pyIter v) (PIE X pins σ tg R) X.xe s1) X.xe s
theorem go_of {M : Model} {A : Around} {E : Value → Shared → Prop} {s : Shared} {tg : Expr} {it : Addr} {u : Value} {o : Obj} {n : String} {vs : Array Value} {Q : Unit → Shared → Prop} (ho : s.heap.get? it = some o) (hc : o.cls = .type n) (hd : o.data = .fields vs)
    (hn : ["enumerate", "zip", "dict_itemiterator", "dict_reverseitemiterator", "odict_iterator", "itertools.zip_longest", "itertools.pairwise"].contains n = false) (hQ : Q () s) : wpAny M A (letOwnedTupleGo tg (.ref it) u) Q E s := by
  unfold letOwnedTupleGo
  cases tg <;> first
    | exact wpAny_pure hQ
    | (cases u <;> first
        | exact wpAny_pure hQ
        | (refine wpAny_bind (wpAny_load ho ?_)
           rw [hc, hd]
           show wpAny M A (if (["enumerate", "zip", "dict_itemiterator", "dict_reverseitemiterator", "odict_iterator", "itertools.zip_longest", "itertools.pairwise"].contains n && vs[0]? == some (rawInt _)) = true then _ else _) Q E s
           rw [if_neg (by intro h; rw [hn, Bool.false_and] at h; cases h)]
           exact wpAny_pure hQ))
def Itl (K : PySem.W.Frag) (a : Addr) : It :=
  ⟨fun i H => ∃ xs x, SqL K H a xs ∧ xs[i]? = some x, fun i H x H' => H' = H ∧ ∀ xs, SqL K H a xs → xs[i]? = some x, fun i H => ∃ xs, SqL K H a xs ∧ xs.length ≤ i⟩
def Itt (K : PySem.W.Frag) (a : Addr) : It :=
  ⟨fun i H => ∃ xs x, SqT K H a xs ∧ xs[i]? = some x, fun i H x H' => H' = H ∧ ∀ xs, SqT K H a xs → xs[i]? = some x, fun i H => ∃ xs, SqT K H a xs ∧ xs.length ≤ i⟩
def Itr (lo : Int) (n : Nat) : It := ⟨fun i _ => i < n, fun i H x H' => H' = H ∧ x = .int (lo + i), fun i _ => n ≤ i⟩
theorem turn_list {P : Program} {w : World} {K : PySem.W.Frag} {tg : Expr} (a it : Addr) : Turn P w K tg (Itl K a) [it] it (fun i h => h.IsListIter it a i) where
  mem := by simp
  obj := fun i h st b hb => by
    have e : b = it := by simpa using hb
    subst e
    obtain ⟨o, e, c, d⟩ := st
    exact ⟨o, e, fun v z => by rw [d] at z; cases z⟩
  keep := fun i h h' st k => st.at fun o e => k it (by simp) o e
  item := by
    intro X hP hw hK hc i pins s σ H E I hf st hg
    subst hP hw hK
    obtain ⟨xs, x, hq, hx⟩ := hg
    obtain ⟨its, rv, p, hz⟩ := I.list hq
    obtain ⟨u, hu, ru⟩ := rv.get hx
    obtain ⟨f0, f1, f2, f3, f4, f5⟩ := hf it (by simp)
    refine wpAny_pyNext_list_item st p.isList (x := u) (by simpa using hu) fun h' st' sb => ?_
    have I1 : Inv X pins σ H { s with heap := h' } := I.turned (t' := s.toks) (fun b o hb e => (sb.2 b hb).trans e) f0 f1 f3 f4 f5
    obtain ⟨o, e, c, d⟩ := id st'
    exact ⟨u, rfl, go_of (s := { s with heap := h' }) e c d (by decide) ⟨x, H, I1, ru, ⟨rfl, fun ys hy => by rw [I.list_inj hy hq]; exact hx⟩, st', fun b hb => (hf b hb).1⟩⟩
  done := by
    intro X hP hw hK hc i pins s σ H E I hf st hg
    subst hP hw hK
    obtain ⟨xs, hq, hx⟩ := hg
    obtain ⟨its, rv, p, hz⟩ := I.list hq
    obtain ⟨f0, f1, f2, f3, f4, f5⟩ := hf it (by simp)
    have hl := rv.length
    exact wpAny_pyNext_list_end (I.ok.hd hc) st p.isList (by simp; omega) fun h' eb => ⟨rfl, I.turned (t' := s.toks) (fun b o hb e => eb b o hb e) f0 f1 f3 f4 f5⟩
  self := fun _ _ _ _ _ st h => wpAny_pyIter_listiter st h
theorem turn_tuple {P : Program} {w : World} {K : PySem.W.Frag} {tg : Expr} (a it : Addr) : Turn P w K tg (Itt K a) [it] it (fun i h => h.IsTupleIter it a i) where
  mem := by simp
  obj := fun i h st b hb => by
    have e : b = it := by simpa using hb
    subst e
    obtain ⟨o, e, c, d⟩ := st
    exact ⟨o, e, fun v z => by rw [d] at z; cases z⟩
  keep := fun i h h' st k => st.at fun o e => k it (by simp) o e
  item := by
    intro X hP hw hK hc i pins s σ H E I hf st hg
    subst hP hw hK
    obtain ⟨xs, x, hq, hx⟩ := hg
    obtain ⟨its, rv, p, hz⟩ := I.tuple hq
    obtain ⟨u, hu, ru⟩ := rv.get hx
    obtain ⟨f0, f1, f2, f3, f4, f5⟩ := hf it (by simp)
    refine wpAny_pyNext_tuple_item st (show s.heap.IsTuple a its.toArray from p) (x := u) (by simpa using hu) fun h' st' sb => ?_
    have I1 : Inv X pins σ H { s with heap := h' } := I.turned (t' := s.toks) (fun b o hb e => (sb.2 b hb).trans e) f0 f1 f3 f4 f5
    obtain ⟨o, e, c, d⟩ := id st'
    exact ⟨u, rfl, go_of (s := { s with heap := h' }) e c d (by decide) ⟨x, H, I1, ru, ⟨rfl, fun ys hy => by rw [I.tuple_inj hy hq]; exact hx⟩, st', fun b hb => (hf b hb).1⟩⟩
  done := by
    intro X hP hw hK hc i pins s σ H E I hf st hg
    subst hP hw hK
    obtain ⟨xs, hq, hx⟩ := hg
    obtain ⟨its, rv, p, hz⟩ := I.tuple hq
    obtain ⟨f0, f1, f2, f3, f4, f5⟩ := hf it (by simp)
    have hl := rv.length
    exact wpAny_pyNext_tuple_end (I.ok.hd hc) st (show s.heap.IsTuple a its.toArray from p) (by simp; omega) fun h' eb => ⟨rfl, I.turned (t' := s.toks) (fun b o hb e => eb b o hb e) f0 f1 f3 f4 f5⟩
  self := fun _ _ _ _ _ st h => wpAny_pyIter_tupleiter st h
theorem turn_range {P : Program} {w : World} {K : PySem.W.Frag} {tg : Expr} (it : Addr) (lo : Int) (n : Nat) : Turn P w K tg (Itr lo n) [it] it (fun i h => IsRangeIter h it (lo + (i : Nat) * 1) ((n : Int) - (i : Nat)) 1) where
  mem := by simp
  obj := fun i h st b hb => by
    have e : b = it := by simpa using hb
    subst e
    exact ⟨_, st, fun v z => by
      have z' : Data.fields _ = Data.cell v := z
      cases z'⟩
  keep := fun i h h' st k => k it (by simp) _ st
  item := by
    intro X hP hw hK hc i pins s σ H E I hf st hg
    subst hP hw hK
    obtain ⟨f0, f1, f2, f3, f4, f5⟩ := hf it (by simp)
    have W := Walks.range (prog := X.prog) (w := X.w) (I.ok.hd hc) it lo 1 n
    refine W.item i s _ _ hg st fun v h' tk hv st' kk => ?_
    obtain ⟨t, rfl⟩ := hv
    have I1 : Inv X pins σ H { s with heap := h', toks := tk } := I.turned (fun b o hb e => kk b o (by simpa using hb) e) f0 f1 f3 f4 f5
    refine ⟨_, rfl, go_of (s := { s with heap := h', toks := tk }) (n := "range_iterator") st' rfl rfl (by decide) ⟨.int (lo + i), H, I1, ⟨t, ?_⟩, ⟨rfl, rfl⟩, st', fun b hb => (hf b hb).1⟩⟩
    rw [Int.mul_one]
  done := by
    intro X hP hw hK hc i pins s σ H E I hf st hg
    subst hP hw hK
    obtain ⟨f0, f1, f2, f3, f4, f5⟩ := hf it (by simp)
    exact wpAny_pyNext_range_end (I.ok.hd hc) st (by have : n ≤ i := hg; omega) fun h' eb => ⟨rfl, I.turned (t' := s.toks) (fun b o hb e => eb b o hb e) f0 f1 f3 f4 f5⟩
  self := fun _ _ _ _ _ st h => wpAny_pyIter_rangeiter st h
end L2
namespace L2
open PySem PySem.Spec PyProof.Rows
section
variable {X : Cx} {tg : Expr}
def iList (K : PySem.W.Frag) (tl : TE) : TI := fun σ H R => tl σ H fun x H1 => ∃ a, x = .ref a ∧ (∃ xs, SqL K H1 a xs) ∧ R (Itl K a) H1
def iTup (K : PySem.W.Frag) (tl : TE) : TI := fun σ H R => tl σ H fun x H1 => ∃ a, x = .ref a ∧ (∃ xs, SqT K H1 a xs) ∧ R (Itt K a) H1
theorem pi_list {l : Expr} {tl : TE} (hl : PE X l tl) : PI X tg l (iList X.K tl) := by
  intro pins s σ H R I h
  refine thn (hl pins s σ H _ I h) fun v s1 ⟨x, H1, I1, r1, q1⟩ => ?_
  obtain ⟨a, e, ⟨xs, hq⟩, q⟩ := q1
  subst e
  cases r1
  obtain ⟨its, rv, p, hz⟩ := I1.list hq
  refine wpAny_pyIter_list p.isList ?_
  refine ⟨s1.heap.objs.size, [s1.heap.objs.size], _, _, H1, rfl, I1.kept (t' := s1.toks) fun b o e => Heap.get?_push_of_some _ e, turn_list a _, ⟨_, Heap.get?_push_size _ rfl, rfl, rfl⟩, fun b hb => ?_, q⟩
  have e : b = s1.heap.objs.size := by simpa using hb
  subst e
  exact I1.fpOk (Nat.le_refl _) (I1.hok.fresh (Nat.le_refl _))
theorem pi_tup {l : Expr} {tl : TE} (hl : PE X l tl) : PI X tg l (iTup X.K tl) := by
  intro pins s σ H R I h
  refine thn (hl pins s σ H _ I h) fun v s1 ⟨x, H1, I1, r1, q1⟩ => ?_
  obtain ⟨a, e, ⟨xs, hq⟩, q⟩ := q1
  subst e
  cases r1
  obtain ⟨its, rv, p, hz⟩ := I1.tuple hq
  refine wpAny_pyIter_tuple (show s1.heap.IsTuple a its.toArray from p) ?_
  refine ⟨s1.heap.objs.size, [s1.heap.objs.size], _, _, H1, rfl, I1.kept (t' := s1.toks) fun b o e => Heap.get?_push_of_some _ e, turn_tuple a _, ⟨_, Heap.get?_push_size _ rfl, rfl, rfl⟩, fun b hb => ?_, q⟩
  have e : b = s1.heap.objs.size := by simpa using hb
  subst e
  exact I1.fpOk (Nat.le_refl _) (I1.hok.fresh (Nat.le_refl _))
theorem range_it {pins : List (Addr × Obj)} {σ : St} {H : Hp} {s : Shared} {R : It → Hp → Prop} {E : Value → Shared → Prop} {lo hi : Int} {t u v : Tok} {tk : Nat} (I : Inv X pins σ H s) (h1 : -(2 ^ 62) ≤ lo) (h2 : lo < 2 ^ 62) (h3 : -(2 ^ 62) ≤ hi) (h4 : hi < 2 ^ 62)
    (q : R (Itr lo (hi - lo).toNat) H) : wpAny (model X.prog X.w) X.A (pyIter (.ref s.heap.objs.size)) (PIE X pins σ tg R) E { s with heap := s.heap.push { cls := .type "range", data := .fields #[.int lo t, .int hi u, .int 1 v] }, toks := tk } := by
  refine wpAny_pyIter_range (IsRange.new ..) (small_one h1 h2 h3 h4) ?_
  have I1 : Inv X pins σ H { s with heap := s.heap.push { cls := .type "range", data := .fields #[.int lo t, .int hi u, .int 1 v] }, toks := tk } := I.kept fun b o e => Heap.get?_push_of_some _ e
  refine ⟨(s.heap.push { cls := .type "range", data := .fields #[.int lo t, .int hi u, .int 1 v] }).objs.size, [(s.heap.push { cls := .type "range", data := .fields #[.int lo t, .int hi u, .int 1 v] }).objs.size], _, _, H, rfl,
    I1.kept (t' := tk) fun b o e => Heap.get?_push_of_some _ e, turn_range _ lo (hi - lo).toNat, ?_, fun b hb => ?_, q⟩
  · have e1 : lo + ((0 : Nat) : Int) * 1 = lo := by simp
    have e2 : (((hi - lo).toNat : Nat) : Int) - ((0 : Nat) : Int) = Builtin.Range.rangeSize lo hi 1 := by rw [rangeSize_one]; split <;> omega
    show IsRangeIter _ _ (lo + ((0 : Nat) : Int) * 1) ((((hi - lo).toNat : Nat) : Int) - ((0 : Nat) : Int)) 1
    rw [e1, e2]
    exact Heap.get?_push_size _ rfl
  · have e : b = (s.heap.push { cls := .type "range", data := .fields #[.int lo t, .int hi u, .int 1 v] }).objs.size := by simpa using hb
    subst e
    exact I1.fpOk (Nat.le_refl _) (I1.hok.fresh (Nat.le_refl _))
def iRng1 (ta : TA) : TI := fun σ H R => ta σ H fun vs H1 => ∃ j : Int, vs = [.int j] ∧ -(2 ^ 62) ≤ j ∧ j < 2 ^ 62 ∧ R (Itr 0 j.toNat) H1
theorem pi_range1 {a : Expr} {ta : TA} {p pos : Pos} (hg : Gl X "range") (hm : X.mg "range" = none) (ha : PA X [a] ta) (hs : starEach [a] X.env = [(false, eval a X.env)] := by rfl) : PI X tg (.Call (.Name "range" p) [a] [] pos) (iRng1 ta) := by
  intro pins s σ H R I h
  refine Call_ (ld_blt I hg hm boot_range (PyProof.Rows.callWith_type1 (thn (ha pos pins s σ H _ I h) fun us s1 ⟨vs, H1, I1, r1, q1⟩ => ?_) hs rfl))
  obtain ⟨j, e, q1, q2, q⟩ := q1
  subst e
  cases r1 with
  | cons r rr =>
    cases rr
    obtain ⟨t, rfl⟩ := r
    exact call_range_1 (range_it I1 (by omega) (by omega) q1 q2 (by simpa using q))
def tFor (wi : TI) (g : TG) (tb : TS) : TS := fun D σ H => wi σ H fun J H1 => ∃ W : Nat → Nat → St → Hp → Prop, (∃ m, W 0 m σ H1) ∧ ∀ i m σ H, W i m σ H →
  (J.stop i H ∧ D.nx σ H) ∨ (J.go i H ∧ ∃ N : St → Hp → Prop, (∀ σ' H', N σ' H' → ∃ m', m' < m ∧ W (i + 1) m' σ' H') ∧ ∀ x H', J.yld i H x H' → g x σ H' fun σ2 H2 => tb { D with nx := N, ct := N, bk := D.nx } σ2 H2)
def pinsAt (fp : List Addr) (h : Heap) : List (Addr × Obj) := fp.filterMap fun b => (h.get? b).map fun o => (b, o)
theorem mem_pinsAt {fp : List Addr} {h : Heap} {b : Addr} {o : Obj} (hb : b ∈ fp) (e : h.get? b = some o) : (b, o) ∈ pinsAt fp h := List.mem_filterMap.mpr ⟨b, hb, by rw [e]; rfl⟩
theorem of_pinsAt {fp : List Addr} {h : Heap} {p : Addr × Obj} (hp : p ∈ pinsAt fp h) : p.1 ∈ fp ∧ h.get? p.1 = some p.2 := by
  obtain ⟨b, hb, e⟩ := List.mem_filterMap.mp hp
  cases q : h.get? b with
  | none => rw [q] at e; cases e
  | some o =>
    rw [q] at e
    have e' : (b, o) = p := Option.some.inj e
    subst e'
    exact ⟨hb, q⟩
theorem Inv.pinned {pins : List (Addr × Obj)} {σ : St} {H : Hp} {s : Shared} {fp : List Addr} (I : Inv X pins σ H s) (hf : ∀ b ∈ fp, FpOk X pins H b) (ho : ∀ b ∈ fp, ∃ o, s.heap.get? b = some o ∧ ∀ v, o.data ≠ .cell v) : Inv X (pins ++ pinsAt fp s.heap) σ H s :=
  I.pins_of fun p hp => (List.mem_append.mp hp).elim (fun z => I.pin p (List.mem_append_right _ z)) fun z => by
    obtain ⟨hb, e⟩ := of_pinsAt z
    obtain ⟨f0, f1, f2, _⟩ := hf p.1 hb
    obtain ⟨o, e', d⟩ := ho p.1 hb
    rw [e] at e'; cases e'
    exact ⟨e, f0, f1, f2, d⟩
theorem Inv.unpinned {pins pl : List (Addr × Obj)} {σ : St} {H : Hp} {s : Shared} (I : Inv X (pins ++ pl) σ H s) : Inv X pins σ H s := I.pins_of fun p hp => I.pin p (List.mem_append_right _ (List.mem_append_left _ hp))
theorem ps_for {iter : Expr} {body : List Stmt} {wi : TI} {g : TG} {tb : TS} {pos : Pos} (hp : PassesOwn (model X.prog X.w) X.A X.env X.xe) (hc : X.calm = true) (hi : PI X tg iter wi) (hg : PG X tg g) (hb : PSs X body tb)
    (hs : ∀ x, foldedSetIterable iter X.env x = pure x := by intro _; rfl) : PS X (.For tg iter body [] pos) (tFor wi g tb) := by
  intro pins s σ H D I h
  refine wpAny_For (thn (hi pins s σ H _ I h) fun v s1 h1 => thn h1 fun itv s2 h2 => ?_) hs
  obtain ⟨it, fp, tn, J, H2, e, I2, T, st2, f2, W, ⟨m0, w0⟩, turn⟩ := h2
  subst e
  have stat : ∀ {H' : Hp}, (∀ b ∈ fp, H' b = none) → ∀ b ∈ fp, FpOk X pins H' b := fun hn b hb => ⟨hn b hb, (f2 b hb).2⟩
  refine codeAny_forLoop_any (fun n s' => ∃ i σ' H', Inv X pins σ' H' s' ∧ tn i s'.heap ∧ (∀ b ∈ fp, H' b = none) ∧ W i n σ' H') ?_ m0 ⟨0, σ, H2, I2, st2, fun b hb => (f2 b hb).1, w0⟩
  rintro n s3 ⟨i, σ3, H3, I3, st3, fr3, w3⟩
  rcases turn i n σ3 H3 w3 with ⟨stop, qn⟩ | ⟨go, N, hN, step⟩
  · refine wpAny_passesOwn hp (thn (T.done X rfl rfl rfl hc i pins s3 σ3 H3 X.xe I3 (stat fr3) st3 stop) fun r s4 ⟨hr, I4⟩ => ?_)
    subst hr
    exact wpAny_execs_nil ⟨σ3, H3, I4, qn⟩
  · refine wpAny_passesOwn hp (thn (T.item X rfl rfl rfl hc i pins s3 σ3 H3 X.xe I3 (stat fr3) st3 go) fun r s4 ⟨u, hr, h4⟩ => ?_)
    subst hr
    refine wpAny_passesOwn hp (thn h4 fun _ s5 ⟨x, H5, I5, r5, y5, st5, fr5⟩ => ?_)
    have I5' := I5.pinned (stat fr5) (T.obj _ _ st5)
    refine wpAny_passesOwn hp (thn (hg _ s5 σ3 H5 x u _ I5' r5 (step x H5 y5)) fun _ s6 ⟨σ6, H6, I6, q6⟩ => ?_)
    refine wpAny_passesOwn hp (thn (hb _ s6 σ6 H6 _ I6 q6) fun f s7 q7 => ?_)
    have again : ∀ {σ7 : St} {H7 : Hp}, Inv X (pins ++ pinsAt fp s5.heap) σ7 H7 s7 → N σ7 H7 → ∃ m, m < n ∧ ∃ i σ' H', Inv X pins σ' H' s7 ∧ tn i s7.heap ∧ (∀ b ∈ fp, H' b = none) ∧ W i m σ' H' := fun {σ7 H7} I7 n7 => by
      obtain ⟨m', hm, w7⟩ := hN σ7 H7 n7
      refine ⟨m', hm, i + 1, σ7, H7, I7.unpinned, T.keep _ _ _ st5 fun b hb o e => (I7.pin (b, o) (List.mem_append_right _ (List.mem_append_right _ (mem_pinsAt hb e)))).1, fun b hb => ?_, w7⟩
      obtain ⟨o, e, d⟩ := T.obj _ _ st5 b hb
      exact (I7.pin (b, o) (List.mem_append_right _ (List.mem_append_right _ (mem_pinsAt hb e)))).2.1
    cases f with
    | next => obtain ⟨σ7, H7, I7, n7⟩ := q7; exact again I7 n7
    | cont => obtain ⟨σ7, H7, I7, n7⟩ := q7; exact again I7 n7
    | brk => obtain ⟨σ7, H7, I7, q7⟩ := q7; exact ⟨σ7, H7, I7.unpinned, q7⟩
    | ret v => obtain ⟨x7, σ7, H7, I7, r7, q7⟩ := q7; exact ⟨x7, σ7, H7, I7.unpinned, r7, q7⟩
end
end L2
namespace L2
open PySem PySem.Spec PyProof.Rows
abbrev R2 := V → V → Hp → VK → Prop
def OpR (X : Cx) (f : Value → Value → Sem Value) (r : R2) : Prop :=
  ∀ (pins : List (Addr × Obj)) (s : Shared) (σ : St) (H : Hp) (x y : V) (v u : Value) (Q : VK), Inv X pins σ H s → RelV x v → RelV y u → r x y H Q →
    wpAny (model X.prog X.w) X.A (f v u) (EP X pins σ Q) X.xe s
def UnR (X : Cx) (f : Value → Sem Value) (r : V → Hp → VK → Prop) : Prop :=
  ∀ (pins : List (Addr × Obj)) (s : Shared) (σ : St) (H : Hp) (x : V) (v : Value) (Q : VK), Inv X pins σ H s → RelV x v → r x H Q →
    wpAny (model X.prog X.w) X.A (f v) (EP X pins σ Q) X.xe s
def CallR (X : Cx) (f : Value) (r : List V → Hp → VK → Prop) : Prop :=
  ∀ (pins : List (Addr × Obj)) (s : Shared) (σ : St) (H : Hp) (xs : List V) (us : List Value) (Q : VK), Inv X pins σ H s → Vals xs us → r xs H Q →
    wpAny (model X.prog X.w) X.A (call f us) (EP X pins σ Q) X.xe s
def tOp (r : R2) (ta tb : TE) : TE := fun σ H Q => ta σ H fun x H1 => tb σ H1 fun y H2 => r x y H2 Q
def tUn (r : V → Hp → VK → Prop) (ta : TE) : TE := fun σ H Q => ta σ H fun x H1 => r x H1 Q
def rI (C : Int → Int → Prop) (g : Int → Int → V) : R2 := fun x y H Q => ∃ i j, x = .int i ∧ y = .int j ∧ C i j ∧ Q (g i j) H
def rI0 (g : Int → Int → V) : R2 := fun x y H Q => ∃ i j, x = .int i ∧ y = .int j ∧ Q (g i j) H
def rU (g : Int → V) : V → Hp → VK → Prop := fun x H Q => ∃ i, x = .int i ∧ Q (g i) H
section
variable {X : Cx} {a b c : Expr} {ta tb tc : TE} {pos : Pos}
theorem binT (ha : PE X a ta) (hb : PE X b tb) {pins : List (Addr × Obj)} {s : Shared} {σ : St} {H : Hp} {R : V → V → Hp → Prop} (I : Inv X pins σ H s)
    (h : ta σ H fun x H1 => tb σ H1 fun y H2 => R x y H2) {Q : Value → Shared → Prop} {f : Value → Value → Sem Value}
    (hf : ∀ v u s2 x y H2, Inv X pins σ H2 s2 → RelV x v → RelV y u → R x y H2 → wpAny (model X.prog X.w) X.A (f v u) Q X.xe s2) :
    wpAny (model X.prog X.w) X.A (eval a X.env) (fun v s₁ => wpAny (model X.prog X.w) X.A (eval b X.env) (fun u s₂ => wpAny (model X.prog X.w) X.A (f v u) Q X.xe s₂) X.xe s₁) X.xe s := by
  refine thn (ha pins s σ H _ I h) fun v s1 ⟨x, H1, I1, r1, q1⟩ => ?_
  refine thn (hb pins s1 σ H1 _ I1 q1) fun u s2 ⟨y, H2, I2, r2, q2⟩ => ?_
  exact hf v u s2 x y H2 I2 r1 r2 q2
theorem pe_op {op : Operator} {r : R2} (ho : OpR X (binaryOp op) r) (ha : PE X a ta) (hb : PE X b tb) : PE X (.BinOp a op b pos) (tOp r ta tb) := by
  intro pins s σ H Q I h
  exact wpAny_BinOp (binT ha hb I h fun v u s2 x y H2 I2 rx ry q => ho pins s2 σ H2 x y v u Q I2 rx ry q)
theorem pe_un {op : UnaryOp} {r : V → Hp → VK → Prop} (ho : UnR X (unaryOp op) r) (ha : PE X a ta) : PE X (.UnaryOp op a pos) (tUn r ta) := by
  intro pins s σ H Q I h
  exact UnaryOp_ (thn (ha pins s σ H _ I h) fun v s1 ⟨x, H1, I1, r1, q1⟩ => ho pins s1 σ H1 x v Q I1 r1 q1)
theorem opI {f : Value → Value → Sem Value} {C : Int → Int → Prop} {g : Int → Int → Int}
    (rule : ∀ (i j : Int) (t u : Tok) (s : Shared) (Q : Value → Shared → Prop) (E : Value → Shared → Prop), C i j → Q (.int (g i j) s.toks) { s with toks := s.toks + 1 } → wpAny (model X.prog X.w) X.A (f (.int i t) (.int j u)) Q E s) :
    OpR X f (rI C fun i j => .int (g i j)) := by
  intro pins s σ H x y v u Q I rx ry h
  obtain ⟨i, j, rfl, rfl, hc, q⟩ := h
  obtain ⟨t, rfl⟩ := rx
  obtain ⟨t', rfl⟩ := ry
  exact rule i j t t' s _ _ hc ⟨.int (g i j), H, I.tok _, ⟨_, rfl⟩, q⟩
theorem opI0 {f : Value → Value → Sem Value} {g : Int → Int → Int}
    (rule : ∀ (i j : Int) (t u : Tok) (s : Shared) (Q : Value → Shared → Prop) (E : Value → Shared → Prop), Q (.int (g i j) s.toks) { s with toks := s.toks + 1 } → wpAny (model X.prog X.w) X.A (f (.int i t) (.int j u)) Q E s) :
    OpR X f (rI0 fun i j => .int (g i j)) := by
  intro pins s σ H x y v u Q I rx ry h
  obtain ⟨i, j, rfl, rfl, q⟩ := h
  obtain ⟨t, rfl⟩ := rx
  obtain ⟨t', rfl⟩ := ry
  exact rule i j t t' s _ _ ⟨.int (g i j), H, I.tok _, ⟨_, rfl⟩, q⟩
theorem opB0 {f : Value → Value → Sem Value} {g : Int → Int → Bool}
    (rule : ∀ (i j : Int) (t u : Tok) (s : Shared) (Q : Value → Shared → Prop) (E : Value → Shared → Prop), Q (.bool (g i j)) s → wpAny (model X.prog X.w) X.A (f (.int i t) (.int j u)) Q E s) :
    OpR X f (rI0 fun i j => .bl (g i j)) := by
  intro pins s σ H x y v u Q I rx ry h
  obtain ⟨i, j, rfl, rfl, q⟩ := h
  obtain ⟨t, rfl⟩ := rx
  obtain ⟨t', rfl⟩ := ry
  exact rule i j t t' s _ _ ⟨.bl (g i j), H, I, rfl, q⟩
def CDiv (i j : Int) : Prop := 0 < j ∧ j < 1073741824
def CMul (i j : Int) : Prop := (-(2 ^ 64) < i ∧ i < 2 ^ 64) ∨ (-(2 ^ 64) < j ∧ j < 2 ^ 64)
theorem CMul.ok {i j : Int} (h : CMul i j) : IntMulOk i j := by
  rcases h with ⟨h1, h2⟩ | ⟨h1, h2⟩
  · exact .of_left (intBits_le_64 h1 h2)
  · exact .of_right (intBits_le_64 h1 h2)
theorem op_add : OpR X (binaryOp .Add) (rI0 fun i j => .int (i + j)) := opI0 fun _ _ _ _ _ _ _ q => add_int q
theorem op_sub : OpR X (binaryOp .Sub) (rI0 fun i j => .int (i - j)) := opI0 fun _ _ _ _ _ _ _ q => sub_int q
theorem op_mul : OpR X (binaryOp .Mult) (rI CMul fun i j => .int (i * j)) := opI fun _ _ _ _ _ _ _ hc q => mul_int q hc.ok
theorem op_fdiv : OpR X (binaryOp .FloorDiv) (rI CDiv fun i j => .int (i / j)) := opI fun i j _ _ _ _ _ hc q => by
  have h1 : (0 : Int) < j := hc.1
  have h2 : j < 1073741824 := hc.2
  exact floordiv_int (by omega) (by rw [Int.fdiv_eq_ediv_of_nonneg i (by omega)]; exact q) (.inl (PyProof.noPylong_small (by omega)))
theorem op_mod : OpR X (binaryOp .Mod) (rI (fun _ j => 0 < j) fun i j => .int (i % j)) := opI fun i j _ _ _ _ _ hc q => by
  have h1 : (0 : Int) < j := hc
  exact mod_int' (by omega) (by rw [Int.fmod_eq_emod_of_nonneg i (by omega)]; exact q)
theorem unI {f : Value → Sem Value} {g : Int → Int}
    (rule : ∀ (i : Int) (t : Tok) (s : Shared) (Q : Value → Shared → Prop) (E : Value → Shared → Prop), Q (.int (g i) s.toks) { s with toks := s.toks + 1 } → wpAny (model X.prog X.w) X.A (f (.int i t)) Q E s) :
    UnR X f (rU fun i => .int (g i)) := by
  intro pins s σ H x v Q I rx h
  obtain ⟨i, rfl, q⟩ := h
  obtain ⟨t, rfl⟩ := rx
  exact rule i t s _ _ ⟨.int (g i), H, I.tok _, ⟨_, rfl⟩, q⟩
theorem un_neg : UnR X (unaryOp .USub) (rU fun i => .int (-i)) := unI fun _ _ _ _ _ q => neg_int q
end
section
variable {X : Cx} {a b c : Expr} {ta tb tc : TE} {pos : Pos}
theorem fin_bl {pins : List (Addr × Obj)} {σ : St} {H : Hp} {s : Shared} {Q : VK} {k k' : Bool} (I : Inv X pins σ H s) (q : Q (.bl k) H) (e : k = k') : EP X pins σ Q (.bool k') s := by
  subst e
  exact ⟨.bl k, H, I, rfl, q⟩
theorem op_lt : OpR X (compareOp .Lt) (rI0 fun i j => .bl (decide (i < j))) := opB0 fun _ _ _ _ _ _ _ q => lt_int q
theorem op_le : OpR X (compareOp .LtE) (rI0 fun i j => .bl (decide (i ≤ j))) := opB0 fun _ _ _ _ _ _ _ q => le_int q
theorem op_gt : OpR X (compareOp .Gt) (rI0 fun i j => .bl (decide (j < i))) := opB0 fun _ _ _ _ _ _ _ q => gt_int q
theorem op_lt_str : OpR X (compareOp .Lt) (fun x y H Q => ∃ i j, x = .str i ∧ y = .str j ∧ Q (.bl (decide (i.cps.toList < j.cps.toList))) H) := by
  intro pins s σ H x y v u Q I rx ry h
  obtain ⟨i, j, rfl, rfl, q⟩ := h
  obtain ⟨t, rfl⟩ := rx
  obtain ⟨t', rfl⟩ := ry
  exact lt_str (fin_bl I q rfl)
theorem op_in_str : OpR X (compareOp .In) (fun x y H Q => ∃ i j, x = .str i ∧ y = .str j ∧ Q (.bl (!(Builtin.Str.occurrences j i 0 j.length 1).isEmpty)) H) := by
  intro pins s σ H x y v u Q I rx ry h
  obtain ⟨i, j, rfl, rfl, q⟩ := h
  obtain ⟨t, rfl⟩ := rx
  obtain ⟨t', rfl⟩ := ry
  exact in_str (fin_bl I q rfl)
theorem op_isN : OpR X (compareOp .Is) (fun x y H Q => y = .non ∧ Q (.bl (decide (x = .non))) H) := by
  intro pins s σ H x y v u Q I rx ry h
  obtain ⟨rfl, q⟩ := h
  cases ry
  refine is_none_gen (fin_bl I q ?_)
  cases x <;> first
    | (cases rx; rfl)
    | (obtain ⟨t, rfl⟩ := rx; rfl)
theorem OpR.or {f : Value → Value → Sem Value} {r r' : R2} (h : OpR X f r) (h' : OpR X f r') : OpR X f (fun x y H Q => r x y H Q ∨ r' x y H Q) := by
  intro pins s σ H x y v u Q I rx ry q
  rcases q with q | q
  · exact h pins s σ H x y v u Q I rx ry q
  · exact h' pins s σ H x y v u Q I rx ry q
theorem nomark (b : Expr) {op : CmpOp} (h : op ≠ .In := by decide) (h2 : op ≠ .NotIn := by decide) : behindInMarks op b = false := by
  have e1 : (op == CmpOp.In) = false := by cases op <;> first | rfl | exact absurd rfl h
  have e2 : (op == CmpOp.NotIn) = false := by cases op <;> first | rfl | exact absurd rfl h2
  cases b <;> simp [behindInMarks, e1, e2]
theorem pe_cmpR {op : CmpOp} {r : R2} (ho : OpR X (compareOp op) r) (ha : PE X a ta) (hb : PE X b tb) (hm : behindInMarks op b = false) : PE X (.Compare a [op] [b] pos) (tOp r ta tb) := by
  intro pins s σ H Q I h
  exact wpAny_Compare1 (binT ha hb I h fun v u s2 x y H2 I2 rx ry q => ho pins s2 σ H2 x y v u Q I2 rx ry q) hm
def tTest (t : TE) : TT := fun σ H Q => t σ H fun x H' => ∃ k, x = .bl k ∧ Q k H'
theorem pt_cmpR {op : CmpOp} {r : R2} (ho : OpR X (compareOp op) r) (ha : PE X a ta) (hb : PE X b tb) (hm : behindInMarks op b = false) : PT X (.Compare a [op] [b] pos) (tTest (tOp r ta tb)) := by
  intro pins s σ H Q I h
  refine wpAny_isTrue_Compare1 (thn (ha pins s σ H _ I h) fun v s1 ⟨x, H1, I1, r1, q1⟩ => thn (hb pins s1 σ H1 _ I1 q1) fun u s2 ⟨y, H2, I2, r2, q2⟩ =>
    thn (ho pins s2 σ H2 x y v u _ I2 r1 r2 q2) fun c s3 ⟨z, H3, I3, r3, k, e, q3⟩ => ?_) hm
  subst e
  cases r3
  exact wpAny_truthy_bool ⟨H3, I3, q3⟩
def tChain (r r' : R2) (ta tb tc : TE) : TE := fun σ H Q => ta σ H fun x H1 => tb σ H1 fun y H2 => r x y H2 fun z H3 => ∃ k, z = .bl k ∧
  (if k = true then tc σ H3 fun w' H4 => r' y w' H4 Q else Q (.bl false) H3)
theorem pe_chain {op op' : CmpOp} {r r' : R2} (ho : OpR X (compareOp op) r) (ho' : OpR X (compareOp op') r') (ha : PE X a ta) (hb : PE X b tb) (hc : PE X c tc)
    (hm : lastMarks [op, op'] [b, c] = false := by with_unfolding_all rfl) : PE X (.Compare a [op, op'] [b, c] pos) (tChain r r' ta tb tc) := by
  intro pins s σ H Q I h
  refine Compare_chain (thn (ha pins s σ H _ I h) fun v s1 ⟨x, H1, I1, r1, q1⟩ => chain_link (thn (hb pins s1 σ H1 _ I1 q1) fun u s2 ⟨y, H2, I2, r2, q2⟩ =>
    thn (ho pins s2 σ H2 x y v u _ I2 r1 r2 q2) fun d s3 ⟨z, H3, I3, r3, k, e, q3⟩ => ?_)) hm
  subst e
  cases r3
  refine wpAny_truthy_bool ?_
  cases k with
  | false => exact ite_ff ⟨.bl false, H3, I3, rfl, q3⟩
  | true => exact ite_tt (chain_last (thn (hc pins s3 σ H3 _ I3 q3) fun w' s4 ⟨z', H4, I4, r4, q4⟩ => ho' pins s4 σ H4 y z' u w' Q I4 r2 r4 q4))
theorem pt_chain {op op' : CmpOp} {r r' : R2} (ho : OpR X (compareOp op) r) (ho' : OpR X (compareOp op') r') (ha : PE X a ta) (hb : PE X b tb) (hc : PE X c tc)
    (hm : lastMarks [op, op'] [b, c] = false := by with_unfolding_all rfl) : PT X (.Compare a [op, op'] [b, c] pos) (tTest (tChain r r' ta tb tc)) := by
  intro pins s σ H Q I h
  refine isTrue_chain (thn (ha pins s σ H _ I h) fun v s1 ⟨x, H1, I1, r1, q1⟩ => test_link (thn (hb pins s1 σ H1 _ I1 q1) fun u s2 ⟨y, H2, I2, r2, q2⟩ =>
    thn (ho pins s2 σ H2 x y v u _ I2 r1 r2 q2) fun d s3 ⟨z, H3, I3, r3, k, e, q3⟩ => ?_)) hm
  subst e
  cases r3
  refine wpAny_truthy_bool ?_
  cases k with
  | false =>
    obtain ⟨k', e', q'⟩ := q3
    cases e'
    exact ite_ff ⟨H3, I3, q'⟩
  | true =>
    refine ite_tt (test_last (thn (hc pins s3 σ H3 _ I3 q3) fun w' s4 ⟨z', H4, I4, r4, q4⟩ => thn (ho' pins s4 σ H4 y z' u w' _ I4 r2 r4 q4) fun d' s5 ⟨z2, H5, I5, r5, k2, e2, q5⟩ => ?_))
    subst e2
    cases r5
    exact wpAny_truthy_bool ⟨H5, I5, q5⟩
theorem line63 : (sizeLine : Nat) < 2 ^ 63 := by rw [sizeLine_eq]; decide
theorem op_add_str : OpR X (binaryOp .Add) (fun x y H Q => ∃ i j, x = .str i ∧ y = .str j ∧ i.length + j.length ≤ sizeLine ∧ Q (.str (i ++ j)) H) := by
  intro pins s σ H x y v u Q I rx ry h
  obtain ⟨i, j, rfl, rfl, hz, q⟩ := h
  obtain ⟨t, rfl⟩ := rx
  obtain ⟨t', rfl⟩ := ry
  exact add_str (fun t' tk => ⟨.str (i ++ j), H, I.tok _, ⟨_, rfl⟩, q⟩) hz
theorem vals1 {x : V} {us : List Value} (r : Vals [x] us) : ∃ u, us = [u] ∧ RelV x u := by
  cases r with
  | cons r1 r2 => cases r2; exact ⟨_, rfl, r1⟩
theorem call_int1 : CallR X (.type "int") (fun xs H Q => (∃ i, xs = [.int i] ∧ Q (.int i) H) ∨ ∃ k, xs = [.bl k] ∧ Q (.int (if k then 1 else 0)) H) := by
  intro pins s σ H xs us Q I r h
  rcases h with ⟨i, rfl, q⟩ | ⟨k, rfl, q⟩
  · obtain ⟨u, rfl, t, rfl⟩ := vals1 r
    exact call_int_int ⟨.int i, H, I, ⟨_, rfl⟩, q⟩
  · obtain ⟨u, rfl, r1⟩ := vals1 r
    cases r1
    exact call_int_bool ⟨.int (if k then 1 else 0), H, I.tok _, ⟨_, rfl⟩, q⟩
end
end L2
namespace L2
open PySem PySem.Spec PyProof.Rows
structure ObjM (h : Heap) (x dx C : Addr) (mA : Str → Option Value) : Prop where
  obj : h.get? x = some (PySem.W.instObj C dx)
  ns : h.Ns1 dx mA
  ne : dx ≠ x
theorem lookIn_ns {h : Heap} {dx : Addr} {mA : Str → Option Value} (n : h.Ns1 dx mA) : ∃ od, h.get? dx = some od ∧ ∀ name, PySem.W.lookIn name od = some (mA name) := by
  obtain ⟨o, es, ep, ho, hd, hk, _, hm⟩ := n
  refine ⟨o, ho, fun name => ?_⟩
  have e := hm name
  unfold nsFind findBy at e
  rw [← Array.find?_toList] at e
  unfold PySem.W.lookIn
  rw [hd]
  dsimp only
  split
  · rename_i y q
    rw [q] at e
    exact congrArg some e
  · rename_i q
    rw [q] at e
    have a : es.toList.any (·.refKey) = false := by
      rw [List.any_eq_false]
      intro y hy
      obtain ⟨z, t, hkey⟩ := hk y (Array.mem_toList_iff.mp hy)
      simp [DictEntry.refKey, hkey]
    have a' : ¬ es.toList.any (·.refKey) = true := by rw [a]; exact Bool.false_ne_true
    rw [if_neg a']
    exact congrArg some e
theorem ObjM.look {h : Heap} {x dx C : Addr} {mA : Str → Option Value} (I : ObjM h x dx C mA) : ∃ od, PySem.W.InstAt h x (PySem.W.instObj C dx) C (some od) ∧ ∀ name, PySem.W.lookIn name od = some (mA name) :=
  let ⟨od, ho, hl⟩ := lookIn_ns I.ns
  ⟨od, ⟨I.obj, rfl, rfl, ho⟩, hl⟩
end L2
namespace L2
open PySem PySem.Spec PyProof.Rows
structure Room (k : Nat) (A : Around) : Prop where
  hd : A.handled = none
  dp : A.depth + 3 * k + 5 < recursionLimit
  un : A.units + 16 * k + 200 < cLine
theorem Room.mono {j k : Nat} {A : Around} (r : Room k A) (h : j ≤ k) : Room j A := ⟨r.hd, by have := r.dp; omega, by have := r.un; omega⟩
theorem Room.deeper {k : Nat} {A : Around} (r : Room (k + 1) A) (env : Env) : Room k (A.deeper env) :=
  ⟨r.hd, by have := r.dp; show A.depth + 1 + 3 * k + 5 < _; omega, by have := r.un; show A.units + 3 + 16 * k + 200 < _; omega⟩
theorem Room.depth {k : Nat} {A : Around} (r : Room k A) : A.depth < recursionLimit := by have := r.dp; omega
theorem Room.units0 {k : Nat} {A : Around} (r : Room k A) : A.units < cLine := by have := r.un; omega
def tNil : TA := fun _ H Q => Q [] H
def tCons (ta : TE) (tr : TA) : TA := fun σ H Q => ta σ H fun x H1 => tr σ H1 fun xs H2 => Q (x :: xs) H2
section
variable {X : Cx} {e : Expr} {es : List Expr} {te : TE} {t : TA} {pos : Pos}
theorem pa_nil : PA X [] tNil := fun _ _ _ _ H Q I h => Calls.spliced_nil ⟨[], H, I, .nil, h⟩
theorem pa_cons (ha : PE X e te) (hr : PA X es t) (hs : starEach (e :: es) X.env = (false, eval e X.env) :: starEach es X.env := by rfl) : PA X (e :: es) (tCons te t) := by
  intro pos pins s σ H Q I h
  rw [hs]
  show wpAny _ _ (spliced ((false, eval e X.env) :: backTo pos (starEach es X.env))) _ _ s
  refine Calls.spliced_cons (thn (ha pins s σ H _ I h) fun u s1 ⟨x, H1, I1, r1, q1⟩ => ?_)
  exact thn (hr pos pins s1 σ H1 _ I1 q1) fun us s2 ⟨xs, H2, I2, r2, q2⟩ => ⟨x :: xs, H2, I2, .cons r1 r2, q2⟩
def tTup (t : TA) : TE := fun σ H Q => t σ H fun xs H1 => xs.length ≤ sizeLine ∧ ∀ p, H1 p = none → Q (.ref p) (upd H1 p (.tup xs))
def tLst (t : TA) : TE := fun σ H Q => t σ H fun xs H1 => xs.length ≤ sizeLine ∧ ∀ p, H1 p = none → Q (.ref p) (upd H1 p (.lst xs))
theorem pe_tup {x1} (h : PA X es t) : PE X (.Tuple es x1 pos) (tTup t) := by
  intro pins s σ H Q I hq
  refine wpAny_Tuple_spliced (thn (h pos pins s σ H _ I hq) fun us s1 ⟨xs, H1, I1, r, z, q⟩ => ⟨by rw [← r.length]; exact z, ?_⟩)
  have hf : H1 s1.heap.objs.size = none := I1.hok.fresh (Nat.le_refl _)
  refine ⟨.ref s1.heap.objs.size, upd H1 s1.heap.objs.size (.tup xs), I1.laid (t' := s1.toks) (fun b u e => Heap.get?_push_of_some _ e) (Nat.le_refl _) ?_, rfl, q _ hf⟩
  exact ⟨z, us, r, ⟨_, Heap.get?_push_size _ rfl, rfl, _, rfl⟩⟩
theorem pe_lst (h : PA X es t) : PE X (.List es pos) (tLst t) := by
  intro pins s σ H Q I hq
  refine wpAny_List_spliced (thn (h pos pins s σ H _ I hq) fun us s1 ⟨xs, H1, I1, r, z, q⟩ => ⟨by rw [← r.length]; exact z, ?_⟩)
  have hf : H1 s1.heap.objs.size = none := I1.hok.fresh (Nat.le_refl _)
  refine ⟨.ref s1.heap.objs.size, upd H1 s1.heap.objs.size (.lst xs), I1.laid (t' := s1.toks) (fun b u e => Heap.get?_push_of_some _ e) (Nat.le_refl _) ?_, rfl, q _ hf⟩
  exact ⟨z, us, 0, r, Heap.get?_push_size _ rfl⟩
end
abbrev Sp := List V → Hp → VK → XK → Prop
abbrev CXT := List Env → Hp → Shared → XK → Value → Shared → Prop
structure Env0 (P : Program) (w : World) (K : PySem.W.Frag) (mg : Str → Option Value) (base : Heap) (A : Around) (outer : List Env) (s : Shared) (H : Hp) : Prop where
  frames : A.frames = some outer
  mod : Mod K mg base
  bs : ∀ b o, base.get? b = some o → s.heap.get? b = some o ∧ H b = none
  bsz : base.objs.size ≤ s.heap.objs.size
  funs : s.heap.FunFrames base outer
  frf : ∀ b ∈ frs outer, H b = none
  hok : HOk P w H s.heap
  bare : AllBare s.gens
def CE (outer : List Env) (P : Program) (w : World) (H : Hp) (s : Shared) (Q : VK) (u : Value) (s' : Shared) : Prop :=
  ∃ v H', s'.os = s.os ∧ AllBare s'.gens ∧ Un (frs outer) [] H H' s.heap s'.heap ∧ HOk P w H' s'.heap ∧ RelV v u ∧ Q v H'
def CR (CX : CXT) (outer : List Env) (P : Program) (w : World) (H : Hp) (s : Shared) (Q : VK) (E : XK) (r : Result) (s' : Shared) : Prop :=
  match r with
  | .ok (.ret u) => CE outer P w H s Q u s'
  | .ok _ => False
  | .error e => CX outer H s E e s'
structure FnOk (P : Program) (w : World) (K : PySem.W.Frag) (mg : Str → Option Value) (base : Heap) (CX : CXT) (k : Nat) (f : Addr) (fd : FuncData) (ps : List Str) (sp : Sp) : Prop where
  len : ∀ vs H Q E, sp vs H Q E → vs.length = ps.length
  run : ∀ (A : Around) (outer : List Env) (s : Shared) (H : Hp) (args : Args) (us : List Value) (vs : List V) (Q : VK) (E : XK), Room k A → Env0 P w K mg base A outer s H → BindsTo s fd args (ps.zip us) → Vals vs us → sp vs H Q E →
    codeAny (model P w) A (.call (.ref f) args) (CR CX outer P w H s Q E) s
theorem FnOk.mono {P : Program} {w : World} {K : PySem.W.Frag} {mg : Str → Option Value} {base : Heap} {CX : CXT} {j k : Nat} {f : Addr} {fd : FuncData} {ps : List Str} {sp : Sp} (F : FnOk P w K mg base CX j f fd ps sp) (h : j ≤ k) :
    FnOk P w K mg base CX k f fd ps sp := ⟨F.len, fun A outer s H args us vs Q E hr => F.run A outer s H args us vs Q E (hr.mono h)⟩
theorem FnOk.imp {P : Program} {w : World} {K : PySem.W.Frag} {mg : Str → Option Value} {base : Heap} {CX : CXT} {k : Nat} {f : Addr} {fd : FuncData} {ps : List Str} {sp sp' : Sp} (F : FnOk P w K mg base CX k f fd ps sp)
    (h : ∀ vs H Q E, sp' vs H Q E → sp vs H Q E) : FnOk P w K mg base CX k f fd ps sp' :=
  ⟨fun vs H Q E q => F.len vs H Q E (h _ _ _ _ q), fun A outer s H args us vs Q E hr he hb hv hs => F.run A outer s H args us vs Q E hr he hb hv (h _ _ _ _ hs)⟩
section
variable {X : Cx} {pins : List (Addr × Obj)} {σ : St} {H : Hp} {s s' : Shared}
theorem Inv.env0 (I : Inv X pins σ H s) : Env0 X.prog X.w X.K X.mg X.base X.A X.stack s H :=
  ⟨I.ok.frames, I.ok.mod, I.bs, Nat.le_trans I.ok.bsz I.sz, I.stack, I.stkFree, I.hok, I.bare⟩
theorem Inv.after {Q : VK} {u : Value} (I : Inv X pins σ H s) (h : CE X.stack X.prog X.w H s Q u s') : EP X pins σ Q u s' := by
  obtain ⟨v, H', os, bare, un, hok, r, q⟩ := h
  obtain ⟨hh, g, d, t, os'⟩ := s'
  obtain rfl : os' = s.os := os
  exact ⟨v, H', I.call (h' := hh) (g' := g) (d' := d) (t' := t) (ch := []) un hok bare (fun b z => absurd z (by simp)), r, q⟩
end
def tCall (sp : Sp) (dvs : List V) (E : XK) (t : TA) : TE := fun σ H Q => t σ H fun vs H1 => sp (vs ++ dvs) H1 Q E
def Binds (K : PySem.W.Frag) (fd : FuncData) (ps : List Str) (ds : List Value) : Prop :=
  ∀ (s : Shared) (us : List Value), K.In s.heap → (us ++ ds).length = ps.length → BindsTo s fd ⟨us, []⟩ (ps.zip (us ++ ds))
theorem Binds.all {K : PySem.W.Frag} {fd : FuncData} {ps : List Str} (h : ∀ us : List Value, us.length = ps.length → bindArgs fd ⟨us, []⟩ = pure (ps.zip us)) : Binds K fd ps [] := fun s us _ hl => by
  rw [List.append_nil] at hl ⊢
  exact .of_eq (h us hl)
def Passes (CX : CXT) (X : Cx) (E : XK) : Prop := ∀ (pins : List (Addr × Obj)) (σ : St) (H : Hp) (s : Shared) (e : Value) (s' : Shared), Inv X pins σ H s → CX X.stack H s E e s' → X.xe e s'
section
variable {X : Cx} {CX : CXT} {k : Nat} {f C : Addr} {fd : FuncData} {ps : List Str} {sp : Sp} {dvs : List V} {ds : List Value} {E : XK} {x m : Str} {p pos apos : Pos} {e o : Expr} {es : List Expr} {ta : TE} {t : TA}
theorem run_fn {pins : List (Addr × Obj)} {σ : St} {H : Hp} {s : Shared} {Q : VK} {us : List Value} {vs : List V} (F : FnOk X.prog X.w X.K X.mg X.base CX k f fd ps sp) (hr : Room k X.A) (hb : Binds X.K fd ps ds) (hd : Vals dvs ds) (hx : Passes CX X E)
    (I : Inv X pins σ H s) (r : Vals vs us) (h : sp (vs ++ dvs) H Q E) : wpAny (model X.prog X.w) X.A (call (.ref f) us) (EP X pins σ Q) X.xe s := by
  have r2 : Vals (vs ++ dvs) (us ++ ds) := r.append hd
  have hl : (us ++ ds).length = ps.length := by rw [← r2.length]; exact F.len _ _ _ _ h
  refine wpAny_call (codeAny_mono (F.run X.A X.stack s H ⟨us, []⟩ (us ++ ds) (vs ++ dvs) Q E hr I.env0 (hb s us I.kIn hl) r2 h) fun r s' hq => ?_)
  cases r with
  | error e => exact hx pins σ H s e s' I hq
  | ok fl =>
    cases fl with
    | ret u => exact I.after hq
    | next => exact False.elim hq
    | brk => exact False.elim hq
    | cont => exact False.elim hq
theorem pe_call (F : FnOk X.prog X.w X.K X.mg X.base CX k f fd ps sp) (hr : Room k X.A) (hg : Gl X x) (hm : X.mg x = some (.ref f)) (hk : PySem.W.keepIn X.K (.ref f) = true) (hb : Binds X.K fd ps ds) (hd : Vals dvs ds) (hx : Passes CX X E)
    (ha : PA X (e :: es) t) (hdb : (x == ("__debug__" : Str)) = false := by decide) (he : starEach (e :: es) X.env = (false, eval e X.env) :: starEach es X.env := by rfl) (hpl : (backTo pos (starEach es X.env)).any (·.1) = false := by rfl) :
    PE X (.Call (.Name x p) (e :: es) [] pos) (tCall sp dvs E t) := by
  intro pins s σ H Q I h
  refine wpAny_Call_Name_kw (ld_glob I hg hm ?_ hdb)
  refine PySem.W.callWith_K (h₀ := X.base) I.ok.mod.kin hk (thn (ha pos pins s σ H _ I h) fun us s1 ⟨vs, H1, I1, r, q⟩ => ⟨I1.kIn, ?_⟩) he hpl
  exact run_fn F hr hb hd hx I1 r q
end
structure FnScope (N P : List Str) (sc : Scope) : Prop where
  kind : sc.kind = .function
  co : sc.isCoroutine = false
  gen : sc.isGenerator = false
  nd : N.Nodup
  pre : N.take P.length = P
  par : ∀ x ∈ P, sc.names.lookup x = some .local ∨ sc.names.lookup x = some .cell
  nofree : ∀ y ∈ sc.names, y.2 ≠ .free
theorem bindL_out {kindOf : Str → Option NameKind} {x : Str} : ∀ {binds : List (Str × Value)} {m : Str → Option Value}, (∀ v, (x, v) ∉ binds) → bindL kindOf binds m x = m x
  | [], _, _ => rfl
  | (n, v) :: r, m, h => by
    unfold bindL
    rw [bindL_out fun w hw => h w (List.mem_cons_of_mem _ hw)]
    split
    · have : x ≠ n := by rintro rfl; exact h v List.mem_cons_self
      simp [this]
    · rfl
theorem bindC_out {kindOf : Str → Option NameKind} {x : Str} : ∀ {binds : List (Str × Value)} {m : Str → Option Value}, (∀ v, (x, v) ∉ binds) → bindC kindOf binds m x = m x
  | [], _, _ => rfl
  | (n, v) :: r, m, h => by
    unfold bindC
    rw [bindC_out fun w hw => h w (List.mem_cons_of_mem _ hw)]
    split
    · rfl
    · have : x ≠ n := by rintro rfl; exact h v List.mem_cons_self
      simp [this]
theorem bindL_get {kindOf : Str → Option NameKind} {x : Str} {v : Value} : ∀ {P : List Str} {vs : List Value} {i : Nat} {m : Str → Option Value}, P.Nodup → P[i]? = some x → vs[i]? = some v → kindOf x = some .local →
    bindL kindOf (P.zip vs) m x = some v
  | [], _, _, _, _, h, _, _ => by simp at h
  | _ :: _, [], _, _, _, _, h, _ => by simp at h
  | p :: P, w :: vs, 0, m, nd, h1, h2, hk => by
    simp at h1 h2; subst h1; subst h2
    show bindL kindOf ((p, w) :: P.zip vs) m p = _
    unfold bindL
    rw [bindL_out fun v hv => (List.nodup_cons.mp nd).1 (List.of_mem_zip hv).1, if_pos hk]
    simp
  | p :: P, w :: vs, i + 1, m, nd, h1, h2, hk => by
    show bindL kindOf ((p, w) :: P.zip vs) m x = _
    unfold bindL
    exact bindL_get (i := i) (List.nodup_cons.mp nd).2 (by simpa using h1) (by simpa using h2) hk
theorem bindC_get {kindOf : Str → Option NameKind} {x : Str} {v : Value} : ∀ {P : List Str} {vs : List Value} {i : Nat} {m : Str → Option Value}, P.Nodup → P[i]? = some x → vs[i]? = some v → kindOf x ≠ some .local →
    bindC kindOf (P.zip vs) m x = some v
  | [], _, _, _, _, h, _, _ => by simp at h
  | _ :: _, [], _, _, _, _, h, _ => by simp at h
  | p :: P, w :: vs, 0, m, nd, h1, h2, hk => by
    simp at h1 h2; subst h1; subst h2
    show bindC kindOf ((p, w) :: P.zip vs) m p = _
    unfold bindC
    rw [bindC_out fun v hv => (List.nodup_cons.mp nd).1 (List.of_mem_zip hv).1, if_neg hk]
    simp
  | p :: P, w :: vs, i + 1, m, nd, h1, h2, hk => by
    show bindC kindOf ((p, w) :: P.zip vs) m x = _
    unfold bindC
    exact bindC_get (i := i) (List.nodup_cons.mp nd).2 (by simpa using h1) (by simpa using h2) hk
def start (N : List Str) (vs : List V) : St := vs.map some ++ List.replicate (N.length - vs.length) none
def cxOf (CX : CXT) (P : Program) (w : World) (K : PySem.W.Frag) (mg : Str → Option Value) (base : Heap) (N : List Str) (qual : Str) (scope : Scope) (f : Addr) (cd : Value) (A : Around) (outer : List Env) (s : Shared) (H : Hp) (E : XK) : Cx where
  prog := P
  w := w
  K := K
  mg := mg
  base := base
  A := A.deeper (envOfC qual scope s.heap.objs.size f cd)
  N := N
  s₀ := s
  H₀ := H
  env := envOfC qual scope s.heap.objs.size f cd
  outer := outer
  stack := envOfC qual scope s.heap.objs.size f cd :: outer
  ex := []
  calm := true
  fn := fun _ => true
  pn := []
  xe := fun e s' => wpAny (model P w) (A.deeper (envOfC qual scope s.heap.objs.size f cd)) (leaving (envOfC qual scope s.heap.objs.size f cd) e) (fun _ s'' => CX outer H s E e s'') (fun e' s'' => CX outer H s E e' s'') s'
theorem cell_has {sc : Scope} {n : Nat} {x : Str} (h : sc.names.lookup x = some .cell) : ∃ c, (cellsFrom n sc.names []).lookup x = some c := by
  have q := PySem.W.cellsFrom_some sc.names n [] (.inl h)
  exact Option.isSome_iff_exists.mp q
theorem inv_start {CX : CXT} {P : Program} {w : World} {K : PySem.W.Frag} {mg : Str → Option Value} {base : Heap} {N ps : List Str} {qual : Str} {scope : Scope} {f : Addr} {cd : Value} {A : Around} {outer : List Env} {s s1 : Shared} {H : Hp} {E : XK} {us : List Value} {vs : List V}
    (S : FnScope N ps scope) (hd : A.handled = none) (e0 : Env0 P w K mg base A outer s H) (hl : vs.length = ps.length) (r : Vals vs us)
    (x : InCallC s s.heap.objs.size (bindL (envOfC qual scope s.heap.objs.size f cd).kindOf (ps.zip us) fun _ => none) (cellsFrom (s.heap.objs.size + 1) scope.names []) (bindC (envOfC qual scope s.heap.objs.size f cd).kindOf (ps.zip us) fun _ => none) s1) :
    Inv (cxOf CX P w K mg base N qual scope f cd A outer s H E) [] (start N vs) H s1 := by
  have hpl : ps.length ≤ N.length := by have := congrArg List.length S.pre; rw [List.length_take] at this; omega
  obtain ⟨h1, tk, rfl, hk⟩ := x.done
  have noA : ∀ b : Addr, b ∉ (cxOf CX P w K mg base N qual scope f cd A outer s H E).ex := fun b z => absurd (show b ∈ ([] : List Addr) from z) (by simp)
  refine ⟨⟨e0.mod, S.kind, rfl, rfl, Nat.le_refl _, fun y z c h1 h2 => ?_, fun y hy => ?_, fun y c _ h => ?_, fun _ => hd, Around.frames_deeper e0.frames, .inr ⟨rfl, rfl⟩, fun b z => absurd z (noA b), e0.bs, e0.bsz, fun b _ _ => noA b, fun b z => absurd z (noA b), e0.funs, e0.frf⟩,
    rfl, e0.bare, Un.kept hk, ⟨_, x.toInCall.ns, fun i y v h1 h2 h3 => ?_⟩, fun y c h => ⟨_, x.cell y c h⟩, e0.hok.fresh (Nat.le_refl _), fun y c h => ?_, fun p hp => absurd (show p ∈ ([] : List (Addr × Obj)) from hp) (by simp), e0.hok.kept hk, ?_⟩
  · exact name_of_addr x.apart (PySem.mem_of_lookup h1) (PySem.mem_of_lookup h2)
  · have hy : scope.names.lookup y = some .cell ∨ scope.names.lookup y = some .free := hy
    rcases hy with hy | hy
    · exact cell_has hy
    · exact absurd rfl (S.nofree _ (PySem.mem_of_lookup hy))
  · exact Nat.le_of_lt (x.above y c (PySem.mem_of_lookup h))
  · have hi : i < vs.length := by
      unfold start at h2
      by_cases hi : i < vs.length
      · exact hi
      · rw [List.getElem?_append_right (by simpa using hi)] at h2
        rw [List.getElem?_replicate] at h2
        split at h2 <;> cases h2
    have ha : vs[i]? = some v := by
      unfold start at h2
      rw [List.getElem?_append_left (by simpa using hi), List.getElem?_map] at h2
      cases e : vs[i]? with
      | none => rw [e] at h2; cases h2
      | some a => rw [e] at h2; cases h2; rfl
    obtain ⟨u, hu, rv⟩ := r.get ha
    have hp : ps[i]? = some y := by
      rw [← S.pre, List.getElem?_take_of_lt (by omega)]; exact h1
    have ndP : ps.Nodup := by rw [← S.pre]; exact S.nd.sublist (List.take_sublist _ _)
    refine ⟨u, rv, ?_⟩
    rcases S.par y (List.mem_of_getElem? hp) with k | k
    · exact .inl ⟨k, bindL_get ndP hp hu k⟩
    · obtain ⟨c, e⟩ := cell_has (n := s.heap.objs.size + 1) k
      refine .inr ⟨.inl k, c, e, ?_⟩
      have q := x.cell y c e
      rw [bindC_get ndP hp hu (by show scope.names.lookup y ≠ _; rw [k]; decide)] at q
      exact q
  · exact e0.hok.fresh (Nat.le_of_lt (x.above y c (PySem.mem_of_lookup h)))
  · unfold start
    show _ = N.length
    rw [List.length_append, List.length_map, List.length_replicate]
    omega
theorem fn_of {CX : CXT} {P : Program} {w : World} {K : PySem.W.Frag} {mg : Str → Option Value} {base : Heap} {k : Nat} {f : Addr} {name qual : Str} {params : Arguments} {body : List Stmt} {scope : Scope} {dV kV doc pm cdv ct oc : Value} {an od : Option Addr}
    {osl : Array (Option Value)} {N ps : List Str} {sp : Sp} (lk : K.lookup f = some ⟨oc, od, .func (PySem.W.fnOf name qual params body scope dV kV doc pm an cdv ct), osl⟩) (hcd : PySem.W.codeIn K cdv qual = true) (S : FnScope N ps scope)
    (len : ∀ vs H Q E, sp vs H Q E → vs.length = ps.length)
    (hbody : ∀ (A : Around) (outer : List Env) (s : Shared) (H : Hp) (vs : List V) (Q : VK) (E : XK), Room k (A.deeper (envOfC qual scope s.heap.objs.size f cdv)) → sp vs H Q E →
      ∃ t, PSs (cxOf CX P w K mg base N qual scope f cdv A outer s H E) body t ∧ t { nx := fun _ H' => Q .non H', rt := Q } (start N vs) H) :
    FnOk P w K mg base CX (k + 1) f (PySem.W.fnOf name qual params body scope dV kV doc pm an cdv ct) ps sp := by
  refine ⟨len, fun A outer s H args us vs Q E hr e0 hb r hsp => ?_⟩
  have hl := len _ _ _ _ hsp
  have KX : K.In s.heap := e0.mod.kin.keeps fun b o e => (e0.bs b o e).1
  have lim : s.heap.NoLimit := e0.mod.nolimit.keeps fun b o e => (e0.bs b o e).1
  have hkind : ∀ y ∈ ps.zip us, scope.names.lookup y.1 = some .local ∨ (scope.names.lookup y.1 = some .cell ∧ ((cellsFrom (s.heap.objs.size + 1) scope.names []).lookup y.1).isSome = true) := fun ⟨n, v⟩ hy => by
    rcases S.par n (List.of_mem_zip hy).1 with q | q
    · exact .inl q
    · exact .inr ⟨q, PySem.W.cellsFrom_some _ _ _ (.inl q)⟩
  refine codeAny_call_function hr.depth (KX _ _ lk) rfl S.co S.gen rfl (PySem.W.codeRec_of KX hcd) (hb _ _ _ _ ?_)
  refine wpAny_newFunctionEnv_cells S.kind hkind fun env he s1 x => ?_
  subst he
  refine ⟨lim.keeps x.toInCall.keep, codeAny_func ?_⟩
  obtain ⟨t, ht, hq⟩ := hbody A outer s H vs Q E (hr.deeper _) hsp
  have I : Inv (cxOf CX P w K mg base N qual scope f cdv A outer s H E) [] (start N vs) H s1 := inv_start S hr.hd e0 hl r x
  refine wpAny_mono (ht [] s1 (start N vs) H _ I hq) (fun fl s' hs => ?_) fun e s' hs => hs
  have fin : ∀ {σ' : St} {H' : Hp} {v : V} {u : Value}, Inv (cxOf CX P w K mg base N qual scope f cdv A outer s H E) [] σ' H' s' → RelV v u → Q v H' → CE outer P w H s Q u s' :=
    fun {σ' H' v u} J rv q => ⟨v, H', J.os, J.bare, J.base, J.hok, rv, q⟩
  cases fl with
  | ret u =>
    obtain ⟨v, σ', H', J, rv, q⟩ := hs
    exact fin J rv q
  | next =>
    obtain ⟨σ', H', J, q⟩ := hs
    exact fin (v := V.non) (u := Value.none) J rfl q
  | brk =>
    obtain ⟨_, _, _, q⟩ := hs
    exact False.elim q
  | cont =>
    obtain ⟨_, _, _, q⟩ := hs
    exact False.elim q
end L2
namespace L2
open PySem PySem.Spec PyProof.Rows
section
variable {X : Cx} {x : Str} {p pos : Pos} {e : Expr} {es : List Expr} {t : TA} {id T : String} {r : List V → Hp → VK → Prop}
def tCB (r : List V → Hp → VK → Prop) (t : TA) : TE := fun σ H Q => t σ H fun vs H1 => r vs H1 Q
theorem pe_callB (hc : CallR X (.builtin id) r) (hg : Gl X x) (hm : X.mg x = none) (hv : bootBuiltins x = some (.builtin id)) (ha : PA X (e :: es) t) (hn : x ≠ "__name__" := by decide) (hdb : (x == ("__debug__" : Str)) = false := by decide)
    (he : starEach (e :: es) X.env = (false, eval e X.env) :: starEach es X.env := by rfl) (hpl : (backTo pos (starEach es X.env)).any (·.1) = false := by rfl) : PE X (.Call (.Name x p) (e :: es) [] pos) (tCB r t) := by
  intro pins s σ H Q I h
  refine wpAny_Call_Name_kw (ld_blt I hg hm hv ?_ hn hdb)
  exact PyProof.Rows.callWith_builtin1 (thn (ha pos pins s σ H _ I h) fun us s1 ⟨vs, H1, I1, r1, q1⟩ => hc pins s1 σ H1 vs us Q I1 r1 q1) he hpl
theorem pe_callTy (hc : CallR X (.type T) r) (hg : Gl X x) (hm : X.mg x = none) (hv : bootBuiltins x = some (.type T)) (ha : PA X (e :: es) t) (hn : x ≠ "__name__" := by decide) (hdb : (x == ("__debug__" : Str)) = false := by decide)
    (he : starEach (e :: es) X.env = (false, eval e X.env) :: starEach es X.env := by rfl) (hpl : (backTo pos (starEach es X.env)).any (·.1) = false := by rfl) : PE X (.Call (.Name x p) (e :: es) [] pos) (tCB r t) := by
  intro pins s σ H Q I h
  refine wpAny_Call_Name_kw (ld_blt I hg hm hv ?_ hn hdb)
  exact PyProof.Rows.callWith_type1 (thn (ha pos pins s σ H _ I h) fun us s1 ⟨vs, H1, I1, r1, q1⟩ => hc pins s1 σ H1 vs us Q I1 r1 q1) he hpl
end
end L2
namespace HT
open PySem PyProof.Rows
theorem eqAt_int (A : Around) (s : Shared) (a : Int) (t : Tok) (c : Int) (u : Tok) : ∃ e, SeqAt.EqAt A s (.int a t) (.int c u) e ∧ (e = true ↔ a = c) :=
  ⟨(a == c), SeqAt.EqAt.int_int a t c u, by simp⟩
theorem rcLt_int (A : Around) (s : Shared) (a : Int) (t : Tok) (c : Int) (u : Tok) (prog : Program) (w : World) (E : Value → Shared → Prop) (Q : Value → Shared → Prop) (h : Q (.bool (decide (a < c))) s) :
    wpAny (model prog w) A (richCompare .Lt (.int a t) (.int c u)) Q E s :=
  (PyProof.Rows.lt_int h : wpAny (model prog w) A (compareOp .Lt (.int a t) (.int c u)) Q E s)
section
open PySem.SeqAt
open PySem.AutoSeq1 (wpAny_loadPart')
open PySem.MeetsSeq PySem.MeetsSeq2 PySem.MeetsSeq3
end
section
variable {prog : Program} {w : World} {A : Around} {E : Value → Shared → Prop} {s : Shared}
theorem cat_tup {t b : Addr} {vs ws : List Value} {Q : Value → Shared → Prop} (ht : IsTup s.heap t vs.toArray) (hb : IsTup s.heap b ws.toArray) (hv : vs ≠ [])
    (h1 : ws = [] → Q (.ref t) s) (h2 : ws ≠ [] → Q (.ref s.heap.objs.size) { s with heap := s.heap.push { cls := .type "tuple", data := .seq (vs ++ ws).toArray } })
    (hsz : vs.length + ws.length ≤ sizeLine) : wpAny (model prog w) A (binaryOp .Add (.ref t) (.ref b)) Q E s := by
  obtain ⟨⟨cls, dd, data, sl⟩, ho, hc, n, hd⟩ := id ht
  obtain ⟨⟨cls2, dd2, data2, sl2⟩, ho2, hc2, n2, hd2⟩ := id hb
  simp only at hc hd hc2 hd2
  subst hc hd hc2 hd2
  have e : vs.toArray ++ ws.toArray = (vs ++ ws).toArray := by simp
  by_cases hw : ws = []
  · exact concat_meets ⟨_, ho, rfl⟩ ⟨_, ho2, rfl⟩ noFill_tuple_add seq_tuple_add PySem.F.slot_tuple_add PySem.F.entry_tuple_add (PySem.F.args_tuple_add_2 _ _)
      (tuple_addW1 t b vs.toArray ws.toArray n n2 dd dd2 sl sl2 (by simpa using hv) (by simp [hw])) ⟨ho, ho2, h1 hw⟩
  · refine concat_meets ⟨_, ho, rfl⟩ ⟨_, ho2, rfl⟩ noFill_tuple_add seq_tuple_add PySem.F.slot_tuple_add PySem.F.entry_tuple_add (PySem.F.args_tuple_add_2 _ _)
      (tuple_addW2 t b vs.toArray ws.toArray n n2 dd dd2 sl sl2 (by simpa using hv) (by simpa using hw) (by rw [List.size_toArray, List.size_toArray]; exact hsz)) ⟨ho, ho2, ?_⟩
    rw [e]
    exact h2 hw
def sIx (n d : Nat) : Option Int → Nat
  | none => d
  | some v => if v < 0 then (v + (n : Int)).toNat else min v.toNat n
theorem sIx_none (n d : Nat) : sIx n d none = d := rfl
theorem sIx_nat (n d k : Nat) : sIx n d (some (k : Int)) = min k n := by
  show (if (k : Int) < 0 then ((k : Int) + (n : Int)).toNat else min (k : Int).toNat n) = min k n
  rw [if_neg (by omega), Int.toNat_natCast]
theorem sIx_le (n d : Nat) (hd : d ≤ n) (o : Option Int) : sIx n d o ≤ n := by
  cases o with
  | none => exact hd
  | some v =>
    show (if v < 0 then (v + (n : Int)).toNat else min v.toNat n) ≤ n
    by_cases hv : v < 0
    · rw [if_pos hv]; omega
    · rw [if_neg hv]; exact Nat.min_le_right _ _
theorem clip_eq (v : Int) (n d : Nat) : (if v < 0 then max (v + (n : Int)) 0 else min v (n : Int)) = ((sIx n d (some v) : Nat) : Int) := by
  show (if v < 0 then max (v + (n : Int)) 0 else min v (n : Int)) = (((if v < 0 then (v + (n : Int)).toNat else min v.toNat n) : Nat) : Int)
  by_cases hv : v < 0
  · simp only [if_pos hv]; omega
  · simp only [if_neg hv]; omega
theorem adjust_gen (lo hi : Option Int) (n : Nat) : Builtin.Slice.sliceAdjust lo hi 1 (n : Int) = (((sIx n 0 lo : Nat) : Int), ((sIx n n hi : Nat) : Int)) := by
  have h1 : ¬ ((1 : Int) < 0) := by omega
  unfold Builtin.Slice.sliceAdjust
  simp only [h1, if_false]
  refine Prod.ext ?_ ?_
  · cases lo with
    | none => rfl
    | some v => exact clip_eq v n 0
  · cases hi with
    | none => rfl
    | some v => exact clip_eq v n n
theorem places_gen (i j : Nat) : Builtin.Slice.slicePlaces (i : Int) (j : Int) 1 = j - i := by
  unfold Builtin.Slice.slicePlaces
  have h1 : (1 : Int) > 0 := by omega
  simp only [h1, if_true, Int.ediv_one]
  split <;> omega
theorem slicePart_ {v : Value} {o : Option Int} {Q : Option Int → Shared → Prop} (p : IsPart v o) (h : Q o s) : wpAny (model prog w) A (Builtin.Slice.slicePartIndex v) Q E s := by
  cases p with
  | none => exact slicePart_none h
  | int i t => exact slicePart_int h
theorem sliceApplied_gen {sl : Addr} {vl vu : Value} {lo hi : Option Int} {n : Nat} {Q : Int × Int × Nat → Shared → Prop} (hs : s.heap.IsSliceOf sl vl vu .none) (pl : IsPart vl lo) (pu : IsPart vu hi)
    (h : Q (((sIx n 0 lo : Nat) : Int), 1, sIx n n hi - sIx n 0 lo) s) : wpAny (model prog w) A (Builtin.Slice.sliceApplied (.ref sl) (pure (n : Int))) Q E s := by
  obtain ⟨os, hos, hcs, hds⟩ := id hs
  unfold Builtin.Slice.sliceApplied Builtin.Slice.sliceFields
  refine wpAny_bind (wpAny_bind (wpAny_field hos hds (x := vl) rfl (wpAny_bind (wpAny_field hos hds (x := vu) rfl (wpAny_bind (wpAny_field hos hds (x := .none) rfl (wpAny_pure ?_)))))))
  refine wpAny_bind (slicePart_none ?_)
  show wpAny _ _ (if ((1 : Int) == 0) = true then _ else _) _ _ s
  rw [if_neg (by decide)]
  refine wpAny_bind (slicePart_ pl (wpAny_bind (slicePart_ pu (wpAny_bind (wpAny_pure ?_)))))
  show wpAny _ _ (match Builtin.Slice.sliceAdjust lo hi 1 (n : Int) with | (lo, hi) => pure (lo, (1 : Int), Builtin.Slice.slicePlaces lo hi 1)) _ _ s
  rw [adjust_gen lo hi n]
  show wpAny _ _ (pure (((sIx n 0 lo : Nat) : Int), (1 : Int), Builtin.Slice.slicePlaces ((sIx n 0 lo : Nat) : Int) ((sIx n n hi : Nat) : Int) 1)) _ _ s
  rw [places_gen]
  exact wpAny_pure h
theorem pick_gen (xs : Array Value) (i k : Nat) : ((List.range k).filterMap fun (m : Nat) => xs[((i : Int) + (m : Int) * 1).toNat]?).toArray = ((xs.toList.drop i).take k).toArray := by
  have e : (fun (m : Nat) => xs[((i : Int) + (m : Int) * 1).toNat]?) = fun m => xs[i + m]? := by
    funext m
    have : ((i : Int) + (m : Int) * 1).toNat = i + m := by omega
    rw [this]
  rw [e]
  have := pick_run xs i k
  rw [List.filterMap_map] at this
  have e2 : ((fun x => xs[x]?) ∘ fun x => i + x) = fun m => xs[i + m]? := rfl
  rw [e2] at this
  rw [this]
theorem getItem_tuple_cut {t sl : Addr} {items : Array Value} {vl vu : Value} {lo hi : Option Int} {Q : Value → Shared → Prop} (ht : IsTup s.heap t items) (hs : s.heap.IsSliceOf sl vl vu .none) (pl : IsPart vl lo) (pu : IsPart vu hi)
    (hw : ¬ (sIx items.size 0 lo = 0 ∧ sIx items.size items.size hi = items.size))
    (h : Q (.ref s.heap.objs.size) { s with heap := s.heap.push { cls := .type "tuple", data := .seq ((items.toList.drop (sIx items.size 0 lo)).take (sIx items.size items.size hi - sIx items.size 0 lo)).toArray } })
    (hsz : items.size ≤ sizeLine) : wpAny (model prog w) A (getItem (.ref t) (.ref sl)) Q E s := by
  have htake : sizeOk (.seq ((items.toList.drop (sIx items.size 0 lo)).take (sIx items.size items.size hi - sIx items.size 0 lo)).toArray) := by
    show ((items.toList.drop (sIx items.size 0 lo)).take (sIx items.size items.size hi - sIx items.size 0 lo)).toArray.size ≤ sizeLine
    rw [List.size_toArray, List.length_take, List.length_drop, Array.length_toList]
    omega
  have hj : sIx items.size items.size hi ≤ items.size := sIx_le _ _ (Nat.le_refl _) hi
  obtain ⟨os, hos, hcs, hds⟩ := id hs
  have hTs : s.TypeIs (.ref sl) "slice" := ⟨os, hos, hcs⟩
  unfold getItem
  try with_reducible refine wpAny_holding ?_
  first | refine wpAny_bind (wpAny_pure ?_) | skip
  refine wpAny_bind (wpAny_sequenceKey ht.typeIs (by decide) ?_)
  refine wpAny_bind (wpAny_callSpecial?_slot (name := Str.ofString "__getitem__") ht.typeIs PyProof.Rows.slot_tuple_getitem
    (wpAny_call_entry PyProof.Rows.slot_tuple_getitem ht.typeIs entry_tuple_getitem ?_ (args_tuple_getitem _ _)))
  show wpAny _ _ (Builtin.Tuple.tupleItemsOf (.ref t) >>= _) _ _ s
  refine wpAny_bind (tupleItemsOf_ ht ?_)
  refine wpAny_bind (wpAny_typeOf hTs ?_)
  rw [if_pos (by decide)]
  refine wpAny_bind (sliceApplied_gen hs pl pu ?_)
  have hno : ¬ ((((sIx items.size 0 lo : Nat) : Int) == 0 && (1 : Int) == 1 && (sIx items.size items.size hi - sIx items.size 0 lo) == items.size) = true) := by
    intro q
    rw [Bool.and_eq_true, Bool.and_eq_true] at q
    have q1 : ((sIx items.size 0 lo : Nat) : Int) = 0 := eq_of_beq q.1.1
    have q2 : sIx items.size items.size hi - sIx items.size 0 lo = items.size := eq_of_beq q.2
    exact hw ⟨by omega, by omega⟩
  show wpAny _ _ (if (((sIx items.size 0 lo : Nat) : Int) == 0 && (1 : Int) == 1 && (sIx items.size items.size hi - sIx items.size 0 lo) == items.size) = true then _ else _) _ _ s
  rw [if_neg hno, pick_gen]
  first
    | exact wpAny_bind (m := Builtin.Tuple.tupleExact _) (wpAny_newObj_type (wpAny_pure ⟨_, rfl, wpAny_pure h⟩) htake)
    | exact wpAny_bind (m := Builtin.Tuple.tupleExact _) (wpAny_newObj_type (wpAny_bind (wpAny_pure (wpAny_pure ⟨_, rfl, wpAny_pure h⟩))) htake)
    | exact wpAny_bind (wpAny_bind (m := Builtin.Tuple.tupleExact _) (wpAny_newObj_type (wpAny_pure (wpAny_pure ⟨_, rfl, wpAny_pure h⟩)) htake))
    | exact wpAny_bind (wpAny_bind (m := Builtin.Tuple.tupleExact _) (wpAny_newObj_type (wpAny_pure ⟨_, rfl, wpAny_pure h⟩) htake))
end
end HT
namespace L2
open PySem PySem.Spec PyProof.Rows
abbrev TO := St → Hp → (Option Int → Hp → Prop) → Prop
def PO (X : Cx) (e : Option Expr) (t : TO) : Prop :=
  ∀ (pins : List (Addr × Obj)) (s : Shared) (σ : St) (H : Hp) (Q : Option Int → Hp → Prop), Inv X pins σ H s → t σ H Q →
    wpAny (model X.prog X.w) X.A (evalPart e X.env) (fun u s' => ∃ o H', Inv X pins σ H' s' ∧ IsPart u o ∧ Q o H') X.xe s
def tNoPart : TO := fun _ H Q => Q none H
def tPart (t : TE) : TO := fun σ H Q => t σ H fun x H1 => ∃ i, x = .int i ∧ Q (some i) H1
section
variable {X : Cx} {e : Expr} {te : TE} {lo hi : Option Expr} {tl th : TO} {pos p2 : Pos}
theorem po_none : PO X none tNoPart := by
  intro pins s σ H Q I h
  rw [evalPart_none]
  exact wpAny_pure ⟨none, H, I, .none, h⟩
theorem po_some (h : PE X e te) : PO X (some e) (tPart te) := by
  intro pins s σ H Q I hw
  rw [evalPart_some]
  refine thn (h pins s σ H _ I hw) fun u s1 ⟨x, H1, I1, r1, q1⟩ => ?_
  obtain ⟨i, rfl, q⟩ := q1
  obtain ⟨t, rfl⟩ := r1
  exact ⟨some i, H1, I1, .int i t, q⟩
def SlR (X : Cx) (r : V → Option Int → Option Int → Hp → VK → Prop) : Prop :=
  ∀ (pins : List (Addr × Obj)) (s : Shared) (σ : St) (H : Hp) (x : V) (v vl vu : Value) (lo hi : Option Int) (sl : Addr) (Q : VK), Inv X pins σ H s → RelV x v → s.heap.IsSliceOf sl vl vu .none → IsPart vl lo → IsPart vu hi → r x lo hi H Q →
    ∃ T id, typeLookup (.type T) "__getitem__" = pure (some (.builtin id)) ∧ s.TypeIs v T ∧ wpAny (model X.prog X.w) X.A (getItem v (.ref sl)) (EP X pins σ Q) X.xe s
theorem SlR.or {r r' : V → Option Int → Option Int → Hp → VK → Prop} (h : SlR X r) (h' : SlR X r') : SlR X (fun x lo hi H Q => r x lo hi H Q ∨ r' x lo hi H Q) := by
  intro pins s σ H x v vl vu lo hi sl Q I rx hs pl pu q
  rcases q with q | q
  · exact h pins s σ H x v vl vu lo hi sl Q I rx hs pl pu q
  · exact h' pins s σ H x v vl vu lo hi sl Q I rx hs pl pu q
def tSl (r : V → Option Int → Option Int → Hp → VK → Prop) (te : TE) (tl th : TO) : TE := fun σ H Q => te σ H fun x H1 => tl σ H1 fun l H2 => th σ H2 fun u H3 => r x l u H3 Q
theorem pe_slice {r : V → Option Int → Option Int → Hp → VK → Prop} (hr : SlR X r) (he : PE X e te) (hl : PO X lo tl) (hu : PO X hi th) : PE X (.Subscript e (.Slice lo hi none p2) pos) (tSl r te tl th) := by
  intro pins s σ H Q I h
  refine Subscript_ (thn (he pins s σ H _ I h) fun v s1 ⟨x, H1, I1, r1, q1⟩ => ?_)
  refine wpAny_Slice (thn (hl pins s1 σ H1 _ I1 q1) fun vl s2 ⟨l, H2, I2, pl, q2⟩ => thn (hu pins s2 σ H2 _ I2 q2) fun vu s3 ⟨u, H3, I3, pu, q3⟩ => ?_)
  rw [evalPart_none]
  refine wpAny_pure ?_
  have I4 : Inv X pins σ H3 { s3 with heap := s3.heap.push { cls := .type "slice", data := .fields #[vl, vu, .none] } } := I3.kept (t' := s3.toks) fun b ob q => Heap.get?_push_of_some _ q
  obtain ⟨T, id, hT, ht, hg⟩ := hr pins { s3 with heap := s3.heap.push { cls := .type "slice", data := .fields #[vl, vu, .none] } } σ H3 x v vl vu l u s3.heap.objs.size Q I4 r1 (Heap.IsSliceOf.new ..) pl pu q3
  show wpAny (model X.prog X.w) X.A (subscriptTail e (.Slice lo hi none p2) v (.ref s3.heap.objs.size)) (EP X pins σ Q) X.xe { s3 with heap := s3.heap.push { cls := .type "slice", data := .fields #[vl, vu, .none] } }
  exact tail_any (ops := [.ref s3.heap.objs.size, v]) ht hT hg (by with_unfolding_all rfl)
def cutV (xs : List V) (lo hi : Option Int) : List V := (xs.drop (HT.sIx xs.length 0 lo)).take (HT.sIx xs.length xs.length hi - HT.sIx xs.length 0 lo)
theorem cutV_length (xs : List V) (lo hi : Option Int) : (cutV xs lo hi).length ≤ xs.length := by
  unfold cutV
  rw [List.length_take, List.length_drop]
  omega
def rSlT (K : PySem.W.Frag) : V → Option Int → Option Int → Hp → VK → Prop := fun x lo hi H Q => ∃ a xs, x = .ref a ∧ SqT K H a xs ∧
  ¬ (HT.sIx xs.length 0 lo = 0 ∧ HT.sIx xs.length xs.length hi = xs.length) ∧ ∀ p, H p = none → Q (.ref p) (upd H p (.tup (cutV xs lo hi)))
theorem sl_tup : SlR X (rSlT X.K) := by
  intro pins s σ H x v vl vu lo hi sl Q I rx hs pl pu h
  obtain ⟨a, xs, rfl, hx, hw, q⟩ := h
  cases rx
  obtain ⟨its, r, ht, hz⟩ := I.tuple hx
  have hlen : its.toArray.size = xs.length := by rw [List.size_toArray]; exact r.length.symm
  refine ⟨"tuple", _, PyProof.Rows.slot_tuple_getitem.lookup, ht.typeIs, ?_⟩
  refine HT.getItem_tuple_cut ht hs pl pu (by rw [hlen]; exact hw) ?_ (by rw [hlen]; exact hz)
  rw [hlen]
  refine ⟨.ref s.heap.objs.size, _, I.laid (t' := s.toks) (o := .tup (cutV xs lo hi)) (fun b ob q => Heap.get?_push_of_some _ q) (Nat.le_refl _) ?_, rfl, q _ (I.hok.fresh (Nat.le_refl _))⟩
  exact ⟨Nat.le_trans (cutV_length xs lo hi) hz, _, (r.drop (HT.sIx xs.length 0 lo)).take (HT.sIx xs.length xs.length hi - HT.sIx xs.length 0 lo), IsTup.new _ _⟩
def rCatT (K : PySem.W.Frag) : R2 := fun x y H Q => ∃ a b xs ys, x = .ref a ∧ y = .ref b ∧ SqT K H a xs ∧ SqT K H b ys ∧ xs ≠ [] ∧ xs.length + ys.length ≤ sizeLine ∧
  (ys = [] → Q (.ref a) H) ∧ (ys ≠ [] → ∀ p, H p = none → Q (.ref p) (upd H p (.tup (xs ++ ys))))
theorem Vals.nil_iff {xs : List V} {us : List Value} (r : Vals xs us) : us = [] ↔ xs = [] := by
  cases r with
  | nil => simp
  | cons _ _ => simp
theorem op_catT : OpR X (binaryOp .Add) (rCatT X.K) := by
  intro pins s σ H x y v u Q I rx ry h
  obtain ⟨a, b, xs, ys, rfl, rfl, ha, hb, hx, hz, q1, q2⟩ := h
  cases rx
  cases ry
  obtain ⟨its, r1, p1, _⟩ := I.tuple ha
  obtain ⟨its2, r2, p2, _⟩ := I.tuple hb
  refine HT.cat_tup p1 p2 (fun z => hx (r1.nil_iff.mp z)) (fun z => ⟨.ref a, H, I, rfl, q1 (r2.nil_iff.mp z)⟩) (fun z => ?_) (by rw [← r1.length, ← r2.length]; exact hz)
  refine ⟨.ref s.heap.objs.size, _, I.laid (t' := s.toks) (o := .tup (xs ++ ys)) (fun b ob q => Heap.get?_push_of_some _ q) (Nat.le_refl _) ?_, rfl, q2 (fun w => z (r2.nil_iff.mpr w)) _ (I.hok.fresh (Nat.le_refl _))⟩
  exact ⟨by rw [List.length_append]; exact hz, _, r1.append r2, IsTup.new _ _⟩
end
end L2
namespace L2
open PySem PySem.Spec PyProof.Rows
def ixN (n : Nat) (i : Int) : Option Nat := if 0 ≤ i then (if i < n then some i.toNat else none) else if -(n : Int) ≤ i then some (i + n).toNat else none
def atI {α : Type} (xs : List α) (i : Int) : Option α := (ixN xs.length i).bind fun j => xs[j]?
theorem ixN_seq {n : Nat} {i : Int} {j : Nat} (h : ixN n i = some j) : seqIndex? i n = some j ∧ j < n ∧ -(n : Int) ≤ i ∧ i < n := by
  unfold ixN at h
  by_cases h0 : 0 ≤ i
  · rw [if_pos h0] at h
    by_cases h1 : i < n
    · rw [if_pos h1] at h
      have e : i.toNat = j := Option.some.inj h
      exact ⟨by rw [seqIndex_of h0 h1, e], by omega, by omega, h1⟩
    · rw [if_neg h1] at h; cases h
  · rw [if_neg h0] at h
    by_cases h1 : -(n : Int) ≤ i
    · rw [if_pos h1] at h
      have e : (i + n).toNat = j := Option.some.inj h
      exact ⟨by rw [seqIndex_neg (by omega) h1, e], by omega, h1, by omega⟩
    · rw [if_neg h1] at h; cases h
theorem atI_get {α : Type} {xs : List α} {i : Int} {v : α} (h : atI xs i = some v) : ∃ j, seqIndex? i xs.length = some j ∧ xs[j]? = some v ∧ j < xs.length ∧ -(xs.length : Int) ≤ i ∧ i < xs.length := by
  unfold atI at h
  cases e : ixN xs.length i with
  | none => rw [e] at h; cases h
  | some j =>
    rw [e] at h
    obtain ⟨h1, h2, h3, h4⟩ := ixN_seq e
    exact ⟨j, h1, h, h2, h3, h4⟩
def PlainIx (b : Expr) : Prop := ∀ o i, subscripted b false o i = operate [o, i] (getItem o i)
def IxR (X : Cx) (r : R2) : Prop :=
  ∀ (value slice : Expr) (pins : List (Addr × Obj)) (s : Shared) (σ : St) (H : Hp) (x y : V) (v u : Value) (Q : VK), Inv X pins σ H s → RelV x v → RelV y u → r x y H Q →
    subscripted slice false v u = operate [v, u] (getItem v u) → wpAny (model X.prog X.w) X.A (subscriptTail value slice v u) (EP X pins σ Q) X.xe s
def MtR (X : Cx) (id : String) (r : V → List V → Hp → VK → Prop) : Prop :=
  ∀ (pins : List (Addr × Obj)) (s : Shared) (σ : St) (H : Hp) (x : V) (xs : List V) (v : Value) (us : List Value) (Q : VK), Inv X pins σ H s → RelV x v → Vals xs us → r x xs H Q →
    wpAny (model X.prog X.w) X.A (call (.builtin id) (v :: us)) (EP X pins σ Q) X.xe s
section
variable {X : Cx} {a b : Expr} {ta tb : TE} {pos : Pos}
theorem IxR.or {r r' : R2} (h : IxR X r) (h' : IxR X r') : IxR X (fun x y H Q => r x y H Q ∨ r' x y H Q) := by
  intro value slice pins s σ H x y v u Q I rx ry q hs
  rcases q with q | q
  · exact h value slice pins s σ H x y v u Q I rx ry q hs
  · exact h' value slice pins s σ H x y v u Q I rx ry q hs
theorem pe_ix {r : R2} (hr : IxR X r) (ha : PE X a ta) (hb : PE X b tb) (hs : PlainIx b) : PE X (.Subscript a b pos) (tOp r ta tb) := by
  intro pins s σ H Q I h
  exact Subscript_ (binT ha hb I h fun v u s2 x y H2 I2 rx ry q => hr a b pins s2 σ H2 x y v u Q I2 rx ry q (hs _ _))
def rIxL (K : PySem.W.Frag) : R2 := fun x y H Q => ∃ p xs i v, x = .ref p ∧ y = .int i ∧ SqL K H p xs ∧ atI xs i = some v ∧ Q v H
def rIxT (K : PySem.W.Frag) : R2 := fun x y H Q => ∃ p xs i v, x = .ref p ∧ y = .int i ∧ SqT K H p xs ∧ atI xs i = some v ∧ Q v H
def rIxS : R2 := fun x y H Q => ∃ z i c, x = .str z ∧ y = .int i ∧ z.length ≤ sizeLine ∧ atI z.cps.toList i = some c ∧ Q (.str ⟨#[c]⟩) H
theorem ix_list : IxR X (rIxL X.K) := by
  intro value slice pins s σ H x y v u Q I rx ry h hs
  obtain ⟨p, xs, i, z, rfl, rfl, hq, he, q⟩ := h
  cases rx
  obtain ⟨t, rfl⟩ := ry
  obtain ⟨its, r, pl, hz⟩ := I.list hq
  obtain ⟨j, h1, h2, h3, h4, h5⟩ := atI_get he
  obtain ⟨w, ew, rw'⟩ := r.get h2
  have hl := r.length
  have hn := line63
  have fin : EP X pins σ Q w s := ⟨z, H, I, rw', q⟩
  by_cases h0 : 0 ≤ i
  · have hj : i.toNat = j := by
      rw [seqIndex_of h0 h5] at h1
      exact Option.some.inj h1
    exact item_listR pl.isList h0 (by omega) (by rw [hj]; simpa using ew) fin hs
  · have hj : (i + (its.toArray.size : Int)).toNat = j := by
      rw [seqIndex_neg (by omega) h4] at h1
      rw [List.size_toArray, ← hl]
      exact Option.some.inj h1
    exact subscriptTail_builtinR (x := w) pl.isList.typeIs slot_list_getitem.lookup
      (wpAny_getItem_list_neg (Q := fun r s' => r = w ∧ EP X pins σ Q r s') pl.isList (by omega) (by rw [List.size_toArray] <;> omega) (by omega) (by rw [hj]; simpa using ew) ⟨rfl, fin⟩) hs
theorem ix_tup : IxR X (rIxT X.K) := by
  intro value slice pins s σ H x y v u Q I rx ry h hs
  obtain ⟨p, xs, i, z, rfl, rfl, hq, he, q⟩ := h
  cases rx
  obtain ⟨t, rfl⟩ := ry
  obtain ⟨its, r, pl, hz⟩ := I.tuple hq
  obtain ⟨j, h1, h2, h3, h4, h5⟩ := atI_get he
  obtain ⟨w, ew, rw'⟩ := r.get h2
  have hl := r.length
  have hn := line63
  have fin : EP X pins σ Q w s := ⟨z, H, I, rw', q⟩
  exact subscriptTail_builtinR (x := w) pl.typeIs slot_tuple_getitem.lookup
    (getItem_tuple (j := j) (Q := fun r s' => r = w ∧ EP X pins σ Q r s') pl (by omega) (by omega) (by rw [List.size_toArray, ← hl]; exact h1) (by simpa using ew) ⟨rfl, fin⟩) hs
theorem ix_str : IxR X rIxS := by
  intro value slice pins s σ H x y v u Q I rx ry h hs
  obtain ⟨z, i, c, rfl, rfl, hz, he, q⟩ := h
  obtain ⟨t, rfl⟩ := rx
  obtain ⟨t', rfl⟩ := ry
  obtain ⟨j, h1, h2, h3, h4, h5⟩ := atI_get he
  have hl : z.cps.toList.length = z.length := by simp [Str.length]
  rw [hl] at h1 h4 h5
  have hn := line63
  exact tail_any (typeIs_str s z t) slot_str_getitem.lookup (getItem_str (c := c) (by
    have e1 : decide (i < -(2 ^ 63 : Int)) = false := decide_eq_false (by omega)
    have e2 : decide (i ≥ 2 ^ 63) = false := decide_eq_false (by omega)
    rw [e1, e2, Bool.or_false]) (by rw [h1]; simpa using h2) ⟨.str ⟨#[c]⟩, H, I.tok _, ⟨_, rfl⟩, q⟩) hs
def rIx (K : PySem.W.Frag) : R2 := fun x y H Q => rIxL K x y H Q ∨ rIxT K x y H Q ∨ rIxS x y H Q
theorem ix_seq : IxR X (rIx X.K) := ix_list.or (ix_tup.or ix_str)
theorem Inv.lst {pins : List (Addr × Obj)} {σ : St} {H : Hp} {s : Shared} {p : Addr} {xs : List V} (I : Inv X pins σ H s) (h : H p = some (.lst xs)) :
    ∃ (its : List Value) (n : Nat), Vals xs its ∧ s.heap.get? p = some { cls := .type "list", data := .seq its.toArray n } ∧ xs.length ≤ sizeLine := by
  obtain ⟨z, its, n, r, e⟩ := I.hok p _ h
  exact ⟨its, n, r, e, z⟩
theorem slice_bounds (lo hi : Option Int) (n : Nat) : (sliceBounds lo hi none n).1 = ((HT.sIx n 0 lo : Nat) : Int) ∧ (sliceBounds lo hi none n).2.1 = ((HT.sIx n n hi : Nat) : Int) ∧ (sliceBounds lo hi none n).2.2 = 1 := by
  refine ⟨?_, ?_, rfl⟩
  · cases lo with
    | none => simp [sliceBounds, HT.sIx]
    | some i =>
      simp only [sliceBounds, HT.sIx, Option.getD_none, show (1 : Int) > 0 by decide, if_true]
      by_cases h : i < 0
      · simp only [h, if_true] <;> omega
      · simp only [h, if_false] <;> omega
  · cases hi with
    | none => simp [sliceBounds, HT.sIx]
    | some i =>
      simp only [sliceBounds, HT.sIx, Option.getD_none, show (1 : Int) > 0 by decide, if_true]
      by_cases h : i < 0
      · simp only [h, if_true] <;> omega
      · simp only [h, if_false] <;> omega
theorem slicePick_cut (its : List Value) (lo hi : Option Int) : slicePick its.toArray lo hi none = ((its.drop (HT.sIx its.length 0 lo)).take (HT.sIx its.length its.length hi - HT.sIx its.length 0 lo)).toArray := by
  obtain ⟨h1, h2, h3⟩ := slice_bounds lo hi its.toArray.size
  unfold slicePick
  rw [h1, h2, h3]
  simp only [sliceRange_one, pick_run, List.size_toArray] <;> rfl
def rSlL (K : PySem.W.Frag) : V → Option Int → Option Int → Hp → VK → Prop := fun x lo hi H Q => ∃ a xs, x = .ref a ∧ SqL K H a xs ∧ ∀ p, H p = none → Q (.ref p) (upd H p (.lst (cutV xs lo hi)))
theorem sl_list : SlR X (rSlL X.K) := by
  intro pins s σ H x v vl vu lo hi sl Q I rx hs pl pu h
  obtain ⟨a, xs, rfl, hx, q⟩ := h
  cases rx
  obtain ⟨its, r, ht, hz⟩ := I.list hx
  have hlen := r.length
  refine ⟨"list", _, slot_list_getitem.lookup, ht.isList.typeIs, ?_⟩
  refine wpAny_getItem_list_slice ht.isList hs pl pu .none (by simp) ?_ (by rw [List.size_toArray] <;> omega)
  rw [slicePick_cut, ← hlen]
  refine ⟨.ref s.heap.objs.size, _, I.laid (t' := s.toks) (o := .lst (cutV xs lo hi)) (fun b ob q => Heap.get?_push_of_some _ q) (Nat.le_refl _) ?_, rfl, q _ (I.hok.fresh (Nat.le_refl _))⟩
  exact ⟨Nat.le_trans (cutV_length xs lo hi) hz, _, 0, (r.drop (HT.sIx xs.length 0 lo)).take (HT.sIx xs.length xs.length hi - HT.sIx xs.length 0 lo), Heap.get?_push_size _ rfl⟩
theorem call_len_seq : CallR X (.builtin "len") (fun xs H Q => ∃ p ys, xs = [.ref p] ∧ (SqL X.K H p ys ∨ SqT X.K H p ys) ∧ Q (.int ys.length) H) := by
  intro pins s σ H xs us Q I r h
  obtain ⟨p, ys, rfl, hq, q⟩ := h
  obtain ⟨u, rfl, rx⟩ := vals1 r
  cases rx
  have hn := line63
  rcases hq with hq | hq
  · obtain ⟨its, r', pl, hz⟩ := I.list hq
    have hlen := r'.length
    exact Calls.call_len_list pl.isList (by simp only [List.size_toArray] <;> omega) ⟨.int ys.length, H, I.tok _, ⟨s.toks + 1, by rw [List.size_toArray, hlen]⟩, q⟩
  · obtain ⟨its, r', pl, hz⟩ := I.tuple hq
    have hlen := r'.length
    exact len_tuple pl (by simp only [List.size_toArray] <;> omega) ⟨.int ys.length, H, I.tok _, ⟨s.toks + 1, by rw [List.size_toArray, hlen]⟩, q⟩
theorem call_len_str : CallR X (.builtin "len") (fun xs H Q => ∃ z, xs = [.str z] ∧ z.length ≤ sizeLine ∧ Q (.int z.length) H) := by
  intro pins s σ H xs us Q I r h
  obtain ⟨z, rfl, hz, q⟩ := h
  obtain ⟨u, rfl, t, rfl⟩ := vals1 r
  have hn := line63
  exact len_str (by omega) ⟨.int z.length, H, I.tok _, ⟨_, rfl⟩, q⟩
theorem CallR.or {f : Value} {r r' : List V → Hp → VK → Prop} (h : CallR X f r) (h' : CallR X f r') : CallR X f (fun xs H Q => r xs H Q ∨ r' xs H Q) := by
  intro pins s σ H xs us Q I rs q
  rcases q with q | q
  · exact h pins s σ H xs us Q I rs q
  · exact h' pins s σ H xs us Q I rs q
theorem call_tuple_of : CallR X (.type "tuple") (fun xs H Q => ∃ p ys, xs = [.ref p] ∧ ((SqL X.K H p ys ∧ ∀ l, H l = none → Q (.ref l) (upd H l (.tup ys))) ∨ (SqT X.K H p ys ∧ Q (.ref p) H))) := by
  intro pins s σ H xs us Q I r h
  obtain ⟨p, ys, rfl, h⟩ := h
  obtain ⟨u, rfl, rx⟩ := vals1 r
  cases rx
  rcases h with ⟨hq, q⟩ | ⟨hq, q⟩
  · obtain ⟨its, r', pl, hz⟩ := I.list hq
    have hlen := r'.length
    refine call_tuple_list pl.isList (fun h' kp => ?_) (by simp only [List.size_toArray] <;> omega)
    have I1 : Inv X pins σ H { s with heap := h' } := I.kept (t' := s.toks) kp
    have I2 : Inv X pins σ (upd H h'.objs.size (.tup ys)) { s with heap := h'.push { cls := .type "tuple", data := .seq its.toArray } } :=
      I1.laid (t' := s.toks) (fun b o e => Heap.get?_push_of_some _ e) (Nat.le_refl _) (show ObjOk X.prog X.w _ _ _ (.tup ys) from ⟨hz, its, r', IsTup.new _ _⟩)
    exact ⟨.ref h'.objs.size, _, I2, rfl, q _ (I1.hok.fresh (Nat.le_refl _))⟩
  · obtain ⟨its, r', pl, hz⟩ := I.tuple hq
    exact call_tuple_same pl ⟨.ref p, H, I, rfl, q⟩
def tyV (K : PySem.W.Frag) (T : String) (x : V) (H : Hp) : Prop := match x with
  | .str _ => T = "str"
  | .int _ => T = "int"
  | .ref p => (T = "list" ∧ ∃ xs, SqL K H p xs) ∨ (T = "tuple" ∧ ∃ o, K.lookup p = some o ∧ o.cls = .type "tuple" ∧ o.dict = none) ∨
      (T = "dict" ∧ ((∃ kvs, H p = some (.dK kvs)) ∨ ∃ kvs, H p = some (.dT kvs))) ∨ (T = "set" ∧ ∃ S n, H p = some (.set S n))
  | _ => False
theorem tyV_is {pins : List (Addr × Obj)} {σ : St} {H : Hp} {s : Shared} {T : String} {x : V} {v : Value} (I : Inv X pins σ H s) (r : RelV x v) (ty : tyV X.K T x H) :
    s.TypeIs v T ∧ ∀ a, v = .ref a → ∃ ob, s.heap.get? a = some ob ∧ ob.dict = none := by
  cases x with
  | str z =>
    obtain ⟨t, rfl⟩ := r
    cases (show T = "str" from ty)
    exact ⟨typeIs_str s z t, fun _ e => nomatch e⟩
  | int i =>
    obtain ⟨t, rfl⟩ := r
    cases (show T = "int" from ty)
    exact ⟨typeIs_int s i t, fun _ e => nomatch e⟩
  | ref p =>
    cases r
    rcases ty with ⟨rfl, xs, hq⟩ | ⟨rfl, o, hk, hc, hd⟩ | ⟨rfl, hk⟩ | ⟨rfl, S, n, hk⟩
    · obtain ⟨its, _, pl, _⟩ := I.list hq
      refine ⟨pl.isList.typeIs, fun a e => ?_⟩
      cases e
      obtain ⟨o, n, e, c, hd, _⟩ := pl
      exact ⟨o, e, hd⟩
    · refine ⟨⟨o, I.kIn p o hk, hc⟩, fun a e => ?_⟩
      cases e
      exact ⟨o, I.kIn _ o hk, hd⟩
    · have z : ∃ o, s.heap.get? p = some o ∧ o.ExactDict := by
        rcases hk with ⟨kvs, hk⟩ | ⟨kvs, hk⟩
        · obtain ⟨_, _, _, _, o, _, _, e, ex, _⟩ := I.hok p _ hk
          exact ⟨o, e, ex⟩
        · obtain ⟨_, _, _, _, o, _, _, e, ex, _⟩ := I.hok p _ hk
          exact ⟨o, e, ex⟩
      obtain ⟨o, e, ex⟩ := z
      refine ⟨⟨o, e, ex.1⟩, fun a e2 => ?_⟩
      cases e2
      exact ⟨o, e, ex.2.1⟩
    · obtain ⟨o, _, _, _, e, ex, _⟩ := I.hok p _ hk
      refine ⟨⟨o, e, ex.1⟩, fun a e2 => ?_⟩
      cases e2
      exact ⟨o, e, ex.2.1⟩
  | _ => exact False.elim ty
def tBM (K : PySem.W.Frag) (T : String) (r : V → List V → Hp → VK → Prop) (to : TE) (t : TA) : TE := fun σ H Q => to σ H fun x H1 => tyV K T x H1 ∧ t σ H1 fun xs H2 => r x xs H2 Q
variable {o e : Expr} {es : List Expr} {to : TE} {t : TA} {name : Str} {apos cpos : Pos} {T id : String} {r : V → List V → Hp → VK → Prop}
theorem pe_bm (pa : PlainAttrs T) (slot : Slot T name id) (hty : typeOf (.builtin id) = pure (.type "method_descriptor")) (hm : MtR X id r) (ho : PE X o to) (ha : PA X (e :: es) t)
    (hbase : attributeBase o name X.env (eval o X.env) = eval o X.env := by rfl)
    (hfew : ((backTo cpos (starEach (e :: es) X.env)).all (fun x => !x.1) && (backToKw cpos (keywordEach [] X.env)).all (fun x => x.1.isSome)
      && decide ((e :: es).length + ([] : List Keyword).length + (if ([] : List Keyword).isEmpty then 0 else 1) < 30)) = true := by rfl)
    (hline : (apos.endLine == cpos.line) = true := by rfl) (hs : starEach (e :: es) X.env = (false, eval e X.env) :: starEach es X.env := by rfl) (hplain : (backTo cpos (starEach es X.env)).any (·.1) = false := by rfl) :
    PE X (.Call (.Attribute o name apos) (e :: es) [] cpos) (tBM X.K T r to t) := by
  intro pins s σ H Q I h
  refine wpAny_Call_method_late hbase hfew hline rfl (thn (ho pins s σ H _ I h) fun v s1 ⟨x, H1, I1, r1, ty, q1⟩ => ?_)
  obtain ⟨h1, h2⟩ := tyV_is I1 r1 ty
  refine ⟨T, id, pa, slot, hty, h1, h2, ?_⟩
  have hA := ha cpos pins s1 σ H1 _ I1 q1
  rw [hs] at hA ⊢
  refine Calls.callWith_builtin (by show (false || (backTo cpos (starEach es X.env)).any (·.1)) = false; rw [hplain] <;> rfl) (Calls.evalArgs_plain ?_)
  exact thn hA fun us s2 ⟨vs, H2, I2, r2, q2⟩ => hm pins s2 σ H2 x vs v us Q I2 r1 r2 q2
/- xs.append(e), list.index on a module's tuple .. are MtR facts of 06m -/
end
end L2
namespace L2
open PySem PySem.Spec PyProof.Rows
def MtM (X : Cx) (id : String) (r : V → List V → Hp → VK → Prop) : Prop :=
  ∀ (pins : List (Addr × Obj)) (s : Shared) (σ : St) (H : Hp) (x : V) (xs : List V) (v : Value) (us : List Value) (Q : VK), Inv X pins σ H s → RelV x v → Vals xs us → r x xs H Q →
    wpAny (model X.prog X.w) X.A (call (.builtin id) (v :: us)) (EP X pins σ Q) X.xe s
theorem Vals.one : ∀ {x : V} {us : List Value}, Vals [x] us → ∃ u, us = [u] ∧ RelV x u
  | _, _, .cons r .nil => ⟨_, rfl, r⟩
theorem Vals.reverse {xs : List V} {us : List Value} (h : Vals xs us) : Vals xs.reverse us.reverse := by
  induction h with
  | nil => exact .nil
  | cons r t ih => rw [List.reverse_cons, List.reverse_cons]; exact Vals.append ih (.cons r .nil)
theorem Vals.rep {xs : List V} {us : List Value} (h : Vals xs us) : ∀ k : Nat, Vals (List.replicate k xs).flatten (List.replicate k us).flatten
  | 0 => .nil
  | k + 1 => by
    rw [List.replicate_succ, List.replicate_succ, List.flatten_cons, List.flatten_cons]
    exact Vals.append h (Vals.rep h k)
theorem foldl_rep (its : List Value) : ∀ (k : Nat) (acc : List Value),
    List.foldl (fun x1 x2 => x1 ++ x2) acc.toArray (List.replicate k its.toArray) = (acc ++ (List.replicate k its).flatten).toArray
  | 0, acc => by simp
  | k + 1, acc => by
    have e : acc.toArray ++ its.toArray = (acc ++ its).toArray := by simp
    have e2 : (acc ++ its) ++ (List.replicate k its).flatten = acc ++ (List.replicate (k + 1) its).flatten := by
      rw [List.replicate_succ, List.flatten_cons, List.append_assoc]
    rw [← e2, ← foldl_rep its k (acc ++ its), ← e, List.replicate_succ, List.foldl_cons]
section
variable {X : Cx} {pins : List (Addr × Obj)} {σ : St} {H : Hp} {s : Shared} {l b : Addr} {xs ys zs : List V}
theorem Inv.lset {its its' : List Value} {n : Nat} {f : Array Value → Array Value} {t' : Nat} (I : Inv X pins σ H s) (hH : H l = some (.lst xs))
    (e : s.heap.get? l = some { cls := .type "list", data := .seq its.toArray n }) (hf : f its.toArray = its'.toArray) (hv : Vals ys its') (hz : ys.length ≤ sizeLine) :
    Inv X pins σ (upd H l (.lst ys)) { s with heap := s.heap.update l (Obj.mapSeq f), toks := t' } := by
  have q := PySem.IsL.update e f
  rw [hf] at q
  refine I.write (x := l) (e := l) (by rw [hH]; exact trivial) (.inl rfl) (fun b' u hb hu => (Heap.get?_update_other s.heap (Obj.mapSeq f) (Ne.symm hb)).trans hu) ⟨_, q⟩ ?_
  exact ⟨hz, its', _, hv, q⟩
theorem Inv.lnew {its : List Value} {t' : Nat} (I : Inv X pins σ H s) (hv : Vals ys its) (hz : ys.length ≤ sizeLine) :
    Inv X pins σ (upd H s.heap.objs.size (.lst ys)) { s with heap := s.heap.push { cls := .type "list", data := .seq its.toArray }, toks := t' } :=
  I.laid (fun _ _ q => Heap.get?_push_of_some _ q) (Nat.le_refl _) ⟨hz, its, 0, hv, Heap.get?_push_size _ rfl⟩
theorem Inv.fresh (I : Inv X pins σ H s) : H s.heap.objs.size = none := I.hok.fresh (Nat.le_refl _)
theorem Inv.lstM (I : Inv X pins σ H s) (hH : H l = some (.lst xs)) : xs.length ≤ sizeLine ∧ ∃ (its : List Value) (n : Nat), Vals xs its ∧ xs.length = its.length ∧ s.heap.get? l = some { cls := .type "list", data := .seq its.toArray n } := by
  obtain ⟨z, its, n, r, e⟩ := I.hok l _ hH
  exact ⟨z, its, n, r, r.length, e⟩
end
section
variable {X : Cx}
def rAppend : V → List V → Hp → VK → Prop := fun x vs H Q => ∃ l xs y, x = .ref l ∧ vs = [y] ∧ H l = some (.lst xs) ∧ xs.length < sizeLine ∧ Q .non (upd H l (.lst (xs ++ [y])))
theorem mt_append : MtM X "list.append" rAppend := by
  intro pins s σ H x vs v us Q I rx rv h
  obtain ⟨l, xs, y, rfl, rfl, hH, hz, q⟩ := h
  cases rx
  obtain ⟨u, rfl, ru⟩ := rv.one
  obtain ⟨z, its, n, r, hl, e⟩ := I.lstM hH
  refine call_meets F.slot_list_append ⟨_, e, rfl⟩ F.entry_list_append (F.args_list_append_2 _ _) (PySem.list_append l its.toArray n u (by rw [List.size_toArray]; omega)) ⟨e, ?_⟩
  refine ⟨.non, _, I.lset (its' := its ++ [u]) hH e (by simp) (r.append (.cons ru .nil)) ?_, rfl, q⟩
  rw [List.length_append, List.length_singleton]
  omega
theorem len_rep {α : Type} (xs : List α) (k : Nat) : (List.replicate k xs).flatten.length = k * xs.length := by
  induction k with
  | zero => simp
  | succ k ih => rw [List.replicate_succ, List.flatten_cons, List.length_append, ih, Nat.succ_mul, Nat.add_comm]
end
end L2
namespace Att
open PySem PySem.W PySem.Calls PyProof.Rows
theorem ints_of_wellAll {P : Params} {h : Heap} : ∀ (ns : List Int) (vs : List Value), WellAll P h vs (ns.map WData.int) → IntsAre vs ns := by
  intro ns
  induction ns with
  | nil =>
    intro vs w
    rw [List.map_nil] at w
    cases w
    exact .nil
  | cons n ns ih =>
    intro vs w
    rw [List.map_cons] at w
    cases w with
    | cons a b =>
      cases a
      exact .cons _ _ (ih _ b)
theorem script_of {l : OpenLaw} {n : Nat} (hn : l.most = some n) {P : Params} {h : Heap} {args : List WData} {vals : List Value}
    (hpre : l.row.toRowW.claim.pre args = true) (hwl : WellAll P h vals args) :
    ∃ a vs ns, vals = [Value.ref a] ∧ args = [WData.list (ns.map WData.int)] ∧ h.get? a = some { cls := .type "list", data := .seq vs.toArray } ∧ IntsAre vs ns ∧ ns.length ≤ n := by
  have hsh : WShape.hasAll [] args [.list .int] = true := (pre_splitW hpre).1
  have hc : l.pre.holds [] { args := args } = true := (pre_splitW hpre).2
  obtain ⟨d, r, rfl, h1, h2⟩ := hasAllW_cons hsh
  obtain rfl := hasAllW_nil h2
  obtain ⟨xs, rfl, h3⟩ := hasW_list h1
  obtain ⟨ns, rfl⟩ := items_int h3
  have hlen : ns.length ≤ n := by
    unfold OpenLaw.pre at hc
    have h4 : (WTm.not (.lt (.lit (.int (n : Int))) (.len (.arg 0)))).holds [] { args := [.list (ns.map .int)] } = true := by
      have h4 := (holds_andW hc).1
      rw [hn] at h4
      exact h4
    have h5 := condW_of h4 (w_not (w_lt w_lit (w_len_list (w_arg rfl))))
    rw [List.length_map] at h5
    refine Nat.le_of_not_lt fun q => ?_
    have q' : (n : Int) < ((ns.length : Nat) : Int) := by omega
    first
      | (rw [decide_eq_true q'] at h5; exact absurd h5 (by decide))
      | (simp at h5; omega)
  cases hwl with
  | cons w1 w2 =>
    cases w2
    cases w1 with
    | list ho hall => exact ⟨_, _, ns, rfl, rfl, ho, ints_of_wellAll ns _ hall, hlen⟩
theorem post_true (l : OpenLaw) (args : List WData) : l.row.toRowW.claim.post args (.bool true) args = true :=
  postW_of (r := l.row.toRowW) (X := (true == true))
    (show WShape.has [] (.bool true) .bool = true by first | rfl | decide | simp [WShape.has, WShape.arms, WShape.armsAll])
    (show (WTm.eq .res (.lit (.bool true))).value [] { args := args, res := some (.bool true), after := args } = some (.bool (true == true)) from w_eq_bool (w_res rfl) w_lit) rfl
theorem attach_call {l : OpenLaw} {n : Nat} {q : Program} {loose : List Str} {XP : (Str → Option Value) → Heap → Prop} {YP : World → Heap → Prop} {d : DefRec}
    (hn : l.most = some n) (hdf : d.params.defaults = [])
    (call : ∀ (w : World) (s₀ s₁ : Shared) (mg mb : Str → Option Value) (fa : Addr) (o : Obj) (pm cd doc : Value) (a : Addr) (vs : List Value) (ns : List Int),
      Ground q loose [] XP w s₀ mg mb s₁.heap → YP w s₁.heap →
      s₁.heap.get? fa = some o → o.data = .func (docDef d.name d.params d.body d.scope pm cd doc) → s₁.heap.CodeRec cd d.name → mg d.name = some (.ref fa) →
      s₁.heap.get? a = some { cls := .type "list", data := .seq vs.toArray } → IntsAre vs ns → ns.length ≤ n → s₁.gens = #[] →
      codeAny (model l.prog w) callerA (.call (.ref fa) ⟨[.ref a], []⟩) (fun r s' => r = .ok (.ret (.bool true)) ∧ OldK s₁.heap s'.heap ∧ s'.os = s₁.os ∧ AllBare s'.gens) s₁) :
    WalkO q loose XP YP l.row.toRowW d [] (fun f vs => PySem.call f vs) := by
  intro w s₀ s₁ mg mb G Y fa o pm cd doc dV kV ho hd hcd hD hmg hg args vals as hpre hlay hrd hwl hlo
  obtain rfl : dV = .none := Dflts.none hD hdf
  obtain rfl : kV = .none := Dflts.noKw hD
  obtain ⟨a, vs, ns, rfl, rfl, hobj, hints, hlen⟩ := script_of hn hpre hwl
  refine enter_call (codeAny_mono (call w s₀ s₁ mg mb fa o pm cd doc a vs ns G Y ho (fd_plain hd) hcd hmg hobj hints hlen hg) fun r s' hq => ?_)
  obtain ⟨rfl, h2, h3, h4⟩ := hq
  exact ⟨.inl ⟨.bool true, .bool true, [], rfl, fun _ => rfl, .bool true, post_true l _, fun _ => ⟨List.Pairwise.nil, fun _ hm => (nomatch hm)⟩⟩, h2, h3, h4⟩
end Att
namespace L2
open PySem PySem.Spec PyProof.Rows
theorem vals_ints : ∀ {vs : List Value} {ns : List Int}, IntsAre vs ns → Vals (ns.map V.int) vs
  | _, _, .nil => .nil
  | _, _, .cons n t h => .cons ⟨t, rfl⟩ (vals_ints h)
def Only (H : Hp) : Prop := ∀ b, H b = none ∨ ∃ o xs, H b = some (.frz o (.lst xs))
theorem law_call {P : Program} {w : World} {K : PySem.W.Frag} {mg mb : Str → Option Value} {CX : CXT} {k : Nat} {fa a : Addr} {fd : FuncData} {x : Str} {sp : Sp} {s₁ : Shared} {vs : List Value} {ns : List Int}
    (KX : K.In s₁.heap) (hns : s₁.heap.Ns mainGlobals mg) (hb : s₁.heap.Ns builtinsNs mb) (hbb : ∀ x : Str, x ≠ "__name__" → mb x = bootBuiltins x) (hlim : s₁.heap.NoLimit) (hg : s₁.gens = #[])
    (ha : s₁.heap.get? a = some { cls := .type "list", data := .seq vs.toArray }) (hi : IntsAre vs ns) (hl : ns.length ≤ sizeLine) (hr : Room k callerA)
    (F : ∀ base : Heap, K.In base → base.Ns mainGlobals mg → FnOk P w K mg base CX k fa fd [x] sp) (hbind : ∀ (s : Shared) (u : Value), BindsTo s fd ⟨[u], []⟩ [(x, u)])
    (hsp : ∀ H : Hp, Only H → SqL K H a (ns.map V.int) → sp [.ref a] H (fun v _ => v = .bl true) fun _ _ _ => False)
    (hCX : ∀ H e s', CX [] H s₁ (fun _ _ _ => False) e s' → False) :
    codeAny (model P w) callerA (.call (.ref fa) ⟨[.ref a], []⟩) (fun r s' => r = .ok (.ret (.bool true)) ∧ OldK s₁.heap s'.heap ∧ s'.os = s₁.os ∧ AllBare s'.gens) s₁ := by
  have rv := vals_ints hi
  have lenV := hi.length
  have core : ∀ H : Hp, Only H → SqL K H a (ns.map V.int) → HOk P w H s₁.heap → (∀ b, H b ≠ none → b = a) → (H a ≠ none → K.lookup a = none) →
      codeAny (model P w) callerA (.call (.ref fa) ⟨[.ref a], []⟩) (fun r s' => r = .ok (.ret (.bool true)) ∧ OldK s₁.heap s'.heap ∧ s'.os = s₁.os ∧ AllBare s'.gens) s₁ := by
    intro H hO hS hok hA hK
    have base_of : ∀ {b : Addr} {o : Obj}, s₁.heap.get? b = some o → H b = none → (hidT s₁.heap H).get? b = some o := fun e n => hidT_get e n
    have noA : ∀ {b : Addr} {o : Obj} {es : Array DictEntry} {ep : Nat}, s₁.heap.get? b = some o → o.data = .dict es ep → H b = none := fun {b o es ep} e d => by
      cases q : H b with
      | none => rfl
      | some u =>
        have e' : b = a := hA b (by rw [q]; simp)
        subst e'
        rw [ha] at e; cases e
        have d' : Data.seq vs.toArray _ = Data.dict es ep := d
        cases d'
    have nsK : ∀ {b : Addr} {m : Str → Option Value}, s₁.heap.Ns b m → (hidT s₁.heap H).Ns b m := fun {b m} ⟨o, es, ep, e, d, r⟩ => ⟨o, es, ep, base_of e (noA e d), d, r⟩
    have hKb : K.In (hidT s₁.heap H) := fun b o e => base_of (KX b o e) (by
      cases q : H b with
      | none => rfl
      | some u =>
        have e' : b = a := hA b (by rw [q]; simp)
        subst e'
        rw [hK (by rw [q]; simp)] at e; cases e)
    have hM : Mod K mg (hidT s₁.heap H) := ⟨hKb, nsK hns, ⟨mb, nsK hb, hbb⟩, let ⟨mc, h1, h2⟩ := hlim; ⟨mc, nsK h1, h2⟩⟩
    have e0 : Env0 P w K mg (hidT s₁.heap H) callerA [] s₁ H := ⟨rfl, hM, fun b o e => of_hidT e, Nat.le_of_eq (hidT_size _ _), trivial, fun b hb => absurd (show b ∈ ([] : List Addr) from hb) (by simp), hok, .of_eq hg⟩
    refine codeAny_mono ((F _ hKb (nsK hns)).run callerA [] s₁ H ⟨[.ref a], []⟩ [.ref a] [.ref a] _ _ hr e0 (hbind s₁ (.ref a)) (.cons rfl .nil) (hsp H hO hS)) fun r s' h => ?_
    cases r with
    | error e => exact (hCX H e s' h).elim
    | ok fl =>
      cases fl with
      | next => exact False.elim h
      | brk => exact False.elim h
      | cont => exact False.elim h
      | ret u =>
        obtain ⟨v, H', os, bare, un, hok', r', q⟩ := h
        have q' : v = .bl true := q
        subst q'
        obtain rfl : u = Value.bool true := r'
        refine ⟨rfl, OldK.of_keep fun b o e => ?_, os, bare⟩
        cases q : H b with
        | none => exact un.keep b o e q (by intro z; exact absurd (show b ∈ ([] : List Addr) from z) (by simp)) (by simp)
        | some u =>
          rcases hO b with z | ⟨ob, xs, z⟩
          · rw [q] at z; cases z
          · have z2 := un.frzs b ob _ z
            obtain ⟨e1, _⟩ := hok b _ z
            obtain ⟨e2, _⟩ := hok' b _ z2
            rw [e] at e1; cases e1
            exact e2
  cases hk : K.lookup a with
  | some o =>
    have e := KX a o hk
    rw [ha] at e
    cases e
    refine core (fun _ => none) (fun _ => .inl rfl) (.inr ⟨_, vs.toArray, _, hk, rfl, rfl, rfl, by rw [List.size_toArray, lenV]; exact hl, by simpa using rv⟩) (fun b u z => by have z' : (none : Option HO) = some u := z; cases z') (fun b z => absurd rfl z) fun z => absurd rfl z
  | none =>
    refine core (fun b => if b = a then some (.frz { cls := .type "list", data := .seq vs.toArray } (.lst (ns.map V.int))) else none) (fun b => ?_) (.inl (.inr ⟨{ cls := .type "list", data := .seq vs.toArray }, if_pos rfl⟩)) (fun b u z => ?_) (fun b z => ?_) fun _ => hk
    · by_cases hb : b = a
      · exact .inr ⟨_, _, if_pos hb⟩
      · exact .inl (if_neg hb)
    · by_cases hb : b = a
      · have z' := (if_pos hb).symm.trans z
        cases z'
        subst hb
        exact ⟨ha, by rw [List.length_map]; exact hl, vs, _, rv, ha⟩
      · have z' := (if_neg hb).symm.trans z
        cases z'
    · by_cases hb : b = a
      · exact hb
      · exact absurd (if_neg hb) z
end L2
namespace L2
open PySem PySem.Spec PyProof.Rows
abbrev KOf {K : PySem.W.Frag} {h : Heap} (_ : K.In h) : PySem.W.Frag := K
theorem walk_of {l : PySem.W.OpenLaw} {n k : Nat} {q : Program} {loose : List Str} {XP : (Str → Option Value) → Heap → Prop} {YP : World → Heap → Prop} {d : DefRec} {K : Params → PySem.W.Frag} {CX : World → CXT} {sp : World → Sp} {x : Str}
    (hn : l.most = some n) (hn2 : n ≤ sizeLine) (hdf : d.params.defaults = []) (hr : Room k callerA)
    (hY : ∀ (w : World) (h : Heap), YP w h → (K w.params).In h)
    (F : ∀ (w : World) (mg : Str → Option Value) (fa : Addr) (h : Heap), (K w.params).In h → h.Ns mainGlobals mg → mg d.name = some (.ref fa) →
      ∃ fd : FuncData, (∀ (s : Shared) (u : Value), BindsTo s fd ⟨[u], []⟩ [(x, u)]) ∧
        ∀ base : Heap, (K w.params).In base → base.Ns mainGlobals mg → FnOk l.prog w (K w.params) mg base (CX w) k fa fd [x] (sp w))
    (hsp : ∀ (w : World) (H : Hp) (a : Addr) (ns : List Int), ns.length ≤ n → Only H → SqL (K w.params) H a (ns.map V.int) → sp w [.ref a] H (fun v _ => v = .bl true) fun _ _ _ => False)
    (hCX : ∀ (w : World) (H : Hp) (s : Shared) (e : Value) (s' : Shared), CX w [] H s (fun _ _ _ => False) e s' → False) :
    PySem.W.WalkO q loose XP YP l.row.toRowW d [] (fun f vs => PySem.call f vs) := by
  refine Att.attach_call hn hdf fun w s₀ s₁ mg mb fa o pm cd doc a vs ns G Y ho hd hcd hmg hobj hints hlen hg => ?_
  have KX := hY w _ Y
  obtain ⟨fd, hb, hF⟩ := F w mg fa _ KX G.T.g hmg
  exact law_call KX G.T.g G.T.b G.T.builtins G.T.nolimit hg hobj hints (Nat.le_trans hlen hn2) hr hF hb (fun H hO hS => hsp w H a ns hlen hO hS) fun H e s' => hCX w H s₁ e s'
end L2
/- THE LAST THEOREM (shape; LID, My.* are yours):
   My.Adr: a structure of the addresses that your layer names (classes, functions); My.Txt K t: a structure (Prop) of the equations over K;
   My.txt_mk : {K} {implicit addresses ..} (e1 : nsIn K mainGlobals "law" = some (some (.ref f))) (e2 : K.lookup f = some ⟨oc, od, .func (fnOf "law" "law" params body scope dV kV doc pm an cdv ct), sl⟩) (e3 : codeIn K cdv "law" = true) .. : ∃ t, My.Txt K t
set_option maxRecDepth 100000 in
set_option maxHeartbeats 0 in
theorem PySem.Challenge.cw_LID_holds : PySem.Challenge.rw_LID.Holds := by
  w_on; o_law; k_head; (case hw => w_witness2)
  k_fill
  refine L2.walk_of (l := PySem.Challenge.rw_LID) (n := 63) (k := 40) (x := "script") (CX := fun w => ..) (sp := fun _ => My.sp_law) rfl (by decide) rfl ⟨rfl, by decide, by decide⟩ (fun w h Y => PySem.W.kIn_of Y) ?F ?S ?C
  case F =>
    intro w mg fa h KX G hmg
    have T : ∃ t, My.Txt (L2.KOf KX) t := by
      dsimp only [L2.KOf]                          -- K must stand as «<heap const> w.params» for k_is
      refine' My.txt_mk ?e1 ?e2 ?e3 ..
      (case e1 => PySem.W.k_is)                    -- in the order: a name -> its address -> its object -> its parts
      (case e2 => PySem.W.k_is)
      ..
    obtain ⟨t, T⟩ := T
    have e0 := hmg.symm.trans (PySem.W.mg_of KX G T.law)
    cases e0                                       -- fa is the law's own address
    exact ⟨_, fun s u => .of_eq rfl, fun base kb nb => My.law_fn T kb nb⟩     -- if «.of_eq rfl» comes too early: refine' ⟨_, ?b, fun base kb nb => My.law_fn T kb nb⟩; exact fun s u => .of_eq rfl
  case S => exact fun w H a ns hl hO hS => ..
  case C => exact ..
(the tactic k_is has no namespace: write k_is) -/
namespace L2
open PySem PySem.Spec PyProof.Rows
def defArgs (s : Stmt) : Arguments := match s with
  | .FunctionDef _ a _ _ _ _ _ _ _ _ => a
  | _ => { posonlyargs := [], args := [], vararg := none, kwonlyargs := [], kw_defaults := [], kwarg := none, defaults := [] }
def defBody (s : Stmt) : List Stmt := match s with
  | .FunctionDef _ _ b _ _ _ _ _ _ _ => b
  | _ => []
def defScope (s : Stmt) : Scope := match s with
  | .FunctionDef _ _ _ _ _ _ sc _ _ _ => sc
  | _ => { kind := .function, names := [], isGenerator := false, isCoroutine := false }
abbrev CX0 : CXT := fun _ _ _ _ _ _ => False
abbrev E0 : XK := fun _ _ _ => False
theorem pass0 {X : Cx} : Passes CX0 X E0 := fun _ _ _ _ _ _ _ h => h.elim
structure Fun (K : PySem.W.Frag) (x qual : Str) (st : Stmt) (f : Addr) (fd : FuncData) : Prop where
  ex : ∃ (oc : Value) (od : Option Addr) (kV doc pm : Value) (an : Option Addr) (cdv ct : Value) (osl : Array (Option Value)),
    fd = PySem.W.fnOf x qual (defArgs st) (defBody st) (defScope st) .none kV doc pm an cdv ct ∧ K.lookup f = some ⟨oc, od, .func fd, osl⟩ ∧ PySem.W.codeIn K cdv qual = true
  kp : PySem.W.keepIn K (.ref f) = true
section
variable {P : Program} {w : World} {K : PySem.W.Frag} {mg : Str → Option Value} {base : Heap}
theorem Fun.ok {x qual : Str} {st : Stmt} {f : Addr} {fd : FuncData} {N ps : List Str} {k : Nat} {sp : Sp} (F : Fun K x qual st f fd) (S : FnScope N ps (defScope st)) (len : ∀ vs H Q E, sp vs H Q E → vs.length = ps.length)
    (hbody : ∀ (cdv : Value) (A : Around) (outer : List Env) (s : Shared) (H : Hp) (vs : List V) (Q : VK) (E : XK), Room k (A.deeper (envOfC qual (defScope st) s.heap.objs.size f cdv)) → sp vs H Q E →
      ∃ t, PSs (cxOf CX0 P w K mg base N qual (defScope st) f cdv A outer s H E).nox (defBody st) t ∧ t { nx := fun _ H' => Q .non H', rt := Q } (start N vs) H) : FnOk P w K mg base CX0 (k + 1) f fd ps sp := by
  obtain ⟨oc, od, kV, doc, pm, an, cdv, ct, osl, rfl, lk, hcd⟩ := F.ex
  refine fn_of lk hcd S len fun A outer s H vs Q E hr hsp => ?_
  obtain ⟨t, h, q⟩ := hbody cdv A outer s H vs Q E hr hsp
  exact ⟨t, h.nox, q⟩
theorem Fun.binds {x qual : Str} {st : Stmt} {f : Addr} {fd : FuncData} {ps : List Str} (F : Fun K x qual st f fd)
    (h : ∀ (kV doc pm : Value) (an : Option Addr) (cdv ct : Value) (us : List Value), us.length = ps.length → bindArgs (PySem.W.fnOf x qual (defArgs st) (defBody st) (defScope st) .none kV doc pm an cdv ct) ⟨us, []⟩ = pure (ps.zip us)) : Binds K fd ps [] := by
  obtain ⟨oc, od, kV, doc, pm, an, cdv, ct, osl, rfl, lk, hcd⟩ := F.ex
  exact .all (h kV doc pm an cdv ct)
theorem fun_mk {x qual : Str} {st : Stmt} {f : Addr} {oc : Value} {od an : Option Addr} {osl : Array (Option Value)} {kV doc pm cdv ct : Value} (l : K.lookup f = some ⟨oc, od, .func (PySem.W.fnOf x qual (defArgs st) (defBody st) (defScope st) .none kV doc pm an cdv ct), osl⟩)
    (c : PySem.W.codeIn K cdv qual = true) (k : PySem.W.keepIn K (.ref f) = true) : Fun K x qual st f (PySem.W.fnOf x qual (defArgs st) (defBody st) (defScope st) .none kV doc pm an cdv ct) := ⟨⟨oc, od, kV, doc, pm, an, cdv, ct, osl, rfl, l, c⟩, k⟩
end
def Same (H H' : Hp) : Prop := ∀ b o, H b = some o → H' b = some o
theorem Same.refl (H : Hp) : Same H H := fun _ _ h => h
theorem Same.trans {H H1 H2 : Hp} (a : Same H H1) (b : Same H1 H2) : Same H H2 := fun c o h => b c o (a c o h)
theorem Same.free {H H' : Hp} (e : Same H H') {l : Addr} (h : H' l = Option.none) : H l = Option.none := by
  cases q : H l with
  | none => rfl
  | some o =>
    rw [e l o q] at h
    cases h
theorem Same.seq {K : PySem.W.Frag} {H H' : Hp} {a : Addr} {xs : List V} (e : Same H H') (h : SqL K H a xs) : SqL K H' a xs := by
  rcases h with (h | ⟨o, h⟩) | h
  · exact .inl (.inl (e _ _ h))
  · exact .inl (.inr ⟨o, e _ _ h⟩)
  · exact .inr h
end L2
namespace L2
open PySem PySem.Spec PyProof.Rows
section
variable {X : Cx} {pins : List (Addr × Obj)} {σ : St} {H : Hp} {s : Shared}
theorem Inv.track {a : Addr} {o : HO} (I : Inv X pins σ H s) (hn : H a = none) (h0 : X.s₀.heap.objs.size ≤ a) (hL : a ≠ X.env.locals)
    (hc : ∀ x c, X.env.cells.lookup x = some c → c ≠ a) (hp : ∀ p ∈ X.pn ++ pins, p.1 ≠ a) (new : ObjOk X.prog X.w (upd H a o) s.heap a o) : Inv X pins σ (upd H a o) s := by
  have sm : ∀ b u, H b = some u → upd H a o b = some u := fun b u e => by rw [upd_ne (ne_of_none e hn)]; exact e
  have nb : ∀ b, b ≠ a → H b = none → upd H a o b = none := fun b hb e => by rw [upd_ne hb]; exact e
  refine ⟨I.ok, I.os, I.bare, ⟨I.base.keep, I.base.slot, fun b ob e n hx => ?_, I.base.there, fun b xs e => sm _ _ (I.base.tups b xs e), fun b ob u e => sm _ _ (I.base.frzs b ob u e), fun b ps e => ?_⟩, I.loc, I.cell, nb _ (Ne.symm hL) I.free, fun x c e => nb _ (hc x c e) (I.freeC x c e), fun p h => ?_, fun b u e => ?_, I.len⟩
  · exact nb b (Nat.ne_of_lt (Nat.lt_of_lt_of_le (Heap.lt_size e) h0)) (I.base.free b ob e n hx)
  · obtain ⟨more, q⟩ := I.base.tbls b ps e
    exact ⟨more, sm _ _ q⟩
  · obtain ⟨e, n, r⟩ := I.pin p h
    exact ⟨e, nb _ (hp p h) n, r⟩
  · by_cases hb : b = a
    · subst hb; rw [upd_same] at e; cases e; exact new
    · rw [upd_ne hb] at e
      exact (I.hok b u e).stay (fun _ _ _ q => q) (fun c q => sm _ _ q) fun c xs q => sm _ _ q
end
def tTrue : TT := fun _ H Q => Q true H
def PIf (X : Cx) (ifs : List Expr) (t : TT) : Prop :=
  ∀ (pins : List (Addr × Obj)) (s : Shared) (σ : St) (H : Hp) (Q : Bool → Hp → Prop), Inv X pins σ H s → t σ H Q →
    wpAny (model X.prog X.w) X.A (forIn ifs true fun c r => if r = true then do let ok ← isTrue c X.env (eval c X.env); pure (ForInStep.yield ok) else pure (ForInStep.yield r)) (TP X pins σ Q) X.xe s
theorem pif_nil {X : Cx} : PIf X [] tTrue := fun _ _ _ H _ I h => wpAny_tests_nil ⟨H, I, h⟩
theorem pif_one {X : Cx} {c : Expr} {t : TT} (h : PT X c t) : PIf X [c] t := fun pins s σ H Q I q => wpAny_tests_one (h pins s σ H Q I q)
section
variable {prog : Program} {w : World} {A : Around} {R : Result → Shared → Prop} {s : Shared}
theorem compLoop_go {elt target iter : Expr} {ifs : List Expr} {scope : Scope} {pos : Pos} {it acc : Value} {env : Env} (I : Nat → Shared → Prop)
    (turn : ∀ n s, I n s → wpAny (model prog w) A (pyNext it) (fun r s₁ => match r with
      | none => R (.ok .next) s₁
      | some v => wpAny (model prog w) A (letOwnedTupleGo target it v) (fun _ s₀ => wpAny (model prog w) A (assign target env v) (fun _ s₂ =>
          wpAny (model prog w) A (forIn ifs true fun c r => if r = true then do let ok ← isTrue c env (eval c env); pure (ForInStep.yield ok) else pure (ForInStep.yield r)) (fun ok s₃ =>
            if ok = true then wpAny (model prog w) A (eval elt env) (fun x s₄ =>
              wpAny (model prog w) A (call (.builtin "list.append") [acc, x]) (fun _ s₅ => ∃ m, m < n ∧ I m s₅) (fun _ _ => False) s₄) (fun _ _ => False) s₃
            else ∃ m, m < n ∧ I m s₃) (fun _ _ => False) s₂) (fun _ _ => False) s₀) (fun _ _ => False) s₁) (fun _ _ => False) s)
    (n : Nat) (h : I n s) :
    codeAny (model prog w) A (.compLoop (.ListComp elt [⟨target, iter, ifs, 0⟩] scope pos) 0 it acc env) R s := by
  refine codeAny_loop rfl I (fun n s hI => ?_) n h
  show wpAny _ A ((compTurn (.ListComp elt [⟨target, iter, ifs, 0⟩] scope pos) 0 it acc env).onRaise (fun x => do noteFrame x env; theTreesLotGoes x)) _ _ s
  refine wpAny_noted ?_
  rw [compTurn_list]
  refine wpAny_bind (wpAny_standAt (wpAny_bind (wpAny_mono (turn n s hI) (fun r s₁ h₁ => ?_) fun _ _ f => f.elim)))
  cases r with
  | none => exact wpAny_pure h₁
  | some v =>
    refine wpAny_bind (wpAny_mono h₁ (fun _ s₀ h₀ => ?_) fun _ _ f => f.elim)
    refine wpAny_bind (wpAny_mono h₀ (fun _ s₂ h₂ => wpAny_bind (wpAny_mono h₂ (fun ok s₃ h₃ => ?_) fun _ _ f => f.elim)) fun _ _ f => f.elim)
    cases ok with
    | false => exact wpAny_pure ⟨rfl, h₃⟩
    | true =>
      exact wpAny_bind (wpAny_bind (wpAny_mono h₃ (fun x s₄ h₄ => wpAny_bind (wpAny_mono h₄ (fun _ s₅ h₅ => wpAny_pure (wpAny_pure ⟨rfl, h₅⟩)) fun _ _ f => f.elim)) fun _ _ f => f.elim))
end
def cxC (X : Cx) (ts : List Str) (scope : Scope) (cl : List (Str × Addr)) (s₂ : Shared) (H1 : Hp) (C : Addr) (fp : List Addr) : Cx :=
  { X with N := ts ++ X.N, s₀ := s₂, H₀ := H1, env := compEnvC scope cl C X.env, outer := X.stack, stack := X.stack, ex := fp, fn := fun _ => false, pn := [], xe := fun _ _ => False }
structure CompScope (X : Cx) (ts : List Str) (scope : Scope) : Prop where
  kind : scope.kind = .function
  cell : ∀ y ∈ scope.names, y.2 ≠ .cell
  names : ∀ y ∈ scope.names, y.2 = .local → scope.names.lookup y.1 = some .local
  free : ∀ y ∈ scope.names, y.2 = .free → X.env.kindOf y.1 = some .cell ∨ X.env.kindOf y.1 = some .free
  own : ∀ y ∈ X.N, scope.names.lookup y ≠ some .local
structure CompCells (X : Cx) (scope : Scope) (cl : List (Str × Addr)) : Prop where
  sub : ∀ x c, cl.lookup x = some c → X.env.cells.lookup x = some c
  has : ∀ x, scope.names.lookup x = some .free → ∃ c, cl.lookup x = some c
theorem closure_ok {env : Env} (has : ∀ x, (env.kindOf x = some .cell ∨ env.kindOf x = some .free) → ∃ c, env.cells.lookup x = some c) (scope : Scope)
    (hfr : ∀ y ∈ scope.names, y.2 = .free → env.kindOf y.1 = some .cell ∨ env.kindOf y.1 = some .free) :
    ∃ cl, closureFor scope env = pure cl ∧ (∀ x c, cl.lookup x = some c → env.cells.lookup x = some c) ∧ (∀ y ∈ scope.names, y.2 = .free → ∃ c, cl.lookup y.1 = some c) := by
  have main : ∀ (l : List (Str × NameKind)) (acc : List (Str × Addr)), (∀ y ∈ l, y.2 = .free → env.kindOf y.1 = some .cell ∨ env.kindOf y.1 = some .free) → (∀ x c, acc.lookup x = some c → env.cells.lookup x = some c) →
      ∃ cl, (forIn l acc fun (x : Str × NameKind) (cs : List (Str × Addr)) => if (x.2 == NameKind.free) = true then do let a ← cellOf env x.1; pure (ForInStep.yield ((x.1, a) :: cs)) else pure (ForInStep.yield cs)) = (pure cl : Sem (List (Str × Addr))) ∧
        (∀ x c, cl.lookup x = some c → env.cells.lookup x = some c) ∧ (∀ x c, acc.lookup x = some c → ∃ c', cl.lookup x = some c') ∧ (∀ y ∈ l, y.2 = .free → ∃ c, cl.lookup y.1 = some c) := by
    intro l
    induction l with
    | nil => intro acc _ h; exact ⟨acc, rfl, h, fun x c e => ⟨c, e⟩, fun _ z => nomatch z⟩
    | cons y l ih =>
      intro acc hl ha
      obtain ⟨n, k⟩ := y
      by_cases hk : k = .free
      · subst hk
        obtain ⟨c, hc⟩ := has n (hl (n, .free) List.mem_cons_self rfl)
        obtain ⟨cl, e, h1, h2, h3⟩ := ih ((n, c) :: acc) (fun y hy => hl y (List.mem_cons_of_mem _ hy)) (fun x d e => by
          rw [List.lookup_cons] at e
          cases q : x == n with
          | true => rw [q] at e; rw [eq_of_beq q]; cases e; exact hc
          | false => rw [q] at e; exact ha x d e)
        have hcell : cellOf env n = pure c := by unfold cellOf; rw [hc]
        refine ⟨cl, ?_, h1, fun x d e => ?_, fun y hy hf => ?_⟩
        · rw [List.forIn_cons]
          simp only [beq_self_eq_true, if_true, hcell, pure_bind]
          exact e
        · cases q : x == n with
          | true => exact h2 x c (by rw [List.lookup_cons, q])
          | false => exact h2 x d (by rw [List.lookup_cons, q]; exact e)
        · rcases List.mem_cons.mp hy with rfl | hy
          · exact h2 n c (by simp [List.lookup_cons])
          · exact h3 y hy hf
      · obtain ⟨cl, e, h1, h2, h3⟩ := ih acc (fun y hy => hl y (List.mem_cons_of_mem _ hy)) ha
        refine ⟨cl, ?_, h1, h2, fun y hy hf => ?_⟩
        · rw [List.forIn_cons]
          have hb : (k == NameKind.free) = false := by simpa using hk
          simp only [hb, Bool.false_eq_true, if_false, pure_bind]
          exact e
        · rcases List.mem_cons.mp hy with rfl | hy
          · exact absurd hf hk
          · exact h3 y hy hf
  obtain ⟨cl, e, h1, _, h3⟩ := main scope.names [] hfr (fun x c e => by simp at e)
  refine ⟨cl, ?_, h1, h3⟩
  unfold closureFor
  first
    | (simp only [bind_pure]; exact e)
    | (rw [show (forIn scope.names [] _ : Sem (List (Str × Addr))) = pure cl from e]; rfl)
end L2
namespace L2
open PySem PySem.Spec PyProof.Rows
theorem lookup_relabel_back {env : Env} : ∀ {names : List (Str × NameKind)} {x : Str} {k : NameKind},
    (names.map fun (n, k) => if (k == NameKind.free && env.scope.kind == .function && env.kindOf n == some .cell) then (n, NameKind.cell) else (n, k)).lookup x = some k →
    names.lookup x = some k ∨ (k = .cell ∧ names.lookup x = some .free)
  | [], _, _, h => by simp at h
  | (n, j) :: r, x, k, h => by
    have ih := @lookup_relabel_back env r x k
    have h' : List.lookup x ((if (j == NameKind.free && env.scope.kind == .function && env.kindOf n == some .cell) = true then (n, NameKind.cell) else (n, j)) ::
      (r.map fun (n, k) => if (k == NameKind.free && env.scope.kind == .function && env.kindOf n == some .cell) then (n, NameKind.cell) else (n, k))) = some k := h
    cases hx : x == n with
    | true =>
      by_cases hc : (j == NameKind.free && env.scope.kind == .function && env.kindOf n == some .cell) = true
      · rw [if_pos hc] at h'
        simp only [List.lookup_cons, hx] at h'
        cases h'
        refine .inr ⟨rfl, ?_⟩
        simp only [Bool.and_eq_true, beq_iff_eq] at hc
        simp [List.lookup_cons, hx, hc.1.1]
      · rw [if_neg hc] at h'
        simp only [List.lookup_cons, hx] at h'
        cases h'
        exact .inl (by simp [List.lookup_cons, hx])
    | false =>
      have e : List.lookup x (r.map fun (n, k) => if (k == NameKind.free && env.scope.kind == .function && env.kindOf n == some .cell) then (n, NameKind.cell) else (n, k)) = some k := by
        by_cases hc : (j == NameKind.free && env.scope.kind == .function && env.kindOf n == some .cell) = true
        · rw [if_pos hc] at h'; simp only [List.lookup_cons, hx] at h'; exact h'
        · rw [if_neg hc] at h'; simp only [List.lookup_cons, hx] at h'; exact h'
      rcases ih e with q | ⟨q1, q2⟩
      · exact .inl (by simp only [List.lookup_cons, hx]; exact q)
      · exact .inr ⟨q1, by simp only [List.lookup_cons, hx]; exact q2⟩
section
variable {X : Cx} {pins : List (Addr × Obj)} {σ : St} {H1 : Hp} {s₂ : Shared} {ts : List Str} {scope : Scope} {cl : List (Str × Addr)} {fp : List Addr} {C : Addr}
theorem Inv.fpLt {tg : Expr} {J : It} {it : Addr} {tn : Nat → Heap → Prop} (T : Turn X.prog X.w X.K tg J fp it tn) {i : Nat} {h : Heap} (st : tn i h) : ∀ b ∈ fp, b < h.objs.size := fun b hb => by
  obtain ⟨o, e, _⟩ := T.obj i h st b hb
  exact Heap.lt_size e
theorem cxC_ok (I2 : Inv X pins σ H1 s₂) (S : CompScope X ts scope) (L : CompCells X scope cl) (hf : ∀ b ∈ fp, FpOk X pins H1 b) (hlt : ∀ b ∈ fp, b < s₂.heap.objs.size) (hC : s₂.heap.objs.size ≤ C) :
    (cxC X ts scope cl s₂ H1 C fp).Ok where
  mod := I2.ok.mod
  kind := S.kind
  glob := I2.ok.glob
  blt := I2.ok.blt
  above := hC
  inj := fun x y c h1 h2 => I2.ok.inj x y c (L.sub x c h1) (L.sub y c h2)
  has := fun x hx => by
    have hx' : (relabel scope X.env).names.lookup x = some .cell ∨ (relabel scope X.env).names.lookup x = some .free := hx
    have key : scope.names.lookup x = some .free := by
      rcases hx' with q | q
      · rcases lookup_relabel_back q with z | ⟨_, z⟩
        · exact absurd rfl (S.cell _ (PySem.mem_of_lookup z))
        · exact z
      · rcases lookup_relabel_back q with z | ⟨z, _⟩
        · exact z
        · cases z
    exact L.has x key
  cab := fun x c h => by cases h
  hd := I2.ok.hd
  frames := I2.ok.frames
  stk := .inl rfl
  exf := fun b hb => ⟨Nat.ne_of_lt (Nat.lt_of_lt_of_le (hlt b hb) hC), fun x c e => (hf b hb).2.2.2.2.1 x c (L.sub x c e)⟩
  bs := I2.bs
  bsz := Nat.le_trans I2.ok.bsz I2.sz
  noex := fun b o e hb => by
    rcases (hf b hb).2.2.2.1 with z | z
    · exact I2.ok.noex b o e z
    · exact absurd (Nat.lt_of_lt_of_le (Heap.lt_size e) (Nat.le_trans I2.ok.bsz z)) (Nat.lt_irrefl _)
  exfs := fun b hb hz => by
    rcases List.mem_cons.mp (I2.stkSub b hz) with z | z
    · exact (hf b hb).2.1 z
    · exact (hf b hb).2.2.1 z
  funs := I2.stack
  frf := I2.stkFree
theorem cxC_inv {h₁ : Heap} {t₁ : Nat} {m : Str → Option Value} (I2 : Inv X pins σ H1 s₂) (S : CompScope X ts scope) (L : CompCells X scope cl) (hf : ∀ b ∈ fp, FpOk X pins H1 b) (hlt : ∀ b ∈ fp, b < s₂.heap.objs.size)
    (hC : s₂.heap.objs.size ≤ C) (old : ∀ b o, s₂.heap.get? b = some o → h₁.get? b = some o) (hn : h₁.Ns C m) :
    Inv (cxC X ts scope cl s₂ H1 C fp) [] (List.replicate ts.length none ++ σ) H1 { s₂ with heap := h₁, toks := t₁ } where
  ok := cxC_ok I2 S L hf hlt hC
  os := rfl
  bare := I2.bare
  base := Un.kept old
  loc := by
    refine ⟨m, hn, fun i x v h1 h2 h3 => ?_⟩
    have hi : ts.length ≤ i := by
      by_cases hi : i < ts.length
      · rw [List.getElem?_append_left (by simpa using hi), List.getElem?_replicate, if_pos hi] at h2
        cases h2
      · omega
    rw [List.getElem?_append_right (by simpa using hi), List.length_replicate] at h2
    have h1' : (ts ++ X.N)[i]? = some x := h1
    rw [List.getElem?_append_right hi] at h1'
    have hxN : x ∈ X.N := List.mem_of_getElem? h1'
    have hv : (relabel scope X.env).names.lookup x = some .local ∨ (relabel scope X.env).names.lookup x = some .cell ∨ (relabel scope X.env).names.lookup x = some .free := h3
    have key : scope.names.lookup x = some .free := by
      rcases hv with q | q | q
      · rcases lookup_relabel_back q with z | ⟨z, _⟩
        · exact absurd z (S.own x hxN)
        · cases z
      · rcases lookup_relabel_back q with z | ⟨_, z⟩
        · exact absurd rfl (S.cell _ (PySem.mem_of_lookup z))
        · exact z
      · rcases lookup_relabel_back q with z | ⟨z, _⟩
        · exact z
        · cases z
    have kk : X.env.kindOf x = some .cell ∨ X.env.kindOf x = some .free := S.free _ (PySem.mem_of_lookup key) rfl
    obtain ⟨mX, _, hl⟩ := I2.loc
    obtain ⟨u, r, lk⟩ := hl (i - ts.length) x v h1' h2 (kk.elim (fun z => .inr (.inl z)) fun z => .inr (.inr z))
    refine ⟨u, r, .inr ⟨?_, ?_⟩⟩
    · rcases hv with q | q
      · rcases lookup_relabel_back q with z | ⟨z, _⟩
        · exact absurd z (S.own x hxN)
        · cases z
      · exact q
    · obtain ⟨c, hc⟩ := L.has x key
      refine ⟨c, hc, ?_⟩
      rcases lk with ⟨z, _⟩ | ⟨_, c', e', o, ho, hd⟩
      · rcases kk with k | k <;> (rw [z] at k; cases k)
      · have e2 := L.sub x c hc
        rw [e2] at e'
        cases e'
        exact ⟨o, old _ _ ho, hd⟩
  cell := fun x c e => by
    obtain ⟨v, o, ho, hd⟩ := I2.cell x c (L.sub x c e)
    exact ⟨v, o, old _ _ ho, hd⟩
  free := I2.hok.fresh hC
  freeC := fun x c e => I2.freeC x c (L.sub x c e)
  pin := fun p hp => absurd (show p ∈ ([] : List (Addr × Obj)) from hp) (by simp)
  hok := I2.hok.kept old
  len := by
    show _ = (ts ++ X.N).length
    rw [List.length_append, List.length_append, List.length_replicate, I2.len]
theorem back_ok {pins' : List (Addr × Obj)} {σ' : St} {H' : Hp} {s' : Shared} {h' : Heap} (I2 : Inv X pins σ H1 s₂) (hf : ∀ b ∈ fp, FpOk X pins H1 b) (hC : s₂.heap.objs.size ≤ C)
    (Ic : Inv (cxC X ts scope cl s₂ H1 C fp) pins' σ' H' s') (hs : Heap.SameBut C s'.heap h') : Inv X pins σ H' { s' with heap := h' } := by
  have nC : ∀ b o, s₂.heap.get? b = some o → b ≠ C := fun b o e => Nat.ne_of_lt (Nat.lt_of_lt_of_le (Heap.lt_size e) hC)
  have u := Ic.base
  have un : Un (frs X.stack) fp H1 H' s₂.heap h' :=
    ⟨fun b o e n hb hx => (hs.2 b (nC b o e)).trans (u.keep b o e n hb hx), fun b o e n hb hx => by
        obtain ⟨sl, q⟩ := u.slot b o e n hb hx
        exact ⟨sl, (hs.2 b (nC b o e)).trans q⟩, u.free, fun b o e hx => by
        obtain ⟨o', q⟩ := u.there b o e hx
        exact ⟨o', (hs.2 b (nC b o e)).trans q⟩, u.tups, u.frzs, u.tbls⟩
  have hok : HOk X.prog X.w H' h' := fun b o e => by
    have nb : ∀ c w, H' c = some w → c ≠ C := fun c w q z => by
      have : H' C = none := Ic.free
      rw [z, this] at q; cases q
    refine (Ic.hok b o e).stay (fun c w' hc q => (hs.2 c ?_).trans q) (fun _ q => q) fun _ _ q => q
    rcases hc with rfl | hc
    · exact nb _ _ e
    · exact nb _ _ hc
  exact I2.call' (s' := { s' with heap := h' }) (ch := fp) (show s'.os = s₂.os from Ic.os) un hok Ic.bare fun b hb =>
    let ⟨_, f1, _, f3, f4, f5⟩ := hf b hb
    ⟨f3, f1, f4, f5⟩
end
abbrev lstO (its : List Value) (k : Nat) : Obj := { cls := .type "list", data := .seq its.toArray k }
theorem comp_block {X : Cx} {pins : List (Addr × Obj)} {σ : St} {H1 : Hp} {s₂ : Shared} {ts : List Str} {scope : Scope} {cl : List (Str × Addr)} {fp : List Addr} {elt tg iter : Expr} {ifs : List Expr} {pos : Pos} {g : TG} {tt : TT} {te : TE} {J : It} {it : Addr}
    {tn : Nat → Heap → Prop} {E : Value → Shared → Prop} {RR : Value → Addr → Result → Shared → Prop} {Fin : List V → Hp → Prop}
    (I2 : Inv X pins σ H1 s₂) (hc : X.calm = true) (T : Turn X.prog X.w X.K tg J fp it tn) (st : tn 0 s₂.heap) (hf : ∀ b ∈ fp, FpOk X pins H1 b) (S : CompScope X ts scope) (L : CompCells X scope cl)
    (hg : ∀ C, PG (cxC X ts scope cl s₂ H1 C fp) tg g) (ht : ∀ C, PIf (cxC X ts scope cl s₂ H1 C fp) ifs tt) (he : ∀ C, PE (cxC X ts scope cl s₂ H1 C fp) elt te)
    (W : Nat → Nat → List V → Hp → Prop) (w0 : ∃ m, W 0 m [] H1)
    (turn : ∀ i m ys H, W i m ys H → ys.length ≤ sizeLine ∧ ((J.stop i H ∧ Fin ys H) ∨ (J.go i H ∧ ∀ x H', J.yld i H x H' → g x (List.replicate ts.length none ++ σ) H' fun σ2 H2 => (σ2.length = ts.length + σ.length ∧ σ2.drop ts.length = σ) ∧
      tt σ2 H2 fun c H3 => if c = true then te σ2 H3 fun y H4 => ∃ m', m' < m ∧ W (i + 1) m' (ys ++ [y]) H4 else ∃ m', m' < m ∧ W (i + 1) m' ys H3)))
    (hRR : ∀ C D s' H' ys its k σ' m', s₂.heap.objs.size ≤ D → s₂.heap.objs.size ≤ C → D ≠ C → Inv (cxC X ts scope cl s₂ H1 C fp) [] σ' H' s' → s'.heap.Ns C m' → s'.heap.get? D = some (lstO its k) → Vals ys its → ys.length ≤ sizeLine → H' D = none → Fin ys H' → RR (.ref D) C (.ok .next) s') :
    wpAny (model X.prog X.w) X.A (newList []) (fun acc s₃ => wpAny (model X.prog X.w) X.A (newFunctionEnv scope X.env.globals cl [] X.env.qual none .none (some X.env)) (fun cenv s₄ =>
      codeAny (model X.prog X.w) X.A (.compStart (.ListComp elt [⟨tg, iter, ifs, 0⟩] scope pos) 0 (.ref it) acc { cenv with scope := relabel scope X.env }) (RR acc cenv.locals) s₄) E s₃) E s₂ := by
  refine wpAny_newObj_type (wpAny_newFunctionEnv S.cell (by intro y hy; simp at hy) (fun h₁ hns₁ hsb₁ => ?_) S.kind)
  dsimp only at hns₁ hsb₁ ⊢
  generalize hH2 : s₂.heap.push { cls := .type "list", dict := none, data := .seq ([] : List Value).toArray } = H2 at hns₁ hsb₁ ⊢
  have hCs : H2.objs.size = s₂.heap.objs.size + 1 := by rw [← hH2, Heap.size_push]
  have hDC : s₂.heap.objs.size ≠ H2.objs.size := by rw [hCs]; exact Nat.ne_of_lt (Nat.lt_succ_self _)
  have hC : s₂.heap.objs.size ≤ H2.objs.size := by rw [hCs]; exact Nat.le_succ _
  have below : ∀ b, b < s₂.heap.objs.size → b ≠ H2.objs.size ∧ b ≠ s₂.heap.objs.size := fun b hb => ⟨by rw [hCs]; exact Nat.ne_of_lt (Nat.lt_succ_of_lt hb), Nat.ne_of_lt hb⟩
  have old : ∀ b o, s₂.heap.get? b = some o → h₁.get? b = some o := fun b o e => hsb₁.extBut b o (below b (Heap.lt_size e)).1 (Heap.get?_push_of_some _ (hH2 ▸ Heap.get?_push_of_some _ e))
  have hacc : h₁.get? s₂.heap.objs.size = some (lstO [] 0) := hsb₁.extBut _ _ hDC (Heap.get?_push_of_some _ (hH2 ▸ Heap.get?_push_size _ rfl))
  have hlt : ∀ b ∈ fp, b < s₂.heap.objs.size := Inv.fpLt T st
  have st1 : tn 0 h₁ := T.keep _ _ _ st fun b _ o e => old b o e
  generalize hCC : H2.objs.size = C at *
  generalize hDD : s₂.heap.objs.size = D at *
  have fpD : ∀ b ∈ fp, b ≠ D := fun b hb => (below b (hlt b hb)).2
  have cellD : ∀ x c, cl.lookup x = some c → c ≠ D := fun x c e => by
    obtain ⟨v, q⟩ := I2.cell x c (L.sub x c e)
    exact (below c (hDD ▸ q.lt)).2
  have stat : ∀ {pins' : List (Addr × Obj)} {H' : Hp}, (∀ p ∈ pins', p.1 ∉ fp) → (∀ b ∈ fp, H' b = none) → ∀ b ∈ fp, FpOk (cxC X ts scope cl s₂ H1 C fp) pins' H' b := fun {pins' H'} hp hn b hb => by
    refine ⟨hn b hb, (below b (hlt b hb)).1, fun hz => ?_, .inl hb, fun x c e => (hf b hb).2.2.2.2.1 x c (L.sub x c e), fun p hpp z => ?_⟩
    · rcases List.mem_cons.mp (I2.stkSub b hz) with z | z
      · exact (hf b hb).2.1 z
      · exact (hf b hb).2.2.1 z
    · exact hp p (by simpa [cxC] using hpp) (z ▸ hb)
  obtain ⟨m0, w0⟩ := w0
  have nDfs : D ∉ frs X.stack := fun hz => by
    rcases List.mem_cons.mp (I2.stkSub D hz) with z | z
    · exact (below _ (hDD ▸ I2.lt)).2 z.symm
    · exact I2.nofs (hDD ▸ Nat.le_refl _) z
  have loop : ∀ s₃ : Shared, s₃ = { s₂ with heap := h₁, toks := s₂.toks + ([] : List (Str × Value)).length } →
      codeAny (model X.prog X.w) X.A (.compLoop (.ListComp elt [⟨tg, iter, ifs, 0⟩] scope pos) 0 (.ref it) (.ref D) (compEnvC scope cl C X.env)) (RR (.ref D) C) s₃ := by
    rintro s₃ rfl
    refine compLoop_go (fun n s' => ∃ i ys its k H', Inv (cxC X ts scope cl s₂ H1 C fp) [] (List.replicate ts.length none ++ σ) H' s' ∧ tn i s'.heap ∧ (∀ b ∈ fp, H' b = none) ∧ s'.heap.get? D = some (lstO its k) ∧ Vals ys its ∧ H' D = none ∧ W i n ys H') ?_ m0
      ⟨0, [], [], 0, H1, cxC_inv I2 S L hf (fun b hb => hDD ▸ hlt b hb) (hDD ▸ hC) old hns₁, st1, fun b hb => (hf b hb).1, hacc, .nil, I2.hok.fresh (hDD ▸ Nat.le_refl _), w0⟩
    rintro n s3 ⟨i, ys, its, k, H3, I3, st3, fr3, hD3, rv3, nD3, w3⟩
    have pinD : ∀ {σ' : St} {H' : Hp} {s' : Shared}, Inv (cxC X ts scope cl s₂ H1 C fp) [] σ' H' s' → s'.heap.get? D = some (lstO its k) → H' D = none → Inv (cxC X ts scope cl s₂ H1 C fp) [(D, lstO its k)] σ' H' s' := fun I e n => I.pins_of fun p hp => by
      have : p = (D, lstO its k) := by simpa using hp
      subst this
      exact ⟨e, n, hDC, nDfs, fun v z => by cases z⟩
    have I3' := pinD I3 hD3 nD3
    have pfp : ∀ p ∈ [(D, lstO its k)], p.1 ∉ fp := fun p hp hz => by
      have : p = (D, lstO its k) := by simpa using hp
      subst this
      exact fpD D hz rfl
    obtain ⟨hz, alt⟩ := turn i n ys H3 w3
    rcases alt with ⟨stop, fin⟩ | ⟨go, step⟩
    · refine thn (T.done (cxC X ts scope cl s₂ H1 C fp) rfl rfl rfl hc i _ s3 _ H3 _ I3' (stat pfp fr3) st3 stop) fun r s4 ⟨hr, I4⟩ => ?_
      subst hr
      obtain ⟨e4, n4, _⟩ := I4.pin (D, lstO its k) (List.mem_append_right _ List.mem_cons_self)
      obtain ⟨m4, hn4, _⟩ := I4.loc
      exact hRR C D s4 H3 ys its k _ m4 (hDD ▸ Nat.le_refl _) (hDD ▸ hC) hDC (I4.pins_of fun p hp => nomatch hp) hn4 e4 rv3 hz n4 fin
    · refine thn (T.item (cxC X ts scope cl s₂ H1 C fp) rfl rfl rfl hc i _ s3 _ H3 _ I3' (stat pfp fr3) st3 go) fun r s4 ⟨u, hr, h4⟩ => ?_
      subst hr
      refine thn h4 fun _ s5 ⟨x, H5, I5, r5, y5, st5, fr5⟩ => ?_
      have I5' := I5.pinned (stat pfp fr5) (T.obj _ _ st5)
      refine thn (hg C _ s5 _ H5 x u _ I5' r5 (step x H5 y5)) fun _ s6 ⟨σ6, H6, I6, ⟨hl6, hd6⟩, q6⟩ => ?_
      have wk : ∀ {pins' : List (Addr × Obj)} {H' : Hp} {s' : Shared}, Inv (cxC X ts scope cl s₂ H1 C fp) pins' σ6 H' s' → Inv (cxC X ts scope cl s₂ H1 C fp) pins' (List.replicate ts.length none ++ σ) H' s' := fun I => I.weak (by rw [List.length_append, List.length_replicate]; exact hl6.symm) fun j v e => by
        by_cases hj : j < ts.length
        · rw [List.getElem?_append_left (by simpa using hj), List.getElem?_replicate, if_pos hj] at e
          cases e
        · rw [List.getElem?_append_right (by simpa using hj), List.length_replicate, ← hd6, List.getElem?_drop] at e
          rw [show ts.length + (j - ts.length) = j by omega] at e
          exact e
      have tnK : ∀ {σ7 : St} {H7 : Hp} {s7 : Shared}, Inv (cxC X ts scope cl s₂ H1 C fp) ([(D, lstO its k)] ++ pinsAt fp s5.heap) σ7 H7 s7 → tn (i + 1) s7.heap ∧ (∀ b ∈ fp, H7 b = none) ∧ s7.heap.get? D = some (lstO its k) ∧ H7 D = none := fun {σ7 H7 s7} I7 => by
        refine ⟨T.keep _ _ _ st5 fun b hb o e => (I7.pin (b, o) (List.mem_append_right _ (List.mem_append_right _ (mem_pinsAt hb e)))).1, fun b hb => ?_, ?_⟩
        · obtain ⟨o, e, d⟩ := T.obj _ _ st5 b hb
          exact (I7.pin (b, o) (List.mem_append_right _ (List.mem_append_right _ (mem_pinsAt hb e)))).2.1
        · obtain ⟨e, n, _⟩ := I7.pin (D, lstO its k) (List.mem_append_right _ (List.mem_append_left _ List.mem_cons_self))
          exact ⟨e, n⟩
      refine thn (ht C _ s6 σ6 H6 _ I6 q6) fun ok s7 ⟨H7, I7, q7⟩ => ?_
      cases ok with
      | false =>
        obtain ⟨m', hm, w7⟩ := q7
        obtain ⟨t7, f7, e7, n7⟩ := tnK I7
        exact ⟨m', hm, i + 1, ys, its, k, H7, (wk I7).pins_of (fun p hp => (nomatch hp)), t7, f7, e7, rv3, n7, w7⟩
      | true =>
        refine thn (he C _ s7 σ6 H7 _ I7 q7) fun z s8 ⟨y, H8, I8, ry, m', hm, w8⟩ => ?_
        obtain ⟨t8, f8, e8, n8⟩ := tnK I8
        have hzi : its.length ≤ sizeLine := by rw [← rv3.length]; exact hz
        refine append_at e8 (fun h9 hs9 hD9 => ?_) (by rw [List.size_toArray]; exact hzi)
        have I9 : Inv (cxC X ts scope cl s₂ H1 C fp) [] (List.replicate ts.length none ++ σ) H8 { s8 with heap := h9 } :=
          ((wk I8).pins_of (pins' := []) fun p hp => nomatch hp).turned (t' := s8.toks) (fun b o hb e => (hs9.2 b hb).trans e) n8 hDC (.inr (hDD ▸ Nat.le_refl _)) cellD (fun p hp => absurd (show p ∈ ([] : List (Addr × Obj)) from hp) (by simp))
        refine ⟨m', hm, i + 1, ys ++ [y], its ++ [z], k + 1, H8, I9, T.keep _ _ _ t8 fun b hb o e => (hs9.2 b (fpD b hb)).trans e, f8, ?_, rv3.append (.cons ry .nil), n8, w8⟩
        rw [hD9]
        show some ({ cls := .type "list", data := .seq (its.toArray.push z) (k + 1) } : Obj) = some { cls := .type "list", data := .seq (its ++ [z]).toArray (k + 1) }
        rw [List.push_toArray]
  exact codeAny_compStart_list (loop _ rfl) (T.self _ 0 _ _ _ st1 (loop _ rfl))
def tComp (k : Nat) (wi : TI) (g : TG) (tt : TT) (te : TE) : TE := fun σ H Q => wi σ H fun J H1 => ∃ W : Nat → Nat → List V → Hp → Prop, (∃ m, W 0 m [] H1) ∧
  ∀ i m ys H, W i m ys H → ys.length ≤ sizeLine ∧ ((J.stop i H ∧ ∀ D, H D = none → Q (.ref D) (upd H D (.lst ys))) ∨ (J.go i H ∧ ∀ x H', J.yld i H x H' → g x (List.replicate k none ++ σ) H' fun σ2 H2 => (σ2.length = k + σ.length ∧ σ2.drop k = σ) ∧
      tt σ2 H2 fun c H3 => if c = true then te σ2 H3 fun y H4 => ∃ m', m' < m ∧ W (i + 1) m' (ys ++ [y]) H4 else ∃ m', m' < m ∧ W (i + 1) m' ys H3))
theorem CompScope.cells {X : Cx} {ts : List Str} {scope : Scope} {env : Env} (S : CompScope X ts scope) (ok : X.Ok) : ∃ cl, closureFor scope X.env = pure cl ∧ CompCells X scope cl := by
  obtain ⟨cl, e, h1, h2⟩ := closure_ok ok.has scope S.free
  exact ⟨cl, e, h1, fun x hx => h2 _ (PySem.mem_of_lookup hx) rfl⟩
theorem pe_comp {X : Cx} {ts : List Str} {scope : Scope} {elt tg iter : Expr} {ifs : List Expr} {pos : Pos} {wi : TI} {g : TG} {tt : TT} {te : TE} (hc : X.calm = true) (S : CompScope X ts scope) (hi : PI X tg iter wi)
    (hg : ∀ cl s₂ H1 C fp, PG (cxC X ts scope cl s₂ H1 C fp) tg g) (ht : ∀ cl s₂ H1 C fp, PIf (cxC X ts scope cl s₂ H1 C fp) ifs tt) (he : ∀ cl s₂ H1 C fp, PE (cxC X ts scope cl s₂ H1 C fp) elt te)
    (hs : ∀ x, foldedSetIterable iter X.env x = pure x := by intro _; rfl) :
    PE X (.ListComp elt [⟨tg, iter, ifs, 0⟩] scope pos) (tComp ts.length wi g tt te) := by
  intro pins s σ H Q I h
  rw [eval_ListComp]
  obtain ⟨cl, hcl, L⟩ := S.cells (env := X.env) I.ok
  refine wpAny_comprehension_free (use := none) rfl hs hcl S.kind S.names (wpAny_mono (hi pins s σ H _ I h) (fun v s1 h1 => wpAny_mono h1 (fun itv s2 h2 => ?_) fun _ _ e => e) fun _ _ e => e)
  obtain ⟨it, fp, tn, J, H1, rfl, I2, T, st, hf, W, w0, turn⟩ := h2
  refine comp_block (Fin := fun ys H => ∀ D, H D = none → Q (.ref D) (upd H D (.lst ys))) (RR := fun acc C => compPost (model X.prog X.w) X.A X.xe none (EP X pins σ Q) acc C) I2 hc T st hf S L (fun C => hg cl s2 H1 C fp) (fun C => ht cl s2 H1 C fp) (fun C => he cl s2 H1 C fp) W w0 turn ?_
  intro C D s' H' ys its k σ' m' hD hC hDC Ic hn hgD rv hz nD fin
  refine ⟨m', hn, fun h' hs' => ?_⟩
  have IX := back_ok I2 hf hC Ic hs'
  have gD : h'.get? D = some (lstO its k) := (hs'.2 D hDC).trans hgD
  obtain ⟨f0, f1, f2, f3, f4, f5⟩ := I2.fpOk (b := D) (H' := H') hD nD
  refine ⟨.ref D, _, IX.track (o := .lst ys) nD (Nat.le_trans I2.sz hD) f1 f4 f5 ⟨hz, its, k, rv, gD⟩, rfl, fin D nD⟩
theorem ps_comp {X : Cx} {ts : List Str} {scope : Scope} {elt tg iter : Expr} {ifs : List Expr} {pos spos py : Pos} {wi : TI} {g : TG} {tt : TT} {te : TE} {i : Nat} {y : Str} (hN : X.N.Nodup) (hi' : X.N[i]? = some y) (hx : Loc X.env.scope y) (hc : X.calm = true) (S : CompScope X ts scope) (hi : PI X tg iter wi)
    (hg : ∀ cl s₂ H1 C fp, PG (cxC X ts scope cl s₂ H1 C fp) tg g) (ht : ∀ cl s₂ H1 C fp, PIf (cxC X ts scope cl s₂ H1 C fp) ifs tt) (he : ∀ cl s₂ H1 C fp, PE (cxC X ts scope cl s₂ H1 C fp) elt te)
    (hsw : swapsWith (.ListComp elt [⟨tg, iter, ifs, 0⟩] scope pos) (some (.Name y py)) spos.line X.env = pure true := by rfl)
    (hf' : X.fn y = true ∨ X.env.scope.names.lookup y = some .local := by first | exact .inl rfl | exact .inr rfl | assumption)
    (hs : ∀ x, foldedSetIterable iter X.env x = pure x := by intro _; rfl) :
    PS X (.Assign [.Name y py] (.ListComp elt [⟨tg, iter, ifs, 0⟩] scope pos) spos) (tAsg (tComp ts.length wi g tt te) (gName i)) := by
  intro pins s σ H D0 I h
  rw [exec_Assign_Name_used _ _ _ _ hsw]
  refine wpAny_bind (wpAny_standAt (wpAny_bind ?_))
  show wpAny _ X.A (do let _ ← comprehension (.ListComp elt [⟨tg, iter, ifs, 0⟩] scope pos) scope X.env _ (newList []) false (eval iter X.env) (some (assign (.Name y py) X.env))) _ _ s
  obtain ⟨cl, hcl, L⟩ := S.cells (env := X.env) I.ok
  refine wpAny_bind (wpAny_mono (wpAny_comprehension_free (use := some (assign (.Name y py) X.env)) (Q := fun _ s' => SP X pins D0 .next s') rfl hs hcl S.kind S.names
    (wpAny_mono (hi pins s σ H _ I h) (fun v s1 h1 => wpAny_mono h1 (fun itv s2 h2 => ?_) fun _ _ e => e) fun _ _ e => e)) (fun _ s' hq => wpAny_pure (wpAny_pure hq)) fun _ _ e => e)
  obtain ⟨it, fp, tn, J, H1, rfl, I2, T, st, hf, W, w0, turn⟩ := h2
  refine comp_block (Fin := fun ys H => ∀ D, H D = none → gName i (.ref D) σ (upd H D (.lst ys)) D0.nx) (RR := fun acc C => compPost (model X.prog X.w) X.A X.xe (some (assign (.Name y py) X.env)) (fun _ s' => SP X pins D0 .next s') acc C) I2 hc T st hf S L (fun C => hg cl s2 H1 C fp) (fun C => ht cl s2 H1 C fp) (fun C => he cl s2 H1 C fp) W w0 turn ?_
  intro C D s' H' ys its k σ' m' hD hC hDC Ic hn hgD rv hz nD fin
  have IX : Inv X pins σ H' s' := back_ok I2 hf hC Ic (Heap.SameBut.refl ..)
  obtain ⟨f0, f1, f2, f3, f4, f5⟩ := I2.fpOk (b := D) (H' := H') hD nD
  have IT : Inv X pins σ (upd H' D (.lst ys)) s' := IX.track (o := .lst ys) nD (Nat.le_trans I2.sz hD) f1 f4 f5 ⟨hz, its, k, rv, hgD⟩
  show wpAny _ X.A (assign (.Name y py) X.env (.ref D)) _ _ s'
  refine wpAny_assign_Name (store_ok2 IT hN hi' hx (v := .ref D) rfl (fun s'' I'' hh => ?_) hf')
  obtain ⟨a, hsa, ha⟩ := hh
  have hCa : C ≠ a := by
    rintro rfl
    rcases ha with z | z
    · exact absurd (Nat.lt_of_lt_of_le (z ▸ I2.lt) hC) (Nat.lt_irrefl _)
    · obtain ⟨v, q⟩ := I2.cell _ _ z
      exact absurd (Nat.lt_of_lt_of_le q.lt hC) (Nat.lt_irrefl _)
  refine ⟨m', hn.sameBut hsa hCa, fun h' hs' => ?_⟩
  have fin' := fin D nD
  refine ⟨σ.set i (some (.ref D)), upd H' D (.lst ys), ?_, fin'⟩
  have nC : H' C = none := Ic.free
  have nCt : upd H' D (.lst ys) C = none := by rw [upd_ne (Ne.symm hDC)]; exact nC
  obtain ⟨_, g1, g2, g3, g4, g5⟩ := I2.fpOk (b := C) (H' := H') hC nC
  exact I''.turned (t' := s''.toks) (fun b o hb e => (hs'.2 b hb).trans e) nCt g1 (.inr (Nat.le_trans I2.sz hC)) g4 g5
end L2
namespace L2
open PySem PySem.Spec PyProof.Rows
inductive Th where
  | non | bl (b : Bool) | int (i : Int) | str (x : Str) | tup (ts : List Th) | lst (ts : List Th)
mutual
inductive Bears (K : PySem.W.Frag) (H : Hp) : V → Th → Prop where
  | non : Bears K H .non .non
  | bl (b : Bool) : Bears K H (.bl b) (.bl b)
  | int (i : Int) : Bears K H (.int i) (.int i)
  | str (x : Str) : Bears K H (.str x) (.str x)
  | tup {a : Addr} {xs : List V} {ts : List Th} (e : SqT K H a xs) (h : BearsL K H xs ts) : Bears K H (.ref a) (.tup ts)
  | lst {a : Addr} {xs : List V} {ts : List Th} (e : SqL K H a xs) (h : BearsL K H xs ts) : Bears K H (.ref a) (.lst ts)
inductive BearsL (K : PySem.W.Frag) (H : Hp) : List V → List Th → Prop where
  | nil : BearsL K H [] []
  | cons {v : V} {t : Th} {vs : List V} {ts : List Th} (h : Bears K H v t) (r : BearsL K H vs ts) : BearsL K H (v :: vs) (t :: ts)
end
theorem Same.seqT {K : PySem.W.Frag} {H H' : Hp} {a : Addr} {xs : List V} (e : Same H H') (h : SqT K H a xs) : SqT K H' a xs := by
  rcases h with (h | ⟨o, h⟩) | h
  · exact .inl (.inl (e _ _ h))
  · exact .inl (.inr ⟨o, e _ _ h⟩)
  · exact .inr h
section
variable {K : PySem.W.Frag}
mutual
theorem Bears.mono {H H' : Hp} (s : Same H H') : ∀ {v : V} {t : Th}, Bears K H v t → Bears K H' v t
  | _, _, .non => .non
  | _, _, .bl b => .bl b
  | _, _, .int i => .int i
  | _, _, .str x => .str x
  | _, _, .tup e h => .tup (s.seqT e) (BearsL.mono s h)
  | _, _, .lst e h => .lst (s.seq e) (BearsL.mono s h)
theorem BearsL.mono {H H' : Hp} (s : Same H H') : ∀ {vs : List V} {ts : List Th}, BearsL K H vs ts → BearsL K H' vs ts
  | _, _, .nil => .nil
  | _, _, .cons h r => .cons (Bears.mono s h) (BearsL.mono s r)
end
theorem BearsL.length {H : Hp} : ∀ {vs : List V} {ts : List Th}, BearsL K H vs ts → vs.length = ts.length
  | _, _, .nil => rfl
  | _, _, .cons _ r => by rw [List.length_cons, List.length_cons, r.length]
theorem BearsL.get {H : Hp} : ∀ {vs : List V} {ts : List Th} {i : Nat} {t : Th}, BearsL K H vs ts → ts[i]? = some t → ∃ v, vs[i]? = some v ∧ Bears K H v t
  | _, _, _, _, .nil, e => by simp at e
  | _, _, 0, _, .cons h _, e => by simp at e; subst e; exact ⟨_, rfl, h⟩
  | _, _, i + 1, _, .cons _ r, e => by
    obtain ⟨v, h1, h2⟩ := r.get (i := i) (by simpa using e)
    exact ⟨v, by simpa using h1, h2⟩
theorem BearsL.got {H : Hp} : ∀ {vs : List V} {ts : List Th} {i : Nat} {v : V}, BearsL K H vs ts → vs[i]? = some v → ∃ t, ts[i]? = some t ∧ Bears K H v t
  | _, _, _, _, .nil, e => by simp at e
  | _, _, 0, _, .cons h _, e => by simp at e; subst e; exact ⟨_, rfl, h⟩
  | _, _, i + 1, _, .cons _ r, e => by
    obtain ⟨v, h1, h2⟩ := r.got (i := i) (by simpa using e)
    exact ⟨v, by simpa using h1, h2⟩
theorem BearsL.append {H : Hp} : ∀ {vs ws : List V} {ts us : List Th}, BearsL K H vs ts → BearsL K H ws us → BearsL K H (vs ++ ws) (ts ++ us)
  | _, _, _, _, .nil, s => s
  | _, _, _, _, .cons h r, s => .cons h (r.append s)
theorem BearsL.take {H : Hp} : ∀ {vs : List V} {ts : List Th} (n : Nat), BearsL K H vs ts → BearsL K H (vs.take n) (ts.take n)
  | _, _, 0, _ => .nil
  | _, _, _ + 1, .nil => .nil
  | _, _, n + 1, .cons h r => .cons h (r.take n)
theorem BearsL.drop {H : Hp} : ∀ {vs : List V} {ts : List Th} (n : Nat), BearsL K H vs ts → BearsL K H (vs.drop n) (ts.drop n)
  | _, _, 0, r => r
  | _, _, _ + 1, .nil => .nil
  | _, _, n + 1, .cons _ r => r.drop n
theorem BearsL.reverse {H : Hp} : ∀ {vs : List V} {ts : List Th}, BearsL K H vs ts → BearsL K H vs.reverse ts.reverse
  | _, _, .nil => .nil
  | _, _, .cons h r => by rw [List.reverse_cons, List.reverse_cons]; exact r.reverse.append (.cons h .nil)
theorem BearsL.rep {H : Hp} {vs : List V} {ts : List Th} (h : BearsL K H vs ts) : ∀ k : Nat, BearsL K H (List.replicate k vs).flatten (List.replicate k ts).flatten
  | 0 => .nil
  | k + 1 => by rw [List.replicate_succ, List.replicate_succ, List.flatten_cons, List.flatten_cons]; exact h.append (h.rep k)
end
theorem Same.upd {H : Hp} {p : Addr} {o : HO} (h : H p = none) : Same H (upd H p o) := fun b u e => by rw [upd_ne (ne_of_none e h)]; exact e
structure Hid where
  own : List (Nat × Addr)
  far : Addr → Prop
def Hid.has (O : Hid) (b : Addr) : Prop := b ∈ O.own.map (·.2) ∨ O.far b
def Hid.cons (i : Nat) (a : Addr) (O : Hid) : Hid := { O with own := (i, a) :: O.own }
open Classical in
noncomputable def less (H : Hp) (O : Hid) : Hp := fun b => if O.has b then none else H b
open Classical in
noncomputable def low (H : Hp) (O : Hid) : Hp := fun b => if b ∈ O.own.map (·.2) then none else H b
theorem less_sub (H : Hp) (O : Hid) : Same (less H O) H := fun b o e => by
  unfold less at e
  split at e
  · cases e
  · exact e
theorem low_sub (H : Hp) (O : Hid) : Same (low H O) H := fun b o e => by
  unfold low at e
  split at e
  · cases e
  · exact e
theorem less_of {H : Hp} {O : Hid} {b : Addr} {o : HO} (h : H b = some o) (n : ¬ O.has b) : less H O b = some o := by
  unfold less; rw [if_neg n]; exact h
theorem low_of {H : Hp} {O : Hid} {b : Addr} {o : HO} (h : H b = some o) (n : b ∉ O.own.map (·.2)) : low H O b = some o := by
  unfold low; rw [if_neg n]; exact h
theorem of_less {H : Hp} {O : Hid} {b : Addr} {o : HO} (h : less H O b = some o) : H b = some o ∧ ¬ O.has b := by
  unfold less at h
  split at h
  · cases h
  · exact ⟨h, ‹_›⟩
theorem of_low {H : Hp} {O : Hid} {b : Addr} {o : HO} (h : low H O b = some o) : H b = some o ∧ b ∉ O.own.map (·.2) := by
  unfold low at h
  split at h
  · cases h
  · exact ⟨h, ‹_›⟩
theorem less_mono {H H' : Hp} {O : Hid} (s : Same H H') : Same (less H O) (less H' O) := fun b o e => let ⟨h, n⟩ := of_less e; less_of (s b o h) n
theorem low_mono {H H' : Hp} {O : Hid} (s : Same H H') : Same (low H O) (low H' O) := fun b o e => let ⟨h, n⟩ := of_low e; low_of (s b o h) n
theorem low_less {H H' : Hp} {O O' : Hid} (s : Same (low H O) (low H' O')) (hf : O'.far = O.far) : Same (less H O) (less H' O') := fun b o e => by
  obtain ⟨h, n⟩ := of_less e
  obtain ⟨h', n'⟩ := of_low (s b o (low_of h fun z => n (.inl z)))
  exact less_of h' fun z => z.elim n' fun z => n (.inr (hf ▸ z))
theorem less_cons_sub {H : Hp} {O : Hid} {i : Nat} {a : Addr} : Same (less H (O.cons i a)) (less H O) := fun b o e => by
  obtain ⟨h, n⟩ := of_less e
  exact less_of h fun z => n (z.elim (fun z => .inl (List.mem_cons_of_mem _ z)) .inr)
theorem less_cons_any {H : Hp} {O : Hid} {i j : Nat} {a : Addr} : less H (O.cons i a) = less H (O.cons j a) := by
  have hh : ∀ b, (O.cons i a).has b ↔ (O.cons j a).has b := fun b => Iff.rfl
  funext b
  unfold less
  by_cases z : (O.cons i a).has b
  · rw [if_pos z, if_pos ((hh b).mp z)]
  · rw [if_neg z, if_neg (fun q => z ((hh b).mpr q))]
theorem has_cons {O : Hid} {i : Nat} {a b : Addr} (h : (O.cons i a).has b) : b = a ∨ O.has b := by
  rcases h with h | h
  · rcases List.mem_cons.mp (show b ∈ a :: O.own.map (·.2) from h) with q | q
    · exact .inl q
    · exact .inr (.inl q)
  · exact .inr (.inr h)
theorem less_new {H H' : Hp} {O : Hid} {i : Nat} {a : Addr} (s : Same H H') (h : H a = none) : Same (less H O) (less H' (O.cons i a)) := fun b o e => by
  obtain ⟨hb, n⟩ := of_less e
  exact less_of (s b o hb) fun z => (has_cons z).elim (ne_of_none hb h) n
theorem low_new {H H' : Hp} {O : Hid} {i : Nat} {a : Addr} (s : Same H H') (h : H a = none) : Same (low H O) (low H' (O.cons i a)) := fun b o e => by
  obtain ⟨hb, n⟩ := of_low e
  refine low_of (s b o hb) fun z => ?_
  rcases List.mem_cons.mp (show b ∈ a :: O.own.map (·.2) from z) with q | q
  · exact ne_of_none hb h q
  · exact n q
inductive Dv where
  | th (T : Th)
  | own (ts : List Th)
  | exc (c : Str)
  | dct (fz : Bool) (kvs : List (Str × Th))
def fv : Th → V
  | .bl b => .bl b
  | .int i => .int i
  | .str x => .str x
  | _ => .non
def dkv (kvs : List (Str × Th)) : List (Key × V) := kvs.map fun p => (Sum.inr p.1, fv p.2)
def DctAt (H : Hp) (a : Addr) : Bool → List (Str × Th) → Prop
  | false, kvs => H a = some (.dK (dkv kvs))
  | true, kvs => ∃ o, H a = some (.frz o (.dK (dkv kvs)))
def excAt (a C : Addr) (h : Heap) : Prop := ∃ oe, h.get? a = some oe ∧ oe.cls = .ref C
abbrev Sd := List (Option Dv)
structure Rep (K : PySem.W.Frag) (H : Hp) (O : Hid) (σ : St) (d : Sd) : Prop where
  len : d.length = σ.length
  th : ∀ (i : Nat) (T : Th), d[i]? = some (some (.th T)) → ∃ v, σ[i]? = some (some v) ∧ Bears K (less H O) v T
  own : ∀ (i : Nat) (ts : List Th), d[i]? = some (some (.own ts)) → ∃ a xs, (i, a) ∈ O.own ∧ σ[i]? = some (some (.ref a)) ∧ H a = some (.lst xs) ∧ ¬ O.far a ∧ BearsL K (less H O) xs ts
  there : ∀ a, O.has a → ∃ o, H a = some o
  inj : ∀ (i j : Nat) (a : Addr), (i, a) ∈ O.own → (j, a) ∈ O.own → i = j
  exc : ∀ (i : Nat) (c : Str), d[i]? = some (some (.exc c)) → ∃ a C, σ[i]? = some (some (.ref a)) ∧ PySem.W.nsIn K mainGlobals c = some (some (.ref C)) ∧ less H O a = some (.ext (excAt a C))
  dct : ∀ (i : Nat) (fz : Bool) (kvs : List (Str × Th)), d[i]? = some (some (.dct fz kvs)) → ∃ a, (i, a) ∈ O.own ∧ σ[i]? = some (some (.ref a)) ∧ DctAt H a fz kvs ∧ ¬ O.far a
section
variable {K : PySem.W.Frag}
theorem DctAt.mono {H H' : Hp} {a : Addr} {kvs : List (Str × Th)} : ∀ {fz : Bool}, DctAt H a fz kvs → (∀ o, H a = some o → H' a = some o) → DctAt H' a fz kvs
  | false, h, s => s _ h
  | true, ⟨o, h⟩, s => ⟨o, s _ h⟩
theorem Rep.mono {H H' : Hp} {O : Hid} {σ : St} {d : Sd} (r : Rep K H O σ d) (s : Same H H') : Rep K H' O σ d where
  len := r.len
  th := fun i T e => let ⟨v, h1, h2⟩ := r.th i T e; ⟨v, h1, h2.mono (less_mono s)⟩
  own := fun i ts e => let ⟨a, xs, h1, h2, h3, hf, h4⟩ := r.own i ts e; ⟨a, xs, h1, h2, s _ _ h3, hf, h4.mono (less_mono s)⟩
  there := fun a h => let ⟨o, e⟩ := r.there a h; ⟨o, s _ _ e⟩
  inj := r.inj
  exc := fun i c e => let ⟨a, C, h1, h2, h3⟩ := r.exc i c e; ⟨a, C, h1, h2, less_mono s _ _ h3⟩
  dct := fun i fz kvs e => let ⟨a, h1, h2, h3, h4⟩ := r.dct i fz kvs e; ⟨a, h1, h2, h3.mono (s a), h4⟩
theorem Rep.notOwn {H : Hp} {O : Hid} {σ : St} {d : Sd} (r : Rep K H O σ d) {a : Addr} (h : H a = none) : ¬ O.has a := fun z => by
  obtain ⟨o, ho⟩ := r.there a z
  rw [h] at ho; cases ho
theorem Rep.set {H : Hp} {O : Hid} {σ : St} {d : Sd} (r : Rep K H O σ d) (i : Nat) {v : V} {T : Th} (b : Bears K (less H O) v T) : Rep K H O (σ.set i (some v)) (d.set i (some (.th T))) where
  len := by rw [List.length_set, List.length_set]; exact r.len
  th := fun j U e => by
    by_cases hj : i = j
    · subst hj
      have hi : i < d.length := by
        have := (List.getElem?_eq_some_iff.mp e).1
        simpa using this
      rw [List.getElem?_set_self hi] at e
      cases e
      exact ⟨v, List.getElem?_set_self (by rw [← r.len]; exact hi), b⟩
    · rw [List.getElem?_set_ne hj] at e
      obtain ⟨w, h1, h2⟩ := r.th j U e
      exact ⟨w, by rw [List.getElem?_set_ne hj]; exact h1, h2⟩
  own := fun j ts e => by
    by_cases hj : i = j
    · subst hj
      have hi : i < d.length := by
        have := (List.getElem?_eq_some_iff.mp e).1
        simpa using this
      rw [List.getElem?_set_self hi] at e
      cases e
    · rw [List.getElem?_set_ne hj] at e
      obtain ⟨a, xs, h1, h2, h3⟩ := r.own j ts e
      exact ⟨a, xs, h1, by rw [List.getElem?_set_ne hj]; exact h2, h3⟩
  there := r.there
  inj := r.inj
  exc := fun j c e => by
    by_cases hj : i = j
    · subst hj
      have hi : i < d.length := by
        have := (List.getElem?_eq_some_iff.mp e).1
        simpa using this
      rw [List.getElem?_set_self hi] at e
      cases e
    · rw [List.getElem?_set_ne hj] at e
      obtain ⟨a, C, h1, h2⟩ := r.exc j c e
      exact ⟨a, C, by rw [List.getElem?_set_ne hj]; exact h1, h2⟩
  dct := fun j fz kvs e => by
    by_cases hj : i = j
    · subst hj
      rw [List.getElem?_set_self (by simpa using (List.getElem?_eq_some_iff.mp e).1)] at e
      cases e
    · rw [List.getElem?_set_ne hj] at e
      obtain ⟨a, h1, h2, h3⟩ := r.dct j fz kvs e
      exact ⟨a, h1, by rw [List.getElem?_set_ne hj]; exact h2, h3⟩
end
def Lent (K : PySem.W.Frag) (H : Hp) (O : Hid) (v : V) (T : Th) : Prop := Bears K (less H O) v T ∨ ∃ a xs ts, v = .ref a ∧ T = .lst ts ∧ H a = some (.lst xs) ∧ ¬ O.far a ∧ BearsL K (less H O) xs ts
def Fresh (K : PySem.W.Frag) (H H' : Hp) (O : Hid) (v : V) (ts : List Th) : Prop := ∃ a xs, v = .ref a ∧ H a = none ∧ H' a = some (.lst xs) ∧ BearsL K (less H' (O.cons 0 a)) xs ts
section
variable {K : PySem.W.Frag}
theorem Lent.mono {H H' : Hp} {O : Hid} {v : V} {T : Th} (h : Lent K H O v T) (s : Same H H') : Lent K H' O v T := by
  rcases h with h | ⟨a, xs, ts, e1, e2, e3, hf, h⟩
  · exact .inl (h.mono (less_mono s))
  · exact .inr ⟨a, xs, ts, e1, e2, s _ _ e3, hf, h.mono (less_mono s)⟩
theorem Lent.bears {H : Hp} {O : Hid} {v : V} {T : Th} (h : Lent K H O v T) : Bears K H v T := by
  rcases h with h | ⟨a, xs, ts, rfl, rfl, e3, hf, h⟩
  · exact h.mono (less_sub H O)
  · exact .lst (SqL.of e3) (h.mono (less_sub H O))
theorem Lent.int {H : Hp} {O : Hid} {v : V} {i : Int} (h : Lent K H O v (.int i)) : v = .int i := by
  rcases h with h | ⟨_, _, _, _, e, _⟩
  · cases h; rfl
  · cases e
theorem Lent.bl {H : Hp} {O : Hid} {v : V} {i : Bool} (h : Lent K H O v (.bl i)) : v = .bl i := by
  rcases h with h | ⟨_, _, _, _, e, _⟩
  · cases h; rfl
  · cases e
theorem Lent.str {H : Hp} {O : Hid} {v : V} {i : Str} (h : Lent K H O v (.str i)) : v = .str i := by
  rcases h with h | ⟨_, _, _, _, e, _⟩
  · cases h; rfl
  · cases e
theorem Lent.non {H : Hp} {O : Hid} {v : V} (h : Lent K H O v .non) : v = .non := by
  rcases h with h | ⟨_, _, _, _, e, _⟩
  · cases h; rfl
  · cases e
theorem Lent.tup {H : Hp} {O : Hid} {v : V} {ts : List Th} (h : Lent K H O v (.tup ts)) : ∃ a xs, v = .ref a ∧ SqT K (less H O) a xs ∧ BearsL K (less H O) xs ts := by
  rcases h with h | ⟨_, _, _, _, e, _⟩
  · cases h with | tup e h => exact ⟨_, _, rfl, e, h⟩
  · cases e
theorem Lent.lst {H : Hp} {O : Hid} {v : V} {ts : List Th} (h : Lent K H O v (.lst ts)) : ∃ a xs, v = .ref a ∧ SqL K H a xs ∧ BearsL K (less H O) xs ts := by
  rcases h with h | ⟨a, xs, us, rfl, e, e3, hf, h⟩
  · cases h with | lst e h => exact ⟨_, _, rfl, (less_sub H O).seq e, h⟩
  · cases e; exact ⟨a, xs, rfl, SqL.of e3, h⟩
end
abbrev FD := Sd → Option Th
abbrev FL := Sd → Option (List Th)
abbrev FB := Sd → Option Bool
def liftD (K : PySem.W.Frag) (f : FD) : TE := fun σ H Q => ∃ O d T, Rep K H O σ d ∧ f d = some T ∧ ∀ v H', Same H H' → Bears K (less H' O) v T → Q v H'
def liftB (K : PySem.W.Frag) (f : FD) : TE := fun σ H Q => ∃ O d T, Rep K H O σ d ∧ f d = some T ∧ ∀ v H', Same H H' → Lent K H' O v T → Q v H'
def liftF (K : PySem.W.Frag) (f : FL) : TE := fun σ H Q => ∃ O d T, Rep K H O σ d ∧ f d = some T ∧ ∀ v H', Same H H' → Fresh K H H' O v T → Q v H'
def liftT (K : PySem.W.Frag) (f : FB) : TT := fun σ H Q => ∃ O d b, Rep K H O σ d ∧ f d = some b ∧ ∀ H', Same H H' → Q b H'
def liftA (K : PySem.W.Frag) (f : FL) : TA := fun σ H Q => ∃ O d T, Rep K H O σ d ∧ f d = some T ∧ ∀ vs H', Same H H' → BearsL K (less H' O) vs T → Q vs H'
def liftAB (K : PySem.W.Frag) (f : FL) : TA := fun σ H Q => ∃ O d T, Rep K H O σ d ∧ f d = some T ∧ ∀ vs H', Same H H' → Paired (Lent K H' O) vs T → Q vs H'
def PD (X : Cx) (e : Expr) (f : FD) : Prop := PE X e (liftD X.K f)
def PB (X : Cx) (e : Expr) (f : FD) : Prop := PE X e (liftB X.K f)
def PF (X : Cx) (e : Expr) (f : FL) : Prop := PE X e (liftF X.K f)
def PDT (X : Cx) (e : Expr) (f : FB) : Prop := PT X e (liftT X.K f)
def PDW (X : Cx) (e : Expr) (f : FB) : Prop := PW X e (liftT X.K f)
def PDA (X : Cx) (es : List Expr) (f : FL) : Prop := PA X es (liftA X.K f)
def PBA (X : Cx) (es : List Expr) (f : FL) : Prop := PA X es (liftAB X.K f)
section
variable {X : Cx} {e a b c : Expr} {f fa fb fc : FD} {pos : Pos}
theorem PE.imp {t t' : TE} (h : PE X e t) (i : ∀ σ H Q, t' σ H Q → t σ H Q) : PE X e t' := fun pins s σ H Q I q => h pins s σ H Q I (i σ H Q q)
theorem PT.imp {t t' : TT} (h : PT X e t) (i : ∀ σ H Q, t' σ H Q → t σ H Q) : PT X e t' := fun pins s σ H Q I q => h pins s σ H Q I (i σ H Q q)
theorem PW.imp {t t' : TT} (h : PW X e t) (i : ∀ σ H Q, t' σ H Q → t σ H Q) : PW X e t' := fun wh pins s σ H Q I q => h wh pins s σ H Q I (i σ H Q q)
theorem PA.imp {es : List Expr} {t t' : TA} (h : PA X es t) (i : ∀ σ H Q, t' σ H Q → t σ H Q) : PA X es t' := fun ps pins s σ H Q I q => h ps pins s σ H Q I (i σ H Q q)
theorem PD.pb (h : PD X e f) : PB X e f := PE.imp h fun σ H Q ⟨O, d, T, r, e, q⟩ => ⟨O, d, T, r, e, fun v H' s b => q v H' s (.inl b)⟩
def fLst (f : FL) : FD := fun d => (f d).map Th.lst
theorem PF.pd {f : FL} (h : PF X e f) : PD X e (fLst f) := PE.imp h fun σ H Q ⟨O, d, T, r, e, q⟩ => by
  unfold fLst at e
  cases hf : f d with
  | none => rw [hf] at e; cases e
  | some ts =>
    rw [hf] at e
    cases e
    refine ⟨O, d, ts, r, hf, fun v H' s ⟨a, xs, e1, e2, e3, b⟩ => q v H' s ?_⟩
    subst e1
    exact .lst (SqL.of (less_of e3 (r.notOwn e2))) (b.mono less_cons_sub)
def fVar (i : Nat) : FD := fun d => match d[i]? with | some (some (.th T)) => some T | _ => none
def fVarB (i : Nat) : FD := fun d => match d[i]? with | some (some (.th T)) => some T | some (some (.own ts)) => some (.lst ts) | _ => none
def fC (T : Th) : FD := fun _ => some T
theorem pd_var {i : Nat} {x : Str} (h : PE X (.Name x pos) (tVar i)) : PD X (.Name x pos) (fVar i) := PE.imp h fun σ H Q ⟨O, d, T, r, e, q⟩ => by
  unfold fVar at e
  split at e
  · rename_i hd
    cases e
    obtain ⟨v, h1, h2⟩ := r.th i _ hd
    exact ⟨v, h1, q v H (Same.refl H) h2⟩
  · cases e
theorem pb_var {i : Nat} {x : Str} (h : PE X (.Name x pos) (tVar i)) : PB X (.Name x pos) (fVarB i) := PE.imp h fun σ H Q ⟨O, d, T, r, e, q⟩ => by
  unfold fVarB at e
  split at e
  · rename_i hd
    cases e
    obtain ⟨v, h1, h2⟩ := r.th i _ hd
    exact ⟨v, h1, q v H (Same.refl H) (.inl h2)⟩
  · rename_i hd
    cases e
    obtain ⟨a, xs, h1, h2, h3, hf, h4⟩ := r.own i _ hd
    exact ⟨_, h2, q _ H (Same.refl H) (.inr ⟨a, xs, _, rfl, rfl, h3, hf, h4⟩)⟩
  · cases e
theorem pd_const {v : V} {T : Th} (h : PE X e (tC v)) (b : ∀ H, Bears X.K H v T) : PD X e (fC T) := PE.imp h fun σ H Q ⟨O, d, T', r, e, q⟩ => by
  cases e
  exact q v H (Same.refl H) (b _)
theorem pd_int {i j} : PD X (.Constant (.int i) j pos) (fC (.int i)) := pd_const pe_int fun _ => .int i
theorem pd_bl {i j} : PD X (.Constant (.bool i) j pos) (fC (.bl i)) := pd_const pe_bl fun _ => .bl i
theorem pd_non {j} : PD X (.Constant .none j pos) (fC .non) := pd_const pe_non fun _ => .non
theorem pd_str {i j} : PD X (.Constant (.str i) j pos) (fC (.str i)) := pd_const pe_str fun _ => .str i
def f2 (g : Th → Th → Option Th) (fa fb : FD) : FD := fun d => (fa d).bind fun x => (fb d).bind fun y => g x y
theorem f2_some {g : Th → Th → Option Th} {fa fb : FD} {d : Sd} {T : Th} (h : f2 g fa fb d = some T) : ∃ x y, fa d = some x ∧ fb d = some y ∧ g x y = some T := by
  unfold f2 at h
  cases h1 : fa d with
  | none => rw [h1] at h; cases h
  | some x =>
    rw [h1] at h
    cases h2 : fb d with
    | none => rw [h2] at h; cases h
    | some y => rw [h2] at h; exact ⟨x, y, rfl, rfl, h⟩
def OpD (K : PySem.W.Frag) (r : R2) (g : Th → Th → Option Th) : Prop := ∀ (H : Hp) (O : Hid) (v u : V) (x y z : Th) (Q : VK), (∀ p, H p = none → ¬ O.has p) → Lent K H O v x → Lent K H O u y → g x y = some z → (∀ v' H', Same H H' → Bears K (less H' O) v' z → Q v' H') → r v u H Q
theorem tOp_lift {K : PySem.W.Frag} {r : R2} {g : Th → Th → Option Th} (hr : OpD K r g) : ∀ σ H Q, liftD K (f2 g fa fb) σ H Q → tOp r (liftB K fa) (liftB K fb) σ H Q := fun σ H Q ⟨O, d, T, R, e, q⟩ => by
  obtain ⟨x, y, hx, hy, hg⟩ := f2_some e
  exact ⟨O, d, x, R, hx, fun v1 H1 s1 b1 => ⟨O, d, y, R.mono s1, hy, fun v2 H2 s2 b2 => hr H2 O v1 v2 x y T Q (fun p hp => (R.mono (s1.trans s2)).notOwn hp) (b1.mono s2) b2 hg fun v H' s b => q v H' ((s1.trans s2).trans s) b⟩⟩
theorem pd_op {op : Operator} {r : R2} {g : Th → Th → Option Th} (ho : OpR X (binaryOp op) r) (hr : OpD X.K r g) (ha : PB X a fa) (hb : PB X b fb) : PD X (.BinOp a op b pos) (f2 g fa fb) := PE.imp (pe_op ho ha hb) (tOp_lift hr)
theorem pd_cmp {op : CmpOp} {r : R2} {g : Th → Th → Option Th} (ho : OpR X (compareOp op) r) (hr : OpD X.K r g) (ha : PB X a fa) (hb : PB X b fb) (hm : behindInMarks op b = false) : PD X (.Compare a [op] [b] pos) (f2 g fa fb) := PE.imp (pe_cmpR ho ha hb hm) (tOp_lift hr)
def fTest (f : FD) : FB := fun d => match f d with | some (.bl b) => some b | _ => none
theorem fTest_some {f : FD} {d : Sd} {b : Bool} (h : fTest f d = some b) : f d = some (.bl b) := by
  unfold fTest at h
  split at h
  · rename_i e; cases h; exact e
  · cases h
theorem pdt_cmp {op : CmpOp} {r : R2} {g : Th → Th → Option Th} (ho : OpR X (compareOp op) r) (hr : OpD X.K r g) (ha : PB X a fa) (hb : PB X b fb) (hm : behindInMarks op b = false) : PDT X (.Compare a [op] [b] pos) (fTest (f2 g fa fb)) :=
  PT.imp (pt_cmpR ho ha hb hm) fun σ H Q ⟨O, d, k, R, e, q⟩ => tOp_lift hr σ H _ ⟨O, d, .bl k, R, fTest_some e, fun v H' s b => by cases b; exact ⟨k, rfl, q H' s⟩⟩
theorem pdt_val (h : PD X e f) (he : ∀ whole, isTrue e X.env whole = (do let v ← whole; standAt e.pos; holding [v] (truthy v)) := by intro _; rfl) : PDT X e (fTest f) :=
  PT.imp (pt_val h he) fun σ H Q ⟨O, d, k, R, e, q⟩ => ⟨O, d, .bl k, R, fTest_some e, fun v H' s b => by cases b; exact ⟨k, rfl, q H' s⟩⟩
def fNot (f : FB) : FB := fun d => (f d).map (!·)
theorem pdt_not {f : FB} (h : PDT X a f) : PDT X (.UnaryOp .Not a pos) (fNot f) := PT.imp (pt_not h) fun σ H Q ⟨O, d, k, R, e, q⟩ => by
  unfold fNot at e
  cases hf : f d with
  | none => rw [hf] at e; cases e
  | some z => rw [hf] at e; cases e; exact ⟨O, d, z, R, hf, q⟩
def fAndT (f g : FB) : FB := fun d => (f d).bind fun b => if b = true then g d else some false
def fOrT (f g : FB) : FB := fun d => (f d).bind fun b => if b = true then some true else g d
theorem pdw_and1 {f : FB} (h : PDT X a f) : PDW X (.BoolOp .And [a] pos) f := pw_and1 h
theorem pdw_or1 {f : FB} (h : PDT X a f) : PDW X (.BoolOp .Or [a] pos) f := pw_or1 h
theorem pdw_and {f g : FB} {rest : List Expr} (ha : PDT X a f) (hb : PDW X (.BoolOp .And (b :: rest) pos) g) : PDW X (.BoolOp .And (a :: b :: rest) pos) (fAndT f g) := PW.imp (pw_and ha hb) fun σ H Q ⟨O, d, k, R, e, q⟩ => by
  unfold fAndT at e
  cases hf : f d with
  | none => rw [hf] at e; cases e
  | some z =>
    rw [hf] at e
    refine ⟨O, d, z, R, hf, fun H' s => ?_⟩
    cases z with
    | true => exact ⟨O, d, k, R.mono s, e, fun H'' s' => q H'' (s.trans s')⟩
    | false => cases e; exact q H' s
theorem pdw_or {f g : FB} {rest : List Expr} (ha : PDT X a f) (hb : PDW X (.BoolOp .Or (b :: rest) pos) g) : PDW X (.BoolOp .Or (a :: b :: rest) pos) (fOrT f g) := PW.imp (pw_or ha hb) fun σ H Q ⟨O, d, k, R, e, q⟩ => by
  unfold fOrT at e
  cases hf : f d with
  | none => rw [hf] at e; cases e
  | some z =>
    rw [hf] at e
    refine ⟨O, d, z, R, hf, fun H' s => ?_⟩
    cases z with
    | true => cases e; exact q H' s
    | false => exact ⟨O, d, k, R.mono s, e, fun H'' s' => q H'' (s.trans s')⟩
theorem PDW.pdt {f : FB} (h : PDW X e f) : PDT X e f := PW.pt h
def fAnd (fa fb : FD) : FD := fun d => (fa d).bind fun x => match x with | .bl true => fb d | .bl false => some (.bl false) | _ => none
def fOr (fa fb : FD) : FD := fun d => (fa d).bind fun x => match x with | .bl true => some (.bl true) | .bl false => fb d | _ => none
def fNotV (fa : FD) : FD := fun d => (fa d).bind fun x => match x with | .bl b => some (.bl !b) | _ => none
theorem pd_one {op} (h : PD X a f) : PD X (.BoolOp op [a] pos) f := pe_one h
theorem pd_and {rest : List Expr} (ha : PD X a fa) (hb : PD X (.BoolOp .And (b :: rest) pos) fb) : PD X (.BoolOp .And (a :: b :: rest) pos) (fAnd fa fb) := PE.imp (pe_and ha hb) fun σ H Q ⟨O, d, T, R, e, q⟩ => by
  unfold fAnd at e
  cases hf : fa d with
  | none => rw [hf] at e; cases e
  | some x =>
    rw [hf] at e
    refine ⟨O, d, x, R, hf, fun v H' s b => ?_⟩
    cases b with
    | bl z =>
      refine ⟨z, rfl, ?_⟩
      cases z with
      | true => exact ⟨O, d, T, R.mono s, e, fun v' H'' s' b' => q v' H'' (s.trans s') b'⟩
      | false => cases e; exact q _ H' s (.bl false)
    | _ => cases e
theorem pd_or {rest : List Expr} (ha : PD X a fa) (hb : PD X (.BoolOp .Or (b :: rest) pos) fb) : PD X (.BoolOp .Or (a :: b :: rest) pos) (fOr fa fb) := PE.imp (pe_or ha hb) fun σ H Q ⟨O, d, T, R, e, q⟩ => by
  unfold fOr at e
  cases hf : fa d with
  | none => rw [hf] at e; cases e
  | some x =>
    rw [hf] at e
    refine ⟨O, d, x, R, hf, fun v H' s b => ?_⟩
    cases b with
    | bl z =>
      refine ⟨z, rfl, ?_⟩
      cases z with
      | false => exact ⟨O, d, T, R.mono s, e, fun v' H'' s' b' => q v' H'' (s.trans s') b'⟩
      | true => cases e; exact q _ H' s (.bl true)
    | _ => cases e
theorem pd_not (ha : PD X a fa) : PD X (.UnaryOp .Not a pos) (fNotV fa) := PE.imp (pe_not ha) fun σ H Q ⟨O, d, T, R, e, q⟩ => by
  unfold fNotV at e
  cases hf : fa d with
  | none => rw [hf] at e; cases e
  | some x =>
    rw [hf] at e
    refine ⟨O, d, x, R, hf, fun v H' s b => ?_⟩
    cases b with
    | bl z => cases e; exact ⟨z, rfl, q _ H' s (.bl _)⟩
    | _ => cases e
def fIf {α : Type} (c : FB) (f g : Sd → Option α) : Sd → Option α := fun d => (c d).bind fun b => if b = true then f d else g d
theorem pd_if {c : Expr} {fc : FB} (hc : PDT X c fc) (ha : PD X a fa) (hb : PD X b fb) : PD X (.IfExp c a b pos) (fIf fc fa fb) := PE.imp (pe_ifExp hc ha hb) fun σ H Q ⟨O, d, T, R, e, q⟩ => by
  unfold fIf at e
  cases hf : fc d with
  | none => rw [hf] at e; cases e
  | some z =>
    rw [hf] at e
    refine ⟨O, d, z, R, hf, fun H' s => ?_⟩
    cases z with
    | true => exact ⟨O, d, T, R.mono s, e, fun v' H'' s' b' => q v' H'' (s.trans s') b'⟩
    | false => exact ⟨O, d, T, R.mono s, e, fun v' H'' s' b' => q v' H'' (s.trans s') b'⟩
def fChain (g g' : Th → Th → Option Th) (fa fb fc : FD) : FD := fun d => (fa d).bind fun x => (fb d).bind fun y => (g x y).bind fun z => match z with | .bl true => (fc d).bind fun u => g' y u | .bl false => some (.bl false) | _ => none
def fNil : FL := fun _ => some []
def fCons (f : FD) (g : FL) : FL := fun d => (f d).bind fun x => (g d).bind fun xs => some (x :: xs)
theorem fCons_some {f : FD} {g : FL} {d : Sd} {ts : List Th} (h : fCons f g d = some ts) : ∃ x xs, f d = some x ∧ g d = some xs ∧ ts = x :: xs := by
  unfold fCons at h
  cases h1 : f d with
  | none => rw [h1] at h; cases h
  | some x =>
    rw [h1] at h
    cases h2 : g d with
    | none => rw [h2] at h; cases h
    | some y => rw [h2] at h; cases h; exact ⟨x, y, rfl, rfl, rfl⟩
theorem pda_nil : PDA X [] fNil := PA.imp pa_nil fun σ H Q ⟨O, d, T, R, e, q⟩ => by cases e; exact q [] H (Same.refl H) .nil
theorem pda_cons {es : List Expr} {g : FL} (ha : PD X e f) (hr : PDA X es g) (hs : starEach (e :: es) X.env = (false, eval e X.env) :: starEach es X.env := by rfl) : PDA X (e :: es) (fCons f g) := PA.imp (pa_cons ha hr hs) fun σ H Q ⟨O, d, T, R, e, q⟩ => by
  obtain ⟨x, xs, h1, h2, rfl⟩ := fCons_some e
  exact ⟨O, d, x, R, h1, fun v H1 s1 b1 => ⟨O, d, xs, R.mono s1, h2, fun vs H2 s2 b2 => q (v :: vs) H2 (s1.trans s2) (.cons (b1.mono (less_mono s2)) b2)⟩⟩
theorem pba_nil : PBA X [] fNil := PA.imp pa_nil fun σ H Q ⟨O, d, T, R, e, q⟩ => by cases e; exact q [] H (Same.refl H) .nil
theorem pba_cons {es : List Expr} {g : FL} (ha : PB X e f) (hr : PBA X es g) (hs : starEach (e :: es) X.env = (false, eval e X.env) :: starEach es X.env := by rfl) : PBA X (e :: es) (fCons f g) := PA.imp (pa_cons ha hr hs) fun σ H Q ⟨O, d, T, R, e, q⟩ => by
  obtain ⟨x, xs, h1, h2, rfl⟩ := fCons_some e
  exact ⟨O, d, x, R, h1, fun v H1 s1 b1 => ⟨O, d, xs, R.mono s1, h2, fun vs H2 s2 b2 => q (v :: vs) H2 (s1.trans s2) (.cons (b1.mono s2) b2)⟩⟩
def fitL (ts : List Th) : Option (List Th) := if ts.length ≤ 1000000 then some ts else none
theorem fitL_some {ts us : List Th} (h : fitL ts = some us) : us = ts ∧ ts.length ≤ sizeLine := by
  unfold fitL at h
  split at h
  · cases h; exact ⟨rfl, Nat.le_trans ‹_› (by decide)⟩
  · cases h
def fTup (f : FL) : FD := fun d => ((f d).bind fitL).map Th.tup
def fList (f : FL) : FL := fun d => (f d).bind fitL
theorem pd_tup {es : List Expr} {g : FL} {x1} (h : PDA X es g) : PD X (.Tuple es x1 pos) (fTup g) := PE.imp (pe_tup h) fun σ H Q ⟨O, d, T, R, e, q⟩ => by
  unfold fTup at e
  cases hg : g d with
  | none => rw [hg] at e; cases e
  | some ts =>
    rw [hg] at e
    cases hf : fitL ts with
    | none => rw [show (some ts).bind fitL = fitL ts from rfl, hf] at e; cases e
    | some us =>
      rw [show (some ts).bind fitL = fitL ts from rfl, hf] at e
      cases e
      obtain ⟨rfl, hz⟩ := fitL_some hf
      refine ⟨O, d, _, R, hg, fun vs H' s b => ⟨by rw [b.length]; exact hz, fun p hp => q _ _ (s.trans (Same.upd hp)) ?_⟩⟩
      exact .tup (SqT.of (less_of upd_same ((R.mono s).notOwn hp))) (b.mono (less_mono (Same.upd hp)))
theorem pf_list {es : List Expr} {g : FL} (h : PDA X es g) : PF X (.List es pos) (fList g) := PE.imp (pe_lst h) fun σ H Q ⟨O, d, T, R, e, q⟩ => by
  unfold fList at e
  cases hg : g d with
  | none => rw [hg] at e; cases e
  | some ts =>
    rw [hg] at e
    obtain ⟨rfl, hz⟩ := fitL_some e
    refine ⟨O, d, _, R, hg, fun vs H' s b => ⟨by rw [b.length]; exact hz, fun p hp => q _ _ (s.trans (Same.upd hp)) ?_⟩⟩
    exact ⟨p, vs, rfl, s.free hp, upd_same, b.mono (less_new (Same.upd hp) hp)⟩
end
end L2
namespace L2
open PySem PySem.Spec PyProof.Rows
inductive Out where
  | nx (d : Sd) | rt (T : Th) | bk (d : Sd) | ct (d : Sd) | xc (c : Str)
abbrev FS := Sd → Option Out
def RaisesAt (X : Cx) (x : Str) (H : Hp) : Prop := ∀ (pins : List (Addr × Obj)) (σ : St) (s : Shared) (vs : List Value) (h' : Heap) (e C : Addr), Inv X pins σ H s → X.mg x = some (.ref C) → Heap.MadeExcOf s.heap h' e (.ref C) vs → X.xe (.ref e) { s with heap := h' }
def Ends.on (X : Cx) (D : Ends) (f : Addr → Prop) (B : Hp) : Out → Prop
  | .nx d => ∀ σ H O, O.far = f → Same B (low H O) → Rep X.K H O σ d → D.nx σ H
  | .rt T => ∀ v H, Same B H → Bears X.K (less H ⟨[], f⟩) v T → D.rt v H
  | .bk d => ∀ σ H O, O.far = f → Same B (low H O) → Rep X.K H O σ d → D.bk σ H
  | .ct d => ∀ σ H O, O.far = f → Same B (low H O) → Rep X.K H O σ d → D.ct σ H
  | .xc c => ∀ H, Same B H → RaisesAt X c H
def liftS (X : Cx) (F : FS) : TS := fun D σ H => ∃ O d o, Rep X.K H O σ d ∧ F d = some o ∧ D.on X O.far (low H O) o
def PDS (X : Cx) (st : Stmt) (F : FS) : Prop := PS X st (liftS X F)
def PDSs (X : Cx) (sts : List Stmt) (F : FS) : Prop := PSs X sts (liftS X F)
theorem Ends.on.mono {X : Cx} {D : Ends} {f : Addr → Prop} {B B' : Hp} {o : Out} (h : D.on X f B o) (s : Same B B') : D.on X f B' o := by
  cases o with
  | nx d => exact fun σ H O hf s' r => h σ H O hf (s.trans s') r
  | rt T => exact fun v H s' b => h v H (s.trans s') b
  | bk d => exact fun σ H O hf s' r => h σ H O hf (s.trans s') r
  | ct d => exact fun σ H O hf s' r => h σ H O hf (s.trans s') r
  | xc c => exact fun H s' => h H (s.trans s')
theorem less_bare {H : Hp} {O : Hid} : Same (less H O) (less H ⟨[], O.far⟩) := fun b o e => by
  obtain ⟨h1, h2⟩ := of_less e
  exact less_of h1 fun z => z.elim (fun q => by simp at q) fun q => h2 (.inr q)
theorem Lent.out {K : PySem.W.Frag} {H : Hp} {O : Hid} {v : V} {T : Th} (h : Lent K H O v T) : Bears K (less H ⟨[], O.far⟩) v T := by
  rcases h with h | ⟨a, xs, ts, rfl, rfl, e3, hf, h⟩
  · exact h.mono less_bare
  · exact .lst (SqL.of (less_of e3 fun z => z.elim (fun q => by simp at q) hf)) (h.mono less_bare)
section
variable {X : Cx} {e a b : Expr} {st : Stmt} {rest sts : List Stmt} {f : FD} {F G : FS} {pos : Pos}
theorem PS.imp {t t' : TS} (h : PS X st t) (i : ∀ D σ H, t' D σ H → t D σ H) : PS X st t' := fun pins s σ H D I q => h pins s σ H D I (i D σ H q)
theorem PSs.imp {t t' : TS} (h : PSs X sts t) (i : ∀ D σ H, t' D σ H → t D σ H) : PSs X sts t' := fun pins s σ H D I q => h pins s σ H D I (i D σ H q)
def fNext : FS := fun d => some (.nx d)
def fSeq (F G : FS) : FS := fun d => (F d).bind fun o => match o with | .nx d' => G d' | .rt T => some (.rt T) | .bk d' => some (.bk d') | .ct d' => some (.ct d') | .xc c => some (.xc c)
theorem pdss_nil : PDSs X [] fNext := PSs.imp pss_nil fun D σ H ⟨O, d, o, R, e, q⟩ => by cases e; exact q σ H O rfl (Same.refl _) R
theorem pdss_cons (h1 : PDS X st F) (h2 : PDSs X rest G) : PDSs X (st :: rest) (fSeq F G) := PSs.imp (pss_cons h1 h2) fun D σ H ⟨O, d, o, R, e, q⟩ => by
  unfold fSeq at e
  cases hF : F d with
  | none => rw [hF] at e; cases e
  | some o1 =>
    rw [hF] at e
    refine ⟨O, d, o1, R, hF, ?_⟩
    cases o1 with
    | nx d' => exact fun σ' H' O' hf s R' => ⟨O', d', o, R', e, by rw [hf]; exact q.mono s⟩
    | rt T => cases e; exact q
    | bk d' => cases e; exact q
    | xc c => cases e; exact q
    | ct d' => cases e; exact q
theorem pdss_one (h1 : PDS X st F) : PDSs X [st] F := pss_one h1
def fRet (f : FD) : FS := fun d => (f d).map Out.rt
theorem pds_ret (h : PB X e f) : PDS X (.Return (some e) pos) (fRet f) := PS.imp (ps_ret h) fun D σ H ⟨O, d, o, R, e, q⟩ => by
  unfold fRet at e
  cases hf : f d with
  | none => rw [hf] at e; cases e
  | some T =>
    rw [hf] at e
    cases e
    exact ⟨O, d, T, R, hf, fun v H' s b => q v H' ((low_sub H O).trans s) b.out⟩
theorem pds_if {c : Expr} {A B : List Stmt} {fc : FB} (hc : PDT X c fc) (ha : PDSs X A F) (hb : PDSs X B G) : PDS X (.If c A B pos) (fIf fc F G) := PS.imp (ps_if hc ha hb) fun D σ H ⟨O, d, o, R, e, q⟩ => by
  unfold fIf at e
  cases hf : fc d with
  | none => rw [hf] at e; cases e
  | some z =>
    rw [hf] at e
    refine ⟨O, d, z, R, hf, fun H' s => ?_⟩
    cases z with
    | true => exact ⟨O, d, o, R.mono s, e, q.mono (low_mono s)⟩
    | false => exact ⟨O, d, o, R.mono s, e, q.mono (low_mono s)⟩
def fSet (i : Nat) (f : FD) : FS := fun d => (f d).map fun T => .nx (d.set i (some (.th T)))
theorem set_lift {i : Nat} : ∀ D σ H, liftS X (fSet i f) D σ H → tAsg (liftD X.K f) (gName i) D σ H := fun D σ H ⟨O, d, o, R, e, q⟩ => by
  unfold fSet at e
  cases hf : f d with
  | none => rw [hf] at e; cases e
  | some T =>
    rw [hf] at e
    cases e
    exact ⟨O, d, T, R, hf, fun v H' s b => q _ H' O rfl (low_mono s) ((R.mono s).set i b)⟩
theorem pds_set {i : Nat} {x : Str} {pos' : Pos} (hN : X.N.Nodup) (hi : X.N[i]? = some x) (hx : Loc X.env.scope x) (he : PD X e f) (hs : swapsWith e (some (.Name x pos')) pos.line X.env = pure false := by rfl)
    (hf : X.fn x = true ∨ X.env.scope.names.lookup x = some .local := by first | exact .inl rfl | exact .inr rfl | assumption) : PDS X (.Assign [.Name x pos'] e pos) (fSet i f) := PS.imp (ps_set hN hi hx he hs hf) set_lift
def fOwn (i : Nat) (f : FL) : FS := fun d => (f d).map fun ts => .nx (d.set i (some (.own ts)))
theorem Rep.setOwn {K : PySem.W.Frag} {H H' : Hp} {O : Hid} {σ : St} {d : Sd} (r : Rep K H O σ d) (s : Same H H') (i : Nat) {v : V} {ts : List Th} (b : Fresh K H H' O v ts) :
    ∃ a, v = .ref a ∧ H a = none ∧ Rep K H' (O.cons i a) (σ.set i (some v)) (d.set i (some (.own ts))) := by
  obtain ⟨a, xs, rfl, e2, e3, b⟩ := b
  refine ⟨a, rfl, e2, ?_⟩
  have nf : ¬ O.has a := r.notOwn e2
  have sub : Same (less H O) (less H' (O.cons i a)) := less_new s e2
  exact {
    len := by rw [List.length_set, List.length_set]; exact r.len
    th := fun j U e => by
      by_cases hj : i = j
      · subst hj
        have hi : i < d.length := by
          have := (List.getElem?_eq_some_iff.mp e).1
          simpa using this
        rw [List.getElem?_set_self hi] at e
        cases e
      · rw [List.getElem?_set_ne hj] at e
        obtain ⟨w, h1, h2⟩ := r.th j U e
        exact ⟨w, by rw [List.getElem?_set_ne hj]; exact h1, h2.mono sub⟩
    own := fun j us e => by
      by_cases hj : i = j
      · subst hj
        have hi : i < d.length := by
          have := (List.getElem?_eq_some_iff.mp e).1
          simpa using this
        rw [List.getElem?_set_self hi] at e
        cases e
        exact ⟨a, xs, List.mem_cons_self, List.getElem?_set_self (by rw [← r.len]; exact hi), e3, fun z => nf (.inr z), by rw [less_cons_any (j := 0)]; exact b⟩
      · rw [List.getElem?_set_ne hj] at e
        obtain ⟨a', xs', h1, h2, h3, h4, h5⟩ := r.own j us e
        exact ⟨a', xs', List.mem_cons_of_mem _ h1, by rw [List.getElem?_set_ne hj]; exact h2, s _ _ h3, h4, h5.mono sub⟩
    there := fun p hp => by
      rcases has_cons hp with rfl | hp
      · exact ⟨_, e3⟩
      · obtain ⟨o, e⟩ := r.there p hp
        exact ⟨o, s _ _ e⟩
    exc := fun j c e => by
      by_cases hj : i = j
      · subst hj
        have hi : i < d.length := by
          have := (List.getElem?_eq_some_iff.mp e).1
          simpa using this
        rw [List.getElem?_set_self hi] at e
        cases e
      · rw [List.getElem?_set_ne hj] at e
        obtain ⟨a', C, h1, h2, h3⟩ := r.exc j c e
        exact ⟨a', C, by rw [List.getElem?_set_ne hj]; exact h1, h2, sub _ _ h3⟩
    dct := fun j fz kvs e => by
      by_cases hj : i = j
      · subst hj
        rw [List.getElem?_set_self (by simpa using (List.getElem?_eq_some_iff.mp e).1)] at e
        cases e
      · rw [List.getElem?_set_ne hj] at e
        obtain ⟨a', h1, h2, h3, h4⟩ := r.dct j fz kvs e
        exact ⟨a', List.mem_cons_of_mem _ h1, by rw [List.getElem?_set_ne hj]; exact h2, h3.mono (s a'), h4⟩
    inj := fun j k p h1 h2 => by
      have h1 : (j, p) ∈ (i, a) :: O.own := h1
      have h2 : (k, p) ∈ (i, a) :: O.own := h2
      have no : ∀ m, (m, a) ∉ O.own := fun m z => nf (.inl (List.mem_map.mpr ⟨_, z, rfl⟩))
      rcases List.mem_cons.mp h1 with q1 | q1
      · rcases List.mem_cons.mp h2 with q2 | q2
        · cases q1; cases q2; rfl
        · cases q1; exact absurd q2 (no _)
      · rcases List.mem_cons.mp h2 with q2 | q2
        · cases q2; exact absurd q1 (no _)
        · exact r.inj j k p q1 q2 }
theorem own_lift {i : Nat} {f : FL} : ∀ D σ H, liftS X (fOwn i f) D σ H → tAsg (liftF X.K f) (gName i) D σ H := fun D σ H ⟨O, d, o, R, e, q⟩ => by
  unfold fOwn at e
  cases hf : f d with
  | none => rw [hf] at e; cases e
  | some T =>
    rw [hf] at e
    cases e
    refine ⟨O, d, T, R, hf, fun v H' s b => ?_⟩
    obtain ⟨a, rfl, hn, R'⟩ := R.setOwn s i b
    exact q _ H' (O.cons i a) rfl (low_new s hn) R'
theorem pds_own {i : Nat} {f : FL} {x : Str} {pos' : Pos} (hN : X.N.Nodup) (hi : X.N[i]? = some x) (hx : Loc X.env.scope x) (he : PF X e f) (hs : swapsWith e (some (.Name x pos')) pos.line X.env = pure false := by rfl)
    (hf : X.fn x = true ∨ X.env.scope.names.lookup x = some .local := by first | exact .inl rfl | exact .inr rfl | assumption) : PDS X (.Assign [.Name x pos'] e pos) (fOwn i f) := PS.imp (ps_set hN hi hx he hs hf) own_lift
def fAppend (i : Nat) (f : FD) : FS := fun d => match d[i]? with
  | some (some (.own ts)) => (f d).bind fun T => if ts.length < 1000000 then some (.nx (d.set i (some (.own (ts ++ [T]))))) else none
  | _ => none
theorem Rep.append {K : PySem.W.Frag} {H : Hp} {O : Hid} {σ : St} {d : Sd} (r : Rep K H O σ d) {i : Nat} {ts : List Th} (hd : d[i]? = some (some (.own ts))) {a : Addr} {xs : List V} (ha : (i, a) ∈ O.own) (hs : σ[i]? = some (some (.ref a))) (hx : H a = some (.lst xs)) (hf : ¬ O.far a) (hb : BearsL K (less H O) xs ts)
    {v : V} {T : Th} (b : Bears K (less H O) v T) : Rep K (upd H a (.lst (xs ++ [v]))) O σ (d.set i (some (.own (ts ++ [T])))) ∧ Same (low H O) (low (upd H a (.lst (xs ++ [v]))) O) := by
  have hm : a ∈ O.own.map (·.2) := List.mem_map.mpr ⟨_, ha, rfl⟩
  have sub : Same (less H O) (less (upd H a (.lst (xs ++ [v]))) O) := fun p o e => by
    obtain ⟨h1, h2⟩ := of_less e
    refine less_of ?_ h2
    have np : p ≠ a := fun z => h2 (.inl (by rw [z]; exact hm))
    rw [upd_ne np]; exact h1
  refine ⟨{ len := by rw [List.length_set]; exact r.len, th := fun j U e => ?_, own := fun j us e => ?_, there := fun p hp => ?_, inj := r.inj, exc := fun j c e => ?_, dct := fun j fz kvs e => ?_ }, fun p o e => ?_⟩
  · by_cases hj : i = j
    · subst hj
      have hi : i < d.length := (List.getElem?_eq_some_iff.mp hd).1
      rw [List.getElem?_set_self hi] at e
      cases e
    · rw [List.getElem?_set_ne hj] at e
      obtain ⟨w, h1, h2⟩ := r.th j U e
      exact ⟨w, h1, h2.mono sub⟩
  · by_cases hj : i = j
    · subst hj
      have hi : i < d.length := (List.getElem?_eq_some_iff.mp hd).1
      rw [List.getElem?_set_self hi] at e
      cases e
      exact ⟨a, _, ha, hs, upd_same, hf, (hb.append (.cons b .nil)).mono sub⟩
    · rw [List.getElem?_set_ne hj] at e
      obtain ⟨a', xs', h1, h2, h3, h4, h5⟩ := r.own j us e
      refine ⟨a', xs', h1, h2, ?_, h4, h5.mono sub⟩
      have np : a' ≠ a := fun z => hj (r.inj i j a ha (by rw [← z]; exact h1))
      rw [upd_ne np]; exact h3
  · by_cases hp' : p = a
    · subst hp'; exact ⟨_, upd_same⟩
    · obtain ⟨o, e⟩ := r.there p hp
      exact ⟨o, by rw [upd_ne hp']; exact e⟩
  · by_cases hj : i = j
    · subst hj
      have hi : i < d.length := (List.getElem?_eq_some_iff.mp hd).1
      rw [List.getElem?_set_self hi] at e
      cases e
    · rw [List.getElem?_set_ne hj] at e
      obtain ⟨a', C, h1, h2, h3⟩ := r.exc j c e
      exact ⟨a', C, h1, h2, sub _ _ h3⟩
  · by_cases hj : i = j
    · subst hj
      rw [List.getElem?_set_self (by simpa using (List.getElem?_eq_some_iff.mp e).1)] at e
      cases e
    · rw [List.getElem?_set_ne hj] at e
      obtain ⟨a', h1, h2, h3, h4⟩ := r.dct j fz kvs e
      have np : a' ≠ a := fun z => hj (r.inj i j a ha (by rw [← z]; exact h1))
      exact ⟨a', h1, h2, h3.mono fun o q => by rw [upd_ne np]; exact q, h4⟩
  · obtain ⟨h1, h2⟩ := of_low e
    refine low_of ?_ h2
    have np : p ≠ a := fun z => h2 (by rw [z]; exact hm)
    rw [upd_ne np]; exact h1
theorem pds_append {i : Nat} {o : Expr} {apos cpos : Pos} (ho : PE X o (tVar i)) (he : PD X e f) (hbase : attributeBase o "append" X.env (eval o X.env) = eval o X.env := by rfl)
    (hfew : ((backTo cpos (starEach [e] X.env)).all (fun x => !x.1) && (backToKw cpos (keywordEach [] X.env)).all (fun x => x.1.isSome)
      && decide (([e] : List Expr).length + ([] : List Keyword).length + (if ([] : List Keyword).isEmpty then 0 else 1) < 30)) = true := by rfl)
    (hline : (apos.endLine == cpos.line) = true := by rfl) (hs : starEach [e] X.env = (false, eval e X.env) :: starEach [] X.env := by rfl) (hplain : (backTo cpos (starEach ([] : List Expr) X.env)).any (·.1) = false := by rfl)
    (hsw : swapsWith (.Call (.Attribute o "append" apos) [e] [] cpos) none pos.line X.env = pure false := by rfl) :
    PDS X (.Expr (.Call (.Attribute o "append" apos) [e] [] cpos) pos) (fAppend i f) :=
  PS.imp (ps_expr (pe_bm PySem.F.plainAttrs_list PySem.F.slot_list_append PySem.F.type_list_append mt_append ho (pa_cons he pa_nil hs) hbase hfew hline hs hplain) hsw) fun D σ H ⟨O, d, o, R, e, q⟩ => by
    unfold fAppend at e
    split at e
    · rename_i ts hd
      cases hf : f d with
      | none => rw [hf] at e; cases e
      | some T =>
        rw [hf] at e
        obtain ⟨a, xs, h1, h2, h3, h4, h5⟩ := R.own i ts hd
        change (if ts.length < 1000000 then _ else _) = _ at e
        split at e
        · rename_i hz
          cases e
          refine ⟨_, h2, .inl ⟨rfl, xs, SqL.of h3⟩, O, d, T, R, hf, fun v H' s b => ⟨a, xs, v, rfl, rfl, s _ _ h3, by rw [h5.length]; exact Nat.lt_of_lt_of_le hz (by decide), ?_⟩⟩
          obtain ⟨R', s'⟩ := (R.mono s).append hd h1 h2 (s _ _ h3) h4 (h5.mono (less_mono s)) b
          exact q σ _ O rfl ((low_mono s).trans s') R'
        · cases e
    · cases e
abbrev FG := Th → Sd → Option Sd
def liftG (K : PySem.W.Frag) (g : FG) : TG := fun v σ H Q => ∃ O d T d', Rep K H O σ d ∧ Bears K (less H O) v T ∧ g T d = some d' ∧ ∀ σ', Rep K H O σ' d' → Q σ' H
def PDG (X : Cx) (tg : Expr) (g : FG) : Prop := PG X tg (liftG X.K g)
theorem PG.imp {tg : Expr} {t t' : TG} (h : PG X tg t) (i : ∀ v σ H Q, t' v σ H Q → t v σ H Q) : PG X tg t' := fun pins s σ H v u Q I r q => h pins s σ H v u Q I r (i v σ H Q q)
def gVar (i : Nat) : FG := fun T d => some (d.set i (some (.th T)))
def gPair (i j : Nat) : FG := fun T d => match T with | .tup [x, y] => some ((d.set i (some (.th x))).set j (some (.th y))) | _ => none
theorem pdg_var {i : Nat} {x : Str} (hN : X.N.Nodup) (hi : X.N[i]? = some x) (hx : Loc X.env.scope x) (hf : X.fn x = true ∨ X.env.scope.names.lookup x = some .local := by first | exact .inl rfl | exact .inr rfl | assumption) : PDG X (.Name x pos) (gVar i) :=
  PG.imp (pg_name hN hi hx hf) fun v σ H Q ⟨O, d, T, d', R, b, e, q⟩ => by cases e; exact q _ (R.set i b)
theorem BearsL.two {K : PySem.W.Frag} {H : Hp} {xs : List V} {x y : Th} (h : BearsL K H xs [x, y]) : ∃ v w, xs = [v, w] ∧ Bears K H v x ∧ Bears K H w y := by
  cases h with
  | cons h1 r => cases r with
    | cons h2 r2 => cases r2; exact ⟨_, _, rfl, h1, h2⟩
theorem pdg_pair {i j : Nat} {x y : Str} {px py : Pos} {k : Nat} (hc : X.calm = true) (hN : X.N.Nodup) (hi : X.N[i]? = some x) (hj : X.N[j]? = some y) (hx : Loc X.env.scope x) (hy : Loc X.env.scope y)
    (h : PG X (.Tuple [.Name x px, .Name y py] k pos) (gTup X.K 2 (gCons (gName i) (gCons (gName j) gNil)))) : PDG X (.Tuple [.Name x px, .Name y py] k pos) (gPair i j) :=
  PG.imp h fun v σ H Q ⟨O, d, T, d', R, b, e, q⟩ => by
    unfold gPair at e
    split at e
    · cases e
      cases b with
      | tup e' b' =>
        obtain ⟨v1, v2, rfl, b1, b2⟩ := b'.two
        exact ⟨_, _, rfl, (less_sub H O).seqT e', rfl, v1, _, rfl, v2, _, rfl, rfl, q _ ((R.set i b1).set j b2)⟩
    · cases e
structure ItOk (K : PySem.W.Frag) (J : It) (B : Hp) (f : Addr → Prop) (ts : List Th) : Prop where
  go : ∀ i H, Same B H → i < ts.length → J.go i H
  stop : ∀ H, Same B H → J.stop ts.length H
  yld : ∀ i H O x H', i < ts.length → O.far = f → Same B (low H O) → (∀ p, H p = none → ¬ O.has p) → J.yld i H x H' → Same H H' ∧ ∃ T, ts[i]? = some T ∧ Bears K (less H' O) x T
def liftI (K : PySem.W.Frag) (f : FL) : TI := fun σ H R => ∃ O d ts, Rep K H O σ d ∧ f d = some ts ∧ ∀ J H', Same H H' → ItOk K J (low H' O) O.far ts → R J H'
def PDI (X : Cx) (tg iter : Expr) (f : FL) : Prop := PI X tg iter (liftI X.K f)
theorem PI.imp {tg iter : Expr} {t t' : TI} (h : PI X tg iter t) (i : ∀ σ H R, t' σ H R → t σ H R) : PI X tg iter t' := fun pins s σ H R I q => h pins s σ H R I (i σ H R q)
def forL (g : FG) (F : FS) : List Th → Sd → Option Out
  | [], d => some (.nx d)
  | t :: r, d => (g t d).bind fun d1 => (F d1).bind fun o => match o with | .nx d' => forL g F r d' | .ct d' => forL g F r d' | .bk d' => some (.nx d') | .rt T => some (.rt T) | .xc c => some (.xc c)
def fFor (fi : FL) (g : FG) (F : FS) : FS := fun d => (fi d).bind fun ts => forL g F ts d
theorem pds_for {tg iter : Expr} {body : List Stmt} {fi : FL} {g : FG} (hp : PassesOwn (model X.prog X.w) X.A X.env X.xe) (hc : X.calm = true) (hi : PDI X tg iter fi) (hg : PDG X tg g) (hb : PDSs X body F)
    (hs : ∀ x, foldedSetIterable iter X.env x = pure x := by intro _; rfl) : PDS X (.For tg iter body [] pos) (fFor fi g F) := PS.imp (ps_for hp hc hi hg hb hs) fun D σ H ⟨O, d, o, R, e, q⟩ => by
  unfold fFor at e
  cases hfi : fi d with
  | none => rw [hfi] at e; cases e
  | some ts =>
    rw [hfi] at e
    change forL g F ts d = some o at e
    refine ⟨O, d, ts, R, hfi, fun J H1 s1 ok => ⟨fun i m σ' H' => m = ts.length - i ∧ i ≤ ts.length ∧ ∃ O' d', O'.far = O.far ∧ Rep X.K H' O' σ' d' ∧ Same (low H1 O) (low H' O') ∧ forL g F (ts.drop i) d' = some o, ⟨ts.length, rfl, Nat.zero_le _, O, d, rfl, R.mono s1, Same.refl _, e⟩, ?_⟩⟩
    rintro i m σ' H' ⟨rfl, hi, O', d', hf', R', s', e'⟩
    have sB : Same (low H1 O) H' := s'.trans (low_sub H' O')
    by_cases hlt : i < ts.length
    · rw [List.drop_eq_getElem_cons hlt] at e'
      unfold forL at e'
      cases hgd : g ts[i] d' with
      | none => rw [hgd] at e'; cases e'
      | some d1 =>
        rw [hgd] at e'
        change ((F d1).bind _) = _ at e'
        cases hF : F d1 with
        | none => rw [hF] at e'; cases e'
        | some o1 =>
          rw [hF] at e'
          refine .inr ⟨ok.go i H' sB hlt, fun σ2 H2 => ∃ O2 d2, O2.far = O.far ∧ Rep X.K H2 O2 σ2 d2 ∧ Same (low H1 O) (low H2 O2) ∧ forL g F (ts.drop (i + 1)) d2 = some o, fun σ2 H2 ⟨O2, d2, h1, h2, h3, h4⟩ => ⟨ts.length - (i + 1), by omega, rfl, hlt, O2, d2, h1, h2, h3, h4⟩, fun x Hx hy => ?_⟩
          obtain ⟨sx, T, hT, bx⟩ := ok.yld i H' O' x Hx hlt hf' s' (fun p hp => R'.notOwn hp) hy
          rw [List.getElem?_eq_getElem hlt] at hT
          cases hT
          refine ⟨O', d', _, d1, R'.mono sx, bx, hgd, fun σ1 R1 => ⟨O', d1, o1, R1, hF, ?_⟩⟩
          have sx' : Same (low H1 O) (low Hx O') := s'.trans (low_mono sx)
          cases o1 with
          | nx d2 => exact fun σ2 H2 O2 hf2 s2 R2 => ⟨O2, d2, hf2.trans hf', R2, sx'.trans s2, e'⟩
          | ct d2 => exact fun σ2 H2 O2 hf2 s2 R2 => ⟨O2, d2, hf2.trans hf', R2, sx'.trans s2, e'⟩
          | bk d2 => cases e'; exact fun σ2 H2 O2 hf2 s2 R2 => q σ2 H2 O2 (hf2.trans hf') (((low_mono s1).trans sx').trans s2) R2
          | xc c => cases e'; exact fun H2 s2 => q H2 (((low_mono s1).trans sx').trans s2)
          | rt T2 => cases e'; rw [hf']; exact fun v H2 s2 b2 => q v H2 (((low_mono s1).trans sx').trans s2) b2
    · have e1 : i = ts.length := by omega
      subst e1
      rw [List.drop_length] at e'
      cases e'
      exact .inl ⟨ok.stop H' sB, q σ' H' O' hf' ((low_mono s1).trans s') R'⟩
end
end L2
namespace L2
open PySem PySem.Spec PyProof.Rows
def Its (x : Str) : It := ⟨fun i _ => i < x.cps.size, fun i H v H' => H' = H ∧ ∃ c, x.cps[i]? = some c ∧ v = .str ⟨#[c]⟩, fun i _ => i = x.cps.size⟩
theorem striter_walks {prog : Program} {w : World} {A : Around} (hh : A.handled = none) (I : Addr) (x : Str) (t : Tok) :
    Walks prog w A I [I] [I] x.cps.size (SignAt x) (fun i h => h.IsStrIter I (strIterType x) x t i) := by
  cases ha : x.cps.all (· < 128)
  · have e : strIterType x = "str_iterator" := by simp [strIterType, ha]
    rw [e]; exact Walks.strWide hh I x t
  · have e : strIterType x = "str_ascii_iterator" := by simp [strIterType, ha]
    rw [e]; exact Walks.strAscii hh I x t
theorem striter_self {prog : Program} {w : World} {A : Around} {E : Value → Shared → Prop} {s : Shared} {I : Addr} {x : Str} {t : Tok} {i : Nat} {Q : Value → Shared → Prop} (h : s.heap.IsStrIter I (strIterType x) x t i) (q : Q (.ref I) s) : wpAny (model prog w) A (pyIter (.ref I)) Q E s := by
  cases ha : x.cps.all (· < 128)
  · have e : strIterType x = "str_iterator" := by simp [strIterType, ha]
    rw [e] at h; exact wpAny_pyIter_striter_wide h q
  · have e : strIterType x = "str_ascii_iterator" := by simp [strIterType, ha]
    rw [e] at h; exact wpAny_pyIter_striter_ascii h q
theorem turn_str {P : Program} {w : World} {K : PySem.W.Frag} {y : Str} {py : Pos} (x : Str) (t : Tok) (it : Addr) : Turn P w K (.Name y py) (Its x) [it] it (fun i h => h.IsStrIter it (strIterType x) x t i) where
  mem := by simp
  obj := fun i h st b hb => by
    have e : b = it := by simpa using hb
    subst e
    obtain ⟨o, e, c, d⟩ := st
    exact ⟨o, e, fun v z => by rw [d] at z; cases z⟩
  keep := fun i h h' st k => by
    obtain ⟨o, e, r⟩ := st
    exact ⟨o, k it (by simp) o e, r⟩
  item := by
    intro X hP hw hK hc i pins s σ H E I hf st hg
    subst hP hw hK
    obtain ⟨f0, f1, f2, f3, f4, f5⟩ := hf it (by simp)
    refine (striter_walks (I.ok.hd hc) it x t).item i s _ _ hg st fun v h' tk hv st' kk => ?_
    obtain ⟨c, u, hcc, rfl⟩ := hv
    have I1 : Inv X pins σ H { s with heap := h', toks := tk } := I.turned (fun b o hb e => kk b o (by simpa using hb) e) f0 f1 f3 f4 f5
    exact ⟨_, rfl, wpAny_pure ⟨.str ⟨#[c]⟩, H, I1, ⟨u, rfl⟩, ⟨rfl, c, hcc, rfl⟩, st', fun b hb => (hf b hb).1⟩⟩
  done := by
    intro X hP hw hK hc i pins s σ H E I hf st hg
    subst hP hw hK
    obtain ⟨f0, f1, f2, f3, f4, f5⟩ := hf it (by simp)
    have hg' : i = x.cps.size := hg
    subst hg'
    exact (striter_walks (I.ok.hd hc) it x t).done s _ _ st fun h' tk kk => ⟨rfl, I.turned (fun b o hb e => kk b o (by simpa using hb) e) f0 f1 f3 f4 f5⟩
  self := fun _ _ _ _ _ st h => striter_self st h
def iStr (tl : TE) : TI := fun σ H R => tl σ H fun v H1 => ∃ x, v = .str x ∧ R (Its x) H1
theorem pi_str {X : Cx} {y : Str} {py : Pos} {l : Expr} {tl : TE} (hl : PE X l tl) : PI X (.Name y py) l (iStr tl) := by
  intro pins s σ H R I h
  refine thn (hl pins s σ H _ I h) fun v s1 ⟨x, H1, I1, r1, q1⟩ => ?_
  obtain ⟨z, rfl, q⟩ := q1
  obtain ⟨t, rfl⟩ := r1
  refine wpAny_pyIter_strU ?_
  refine ⟨s1.heap.objs.size, [s1.heap.objs.size], _, _, H1, rfl, I1.kept (t' := s1.toks) fun b o e => Heap.get?_push_of_some _ e, turn_str z t _, ⟨_, Heap.get?_push_size _ rfl, rfl, rfl⟩, fun b hb => ?_, q⟩
  have e : b = s1.heap.objs.size := by simpa using hb
  subst e
  exact I1.fpOk (Nat.le_refl _) (I1.hok.fresh (Nat.le_refl _))
theorem PI.or {X : Cx} {tg l : Expr} {t t' : TI} (h : PI X tg l t) (h' : PI X tg l t') : PI X tg l (fun σ H R => t σ H R ∨ t' σ H R) := fun pins s σ H R I q => q.elim (h pins s σ H R I) (h' pins s σ H R I)
def signs (x : Str) : List Th := x.cps.toList.map fun c => .str ⟨#[c]⟩
def itemsOf : Th → Option (List Th)
  | .lst ts => some ts
  | .tup ts => some ts
  | .str x => some (signs x)
  | _ => none
def fItems (f : FD) : FL := fun d => (f d).bind itemsOf
section
variable {X : Cx} {tg l : Expr} {f : FD} {K : PySem.W.Frag}
theorem itok_list {H : Hp} {O : Hid} {a : Addr} {xs : List V} {ts : List Th} (h : SqL K (less H O) a xs) (b : BearsL K (less H O) xs ts) : ItOk K (Itl K a) (low H O) O.far ts where
  go := fun i H' s hi => by
    have hl : SqL K H' a xs := by
      rcases h with (h | ⟨o, h⟩) | h
      · exact .inl (.inl (s _ _ (low_of (of_less h).1 fun z => (of_less h).2 (.inl z))))
      · exact .inl (.inr ⟨o, s _ _ (low_of (of_less h).1 fun z => (of_less h).2 (.inl z))⟩)
      · exact .inr h
    have hi' : i < xs.length := by rw [b.length]; exact hi
    exact ⟨xs, xs[i], hl, by simp [hi']⟩
  stop := fun H' s => by
    have hl : SqL K H' a xs := by
      rcases h with (h | ⟨o, h⟩) | h
      · exact .inl (.inl (s _ _ (low_of (of_less h).1 fun z => (of_less h).2 (.inl z))))
      · exact .inl (.inr ⟨o, s _ _ (low_of (of_less h).1 fun z => (of_less h).2 (.inl z))⟩)
      · exact .inr h
    exact ⟨xs, hl, by rw [b.length]; exact Nat.le_refl _⟩
  yld := fun i H' O' x H'' hi hf s _ y => by
    obtain ⟨e, y⟩ := y
    subst e
    have sl : Same (less H O) (less H'' O') := low_less s hf
    have hx := y xs ((less_sub H'' O').seq (sl.seq h))
    obtain ⟨T, h1, h2⟩ := b.got hx
    exact ⟨Same.refl _, T, h1, h2.mono sl⟩
theorem itok_tup {H : Hp} {O : Hid} {a : Addr} {xs : List V} {ts : List Th} (h : SqT K (less H O) a xs) (b : BearsL K (less H O) xs ts) : ItOk K (Itt K a) (low H O) O.far ts where
  go := fun i H' s hi => by
    have hl : SqT K H' a xs := by
      rcases h with (h | ⟨o, h⟩) | h
      · exact .inl (.inl (s _ _ (low_of (of_less h).1 fun z => (of_less h).2 (.inl z))))
      · exact .inl (.inr ⟨o, s _ _ (low_of (of_less h).1 fun z => (of_less h).2 (.inl z))⟩)
      · exact .inr h
    have hi' : i < xs.length := by rw [b.length]; exact hi
    exact ⟨xs, xs[i], hl, by simp [hi']⟩
  stop := fun H' s => by
    have hl : SqT K H' a xs := by
      rcases h with (h | ⟨o, h⟩) | h
      · exact .inl (.inl (s _ _ (low_of (of_less h).1 fun z => (of_less h).2 (.inl z))))
      · exact .inl (.inr ⟨o, s _ _ (low_of (of_less h).1 fun z => (of_less h).2 (.inl z))⟩)
      · exact .inr h
    exact ⟨xs, hl, by rw [b.length]; exact Nat.le_refl _⟩
  yld := fun i H' O' x H'' hi hf s _ y => by
    obtain ⟨e, y⟩ := y
    subst e
    have sl : Same (less H O) (less H'' O') := low_less s hf
    have hx := y xs ((less_sub H'' O').seqT (sl.seqT h))
    obtain ⟨T, h1, h2⟩ := b.got hx
    exact ⟨Same.refl _, T, h1, h2.mono sl⟩
theorem itok_str {H : Hp} {O : Hid} (x : Str) : ItOk K (Its x) (low H O) O.far (signs x) where
  go := fun i H' s hi => by
    show i < x.cps.size
    simpa [signs] using hi
  stop := fun H' s => by
    show (signs x).length = x.cps.size
    simp [signs]
  yld := fun i H' O' v H'' hi hf s _ y => by
    obtain ⟨e, c, hc, e2⟩ := y
    subst e e2
    refine ⟨Same.refl _, .str ⟨#[c]⟩, ?_, .str _⟩
    have hc' : x.cps.toList[i]? = some c := by simpa using hc
    simp only [signs, List.getElem?_map, hc', Option.map_some]
theorem pdi_any {y : Str} {py : Pos} (h : PD X l f) : PDI X (.Name y py) l (fItems f) := PI.imp ((pi_list h).or ((pi_tup h).or (pi_str h))) fun σ H R ⟨O, d, ts, r, e, q⟩ => by
  unfold fItems at e
  cases hf : f d with
  | none => rw [hf] at e; cases e
  | some T =>
    rw [hf] at e
    change itemsOf T = some ts at e
    cases T with
    | lst us => cases e; exact .inl ⟨O, d, _, r, hf, fun v H' s b => by cases b with | lst e' b' => exact ⟨_, rfl, ⟨_, (less_sub H' O).seq e'⟩, q _ H' s (itok_list e' b')⟩⟩
    | tup us => cases e; exact .inr (.inl ⟨O, d, _, r, hf, fun v H' s b => by cases b with | tup e' b' => exact ⟨_, rfl, ⟨_, (less_sub H' O).seqT e'⟩, q _ H' s (itok_tup e' b')⟩⟩)
    | str x => cases e; exact .inr (.inr ⟨O, d, _, r, hf, fun v H' s b => by cases b; exact ⟨x, rfl, q _ H' s (itok_str x)⟩⟩)
    | _ => cases e
def fSeqI (f : FD) : FL := fun d => (f d).bind fun T => match T with | .lst ts => some ts | .tup ts => some ts | _ => none
theorem pdi_seq (h : PD X l f) : PDI X tg l (fSeqI f) := PI.imp ((pi_list h).or (pi_tup h)) fun σ H R ⟨O, d, ts, r, e, q⟩ => by
  unfold fSeqI at e
  cases hf : f d with
  | none => rw [hf] at e; cases e
  | some T =>
    rw [hf] at e
    cases T with
    | lst us => cases e; exact .inl ⟨O, d, _, r, hf, fun v H' s b => by cases b with | lst e' b' => exact ⟨_, rfl, ⟨_, (less_sub H' O).seq e'⟩, q _ H' s (itok_list e' b')⟩⟩
    | tup us => cases e; exact .inr ⟨O, d, _, r, hf, fun v H' s b => by cases b with | tup e' b' => exact ⟨_, rfl, ⟨_, (less_sub H' O).seqT e'⟩, q _ H' s (itok_tup e' b')⟩⟩
    | _ => cases e
def upTo (n : Nat) : List Th := (List.range n).map fun (k : Nat) => Th.int ((k : Nat) : Int)
theorem itok_range {H : Hp} {O : Hid} (n : Nat) : ItOk K (Itr 0 n) (low H O) O.far (upTo n) where
  go := fun i H' s hi => by
    show i < n
    simpa [upTo] using hi
  stop := fun H' s => by
    show n ≤ (upTo n).length
    simp [upTo]
  yld := fun i H' O' v H'' hi hf s _ y => by
    obtain ⟨e, e2⟩ := y
    subst e e2
    refine ⟨Same.refl _, .int (0 + i), ?_, .int _⟩
    have hi' : i < n := by simpa [upTo] using hi
    simp [upTo, hi']
def fRange1 (f : FD) : FL := fun d => (f d).bind fun T => match T with | .int j => if j ≤ 1000000 ∧ -1000000 ≤ j then some (upTo j.toNat) else none | _ => none
theorem pdi_range1 {a : Expr} {p pos : Pos} (hg : Gl X "range") (hm : X.mg "range" = none) (ha : PD X a f) (hs : starEach [a] X.env = [(false, eval a X.env)] := by rfl) (hs1 : starEach [a] X.env = (false, eval a X.env) :: starEach [] X.env := by rfl) : PDI X tg (.Call (.Name "range" p) [a] [] pos) (fRange1 f) :=
  PI.imp (pi_range1 hg hm (pa_cons ha pa_nil hs1) hs) fun σ H R ⟨O, d, ts, r, e, q⟩ => by
    unfold fRange1 at e
    cases hf : f d with
    | none => rw [hf] at e; cases e
    | some T =>
      rw [hf] at e
      cases T with
      | int j =>
        change (if j ≤ 1000000 ∧ -1000000 ≤ j then _ else _) = _ at e
        split at e
        · rename_i hj
          cases e
          exact ⟨O, d, .int j, r, hf, fun v H' s b => by
            cases b
            exact ⟨j, rfl, by omega, by omega, q _ H' s (itok_range _)⟩⟩
        · cases e
      | _ => cases e
theorem Rep.shift {H : Hp} {O : Hid} {σ : St} {d : Sd} (r : Rep K H O σ d) (pre : List (Option V)) (pd : List (Option Dv)) (hl : pd.length = pre.length) (hp : ∀ (i : Nat) (T : Th), pd[i]? = some (some (Dv.th T)) → ∃ v, pre[i]? = some (some v) ∧ Bears K (less H O) v T) (hn : (∀ (i : Nat) (ts : List Th), pd[i]? ≠ some (some (Dv.own ts))) ∧ (∀ (i : Nat) (c : Str), pd[i]? ≠ some (some (Dv.exc c))) ∧ ∀ (i : Nat) (fz : Bool) (kvs : List (Str × Th)), pd[i]? ≠ some (some (Dv.dct fz kvs))) :
    Rep K H ⟨O.own.map fun p => (pre.length + p.1, p.2), O.far⟩ (pre ++ σ) (pd ++ d) ∧ less H ⟨O.own.map fun p => (pre.length + p.1, p.2), O.far⟩ = less H O := by
  have hh : ∀ b, Hid.has ⟨O.own.map fun p => (pre.length + p.1, p.2), O.far⟩ b ↔ O.has b := fun b => by
    unfold Hid.has
    simp only [List.map_map]
    rfl
  have hle : less H ⟨O.own.map fun p => (pre.length + p.1, p.2), O.far⟩ = less H O := by
    funext b
    unfold less
    by_cases z : O.has b
    · rw [if_pos z, if_pos ((hh b).mpr z)]
    · rw [if_neg z, if_neg (fun q => z ((hh b).mp q))]
  refine ⟨{ len := by rw [List.length_append, List.length_append, hl, r.len], th := fun i T e => ?_, own := fun i ts e => ?_, there := fun a h => r.there a ((hh a).mp h), inj := fun i j a h1 h2 => ?_, exc := fun i c e => ?_, dct := fun i fz kvs e => ?_ }, hle⟩
  · rw [hle]
    by_cases hi : i < pd.length
    · rw [List.getElem?_append_left hi] at e
      obtain ⟨v, h1, h2⟩ := hp i T e
      exact ⟨v, by rw [List.getElem?_append_left (by omega)]; exact h1, h2⟩
    · rw [List.getElem?_append_right (by omega)] at e
      obtain ⟨v, h1, h2⟩ := r.th _ T e
      exact ⟨v, by rw [List.getElem?_append_right (by omega), ← hl]; exact h1, h2⟩
  · rw [hle]
    by_cases hi : i < pd.length
    · rw [List.getElem?_append_left hi] at e
      exact absurd e (hn.1 i ts)
    · rw [List.getElem?_append_right (by omega)] at e
      obtain ⟨a, xs, h1, h2, h3, h4, h5⟩ := r.own _ ts e
      refine ⟨a, xs, List.mem_map.mpr ⟨_, h1, ?_⟩, by rw [List.getElem?_append_right (by omega), ← hl]; exact h2, h3, h4, h5⟩
      simp only [Prod.mk.injEq, and_true]
      omega
  · obtain ⟨p, hp1, e1⟩ := List.mem_map.mp h1
    obtain ⟨q, hq1, e2⟩ := List.mem_map.mp h2
    injection e1 with a1 a2
    injection e2 with b1 b2
    have e : p.1 = q.1 := r.inj p.1 q.1 a (by rw [← a2]; exact hp1) (by rw [← b2]; exact hq1)
    omega
  · rw [hle]
    by_cases hi : i < pd.length
    · rw [List.getElem?_append_left hi] at e
      exact absurd e (hn.2.1 i c)
    · rw [List.getElem?_append_right (by omega)] at e
      obtain ⟨a, C, h1, h2⟩ := r.exc _ c e
      exact ⟨a, C, by rw [List.getElem?_append_right (by omega), ← hl]; exact h1, h2⟩
  · by_cases hi : i < pd.length
    · rw [List.getElem?_append_left hi] at e
      exact absurd e (hn.2.2 i fz kvs)
    · rw [List.getElem?_append_right (by omega)] at e
      obtain ⟨a, h1, h2, h3⟩ := r.dct _ fz kvs e
      refine ⟨a, List.mem_map.mpr ⟨_, h1, ?_⟩, by rw [List.getElem?_append_right (by omega), ← hl]; exact h2, h3⟩
      simp only [Prod.mk.injEq, and_true]
      omega
def fTrue : FB := fun _ => some true
def compL (g : Th → Option (List (Option Dv))) (ft : FB) (fe : FD) (d : Sd) : List Th → Option (List Th)
  | [] => some []
  | t :: r => (g t).bind fun p => (ft (p ++ d)).bind fun c => if c = true then (fe (p ++ d)).bind fun y => (compL g ft fe d r).bind fun ys => some (y :: ys) else compL g ft fe d r
def g1 : Th → Option (List (Option Dv)) := fun T => some [some (.th T)]
def fComp (g : Th → Option (List (Option Dv))) (fi : FL) (ft : FB) (fe : FD) : FL := fun d => (fi d).bind fun ts => if ts.length ≤ 1000000 then compL g ft fe d ts else none
structure CompG (K : PySem.W.Frag) (k : Nat) (g : TG) (gd : Th → Option (List (Option Dv))) : Prop where
  run : ∀ (H : Hp) (O : Hid) (v : V) (T : Th) (p : List (Option Dv)) (σ : St) (Q : St → Hp → Prop), Bears K (less H O) v T → gd T = some p →
    (∀ pre : List (Option V), pre.length = k → p.length = k → (∀ (i : Nat) (T : Th), p[i]? = some (some (Dv.th T)) → ∃ v, pre[i]? = some (some v) ∧ Bears K (less H O) v T) → ((∀ (i : Nat) (ts : List Th), p[i]? ≠ some (some (Dv.own ts))) ∧ (∀ (i : Nat) (c : Str), p[i]? ≠ some (some (Dv.exc c))) ∧ ∀ (i : Nat) (fz : Bool) (kvs : List (Str × Th)), p[i]? ≠ some (some (Dv.dct fz kvs))) → Q (pre ++ σ) H) → g v (List.replicate k none ++ σ) H Q
theorem compG1 : CompG K 1 (gName 0) g1 := ⟨fun H O v T p σ Q b e q => by
  cases e
  refine q [some v] rfl rfl (fun i T e => ?_) ⟨fun i ts e => ?_, fun i ts e => ?_, fun i fz ts e => ?_⟩
  · cases i with
    | zero => cases e; exact ⟨v, rfl, b⟩
    | succ i => simp at e
  · cases i with
    | zero => cases e
    | succ i => simp at e
  · cases i with
    | zero => cases e
    | succ i => simp at e
  · cases i with
    | zero => cases e
    | succ i => simp at e⟩
structure ItOkC (K : PySem.W.Frag) (J : It) (B : Hp) (O : Hid) (ts : List Th) : Prop where
  go : ∀ i H, Same B H → i < ts.length → J.go i H
  stop : ∀ H, Same B H → J.stop ts.length H
  yld : ∀ i H x H', i < ts.length → Same B H → (∀ p, H p = none → ¬ O.has p) → J.yld i H x H' → Same H H' ∧ ∃ T, ts[i]? = some T ∧ Bears K (less H' O) x T
def liftIC (K : PySem.W.Frag) (f : FL) : TI := fun σ H R => ∃ O d ts, Rep K H O σ d ∧ f d = some ts ∧ ∀ J H', Same H H' → ItOkC K J H' O ts → R J H'
theorem it_c {f : FL} : ∀ σ H R, liftIC K f σ H R → liftI K f σ H R := fun σ H R ⟨O, d, ts, r, e, q⟩ => ⟨O, d, ts, r, e, fun J H' s ok => q J H' s
  ⟨fun i H2 s2 hi => ok.go i H2 ((low_sub H' O).trans s2) hi, fun H2 s2 => ok.stop H2 ((low_sub H' O).trans s2), fun i H2 x H3 hi s2 hn hy => ok.yld i H2 O x H3 hi rfl (low_mono s2) hn hy⟩⟩
theorem comp_lift {k : Nat} {g : TG} {gd : Th → Option (List (Option Dv))} (G : CompG K k g gd) {fi : FL} {ft : FB} {fe : FD} : ∀ σ H Q, liftF K (fComp gd fi ft fe) σ H Q → tComp k (liftIC K fi) g (liftT K ft) (liftD K fe) σ H Q := fun σ H Q ⟨O, d, us, R, e, q⟩ => by
  unfold fComp at e
  cases hfi : fi d with
  | none => rw [hfi] at e; cases e
  | some ts =>
    rw [hfi] at e
    change (if ts.length ≤ 1000000 then compL gd ft fe d ts else none) = some us at e
    split at e
    · rename_i hz
      refine ⟨O, d, ts, R, hfi, fun J H1 s1 ok => ⟨fun i m ys H' => m = ts.length - i ∧ i ≤ ts.length ∧ Same H1 H' ∧ ys.length ≤ i ∧ ∃ as rest, BearsL K (less H' O) ys as ∧ compL gd ft fe d (ts.drop i) = some rest ∧ as ++ rest = us, ⟨ts.length, rfl, Nat.zero_le _, Same.refl _, Nat.le_refl _, [], us, .nil, e, rfl⟩, ?_⟩⟩
      rintro i m ys H' ⟨rfl, hi, s', hy, as, rest, b, er, eu⟩
      refine ⟨Nat.le_trans hy (Nat.le_trans hi (Nat.le_trans hz (by decide))), ?_⟩
      have R' : Rep K H' O σ d := R.mono (s1.trans s')
      by_cases hlt : i < ts.length
      · rw [List.drop_eq_getElem_cons hlt] at er
        unfold compL at er
        cases hg : gd ts[i] with
        | none => rw [hg] at er; cases er
        | some p =>
          rw [hg] at er
          change ((ft (p ++ d)).bind _) = _ at er
          refine .inr ⟨ok.go i H' s' hlt, fun x Hx hyl => ?_⟩
          obtain ⟨sx, T, hT, bx⟩ := ok.yld i H' x Hx hlt s' (fun p hp => R'.notOwn hp) hyl
          rw [List.getElem?_eq_getElem hlt] at hT
          cases hT
          refine G.run Hx O x _ p σ _ bx hg fun pre hpl hpd hb hn => ?_
          obtain ⟨RS, hle⟩ := (R'.mono sx).shift pre p (by omega) hb hn
          refine ⟨⟨by rw [List.length_append, hpl], by rw [← hpl, List.drop_left]⟩, ?_⟩
          cases hft : ft (p ++ d) with
          | none => rw [hft] at er; cases er
          | some c =>
            rw [hft] at er
            refine ⟨_, _, c, RS, hft, fun H3 s3 => ?_⟩
            cases c with
            | false =>
              rw [if_neg Bool.false_ne_true] at *
              refine ⟨ts.length - (i + 1), by omega, rfl, hlt, (s'.trans sx).trans s3, Nat.le_succ_of_le hy, as, rest, b.mono (less_mono (sx.trans s3)), er, eu⟩
            | true =>
              rw [if_pos rfl] at *
              cases hfe : fe (p ++ d) with
              | none => rw [show (some true).bind (fun c => if c = true then (fe (p ++ d)).bind fun y => (compL gd ft fe d (ts.drop (i + 1))).bind fun ys => some (y :: ys) else compL gd ft fe d (ts.drop (i + 1))) = (fe (p ++ d)).bind fun y => (compL gd ft fe d (ts.drop (i + 1))).bind fun ys => some (y :: ys) from rfl, hfe] at er; cases er
              | some y =>
                rw [show (some true).bind (fun c => if c = true then (fe (p ++ d)).bind fun y => (compL gd ft fe d (ts.drop (i + 1))).bind fun ys => some (y :: ys) else compL gd ft fe d (ts.drop (i + 1))) = (fe (p ++ d)).bind fun y => (compL gd ft fe d (ts.drop (i + 1))).bind fun ys => some (y :: ys) from rfl, hfe] at er
                cases hr : compL gd ft fe d (ts.drop (i + 1)) with
                | none => rw [hr] at er; cases er
                | some rs =>
                  rw [hr] at er
                  cases er
                  refine ⟨_, _, y, RS.mono s3, hfe, fun v H4 s4 b4 => ⟨ts.length - (i + 1), by omega, rfl, hlt, ((s'.trans sx).trans s3).trans s4, by rw [List.length_append]; simp; omega, as ++ [y], rs, ?_, hr, by rw [List.append_assoc]; exact eu⟩⟩
                  have b4' : Bears K (less H4 O) v y := by
                    have : less H4 ⟨O.own.map fun p => (pre.length + p.1, p.2), O.far⟩ = less H4 O := ((R'.mono ((sx.trans s3).trans s4)).shift pre p (by omega) (fun i T e => let ⟨v, h1, h2⟩ := hb i T e; ⟨v, h1, h2.mono (less_mono (s3.trans s4))⟩) hn).2
                    rw [← this]; exact b4
                  exact (b.mono (less_mono ((sx.trans s3).trans s4))).append (.cons b4' .nil)
      · have e1 : i = ts.length := by omega
        subst e1
        rw [List.drop_length] at er
        cases er
        rw [List.append_nil] at eu
        subst eu
        refine .inl ⟨ok.stop H' s', fun D hD => q _ _ ((s1.trans s').trans (Same.upd hD)) ?_⟩
        exact ⟨D, ys, rfl, (s1.trans s').free hD, upd_same, b.mono (less_new (Same.upd hD) hD)⟩
    · cases e
end
end L2
namespace L2
open PySem PySem.Spec PyProof.Rows
section
variable {X : Cx}
theorem PIf.imp {X : Cx} {ifs : List Expr} {t t' : TT} (h : PIf X ifs t) (i : ∀ σ H Q, t' σ H Q → t σ H Q) : PIf X ifs t' := fun pins s σ H Q I q => h pins s σ H Q I (i σ H Q q)
def PDIf (X : Cx) (ifs : List Expr) (f : FB) : Prop := PIf X ifs (liftT X.K f)
theorem pdif_nil : PDIf X [] fTrue := PIf.imp pif_nil fun σ H Q ⟨O, d, b, R, e, q⟩ => by cases e; exact q H (Same.refl H)
theorem pdif_one {c : Expr} {f : FB} (h : PDT X c f) : PDIf X [c] f := pif_one h
theorem pf_comp1 {x : Str} {px pos : Pos} {scope : Scope} {elt iter : Expr} {ifs : List Expr} {fi : FL} {ft : FB} {fe : FD} (hc : X.calm = true) (S : CompScope X [x] scope) (hN : ([x] ++ X.N).Nodup) (hx : scope.names.lookup x = some .local) (hi : PDI X (.Name x px) iter fi)
    (ht : ∀ cl s₂ H1 C fp, PDIf (cxC X [x] scope cl s₂ H1 C fp) ifs ft) (he : ∀ cl s₂ H1 C fp, PD (cxC X [x] scope cl s₂ H1 C fp) elt fe) (hs : ∀ x, foldedSetIterable iter X.env x = pure x := by intro _; rfl) :
    PF X (.ListComp elt [⟨.Name x px, iter, ifs, 0⟩] scope pos) (fComp g1 fi ft fe) :=
  PE.imp (pe_comp (tt := liftT X.K ft) (te := liftD X.K fe) hc S (PI.imp hi it_c) (fun cl s₂ H1 C fp => pg_name (i := 0) hN rfl (Or.inl (lookup_relabel_local hx)) (.inr (lookup_relabel_local hx))) ht he hs) (comp_lift compG1)
theorem pds_comp1T {x y : Str} {px py pos spos : Pos} {scope : Scope} {elt iter : Expr} {ifs : List Expr} {fi : FL} {ft : FB} {fe : FD} {i : Nat} (hN0 : X.N.Nodup) (hi' : X.N[i]? = some y) (hy : Loc X.env.scope y) (hc : X.calm = true) (S : CompScope X [x] scope) (hN : ([x] ++ X.N).Nodup) (hx : scope.names.lookup x = some .local) (hi : PDI X (.Name x px) iter fi)
    (ht : ∀ cl s₂ H1 C fp, PDIf (cxC X [x] scope cl s₂ H1 C fp) ifs ft) (he : ∀ cl s₂ H1 C fp, PD (cxC X [x] scope cl s₂ H1 C fp) elt fe)
    (hsw : swapsWith (.ListComp elt [⟨.Name x px, iter, ifs, 0⟩] scope pos) (some (.Name y py)) spos.line X.env = pure true := by rfl)
    (hf' : X.fn y = true ∨ X.env.scope.names.lookup y = some .local := by first | exact .inl rfl | exact .inr rfl | assumption)
    (hs : ∀ x, foldedSetIterable iter X.env x = pure x := by intro _; rfl) :
    PDS X (.Assign [.Name y py] (.ListComp elt [⟨.Name x px, iter, ifs, 0⟩] scope pos) spos) (fSet i (fLst (fComp g1 fi ft fe))) :=
  PS.imp (ps_comp (tt := liftT X.K ft) (te := liftD X.K fe) hN0 hi' hy hc S (PI.imp hi it_c) (fun cl s₂ H1 C fp => pg_name (i := 0) hN rfl (Or.inl (lookup_relabel_local hx)) (.inr (lookup_relabel_local hx))) ht he hsw hf' hs) fun D σ H h => by
    obtain ⟨O, d, o, R, e, q⟩ := h
    unfold fSet fLst at e
    cases hf : fComp g1 fi ft fe d with
    | none => rw [hf] at e; cases e
    | some ts =>
      rw [hf] at e
      cases e
      refine comp_lift compG1 σ H _ ⟨O, d, ts, R, hf, fun v H' s b => ?_⟩
      obtain ⟨a, xs, rfl, e2, e3, b⟩ := b
      exact q _ H' O rfl (low_mono s) ((R.mono s).set i (.lst (SqL.of (less_of e3 (R.notOwn e2))) (b.mono less_cons_sub)))
end
def spF (K : PySem.W.Frag) (φ : List Th → Option Th) : Sp := fun vs H Q _ => ∃ (Z : Addr → Prop) (Ts : List Th) (T : Th), (∀ b, Z b → ∃ o, H b = some o) ∧ BearsL K (less H ⟨[], Z⟩) vs Ts ∧ φ Ts = some T ∧ ∀ v H', Same H H' → Bears K (less H' ⟨[], Z⟩) v T → Q v H'
structure Callee (P : Program) (w : World) (K : PySem.W.Frag) (mg : Str → Option Value) (base : Heap) (k : Nat) (x : Str) (φ : List Th → Option Th) : Prop where
  ex : ∃ (f : Addr) (fd : FuncData) (ps : List Str), FnOk P w K mg base CX0 k f fd ps (spF K φ) ∧ mg x = some (.ref f) ∧ PySem.W.keepIn K (.ref f) = true ∧ Binds K fd ps []
theorem Callee.mono {P : Program} {w : World} {K : PySem.W.Frag} {mg : Str → Option Value} {base : Heap} {k j : Nat} {x : Str} {φ : List Th → Option Th} (c : Callee P w K mg base k x φ) (h : k ≤ j) : Callee P w K mg base j x φ :=
  let ⟨f, fd, ps, F, r⟩ := c.ex; ⟨f, fd, ps, F.mono h, r⟩
theorem less_has {H : Hp} {O : Hid} : less H ⟨[], O.has⟩ = less H O := by
  have hh : ∀ b, Hid.has ⟨[], O.has⟩ b ↔ O.has b := fun b => ⟨fun z => z.elim (fun q => by simp at q) id, fun z => .inr z⟩
  funext b
  unfold less
  by_cases z : O.has b
  · rw [if_pos z, if_pos ((hh b).mpr z)]
  · rw [if_neg z, if_neg (fun q => z ((hh b).mp q))]
theorem low_bare {H : Hp} {Z : Addr → Prop} : low H ⟨[], Z⟩ = H := by funext b; simp [low]
theorem less_none {H : Hp} : less H ⟨[], fun _ => False⟩ = H := by funext b; simp [less, Hid.has]
section
variable {X : Cx} {x : Str} {p pos : Pos} {e : Expr} {es : List Expr} {g : FL} {φ : List Th → Option Th} {k : Nat}
def fCall (φ : List Th → Option Th) (g : FL) : FD := fun d => (g d).bind φ
theorem pd_call (c : Callee X.prog X.w X.K X.mg X.base k x φ) (hr : Room k X.A) (hg : Gl X x) (ha : PDA X (e :: es) g) (hdb : (x == ("__debug__" : Str)) = false := by decide) (he : starEach (e :: es) X.env = (false, eval e X.env) :: starEach es X.env := by rfl) (hpl : (backTo pos (starEach es X.env)).any (·.1) = false := by rfl) :
    PD X (.Call (.Name x p) (e :: es) [] pos) (fCall φ g) := by
  obtain ⟨f, fd, ps, F, hm, hk, hb⟩ := c.ex
  refine PE.imp (pe_call F hr hg hm hk hb .nil pass0 ha hdb he hpl) fun σ H Q ⟨O, d, T, R, e, q⟩ => ?_
  unfold fCall at e
  cases hgd : g d with
  | none => rw [hgd] at e; cases e
  | some Ts =>
    rw [hgd] at e
    refine ⟨O, d, Ts, R, hgd, fun vs H1 s1 b => ?_⟩
    show spF X.K φ (vs ++ []) H1 Q E0
    rw [List.append_nil]
    refine ⟨O.has, Ts, T, fun a ha => (R.mono s1).there a ha, by rw [less_has]; exact b, e, fun v H' s' b' => q v H' (s1.trans s') ?_⟩
    rw [less_has] at b'
    exact b'
end
def startD (N : List Str) (Ts : List Th) : Sd := Ts.map (fun T => some (.th T)) ++ List.replicate (N.length - Ts.length) none
theorem rep_start {K : PySem.W.Frag} {H : Hp} {O : Hid} {N : List Str} {vs : List V} {Ts : List Th} (b : BearsL K (less H O) vs Ts) (ho : O.own = []) (hz : ∀ a, O.far a → ∃ o, H a = some o) : Rep K H O (start N vs) (startD N Ts) where
  len := by unfold start startD; rw [List.length_append, List.length_append, List.length_map, List.length_map, List.length_replicate, List.length_replicate, b.length]
  th := fun i T e => by
    unfold startD at e
    by_cases hi : i < Ts.length
    · rw [List.getElem?_append_left (by simpa using hi), List.getElem?_map] at e
      cases hT : Ts[i]? with
      | none => rw [hT] at e; cases e
      | some U =>
        rw [hT] at e
        cases e
        obtain ⟨v, h1, h2⟩ := b.get hT
        refine ⟨v, ?_, h2⟩
        unfold start
        rw [List.getElem?_append_left (by rw [List.length_map, b.length]; exact hi), List.getElem?_map, h1]
        rfl
    · rw [List.getElem?_append_right (by simpa using hi), List.getElem?_replicate] at e
      split at e <;> cases e
  own := fun i ts e => by
    unfold startD at e
    by_cases hi : i < Ts.length
    · rw [List.getElem?_append_left (by simpa using hi), List.getElem?_map] at e
      cases hT : Ts[i]? with
      | none => rw [hT] at e; cases e
      | some U => rw [hT] at e; cases e
    · rw [List.getElem?_append_right (by simpa using hi), List.getElem?_replicate] at e
      split at e <;> cases e
  there := fun a h => h.elim (fun q => by rw [ho] at q; simp at q) (hz a)
  inj := fun i j a h => by rw [ho] at h; simp at h
  dct := fun i fz kvs e => by
    unfold startD at e
    by_cases hi : i < Ts.length
    · rw [List.getElem?_append_left (by simpa using hi), List.getElem?_map] at e
      cases hT : Ts[i]? with
      | none => rw [hT] at e; cases e
      | some U => rw [hT] at e; cases e
    · rw [List.getElem?_append_right (by simpa using hi), List.getElem?_replicate] at e
      split at e <;> cases e
  exc := fun i c e => by
    unfold startD at e
    by_cases hi : i < Ts.length
    · rw [List.getElem?_append_left (by simpa using hi), List.getElem?_map] at e
      cases hT : Ts[i]? with
      | none => rw [hT] at e; cases e
      | some U => rw [hT] at e; cases e
    · rw [List.getElem?_append_right (by simpa using hi), List.getElem?_replicate] at e
      split at e <;> cases e
section
variable {P : Program} {w : World} {K : PySem.W.Frag} {mg : Str → Option Value} {base : Heap}
theorem Fun.okD {x qual : Str} {st : Stmt} {f : Addr} {fd : FuncData} {N ps : List Str} {k : Nat} {φ : List Th → Option Th} {body : FS} (F : Fun K x qual st f fd) (S : FnScope N ps (defScope st))
    (hb : ∀ (cdv : Value) (A : Around) (outer : List Env) (s : Shared) (H : Hp) (E : XK), Room k (A.deeper (envOfC qual (defScope st) s.heap.objs.size f cdv)) → PDSs (cxOf CX0 P w K mg base N qual (defScope st) f cdv A outer s H E).nox (defBody st) body)
    (hφ : ∀ Ts T, φ Ts = some T → Ts.length = ps.length ∧ body (startD N Ts) = some (.rt T)) : FnOk P w K mg base CX0 (k + 1) f fd ps (spF K φ) := by
  refine F.ok S (fun vs H Q E ⟨Z, Ts, T, _, b, e, _⟩ => by rw [b.length]; exact (hφ Ts T e).1) fun cdv A outer s H vs Q E hr ⟨Z, Ts, T, hz, b, e, q⟩ => ?_
  refine ⟨_, hb cdv A outer s H E hr, ⟨[], Z⟩, startD N Ts, .rt T, rep_start b rfl hz, (hφ Ts T e).2, fun v H' s' b' => q v H' ?_ b'⟩
  rw [low_bare] at s'
  exact s'
theorem Fun.callee {x qual : Str} {st : Stmt} {f : Addr} {fd : FuncData} {ps : List Str} {k : Nat} {φ : List Th → Option Th} (F : Fun K x qual st f fd) (G : FnOk P w K mg base CX0 k f fd ps (spF K φ)) (hm : mg x = some (.ref f)) (hb : Binds K fd ps []) : Callee P w K mg base k x φ := ⟨f, fd, ps, G, hm, F.kp, hb⟩
end
def smallN (n : Nat) : Bool := decide (n ≤ 1000000)
theorem smallN_le {n : Nat} (h : smallN n = true) : n ≤ sizeLine := Nat.le_trans (of_decide_eq_true h) (by decide)
end L2
namespace L2
open PySem PySem.Spec PyProof.Rows
section
variable {X : Cx} {K : PySem.W.Frag} {a b c e : Expr} {fa fb fc f : FD} {pos : Pos}
def rCatT0 (K : PySem.W.Frag) : R2 := fun x y H Q => ∃ a b ys, x = .ref a ∧ y = .ref b ∧ SqT K H a [] ∧ SqT K H b ys ∧ Q (.ref b) H
theorem op_catT0 : OpR X (binaryOp .Add) (rCatT0 X.K) := by
  intro pins s σ H x y v u Q I rx ry h
  obtain ⟨a, b, ys, rfl, rfl, ha, hb, q⟩ := h
  cases rx
  cases ry
  obtain ⟨its, r1, p1, _⟩ := I.tuple ha
  obtain ⟨its2, r2, p2, _⟩ := I.tuple hb
  cases r1
  obtain ⟨⟨cls, dd, data, sl⟩, ho, hc, n, hd⟩ := id p1
  obtain ⟨⟨cls2, dd2, data2, sl2⟩, ho2, hc2, n2, hd2⟩ := id p2
  simp only at hc hd hc2 hd2
  subst hc hd hc2 hd2
  exact concat_meets ⟨_, ho, rfl⟩ ⟨_, ho2, rfl⟩ noFill_tuple_add seq_tuple_add PySem.F.slot_tuple_add PySem.F.entry_tuple_add (PySem.F.args_tuple_add_2 _ _)
      (tuple_addW0 a b _ its2.toArray n n2 dd dd2 sl sl2 (by simp)) ⟨ho, ho2, ⟨.ref b, H, I, rfl, q⟩⟩
def oAdd : Th → Th → Option Th
  | .int i, .int j => some (.int (i + j))
  | .str x, .str y => if smallN (x.length + y.length) = true then some (.str (x ++ y)) else none
  | .tup xs, .tup ys => if smallN (xs.length + ys.length) = true then some (.tup (xs ++ ys)) else none
  | _, _ => none
def rAddA (K : PySem.W.Frag) : R2 := fun x y H Q => rI0 (fun i j => .int (i + j)) x y H Q ∨ (∃ i j, x = .str i ∧ y = .str j ∧ i.length + j.length ≤ sizeLine ∧ Q (.str (i ++ j)) H) ∨ rCatT K x y H Q ∨ rCatT0 K x y H Q
theorem op_addA : OpR X (binaryOp .Add) (rAddA X.K) := op_add.or (op_add_str.or (op_catT.or op_catT0))
theorem opD_add : OpD K (rAddA K) oAdd := fun H O v u x y z Q hn hx hy e q => by
  unfold oAdd at e
  split at e
  · cases e
    exact .inl ⟨_, _, hx.int, hy.int, q _ H (Same.refl H) (.int _)⟩
  · split at e
    · cases e
      exact .inr (.inl ⟨_, _, hx.str, hy.str, smallN_le ‹_›, q _ H (Same.refl H) (.str _)⟩)
    · cases e
  · split at e
    · rename_i hz
      cases e
      obtain ⟨a, xs, rfl, h1, b1⟩ := hx.tup
      obtain ⟨b, ys, rfl, h2, b2⟩ := hy.tup
      have z := smallN_le hz
      rw [← b1.length, ← b2.length] at z
      by_cases hxs : xs = []
      · subst hxs
        cases b1
        exact .inr (.inr (.inr ⟨a, b, ys, rfl, rfl, (less_sub H O).seqT h1, (less_sub H O).seqT h2, q _ H (Same.refl H) (.tup h2 b2)⟩))
      · refine .inr (.inr (.inl ⟨a, b, xs, ys, rfl, rfl, (less_sub H O).seqT h1, (less_sub H O).seqT h2, hxs, z, fun hys => ?_, fun hys p hp => ?_⟩))
        · subst hys
          cases b2
          rw [List.append_nil] at q
          exact q _ H (Same.refl H) (.tup h1 b1)
        · exact q _ _ (Same.upd hp) (.tup (SqT.of (less_of upd_same (hn p hp))) ((b1.append b2).mono (less_mono (Same.upd hp))))
    · cases e
  · cases e
def oSub : Th → Th → Option Th
  | .int i, .int j => some (.int (i - j))
  | _, _ => none
theorem pd_sub (ha : PB X a fa) (hb : PB X b fb) : PD X (.BinOp a .Sub b pos) (f2 oSub fa fb) := pd_op op_sub (fun H O v u x y z Q _ hx hy e q => by
  unfold oSub at e
  split at e
  · cases e
    exact ⟨_, _, hx.int, hy.int, q _ H (Same.refl H) (.int _)⟩
  · cases e) ha hb
def oDiv : Th → Th → Option Th
  | .int i, .int j => if decide (0 < j ∧ j < 1073741824) = true then some (.int (i / j)) else none
  | _, _ => none
def oMod : Th → Th → Option Th
  | .int i, .int j => if decide (0 < j) = true then some (.int (i % j)) else none
  | _, _ => none
theorem pd_fdiv (ha : PB X a fa) (hb : PB X b fb) : PD X (.BinOp a .FloorDiv b pos) (f2 oDiv fa fb) := pd_op op_fdiv (fun H O v u x y z Q _ hx hy e q => by
  unfold oDiv at e
  split at e
  · split at e
    · rename_i hc
      have hc := of_decide_eq_true hc
      cases e
      exact ⟨_, _, hx.int, hy.int, hc, q _ H (Same.refl H) (.int _)⟩
    · cases e
  · cases e) ha hb
theorem pd_mod (ha : PB X a fa) (hb : PB X b fb) : PD X (.BinOp a .Mod b pos) (f2 oMod fa fb) := pd_op op_mod (fun H O v u x y z Q _ hx hy e q => by
  unfold oMod at e
  split at e
  · split at e
    · rename_i hc
      have hc := of_decide_eq_true hc
      cases e
      exact ⟨_, _, hx.int, hy.int, hc, q _ H (Same.refl H) (.int _)⟩
    · cases e
  · cases e) ha hb
def fNeg (fa : FD) : FD := fun d => (fa d).bind fun x => match x with | .int i => some (.int (-i)) | _ => none
theorem pd_neg (ha : PD X a fa) : PD X (.UnaryOp .USub a pos) (fNeg fa) := PE.imp (pe_un un_neg ha) fun σ H Q ⟨O, d, T, R, e, q⟩ => by
  unfold fNeg at e
  cases hf : fa d with
  | none => rw [hf] at e; cases e
  | some x =>
    rw [hf] at e
    cases x with
    | int i => cases e; exact ⟨O, d, .int i, R, hf, fun v H' s b => by cases b; exact ⟨i, rfl, q _ H' s (.int _)⟩⟩
    | _ => cases e
def rMulS : R2 := fun x y H Q => ∃ z j, x = .str z ∧ y = .int j ∧ MulOk z j ∧ Q (.str (Txt.mul z j)) H
theorem op_mulS : OpR X (binaryOp .Mult) rMulS := by
  intro pins s σ H x y v u Q I rx ry h
  obtain ⟨z, j, rfl, rfl, hok, q⟩ := h
  obtain ⟨t, rfl⟩ := rx
  obtain ⟨t', rfl⟩ := ry
  exact SB.mul hok fun t' k => ⟨.str _, H, I.tok _, ⟨_, rfl⟩, q⟩
theorem mulOk_of {x : Str} {j : Int} (h0 : 0 ≤ j) (h1 : j ≤ 1000000) (h : x.length * j.toNat ≤ 1000000) : MulOk x j := by
  refine ⟨?_, fun h2 h3 => ?_, fun h2 h3 => ?_⟩
  · rw [decide_eq_false (by omega), decide_eq_false (by omega)]; rfl
  · have h4 : (x.length : Int) * j ≤ 1000000 := by
      have : ((x.length * j.toNat : Nat) : Int) ≤ 1000000 := by omega
      rw [Int.natCast_mul, Int.toNat_of_nonneg h0] at this
      exact this
    have h5 : (x.length : Int) ≤ (2 ^ 63 - 1) / j := by
      rw [Int.le_ediv_iff_mul_le (by omega)]
      omega
    omega
  · have : ¬ x.length * j.toNat > 2 ^ 24 := by omega
    simpa [Builtin.Str.tooLong, sizeLine] using this
def oMul : Th → Th → Option Th
  | .int i, .int j => if decide ((-(2 ^ 64) < i ∧ i < 2 ^ 64) ∨ (-(2 ^ 64) < j ∧ j < 2 ^ 64)) = true then some (.int (i * j)) else none
  | .str x, .int j => if decide (0 ≤ j ∧ j ≤ 1000000 ∧ x.length * j.toNat ≤ 1000000) = true then some (.str (Txt.mul x j)) else none
  | _, _ => none
def rMulA : R2 := fun x y H Q => rI CMul (fun i j => .int (i * j)) x y H Q ∨ rMulS x y H Q
theorem op_mulA : OpR X (binaryOp .Mult) rMulA := op_mul.or op_mulS
theorem opD_mul : OpD K rMulA oMul := fun H O v u x y z Q _ hx hy e q => by
  unfold oMul at e
  split at e
  · split at e
    · rename_i hc
      have hc := of_decide_eq_true hc
      cases e
      exact .inl ⟨_, _, hx.int, hy.int, hc, q _ H (Same.refl H) (.int _)⟩
    · cases e
  · split at e
    · rename_i hc
      obtain ⟨h0, h1, h2⟩ := of_decide_eq_true hc
      cases e
      exact .inr ⟨_, _, hx.str, hy.int, mulOk_of h0 h1 h2, q _ H (Same.refl H) (.str _)⟩
    · cases e
  · cases e
end
end L2
namespace L2
open PySem PySem.Spec PyProof.Rows
section
variable {X : Cx} {K : PySem.W.Frag} {a b c e : Expr} {fa fb fc f : FD} {pos : Pos}
def CallD (K : PySem.W.Frag) (r : List V → Hp → VK → Prop) (g : List Th → Option Th) : Prop := ∀ (H : Hp) (O : Hid) (vs : List V) (ts : List Th) (z : Th) (Q : VK), (∀ p, H p = none → ¬ O.has p) → Paired (Lent K H O) vs ts → g ts = some z → (∀ v' H', Same H H' → Bears K (less H' O) v' z → Q v' H') → r vs H Q
def fCB (g : List Th → Option Th) (fs : FL) : FD := fun d => (fs d).bind g
theorem cb_lift {r : List V → Hp → VK → Prop} {g : List Th → Option Th} {fs : FL} (hr : CallD K r g) : ∀ σ H Q, liftD K (fCB g fs) σ H Q → tCB r (liftAB K fs) σ H Q := fun σ H Q ⟨O, d, T, R, e, q⟩ => by
  unfold fCB at e
  cases hf : fs d with
  | none => rw [hf] at e; cases e
  | some ts =>
    rw [hf] at e
    exact ⟨O, d, ts, R, hf, fun vs H1 s1 b1 => hr H1 O vs ts T Q (fun p hp => (R.mono s1).notOwn hp) b1 e fun v H' s b => q v H' (s1.trans s) b⟩
theorem pd_callB' {id : String} {x : Str} {p : Pos} {es : List Expr} {fs : FL} {r : List V → Hp → VK → Prop} {g : List Th → Option Th} (hc : CallR X (.builtin id) r) (hr : CallD X.K r g) (hg : Gl X x) (hm : X.mg x = none) (hv : bootBuiltins x = some (.builtin id)) (ha : PBA X (e :: es) fs)
    (hn : x ≠ "__name__" := by decide) (hdb : (x == ("__debug__" : Str)) = false := by decide) (he : starEach (e :: es) X.env = (false, eval e X.env) :: starEach es X.env := by rfl) (hpl : (backTo pos (starEach es X.env)).any (·.1) = false := by rfl) :
    PD X (.Call (.Name x p) (e :: es) [] pos) (fCB g fs) := PE.imp (pe_callB hc hg hm hv ha hn hdb he hpl) (cb_lift hr)
def oLen : List Th → Option Th
  | [.str x] => if smallN x.length = true then some (.int x.length) else none
  | [.lst ts] => some (.int ts.length)
  | [.tup ts] => some (.int ts.length)
  | _ => none
def rLenA (K : PySem.W.Frag) : List V → Hp → VK → Prop := fun xs H Q => (∃ p ys, xs = [.ref p] ∧ (SqL K H p ys ∨ SqT K H p ys) ∧ Q (.int ys.length) H) ∨ ∃ z, xs = [.str z] ∧ z.length ≤ sizeLine ∧ Q (.int z.length) H
theorem call_lenA : CallR X (.builtin "len") (rLenA X.K) := call_len_seq.or call_len_str
theorem paired1 {α β : Type} {F : α → β → Prop} {xs : List α} {y : β} (h : Paired F xs [y]) : ∃ x, xs = [x] ∧ F x y := by
  cases h with | cons h r => cases r; exact ⟨_, rfl, h⟩
theorem callD_len : CallD K (rLenA K) oLen := fun H O vs ts z Q hn h e q => by
  unfold oLen at e
  split at e
  · obtain ⟨v, rfl, h1⟩ := paired1 h
    split at e
    · cases e
      exact .inr ⟨_, by rw [h1.str], smallN_le ‹_›, q _ H (Same.refl H) (.int _)⟩
    · cases e
  · obtain ⟨v, rfl, h1⟩ := paired1 h
    cases e
    obtain ⟨a, xs, rfl, h2, b⟩ := h1.lst
    refine .inl ⟨a, xs, rfl, .inl h2, q _ H (Same.refl H) ?_⟩
    rw [b.length]; exact .int _
  · obtain ⟨v, rfl, h1⟩ := paired1 h
    cases e
    obtain ⟨a, xs, rfl, h2, b⟩ := h1.tup
    refine .inl ⟨a, xs, rfl, .inr ((less_sub H O).seqT h2), q _ H (Same.refl H) ?_⟩
    rw [b.length]; exact .int _
  · cases e
theorem pd_len {p : Pos} {es : List Expr} {fs : FL} (hg : Gl X "len") (hm : X.mg "len" = none) (ha : PBA X (e :: es) fs) (he : starEach (e :: es) X.env = (false, eval e X.env) :: starEach es X.env := by rfl) (hpl : (backTo pos (starEach es X.env)).any (·.1) = false := by rfl) : PD X (.Call (.Name "len" p) (e :: es) [] pos) (fCB oLen fs) :=
  pd_callB' call_lenA callD_len hg hm PySem.boot_len ha (by decide) (by decide) he hpl
end
end L2
namespace HT
open PySem PyProof.Rows
inductive KeyV : Value → L2.Key → Prop where
  | int (i : Int) (t : Tok) : KeyV (.int i t) (.inl i)
  | str (x : Str) (t : Tok) : KeyV (.str x t) (.inr x)
abbrev KeysAre := Paired KeyV
def lexK : List L2.Key → List L2.Key → Option Bool
  | [], [] => some false
  | [], _ :: _ => some true
  | _ :: _, [] => some false
  | .inl a :: xs, .inl b :: ys => if a = b then lexK xs ys else some (decide (a < b))
  | .inr a :: xs, .inr b :: ys => if a = b then lexK xs ys else some (decide (a.cps.toList < b.cps.toList))
  | _ :: _, _ :: _ => none
theorem rcLt_str (A : Around) (s : Shared) (a : Str) (t : Tok) (c : Str) (u : Tok) (prog : Program) (w : World) (E : Value → Shared → Prop) (Q : Value → Shared → Prop) (h : Q (.bool (decide (a.cps.toList < c.cps.toList))) s) :
    wpAny (model prog w) A (richCompare .Lt (.str a t) (.str c u)) Q E s :=
  (PyProof.Rows.lt_str h : wpAny (model prog w) A (compareOp .Lt (.str a t) (.str c u)) Q E s)
section
open PySem.SeqAt
open PySem.AutoSeq1 (wpAny_loadPart')
open PySem.MeetsSeq PySem.MeetsSeq2 PySem.MeetsSeq3
theorem tuple_lt_keys (l b : Addr) (items items2 : Array Value) (n n2 : Nat) (dd dd2 : Option Addr) (sl sl2 : Array (Option Value)) (ns ms : List L2.Key) (z : Bool) (hi : KeysAre items.toList ns) (hj : KeysAre items2.toList ms) (hz : lexK ns ms = some z) :
    Meets (Builtin.«tuple.__lt__» ⟨[.ref l, .ref b], []⟩)
      (fun _ R s => s.heap.get? l = some { cls := .type "tuple", dict := dd, data := .seq items n, slots := sl } ∧ s.heap.get? b = some { cls := .type "tuple", dict := dd2, data := .seq items2 n2, slots := sl2 } ∧
        R (.ok (.ret (.bool z))) s) :=
  .of_wp fun prog w A R s h => by
    obtain ⟨hp, g, d, tk, os⟩ := s; obtain ⟨hl, hb, h⟩ := h
    have f2 := AutoSeq1.sub_tuple_tuple
    have z1 : items.size = ns.length := by rw [← hi.length]; simp
    have z2 : items2.size = ms.length := by rw [← hj.length]; simp
    wp_walk using wpAny_loadPart' hl, wpAny_loadPart' hb, wpAny_forIn_list _ (fun rest b s' => b.1 = none ∧ s' = ⟨hp, g, d, tk, os⟩ ∧ ∃ (vs ws : List Value) (ns' ms' : List L2.Key), rest = vs.zip ws ∧
      KeysAre vs ns' ∧ KeysAre ws ms' ∧ ns'.length + items2.size = ms'.length + items.size ∧ lexK ns' ms' = some z ∧ R (.ok (.ret (.bool z))) ⟨hp, g, d, tk, os⟩) _
    case turn =>
      rintro ⟨y, x⟩ rest b s' ⟨hb', rfl, vs, ws, ns', ms', hz, hvi, hwi, hlen, hlx, hR⟩
      cases hvi with
      | nil => rw [List.zip_nil_left] at hz; cases hz
      | cons k1 hvi' =>
        cases hwi with
        | nil => rw [List.zip_nil_right] at hz; cases hz
        | cons k2 hwi' =>
          rw [List.zip_cons_cons] at hz
          injection hz with hyx hrest
          injection hyx with hy hx
          subst hy hx
          simp only [List.length_cons] at hlen
          cases k1 with
          | int a t =>
            cases k2 with
            | int c u =>
              unfold lexK at hlx
              obtain ⟨e, he, hiff⟩ := eqAt_int A.in1 ⟨hp, g, d, tk, os⟩ a t c u
              refine wpAny_bind (he prog w _ _ ?_)
              cases e with
              | true =>
                rw [if_pos (hiff.mp rfl)] at hlx
                wp_walk
                exact ⟨rfl, rfl, _, _, _, _, hrest, hvi', hwi', by omega, hlx, hR⟩
              | false =>
                rw [if_neg (fun q => absurd (hiff.mpr q) Bool.false_ne_true)] at hlx
                cases hlx
                have hri := rcLt_int A.in1 ⟨hp, g, d, tk, os⟩ a t c u prog w
                wp_walk using hri
                exact ⟨_, rfl, by simpa using hR⟩
            | str c u => unfold lexK at hlx; cases hlx
          | str a t =>
            cases k2 with
            | int c u => unfold lexK at hlx; cases hlx
            | str c u =>
              unfold lexK at hlx
              refine wpAny_bind (SeqAt.EqAt.str_str a t c u prog w _ _ ?_)
              cases e : a == c with
              | true =>
                rw [if_pos (eq_of_beq e)] at hlx
                wp_walk
                exact ⟨rfl, rfl, _, _, _, _, hrest, hvi', hwi', by omega, hlx, hR⟩
              | false =>
                rw [if_neg (fun q => by rw [q] at e; simp at e)] at hlx
                cases hlx
                have hri := rcLt_str A.in1 ⟨hp, g, d, tk, os⟩ a t c u prog w
                wp_walk using hri
                exact ⟨_, rfl, by simpa using hR⟩
    case fin =>
      rintro ⟨b1, b2⟩ s' ⟨hb', rfl, vs, ws, ns', ms', hz, hvi, hwi, hlen, hlx, hR⟩
      simp only at hb'
      subst hb'
      have hv : z = decide (items.size < items2.size) := by
        cases hvi with
        | nil =>
          cases hwi with
          | nil =>
            simp only [List.length_nil] at hlen
            cases hlx
            exact (decide_eq_false (by omega)).symm
          | cons k hw =>
            simp only [List.length_nil, List.length_cons] at hlen
            cases hlx
            exact (decide_eq_true (by omega)).symm
        | cons k hv =>
          cases hwi with
          | nil =>
            simp only [List.length_nil, List.length_cons] at hlen
            cases k <;> (cases hlx; exact (decide_eq_false (by omega)).symm)
          | cons k2 hw =>
            rw [List.zip_cons_cons] at hz
            cases hz
      rw [hv] at hR
      wp_walk
      exact ⟨_, rfl, by simpa [Builtin.Tuple.tupleCompareSizes] using hR⟩
    case h =>
      exact ⟨rfl, rfl, items.toList, items2.toList, ns, ms, rfl, hi, hj, by omega, hz, h⟩
end
section
variable {prog : Program} {w : World} {A : Around} {E : Value → Shared → Prop} {s : Shared}
theorem lt_tupKeys {l b : Addr} {items items2 : Array Value} {ns ms : List L2.Key} {z : Bool} {Q : Value → Shared → Prop} (hl : IsTup s.heap l items) (hb : IsTup s.heap b items2) (hi : KeysAre items.toList ns) (hj : KeysAre items2.toList ms) (hz : lexK ns ms = some z)
    (hu : A.units < cLine) (h : Q (.bool z) s) : wpAny (model prog w) A (compareOp .Lt (.ref l) (.ref b)) Q E s := by
  obtain ⟨⟨cls, dd, data, sl⟩, ho, hc, n, hd⟩ := id hl
  obtain ⟨⟨cls2, dd2, data2, sl2⟩, ho2, hc2, n2, hd2⟩ := id hb
  simp only at hc hd hc2 hd2
  subst hc hd hc2 hd2
  exact richCompare_meets_room (op := .Lt) ⟨_, ho, rfl⟩ ⟨_, ho2, rfl⟩ PySem.F.slot_tuple_lt PySem.F.entry_tuple_lt (PySem.F.args_tuple_lt_2 _ _) (tuple_lt_keys l b items items2 n n2 dd dd2 sl sl2 ns ms z hi hj hz)
    ⟨ho, ho2, show Value.bool z ≠ Value.notImplemented ∧ Q (.bool z) s from ⟨(fun x => nomatch x), h⟩⟩ hu
end
end HT
namespace L2
open PySem PySem.Spec PyProof.Rows PySem.SeqAt
mutual
def eqTh : Th → Th → Bool
  | .non, .non => true
  | .bl a, .bl b => a == b
  | .int a, .int b => a == b
  | .str a, .str b => a == b
  | .bl a, .int b => (if a then 1 else 0) == b
  | .int a, .bl b => a == (if b then 1 else 0)
  | .tup xs, .tup ys => eqThL xs ys
  | .lst xs, .lst ys => eqThL xs ys
  | _, _ => false
def eqThL : List Th → List Th → Bool
  | [], [] => true
  | x :: xs, y :: ys => eqTh x y && eqThL xs ys
  | _, _ => false
end
mutual
def dp : Th → Nat
  | .tup ts => dpL ts + 1
  | .lst ts => dpL ts + 1
  | _ => 0
def dpL : List Th → Nat
  | [] => 0
  | t :: r => max (dp t) (dpL r)
end
theorem dp_mem : ∀ {ts : List Th} {t : Th} {i : Nat}, ts[i]? = some t → dp t ≤ dpL ts
  | [], _, _, e => by simp at e
  | x :: r, t, 0, e => by simp at e; subst e; unfold dpL; omega
  | x :: r, t, i + 1, e => by
    have := dp_mem (ts := r) (t := t) (i := i) (by simpa using e)
    unfold dpL; omega
mutual
theorem eqTh_refl : ∀ x : Th, eqTh x x = true
  | .non => by simp [eqTh]
  | .bl a => by simp [eqTh]
  | .int a => by simp [eqTh]
  | .str a => by simp [eqTh]
  | .tup xs => by simp only [eqTh]; exact eqThL_refl xs
  | .lst xs => by simp only [eqTh]; exact eqThL_refl xs
theorem eqThL_refl : ∀ xs : List Th, eqThL xs xs = true
  | [] => by simp [eqThL]
  | x :: xs => by simp only [eqThL, eqTh_refl x, eqThL_refl xs, Bool.and_self]
end
def eAt (xs ys : List Th) (j : Nat) : Bool := match xs[j]?, ys[j]? with | some x, some y => eqTh x y | _, _ => true
theorem eAt_all : ∀ xs ys : List Th, ((List.range (min xs.length ys.length)).all (eAt xs ys) && xs.length == ys.length) = eqThL xs ys
  | [], [] => by simp [eqThL]
  | [], _ :: _ => by simp [eqThL]
  | _ :: _, [] => by simp [eqThL]
  | x :: xs, y :: ys => by
    have ih := eAt_all xs ys
    have e : min (x :: xs).length (y :: ys).length = min xs.length ys.length + 1 := by simp only [List.length_cons]; omega
    rw [e, List.range_succ_eq_map, List.all_cons, List.all_map]
    have e0 : eAt (x :: xs) (y :: ys) 0 = eqTh x y := by simp [eAt]
    have e1 : (eAt (x :: xs) (y :: ys) ∘ Nat.succ) = eAt xs ys := by funext j; simp [eAt]
    rw [e0, e1, eqThL, ← ih]
    simp only [List.length_cons, Bool.and_assoc]
    congr 2
    rw [Bool.eq_iff_iff]; simp
theorem eqThL_len : ∀ {xs ys : List Th}, eqThL xs ys = true → xs.length = ys.length
  | [], [], _ => rfl
  | [], _ :: _, h => by simp [eqThL] at h
  | _ :: _, [], h => by simp [eqThL] at h
  | x :: xs, y :: ys, h => by
    rw [eqThL, Bool.and_eq_true] at h
    simp [eqThL_len h.2]
section
variable {X : Cx} {pins : List (Addr × Obj)} {σ : St} {H : Hp} {s : Shared}
theorem Inv.lt_ne (I : Inv X pins σ H s) {a : Addr} {xs ys : List V} (h : SqL X.K H a xs) (h' : SqT X.K H a ys) : False := by
  obtain ⟨its, r, ⟨o, n, e, c, _, d⟩, _⟩ := I.list h
  obtain ⟨its', r', ⟨o', e', c', n', d'⟩, _⟩ := I.tuple h'
  rw [e] at e'; cases e'
  rw [c] at c'
  simp at c'
theorem Bears.det (I : Inv X pins σ H s) : ∀ (n : Nat) {v : V} {x y : Th}, dp x ≤ n → Bears X.K H v x → Bears X.K H v y → x = y := by
  intro n
  induction n with
  | zero =>
    intro v x y hn h h'
    cases h with
    | non => cases h'; rfl
    | bl b => cases h'; rfl
    | int b => cases h'; rfl
    | str b => cases h'; rfl
    | tup e h => unfold dp at hn; omega
    | lst e h => unfold dp at hn; omega
  | succ n ihn =>
    have key : ∀ {vs : List V} {ts us : List Th}, dpL ts ≤ n → BearsL X.K H vs ts → BearsL X.K H vs us → ts = us := by
      intro vs
      induction vs with
      | nil => intro ts us _ h h'; cases h; cases h'; rfl
      | cons v vs ih =>
        intro ts us hd h h'
        cases h with
        | cons h r => cases h' with
          | cons h' r' =>
            unfold dpL at hd
            rw [ihn (by omega) h h', ih (by omega) r r']
    intro v x y hn h h'
    cases h with
    | non => cases h'; rfl
    | bl b => cases h'; rfl
    | int b => cases h'; rfl
    | str b => cases h'; rfl
    | tup e h =>
      cases h' with
      | tup e2 h2 =>
        have q := I.tuple_inj e e2
        subst q
        unfold dp at hn
        rw [key (by omega) h h2]
      | lst e2 h2 => exact (I.lt_ne e2 e).elim
    | lst e h =>
      cases h' with
      | lst e2 h2 =>
        have q := I.list_inj e e2
        subst q
        unfold dp at hn
        rw [key (by omega) h h2]
      | tup e2 h2 => exact (I.lt_ne e e2).elim
theorem items_at {its its2 : List Value} {xs ys : List V} {ts us : List Th} {A : Around} (r : Vals xs its) (r2 : Vals ys its2) (b : BearsL X.K H xs ts) (b2 : BearsL X.K H ys us)
    (k : ∀ (x y : Th) (v u : V) (a b : Value) (i : Nat), ts[i]? = some x → Bears X.K H v x → Bears X.K H u y → RelV v a → RelV u b → EqAt A s a b (eqTh x y)) :
    ∀ j (h1 : j < its.toArray.size) (h2 : j < its2.toArray.size), EqAt A s its.toArray[j] its2.toArray[j] (eAt ts us j) := fun j h1 h2 => by
  have l1 := r.length
  have l2 := r2.length
  have l3 := b.length
  have l4 := b2.length
  simp only [List.size_toArray] at h1 h2
  obtain ⟨a, ea, ra⟩ := r.get (i := j) (x := xs[j]'(by omega)) (List.getElem?_eq_getElem _)
  obtain ⟨a2, ea2, ra2⟩ := r2.get (i := j) (x := ys[j]'(by omega)) (List.getElem?_eq_getElem _)
  obtain ⟨t, et, bt⟩ := b.got (i := j) (v := xs[j]'(by omega)) (List.getElem?_eq_getElem _)
  obtain ⟨t2, et2, bt2⟩ := b2.got (i := j) (v := ys[j]'(by omega)) (List.getElem?_eq_getElem _)
  have e1 : its.toArray[j] = a := by
    rw [List.getElem?_eq_getElem h1] at ea
    simpa using ea
  have e2 : its2.toArray[j] = a2 := by
    rw [List.getElem?_eq_getElem h2] at ea2
    simpa using ea2
  have e3 : eAt ts us j = eqTh t t2 := by unfold eAt; rw [et, et2]
  rw [e1, e2, e3]
  exact k t t2 _ _ a a2 j et bt bt2 ra ra2
theorem tup_is (I : Inv X pins σ H s) {a : Addr} {xs : List V} (e : SqT X.K H a xs) : ∃ its : List Value, Vals xs its ∧ s.heap.IsTuple a its.toArray := let ⟨its, r, p, _⟩ := I.tuple e; ⟨its, r, p⟩
theorem lst_is (I : Inv X pins σ H s) {a : Addr} {xs : List V} (e : SqL X.K H a xs) : ∃ its : List Value, Vals xs its ∧ s.heap.IsList a its.toArray := let ⟨its, r, p, _⟩ := I.list e; ⟨its, r, p.isList⟩
theorem rc_bears (I : Inv X pins σ H s) (n : Nat) (ih : ∀ (A : Around) (x y : Th) (v u : V) (a b : Value), dp x < n → A.units + n < cLine → Bears X.K H v x → Bears X.K H u y → RelV v a → RelV u b → EqAt A s a b (eqTh x y)) :
    ∀ (A : Around) (x y : Th) (v u : V) (a b : Value), dp x ≤ n → A.units + n + 1 < cLine → Bears X.K H v x → Bears X.K H u y → RelV v a → RelV u b → RcAt A s a b (eqTh x y) := by
  intro A x y v u a b hn hu bx bY ra rb
  have hu0 : A.units < cLine := by omega
  have hin : A.in1.units = A.units + 1 := rfl
  cases bx with
  | non =>
    cases ra
    cases bY with
    | non => cases rb; unfold eqTh; exact RcAt.none_none
    | bl c => cases rb; unfold eqTh; exact RcAt.none_bool _
    | int c => obtain ⟨_, rfl⟩ := rb; unfold eqTh; exact RcAt.none_int _ _
    | str c => obtain ⟨_, rfl⟩ := rb; unfold eqTh; exact RcAt.none_str _ _
    | tup e h => cases rb; obtain ⟨_, _, p⟩ := tup_is I e; unfold eqTh; exact RcAt.none_tuple p hu0
    | lst e h => cases rb; obtain ⟨_, _, p⟩ := lst_is I e; unfold eqTh; exact RcAt.none_list p hu0
  | bl d =>
    cases ra
    cases bY with
    | non => cases rb; unfold eqTh; exact RcAt.bool_none _
    | bl c => cases rb; unfold eqTh; exact RcAt.bool_bool _ _
    | int c => obtain ⟨_, rfl⟩ := rb; unfold eqTh; exact RcAt.bool_int _ _ _
    | str c => obtain ⟨_, rfl⟩ := rb; unfold eqTh; exact RcAt.bool_str _ _ _
    | tup e h => cases rb; obtain ⟨_, _, p⟩ := tup_is I e; unfold eqTh; exact RcAt.bool_tuple _ p hu0
    | lst e h => cases rb; obtain ⟨_, _, p⟩ := lst_is I e; unfold eqTh; exact RcAt.bool_list _ p hu0
  | int d =>
    obtain ⟨_, rfl⟩ := ra
    cases bY with
    | non => cases rb; unfold eqTh; exact RcAt.int_none _ _
    | bl c => cases rb; unfold eqTh; exact RcAt.int_bool _ _ _
    | int c => obtain ⟨_, rfl⟩ := rb; unfold eqTh; exact RcAt.int_int _ _ _ _
    | str c => obtain ⟨_, rfl⟩ := rb; unfold eqTh; exact RcAt.int_str _ _ _ _
    | tup e h => cases rb; obtain ⟨_, _, p⟩ := tup_is I e; unfold eqTh; exact RcAt.int_tuple _ _ p hu0
    | lst e h => cases rb; obtain ⟨_, _, p⟩ := lst_is I e; unfold eqTh; exact RcAt.int_list _ _ p hu0
  | str d =>
    obtain ⟨_, rfl⟩ := ra
    cases bY with
    | non => cases rb; unfold eqTh; exact RcAt.str_none _ _
    | bl c => cases rb; unfold eqTh; exact RcAt.str_bool _ _ _
    | int c => obtain ⟨_, rfl⟩ := rb; unfold eqTh; exact RcAt.str_int _ _ _ _
    | str c => obtain ⟨_, rfl⟩ := rb; unfold eqTh; exact RcAt.str_str _ _ _ _
    | tup e h => cases rb; obtain ⟨_, _, p⟩ := tup_is I e; unfold eqTh; exact RcAt.str_tuple _ _ p hu0
    | lst e h => cases rb; obtain ⟨_, _, p⟩ := lst_is I e; unfold eqTh; exact RcAt.str_list _ _ p hu0
  | tup e h =>
    cases ra
    obtain ⟨its, r1, p1⟩ := tup_is I e
    cases bY with
    | non => cases rb; unfold eqTh; exact RcAt.tuple_none p1 hu0
    | bl c => cases rb; unfold eqTh; exact RcAt.tuple_bool _ p1 hu0
    | int c => obtain ⟨_, rfl⟩ := rb; unfold eqTh; exact RcAt.tuple_int _ _ p1 hu0
    | str c => obtain ⟨_, rfl⟩ := rb; unfold eqTh; exact RcAt.tuple_str _ _ p1 hu0
    | lst e2 h2 => cases rb; obtain ⟨its2, r2, p2⟩ := lst_is I e2; unfold eqTh; exact RcAt.tuple_list p1 p2 hu0
    | tup e2 h2 =>
      cases rb
      obtain ⟨its2, r2, p2⟩ := tup_is I e2
      have q := RcAt.tuples (A := A) p1 p2 hu0 (items_at r1 r2 h h2 fun x y v u a b i et b1 b2 ra rb => by
        have := dp_mem et
        unfold dp at hn
        exact ih A.in1 x y v u a b (by omega) (by rw [hin]; omega) b1 b2 ra rb)
      rename_i ts _ _ us
      have z1 : its.toArray.size = ts.length := by rw [List.size_toArray, ← r1.length, h.length]
      have z2 : its2.toArray.size = us.length := by rw [List.size_toArray, ← r2.length, h2.length]
      rw [z1, z2, eAt_all] at q
      unfold eqTh
      exact q
  | lst e h =>
    cases ra
    obtain ⟨its, r1, p1⟩ := lst_is I e
    cases bY with
    | non => cases rb; unfold eqTh; exact RcAt.list_none p1 hu0
    | bl c => cases rb; unfold eqTh; exact RcAt.list_bool _ p1 hu0
    | int c => obtain ⟨_, rfl⟩ := rb; unfold eqTh; exact RcAt.list_int _ _ p1 hu0
    | str c => obtain ⟨_, rfl⟩ := rb; unfold eqTh; exact RcAt.list_str _ _ p1 hu0
    | tup e2 h2 => cases rb; obtain ⟨its2, r2, p2⟩ := tup_is I e2; unfold eqTh; exact RcAt.list_tuple p1 p2 hu0
    | lst e2 h2 =>
      cases rb
      obtain ⟨its2, r2, p2⟩ := lst_is I e2
      rename_i ts _ _ us
      have z1 : its.toArray.size = ts.length := by rw [List.size_toArray, ← r1.length, h.length]
      have z2 : its2.toArray.size = us.length := by rw [List.size_toArray, ← r2.length, h2.length]
      by_cases hz : its.toArray.size = its2.toArray.size
      · have q := RcAt.lists (A := A) p1 p2 hz hu0 (items_at r1 r2 h h2 fun x y v u a b i et b1 b2 ra rb => by
          have := dp_mem et
          unfold dp at hn
          exact ih A.in1 x y v u a b (by omega) (by rw [hin]; omega) b1 b2 ra rb)
        have e1 : eqThL ts us = (List.range its.toArray.size).all (eAt ts us) := by
          rw [← eAt_all, ← z1, ← z2, ← hz, Nat.min_self]; simp
        unfold eqTh
        rw [e1]
        exact q
      · have q := RcAt.lists_lengths (A := A) p1 p2 (by simpa using hz) hu0
        have e1 : eqThL ts us = false := by
          cases w : eqThL ts us with
          | false => rfl
          | true => exact absurd (by rw [z1, z2]; exact eqThL_len w) hz
        unfold eqTh
        rw [e1]
        exact q
theorem eq_bears (I : Inv X pins σ H s) : ∀ (n : Nat) (A : Around) (x y : Th) (v u : V) (a b : Value), dp x < n → A.units + n < cLine → Bears X.K H v x → Bears X.K H u y → RelV v a → RelV u b → EqAt A s a b (eqTh x y)
  | 0, _, _, _, _, _, _, _, hn, _, _, _, _, _ => absurd hn (Nat.not_lt_zero _)
  | n + 1, A, x, y, v, u, a, b, hn, hu, bx, bY, ra, rb => by
    have rc : RcAt A s a b (eqTh x y) := rc_bears I n (fun A x y v u a b h1 h2 => eq_bears I n A x y v u a b h1 h2) A x y v u a b (by omega) (by omega) bx bY ra rb
    have hu0 : A.units < cLine := by omega
    cases bx with
    | non =>
      cases ra
      cases bY with
      | non => cases rb; unfold eqTh; exact EqAt.same _
      | bl c => cases rb; unfold eqTh; exact EqAt.none_bool _
      | int c => obtain ⟨_, rfl⟩ := rb; unfold eqTh; exact EqAt.none_int _ _
      | str c => obtain ⟨_, rfl⟩ := rb; unfold eqTh; exact EqAt.none_str _ _
      | tup e h => cases rb; obtain ⟨_, _, p⟩ := tup_is I e; unfold eqTh; exact EqAt.none_tuple p hu0
      | lst e h => cases rb; obtain ⟨_, _, p⟩ := lst_is I e; unfold eqTh; exact EqAt.none_list p hu0
    | bl d =>
      cases ra
      cases bY with
      | non => cases rb; unfold eqTh; exact EqAt.bool_none _
      | bl c => cases rb; unfold eqTh; exact EqAt.bool_bool _ _
      | int c => obtain ⟨_, rfl⟩ := rb; unfold eqTh; exact EqAt.bool_int _ _ _
      | str c => obtain ⟨_, rfl⟩ := rb; unfold eqTh; exact EqAt.bool_str _ _ _
      | tup e h => cases rb; obtain ⟨_, _, p⟩ := tup_is I e; unfold eqTh; exact EqAt.bool_tuple _ p hu0
      | lst e h => cases rb; obtain ⟨_, _, p⟩ := lst_is I e; unfold eqTh; exact EqAt.bool_list _ p hu0
    | int d =>
      obtain ⟨_, rfl⟩ := ra
      cases bY with
      | non => cases rb; unfold eqTh; exact EqAt.int_none _ _
      | bl c => cases rb; unfold eqTh; exact EqAt.int_bool _ _ _
      | int c => obtain ⟨_, rfl⟩ := rb; unfold eqTh; exact EqAt.int_int _ _ _ _
      | str c => obtain ⟨_, rfl⟩ := rb; unfold eqTh; exact EqAt.int_str _ _ _ _
      | tup e h => cases rb; obtain ⟨_, _, p⟩ := tup_is I e; unfold eqTh; exact EqAt.int_tuple _ _ p hu0
      | lst e h => cases rb; obtain ⟨_, _, p⟩ := lst_is I e; unfold eqTh; exact EqAt.int_list _ _ p hu0
    | str d =>
      obtain ⟨_, rfl⟩ := ra
      cases bY with
      | non => cases rb; unfold eqTh; exact EqAt.str_none _ _
      | bl c => cases rb; unfold eqTh; exact EqAt.str_bool _ _ _
      | int c => obtain ⟨_, rfl⟩ := rb; unfold eqTh; exact EqAt.str_int _ _ _ _
      | str c => obtain ⟨_, rfl⟩ := rb; unfold eqTh; exact EqAt.str_str _ _ _ _
      | tup e h => cases rb; obtain ⟨_, _, p⟩ := tup_is I e; unfold eqTh; exact EqAt.str_tuple _ _ p hu0
      | lst e h => cases rb; obtain ⟨_, _, p⟩ := lst_is I e; unfold eqTh; exact EqAt.str_list _ _ p hu0
    | tup e h =>
      cases ra
      obtain ⟨its, r1, p1⟩ := tup_is I e
      cases bY with
      | non => cases rb; unfold eqTh; exact EqAt.tuple_none p1 hu0
      | bl c => cases rb; unfold eqTh; exact EqAt.tuple_bool _ p1 hu0
      | int c => obtain ⟨_, rfl⟩ := rb; unfold eqTh; exact EqAt.tuple_int _ _ p1 hu0
      | str c => obtain ⟨_, rfl⟩ := rb; unfold eqTh; exact EqAt.tuple_str _ _ p1 hu0
      | lst e2 h2 => cases rb; obtain ⟨its2, r2, p2⟩ := lst_is I e2; unfold eqTh; exact EqAt.tuple_list p1 p2 hu0
      | @tup a2 _ _ e2 h2 =>
        cases rb
        rename_i a1 _ _ _ _
        by_cases hab : a1 = a2
        · subst hab
          rw [Bears.det I _ (Nat.le_refl _) (.tup e h) (.tup e2 h2), eqTh_refl]
          exact EqAt.same _
        · exact EqAt.of_refs hab rc
    | lst e h =>
      cases ra
      obtain ⟨its, r1, p1⟩ := lst_is I e
      cases bY with
      | non => cases rb; unfold eqTh; exact EqAt.list_none p1 hu0
      | bl c => cases rb; unfold eqTh; exact EqAt.list_bool _ p1 hu0
      | int c => obtain ⟨_, rfl⟩ := rb; unfold eqTh; exact EqAt.list_int _ _ p1 hu0
      | str c => obtain ⟨_, rfl⟩ := rb; unfold eqTh; exact EqAt.list_str _ _ p1 hu0
      | tup e2 h2 => cases rb; obtain ⟨its2, r2, p2⟩ := tup_is I e2; unfold eqTh; exact EqAt.list_tuple p1 p2 hu0
      | @lst a2 _ _ e2 h2 =>
        cases rb
        rename_i a1 _ _ _ _
        by_cases hab : a1 = a2
        · subst hab
          rw [Bears.det I _ (Nat.le_refl _) (.lst e h) (.lst e2 h2), eqTh_refl]
          exact EqAt.same _
        · exact EqAt.of_refs hab rc
end
section
variable {X : Cx} {K : PySem.W.Frag} {a b c e : Expr} {fa fb fc f : FD} {pos : Pos} {k : Nat}
def rEqD (K : PySem.W.Frag) : R2 := fun v u H Q => ∃ x y, Bears K H v x ∧ Bears K H u y ∧ dp x ≤ 100 ∧ Q (.bl (eqTh x y)) H
theorem op_eqD (hr : Room k X.A) : OpR X (compareOp .Eq) (rEqD X.K) := by
  intro pins s σ H v u a b Q I ra rb h
  obtain ⟨x, y, bx, bY, hd, q⟩ := h
  have hu := hr.un
  have rc : RcAt X.A s a b (eqTh x y) := rc_bears I 100 (fun A x y v u a b h1 h2 => eq_bears I 100 A x y v u a b h1 h2) X.A x y v u a b hd (by omega) bx bY ra rb
  exact rc _ _ _ _ ⟨.bl _, H, I, rfl, q⟩
def oEq : Th → Th → Option Th := fun x y => if decide (dp x ≤ 100) = true then some (.bl (eqTh x y)) else none
theorem opD_eq : OpD K (rEqD K) oEq := fun H O v u x y z Q hn hx hy e q => by
  unfold oEq at e
  split at e
  · rename_i hd
    cases e
    exact ⟨x, y, hx.bears, hy.bears, of_decide_eq_true hd, q _ H (Same.refl H) (.bl _)⟩
  · cases e
theorem pd_eq (hr : Room k X.A) (ha : PB X a fa) (hb : PB X b fb) : PD X (.Compare a [.Eq] [b] pos) (f2 oEq fa fb) := pd_cmp (op_eqD hr) opD_eq ha hb (nomark _)
theorem pdt_eq (hr : Room k X.A) (ha : PB X a fa) (hb : PB X b fb) : PDT X (.Compare a [.Eq] [b] pos) (fTest (f2 oEq fa fb)) := pdt_cmp (op_eqD hr) opD_eq ha hb (nomark _)
end
end L2
namespace L2
open PySem PySem.Spec PyProof.Rows PySem.SeqAt
section
variable {X : Cx} {pins : List (Addr × Obj)} {σ : St} {H : Hp} {s : Shared}
theorem rcne_bears (I : Inv X pins σ H s) (n : Nat) (ih : ∀ (A : Around) (x y : Th) (v u : V) (a b : Value), dp x < n → A.units + n < cLine → Bears X.K H v x → Bears X.K H u y → RelV v a → RelV u b → EqAt A s a b (eqTh x y)) :
    ∀ (A : Around) (x y : Th) (v u : V) (a b : Value), dp x ≤ n → A.units + n + 1 < cLine → Bears X.K H v x → Bears X.K H u y → RelV v a → RelV u b → RcNeAt A s a b (!eqTh x y) := by
  intro A x y v u a b hn hu bx bY ra rb
  have hu0 : A.units < cLine := by omega
  have hin : A.in1.units = A.units + 1 := rfl
  cases bx with
  | non =>
    cases ra
    cases bY with
    | non => cases rb; unfold eqTh; exact RcNeAt.none_none
    | bl c => cases rb; unfold eqTh; exact RcNeAt.none_bool _
    | int c => obtain ⟨_, rfl⟩ := rb; unfold eqTh; exact RcNeAt.none_int _ _
    | str c => obtain ⟨_, rfl⟩ := rb; unfold eqTh; exact RcNeAt.none_str _ _
    | tup e h => cases rb; obtain ⟨_, _, p⟩ := tup_is I e; unfold eqTh; exact RcNeAt.none_tuple p hu0
    | lst e h => cases rb; obtain ⟨_, _, p⟩ := lst_is I e; unfold eqTh; exact RcNeAt.none_list p hu0
  | bl d =>
    cases ra
    cases bY with
    | non => cases rb; unfold eqTh; exact RcNeAt.bool_none _
    | bl c => cases rb; unfold eqTh; exact RcNeAt.bool_bool _ _
    | int c => obtain ⟨_, rfl⟩ := rb; unfold eqTh; exact RcNeAt.bool_int _ _ _
    | str c => obtain ⟨_, rfl⟩ := rb; unfold eqTh; exact RcNeAt.bool_str _ _ _
    | tup e h => cases rb; obtain ⟨_, _, p⟩ := tup_is I e; unfold eqTh; exact RcNeAt.bool_tuple _ p hu0
    | lst e h => cases rb; obtain ⟨_, _, p⟩ := lst_is I e; unfold eqTh; exact RcNeAt.bool_list _ p hu0
  | int d =>
    obtain ⟨_, rfl⟩ := ra
    cases bY with
    | non => cases rb; unfold eqTh; exact RcNeAt.int_none _ _
    | bl c => cases rb; unfold eqTh; exact RcNeAt.int_bool _ _ _
    | int c => obtain ⟨_, rfl⟩ := rb; unfold eqTh; exact RcNeAt.int_int _ _ _ _
    | str c => obtain ⟨_, rfl⟩ := rb; unfold eqTh; exact RcNeAt.int_str _ _ _ _
    | tup e h => cases rb; obtain ⟨_, _, p⟩ := tup_is I e; unfold eqTh; exact RcNeAt.int_tuple _ _ p hu0
    | lst e h => cases rb; obtain ⟨_, _, p⟩ := lst_is I e; unfold eqTh; exact RcNeAt.int_list _ _ p hu0
  | str d =>
    obtain ⟨_, rfl⟩ := ra
    cases bY with
    | non => cases rb; unfold eqTh; exact RcNeAt.str_none _ _
    | bl c => cases rb; unfold eqTh; exact RcNeAt.str_bool _ _ _
    | int c => obtain ⟨_, rfl⟩ := rb; unfold eqTh; exact RcNeAt.str_int _ _ _ _
    | str c => obtain ⟨_, rfl⟩ := rb; unfold eqTh; exact RcNeAt.str_str _ _ _ _
    | tup e h => cases rb; obtain ⟨_, _, p⟩ := tup_is I e; unfold eqTh; exact RcNeAt.str_tuple _ _ p hu0
    | lst e h => cases rb; obtain ⟨_, _, p⟩ := lst_is I e; unfold eqTh; exact RcNeAt.str_list _ _ p hu0
  | tup e h =>
    cases ra
    obtain ⟨its, r1, p1⟩ := tup_is I e
    cases bY with
    | non => cases rb; unfold eqTh; exact RcNeAt.tuple_none p1 hu0
    | bl c => cases rb; unfold eqTh; exact RcNeAt.tuple_bool _ p1 hu0
    | int c => obtain ⟨_, rfl⟩ := rb; unfold eqTh; exact RcNeAt.tuple_int _ _ p1 hu0
    | str c => obtain ⟨_, rfl⟩ := rb; unfold eqTh; exact RcNeAt.tuple_str _ _ p1 hu0
    | lst e2 h2 => cases rb; obtain ⟨its2, r2, p2⟩ := lst_is I e2; unfold eqTh; exact RcNeAt.tuple_list p1 p2 hu0
    | tup e2 h2 =>
      cases rb
      obtain ⟨its2, r2, p2⟩ := tup_is I e2
      have q := RcNeAt.tuples (A := A) p1 p2 hu0 (items_at r1 r2 h h2 fun x y v u a b i et b1 b2 ra rb => by
        have := dp_mem et
        unfold dp at hn
        exact ih A.in1 x y v u a b (by omega) (by rw [hin]; omega) b1 b2 ra rb)
      rename_i ts _ _ us
      have z1 : its.toArray.size = ts.length := by rw [List.size_toArray, ← r1.length, h.length]
      have z2 : its2.toArray.size = us.length := by rw [List.size_toArray, ← r2.length, h2.length]
      rw [z1, z2, eAt_all] at q
      unfold eqTh
      exact q
  | lst e h =>
    cases ra
    obtain ⟨its, r1, p1⟩ := lst_is I e
    cases bY with
    | non => cases rb; unfold eqTh; exact RcNeAt.list_none p1 hu0
    | bl c => cases rb; unfold eqTh; exact RcNeAt.list_bool _ p1 hu0
    | int c => obtain ⟨_, rfl⟩ := rb; unfold eqTh; exact RcNeAt.list_int _ _ p1 hu0
    | str c => obtain ⟨_, rfl⟩ := rb; unfold eqTh; exact RcNeAt.list_str _ _ p1 hu0
    | tup e2 h2 => cases rb; obtain ⟨its2, r2, p2⟩ := tup_is I e2; unfold eqTh; exact RcNeAt.list_tuple p1 p2 hu0
    | lst e2 h2 =>
      cases rb
      obtain ⟨its2, r2, p2⟩ := lst_is I e2
      rename_i ts _ _ us
      have z1 : its.toArray.size = ts.length := by rw [List.size_toArray, ← r1.length, h.length]
      have z2 : its2.toArray.size = us.length := by rw [List.size_toArray, ← r2.length, h2.length]
      by_cases hz : its.toArray.size = its2.toArray.size
      · have q := RcNeAt.lists (A := A) p1 p2 hz hu0 (items_at r1 r2 h h2 fun x y v u a b i et b1 b2 ra rb => by
          have := dp_mem et
          unfold dp at hn
          exact ih A.in1 x y v u a b (by omega) (by rw [hin]; omega) b1 b2 ra rb)
        have e1 : eqThL ts us = (List.range its.toArray.size).all (eAt ts us) := by
          rw [← eAt_all, ← z1, ← z2, ← hz, Nat.min_self]; simp
        unfold eqTh
        rw [e1]
        exact q
      · have q := RcNeAt.lists_lengths (A := A) p1 p2 (by simpa using hz) hu0
        have e1 : eqThL ts us = false := by
          cases w : eqThL ts us with
          | false => rfl
          | true => exact absurd (by rw [z1, z2]; exact eqThL_len w) hz
        unfold eqTh
        rw [e1]
        exact q
end
section
variable {X : Cx} {K : PySem.W.Frag} {a b c e : Expr} {fa fb fc f : FD} {pos : Pos} {k : Nat}
def rNeD (K : PySem.W.Frag) : R2 := fun v u H Q => ∃ x y, Bears K H v x ∧ Bears K H u y ∧ dp x ≤ 100 ∧ Q (.bl (!eqTh x y)) H
theorem op_neD (hr : Room k X.A) : OpR X (compareOp .NotEq) (rNeD X.K) := by
  intro pins s σ H v u a b Q I ra rb h
  obtain ⟨x, y, bx, bY, hd, q⟩ := h
  have hu := hr.un
  have rc : RcNeAt X.A s a b (!eqTh x y) := rcne_bears I 100 (fun A x y v u a b h1 h2 => eq_bears I 100 A x y v u a b h1 h2) X.A x y v u a b hd (by omega) bx bY ra rb
  exact rc _ _ _ _ ⟨.bl _, H, I, rfl, q⟩
def oNe : Th → Th → Option Th := fun x y => if decide (dp x ≤ 100) = true then some (.bl (!eqTh x y)) else none
theorem opD_ne : OpD K (rNeD K) oNe := fun H O v u x y z Q hn hx hy e q => by
  unfold oNe at e
  split at e
  · rename_i hd
    cases e
    exact ⟨x, y, hx.bears, hy.bears, of_decide_eq_true hd, q _ H (Same.refl H) (.bl _)⟩
  · cases e
theorem pdt_ne (hr : Room k X.A) (ha : PB X a fa) (hb : PB X b fb) : PDT X (.Compare a [.NotEq] [b] pos) (fTest (f2 oNe fa fb)) := pdt_cmp (op_neD hr) opD_ne ha hb (nomark _)
def anyEq (x : Th) : List Th → Bool
  | [] => false
  | t :: r => eqTh t x || anyEq x r
theorem any_bears {pins : List (Addr × Obj)} {σ : St} {H : Hp} {s : Shared} {A : Around} (I : Inv X pins σ H s) {n : Nat} {x : Th} {v : V} {a : Value} (bx : Bears X.K H v x) (ra : RelV v a) (hu : A.units + n + 1 < cLine) :
    ∀ {its : List Value} {xs : List V} {ts : List Th}, Vals xs its → BearsL X.K H xs ts → dpL ts < n → ∃ e : Value → Bool, its.any e = anyEq x ts ∧ ∀ y ∈ its, EqAt A.in1 s y a (e y) := by
  intro its xs ts r b hd
  have key : ∀ y ∈ its, ∃ t, EqAt A.in1 s y a (eqTh t x) ∧ ∃ w, RelV w y ∧ Bears X.K H w t := by
    intro y hy
    obtain ⟨i, hi⟩ := List.getElem?_of_mem hy
    have hl := r.length
    have hi' : i < its.length := (List.getElem?_eq_some_iff.mp hi).1
    obtain ⟨u, hu', ru⟩ := r.get (i := i) (x := xs[i]'(by omega)) (List.getElem?_eq_getElem _)
    rw [hi] at hu'; cases hu'
    obtain ⟨t, ht, bt⟩ := b.got (i := i) (v := xs[i]'(by omega)) (List.getElem?_eq_getElem _)
    have := dp_mem ht
    exact ⟨t, eq_bears I n A.in1 t x _ _ _ _ (by omega) (by show A.units + 1 + n < cLine; omega) bt bx ru ra, _, ru, bt⟩
  open Classical in
  refine ⟨fun y => if h : ∃ t, EqAt A.in1 s y a (eqTh t x) ∧ ∃ w, RelV w y ∧ Bears X.K H w t then eqTh h.choose x else false, ?_, fun y hy => ?_⟩
  · clear hd
    induction r generalizing ts with
    | nil => cases b; rfl
    | @cons v' y' vs us ry rs ih =>
      cases b with
      | @cons _ t _ ts' bt br =>
        rw [List.any_cons, anyEq, ih br fun z hz => key z (List.mem_cons_of_mem _ hz)]
        congr 1
        have h := key y' List.mem_cons_self
        simp only [dif_pos h]
        obtain ⟨_, w, rw', bw⟩ := h.choose_spec
        have e1 : w = v' := rw'.inj ry
        subst e1
        rw [Bears.det I _ (Nat.le_refl _) bw bt]
  · have h := key y hy
    simp only [dif_pos h]
    exact h.choose_spec.1
def rInD (K : PySem.W.Frag) (neg : Bool) : R2 := fun v u H Q => ∃ x p xs ts, u = .ref p ∧ Bears K H v x ∧ (SqL K H p xs ∨ SqT K H p xs) ∧ BearsL K H xs ts ∧ dpL ts < 100 ∧ Q (.bl (if neg then !anyEq x ts else anyEq x ts)) H
theorem op_inD (hr : Room k X.A) : OpR X (compareOp .In) (rInD X.K false) := by
  intro pins s σ H v u a b Q I ra rb h
  obtain ⟨x, p, xs, ts, rfl, bx, hs, bts, hd, q⟩ := h
  cases rb
  have hu := hr.un
  rcases hs with hs | hs
  · obtain ⟨its, r, hl⟩ := lst_is I hs
    obtain ⟨e, he, hk⟩ := any_bears (A := X.A) I bx ra (n := 100) (by omega) r bts hd
    exact in_listAt e hl (fun y hy => hk y (by simpa using hy)) ⟨.bl _, H, I, by rw [List.any_toArray, he]; rfl, q⟩
  · obtain ⟨its, r, hl⟩ := tup_is I hs
    obtain ⟨e, he, hk⟩ := any_bears (A := X.A) I bx ra (n := 100) (by omega) r bts hd
    exact in_tupleAt e hl (fun y hy => hk y (by simpa using hy)) ⟨.bl _, H, I, by rw [List.any_toArray, he]; rfl, q⟩
def inS (x y : Str) : Bool := !(Builtin.Str.occurrences y x 0 y.length 1).isEmpty
def oIn (neg : Bool) : Th → Th → Option Th
  | x, .lst ts => if decide (dpL ts < 100) = true then some (.bl (if neg then !anyEq x ts else anyEq x ts)) else none
  | x, .tup ts => if decide (dpL ts < 100) = true then some (.bl (if neg then !anyEq x ts else anyEq x ts)) else none
  | .str x, .str y => some (.bl (if neg then !inS x y else inS x y))
  | _, _ => none
def rInS (neg : Bool) : R2 := fun x y H Q => ∃ i j, x = .str i ∧ y = .str j ∧ Q (.bl (if neg then !inS i j else inS i j)) H
def rInA (K : PySem.W.Frag) (neg : Bool) : R2 := fun x y H Q => rInD K neg x y H Q ∨ rInS neg x y H Q
theorem op_inS : OpR X (compareOp .In) (rInS false) := fun pins s σ H x y v u Q I rx ry h => op_in_str pins s σ H x y v u Q I rx ry h
theorem opD_in {neg : Bool} : OpD K (rInA K neg) (oIn neg) := fun H O v u x y z Q hn hx hy e q => by
  unfold oIn at e
  split at e
  · split at e
    · rename_i hd
      cases e
      obtain ⟨a, xs, rfl, h1, b1⟩ := hy.lst
      exact .inl ⟨_, a, xs, _, rfl, hx.bears, .inl h1, b1.mono (less_sub H O), of_decide_eq_true hd, q _ H (Same.refl H) (.bl _)⟩
    · cases e
  · split at e
    · rename_i hd
      cases e
      obtain ⟨a, xs, rfl, h1, b1⟩ := hy.tup
      exact .inl ⟨_, a, xs, _, rfl, hx.bears, .inr ((less_sub H O).seqT h1), b1.mono (less_sub H O), of_decide_eq_true hd, q _ H (Same.refl H) (.bl _)⟩
    · cases e
  · cases e
    exact .inr ⟨_, _, hx.str, hy.str, q _ H (Same.refl H) (.bl _)⟩
  · cases e
theorem pd_in (hr : Room k X.A) (ha : PB X a fa) (hb : PB X b fb) (hm : behindInMarks .In b = false := by with_unfolding_all rfl) : PD X (.Compare a [.In] [b] pos) (f2 (oIn false) fa fb) := pd_cmp ((op_inD hr).or op_inS) opD_in ha hb hm
end
end L2
namespace L2
open PySem PySem.Spec PyProof.Rows
def tyTh : Th → String
  | .non => "NoneType"
  | .bl _ => "bool"
  | .int _ => "int"
  | .str _ => "str"
  | .tup _ => "tuple"
  | .lst _ => "list"
inductive BaseT : String → Prop where
  | str : BaseT "str" | tuple : BaseT "tuple" | list : BaseT "list" | int : BaseT "int" | bool : BaseT "bool"
def isB (t T : String) : Bool := t == T || (t == "bool" && T == "int")
theorem kit_base (K : PySem.W.Frag) (x : Th) {T : String} (h : BaseT T) : PySem.W.kitOne K (.type (tyTh x)) (.type T) = some (isB (tyTh x) T) := by
  cases h <;> cases x <;> (first | rfl | (simp only [tyTh]; unfold PySem.W.kitOne PySem.W.kitCls PySem.W.subIn; kernel_rfl) | (simp only [tyTh]; unfold PySem.W.kitOne PySem.W.kitCls PySem.W.subIn; decide +kernel))
section
variable {X : Cx} {K : PySem.W.Frag} {a b c e : Expr} {fa fb fc f : FD} {pos : Pos} {k : Nat}
def rIsI (K : PySem.W.Frag) (T : String) : List V → Hp → VK → Prop := fun xs H Q => ∃ v x, xs = [v, .ty T] ∧ Bears K H v x ∧ Q (.bl (isB (tyTh x) T)) H
theorem call_isI {T : String} (hT : BaseT T) : CallR X (.builtin "isinstance") (rIsI X.K T) := by
  intro pins s σ H xs us Q I r h
  obtain ⟨v, x, rfl, b, q⟩ := h
  cases r with
  | cons r1 r2 => cases r2 with
    | cons r2 r3 =>
      cases r3
      cases (show _ = Value.type T from r2)
      have e := kit_base X.K x hT
      have fin : ∀ tk, EP X pins σ Q (.bool (isB (tyTh x) T)) { s with toks := tk } := fun tk => ⟨.bl _, H, I.tok _, rfl, q⟩
      cases b with
      | non => cases r1; exact PySem.W.kia_one PySem.W.kitx_none I.kIn True.intro e (fun z => nomatch z) fin
      | bl y => cases r1; exact PySem.W.kia_one PySem.W.kitx_bool I.kIn True.intro e (fun z => nomatch z) fin
      | int i => obtain ⟨t, rfl⟩ := r1; exact PySem.W.kia_one PySem.W.kitx_int I.kIn True.intro e (fun z => nomatch z) fin
      | str y => obtain ⟨t, rfl⟩ := r1; exact PySem.W.kia_one PySem.W.kitx_str I.kIn True.intro e (fun z => nomatch z) fin
      | tup e' h' =>
        cases r1
        obtain ⟨its, _, o, h1, h2, _⟩ := tup_is I e'
        exact PySem.W.kia_one PySem.W.kitx_tuple I.kIn ⟨o, h1, h2⟩ e (fun z => nomatch z) fin
      | lst e' h' =>
        cases r1
        obtain ⟨its, _, o, h1, h2, _⟩ := lst_is I e'
        exact PySem.W.kia_one PySem.W.kitx_list I.kIn ⟨o, h1, h2⟩ e (fun z => nomatch z) fin
def fIsI (T : String) (f : FD) : FD := fun d => (f d).map fun x => .bl (isB (tyTh x) T)
theorem pd_isI {T : String} {N : Str} {p p2 : Pos} (hT : BaseT T) (ha : PB X a fa) (hg : Gl X "isinstance") (hm : X.mg "isinstance" = none) (hgT : Gl X N) (hmT : X.mg N = none) (hv : bootBuiltins N = some (.type T))
    (hnN : N ≠ "__name__" := by decide) (hdN : (N == ("__debug__" : Str)) = false := by decide)
    (he : starEach [a, .Name N p2] X.env = (false, eval a X.env) :: starEach [.Name N p2] X.env := by rfl) (hpl : (backTo pos (starEach [.Name N p2] X.env)).any (·.1) = false := by rfl) (he2 : starEach [.Name N p2] X.env = (false, eval (.Name N p2) X.env) :: starEach [] X.env := by rfl) :
    PD X (.Call (.Name "isinstance" p) [a, .Name N p2] [] pos) (fIsI T fa) :=
  PE.imp (pe_callB (call_isI hT) hg hm (by rfl) (pa_cons ha (pa_cons (pe_bltn (v := .ty T) hgT hmT hv rfl hnN hdN) pa_nil he2) he) (by decide) (by decide) he hpl) fun σ H Q ⟨O, d, T', R, e, q⟩ => by
    unfold fIsI at e
    cases hf : fa d with
    | none => rw [hf] at e; cases e
    | some x =>
      rw [hf] at e
      cases e
      exact ⟨O, d, x, R, hf, fun v H' s b => ⟨v, x, rfl, b.bears, q _ H' s (.bl _)⟩⟩
theorem pd_globI {x : Str} {i : Int} {t : Tok} (hg : Gl X x) (hm : X.mg x = some (.int i t)) (hd : (x == ("__debug__" : Str)) = false := by decide) : PD X (.Name x pos) (fC (.int i)) := pd_const (pe_glob (v := .int i) hg hm ⟨t, rfl⟩ hd) fun _ => .int i
theorem pd_globS {x y : Str} {t : Tok} (hg : Gl X x) (hm : X.mg x = some (.str y t)) (hd : (x == ("__debug__" : Str)) = false := by decide) : PD X (.Name x pos) (fC (.str y)) := pd_const (pe_glob (v := .str y) hg hm ⟨t, rfl⟩ hd) fun _ => .str y
def boolsOf : List Th → Option (List Bool)
  | [] => some []
  | .bl b :: r => (boolsOf r).map (b :: ·)
  | _ => none
theorem bools_rel {H : Hp} : ∀ {ts : List Th} {bs : List Bool} {vs : List V} {us : List Value}, boolsOf ts = some bs → BearsL K H vs ts → Vals vs us → LSm.BoolsAre us bs
  | [], _, _, _, e, b, r => by cases e; cases b; cases r; exact .nil
  | t :: ts, _, _, _, e, b, r => by
    cases b with
    | cons b1 b2 => cases r with
      | cons r1 r2 =>
        cases b1 with
        | bl y =>
          unfold boolsOf at e
          cases hb : boolsOf ts with
          | none => rw [hb] at e; cases e
          | some bs =>
            rw [hb] at e
            cases e
            cases r1
            exact .cons y (bools_rel hb b2 r2)
        | _ => cases e
def rAll (K : PySem.W.Frag) (any : Bool) : List V → Hp → VK → Prop := fun xs H Q => ∃ p ys ts bs, xs = [.ref p] ∧ SqL K H p ys ∧ BearsL K H ys ts ∧ boolsOf ts = some bs ∧ Q (.bl (if any then bs.any id else bs.all id)) H
theorem call_all (hc : X.calm = true) : CallR X (.builtin "all") (rAll X.K false) := by
  intro pins s σ H xs us Q I r h
  obtain ⟨p, ys, ts, bs, rfl, hs, b, e, q⟩ := h
  obtain ⟨u, rfl, ru⟩ := vals1 r
  cases ru
  obtain ⟨its, r', hl⟩ := lst_is I hs
  have hlt : p < s.heap.objs.size := by obtain ⟨_, e, _⟩ := hl; exact Heap.lt_size e
  have hb := bools_rel e b r'
  refine call_all_walk (wpAny_pyIter_list hl ?_)
  refine ⟨s.heap.objs.size, [s.heap.objs.size, p], [s.heap.objs.size], its.toArray.size, _, _, fun i => (bs[i]?).getD true, rfl, Walks.list (A := X.A.in1) (I.ok.hd hc) _ p (Nat.ne_of_lt hlt) its.toArray,
    ⟨⟨_, Heap.get?_push_size _ rfl, rfl, rfl⟩, hl.push _⟩, fun i v s' Q' E' hP hQ => ?_, fun h' tk hk => ?_⟩
  · obtain ⟨b, e, rfl⟩ := hb.get i v (by simpa using hP)
    simp only [e, Option.getD_some] at hQ
    exact wpAny_truthy_bool hQ
  · have e : ((List.range its.toArray.size).all fun i => (bs[i]?).getD true) = bs.all id := by
      rw [List.size_toArray, hb.length]; exact LSm.range_all bs
    rw [e]
    exact ⟨.bl _, H, I.kept (t' := tk) (LSm.kept_iter hk), rfl, q⟩
def oAll (any : Bool) : List Th → Option Th
  | [.lst ts] => (boolsOf ts).map fun bs => .bl (if any then bs.any id else bs.all id)
  | _ => none
theorem callD_all {any : Bool} : CallD K (rAll K any) (oAll any) := fun H O vs ts z Q hn h e q => by
  unfold oAll at e
  split at e
  · rename_i us
    obtain ⟨v, rfl, h1⟩ := paired1 h
    cases hb : boolsOf us with
    | none => rw [hb] at e; cases e
    | some bs =>
      rw [hb] at e
      cases e
      obtain ⟨a, xs, rfl, h2, b⟩ := h1.lst
      exact ⟨a, xs, us, bs, rfl, h2, b.mono (less_sub H O), hb, q _ H (Same.refl H) (.bl _)⟩
  · cases e
theorem pd_all {p : Pos} {es : List Expr} {fs : FL} (hc : X.calm = true) (hg : Gl X "all") (hm : X.mg "all" = none) (ha : PBA X (e :: es) fs) (he : starEach (e :: es) X.env = (false, eval e X.env) :: starEach es X.env := by rfl) (hpl : (backTo pos (starEach es X.env)).any (·.1) = false := by rfl) : PD X (.Call (.Name "all" p) (e :: es) [] pos) (fCB (oAll false) fs) :=
  pd_callB' (call_all hc) callD_all hg hm (by rfl) ha (by decide) (by decide) he hpl
def keyOf : Th → Option Key
  | .int i => some (.inl i)
  | .str x => some (.inr x)
  | _ => none
def keysOf : List Th → Option (List Key)
  | [] => some []
  | t :: r => (keyOf t).bind fun k => (keysOf r).map (k :: ·)
theorem keys_rel {H : Hp} : ∀ {ts : List Th} {ks : List Key} {vs : List V} {us : List Value}, keysOf ts = some ks → BearsL K H vs ts → Vals vs us → HT.KeysAre us ks
  | [], _, _, _, e, b, r => by cases e; cases b; cases r; exact .nil
  | t :: ts, _, _, _, e, b, r => by
    cases b with
    | cons b1 b2 => cases r with
      | cons r1 r2 =>
        unfold keysOf at e
        cases hk : keyOf t with
        | none => rw [hk] at e; cases e
        | some k =>
          rw [hk] at e
          change ((keysOf ts).map (k :: ·)) = _ at e
          cases hb : keysOf ts with
          | none => rw [hb] at e; cases e
          | some bs =>
            rw [hb] at e
            cases e
            refine .cons ?_ (keys_rel hb b2 r2)
            cases b1 with
            | int i => cases hk; obtain ⟨t, rfl⟩ := r1; exact .int i t
            | str i => cases hk; obtain ⟨t, rfl⟩ := r1; exact .str i t
            | _ => cases hk
def rLtK (K : PySem.W.Frag) : R2 := fun x y H Q => ∃ a b xs ys ts us ns ms z, x = .ref a ∧ y = .ref b ∧ SqT K H a xs ∧ SqT K H b ys ∧ BearsL K H xs ts ∧ BearsL K H ys us ∧ keysOf ts = some ns ∧ keysOf us = some ms ∧ HT.lexK ns ms = some z ∧ Q (.bl z) H
theorem op_ltK (hr : Room k X.A) : OpR X (compareOp .Lt) (rLtK X.K) := by
  intro pins s σ H x y v u Q I rx ry h
  obtain ⟨a, b, xs, ys, ts, us, ns, ms, z, rfl, rfl, ha, hb, ba, bb, ka, kb, hz, q⟩ := h
  cases rx
  cases ry
  obtain ⟨its, r1, p1, _⟩ := I.tuple ha
  obtain ⟨its2, r2, p2, _⟩ := I.tuple hb
  exact HT.lt_tupKeys p1 p2 (by simpa using keys_rel ka ba r1) (by simpa using keys_rel kb bb r2) hz hr.units0 ⟨.bl z, H, I, rfl, q⟩
def oLt : Th → Th → Option Th
  | .int i, .int j => some (.bl (decide (i < j)))
  | .str x, .str y => some (.bl (decide (x.cps.toList < y.cps.toList)))
  | .tup ts, .tup us => (keysOf ts).bind fun ns => (keysOf us).bind fun ms => (HT.lexK ns ms).map .bl
  | _, _ => none
def rLtA (K : PySem.W.Frag) : R2 := fun x y H Q => rI0 (fun i j => .bl (decide (i < j))) x y H Q ∨ (∃ i j, x = .str i ∧ y = .str j ∧ Q (.bl (decide (i.cps.toList < j.cps.toList))) H) ∨ rLtK K x y H Q
theorem op_ltA (hr : Room k X.A) : OpR X (compareOp .Lt) (rLtA X.K) := op_lt.or (op_lt_str.or (op_ltK hr))
theorem opD_lt : OpD K (rLtA K) oLt := fun H O v u x y z Q hn hx hy e q => by
  unfold oLt at e
  split at e
  · cases e; exact .inl ⟨_, _, hx.int, hy.int, q _ H (Same.refl H) (.bl _)⟩
  · cases e; exact .inr (.inl ⟨_, _, hx.str, hy.str, q _ H (Same.refl H) (.bl _)⟩)
  · rename_i ts us
    cases h1 : keysOf ts with
    | none => rw [h1] at e; cases e
    | some ns =>
      rw [h1] at e
      change ((keysOf us).bind fun ms => (HT.lexK ns ms).map Th.bl) = _ at e
      cases h2 : keysOf us with
      | none => rw [h2] at e; cases e
      | some ms =>
        rw [h2] at e
        change ((HT.lexK ns ms).map Th.bl) = _ at e
        cases h3 : HT.lexK ns ms with
        | none => rw [h3] at e; cases e
        | some k =>
          rw [h3] at e
          cases e
          obtain ⟨a, xs, rfl, g1, b1⟩ := hx.tup
          obtain ⟨b, ys, rfl, g2, b2⟩ := hy.tup
          exact .inr (.inr ⟨a, b, xs, ys, ts, us, ns, ms, k, rfl, rfl, (less_sub H O).seqT g1, (less_sub H O).seqT g2, b1.mono (less_sub H O), b2.mono (less_sub H O), h1, h2, h3, q _ H (Same.refl H) (.bl k)⟩)
  · cases e
theorem pd_lt (hr : Room k X.A) (ha : PB X a fa) (hb : PB X b fb) : PD X (.Compare a [.Lt] [b] pos) (f2 oLt fa fb) := pd_cmp (op_ltA hr) opD_lt ha hb (nomark _)
theorem pdt_lt (hr : Room k X.A) (ha : PB X a fa) (hb : PB X b fb) : PDT X (.Compare a [.Lt] [b] pos) (fTest (f2 oLt fa fb)) := pdt_cmp (op_ltA hr) opD_lt ha hb (nomark _)
def oCmpI (p : Int → Int → Bool) : Th → Th → Option Th
  | .int i, .int j => some (.bl (p i j))
  | _, _ => none
theorem opD_cmpI {p : Int → Int → Bool} : OpD K (rI0 fun i j => .bl (p i j)) (oCmpI p) := fun H O v u x y z Q hn hx hy e q => by
  unfold oCmpI at e
  split at e
  · cases e; exact ⟨_, _, hx.int, hy.int, q _ H (Same.refl H) (.bl _)⟩
  · cases e
abbrev oLe := oCmpI fun i j => decide (i ≤ j)
abbrev oGt := oCmpI fun i j => decide (j < i)
abbrev oGe := oCmpI fun i j => decide (j ≤ i)
theorem pd_le (ha : PB X a fa) (hb : PB X b fb) : PD X (.Compare a [.LtE] [b] pos) (f2 oLe fa fb) := pd_cmp op_le opD_cmpI ha hb (nomark _)
theorem pdt_gt (ha : PB X a fa) (hb : PB X b fb) : PDT X (.Compare a [.Gt] [b] pos) (fTest (f2 oGt fa fb)) := pdt_cmp op_gt opD_cmpI ha hb (nomark _)
theorem chain_lift {r r' : R2} {g g' : Th → Th → Option Th} (hr : OpD K r g) (hr' : OpD K r' g') : ∀ σ H Q, liftD K (fChain g g' fa fb fc) σ H Q → tChain r r' (liftB K fa) (liftB K fb) (liftB K fc) σ H Q := fun σ H Q ⟨O, d, T, R, e, q⟩ => by
  unfold fChain at e
  cases h1 : fa d with
  | none => rw [h1] at e; cases e
  | some x =>
    rw [h1] at e
    change ((fb d).bind _) = _ at e
    cases h2 : fb d with
    | none => rw [h2] at e; cases e
    | some y =>
      rw [h2] at e
      change ((g x y).bind _) = _ at e
      cases h3 : g x y with
      | none => rw [h3] at e; cases e
      | some z =>
        rw [h3] at e
        refine ⟨O, d, x, R, h1, fun v1 H1 s1 b1 => ⟨O, d, y, R.mono s1, h2, fun v2 H2 s2 b2 => ?_⟩⟩
        refine hr H2 O v1 v2 x y z _ (fun p hp => (R.mono (s1.trans s2)).notOwn hp) (b1.mono s2) b2 h3 fun v3 H3 s3 b3 => ?_
        cases b3 with
        | bl c =>
          refine ⟨c, rfl, ?_⟩
          cases c with
          | true =>
            change ((fc d).bind fun u => g' y u) = _ at e
            cases h4 : fc d with
            | none => rw [h4] at e; cases e
            | some u =>
              rw [h4] at e
              refine ⟨O, d, u, R.mono ((s1.trans s2).trans s3), h4, fun v4 H4 s4 b4 => ?_⟩
              exact hr' H4 O v2 v4 y u T Q (fun p hp => (R.mono (((s1.trans s2).trans s3).trans s4)).notOwn hp) (b2.mono (s3.trans s4)) b4 e fun v H' s b => q v H' ((((s1.trans s2).trans s3).trans s4).trans s) b
          | false => cases e; exact q _ H3 ((s1.trans s2).trans s3) (.bl false)
        | _ => cases e
theorem pd_chain {op op' : CmpOp} {r r' : R2} {g g' : Th → Th → Option Th} (ho : OpR X (compareOp op) r) (ho' : OpR X (compareOp op') r') (hr : OpD X.K r g) (hr' : OpD X.K r' g') (ha : PB X a fa) (hb : PB X b fb) (hc : PB X c fc)
    (hm : lastMarks [op, op'] [b, c] = false := by with_unfolding_all rfl) : PD X (.Compare a [op, op'] [b, c] pos) (fChain g g' fa fb fc) := PE.imp (pe_chain ho ho' ha hb hc hm) (chain_lift hr hr')
theorem pdt_chain {op op' : CmpOp} {r r' : R2} {g g' : Th → Th → Option Th} (ho : OpR X (compareOp op) r) (ho' : OpR X (compareOp op') r') (hr : OpD X.K r g) (hr' : OpD X.K r' g') (ha : PB X a fa) (hb : PB X b fb) (hc : PB X c fc)
    (hm : lastMarks [op, op'] [b, c] = false := by with_unfolding_all rfl) : PDT X (.Compare a [op, op'] [b, c] pos) (fTest (fChain g g' fa fb fc)) :=
  PT.imp (pt_chain ho ho' ha hb hc hm) fun σ H Q ⟨O, d, k, R, e, q⟩ => chain_lift hr hr' σ H _ ⟨O, d, .bl k, R, fTest_some e, fun v H' s b => by cases b; exact ⟨k, rfl, q H' s⟩⟩
theorem pd_chainLE (ha : PB X a fa) (hb : PB X b fb) (hc : PB X c fc) (hm : lastMarks [.LtE, .LtE] [b, c] = false := by with_unfolding_all rfl) : PD X (.Compare a [.LtE, .LtE] [b, c] pos) (fChain oLe oLe fa fb fc) := pd_chain op_le op_le opD_cmpI opD_cmpI ha hb hc hm
theorem pdt_chainLE (ha : PB X a fa) (hb : PB X b fb) (hc : PB X c fc) (hm : lastMarks [.LtE, .LtE] [b, c] = false := by with_unfolding_all rfl) : PDT X (.Compare a [.LtE, .LtE] [b, c] pos) (fTest (fChain oLe oLe fa fb fc)) := pdt_chain op_le op_le opD_cmpI opD_cmpI ha hb hc hm
def isNon : Th → Bool
  | .non => true
  | _ => false
def oIsN (neg : Bool) : Th → Th → Option Th
  | x, .non => some (.bl (if neg then !isNon x else isNon x))
  | _, _ => none
theorem bears_non {H : Hp} {v : V} {x : Th} (b : Bears K H v x) : decide (v = .non) = isNon x := by cases b <;> simp [isNon]
theorem opD_isN : OpD K (fun x y H Q => y = .non ∧ Q (.bl (decide (x = .non))) H) (oIsN false) := fun H O v u x y z Q hn hx hy e q => by
  unfold oIsN at e
  split at e
  · cases e
    have hb := hy.bears
    cases hb
    refine ⟨rfl, ?_⟩
    rw [bears_non hx.bears]
    exact q _ H (Same.refl H) (.bl _)
  · cases e
theorem pd_isN (ha : PB X a fa) (hb : PB X b fb) : PD X (.Compare a [.Is] [b] pos) (f2 (oIsN false) fa fb) := pd_cmp op_isN opD_isN ha hb (nomark _)
end
end L2
namespace L2
open PySem PySem.Spec PyProof.Rows
def cutL {α : Type} (xs : List α) (lo hi : Option Int) : List α := (xs.drop (HT.sIx xs.length 0 lo)).take (HT.sIx xs.length xs.length hi - HT.sIx xs.length 0 lo)
theorem cutL_le {α : Type} (xs : List α) (lo hi : Option Int) : (cutL xs lo hi).length ≤ xs.length := by
  unfold cutL
  rw [List.length_take, List.length_drop]
  omega
theorem BearsL.cut {K : PySem.W.Frag} {H : Hp} {vs : List V} {ts : List Th} (b : BearsL K H vs ts) (lo hi : Option Int) : BearsL K H (cutV vs lo hi) (cutL ts lo hi) := by
  unfold cutV cutL
  rw [b.length]
  exact (b.drop _).take _
theorem cut_whole {α : Type} {xs : List α} {lo hi : Option Int} (h : HT.sIx xs.length 0 lo = 0 ∧ HT.sIx xs.length xs.length hi = xs.length) : cutL xs lo hi = xs := by
  unfold cutL
  rw [h.1, h.2, List.drop_zero, Nat.sub_zero, List.take_length]
section
variable {prog : Program} {w : World} {A : Around} {E : Value → Shared → Prop} {s : Shared}
theorem getItem_tuple_all {t sl : Addr} {items : Array Value} {vl vu : Value} {lo hi : Option Int} {Q : Value → Shared → Prop} (ht : IsTup s.heap t items) (hs : s.heap.IsSliceOf sl vl vu .none) (pl : IsPart vl lo) (pu : IsPart vu hi)
    (hw : HT.sIx items.size 0 lo = 0 ∧ HT.sIx items.size items.size hi = items.size) (h : Q (.ref t) s) : wpAny (model prog w) A (getItem (.ref t) (.ref sl)) Q E s := by
  obtain ⟨os, hos, hcs, hds⟩ := id hs
  have hTs : s.TypeIs (.ref sl) "slice" := ⟨os, hos, hcs⟩
  unfold getItem
  try with_reducible refine wpAny_holding ?_
  first | refine wpAny_bind (wpAny_pure ?_) | skip
  refine wpAny_bind (wpAny_sequenceKey ht.typeIs (by decide) ?_)
  refine wpAny_bind (wpAny_callSpecial?_slot (name := Str.ofString "__getitem__") ht.typeIs PyProof.Rows.slot_tuple_getitem
    (wpAny_call_entry PyProof.Rows.slot_tuple_getitem ht.typeIs entry_tuple_getitem ?_ (args_tuple_getitem _ _)))
  show wpAny _ _ (Builtin.Tuple.tupleItemsOf (.ref t) >>= _) _ _ s
  refine wpAny_bind (tupleItemsOf_ ht ?_)
  refine wpAny_bind (wpAny_typeOf hTs ?_)
  rw [if_pos (by decide)]
  refine wpAny_bind (HT.sliceApplied_gen hs pl pu ?_)
  have hyes : (((HT.sIx items.size 0 lo : Nat) : Int) == 0 && (1 : Int) == 1 && (HT.sIx items.size items.size hi - HT.sIx items.size 0 lo) == items.size) = true := by
    rw [hw.1, hw.2]; simp
  show wpAny _ _ (if (((HT.sIx items.size 0 lo : Nat) : Int) == 0 && (1 : Int) == 1 && (HT.sIx items.size items.size hi - HT.sIx items.size 0 lo) == items.size) = true then _ else _) _ _ s
  rw [if_pos hyes]
  unfold Builtin.Tuple.tupleIsExact
  refine wpAny_bind (wpAny_bind (wpAny_typeOf ht.typeIs (wpAny_pure ?_)))
  rw [if_pos (by decide)]
  exact wpAny_bind (wpAny_rule (wpAny_pure ⟨_, rfl, wpAny_pure h⟩))
end
def cutS (x : Str) (lo hi : Option Int) : Str := ⟨(cutL x.cps.toList lo hi).toArray⟩
theorem str_mk (x : Str) : (⟨x.cps.toList.toArray⟩ : Str) = x := by cases x; simp
theorem strSlice_cut (x : Str) (lo hi : Option Int) : (Builtin.Str.strSliceIndices lo hi 1 x.length).filterMap (x.cps[·]?) = cutL x.cps.toList lo hi ∧ (Builtin.Str.strSliceIndices lo hi 1 x.length).length = HT.sIx x.length x.length hi - HT.sIx x.length 0 lo := by
  have e0 : Builtin.Str.strSliceIndices lo hi 1 x.length = sliceRange (sliceBounds lo hi none x.length).1 (sliceBounds lo hi none x.length).2.1 1 := rfl
  obtain ⟨h1, h2, h3⟩ := slice_bounds lo hi x.length
  have hl : x.cps.toList.length = x.length := by simp [Str.length]
  rw [e0, h1, h2, sliceRange_one]
  refine ⟨?_, by simp⟩
  rw [pick_run]
  unfold cutL
  rw [hl]
section
variable {X : Cx} {e a b : Expr} {te tl th : TE} {pos p2 : Pos}
theorem part_of {v : Value} {o : Option Int} (p : IsPart v o) : ∃ q : Option (Int × Tok), v = partValue q ∧ q.map (·.1) = o := by
  cases p with
  | none => exact ⟨none, rfl, rfl⟩
  | int i t => exact ⟨some (i, t), rfl, rfl⟩
def rSlS : V → Option Int → Option Int → Hp → VK → Prop := fun x lo hi H Q => ∃ z, x = .str z ∧ z.length ≤ sizeLine ∧ Q (.str (cutS z lo hi)) H
theorem sl_str : SlR X rSlS := by
  intro pins s σ H x v vl vu lo hi sl Q I rx hs pl pu h
  obtain ⟨z, rfl, hz, q⟩ := h
  obtain ⟨t, rfl⟩ := rx
  obtain ⟨l, rfl, hl⟩ := part_of pl
  obtain ⟨u, rfl, hu⟩ := part_of pu
  refine ⟨"str", _, PySem.F.slot_str_getitem.lookup, typeIs_str _ _ _, wpAny_getItem_str_slice (l := l) (u := u) (st := none) hs rfl ?_⟩
  obtain ⟨c1, c2⟩ := strSlice_cut z lo hi
  have hp : slicePicked z l u none = Builtin.Str.strSliceIndices lo hi 1 z.length := by
    unfold slicePicked; rw [hl, hu]; rfl
  have hzl : z.cps.toList.length = z.length := by simp [Str.length]
  unfold sliceMade
  rw [hp, c1, c2]
  split
  · rename_i hc
    simp only [Bool.and_eq_true, beq_iff_eq] at hc
    have h1 := HT.sIx_le z.length z.length (Nat.le_refl _) hi
    have h0 := HT.sIx_le z.length 0 (Nat.zero_le _) lo
    have e : cutS z lo hi = z := by
      unfold cutS
      rw [cut_whole (by rw [hzl]; omega)]
    rw [e] at q
    exact ⟨.str z, H, I, ⟨t, rfl⟩, q⟩
  · refine ⟨?_, ⟨.str (cutS z lo hi), H, I.tok _, ⟨_, rfl⟩, q⟩⟩
    have := cutL_le z.cps.toList lo hi
    simp only [Str.length, List.size_toArray]
    simp only [Str.length] at hz
    simp only [Array.length_toList] at this
    omega
def rSlTw (K : PySem.W.Frag) : V → Option Int → Option Int → Hp → VK → Prop := fun x lo hi H Q => ∃ a xs, x = .ref a ∧ SqT K H a xs ∧ (HT.sIx xs.length 0 lo = 0 ∧ HT.sIx xs.length xs.length hi = xs.length) ∧ Q (.ref a) H
theorem sl_tupw : SlR X (rSlTw X.K) := by
  intro pins s σ H x v vl vu lo hi sl Q I rx hs pl pu h
  obtain ⟨a, xs, rfl, hx, hw, q⟩ := h
  cases rx
  obtain ⟨its, r, ht, hz⟩ := I.tuple hx
  have hlen : its.toArray.size = xs.length := by rw [List.size_toArray]; exact r.length.symm
  exact ⟨"tuple", _, PyProof.Rows.slot_tuple_getitem.lookup, ht.typeIs, getItem_tuple_all ht hs pl pu (by rw [hlen]; exact hw) ⟨.ref a, H, I, rfl, q⟩⟩
def rSlA (K : PySem.W.Frag) : V → Option Int → Option Int → Hp → VK → Prop := fun x lo hi H Q => rSlS x lo hi H Q ∨ rSlT K x lo hi H Q ∨ rSlTw K x lo hi H Q ∨ rSlL K x lo hi H Q
theorem sl_any : SlR X (rSlA X.K) := sl_str.or (sl_tup.or (sl_tupw.or sl_list))
abbrev FO := Sd → Option (Option Int)
def liftO (K : PySem.W.Frag) (f : FO) : TO := fun σ H Q => ∃ O d o, Rep K H O σ d ∧ f d = some o ∧ ∀ H', Same H H' → Q o H'
def PDO (X : Cx) (e : Option Expr) (f : FO) : Prop := PO X e (liftO X.K f)
theorem PO.imp {e : Option Expr} {t t' : TO} (h : PO X e t) (i : ∀ σ H Q, t' σ H Q → t σ H Q) : PO X e t' := fun pins s σ H Q I q => h pins s σ H Q I (i σ H Q q)
def fNoPart : FO := fun _ => some none
def fPart (f : FD) : FO := fun d => match f d with | some (.int i) => some (some i) | _ => none
theorem pdo_none : PDO X none fNoPart := PO.imp po_none fun σ H Q ⟨O, d, o, R, e, q⟩ => by cases e; exact q H (Same.refl H)
theorem pdo_some {f : FD} (h : PD X e f) : PDO X (some e) (fPart f) := PO.imp (po_some h) fun σ H Q ⟨O, d, o, R, e, q⟩ => by
  unfold fPart at e
  split at e
  · rename_i i hf
    cases e
    exact ⟨O, d, .int i, R, hf, fun v H' s b => by cases b; exact ⟨i, rfl, q H' s⟩⟩
  · cases e
def oSl : Th → Option Int → Option Int → Option Th
  | .str x, lo, hi => if smallN x.length = true then some (.str (cutS x lo hi)) else none
  | .tup ts, lo, hi => some (.tup (cutL ts lo hi))
  | .lst ts, lo, hi => some (.lst (cutL ts lo hi))
  | _, _, _ => none
def fSl (f : FD) (fl fh : FO) : FD := fun d => (f d).bind fun x => (fl d).bind fun lo => (fh d).bind fun hi => oSl x lo hi
theorem fSl_some {f : FD} {fl fh : FO} {d : Sd} {T : Th} (h : fSl f fl fh d = some T) : ∃ x lo hi, f d = some x ∧ fl d = some lo ∧ fh d = some hi ∧ oSl x lo hi = some T := by
  unfold fSl at h
  cases h1 : f d with
  | none => rw [h1] at h; cases h
  | some x =>
    rw [h1] at h
    change ((fl d).bind fun lo => (fh d).bind fun hi => oSl x lo hi) = _ at h
    cases h2 : fl d with
    | none => rw [h2] at h; cases h
    | some lo =>
      rw [h2] at h
      change ((fh d).bind fun hi => oSl x lo hi) = _ at h
      cases h3 : fh d with
      | none => rw [h3] at h; cases h
      | some hi => rw [h3] at h; exact ⟨x, lo, hi, rfl, rfl, rfl, h⟩
theorem cutL_whole_len {α β : Type} {xs : List α} {ys : List β} {lo hi : Option Int} (hl : xs.length = ys.length) (h : HT.sIx xs.length 0 lo = 0 ∧ HT.sIx xs.length xs.length hi = xs.length) : cutL ys lo hi = ys := cut_whole (by rw [← hl]; exact h)
theorem pd_slice {f : FD} {fl fh : FO} {lo hi : Option Expr} (h : PB X e f) (hl : PDO X lo fl) (hh : PDO X hi fh) : PD X (.Subscript e (.Slice lo hi none p2) pos) (fSl f fl fh) := PE.imp (pe_slice sl_any h hl hh) fun σ H Q ⟨O, d, T, R, e, q⟩ => by
  obtain ⟨x, l, u, h1, h2, h3, e⟩ := fSl_some e
  refine ⟨O, d, x, R, h1, fun v H1 s1 bv => ⟨O, d, l, R.mono s1, h2, fun H2 s2 => ⟨O, d, u, R.mono (s1.trans s2), h3, fun H3 s3 => ?_⟩⟩⟩
  have s03 : Same H H3 := (s1.trans s2).trans s3
  have b3 := bv.mono (s2.trans s3)
  unfold oSl at e
  split at e
  · split at e
    · cases e
      exact .inl ⟨_, b3.str, smallN_le ‹_›, q _ H3 s03 (.str _)⟩
    · cases e
  · cases e
    obtain ⟨a, xs, rfl, hx, bx⟩ := b3.tup
    by_cases hw : HT.sIx xs.length 0 l = 0 ∧ HT.sIx xs.length xs.length u = xs.length
    · refine .inr (.inr (.inl ⟨a, xs, rfl, (less_sub H3 O).seqT hx, hw, q _ H3 s03 ?_⟩))
      rw [cutL_whole_len bx.length hw]
      exact .tup hx bx
    · exact .inr (.inl ⟨a, xs, rfl, (less_sub H3 O).seqT hx, hw, fun p hp => q _ _ (s03.trans (Same.upd hp)) (.tup (SqT.of (less_of upd_same ((R.mono s03).notOwn hp))) ((bx.cut l u).mono (less_mono (Same.upd hp))))⟩)
  · cases e
    obtain ⟨a, xs, rfl, hx, bx⟩ := b3.lst
    exact .inr (.inr (.inr ⟨a, xs, rfl, hx, fun p hp => q _ _ (s03.trans (Same.upd hp)) (.lst (SqL.of (less_of upd_same ((R.mono s03).notOwn hp))) ((bx.cut l u).mono (less_mono (Same.upd hp))))⟩))
  · cases e
def fSlF (f : FD) (fl fh : FO) : FL := fun d => match fSl f fl fh d with | some (.lst ts) => some ts | _ => none
theorem pf_slice {f : FD} {fl fh : FO} {lo hi : Option Expr} (h : PB X e f) (hl : PDO X lo fl) (hh : PDO X hi fh) : PF X (.Subscript e (.Slice lo hi none p2) pos) (fSlF f fl fh) := PE.imp (pe_slice sl_any h hl hh) fun σ H Q ⟨O, d, T, R, e, q⟩ => by
  unfold fSlF at e
  split at e
  · rename_i ts e'
    cases e
    obtain ⟨x, l, u, h1, h2, h3, e⟩ := fSl_some e'
    refine ⟨O, d, x, R, h1, fun v H1 s1 bv => ⟨O, d, l, R.mono s1, h2, fun H2 s2 => ⟨O, d, u, R.mono (s1.trans s2), h3, fun H3 s3 => ?_⟩⟩⟩
    have s03 : Same H H3 := (s1.trans s2).trans s3
    have b3 := bv.mono (s2.trans s3)
    unfold oSl at e
    split at e
    · split at e <;> cases e
    · cases e
    · cases e
      obtain ⟨a, xs, rfl, hx, bx⟩ := b3.lst
      exact .inr (.inr (.inr ⟨a, xs, rfl, hx, fun p hp => q _ _ (s03.trans (Same.upd hp)) ⟨p, _, rfl, s03.free hp, upd_same, (bx.cut l u).mono (less_new (Same.upd hp) hp)⟩⟩))
    · cases e
  · cases e
def oIx : Th → Th → Option Th
  | .lst ts, .int i => atI ts i
  | .tup ts, .int i => atI ts i
  | .str x, .int i => if smallN x.length = true then (atI x.cps.toList i).map fun c => .str ⟨#[c]⟩ else none
  | _, _ => none
theorem BearsL.at {K : PySem.W.Frag} {H : Hp} {vs : List V} {ts : List Th} {i : Int} {t : Th} (b : BearsL K H vs ts) (h : atI ts i = some t) : ∃ v, atI vs i = some v ∧ Bears K H v t := by
  unfold atI at h ⊢
  rw [b.length]
  cases e : ixN ts.length i with
  | none => rw [e] at h; cases h
  | some j =>
    rw [e] at h
    exact b.get h
theorem opD_ix {K : PySem.W.Frag} : OpD K (rIx K) oIx := fun H O v u x y z Q hn hx hy e q => by
  unfold oIx at e
  split at e
  · obtain ⟨a, xs, rfl, h1, b1⟩ := hx.lst
    obtain ⟨w, h2, b2⟩ := b1.at e
    exact .inl ⟨a, xs, _, w, rfl, hy.int, h1, h2, q _ H (Same.refl H) b2⟩
  · obtain ⟨a, xs, rfl, h1, b1⟩ := hx.tup
    obtain ⟨w, h2, b2⟩ := b1.at e
    exact .inr (.inl ⟨a, xs, _, w, rfl, hy.int, (less_sub H O).seqT h1, h2, q _ H (Same.refl H) b2⟩)
  · split at e
    · rename_i x' i hz
      cases hc : atI x'.cps.toList i with
      | none => rw [hc] at e; cases e
      | some c =>
        rw [hc] at e
        cases e
        exact .inr (.inr ⟨_, _, c, hx.str, hy.int, smallN_le hz, hc, q _ H (Same.refl H) (.str _)⟩)
    · cases e
  · cases e
theorem pd_ix {fa fb : FD} (ha : PB X a fa) (hb : PB X b fb) (hs : PlainIx b) : PD X (.Subscript a b pos) (f2 oIx fa fb) := PE.imp (pe_ix ix_seq ha hb hs) (tOp_lift opD_ix)
end
end L2
namespace L2
open PySem PySem.Spec PyProof.Rows
end L2
namespace HT
open PySem PyProof.Rows PySem.Builtin
open PySem.AutoSeq1 (wpAny_loadPart')
theorem noFill_tuple_mul : fillsNumberSlot (.type "tuple") "mul" = pure false :=
  PySem.fillsNumberSlot_seq (id := "tuple.__mul__") (r := some (.builtin "tuple.__rmul__")) PySem.F.slot_tuple_mul.lookup (by decide +kernel) PySem.F.slot_tuple_rmul.lookup (by decide +kernel)
theorem repeat_tuple : seqRepeat? (.type "tuple") = pure (some (.builtin "tuple.__mul__")) := by
  unfold seqRepeat?
  rw [PySem.seqSlot_of (T := "tuple") (name := "__mul__") (id := "tuple.__mul__") PySem.F.slot_tuple_mul.lookup (by decide +kernel), PySem.seqSlot_of (T := "tuple") (name := "__rmul__") (id := "tuple.__rmul__") PySem.F.slot_tuple_rmul.lookup (by decide +kernel)]
  rfl
theorem int_rmul_tuple (a : Int) (t : Tok) (l : Addr) (items : Array Value) (n : Nat) (dd : Option Addr) (sl : Array (Option Value)) :
    Meets (Builtin.«int.__rmul__» ⟨[.int a t, .ref l], []⟩) (fun _ R s => s.heap.get? l = some { cls := .type "tuple", dict := dd, data := .seq items n, slots := sl } ∧ R (.ok (.ret Value.notImplemented)) s) :=
  .of_wp fun prog w A R s h => by obtain ⟨hp, g, d, tk, os⟩ := s; obtain ⟨hl, h⟩ := h; wp_walk using wpAny_load hl; exact ⟨_, rfl, h⟩
theorem tuple_mulW (l : Addr) (items : Array Value) (n : Nat) (dd : Option Addr) (sl : Array (Option Value)) (k : Int) (t : Tok) (h1 : ¬ (items.isEmpty = true)) (h2 : 2 ≤ k) (h3 : k < 2 ^ 63) (h4 : items.size * k.toNat ≤ sizeLine) :
    Meets (Builtin.«tuple.__mul__» ⟨[.ref l, .int k t], []⟩) (fun _ R s => s.heap.get? l = some { cls := .type "tuple", dict := dd, data := .seq items n, slots := sl } ∧ R (.ok (.ret (Value.ref s.heap.objs.size))) { s with heap := s.heap.push { cls := Value.type "tuple", data := Data.seq ((List.replicate k.toNat items).foldl (· ++ ·) #[]) }, toks := s.toks }) :=
  .of_wp fun prog w A R s h => by
    obtain ⟨hp, g, d, tk, os⟩ := s; obtain ⟨hl, h⟩ := h
    have f1 := AutoSeq1.idx_int; have f2 := AutoSeq1.sub_tuple_tuple
    have c1 : (decide (k < -(2 ^ 63)) || decide (k ≥ 2 ^ 63)) = false := by rw [decide_eq_false (by omega), decide_eq_false (by omega)]; rfl
    have c2 : (items.isEmpty || k == 1) = false := by
      cases hi : items.isEmpty with
      | true => exact absurd hi h1
      | false => simp; omega
    have c3 : (decide (k ≤ 0) || items.isEmpty) = false := by
      cases hi : items.isEmpty with
      | true => exact absurd hi h1
      | false => simp; omega
    have c4 : ¬ ((items.size : Int) * k > (2 ^ 63 - 1) / 8) := by
      have z : ((items.size * k.toNat : Nat) : Int) ≤ sizeLine := by exact_mod_cast h4
      rw [Int.natCast_mul, Int.toNat_of_nonneg (by omega)] at z
      have : (sizeLine : Int) ≤ (2 ^ 63 - 1) / 8 := by decide
      omega
    have c5 : Builtin.Tuple.tupleTooMany ((items.size : Int) * k) = false := by
      have z : ((items.size * k.toNat : Nat) : Int) ≤ sizeLine := by exact_mod_cast h4
      rw [Int.natCast_mul, Int.toNat_of_nonneg (by omega)] at z
      unfold Builtin.Tuple.tupleTooMany
      exact decide_eq_false (by omega)
    have c1' : ¬ ((decide (k < -(2 ^ 63)) || decide (k ≥ 2 ^ 63)) = true) := by rw [c1]; exact Bool.false_ne_true
    have c2' : ¬ ((items.isEmpty || k == 1) = true) := by rw [c2]; exact Bool.false_ne_true
    have c3' : ¬ ((decide (k ≤ 0) || items.isEmpty) = true) := by rw [c3]; exact Bool.false_ne_true
    have c5' : ¬ (Builtin.Tuple.tupleTooMany ((items.size : Int) * k) = true) := by rw [c5]; exact Bool.false_ne_true
    have hs : ((List.replicate k.toNat items).foldl (· ++ ·) #[]).size ≤ sizeLine := by
      have e : ∀ (m : Nat) (acc : Array Value), ((List.replicate m items).foldl (· ++ ·) acc).size = acc.size + m * items.size := by
        intro m
        induction m with
        | zero => intro acc; simp
        | succ m ih => intro acc; rw [List.replicate_succ, List.foldl_cons, ih, Array.size_append, Nat.succ_mul]; omega
      rw [e]
      simp only [Array.size_empty, Nat.zero_add]
      rw [Nat.mul_comm]; exact h4
    wp_walk using wpAny_loadPart' hl
    rw [if_neg c1']
    wp_walk using wpAny_loadPart' hl
    rw [if_neg c2']
    try dsimp only
    rw [if_neg c3']
    try dsimp only
    rw [if_neg c4]
    try dsimp only
    rw [if_neg c5']
    try dsimp only
    wp_walk
    exact ⟨_, rfl, h⟩
end HT
namespace L2
open PySem PySem.Spec PyProof.Rows
section
variable {X : Cx} {K : PySem.W.Frag} {a b c e : Expr} {fa fb fc f : FD} {pos : Pos} {k : Nat}
def rCatL (K : PySem.W.Frag) : R2 := fun x y H Q => ∃ l b xs zs, x = .ref l ∧ y = .ref b ∧ SqL K H l xs ∧ SqL K H b zs ∧ xs.length + zs.length ≤ sizeLine ∧ ∀ p, H p = none → Q (.ref p) (upd H p (.lst (xs ++ zs)))
theorem op_catL : OpR X (binaryOp .Add) (rCatL X.K) := by
  intro pins s σ H x y v u Q I rx ry h
  obtain ⟨l, b, xs, zs, rfl, rfl, hl, hb, hz, q⟩ := h
  cases rx
  cases ry
  obtain ⟨its, r, ⟨o, n, ho, hc, hdd, hd⟩, _⟩ := I.list hl
  obtain ⟨its2, r2, ⟨o2, n2, ho2, hc2, hdd2, hd2⟩, _⟩ := I.list hb
  obtain ⟨cls, dd, data, sl⟩ := o
  obtain ⟨cls2, dd2, data2, sl2⟩ := o2
  simp only at hc hd hc2 hd2
  subst hc hd hc2 hd2
  have l1 := r.length
  have l2 := r2.length
  refine concat_meets ⟨_, ho, rfl⟩ ⟨_, ho2, rfl⟩ noFill_list_add seq_list_add PySem.F.slot_list_add PySem.F.entry_list_add (PySem.F.args_list_add_2 _ _) (list_addW l b its.toArray its2.toArray n n2 dd dd2 sl sl2 (by simp only [List.size_toArray]; omega)) ⟨ho, ho2, ?_⟩
  have ea : its.toArray ++ its2.toArray = (its ++ its2).toArray := by simp
  rw [ea]
  exact ⟨.ref _, _, I.lnew (t' := s.toks) (r.append r2) (by rw [List.length_append]; omega), rfl, q _ I.fresh⟩
def oPlus : Th → Th → Option Th
  | .lst xs, .lst ys => if smallN (xs.length + ys.length) = true then some (.lst (xs ++ ys)) else none
  | x, y => oAdd x y
def rPlus (K : PySem.W.Frag) : R2 := fun x y H Q => rAddA K x y H Q ∨ rCatL K x y H Q
theorem op_plus : OpR X (binaryOp .Add) (rPlus X.K) := op_addA.or op_catL
theorem opD_plus : OpD K (rPlus K) oPlus := fun H O v u x y z Q hn hx hy e q => by
  unfold oPlus at e
  split at e
  · split at e
    · rename_i hz
      cases e
      obtain ⟨a, xs, rfl, h1, b1⟩ := hx.lst
      obtain ⟨b, ys, rfl, h2, b2⟩ := hy.lst
      have z := smallN_le hz
      rw [← b1.length, ← b2.length] at z
      exact .inr ⟨a, b, xs, ys, rfl, rfl, h1, h2, z, fun p hp => q _ _ (Same.upd hp) (.lst (SqL.of (less_of upd_same (hn p hp))) ((b1.append b2).mono (less_mono (Same.upd hp))))⟩
    · cases e
  · exact .inl (opD_add H O v u x y z Q hn hx hy e q)
theorem pd_plus (ha : PB X a fa) (hb : PB X b fb) : PD X (.BinOp a .Add b pos) (f2 oPlus fa fb) := pd_op op_plus opD_plus ha hb
def rMulT (K : PySem.W.Frag) : R2 := fun x y H Q => ∃ l j xs, x = .ref l ∧ y = .int j ∧ SqT K H l xs ∧ xs ≠ [] ∧ 2 ≤ j ∧ j < 2 ^ 63 ∧ xs.length * j.toNat ≤ sizeLine ∧ ∀ p, H p = none → Q (.ref p) (upd H p (.tup (List.replicate j.toNat xs).flatten))
theorem op_mulT : OpR X (binaryOp .Mult) (rMulT X.K) := by
  intro pins s σ H x y v u Q I rx ry h
  obtain ⟨l, j, xs, rfl, rfl, hl, hne, h2, h3, hz, q⟩ := h
  cases rx
  obtain ⟨t, rfl⟩ := ry
  obtain ⟨its, r, ⟨o, ho, hc, n, hd⟩, _⟩ := I.tuple hl
  obtain ⟨cls, dd, data, sl⟩ := o
  simp only at hc hd
  subst hc hd
  have l1 := r.length
  have hnew : List.foldl (fun x1 x2 => x1 ++ x2) #[] (List.replicate j.toNat its.toArray) = (List.replicate j.toNat its).flatten.toArray := by
    have := foldl_rep its j.toNat []
    rw [List.nil_append] at this
    exact this
  refine wpAny_binaryOp_repeat_ref (T := "tuple") (U := "int") (by decide) ⟨_, ho, rfl⟩ (fun s' => typeIs_int s' j t) HT.noFill_tuple_mul PySem.F.fills_int_mul PySem.F.slot_int_rmul HT.repeat_tuple PySem.F.slot_int_index.lookup
    (call_meets PySem.F.slot_int_rmul (typeIs_int s j t) PySem.F.entry_int_rmul (PySem.F.args_int_rmul_2 _ _) (HT.int_rmul_tuple j t l its.toArray n dd sl)
      ⟨ho, rfl, ⟨_, ho, rfl⟩, call_meets PySem.F.slot_tuple_mul ⟨_, ho, rfl⟩ PySem.F.entry_tuple_mul (PySem.F.args_tuple_mul_2 _ _) (HT.tuple_mulW l its.toArray n dd sl j t (by
        have : its ≠ [] := fun z => hne (r.nil_iff.mp z)
        simpa using this) h2 h3 (by rw [List.size_toArray, ← l1]; exact hz)) ⟨ho, ?_⟩⟩)
  rw [hnew]
  exact ⟨.ref _, _, I.laid (t' := s.toks) (o := .tup (List.replicate j.toNat xs).flatten) (fun b ob q => Heap.get?_push_of_some _ q) (Nat.le_refl _) ⟨by rw [len_rep, Nat.mul_comm]; exact hz, _, r.rep j.toNat, IsTup.new _ _⟩, rfl, q _ (I.hok.fresh (Nat.le_refl _))⟩
def oTimes : Th → Th → Option Th
  | .tup xs, .int j => if decide (xs.length ≠ 0 ∧ 2 ≤ j ∧ j ≤ 1000000 ∧ xs.length * j.toNat ≤ 1000000) = true then some (.tup (List.replicate j.toNat xs).flatten) else none
  | x, y => oMul x y
def rTimes (K : PySem.W.Frag) : R2 := fun x y H Q => rMulA x y H Q ∨ rMulT K x y H Q
theorem op_times : OpR X (binaryOp .Mult) (rTimes X.K) := op_mulA.or op_mulT
theorem opD_times : OpD K (rTimes K) oTimes := fun H O v u x y z Q hn hx hy e q => by
  unfold oTimes at e
  split at e
  · split at e
    · rename_i hc
      obtain ⟨h1, h2, h3, h4⟩ := of_decide_eq_true hc
      cases e
      obtain ⟨a, xs, rfl, g1, b1⟩ := hx.tup
      rw [← b1.length] at h1 h4
      exact .inr ⟨a, _, xs, rfl, hy.int, (less_sub H O).seqT g1, fun z => h1 (by rw [z]; rfl), h2, by omega, Nat.le_trans h4 (by decide), fun p hp => q _ _ (Same.upd hp) (.tup (SqT.of (less_of upd_same (hn p hp))) ((b1.rep _).mono (less_mono (Same.upd hp))))⟩
    · cases e
  · exact .inl (opD_mul H O v u x y z Q hn hx hy e q)
theorem pd_times (ha : PB X a fa) (hb : PB X b fb) : PD X (.BinOp a .Mult b pos) (f2 oTimes fa fb) := pd_op op_times opD_times ha hb
theorem pd_callT' {T : String} {x : Str} {p : Pos} {es : List Expr} {fs : FL} {r : List V → Hp → VK → Prop} {g : List Th → Option Th} (hc : CallR X (.type T) r) (hr : CallD X.K r g) (hg : Gl X x) (hm : X.mg x = none) (hv : bootBuiltins x = some (.type T)) (ha : PBA X (e :: es) fs)
    (hn : x ≠ "__name__" := by decide) (hdb : (x == ("__debug__" : Str)) = false := by decide) (he : starEach (e :: es) X.env = (false, eval e X.env) :: starEach es X.env := by rfl) (hpl : (backTo pos (starEach es X.env)).any (·.1) = false := by rfl) :
    PD X (.Call (.Name x p) (e :: es) [] pos) (fCB g fs) := PE.imp (pe_callTy hc hg hm hv ha hn hdb he hpl) (cb_lift hr)
def oTuple : List Th → Option Th
  | [.lst ts] => some (.tup ts)
  | [.tup ts] => some (.tup ts)
  | _ => none
theorem callD_tuple : CallD K (fun xs H Q => ∃ p ys, xs = [.ref p] ∧ ((SqL K H p ys ∧ ∀ l, H l = none → Q (.ref l) (upd H l (.tup ys))) ∨ (SqT K H p ys ∧ Q (.ref p) H))) oTuple := fun H O vs ts z Q hn h e q => by
  unfold oTuple at e
  split at e
  · obtain ⟨v, rfl, h1⟩ := paired1 h
    cases e
    obtain ⟨a, xs, rfl, h2, b⟩ := h1.lst
    exact ⟨a, xs, rfl, .inl ⟨h2, fun p hp => q _ _ (Same.upd hp) (.tup (SqT.of (less_of upd_same (hn p hp))) (b.mono (less_mono (Same.upd hp))))⟩⟩
  · obtain ⟨v, rfl, h1⟩ := paired1 h
    cases e
    obtain ⟨a, xs, rfl, h2, b⟩ := h1.tup
    exact ⟨a, xs, rfl, .inr ⟨(less_sub H O).seqT h2, q _ H (Same.refl H) (.tup h2 b)⟩⟩
  · cases e
theorem pd_tuple {p : Pos} {es : List Expr} {fs : FL} (hg : Gl X "tuple") (hm : X.mg "tuple" = none) (ha : PBA X (e :: es) fs) (he : starEach (e :: es) X.env = (false, eval e X.env) :: starEach es X.env := by rfl) (hpl : (backTo pos (starEach es X.env)).any (·.1) = false := by rfl) : PD X (.Call (.Name "tuple" p) (e :: es) [] pos) (fCB oTuple fs) :=
  pd_callT' call_tuple_of callD_tuple hg hm (by rfl) ha (by decide) (by decide) he hpl
def oInt : List Th → Option Th
  | [.int i] => some (.int i)
  | [.bl b] => some (.int (if b then 1 else 0))
  | _ => none
theorem callD_int : CallD K (fun xs H Q => (∃ i, xs = [.int i] ∧ Q (.int i) H) ∨ ∃ k, xs = [.bl k] ∧ Q (.int (if k then 1 else 0)) H) oInt := fun H O vs ts z Q hn h e q => by
  unfold oInt at e
  split at e
  · obtain ⟨v, rfl, h1⟩ := paired1 h
    cases e
    exact .inl ⟨_, by rw [h1.int], q _ H (Same.refl H) (.int _)⟩
  · obtain ⟨v, rfl, h1⟩ := paired1 h
    cases e
    have hb := h1.bears
    cases hb
    exact .inr ⟨_, rfl, q _ H (Same.refl H) (.int _)⟩
  · cases e
theorem pd_intC {p : Pos} {es : List Expr} {fs : FL} (hg : Gl X "int") (hm : X.mg "int" = none) (ha : PBA X (e :: es) fs) (he : starEach (e :: es) X.env = (false, eval e X.env) :: starEach es X.env := by rfl) (hpl : (backTo pos (starEach es X.env)).any (·.1) = false := by rfl) : PD X (.Call (.Name "int" p) (e :: es) [] pos) (fCB oInt fs) :=
  pd_callT' call_int1 callD_int hg hm (by rfl) ha (by decide) (by decide) he hpl
end
end L2
namespace HT
open PySem PyProof.Rows PySem.Builtin
open PySem.AutoSeq1 (wpAny_loadPart')
section
variable {prog : Program} {w : World} {A : Around} {E : Value → Shared → Prop} {s : Shared}
theorem nextOf_tuple_item {it l : Addr} {i : Nat} {items} {x : Value} {Q : Value → Shared → Prop} (hit : s.heap.IsTupleIter it l i)
    (hl : s.heap.IsTuple l items) (hx : items[i]? = some x)
    (hQ : ∀ h', h'.IsTupleIter it l (i + 1) → Heap.SameBut it s.heap h' → Q x { s with heap := h' }) :
    wpAny (model prog w) A (Builtin.SmallTypes.nextOf (.ref it)) Q E s := by
  obtain ⟨o, ho, hc, hd⟩ := id hit
  obtain ⟨ol, hol, _, nl, hdl⟩ := hl
  unfold Builtin.SmallTypes.nextOf
  refine wpAny_bind (wpAny_callSpecial?_slot (name := Str.ofString "__next__") hit.typeIs PySem.F.slot_tuple_iterator_next
    (wpAny_call_entry PySem.F.slot_tuple_iterator_next hit.typeIs PySem.F.entry_tuple_iterator_next ?_ (PySem.F.args_tuple_iterator_next_1 _)))
  show wpAny _ _ (field (.ref it) 0 >>= _) _ _ s
  refine wpAny_bind (wpAny_field ho hd (x := .ref l) rfl ?_)
  show wpAny _ _ (if (Value.ref l == Value.none) = true then _ else _) _ _ s
  rw [if_neg (show ¬ ((Value.ref l == Value.none) = true) from Bool.false_ne_true)]
  show wpAny _ _ (field (.ref it) 1 >>= _) _ _ s
  refine wpAny_bind (wpAny_field ho hd (x := .int i 0) rfl ?_)
  show wpAny _ _ (seqItems? (.ref l) >>= _) _ _ s
  refine wpAny_bind (wpAny_seqItems hol hdl ?_)
  simp only [Int.toNat_natCast, hx]
  refine wpAny_bind (wpAny_setField ho hd (by simp) (wpAny_pure ⟨x, rfl, wpAny_pure (hQ _ ?_ (Heap.SameBut.update ..))⟩))
  exact ⟨_, Heap.get?_update_self _ ho (Obj.isFreed_of_fields (Obj.data_mapFields hd _)), (Obj.cls_mapFields ..).trans hc, by
    rw [Obj.data_mapFields hd]; simp [rawInt]⟩
theorem nextOf_tuple_end {it l : Addr} {i : Nat} {items} {Q : Value → Shared → Prop} (hh : A.handled = none)
    (hit : s.heap.IsTupleIter it l i) (hl : s.heap.IsTuple l items) (hx : items[i]? = none)
    (hE : ∀ h' e, Heap.ExtBut it s.heap h' → (∃ o, h'.get? e = some o ∧ o.cls = .type "StopIteration") → E (.ref e) { s with heap := h' }) :
    wpAny (model prog w) A (Builtin.SmallTypes.nextOf (.ref it)) Q E s := by
  obtain ⟨o, ho, hc, hd⟩ := id hit
  obtain ⟨ol, hol, _, nl, hdl⟩ := hl
  unfold Builtin.SmallTypes.nextOf
  refine wpAny_bind (wpAny_callSpecial?_slot (name := Str.ofString "__next__") hit.typeIs PySem.F.slot_tuple_iterator_next
    (wpAny_call_entry PySem.F.slot_tuple_iterator_next hit.typeIs PySem.F.entry_tuple_iterator_next ?_ (PySem.F.args_tuple_iterator_next_1 _)))
  show wpAny _ _ (field (.ref it) 0 >>= _) _ _ s
  refine wpAny_bind (wpAny_field ho hd (x := .ref l) rfl ?_)
  show wpAny _ _ (if (Value.ref l == Value.none) = true then _ else _) _ _ s
  rw [if_neg (show ¬ ((Value.ref l == Value.none) = true) from Bool.false_ne_true)]
  show wpAny _ _ (field (.ref it) 1 >>= _) _ _ s
  refine wpAny_bind (wpAny_field ho hd (x := .int i 0) rfl ?_)
  show wpAny _ _ (seqItems? (.ref l) >>= _) _ _ s
  refine wpAny_bind (wpAny_seqItems hol hdl ?_)
  simp only [Int.toNat_natCast, hx]
  refine wpAny_bind (wpAny_rule (wpAny_bind (wpAny_setField ho hd (by simp) ?_)))
  show wpAny _ _ (newExc (.type "StopIteration") [] >>= _) _ _ _
  refine wpAny_bind ?_
  simp only [newExc, newTuple]
  refine wpAny_bind (wpAny_newObj_type ?_ (by size_fits))
  refine wpAny_bind (m := firstArgMember _ _) (wpAny_of_eq (a := Value.none) (by first | rfl | (simp only [firstArgMember]; rfl)) ?_)
  refine wpAny_newObj_type ?_ (by size_fits)
  simp only [raiseNew]
  refine wpAny_bind (wpAny_handled ?_)
  first | rw [show A.in1.handled = none from hh] | rw [hh]
  refine wpAny_bind (wpAny_pure (wpAny_throw ?_))
  exact hE _ _ (((Heap.SameBut.update ..).extBut.push _).push _) ⟨_, Heap.get?_push_size _ rfl, rfl⟩
theorem draws_tuple (hh : A.handled = none) (it l : Addr) (hne : l ≠ it) (items : Array Value) :
    Draws prog w A it [it, l] items.size (fun i v => items[i]? = some v) (fun i h => h.IsTupleIter it l i ∧ h.IsTuple l items) where
  live := fun _ _ st => let ⟨o, ho, _⟩ := st.1; ⟨o, ho⟩
  frame := fun _ _ _ st hk => ⟨by
    obtain ⟨⟨o, ho, r⟩, _⟩ := st
    exact ⟨o, hk it (by simp) o ho, r⟩, by
    obtain ⟨_, ⟨o, ho, r⟩⟩ := st
    exact ⟨o, hk l (by simp) o ho, r⟩⟩
  item := fun i s Q E hi st hQ => by
    refine nextOf_tuple_item st.1 st.2 (x := items[i]) (by simp [hi]) fun h' hit' hs' => ?_
    exact hQ _ h' s.toks (by simp [hi]) ⟨hit', st.2.extBut hs'.extBut hne⟩ hs'
  done := fun s Q E st hE => nextOf_tuple_end hh st.1 st.2 (by simp) hE
theorem meets_enumerate_newT (l : Addr) (items : Array Value) (n : Nat) (dct : Option Addr) (sl : Array (Option Value)) :
    Meets (Builtin.«enumerate.__new__» ⟨[.type "enumerate", .ref l], []⟩) (fun _ R s => s.heap.get? l = some { cls := .type "tuple", dict := dct, data := .seq items n, slots := sl } ∧
      R (.ok (.ret (.ref (s.heap.push { cls := .type "tuple_iterator", data := .fields #[.ref l, .int 0 0] }).objs.size)))
        { s with heap := (s.heap.push { cls := .type "tuple_iterator", data := .fields #[.ref l, .int 0 0] }).push { cls := .type "enumerate", data := .fields #[.none, .bool false, .ref s.heap.objs.size, rawInt 0, .none, .none] } }) :=
  .of_wp fun prog w A R s h => by
    obtain ⟨hp, g, d, tk, os⟩ := s; obtain ⟨hl, h⟩ := h
    have hsub := sub_enumerate
    have hL : Heap.IsTuple (Shared.heap ⟨hp, g, d, tk, os⟩) l items := ⟨_, hl, rfl, n, rfl⟩
    wp_walk using wpAny_loadPart' hl
    refine wpAny_stack_any fun st => wpAny_pure ?_
    split
    · rename_i c _ _ _ _ _
      cases (c == Value.type "enumerate")
      · wp_walk using wpAny_loadPart' hl, wpAny_pyIter_tuple hL
        exact ⟨_, rfl, h⟩
      · wp_walk using wpAny_loadPart' hl, wpAny_pyIter_tuple hL
        exact ⟨_, rfl, h⟩
    · wp_walk using wpAny_loadPart' hl, wpAny_pyIter_tuple hL
      exact ⟨_, rfl, h⟩
theorem call_enumerate_tuple {l : Addr} {items : Array Value} {Q : Value → Shared → Prop} (hL : s.heap.IsTuple l items)
    (h : ∀ h', IsEnum h' (s.heap.objs.size + 1) s.heap.objs.size 0 .none → h'.IsTupleIter s.heap.objs.size l 0 → h'.objs.size = s.heap.objs.size + 2 →
      (∀ b o, s.heap.get? b = some o → h'.get? b = some o) → Q (.ref (s.heap.objs.size + 1)) { s with heap := h' }) :
    wpAny (model prog w) A (call (.type "enumerate") [.ref l]) Q E s := by
  obtain ⟨⟨c, dct, dt, sl⟩, hl, hc, n, hd⟩ := hL
  replace hc : c = .type "tuple" := hc
  replace hd : dt = .seq items n := hd
  subst hc hd
  refine callType_new PySem.F.called_enumerate (by decide) (PySem.F.typeCall_enumerate_1 _) (PySem.F.newCall_enumerate_1 _) (fun obj => PySem.F.args_object_init_2 obj _) PySem.F.entry_enumerate_new
    (meets_enumerate_newT l items n dct sl) ⟨hl, ?_⟩
  have hz : (s.heap.push { cls := .type "tuple_iterator", data := .fields #[.ref l, .int 0 0] }).objs.size = s.heap.objs.size + 1 := Heap.size_push ..
  show _ ∧ _
  rw [hz]
  have he : IsEnum ((s.heap.push { cls := .type "tuple_iterator", data := .fields #[.ref l, .int 0 0] }).push
      { cls := .type "enumerate", data := .fields #[.none, .bool false, .ref s.heap.objs.size, rawInt 0, .none, .none] }) (s.heap.objs.size + 1) s.heap.objs.size 0 .none := by
    have := Heap.get?_push_size (s.heap.push { cls := .type "tuple_iterator", data := .fields #[.ref l, .int 0 0] })
      (o := { cls := .type "enumerate", data := .fields #[.none, .bool false, .ref s.heap.objs.size, rawInt 0, .none, .none] }) rfl
    rw [hz] at this; exact this
  refine ⟨⟨_, he, rfl⟩, h _ he ⟨_, Heap.get?_push_of_some _ (Heap.get?_push_size _ rfl), rfl, rfl⟩ (by rw [Heap.size_push, hz]) fun b o x => Heap.get?_push_of_some _ (Heap.get?_push_of_some _ x)⟩
theorem draws_str (hh : A.handled = none) (it : Addr) (x : Str) (t : Tok) :
    Draws prog w A it [it] x.cps.size (fun i v => ∃ c u, x.cps[i]? = some c ∧ v = .str ⟨#[c]⟩ u) (fun i h => h.IsStrIter it (strIterType x) x t i) := by
  cases ha : x.cps.all (· < 128)
  · have e : strIterType x = "str_iterator" := by simp [strIterType, ha]
    rw [e]; exact Draws.strWide hh it x t
  · have e : strIterType x = "str_ascii_iterator" := by simp [strIterType, ha]
    rw [e]; exact Draws.strAscii hh it x t
end
end HT
namespace L2
open PySem PySem.Spec PyProof.Rows
theorem Inv.turned2 {X : Cx} {pins : List (Addr × Obj)} {σ : St} {H : Hp} {s : Shared} {h' : Heap} {t' : Nat} {e it : Addr} (I : Inv X pins σ H s) (k : ∀ b o, b ≠ e → b ≠ it → s.heap.get? b = some o → h'.get? b = some o)
    (en : H e = none) (eL : e ≠ X.env.locals) (e1 : e ∈ X.ex ∨ X.s₀.heap.objs.size ≤ e) (e2 : ∀ x c, X.env.cells.lookup x = some c → c ≠ e) (e3 : ∀ p ∈ X.pn ++ pins, p.1 ≠ e)
    (hn : H it = none) (hL : it ≠ X.env.locals) (h1 : it ∈ X.ex ∨ X.s₀.heap.objs.size ≤ it) (h2 : ∀ x c, X.env.cells.lookup x = some c → c ≠ it) (h3 : ∀ p ∈ X.pn ++ pins, p.1 ≠ it) : Inv X pins σ H { s with heap := h', toks := t' } := by
  have nit : ∀ b u, H b = some u → b ≠ e ∧ b ≠ it := fun b u q => ⟨(fun z => by rw [z, en] at q; cases q), (fun z => by rw [z, hn] at q; cases q)⟩
  refine I.step (g' := s.gens) (d' := s.drawn) (ch := [e, it]) (fun b hb => ?_) (fun b o _ _ hc q _ => k b o (fun z => hc (by simp [z])) (fun z => hc (by simp [z])) q) (fun b o _ _ hc q _ => ⟨o.slots, k b o (fun z => hc (by simp [z])) (fun z => hc (by simp [z])) q⟩) (fun _ _ _ _ n => n)
    (fun b o hc q => ⟨o, k b o (fun z => hc (by simp [z])) (fun z => hc (by simp [z])) q⟩) (fun _ _ q => q) (fun _ _ _ q => q) (fun b ps q => ⟨#[], by rw [q]; simp⟩) (fun m hm => ?_) (fun b u q => ?_) I.bare
  · have z : b = e ∨ b = it := by simpa using hb
    rcases z with rfl | rfl
    · exact ⟨e1, eL, e2, e3⟩
    · exact ⟨h1, hL, h2, h3⟩
  · obtain ⟨o, es, ep, ho, r⟩ := hm
    exact ⟨o, es, ep, k _ o (Ne.symm eL) (Ne.symm hL) ho, r⟩
  · refine (I.hok b u q).stay (fun c v hc z => k c v ?_ ?_ z) (fun _ z => z) fun _ _ z => z
    · rcases hc with z | z
      · rw [z]; exact (nit b u q).1
      · exact (nit c _ z).1
    · rcases hc with z | z
      · rw [z]; exact (nit b u q).2
      · exact (nit c _ z).2
def Ite (J : It) : It := ⟨J.go, fun i H x H'' => ∃ y H' T, J.yld i H y H' ∧ x = .ref T ∧ H' T = none ∧ H'' = upd H' T (.tup [.int i, y]), J.stop⟩
theorem enum_item {X : Cx} {es : List Expr} {k1 : Nat} {tp : Pos} {e it : Addr} {i : Nat} {pins : List (Addr × Obj)} {s : Shared} {σ : St} {H : Hp} {E : Value → Shared → Prop} {fp : List Addr} {n : Nat} {P : Nat → Value → Prop} {St : Nat → Heap → Prop} {J : It} {tn : Nat → Heap → Prop} {old : Value}
    (D : Draws X.prog X.w X.A.in1 it fp n P St) (I : Inv X pins σ H s) (hf : ∀ b ∈ [e, it], FpOk X pins H b) (he : IsEnum s.heap e it i old) (hst : St i s.heap) (hlt : i < n) (hne : e ≠ it) (hef : e ∉ fp)
    (hP : ∀ x, P i x → ∃ v, RelV v x ∧ J.yld i H v H) (hS : ∀ h, St (i + 1) h → tn (i + 1) h) (htn : ∀ h h', tn (i + 1) h → (∀ b ∈ [it], ∀ o, h.get? b = some o → h'.get? b = some o) → tn (i + 1) h') :
    wpAny (model X.prog X.w) X.A (pyNext (.ref e)) (fun r s1 => ∃ u, r = some u ∧
      wpAny (model X.prog X.w) X.A (letOwnedTupleGo (.Tuple es k1 tp) (.ref e) u) (fun _ s2 => ∃ x H', Inv X pins σ H' s2 ∧ RelV x u ∧ (Ite J).yld i H x H' ∧ ((∃ old, IsEnum s2.heap e it ((i + 1 : Nat) : Int) old) ∧ tn (i + 1) s2.heap) ∧ ∀ b ∈ [e, it], H' b = none) E s1) E s := by
  obtain ⟨e0, e1, e2, e3, e4, e5⟩ := hf e (by simp)
  obtain ⟨f0, f1, f2, f3, f4, f5⟩ := hf it (by simp)
  refine wpAny_pyNext_enum_itemD D he hst hlt hne hef fun x h' tk hx ho hs' hT hsz hk => ?_
  obtain ⟨v, rv, hy⟩ := hP x hx
  refine ⟨_, rfl, ?_⟩
  refine wpAny_letOwnedTupleGo_enum ho fun h2 he2 hsb => ?_
  have I1 : Inv X pins σ H { s with heap := h2, toks := tk + 1 } := by
    have k2 : ∀ b o, b ≠ e → b ≠ it → s.heap.get? b = some o → h2.get? b = some o := fun b o hb1 hb2 hb => (hsb.2 b hb1).trans (hk b o hb1 hb2 hb)
    exact I.turned2 k2 e0 e1 e3 e4 e5 f0 f1 f3 f4 f5
  have hTn : H s.heap.objs.size = none := I.fresh
  have hlte : e < s.heap.objs.size := Heap.lt_size he
  have hlti : it < s.heap.objs.size := by obtain ⟨o, z⟩ := D.live _ _ hst; exact Heap.lt_size z
  have hT2 : h2.get? s.heap.objs.size = some { cls := .type "tuple", data := .seq #[.int i tk, x] } := (hsb.2 _ (Nat.ne_of_gt hlte)).trans hT
  obtain ⟨g0, g1, g2, g3, g4, g5⟩ := I.fpOk (b := s.heap.objs.size) (H' := H) (Nat.le_refl _) hTn
  refine ⟨.ref s.heap.objs.size, upd H s.heap.objs.size (.tup [.int i, v]), ?_, rfl, ⟨v, H, s.heap.objs.size, hy, rfl, hTn, rfl⟩, ⟨⟨x, by simpa using he2⟩, htn _ _ (hS _ hs') fun b hb o z => ?_⟩, fun b hb => ?_⟩
  · refine I1.track hTn (Nat.le_trans I.sz (Nat.le_refl _)) g1 g4 g5 ?_
    exact ⟨by show 2 ≤ sizeLine; decide, [.int i tk, x], .cons ⟨tk, rfl⟩ (.cons rv .nil), ⟨_, hT2, rfl, _, rfl⟩⟩
  · have : b = it := by simpa using hb
    subst this
    exact (hsb.2 _ (Ne.symm hne)).trans z
  · have : b = e ∨ b = it := by simpa using hb
    rcases this with rfl | rfl
    · rw [upd_ne (Nat.ne_of_lt hlte)]; exact e0
    · rw [upd_ne (Nat.ne_of_lt hlti)]; exact f0
theorem enum_obj {e it : Addr} {i : Int} {h : Heap} (he : ∃ old, IsEnum h e it i old) {b : Addr} (hb : b = e) : ∃ o, h.get? b = some o ∧ ∀ v, o.data ≠ .cell v := by
  subst hb
  obtain ⟨old, he⟩ := he
  exact ⟨_, he, fun v z => by cases z⟩
theorem turn_enumS {P : Program} {w : World} {K : PySem.W.Frag} {es : List Expr} {k1 : Nat} {tp : Pos} (x : Str) (t : Tok) (e it : Addr) (hne : e ≠ it) : Turn P w K (.Tuple es k1 tp) (Ite (Its x)) [e, it] e (fun i h => (∃ old, IsEnum h e it i old) ∧ h.IsStrIter it (strIterType x) x t i) where
  mem := by simp
  obj := fun i h st b hb => by
    have z : b = e ∨ b = it := by simpa using hb
    rcases z with z | z
    · exact enum_obj st.1 z
    · subst z
      obtain ⟨o, e, c, d⟩ := st.2
      exact ⟨o, e, fun v z => by rw [d] at z; cases z⟩
  keep := fun i h h' st k => by
    obtain ⟨⟨old, he⟩, o, e', r⟩ := st
    exact ⟨⟨old, k e (by simp) _ he⟩, o, k it (by simp) o e', r⟩
  item := by
    intro X hP hw hK hc i pins s σ H E I hf st hg
    subst hP hw hK
    obtain ⟨⟨old, he⟩, hs⟩ := st
    exact enum_item (J := Its x) (tn := fun i h => h.IsStrIter it (strIterType x) x t i) (HT.draws_str (A := X.A.in1) (I.ok.hd hc) it x t) I hf he hs hg hne (by simpa using hne) (fun v ⟨c, u, hcc, ev⟩ => by
      subst ev; exact ⟨.str ⟨#[c]⟩, ⟨u, rfl⟩, rfl, c, hcc, rfl⟩) (fun h z => z) fun h h' ⟨o, e', r⟩ k => ⟨o, k it (by simp) o e', r⟩
  done := by
    intro X hP hw hK hc i pins s σ H E I hf st hg
    subst hP hw hK
    obtain ⟨⟨old, he⟩, hs⟩ := st
    obtain ⟨f0, f1, f2, f3, f4, f5⟩ := hf it (by simp)
    have hg' : i = x.cps.size := hg
    subst hg'
    exact wpAny_pyNext_enum_endD (HT.draws_str (A := X.A.in1) (I.ok.hd hc) it x t) he hs fun h' eb => ⟨rfl, I.turned (t' := s.toks) (fun b o hb e => eb b o hb e) f0 f1 f3 f4 f5⟩
  self := fun _ _ _ _ _ st h => let ⟨⟨_, he⟩, _⟩ := st; wpAny_pyIter_enum he h
def Ittx (K : PySem.W.Frag) (a : Addr) : It := ⟨(Itt K a).go, (Itt K a).yld, fun i H => ∃ xs, SqT K H a xs ∧ xs.length = i⟩
theorem turn_enumT {P : Program} {w : World} {K : PySem.W.Frag} {es : List Expr} {k1 : Nat} {tp : Pos} (a e it : Addr) (hne : e ≠ it) (hae : a ≠ e) (hai : a ≠ it) : Turn P w K (.Tuple es k1 tp) (Ite (Ittx K a)) [e, it] e (fun i h => (∃ old, IsEnum h e it i old) ∧ h.IsTupleIter it a i) where
  mem := by simp
  obj := fun i h st b hb => by
    have z : b = e ∨ b = it := by simpa using hb
    rcases z with z | z
    · exact enum_obj st.1 z
    · subst z
      obtain ⟨o, e, c, d⟩ := st.2
      exact ⟨o, e, fun v z => by rw [d] at z; cases z⟩
  keep := fun i h h' st k => by
    obtain ⟨⟨old, he⟩, o, e', r⟩ := st
    exact ⟨⟨old, k e (by simp) _ he⟩, o, k it (by simp) o e', r⟩
  item := by
    intro X hP hw hK hc i pins s σ H E I hf st hg
    subst hP hw hK
    obtain ⟨⟨old, he⟩, hs⟩ := st
    obtain ⟨xs, x, hq, hx⟩ := hg
    obtain ⟨its, rv, p, hz⟩ := I.tuple hq
    obtain ⟨u, hu, ru⟩ := rv.get hx
    have hi : i < its.toArray.size := by
      have := (List.getElem?_eq_some_iff.mp hu).1
      simpa using this
    exact enum_item (J := Ittx X.K a) (tn := fun i h => h.IsTupleIter it a i) (HT.draws_tuple (A := X.A.in1) (I.ok.hd hc) it a hai its.toArray) I hf he ⟨hs, p⟩ hi hne (by simp [hne, Ne.symm hae]) (fun v ev => by
      have ev' : v = u := by
        have : its[i]? = some v := by simpa using ev
        rw [hu] at this; cases this; rfl
      subst ev'
      exact ⟨x, ru, rfl, fun ys hy => by rw [I.tuple_inj hy hq]; exact hx⟩) (fun h z => z.1) fun h h' ⟨o, e', r⟩ k => ⟨o, k it (by simp) o e', r⟩
  done := by
    intro X hP hw hK hc i pins s σ H E I hf st hg
    subst hP hw hK
    obtain ⟨⟨old, he⟩, hs⟩ := st
    obtain ⟨xs, hq, hx⟩ := hg
    obtain ⟨its, rv, p, hz⟩ := I.tuple hq
    obtain ⟨f0, f1, f2, f3, f4, f5⟩ := hf it (by simp)
    have hl := rv.length
    have hi : i = its.toArray.size := by rw [List.size_toArray]; omega
    rw [hi] at hs he
    exact wpAny_pyNext_enum_endD (HT.draws_tuple (A := X.A.in1) (I.ok.hd hc) it a hai its.toArray) he ⟨hs, p⟩ fun h' eb => ⟨rfl, I.turned (t' := s.toks) (fun b o hb e => eb b o hb e) f0 f1 f3 f4 f5⟩
  self := fun _ _ _ _ _ st h => let ⟨⟨_, he⟩, _⟩ := st; wpAny_pyIter_enum he h
theorem tup_is' {X : Cx} {pins : List (Addr × Obj)} {σ : St} {H : Hp} {s : Shared} (I : Inv X pins σ H s) {a : Addr} {xs : List V} (e : SqT X.K H a xs) : ∃ its : List Value, Vals xs its ∧ s.heap.IsTuple a its.toArray := let ⟨its, r, p, _⟩ := I.tuple e; ⟨its, r, p⟩
def iEnum (K : PySem.W.Frag) (ta : TA) : TI := fun σ H R => ta σ H fun vs H1 => (∃ x, vs = [.str x] ∧ R (Ite (Its x)) H1) ∨ (∃ a xs, vs = [.ref a] ∧ SqT K H1 a xs ∧ R (Ite (Ittx K a)) H1)
theorem pi_enum {X : Cx} {es : List Expr} {k1 : Nat} {tp : Pos} {a : Expr} {ta : TA} {p pos : Pos} (hg : Gl X "enumerate") (hm : X.mg "enumerate" = none) (ha : PA X [a] ta) (hs : starEach [a] X.env = [(false, eval a X.env)] := by rfl) : PI X (.Tuple es k1 tp) (.Call (.Name "enumerate" p) [a] [] pos) (iEnum X.K ta) := by
  intro pins s σ H R I h
  refine Call_ (ld_blt I hg hm boot_enumerate (PyProof.Rows.callWith_type1 (thn (ha pos pins s σ H _ I h) fun us s1 ⟨vs, H1, I1, r1, q1⟩ => ?_) hs rfl))
  have fpo : ∀ b ∈ [s1.heap.objs.size + 1, s1.heap.objs.size], FpOk X pins H1 b := fun b hb => by
    have z : b = s1.heap.objs.size + 1 ∨ b = s1.heap.objs.size := by simpa using hb
    have hle : s1.heap.objs.size ≤ b := by rcases z with z | z <;> omega
    exact I1.fpOk hle (I1.hok.fresh hle)
  rcases q1 with ⟨x, rfl, q⟩ | ⟨b, xs, rfl, hx, q⟩
  · cases r1 with
    | cons r rr =>
      cases rr
      obtain ⟨t, rfl⟩ := r
      refine call_enumerate_str fun h' he hi hz kp => ?_
      refine wpAny_pyIter_enum he ?_
      exact ⟨_, [s1.heap.objs.size + 1, s1.heap.objs.size], _, _, H1, rfl, I1.kept (t' := s1.toks) kp, turn_enumS x t (s1.heap.objs.size + 1) s1.heap.objs.size (Nat.succ_ne_self _), ⟨⟨_, by simpa using he⟩, hi⟩, fpo, q⟩
  · cases r1 with
    | cons r rr =>
      cases rr
      cases r
      obtain ⟨its, rv, hT⟩ := tup_is' I1 hx
      have hlt : b < s1.heap.objs.size := by obtain ⟨o, e, _⟩ := hT; exact Heap.lt_size e
      refine HT.call_enumerate_tuple hT fun h' he hi hz kp => ?_
      refine wpAny_pyIter_enum he ?_
      exact ⟨_, [s1.heap.objs.size + 1, s1.heap.objs.size], _, _, H1, rfl, I1.kept (t' := s1.toks) kp, turn_enumT b (s1.heap.objs.size + 1) s1.heap.objs.size (Nat.succ_ne_self _) (Nat.ne_of_lt (Nat.lt_succ_of_lt hlt)) (Nat.ne_of_lt hlt), ⟨⟨_, by simpa using he⟩, hi⟩, fpo, q⟩
def numbered : Nat → List Th → List Th
  | _, [] => []
  | k, t :: r => .tup [.int k, t] :: numbered (k + 1) r
theorem numbered_length : ∀ (k : Nat) (ts : List Th), (numbered k ts).length = ts.length
  | _, [] => rfl
  | k, t :: r => by simp [numbered, numbered_length (k + 1) r]
theorem numbered_get : ∀ (k : Nat) (ts : List Th) (i : Nat) (t : Th), ts[i]? = some t → (numbered k ts)[i]? = some (.tup [.int ((k + i : Nat) : Int), t])
  | _, [], i, t, e => by simp at e
  | k, x :: r, 0, t, e => by simp at e; subst e; simp [numbered]
  | k, x :: r, i + 1, t, e => by
    have := numbered_get (k + 1) r i t (by simpa using e)
    simp only [numbered, List.getElem?_cons_succ, this]
    rw [show k + 1 + i = k + (i + 1) by omega]
section
variable {X : Cx} {K : PySem.W.Frag}
theorem itok_enum {J : It} {B : Hp} {f : Addr → Prop} {ts : List Th} (h : ItOk K J B f ts) : ItOk K (Ite J) B f (numbered 0 ts) where
  go := fun i H s hi => h.go i H s (by rw [numbered_length] at hi; exact hi)
  stop := fun H s => by rw [numbered_length]; exact h.stop H s
  yld := fun i H O x H' hi hf s hn y => by
    rw [numbered_length] at hi
    obtain ⟨v, H1, T, hy, rfl, hT, rfl⟩ := y
    obtain ⟨s1, t, ht, b⟩ := h.yld i H O v H1 hi hf s hn hy
    have s2 : Same H1 (upd H1 T (.tup [.int i, v])) := Same.upd hT
    have nT : ¬ O.has T := hn T (s1.free hT)
    refine ⟨s1.trans s2, _, by simpa using numbered_get 0 ts i t ht, ?_⟩
    exact .tup (SqT.of (less_of upd_same nT)) (.cons (.int _) (.cons (b.mono (less_mono s2)) .nil))
theorem itok_tupx {H : Hp} {O : Hid} {a : Addr} {xs : List V} {ts : List Th} (h : SqT K (less H O) a xs) (b : BearsL K (less H O) xs ts) : ItOk K (Ittx K a) (low H O) O.far ts where
  go := (itok_tup h b).go
  stop := fun H' s => by
    have hl : SqT K H' a xs := by
      rcases h with (h | ⟨o, h⟩) | h
      · exact .inl (.inl (s _ _ (low_of (of_less h).1 fun z => (of_less h).2 (.inl z))))
      · exact .inl (.inr ⟨o, s _ _ (low_of (of_less h).1 fun z => (of_less h).2 (.inl z))⟩)
      · exact .inr h
    exact ⟨xs, hl, b.length⟩
  yld := (itok_tup h b).yld
def fEnum (f : FD) : FL := fun d => (f d).bind fun T => match T with | .str x => some (numbered 0 (signs x)) | .tup ts => some (numbered 0 ts) | _ => none
theorem pdi_enum {es : List Expr} {k1 : Nat} {tp : Pos} {a : Expr} {f : FD} {p pos : Pos} (hg : Gl X "enumerate") (hm : X.mg "enumerate" = none) (ha : PD X a f) (hs : starEach [a] X.env = [(false, eval a X.env)] := by rfl) (hs1 : starEach [a] X.env = (false, eval a X.env) :: starEach [] X.env := by rfl) : PDI X (.Tuple es k1 tp) (.Call (.Name "enumerate" p) [a] [] pos) (fEnum f) :=
  PI.imp (pi_enum hg hm (pa_cons ha pa_nil hs1) hs) fun σ H R ⟨O, d, ts, r, e, q⟩ => by
    unfold fEnum at e
    cases hf : f d with
    | none => rw [hf] at e; cases e
    | some T =>
      rw [hf] at e
      cases T with
      | str x => cases e; exact ⟨O, d, _, r, hf, fun v H' s b => by cases b; exact .inl ⟨x, rfl, q _ H' s (itok_enum (itok_str x))⟩⟩
      | tup us => cases e; exact ⟨O, d, _, r, hf, fun v H' s b => by cases b with | tup e' b' => exact .inr ⟨_, _, rfl, (less_sub H' O).seqT e', q _ H' s (itok_enum (itok_tupx e' b'))⟩⟩
      | _ => cases e
end
end L2
namespace L2
open PySem PySem.Spec PyProof.Rows
section
variable {X : Cx} {K : PySem.W.Frag} {o a b c e : Expr} {fo fa fb fc f : FD} {pos : Pos} {k : Nat}
def rM1 (g : Str → Str → Option V) : V → List V → Hp → VK → Prop := fun x xs H Q => ∃ z y r, x = .str z ∧ xs = [.str y] ∧ g z y = some r ∧ Q r H
theorem mt_find : MtR X "str.find" (rM1 fun z y => some (.int (Txt.find z y))) := by
  intro pins s σ H x xs v us Q I rx rs h
  obtain ⟨z, y, r, rfl, rfl, e, q⟩ := h
  cases e
  obtain ⟨t, rfl⟩ := rx
  obtain ⟨u, rfl, ru⟩ := vals1 rs
  obtain ⟨t2, rfl⟩ := ru
  exact SC.find ⟨.int _, H, I.tok _, ⟨_, rfl⟩, q⟩
def fM1 (g : Str → Str → Option Th) (fo fa : FD) : FD := f2 (fun x y => match x, y with | .str z, .str w => g z w | _, _ => none) fo fa
theorem m1_lift {g : Str → Str → Option Th} {g' : Str → Str → Option V} (hg : ∀ z w T, g z w = some T → ∃ v, g' z w = some v ∧ ∀ H, Bears K H v T) : ∀ σ H Q, liftD K (fM1 g fo fa) σ H Q → tBM K "str" (rM1 g') (liftB K fo) (liftAB K (fCons fa fNil)) σ H Q := fun σ H Q ⟨O, d, T, R, e, q⟩ => by
  obtain ⟨x, y, h1, h2, e⟩ := f2_some e
  cases x with
  | str z =>
    cases y with
    | str w =>
      obtain ⟨v, hv, bv⟩ := hg z w T e
      refine ⟨O, d, _, R, h1, fun v1 H1 s1 b1 => ?_⟩
      rw [b1.str]
      refine ⟨rfl, O, d, [.str w], R.mono s1, by unfold fCons fNil; rw [h2]; rfl, fun vs H2 s2 b2 => ?_⟩
      obtain ⟨u, rfl, bu⟩ := paired1 b2
      rw [bu.str]
      exact ⟨z, w, v, rfl, rfl, hv, q v H2 (s1.trans s2) (bv _)⟩
    | _ => cases e
  | _ => cases e
theorem pd_m1 {name : Str} {id : String} {apos cpos : Pos} {g : Str → Str → Option Th} {g' : Str → Str → Option V} (hg : ∀ z w T, g z w = some T → ∃ v, g' z w = some v ∧ ∀ H, Bears X.K H v T) (slot : Slot "str" name id) (hty : typeOf (.builtin id) = pure (.type "method_descriptor")) (hm : MtR X id (rM1 g')) (ho : PB X o fo) (ha : PB X e fa)
    (hbase : attributeBase o name X.env (eval o X.env) = eval o X.env := by rfl)
    (hfew : ((backTo cpos (starEach (e :: []) X.env)).all (fun x => !x.1) && (backToKw cpos (keywordEach [] X.env)).all (fun x => x.1.isSome)
      && decide ((e :: []).length + ([] : List Keyword).length + (if ([] : List Keyword).isEmpty then 0 else 1) < 30)) = true := by rfl)
    (hline : (apos.endLine == cpos.line) = true := by rfl) (hs : starEach (e :: []) X.env = (false, eval e X.env) :: starEach [] X.env := by rfl) (hplain : (backTo cpos (starEach [] X.env)).any (·.1) = false := by rfl) :
    PD X (.Call (.Attribute o name apos) [e] [] cpos) (fM1 g fo fa) := PE.imp (pe_bm PySem.F.plainAttrs_str slot hty hm ho (pba_cons ha pba_nil hs) hbase hfew hline hs hplain) (m1_lift hg)
theorem pd_find {apos cpos : Pos} (ho : PB X o fo) (ha : PB X e fa)
    (hbase : attributeBase o "find" X.env (eval o X.env) = eval o X.env := by rfl)
    (hfew : ((backTo cpos (starEach (e :: []) X.env)).all (fun x => !x.1) && (backToKw cpos (keywordEach [] X.env)).all (fun x => x.1.isSome)
      && decide ((e :: []).length + ([] : List Keyword).length + (if ([] : List Keyword).isEmpty then 0 else 1) < 30)) = true := by rfl)
    (hline : (apos.endLine == cpos.line) = true := by rfl) (hs : starEach (e :: []) X.env = (false, eval e X.env) :: starEach [] X.env := by rfl) (hplain : (backTo cpos (starEach [] X.env)).any (·.1) = false := by rfl) :
    PD X (.Call (.Attribute o "find" apos) [e] [] cpos) (fM1 (fun z y => some (.int (Txt.find z y))) fo fa) :=
  pd_m1 (fun z w T e => by cases e; exact ⟨_, rfl, fun _ => .int _⟩) PySem.F.slot_str_find PySem.F.type_str_find mt_find ho ha hbase hfew hline hs hplain
end
end L2
namespace L2
open PySem PySem.Spec PyProof.Rows
def runD (n m : Nat) (b : FS) : List Th → Option Th := fun Ts => if Ts.length = n then (match b (Ts.map (fun T => some (Dv.th T)) ++ List.replicate (m - Ts.length) none) with | some (.rt T) => some T | _ => none) else none
theorem runD_some {n m : Nat} {b : FS} {Ts : List Th} {T : Th} (e : runD n m b Ts = some T) : Ts.length = n ∧ b (Ts.map (fun T => some (Dv.th T)) ++ List.replicate (m - Ts.length) none) = some (.rt T) := by
  unfold runD at e
  split at e
  · rename_i h
    refine ⟨h, ?_⟩
    split at e
    · rename_i h2; cases e; exact h2
    · cases e
  · cases e
def compOk (N : List Str) (sc scope : Scope) : Bool := scope.kind == .function && scope.names.all (fun y => y.2 != .cell) && scope.names.all (fun y => y.2 != .local || scope.names.lookup y.1 == some .local)
  && scope.names.all (fun y => y.2 != .free || (sc.names.lookup y.1 == some .cell || sc.names.lookup y.1 == some .free)) && N.all (fun y => scope.names.lookup y != some .local)
theorem compS {X : Cx} {ts N : List Str} {sc scope : Scope} (h1 : X.env.scope = sc) (h2 : X.N = N) (h : compOk N sc scope = true) : CompScope X ts scope := by
  unfold compOk at h
  simp only [Bool.and_eq_true, List.all_eq_true] at h
  obtain ⟨⟨⟨⟨a, b⟩, c⟩, d⟩, e⟩ := h
  refine ⟨by simpa using a, fun y hy => by simpa using b y hy, fun y hy hl => ?_, fun y hy hf => ?_, fun y hy => ?_⟩
  · have := c y hy
    rw [hl] at this
    simpa using this
  · have := d y hy
    rw [hf] at this
    have : (sc.names.lookup y.1 == some .cell || sc.names.lookup y.1 == some .free) = true := by simpa using this
    rw [← h1] at this
    show X.env.scope.names.lookup y.1 = some .cell ∨ X.env.scope.names.lookup y.1 = some .free
    simpa using this
  · rw [h2] at hy
    simpa using e y hy
theorem bears_ints {K : PySem.W.Frag} {H : Hp} : ∀ ns : List Int, BearsL K H (ns.map V.int) (ns.map Th.int)
  | [] => .nil
  | n :: ns => .cons (.int n) (bears_ints ns)
theorem law_sp {K : PySem.W.Frag} {H : Hp} {a : Addr} {ns : List Int} {φ : List Th → Option Th} {E : XK} (hS : SqL K H a (ns.map V.int)) (h : φ [.lst (ns.map Th.int)] = some (.bl true)) : spF K φ [.ref a] H (fun v _ => v = .bl true) E := by
  refine ⟨fun _ => False, _, _, fun _ z => z.elim, .cons (.lst ?_ (bears_ints ns)) .nil, h, fun v H' _ b => ?_⟩
  · rw [less_none]; exact hS
  · cases b; rfl
section
variable {X : Cx} {a b c e : Expr} {fa fb fc f : FD} {pos : Pos} {k : Nat}
theorem pdg_two {i j : Nat} {x y : Str} {px py : Pos} {k : Nat} (hc : X.calm = true) (hN : X.N.Nodup) (hi : X.N[i]? = some x) (hj : X.N[j]? = some y) (hx : Loc X.env.scope x) (hy : Loc X.env.scope y)
    (hf : X.fn x = true ∨ X.env.scope.names.lookup x = some .local := by first | exact .inl rfl | exact .inr rfl | assumption) (hf2 : X.fn y = true ∨ X.env.scope.names.lookup y = some .local := by first | exact .inl rfl | exact .inr rfl | assumption) : PDG X (.Tuple [.Name x px, .Name y py] k pos) (gPair i j) :=
  pdg_pair hc hN hi hj hx hy (pg_tup hc (pgs_cons (pg_name hN hi hx hf) (pgs_cons (pg_name hN hj hy hf2) pgs_nil)))
end
end L2
namespace L2
open PySem PySem.Spec PyProof.Rows
mutual
inductive Lit : Expr → Th → Prop where
  | int {i : Int} {j p} : Lit (.Constant (.int i) j p) (.int i)
  | neg {i : Int} {j p p2} : Lit (.UnaryOp .USub (.Constant (.int i) j p) p2) (.int (-i))
  | bl {b : Bool} {j p} : Lit (.Constant (.bool b) j p) (.bl b)
  | non {j p} : Lit (.Constant .none j p) .non
  | str {x : Str} {j p} : Lit (.Constant (.str x) j p) (.str x)
  | tup {es : List Expr} {ts : List Th} {k p} (h : LitL es ts) (z : ts.length ≤ 1000000) : Lit (.Tuple es k p) (.tup ts)
  | lst {es : List Expr} {ts : List Th} {p} (h : LitL es ts) (z : ts.length ≤ 1000000) : Lit (.List es p) (.lst ts)
inductive LitL : List Expr → List Th → Prop where
  | nil : LitL [] []
  | cons {e : Expr} {t : Th} {es : List Expr} {ts : List Th} (h : Lit e t) (r : LitL es ts) : LitL (e :: es) (t :: ts)
end
section
variable {X : Cx} {e : Expr} {f f' : FD} {pos : Pos}
theorem PD.congr (h : PD X e f) (i : ∀ d T, f' d = some T → f d = some T) : PD X e f' := PE.imp h fun σ H Q ⟨O, d, T, R, e, q⟩ => ⟨O, d, T, R, i d T e, q⟩
def fCL (ts : List Th) : FL := fun _ => some ts
theorem star_lit {T : Th} (h : Lit e T) (es : List Expr) (env : Env) : starEach (e :: es) env = (false, eval e env) :: starEach es env := by
  cases h <;> rfl
mutual
theorem pd_lit : ∀ {e : Expr} {T : Th}, Lit e T → PD X e (fC T)
  | _, _, .int => pd_int
  | _, _, .neg => PD.congr (pd_neg pd_int) fun d T e => by cases e; rfl
  | _, _, .bl => pd_bl
  | _, _, .non => pd_non
  | _, _, .str => pd_str
  | _, _, .tup (ts := ts) h z => PD.congr (pd_tup (pda_lit h)) fun d T e => by
      cases e
      unfold fTup fCL fitL
      show ((if ts.length ≤ 1000000 then some ts else none).map Th.tup) = _
      rw [if_pos z]; rfl
  | _, _, .lst (ts := ts) h z => PD.congr (PF.pd (pf_list (pda_lit h))) fun d T e => by
      cases e
      unfold fLst fList fCL fitL
      show ((if ts.length ≤ 1000000 then some ts else none).map Th.lst) = _
      rw [if_pos z]; rfl
theorem pda_lit : ∀ {es : List Expr} {ts : List Th}, LitL es ts → PDA X es (fCL ts)
  | _, _, .nil => PA.imp pda_nil fun σ H Q ⟨O, d, T, R, e, q⟩ => ⟨O, d, T, R, e, q⟩
  | _, _, .cons h r => PA.imp (pda_cons (pd_lit h) (pda_lit r) (star_lit h _ _)) fun σ H Q ⟨O, d, T, R, e, q⟩ => ⟨O, d, T, R, e, q⟩
end
end
end L2
namespace L2
open PySem PySem.Spec PyProof.Rows
end L2
namespace L2
open PySem PySem.Spec PyProof.Rows
structure Fly (P : Program) (w : World) (l : List Env) (H : Hp) (s : Shared) (C : Addr) (H1 : Hp) (B : Heap) (ea t : Addr) (s' : Shared) : Prop where
  os : s'.os = s.os
  bare : AllBare s'.gens
  un : Un (frs l) [] H H1 s.heap s'.heap
  hok : HOk P w H1 s'.heap
  fly : Heap.FlyingW B l ea (.ref C) (.ref t) s'.heap
  cov : ∀ b o, s.heap.get? b = some o → H b = none → b ∉ frs l → B.get? b = some o
  all : ∀ b o, s.heap.get? b = some o → b ∉ frs l → ∃ o', B.get? b = some o'
  trk : ∀ b o, H1 b = some o → ∃ o', B.get? b = some o'
abbrev CX1 (P : Program) (w : World) : CXT := fun l H s E e s' => ∃ (C : Addr) (H1 : Hp) (B : Heap) (ea t : Addr), e = .ref ea ∧ Fly P w l H s C H1 B ea t s' ∧ E (.ref C) none H1
section
variable {P : Program} {w : World} {l : List Env} {H H1 : Hp} {s s' : Shared} {C ea t : Addr} {B : Heap}
theorem Fly.notFrame (f : Fly P w l H s C H1 B ea t s') : ea ∉ frs l := fun hm => by
  obtain ⟨_, o, ho, hn⟩ := f.fly.2.2.1.mem hm
  obtain ⟨oe, vs, h1, _, h2, _⟩ := f.fly.first
  rw [ho] at h1
  cases h1
  exact hn vs h2
theorem Fly.free (f : Fly P w l H s C H1 B ea t s') : H1 ea = none := by
  cases q : H1 ea with
  | none => rfl
  | some o =>
    obtain ⟨o', e⟩ := f.trk ea o q
    rw [f.fly.2.1] at e; cases e
theorem Fly.new (f : Fly P w l H s C H1 B ea t s') : s.heap.get? ea = none := by
  cases q : s.heap.get? ea with
  | none => rfl
  | some o =>
    obtain ⟨o', e⟩ := f.all ea o q f.notFrame
    rw [f.fly.2.1] at e; cases e
theorem Fly.on (f : Fly P w l H s C H1 B ea t s') {h' : Heap} (k : Heap.FlyingW B l ea (.ref C) (.ref t) h') (u : s'.heap.UpToSlots h') : Fly P w l H s C H1 B ea t { s' with heap := h' } where
  os := f.os
  bare := f.bare
  un := {
    keep := fun b o q n hb _ => k.1 b o (f.cov b o q n hb)
    slot := fun b o q n hb hx => by
      obtain ⟨sl, e⟩ := f.un.slot b o q n hb hx
      obtain ⟨_, o2, ho, hn⟩ := f.fly.2.2.1.mem hb
      rw [e] at ho
      cases ho
      obtain ⟨sl', e'⟩ := u b _ e hn
      exact ⟨sl', e'⟩
    free := f.un.free
    there := fun b o q hx => by
      by_cases hb : b ∈ frs l
      · obtain ⟨_, o2, ho, hn⟩ := f.fly.2.2.1.mem hb
        obtain ⟨sl', e'⟩ := u b _ ho hn
        exact ⟨_, e'⟩
      · obtain ⟨o', e⟩ := f.all b o q hb
        exact ⟨o', k.1 b o' e⟩
    tups := f.un.tups
    frzs := f.un.frzs
    tbls := f.un.tbls }
  hok := fun a o e => (f.hok a o e).stay (fun b u hb q => by
    have hb' : ∃ o', H1 b = some o' := by
      rcases hb with z | z
      · exact ⟨o, by rw [z]; exact e⟩
      · exact ⟨_, z⟩
    obtain ⟨o', e'⟩ := hb'
    obtain ⟨ob, eb⟩ := f.trk b o' e'
    have e1 := f.fly.1 b ob eb
    rw [q] at e1
    cases e1
    exact k.1 b u eb) (fun _ q => q) fun _ _ q => q
  fly := k
  cov := f.cov
  all := f.all
  trk := f.trk
theorem Fly.caught {X : Cx} {pins : List (Addr × Obj)} {σ : St} (I : Inv X pins σ H s) (f : Fly X.prog X.w X.stack H s C H1 B ea t s') : Inv X pins σ (upd H1 ea (.ext (excAt ea C))) s' := by
  have hf := f.free
  have hn : ∀ b u, H1 b = some u → b ≠ ea := fun b u e z => by rw [z, hf] at e; cases e
  refine I.call' (ch := []) f.os ?_ ?_ f.bare (fun b z => absurd z (by simp))
  · exact {
      keep := f.un.keep
      slot := f.un.slot
      free := fun b o q n hx => by
        have hb : b ≠ ea := fun z => by rw [z, f.new] at q; cases q
        rw [upd_ne hb]; exact f.un.free b o q n hx
      there := f.un.there
      tups := fun b xs q => by
        have e := f.un.tups b xs q
        rw [upd_ne (hn b _ e)]; exact e
      frzs := fun b o u q => by
        have e := f.un.frzs b o u q
        rw [upd_ne (hn b _ e)]; exact e
      tbls := fun b ps q => by
        obtain ⟨m, e⟩ := f.un.tbls b ps q
        exact ⟨m, by rw [upd_ne (hn b _ e)]; exact e⟩ }
  · intro b u e
    by_cases hb : b = ea
    · subst hb
      rw [upd_same] at e
      cases e
      obtain ⟨ob, h1, h2⟩ := f.fly.there
      exact ⟨⟨ob, h1, h2⟩, ⟨ob, h1⟩, fun h1 h2 ⟨oe, a1, a2⟩ k => ⟨oe, k oe a1, a2⟩⟩
    · rw [upd_ne hb] at e
      exact (f.hok b u e).stay (fun c v _ q => q) (fun c q => by rw [upd_ne (hn c _ q)]; exact q) fun c xs q => by rw [upd_ne (hn c _ q)]; exact q
end
structure Exc (K : PySem.W.Frag) (mg : Str → Option Value) (x : Str) (C : Addr) : Prop where
  at_ : PySem.W.nsIn K mainGlobals x = some (some (.ref C))
  is : mg x = some (.ref C)
  ok : PySem.W.excIn K C [.type "ValueError", .type "Exception", .type "BaseException", .type "object"] "ValueError.__new__" = true
theorem exc_obj {K : PySem.W.Frag} {h : Heap} {C : Addr} {bmB : List Value} {newId : String} (kin : K.In h) (good : PySem.W.excIn K C bmB newId = true) :
    ∃ bm N nm q bs hdct sn sub ab col dd k0 k1 k2 k3 k5 mN, h.get? C = some (excClassObj nm q C N bs bm hdct sn sub ab col dd k0 k1 k2 k3 k5 newId) ∧ h.Ns N mN ∧ mN "__init__" = none ∧ OwnTail h bmB bm := by
  unfold PySem.W.excIn at good
  split at good
  case h_2 => cases good
  rename_i dct c slots look
  split at good
  case h_2 => cases good
  rename_i C2 bm a0 a1 a2 a3 nid a5 em es
  simp only [Bool.and_eq_true, beq_iff_eq, Bool.not_eq_true'] at good
  obtain ⟨⟨⟨⟨⟨g1, g2⟩, g3⟩, g4⟩, g5⟩, g6⟩ := good
  subst g1
  subst g2
  cases c
  simp only at em g3 g5 g6
  subst em
  subst g3
  have e2 : slots = #[a0, a1, a2, a3, some (.builtin nid), a5] := by
    cases slots
    simp only at es
    rw [es]
  subst e2
  exact ⟨_, _, _, _, _, _, _, _, _, _, _, _, _, _, _, _, _, kin _ _ look, .of_isNs (PySem.W.isNs_of_in kin g5), PySem.W.nsMap_none_of_in kin g5 g6, PySem.W.tail_of_in kin g4⟩
def fRaise (x : Str) (fs : FL) : FS := fun d => (fs d).bind fun ts => if ts.length ≤ 1000 then some (.xc x) else none
section
variable {X : Cx} {x : Str} {C : Addr} {e : Expr} {es : List Expr} {fs : FL} {np cpos pos : Pos}
theorem pds_raise (Z : Exc X.K X.mg x C) (hc : X.calm = true) (hg : Gl X x) (ha : PDA X (e :: es) fs) (hdb : (x == ("__debug__" : Str)) = false := by decide)
    (he : starEach (e :: es) X.env = (false, eval e X.env) :: starEach es X.env := by rfl) (hpl : (backTo cpos (starEach es X.env)).any (·.1) = false := by rfl) :
    PDS X (.Raise (some (.Call (.Name x np) (e :: es) [] cpos)) none pos) (fRaise x fs) := by
  intro pins s σ H D I h
  obtain ⟨O, d, o, R, eo, qq⟩ := h
  unfold fRaise at eo
  cases hf : fs d with
  | none => rw [hf] at eo; cases eo
  | some ts =>
    rw [hf] at eo
    change (if ts.length ≤ 1000 then some (Out.xc x) else none) = _ at eo
    split at eo
    · rename_i hz
      cases eo
      obtain ⟨bm, N, nm, q, bs, hdct, sn, sub, ab, col, dd, k0, k1, k2, k3, k5, mN, hC, hN, hni, T⟩ := exc_obj I.mod.kin Z.ok
      refine wpAny_Raise_call_subT (C := C) (nm := nm) (q := q) (N := N) (bs := bs) (bm := bm) (hdct := hdct) (sn := sn) (sub := sub) (ab := ab) (col := col) (dd := dd) (k0 := k0) (k1 := k1) (k2 := k2) (k3 := k3) (k5 := k5)
        PySem.F.excBase_ValueError (mN := mN) (T.hasType (by decide)) (I.ok.hd hc) ?_ hni (ld_glob I hg Z.is ⟨rfl, ?_⟩ hdb)
      · rw [he]
        show (false || (backTo cpos (starEach es X.env)).any (·.1)) = false
        rw [hpl]; rfl
      · have h2 := ha cpos pins s σ H (fun vs H1 => ts.length = vs.length ∧ Same H H1) I ⟨O, d, ts, R, hf, fun vs H' s' b => ⟨b.length.symm, s'⟩⟩
        rw [he] at h2 ⊢
        refine Calls.evalArgs_plain (thn h2 fun us s1 ⟨vs, H1, I1, r, q1⟩ => ⟨rfl, ?_, I1.bk _ _ hC, hN.keeps I1.bk, T.keeps I1.bk, fun h' e1 hm => qq H1 ((low_sub H O).trans q1.2) pins σ s1 us h' e1 C I1 Z.is hm⟩)
        show us.length ≤ sizeLine
        rw [← r.length, ← q1.1]
        exact Nat.le_trans hz (by decide)
    · cases eo
end
end L2
namespace L2
open PySem PySem.Spec PyProof.Rows
theorem ObjOk.has {P : Program} {w : World} {H : Hp} {h : Heap} {a : Addr} {o : HO} (x : ObjOk P w H h a o) : ∃ u, h.get? a = some u := by
  cases o with
  | lst xs => obtain ⟨_, _, _, _, e⟩ := x; exact ⟨_, e⟩
  | tup xs => obtain ⟨_, _, _, _, e, _⟩ := x; exact ⟨_, e⟩
  | dK kvs => obtain ⟨_, _, _, _, o, _, _, e, _⟩ := x; exact ⟨_, e⟩
  | dT kvs => obtain ⟨_, _, _, _, o, _, _, e, _⟩ := x; exact ⟨_, e⟩
  | set S n => obtain ⟨o, _, _, _, e, _⟩ := x; exact ⟨_, e⟩
  | ins C dx fs => obtain ⟨_, _, _, e, _⟩ := x; exact ⟨_, e⟩
  | own y => obtain ⟨_, e⟩ := x; exact ⟨_, e⟩
  | xd fs => obtain ⟨_, ⟨_, _, _, e, _⟩, _⟩ := x; exact ⟨_, e⟩
  | rng lo hi => obtain ⟨_, _, _, e⟩ := x; exact ⟨_, e⟩
  | frz ob u => obtain ⟨e, _⟩ := x; exact ⟨_, e⟩
  | tbl ps => exact ⟨_, (show h.get? a = some _ from x)⟩
  | met f y => exact ⟨_, (show h.get? a = some _ from x)⟩
  | ext φ => obtain ⟨_, ⟨_, e⟩, _⟩ := x; exact ⟨_, e⟩
def spX (K : PySem.W.Frag) (mg : Str → Option Value) (φ : List Th → Option Out) : Sp := fun vs H Q E => ∃ (Z : Addr → Prop) (Ts : List Th) (o : Out), (∀ b, Z b → ∃ o, H b = some o) ∧ BearsL K (less H ⟨[], Z⟩) vs Ts ∧ φ Ts = some o ∧
  match o with
  | .rt T => ∀ v H', Same H H' → Bears K (less H' ⟨[], Z⟩) v T → Q v H'
  | .xc c => ∀ (C : Addr) (H' : Hp), mg c = some (.ref C) → Same H H' → E (.ref C) none H'
  | _ => False
structure CalleeX (P : Program) (w : World) (K : PySem.W.Frag) (mg : Str → Option Value) (base : Heap) (k : Nat) (x : Str) (φ : List Th → Option Out) : Prop where
  ex : ∃ (f : Addr) (fd : FuncData) (ps : List Str), FnOk P w K mg base (CX1 P w) k f fd ps (spX K mg φ) ∧ mg x = some (.ref f) ∧ PySem.W.keepIn K (.ref f) = true ∧ Binds K fd ps []
def runX (n m : Nat) (b : FS) : List Th → Option Out := fun Ts => if Ts.length = n then b (Ts.map (fun T => some (Dv.th T)) ++ List.replicate (m - Ts.length) none) else none
section
variable {P : Program} {w : World} {K : PySem.W.Frag} {mg : Str → Option Value} {base : Heap}
theorem raise_leaves {N : List Str} {qual : Str} {scope : Scope} {f : Addr} {cd : Value} {A : Around} {outer : List Env} {s : Shared} {H H' : Hp} {E : XK} {c : Str} (hE : ∀ C : Addr, mg c = some (.ref C) → E (.ref C) none H') :
    RaisesAt (cxOf (CX1 P w) P w K mg base N qual scope f cd A outer s H E) c H' := by
  intro pins σ s1 vs h' e C I hm hx
  have hin : ∀ env ∈ (envOfC qual scope s.heap.objs.size f cd :: outer), ∀ b, env.frame = some b → b ∈ frs (envOfC qual scope s.heap.objs.size f cd :: outer) := fun env he b hb => List.mem_filterMap.mpr ⟨env, he, hb⟩
  have hfs : frs (envOfC qual scope s.heap.objs.size f cd :: outer) = s.heap.objs.size :: frs outer := rfl
  have nL : ∀ b o, s.heap.get? b = some o → b ∉ frs outer → b ∉ frs (envOfC qual scope s.heap.objs.size f cd :: outer) := fun b o q hb z => by
    rw [hfs] at z
    rcases List.mem_cons.mp z with z | z
    · rw [z] at q; exact absurd (Heap.lt_size q) (Nat.lt_irrefl _)
    · exact hb z
  have un1 : Un (frs outer) [] H H' s.heap s1.heap := I.base
  refine wpAny_leaves_madeW (base := PySem.W.hideAll s1.heap (frs (envOfC qual scope s.heap.objs.size f cd :: outer))) (h := s1.heap) I.ok.frames rfl (fun b o q => PySem.W.of_hideAll _ q) (PySem.W.funFrames_hide I.stack hin) hx fun h2 t x1 x2 x3 x4 => ?_
  have keep : ∀ b o, s1.heap.get? b = some o → b ∉ frs (envOfC qual scope s.heap.objs.size f cd :: outer) → h2.get? b = some o := fun b o q hb => x1.1 b o (PySem.W.hideAll_get _ q hb)
  have slots : ∀ b o, s1.heap.get? b = some o → b ∈ frs outer → ∃ sl, h2.get? b = some { o with slots := sl } := fun b o q hb => by
    obtain ⟨_, o2, ho, hn⟩ := I.funs.mem hb
    rw [q] at ho
    cases ho
    exact x4 b o (hx.keeps b o q) hn
  have trk : ∀ b o, H' b = some o → b ∉ frs (envOfC qual scope s.heap.objs.size f cd :: outer) := fun b o q z => by
    rw [I.stkFree b z] at q; cases q
  refine ⟨C, H', _, e, t, rfl, ⟨I.os, I.bare, ⟨fun b o q n hb hx' => ?_, fun b o q n hb hx' => ?_, un1.free, fun b o q hx' => ?_, un1.tups, un1.frzs, un1.tbls⟩, fun a o q => ?_, x1, fun b o q n hb => ?_, fun b o q hb => ?_, fun b o q => ?_⟩, hE C hm⟩
  · exact keep b o (un1.keep b o q n hb hx') (nL b o q hb)
  · obtain ⟨sl, e1⟩ := un1.slot b o q n hb hx'
    obtain ⟨sl', e2⟩ := slots b _ e1 hb
    exact ⟨sl', e2⟩
  · obtain ⟨o', e1⟩ := un1.there b o q hx'
    by_cases hb : b ∈ frs outer
    · obtain ⟨sl', e2⟩ := slots b _ e1 hb
      exact ⟨_, e2⟩
    · exact ⟨o', keep b o' e1 (nL b o q hb)⟩
  · refine (I.hok a o q).stay (fun b u hb q' => ?_) (fun _ z => z) fun _ _ z => z
    have hb' : ∃ o', H' b = some o' := by
      rcases hb with z | z
      · exact ⟨o, by rw [z]; exact q⟩
      · exact ⟨_, z⟩
    obtain ⟨o', e'⟩ := hb'
    exact keep b u q' (trk b o' e')
  · exact PySem.W.hideAll_get _ (un1.keep b o q n hb (by simp)) (nL b o q hb)
  · obtain ⟨o', e1⟩ := un1.there b o q (by simp)
    exact ⟨o', PySem.W.hideAll_get _ e1 (nL b o q hb)⟩
  · obtain ⟨u, e1⟩ := (I.hok b o q).has
    exact ⟨u, PySem.W.hideAll_get _ e1 (trk b o q)⟩
theorem Fun.okX {x qual : Str} {st : Stmt} {f : Addr} {fd : FuncData} {N ps : List Str} {k n m : Nat} {body : FS} (F : Fun K x qual st f fd) (S : FnScope N ps (defScope st)) (hps : ps.length = n) (hN : N.length = m)
    (hb : ∀ (cdv : Value) (A : Around) (outer : List Env) (s : Shared) (H : Hp) (E : XK), Room k (A.deeper (envOfC qual (defScope st) s.heap.objs.size f cdv)) → PDSs (cxOf (CX1 P w) P w K mg base N qual (defScope st) f cdv A outer s H E) (defBody st) body) :
    FnOk P w K mg base (CX1 P w) (k + 1) f fd ps (spX K mg (runX n m body)) := by
  have hlen : ∀ Ts o, runX n m body Ts = some o → Ts.length = n ∧ body (startD N Ts) = some o := fun Ts o e => by
    unfold runX at e
    split at e
    · rename_i h
      exact ⟨h, by unfold startD; rw [hN]; exact e⟩
    · cases e
  obtain ⟨oc, od, kV, doc, pm, an, cdv, ct, osl, rfl, lk, hcd⟩ := F.ex
  refine fn_of lk hcd S (fun vs H Q E ⟨Z, Ts, o, _, b, e, _⟩ => by rw [b.length, hps]; exact (hlen Ts o e).1) fun A outer s H vs Q E hr ⟨Z, Ts, o, hz, b, e, q⟩ => ?_
  refine ⟨_, hb cdv A outer s H E hr, ⟨[], Z⟩, startD N Ts, o, rep_start b rfl hz, (hlen Ts o e).2, ?_⟩
  cases o with
  | rt T =>
    intro v H' s' b'
    rw [low_bare] at s'
    exact q v H' s' b'
  | xc c =>
    intro H' s'
    rw [low_bare] at s'
    exact raise_leaves fun C hm => q C H' hm s'
  | nx d => exact q.elim
  | bk d => exact q.elim
  | ct d => exact q.elim
theorem Fun.calleeX {x qual : Str} {st : Stmt} {f : Addr} {fd : FuncData} {ps : List Str} {k : Nat} {φ : List Th → Option Out} (F : Fun K x qual st f fd) (G : FnOk P w K mg base (CX1 P w) k f fd ps (spX K mg φ)) (hm : mg x = some (.ref f)) (hb : Binds K fd ps []) : CalleeX P w K mg base k x φ := ⟨f, fd, ps, G, hm, F.kp, hb⟩
end
end L2
namespace L2
open PySem PySem.Spec PyProof.Rows
abbrev Cx.held (X : Cx) (ea : Addr) : Cx := { X with A := X.A.mark (some (.ref ea)), calm := false }
section
variable {X : Cx} {pins : List (Addr × Obj)} {σ : St} {H : Hp} {s : Shared}
theorem Inv.held (I : Inv X pins σ H s) (ea : Addr) : Inv (X.held ea) pins σ H s :=
  ⟨⟨I.ok.mod, I.ok.kind, I.ok.glob, I.ok.blt, I.ok.above, I.ok.inj, I.ok.has, I.ok.cab, fun z => (by cases z), I.ok.frames, I.ok.stk, I.ok.exf, I.ok.bs, I.ok.bsz, I.ok.noex, I.ok.exfs, I.ok.funs, I.ok.frf⟩, I.os, I.bare, I.base, I.loc, I.cell, I.free, I.freeC, I.pin, I.hok, I.len⟩
theorem Inv.unheld {ea : Addr} (ok : X.Ok) (I : Inv (X.held ea) pins σ H s) : Inv X pins σ H s := ⟨ok, I.os, I.bare, I.base, I.loc, I.cell, I.free, I.freeC, I.pin, I.hok, I.len⟩
end
theorem match_own {M : Model} {A : Around} {E : Value → Shared → Prop} {K : PySem.W.Frag} {h : Heap} {g : Array GenState} {d : Drawn} {t : Nat} {os : OsState} {e C D : Addr} {oe : Obj} {Q : Bool → Shared → Prop} {bmB : List Value} {newId : String}
    (kin : K.In h) (he : h.get? e = some oe) (hcls : oe.cls = .ref C) (hD : PySem.W.excIn K D bmB newId = true) (hbase : bmB.contains (.type "BaseException") = true) (hsub : PySem.W.subIn K (.ref C) (.ref D) = some true) (hq : Q true ⟨h, g, d, t, os⟩) :
    wpAny M A (excMatches (.ref e) (.ref D)) Q E ⟨h, g, d, t, os⟩ := by
  obtain ⟨bm, N, nm, q, bs, hdct, sn, sub, ab, col, dd, k0, k1, k2, k3, k5, mN, hDo, hN, hni, T⟩ := exc_obj kin hD
  have hcB : (Value.ref D :: bm).contains (.type "BaseException") = true := by rw [List.contains_cons, T.hasType hbase, Bool.or_true]
  have f := tc_notTuple
  have ls := PySem.W.looks_subIn (M := M) kin hsub
  unfold excMatches
  repeat (first | (with_reducible refine wpAny_loadPart_at he ?_; rw [hcls]) | with_reducible refine wpAny_loadPart_at hDo ?_ | (with_reducible refine wpAny_isSubtype_exc hDo ?_; rw [hcB]) | with_reducible refine ls.at ?_ | wp_step)
  exact hq
section
variable {X : Cx} {pins : List (Addr × Obj)} {σ : St} {H : Hp} {s : Shared} {k : Nat} {x : Str} {φ : List Th → Option Out} {e : Expr} {es : List Expr} {g : FL} {p pos : Pos}
theorem call_x (c : CalleeX X.prog X.w X.K X.mg X.base k x φ) (hr : Room k X.A) (hg : Gl X x) (ha : PDA X (e :: es) g) (hno : ∀ e s, ¬ X.xe e s) (I : Inv X pins σ H s) {O : Hid} {d : Sd} {Ts : List Th} {o : Out} (R : Rep X.K H O σ d) (hgd : g d = some Ts) (ho : φ Ts = some o)
    {QV : VK} {XE : Value → Shared → Prop} (hq : match o with
      | .rt T => ∀ v H', Same H H' → Bears X.K (less H' O) v T → QV v H'
      | .xc c => ∀ (C : Addr) (H1 H2 : Hp) (s1 s2 : Shared) (B : Heap) (ea t : Addr), X.mg c = some (.ref C) → Same H H1 → Inv X pins σ H1 s1 → Fly X.prog X.w X.stack H1 s1 C H2 B ea t s2 → Same H1 H2 → XE (.ref ea) s2
      | _ => True)
    (hdb : (x == ("__debug__" : Str)) = false := by decide) (he : starEach (e :: es) X.env = (false, eval e X.env) :: starEach es X.env := by rfl) (hpl : (backTo pos (starEach es X.env)).any (·.1) = false := by rfl)
    (hen : (∃ T, o = .rt T) ∨ ∃ c, o = .xc c) : wpAny (model X.prog X.w) X.A (eval (.Call (.Name x p) (e :: es) [] pos) X.env) (EP X pins σ QV) XE s := by
  obtain ⟨f, fd, ps, F, hm, hk, hb⟩ := c.ex
  refine wpAny_Call_Name_kw (ld_glob I hg hm ?_ hdb)
  refine PySem.W.callWith_K (h₀ := X.base) I.ok.mod.kin hk ?_ he hpl
  refine wpAny_mono (ha pos pins s σ H (fun vs H1 => Same H H1 ∧ BearsL X.K (less H1 O) vs Ts) I ⟨O, d, Ts, R, hgd, fun vs H' s' b => ⟨s', b⟩⟩) (fun us s1 ⟨vs, H1, I1, r, s01, b⟩ => ⟨I1.kIn, ?_⟩) (fun _ _ z => (hno _ _ z).elim)
  have hz : ∀ b, O.has b → ∃ o, H1 b = some o := fun b hb => (R.mono s01).there b hb
  have go : ∀ (Q : VK) (E : XK), spX X.K X.mg φ vs H1 Q E → codeAny (model X.prog X.w) X.A (.call (.ref f) ⟨us, []⟩) (CR (CX1 X.prog X.w) X.stack X.prog X.w H1 s1 Q E) s1 := fun Q E hs => by
    have hl : (us ++ []).length = ps.length := by rw [List.append_nil, ← r.length]; exact F.len _ _ _ _ hs
    have hb' := hb s1 us I1.kIn hl
    rw [List.append_nil] at hb'
    exact F.run X.A X.stack s1 H1 ⟨us, []⟩ us vs Q E hr I1.env0 hb' r hs
  refine wpAny_call ?_
  rcases hen with ⟨T, rfl⟩ | ⟨c, rfl⟩
  · refine codeAny_mono (go QV E0 ⟨O.has, Ts, .rt T, hz, by rw [less_has]; exact b, ho, fun v H' s' b' => hq v H' (s01.trans s') (by rw [less_has] at b'; exact b')⟩) fun r s' hq' => ?_
    cases r with
    | error e' => obtain ⟨_, _, _, _, _, _, _, z⟩ := hq'; exact z.elim
    | ok fl =>
      cases fl with
      | ret u => exact I1.after hq'
      | next => exact False.elim hq'
      | brk => exact False.elim hq'
      | cont => exact False.elim hq'
  · refine codeAny_mono (go (fun _ _ => False) (fun v _ H' => ∃ C, v = .ref C ∧ X.mg c = some (.ref C) ∧ Same H1 H') ⟨O.has, Ts, .xc c, hz, by rw [less_has]; exact b, ho, fun C H' hm s' => ⟨C, rfl, hm, s'⟩⟩) fun r s' hq' => ?_
    cases r with
    | error e' =>
      obtain ⟨C, H2, B, ea, t, rfl, fl, C', e1, hm', s12⟩ := hq'
      cases e1
      exact hq C H1 H2 s1 s' B ea t hm' s01 I1 fl s12
    | ok fl =>
      cases fl with
      | ret u => obtain ⟨_, _, _, _, _, _, _, z⟩ := hq'; exact z.elim
      | next => exact False.elim hq'
      | brk => exact False.elim hq'
      | cont => exact False.elim hq'
end
end L2
namespace L2
open PySem PySem.Spec PyProof.Rows
theorem Rep.setExc {K : PySem.W.Frag} {H : Hp} {O : Hid} {σ : St} {d : Sd} (r : Rep K H O σ d) (i : Nat) {a C : Addr} {c : Str} (hc : PySem.W.nsIn K mainGlobals c = some (some (.ref C))) (ha : less H O a = some (.ext (excAt a C))) : Rep K H O (σ.set i (some (.ref a))) (d.set i (some (.exc c))) where
  len := by rw [List.length_set, List.length_set]; exact r.len
  th := fun j U e => by
    by_cases hj : i = j
    · subst hj
      have hi : i < d.length := by
        have := (List.getElem?_eq_some_iff.mp e).1
        simpa using this
      rw [List.getElem?_set_self hi] at e
      cases e
    · rw [List.getElem?_set_ne hj] at e
      obtain ⟨w, h1, h2⟩ := r.th j U e
      exact ⟨w, by rw [List.getElem?_set_ne hj]; exact h1, h2⟩
  own := fun j ts e => by
    by_cases hj : i = j
    · subst hj
      have hi : i < d.length := by
        have := (List.getElem?_eq_some_iff.mp e).1
        simpa using this
      rw [List.getElem?_set_self hi] at e
      cases e
    · rw [List.getElem?_set_ne hj] at e
      obtain ⟨a, xs, h1, h2, h3⟩ := r.own j ts e
      exact ⟨a, xs, h1, by rw [List.getElem?_set_ne hj]; exact h2, h3⟩
  there := r.there
  inj := r.inj
  dct := fun j fz kvs e => by
    by_cases hj : i = j
    · subst hj
      rw [List.getElem?_set_self (by simpa using (List.getElem?_eq_some_iff.mp e).1)] at e
      cases e
    · rw [List.getElem?_set_ne hj] at e
      obtain ⟨a, h1, h2, h3⟩ := r.dct j fz kvs e
      exact ⟨a, h1, by rw [List.getElem?_set_ne hj]; exact h2, h3⟩
  exc := fun j c' e => by
    by_cases hj : i = j
    · subst hj
      have hi : i < d.length := by
        have := (List.getElem?_eq_some_iff.mp e).1
        simpa using this
      rw [List.getElem?_set_self hi] at e
      cases e
      exact ⟨a, C, List.getElem?_set_self (by rw [← r.len]; exact hi), hc, ha⟩
    · rw [List.getElem?_set_ne hj] at e
      obtain ⟨a, C, h1, h2⟩ := r.exc j c' e
      exact ⟨a, C, by rw [List.getElem?_set_ne hj]; exact h1, h2⟩
section
variable {X : Cx} {pins : List (Addr × Obj)} {σ : St} {H H1 H2 : Hp} {s s1 s2 : Shared} {C ea t : Addr} {B : Heap}
theorem Inv.bare_names (I : Inv X pins σ H s) {h' : Heap} {m' : Str → Option Value} {tk : Nat} (hn : h'.Ns X.env.locals m') (hs : Heap.SameBut X.env.locals s.heap h') : Inv X pins (List.replicate X.N.length none) H { s with heap := h', toks := tk } := by
  have keep : ∀ b o, s.heap.get? b = some o → b ≠ X.env.locals → h'.get? b = some o := fun b o q hb => (hs.2 b hb).trans q
  have old : ∀ b o, X.s₀.heap.get? b = some o → b ≠ X.env.locals := fun b o q z => by
    have := Heap.lt_size q
    rw [z] at this
    exact absurd (Nat.lt_of_lt_of_le this I.ok.above) (Nat.lt_irrefl _)
  refine ⟨I.ok, I.os, I.bare, ⟨fun b o q n hb hx => ?_, fun b o q n hb hx => ?_, I.base.free, fun b o q hx => ?_, I.base.tups, I.base.frzs, I.base.tbls⟩, ⟨m', hn, fun i x v _ h2 _ => ?_⟩, fun x c hc => ?_, I.free, I.freeC, fun p hp => ?_, fun a o q => ?_, by rw [List.length_replicate]⟩
  · exact keep b o (I.base.keep b o q n hb hx) (old b o q)
  · obtain ⟨sl, e⟩ := I.base.slot b o q n hb hx
    exact ⟨sl, keep b _ e (old b o q)⟩
  · obtain ⟨o', e⟩ := I.base.there b o q hx
    exact ⟨o', keep b _ e (old b o q)⟩
  · rw [List.getElem?_replicate] at h2
    split at h2 <;> cases h2
  · obtain ⟨v, o, ho, hd⟩ := I.cell x c hc
    exact ⟨v, o, keep c o ho (I.cne x c hc), hd⟩
  · obtain ⟨h1, h2, h3, h4⟩ := I.pin p hp
    exact ⟨keep _ _ h1 h3, h2, h3, h4⟩
  · refine (I.hok a o q).stay (fun b u hb q' => keep b u q' ?_) (fun _ z => z) fun _ _ z => z
    rintro rfl
    rcases hb with z | z
    · rw [← z, I.free] at q; cases q
    · rw [I.free] at z; cases z
variable {n : Str} {Dn : Addr} {b₀ : Stmt} {suite : List Stmt} {Fh : FS} {D : Ends} {np hp : Pos} {rest : List ExceptHandler}
theorem landsA {i : Nat} {y : Str} {c : Str} {O : Hid} {d : Sd} {T : Th} (I : Inv X pins σ H1 s1) (fl : Fly X.prog X.w X.stack H1 s1 C H2 B ea t s2) (hst : X.stack = X.env :: X.outer) (hfr : X.env.frame = some X.env.locals) (hno : ∀ e s, ¬ X.xe e s) (Zn : Exc X.K X.mg n Dn) (hgn : Gl X n) (hsub : PySem.W.subIn X.K (.ref C) (.ref Dn) = some true)
    (hs : PDSs (X.held ea) (b₀ :: suite) Fh) (hc : PySem.W.nsIn X.K mainGlobals c = some (some (.ref C))) (hN : X.N.Nodup) (hi : X.N[i]? = some y) (hy : X.env.scope.names.lookup y = some .local)
    (R : Rep X.K H2 O σ d) (e : Fh (d.set i (some (.exc c))) = some (.rt T)) (q : ∀ v H, Same (low H2 O) H → Bears X.K (less H ⟨[], O.far⟩) v T → D.rt v H) (hdb : (n == ("__debug__" : Str)) = false := by decide) :
    wpAny (model X.prog X.w) X.A (noteFrame (.ref ea) X.env) (fun _ s₂ => wpAny (model X.prog X.w) X.A (setFlight (.ref ea) none) (fun _ s₃ => wpAny (model X.prog X.w) X.A (handleBy (.ref ea) X.env (.ExceptHandler (some (.Name n np)) (some y) (b₀ :: suite) hp :: rest)) (SP X pins D) X.xe s₃) X.xe s₂) X.xe s2 := by
  have fl0 := fl.fly
  rw [hst] at fl0
  refine wpAny_looks_onW (I.ok.frames.trans (congrArg some hst)) hfr fl0 fun h4 held4 sm4 => ?_
  refine wpAny_landsW held4 fun h5 fl5 sm5 => ?_
  rw [← hst] at fl5
  have f5 := fl.on fl5 (sm4.trans sm5)
  have I5 := f5.caught I
  refine wpAny_handleBy_cons (codeAny_handlers_test (ld_glob (X := X.held ea) (I5.held ea) hgn Zn.is ?_ hdb)) (by intro q; cases q)
  obtain ⟨oe, h1, h2⟩ := f5.fly.there
  refine match_own (K := X.K) I5.kIn h1 h2 Zn.ok (by decide) hsub ?_
  refine codeAny_handlers_suite_as ?_
  refine lands_againW f5.fly fun h6 fl6 sm6 => ?_
  have f6 := f5.on fl6 sm6
  have I6 := f6.caught I
  have R2 : Rep X.K (upd H2 ea (.ext (excAt ea C))) O σ d := R.mono (Same.upd f6.free)
  have R3 : Rep X.K (upd H2 ea (.ext (excAt ea C))) O (σ.set i (some (.ref ea))) (d.set i (some (.exc c))) := R2.setExc i hc (less_of upd_same (R.notOwn f6.free))
  refine store_ok (X := X.held ea) (v := .ref ea) (I6.held ea) hN hi (Or.inl hy) rfl (fun s7 I7 => ?_) (.inr hy)
  refine wpAny_mono (hs pins s7 _ _ { nx := fun _ _ => False, rt := D.rt } I7 ⟨O, _, .rt T, R3, e, fun v H s' b => q v H ((low_mono (Same.upd f6.free)).trans s') b⟩) (fun f s' h => ?_) fun e' s' z => (hno _ _ z).elim
  cases f with
  | next => obtain ⟨_, _, _, z⟩ := h; exact z.elim
  | brk => obtain ⟨_, _, _, z⟩ := h; exact z.elim
  | cont => obtain ⟨_, _, _, z⟩ := h; exact z.elim
  | ret u =>
    obtain ⟨v, σ', H', I8, rv, q8⟩ := h
    have I8 := I8.unheld I.ok
    obtain ⟨m, hn8, _⟩ := id I8.loc
    refine wpAny_nameGoes hy hn8 (by rw [I.ok.kind]; rfl) fun h' m' hn' hs' => ?_
    exact ⟨v, _, H', I8.bare_names hn' hs', rv, q8⟩
end
end L2
namespace L2
open PySem PySem.Spec PyProof.Rows
section
variable {X : Cx} {k : Nat} {x n y z : Str} {C Dn : Addr} {φ : List Th → Option Out} {e : Expr} {es : List Expr} {g : FL} {p pos cpos epos np hp pz : Pos} {b₀ : Stmt} {suite : List Stmt} {Fh : FS} {c : Str} {i j : Nat}
def fTryS (j i : Nat) (g : FL) (φ : List Th → Option Out) (c : Str) (Fh : FS) : FS := fun d => (g d).bind fun Ts => (φ Ts).bind fun o => match o with
  | .rt T => some (.nx (d.set j (some (.th T))))
  | .xc c' => if c' = c then (match Fh (d.set i (some (.exc c))) with | some (.rt T) => some (.rt T) | _ => none) else none
  | _ => none
theorem pds_tryS (cl : CalleeX X.prog X.w X.K X.mg X.base k x φ) (Z : Exc X.K X.mg c C) (Zn : Exc X.K X.mg n Dn) (hsub : PySem.W.subIn X.K (.ref C) (.ref Dn) = some true) (hr : Room k X.A) (hg : Gl X x) (hgn : Gl X n) (ha : PDA X (e :: es) g) (hno : ∀ e s, ¬ X.xe e s)
    (hst : X.stack = X.env :: X.outer) (hfr : X.env.frame = some X.env.locals) (hN : X.N.Nodup) (hi : X.N[i]? = some y) (hy : X.env.scope.names.lookup y = some .local) (hj : X.N[j]? = some z) (hz : Loc X.env.scope z) (hs : ∀ ea, PDSs (X.held ea) (b₀ :: suite) Fh)
    (hdb : (x == ("__debug__" : Str)) = false := by decide) (hdn : (n == ("__debug__" : Str)) = false := by decide) (he : starEach (e :: es) X.env = (false, eval e X.env) :: starEach es X.env := by rfl) (hpl : (backTo cpos (starEach es X.env)).any (·.1) = false := by rfl)
    (hsw : swapsWith (.Call (.Name x p) (e :: es) [] cpos) (some (.Name z pz)) epos.line X.env = pure false := by rfl) (hf : X.fn z = true ∨ X.env.scope.names.lookup z = some .local := by first | exact .inl rfl | exact .inr rfl | assumption) :
    PDS X (.Try [.Assign [.Name z pz] (.Call (.Name x p) (e :: es) [] cpos) epos] [.ExceptHandler (some (.Name n np)) (some y) (b₀ :: suite) hp] [] [] pos) (fTryS j i g φ c Fh) := by
  intro pins s σ H D I h
  obtain ⟨O, d, o, R, eo, q⟩ := h
  unfold fTryS at eo
  cases hgd : g d with
  | none => rw [hgd] at eo; cases eo
  | some Ts =>
    rw [hgd] at eo
    change ((φ Ts).bind _) = _ at eo
    cases ho : φ Ts with
    | none => rw [ho] at eo; cases eo
    | some o1 =>
      rw [ho] at eo
      refine wpAny_Try_except ?_
      have key : ∀ (QV : VK) (XE : Value → Shared → Prop), wpAny (model X.prog X.w) X.A (eval (.Call (.Name x p) (e :: es) [] cpos) X.env) (EP X pins σ QV) XE s →
          (∀ s' H' v, Inv X pins (σ.set j (some v)) H' s' → QV v H' → SP X pins D .next s') → wpAny (model X.prog X.w) X.A (execs [.Assign [.Name z pz] (.Call (.Name x p) (e :: es) [] cpos) epos] X.env) (fun f s₁ => match f with | .next => wpAny (model X.prog X.w) X.A (execs [] X.env) (SP X pins D) X.xe s₁ | f => SP X pins D f s₁) XE s := fun QV XE hc hk => by
        refine wpAny_execs_cons (wpAny_Assign_Name (thn hc fun u s1 ⟨v, H1, I1, r, q1⟩ => ?_) hsw)
        exact store_ok I1 hN hj hz r (fun s2 I2 => wpAny_execs_nil (wpAny_execs_nil (hk s2 H1 v I2 q1))) hf
      cases o1 with
      | rt T =>
        change some (Out.nx (d.set j (some (.th T)))) = _ at eo
        cases eo
        refine key (fun v H' => Same H H' ∧ Bears X.K (less H' O) v T) _ (call_x (φ := φ) cl hr hg ha hno I R hgd ho (fun v H' s' b => ⟨s', b⟩) hdb he hpl (.inl ⟨T, rfl⟩)) fun s' H' v I' ⟨s1, b⟩ => ⟨_, H', I', q _ H' O rfl (low_mono s1) ((R.mono s1).set j b)⟩
      | xc c' =>
        change (if c' = c then (match Fh (d.set i (some (.exc c))) with | some (.rt T) => some (Out.rt T) | _ => none) else none) = _ at eo
        split at eo
        · rename_i hcc
          subst hcc
          split at eo
          · rename_i T hF
            cases eo
            refine key (fun _ _ => False) _ (call_x (φ := φ) cl hr hg ha hno I R hgd ho (fun C' H1 H2 s1 s2 B ea t hm s01 I1 fl s12 => ?_) hdb he hpl (.inr ⟨_, rfl⟩)) fun s' H' v I' z => z.elim
            have hCC : C' = C := by rw [Z.is] at hm; cases hm; rfl
            subst hCC
            have sH := s01.trans s12
            exact landsA I1 fl hst hfr hno Zn hgn hsub (hs ea) Z.at_ hN hi hy (R.mono sH) hF (fun v H' s' b => q v H' ((low_mono sH).trans s') b) hdn
          · cases eo
        · cases eo
      | nx d' => cases eo
      | bk d' => cases eo
      | ct d' => cases eo
end
end L2
namespace L2
open PySem PySem.Spec PyProof.Rows
structure ExcK (K : PySem.W.Frag) (C : Addr) : Prop where
  cls : PySem.W.findIn K (.ref C) "__class__" = some (some (.builtin "object.__class__"))
  get : PySem.W.findIn K (.ref C) "__getattribute__" = some (some (.builtin "BaseException.__getattribute__"))
  hook : PySem.W.findIn K (.ref C) "__getattr__" = some none
  obj : PySem.W.subIn K (.ref C) (.type "object") = some true
  exc : PySem.W.subIn K (.ref C) (.type "BaseException") = some true
  isc : (PySem.W.clsIn K C).isSome = true
section
variable {prog : Program} {w : World} {A : Around} {E : Value → Shared → Prop} {K : PySem.W.Frag} {h : Heap} {g : Array GenState} {d : Drawn} {t : Nat} {os : OsState} {a C : Addr} {o : Obj}
theorem xc_get {R : Result → Shared → Prop} (kin : K.In h) (Z : ExcK K C) (hx : h.get? a = some o) (hc : o.cls = .ref C) (hq : R (.ok (.ret (.ref C))) ⟨h, g, d, t, os⟩) :
    codeAny (model prog w) A (.call (.builtin "getset_descriptor.__get__") ⟨[.builtin "object.__class__", .ref a, .ref C], []⟩) R ⟨h, g, d, t, os⟩ := by
  have tg : (⟨h, g, d, t, os⟩ : Shared).TypeIs (.builtin "object.__class__") "getset_descriptor" := F.typeOf_object_class
  have ls : PySem.W.Looks (model prog w) h (isSubtype (.ref C) (.type (".".intercalate ("object.__class__".cutAt '.').dropLast))) true := by
    rw [F.owner_object_class]; exact PySem.W.looks_subIn kin Z.obj
  refine codeAny_call_builtin F.slot_gs_get.plain F.entry_gs_get ?_
  refine F.slot_gs_get.check _ _ _ _ _ _ _ _ tg (F.args_gs_get _ _ _) ?_
  repeat (any_goals (first | assumption | (with_reducible refine wpAny_loadPart_at hx ?_; rw [hc]) | with_reducible refine ls.at ?_ | wp_step))
  refine ⟨Code.quiet_builtin _ (by decide +kernel), ?_⟩
  refine codeAny_builtin F.entry_object_class ?_
  repeat (any_goals (first | assumption | (with_reducible refine wpAny_loadPart_at hx ?_; rw [hc]) | with_reducible refine ls.at ?_ | wp_step))
theorem xc_entry {tk : Tok} {Q : Fin → Shared → Prop} (kin : K.In h) (Z : ExcK K C) (hx : h.get? a = some o) (hc : o.cls = .ref C) (hq : Q (.done (.ret (.ref C))) ⟨h, g, d, t, os⟩) :
    wpAny (model prog w) A (Builtin.«object.__getattribute__» ⟨[.ref a, .str "__class__" tk], []⟩) Q E ⟨h, g, d, t, os⟩ := by
  have tg : (⟨h, g, d, t, os⟩ : Shared).TypeIs (.builtin "object.__class__") "getset_descriptor" := F.typeOf_object_class
  have lf := PySem.W.looks_findIn (M := model prog w) kin Z.cls
  have g5 := F.typeOf_object_class
  have g6 := F.slot_gs_get.lookup
  have g7 := F.slot_gs_set.lookup
  repeat (any_goals (first | assumption | (with_reducible refine wpAny_loadPart_at hx ?_; rw [hc]) | with_reducible refine lf.at ?_ | wp_step))
  refine xc_get kin Z hx hc ?_
  repeat (any_goals (first | assumption | (with_reducible refine wpAny_loadPart_at hx ?_; rw [hc]) | wp_step))
theorem xc_check {M : Model} {nameV : Value} {Q : Unit → Shared → Prop} (kin : K.In h) (Z : ExcK K C) (hx : h.get? a = some o) (hc : o.cls = .ref C) (hq : Q () ⟨h, g, d, t, os⟩) : wpAny M A (checkBuiltinCall "BaseException.__getattribute__" ⟨[.ref a, nameV], []⟩) Q E ⟨h, g, d, t, os⟩ := by
  have e1 : builtinKind "BaseException.__getattribute__" = some .slot := by decide +kernel
  have e2 : splitId "BaseException.__getattribute__" = some ("BaseException", "__getattribute__") := by decide +kernel
  have ls := PySem.W.looks_subIn (M := M) kin Z.exc
  have ar := F.args_bexc_ga (.ref a) nameV
  simp only [checkBuiltinCall, e1, e2]
  refine wpAny_bind ?_
  unfold isInstance
  repeat (first | (with_reducible refine wpAny_loadPart_at hx ?_; rw [hc]) | with_reducible refine ls.at ?_ | wp_step)
  exact hq
theorem xc_by {tk : Tok} {Q : Value → Shared → Prop} (kin : K.In h) (Z : ExcK K C) (hx : h.get? a = some o) (hc : o.cls = .ref C) (hq : Q (.ref C) ⟨h, g, d, t, os⟩) : wpAny (model prog w) A (getAttrBy (.ref a) (.str "__class__" tk) false) Q E ⟨h, g, d, t, os⟩ := by
  have lg := PySem.W.looks_findIn (M := model prog w) kin Z.get
  have lh := PySem.W.looks_findIn (M := model prog w) kin Z.hook
  have e3 := F.excAttr_ValueError.ga.bind (.ref a)
  have y0 : (false && onTheHeap (Value.builtin "BaseException.__getattribute__")) = false := rfl
  have y2 : (Value.builtin "BaseException.__getattribute__" == Value.builtin "object.__getattribute__") = false := by decide +kernel
  have y1 : (onTheHeap (Value.ref C) && Value.builtin "BaseException.__getattribute__" == Value.builtin "object.__getattribute__") = false := by rw [y2]; rfl
  repeat (any_goals (first | assumption | (with_reducible refine wpAny_loadPart_at hx ?_; rw [hc]) | with_reducible refine lg.at ?_ | with_reducible refine lh.at ?_ | wp_step))
  refine codeAny_call_builtin F.excAttr_ValueError.ga.plain F.entry_bexc_ga (xc_check kin Z hx hc ?_)
  refine xc_entry kin Z hx hc ?_
  repeat (any_goals (first | assumption | wp_step))
theorem xc_attr {Q : Option Value → Shared → Prop} (kin : K.In h) (Z : ExcK K C) (hx : h.get? a = some o) (hc : o.cls = .ref C) (hq : Q (some (.ref C)) ⟨h, g, d, t + 1, os⟩) : wpAny (model prog w) A (getAttr? (.ref a) "__class__") Q E ⟨h, g, d, t, os⟩ := by
  unfold getAttr? getAttrBy?
  repeat (any_goals (first | assumption | with_reducible apply xc_by kin Z hx hc | wp_step))
end
theorem kitx_exc {K : PySem.W.Frag} {a C : Addr} (Z : ExcK K C) : PySem.W.KitX K (.ref a) (.ref C) (excAt a C) where
  ty := fun M h _ ⟨o, h1, h2⟩ => h2 ▸ (PySem.W.Looks.ld h1).andThen .now
  it := fun M h X _ => by
    have z := Z.isc
    unfold PySem.W.clsIn at z
    split at z
    · rename_i ho
      intro A' Q' E' s' k q
      unfold isType loadHead
      exact wpAny_bind (wpAny_loadPart (k _ _ (X _ _ ho)) (wpAny_pure q))
    · cases z
  ne := fun h tp dd its n sl X htp => by
    have z := Z.isc
    refine Bool.eq_false_iff.mpr fun q => ?_
    have e : C = tp := Value.ref.inj (beq_iff_eq.mp q)
    subst e
    unfold PySem.W.clsIn at z
    split at z
    · rename_i ho
      have y := (X _ _ ho).symm.trans htp
      cases y
    · cases z
  ca := fun {prog w A E Q s} X ⟨o, h1, h2⟩ k => by
    obtain ⟨h, g, d, t, os⟩ := s
    exact xc_attr X Z h1 h2 k
end L2
namespace L2
open PySem PySem.Spec PyProof.Rows
section
variable {X : Cx} {C : Addr} {c N y : Str} {b : Bool} {i : Nat} {p py p2 pos : Pos}
def rIsX (C : Addr) (D : V) (b : Bool) : List V → Hp → VK → Prop := fun xs H Q => ∃ a, xs = [.ref a, D] ∧ H a = some (.ext (excAt a C)) ∧ Q (.bl b) H
theorem call_isX {D : V} {u : Value} (Z : ExcK X.K C) (hD : ∀ u', RelV D u' → u' = u) (he : PySem.W.kitOne X.K (.ref C) u = some b) : CallR X (.builtin "isinstance") (rIsX C D b) := by
  intro pins s σ H xs us Q I r h
  obtain ⟨a, rfl, ha, q⟩ := h
  cases r with
  | cons r1 r2 => cases r2 with
    | cons r2 r3 =>
      cases r3
      cases (show _ = Value.ref a from r1)
      cases (hD _ r2)
      obtain ⟨p, _, _⟩ := I.hok a _ ha
      exact PySem.W.kia_one (kitx_exc Z) I.kIn p he (fun z => nomatch z) fun tk => ⟨.bl _, H, I.tok _, rfl, q⟩
def fIsX (i : Nat) (c : Str) (b : Bool) : FD := fun d => match d[i]? with | some (some (.exc c')) => if c' = c then some (.bl b) else none | _ => none
theorem isX_lift {σ : St} {H : Hp} {Q : VK} {D : V} (hc : PySem.W.nsIn X.K mainGlobals c = some (some (.ref C))) (h : liftD X.K (fIsX i c b) σ H Q) : tCB (rIsX C D b) (tCons (tVar i) (tCons (tC D) tNil)) σ H Q := by
  obtain ⟨O, d, T, R, e, q⟩ := h
  unfold fIsX at e
  split at e
  · rename_i c' hd
    split at e
    · rename_i hcc
      subst hcc
      cases e
      obtain ⟨a, C', h1, h2, h3⟩ := R.exc i _ hd
      rw [hc] at h2
      cases h2
      exact ⟨.ref a, h1, a, rfl, (less_sub H O) _ _ h3, q _ H (Same.refl H) (.bl _)⟩
    · cases e
  · cases e
theorem pd_isX {D : Addr} (Z : ExcK X.K C) (hc : PySem.W.nsIn X.K mainGlobals c = some (some (.ref C))) (hy : PE X (.Name y py) (tVar i)) (hg : Gl X "isinstance") (hm : X.mg "isinstance" = none) (hgN : Gl X N) (hmN : X.mg N = some (.ref D)) (he : PySem.W.kitOne X.K (.ref C) (.ref D) = some b)
    (hdN : (N == ("__debug__" : Str)) = false := by decide)
    (hs1 : starEach [.Name y py, .Name N p2] X.env = (false, eval (.Name y py) X.env) :: starEach [.Name N p2] X.env := by rfl) (hpl : (backTo pos (starEach [.Name N p2] X.env)).any (·.1) = false := by rfl) (hs2 : starEach [.Name N p2] X.env = (false, eval (.Name N p2) X.env) :: starEach [] X.env := by rfl) :
    PD X (.Call (.Name "isinstance" p) [.Name y py, .Name N p2] [] pos) (fIsX i c b) :=
  PE.imp (pe_callB (call_isX (D := .ref D) (u := .ref D) Z (fun _ h => h) he) hg hm (by rfl) (pa_cons hy (pa_cons (pe_glob (v := .ref D) hgN hmN rfl hdN) pa_nil hs2) hs1) (by decide) (by decide) hs1 hpl) fun σ H Q h => isX_lift hc h
theorem pd_isXB {T : String} (Z : ExcK X.K C) (hc : PySem.W.nsIn X.K mainGlobals c = some (some (.ref C))) (hy : PE X (.Name y py) (tVar i)) (hg : Gl X "isinstance") (hm : X.mg "isinstance" = none) (hgN : Gl X N) (hmN : X.mg N = none) (hv : bootBuiltins N = some (.type T)) (he : PySem.W.kitOne X.K (.ref C) (.type T) = some b)
    (hnN : N ≠ "__name__" := by decide) (hdN : (N == ("__debug__" : Str)) = false := by decide)
    (hs1 : starEach [.Name y py, .Name N p2] X.env = (false, eval (.Name y py) X.env) :: starEach [.Name N p2] X.env := by rfl) (hpl : (backTo pos (starEach [.Name N p2] X.env)).any (·.1) = false := by rfl) (hs2 : starEach [.Name N p2] X.env = (false, eval (.Name N p2) X.env) :: starEach [] X.env := by rfl) :
    PD X (.Call (.Name "isinstance" p) [.Name y py, .Name N p2] [] pos) (fIsX i c b) :=
  PE.imp (pe_callB (call_isX (D := .ty T) (u := .type T) Z (fun _ h => h) he) hg hm (by rfl) (pa_cons hy (pa_cons (pe_bltn (v := .ty T) hgN hmN hv rfl hnN hdN) pa_nil hs2) hs1) (by decide) (by decide) hs1 hpl) fun σ H Q h => isX_lift hc h
end
end L2
namespace L2
open PySem PySem.Spec PyProof.Rows
theorem isc_of {K : PySem.W.Frag} {C : Addr} {bm : List Value} {n : String} (good : PySem.W.excIn K C bm n = true) : (PySem.W.clsIn K C).isSome = true := by
  unfold PySem.W.excIn at good
  unfold PySem.W.clsIn
  split at good
  case h_2 => cases good
  rename_i look
  rw [look]
  rfl
end L2
namespace L2
open PySem PySem.Spec PyProof.Rows
section
variable {X : Cx} {K : PySem.W.Frag} {o a b c e : Expr} {fo fa fb fc f : FD} {pos : Pos} {k : Nat}
def strsOf : List Th → Option (List Str)
  | [] => some []
  | .str y :: r => (strsOf r).map (y :: ·)
  | _ => none
theorem strs_rel {H : Hp} : ∀ {ts : List Th} {ys : List Str} {vs : List V} {us : List Value}, strsOf ts = some ys → BearsL K H vs ts → Vals vs us → StrsAre us ys
  | [], _, _, _, e, b, r => by cases e; cases b; cases r; exact .nil
  | t :: ts, _, _, _, e, b, r => by
    cases b with
    | cons b1 b2 => cases r with
      | cons r1 r2 =>
        cases b1 with
        | str y =>
          unfold strsOf at e
          cases hb : strsOf ts with
          | none => rw [hb] at e; cases e
          | some bs =>
            rw [hb] at e
            cases e
            obtain ⟨t, rfl⟩ := r1
            exact .cons y t (strs_rel hb b2 r2)
        | _ => cases e
def joinD (z : Str) (ts : List Th) : Option Str := (strsOf ts).bind fun ys => if (ys.map (·.length)).sum + ys.length * z.length ≤ 16777216 then some (Txt.join z ys) else none
def rJoin (K : PySem.W.Frag) : V → List V → Hp → VK → Prop := fun x xs H Q => ∃ z p ys ts r, x = .str z ∧ xs = [.ref p] ∧ SqL K H p ys ∧ BearsL K H ys ts ∧ joinD z ts = some r ∧ Q (.str r) H
theorem mt_join : MtR X "str.join" (rJoin X.K) := by
  intro pins s σ H x xs v us Q I rx rs h
  obtain ⟨z, p, ys, ts, r, rfl, rfl, hs, b, e, q⟩ := h
  obtain ⟨t, rfl⟩ := rx
  obtain ⟨u, rfl, ru⟩ := vals1 rs
  cases ru
  obtain ⟨its, r', hl⟩ := lst_is I hs
  unfold joinD at e
  cases hy : strsOf ts with
  | none => rw [hy] at e; cases e
  | some ss =>
    rw [hy] at e
    change (if _ then _ else _) = _ at e
    split at e
    · rename_i hz
      cases e
      exact join_list hl (by simpa using strs_rel hy b r') hz fun t' k => ⟨.str _, H, I.tok _, ⟨_, rfl⟩, q⟩
    · cases e
def oJoin : Th → Th → Option Th := fun x y => match x, y with | .str z, .lst ts => (joinD z ts).map Th.str | _, _ => none
theorem pd_join {apos cpos : Pos} (ho : PB X o fo) (ha : PB X e fa)
    (hbase : attributeBase o "join" X.env (eval o X.env) = eval o X.env := by rfl)
    (hfew : ((backTo cpos (starEach (e :: []) X.env)).all (fun x => !x.1) && (backToKw cpos (keywordEach [] X.env)).all (fun x => x.1.isSome)
      && decide ((e :: []).length + ([] : List Keyword).length + (if ([] : List Keyword).isEmpty then 0 else 1) < 30)) = true := by rfl)
    (hline : (apos.endLine == cpos.line) = true := by rfl) (hs : starEach (e :: []) X.env = (false, eval e X.env) :: starEach [] X.env := by rfl) (hplain : (backTo cpos (starEach [] X.env)).any (·.1) = false := by rfl) :
    PD X (.Call (.Attribute o "join" apos) [e] [] cpos) (f2 oJoin fo fa) :=
  PE.imp (pe_bm PySem.F.plainAttrs_str PySem.F.slot_str_join PySem.F.type_str_join mt_join ho (pba_cons ha pba_nil hs) hbase hfew hline hs hplain) fun σ H Q ⟨O, d, T, R, e, q⟩ => by
    obtain ⟨x, y, h1, h2, e⟩ := f2_some e
    cases x with
    | str z =>
      cases y with
      | lst ts =>
        change (joinD z ts).map Th.str = some T at e
        cases hj : joinD z ts with
        | none => rw [hj] at e; cases e
        | some r =>
          rw [hj] at e
          cases e
          refine ⟨O, d, _, R, h1, fun v1 H1 s1 b1 => ?_⟩
          rw [b1.str]
          refine ⟨rfl, O, d, [.lst ts], R.mono s1, by unfold fCons fNil; rw [h2]; rfl, fun vs H2 s2 b2 => ?_⟩
          obtain ⟨u, rfl, bu⟩ := paired1 b2
          have bb := bu.bears
          cases bb with
          | lst e' h' => exact ⟨z, _, _, ts, r, rfl, rfl, e', h', hj, q _ H2 (s1.trans s2) (.str _)⟩
      | _ => cases e
    | _ => cases e
end
end L2
namespace L2
open PySem PySem.Spec PyProof.Rows
section
variable {prog : Program} {w : World} {A : Around} {E : Value → Shared → Prop} {s : Shared} {x y : Str} {t u : Tok} {Q : Value → Shared → Prop}
theorem call_split (hy : (y.length == 0) = false) (h1 : x.length ≤ sizeLine) (h2 : (Builtin.Str.partsBetween x (Builtin.Str.occurrences x y 0 x.length (x.length + 1)) y.length).length ≤ sizeLine)
    (hq : ∀ (l : List (Str × Tok)) (k : Nat), l.map (·.1) = Txt.split x y → Q (.ref s.heap.objs.size) { s with heap := s.heap.push { cls := .type "list", data := .seq (strValues l).toArray }, toks := k }) :
    wpAny (model prog w) A (call (.builtin "str.split") [.str x t, .str y u]) Q E s := by
  by_cases c1 : (decide (x.length < y.length) || decide (Builtin.Str.strKind x < Builtin.Str.strKind y)) = true
  · have m := meets_str_split_cannot_occur x y t u c1
    refine call_meets F.slot_str_split (typeIs_str _ _ _) F.entry_str_split (F.args_str_split_2 _ _) m ?_
    exact hq [(x, t)] _ (if_pos c1).symm
  · have c1' := eq_false_of_ne_true c1
    by_cases c2 : (Builtin.Str.occurrences x y 0 x.length (x.length + 1)).isEmpty = true
    · have m := meets_str_split_not_found x y t u c1' hy c2
      refine call_meets F.slot_str_split (typeIs_str _ _ _) F.entry_str_split (F.args_str_split_2 _ _) m ?_
      exact hq [(x, t)] _ ((if_neg c1).trans (if_pos c2)).symm
    · have m := meets_str_split_sep x y t u c1' hy (eq_false_of_ne_true c2) h1 h2
      refine call_meets F.slot_str_split (typeIs_str _ _ _) F.entry_str_split (F.args_str_split_2 _ _) m ?_
      show wants Q E _ { s with toks := _, heap := s.heap.push { cls := .type "list", data := .seq (strsFrom s.toks (Builtin.Str.partsBetween x (Builtin.Str.occurrences x y 0 x.length (x.length + 1)) y.length)).toArray } }
      rw [strsFrom_eq]
      exact hq (PySem.numbered s.toks _) _ ((numbered_texts _ _).trans ((if_neg c1).trans (if_neg c2)).symm)
end
section
variable {X : Cx} {K : PySem.W.Frag} {o e : Expr} {fo fa : FD}
def splitOk (z y : Str) : Bool := !(y.length == 0) && decide (z.length ≤ 100000) && decide ((Builtin.Str.partsBetween z (Builtin.Str.occurrences z y 0 z.length (z.length + 1)) y.length).length ≤ 1000000) && decide ((Txt.split z y).length ≤ 1000000)
def rSplit : V → List V → Hp → VK → Prop := fun x xs H Q => ∃ z y, x = .str z ∧ xs = [.str y] ∧ splitOk z y = true ∧ ∀ p, H p = none → Q (.ref p) (upd H p (.lst ((Txt.split z y).map V.str)))
theorem vals_strs : ∀ l : List (Str × Tok), Vals ((l.map (·.1)).map V.str) (strValues l)
  | [] => .nil
  | (z, t) :: l => .cons ⟨t, rfl⟩ (vals_strs l)
theorem mt_split : MtR X "str.split" rSplit := by
  intro pins s σ H x xs v us Q I rx rs h
  obtain ⟨z, y, rfl, rfl, hok, q⟩ := h
  obtain ⟨t, rfl⟩ := rx
  obtain ⟨u, rfl, ru⟩ := vals1 rs
  obtain ⟨t2, rfl⟩ := ru
  unfold splitOk at hok
  simp only [Bool.and_eq_true, Bool.not_eq_true', decide_eq_true_eq] at hok
  obtain ⟨⟨⟨h1, h2⟩, h3⟩, h4⟩ := hok
  refine call_split h1 (Nat.le_trans h2 (by decide)) (Nat.le_trans h3 (by decide)) fun l k hl => ?_
  refine ⟨.ref s.heap.objs.size, upd H s.heap.objs.size (.lst ((Txt.split z y).map V.str)), ?_, rfl, q _ (I.hok.fresh (Nat.le_refl _))⟩
  refine I.laid (fun b u e => Heap.get?_push_of_some _ e) (Nat.le_refl _) ?_
  exact ⟨by rw [List.length_map]; exact Nat.le_trans h4 (by decide), strValues l, 0, by rw [← hl]; exact vals_strs l, Heap.get?_push_size _ rfl⟩
def fSplit (fo fa : FD) : FL := fun d => match fo d, fa d with | some (.str z), some (.str y) => if splitOk z y = true then some ((Txt.split z y).map Th.str) else none | _, _ => none
theorem bears_strs {H : Hp} : ∀ l : List Str, BearsL K H (l.map V.str) (l.map Th.str)
  | [] => .nil
  | y :: l => .cons (.str y) (bears_strs l)
theorem pf_split {apos cpos : Pos} (ho : PB X o fo) (ha : PB X e fa)
    (hbase : attributeBase o "split" X.env (eval o X.env) = eval o X.env := by rfl)
    (hfew : ((backTo cpos (starEach (e :: []) X.env)).all (fun x => !x.1) && (backToKw cpos (keywordEach [] X.env)).all (fun x => x.1.isSome)
      && decide ((e :: []).length + ([] : List Keyword).length + (if ([] : List Keyword).isEmpty then 0 else 1) < 30)) = true := by rfl)
    (hline : (apos.endLine == cpos.line) = true := by rfl) (hs : starEach (e :: []) X.env = (false, eval e X.env) :: starEach [] X.env := by rfl) (hplain : (backTo cpos (starEach [] X.env)).any (·.1) = false := by rfl) :
    PF X (.Call (.Attribute o "split" apos) [e] [] cpos) (fSplit fo fa) :=
  PE.imp (pe_bm PySem.F.plainAttrs_str PySem.F.slot_str_split PySem.F.type_str_split mt_split ho (pba_cons ha pba_nil hs) hbase hfew hline hs hplain) fun σ H Q ⟨O, d, T, R, e, q⟩ => by
    unfold fSplit at e
    split at e
    · rename_i z y hz hy
      split at e
      · rename_i hok
        cases e
        refine ⟨O, d, _, R, hz, fun v1 H1 s1 b1 => ?_⟩
        rw [b1.str]
        refine ⟨rfl, O, d, [.str y], R.mono s1, by unfold fCons fNil; rw [hy]; rfl, fun vs H2 s2 b2 => ?_⟩
        obtain ⟨u, rfl, bu⟩ := paired1 b2
        rw [bu.str]
        exact ⟨z, y, rfl, rfl, hok, fun p hp => q _ _ ((s1.trans s2).trans (Same.upd hp)) ⟨p, _, rfl, (s1.trans s2).free hp, upd_same, bears_strs _⟩⟩
      · cases e
    · cases e
end
end L2
namespace L2
open PySem PySem.Spec PyProof.Rows
end L2
namespace Sg
open PySem PyProof.Rows
section pure
variable {O : KeyOrd} {key : Keyed → O.α}
def Up (key : Keyed → O.α) (l : List Keyed) : Prop := l.Pairwise (fun x y => O.kle (key x) (key y))
def Below (key : Keyed → O.α) (l m : List Keyed) : Prop := ∀ x ∈ l, ∀ y ∈ m, O.kle (key x) (key y)
theorem Up.app {l m : List Keyed} (h1 : Up key l) (h2 : Up key m) (h3 : Below key l m) : Up key (l ++ m) :=
  List.pairwise_append.mpr ⟨h1, h2, h3⟩
theorem Up.sub {l m : List Keyed} (h : Up key m) (hs : l.Sublist m) : Up key l := List.Pairwise.sublist hs h
theorem Below.sub {l m l' m' : List Keyed} (h : Below key l m) (h1 : ∀ x ∈ l', x ∈ l) (h2 : ∀ x ∈ m', x ∈ m) : Below key l' m' :=
  fun x hx y hy => h x (h1 x hx) y (h2 y hy)
theorem Below.app {l m n : List Keyed} (h1 : Below key l n) (h2 : Below key m n) : Below key (l ++ m) n :=
  fun x hx y hy => (List.mem_append.mp hx).elim (fun q => h1 x q y hy) fun q => h2 x q y hy
structure Lo (key : Keyed → O.α) (a b out : List Keyed) (ia ib : Nat) : Prop where
  perm : out.Perm (a.take ia ++ b.take ib)
  up : Up key out
  ba : Below key out (a.drop ia)
  bb : Below key out (b.drop ib)
variable {a b out : List Keyed} {ia ib k : Nat}
theorem Lo.finB (h : Lo key a b out ia ib) (ua : Up key a) (ub : Up key b) (hx : Below key (b.drop ib) (a.drop ia)) :
    (out ++ b.drop ib ++ a.drop ia).Perm (a ++ b) ∧ Up key (out ++ b.drop ib ++ a.drop ia) := by
  refine ⟨?_, ((h.up.app (ub.sub (List.drop_sublist ..)) h.bb).app (ua.sub (List.drop_sublist ..)) (h.ba.app hx))⟩
  refine ((h.perm.append_right _).append_right _).trans ?_
  have e : (a ++ b) = (a.take ia ++ a.drop ia) ++ (b.take ib ++ b.drop ib) := by rw [List.take_append_drop, List.take_append_drop]
  rw [e]
  simp only [List.append_assoc]
  refine List.Perm.append_left _ ?_
  have : (b.take ib ++ (b.drop ib ++ a.drop ia)).Perm (a.drop ia ++ (b.take ib ++ b.drop ib)) := by
    rw [← List.append_assoc]
    exact List.perm_append_comm
  exact this
structure Hi (key : Keyed → O.α) (a b out : List Keyed) (na nb : Nat) : Prop where
  perm : out.Perm (a.drop na ++ b.drop nb)
  up : Up key out.reverse
  ba : Below key (a.take na) out
  bb : Below key (b.take nb) out
variable {na nb t : Nat}
theorem Hi.finB (h : Hi key a b out na nb) (ua : Up key a) (ub : Up key b) (hx : Below key (b.take nb) (a.take na)) :
    (b.take nb ++ a.take na ++ out.reverse).Perm (a ++ b) ∧ Up key (b.take nb ++ a.take na ++ out.reverse) := by
  refine ⟨?_, (((ub.sub (List.take_sublist ..)).app (ua.sub (List.take_sublist ..)) hx).app h.up ((h.bb.app h.ba).sub (fun _ q => q) fun _ q => List.mem_reverse.mp q))⟩
  refine (List.Perm.append_left _ ((List.reverse_perm _).trans h.perm)).trans ?_
  have e : (a ++ b) = (a.take na ++ a.drop na) ++ (b.take nb ++ b.drop nb) := by rw [List.take_append_drop, List.take_append_drop]
  rw [e]
  refine (List.Perm.append_right _ List.perm_append_comm).trans ?_
  simp only [List.append_assoc]
  refine List.Perm.append_left _ ?_
  rw [← List.append_assoc, ← List.append_assoc]
  exact List.Perm.append_right _ List.perm_append_comm
end pure
end Sg
namespace Sg
open PySem PyProof.Rows
def nth (xs : Array Keyed) (i : Nat) : Keyed := (xs[i]?).getD (Value.none, Value.none)
theorem nth_pos {xs : Array Keyed} {i : Nat} (h : i < xs.size) : xs[i]? = some (nth xs i) := by
  unfold nth; rw [getElem?_pos xs i h]; rfl
theorem nth_list {xs : Array Keyed} {i : Nat} (h : i < xs.size) : xs.toList[i]? = some (nth xs i) := by
  rw [Array.getElem?_toList]; exact nth_pos h
end Sg
namespace Sg
open PySem PyProof.Rows
abbrev setGal (st : SortSt) (g : Nat) : SortSt := SortSt.mk' (kindOf st) (arrOf st) (pendingOf st) g (failedOf st)
def Same (st st' : SortSt) : Prop := ∃ g, st' = setGal st g
theorem Same.kind {st st' : SortSt} (h : Same st st') : kindOf st' = kindOf st := by
  obtain ⟨g', rfl⟩ := h
  rfl
section pure
variable {O : KeyOrd} {key : Keyed → O.α}
theorem up_nth {xs : Array Keyed} (u : Up key xs.toList) {i j : Nat} (hij : i ≤ j) (hj : j < xs.size) : O.kle (key (nth xs i)) (key (nth xs j)) := by
  rcases Nat.eq_or_lt_of_le hij with rfl | hlt
  · exact KeyOrd.kle_refl _
  · have hi' : i < xs.toList.length := by simp; omega
    have hj' : j < xs.toList.length := by simpa using hj
    have e1 := nth_list (xs := xs) (i := i) (by omega)
    have e2 := nth_list hj
    rw [List.getElem?_eq_getElem hi'] at e1
    rw [List.getElem?_eq_getElem hj'] at e2
    have h := List.pairwise_iff_getElem.mp u i j hi' hj' hlt
    rw [Option.some.inj e1, Option.some.inj e2] at h
    exact h
theorem mem_upto {xs : Array Keyed} {n t : Nat} {x : Keyed} (h : x ∈ (xs.toList.take n).drop t) : ∃ j, t ≤ j ∧ j < n ∧ j < xs.size ∧ x = nth xs j := by
  obtain ⟨j, hj, e⟩ := List.getElem_of_mem h
  have hj' := hj
  rw [List.length_drop, List.length_take, Array.length_toList] at hj'
  refine ⟨t + j, by omega, by omega, by omega, ?_⟩
  rw [← e, List.getElem_drop, List.getElem_take]
  have e2 := nth_list (xs := xs) (i := t + j) (by omega)
  rw [List.getElem?_eq_getElem (by simp; omega)] at e2
  exact Option.some.inj e2
theorem mem_first {xs : Array Keyed} {n : Nat} {x : Keyed} (h : x ∈ xs.toList.take n) : ∃ j, j < n ∧ j < xs.size ∧ x = nth xs j := by
  have h' : x ∈ (xs.toList.take n).drop 0 := by rw [List.drop_zero]; exact h
  obtain ⟨j, -, h2, h3, h4⟩ := mem_upto h'
  exact ⟨j, h2, h3, h4⟩
theorem below_upto {xs : Array Keyed} (u : Up key xs.toList) {l : List Keyed} {n : Nat} (hn : n ≤ xs.size) (h : ∀ x ∈ l, 0 < n → O.kle (key (nth xs (n - 1))) (key x)) : Below key (xs.toList.take n) l := by
  intro x hx y hy
  obtain ⟨j, hj, hj2, rfl⟩ := mem_first hx
  exact KeyOrd.kle_trans (up_nth u (by omega) (by omega)) (h y hy (by omega))
def Fine (key : Keyed → O.α) (a b R : Array Keyed) : Prop := R.toList.Perm (a.toList ++ b.toList) ∧ Up key R.toList
variable {a b out : Array Keyed} {ia ib k : Nat}
end pure
end Sg
namespace Sg
open PySem PyProof.Rows
section pure
variable {O : KeyOrd} {key : Keyed → O.α} {a b out : Array Keyed} {na nb t : Nat}
def HiA (key : Keyed → O.α) (a b out : Array Keyed) (na nb : Nat) : Prop := Hi key a.toList b.toList out.toList na nb
theorem ext_first {xs : Array Keyed} {n : Nat} : (xs.extract 0 n).toList = xs.toList.take n := by
  rw [Array.toList_extract, List.extract_eq_take_drop, List.drop_zero, Nat.sub_zero]
theorem HiA.first (h : HiA key a b out na nb) (ua : Up key a.toList) (ub : Up key b.toList) (hf : O.kle (key (nth b 0)) (key (nth a 0))) (hi : nb = 1) (hb : nb ≤ b.size) :
    Fine key a b (b.extract 0 nb ++ a.extract 0 na ++ out.reverse) := by
  unfold Fine
  rw [Array.toList_append, Array.toList_append, ext_first, ext_first, Array.toList_reverse]
  refine Hi.finB h ua ub (below_upto ub hb fun x hx _ => ?_)
  obtain ⟨j, h1, h2, rfl⟩ := mem_first hx
  subst hi
  exact KeyOrd.kle_trans hf (up_nth ua (Nat.zero_le _) h2)
end pure
end Sg
namespace Sg
open PySem PyProof.Rows
section pure
variable {O : KeyOrd} {key : Keyed → O.α}
end pure
end Sg
namespace Sg
open PySem PyProof.Rows
section pure
variable {O : KeyOrd} {key : Keyed → O.α} {xs : Array Keyed}
end pure
structure Nc (a₀ : Array Keyed) (kd : SortKind) (P : Array (Nat × Nat × Nat)) (lo : Nat) (b₀ : Array Keyed) (st : SortSt) : Prop where
  perm : (arrOf st).Perm a₀
  kind : kindOf st = kd
  failed : failedOf st = none
  pend : pendingOf st = P
  low : ∀ i, i < lo → (arrOf st)[i]? = b₀[i]?
section
variable {prog : Program} {w : World} {A : Around} {E : Value → Shared → Prop} {s : Shared} {O : KeyOrd} {key : Keyed → O.α} {G : Keyed → Prop} {kd : SortKind} {st : SortSt}
  {a₀ b₀ : Array Keyed} {P : Array (Nat × Nat × Nat)} {lo : Nat}
theorem Nc.size (h : Nc a₀ kd P lo b₀ st) : (arrOf st).size = a₀.size := h.perm.size_eq
end
end Sg
namespace Sg
open PySem PyProof.Rows
section pure
variable {O : KeyOrd} {key : Keyed → O.α}
end pure
end Sg
namespace Sg
open PySem PyProof.Rows PySem.Spec
def Ext (h h' : Heap) : Prop := ∀ b o, h.get? b = some o → h'.get? b = some o
theorem Ext.trans {h h' h'' : Heap} (a : Ext h h') (b : Ext h' h'') : Ext h h'' := fun x o e => b x o (a x o e)
end Sg
namespace Sg
open PySem PyProof.Rows PySem.Spec PySem.W
@[reducible] def intOrd : KeyOrd where
  α := Int
  blt a b := decide (a < b)
  irrefl a := by simp
  trans a b c h1 h2 := by simp only [decide_eq_true_eq] at *; omega
  negTrans a b c h := by simp only [decide_eq_true_eq] at *; omega
  total a b h1 h2 := by simp only [decide_eq_false_iff_not] at *; omega
def lexOrd (P R : KeyOrd) : KeyOrd where
  α := P.α × R.α
  blt a b := P.blt a.1 b.1 || (!P.blt b.1 a.1 && R.blt a.2 b.2)
  irrefl a := by rw [P.irrefl, R.irrefl]; rfl
  trans a b c h1 h2 := by
    simp only [Bool.or_eq_true, Bool.and_eq_true, Bool.not_eq_true'] at *
    rcases h1 with h1 | ⟨h1, h1'⟩ <;> rcases h2 with h2 | ⟨h2, h2'⟩
    · exact .inl (P.trans _ _ _ h1 h2)
    · exact .inl (KeyOrd.klt_of_klt_of_kle (O := P) h1 h2)
    · exact .inl (KeyOrd.klt_of_kle_of_klt (O := P) h1 h2)
    · exact .inr ⟨KeyOrd.kle_trans (O := P) h1 h2, R.trans _ _ _ h1' h2'⟩
  negTrans a b c h := by
    simp only [Bool.or_eq_true, Bool.and_eq_true, Bool.not_eq_true'] at *
    rcases h with h | ⟨h, h'⟩
    · rcases P.negTrans _ b.1 _ h with z | z
      · exact .inl (.inl z)
      · exact .inr (.inl z)
    · cases e1 : P.blt a.1 b.1 with
      | true => exact .inl (.inl rfl)
      | false =>
        cases e2 : P.blt b.1 c.1 with
        | true => exact .inr (.inl rfl)
        | false =>
          have e3 : P.blt b.1 a.1 = false := by
            cases z : P.blt b.1 a.1 with
            | false => rfl
            | true =>
              rcases P.negTrans _ c.1 _ z with y | y
              · rw [e2] at y; cases y
              · rw [h] at y; cases y
          have e4 : P.blt c.1 b.1 = false := by
            cases z : P.blt c.1 b.1 with
            | false => rfl
            | true =>
              rcases P.negTrans _ a.1 _ z with y | y
              · rw [h] at y; cases y
              · rw [e1] at y; cases y
          rcases R.negTrans _ b.2 _ h' with z | z
          · exact .inl (.inr ⟨e3, z⟩)
          · exact .inr (.inr ⟨e4, z⟩)
  total a b h1 h2 := by
    simp only [Bool.or_eq_false_iff] at *
    have e := P.total _ _ h1.1 h2.1
    have g1 := h1.2
    have g2 := h2.2
    rw [h2.1] at g1
    rw [h1.1] at g2
    exact Prod.ext e (R.total _ _ (by simpa using g1) (by simpa using g2))
variable {prog : Program} {w : World}
end Sg
namespace Sg
open PySem
structure TSet (prog : Program) (w : World) (h : Heap) (a : Addr) (es : Array (Int × Value)) (ep : Nat) (t : SetTable) : Prop where
  obj : ∃ o, h.get? a = some o ∧ o.ExactSet ∧ o.data = .set es ep t
  el : ElemsOf (PySem.strKind prog w) es.toList
  few : es.size < scanBound
  fits : t.fits es.size = true
  led : t.led = !(w.params.followText "set-order")
  plain : es.size = 0 ∨ t.plain = false
def txtOf : Value → Str
  | .str x _ => x
  | _ => ⟨#[]⟩
def txts (es : Array (Int × Value)) : List Str := es.toList.map fun e => txtOf e.2
def TSetD (prog : Program) (w : World) (h : Heap) (a : Addr) (D : List Str) : Prop := ∃ es ep t, TSet prog w h a es ep t ∧ (txts es).Perm D
theorem TSet.keep {prog : Program} {w : World} {h h' : Heap} {a : Addr} {es : Array (Int × Value)} {ep : Nat} {t : SetTable} (x : TSet prog w h a es ep t) (k : ∀ o, h.get? a = some o → h'.get? a = some o) : TSet prog w h' a es ep t :=
  ⟨let ⟨o, e, r⟩ := x.obj; ⟨o, k o e, r⟩, x.el, x.few, x.fits, x.led, x.plain⟩
theorem TSetD.keep {prog : Program} {w : World} {h h' : Heap} {a : Addr} {D : List Str} (x : TSetD prog w h a D) (k : ∀ o, h.get? a = some o → h'.get? a = some o) : TSetD prog w h' a D :=
  let ⟨es, ep, t, y, p⟩ := x; ⟨es, ep, t, y.keep k, p⟩
end Sg
namespace Sg
open PySem PyProof.Rows
end Sg
namespace Sg
open PySem PyProof.Rows
end Sg
namespace Sg
open PySem PyProof.Rows
def IsSetIter (h : Heap) (it : Addr) (first : Value) (i n ep : Nat) (a : Addr) : Prop :=
  ∃ o, h.get? it = some o ∧ o.cls = .type "set_iterator" ∧ o.data = .fields #[first, .int i 0, .ref a, .int n 0, .int ep 0]
section
variable {prog : Program} {w : World} {A : Around} {E : Value → Shared → Prop} {s : Shared} {it a : Addr} {first : Value} {i n ep : Nat} {es : Array (Int × Value)} {t : SetTable}
theorem IsSetIter.keep {h h' : Heap} (x : IsSetIter h it first i n ep a) (k : ∀ o, h.get? it = some o → h'.get? it = some o) : IsSetIter h' it first i n ep a := let ⟨o, h1, r⟩ := x; ⟨o, k o h1, r⟩
end
end Sg
namespace Sg
open PySem PyProof.Rows
end Sg
namespace Sg
open PySem PyProof.Rows
end Sg
namespace L2
open PySem PySem.Spec PyProof.Rows
end L2
namespace L2
open PySem PySem.Spec PyProof.Rows
end L2
namespace L2
open PySem PySem.Spec PyProof.Rows
end L2
namespace L2
open PySem PySem.Spec PyProof.Rows
structure QD (X : Cx) (e : Expr) (f : FD) : Prop where
  out : PD X e f
structure QB (X : Cx) (e : Expr) (f : FD) : Prop where
  out : PB X e f
structure QF (X : Cx) (e : Expr) (f : FL) : Prop where
  out : PF X e f
structure QT (X : Cx) (e : Expr) (f : FB) : Prop where
  out : PDT X e f
structure QW (X : Cx) (e : Expr) (f : FB) : Prop where
  out : PDW X e f
structure QA (X : Cx) (es : List Expr) (f : FL) : Prop where
  out : PDA X es f
structure QBA (X : Cx) (es : List Expr) (f : FL) : Prop where
  out : PBA X es f
structure QS (X : Cx) (st : Stmt) (f : FS) : Prop where
  out : PDS X st f
structure QSs (X : Cx) (st : List Stmt) (f : FS) : Prop where
  out : PDSs X st f
structure QG (X : Cx) (e : Expr) (f : FG) : Prop where
  out : PDG X e f
structure QI (X : Cx) (tg e : Expr) (f : FL) : Prop where
  out : PDI X tg e f
structure QIf (X : Cx) (es : List Expr) (f : FB) : Prop where
  out : PDIf X es f
structure QO (X : Cx) (e : Option Expr) (f : FO) : Prop where
  out : PDO X e f
structure QV (X : Cx) (e : Expr) (i : Nat) : Prop where
  out : PE X e (tVar i)
section
variable {X : Cx} {e a b c : Expr} {f fa fb fc : FD} {pos : Pos}
theorem QD.pb (h : QD X e f) : QB X e f := ⟨PD.pb (h := h.out)⟩
end
section
variable {X : Cx} {e a b c : Expr} {f fa fb fc : FD} {pos : Pos}
theorem QF.pd {f : FL} (h : QF X e f) : QD X e (fLst f) := ⟨PF.pd (h := h.out)⟩
end
section
variable {X : Cx} {e a b c : Expr} {f fa fb fc : FD} {pos : Pos}
theorem QW.pdt {f : FB} (h : QW X e f) : QT X e f := ⟨PDW.pdt (h := h.out)⟩
end
section
variable {X : Cx} {e a b c : Expr} {f fa fb fc : FD} {pos : Pos}
theorem qpd_var {i : Nat} {x : Str} (h : QV X (.Name x pos) i) : QD X (.Name x pos) (fVar i) := ⟨pd_var (h := h.out)⟩
end
section
variable {X : Cx} {e a b c : Expr} {f fa fb fc : FD} {pos : Pos}
theorem qpb_var {i : Nat} {x : Str} (h : QV X (.Name x pos) i) : QB X (.Name x pos) (fVarB i) := ⟨pb_var (h := h.out)⟩
end
section
variable {X : Cx} {e a b c : Expr} {f fa fb fc : FD} {pos : Pos}
theorem qpd_int {i j} : QD X (.Constant (.int i) j pos) (fC (.int i)) := ⟨pd_int ⟩
end
section
variable {X : Cx} {e a b c : Expr} {f fa fb fc : FD} {pos : Pos}
theorem qpd_bl {i j} : QD X (.Constant (.bool i) j pos) (fC (.bl i)) := ⟨pd_bl ⟩
end
section
variable {X : Cx} {e a b c : Expr} {f fa fb fc : FD} {pos : Pos}
theorem qpd_non {j} : QD X (.Constant .none j pos) (fC .non) := ⟨pd_non ⟩
end
section
variable {X : Cx} {e a b c : Expr} {f fa fb fc : FD} {pos : Pos}
theorem qpd_str {i j} : QD X (.Constant (.str i) j pos) (fC (.str i)) := ⟨pd_str ⟩
end
section
variable {X : Cx} {e a b c : Expr} {f fa fb fc : FD} {pos : Pos}
theorem qpdt_val (h : QD X e f) (he : ∀ whole, isTrue e X.env whole = (do let v ← whole; standAt e.pos; holding [v] (truthy v)) := by intro _; rfl) : QT X e (fTest f) := ⟨pdt_val (h := h.out) (he := he)⟩
end
section
variable {X : Cx} {e a b c : Expr} {f fa fb fc : FD} {pos : Pos}
theorem qpdt_not {f : FB} (h : QT X a f) : QT X (.UnaryOp .Not a pos) (fNot f) := ⟨pdt_not (h := h.out)⟩
end
section
variable {X : Cx} {e a b c : Expr} {f fa fb fc : FD} {pos : Pos}
theorem qpdw_and1 {f : FB} (h : QT X a f) : QW X (.BoolOp .And [a] pos) f := ⟨pdw_and1 (h := h.out)⟩
end
section
variable {X : Cx} {e a b c : Expr} {f fa fb fc : FD} {pos : Pos}
theorem qpdw_or1 {f : FB} (h : QT X a f) : QW X (.BoolOp .Or [a] pos) f := ⟨pdw_or1 (h := h.out)⟩
end
section
variable {X : Cx} {e a b c : Expr} {f fa fb fc : FD} {pos : Pos}
theorem qpdw_and {f g : FB} {rest : List Expr} (ha : QT X a f) (hb : QW X (.BoolOp .And (b :: rest) pos) g) : QW X (.BoolOp .And (a :: b :: rest) pos) (fAndT f g) := ⟨pdw_and (ha := ha.out) (hb := hb.out)⟩
end
section
variable {X : Cx} {e a b c : Expr} {f fa fb fc : FD} {pos : Pos}
theorem qpdw_or {f g : FB} {rest : List Expr} (ha : QT X a f) (hb : QW X (.BoolOp .Or (b :: rest) pos) g) : QW X (.BoolOp .Or (a :: b :: rest) pos) (fOrT f g) := ⟨pdw_or (ha := ha.out) (hb := hb.out)⟩
end
section
variable {X : Cx} {e a b c : Expr} {f fa fb fc : FD} {pos : Pos}
theorem qpd_one {op} (h : QD X a f) : QD X (.BoolOp op [a] pos) f := ⟨pd_one (h := h.out)⟩
end
section
variable {X : Cx} {e a b c : Expr} {f fa fb fc : FD} {pos : Pos}
theorem qpd_and {rest : List Expr} (ha : QD X a fa) (hb : QD X (.BoolOp .And (b :: rest) pos) fb) : QD X (.BoolOp .And (a :: b :: rest) pos) (fAnd fa fb) := ⟨pd_and (ha := ha.out) (hb := hb.out)⟩
end
section
variable {X : Cx} {e a b c : Expr} {f fa fb fc : FD} {pos : Pos}
theorem qpd_or {rest : List Expr} (ha : QD X a fa) (hb : QD X (.BoolOp .Or (b :: rest) pos) fb) : QD X (.BoolOp .Or (a :: b :: rest) pos) (fOr fa fb) := ⟨pd_or (ha := ha.out) (hb := hb.out)⟩
end
section
variable {X : Cx} {e a b c : Expr} {f fa fb fc : FD} {pos : Pos}
theorem qpd_not (ha : QD X a fa) : QD X (.UnaryOp .Not a pos) (fNotV fa) := ⟨pd_not (ha := ha.out)⟩
end
section
variable {X : Cx} {e a b c : Expr} {f fa fb fc : FD} {pos : Pos}
theorem qpd_if {c : Expr} {fc : FB} (hc : QT X c fc) (ha : QD X a fa) (hb : QD X b fb) : QD X (.IfExp c a b pos) (fIf fc fa fb) := ⟨pd_if (hc := hc.out) (ha := ha.out) (hb := hb.out)⟩
end
section
variable {X : Cx} {e a b c : Expr} {f fa fb fc : FD} {pos : Pos}
theorem qpda_nil  : QA X [] fNil := ⟨pda_nil ⟩
end
section
variable {X : Cx} {e a b c : Expr} {f fa fb fc : FD} {pos : Pos}
theorem qpda_cons {es : List Expr} {g : FL} (ha : QD X e f) (hr : QA X es g) (hs : starEach (e :: es) X.env = (false, eval e X.env) :: starEach es X.env := by rfl) : QA X (e :: es) (fCons f g) := ⟨pda_cons (ha := ha.out) (hr := hr.out) (hs := hs)⟩
end
section
variable {X : Cx} {e a b c : Expr} {f fa fb fc : FD} {pos : Pos}
theorem qpba_nil  : QBA X [] fNil := ⟨pba_nil ⟩
end
section
variable {X : Cx} {e a b c : Expr} {f fa fb fc : FD} {pos : Pos}
theorem qpba_cons {es : List Expr} {g : FL} (ha : QB X e f) (hr : QBA X es g) (hs : starEach (e :: es) X.env = (false, eval e X.env) :: starEach es X.env := by rfl) : QBA X (e :: es) (fCons f g) := ⟨pba_cons (ha := ha.out) (hr := hr.out) (hs := hs)⟩
end
section
variable {X : Cx} {e a b c : Expr} {f fa fb fc : FD} {pos : Pos}
theorem qpd_tup {es : List Expr} {g : FL} {x1} (h : QA X es g) : QD X (.Tuple es x1 pos) (fTup g) := ⟨pd_tup (h := h.out)⟩
end
section
variable {X : Cx} {e a b c : Expr} {f fa fb fc : FD} {pos : Pos}
theorem qpf_list {es : List Expr} {g : FL} (h : QA X es g) : QF X (.List es pos) (fList g) := ⟨pf_list (h := h.out)⟩
end
section
variable {X : Cx} {e a b : Expr} {st : Stmt} {rest sts : List Stmt} {f : FD} {F G : FS} {pos : Pos}
theorem qpdss_nil  : QSs X [] fNext := ⟨pdss_nil ⟩
end
section
variable {X : Cx} {e a b : Expr} {st : Stmt} {rest sts : List Stmt} {f : FD} {F G : FS} {pos : Pos}
theorem qpdss_cons (h1 : QS X st F) (h2 : QSs X rest G) : QSs X (st :: rest) (fSeq F G) := ⟨pdss_cons (h1 := h1.out) (h2 := h2.out)⟩
end
section
variable {X : Cx} {e a b : Expr} {st : Stmt} {rest sts : List Stmt} {f : FD} {F G : FS} {pos : Pos}
theorem qpdss_one (h1 : QS X st F) : QSs X [st] F := ⟨pdss_one (h1 := h1.out)⟩
end
section
variable {X : Cx} {e a b : Expr} {st : Stmt} {rest sts : List Stmt} {f : FD} {F G : FS} {pos : Pos}
theorem qpds_ret (h : QB X e f) : QS X (.Return (some e) pos) (fRet f) := ⟨pds_ret (h := h.out)⟩
end
section
variable {X : Cx} {e a b : Expr} {st : Stmt} {rest sts : List Stmt} {f : FD} {F G : FS} {pos : Pos}
theorem qpds_if {c : Expr} {A B : List Stmt} {fc : FB} (hc : QT X c fc) (ha : QSs X A F) (hb : QSs X B G) : QS X (.If c A B pos) (fIf fc F G) := ⟨pds_if (hc := hc.out) (ha := ha.out) (hb := hb.out)⟩
end
section
variable {X : Cx} {e a b : Expr} {st : Stmt} {rest sts : List Stmt} {f : FD} {F G : FS} {pos : Pos}
theorem qpds_set {i : Nat} {x : Str} {pos' : Pos} (hN : X.N.Nodup) (hi : X.N[i]? = some x) (hx : Loc X.env.scope x) (he : QD X e f) (hs : swapsWith e (some (.Name x pos')) pos.line X.env = pure false := by rfl) (hf : X.fn x = true ∨ X.env.scope.names.lookup x = some .local := by first | exact .inl rfl | exact .inr rfl | assumption) : QS X (.Assign [.Name x pos'] e pos) (fSet i f) := ⟨pds_set (hN := hN) (hi := hi) (hx := hx) (he := he.out) (hs := hs) (hf := hf)⟩
end
section
variable {X : Cx} {e a b : Expr} {st : Stmt} {rest sts : List Stmt} {f : FD} {F G : FS} {pos : Pos}
theorem qpds_own {i : Nat} {f : FL} {x : Str} {pos' : Pos} (hN : X.N.Nodup) (hi : X.N[i]? = some x) (hx : Loc X.env.scope x) (he : QF X e f) (hs : swapsWith e (some (.Name x pos')) pos.line X.env = pure false := by rfl) (hf : X.fn x = true ∨ X.env.scope.names.lookup x = some .local := by first | exact .inl rfl | exact .inr rfl | assumption) : QS X (.Assign [.Name x pos'] e pos) (fOwn i f) := ⟨pds_own (hN := hN) (hi := hi) (hx := hx) (he := he.out) (hs := hs) (hf := hf)⟩
end
section
variable {X : Cx} {e a b : Expr} {st : Stmt} {rest sts : List Stmt} {f : FD} {F G : FS} {pos : Pos}
theorem qpds_append {i : Nat} {o : Expr} {apos cpos : Pos} (ho : QV X (o) i) (he : QD X e f) (hbase : attributeBase o "append" X.env (eval o X.env) = eval o X.env := by rfl) (hfew : ((backTo cpos (starEach [e] X.env)).all (fun x => !x.1) && (backToKw cpos (keywordEach [] X.env)).all (fun x => x.1.isSome)
      && decide (([e] : List Expr).length + ([] : List Keyword).length + (if ([] : List Keyword).isEmpty then 0 else 1) < 30)) = true := by rfl) (hline : (apos.endLine == cpos.line) = true := by rfl) (hs : starEach [e] X.env = (false, eval e X.env) :: starEach [] X.env := by rfl) (hplain : (backTo cpos (starEach ([] : List Expr) X.env)).any (·.1) = false := by rfl) (hsw : swapsWith (.Call (.Attribute o "append" apos) [e] [] cpos) none pos.line X.env = pure false := by rfl) : QS X (.Expr (.Call (.Attribute o "append" apos) [e] [] cpos) pos) (fAppend i f) := ⟨pds_append (ho := ho.out) (he := he.out) (hbase := hbase) (hfew := hfew) (hline := hline) (hs := hs) (hplain := hplain) (hsw := hsw)⟩
end
section
variable {X : Cx} {e a b : Expr} {st : Stmt} {rest sts : List Stmt} {f : FD} {F G : FS} {pos : Pos}
theorem qpdg_var {i : Nat} {x : Str} (hN : X.N.Nodup) (hi : X.N[i]? = some x) (hx : Loc X.env.scope x) (hf : X.fn x = true ∨ X.env.scope.names.lookup x = some .local := by first | exact .inl rfl | exact .inr rfl | assumption) : QG X (.Name x pos) (gVar i) := ⟨pdg_var (hN := hN) (hi := hi) (hx := hx) (hf := hf)⟩
end
section
variable {X : Cx} {e a b : Expr} {st : Stmt} {rest sts : List Stmt} {f : FD} {F G : FS} {pos : Pos}
theorem qpds_for {tg iter : Expr} {body : List Stmt} {fi : FL} {g : FG} (hp : PassesOwn (model X.prog X.w) X.A X.env X.xe) (hc : X.calm = true) (hi : QI X tg iter fi) (hg : QG X tg g) (hb : QSs X body F) (hs : ∀ x, foldedSetIterable iter X.env x = pure x := by intro _; rfl) : QS X (.For tg iter body [] pos) (fFor fi g F) := ⟨pds_for (hp := hp) (hc := hc) (hi := hi.out) (hg := hg.out) (hb := hb.out) (hs := hs)⟩
end
section
variable {X : Cx} {tg l : Expr} {f : FD} {K : PySem.W.Frag}
theorem qpdi_any {y : Str} {py : Pos} (h : QD X l f) : QI X (.Name y py) l (fItems f) := ⟨pdi_any (h := h.out)⟩
end
section
variable {X : Cx} {tg l : Expr} {f : FD} {K : PySem.W.Frag}
theorem qpdi_seq (h : QD X l f) : QI X tg l (fSeqI f) := ⟨pdi_seq (h := h.out)⟩
end
section
variable {X : Cx} {tg l : Expr} {f : FD} {K : PySem.W.Frag}
theorem qpdi_range1 {a : Expr} {p pos : Pos} (hg : Gl X "range") (hm : X.mg "range" = none) (ha : QD X a f) (hs : starEach [a] X.env = [(false, eval a X.env)] := by rfl) (hs1 : starEach [a] X.env = (false, eval a X.env) :: starEach [] X.env := by rfl) : QI X tg (.Call (.Name "range" p) [a] [] pos) (fRange1 f) := ⟨pdi_range1 (hg := hg) (hm := hm) (ha := ha.out) (hs := hs) (hs1 := hs1)⟩
end
section
variable {X : Cx}
theorem qpdif_nil  : QIf X [] fTrue := ⟨pdif_nil ⟩
end
section
variable {X : Cx}
theorem qpdif_one {c : Expr} {f : FB} (h : QT X c f) : QIf X [c] f := ⟨pdif_one (h := h.out)⟩
end
section
variable {X : Cx}
theorem qpf_comp1 {x : Str} {px pos : Pos} {scope : Scope} {elt iter : Expr} {ifs : List Expr} {fi : FL} {ft : FB} {fe : FD} (hc : X.calm = true) (S : CompScope X [x] scope) (hN : ([x] ++ X.N).Nodup) (hx : scope.names.lookup x = some .local) (hi : QI X (.Name x px) iter fi) (ht : ∀ cl s₂ H1 C fp, QIf (cxC X [x] scope cl s₂ H1 C fp) ifs ft) (he : ∀ cl s₂ H1 C fp, QD (cxC X [x] scope cl s₂ H1 C fp) elt fe) (hs : ∀ x, foldedSetIterable iter X.env x = pure x := by intro _; rfl) : QF X (.ListComp elt [⟨.Name x px, iter, ifs, 0⟩] scope pos) (fComp g1 fi ft fe) := ⟨pf_comp1 (hc := hc) (S := S) (hN := hN) (hx := hx) (hi := hi.out) (ht := (fun x0 x1 x2 x3 x4 => (ht x0 x1 x2 x3 x4).out)) (he := (fun x0 x1 x2 x3 x4 => (he x0 x1 x2 x3 x4).out)) (hs := hs)⟩
end
section
variable {X : Cx}
theorem qpds_comp1T {x y : Str} {px py pos spos : Pos} {scope : Scope} {elt iter : Expr} {ifs : List Expr} {fi : FL} {ft : FB} {fe : FD} {i : Nat} (hN0 : X.N.Nodup) (hi' : X.N[i]? = some y) (hy : Loc X.env.scope y) (hc : X.calm = true) (S : CompScope X [x] scope) (hN : ([x] ++ X.N).Nodup) (hx : scope.names.lookup x = some .local) (hi : QI X (.Name x px) iter fi) (ht : ∀ cl s₂ H1 C fp, QIf (cxC X [x] scope cl s₂ H1 C fp) ifs ft) (he : ∀ cl s₂ H1 C fp, QD (cxC X [x] scope cl s₂ H1 C fp) elt fe) (hsw : swapsWith (.ListComp elt [⟨.Name x px, iter, ifs, 0⟩] scope pos) (some (.Name y py)) spos.line X.env = pure true := by rfl) (hf' : X.fn y = true ∨ X.env.scope.names.lookup y = some .local := by first | exact .inl rfl | exact .inr rfl | assumption) (hs : ∀ x, foldedSetIterable iter X.env x = pure x := by intro _; rfl) : QS X (.Assign [.Name y py] (.ListComp elt [⟨.Name x px, iter, ifs, 0⟩] scope pos) spos) (fSet i (fLst (fComp g1 fi ft fe))) := ⟨pds_comp1T (hN0 := hN0) (hi' := hi') (hy := hy) (hc := hc) (S := S) (hN := hN) (hx := hx) (hi := hi.out) (ht := (fun x0 x1 x2 x3 x4 => (ht x0 x1 x2 x3 x4).out)) (he := (fun x0 x1 x2 x3 x4 => (he x0 x1 x2 x3 x4).out)) (hsw := hsw) (hf' := hf') (hs := hs)⟩
end
section
variable {X : Cx} {x : Str} {p pos : Pos} {e : Expr} {es : List Expr} {g : FL} {φ : List Th → Option Th} {k : Nat}
theorem qpd_call (c : Callee X.prog X.w X.K X.mg X.base k x φ) (hr : Room k X.A) (hg : Gl X x) (ha : QA X (e :: es) g) (hdb : (x == ("__debug__" : Str)) = false := by decide) (he : starEach (e :: es) X.env = (false, eval e X.env) :: starEach es X.env := by rfl) (hpl : (backTo pos (starEach es X.env)).any (·.1) = false := by rfl) : QD X (.Call (.Name x p) (e :: es) [] pos) (fCall φ g) := ⟨pd_call (c := c) (hr := hr) (hg := hg) (ha := ha.out) (hdb := hdb) (he := he) (hpl := hpl)⟩
end
section
variable {X : Cx} {K : PySem.W.Frag} {a b c e : Expr} {fa fb fc f : FD} {pos : Pos}
theorem qpd_len {p : Pos} {es : List Expr} {fs : FL} (hg : Gl X "len") (hm : X.mg "len" = none) (ha : QBA X (e :: es) fs) (he : starEach (e :: es) X.env = (false, eval e X.env) :: starEach es X.env := by rfl) (hpl : (backTo pos (starEach es X.env)).any (·.1) = false := by rfl) : QD X (.Call (.Name "len" p) (e :: es) [] pos) (fCB oLen fs) := ⟨pd_len (hg := hg) (hm := hm) (ha := ha.out) (he := he) (hpl := hpl)⟩
end
section
variable {X : Cx} {K : PySem.W.Frag} {a b c e : Expr} {fa fb fc f : FD} {pos : Pos} {k : Nat}
theorem qpd_eq (hr : Room k X.A) (ha : QB X a fa) (hb : QB X b fb) : QD X (.Compare a [.Eq] [b] pos) (f2 oEq fa fb) := ⟨pd_eq (hr := hr) (ha := ha.out) (hb := hb.out)⟩
end
section
variable {X : Cx} {K : PySem.W.Frag} {a b c e : Expr} {fa fb fc f : FD} {pos : Pos} {k : Nat}
theorem qpdt_eq (hr : Room k X.A) (ha : QB X a fa) (hb : QB X b fb) : QT X (.Compare a [.Eq] [b] pos) (fTest (f2 oEq fa fb)) := ⟨pdt_eq (hr := hr) (ha := ha.out) (hb := hb.out)⟩
end
section
variable {X : Cx} {K : PySem.W.Frag} {a b c e : Expr} {fa fb fc f : FD} {pos : Pos} {k : Nat}
theorem qpdt_ne (hr : Room k X.A) (ha : QB X a fa) (hb : QB X b fb) : QT X (.Compare a [.NotEq] [b] pos) (fTest (f2 oNe fa fb)) := ⟨pdt_ne (hr := hr) (ha := ha.out) (hb := hb.out)⟩
end
section
variable {X : Cx} {K : PySem.W.Frag} {a b c e : Expr} {fa fb fc f : FD} {pos : Pos} {k : Nat}
theorem qpd_in (hr : Room k X.A) (ha : QB X a fa) (hb : QB X b fb) (hm : behindInMarks .In b = false := by with_unfolding_all rfl) : QD X (.Compare a [.In] [b] pos) (f2 (oIn false) fa fb) := ⟨pd_in (hr := hr) (ha := ha.out) (hb := hb.out) (hm := hm)⟩
end
section
variable {X : Cx} {K : PySem.W.Frag} {a b c e : Expr} {fa fb fc f : FD} {pos : Pos} {k : Nat}
theorem qpd_isI {T : String} {N : Str} {p p2 : Pos} (hT : BaseT T) (ha : QB X a fa) (hg : Gl X "isinstance") (hm : X.mg "isinstance" = none) (hgT : Gl X N) (hmT : X.mg N = none) (hv : bootBuiltins N = some (.type T)) (hnN : N ≠ "__name__" := by decide) (hdN : (N == ("__debug__" : Str)) = false := by decide) (he : starEach [a, .Name N p2] X.env = (false, eval a X.env) :: starEach [.Name N p2] X.env := by rfl) (hpl : (backTo pos (starEach [.Name N p2] X.env)).any (·.1) = false := by rfl) (he2 : starEach [.Name N p2] X.env = (false, eval (.Name N p2) X.env) :: starEach [] X.env := by rfl) : QD X (.Call (.Name "isinstance" p) [a, .Name N p2] [] pos) (fIsI T fa) := ⟨pd_isI (hT := hT) (ha := ha.out) (hg := hg) (hm := hm) (hgT := hgT) (hmT := hmT) (hv := hv) (hnN := hnN) (hdN := hdN) (he := he) (hpl := hpl) (he2 := he2)⟩
end
section
variable {X : Cx} {K : PySem.W.Frag} {a b c e : Expr} {fa fb fc f : FD} {pos : Pos} {k : Nat}
theorem qpd_globI {x : Str} {i : Int} {t : Tok} (hg : Gl X x) (hm : X.mg x = some (.int i t)) (hd : (x == ("__debug__" : Str)) = false := by decide) : QD X (.Name x pos) (fC (.int i)) := ⟨pd_globI (hg := hg) (hm := hm) (hd := hd)⟩
end
section
variable {X : Cx} {K : PySem.W.Frag} {a b c e : Expr} {fa fb fc f : FD} {pos : Pos} {k : Nat}
theorem qpd_globS {x y : Str} {t : Tok} (hg : Gl X x) (hm : X.mg x = some (.str y t)) (hd : (x == ("__debug__" : Str)) = false := by decide) : QD X (.Name x pos) (fC (.str y)) := ⟨pd_globS (hg := hg) (hm := hm) (hd := hd)⟩
end
section
variable {X : Cx} {K : PySem.W.Frag} {a b c e : Expr} {fa fb fc f : FD} {pos : Pos} {k : Nat}
theorem qpd_all {p : Pos} {es : List Expr} {fs : FL} (hc : X.calm = true) (hg : Gl X "all") (hm : X.mg "all" = none) (ha : QBA X (e :: es) fs) (he : starEach (e :: es) X.env = (false, eval e X.env) :: starEach es X.env := by rfl) (hpl : (backTo pos (starEach es X.env)).any (·.1) = false := by rfl) : QD X (.Call (.Name "all" p) (e :: es) [] pos) (fCB (oAll false) fs) := ⟨pd_all (hc := hc) (hg := hg) (hm := hm) (ha := ha.out) (he := he) (hpl := hpl)⟩
end
section
variable {X : Cx} {K : PySem.W.Frag} {a b c e : Expr} {fa fb fc f : FD} {pos : Pos} {k : Nat}
theorem qpd_lt (hr : Room k X.A) (ha : QB X a fa) (hb : QB X b fb) : QD X (.Compare a [.Lt] [b] pos) (f2 oLt fa fb) := ⟨pd_lt (hr := hr) (ha := ha.out) (hb := hb.out)⟩
end
section
variable {X : Cx} {K : PySem.W.Frag} {a b c e : Expr} {fa fb fc f : FD} {pos : Pos} {k : Nat}
theorem qpdt_lt (hr : Room k X.A) (ha : QB X a fa) (hb : QB X b fb) : QT X (.Compare a [.Lt] [b] pos) (fTest (f2 oLt fa fb)) := ⟨pdt_lt (hr := hr) (ha := ha.out) (hb := hb.out)⟩
end
section
variable {X : Cx} {K : PySem.W.Frag} {a b c e : Expr} {fa fb fc f : FD} {pos : Pos} {k : Nat}
theorem qpd_le (ha : QB X a fa) (hb : QB X b fb) : QD X (.Compare a [.LtE] [b] pos) (f2 oLe fa fb) := ⟨pd_le (ha := ha.out) (hb := hb.out)⟩
end
section
variable {X : Cx} {K : PySem.W.Frag} {a b c e : Expr} {fa fb fc f : FD} {pos : Pos} {k : Nat}
theorem qpdt_gt (ha : QB X a fa) (hb : QB X b fb) : QT X (.Compare a [.Gt] [b] pos) (fTest (f2 oGt fa fb)) := ⟨pdt_gt (ha := ha.out) (hb := hb.out)⟩
end
section
variable {X : Cx} {K : PySem.W.Frag} {a b c e : Expr} {fa fb fc f : FD} {pos : Pos} {k : Nat}
theorem qpd_chainLE (ha : QB X a fa) (hb : QB X b fb) (hc : QB X c fc) (hm : lastMarks [.LtE, .LtE] [b, c] = false := by with_unfolding_all rfl) : QD X (.Compare a [.LtE, .LtE] [b, c] pos) (fChain oLe oLe fa fb fc) := ⟨pd_chainLE (ha := ha.out) (hb := hb.out) (hc := hc.out) (hm := hm)⟩
end
section
variable {X : Cx} {K : PySem.W.Frag} {a b c e : Expr} {fa fb fc f : FD} {pos : Pos} {k : Nat}
theorem qpdt_chainLE (ha : QB X a fa) (hb : QB X b fb) (hc : QB X c fc) (hm : lastMarks [.LtE, .LtE] [b, c] = false := by with_unfolding_all rfl) : QT X (.Compare a [.LtE, .LtE] [b, c] pos) (fTest (fChain oLe oLe fa fb fc)) := ⟨pdt_chainLE (ha := ha.out) (hb := hb.out) (hc := hc.out) (hm := hm)⟩
end
section
variable {X : Cx} {K : PySem.W.Frag} {a b c e : Expr} {fa fb fc f : FD} {pos : Pos} {k : Nat}
theorem qpd_isN (ha : QB X a fa) (hb : QB X b fb) : QD X (.Compare a [.Is] [b] pos) (f2 (oIsN false) fa fb) := ⟨pd_isN (ha := ha.out) (hb := hb.out)⟩
end
section
variable {X : Cx} {e a b : Expr} {te tl th : TE} {pos p2 : Pos}
theorem qpdo_none  : QO X none fNoPart := ⟨pdo_none ⟩
end
section
variable {X : Cx} {e a b : Expr} {te tl th : TE} {pos p2 : Pos}
theorem qpdo_some {f : FD} (h : QD X e f) : QO X (some e) (fPart f) := ⟨pdo_some (h := h.out)⟩
end
section
variable {X : Cx} {e a b : Expr} {te tl th : TE} {pos p2 : Pos}
theorem qpd_slice {f : FD} {fl fh : FO} {lo hi : Option Expr} (h : QB X e f) (hl : QO X lo fl) (hh : QO X hi fh) : QD X (.Subscript e (.Slice lo hi none p2) pos) (fSl f fl fh) := ⟨pd_slice (h := h.out) (hl := hl.out) (hh := hh.out)⟩
end
section
variable {X : Cx} {e a b : Expr} {te tl th : TE} {pos p2 : Pos}
theorem qpf_slice {f : FD} {fl fh : FO} {lo hi : Option Expr} (h : QB X e f) (hl : QO X lo fl) (hh : QO X hi fh) : QF X (.Subscript e (.Slice lo hi none p2) pos) (fSlF f fl fh) := ⟨pf_slice (h := h.out) (hl := hl.out) (hh := hh.out)⟩
end
section
variable {X : Cx} {e a b : Expr} {te tl th : TE} {pos p2 : Pos}
theorem qpd_ix {fa fb : FD} (ha : QB X a fa) (hb : QB X b fb) (hs : PlainIx b) : QD X (.Subscript a b pos) (f2 oIx fa fb) := ⟨pd_ix (ha := ha.out) (hb := hb.out) (hs := hs)⟩
end
section
variable {X : Cx} {K : PySem.W.Frag} {a b c e : Expr} {fa fb fc f : FD} {pos : Pos} {k : Nat}
theorem qpd_plus (ha : QB X a fa) (hb : QB X b fb) : QD X (.BinOp a .Add b pos) (f2 oPlus fa fb) := ⟨pd_plus (ha := ha.out) (hb := hb.out)⟩
end
section
variable {X : Cx} {K : PySem.W.Frag} {a b c e : Expr} {fa fb fc f : FD} {pos : Pos} {k : Nat}
theorem qpd_times (ha : QB X a fa) (hb : QB X b fb) : QD X (.BinOp a .Mult b pos) (f2 oTimes fa fb) := ⟨pd_times (ha := ha.out) (hb := hb.out)⟩
end
section
variable {X : Cx} {K : PySem.W.Frag} {a b c e : Expr} {fa fb fc f : FD} {pos : Pos}
theorem qpd_sub (ha : QB X a fa) (hb : QB X b fb) : QD X (.BinOp a .Sub b pos) (f2 oSub fa fb) := ⟨pd_sub (ha := ha.out) (hb := hb.out)⟩
end
section
variable {X : Cx} {K : PySem.W.Frag} {a b c e : Expr} {fa fb fc f : FD} {pos : Pos}
theorem qpd_fdiv (ha : QB X a fa) (hb : QB X b fb) : QD X (.BinOp a .FloorDiv b pos) (f2 oDiv fa fb) := ⟨pd_fdiv (ha := ha.out) (hb := hb.out)⟩
end
section
variable {X : Cx} {K : PySem.W.Frag} {a b c e : Expr} {fa fb fc f : FD} {pos : Pos}
theorem qpd_mod (ha : QB X a fa) (hb : QB X b fb) : QD X (.BinOp a .Mod b pos) (f2 oMod fa fb) := ⟨pd_mod (ha := ha.out) (hb := hb.out)⟩
end
section
variable {X : Cx} {K : PySem.W.Frag} {a b c e : Expr} {fa fb fc f : FD} {pos : Pos}
theorem qpd_neg (ha : QD X a fa) : QD X (.UnaryOp .USub a pos) (fNeg fa) := ⟨pd_neg (ha := ha.out)⟩
end
section
variable {X : Cx} {K : PySem.W.Frag} {a b c e : Expr} {fa fb fc f : FD} {pos : Pos} {k : Nat}
theorem qpd_tuple {p : Pos} {es : List Expr} {fs : FL} (hg : Gl X "tuple") (hm : X.mg "tuple" = none) (ha : QBA X (e :: es) fs) (he : starEach (e :: es) X.env = (false, eval e X.env) :: starEach es X.env := by rfl) (hpl : (backTo pos (starEach es X.env)).any (·.1) = false := by rfl) : QD X (.Call (.Name "tuple" p) (e :: es) [] pos) (fCB oTuple fs) := ⟨pd_tuple (hg := hg) (hm := hm) (ha := ha.out) (he := he) (hpl := hpl)⟩
end
section
variable {X : Cx} {K : PySem.W.Frag} {a b c e : Expr} {fa fb fc f : FD} {pos : Pos} {k : Nat}
theorem qpd_intC {p : Pos} {es : List Expr} {fs : FL} (hg : Gl X "int") (hm : X.mg "int" = none) (ha : QBA X (e :: es) fs) (he : starEach (e :: es) X.env = (false, eval e X.env) :: starEach es X.env := by rfl) (hpl : (backTo pos (starEach es X.env)).any (·.1) = false := by rfl) : QD X (.Call (.Name "int" p) (e :: es) [] pos) (fCB oInt fs) := ⟨pd_intC (hg := hg) (hm := hm) (ha := ha.out) (he := he) (hpl := hpl)⟩
end
section
variable {X : Cx} {K : PySem.W.Frag}
theorem qpdi_enum {es : List Expr} {k1 : Nat} {tp : Pos} {a : Expr} {f : FD} {p pos : Pos} (hg : Gl X "enumerate") (hm : X.mg "enumerate" = none) (ha : QD X a f) (hs : starEach [a] X.env = [(false, eval a X.env)] := by rfl) (hs1 : starEach [a] X.env = (false, eval a X.env) :: starEach [] X.env := by rfl) : QI X (.Tuple es k1 tp) (.Call (.Name "enumerate" p) [a] [] pos) (fEnum f) := ⟨pdi_enum (hg := hg) (hm := hm) (ha := ha.out) (hs := hs) (hs1 := hs1)⟩
end
section
variable {X : Cx} {K : PySem.W.Frag} {o a b c e : Expr} {fo fa fb fc f : FD} {pos : Pos} {k : Nat}
theorem qpd_find {apos cpos : Pos} (ho : QB X o fo) (ha : QB X e fa) (hbase : attributeBase o "find" X.env (eval o X.env) = eval o X.env := by rfl) (hfew : ((backTo cpos (starEach (e :: []) X.env)).all (fun x => !x.1) && (backToKw cpos (keywordEach [] X.env)).all (fun x => x.1.isSome)
      && decide ((e :: []).length + ([] : List Keyword).length + (if ([] : List Keyword).isEmpty then 0 else 1) < 30)) = true := by rfl) (hline : (apos.endLine == cpos.line) = true := by rfl) (hs : starEach (e :: []) X.env = (false, eval e X.env) :: starEach [] X.env := by rfl) (hplain : (backTo cpos (starEach [] X.env)).any (·.1) = false := by rfl) : QD X (.Call (.Attribute o "find" apos) [e] [] cpos) (fM1 (fun z y => some (.int (Txt.find z y))) fo fa) := ⟨pd_find (ho := ho.out) (ha := ha.out) (hbase := hbase) (hfew := hfew) (hline := hline) (hs := hs) (hplain := hplain)⟩
end
section
variable {X : Cx} {a b c e : Expr} {fa fb fc f : FD} {pos : Pos} {k : Nat}
theorem qpdg_two {i j : Nat} {x y : Str} {px py : Pos} {k : Nat} (hc : X.calm = true) (hN : X.N.Nodup) (hi : X.N[i]? = some x) (hj : X.N[j]? = some y) (hx : Loc X.env.scope x) (hy : Loc X.env.scope y) (hf : X.fn x = true ∨ X.env.scope.names.lookup x = some .local := by first | exact .inl rfl | exact .inr rfl | assumption) (hf2 : X.fn y = true ∨ X.env.scope.names.lookup y = some .local := by first | exact .inl rfl | exact .inr rfl | assumption) : QG X (.Tuple [.Name x px, .Name y py] k pos) (gPair i j) := ⟨pdg_two (hc := hc) (hN := hN) (hi := hi) (hj := hj) (hx := hx) (hy := hy) (hf := hf) (hf2 := hf2)⟩
end
section
variable {X : Cx} {x : Str} {C : Addr} {e : Expr} {es : List Expr} {fs : FL} {np cpos pos : Pos}
theorem qpds_raise (Z : Exc X.K X.mg x C) (hc : X.calm = true) (hg : Gl X x) (ha : QA X (e :: es) fs) (hdb : (x == ("__debug__" : Str)) = false := by decide) (he : starEach (e :: es) X.env = (false, eval e X.env) :: starEach es X.env := by rfl) (hpl : (backTo cpos (starEach es X.env)).any (·.1) = false := by rfl) : QS X (.Raise (some (.Call (.Name x np) (e :: es) [] cpos)) none pos) (fRaise x fs) := ⟨pds_raise (Z := Z) (hc := hc) (hg := hg) (ha := ha.out) (hdb := hdb) (he := he) (hpl := hpl)⟩
end
section
variable {X : Cx} {k : Nat} {x n y z : Str} {C Dn : Addr} {φ : List Th → Option Out} {e : Expr} {es : List Expr} {g : FL} {p pos cpos epos np hp pz : Pos} {b₀ : Stmt} {suite : List Stmt} {Fh : FS} {c : Str} {i j : Nat}
theorem qpds_tryS (cl : CalleeX X.prog X.w X.K X.mg X.base k x φ) (Z : Exc X.K X.mg c C) (Zn : Exc X.K X.mg n Dn) (hsub : PySem.W.subIn X.K (.ref C) (.ref Dn) = some true) (hr : Room k X.A) (hg : Gl X x) (hgn : Gl X n) (ha : QA X (e :: es) g) (hno : ∀ e s, ¬ X.xe e s) (hst : X.stack = X.env :: X.outer) (hfr : X.env.frame = some X.env.locals) (hN : X.N.Nodup) (hi : X.N[i]? = some y) (hy : X.env.scope.names.lookup y = some .local) (hj : X.N[j]? = some z) (hz : Loc X.env.scope z) (hs : ∀ ea, QSs (X.held ea) (b₀ :: suite) Fh) (hdb : (x == ("__debug__" : Str)) = false := by decide) (hdn : (n == ("__debug__" : Str)) = false := by decide) (he : starEach (e :: es) X.env = (false, eval e X.env) :: starEach es X.env := by rfl) (hpl : (backTo cpos (starEach es X.env)).any (·.1) = false := by rfl) (hsw : swapsWith (.Call (.Name x p) (e :: es) [] cpos) (some (.Name z pz)) epos.line X.env = pure false := by rfl) (hf : X.fn z = true ∨ X.env.scope.names.lookup z = some .local := by first | exact .inl rfl | exact .inr rfl | assumption) : QS X (.Try [.Assign [.Name z pz] (.Call (.Name x p) (e :: es) [] cpos) epos] [.ExceptHandler (some (.Name n np)) (some y) (b₀ :: suite) hp] [] [] pos) (fTryS j i g φ c Fh) := ⟨pds_tryS (cl := cl) (Z := Z) (Zn := Zn) (hsub := hsub) (hr := hr) (hg := hg) (hgn := hgn) (ha := ha.out) (hno := hno) (hst := hst) (hfr := hfr) (hN := hN) (hi := hi) (hy := hy) (hj := hj) (hz := hz) (hs := (fun x0 => (hs x0).out)) (hdb := hdb) (hdn := hdn) (he := he) (hpl := hpl) (hsw := hsw) (hf := hf)⟩
end
section
variable {X : Cx} {C : Addr} {c N y : Str} {b : Bool} {i : Nat} {p py p2 pos : Pos}
theorem qpd_isX {D : Addr} (Z : ExcK X.K C) (hc : PySem.W.nsIn X.K mainGlobals c = some (some (.ref C))) (hy : QV X (.Name y py) i) (hg : Gl X "isinstance") (hm : X.mg "isinstance" = none) (hgN : Gl X N) (hmN : X.mg N = some (.ref D)) (he : PySem.W.kitOne X.K (.ref C) (.ref D) = some b) (hdN : (N == ("__debug__" : Str)) = false := by decide) (hs1 : starEach [.Name y py, .Name N p2] X.env = (false, eval (.Name y py) X.env) :: starEach [.Name N p2] X.env := by rfl) (hpl : (backTo pos (starEach [.Name N p2] X.env)).any (·.1) = false := by rfl) (hs2 : starEach [.Name N p2] X.env = (false, eval (.Name N p2) X.env) :: starEach [] X.env := by rfl) : QD X (.Call (.Name "isinstance" p) [.Name y py, .Name N p2] [] pos) (fIsX i c b) := ⟨pd_isX (Z := Z) (hc := hc) (hy := hy.out) (hg := hg) (hm := hm) (hgN := hgN) (hmN := hmN) (he := he) (hdN := hdN) (hs1 := hs1) (hpl := hpl) (hs2 := hs2)⟩
end
section
variable {X : Cx} {C : Addr} {c N y : Str} {b : Bool} {i : Nat} {p py p2 pos : Pos}
theorem qpd_isXB {T : String} (Z : ExcK X.K C) (hc : PySem.W.nsIn X.K mainGlobals c = some (some (.ref C))) (hy : QV X (.Name y py) i) (hg : Gl X "isinstance") (hm : X.mg "isinstance" = none) (hgN : Gl X N) (hmN : X.mg N = none) (hv : bootBuiltins N = some (.type T)) (he : PySem.W.kitOne X.K (.ref C) (.type T) = some b) (hnN : N ≠ "__name__" := by decide) (hdN : (N == ("__debug__" : Str)) = false := by decide) (hs1 : starEach [.Name y py, .Name N p2] X.env = (false, eval (.Name y py) X.env) :: starEach [.Name N p2] X.env := by rfl) (hpl : (backTo pos (starEach [.Name N p2] X.env)).any (·.1) = false := by rfl) (hs2 : starEach [.Name N p2] X.env = (false, eval (.Name N p2) X.env) :: starEach [] X.env := by rfl) : QD X (.Call (.Name "isinstance" p) [.Name y py, .Name N p2] [] pos) (fIsX i c b) := ⟨pd_isXB (Z := Z) (hc := hc) (hy := hy.out) (hg := hg) (hm := hm) (hgN := hgN) (hmN := hmN) (hv := hv) (he := he) (hnN := hnN) (hdN := hdN) (hs1 := hs1) (hpl := hpl) (hs2 := hs2)⟩
end
section
variable {X : Cx} {K : PySem.W.Frag} {o a b c e : Expr} {fo fa fb fc f : FD} {pos : Pos} {k : Nat}
theorem qpd_join {apos cpos : Pos} (ho : QB X o fo) (ha : QB X e fa) (hbase : attributeBase o "join" X.env (eval o X.env) = eval o X.env := by rfl) (hfew : ((backTo cpos (starEach (e :: []) X.env)).all (fun x => !x.1) && (backToKw cpos (keywordEach [] X.env)).all (fun x => x.1.isSome)
      && decide ((e :: []).length + ([] : List Keyword).length + (if ([] : List Keyword).isEmpty then 0 else 1) < 30)) = true := by rfl) (hline : (apos.endLine == cpos.line) = true := by rfl) (hs : starEach (e :: []) X.env = (false, eval e X.env) :: starEach [] X.env := by rfl) (hplain : (backTo cpos (starEach [] X.env)).any (·.1) = false := by rfl) : QD X (.Call (.Attribute o "join" apos) [e] [] cpos) (f2 oJoin fo fa) := ⟨pd_join (ho := ho.out) (ha := ha.out) (hbase := hbase) (hfew := hfew) (hline := hline) (hs := hs) (hplain := hplain)⟩
end
section
variable {X : Cx} {K : PySem.W.Frag} {o e : Expr} {fo fa : FD}
theorem qpf_split {apos cpos : Pos} (ho : QB X o fo) (ha : QB X e fa) (hbase : attributeBase o "split" X.env (eval o X.env) = eval o X.env := by rfl) (hfew : ((backTo cpos (starEach (e :: []) X.env)).all (fun x => !x.1) && (backToKw cpos (keywordEach [] X.env)).all (fun x => x.1.isSome)
      && decide ((e :: []).length + ([] : List Keyword).length + (if ([] : List Keyword).isEmpty then 0 else 1) < 30)) = true := by rfl) (hline : (apos.endLine == cpos.line) = true := by rfl) (hs : starEach (e :: []) X.env = (false, eval e X.env) :: starEach [] X.env := by rfl) (hplain : (backTo cpos (starEach [] X.env)).any (·.1) = false := by rfl) : QF X (.Call (.Attribute o "split" apos) [e] [] cpos) (fSplit fo fa) := ⟨pf_split (ho := ho.out) (ha := ha.out) (hbase := hbase) (hfew := hfew) (hline := hline) (hs := hs) (hplain := hplain)⟩
end
section
variable {X : Cx}
theorem qpd_lit {e : Expr} {T : Th} (h : Lit e T) : QD X e (fC T) := ⟨pd_lit h⟩
theorem qv (i : Nat) {x : Str} {pos : Pos} (hN : X.N[i]? = some x := by rfl) (hv : Vis X.env.scope x := by first | exact Or.inl rfl | exact Or.inr (Or.inl rfl) | exact Or.inr (Or.inr rfl)) (hd : (x == ("__debug__" : Str)) = false := by decide)
    (hcd : (x == ("__classdict__" : Str)) = false := by decide) : QV X (.Name x pos) i := ⟨pe_var hN hv hd hcd⟩
end
section
variable {P : Program} {w : World} {K : PySem.W.Frag} {mg : Str → Option Value} {base : Heap}
theorem Fun.okQ {x qual : Str} {st : Stmt} {f : Addr} {fd : FuncData} {N ps : List Str} {k : Nat} {n m : Nat} {body : FS} (F : Fun K x qual st f fd) (S : FnScope N ps (defScope st)) (hps : ps.length = n) (hN : N.length = m)
    (hb : ∀ (cdv : Value) (A : Around) (outer : List Env) (s : Shared) (H : Hp) (E : XK), Room k (A.deeper (envOfC qual (defScope st) s.heap.objs.size f cdv)) → QSs (cxOf CX0 P w K mg base N qual (defScope st) f cdv A outer s H E).nox (defBody st) body) :
    FnOk P w K mg base CX0 (k + 1) f fd ps (spF K (runD n m body)) :=
  Fun.okD F S (fun cdv A outer s H E hr => (hb cdv A outer s H E hr).out) (fun Ts T e => by subst hps hN; exact runD_some e)
end
end L2
namespace K03
open PySem PySem.Spec PyProof.Rows L2
noncomputable section
def c_NO_RULES_MARK : Th := (.str ("none" : Str))
def c_MOST_RULES : Th := (.int 8)
def c_MOST_LETTERS : Th := (.int 12)
def c_MOST_LEFT_LETTERS : Th := (.int 6)
def c_MIDDLE_PART : Th := (.str ("to" : Str))
def c_LETTERS : Th := (.str ("abc" : Str))
def c_EMPTY_WORD_MARK : Th := (.str ("-" : Str))
def c_BETWEEN_RULES : Th := (.str (" ; " : Str))
def c_BETWEEN_PARTS : Th := (.str (" " : Str))
def b_l_drawn : FS := (fSeq (fSet 2 (f2 oMod (f2 oTimes (f2 oPlus (f2 oPlus (fVarB 0) (f2 oTimes (fC (.int 104729)) (fVarB 1))) (fC (.int 17))) (fC (.int 69621))) (fC (.int 2147483647))))
  (fRet (f2 oMod (f2 oPlus (f2 oPlus (f2 oTimes (fVarB 2) (fVarB 2)) (f2 oTimes (fC (.int 3)) (fVarB 2))) (fVarB 1)) (fC (.int 2147483629)))))
def phi_l_drawn : List Th → Option Th := runD 2 3 b_l_drawn
def b_l_tame : FS := (fSeq (fOwn 2 (fSlF (fC (.lst [(.tup [(.str ("ba" : Str)), (.str ("ab" : Str))]), (.tup [(.str ("ca" : Str)), (.str ("ac" : Str))]), (.tup [(.str ("cb" : Str)), (.str ("bc" : Str))])])) fNoPart (fPart (f2 oSub (f2 oTimes (fC (.int 2)) (fCB oLen (fCons (fVarB 1) fNil))) (fC (.int 3))))))
  (fSeq (fIf (fTest (f2 oEq (f2 oMod (fVarB 0) (fC (.int 2))) (fC (.int 1)))) (fOwn 2 (fSlF (fVarB 2) fNoPart (fPart (f2 oMod (f2 oDiv (fVarB 0) (fC (.int 2))) (fC (.int 2)))))) fNext)
  (fSeq (fFor (fEnum (fVar 1)) (gPair 3 4) (fSeq (fSet 5 (fCall phi_l_drawn (fCons (fVar 0) (fCons (fVar 3) fNil))))
  (fIf (fTest (f2 oGt (f2 oMod (fVarB 5) (fC (.int 3))) (fC (.int 0)))) (fAppend 2 (fTup (fCons (f2 oTimes (fVarB 4) (f2 oPlus (fC (.int 2)) (f2 oMod (f2 oDiv (fVarB 5) (fC (.int 3))) (fC (.int 2))))) (fCons (f2 oTimes (fVarB 4) (f2 oMod (f2 oDiv (fVarB 5) (fC (.int 6))) (fC (.int 2)))) fNil)))) fNext)))
  (fRet (fVarB 2)))))
def phi_l_tame : List Th → Option Th := runD 2 6 b_l_tame
def b_l_word : FS := (fSeq (fSet 3 (fC (.str ("" : Str))))
  (fSeq (fFor (fRange1 (f2 oMod (fVarB 0) (f2 oPlus (fVarB 2) (fC (.int 1))))) (gVar 4) (fSet 3 (f2 oPlus (fVarB 3) (f2 oIx (fVarB 1) (f2 oMod (f2 oDiv (fCall phi_l_drawn (fCons (fVar 0) (fCons (fVar 4) fNil))) (fC (.int 8))) (fCB oLen (fCons (fVarB 1) fNil)))))))
  (fRet (fVarB 3))))
def phi_l_word : List Th → Option Th := runD 3 5 b_l_word
def b_l_less : FS := (fRet (f2 oLt (fTup (fCons (fCB oLen (fCons (fVarB 0) fNil)) (fCons (fVar 0) fNil))) (fTup (fCons (fCB oLen (fCons (fVarB 1) fNil)) (fCons (fVar 1) fNil)))))
def phi_l_less : List Th → Option Th := runD 2 2 b_l_less
def b_l_rule : FS := (fSeq (fSet 2 (f2 oPlus (fCall phi_l_word (fCons (f2 oPlus (f2 oPlus (f2 oTimes (fC (.int 3)) (f2 oDiv (fVarB 0) (fC (.int 4)))) (fC (.int 1))) (f2 oMod (fVarB 0) (fC (.int 3)))) (fCons (fVar 1) (fCons (fC (.int 2)) fNil)))) (f2 oIx (fVarB 1) (f2 oMod (f2 oDiv (fVarB 0) (fC (.int 12))) (fCB oLen (fCons (fVarB 1) fNil))))))
  (fSeq (fIf (fTest (f2 oEq (f2 oMod (f2 oDiv (fVarB 0) (fC (.int 48))) (fC (.int 6))) (fC (.int 1)))) (fSet 2 (fSl (f2 oTimes (fVarB 2) (fC (.int 6))) fNoPart (fPart (f2 oPlus (fC (.int 4)) (f2 oMod (f2 oDiv (fVarB 0) (fC (.int 288))) (fC (.int 3))))))) fNext)
  (fSeq (fSet 3 (fCall phi_l_word (fCons (fCall phi_l_drawn (fCons (fVar 0) (fCons (fC (.int 50)) fNil))) (fCons (fVar 1) (fCons (fCB oLen (fCons (fVarB 2) fNil)) fNil)))))
  (fSeq (fIf (fNot (fTest (fCall phi_l_less (fCons (fVar 3) (fCons (fVar 2) fNil))))) (fSet 3 (fSl (fVarB 3) (fPart (fC (.int 1))) (fPart (fCB oLen (fCons (fVarB 2) fNil))))) fNext)
  (fRet (fTup (fCons (fVar 2) (fCons (fVar 3) fNil))))))))
def phi_l_rule : List Th → Option Th := runD 2 4 b_l_rule
def b_l_rules : FS := (fSeq (fSet 1 (f2 oIx (fC (.tup [(.str ("ab" : Str)), (.str ("abc" : Str))])) (f2 oMod (f2 oDiv (fVarB 0) (fC (.int 4))) (fC (.int 2)))))
  (fSeq (fSet 2 (fCall phi_l_tame (fCons (f2 oDiv (fVarB 0) (fC (.int 8))) (fCons (fVar 1) fNil))))
  (fSeq (fIf (fTest (f2 oGt (f2 oMod (fVarB 0) (fC (.int 4))) (fC (.int 1)))) (fSet 2 (fLst (fComp g1 (fRange1 (f2 oMod (f2 oDiv (fVarB 0) (fC (.int 8))) (fC (.int 5)))) fTrue (fCall phi_l_rule (fCons (fCall phi_l_drawn (fCons (fVar 1) (fCons (f2 oPlus (fC (.int 9)) (fVarB 0)) fNil))) (fCons (fVar 2) fNil)))))) (fIf (fTest (f2 oEq (f2 oMod (fVarB 0) (fC (.int 4))) (fC (.int 1)))) (fSet 2 (f2 oPlus (fVarB 2) (fLst (fList (fCons (fCall phi_l_rule (fCons (fCall phi_l_drawn (fCons (fVar 0) (fCons (fC (.int 9)) fNil))) (fCons (fVar 1) fNil))) fNil))))) fNext))
  (fSeq (fSet 3 (f2 oMod (f2 oDiv (fVarB 0) (fC (.int 640))) (fC (.int 5))))
  (fRet (fCB oTuple (fCons (f2 oPlus (fSl (fVarB 2) (fPart (fVar 3)) fNoPart) (fSl (fVarB 2) fNoPart (fPart (fVar 3)))) fNil)))))))
def phi_l_rules : List Th → Option Th := runD 1 4 b_l_rules
def b_l_cell_at : FS := (fSeq (fIf (fTest (f2 oLt (fVarB 1) (fCB oLen (fCons (fVarB 0) fNil)))) (fRet (f2 oIx (fVarB 0) (fVarB 1))) fNext)
  (fRet (fC (.int 0))))
def phi_l_cell_at : List Th → Option Th := runD 2 2 b_l_cell_at
def b_l_mixed : FS := (fSeq (fSet 2 (f2 oMod (f2 oTimes (f2 oPlus (f2 oPlus (fCall phi_l_cell_at (fCons (fVar 0) (fCons (fVar 1) fNil))) (f2 oTimes (fC (.int 7919)) (fVarB 1))) (fC (.int 1))) (fC (.int 48271))) (fC (.int 2147483647))))
  (fRet (f2 oMod (f2 oPlus (f2 oPlus (f2 oTimes (fVarB 2) (fVarB 2)) (f2 oTimes (fC (.int 7)) (fVarB 2))) (fVarB 1)) (fC (.int 2147483629)))))
def phi_l_mixed : List Th → Option Th := runD 2 3 b_l_mixed
def b_l_written : FS := (fSeq (fIf (fTest (f2 oEq (fVarB 0) (fC (.tup [])))) (fRet (fC (.str ("none" : Str)))) fNext)
  (fSeq (fSet 1 (fC (.str ("" : Str))))
  (fSeq (fFor (fSeqI (fVar 0)) (gPair 2 3) (fSet 1 (f2 oPlus (f2 oPlus (f2 oPlus (f2 oPlus (fVarB 1) (fC (.str (" ; " : Str)))) (fVarB 2)) (fC (.str (" to " : Str)))) (f2 oIx (fLst (fList (fCons (fVar 3) (fCons (fC (.str ("-" : Str))) fNil)))) (fCB oInt (fCons (f2 oEq (fVarB 3) (fC (.str ("" : Str)))) fNil))))))
  (fRet (fSl (fVarB 1) (fPart (fC (.int 3))) fNoPart)))))
def phi_l_written : List Th → Option Th := runD 1 4 b_l_written
def b_guessed_right : FS := (fRet (fIf (fTest (f2 oEq (fVarB 0) (fC c_EMPTY_WORD_MARK))) (fC (.str ("" : Str))) (fVar 0)))
def phi_guessed_right : List Th → Option Th := runD 1 1 b_guessed_right
def b_guessed_rule : FS := (fSeq (fSet 1 (fLst (fSplit (fVarB 0) (fC c_BETWEEN_PARTS))))
  (fRet (fTup (fCons (f2 oIx (fVarB 1) (fC (.int 0))) (fCons (fCall phi_guessed_right (fCons (f2 oIx (fVarB 1) (fNeg (fC (.int 1)))) fNil)) fNil)))))
def phi_guessed_rule : List Th → Option Th := runD 1 2 b_guessed_rule
def b_guessed_rules : FS := (fSeq (fIf (fTest (f2 oEq (fVarB 0) (fC c_NO_RULES_MARK))) (fRet (fC (.tup []))) fNext)
  (fRet (fCB oTuple (fCons (fLst (fComp g1 (fItems (fLst (fSplit (fVarB 0) (fC c_BETWEEN_RULES)))) fTrue (fCall phi_guessed_rule (fCons (fVar 0) fNil)))) fNil))))
def phi_guessed_rules : List Th → Option Th := runD 1 1 b_guessed_rules
def b_is_word : FS := (fRet (fAnd (fIsI "str" (fVarB 0)) (fAnd (f2 oLe (fCB oLen (fCons (fVarB 0) fNil)) (fC c_MOST_LETTERS)) (fCB (oAll false) (fCons (fLst (fComp g1 (fItems (fVar 0)) fTrue (f2 (oIn false) (fVarB 0) (fC c_LETTERS)))) fNil)))))
def phi_is_word : List Th → Option Th := runD 1 1 b_is_word
def b_is_pair_of_words : FS := (fRet (fAnd (fIsI "tuple" (fVarB 0)) (fAnd (f2 oEq (fCB oLen (fCons (fVarB 0) fNil)) (fC (.int 2))) (fCB (oAll false) (fCons (fLst (fComp g1 (fItems (fVar 0)) fTrue (fCall phi_is_word (fCons (fVar 0) fNil)))) fNil)))))
def phi_is_pair_of_words : List Th → Option Th := runD 1 1 b_is_pair_of_words
def b_rank : FS := (fRet (fTup (fCons (fCB oLen (fCons (fVarB 0) fNil)) (fCons (fVar 0) fNil))))
def phi_rank : List Th → Option Th := runD 1 1 b_rank
def b_is_less : FS := (fRet (f2 oLt (fCall phi_rank (fCons (fVar 0) fNil)) (fCall phi_rank (fCons (fVar 1) fNil))))
def phi_is_less : List Th → Option Th := runD 2 2 b_is_less
def b_is_rule : FS := (fSeq (fIf (fNot (fTest (fCall phi_is_pair_of_words (fCons (fVar 0) fNil)))) (fRet (fC (.bl false))) fNext)
  (fSeq (fSet 1 (f2 oIx (fVarB 0) (fC (.int 0))))
  (fSeq (fSet 2 (f2 oIx (fVarB 0) (fC (.int 1))))
  (fRet (fAnd (fChain oLe oLe (fC (.int 1)) (fCB oLen (fCons (fVarB 1) fNil)) (fC c_MOST_LEFT_LETTERS)) (fCall phi_is_less (fCons (fVar 2) (fCons (fVar 1) fNil))))))))
def phi_is_rule : List Th → Option Th := runD 1 3 b_is_rule
def b_are_rules : FS := (fRet (fAnd (fIsI "tuple" (fVarB 0)) (fAnd (f2 oLe (fCB oLen (fCons (fVarB 0) fNil)) (fC c_MOST_RULES)) (fCB (oAll false) (fCons (fLst (fComp g1 (fItems (fVar 0)) fTrue (fCall phi_is_rule (fCons (fVar 0) fNil)))) fNil)))))
def phi_are_rules : List Th → Option Th := runD 1 1 b_are_rules
def b_written_right : FS := (fRet (fIf (fTest (f2 oEq (fVarB 0) (fC (.str ("" : Str))))) (fC c_EMPTY_WORD_MARK) (fVar 0)))
def phi_written_right : List Th → Option Th := runD 1 1 b_written_right
def b_written_rule : FS := (fRet (f2 oJoin (fC c_BETWEEN_PARTS) (fLst (fList (fCons (f2 oIx (fVarB 0) (fC (.int 0))) (fCons (fC c_MIDDLE_PART) (fCons (fCall phi_written_right (fCons (f2 oIx (fVarB 0) (fC (.int 1))) fNil)) fNil)))))))
def phi_written_rule : List Th → Option Th := runD 1 1 b_written_rule
def b_written : FS := (fSeq (fIf (fNot (fTest (fCall phi_are_rules (fCons (fVar 0) fNil)))) (fRaise "NoRules" (fCons (fC (.str ("only rules can be written" : Str))) fNil)) fNext)
  (fSeq (fIf (fTest (f2 oEq (fCB oLen (fCons (fVarB 0) fNil)) (fC (.int 0)))) (fRet (fC c_NO_RULES_MARK)) fNext)
  (fRet (f2 oJoin (fC c_BETWEEN_RULES) (fLst (fComp g1 (fItems (fVar 0)) fTrue (fCall phi_written_rule (fCons (fVar 0) fNil))))))))
def phi_written : List Th → Option Th := runD 1 1 b_written
def psi_written : List Th → Option Out := runX 1 1 b_written
def b_read : FS := (fSeq (fSet 1 (fCall phi_guessed_rules (fCons (fVar 0) fNil)))
  (fSeq (fIf (fOrT (fNot (fTest (fCall phi_are_rules (fCons (fVar 1) fNil)))) (fTest (f2 oNe (fCall phi_written (fCons (fVar 1) fNil)) (fVarB 0)))) (fRaise "NoText" (fCons (fC (.str ("the text is not the writing of rules" : Str))) fNil)) fNext)
  (fRet (fVarB 1))))
def phi_read : List Th → Option Th := runD 1 2 b_read
def psi_read : List Th → Option Out := runX 1 2 b_read
def b_l_found : FS := (fSeq (fTryS 1 2 (fCons (fVar 0) fNil) psi_read "NoText" (fSeq (fSet 3 (fAnd (fIsX 2 "NoText" true) (fIsX 2 "NoText" true)))
  (fRet (f2 oIx (fC (.lst [(.int 0), .non])) (fCB oInt (fCons (fAnd (fVar 3) (fAnd (fNotV (fIsX 2 "NoText" false)) (fNotV (fIsX 2 "NoText" false)))) fNil))))))
  (fRet (f2 oIx (fLst (fList (fCons (fVar 1) (fCons (fC (.int 0)) fNil)))) (fCB oInt (fCons (f2 (oIsN false) (fVarB 1) (fC .non)) fNil)))))
def phi_l_found : List Th → Option Th := runD 1 4 b_l_found
def b_l_changed_text : FS := (fSeq (fSet 2 (fLst (fSplit (fVarB 0) (fC (.str (" " : Str))))))
  (fSeq (fSet 3 (f2 oMod (f2 oDiv (fVarB 1) (fC (.int 8))) (fCB oLen (fCons (fVarB 2) fNil))))
  (fSeq (fSet 4 (f2 oMod (f2 oDiv (fVarB 1) (fC (.int 8))) (f2 oPlus (fCB oLen (fCons (fVarB 0) fNil)) (fC (.int 1)))))
  (fSeq (fSet 5 (f2 oMod (fVarB 1) (fC (.int 8))))
  (fSeq (fIf (fTest (f2 oEq (fVarB 5) (fC (.int 0)))) (fRet (f2 oPlus (fSl (fVarB 0) fNoPart (fPart (fVar 4))) (fSl (fVarB 0) (fPart (f2 oPlus (fVarB 4) (fC (.int 1)))) fNoPart))) fNext)
  (fSeq (fIf (fTest (f2 oLt (fVarB 5) (fC (.int 3)))) (fSeq (fSet 6 (f2 oIx (fC (.str (" aabbccd;--to_A\n\t" : Str))) (f2 oMod (f2 oDiv (fVarB 1) (fC (.int 7))) (fC (.int 17)))))
  (fRet (f2 oPlus (f2 oPlus (fSl (fVarB 0) fNoPart (fPart (fVar 4))) (fVarB 6)) (fSl (fVarB 0) (fPart (f2 oSub (f2 oPlus (fVarB 4) (fVarB 5)) (fC (.int 1)))) fNoPart)))) fNext)
  (fSeq (fIf (fTest (f2 oEq (fVarB 5) (fC (.int 3)))) (fRet (f2 oJoin (fC (.str (" " : Str))) (f2 oPlus (fSl (fVarB 2) fNoPart (fPart (fVar 3))) (fSl (fVarB 2) (fPart (f2 oPlus (fVarB 3) (fC (.int 1)))) fNoPart)))) fNext)
  (fSeq (fIf (fTest (f2 oEq (fVarB 5) (fC (.int 4)))) (fRet (f2 oJoin (fC (.str (" " : Str))) (f2 oPlus (f2 oPlus (fSl (fVarB 2) fNoPart (fPart (fVar 3))) (fSl (fVarB 2) (fPart (fVar 3)) (fPart (f2 oPlus (fVarB 3) (fC (.int 1)))))) (fSl (fVarB 2) (fPart (fVar 3)) fNoPart)))) fNext)
  (fSeq (fIf (fTest (f2 oEq (fVarB 5) (fC (.int 5)))) (fSeq (fSet 7 (f2 oPlus (fSl (fVarB 2) (fPart (f2 oPlus (fVarB 3) (fC (.int 1)))) (fPart (f2 oPlus (fVarB 3) (fC (.int 2))))) (fSl (fVarB 2) (fPart (fVar 3)) (fPart (f2 oPlus (fVarB 3) (fC (.int 1)))))))
  (fRet (f2 oJoin (fC (.str (" " : Str))) (f2 oPlus (f2 oPlus (fSl (fVarB 2) fNoPart (fPart (fVar 3))) (fVarB 7)) (fSl (fVarB 2) (fPart (f2 oPlus (fVarB 3) (fC (.int 2)))) fNoPart))))) fNext)
  (fSeq (fSet 8 (fLst (fSplit (fC (.str ("; to - a b ab ba none aaa c bb aab" : Str))) (fC (.str (" " : Str))))))
  (fRet (f2 oJoin (fC (.str (" " : Str))) (f2 oPlus (f2 oPlus (fSl (fVarB 2) fNoPart (fPart (fVar 3))) (fLst (fList (fCons (f2 oIx (fVarB 8) (f2 oMod (f2 oDiv (fVarB 1) (fC (.int 7))) (fC (.int 12)))) fNil)))) (fSl (fVarB 2) (fPart (f2 oPlus (fVarB 3) (fC (.int 1)))) fNoPart))))))))))))))
def phi_l_changed_text : List Th → Option Th := runD 2 9 b_l_changed_text
def b_l_is_word : FS := (fSeq (fIf (fOrT (fNot (fTest (fIsI "str" (fVarB 0)))) (fTest (f2 oGt (fCB oLen (fCons (fVarB 0) fNil)) (fC (.int 12))))) (fRet (fC (.bl false))) fNext)
  (fRet (f2 oEq (fLst (fComp g1 (fItems (fVar 0)) (fTest (f2 oLt (fM1 (fun z y => some (.int (Txt.find z y))) (fC (.str ("abc" : Str))) (fVarB 0)) (fC (.int 0)))) (fVar 0))) (fC (.lst [])))))
def phi_l_is_word : List Th → Option Th := runD 1 1 b_l_is_word
def b_l_are_rules : FS := (fSeq (fIf (fOrT (fNot (fTest (fIsI "tuple" (fVarB 0)))) (fTest (f2 oGt (fCB oLen (fCons (fVarB 0) fNil)) (fC (.int 8))))) (fRet (fC (.bl false))) fNext)
  (fSeq (fFor (fItems (fVar 0)) (gVar 1) (fSeq (fIf (fOrT (fNot (fTest (fIsI "tuple" (fVarB 1)))) (fOrT (fTest (f2 oNe (fCB oLen (fCons (fVarB 1) fNil)) (fC (.int 2)))) (fOrT (fNot (fTest (fCall phi_l_is_word (fCons (f2 oIx (fVarB 1) (fC (.int 0))) fNil)))) (fNot (fTest (fCall phi_l_is_word (fCons (f2 oIx (fVarB 1) (fC (.int 1))) fNil))))))) (fRet (fC (.bl false))) fNext)
  (fIf (fOrT (fNot (fTest (fChain oLe oLe (fC (.int 1)) (fCB oLen (fCons (f2 oIx (fVarB 1) (fC (.int 0))) fNil)) (fC (.int 6))))) (fNot (fTest (fCall phi_l_less (fCons (f2 oIx (fVarB 1) (fC (.int 1))) (fCons (f2 oIx (fVarB 1) (fC (.int 0))) fNil)))))) (fRet (fC (.bl false))) fNext)))
  (fRet (fC (.bl true)))))
def phi_l_are_rules : List Th → Option Th := runD 1 2 b_l_are_rules
def b_l_due : FS := (fSeq (fIf (fTest (f2 oEq (fVarB 0) (fC (.str ("none" : Str))))) (fRet (fC (.tup []))) fNext)
  (fSeq (fSet 1 (fC (.tup [])))
  (fSeq (fFor (fItems (fLst (fSplit (fVarB 0) (fC (.str (" ; " : Str)))))) (gVar 2) (fSeq (fSet 3 (fLst (fSplit (fVarB 2) (fC (.str (" " : Str))))))
  (fSeq (fIf (fOrT (fTest (f2 oNe (fCB oLen (fCons (fVarB 3) fNil)) (fC (.int 3)))) (fTest (f2 oNe (f2 oIx (fVarB 3) (fC (.int 1))) (fC (.str ("to" : Str)))))) (fRet (fC .non)) fNext)
  (fSet 1 (f2 oPlus (fVarB 1) (fTup (fCons (fTup (fCons (f2 oIx (fVarB 3) (fC (.int 0))) (fCons (f2 oIx (fLst (fList (fCons (f2 oIx (fVarB 3) (fC (.int 2))) (fCons (fC (.str ("" : Str))) fNil)))) (fCB oInt (fCons (f2 oEq (f2 oIx (fVarB 3) (fC (.int 2))) (fC (.str ("-" : Str)))) fNil))) fNil))) fNil)))))))
  (fSeq (fIf (fOrT (fNot (fTest (fCall phi_l_are_rules (fCons (fVar 1) fNil)))) (fTest (f2 oNe (fCall phi_l_written (fCons (fVar 1) fNil)) (fVarB 0)))) (fRet (fC .non)) fNext)
  (fRet (fVarB 1))))))
def phi_l_due : List Th → Option Th := runD 1 4 b_l_due
def b_law : FS := (fSeq (fSet 1 (fCall phi_l_rules (fCons (fCall phi_l_mixed (fCons (fVar 0) (fCons (fC (.int 0)) fNil))) fNil)))
  (fSeq (fSet 2 (fCall phi_l_mixed (fCons (fVar 0) (fCons (fC (.int 1)) fNil))))
  (fSeq (fIf (fAndT (fTest (f2 oEq (f2 oMod (f2 oDiv (fVarB 2) (fC (.int 3))) (fC (.int 8))) (fC (.int 5)))) (fTest (f2 oNe (fVarB 1) (fC (.tup []))))) (fSet 1 (fSl (f2 oTimes (fVarB 1) (fC (.int 10))) fNoPart (fPart (f2 oPlus (fC (.int 7)) (f2 oMod (f2 oDiv (fVarB 2) (fC (.int 24))) (fC (.int 4))))))) fNext)
  (fSeq (fSet 3 (fCall phi_l_written (fCons (fVar 1) fNil)))
  (fSeq (fFor (fRange1 (f2 oTimes (f2 oMod (fVarB 2) (fC (.int 3))) (f2 oPlus (fC (.int 1)) (f2 oMod (f2 oDiv (fVarB 2) (fC (.int 96))) (fC (.int 2)))))) (gVar 4) (fSet 3 (fCall phi_l_changed_text (fCons (fVar 3) (fCons (fCall phi_l_drawn (fCons (fVar 2) (fCons (fVar 4) fNil))) fNil)))))
  (fSeq (fSet 5 (fCall phi_l_found (fCons (fVar 3) fNil)))
  (fRet (fAnd (f2 oEq (fVarB 5) (fCall phi_l_due (fCons (fVar 3) fNil))) (fOr (f2 (oIsN false) (fVarB 5) (fC .non)) (fCall phi_l_are_rules (fCons (fVar 5) fNil)))))))))))
def phi_law : List Th → Option Th := runD 1 6 b_law
end
end K03
namespace L2
open PySem
theorem times_int {i j : Int} (h : (-(2 ^ 64) < i ∧ i < 2 ^ 64) ∨ (-(2 ^ 64) < j ∧ j < 2 ^ 64)) : oTimes (.int i) (.int j) = some (.int (i * j)) := by
  simp only [oTimes, oMul, decide_eq_true h, if_true]
theorem mod_int {i j : Int} (h : 0 < j) : oMod (.int i) (.int j) = some (.int (i % j)) := by
  simp only [oMod, decide_eq_true h, if_true]
theorem div_int {i j : Int} (h : 0 < j ∧ j < 1073741824) : oDiv (.int i) (.int j) = some (.int (i / j)) := by
  simp only [oDiv, decide_eq_true h, if_true]
theorem plus_int {i j : Int} : oPlus (.int i) (.int j) = some (.int (i + j)) := rfl
theorem sub_int {i j : Int} : oSub (.int i) (.int j) = some (.int (i - j)) := rfl
theorem plus_str {x y : Str} (h : x.length + y.length ≤ 1000000) : oPlus (.str x) (.str y) = some (.str (x ++ y)) := by
  simp only [oPlus, oAdd, smallN, decide_eq_true h, if_true]
theorem plus_tup {x y : List Th} (h : x.length + y.length ≤ 1000000) : oPlus (.tup x) (.tup y) = some (.tup (x ++ y)) := by
  simp only [oPlus, oAdd, smallN, decide_eq_true h, if_true]
theorem plus_lst {x y : List Th} (h : x.length + y.length ≤ 1000000) : oPlus (.lst x) (.lst y) = some (.lst (x ++ y)) := by
  simp only [oPlus, smallN, decide_eq_true h, if_true]
theorem len_str {x : Str} (h : x.length ≤ 1000000) : oLen [.str x] = some (.int x.length) := by
  simp only [oLen, smallN, decide_eq_true h, if_true]
theorem len_lst {x : List Th} : oLen [.lst x] = some (.int x.length) := rfl
theorem len_tup {x : List Th} : oLen [.tup x] = some (.int x.length) := rfl
theorem le_int {i j : Int} : oLe (.int i) (.int j) = some (.bl (decide (i ≤ j))) := rfl
theorem gt_int {i j : Int} : oGt (.int i) (.int j) = some (.bl (decide (j < i))) := rfl
theorem ge_int {i j : Int} : oGe (.int i) (.int j) = some (.bl (decide (j ≤ i))) := rfl
theorem lt_int {i j : Int} : oLt (.int i) (.int j) = some (.bl (decide (i < j))) := rfl
theorem eq_int {i j : Int} : oEq (.int i) (.int j) = some (.bl (i == j)) := by simp [oEq, dp, eqTh]
theorem ne_int {i j : Int} : oNe (.int i) (.int j) = some (.bl (!(i == j))) := by simp [oNe, dp, eqTh]
theorem eq_bl {i j : Bool} : oEq (.bl i) (.bl j) = some (.bl (i == j)) := by simp [oEq, dp, eqTh]
theorem eq_str {i j : Str} : oEq (.str i) (.str j) = some (.bl (i == j)) := by simp [oEq, dp, eqTh]
theorem isB_non_str : isB (tyTh (Th.non)) "str" = false := rfl
theorem isB_bl_str (b : Bool) : isB (tyTh (Th.bl b)) "str" = false := rfl
theorem isB_int_str (i : Int) : isB (tyTh (Th.int i)) "str" = false := rfl
theorem isB_str_str (x : Str) : isB (tyTh (Th.str x)) "str" = true := rfl
theorem isB_tup_str (ts : List Th) : isB (tyTh (Th.tup ts)) "str" = false := rfl
theorem isB_lst_str (ts : List Th) : isB (tyTh (Th.lst ts)) "str" = false := rfl
theorem isB_non_tuple : isB (tyTh (Th.non)) "tuple" = false := rfl
theorem isB_bl_tuple (b : Bool) : isB (tyTh (Th.bl b)) "tuple" = false := rfl
theorem isB_int_tuple (i : Int) : isB (tyTh (Th.int i)) "tuple" = false := rfl
theorem isB_str_tuple (x : Str) : isB (tyTh (Th.str x)) "tuple" = false := rfl
theorem isB_tup_tuple (ts : List Th) : isB (tyTh (Th.tup ts)) "tuple" = true := rfl
theorem isB_lst_tuple (ts : List Th) : isB (tyTh (Th.lst ts)) "tuple" = false := rfl
theorem isB_non_bool : isB (tyTh (Th.non)) "bool" = false := rfl
theorem isB_bl_bool (b : Bool) : isB (tyTh (Th.bl b)) "bool" = true := rfl
theorem isB_int_bool (i : Int) : isB (tyTh (Th.int i)) "bool" = false := rfl
theorem isB_str_bool (x : Str) : isB (tyTh (Th.str x)) "bool" = false := rfl
theorem isB_tup_bool (ts : List Th) : isB (tyTh (Th.tup ts)) "bool" = false := rfl
theorem isB_lst_bool (ts : List Th) : isB (tyTh (Th.lst ts)) "bool" = false := rfl
theorem isB_non_int : isB (tyTh (Th.non)) "int" = false := rfl
theorem isB_bl_int (b : Bool) : isB (tyTh (Th.bl b)) "int" = true := rfl
theorem isB_int_int (i : Int) : isB (tyTh (Th.int i)) "int" = true := rfl
theorem isB_str_int (x : Str) : isB (tyTh (Th.str x)) "int" = false := rfl
theorem isB_tup_int (ts : List Th) : isB (tyTh (Th.tup ts)) "int" = false := rfl
theorem isB_lst_int (ts : List Th) : isB (tyTh (Th.lst ts)) "int" = false := rfl
theorem isB_non_list : isB (tyTh (Th.non)) "list" = false := rfl
theorem isB_bl_list (b : Bool) : isB (tyTh (Th.bl b)) "list" = false := rfl
theorem isB_int_list (i : Int) : isB (tyTh (Th.int i)) "list" = false := rfl
theorem isB_str_list (x : Str) : isB (tyTh (Th.str x)) "list" = false := rfl
theorem isB_tup_list (ts : List Th) : isB (tyTh (Th.tup ts)) "list" = false := rfl
theorem isB_lst_list (ts : List Th) : isB (tyTh (Th.lst ts)) "list" = true := rfl
theorem slen (x : Str) : x.cps.toList.length = x.length := by simp [Str.length]
theorem fSeq_nx {F G : FS} {d d' : Sd} (h : F d = some (.nx d')) : fSeq F G d = G d' := by unfold fSeq; rw [h]; rfl
theorem fSeq_rt {F G : FS} {d : Sd} {T : Th} (h : F d = some (.rt T)) : fSeq F G d = some (.rt T) := by unfold fSeq; rw [h]; rfl
theorem fFor_of {fi : FL} {g : FG} {F : FS} {d : Sd} {ts : List Th} (h : fi d = some ts) : fFor fi g F d = forL g F ts d := by unfold fFor; rw [h]; rfl
theorem runD_rt {n m : Nat} {b : FS} {Ts : List Th} {T : Th} (hn : Ts.length = n) (h : b (Ts.map (fun T => some (Dv.th T)) ++ List.replicate (m - Ts.length) none) = some (.rt T)) : runD n m b Ts = some T := by
  unfold runD; rw [if_pos hn, h]
theorem compL_map {fe : FD} {d : Sd} {p : Th → Th} : ∀ {ts : List Th}, (∀ t ∈ ts, fe (some (.th t) :: d) = some (p t)) → compL g1 fTrue fe d ts = some (ts.map p)
  | [], _ => rfl
  | t :: r, h => by
    have ih := compL_map (fe := fe) (d := d) (p := p) (ts := r) fun x hx => h x (List.mem_cons_of_mem _ hx)
    simp only [compL, g1, fTrue, Option.bind_some, List.cons_append, List.nil_append, if_true, h t List.mem_cons_self, ih, List.map_cons]
theorem compL_filter {ft : FB} {d : Sd} {q : Th → Bool} : ∀ {ts : List Th}, (∀ t ∈ ts, ft (some (.th t) :: d) = some (q t)) → compL g1 ft (fVar 0) d ts = some (ts.filter q)
  | [], _ => rfl
  | t :: r, h => by
    have ih := compL_filter (ft := ft) (d := d) (q := q) (ts := r) fun x hx => h x (List.mem_cons_of_mem _ hx)
    simp only [compL, g1, Option.bind_some, List.cons_append, List.nil_append, h t List.mem_cons_self, ih, List.filter_cons, fVar, List.getElem?_cons_zero]
    cases q t <;> simp
theorem fComp_map {fi : FL} {fe : FD} {d : Sd} {ts : List Th} {p : Th → Th} (h1 : fi d = some ts) (h2 : ts.length ≤ 1000000) (h3 : ∀ t ∈ ts, fe (some (.th t) :: d) = some (p t)) : fComp g1 fi fTrue fe d = some (ts.map p) := by
  simp only [fComp, h1, Option.bind_some, if_pos h2, compL_map h3]
theorem fComp_filter {fi : FL} {ft : FB} {d : Sd} {ts : List Th} {q : Th → Bool} (h1 : fi d = some ts) (h2 : ts.length ≤ 1000000) (h3 : ∀ t ∈ ts, ft (some (.th t) :: d) = some (q t)) : fComp g1 fi ft (fVar 0) d = some (ts.filter q) := by
  simp only [fComp, h1, Option.bind_some, if_pos h2, compL_filter h3]
theorem boolsOf_map (p : Th → Bool) : ∀ ts : List Th, boolsOf (ts.map fun t => .bl (p t)) = some (ts.map p)
  | [] => rfl
  | t :: r => by simp only [List.map_cons, boolsOf, boolsOf_map p r, Option.map_some]
theorem oAll_map (p : Th → Bool) (ts : List Th) : oAll false [.lst (ts.map fun t => .bl (p t))] = some (.bl (ts.all p)) := by
  simp only [oAll, boolsOf_map, Option.map_some, Bool.false_eq_true, if_false, List.all_map]
  rfl
mutual
def good : Th → Bool
  | .str x => decide (x.length ≤ 1000000)
  | .tup ts => goodL ts
  | .lst ts => goodL ts
  | _ => true
def goodL : List Th → Bool
  | [] => true
  | t :: r => good t && goodL r
end
theorem good_mem : ∀ {ts : List Th} {t : Th}, goodL ts = true → t ∈ ts → good t = true
  | [], _, _, h => nomatch h
  | x :: r, t, h, hm => by
    rw [goodL, Bool.and_eq_true] at h
    rcases List.mem_cons.mp hm with rfl | hm
    · exact h.1
    · exact good_mem h.2 hm
theorem goodL_iff {ts : List Th} : goodL ts = true ↔ ∀ t ∈ ts, good t = true := by
  constructor
  · intro h t ht; exact good_mem h ht
  · induction ts with
    | nil => intro _; rfl
    | cons x r ih =>
      intro h
      rw [goodL, Bool.and_eq_true]
      exact ⟨h x List.mem_cons_self, ih fun t ht => h t (List.mem_cons_of_mem _ ht)⟩
end L2
namespace L2
open PySem
theorem atI_nat' {α : Type} {xs : List α} {i : Int} (h0 : 0 ≤ i) (h1 : i < xs.length) : atI xs i = xs[i.toNat]? := by
  unfold atI ixN
  rw [if_pos h0, if_pos h1]; rfl
theorem ix_str' {x : Str} {i : Int} (h0 : 0 ≤ i) (h1 : i < x.length) (hx : x.length ≤ 1000000) : oIx (.str x) (.int i) = some (.str ⟨#[x.cps.toList.getD i.toNat 0]⟩) := by
  have hl := slen x
  have h2 : i.toNat < x.cps.toList.length := by rw [hl]; omega
  simp only [oIx, smallN, decide_eq_true hx, if_true]
  rw [atI_nat' h0 (by rw [hl]; exact h1), List.getElem?_eq_getElem h2]
  simp [List.getD_eq_getElem?_getD, List.getElem?_eq_getElem h2]
theorem ix_lst' {ts : List Th} {i : Int} (h0 : 0 ≤ i) (h1 : i < ts.length) : ∃ t, oIx (.lst ts) (.int i) = some t ∧ t ∈ ts := by
  have h2 : i.toNat < ts.length := by omega
  refine ⟨ts[i.toNat], ?_, List.getElem_mem h2⟩
  simp only [oIx]
  rw [atI_nat' h0 h1, List.getElem?_eq_getElem h2]
theorem app_cps (x y : Str) : (x ++ y).cps.toList = x.cps.toList ++ y.cps.toList := by
  show (x.cps ++ y.cps).toList = _
  simp
theorem app_len (x y : Str) : (x ++ y).length = x.length + y.length := by
  rw [← slen, app_cps, List.length_append, slen, slen]
theorem str_ext {x y : Str} (h : x.cps.toList = y.cps.toList) : x = y := by
  cases x; cases y
  simp only [Str.mk.injEq]
  exact Array.toList_inj.mp h
end L2
namespace L2
open PySem
theorem times_str {x : Str} {j : Int} (h0 : 0 ≤ j) (h1 : j ≤ 1000000) (h2 : x.length * j.toNat ≤ 1000000) : oTimes (.str x) (.int j) = some (.str (Txt.mul x j)) := by
  have h : 0 ≤ j ∧ j ≤ 1000000 ∧ x.length * j.toNat ≤ 1000000 := ⟨h0, h1, h2⟩
  simp only [oTimes, oMul, decide_eq_true h, if_true]
theorem rep_foldl (x : Array Nat) : ∀ (m : Nat) (acc : Array Nat), ((List.replicate m x).foldl (· ++ ·) acc).toList = acc.toList ++ (List.replicate m x.toList).flatten
  | 0, acc => by simp
  | m + 1, acc => by
    rw [List.replicate_succ, List.foldl_cons, rep_foldl x m, List.replicate_succ, List.flatten_cons, Array.toList_append, List.append_assoc]
theorem mul_cps {x : Str} {j : Int} (h0 : 0 ≤ j) : (Txt.mul x j).cps.toList = (List.replicate j.toNat x.cps.toList).flatten := by
  unfold Txt.mul
  by_cases h1 : j < 1
  · have : j = 0 := by omega
    subst this
    rw [if_pos h1]; rfl
  · rw [if_neg h1]
    by_cases h2 : (j == 1 || x.length == 0) = true
    · rw [if_pos h2]
      simp only [Bool.or_eq_true, beq_iff_eq] at h2
      rcases h2 with h2 | h2
      · subst h2; simp
      · have : x.cps.toList = [] := List.eq_nil_of_length_eq_zero (by rw [slen]; exact h2)
        rw [this]; simp
    · rw [if_neg h2]
      rw [rep_foldl]; simp
theorem flat_len {α : Type} (l : List α) (m : Nat) : (List.replicate m l).flatten.length = m * l.length := len_rep l m
theorem flat_mem {α : Type} {l : List α} {m : Nat} {c : α} (h : c ∈ (List.replicate m l).flatten) : c ∈ l := by
  obtain ⟨a, ha, hc⟩ := List.mem_flatten.mp h
  rw [(List.mem_replicate.mp ha).2] at hc
  exact hc
theorem cut_to {α : Type} (xs : List α) {j : Int} (h : 0 ≤ j) : cutL xs none (some j) = xs.take j.toNat := by
  unfold cutL
  obtain ⟨k, rfl⟩ : ∃ k : Nat, j = k := ⟨j.toNat, by omega⟩
  rw [HT.sIx_none, HT.sIx_nat, List.drop_zero, Nat.sub_zero, Int.toNat_natCast]
  rw [Nat.min_def]
  split
  · rfl
  · rw [List.take_length, List.take_of_length_le (by omega)]
theorem cut_from {α : Type} (xs : List α) {i : Int} (h : 0 ≤ i) : cutL xs (some i) none = xs.drop i.toNat := by
  unfold cutL
  obtain ⟨k, rfl⟩ : ∃ k : Nat, i = k := ⟨i.toNat, by omega⟩
  rw [HT.sIx_none, HT.sIx_nat, Int.toNat_natCast]
  rw [Nat.min_def]
  split
  · rw [List.take_of_length_le (by simp)]
  · rw [List.drop_length, List.drop_eq_nil_of_le (by omega)]; simp
theorem cut_mem {α : Type} {xs : List α} {lo hi : Option Int} {c : α} (h : c ∈ cutL xs lo hi) : c ∈ xs := List.mem_of_mem_drop (List.mem_of_mem_take h)
theorem sl_str' {x : Str} {lo hi : Option Int} (h : x.length ≤ 1000000) : oSl (.str x) lo hi = some (.str (cutS x lo hi)) := by
  simp only [oSl, smallN, decide_eq_true h, if_true]
theorem cutS_cps (x : Str) (lo hi : Option Int) : (cutS x lo hi).cps.toList = cutL x.cps.toList lo hi := by simp [cutS]
theorem cutS_len (x : Str) (lo hi : Option Int) : (cutS x lo hi).length = (cutL x.cps.toList lo hi).length := by rw [← slen, cutS_cps]
theorem cutS_le (x : Str) (lo hi : Option Int) : (cutS x lo hi).length ≤ x.length := by
  rw [cutS_len, ← slen x]; exact cutL_le _ _ _
end L2
namespace L2
open PySem
theorem forL_inv {g : FG} {F : FS} (P : List Th → Sd → Prop) (step : ∀ t r d, P (t :: r) d → ∃ d1 d2, g t d = some d1 ∧ F d1 = some (.nx d2) ∧ P r d2) : ∀ (ts : List Th) (d : Sd), P ts d → ∃ d', forL g F ts d = some (.nx d') ∧ P [] d'
  | [], d, h => ⟨d, rfl, h⟩
  | t :: r, d, h => by
    obtain ⟨d1, d2, e1, e2, h2⟩ := step t r d h
    obtain ⟨d', e3, h3⟩ := forL_inv P step r d2 h2
    refine ⟨d', ?_, h3⟩
    rw [forL, e1, Option.bind_some, e2]
    exact e3
theorem compL_ex {fe : FD} {d : Sd} {P : Th → Prop} : ∀ {ts : List Th}, (∀ t ∈ ts, ∃ y, fe (some (.th t) :: d) = some y ∧ P y) → ∃ ys, compL g1 fTrue fe d ts = some ys ∧ (∀ y ∈ ys, P y) ∧ ys.length = ts.length
  | [], _ => ⟨[], rfl, fun _ h => (nomatch h), rfl⟩
  | t :: r, h => by
    obtain ⟨ys, e, hp, hl⟩ := compL_ex (fe := fe) (d := d) (P := P) (ts := r) fun x hx => h x (List.mem_cons_of_mem _ hx)
    obtain ⟨y, ey, py⟩ := h t List.mem_cons_self
    refine ⟨y :: ys, ?_, fun z hz => ?_, by simp [hl]⟩
    · simp only [compL, g1, fTrue, Option.bind_some, List.cons_append, List.nil_append, if_true, ey, e]
    · rcases List.mem_cons.mp hz with rfl | hz
      · exact py
      · exact hp z hz
theorem fComp_ex {fi : FL} {fe : FD} {d : Sd} {ts : List Th} {P : Th → Prop} (h1 : fi d = some ts) (h2 : ts.length ≤ 1000000) (h3 : ∀ t ∈ ts, ∃ y, fe (some (.th t) :: d) = some y ∧ P y) : ∃ ys, fComp g1 fi fTrue fe d = some ys ∧ (∀ y ∈ ys, P y) ∧ ys.length = ts.length := by
  obtain ⟨ys, e, hp, hl⟩ := compL_ex h3
  exact ⟨ys, by simp only [fComp, h1, Option.bind_some, if_pos h2, e], hp, hl⟩
theorem numbered_mem : ∀ {k : Nat} {ts : List Th} {x : Th}, x ∈ numbered k ts → ∃ (j : Nat) (t : Th), x = .tup [.int (j : Int), t] ∧ t ∈ ts
  | _, [], _, h => (nomatch h)
  | k, t :: r, x, h => by
    rcases List.mem_cons.mp (show x ∈ Th.tup [.int (k : Int), t] :: numbered (k + 1) r from h) with rfl | h
    · exact ⟨k, t, rfl, List.mem_cons_self⟩
    · obtain ⟨j, y, e, hy⟩ := numbered_mem h
      exact ⟨j, y, e, List.mem_cons_of_mem _ hy⟩
theorem sl_lst {ts : List Th} {lo hi : Option Int} : oSl (.lst ts) lo hi = some (.lst (cutL ts lo hi)) := rfl
end L2
namespace K03
open PySem L2
local macro_rules | `(tactic| walk_at "ev") => `(tactic| simp (disch := omega) only [runD, fSeq, fSet, fRet, fIf, fNext, f2, fVarB, fVar, fC, fCL, fCons, fNil, fCall, fCB, fTest, fNot, fAndT, fOrT, fAnd, fOr, fNotV, fNeg, fIsI, isB_non_str, isB_bl_str, isB_int_str, isB_str_str, isB_tup_str, isB_lst_str, isB_non_tuple, isB_bl_tuple, isB_int_tuple, isB_str_tuple, isB_tup_tuple, isB_lst_tuple, isB_non_bool, isB_bl_bool, isB_int_bool, isB_str_bool, isB_tup_bool, isB_lst_bool, isB_non_int, isB_bl_int, isB_int_int, isB_str_int, isB_tup_int, isB_lst_int, isB_non_list, isB_bl_list, isB_int_list, isB_str_list, isB_tup_list, isB_lst_list, fTup, fLst, fList, fitL, fPart, fNoPart, fSl, List.map, List.length, List.replicate, List.cons_append, List.nil_append, List.getElem?_cons_zero, List.getElem?_cons_succ, Nat.zero_add, Nat.reduceLeDiff, Option.bind_some, Option.map_some, Option.bind_none, Option.map_none, List.set_cons_zero, List.set_cons_succ, plus_int, sub_int, times_int, mod_int, div_int, len_lst, len_tup, len_str, oAll_map, le_int, gt_int, ge_int, lt_int, eq_int, ne_int, eq_bl, eq_str, fRaise, Bool.not_true, Bool.not_false, fChain, if_true, if_false, Bool.false_eq_true, reduceIte, Nat.reduceAdd, Nat.reduceSub, Nat.reduceLeDiff, List.length_cons, List.length_nil])
def drawn (n k : Int) : Int := ((n + 104729 * k + 17) * 69621 % 2147483647 * ((n + 104729 * k + 17) * 69621 % 2147483647) + 3 * ((n + 104729 * k + 17) * 69621 % 2147483647) + k) % 2147483629
theorem drawn_eq (n k : Int) : phi_l_drawn [.int n, .int k] = some (.int (drawn n k)) := by
  unfold phi_l_drawn b_l_drawn
  walk_at "ev"
  rfl
def lessS (x y : Str) : Bool := decide (x.length < y.length ∨ (x.length = y.length ∧ x.cps.toList < y.cps.toList))
theorem oLt_key (x y : Str) : oLt (.tup [.int x.length, .str x]) (.tup [.int y.length, .str y]) = some (.bl (lessS x y)) := by
  simp only [oLt, keysOf, keyOf, Option.bind_some, Option.map_some, HT.lexK]
  congr 2
  unfold lessS
  by_cases h : (x.length : Int) = y.length
  · have h' : x.length = y.length := by omega
    rw [if_pos h]
    by_cases e : x = y
    · subst e
      rw [if_pos rfl]
      have : ¬ (x.length < x.length ∨ (x.length = x.length ∧ x.cps.toList < x.cps.toList)) := by
        intro z
        rcases z with z | z
        · omega
        · exact List.lt_irrefl _ z.2
      simp [decide_eq_false this]
    · rw [if_neg e]
      simp only [Option.map_some, Option.some.injEq, Th.bl.injEq, decide_eq_decide]
      constructor
      · intro z; exact .inr ⟨h', z⟩
      · rintro (z | z)
        · omega
        · exact z.2
  · rw [if_neg h]
    simp only [Option.map_some, Option.some.injEq, Th.bl.injEq, decide_eq_decide]
    constructor
    · intro z; exact .inl (by omega)
    · rintro (z | z) <;> omega
theorem less_eq (x y : Str) (hx : x.length ≤ 1000000) (hy : y.length ≤ 1000000) : phi_l_less [.str x, .str y] = some (.bl (lessS x y)) := by
  unfold phi_l_less b_l_less
  walk_at "ev"
  rw [oLt_key]; rfl
theorem rank_eq (x : Str) (hx : x.length ≤ 1000000) : phi_rank [.str x] = some (.tup [.int x.length, .str x]) := by
  unfold phi_rank b_rank
  walk_at "ev"
theorem is_less_eq (x y : Str) (hx : x.length ≤ 1000000) (hy : y.length ≤ 1000000) : phi_is_less [.str x, .str y] = some (.bl (lessS x y)) := by
  unfold phi_is_less b_is_less
  walk_at "ev"
  rw [rank_eq x hx, rank_eq y hy, Option.bind_some, Option.bind_some, oLt_key]; rfl
def abcS : Str := "abc"
def signB (c : Nat) : Bool := inS ⟨#[c]⟩ abcS
def wordS (x : Str) : Bool := decide (x.length ≤ 12) && x.cps.toList.all signB
def isWordB : Th → Bool
  | .str x => wordS x
  | _ => false
theorem all_signs (p : Nat → Bool) (q : Th → Bool) (h : ∀ c, q (.str ⟨#[c]⟩) = p c) (x : Str) : (signs x).all q = x.cps.toList.all p := by
  unfold signs
  rw [List.all_map]
  congr 1
  funext c
  exact h c
def sgnT : Th → Bool
  | .str y => inS y abcS
  | _ => false
theorem signs_sgn {x : Str} {t : Th} (h : t ∈ signs x) : ∃ y, t = .str y := by
  unfold signs at h
  obtain ⟨c, _, rfl⟩ := List.mem_map.mp h
  exact ⟨_, rfl⟩
theorem signs_len (x : Str) : (signs x).length = x.length := by simp [signs, Str.length]
theorem is_word_eq (T : Th) (g : good T = true) : phi_is_word [T] = some (.bl (isWordB T)) := by
  unfold phi_is_word b_is_word c_MOST_LETTERS c_LETTERS
  cases T with
  | str x =>
    have hx : x.length ≤ 1000000 := by simpa [good] using g
    have hc : fComp g1 (fItems (fVar 0)) fTrue (f2 (oIn false) (fVarB 0) (fC (.str ("abc" : Str)))) [some (Dv.th (.str x))] = some ((signs x).map fun t => .bl (sgnT t)) :=
      fComp_map rfl (by rw [signs_len]; exact hx) fun t ht => by
        obtain ⟨y, rfl⟩ := signs_sgn ht
        rfl
    walk_at "ev"
    simp only [hc, Option.map_some, Option.bind_some, oAll_map]
    rw [all_signs signB sgnT (fun c => rfl)]
    simp only [isWordB, wordS]
    by_cases h : x.length ≤ 12
    · have h' : (x.length : Int) ≤ 12 := by omega
      simp [h, h']
    · have h' : ¬ (x.length : Int) ≤ 12 := by omega
      simp [h, h']
  | _ => walk_at "ev"; rfl
theorem find_neg (c : Nat) : decide (Txt.find abcS ⟨#[c]⟩ < 0) = !signB c := by
  unfold Txt.find signB inS
  cases Builtin.Str.occurrences abcS ⟨#[c]⟩ 0 abcS.length 1 with
  | nil => simp
  | cons i r => simp
def nsgnT : Th → Bool
  | .str y => decide (Txt.find abcS y < 0)
  | _ => false
theorem filter_nil_all (p : Th → Bool) : ∀ l : List Th, eqTh (.lst (l.filter p)) (.lst []) = l.all (fun t => !p t)
  | [] => by simp [eqTh, eqThL]
  | t :: r => by
    have ih := filter_nil_all p r
    rw [List.filter_cons, List.all_cons]
    cases h : p t with
    | true => simp [eqTh, eqThL]
    | false => simpa using ih
theorem dp_lits : ∀ l : List Th, (∀ t ∈ l, ∃ y, t = Th.str y) → dpL l = 0
  | [], _ => rfl
  | t :: r, h => by
    obtain ⟨y, rfl⟩ := h t List.mem_cons_self
    rw [dpL, dp_lits r fun x hx => h x (List.mem_cons_of_mem _ hx)]
    rfl
theorem l_is_word_eq (T : Th) (g : good T = true) : phi_l_is_word [T] = some (.bl (isWordB T)) := by
  unfold phi_l_is_word b_l_is_word
  cases T with
  | str x =>
    have hx : x.length ≤ 1000000 := by simpa [good] using g
    have hc : fComp g1 (fItems (fVar 0)) (fTest (f2 oLt (fM1 (fun z y => some (.int (Txt.find z y))) (fC (.str ("abc" : Str))) (fVarB 0)) (fC (.int 0)))) (fVar 0) [some (Dv.th (.str x))] = some ((signs x).filter nsgnT) :=
      fComp_filter rfl (by rw [signs_len]; exact hx) fun t ht => by
        obtain ⟨y, rfl⟩ := signs_sgn ht
        rfl
    walk_at "ev"
    by_cases h : x.length ≤ 12
    · have h' : ¬ (12 : Int) < x.length := by omega
      have hd : dp (.lst ((signs x).filter nsgnT)) ≤ 100 := by
        rw [dp, dp_lits _ fun t ht => signs_sgn (List.mem_filter.mp ht).1]; decide
      simp only [decide_eq_false h', Bool.not_true, Bool.false_eq_true, if_false, Option.bind_some, hc, Option.map_some, oEq, decide_eq_true hd, if_true, filter_nil_all]
      rw [all_signs signB (fun t => !nsgnT t) (fun c => by simp only [nsgnT, find_neg, Bool.not_not])]
      simp [isWordB, wordS, h]
    · have h' : (12 : Int) < x.length := by omega
      simp [h, h', isWordB, wordS]
  | _ => walk_at "ev"; rfl
def pairB : Th → Bool
  | .tup ts => decide (ts.length = 2) && ts.all isWordB
  | _ => false
theorem is_pair_eq (T : Th) (g : good T = true) : phi_is_pair_of_words [T] = some (.bl (pairB T)) := by
  unfold phi_is_pair_of_words b_is_pair_of_words
  cases T with
  | tup ts =>
    have gl : goodL ts = true := by simpa [good] using g
    by_cases h : ts.length = 2
    · have hc : fComp g1 (fItems (fVar 0)) fTrue (fCall phi_is_word (fCons (fVar 0) fNil)) [some (Dv.th (.tup ts))] = some (ts.map fun t => .bl (isWordB t)) :=
        fComp_map rfl (by omega) fun t ht => by
          show phi_is_word [t] = _
          exact is_word_eq t (good_mem gl ht)
      walk_at "ev"
      simp only [hc, Option.map_some, Option.bind_some, oAll_map]
      have h' : ((ts.length : Int) == 2) = true := by simp; omega
      simp [h', h, pairB]
    · walk_at "ev"
      have h' : ((ts.length : Int) == 2) = false := by simp; omega
      simp [h', h, pairB]
  | _ => walk_at "ev"; rfl
def isRuleB : Th → Bool
  | .tup [.str l, .str r] => wordS l && wordS r && (decide (1 ≤ l.length) && decide (l.length ≤ 6) && lessS r l)
  | _ => false
theorem word_short {x : Str} (h : wordS x = true) : x.length ≤ 12 := by
  unfold wordS at h
  simp only [Bool.and_eq_true, decide_eq_true_eq] at h
  exact h.1
theorem pair_of {T : Th} (h : pairB T = true) : ∃ l r, T = .tup [.str l, .str r] ∧ wordS l = true ∧ wordS r = true := by
  cases T with
  | tup ts =>
    simp only [pairB, Bool.and_eq_true, decide_eq_true_eq] at h
    match ts, h with
    | [a, b], h =>
      simp only [List.all_cons, List.all_nil, Bool.and_true, Bool.and_eq_true] at h
      cases a <;> simp only [isWordB, Bool.false_eq_true, false_and, and_false] at h
      cases b <;> simp only [isWordB, Bool.false_eq_true, false_and, and_false] at h
      exact ⟨_, _, rfl, h.2.1, h.2.2⟩
  | _ => simp [pairB] at h
theorem not_pair {T : Th} (h : pairB T = false) : isRuleB T = false := by
  unfold isRuleB
  split
  · rename_i l r
    simp only [pairB, List.length_cons, List.length_nil, List.all_cons, List.all_nil, isWordB, Bool.and_true] at h
    simp at h
    cases hl : wordS l with
    | false => simp
    | true => simp [h hl]
  · rfl
theorem is_rule_eq (T : Th) (g : good T = true) : phi_is_rule [T] = some (.bl (isRuleB T)) := by
  unfold phi_is_rule b_is_rule c_MOST_LEFT_LETTERS
  have hcall := is_pair_eq T g
  cases hp : pairB T with
  | false =>
    rw [hp] at hcall
    walk_at "ev"
    simp only [hcall]
    walk_at "ev"
    rw [not_pair hp]
  | true =>
    rw [hp] at hcall
    obtain ⟨l, r, rfl, hl, hr⟩ := pair_of hp
    have l12 := word_short hl
    have r12 := word_short hr
    have e0 : oIx (.tup [.str l, .str r]) (.int 0) = some (.str l) := rfl
    have e1 : oIx (.tup [.str l, .str r]) (.int 1) = some (.str r) := rfl
    have e2 := is_less_eq r l (by omega) (by omega)
    walk_at "ev"
    simp only [hcall]
    walk_at "ev"
    simp only [e0]
    walk_at "ev"
    simp only [e1]
    walk_at "ev"
    simp only [e2]
    simp only [isRuleB, hl, hr, Bool.true_and]
    by_cases h1 : 1 ≤ l.length
    · have h1' : (1 : Int) ≤ l.length := by omega
      by_cases h6 : l.length ≤ 6
      · have h6' : (l.length : Int) ≤ 6 := by omega
        simp [h1, h1', h6, h6']
      · have h6' : ¬ (l.length : Int) ≤ 6 := by omega
        simp [h1, h1', h6, h6']
    · have h1' : ¬ (1 : Int) ≤ l.length := by omega
      simp [h1, h1']
def rulesB : Th → Bool
  | .tup ts => decide (ts.length ≤ 8) && ts.all isRuleB
  | _ => false
theorem are_rules_eq (T : Th) (g : good T = true) : phi_are_rules [T] = some (.bl (rulesB T)) := by
  unfold phi_are_rules b_are_rules c_MOST_RULES
  cases T with
  | tup ts =>
    have gl : goodL ts = true := by simpa [good] using g
    by_cases h : ts.length ≤ 8
    · have hc : fComp g1 (fItems (fVar 0)) fTrue (fCall phi_is_rule (fCons (fVar 0) fNil)) [some (Dv.th (.tup ts))] = some (ts.map fun t => .bl (isRuleB t)) :=
        fComp_map rfl (by omega) fun t ht => by
          show phi_is_rule [t] = _
          exact is_rule_eq t (good_mem gl ht)
      walk_at "ev"
      simp only [hc, Option.map_some, Option.bind_some, oAll_map]
      have h' : (ts.length : Int) ≤ 8 := by omega
      simp [h', h, rulesB]
    · walk_at "ev"
      have h' : ¬ (ts.length : Int) ≤ 8 := by omega
      simp [h', h, rulesB]
  | _ => walk_at "ev"; rfl
theorem l_turn (T0 t : Th) (g : good t = true) : (fSeq (fIf (fOrT (fNot (fTest (fIsI "tuple" (fVarB 1)))) (fOrT (fTest (f2 oNe (fCB oLen (fCons (fVarB 1) fNil)) (fC (.int 2)))) (fOrT (fNot (fTest (fCall phi_l_is_word (fCons (f2 oIx (fVarB 1) (fC (.int 0))) fNil)))) (fNot (fTest (fCall phi_l_is_word (fCons (f2 oIx (fVarB 1) (fC (.int 1))) fNil))))))) (fRet (fC (.bl false))) fNext)
  (fIf (fOrT (fNot (fTest (fChain oLe oLe (fC (.int 1)) (fCB oLen (fCons (f2 oIx (fVarB 1) (fC (.int 0))) fNil)) (fC (.int 6))))) (fNot (fTest (fCall phi_l_less (fCons (f2 oIx (fVarB 1) (fC (.int 1))) (fCons (f2 oIx (fVarB 1) (fC (.int 0))) fNil)))))) (fRet (fC (.bl false))) fNext)) [some (Dv.th T0), some (Dv.th t)] = some (if isRuleB t then .nx [some (Dv.th T0), some (Dv.th t)] else .rt (.bl false)) := by
  cases t with
  | tup ts =>
    have gl : goodL ts = true := by simpa [good] using g
    by_cases h : ts.length = 2
    · match ts, h with
      | [a, b], h =>
        have e0 : oIx (.tup [a, b]) (.int 0) = some a := rfl
        have e1 : oIx (.tup [a, b]) (.int 1) = some b := rfl
        have ga := good_mem gl (t := a) (by simp)
        have gb := good_mem gl (t := b) (by simp)
        have wa := l_is_word_eq a ga
        have wb := l_is_word_eq b gb
        walk_at "ev"
        simp only [e0, e1, Option.bind_some, wa, wb]
        walk_at "ev"
        have h2 : (((2 : Nat) : Int) == 2) = true := rfl
        simp only [h2, Bool.not_true, Bool.false_eq_true, if_false]
        have hnr : (isWordB a = false ∨ isWordB b = false) → isRuleB (.tup [a, b]) = false := fun z => by
          unfold isRuleB
          split
          · rename_i l r e
            cases e
            simp only [isWordB] at z
            rcases z with z | z <;> simp [z]
          · rfl
        cases hA : isWordB a with
        | false => rw [hnr (.inl hA)]; rfl
        | true =>
          cases hB : isWordB b with
          | false => rw [hnr (.inr hB)]; rfl
          | true =>
            have hp : pairB (.tup [a, b]) = true := by simp [pairB, hA, hB]
            obtain ⟨l, r, e, hl, hr⟩ := pair_of hp
            cases e
            have l12 := word_short hl
            have r12 := word_short hr
            have e2 := less_eq r l (by omega) (by omega)
            walk_at "ev"
            simp only [e0, e1]
            walk_at "ev"
            simp only [e2]
            simp only [isRuleB, hl, hr, Bool.true_and]
            by_cases h1 : 1 ≤ l.length
            · have h1' : (1 : Int) ≤ l.length := by omega
              by_cases h6 : l.length ≤ 6
              · have h6' : (l.length : Int) ≤ 6 := by omega
                cases hs : lessS r l <;> simp [h1, h1', h6, h6', hs]
              · have h6' : ¬ (l.length : Int) ≤ 6 := by omega
                simp [h1, h1', h6, h6']
            · have h1' : ¬ (1 : Int) ≤ l.length := by omega
              simp [h1, h1']
    · have h' : ((ts.length : Int) == 2) = false := by simp; omega
      walk_at "ev"
      simp only [h']
      walk_at "ev"
      have : isRuleB (.tup ts) = false := by
        unfold isRuleB
        split
        · rename_i e; cases e; simp at h
        · rfl
      rw [this]
      rfl
  | _ => walk_at "ev"; rfl
theorem l_loop {F : FS} (hF : ∀ T0 t : Th, good t = true → F [some (Dv.th T0), some (Dv.th t)] = some (if isRuleB t then .nx [some (Dv.th T0), some (Dv.th t)] else .rt (.bl false))) (T0 : Th) : ∀ (ts : List Th) (x : Option Dv), goodL ts = true →
    ∃ y, forL (gVar 1) F ts [some (Dv.th T0), x] = some (if ts.all isRuleB then .nx [some (Dv.th T0), y] else .rt (.bl false))
  | [], x, _ => ⟨x, rfl⟩
  | t :: r, x, g => by
    rw [goodL, Bool.and_eq_true] at g
    obtain ⟨y, hy⟩ := l_loop hF T0 r (some (Dv.th t)) g.2
    have e : forL (gVar 1) F (t :: r) [some (Dv.th T0), x] = (F [some (Dv.th T0), some (Dv.th t)]).bind fun o => match o with | .nx d' => forL (gVar 1) F r d' | .ct d' => forL (gVar 1) F r d' | .bk d' => some (.nx d') | .rt T => some (.rt T) | .xc c => some (.xc c) := rfl
    rw [e, hF T0 t g.1]
    cases h : isRuleB t with
    | false => exact ⟨none, by simp [h]⟩
    | true => exact ⟨y, by simp [h, hy]⟩
theorem l_are_rules_eq (T : Th) (g : good T = true) : phi_l_are_rules [T] = some (.bl (rulesB T)) := by
  unfold phi_l_are_rules b_l_are_rules
  cases T with
  | tup ts =>
    have gl : goodL ts = true := by simpa [good] using g
    by_cases h : ts.length ≤ 8
    · have h' : ¬ (8 : Int) < ts.length := by omega
      obtain ⟨y, hy⟩ := l_loop l_turn (.tup ts) ts none gl
      refine runD_rt rfl ?_
      have h0 : fIf (fOrT (fNot (fTest (fIsI "tuple" (fVarB 0)))) (fTest (f2 oGt (fCB oLen (fCons (fVarB 0) fNil)) (fC (.int 8))))) (fRet (fC (.bl false))) fNext [some (Dv.th (.tup ts)), none] = some (.nx [some (Dv.th (.tup ts)), none]) := by
        walk_at "ev"
        simp only [decide_eq_false h', if_false, Bool.false_eq_true]
      refine (fSeq_nx h0).trans ?_
      cases ha : ts.all isRuleB with
      | true =>
        rw [ha] at hy
        refine (fSeq_nx ((fFor_of rfl).trans hy)).trans ?_
        simp [rulesB, h, ha, fRet, fC]
      | false =>
        rw [ha] at hy
        refine (fSeq_rt ((fFor_of rfl).trans hy)).trans ?_
        simp [rulesB, h, ha]
    · have h' : (8 : Int) < ts.length := by omega
      walk_at "ev"
      simp [h', h, rulesB]
  | _ => walk_at "ev"; rfl
theorem cell_eq (ns : List Int) (k : Int) (hk : 0 ≤ k) : ∃ c, phi_l_cell_at [.lst (ns.map Th.int), .int k] = some (.int c) := by
  by_cases h : k < ns.length
  · have h2 : k.toNat < (ns.map Th.int).length := by rw [List.length_map]; omega
    refine ⟨ns[k.toNat]'(by omega), ?_⟩
    have e : oIx (.lst (ns.map Th.int)) (.int k) = some (.int (ns[k.toNat]'(by omega))) := by
      simp only [oIx]
      rw [atI_nat' hk (by rw [List.length_map]; exact h), List.getElem?_eq_getElem h2, List.getElem_map]
    unfold phi_l_cell_at b_l_cell_at
    walk_at "ev"
    simp only [List.length_map, decide_eq_true h, if_true, e]
    rfl
  · refine ⟨0, ?_⟩
    unfold phi_l_cell_at b_l_cell_at
    walk_at "ev"
    simp only [List.length_map, decide_eq_false h, if_false, Bool.false_eq_true]
    rfl
def mixC (c k : Int) : Int := ((c + 7919 * k + 1) * 48271 % 2147483647 * ((c + 7919 * k + 1) * 48271 % 2147483647) + 7 * ((c + 7919 * k + 1) * 48271 % 2147483647) + k) % 2147483629
theorem mixed_eq (ns : List Int) (k : Int) (hk : 0 ≤ k) : ∃ r, 0 ≤ r ∧ r < 2147483629 ∧ phi_l_mixed [.lst (ns.map Th.int), .int k] = some (.int r) := by
  obtain ⟨c, hc⟩ := cell_eq ns k hk
  refine ⟨mixC c k, Int.emod_nonneg _ (by decide), Int.emod_lt_of_pos _ (by decide), ?_⟩
  unfold phi_l_mixed b_l_mixed
  walk_at "ev"
  simp only [hc]
  walk_at "ev"
  rfl
def pick (n : Int) (le : Str) (k : Nat) : Nat := le.cps.toList.getD (drawn n k / 8 % (le.length : Int)).toNat 0
def wordOf (n : Int) (le : Str) (m : Nat) : Str := ⟨((List.range m).map (pick n le)).toArray⟩
theorem w_loop {n most : Int} {le : Str} (h1 : 0 < le.length) (h2 : le.length ≤ 1000) : ∀ (ks : List Nat) (acc : Str) (x : Option Dv), acc.length + ks.length ≤ 100000 →
    ∃ y, forL (gVar 4) (fSet 3 (f2 oPlus (fVarB 3) (f2 oIx (fVarB 1) (f2 oMod (f2 oDiv (fCall phi_l_drawn (fCons (fVar 0) (fCons (fVar 4) fNil))) (fC (.int 8))) (fCB oLen (fCons (fVarB 1) fNil)))))) (ks.map fun (k : Nat) => Th.int (k : Int))
      [some (Dv.th (.int n)), some (Dv.th (.str le)), some (Dv.th (.int most)), some (Dv.th (.str acc)), x] = some (.nx [some (Dv.th (.int n)), some (Dv.th (.str le)), some (Dv.th (.int most)), some (Dv.th (.str ⟨(acc.cps.toList ++ ks.map (pick n le)).toArray⟩)), y])
  | [], acc, x, _ => ⟨x, by simp [forL, str_mk]⟩
  | k :: ks, acc, x, hz => by
    have e1 := drawn_eq n k
    have hm : 0 ≤ drawn n k / 8 % (le.length : Int) ∧ drawn n k / 8 % (le.length : Int) < le.length := ⟨Int.emod_nonneg _ (by omega), Int.emod_lt_of_pos _ (by omega)⟩
    have e2 := ix_str' hm.1 hm.2 (by omega)
    have hl1 : (⟨#[pick n le k]⟩ : Str).length = 1 := rfl
    simp only [List.length_cons] at hz
    have e3 := plus_str (x := acc) (y := ⟨#[pick n le k]⟩) (by rw [hl1]; omega)
    have hl2 : (acc ++ (⟨#[pick n le k]⟩ : Str)).length = acc.length + 1 := by rw [app_len, hl1]
    obtain ⟨y, hy⟩ := w_loop (n := n) (most := most) h1 h2 ks (acc ++ ⟨#[pick n le k]⟩) (some (Dv.th (.int k))) (by rw [hl2]; omega)
    refine ⟨y, ?_⟩
    rw [List.map_cons, forL]
    simp only [gVar, List.set_cons_zero, List.set_cons_succ, Option.bind_some]
    have hs : fSet 3 (f2 oPlus (fVarB 3) (f2 oIx (fVarB 1) (f2 oMod (f2 oDiv (fCall phi_l_drawn (fCons (fVar 0) (fCons (fVar 4) fNil))) (fC (.int 8))) (fCB oLen (fCons (fVarB 1) fNil))))) [some (Dv.th (.int n)), some (Dv.th (.str le)), some (Dv.th (.int most)), some (Dv.th (.str acc)), some (Dv.th (.int k))]
        = some (.nx [some (Dv.th (.int n)), some (Dv.th (.str le)), some (Dv.th (.int most)), some (Dv.th (.str (acc ++ ⟨#[pick n le k]⟩))), some (Dv.th (.int k))]) := by
      walk_at "ev"
      simp only [e1]
      walk_at "ev"
      simp only [e2]
      walk_at "ev"
      rw [show le.cps.toList.getD (drawn n ↑k / 8 % ↑le.length).toNat 0 = pick n le k from rfl, e3]
      rfl
    rw [hs]
    simp only [Option.bind_some]
    rw [hy, app_cps]
    simp
theorem word_eq {n most : Int} {le : Str} (h1 : 0 < le.length) (h2 : le.length ≤ 1000) (h3 : 0 ≤ most) (h4 : most ≤ 1000) : phi_l_word [.int n, .str le, .int most] = some (.str (wordOf n le (n % (most + 1)).toNat)) := by
  unfold phi_l_word b_l_word
  have hm : 0 ≤ n % (most + 1) ∧ n % (most + 1) < most + 1 := ⟨Int.emod_nonneg _ (by omega), Int.emod_lt_of_pos _ (by omega)⟩
  obtain ⟨y, hy⟩ := w_loop (n := n) (most := most) h1 h2 (List.range (n % (most + 1)).toNat) "" none (by rw [List.length_range]; show 0 + _ ≤ _; omega)
  refine runD_rt rfl ?_
  refine (fSeq_nx (d' := [some (Dv.th (.int n)), some (Dv.th (.str le)), some (Dv.th (.int most)), some (Dv.th (.str "")), none]) rfl).trans ?_
  have hr : fRange1 (f2 oMod (fVarB 0) (f2 oPlus (fVarB 2) (fC (.int 1)))) [some (Dv.th (.int n)), some (Dv.th (.str le)), some (Dv.th (.int most)), some (Dv.th (.str "")), none] = some (L2.upTo (n % (most + 1)).toNat) := by
    unfold fRange1
    walk_at "ev"
    rw [if_pos (by omega)]
  refine (fSeq_nx ((fFor_of hr).trans hy)).trans ?_
  rfl
def AbcL (l : List Nat) : Prop := ∀ c ∈ l, c = 97 ∨ c = 98 ∨ c = 99
def Abc (x : Str) : Prop := AbcL x.cps.toList
structure RuleOK (l r : Str) : Prop where
  la : Abc l
  ra : Abc r
  l1 : 1 ≤ l.length
  l6 : l.length ≤ 6
  less : lessS r l = true
theorem RuleOK.rl {l r : Str} (h : RuleOK l r) : r.length ≤ l.length := by
  have := of_decide_eq_true h.less
  omega
inductive Lets : Str → Prop where
  | ab : Lets "ab"
  | abc : Lets "abc"
theorem Lets.abcS {le : Str} (h : Lets le) : Abc le := by
  cases h <;> (intro c hc; revert c; decide +kernel)
theorem Lets.len {le : Str} (h : Lets le) : 2 ≤ le.length ∧ le.length ≤ 3 := by
  cases h <;> decide +kernel
theorem pick_abc {le : Str} (h : Lets le) (n : Int) (k : Nat) : pick n le k = 97 ∨ pick n le k = 98 ∨ pick n le k = 99 := by
  have hl := h.len
  have hm : 0 ≤ drawn n k / 8 % (le.length : Int) ∧ drawn n k / 8 % (le.length : Int) < le.length := ⟨Int.emod_nonneg _ (by omega), Int.emod_lt_of_pos _ (by omega)⟩
  have h2 : (drawn n k / 8 % (le.length : Int)).toNat < le.cps.toList.length := by rw [slen]; omega
  unfold pick
  rw [List.getD_eq_getElem?_getD, List.getElem?_eq_getElem h2]
  exact h.abcS _ (List.getElem_mem h2)
theorem wordOf_len (n : Int) (le : Str) (m : Nat) : (wordOf n le m).length = m := by simp [wordOf, Str.length]
theorem wordOf_abc {le : Str} (h : Lets le) (n : Int) (m : Nat) : Abc (wordOf n le m) := by
  intro c hc
  have : c ∈ (List.range m).map (pick n le) := by simpa [wordOf] using hc
  obtain ⟨k, _, rfl⟩ := List.mem_map.mp this
  exact pick_abc h n k
theorem AbcL.app {a b : List Nat} (h : AbcL a) (h' : AbcL b) : AbcL (a ++ b) := fun c hc => (List.mem_append.mp hc).elim (h c) (h' c)
theorem Abc.app {a b : Str} (h : Abc a) (h' : Abc b) : Abc (a ++ b) := by unfold Abc; rw [app_cps]; exact AbcL.app h h'
theorem Abc.cut {a : Str} (h : Abc a) (lo hi : Option Int) : Abc (cutS a lo hi) := fun c hc => h c (by rw [cutS_cps] at hc; exact cut_mem hc)
theorem Abc.mul {a : Str} (h : Abc a) {j : Int} (h0 : 0 ≤ j) : Abc (Txt.mul a j) := fun c hc => h c (by rw [mul_cps h0] at hc; exact flat_mem hc)
theorem one_abc {c : Nat} (h : c = 97 ∨ c = 98 ∨ c = 99) : Abc ⟨#[c]⟩ := fun d hd => by
  have : d = c := by simpa using hd
  subst this; exact h
theorem less_of_short {x y : Str} (h : x.length < y.length) : lessS x y = true := decide_eq_true (.inl h)
theorem rule_eq {le : Str} (L : Lets le) (n : Int) : ∃ l r, phi_l_rule [.int n, .str le] = some (.tup [.str l, .str r]) ∧ RuleOK l r := by
  have hl := L.len
  have w1 := word_eq (n := 3 * (n / 4) + 1 + n % 3) (most := 2) (le := le) (by omega) (by omega) (by decide) (by decide)
  generalize hx : wordOf (3 * (n / 4) + 1 + n % 3) le ((3 * (n / 4) + 1 + n % 3) % (2 + 1)).toNat = x at w1
  have xa : Abc x := by rw [← hx]; exact wordOf_abc L _ _
  have xl : x.length ≤ 2 := by rw [← hx, wordOf_len]; omega
  have hm : 0 ≤ n / 12 % (le.length : Int) ∧ n / 12 % (le.length : Int) < le.length := ⟨Int.emod_nonneg _ (by omega), Int.emod_lt_of_pos _ (by omega)⟩
  have i1 := ix_str' hm.1 hm.2 (by omega)
  have ca : le.cps.toList.getD (n / 12 % (le.length : Int)).toNat 0 = 97 ∨ le.cps.toList.getD (n / 12 % (le.length : Int)).toNat 0 = 98 ∨ le.cps.toList.getD (n / 12 % (le.length : Int)).toNat 0 = 99 := by
    have h2 : (n / 12 % (le.length : Int)).toNat < le.cps.toList.length := by rw [slen]; omega
    rw [List.getD_eq_getElem?_getD, List.getElem?_eq_getElem h2]
    exact L.abcS _ (List.getElem_mem h2)
  generalize le.cps.toList.getD (n / 12 % (le.length : Int)).toNat 0 = c at i1 ca
  have hc1 : (⟨#[c]⟩ : Str).length = 1 := rfl
  have p1 := plus_str (x := x) (y := ⟨#[c]⟩) (by rw [hc1]; omega)
  have ya : Abc (x ++ ⟨#[c]⟩) := xa.app (one_abc ca)
  have yl : (x ++ (⟨#[c]⟩ : Str)).length = x.length + 1 := by rw [app_len, hc1]
  generalize x ++ (⟨#[c]⟩ : Str) = y at p1 ya yl
  have left : ∃ l, fIf (fTest (f2 oEq (f2 oMod (f2 oDiv (fVarB 0) (fC (.int 48))) (fC (.int 6))) (fC (.int 1)))) (fSet 2 (fSl (f2 oTimes (fVarB 2) (fC (.int 6))) fNoPart (fPart (f2 oPlus (fC (.int 4)) (f2 oMod (f2 oDiv (fVarB 0) (fC (.int 288))) (fC (.int 3))))))) fNext
      [some (Dv.th (.int n)), some (Dv.th (.str le)), some (Dv.th (.str y)), none] = some (.nx [some (Dv.th (.int n)), some (Dv.th (.str le)), some (Dv.th (.str l)), none]) ∧ Abc l ∧ 1 ≤ l.length ∧ l.length ≤ 6 := by
    by_cases h : n / 48 % 6 = 1
    · have t1 := times_str (x := y) (j := 6) (by decide) (by decide) (by show y.length * 6 ≤ _; omega)
      have ml : (Txt.mul y 6).length = 6 * y.length := by
        rw [← slen, mul_cps (by decide), flat_len, slen]; rfl
      have s1 := sl_str' (x := Txt.mul y 6) (lo := none) (hi := some (4 + n / 288 % 3)) (by omega)
      refine ⟨cutS (Txt.mul y 6) none (some (4 + n / 288 % 3)), ?_, (ya.mul (by decide)).cut _ _, ?_, ?_⟩
      · walk_at "ev"
        simp only [h, BEq.rfl, if_true, t1, Option.bind_some, s1]
        rfl
      · rw [cutS_len, cut_to _ (by omega), List.length_take, slen, ml]; omega
      · rw [cutS_len, cut_to _ (by omega), List.length_take]; omega
    · refine ⟨y, ?_, ya, by omega, by omega⟩
      walk_at "ev"
      have : (n / 48 % 6 == 1) = false := by simpa using h
      simp only [this, Bool.false_eq_true, if_false]
  obtain ⟨l, hleft, la, l1, l6⟩ := left
  have d1 := drawn_eq n 50
  have w2 := word_eq (n := drawn n 50) (most := l.length) (le := le) (by omega) (by omega) (by omega) (by omega)
  generalize hz : wordOf (drawn n 50) le (drawn n 50 % ((l.length : Int) + 1)).toNat = z at w2
  have za : Abc z := by rw [← hz]; exact wordOf_abc L _ _
  have zl : z.length ≤ l.length := by
    rw [← hz, wordOf_len]
    have := Int.emod_lt_of_pos (drawn n 50) (b := (l.length : Int) + 1) (by omega)
    omega
  have ls := less_eq z l (by omega) (by omega)
  have right : ∃ r, fIf (fNot (fTest (fCall phi_l_less (fCons (fVar 3) (fCons (fVar 2) fNil))))) (fSet 3 (fSl (fVarB 3) (fPart (fC (.int 1))) (fPart (fCB oLen (fCons (fVarB 2) fNil))))) fNext
      [some (Dv.th (.int n)), some (Dv.th (.str le)), some (Dv.th (.str l)), some (Dv.th (.str z))] = some (.nx [some (Dv.th (.int n)), some (Dv.th (.str le)), some (Dv.th (.str l)), some (Dv.th (.str r))]) ∧ Abc r ∧ lessS r l = true := by
    cases hs : lessS z l with
    | true =>
      rw [hs] at ls
      refine ⟨z, ?_, za, hs⟩
      walk_at "ev"
      simp only [ls]
      walk_at "ev"
    | false =>
      rw [hs] at ls
      have s1 := sl_str' (x := z) (lo := some 1) (hi := some (l.length : Int)) (by omega)
      refine ⟨cutS z (some 1) (some (l.length : Int)), ?_, za.cut _ _, ?_⟩
      · walk_at "ev"
        simp only [ls]
        walk_at "ev"
        simp only [s1]
        rfl
      · refine less_of_short ?_
        rw [cutS_len]
        have e1 : HT.sIx z.cps.toList.length 0 (some 1) = min 1 z.length := by rw [slen]; exact HT.sIx_nat _ _ 1
        have e2 : (cutL z.cps.toList (some 1) (some (l.length : Int))).length ≤ z.length - min 1 z.length := by
          unfold cutL
          rw [List.length_take, List.length_drop, e1, slen]
          exact Nat.min_le_right _ _
        have : 0 < z.length ∨ z.length = 0 := by omega
        rcases this with h | h
        · have : min 1 z.length = 1 := by omega
          omega
        · exfalso
          have : lessS z l = true := less_of_short (by omega)
          rw [this] at hs; cases hs
  obtain ⟨r, hright, ra, hless⟩ := right
  refine ⟨l, r, ?_, la, ra, l1, l6, hless⟩
  unfold phi_l_rule b_l_rule
  refine runD_rt rfl ?_
  refine (fSeq_nx (d' := [some (Dv.th (.int n)), some (Dv.th (.str le)), some (Dv.th (.str y)), none]) ?_).trans ?_
  · walk_at "ev"
    simp only [w1]
    walk_at "ev"
    simp only [i1]
    walk_at "ev"
    simp only [p1]
    rfl
  refine (fSeq_nx hleft).trans ?_
  refine (fSeq_nx (d' := [some (Dv.th (.int n)), some (Dv.th (.str le)), some (Dv.th (.str l)), some (Dv.th (.str z))]) ?_).trans ?_
  · walk_at "ev"
    simp only [d1]
    walk_at "ev"
    simp only [w2]
    rfl
  refine (fSeq_nx hright).trans ?_
  rfl
def PairOK (t : Th) : Prop := ∃ l r, t = .tup [.str l, .str r] ∧ RuleOK l r
def tame0 : List Th := [(.tup [(.str ("ba" : Str)), (.str ("ab" : Str))]), (.tup [(.str ("ca" : Str)), (.str ("ac" : Str))]), (.tup [(.str ("cb" : Str)), (.str ("bc" : Str))])]
theorem abc_dec {x : Str} (h : (x.cps.toList.all fun c => c == 97 || c == 98 || c == 99) = true) : Abc x := fun c hc => by
  have := List.all_eq_true.mp h c hc
  simp only [Bool.or_eq_true, beq_iff_eq] at this
  omega
theorem tame0_ok : ∀ t ∈ tame0, PairOK t := fun t ht => by
  simp only [tame0, List.mem_cons, List.not_mem_nil, or_false] at ht
  rcases ht with rfl | rfl | rfl
  · exact ⟨_, _, rfl, abc_dec (by decide +kernel), abc_dec (by decide +kernel), by decide +kernel, by decide +kernel, by decide +kernel⟩
  · exact ⟨_, _, rfl, abc_dec (by decide +kernel), abc_dec (by decide +kernel), by decide +kernel, by decide +kernel, by decide +kernel⟩
  · exact ⟨_, _, rfl, abc_dec (by decide +kernel), abc_dec (by decide +kernel), by decide +kernel, by decide +kernel, by decide +kernel⟩
theorem letter_rule {c : Nat} (hc : c = 97 ∨ c = 98 ∨ c = 99) {i j : Int} (hi : 2 ≤ i) (hi3 : i ≤ 3) (hj : 0 ≤ j) (hj1 : j ≤ 1) : RuleOK (Txt.mul ⟨#[c]⟩ i) (Txt.mul ⟨#[c]⟩ j) := by
  have ll : ∀ k : Int, 0 ≤ k → (Txt.mul (⟨#[c]⟩ : Str) k).length = k.toNat := fun k hk => by
    rw [← slen, mul_cps hk, flat_len]; simp
  refine ⟨(one_abc hc).mul (by omega), (one_abc hc).mul hj, ?_, ?_, less_of_short ?_⟩
  · rw [ll i (by omega)]; omega
  · rw [ll i (by omega)]; omega
  · rw [ll i (by omega), ll j hj]; omega
theorem tame_turn {n : Int} {le : Str} {ts : List Th} {x3 x4 x5 : Option Dv} {k : Nat} {c : Nat} (hc : c = 97 ∨ c = 98 ∨ c = 99) (hts : ∀ t ∈ ts, PairOK t) (hl : ts.length ≤ 100) :
    ∃ d1 ts' y5, gPair 3 4 (.tup [.int (k : Int), .str ⟨#[c]⟩]) [some (Dv.th (.int n)), some (Dv.th (.str le)), some (Dv.own ts), x3, x4, x5] = some d1 ∧
      (fSeq (fSet 5 (fCall phi_l_drawn (fCons (fVar 0) (fCons (fVar 3) fNil))))
  (fIf (fTest (f2 oGt (f2 oMod (fVarB 5) (fC (.int 3))) (fC (.int 0)))) (fAppend 2 (fTup (fCons (f2 oTimes (fVarB 4) (f2 oPlus (fC (.int 2)) (f2 oMod (f2 oDiv (fVarB 5) (fC (.int 3))) (fC (.int 2))))) (fCons (f2 oTimes (fVarB 4) (f2 oMod (f2 oDiv (fVarB 5) (fC (.int 6))) (fC (.int 2)))) fNil)))) fNext)) d1
        = some (.nx [some (Dv.th (.int n)), some (Dv.th (.str le)), some (Dv.own ts'), some (Dv.th (.int (k : Int))), some (Dv.th (.str ⟨#[c]⟩)), y5]) ∧ (∀ t ∈ ts', PairOK t) ∧ ts'.length ≤ ts.length + 1 := by
  have e1 := drawn_eq n k
  have hc1 : (⟨#[c]⟩ : Str).length = 1 := rfl
  refine ⟨[some (Dv.th (.int n)), some (Dv.th (.str le)), some (Dv.own ts), some (Dv.th (.int (k : Int))), some (Dv.th (.str ⟨#[c]⟩)), x5], ?_⟩
  have h0 : fSet 5 (fCall phi_l_drawn (fCons (fVar 0) (fCons (fVar 3) fNil))) [some (Dv.th (.int n)), some (Dv.th (.str le)), some (Dv.own ts), some (Dv.th (.int (k : Int))), some (Dv.th (.str ⟨#[c]⟩)), x5] = some (.nx [some (Dv.th (.int n)), some (Dv.th (.str le)), some (Dv.own ts), some (Dv.th (.int (k : Int))), some (Dv.th (.str ⟨#[c]⟩)), some (Dv.th (.int (drawn n k)))]) := by
    walk_at "ev"
    simp only [e1]
    rfl
  by_cases h : 0 < drawn n k % 3
  · have t1 := times_str (x := (⟨#[c]⟩ : Str)) (j := 2 + drawn n k / 3 % 2) (by omega) (by omega) (by rw [hc1]; omega)
    have t2 := times_str (x := (⟨#[c]⟩ : Str)) (j := drawn n k / 6 % 2) (by omega) (by omega) (by rw [hc1]; omega)
    refine ⟨ts ++ [.tup [.str (Txt.mul ⟨#[c]⟩ (2 + drawn n k / 3 % 2)), .str (Txt.mul ⟨#[c]⟩ (drawn n k / 6 % 2))]], some (Dv.th (.int (drawn n k))), rfl, (fSeq_nx h0).trans ?_, fun t ht => ?_, by simp⟩
    rotate_left
    · rcases List.mem_append.mp ht with z | z
      · exact hts t z
      · have := List.mem_singleton.mp z
        subst this
        exact ⟨_, _, rfl, letter_rule hc (by omega) (by omega) (by omega) (by omega)⟩
    · walk_at "ev"
      simp only [decide_eq_true h, if_true, fAppend, List.getElem?_cons_zero, List.getElem?_cons_succ]
      walk_at "ev"
      simp only [t1, t2, Option.bind_some]
      walk_at "ev"
      rw [if_pos (by omega)]
  · refine ⟨ts, some (Dv.th (.int (drawn n k))), rfl, (fSeq_nx h0).trans ?_, hts, by omega⟩
    walk_at "ev"
    simp only [decide_eq_false h, if_false, Bool.false_eq_true]
theorem tame_eq {le : Str} (L : Lets le) (n : Int) : ∃ ts, phi_l_tame [.int n, .str le] = some (.lst ts) ∧ (∀ t ∈ ts, PairOK t) ∧ ts.length ≤ 6 := by
  have hl := L.len
  have first : ∃ ts, fOwn 2 (fSlF (fC (.lst tame0)) fNoPart (fPart (f2 oSub (f2 oTimes (fC (.int 2)) (fCB oLen (fCons (fVarB 1) fNil))) (fC (.int 3))))) [some (Dv.th (.int n)), some (Dv.th (.str le)), none, none, none, none]
      = some (.nx [some (Dv.th (.int n)), some (Dv.th (.str le)), some (Dv.own ts), none, none, none]) ∧ (∀ t ∈ ts, PairOK t) ∧ ts.length ≤ 3 := by
    refine ⟨cutL tame0 none (some (2 * (le.length : Int) - 3)), ?_, fun t ht => tame0_ok t (cut_mem ht), cutL_le _ _ _⟩
    unfold fOwn fSlF
    walk_at "ev"
    simp only [sl_lst]
    rfl
  obtain ⟨ts1, f1, p1, l1⟩ := first
  have second : ∃ ts, fIf (fTest (f2 oEq (f2 oMod (fVarB 0) (fC (.int 2))) (fC (.int 1)))) (fOwn 2 (fSlF (fVarB 2) fNoPart (fPart (f2 oMod (f2 oDiv (fVarB 0) (fC (.int 2))) (fC (.int 2)))))) fNext [some (Dv.th (.int n)), some (Dv.th (.str le)), some (Dv.own ts1), none, none, none]
      = some (.nx [some (Dv.th (.int n)), some (Dv.th (.str le)), some (Dv.own ts), none, none, none]) ∧ (∀ t ∈ ts, PairOK t) ∧ ts.length ≤ 3 := by
    by_cases h : n % 2 = 1
    · refine ⟨cutL ts1 none (some (n / 2 % 2)), ?_, fun t ht => p1 t (cut_mem ht), Nat.le_trans (cutL_le _ _ _) l1⟩
      walk_at "ev"
      simp only [h, BEq.rfl, if_true, fOwn, fSlF]
      walk_at "ev"
      simp only [sl_lst]
      rfl
    · refine ⟨ts1, ?_, p1, l1⟩
      walk_at "ev"
      have : (n % 2 == 1) = false := by simpa using h
      simp only [this, Bool.false_eq_true, if_false]
  obtain ⟨ts2, f2', p2, l2⟩ := second
  have third := forL_inv (g := gPair 3 4) (F := (fSeq (fSet 5 (fCall phi_l_drawn (fCons (fVar 0) (fCons (fVar 3) fNil))))
  (fIf (fTest (f2 oGt (f2 oMod (fVarB 5) (fC (.int 3))) (fC (.int 0)))) (fAppend 2 (fTup (fCons (f2 oTimes (fVarB 4) (f2 oPlus (fC (.int 2)) (f2 oMod (f2 oDiv (fVarB 5) (fC (.int 3))) (fC (.int 2))))) (fCons (f2 oTimes (fVarB 4) (f2 oMod (f2 oDiv (fVarB 5) (fC (.int 6))) (fC (.int 2)))) fNil)))) fNext)))
    (fun rest d => ∃ ts x3 x4 x5, d = [some (Dv.th (.int n)), some (Dv.th (.str le)), some (Dv.own ts), x3, x4, x5] ∧ (∀ t ∈ ts, PairOK t) ∧ ts.length + rest.length ≤ 6 ∧ ∀ t ∈ rest, ∃ (k c : Nat), t = .tup [.int (k : Int), .str ⟨#[c]⟩] ∧ (c = 97 ∨ c = 98 ∨ c = 99))
    (fun t r d ⟨ts, x3, x4, x5, hd, hp, hz, hr⟩ => by
      subst hd
      obtain ⟨k, c, rfl, hc⟩ := hr t List.mem_cons_self
      simp only [List.length_cons] at hz
      obtain ⟨d1, ts', y5, g1, g2, g3, g4⟩ := tame_turn (n := n) (le := le) (x3 := x3) (x4 := x4) (x5 := x5) (k := k) hc hp (by omega)
      exact ⟨d1, _, g1, g2, ts', _, _, _, rfl, g3, by omega, fun t ht => hr t (List.mem_cons_of_mem _ ht)⟩)
    (numbered 0 (signs le)) [some (Dv.th (.int n)), some (Dv.th (.str le)), some (Dv.own ts2), none, none, none]
    ⟨ts2, none, none, none, rfl, p2, by rw [numbered_length, signs_len]; omega, fun t ht => by
      obtain ⟨j, y, rfl, hy⟩ := numbered_mem ht
      unfold signs at hy
      obtain ⟨c, hc, rfl⟩ := List.mem_map.mp hy
      exact ⟨j, c, rfl, L.abcS c hc⟩⟩
  obtain ⟨d', e3, ts3, x3, x4, x5, rfl, p3, l3, _⟩ := third
  refine ⟨ts3, ?_, p3, by simpa using l3⟩
  unfold phi_l_tame b_l_tame
  refine runD_rt rfl ?_
  refine (fSeq_nx f1).trans ((fSeq_nx f2').trans ((fSeq_nx ((fFor_of rfl).trans e3)).trans rfl))
theorem lets_of (i : Int) (h0 : 0 ≤ i) (h1 : i < 2) : ∃ le, oIx (.tup [(.str ("ab" : Str)), (.str ("abc" : Str))]) (.int i) = some (.str le) ∧ Lets le := by
  have : i = 0 ∨ i = 1 := by omega
  rcases this with rfl | rfl
  · exact ⟨_, rfl, .ab⟩
  · exact ⟨_, rfl, .abc⟩
theorem rules_eq (n : Int) : ∃ ts, phi_l_rules [.int n] = some (.tup ts) ∧ (∀ t ∈ ts, PairOK t) ∧ ts.length ≤ 7 := by
  obtain ⟨le, hle, L⟩ := lets_of (n / 4 % 2) (by omega) (by omega)
  obtain ⟨ts1, e1, p1, l1⟩ := tame_eq L (n / 8)
  have third : ∃ ts, (fIf (fTest (f2 oGt (f2 oMod (fVarB 0) (fC (.int 4))) (fC (.int 1)))) (fSet 2 (fLst (fComp g1 (fRange1 (f2 oMod (f2 oDiv (fVarB 0) (fC (.int 8))) (fC (.int 5)))) fTrue (fCall phi_l_rule (fCons (fCall phi_l_drawn (fCons (fVar 1) (fCons (f2 oPlus (fC (.int 9)) (fVarB 0)) fNil))) (fCons (fVar 2) fNil)))))) (fIf (fTest (f2 oEq (f2 oMod (fVarB 0) (fC (.int 4))) (fC (.int 1)))) (fSet 2 (f2 oPlus (fVarB 2) (fLst (fList (fCons (fCall phi_l_rule (fCons (fCall phi_l_drawn (fCons (fVar 0) (fCons (fC (.int 9)) fNil))) (fCons (fVar 1) fNil))) fNil))))) fNext))
      [some (Dv.th (.int n)), some (Dv.th (.str le)), some (Dv.th (.lst ts1)), none] = some (.nx [some (Dv.th (.int n)), some (Dv.th (.str le)), some (Dv.th (.lst ts)), none]) ∧ (∀ t ∈ ts, PairOK t) ∧ ts.length ≤ 7 := by
    by_cases h : 1 < n % 4
    · obtain ⟨ys, ey, py, ly⟩ := fComp_ex (fi := fRange1 (f2 oMod (f2 oDiv (fVarB 0) (fC (.int 8))) (fC (.int 5)))) (fe := fCall phi_l_rule (fCons (fCall phi_l_drawn (fCons (fVar 1) (fCons (f2 oPlus (fC (.int 9)) (fVarB 0)) fNil))) (fCons (fVar 2) fNil))) (d := [some (Dv.th (.int n)), some (Dv.th (.str le)), some (Dv.th (.lst ts1)), none]) (ts := L2.upTo (n / 8 % 5).toNat) (P := PairOK)
        (by unfold fRange1; walk_at "ev"; rw [if_pos (by omega)]) (by simp [L2.upTo]; omega) (fun t ht => by
          obtain ⟨k, _, rfl⟩ := List.mem_map.mp (show t ∈ (List.range (n / 8 % 5).toNat).map fun (k : Nat) => Th.int ((k : Nat) : Int) from ht)
          have d1 := drawn_eq n (9 + k)
          obtain ⟨l, r, e, ok⟩ := rule_eq L (drawn n (9 + k))
          refine ⟨.tup [.str l, .str r], ?_, l, r, rfl, ok⟩
          walk_at "ev"
          simp only [d1]
          walk_at "ev"
          simp only [e])
      refine ⟨ys, ?_, py, by rw [ly]; simp [L2.upTo]; omega⟩
      walk_at "ev"
      simp only [decide_eq_true h, if_true, ey]
      rfl
    · by_cases h1 : n % 4 = 1
      · have d1 := drawn_eq n 9
        obtain ⟨l, r, e, ok⟩ := rule_eq L (drawn n 9)
        have p := plus_lst (x := ts1) (y := [.tup [.str l, .str r]]) (by simp; omega)
        refine ⟨ts1 ++ [.tup [.str l, .str r]], ?_, fun t ht => ?_, by simp; omega⟩
        · walk_at "ev"
          simp only [decide_eq_false h, if_false, Bool.false_eq_true, h1, BEq.rfl, if_true]
          try walk_at "ev"
          simp only [d1]
          walk_at "ev"
          simp only [e]
          walk_at "ev"
          simp only [p]
          rfl
        · rcases List.mem_append.mp ht with z | z
          · exact p1 t z
          · have := List.mem_singleton.mp z
            subst this
            exact ⟨l, r, rfl, ok⟩
      · refine ⟨ts1, ?_, p1, by omega⟩
        walk_at "ev"
        have : (n % 4 == 1) = false := by simpa using h1
        simp only [decide_eq_false h, if_false, Bool.false_eq_true, this]
  obtain ⟨ts, e3, p3, l3⟩ := third
  have lA := cutL_le ts (some (n / 640 % 5)) none
  have lB := cutL_le ts none (some (n / 640 % 5))
  have hcut : (cutL ts (some (n / 640 % 5)) none ++ cutL ts none (some (n / 640 % 5))).length ≤ 7 := by
    rw [cut_from _ (by omega), cut_to _ (by omega), List.length_append, List.length_drop, List.length_take]; omega
  refine ⟨cutL ts (some (n / 640 % 5)) none ++ cutL ts none (some (n / 640 % 5)), ?_, fun t ht => (List.mem_append.mp ht).elim (fun z => p3 t (cut_mem z)) fun z => p3 t (cut_mem z), hcut⟩
  have p := plus_lst (x := cutL ts (some (n / 640 % 5)) none) (y := cutL ts none (some (n / 640 % 5))) (by omega)
  unfold phi_l_rules b_l_rules
  refine runD_rt rfl ?_
  refine (fSeq_nx (d' := [some (Dv.th (.int n)), some (Dv.th (.str le)), none, none]) ?_).trans ?_
  · walk_at "ev"
    simp only [hle]
    rfl
  refine (fSeq_nx (d' := [some (Dv.th (.int n)), some (Dv.th (.str le)), some (Dv.th (.lst ts1)), none]) ?_).trans ?_
  · walk_at "ev"
    simp only [e1]
    rfl
  refine (fSeq_nx e3).trans ?_
  refine (fSeq_nx (d' := [some (Dv.th (.int n)), some (Dv.th (.str le)), some (Dv.th (.lst ts)), some (Dv.th (.int (n / 640 % 5)))]) ?_).trans ?_
  · walk_at "ev"
  walk_at "ev"
  simp only [sl_lst, Option.bind_some, p]
  rfl
theorem join_eq (sep : Str) (l : List Str) : Txt.join sep l = Str.join sep l := eq_of_beq (PyProof.Rows.join_plain_closes sep l)
def sepW : Str := " ; "
def toW : Str := " to "
def rW (r : Str) : Str := if (r == ("" : Str)) = true then "-" else r
def wr (l r : Str) : Str := l ++ toW ++ rW r
theorem written_right_eq (r : Str) : phi_written_right [.str r] = some (.str (rW r)) := by
  unfold phi_written_right b_written_right c_EMPTY_WORD_MARK rW
  cases h : (r == ("" : Str)) with
  | true => walk_at "ev"; simp [h]
  | false => walk_at "ev"; simp [h]
theorem rW_len (r : Str) : (rW r).length ≤ r.length + 1 := by
  unfold rW
  split
  · have : ("-" : Str).length = 1 := by decide +kernel
    omega
  · omega
theorem to_cps : (" " : Str).cps.toList ++ (("to" : Str).cps.toList ++ (" " : Str).cps.toList) = toW.cps.toList := by decide +kernel
theorem written_rule_eq {l r : Str} (hl : l.length ≤ 100) (hr : r.length ≤ 100) : phi_written_rule [.tup [.str l, .str r]] = some (.str (wr l r)) := by
  have h0 : oIx (.tup [.str l, .str r]) (.int 0) = some (.str l) := rfl
  have h1 : oIx (.tup [.str l, .str r]) (.int 1) = some (.str r) := rfl
  have h2 := written_right_eq r
  have h3 := rW_len r
  have h4 : (" " : Str).length = 1 := by decide +kernel
  have h5 : ("to" : Str).length = 2 := by decide +kernel
  have hj : oJoin (.str (" " : Str)) (.lst [.str l, .str ("to" : Str), .str (rW r)]) = some (.str (wr l r)) := by
    show ((some [l, ("to" : Str), rW r]).bind fun ys => if (ys.map (·.length)).sum + ys.length * (" " : Str).length ≤ 16777216 then some (Txt.join (" " : Str) ys) else none).map Th.str = _
    rw [Option.bind_some, if_pos (by simp only [List.map_cons, List.map_nil, List.sum_cons, List.sum_nil, List.length_cons, List.length_nil, h4, h5]; omega), join_eq]
    show some (Th.str (l ++ " " ++ (("to" : Str) ++ " " ++ rW r))) = _
    congr 2
    apply str_ext
    unfold wr
    simp only [app_cps, ← to_cps, List.append_assoc]
  unfold phi_written_rule b_written_rule c_BETWEEN_PARTS c_MIDDLE_PART
  walk_at "ev"
  simp only [h0, h1, h2, Option.bind_some, Option.map_some]
  try walk_at "ev"
  simp only [hj]
  rfl
def wT : Th → Th
  | .tup [.str l, .str r] => .str (wr l r)
  | _ => .non
def wS : Th → Str
  | .tup [.str l, .str r] => wr l r
  | _ => ""
def aRule (t : Th) : Prop := ∃ l r, t = .tup [.str l, .str r] ∧ l.length ≤ 12 ∧ r.length ≤ 12
theorem rule_is {t : Th} (h : isRuleB t = true) : aRule t := by
  unfold isRuleB at h
  split at h
  · rename_i l r
    simp only [Bool.and_eq_true] at h
    exact ⟨l, r, rfl, word_short h.1.1, word_short h.1.2⟩
  · cases h
theorem strs_w : ∀ {ts : List Th}, (∀ t ∈ ts, aRule t) → strsOf (ts.map wT) = some (ts.map wS)
  | [], _ => rfl
  | t :: r, h => by
    obtain ⟨a, b, rfl, _⟩ := h _ (List.mem_cons_self)
    have ih := strs_w (ts := r) fun t ht => h t (List.mem_cons_of_mem _ ht)
    show (strsOf (r.map wT)).map _ = _
    rw [ih]; rfl
theorem wS_len {t : Th} (h : aRule t) : (wS t).length ≤ 40 := by
  obtain ⟨a, b, rfl, h1, h2⟩ := h
  show (wr a b).length ≤ 40
  have := rW_len b
  have h4 : toW.length = 4 := by decide +kernel
  unfold wr
  rw [app_len, app_len]
  omega
theorem sum_le : ∀ {ts : List Th}, (∀ t ∈ ts, aRule t) → ((ts.map wS).map (·.length)).sum ≤ 40 * ts.length
  | [], _ => by simp
  | t :: r, h => by
    have ih := sum_le (ts := r) fun t ht => h t (List.mem_cons_of_mem _ ht)
    have := wS_len (h t List.mem_cons_self)
    simp only [List.map_cons, List.sum_cons, List.length_cons]
    omega
def textOf (ts : List Th) : Str := if ts = [] then "none" else Str.join sepW (ts.map wS)
theorem sep3 : sepW.length = 3 := by decide +kernel
theorem written_eq {ts : List Th} (g : good (.tup ts) = true) (h : rulesB (.tup ts) = true) : phi_written [.tup ts] = some (.str (textOf ts)) := by
  have a := are_rules_eq (.tup ts) g
  rw [h] at a
  simp only [rulesB, Bool.and_eq_true, decide_eq_true_eq, List.all_eq_true] at h
  have hr : ∀ t ∈ ts, aRule t := fun t ht => rule_is (h.2 t ht)
  unfold phi_written b_written c_NO_RULES_MARK c_BETWEEN_RULES
  refine runD_rt rfl ?_
  have h0 : fIf (fNot (fTest (fCall phi_are_rules (fCons (fVar 0) fNil)))) (fRaise "NoRules" (fCons (fC (.str ("only rules can be written" : Str))) fNil)) fNext [some (Dv.th (.tup ts))] = some (.nx [some (Dv.th (.tup ts))]) := by
    walk_at "ev"
    simp only [a]
    try walk_at "ev"
  refine (fSeq_nx h0).trans ?_
  by_cases he : ts = []
  · subst he
    refine (fSeq_rt (T := .str ("none" : Str)) ?_).trans ?_
    · walk_at "ev"
      simp
    · rfl
  · have hl : ts.length ≠ 0 := fun z => he (List.length_eq_zero_iff.mp z)
    refine (fSeq_nx (d' := [some (Dv.th (.tup ts))]) ?_).trans ?_
    · walk_at "ev"
      have : ((ts.length : Int) == 0) = false := by simpa using he
      simp [this, he]
    · have hc : fComp g1 (fItems (fVar 0)) fTrue (fCall phi_written_rule (fCons (fVar 0) fNil)) [some (Dv.th (.tup ts))] = some (ts.map wT) :=
        fComp_map rfl (by omega) fun t ht => by
          obtain ⟨l, r, rfl, h1, h2⟩ := hr t ht
          show phi_written_rule [.tup [.str l, .str r]] = _
          exact written_rule_eq (by omega) (by omega)
      have hj : oJoin (.str sepW) (.lst (ts.map wT)) = some (.str (textOf ts)) := by
        show (joinD sepW (ts.map wT)).map Th.str = _
        unfold joinD
        have := sum_le hr
        rw [strs_w hr, Option.bind_some, if_pos (by rw [List.length_map, sep3]; omega), join_eq]
        show some (Th.str _) = _
        unfold textOf
        rw [if_neg he]
      show fRet _ _ = _
      unfold fRet f2 fLst fC
      rw [hc]
      show (oJoin (.str sepW) (.lst (ts.map wT))).map Out.rt = _
      rw [hj]
      rfl
def lw (acc : Str) (l r : Str) : Str := acc ++ sepW ++ l ++ toW ++ rW r
theorem lw_cps (acc l r : Str) : (lw acc l r).cps.toList = acc.cps.toList ++ (sepW.cps.toList ++ (wr l r).cps.toList) := by
  unfold lw wr
  simp only [app_cps, List.append_assoc]
theorem pick_right (r : Str) (hr : r.length ≤ 1000) : (f2 oIx (fLst (fList (fCons (fC (.str r)) (fCons (fC (.str ("-" : Str))) fNil)))) (fCB oInt (fCons (f2 oEq (fC (.str r)) (fC (.str ("" : Str)))) fNil))) [] = some (.str (rW r)) := by
  unfold rW
  cases h : (r == ("" : Str)) with
  | true => walk_at "ev"; rw [h]; rfl
  | false => walk_at "ev"; rw [h]; rfl
theorem l_turnW {acc l r : Str} {T0 : Th} {x2 x3 : Option Dv} (ha : acc.length ≤ 10000) (hl : l.length ≤ 12) (hr : r.length ≤ 12) :
    (fSet 1 (f2 oPlus (f2 oPlus (f2 oPlus (f2 oPlus (fVarB 1) (fC (.str (" ; " : Str)))) (fVarB 2)) (fC (.str (" to " : Str)))) (f2 oIx (fLst (fList (fCons (fVar 3) (fCons (fC (.str ("-" : Str))) fNil)))) (fCB oInt (fCons (f2 oEq (fVarB 3) (fC (.str ("" : Str)))) fNil)))))
      [some (Dv.th T0), some (Dv.th (.str acc)), some (Dv.th (.str l)), some (Dv.th (.str r))] = some (.nx [some (Dv.th T0), some (Dv.th (.str (lw acc l r))), some (Dv.th (.str l)), some (Dv.th (.str r))]) := by
  have s3 : (" ; " : Str).length = 3 := sep3
  have s4 : (" to " : Str).length = 4 := by decide +kernel
  have rl := rW_len r
  have p1 := plus_str (x := acc) (y := (" ; " : Str)) (by omega)
  have e1 : (acc ++ (" ; " : Str)).length = acc.length + 3 := by rw [app_len, s3]
  have p2 := plus_str (x := acc ++ (" ; " : Str)) (y := l) (by omega)
  have e2 : (acc ++ (" ; " : Str) ++ l).length = acc.length + 3 + l.length := by rw [app_len, e1]
  have p3 := plus_str (x := acc ++ (" ; " : Str) ++ l) (y := (" to " : Str)) (by omega)
  have e3 : (acc ++ (" ; " : Str) ++ l ++ (" to " : Str)).length = acc.length + 3 + l.length + 4 := by rw [app_len, e2, s4]
  have p4 := plus_str (x := acc ++ (" ; " : Str) ++ l ++ (" to " : Str)) (y := rW r) (by omega)
  have p5 := pick_right r (by omega)
  have p6 : (f2 oIx (fLst (fList (fCons (fVar 3) (fCons (fC (.str ("-" : Str))) fNil)))) (fCB oInt (fCons (f2 oEq (fVarB 3) (fC (.str ("" : Str)))) fNil))) [some (Dv.th T0), some (Dv.th (.str acc)), some (Dv.th (.str l)), some (Dv.th (.str r))] = some (.str (rW r)) := p5
  generalize hF : (f2 oIx (fLst (fList (fCons (fVar 3) (fCons (fC (.str ("-" : Str))) fNil)))) (fCB oInt (fCons (f2 oEq (fVarB 3) (fC (.str ("" : Str)))) fNil))) = F at p6 ⊢
  walk_at "ev"
  simp only [p1, p2, p3, p6, Option.bind_some, p4, Option.map_some]
  rfl
theorem l_loopW {F : FS} {T0 : Th} (hF : ∀ (acc l r : Str), acc.length ≤ 10000 → l.length ≤ 12 → r.length ≤ 12 → F [some (Dv.th T0), some (Dv.th (.str acc)), some (Dv.th (.str l)), some (Dv.th (.str r))] = some (.nx [some (Dv.th T0), some (Dv.th (.str (lw acc l r))), some (Dv.th (.str l)), some (Dv.th (.str r))])) :
    ∀ (ts : List Th) (acc : Str) (x2 x3 : Option Dv), (∀ t ∈ ts, aRule t) → acc.length + 60 * ts.length ≤ 10000 →
    ∃ y2 y3 acc', forL (gPair 2 3) F ts [some (Dv.th T0), some (Dv.th (.str acc)), x2, x3] = some (.nx [some (Dv.th T0), some (Dv.th (.str acc')), y2, y3]) ∧ acc'.cps.toList = acc.cps.toList ++ (ts.map fun t => sepW.cps.toList ++ (wS t).cps.toList).flatten ∧ acc'.length ≤ 10000
  | [], acc, x2, x3, _, hl => ⟨x2, x3, acc, rfl, by simp, by simp at hl; omega⟩
  | t :: rest, acc, x2, x3, h, hl => by
    obtain ⟨l, r, rfl, h1, h2⟩ := h t List.mem_cons_self
    simp only [List.length_cons] at hl
    have el : (lw acc l r).length ≤ acc.length + 60 := by
      have := rW_len r
      have h4 : toW.length = 4 := by decide +kernel
      have h3 := sep3
      unfold lw
      rw [app_len, app_len, app_len, app_len]
      omega
    obtain ⟨y2, y3, acc', e, ec, lc⟩ := l_loopW hF rest (lw acc l r) (some (Dv.th (.str l))) (some (Dv.th (.str r))) (fun t ht => h t (List.mem_cons_of_mem _ ht)) (by omega)
    refine ⟨y2, y3, acc', ?_, ?_, lc⟩
    · have e0 : forL (gPair 2 3) F (.tup [.str l, .str r] :: rest) [some (Dv.th T0), some (Dv.th (.str acc)), x2, x3] = (F [some (Dv.th T0), some (Dv.th (.str acc)), some (Dv.th (.str l)), some (Dv.th (.str r))]).bind fun o => match o with | .nx d' => forL (gPair 2 3) F rest d' | .ct d' => forL (gPair 2 3) F rest d' | .bk d' => some (.nx d') | .rt T => some (.rt T) | .xc c => some (.xc c) := rfl
      rw [e0, hF acc l r (by omega) h1 h2]
      exact e
    · rw [ec, lw_cps]
      show _ = acc.cps.toList ++ ((sepW.cps.toList ++ (wr l r).cps.toList) ++ _)
      simp only [List.append_assoc]
theorem join_cps : ∀ (y : Str) (r : List Str), (Str.join sepW (y :: r)).cps.toList = y.cps.toList ++ (r.map fun z => sepW.cps.toList ++ z.cps.toList).flatten
  | y, [] => by
    show y.cps.toList = _
    simp
  | y, z :: r => by
    show (y ++ sepW ++ Str.join sepW (z :: r)).cps.toList = _
    rw [app_cps, app_cps, join_cps z r]
    simp
theorem dp_rules : ∀ us : List Th, (∀ u ∈ us, aRule u) → dpL us ≤ 1
  | [], _ => by simp [dpL]
  | u :: us, hu => by
    obtain ⟨a, b, rfl, _⟩ := hu u List.mem_cons_self
    have := dp_rules us fun v hv => hu v (List.mem_cons_of_mem _ hv)
    simp [dpL, dp] at this ⊢
    omega
theorem l_written_gen {ts : List Th} (hts : ts.length ≤ 100) (hr : ∀ t ∈ ts, aRule t) : phi_l_written [.tup ts] = some (.str (textOf ts)) := by
  unfold phi_l_written b_l_written
  refine runD_rt rfl ?_
  cases ts with
  | nil => rfl
  | cons t rest =>
    have hd : dpL (t :: rest) ≤ 1 := dp_rules _ hr
    have hq : oEq (.tup (t :: rest)) (.tup []) = some (.bl false) := by
      unfold oEq
      rw [if_pos (decide_eq_true (by unfold dp; omega))]
      rfl
    generalize hT : Th.tup (t :: rest) = T0
    have h1 : fIf (fTest (f2 oEq (fVarB 0) (fC (.tup [])))) (fRet (fC (.str ("none" : Str)))) fNext [some (Dv.th T0), none, none, none] = some (.nx [some (Dv.th T0), none, none, none]) := by
      rw [← hT]
      walk_at "ev"
      simp only [hq, Option.bind_some]
      try walk_at "ev"
    refine (fSeq_nx h1).trans ?_
    refine (fSeq_nx (d' := [some (Dv.th T0), some (Dv.th (.str ("" : Str))), none, none]) rfl).trans ?_
    obtain ⟨y2, y3, acc', e, ec, el⟩ := l_loopW (T0 := T0) (fun acc l r h1 h2 h3 => l_turnW (x2 := none) (x3 := none) h1 h2 h3) (t :: rest) ("" : Str) none none hr (by
      have : ("" : Str).length = 0 := by decide +kernel
      omega)
    have hi : fSeqI (fVar 0) [some (Dv.th T0), some (Dv.th (.str ("" : Str))), none, none] = some (t :: rest) := by rw [← hT]; rfl
    refine (fSeq_nx ((fFor_of hi).trans e)).trans ?_
    have hs := sl_str' (x := acc') (lo := some 3) (hi := none) (by omega)
    have hx : cutS acc' (some 3) none = textOf (t :: rest) := by
      apply str_ext
      rw [cutS_cps, cut_from _ (by decide), ec]
      unfold textOf
      rw [if_neg (by simp)]
      show _ = (Str.join sepW (wS t :: rest.map wS)).cps.toList
      rw [join_cps]
      have h0 : ("" : Str).cps.toList = [] := by decide +kernel
      have h3 : sepW.cps.toList.length = 3 := by decide +kernel
      rw [h0, List.nil_append, List.map_cons, List.flatten_cons, List.append_assoc]
      show List.drop 3 _ = _
      rw [show (3 : Nat) = sepW.cps.toList.length from h3.symm, List.drop_left]
      rw [List.map_map]
      rfl
    rw [hx] at hs
    show (oSl (.str acc') (some 3) none).map Out.rt = _
    rw [hs]
    rfl
theorem l_written_eq {ts : List Th} (h : rulesB (.tup ts) = true) : phi_l_written [.tup ts] = some (.str (textOf ts)) := by
  simp only [rulesB, Bool.and_eq_true, decide_eq_true_eq, List.all_eq_true] at h
  exact l_written_gen (by omega) fun t ht => rule_is (h.2 t ht)
def jn (sep : List Nat) : List (List Nat) → List Nat
  | [] => []
  | [x] => x
  | x :: y :: r => x ++ sep ++ jn sep (y :: r)
theorem join_jn (sep : Str) : ∀ ys : List Str, (Str.join sep ys).cps.toList = jn sep.cps.toList (ys.map (·.cps.toList))
  | [] => by
    show (Str.empty).cps.toList = []
    decide +kernel
  | [y] => rfl
  | y :: z :: r => by
    show (y ++ sep ++ Str.join sep (z :: r)).cps.toList = _
    rw [app_cps, app_cps, join_jn sep (z :: r)]
    rfl
theorem cut_first {c : Nat} : ∀ {u v p q : List Nat}, c ∉ u → c ∉ v → u ++ c :: p = v ++ c :: q → u = v ∧ p = q
  | [], [], p, q, _, _, h => by simpa using h
  | [], d :: v, p, q, _, hv, h => by
    simp only [List.nil_append, List.cons_append, List.cons.injEq] at h
    exact absurd (List.mem_cons.mpr (.inl h.1)) hv
  | d :: u, [], p, q, hu, _, h => by
    simp only [List.nil_append, List.cons_append, List.cons.injEq] at h
    exact absurd (List.mem_cons.mpr (.inl h.1.symm)) hu
  | d :: u, e :: v, p, q, hu, hv, h => by
    simp only [List.cons_append, List.cons.injEq] at h
    obtain ⟨h1, h2⟩ := cut_first (fun z => hu (List.mem_cons_of_mem _ z)) (fun z => hv (List.mem_cons_of_mem _ z)) h.2
    exact ⟨by rw [h.1, h1], h2⟩
theorem jn_inj {a b : List Nat} {c : Nat} (ha : c ∉ a) : ∀ (xs ys : List (List Nat)), xs ≠ [] → ys ≠ [] → (∀ x ∈ xs, c ∉ x) → (∀ y ∈ ys, c ∉ y) → jn (a ++ c :: b) xs = jn (a ++ c :: b) ys → xs = ys
  | [], _, h, _, _, _, _ => absurd rfl h
  | _ :: _, [], _, h, _, _, _ => absurd rfl h
  | [x], [y], _, _, _, _, e => by
    have : x = y := e
    rw [this]
  | [x], y :: y2 :: r, _, _, hx, _, e => by
    have e : x = y ++ (a ++ c :: b) ++ jn (a ++ c :: b) (y2 :: r) := e
    refine absurd ?_ (hx x List.mem_cons_self)
    rw [e]; simp
  | x :: x2 :: r, [y], _, _, _, hy, e => by
    have e : x ++ (a ++ c :: b) ++ jn (a ++ c :: b) (x2 :: r) = y := e
    refine absurd ?_ (hy y List.mem_cons_self)
    rw [← e]; simp
  | x :: x2 :: r, y :: y2 :: q, _, _, hx, hy, e => by
    have e : x ++ (a ++ c :: b) ++ jn (a ++ c :: b) (x2 :: r) = y ++ (a ++ c :: b) ++ jn (a ++ c :: b) (y2 :: q) := e
    have e' : (x ++ a) ++ c :: (b ++ jn (a ++ c :: b) (x2 :: r)) = (y ++ a) ++ c :: (b ++ jn (a ++ c :: b) (y2 :: q)) := by simpa using e
    have hxa : c ∉ x ++ a := fun z => (List.mem_append.mp z).elim (hx x List.mem_cons_self) ha
    have hya : c ∉ y ++ a := fun z => (List.mem_append.mp z).elim (hy y List.mem_cons_self) ha
    obtain ⟨h1, h2⟩ := cut_first hxa hya e'
    have h3 : x = y := List.append_cancel_right h1
    have h4 := List.append_cancel_left h2
    have ih := jn_inj (b := b) ha (x2 :: r) (y2 :: q) (by simp) (by simp) (fun z hz => hx z (List.mem_cons_of_mem _ hz)) (fun z hz => hy z (List.mem_cons_of_mem _ hz)) h4
    rw [h3, ih]
theorem jn_count (sep : List Nat) (c : Nat) : ∀ (x : List Nat) (r : List (List Nat)), (jn sep (x :: r)).count c = ((x :: r).map (·.count c)).sum + r.length * sep.count c
  | x, [] => by simp [jn]
  | x, y :: r => by
    show (x ++ sep ++ jn sep (y :: r)).count c = _
    rw [List.count_append, List.count_append, jn_count sep c y r]
    simp only [List.map_cons, List.sum_cons, List.length_cons, Nat.succ_mul]
    omega
theorem sum_zero : ∀ {l : List Nat}, l.sum = 0 → ∀ x ∈ l, x = 0
  | [], _, x, h => by simp at h
  | y :: l, e, x, h => by
    simp only [List.sum_cons] at e
    rcases List.mem_cons.mp h with rfl | h
    · omega
    · exact sum_zero (by omega) x h
theorem jn_free {sep : List Nat} {c : Nat} {xs ys : List (List Nat)} (hl : xs.length = ys.length) (hy : ∀ y ∈ ys, c ∉ y) (e : jn sep xs = jn sep ys) : ∀ x ∈ xs, c ∉ x := by
  cases xs with
  | nil => intro x h; simp at h
  | cons x r =>
    cases ys with
    | nil => simp at hl
    | cons y q =>
      have h1 := jn_count sep c x r
      have h2 := jn_count sep c y q
      rw [e, h2] at h1
      simp only [List.length_cons, Nat.add_right_cancel_iff] at hl
      rw [hl] at h1
      have h3 : ((y :: q).map (·.count c)).sum = 0 := by
        have : ∀ l : List (List Nat), (∀ y ∈ l, c ∉ y) → (l.map (·.count c)).sum = 0 := fun l => by
          induction l with
          | nil => intro _; rfl
          | cons z l ih =>
            intro h
            rw [List.map_cons, List.sum_cons, ih fun w hw => h w (List.mem_cons_of_mem _ hw), List.count_eq_zero.mpr (h z List.mem_cons_self)]
        exact this _ hy
      have h4 : ((x :: r).map (·.count c)).sum = 0 := by omega
      intro z hz
      have := sum_zero h4 _ (List.mem_map.mpr ⟨z, hz, rfl⟩)
      exact List.count_eq_zero.mp this
theorem splitOk_of {z y : Str} (hy : y.length ≠ 0) (hz : z.length ≤ 100000) : splitOk z y = true := by
  unfold splitOk
  have h1 := PyProof.Rows.len_partsBetween z (Builtin.Str.occurrences z y 0 z.length (z.length + 1)) y.length
  have h2 := PySem.StrLaws.occ_length_le z y 0 z.length (z.length + 1)
  have h3 := PyProof.Rows.split_le z y
  simp only [Bool.and_eq_true, Bool.not_eq_true', decide_eq_true_eq, beq_eq_false_iff_ne]
  exact ⟨⟨⟨hy, hz⟩, by omega⟩, by omega⟩
def spc : Str := " "
theorem spc_is : spc = ⟨#[32]⟩ := by decide +kernel
theorem spc1 : spc.length = 1 := by decide +kernel
def wordsOf (p : Str) : List Str := Txt.split p spc
theorem words_ne (p : Str) : wordsOf p ≠ [] := fun z => by
  have := PyProof.Rows.split_pos p spc
  unfold wordsOf at z
  rw [z] at this
  simp at this
def w0 (p : Str) : Str := (wordsOf p).headD ""
def wl (p : Str) : Str := (wordsOf p).getLastD ""
def gR (w : Str) : Str := if (w == ("-" : Str)) = true then "" else w
def gRule (p : Str) : Th := .tup [.str (w0 p), .str (gR (wl p))]
theorem guessed_right_eq (w : Str) : phi_guessed_right [.str w] = some (.str (gR w)) := by
  unfold phi_guessed_right b_guessed_right c_EMPTY_WORD_MARK gR
  cases h : (w == ("-" : Str)) with
  | true => walk_at "ev"; simp [h]
  | false => walk_at "ev"; simp [h]
theorem at_first {ws : List Str} (h : ws ≠ []) : oIx (.lst (ws.map Th.str)) (.int 0) = some (.str (ws.headD "")) := by
  cases ws with
  | nil => exact absurd rfl h
  | cons w r =>
    show atI _ _ = _
    rw [atI_nat' (by decide) (by simp)]
    rfl
theorem at_last {ws : List Str} (h : ws ≠ []) : oIx (.lst (ws.map Th.str)) (.int (-1)) = some (.str (ws.getLastD "")) := by
  have hl : 0 < ws.length := List.length_pos_iff.mpr h
  show atI _ _ = _
  unfold atI
  have e : ixN (ws.map Th.str).length (-1) = some (ws.length - 1) := by
    unfold ixN
    rw [List.length_map]
    simp
    omega
  rw [e]
  show (ws.map Th.str)[ws.length - 1]? = _
  rw [List.getElem?_map, ← List.getLast?_eq_getElem?, List.getLast?_eq_some_getLast h]
  rw [List.getLastD_eq_getLast?, List.getLast?_eq_some_getLast h]
  rfl
theorem split_word {p : Str} (hp : p.length ≤ 100000) {fo fa : FD} {d : Sd} (h1 : fo d = some (.str p)) (h2 : fa d = some (.str spc)) : fSplit fo fa d = some ((wordsOf p).map Th.str) := by
  unfold fSplit
  rw [h1, h2]
  show (if splitOk p spc = true then _ else _) = _
  rw [if_pos (splitOk_of (by rw [spc1]; decide) hp)]
  rfl
theorem guessed_rule_eq {p : Str} (hp : p.length ≤ 100000) : phi_guessed_rule [.str p] = some (gRule p) := by
  have a1 := at_first (words_ne p)
  have a2 := at_last (words_ne p)
  have a3 := guessed_right_eq (wl p)
  unfold phi_guessed_rule b_guessed_rule c_BETWEEN_PARTS
  refine runD_rt rfl ?_
  refine (fSeq_nx (d' := [some (Dv.th (.str p)), some (Dv.th (.lst ((wordsOf p).map Th.str)))]) ?_).trans ?_
  · show ((fSplit (fVarB 0) (fC (.str (" " : Str))) [some (Dv.th (.str p)), none]).map Th.lst).map _ = _
    rw [split_word hp rfl rfl]
    rfl
  · have n1 : fNeg (fC (.int 1)) [some (Dv.th (.str p)), some (Dv.th (.lst ((wordsOf p).map Th.str)))] = some (.int (-1)) := rfl
    have b1 : f2 oIx (fVarB 1) (fC (.int 0)) [some (Dv.th (.str p)), some (Dv.th (.lst ((wordsOf p).map Th.str)))] = some (.str (w0 p)) := a1
    have b2 : f2 oIx (fVarB 1) (fNeg (fC (.int 1))) [some (Dv.th (.str p)), some (Dv.th (.lst ((wordsOf p).map Th.str)))] = some (.str (wl p)) := a2
    generalize f2 oIx (fVarB 1) (fC (.int 0)) = F1 at b1 ⊢
    generalize f2 oIx (fVarB 1) (fNeg (fC (.int 1))) = F2 at b2 ⊢
    simp only [fRet, fTup, fCons, fCall, fNil, b1, b2, Option.bind_some, Option.map_some, a3]
    rfl
def partsOf (x : Str) : List Str := Txt.split x sepW
theorem parts_ne (x : Str) : partsOf x ≠ [] := fun z => by
  have := PyProof.Rows.split_pos x sepW
  unfold partsOf at z
  rw [z] at this
  simp at this
theorem part_short {x p : Str} (h : p ∈ partsOf x) : p.length ≤ x.length := by
  have hw := PyProof.Rows.split_weight x sepW (by rw [sep3]; decide)
  have : ∀ l : List Str, p ∈ l → p.length ≤ (l.map (·.length)).sum := fun l => by
    induction l with
    | nil => intro z; simp at z
    | cons a l ih =>
      intro z
      rw [List.map_cons, List.sum_cons]
      rcases List.mem_cons.mp z with rfl | z
      · omega
      · have := ih z; omega
  have h1 := this _ h
  have h2 := PyProof.Rows.split_pos x sepW
  unfold partsOf at h1
  omega
theorem word_le {x p : Str} (h : p ∈ wordsOf x) : p.length ≤ x.length := by
  have hw := PyProof.Rows.split_weight x spc (by rw [spc1]; decide)
  have : ∀ l : List Str, p ∈ l → p.length ≤ (l.map (·.length)).sum := fun l => by
    induction l with
    | nil => intro z; simp at z
    | cons a l ih =>
      intro z
      rw [List.map_cons, List.sum_cons]
      rcases List.mem_cons.mp z with rfl | z
      · omega
      · have := ih z; omega
  have h1 := this _ h
  have h2 := PyProof.Rows.split_pos x spc
  unfold wordsOf at h1
  omega
theorem parts_len (x : Str) : (partsOf x).length ≤ x.length + 2 := PyProof.Rows.split_le x sepW
def guess (x : Str) : List Th := if (x == ("none" : Str)) = true then [] else (partsOf x).map gRule
theorem split_part {x : Str} (hx : x.length ≤ 100000) {fo fa : FD} {d : Sd} (h1 : fo d = some (.str x)) (h2 : fa d = some (.str sepW)) : fSplit fo fa d = some ((partsOf x).map Th.str) := by
  unfold fSplit
  rw [h1, h2]
  show (if splitOk x sepW = true then _ else _) = _
  rw [if_pos (splitOk_of (by rw [sep3]; decide) hx)]
  rfl
def gT : Th → Th
  | .str p => gRule p
  | _ => .non
theorem guessed_rules_eq {x : Str} (hx : x.length ≤ 100000) : phi_guessed_rules [.str x] = some (.tup (guess x)) := by
  unfold phi_guessed_rules b_guessed_rules c_NO_RULES_MARK c_BETWEEN_RULES guess
  refine runD_rt rfl ?_
  cases h : (x == ("none" : Str)) with
  | true =>
    refine fSeq_rt ?_
    walk_at "ev"
    simp [h]
  | false =>
    refine (fSeq_nx (d' := [some (Dv.th (.str x))]) ?_).trans ?_
    · walk_at "ev"
      simp [h]
    · have hl := parts_len x
      have hi : fItems (fLst (fSplit (fVarB 0) (fC (.str (" ; " : Str))))) [some (Dv.th (.str x))] = some ((partsOf x).map Th.str) := by
        show ((fSplit (fVarB 0) (fC (.str (" ; " : Str))) [some (Dv.th (.str x))]).map Th.lst).bind itemsOf = _
        rw [split_part hx rfl rfl]
        rfl
      have hc : fComp g1 (fItems (fLst (fSplit (fVarB 0) (fC (.str (" ; " : Str)))))) fTrue (fCall phi_guessed_rule (fCons (fVar 0) fNil)) [some (Dv.th (.str x))] = some (((partsOf x).map Th.str).map gT) :=
        fComp_map hi (by rw [List.length_map]; omega) fun t ht => by
          obtain ⟨p, hp, rfl⟩ := List.mem_map.mp ht
          have := part_short hp
          show phi_guessed_rule [.str p] = _
          exact guessed_rule_eq (by omega)
      generalize fComp g1 (fItems (fLst (fSplit (fVarB 0) (fC (.str (" ; " : Str)))))) fTrue (fCall phi_guessed_rule (fCons (fVar 0) fNil)) = F at hc ⊢
      simp only [fRet, fCB, fCons, fLst, fNil, hc, Option.map_some, Option.bind_some, Bool.false_eq_true, if_false, List.map_map]
      rfl
theorem gR_len (w : Str) : (gR w).length ≤ w.length := by
  unfold gR
  split
  · have : ("" : Str).length = 0 := by decide +kernel
    omega
  · omega
theorem headD_mem {ws : List Str} (h : ws ≠ []) : ws.headD "" ∈ ws := by
  cases ws with
  | nil => exact absurd rfl h
  | cons a r => exact List.mem_cons_self
theorem lastD_mem {ws : List Str} (h : ws ≠ []) : ws.getLastD "" ∈ ws := by
  rw [List.getLastD_eq_getLast?, List.getLast?_eq_some_getLast h]
  exact List.getLast_mem h
theorem guess_good {x : Str} (hx : x.length ≤ 100000) : good (.tup (guess x)) = true := by
  have hg : goodL (guess x) = true := by
    rw [goodL_iff]
    intro t ht
    unfold guess at ht
    split at ht
    · simp at ht
    · obtain ⟨p, hp, rfl⟩ := List.mem_map.mp ht
      have h1 := part_short hp
      have h2 := word_le (headD_mem (words_ne p))
      have h3 := word_le (lastD_mem (words_ne p))
      have h4 := gR_len (wl p)
      show good (.tup [.str (w0 p), .str (gR (wl p))]) = true
      have a1 : (w0 p).length ≤ 1000000 := by unfold w0; omega
      have a2 : (gR (wl p)).length ≤ 1000000 := by unfold wl at h4 ⊢; omega
      simp [good, goodL, a1, a2]
  simpa [good] using hg
def okRead (x : Str) : Bool := rulesB (.tup (guess x)) && (textOf (guess x) == x)
theorem ne_str {x y : Str} : oNe (.str x) (.str y) = some (.bl (!(x == y))) := by simp [oNe, dp, eqTh]
theorem read_eq {x : Str} (hx : x.length ≤ 100000) : psi_read [.str x] = some (if okRead x = true then .rt (.tup (guess x)) else .xc "NoText") := by
  have g := guess_good hx
  have a0 := guessed_rules_eq hx
  have a1 := are_rules_eq (.tup (guess x)) g
  unfold psi_read runX b_read
  rw [if_pos (show [Th.str x].length = 1 from rfl)]
  refine (fSeq_nx (d' := [some (Dv.th (.str x)), some (Dv.th (.tup (guess x)))]) ?_).trans ?_
  · show (phi_guessed_rules [.str x]).map _ = _
    rw [a0]; rfl
  unfold okRead
  cases hr : rulesB (.tup (guess x)) with
  | false =>
    have : fIf (fOrT (fNot (fTest (fCall phi_are_rules (fCons (fVar 1) fNil)))) (fTest (f2 oNe (fCall phi_written (fCons (fVar 1) fNil)) (fVarB 0)))) (fRaise "NoText" (fCons (fC (.str ("the text is not the writing of rules" : Str))) fNil)) fNext [some (Dv.th (.str x)), some (Dv.th (.tup (guess x)))] = some (.xc "NoText") := by
      walk_at "ev"
      simp only [a1, hr, Option.bind_some]
      try walk_at "ev"
      try simp
    unfold fSeq
    rw [this]
    simp
  | true =>
    have w1 := written_eq g hr
    cases he : (textOf (guess x) == x) with
    | false =>
      have : fIf (fOrT (fNot (fTest (fCall phi_are_rules (fCons (fVar 1) fNil)))) (fTest (f2 oNe (fCall phi_written (fCons (fVar 1) fNil)) (fVarB 0)))) (fRaise "NoText" (fCons (fC (.str ("the text is not the writing of rules" : Str))) fNil)) fNext [some (Dv.th (.str x)), some (Dv.th (.tup (guess x)))] = some (.xc "NoText") := by
        walk_at "ev"
        simp only [a1, hr, w1, Option.bind_some, ne_str, he]
        try walk_at "ev"
        try simp
      unfold fSeq
      rw [this]
      simp
    | true =>
      refine (fSeq_nx (d' := [some (Dv.th (.str x)), some (Dv.th (.tup (guess x)))]) ?_).trans ?_
      · walk_at "ev"
        simp only [a1, hr, w1, Option.bind_some, ne_str, he]
        try walk_at "ev"
        try simp
      · rfl
theorem found_eq {x : Str} (hx : x.length ≤ 100000) : phi_l_found [.str x] = some (if okRead x = true then .tup (guess x) else .non) := by
  have p := read_eq hx
  unfold phi_l_found b_l_found
  refine runD_rt rfl ?_
  cases h : okRead x with
  | true =>
    rw [h, if_pos rfl] at p
    refine (fSeq_nx (d' := [some (Dv.th (.str x)), some (Dv.th (.tup (guess x))), none, none]) ?_).trans ?_
    · show fTryS _ _ _ _ _ _ [some (Dv.th (.str x)), none, none, none] = _
      unfold fTryS
      show (psi_read [.str x]).bind _ = _
      rw [p]
      rfl
    · rfl
  | false =>
    rw [h, if_neg Bool.false_ne_true] at p
    refine fSeq_rt ?_
    show fTryS _ _ _ _ _ _ [some (Dv.th (.str x)), none, none, none] = _
    unfold fTryS
    show (psi_read [.str x]).bind _ = _
    rw [p]
    rfl
def okPart (p : Str) : Bool := decide ((wordsOf p).length = 3) && ((wordsOf p).getD 1 "" == ("to" : Str))
theorem sign59 : signB 59 = false := by decide +kernel
theorem sign32 : signB 32 = false := by decide +kernel
theorem word_free {l : Str} (h : wordS l = true) {c : Nat} (hc : signB c = false) : c ∉ l.cps.toList := fun z => by
  unfold wordS at h
  simp only [Bool.and_eq_true, List.all_eq_true] at h
  rw [h.2 c z] at hc
  cases hc
theorem rW_free {r : Str} (h : wordS r = true) {c : Nat} (hc : signB c = false) (hd : c ≠ 45) : c ∉ (rW r).cps.toList := by
  unfold rW
  split
  · have : ("-" : Str).cps.toList = [45] := by decide +kernel
    rw [this]
    simpa using hd
  · exact word_free h hc
theorem wr_free {l r : Str} (hl : wordS l = true) (hr : wordS r = true) : 59 ∉ (wr l r).cps.toList := by
  unfold wr
  rw [app_cps, app_cps]
  intro z
  rcases List.mem_append.mp z with z | z
  · rcases List.mem_append.mp z with z | z
    · exact word_free hl sign59 z
    · have : (59 : Nat) ∉ toW.cps.toList := by decide +kernel
      exact this z
  · exact rW_free hr sign59 (by decide) z
theorem rule_words {t : Th} (h : isRuleB t = true) : ∃ l r, t = .tup [.str l, .str r] ∧ wordS l = true ∧ wordS r = true := by
  unfold isRuleB at h
  split at h
  · rename_i l r
    simp only [Bool.and_eq_true] at h
    exact ⟨l, r, rfl, h.1.1, h.1.2⟩
  · cases h
theorem sep_cps : sepW.cps.toList = [32] ++ 59 :: [32] := by decide +kernel
theorem spc_cps : spc.cps.toList = [] ++ 32 :: [] := by decide +kernel
theorem cps_inj {x y : Str} (h : x.cps.toList = y.cps.toList) : x = y := str_ext h
theorem part_is {x : Str} (hn : (x == ("none" : Str)) = false) (h : okRead x = true) : ∀ p ∈ partsOf x, p = wS (gRule p) ∧ isRuleB (gRule p) = true := by
  have hg : guess x = (partsOf x).map gRule := by unfold guess; rw [hn]; rfl
  unfold okRead at h
  rw [hg, Bool.and_eq_true] at h
  obtain ⟨h1, h2⟩ := h
  simp only [rulesB, Bool.and_eq_true, decide_eq_true_eq, List.all_eq_true] at h1
  have h2 := eq_of_beq h2
  unfold textOf at h2
  rw [if_neg (by simpa using parts_ne x)] at h2
  have e1 := congrArg (fun s : Str => s.cps.toList) h2
  have e2 := congrArg (fun s : Str => s.cps.toList) (PySem.StrLaws.join_split x sepW)
  simp only [join_jn] at e1 e2
  have e3 : jn sepW.cps.toList ((partsOf x).map (·.cps.toList)) = jn sepW.cps.toList ((((partsOf x).map gRule).map wS).map (·.cps.toList)) := e2.trans e1.symm
  rw [sep_cps] at e3
  have free : ∀ y ∈ (((partsOf x).map gRule).map wS).map (·.cps.toList), 59 ∉ y := fun y hy => by
    obtain ⟨z, hz, rfl⟩ := List.mem_map.mp hy
    obtain ⟨t, ht, rfl⟩ := List.mem_map.mp hz
    obtain ⟨l, r, rfl, a1, a2⟩ := rule_words (h1.2 t ht)
    exact wr_free a1 a2
  have e4 := jn_inj (by decide) _ _ (by simpa using parts_ne x) (by simpa using parts_ne x) (jn_free (by simp) free e3) free e3
  rw [List.map_map, List.map_map, List.map_inj_left] at e4
  intro p hp
  exact ⟨cps_inj (e4 p hp), h1.2 _ (List.mem_map.mpr ⟨p, hp, rfl⟩)⟩
theorem ok_all {x : Str} (hn : (x == ("none" : Str)) = false) (h : okRead x = true) : (partsOf x).all okPart = true := by
  rw [List.all_eq_true]
  intro p hp
  obtain ⟨e, hr⟩ := part_is hn h p hp
  obtain ⟨l, r, et, a1, a2⟩ := rule_words hr
  rw [et] at e
  have e : p = wr l r := e
  have j1 := congrArg (fun s : Str => s.cps.toList) (PySem.StrLaws.join_split p spc)
  simp only [join_jn] at j1
  have j2 : jn spc.cps.toList ([l, ("to" : Str), rW r].map (·.cps.toList)) = p.cps.toList := by
    rw [e]
    unfold wr
    simp only [app_cps, ← to_cps]
    show l.cps.toList ++ spc.cps.toList ++ (("to" : Str).cps.toList ++ spc.cps.toList ++ (rW r).cps.toList) = _
    simp only [List.append_assoc]
    rfl
  have e3 : jn spc.cps.toList ((wordsOf p).map (·.cps.toList)) = jn spc.cps.toList ([l, ("to" : Str), rW r].map (·.cps.toList)) := j1.trans j2.symm
  rw [spc_cps] at e3
  have f1 : ∀ y ∈ (wordsOf p).map (·.cps.toList), 32 ∉ y := fun y hy => by
    obtain ⟨z, hz, rfl⟩ := List.mem_map.mp hy
    unfold wordsOf at hz
    rw [spc_is] at hz
    exact PySem.StrLaws.split_free p 32 z hz
  have f2 : ∀ y ∈ [l, ("to" : Str), rW r].map (·.cps.toList), 32 ∉ y := fun y hy => by
    simp only [List.map_cons, List.map_nil, List.mem_cons, List.not_mem_nil, or_false] at hy
    rcases hy with rfl | rfl | rfl
    · exact word_free a1 sign32
    · decide +kernel
    · exact rW_free a2 sign32 (by decide)
  have e4 := jn_inj (by simp) _ _ (by simpa using words_ne p) (by simp) f1 f2 e3
  have e5 : wordsOf p = [l, ("to" : Str), rW r] := by
    have : ∀ (xs ys : List Str), xs.map (·.cps.toList) = ys.map (·.cps.toList) → xs = ys := fun xs => by
      induction xs with
      | nil => intro ys h; cases ys with
        | nil => rfl
        | cons _ _ => simp at h
      | cons a xs ih => intro ys h; cases ys with
        | nil => simp at h
        | cons b ys =>
          simp only [List.map_cons, List.cons.injEq] at h
          rw [cps_inj h.1, ih ys h.2]
    exact this _ _ e4
  unfold okPart
  rw [e5]
  show (true && (("to" : Str) == ("to" : Str))) = true
  rw [beq_self_eq_true]
  rfl
abbrev bodyDue : FS := (fSeq (fSet 3 (fLst (fSplit (fVarB 2) (fC (.str (" " : Str))))))
  (fSeq (fIf (fOrT (fTest (f2 oNe (fCB oLen (fCons (fVarB 3) fNil)) (fC (.int 3)))) (fTest (f2 oNe (f2 oIx (fVarB 3) (fC (.int 1))) (fC (.str ("to" : Str)))))) (fRet (fC .non)) fNext)
  (fSet 1 (f2 oPlus (fVarB 1) (fTup (fCons (fTup (fCons (f2 oIx (fVarB 3) (fC (.int 0))) (fCons (f2 oIx (fLst (fList (fCons (f2 oIx (fVarB 3) (fC (.int 2))) (fCons (fC (.str ("" : Str))) fNil)))) (fCB oInt (fCons (f2 oEq (f2 oIx (fVarB 3) (fC (.int 2))) (fC (.str ("-" : Str)))) fNil))) fNil))) fNil))))))
abbrev dd (x : Str) (acc : List Th) (b c : Option Dv) : Sd := [some (Dv.th (.str x)), some (Dv.th (.tup acc)), b, c]
theorem to_str_ne {x y : Str} : oNe (.str x) (.str y) = some (.bl (!(x == y))) := by simp [oNe, dp, eqTh]
theorem pick_gR (b : Str) : oIx (.lst [.str b, .str ("" : Str)]) (.int (if (b == ("-" : Str)) = true then 1 else 0)) = some (.str (gR b)) := by
  unfold gR
  cases h : (b == ("-" : Str)) with
  | true => rfl
  | false => rfl
theorem due_turn {x p : Str} {acc : List Th} {c : Option Dv} (hp : p.length ≤ 100000) (ha : acc.length ≤ 200000) : bodyDue (dd x acc (some (Dv.th (.str p))) c) = some (if okPart p = true then .nx (dd x (acc ++ [gRule p]) (some (Dv.th (.str p))) (some (Dv.th (.lst ((wordsOf p).map Th.str))))) else .rt .non) := by
  have h1 : (fSet 3 (fLst (fSplit (fVarB 2) (fC (.str (" " : Str)))))) (dd x acc (some (Dv.th (.str p))) c) = some (.nx (dd x acc (some (Dv.th (.str p))) (some (Dv.th (.lst ((wordsOf p).map Th.str)))))) := by
    show ((fSplit (fVarB 2) (fC (.str (" " : Str))) (dd x acc (some (Dv.th (.str p))) c)).map Th.lst).map _ = _
    rw [split_word hp rfl rfl]
    rfl
  refine (fSeq_nx h1).trans ?_
  unfold okPart gRule
  unfold w0 wl
  generalize wordsOf p = ws
  by_cases hl : ws.length = 3
  · match ws, hl with
    | [a, b, e], _ =>
      have i0 : oIx (.lst [.str a, .str b, .str e]) (.int 0) = some (.str a) := rfl
      have i1 : oIx (.lst [.str a, .str b, .str e]) (.int 1) = some (.str b) := rfl
      have i2 : oIx (.lst [.str a, .str b, .str e]) (.int 2) = some (.str e) := rfl
      have n3 : oNe (.int 3) (.int 3) = some (.bl false) := by rw [ne_int]; rfl
      cases hb : (b == ("to" : Str)) with
      | false =>
        refine (fSeq_rt (T := .non) ?_).trans ?_
        · show fIf _ _ _ (dd x acc (some (Dv.th (.str p))) (some (Dv.th (.lst [.str a, .str b, .str e])))) = _
          walk_at "ev"
          simp only [i1, Option.bind_some, to_str_ne, hb, n3]
          try walk_at "ev"
          try rfl
        · simp [hb]
      | true =>
        refine (fSeq_nx (d' := dd x acc (some (Dv.th (.str p))) (some (Dv.th (.lst [.str a, .str b, .str e])))) ?_).trans ?_
        · show fIf _ _ _ (dd x acc (some (Dv.th (.str p))) (some (Dv.th (.lst [.str a, .str b, .str e])))) = _
          walk_at "ev"
          simp only [i1, Option.bind_some, to_str_ne, hb, n3]
          try walk_at "ev"
          try rfl
        · have pg := pick_gR e
          have pl := plus_tup (x := acc) (y := [.tup [.str a, .str (gR e)]]) (by simp; omega)
          have key : (f2 oPlus (fVarB 1) (fTup (fCons (fTup (fCons (f2 oIx (fVarB 3) (fC (.int 0))) (fCons (f2 oIx (fLst (fList (fCons (f2 oIx (fVarB 3) (fC (.int 2))) (fCons (fC (.str ("" : Str))) fNil)))) (fCB oInt (fCons (f2 oEq (f2 oIx (fVarB 3) (fC (.int 2))) (fC (.str ("-" : Str)))) fNil))) fNil))) fNil))) (dd x acc (some (Dv.th (.str p))) (some (Dv.th (.lst [.str a, .str b, .str e])))) = some (.tup (acc ++ [.tup [.str a, .str (gR e)]])) := by
            walk_at "ev"
            simp only [i0, i2, Option.bind_some, eq_str, oInt, pg]
            try walk_at "ev"
            try simp only [pg, Option.bind_some]
            try walk_at "ev"
            try exact pl
          show ((f2 oPlus (fVarB 1) _) (dd x acc (some (Dv.th (.str p))) (some (Dv.th (.lst [.str a, .str b, .str e]))))).map _ = _
          rw [key]
          simp [hb]
  · refine (fSeq_rt (T := .non) ?_).trans ?_
    · show fIf _ _ _ (dd x acc (some (Dv.th (.str p))) (some (Dv.th (.lst (ws.map Th.str))))) = _
      walk_at "ev"
      have : ((ws.length : Int) == 3) = false := by simpa using fun z => hl (by omega)
      simp only [List.length_map, this, Bool.not_false]
      try rfl
      try simp
    · simp [hl]
theorem due_loop {x : Str} : ∀ (ps : List Str) (acc : List Th) (b c : Option Dv), (∀ p ∈ ps, p.length ≤ 100000) → acc.length + ps.length ≤ 200000 →
    ∃ b' c', forL (gVar 2) bodyDue (ps.map Th.str) (dd x acc b c) = some (if ps.all okPart = true then .nx (dd x (acc ++ ps.map gRule) b' c') else .rt .non)
  | [], acc, b, c, _, _ => ⟨b, c, by simp [forL]⟩
  | p :: r, acc, b, c, h, hl => by
    simp only [List.length_cons] at hl
    have ht := due_turn (x := x) (p := p) (acc := acc) (c := c) (h p List.mem_cons_self) (by omega)
    obtain ⟨b', c', ih⟩ := due_loop (x := x) r (acc ++ [gRule p]) (some (Dv.th (.str p))) (some (Dv.th (.lst ((wordsOf p).map Th.str)))) (fun q hq => h q (List.mem_cons_of_mem _ hq)) (by simp; omega)
    refine ⟨b', c', ?_⟩
    have e : forL (gVar 2) bodyDue ((p :: r).map Th.str) (dd x acc b c) = (bodyDue (dd x acc (some (Dv.th (.str p))) c)).bind fun o => match o with | .nx d' => forL (gVar 2) bodyDue (r.map Th.str) d' | .ct d' => forL (gVar 2) bodyDue (r.map Th.str) d' | .bk d' => some (.nx d') | .rt T => some (.rt T) | .xc c => some (.xc c) := rfl
    rw [e, ht]
    cases hp : okPart p with
    | false => simp [hp]
    | true =>
      simp only [hp, if_true, Option.bind_some, List.all_cons, Bool.true_and, ih, List.map_cons, List.append_assoc, List.singleton_append]
theorem none_ok {x : Str} (h : (x == ("none" : Str)) = true) : okRead x = true ∧ guess x = [] := by
  have e := eq_of_beq h
  subst e
  have hg : guess ("none" : Str) = [] := by unfold guess; rw [if_pos (beq_self_eq_true _)]
  refine ⟨?_, hg⟩
  unfold okRead
  rw [hg]
  decide +kernel
theorem due_eq {x : Str} (hx : x.length ≤ 100000) : phi_l_due [.str x] = some (if okRead x = true then .tup (guess x) else .non) := by
  unfold phi_l_due b_l_due
  refine runD_rt rfl ?_
  cases h : (x == ("none" : Str)) with
  | true =>
    obtain ⟨h1, h2⟩ := none_ok h
    rw [h1, if_pos rfl, h2]
    refine fSeq_rt ?_
    walk_at "ev"
    simp [h]
  | false =>
    refine (fSeq_nx (d' := [some (Dv.th (.str x)), none, none, none]) ?_).trans ?_
    · walk_at "ev"
      simp [h]
    refine (fSeq_nx (d' := dd x [] none none) rfl).trans ?_
    have hl := parts_len x
    obtain ⟨b', c', e⟩ := due_loop (x := x) (partsOf x) [] none none (fun p hp => by have := part_short hp; omega) (by simp; omega)
    have hi : fItems (fLst (fSplit (fVarB 0) (fC (.str (" ; " : Str))))) (dd x [] none none) = some ((partsOf x).map Th.str) := by
      show ((fSplit (fVarB 0) (fC (.str (" ; " : Str))) (dd x [] none none)).map Th.lst).bind itemsOf = _
      rw [split_part hx rfl rfl]
      rfl
    have hf := (fFor_of (g := gVar 2) (F := bodyDue) hi).trans e
    have hg : guess x = (partsOf x).map gRule := by unfold guess; rw [h]; rfl
    cases ha : (partsOf x).all okPart with
    | false =>
      have hno : okRead x = false := by
        cases ho : okRead x with
        | false => rfl
        | true => rw [ok_all h ho] at ha; cases ha
      rw [ha] at hf
      rw [hno]
      exact fSeq_rt hf
    | true =>
      rw [ha, if_pos rfl, List.nil_append, ← hg] at hf
      refine (fSeq_nx hf).trans ?_
      have g := guess_good hx
      have a1 := l_are_rules_eq (.tup (guess x)) g
      unfold okRead
      cases hr : rulesB (.tup (guess x)) with
      | false =>
        refine (fSeq_rt (T := .non) ?_).trans ?_
        · walk_at "ev"
          simp only [a1, hr, Option.bind_some]
          try walk_at "ev"
        · simp
      | true =>
        have w1 := l_written_eq hr
        cases he : (textOf (guess x) == x) with
        | false =>
          refine (fSeq_rt (T := .non) ?_).trans ?_
          · walk_at "ev"
            simp only [a1, hr, w1, Option.bind_some, to_str_ne, he]
            try walk_at "ev"
          · simp
        | true =>
          refine (fSeq_nx (d' := dd x (guess x) b' c') ?_).trans ?_
          · walk_at "ev"
            simp only [a1, hr, w1, Option.bind_some, to_str_ne, he]
            try walk_at "ev"
          · rfl
def wt (ws : List Str) : Nat := (ws.map (·.length)).sum + ws.length
theorem wt_app (a b : List Str) : wt (a ++ b) = wt a + wt b := by
  unfold wt
  rw [List.map_append, List.sum_append, List.length_append]
  omega
theorem sum_take : ∀ (l : List Nat) (n : Nat), (l.take n).sum ≤ l.sum
  | [], n => by simp
  | a :: l, 0 => by simp
  | a :: l, n + 1 => by
    have := sum_take l n
    simp only [List.take_succ_cons, List.sum_cons]
    omega
theorem sum_drop : ∀ (l : List Nat) (n : Nat), (l.drop n).sum ≤ l.sum
  | [], n => by simp
  | a :: l, 0 => by simp
  | a :: l, n + 1 => by
    have := sum_drop l n
    simp only [List.drop_succ_cons, List.sum_cons]
    omega
theorem cut_map {α β : Type} (f : α → β) (ws : List α) (lo hi : Option Int) : cutL (ws.map f) lo hi = (cutL ws lo hi).map f := by
  unfold cutL
  rw [List.length_map, ← List.map_drop, ← List.map_take]
theorem wt_cut (ws : List Str) (lo hi : Option Int) : wt (cutL ws lo hi) ≤ wt ws := by
  have h2 : (cutL ws lo hi).length ≤ ws.length := by
    unfold cutL
    rw [List.length_take, List.length_drop]
    omega
  have h1 : ((cutL ws lo hi).map (·.length)).sum ≤ (ws.map (·.length)).sum := by
    unfold cutL
    rw [List.map_take, List.map_drop]
    exact Nat.le_trans (sum_take _ _) (sum_drop _ _)
  unfold wt
  omega
theorem wt_words (x : Str) : wt (wordsOf x) ≤ x.length + 1 := PyProof.Rows.split_weight x spc (by rw [spc1]; decide)
theorem len_words (x : Str) : (wordsOf x).length ≤ x.length + 1 := by
  have := wt_words x
  unfold wt at this
  omega
theorem join_len : ∀ ws : List Str, (Str.join spc ws).length ≤ wt ws
  | [] => by
    have : (Str.join spc []).length = 0 := by decide +kernel
    omega
  | [w] => by
    show w.length ≤ _
    simp [wt]
  | w :: v :: r => by
    have ih := join_len (v :: r)
    show (w ++ spc ++ Str.join spc (v :: r)).length ≤ _
    rw [app_len, app_len, spc1]
    unfold wt at ih ⊢
    simp only [List.map_cons, List.sum_cons, List.length_cons] at ih ⊢
    omega
theorem strs_map : ∀ ws : List Str, strsOf (ws.map Th.str) = some ws
  | [] => rfl
  | w :: r => by
    show (strsOf (r.map Th.str)).map _ = _
    rw [strs_map r]; rfl
theorem join_words {ws : List Str} (h : wt ws ≤ 1000000) : oJoin (.str (" " : Str)) (.lst (ws.map Th.str)) = some (.str (Str.join spc ws)) := by
  show (joinD spc (ws.map Th.str)).map Th.str = _
  unfold joinD
  unfold wt at h
  rw [strs_map, Option.bind_some, if_pos (by rw [spc1]; omega), join_eq]
  rfl
theorem plus_ws {a b : List Str} (h : wt a + wt b ≤ 1000000) : oPlus (.lst (a.map Th.str)) (.lst (b.map Th.str)) = some (.lst ((a ++ b).map Th.str)) := by
  rw [plus_lst (by unfold wt at h; rw [List.length_map, List.length_map]; omega), List.map_append]
theorem sl_ws {ws : List Str} {lo hi : Option Int} : oSl (.lst (ws.map Th.str)) lo hi = some (.lst ((cutL ws lo hi).map Th.str)) := by
  rw [sl_lst, cut_map]
abbrev s9 (x : Str) (n : Int) (ws : List Str) (at_ pl k : Int) (c d e : Option Dv) : Sd := [some (Dv.th (.str x)), some (Dv.th (.int n)), some (Dv.th (.lst (ws.map Th.str))), some (Dv.th (.int at_)), some (Dv.th (.int pl)), some (Dv.th (.int k)), c, d, e]
def someW : List Str := Txt.split "; to - a b ab ba none aaa c bb aab" spc
theorem someW_len : someW.length = 12 := by decide +kernel
theorem someW_short : ∀ w ∈ someW, w.length ≤ 4 := by decide +kernel
theorem signs17 : (" aabbccd;--to_A\n\t" : Str).length = 17 := by decide +kernel
theorem changed_eq {x : Str} {n : Int} (hx : x.length ≤ 30000) : ∃ y, phi_l_changed_text [.str x, .int n] = some (.str y) ∧ y.length ≤ 4 * x.length + 60 := by
  have hw := words_ne x
  have hwl : 0 < (wordsOf x).length := List.length_pos_iff.mpr hw
  have hwt := wt_words x
  have hln := len_words x
  unfold phi_l_changed_text b_l_changed_text
  have start : ∀ {F : FS} {T : Th}, F (s9 x n (wordsOf x) (n / 8 % ((wordsOf x).length : Int)) (n / 8 % ((x.length : Int) + 1)) (n % 8) none none none) = some (.rt T) →
      runD 2 9 (fSeq (fSet 2 (fLst (fSplit (fVarB 0) (fC (.str (" " : Str)))))) (fSeq (fSet 3 (f2 oMod (f2 oDiv (fVarB 1) (fC (.int 8))) (fCB oLen (fCons (fVarB 2) fNil)))) (fSeq (fSet 4 (f2 oMod (f2 oDiv (fVarB 1) (fC (.int 8))) (f2 oPlus (fCB oLen (fCons (fVarB 0) fNil)) (fC (.int 1))))) (fSeq (fSet 5 (f2 oMod (fVarB 1) (fC (.int 8)))) F)))) [.str x, .int n] = some T := fun {F T} hF => by
    refine runD_rt rfl ?_
    refine (fSeq_nx (d' := [some (Dv.th (.str x)), some (Dv.th (.int n)), some (Dv.th (.lst ((wordsOf x).map Th.str))), none, none, none, none, none, none]) ?_).trans ?_
    · show ((fSplit (fVarB 0) (fC (.str (" " : Str))) _).map Th.lst).map _ = _
      rw [split_word (p := x) (by omega) rfl rfl]
      rfl
    refine (fSeq_nx (d' := [some (Dv.th (.str x)), some (Dv.th (.int n)), some (Dv.th (.lst ((wordsOf x).map Th.str))), some (Dv.th (.int (n / 8 % ((wordsOf x).length : Int)))), none, none, none, none, none]) ?_).trans ?_
    · walk_at "ev"
      rw [List.length_map, mod_int (by omega)]
      rfl
    refine (fSeq_nx (d' := [some (Dv.th (.str x)), some (Dv.th (.int n)), some (Dv.th (.lst ((wordsOf x).map Th.str))), some (Dv.th (.int (n / 8 % ((wordsOf x).length : Int)))), some (Dv.th (.int (n / 8 % ((x.length : Int) + 1)))), none, none, none, none]) ?_).trans ?_
    · walk_at "ev"
    refine (fSeq_nx (d' := s9 x n (wordsOf x) (n / 8 % ((wordsOf x).length : Int)) (n / 8 % ((x.length : Int) + 1)) (n % 8) none none none) ?_).trans hF
    walk_at "ev"
  generalize hat : n / 8 % ((wordsOf x).length : Int) = a at start
  generalize hpl : n / 8 % ((x.length : Int) + 1) = pl at start
  have hk0 : 0 ≤ n % 8 := Int.emod_nonneg _ (by decide)
  have hk8 : n % 8 < 8 := Int.emod_lt_of_pos _ (by decide)
  generalize hk : n % 8 = k at start hk0 hk8
  have skip : ∀ {j : Int} {F G : FS} {d : Sd} {r : Option Out}, (k == j) = false → d[5]? = some (some (Dv.th (.int k))) → G d = r → fSeq (fIf (fTest (f2 oEq (fVarB 5) (fC (.int j)))) F fNext) G d = r := fun {j F G d r} hj hd hG => by
    refine (fSeq_nx (d' := d) ?_).trans hG
    walk_at "ev"
    simp only [hd, Option.bind_some, eq_int, hj]
    rfl
  by_cases k0 : k = 0
  · have c1 := sl_str' (x := x) (lo := none) (hi := some pl) (by omega)
    have c2 := sl_str' (x := x) (lo := some (pl + 1)) (hi := none) (by omega)
    have l1 := cutS_le x none (some pl)
    have l2 := cutS_le x (some (pl + 1)) none
    have p1 := plus_str (x := cutS x none (some pl)) (y := cutS x (some (pl + 1)) none) (by omega)
    refine ⟨cutS x none (some pl) ++ cutS x (some (pl + 1)) none, start ?_, by rw [app_len]; omega⟩
    refine fSeq_rt ?_
    walk_at "ev"
    simp only [k0, BEq.rfl, if_true, c1, c2, Option.bind_some, p1]
    rfl
  · have k0' : (k == 0) = false := by simpa using k0
    by_cases k3 : k < 3
    · have c1 := sl_str' (x := x) (lo := none) (hi := some pl) (by omega)
      have c2 := sl_str' (x := x) (lo := some (pl + k - 1)) (hi := none) (by omega)
      have l1 := cutS_le x none (some pl)
      have l2 := cutS_le x (some (pl + k - 1)) none
      have hm0 : 0 ≤ n / 7 % 17 := Int.emod_nonneg _ (by decide)
      have hm1 : n / 7 % 17 < 17 := Int.emod_lt_of_pos _ (by decide)
      have i1 := ix_str' (x := (" aabbccd;--to_A\n\t" : Str)) (i := n / 7 % 17) hm0 (by rw [signs17]; omega) (by rw [signs17]; decide)
      generalize (" aabbccd;--to_A\n\t" : Str).cps.toList.getD (n / 7 % 17).toNat 0 = c at i1
      have hc1 : (⟨#[c]⟩ : Str).length = 1 := rfl
      have p1 := plus_str (x := cutS x none (some pl)) (y := ⟨#[c]⟩) (by rw [hc1]; omega)
      have lp : (cutS x none (some pl) ++ (⟨#[c]⟩ : Str)).length ≤ x.length + 1 := by rw [app_len, hc1]; omega
      have p2 := plus_str (x := cutS x none (some pl) ++ ⟨#[c]⟩) (y := cutS x (some (pl + k - 1)) none) (by omega)
      refine ⟨cutS x none (some pl) ++ ⟨#[c]⟩ ++ cutS x (some (pl + k - 1)) none, start (skip k0' rfl ?_), by rw [app_len]; omega⟩
      refine fSeq_rt ?_
      walk_at "ev"
      simp only [decide_eq_true k3, if_true, i1, c1, c2, Option.bind_some, Option.map_some]
      try walk_at "ev"
      simp only [c1, c2, p1, p2, Option.bind_some, Option.map_some]
      try rfl
    · have skip3 : ∀ {F G : FS} {d : Sd} {r : Option Out}, d[5]? = some (some (Dv.th (.int k))) → G d = r → fSeq (fIf (fTest (f2 oLt (fVarB 5) (fC (.int 3)))) F fNext) G d = r := fun {F G d r} hd hG => by
        refine (fSeq_nx (d' := d) ?_).trans hG
        walk_at "ev"
        simp only [hd, Option.bind_some, lt_int, decide_eq_false k3]
        rfl
      have wa := wt_cut (wordsOf x) none (some a)
      have wb := wt_cut (wordsOf x) (some (a + 1)) none
      have wc := wt_cut (wordsOf x) (some a) (some (a + 1))
      have wd := wt_cut (wordsOf x) (some a) none
      have we := wt_cut (wordsOf x) (some (a + 1)) (some (a + 2))
      have wf := wt_cut (wordsOf x) (some (a + 2)) none
      have ca := sl_ws (ws := wordsOf x) (lo := none) (hi := some a)
      have cb := sl_ws (ws := wordsOf x) (lo := some (a + 1)) (hi := none)
      have cc := sl_ws (ws := wordsOf x) (lo := some a) (hi := some (a + 1))
      have cd := sl_ws (ws := wordsOf x) (lo := some a) (hi := none)
      have ce := sl_ws (ws := wordsOf x) (lo := some (a + 1)) (hi := some (a + 2))
      have cf := sl_ws (ws := wordsOf x) (lo := some (a + 2)) (hi := none)
      generalize cutL (wordsOf x) none (some a) = A at *
      generalize cutL (wordsOf x) (some (a + 1)) none = B at *
      generalize cutL (wordsOf x) (some a) (some (a + 1)) = Cc at *
      generalize cutL (wordsOf x) (some a) none = Dd at *
      generalize cutL (wordsOf x) (some (a + 1)) (some (a + 2)) = Ee at *
      generalize cutL (wordsOf x) (some (a + 2)) none = Ff at *
      by_cases k33 : k = 3
      · have p1 := plus_ws (a := A) (b := B) (by omega)
        have j1 := join_words (ws := A ++ B) (by rw [wt_app]; omega)
        have jl := join_len (A ++ B)
        rw [wt_app] at jl
        refine ⟨Str.join spc (A ++ B), start (skip k0' rfl (skip3 rfl (fSeq_rt ?_))), by omega⟩
        walk_at "ev"
        simp only [k33, BEq.rfl, if_true, ca, cb, p1, j1, Option.bind_some, Option.map_some]
        try rfl
      have k33' : (k == 3) = false := by simpa using k33
      by_cases k4 : k = 4
      · have p1 := plus_ws (a := A) (b := Cc) (by omega)
        have p2 := plus_ws (a := A ++ Cc) (b := Dd) (by rw [wt_app]; omega)
        have j1 := join_words (ws := A ++ Cc ++ Dd) (by rw [wt_app, wt_app]; omega)
        have jl := join_len (A ++ Cc ++ Dd)
        rw [wt_app, wt_app] at jl
        refine ⟨Str.join spc (A ++ Cc ++ Dd), start (skip k0' rfl (skip3 rfl (skip k33' rfl (fSeq_rt ?_)))), by omega⟩
        walk_at "ev"
        simp only [k4, BEq.rfl, if_true, ca, cc, cd, p1, p2, j1, Option.bind_some, Option.map_some]
        try rfl
      have k4' : (k == 4) = false := by simpa using k4
      by_cases k5 : k = 5
      · have p0 := plus_ws (a := Ee) (b := Cc) (by omega)
        have p1 := plus_ws (a := A) (b := Ee ++ Cc) (by rw [wt_app]; omega)
        have p2 := plus_ws (a := A ++ (Ee ++ Cc)) (b := Ff) (by rw [wt_app, wt_app]; omega)
        have j1 := join_words (ws := A ++ (Ee ++ Cc) ++ Ff) (by rw [wt_app, wt_app, wt_app]; omega)
        have jl := join_len (A ++ (Ee ++ Cc) ++ Ff)
        rw [wt_app, wt_app, wt_app] at jl
        refine ⟨Str.join spc (A ++ (Ee ++ Cc) ++ Ff), start (skip k0' rfl (skip3 rfl (skip k33' rfl (skip k4' rfl (fSeq_rt ?_))))), by omega⟩
        walk_at "ev"
        simp only [k5, BEq.rfl, if_true, ca, cc, ce, cf, p0, Option.bind_some, Option.map_some]
        try walk_at "ev"
        simp only [ca, cf, p1, p2, j1, Option.bind_some, Option.map_some]
        try rfl
      have k5' : (k == 5) = false := by simpa using k5
      have hm0 : 0 ≤ n / 7 % 12 := Int.emod_nonneg _ (by decide)
      have hm1 : n / 7 % 12 < 12 := Int.emod_lt_of_pos _ (by decide)
      obtain ⟨t, i1, ht⟩ := ix_lst' (ts := someW.map Th.str) (i := n / 7 % 12) hm0 (by rw [List.length_map, someW_len]; omega)
      obtain ⟨w, hww, rfl⟩ := List.mem_map.mp ht
      have hs := someW_short w hww
      have w1 : wt [w] ≤ 5 := by unfold wt; simp; omega
      have p1 := plus_ws (a := A) (b := [w]) (by omega)
      have p2 := plus_ws (a := A ++ [w]) (b := B) (by rw [wt_app]; omega)
      have j1 := join_words (ws := A ++ [w] ++ B) (by rw [wt_app, wt_app]; omega)
      have jl := join_len (A ++ [w] ++ B)
      rw [wt_app, wt_app] at jl
      refine ⟨Str.join spc (A ++ [w] ++ B), start (skip k0' rfl (skip3 rfl (skip k33' rfl (skip k4' rfl (skip k5' rfl ?_))))), by omega⟩
      refine (fSeq_nx (d' := s9 x n (wordsOf x) a pl k none none (some (Dv.th (.lst (someW.map Th.str))))) ?_).trans ?_
      · show ((fSplit (fC (.str ("; to - a b ab ba none aaa c bb aab" : Str))) (fC (.str (" " : Str))) _).map Th.lst).map _ = _
        rw [split_word (p := ("; to - a b ab ba none aaa c bb aab" : Str)) (by decide +kernel) rfl rfl]
        rfl
      walk_at "ev"
      have p1' : oPlus (.lst (A.map Th.str)) (.lst [.str w]) = some (.lst ((A ++ [w]).map Th.str)) := p1
      have fw : fitL [.str w] = some [.str w] := rfl
      simp only [i1, ca, cb, fw, Option.bind_some, Option.map_some, p1', p2, j1]
theorem times_tup {ts : List Th} {j : Int} (h0 : ts.length ≠ 0) (h1 : 2 ≤ j) (h2 : j ≤ 1000000) (h3 : ts.length * j.toNat ≤ 1000000) : oTimes (.tup ts) (.int j) = some (.tup (List.replicate j.toNat ts).flatten) := by
  have h : ts.length ≠ 0 ∧ 2 ≤ j ∧ j ≤ 1000000 ∧ ts.length * j.toNat ≤ 1000000 := ⟨h0, h1, h2, h3⟩
  simp only [oTimes, decide_eq_true h, if_true]
theorem pair_rule {t : Th} (h : PairOK t) : aRule t ∧ (wS t).length ≤ 17 := by
  obtain ⟨l, r, rfl, ok⟩ := h
  have h1 := ok.l6
  have h2 := ok.rl
  refine ⟨⟨l, r, rfl, by omega, by omega⟩, ?_⟩
  show (wr l r).length ≤ 17
  have := rW_len r
  have h4 : toW.length = 4 := by decide +kernel
  unfold wr
  rw [app_len, app_len]
  omega
theorem flat_len2 (c : Nat) : ∀ (zs : List Str), (∀ z ∈ zs, z.length ≤ c) → ((zs.map fun z => sepW.cps.toList ++ z.cps.toList).flatten).length ≤ (c + 3) * zs.length
  | [], _ => by simp
  | z :: r, h => by
    have ih := flat_len2 c r fun y hy => h y (List.mem_cons_of_mem _ hy)
    have hz := h z List.mem_cons_self
    have h3 : sepW.cps.toList.length = 3 := by decide +kernel
    simp only [List.map_cons, List.flatten_cons, List.length_append, List.length_cons, h3, slen, Nat.mul_succ]
    omega
theorem text_len {us : List Th} (hp : ∀ t ∈ us, PairOK t) (hl : us.length ≤ 10) : (textOf us).length ≤ 300 := by
  unfold textOf
  cases us with
  | nil =>
    rw [if_pos rfl]
    have : ("none" : Str).length = 4 := by decide +kernel
    omega
  | cons t r =>
    rw [if_neg (by simp), List.map_cons, ← slen, join_cps, List.length_append, slen]
    have h1 := (pair_rule (hp t List.mem_cons_self)).2
    have h2 := flat_len2 17 (r.map wS) fun z hz => by
      obtain ⟨u, hu, rfl⟩ := List.mem_map.mp hz
      exact (pair_rule (hp u (List.mem_cons_of_mem _ hu))).2
    simp only [List.length_map, List.length_cons] at h2 hl
    omega
def Bd : Nat → Nat
  | 0 => 100000
  | 1 => 24985
  | 2 => 6231
  | 3 => 1542
  | _ => 370
theorem bd_step {r x : Nat} (hr : r ≤ 3) (h : x ≤ Bd (r + 1)) : x ≤ 30000 ∧ 4 * x + 60 ≤ Bd r := by
  match r, hr with
  | 0, _ => simp only [Bd] at h ⊢; omega
  | 1, _ => simp only [Bd] at h ⊢; omega
  | 2, _ => simp only [Bd] at h ⊢; omega
  | 3, _ => simp only [Bd] at h ⊢; omega
abbrev s6 (ns : List Int) (T : Th) (m : Int) (x : Str) (c e : Option Dv) : Sd := [some (Dv.th (.lst (ns.map Th.int))), some (Dv.th T), some (Dv.th (.int m)), some (Dv.th (.str x)), c, e]
theorem eq_rules : ∀ (us : List Th), (∀ u ∈ us, aRule u) → eqThL us us = true
  | [], _ => rfl
  | u :: us, h => by
    obtain ⟨l, r, rfl, _⟩ := h u List.mem_cons_self
    have ih := eq_rules us fun v hv => h v (List.mem_cons_of_mem _ hv)
    simp [eqThL, eqTh, ih]
theorem holds (ns : List Int) (hns : ns.length ≤ 63) : phi_law [.lst (ns.map Th.int)] = some (.bl true) := by
  obtain ⟨m0, _, _, e0⟩ := mixed_eq ns 0 (by decide)
  obtain ⟨m1, g1, g1', e1⟩ := mixed_eq ns 1 (by decide)
  obtain ⟨ts, er, pr, lr⟩ := rules_eq m0
  have s3 : ∃ us, fIf (fAndT (fTest (f2 oEq (f2 oMod (f2 oDiv (fVarB 2) (fC (.int 3))) (fC (.int 8))) (fC (.int 5)))) (fTest (f2 oNe (fVarB 1) (fC (.tup []))))) (fSet 1 (fSl (f2 oTimes (fVarB 1) (fC (.int 10))) fNoPart (fPart (f2 oPlus (fC (.int 7)) (f2 oMod (f2 oDiv (fVarB 2) (fC (.int 24))) (fC (.int 4))))))) fNext
      [some (Dv.th (.lst (ns.map Th.int))), some (Dv.th (.tup ts)), some (Dv.th (.int m1)), none, none, none] = some (.nx [some (Dv.th (.lst (ns.map Th.int))), some (Dv.th (.tup us)), some (Dv.th (.int m1)), none, none, none]) ∧ (∀ t ∈ us, PairOK t) ∧ us.length ≤ 10 := by
    have stay : ∀ b : Bool, b = false → ∃ us, (some (Out.nx [some (Dv.th (.lst (ns.map Th.int))), some (Dv.th (.tup ts)), some (Dv.th (.int m1)), none, none, none])) = some (.nx [some (Dv.th (.lst (ns.map Th.int))), some (Dv.th (.tup us)), some (Dv.th (.int m1)), none, none, none]) ∧ (∀ t ∈ us, PairOK t) ∧ us.length ≤ 10 := fun _ _ => ⟨ts, rfl, pr, by omega⟩
    cases hc : (m1 / 3 % 8 == 5) with
    | false =>
      obtain ⟨us, h1, h2⟩ := stay false rfl
      refine ⟨us, ?_, h2⟩
      rw [← h1]
      walk_at "ev"
      simp only [hc]
      try walk_at "ev"
      try rfl
    | true =>
      have hd : dpL ts ≤ 1 := dp_rules ts fun u hu => (pair_rule (pr u hu)).1
      have hne : oNe (.tup ts) (.tup []) = some (.bl (!eqThL ts [])) := by
        unfold oNe
        rw [if_pos (decide_eq_true (by unfold dp; omega))]
        rfl
      by_cases he : ts = []
      · obtain ⟨us, h1, h2⟩ := stay false rfl
        refine ⟨us, ?_, h2⟩
        rw [← h1]
        subst he
        walk_at "ev"
        simp only [hc, hne]
        try walk_at "ev"
        try rfl
      · have hlen : ts.length ≠ 0 := fun z => he (List.length_eq_zero_iff.mp z)
        have hq : eqThL ts [] = false := by
          cases ts with
          | nil => exact absurd rfl he
          | cons _ _ => rfl
        have tt := times_tup (ts := ts) (j := 10) hlen (by decide) (by decide) (by simp; omega)
        have hm0 : 0 ≤ m1 / 24 % 4 := Int.emod_nonneg _ (by decide)
        have hm1 : m1 / 24 % 4 < 4 := Int.emod_lt_of_pos _ (by decide)
        refine ⟨cutL (List.replicate (10 : Int).toNat ts).flatten none (some (7 + m1 / 24 % 4)), ?_, fun t ht => pr t (flat_mem (cut_mem ht)), ?_⟩
        · walk_at "ev"
          simp only [hc, hne, hq, Bool.not_false, if_true, Option.bind_some]
          try walk_at "ev"
          simp only [tt, Option.bind_some]
          try rfl
        · rw [cut_to _ (by omega), List.length_take]
          omega
  obtain ⟨us, f3, pu, lu⟩ := s3
  have hw := l_written_gen (ts := us) (by omega) fun t ht => (pair_rule (pu t ht)).1
  have tl := text_len pu lu
  unfold phi_law b_law
  refine runD_rt rfl ?_
  refine (fSeq_nx (d' := [some (Dv.th (.lst (ns.map Th.int))), some (Dv.th (.tup ts)), none, none, none, none]) ?_).trans ?_
  · walk_at "ev"
    simp only [e0, Option.bind_some, er]
    rfl
  refine (fSeq_nx (d' := [some (Dv.th (.lst (ns.map Th.int))), some (Dv.th (.tup ts)), some (Dv.th (.int m1)), none, none, none]) ?_).trans ?_
  · walk_at "ev"
    simp only [e1]
    rfl
  refine (fSeq_nx f3).trans ?_
  refine (fSeq_nx (d' := s6 ns (.tup us) m1 (textOf us) none none) ?_).trans ?_
  · walk_at "ev"
    simp only [hw]
    rfl
  have hm0 : 0 ≤ m1 % 3 := Int.emod_nonneg _ (by decide)
  have hm1 : m1 % 3 < 3 := Int.emod_lt_of_pos _ (by decide)
  have hh0 : 0 ≤ m1 / 96 % 2 := Int.emod_nonneg _ (by decide)
  have hh1 : m1 / 96 % 2 < 2 := Int.emod_lt_of_pos _ (by decide)
  have hc4 : 0 ≤ m1 % 3 * (1 + m1 / 96 % 2) ∧ m1 % 3 * (1 + m1 / 96 % 2) ≤ 4 := by
    have h2 : m1 / 96 % 2 = 0 ∨ m1 / 96 % 2 = 1 := by omega
    rcases h2 with h2 | h2 <;> rw [h2] <;> omega
  have hi : fRange1 (f2 oTimes (f2 oMod (fVarB 2) (fC (.int 3))) (f2 oPlus (fC (.int 1)) (f2 oMod (f2 oDiv (fVarB 2) (fC (.int 96))) (fC (.int 2))))) (s6 ns (.tup us) m1 (textOf us) none none) = some (L2.upTo (m1 % 3 * (1 + m1 / 96 % 2)).toNat) := by
    unfold fRange1
    walk_at "ev"
    rw [if_pos ⟨by omega, by omega⟩]
  have hq4 : (L2.upTo (m1 % 3 * (1 + m1 / 96 % 2)).toNat).length ≤ 4 := by
    unfold L2.upTo
    rw [List.length_map, List.length_range]
    omega
  have hbd : ∀ q, q ≤ 4 → (textOf us).length ≤ Bd q := fun q hq => by
    match q, hq with
    | 0, _ => show _ ≤ 100000; omega
    | 1, _ => show _ ≤ 24985; omega
    | 2, _ => show _ ≤ 6231; omega
    | 3, _ => show _ ≤ 1542; omega
    | 4, _ => show _ ≤ 370; omega
  obtain ⟨d', ef, x, c, rfl, hx⟩ := forL_inv (g := gVar 4) (F := fSet 3 (fCall phi_l_changed_text (fCons (fVar 3) (fCons (fCall phi_l_drawn (fCons (fVar 2) (fCons (fVar 4) fNil))) fNil))))
    (fun ks d => ∃ x c, d = s6 ns (.tup us) m1 x c none ∧ (ks.length ≤ 4 ∧ (∀ t ∈ ks, ∃ k : Nat, t = .int (k : Int)) ∧ x.length ≤ Bd ks.length)) (fun t r d h => by
      obtain ⟨x, c, rfl, hl, hk, hb⟩ := h
      obtain ⟨k, rfl⟩ := hk t List.mem_cons_self
      simp only [List.length_cons] at hl hb
      obtain ⟨b1, b2⟩ := bd_step (by omega) hb
      obtain ⟨y, ey, ly⟩ := changed_eq (x := x) (n := drawn m1 k) b1
      have ed := drawn_eq m1 (k : Int)
      refine ⟨s6 ns (.tup us) m1 x (some (Dv.th (.int (k : Int)))) none, s6 ns (.tup us) m1 y (some (Dv.th (.int (k : Int)))) none, rfl, ?_, y, _, rfl, by omega, fun t ht => hk t (List.mem_cons_of_mem _ ht), by omega⟩
      walk_at "ev"
      simp only [ed, Option.bind_some, ey]
      rfl) _ _ ⟨textOf us, none, rfl, hq4, fun t ht => by
        obtain ⟨k, _, rfl⟩ := List.mem_map.mp ht
        exact ⟨k, rfl⟩, hbd _ hq4⟩
  refine (fSeq_nx ((fFor_of hi).trans ef)).trans ?_
  have hx : x.length ≤ 100000 := hx.2.2
  have ff := found_eq hx
  have fd := due_eq hx
  cases ho : okRead x with
  | false =>
    rw [ho, if_neg Bool.false_ne_true] at ff fd
    refine (fSeq_nx (d' := [some (Dv.th (.lst (ns.map Th.int))), some (Dv.th (.tup us)), some (Dv.th (.int m1)), some (Dv.th (.str x)), c, some (Dv.th .non)]) ?_).trans ?_
    · walk_at "ev"
      simp only [ff]
      rfl
    have en : oEq .non .non = some (.bl true) := by simp [oEq, dp, eqTh]
    have iN : oIsN false .non .non = some (.bl true) := rfl
    walk_at "ev"
    simp only [fd, en, iN, Option.bind_some]
    try walk_at "ev"
    try rfl
  | true =>
    rw [ho, if_pos rfl] at ff fd
    have hr : rulesB (.tup (guess x)) = true := by
      unfold okRead at ho
      rw [Bool.and_eq_true] at ho
      exact ho.1
    have al := l_are_rules_eq (.tup (guess x)) (guess_good hx)
    rw [hr] at al
    have hr2 : ∀ u ∈ guess x, aRule u := by
      simp only [rulesB, Bool.and_eq_true, decide_eq_true_eq, List.all_eq_true] at hr
      exact fun u hu => rule_is (hr.2 u hu)
    have en : oEq (.tup (guess x)) (.tup (guess x)) = some (.bl true) := by
      unfold oEq
      have := dp_rules (guess x) hr2
      rw [if_pos (decide_eq_true (by unfold dp; omega))]
      show some (Th.bl (eqThL (guess x) (guess x))) = _
      rw [eq_rules _ hr2]
    have iN : oIsN false (.tup (guess x)) .non = some (.bl false) := rfl
    refine (fSeq_nx (d' := [some (Dv.th (.lst (ns.map Th.int))), some (Dv.th (.tup us)), some (Dv.th (.int m1)), some (Dv.th (.str x)), c, some (Dv.th (.tup (guess x)))]) ?_).trans ?_
    · walk_at "ev"
      simp only [ff]
      rfl
    walk_at "ev"
    simp only [fd, en, iN, al, Option.bind_some]
    try walk_at "ev"
    try simp only [al]
    try rfl
end K03
namespace K03
open PySem PySem.Spec PyProof.Rows L2
def top (i : Nat) : Stmt := PySem.Challenge.pw_wordmelt_k03_whole_read.main.body.getD i (.Pass ⟨0, 0, 0, 0⟩)
structure Mg (mg : Str → Option Value) : Prop where
  m_ValueError : mg "ValueError" = none
  m_all : mg "all" = none
  m_enumerate : mg "enumerate" = none
  m_int : mg "int" = none
  m_isinstance : mg "isinstance" = none
  m_len : mg "len" = none
  m_range : mg "range" = none
  m_str : mg "str" = none
  m_tuple : mg "tuple" = none
  x_BETWEEN_PARTS : ∃ t, mg "BETWEEN_PARTS" = some (.str (" " : Str) t)
  x_BETWEEN_RULES : ∃ t, mg "BETWEEN_RULES" = some (.str (" ; " : Str) t)
  x_EMPTY_WORD_MARK : ∃ t, mg "EMPTY_WORD_MARK" = some (.str ("-" : Str) t)
  x_LETTERS : ∃ t, mg "LETTERS" = some (.str ("abc" : Str) t)
  x_MIDDLE_PART : ∃ t, mg "MIDDLE_PART" = some (.str ("to" : Str) t)
  x_MOST_LEFT_LETTERS : ∃ t, mg "MOST_LEFT_LETTERS" = some (.int 6 t)
  x_MOST_LETTERS : ∃ t, mg "MOST_LETTERS" = some (.int 12 t)
  x_MOST_RULES : ∃ t, mg "MOST_RULES" = some (.int 8 t)
  x_NO_RULES_MARK : ∃ t, mg "NO_RULES_MARK" = some (.str ("none" : Str) t)
structure Xc (K : PySem.W.Frag) (mg : Str → Option Value) (C_NoRules C_NoText C_MeltError C_NoStep : Addr) : Prop where
  e_NoRules : Exc K mg "NoRules" C_NoRules
  e_NoText : Exc K mg "NoText" C_NoText
  s_NoText_NoText : PySem.W.subIn K (.ref C_NoText) (.ref C_NoText) = some true
  k_NoText : ExcK K C_NoText
  i_NoText_ValueError : PySem.W.kitOne K (.ref C_NoText) (.type "ValueError") = some true
  e_MeltError : Exc K mg "MeltError" C_MeltError
  i_NoText_MeltError : PySem.W.kitOne K (.ref C_NoText) (.ref C_MeltError) = some true
  e_NoStep : Exc K mg "NoStep" C_NoStep
  i_NoText_NoStep : PySem.W.kitOne K (.ref C_NoText) (.ref C_NoStep) = some false
  i_NoText_NoRules : PySem.W.kitOne K (.ref C_NoText) (.ref C_NoRules) = some false
section
variable {P : Program} {w : World} {K : PySem.W.Frag} {mg : Str → Option Value} {base : Heap}
abbrev s_l_drawn : Stmt := top 33
theorem sc_l_drawn : FnScope ["_law_number", "_law_k", "_law_drawn_here"] ["_law_number", "_law_k"] (defScope s_l_drawn) := ⟨rfl, rfl, rfl, by decide +kernel, rfl, by decide +kernel, by decide +kernel⟩
theorem d_l_drawn (m : Mg mg) {f : Addr} (cdv : Value) (A : Around) (outer : List Env) (s : Shared) (H : Hp) (E : XK) (hr : Room 0 (A.deeper (envOfC "_law_drawn" (defScope s_l_drawn) s.heap.objs.size f cdv))) :
    QSs (cxOf CX0 P w K mg base ["_law_number", "_law_k", "_law_drawn_here"] "_law_drawn" (defScope s_l_drawn) f cdv A outer s H E).nox (defBody s_l_drawn) b_l_drawn := by
  have nd := sc_l_drawn.nd
  exact (qpdss_cons (qpds_set (i := 2) nd (by rfl) (by first | exact Or.inl rfl | exact Or.inr rfl) (qpd_mod (QD.pb (qpd_times (QD.pb (qpd_plus (QD.pb (qpd_plus (qpb_var (qv 0)) (QD.pb (qpd_times (QD.pb qpd_int) (qpb_var (qv 1)))))) (QD.pb qpd_int))) (QD.pb qpd_int))) (QD.pb qpd_int))) (qpdss_one (qpds_ret (QD.pb (qpd_mod (QD.pb (qpd_plus (QD.pb (qpd_plus (QD.pb (qpd_times (qpb_var (qv 2)) (qpb_var (qv 2)))) (QD.pb (qpd_times (QD.pb qpd_int) (qpb_var (qv 2)))))) (qpb_var (qv 1)))) (QD.pb qpd_int))))))
theorem ok_l_drawn (m : Mg mg) {f : Addr} {fd : FuncData} (F : Fun K "_law_drawn" "_law_drawn" s_l_drawn f fd) : FnOk P w K mg base CX0 1 f fd ["_law_number", "_law_k"] (spF K phi_l_drawn) :=
  Fun.okQ F sc_l_drawn rfl rfl (d_l_drawn m)
abbrev s_l_tame : Stmt := top 37
theorem sc_l_tame : FnScope ["_law_number", "_law_letters", "_law_found_here", "_law_k", "_law_letter", "_law_drawn_here"] ["_law_number", "_law_letters"] (defScope s_l_tame) := ⟨rfl, rfl, rfl, by decide +kernel, rfl, by decide +kernel, by decide +kernel⟩
theorem d_l_tame (m : Mg mg) {f : Addr} (c_l_drawn : Callee P w K mg base 1 "_law_drawn" phi_l_drawn) (cdv : Value) (A : Around) (outer : List Env) (s : Shared) (H : Hp) (E : XK) (hr : Room 1 (A.deeper (envOfC "_law_tame" (defScope s_l_tame) s.heap.objs.size f cdv))) :
    QSs (cxOf CX0 P w K mg base ["_law_number", "_law_letters", "_law_found_here", "_law_k", "_law_letter", "_law_drawn_here"] "_law_tame" (defScope s_l_tame) f cdv A outer s H E).nox (defBody s_l_tame) b_l_tame := by
  have nd := sc_l_tame.nd
  exact (qpdss_cons (qpds_own (i := 2) nd (by rfl) (by first | exact Or.inl rfl | exact Or.inr rfl) (qpf_slice (QD.pb (qpd_lit (.lst (.cons (.tup (.cons .str (.cons .str .nil)) (by decide)) (.cons (.tup (.cons .str (.cons .str .nil)) (by decide)) (.cons (.tup (.cons .str (.cons .str .nil)) (by decide)) .nil))) (by decide)))) qpdo_none (qpdo_some (qpd_sub (QD.pb (qpd_times (QD.pb qpd_int) (QD.pb (qpd_len (by rfl) m.m_len (qpba_cons (qpb_var (qv 1)) qpba_nil))))) (QD.pb qpd_int))))) (qpdss_cons (qpds_if (qpdt_eq hr (QD.pb (qpd_mod (qpb_var (qv 0)) (QD.pb qpd_int))) (QD.pb qpd_int)) (qpdss_one (qpds_own (i := 2) nd (by rfl) (by first | exact Or.inl rfl | exact Or.inr rfl) (qpf_slice (qpb_var (qv 2)) qpdo_none (qpdo_some (qpd_mod (QD.pb (qpd_fdiv (qpb_var (qv 0)) (QD.pb qpd_int))) (QD.pb qpd_int)))))) qpdss_nil) (qpdss_cons (qpds_for PassesOwn.never (by rfl) (qpdi_enum (by rfl) m.m_enumerate (qpd_var (qv 1))) (qpdg_two (i := 3) (j := 4) (by rfl) nd (by rfl) (by rfl) (by first | exact Or.inl rfl | exact Or.inr rfl) (by first | exact Or.inl rfl | exact Or.inr rfl)) (qpdss_cons (qpds_set (i := 5) nd (by rfl) (by first | exact Or.inl rfl | exact Or.inr rfl) (qpd_call c_l_drawn (hr.mono (by omega)) (by rfl) (qpda_cons (qpd_var (qv 0)) (qpda_cons (qpd_var (qv 3)) qpda_nil)))) (qpdss_one (qpds_if (qpdt_gt (QD.pb (qpd_mod (qpb_var (qv 5)) (QD.pb qpd_int))) (QD.pb qpd_int)) (qpdss_one (qpds_append (i := 2) (qv 2) (qpd_tup (qpda_cons (qpd_times (qpb_var (qv 4)) (QD.pb (qpd_plus (QD.pb qpd_int) (QD.pb (qpd_mod (QD.pb (qpd_fdiv (qpb_var (qv 5)) (QD.pb qpd_int))) (QD.pb qpd_int)))))) (qpda_cons (qpd_times (qpb_var (qv 4)) (QD.pb (qpd_mod (QD.pb (qpd_fdiv (qpb_var (qv 5)) (QD.pb qpd_int))) (QD.pb qpd_int)))) qpda_nil))))) qpdss_nil)))) (qpdss_one (qpds_ret (qpb_var (qv 2)))))))
theorem ok_l_tame (m : Mg mg) {f : Addr} {fd : FuncData} (F : Fun K "_law_tame" "_law_tame" s_l_tame f fd) (c_l_drawn : Callee P w K mg base 1 "_law_drawn" phi_l_drawn) : FnOk P w K mg base CX0 2 f fd ["_law_number", "_law_letters"] (spF K phi_l_tame) :=
  Fun.okQ F sc_l_tame rfl rfl (d_l_tame m c_l_drawn)
abbrev s_l_word : Stmt := top 34
theorem sc_l_word : FnScope ["_law_number", "_law_letters", "_law_most", "_law_found_here", "_law_k"] ["_law_number", "_law_letters", "_law_most"] (defScope s_l_word) := ⟨rfl, rfl, rfl, by decide +kernel, rfl, by decide +kernel, by decide +kernel⟩
theorem d_l_word (m : Mg mg) {f : Addr} (c_l_drawn : Callee P w K mg base 1 "_law_drawn" phi_l_drawn) (cdv : Value) (A : Around) (outer : List Env) (s : Shared) (H : Hp) (E : XK) (hr : Room 1 (A.deeper (envOfC "_law_word" (defScope s_l_word) s.heap.objs.size f cdv))) :
    QSs (cxOf CX0 P w K mg base ["_law_number", "_law_letters", "_law_most", "_law_found_here", "_law_k"] "_law_word" (defScope s_l_word) f cdv A outer s H E).nox (defBody s_l_word) b_l_word := by
  have nd := sc_l_word.nd
  exact (qpdss_cons (qpds_set (i := 3) nd (by rfl) (by first | exact Or.inl rfl | exact Or.inr rfl) qpd_str) (qpdss_cons (qpds_for PassesOwn.never (by rfl) (qpdi_range1 (by rfl) m.m_range (qpd_mod (qpb_var (qv 0)) (QD.pb (qpd_plus (qpb_var (qv 2)) (QD.pb qpd_int))))) (qpdg_var (i := 4) nd (by rfl) (by first | exact Or.inl rfl | exact Or.inr rfl)) (qpdss_one (qpds_set (i := 3) nd (by rfl) (by first | exact Or.inl rfl | exact Or.inr rfl) (qpd_plus (qpb_var (qv 3)) (QD.pb (qpd_ix (qpb_var (qv 1)) (QD.pb (qpd_mod (QD.pb (qpd_fdiv (QD.pb (qpd_call c_l_drawn (hr.mono (by omega)) (by rfl) (qpda_cons (qpd_var (qv 0)) (qpda_cons (qpd_var (qv 4)) qpda_nil)))) (QD.pb qpd_int))) (QD.pb (qpd_len (by rfl) m.m_len (qpba_cons (qpb_var (qv 1)) qpba_nil))))) (fun _ _ => rfl))))))) (qpdss_one (qpds_ret (qpb_var (qv 3))))))
theorem ok_l_word (m : Mg mg) {f : Addr} {fd : FuncData} (F : Fun K "_law_word" "_law_word" s_l_word f fd) (c_l_drawn : Callee P w K mg base 1 "_law_drawn" phi_l_drawn) : FnOk P w K mg base CX0 2 f fd ["_law_number", "_law_letters", "_law_most"] (spF K phi_l_word) :=
  Fun.okQ F sc_l_word rfl rfl (d_l_word m c_l_drawn)
abbrev s_l_less : Stmt := top 35
theorem sc_l_less : FnScope ["_law_one", "_law_other"] ["_law_one", "_law_other"] (defScope s_l_less) := ⟨rfl, rfl, rfl, by decide +kernel, rfl, by decide +kernel, by decide +kernel⟩
theorem d_l_less (m : Mg mg) {f : Addr} (cdv : Value) (A : Around) (outer : List Env) (s : Shared) (H : Hp) (E : XK) (hr : Room 0 (A.deeper (envOfC "_law_less" (defScope s_l_less) s.heap.objs.size f cdv))) :
    QSs (cxOf CX0 P w K mg base ["_law_one", "_law_other"] "_law_less" (defScope s_l_less) f cdv A outer s H E).nox (defBody s_l_less) b_l_less := by
  have nd := sc_l_less.nd
  exact (qpdss_one (qpds_ret (QD.pb (qpd_lt hr (QD.pb (qpd_tup (qpda_cons (qpd_len (by rfl) m.m_len (qpba_cons (qpb_var (qv 0)) qpba_nil)) (qpda_cons (qpd_var (qv 0)) qpda_nil)))) (QD.pb (qpd_tup (qpda_cons (qpd_len (by rfl) m.m_len (qpba_cons (qpb_var (qv 1)) qpba_nil)) (qpda_cons (qpd_var (qv 1)) qpda_nil))))))))
theorem ok_l_less (m : Mg mg) {f : Addr} {fd : FuncData} (F : Fun K "_law_less" "_law_less" s_l_less f fd) : FnOk P w K mg base CX0 1 f fd ["_law_one", "_law_other"] (spF K phi_l_less) :=
  Fun.okQ F sc_l_less rfl rfl (d_l_less m)
abbrev s_l_rule : Stmt := top 36
theorem sc_l_rule : FnScope ["_law_number", "_law_letters", "_law_left", "_law_right"] ["_law_number", "_law_letters"] (defScope s_l_rule) := ⟨rfl, rfl, rfl, by decide +kernel, rfl, by decide +kernel, by decide +kernel⟩
theorem d_l_rule (m : Mg mg) {f : Addr} (c_l_word : Callee P w K mg base 2 "_law_word" phi_l_word) (c_l_drawn : Callee P w K mg base 1 "_law_drawn" phi_l_drawn) (c_l_less : Callee P w K mg base 1 "_law_less" phi_l_less) (cdv : Value) (A : Around) (outer : List Env) (s : Shared) (H : Hp) (E : XK) (hr : Room 2 (A.deeper (envOfC "_law_rule" (defScope s_l_rule) s.heap.objs.size f cdv))) :
    QSs (cxOf CX0 P w K mg base ["_law_number", "_law_letters", "_law_left", "_law_right"] "_law_rule" (defScope s_l_rule) f cdv A outer s H E).nox (defBody s_l_rule) b_l_rule := by
  have nd := sc_l_rule.nd
  exact (qpdss_cons (qpds_set (i := 2) nd (by rfl) (by first | exact Or.inl rfl | exact Or.inr rfl) (qpd_plus (QD.pb (qpd_call c_l_word (hr.mono (by omega)) (by rfl) (qpda_cons (qpd_plus (QD.pb (qpd_plus (QD.pb (qpd_times (QD.pb qpd_int) (QD.pb (qpd_fdiv (qpb_var (qv 0)) (QD.pb qpd_int))))) (QD.pb qpd_int))) (QD.pb (qpd_mod (qpb_var (qv 0)) (QD.pb qpd_int)))) (qpda_cons (qpd_var (qv 1)) (qpda_cons qpd_int qpda_nil))))) (QD.pb (qpd_ix (qpb_var (qv 1)) (QD.pb (qpd_mod (QD.pb (qpd_fdiv (qpb_var (qv 0)) (QD.pb qpd_int))) (QD.pb (qpd_len (by rfl) m.m_len (qpba_cons (qpb_var (qv 1)) qpba_nil))))) (fun _ _ => rfl))))) (qpdss_cons (qpds_if (qpdt_eq hr (QD.pb (qpd_mod (QD.pb (qpd_fdiv (qpb_var (qv 0)) (QD.pb qpd_int))) (QD.pb qpd_int))) (QD.pb qpd_int)) (qpdss_one (qpds_set (i := 2) nd (by rfl) (by first | exact Or.inl rfl | exact Or.inr rfl) (qpd_slice (QD.pb (qpd_times (qpb_var (qv 2)) (QD.pb qpd_int))) qpdo_none (qpdo_some (qpd_plus (QD.pb qpd_int) (QD.pb (qpd_mod (QD.pb (qpd_fdiv (qpb_var (qv 0)) (QD.pb qpd_int))) (QD.pb qpd_int)))))))) qpdss_nil) (qpdss_cons (qpds_set (i := 3) nd (by rfl) (by first | exact Or.inl rfl | exact Or.inr rfl) (qpd_call c_l_word (hr.mono (by omega)) (by rfl) (qpda_cons (qpd_call c_l_drawn (hr.mono (by omega)) (by rfl) (qpda_cons (qpd_var (qv 0)) (qpda_cons qpd_int qpda_nil))) (qpda_cons (qpd_var (qv 1)) (qpda_cons (qpd_len (by rfl) m.m_len (qpba_cons (qpb_var (qv 2)) qpba_nil)) qpda_nil))))) (qpdss_cons (qpds_if (qpdt_not (qpdt_val (qpd_call c_l_less (hr.mono (by omega)) (by rfl) (qpda_cons (qpd_var (qv 3)) (qpda_cons (qpd_var (qv 2)) qpda_nil))))) (qpdss_one (qpds_set (i := 3) nd (by rfl) (by first | exact Or.inl rfl | exact Or.inr rfl) (qpd_slice (qpb_var (qv 3)) (qpdo_some qpd_int) (qpdo_some (qpd_len (by rfl) m.m_len (qpba_cons (qpb_var (qv 2)) qpba_nil)))))) qpdss_nil) (qpdss_one (qpds_ret (QD.pb (qpd_tup (qpda_cons (qpd_var (qv 2)) (qpda_cons (qpd_var (qv 3)) qpda_nil))))))))))
theorem ok_l_rule (m : Mg mg) {f : Addr} {fd : FuncData} (F : Fun K "_law_rule" "_law_rule" s_l_rule f fd) (c_l_word : Callee P w K mg base 2 "_law_word" phi_l_word) (c_l_drawn : Callee P w K mg base 1 "_law_drawn" phi_l_drawn) (c_l_less : Callee P w K mg base 1 "_law_less" phi_l_less) : FnOk P w K mg base CX0 3 f fd ["_law_number", "_law_letters"] (spF K phi_l_rule) :=
  Fun.okQ F sc_l_rule rfl rfl (d_l_rule m c_l_word c_l_drawn c_l_less)
abbrev s_l_rules : Stmt := top 38
theorem sc_l_rules : FnScope ["_law_number", "_law_letters", "_law_found_here", "_law_by"] ["_law_number"] (defScope s_l_rules) := ⟨rfl, rfl, rfl, by decide +kernel, rfl, by decide +kernel, by decide +kernel⟩
theorem d_l_rules (m : Mg mg) {f : Addr} (c_l_tame : Callee P w K mg base 2 "_law_tame" phi_l_tame) (c_l_rule : Callee P w K mg base 3 "_law_rule" phi_l_rule) (c_l_drawn : Callee P w K mg base 1 "_law_drawn" phi_l_drawn) (cdv : Value) (A : Around) (outer : List Env) (s : Shared) (H : Hp) (E : XK) (hr : Room 3 (A.deeper (envOfC "_law_rules" (defScope s_l_rules) s.heap.objs.size f cdv))) :
    QSs (cxOf CX0 P w K mg base ["_law_number", "_law_letters", "_law_found_here", "_law_by"] "_law_rules" (defScope s_l_rules) f cdv A outer s H E).nox (defBody s_l_rules) b_l_rules := by
  have nd := sc_l_rules.nd
  exact (qpdss_cons (qpds_set (i := 1) nd (by rfl) (by first | exact Or.inl rfl | exact Or.inr rfl) (qpd_ix (QD.pb (qpd_lit (.tup (.cons .str (.cons .str .nil)) (by decide)))) (QD.pb (qpd_mod (QD.pb (qpd_fdiv (qpb_var (qv 0)) (QD.pb qpd_int))) (QD.pb qpd_int))) (fun _ _ => rfl))) (qpdss_cons (qpds_set (i := 2) nd (by rfl) (by first | exact Or.inl rfl | exact Or.inr rfl) (qpd_call c_l_tame (hr.mono (by omega)) (by rfl) (qpda_cons (qpd_fdiv (qpb_var (qv 0)) (QD.pb qpd_int)) (qpda_cons (qpd_var (qv 1)) qpda_nil)))) (qpdss_cons (qpds_if (qpdt_gt (QD.pb (qpd_mod (qpb_var (qv 0)) (QD.pb qpd_int))) (QD.pb qpd_int)) (qpdss_one (qpds_comp1T (i := 2) nd (by rfl) (by first | exact Or.inl rfl | exact Or.inr rfl) (by rfl) (compS (N := ["_law_number", "_law_letters", "_law_found_here", "_law_by"]) (sc := defScope s_l_rules) (by rfl) (by rfl) (by decide +kernel)) (show (["_law_k", "_law_number", "_law_letters", "_law_found_here", "_law_by"] : List Str).Nodup by decide +kernel) (by rfl) (qpdi_range1 (by rfl) m.m_range (qpd_mod (QD.pb (qpd_fdiv (qpb_var (qv 0)) (QD.pb qpd_int))) (QD.pb qpd_int))) (fun _ _ _ _ _ => qpdif_nil) (fun _ _ _ _ _ => (qpd_call c_l_rule (hr.mono (by omega)) (by rfl) (qpda_cons (qpd_call c_l_drawn (hr.mono (by omega)) (by rfl) (qpda_cons (qpd_var (qv 1)) (qpda_cons (qpd_plus (QD.pb qpd_int) (qpb_var (qv 0))) qpda_nil))) (qpda_cons (qpd_var (qv 2)) qpda_nil)))))) (qpdss_one (qpds_if (qpdt_eq hr (QD.pb (qpd_mod (qpb_var (qv 0)) (QD.pb qpd_int))) (QD.pb qpd_int)) (qpdss_one (qpds_set (i := 2) nd (by rfl) (by first | exact Or.inl rfl | exact Or.inr rfl) (qpd_plus (qpb_var (qv 2)) (QD.pb (QF.pd (qpf_list (qpda_cons (qpd_call c_l_rule (hr.mono (by omega)) (by rfl) (qpda_cons (qpd_call c_l_drawn (hr.mono (by omega)) (by rfl) (qpda_cons (qpd_var (qv 0)) (qpda_cons qpd_int qpda_nil))) (qpda_cons (qpd_var (qv 1)) qpda_nil))) qpda_nil))))))) qpdss_nil))) (qpdss_cons (qpds_set (i := 3) nd (by rfl) (by first | exact Or.inl rfl | exact Or.inr rfl) (qpd_mod (QD.pb (qpd_fdiv (qpb_var (qv 0)) (QD.pb qpd_int))) (QD.pb qpd_int))) (qpdss_one (qpds_ret (QD.pb (qpd_tuple (by rfl) m.m_tuple (qpba_cons (QD.pb (qpd_plus (QD.pb (qpd_slice (qpb_var (qv 2)) (qpdo_some (qpd_var (qv 3))) qpdo_none)) (QD.pb (qpd_slice (qpb_var (qv 2)) qpdo_none (qpdo_some (qpd_var (qv 3))))))) qpba_nil)))))))))
theorem ok_l_rules (m : Mg mg) {f : Addr} {fd : FuncData} (F : Fun K "_law_rules" "_law_rules" s_l_rules f fd) (c_l_tame : Callee P w K mg base 2 "_law_tame" phi_l_tame) (c_l_rule : Callee P w K mg base 3 "_law_rule" phi_l_rule) (c_l_drawn : Callee P w K mg base 1 "_law_drawn" phi_l_drawn) : FnOk P w K mg base CX0 4 f fd ["_law_number"] (spF K phi_l_rules) :=
  Fun.okQ F sc_l_rules rfl rfl (d_l_rules m c_l_tame c_l_rule c_l_drawn)
abbrev s_l_cell_at : Stmt := top 31
theorem sc_l_cell_at : FnScope ["_law_script", "_law_k"] ["_law_script", "_law_k"] (defScope s_l_cell_at) := ⟨rfl, rfl, rfl, by decide +kernel, rfl, by decide +kernel, by decide +kernel⟩
theorem d_l_cell_at (m : Mg mg) {f : Addr} (cdv : Value) (A : Around) (outer : List Env) (s : Shared) (H : Hp) (E : XK) (hr : Room 0 (A.deeper (envOfC "_law_cell_at" (defScope s_l_cell_at) s.heap.objs.size f cdv))) :
    QSs (cxOf CX0 P w K mg base ["_law_script", "_law_k"] "_law_cell_at" (defScope s_l_cell_at) f cdv A outer s H E).nox (defBody s_l_cell_at) b_l_cell_at := by
  have nd := sc_l_cell_at.nd
  exact (qpdss_cons (qpds_if (qpdt_lt hr (qpb_var (qv 1)) (QD.pb (qpd_len (by rfl) m.m_len (qpba_cons (qpb_var (qv 0)) qpba_nil)))) (qpdss_one (qpds_ret (QD.pb (qpd_ix (qpb_var (qv 0)) (qpb_var (qv 1)) (fun _ _ => rfl))))) qpdss_nil) (qpdss_one (qpds_ret (QD.pb qpd_int))))
theorem ok_l_cell_at (m : Mg mg) {f : Addr} {fd : FuncData} (F : Fun K "_law_cell_at" "_law_cell_at" s_l_cell_at f fd) : FnOk P w K mg base CX0 1 f fd ["_law_script", "_law_k"] (spF K phi_l_cell_at) :=
  Fun.okQ F sc_l_cell_at rfl rfl (d_l_cell_at m)
abbrev s_l_mixed : Stmt := top 32
theorem sc_l_mixed : FnScope ["_law_script", "_law_k", "_law_drawn_here"] ["_law_script", "_law_k"] (defScope s_l_mixed) := ⟨rfl, rfl, rfl, by decide +kernel, rfl, by decide +kernel, by decide +kernel⟩
theorem d_l_mixed (m : Mg mg) {f : Addr} (c_l_cell_at : Callee P w K mg base 1 "_law_cell_at" phi_l_cell_at) (cdv : Value) (A : Around) (outer : List Env) (s : Shared) (H : Hp) (E : XK) (hr : Room 1 (A.deeper (envOfC "_law_mixed" (defScope s_l_mixed) s.heap.objs.size f cdv))) :
    QSs (cxOf CX0 P w K mg base ["_law_script", "_law_k", "_law_drawn_here"] "_law_mixed" (defScope s_l_mixed) f cdv A outer s H E).nox (defBody s_l_mixed) b_l_mixed := by
  have nd := sc_l_mixed.nd
  exact (qpdss_cons (qpds_set (i := 2) nd (by rfl) (by first | exact Or.inl rfl | exact Or.inr rfl) (qpd_mod (QD.pb (qpd_times (QD.pb (qpd_plus (QD.pb (qpd_plus (QD.pb (qpd_call c_l_cell_at (hr.mono (by omega)) (by rfl) (qpda_cons (qpd_var (qv 0)) (qpda_cons (qpd_var (qv 1)) qpda_nil)))) (QD.pb (qpd_times (QD.pb qpd_int) (qpb_var (qv 1)))))) (QD.pb qpd_int))) (QD.pb qpd_int))) (QD.pb qpd_int))) (qpdss_one (qpds_ret (QD.pb (qpd_mod (QD.pb (qpd_plus (QD.pb (qpd_plus (QD.pb (qpd_times (qpb_var (qv 2)) (qpb_var (qv 2)))) (QD.pb (qpd_times (QD.pb qpd_int) (qpb_var (qv 2)))))) (qpb_var (qv 1)))) (QD.pb qpd_int))))))
theorem ok_l_mixed (m : Mg mg) {f : Addr} {fd : FuncData} (F : Fun K "_law_mixed" "_law_mixed" s_l_mixed f fd) (c_l_cell_at : Callee P w K mg base 1 "_law_cell_at" phi_l_cell_at) : FnOk P w K mg base CX0 2 f fd ["_law_script", "_law_k"] (spF K phi_l_mixed) :=
  Fun.okQ F sc_l_mixed rfl rfl (d_l_mixed m c_l_cell_at)
abbrev s_l_written : Stmt := top 41
theorem sc_l_written : FnScope ["_law_rules_here", "_law_found_here", "_law_left", "_law_right"] ["_law_rules_here"] (defScope s_l_written) := ⟨rfl, rfl, rfl, by decide +kernel, rfl, by decide +kernel, by decide +kernel⟩
theorem d_l_written (m : Mg mg) {f : Addr} (cdv : Value) (A : Around) (outer : List Env) (s : Shared) (H : Hp) (E : XK) (hr : Room 0 (A.deeper (envOfC "_law_written" (defScope s_l_written) s.heap.objs.size f cdv))) :
    QSs (cxOf CX0 P w K mg base ["_law_rules_here", "_law_found_here", "_law_left", "_law_right"] "_law_written" (defScope s_l_written) f cdv A outer s H E).nox (defBody s_l_written) b_l_written := by
  have nd := sc_l_written.nd
  exact (qpdss_cons (qpds_if (qpdt_eq hr (qpb_var (qv 0)) (QD.pb (qpd_lit (.tup .nil (by decide))))) (qpdss_one (qpds_ret (QD.pb qpd_str))) qpdss_nil) (qpdss_cons (qpds_set (i := 1) nd (by rfl) (by first | exact Or.inl rfl | exact Or.inr rfl) qpd_str) (qpdss_cons (qpds_for PassesOwn.never (by rfl) (qpdi_seq (qpd_var (qv 0))) (qpdg_two (i := 2) (j := 3) (by rfl) nd (by rfl) (by rfl) (by first | exact Or.inl rfl | exact Or.inr rfl) (by first | exact Or.inl rfl | exact Or.inr rfl)) (qpdss_one (qpds_set (i := 1) nd (by rfl) (by first | exact Or.inl rfl | exact Or.inr rfl) (qpd_plus (QD.pb (qpd_plus (QD.pb (qpd_plus (QD.pb (qpd_plus (qpb_var (qv 1)) (QD.pb qpd_str))) (qpb_var (qv 2)))) (QD.pb qpd_str))) (QD.pb (qpd_ix (QD.pb (QF.pd (qpf_list (qpda_cons (qpd_var (qv 3)) (qpda_cons qpd_str qpda_nil))))) (QD.pb (qpd_intC (by rfl) m.m_int (qpba_cons (QD.pb (qpd_eq hr (qpb_var (qv 3)) (QD.pb qpd_str))) qpba_nil))) (fun _ _ => rfl))))))) (qpdss_one (qpds_ret (QD.pb (qpd_slice (qpb_var (qv 1)) (qpdo_some qpd_int) qpdo_none)))))))
theorem ok_l_written (m : Mg mg) {f : Addr} {fd : FuncData} (F : Fun K "_law_written" "_law_written" s_l_written f fd) : FnOk P w K mg base CX0 1 f fd ["_law_rules_here"] (spF K phi_l_written) :=
  Fun.okQ F sc_l_written rfl rfl (d_l_written m)
abbrev s_guessed_right : Stmt := top 29
theorem sc_guessed_right : FnScope ["text"] ["text"] (defScope s_guessed_right) := ⟨rfl, rfl, rfl, by decide +kernel, rfl, by decide +kernel, by decide +kernel⟩
theorem d_guessed_right (m : Mg mg) {f : Addr} (cdv : Value) (A : Around) (outer : List Env) (s : Shared) (H : Hp) (E : XK) (hr : Room 0 (A.deeper (envOfC "guessed_right" (defScope s_guessed_right) s.heap.objs.size f cdv))) :
    QSs (cxOf CX0 P w K mg base ["text"] "guessed_right" (defScope s_guessed_right) f cdv A outer s H E).nox (defBody s_guessed_right) b_guessed_right := by
  have nd := sc_guessed_right.nd
  obtain ⟨t_EMPTY_WORD_MARK, e_EMPTY_WORD_MARK⟩ := m.x_EMPTY_WORD_MARK
  exact (qpdss_one (qpds_ret (QD.pb (qpd_if (qpdt_eq hr (qpb_var (qv 0)) (QD.pb (qpd_globS (by rfl) e_EMPTY_WORD_MARK))) qpd_str (qpd_var (qv 0))))))
theorem ok_guessed_right (m : Mg mg) {f : Addr} {fd : FuncData} (F : Fun K "guessed_right" "guessed_right" s_guessed_right f fd) : FnOk P w K mg base CX0 1 f fd ["text"] (spF K phi_guessed_right) :=
  Fun.okQ F sc_guessed_right rfl rfl (d_guessed_right m)
abbrev s_guessed_rule : Stmt := top 28
theorem sc_guessed_rule : FnScope ["text", "parts"] ["text"] (defScope s_guessed_rule) := ⟨rfl, rfl, rfl, by decide +kernel, rfl, by decide +kernel, by decide +kernel⟩
theorem d_guessed_rule (m : Mg mg) {f : Addr} (c_guessed_right : Callee P w K mg base 1 "guessed_right" phi_guessed_right) (cdv : Value) (A : Around) (outer : List Env) (s : Shared) (H : Hp) (E : XK) (hr : Room 1 (A.deeper (envOfC "guessed_rule" (defScope s_guessed_rule) s.heap.objs.size f cdv))) :
    QSs (cxOf CX0 P w K mg base ["text", "parts"] "guessed_rule" (defScope s_guessed_rule) f cdv A outer s H E).nox (defBody s_guessed_rule) b_guessed_rule := by
  have nd := sc_guessed_rule.nd
  obtain ⟨t_BETWEEN_PARTS, e_BETWEEN_PARTS⟩ := m.x_BETWEEN_PARTS
  exact (qpdss_cons (qpds_set (i := 1) nd (by rfl) (by first | exact Or.inl rfl | exact Or.inr rfl) (QF.pd (qpf_split (qpb_var (qv 0)) (QD.pb (qpd_globS (by rfl) e_BETWEEN_PARTS))))) (qpdss_one (qpds_ret (QD.pb (qpd_tup (qpda_cons (qpd_ix (qpb_var (qv 1)) (QD.pb qpd_int) (fun _ _ => rfl)) (qpda_cons (qpd_call c_guessed_right (hr.mono (by omega)) (by rfl) (qpda_cons (qpd_ix (qpb_var (qv 1)) (QD.pb (qpd_neg qpd_int)) (fun _ _ => rfl)) qpda_nil)) qpda_nil)))))))
theorem ok_guessed_rule (m : Mg mg) {f : Addr} {fd : FuncData} (F : Fun K "guessed_rule" "guessed_rule" s_guessed_rule f fd) (c_guessed_right : Callee P w K mg base 1 "guessed_right" phi_guessed_right) : FnOk P w K mg base CX0 2 f fd ["text"] (spF K phi_guessed_rule) :=
  Fun.okQ F sc_guessed_rule rfl rfl (d_guessed_rule m c_guessed_right)
abbrev s_guessed_rules : Stmt := top 27
theorem sc_guessed_rules : FnScope ["text"] ["text"] (defScope s_guessed_rules) := ⟨rfl, rfl, rfl, by decide +kernel, rfl, by decide +kernel, by decide +kernel⟩
theorem d_guessed_rules (m : Mg mg) {f : Addr} (c_guessed_rule : Callee P w K mg base 2 "guessed_rule" phi_guessed_rule) (cdv : Value) (A : Around) (outer : List Env) (s : Shared) (H : Hp) (E : XK) (hr : Room 2 (A.deeper (envOfC "guessed_rules" (defScope s_guessed_rules) s.heap.objs.size f cdv))) :
    QSs (cxOf CX0 P w K mg base ["text"] "guessed_rules" (defScope s_guessed_rules) f cdv A outer s H E).nox (defBody s_guessed_rules) b_guessed_rules := by
  have nd := sc_guessed_rules.nd
  obtain ⟨t_BETWEEN_RULES, e_BETWEEN_RULES⟩ := m.x_BETWEEN_RULES
  obtain ⟨t_NO_RULES_MARK, e_NO_RULES_MARK⟩ := m.x_NO_RULES_MARK
  exact (qpdss_cons (qpds_if (qpdt_eq hr (qpb_var (qv 0)) (QD.pb (qpd_globS (by rfl) e_NO_RULES_MARK))) (qpdss_one (qpds_ret (QD.pb (qpd_lit (.tup .nil (by decide)))))) qpdss_nil) (qpdss_one (qpds_ret (QD.pb (qpd_tuple (by rfl) m.m_tuple (qpba_cons (QD.pb (QF.pd (qpf_comp1 (by rfl) (compS (N := ["text"]) (sc := defScope s_guessed_rules) (by rfl) (by rfl) (by decide +kernel)) (show (["part", "text"] : List Str).Nodup by decide +kernel) (by rfl) (qpdi_any (QF.pd (qpf_split (qpb_var (qv 0)) (QD.pb (qpd_globS (by rfl) e_BETWEEN_RULES))))) (fun _ _ _ _ _ => qpdif_nil) (fun _ _ _ _ _ => (qpd_call c_guessed_rule (hr.mono (by omega)) (by rfl) (qpda_cons (qpd_var (qv 0)) qpda_nil)))))) qpba_nil))))))
theorem ok_guessed_rules (m : Mg mg) {f : Addr} {fd : FuncData} (F : Fun K "guessed_rules" "guessed_rules" s_guessed_rules f fd) (c_guessed_rule : Callee P w K mg base 2 "guessed_rule" phi_guessed_rule) : FnOk P w K mg base CX0 3 f fd ["text"] (spF K phi_guessed_rules) :=
  Fun.okQ F sc_guessed_rules rfl rfl (d_guessed_rules m c_guessed_rule)
abbrev s_is_word : Stmt := top 10
theorem sc_is_word : FnScope ["thing"] ["thing"] (defScope s_is_word) := ⟨rfl, rfl, rfl, by decide +kernel, rfl, by decide +kernel, by decide +kernel⟩
theorem d_is_word (m : Mg mg) {f : Addr} (cdv : Value) (A : Around) (outer : List Env) (s : Shared) (H : Hp) (E : XK) (hr : Room 0 (A.deeper (envOfC "is_word" (defScope s_is_word) s.heap.objs.size f cdv))) :
    QSs (cxOf CX0 P w K mg base ["thing"] "is_word" (defScope s_is_word) f cdv A outer s H E).nox (defBody s_is_word) b_is_word := by
  have nd := sc_is_word.nd
  obtain ⟨t_LETTERS, e_LETTERS⟩ := m.x_LETTERS
  obtain ⟨t_MOST_LETTERS, e_MOST_LETTERS⟩ := m.x_MOST_LETTERS
  exact (qpdss_one (qpds_ret (QD.pb (qpd_and (qpd_isI BaseT.str (qpb_var (qv 0)) (by rfl) m.m_isinstance (by rfl) m.m_str (by rfl)) (qpd_and (qpd_le (QD.pb (qpd_len (by rfl) m.m_len (qpba_cons (qpb_var (qv 0)) qpba_nil))) (QD.pb (qpd_globI (by rfl) e_MOST_LETTERS))) (qpd_one (qpd_all (by rfl) (by rfl) m.m_all (qpba_cons (QD.pb (QF.pd (qpf_comp1 (by rfl) (compS (N := ["thing"]) (sc := defScope s_is_word) (by rfl) (by rfl) (by decide +kernel)) (show (["sign", "thing"] : List Str).Nodup by decide +kernel) (by rfl) (qpdi_any (qpd_var (qv 0))) (fun _ _ _ _ _ => qpdif_nil) (fun _ _ _ _ _ => (qpd_in hr (qpb_var (qv 0)) (QD.pb (qpd_globS (by rfl) e_LETTERS))))))) qpba_nil))))))))
theorem ok_is_word (m : Mg mg) {f : Addr} {fd : FuncData} (F : Fun K "is_word" "is_word" s_is_word f fd) : FnOk P w K mg base CX0 1 f fd ["thing"] (spF K phi_is_word) :=
  Fun.okQ F sc_is_word rfl rfl (d_is_word m)
abbrev s_is_pair_of_words : Stmt := top 13
theorem sc_is_pair_of_words : FnScope ["thing"] ["thing"] (defScope s_is_pair_of_words) := ⟨rfl, rfl, rfl, by decide +kernel, rfl, by decide +kernel, by decide +kernel⟩
theorem d_is_pair_of_words (m : Mg mg) {f : Addr} (c_is_word : Callee P w K mg base 1 "is_word" phi_is_word) (cdv : Value) (A : Around) (outer : List Env) (s : Shared) (H : Hp) (E : XK) (hr : Room 1 (A.deeper (envOfC "is_pair_of_words" (defScope s_is_pair_of_words) s.heap.objs.size f cdv))) :
    QSs (cxOf CX0 P w K mg base ["thing"] "is_pair_of_words" (defScope s_is_pair_of_words) f cdv A outer s H E).nox (defBody s_is_pair_of_words) b_is_pair_of_words := by
  have nd := sc_is_pair_of_words.nd
  exact (qpdss_one (qpds_ret (QD.pb (qpd_and (qpd_isI BaseT.tuple (qpb_var (qv 0)) (by rfl) m.m_isinstance (by rfl) m.m_tuple (by rfl)) (qpd_and (qpd_eq hr (QD.pb (qpd_len (by rfl) m.m_len (qpba_cons (qpb_var (qv 0)) qpba_nil))) (QD.pb qpd_int)) (qpd_one (qpd_all (by rfl) (by rfl) m.m_all (qpba_cons (QD.pb (QF.pd (qpf_comp1 (by rfl) (compS (N := ["thing"]) (sc := defScope s_is_pair_of_words) (by rfl) (by rfl) (by decide +kernel)) (show (["part", "thing"] : List Str).Nodup by decide +kernel) (by rfl) (qpdi_any (qpd_var (qv 0))) (fun _ _ _ _ _ => qpdif_nil) (fun _ _ _ _ _ => (qpd_call c_is_word (hr.mono (by omega)) (by rfl) (qpda_cons (qpd_var (qv 0)) qpda_nil)))))) qpba_nil))))))))
theorem ok_is_pair_of_words (m : Mg mg) {f : Addr} {fd : FuncData} (F : Fun K "is_pair_of_words" "is_pair_of_words" s_is_pair_of_words f fd) (c_is_word : Callee P w K mg base 1 "is_word" phi_is_word) : FnOk P w K mg base CX0 2 f fd ["thing"] (spF K phi_is_pair_of_words) :=
  Fun.okQ F sc_is_pair_of_words rfl rfl (d_is_pair_of_words m c_is_word)
abbrev s_rank : Stmt := top 15
theorem sc_rank : FnScope ["word"] ["word"] (defScope s_rank) := ⟨rfl, rfl, rfl, by decide +kernel, rfl, by decide +kernel, by decide +kernel⟩
theorem d_rank (m : Mg mg) {f : Addr} (cdv : Value) (A : Around) (outer : List Env) (s : Shared) (H : Hp) (E : XK) (hr : Room 0 (A.deeper (envOfC "rank" (defScope s_rank) s.heap.objs.size f cdv))) :
    QSs (cxOf CX0 P w K mg base ["word"] "rank" (defScope s_rank) f cdv A outer s H E).nox (defBody s_rank) b_rank := by
  have nd := sc_rank.nd
  exact (qpdss_one (qpds_ret (QD.pb (qpd_tup (qpda_cons (qpd_len (by rfl) m.m_len (qpba_cons (qpb_var (qv 0)) qpba_nil)) (qpda_cons (qpd_var (qv 0)) qpda_nil))))))
theorem ok_rank (m : Mg mg) {f : Addr} {fd : FuncData} (F : Fun K "rank" "rank" s_rank f fd) : FnOk P w K mg base CX0 1 f fd ["word"] (spF K phi_rank) :=
  Fun.okQ F sc_rank rfl rfl (d_rank m)
abbrev s_is_less : Stmt := top 14
theorem sc_is_less : FnScope ["one", "other"] ["one", "other"] (defScope s_is_less) := ⟨rfl, rfl, rfl, by decide +kernel, rfl, by decide +kernel, by decide +kernel⟩
theorem d_is_less (m : Mg mg) {f : Addr} (c_rank : Callee P w K mg base 1 "rank" phi_rank) (cdv : Value) (A : Around) (outer : List Env) (s : Shared) (H : Hp) (E : XK) (hr : Room 1 (A.deeper (envOfC "is_less" (defScope s_is_less) s.heap.objs.size f cdv))) :
    QSs (cxOf CX0 P w K mg base ["one", "other"] "is_less" (defScope s_is_less) f cdv A outer s H E).nox (defBody s_is_less) b_is_less := by
  have nd := sc_is_less.nd
  exact (qpdss_one (qpds_ret (QD.pb (qpd_lt hr (QD.pb (qpd_call c_rank (hr.mono (by omega)) (by rfl) (qpda_cons (qpd_var (qv 0)) qpda_nil))) (QD.pb (qpd_call c_rank (hr.mono (by omega)) (by rfl) (qpda_cons (qpd_var (qv 1)) qpda_nil)))))))
theorem ok_is_less (m : Mg mg) {f : Addr} {fd : FuncData} (F : Fun K "is_less" "is_less" s_is_less f fd) (c_rank : Callee P w K mg base 1 "rank" phi_rank) : FnOk P w K mg base CX0 2 f fd ["one", "other"] (spF K phi_is_less) :=
  Fun.okQ F sc_is_less rfl rfl (d_is_less m c_rank)
abbrev s_is_rule : Stmt := top 12
theorem sc_is_rule : FnScope ["thing", "left", "right"] ["thing"] (defScope s_is_rule) := ⟨rfl, rfl, rfl, by decide +kernel, rfl, by decide +kernel, by decide +kernel⟩
theorem d_is_rule (m : Mg mg) {f : Addr} (c_is_pair_of_words : Callee P w K mg base 2 "is_pair_of_words" phi_is_pair_of_words) (c_is_less : Callee P w K mg base 2 "is_less" phi_is_less) (cdv : Value) (A : Around) (outer : List Env) (s : Shared) (H : Hp) (E : XK) (hr : Room 2 (A.deeper (envOfC "is_rule" (defScope s_is_rule) s.heap.objs.size f cdv))) :
    QSs (cxOf CX0 P w K mg base ["thing", "left", "right"] "is_rule" (defScope s_is_rule) f cdv A outer s H E).nox (defBody s_is_rule) b_is_rule := by
  have nd := sc_is_rule.nd
  obtain ⟨t_MOST_LEFT_LETTERS, e_MOST_LEFT_LETTERS⟩ := m.x_MOST_LEFT_LETTERS
  exact (qpdss_cons (qpds_if (qpdt_not (qpdt_val (qpd_call c_is_pair_of_words (hr.mono (by omega)) (by rfl) (qpda_cons (qpd_var (qv 0)) qpda_nil)))) (qpdss_one (qpds_ret (QD.pb qpd_bl))) qpdss_nil) (qpdss_cons (qpds_set (i := 1) nd (by rfl) (by first | exact Or.inl rfl | exact Or.inr rfl) (qpd_ix (qpb_var (qv 0)) (QD.pb qpd_int) (fun _ _ => rfl))) (qpdss_cons (qpds_set (i := 2) nd (by rfl) (by first | exact Or.inl rfl | exact Or.inr rfl) (qpd_ix (qpb_var (qv 0)) (QD.pb qpd_int) (fun _ _ => rfl))) (qpdss_one (qpds_ret (QD.pb (qpd_and (qpd_chainLE (QD.pb qpd_int) (QD.pb (qpd_len (by rfl) m.m_len (qpba_cons (qpb_var (qv 1)) qpba_nil))) (QD.pb (qpd_globI (by rfl) e_MOST_LEFT_LETTERS))) (qpd_one (qpd_call c_is_less (hr.mono (by omega)) (by rfl) (qpda_cons (qpd_var (qv 2)) (qpda_cons (qpd_var (qv 1)) qpda_nil)))))))))))
theorem ok_is_rule (m : Mg mg) {f : Addr} {fd : FuncData} (F : Fun K "is_rule" "is_rule" s_is_rule f fd) (c_is_pair_of_words : Callee P w K mg base 2 "is_pair_of_words" phi_is_pair_of_words) (c_is_less : Callee P w K mg base 2 "is_less" phi_is_less) : FnOk P w K mg base CX0 3 f fd ["thing"] (spF K phi_is_rule) :=
  Fun.okQ F sc_is_rule rfl rfl (d_is_rule m c_is_pair_of_words c_is_less)
abbrev s_are_rules : Stmt := top 11
theorem sc_are_rules : FnScope ["thing"] ["thing"] (defScope s_are_rules) := ⟨rfl, rfl, rfl, by decide +kernel, rfl, by decide +kernel, by decide +kernel⟩
theorem d_are_rules (m : Mg mg) {f : Addr} (c_is_rule : Callee P w K mg base 3 "is_rule" phi_is_rule) (cdv : Value) (A : Around) (outer : List Env) (s : Shared) (H : Hp) (E : XK) (hr : Room 3 (A.deeper (envOfC "are_rules" (defScope s_are_rules) s.heap.objs.size f cdv))) :
    QSs (cxOf CX0 P w K mg base ["thing"] "are_rules" (defScope s_are_rules) f cdv A outer s H E).nox (defBody s_are_rules) b_are_rules := by
  have nd := sc_are_rules.nd
  obtain ⟨t_MOST_RULES, e_MOST_RULES⟩ := m.x_MOST_RULES
  exact (qpdss_one (qpds_ret (QD.pb (qpd_and (qpd_isI BaseT.tuple (qpb_var (qv 0)) (by rfl) m.m_isinstance (by rfl) m.m_tuple (by rfl)) (qpd_and (qpd_le (QD.pb (qpd_len (by rfl) m.m_len (qpba_cons (qpb_var (qv 0)) qpba_nil))) (QD.pb (qpd_globI (by rfl) e_MOST_RULES))) (qpd_one (qpd_all (by rfl) (by rfl) m.m_all (qpba_cons (QD.pb (QF.pd (qpf_comp1 (by rfl) (compS (N := ["thing"]) (sc := defScope s_are_rules) (by rfl) (by rfl) (by decide +kernel)) (show (["part", "thing"] : List Str).Nodup by decide +kernel) (by rfl) (qpdi_any (qpd_var (qv 0))) (fun _ _ _ _ _ => qpdif_nil) (fun _ _ _ _ _ => (qpd_call c_is_rule (hr.mono (by omega)) (by rfl) (qpda_cons (qpd_var (qv 0)) qpda_nil)))))) qpba_nil))))))))
theorem ok_are_rules (m : Mg mg) {f : Addr} {fd : FuncData} (F : Fun K "are_rules" "are_rules" s_are_rules f fd) (c_is_rule : Callee P w K mg base 3 "is_rule" phi_is_rule) : FnOk P w K mg base CX0 4 f fd ["thing"] (spF K phi_are_rules) :=
  Fun.okQ F sc_are_rules rfl rfl (d_are_rules m c_is_rule)
abbrev s_written_right : Stmt := top 24
theorem sc_written_right : FnScope ["word"] ["word"] (defScope s_written_right) := ⟨rfl, rfl, rfl, by decide +kernel, rfl, by decide +kernel, by decide +kernel⟩
theorem d_written_right (m : Mg mg) {f : Addr} (cdv : Value) (A : Around) (outer : List Env) (s : Shared) (H : Hp) (E : XK) (hr : Room 0 (A.deeper (envOfC "written_right" (defScope s_written_right) s.heap.objs.size f cdv))) :
    QSs (cxOf CX0 P w K mg base ["word"] "written_right" (defScope s_written_right) f cdv A outer s H E).nox (defBody s_written_right) b_written_right := by
  have nd := sc_written_right.nd
  obtain ⟨t_EMPTY_WORD_MARK, e_EMPTY_WORD_MARK⟩ := m.x_EMPTY_WORD_MARK
  exact (qpdss_one (qpds_ret (QD.pb (qpd_if (qpdt_eq hr (qpb_var (qv 0)) (QD.pb qpd_str)) (qpd_globS (by rfl) e_EMPTY_WORD_MARK) (qpd_var (qv 0))))))
theorem ok_written_right (m : Mg mg) {f : Addr} {fd : FuncData} (F : Fun K "written_right" "written_right" s_written_right f fd) : FnOk P w K mg base CX0 1 f fd ["word"] (spF K phi_written_right) :=
  Fun.okQ F sc_written_right rfl rfl (d_written_right m)
abbrev s_written_rule : Stmt := top 23
theorem sc_written_rule : FnScope ["rule"] ["rule"] (defScope s_written_rule) := ⟨rfl, rfl, rfl, by decide +kernel, rfl, by decide +kernel, by decide +kernel⟩
theorem d_written_rule (m : Mg mg) {f : Addr} (c_written_right : Callee P w K mg base 1 "written_right" phi_written_right) (cdv : Value) (A : Around) (outer : List Env) (s : Shared) (H : Hp) (E : XK) (hr : Room 1 (A.deeper (envOfC "written_rule" (defScope s_written_rule) s.heap.objs.size f cdv))) :
    QSs (cxOf CX0 P w K mg base ["rule"] "written_rule" (defScope s_written_rule) f cdv A outer s H E).nox (defBody s_written_rule) b_written_rule := by
  have nd := sc_written_rule.nd
  obtain ⟨t_BETWEEN_PARTS, e_BETWEEN_PARTS⟩ := m.x_BETWEEN_PARTS
  obtain ⟨t_MIDDLE_PART, e_MIDDLE_PART⟩ := m.x_MIDDLE_PART
  exact (qpdss_one (qpds_ret (QD.pb (qpd_join (QD.pb (qpd_globS (by rfl) e_BETWEEN_PARTS)) (QD.pb (QF.pd (qpf_list (qpda_cons (qpd_ix (qpb_var (qv 0)) (QD.pb qpd_int) (fun _ _ => rfl)) (qpda_cons (qpd_globS (by rfl) e_MIDDLE_PART) (qpda_cons (qpd_call c_written_right (hr.mono (by omega)) (by rfl) (qpda_cons (qpd_ix (qpb_var (qv 0)) (QD.pb qpd_int) (fun _ _ => rfl)) qpda_nil)) qpda_nil))))))))))
theorem ok_written_rule (m : Mg mg) {f : Addr} {fd : FuncData} (F : Fun K "written_rule" "written_rule" s_written_rule f fd) (c_written_right : Callee P w K mg base 1 "written_right" phi_written_right) : FnOk P w K mg base CX0 2 f fd ["rule"] (spF K phi_written_rule) :=
  Fun.okQ F sc_written_rule rfl rfl (d_written_rule m c_written_right)
abbrev s_written : Stmt := top 22
theorem sc_written : FnScope ["rules"] ["rules"] (defScope s_written) := ⟨rfl, rfl, rfl, by decide +kernel, rfl, by decide +kernel, by decide +kernel⟩
theorem d_written (m : Mg mg) {f : Addr} {C_NoRules C_NoText C_MeltError C_NoStep : Addr} (z : Xc K mg C_NoRules C_NoText C_MeltError C_NoStep) (c_are_rules : Callee P w K mg base 4 "are_rules" phi_are_rules) (c_written_rule : Callee P w K mg base 2 "written_rule" phi_written_rule) (cdv : Value) (A : Around) (outer : List Env) (s : Shared) (H : Hp) (E : XK) (hr : Room 4 (A.deeper (envOfC "written" (defScope s_written) s.heap.objs.size f cdv))) :
    QSs (cxOf CX0 P w K mg base ["rules"] "written" (defScope s_written) f cdv A outer s H E).nox (defBody s_written) b_written := by
  have nd := sc_written.nd
  obtain ⟨t_BETWEEN_RULES, e_BETWEEN_RULES⟩ := m.x_BETWEEN_RULES
  obtain ⟨t_NO_RULES_MARK, e_NO_RULES_MARK⟩ := m.x_NO_RULES_MARK
  exact (qpdss_cons (qpds_if (qpdt_not (qpdt_val (qpd_call c_are_rules (hr.mono (by omega)) (by rfl) (qpda_cons (qpd_var (qv 0)) qpda_nil)))) (qpdss_one (qpds_raise z.e_NoRules (by rfl) (by rfl) (qpda_cons qpd_str qpda_nil))) qpdss_nil) (qpdss_cons (qpds_if (qpdt_eq hr (QD.pb (qpd_len (by rfl) m.m_len (qpba_cons (qpb_var (qv 0)) qpba_nil))) (QD.pb qpd_int)) (qpdss_one (qpds_ret (QD.pb (qpd_globS (by rfl) e_NO_RULES_MARK)))) qpdss_nil) (qpdss_one (qpds_ret (QD.pb (qpd_join (QD.pb (qpd_globS (by rfl) e_BETWEEN_RULES)) (QD.pb (QF.pd (qpf_comp1 (by rfl) (compS (N := ["rules"]) (sc := defScope s_written) (by rfl) (by rfl) (by decide +kernel)) (show (["rule", "rules"] : List Str).Nodup by decide +kernel) (by rfl) (qpdi_any (qpd_var (qv 0))) (fun _ _ _ _ _ => qpdif_nil) (fun _ _ _ _ _ => (qpd_call c_written_rule (hr.mono (by omega)) (by rfl) (qpda_cons (qpd_var (qv 0)) qpda_nil))))))))))))
theorem ok_written (m : Mg mg) {f : Addr} {fd : FuncData} (F : Fun K "written" "written" s_written f fd) {C_NoRules C_NoText C_MeltError C_NoStep : Addr} (z : Xc K mg C_NoRules C_NoText C_MeltError C_NoStep) (c_are_rules : Callee P w K mg base 4 "are_rules" phi_are_rules) (c_written_rule : Callee P w K mg base 2 "written_rule" phi_written_rule) : FnOk P w K mg base CX0 5 f fd ["rules"] (spF K phi_written) :=
  Fun.okQ F sc_written rfl rfl (d_written m z c_are_rules c_written_rule)
theorem dx_written (m : Mg mg) {f : Addr} {C_NoRules C_NoText C_MeltError C_NoStep : Addr} (z : Xc K mg C_NoRules C_NoText C_MeltError C_NoStep) (c_are_rules : Callee P w K mg base 4 "are_rules" phi_are_rules) (c_written_rule : Callee P w K mg base 2 "written_rule" phi_written_rule) (cdv : Value) (A : Around) (outer : List Env) (s : Shared) (H : Hp) (E : XK) (hr : Room 4 (A.deeper (envOfC "written" (defScope s_written) s.heap.objs.size f cdv))) :
    QSs (cxOf (CX1 P w) P w K mg base ["rules"] "written" (defScope s_written) f cdv A outer s H E) (defBody s_written) b_written := by
  have nd := sc_written.nd
  obtain ⟨t_BETWEEN_RULES, e_BETWEEN_RULES⟩ := m.x_BETWEEN_RULES
  obtain ⟨t_NO_RULES_MARK, e_NO_RULES_MARK⟩ := m.x_NO_RULES_MARK
  exact (qpdss_cons (qpds_if (qpdt_not (qpdt_val (qpd_call c_are_rules (hr.mono (by omega)) (by rfl) (qpda_cons (qpd_var (qv 0)) qpda_nil)))) (qpdss_one (qpds_raise z.e_NoRules (by rfl) (by rfl) (qpda_cons qpd_str qpda_nil))) qpdss_nil) (qpdss_cons (qpds_if (qpdt_eq hr (QD.pb (qpd_len (by rfl) m.m_len (qpba_cons (qpb_var (qv 0)) qpba_nil))) (QD.pb qpd_int)) (qpdss_one (qpds_ret (QD.pb (qpd_globS (by rfl) e_NO_RULES_MARK)))) qpdss_nil) (qpdss_one (qpds_ret (QD.pb (qpd_join (QD.pb (qpd_globS (by rfl) e_BETWEEN_RULES)) (QD.pb (QF.pd (qpf_comp1 (by rfl) (compS (N := ["rules"]) (sc := defScope s_written) (by rfl) (by rfl) (by decide +kernel)) (show (["rule", "rules"] : List Str).Nodup by decide +kernel) (by rfl) (qpdi_any (qpd_var (qv 0))) (fun _ _ _ _ _ => qpdif_nil) (fun _ _ _ _ _ => (qpd_call c_written_rule (hr.mono (by omega)) (by rfl) (qpda_cons (qpd_var (qv 0)) qpda_nil))))))))))))
theorem okx_written (m : Mg mg) {f : Addr} {fd : FuncData} (F : Fun K "written" "written" s_written f fd) {C_NoRules C_NoText C_MeltError C_NoStep : Addr} (z : Xc K mg C_NoRules C_NoText C_MeltError C_NoStep) (c_are_rules : Callee P w K mg base 4 "are_rules" phi_are_rules) (c_written_rule : Callee P w K mg base 2 "written_rule" phi_written_rule) : FnOk P w K mg base (CX1 P w) 5 f fd ["rules"] (spX K mg psi_written) :=
  Fun.okX F sc_written rfl rfl fun cdv A outer s H E hr => (dx_written m z c_are_rules c_written_rule cdv A outer s H E hr).out
abbrev s_read : Stmt := top 26
theorem sc_read : FnScope ["text", "rules"] ["text"] (defScope s_read) := ⟨rfl, rfl, rfl, by decide +kernel, rfl, by decide +kernel, by decide +kernel⟩
theorem d_read (m : Mg mg) {f : Addr} {C_NoRules C_NoText C_MeltError C_NoStep : Addr} (z : Xc K mg C_NoRules C_NoText C_MeltError C_NoStep) (c_guessed_rules : Callee P w K mg base 3 "guessed_rules" phi_guessed_rules) (c_are_rules : Callee P w K mg base 4 "are_rules" phi_are_rules) (c_written : Callee P w K mg base 5 "written" phi_written) (cdv : Value) (A : Around) (outer : List Env) (s : Shared) (H : Hp) (E : XK) (hr : Room 5 (A.deeper (envOfC "read" (defScope s_read) s.heap.objs.size f cdv))) :
    QSs (cxOf CX0 P w K mg base ["text", "rules"] "read" (defScope s_read) f cdv A outer s H E).nox (defBody s_read) b_read := by
  have nd := sc_read.nd
  exact (qpdss_cons (qpds_set (i := 1) nd (by rfl) (by first | exact Or.inl rfl | exact Or.inr rfl) (qpd_call c_guessed_rules (hr.mono (by omega)) (by rfl) (qpda_cons (qpd_var (qv 0)) qpda_nil))) (qpdss_cons (qpds_if (QW.pdt (qpdw_or (qpdt_not (qpdt_val (qpd_call c_are_rules (hr.mono (by omega)) (by rfl) (qpda_cons (qpd_var (qv 1)) qpda_nil)))) (qpdw_or1 (qpdt_ne hr (QD.pb (qpd_call c_written (hr.mono (by omega)) (by rfl) (qpda_cons (qpd_var (qv 1)) qpda_nil))) (qpb_var (qv 0)))))) (qpdss_one (qpds_raise z.e_NoText (by rfl) (by rfl) (qpda_cons qpd_str qpda_nil))) qpdss_nil) (qpdss_one (qpds_ret (qpb_var (qv 1))))))
theorem ok_read (m : Mg mg) {f : Addr} {fd : FuncData} (F : Fun K "read" "read" s_read f fd) {C_NoRules C_NoText C_MeltError C_NoStep : Addr} (z : Xc K mg C_NoRules C_NoText C_MeltError C_NoStep) (c_guessed_rules : Callee P w K mg base 3 "guessed_rules" phi_guessed_rules) (c_are_rules : Callee P w K mg base 4 "are_rules" phi_are_rules) (c_written : Callee P w K mg base 5 "written" phi_written) : FnOk P w K mg base CX0 6 f fd ["text"] (spF K phi_read) :=
  Fun.okQ F sc_read rfl rfl (d_read m z c_guessed_rules c_are_rules c_written)
theorem dx_read (m : Mg mg) {f : Addr} {C_NoRules C_NoText C_MeltError C_NoStep : Addr} (z : Xc K mg C_NoRules C_NoText C_MeltError C_NoStep) (c_guessed_rules : Callee P w K mg base 3 "guessed_rules" phi_guessed_rules) (c_are_rules : Callee P w K mg base 4 "are_rules" phi_are_rules) (c_written : Callee P w K mg base 5 "written" phi_written) (cdv : Value) (A : Around) (outer : List Env) (s : Shared) (H : Hp) (E : XK) (hr : Room 5 (A.deeper (envOfC "read" (defScope s_read) s.heap.objs.size f cdv))) :
    QSs (cxOf (CX1 P w) P w K mg base ["text", "rules"] "read" (defScope s_read) f cdv A outer s H E) (defBody s_read) b_read := by
  have nd := sc_read.nd
  exact (qpdss_cons (qpds_set (i := 1) nd (by rfl) (by first | exact Or.inl rfl | exact Or.inr rfl) (qpd_call c_guessed_rules (hr.mono (by omega)) (by rfl) (qpda_cons (qpd_var (qv 0)) qpda_nil))) (qpdss_cons (qpds_if (QW.pdt (qpdw_or (qpdt_not (qpdt_val (qpd_call c_are_rules (hr.mono (by omega)) (by rfl) (qpda_cons (qpd_var (qv 1)) qpda_nil)))) (qpdw_or1 (qpdt_ne hr (QD.pb (qpd_call c_written (hr.mono (by omega)) (by rfl) (qpda_cons (qpd_var (qv 1)) qpda_nil))) (qpb_var (qv 0)))))) (qpdss_one (qpds_raise z.e_NoText (by rfl) (by rfl) (qpda_cons qpd_str qpda_nil))) qpdss_nil) (qpdss_one (qpds_ret (qpb_var (qv 1))))))
theorem okx_read (m : Mg mg) {f : Addr} {fd : FuncData} (F : Fun K "read" "read" s_read f fd) {C_NoRules C_NoText C_MeltError C_NoStep : Addr} (z : Xc K mg C_NoRules C_NoText C_MeltError C_NoStep) (c_guessed_rules : Callee P w K mg base 3 "guessed_rules" phi_guessed_rules) (c_are_rules : Callee P w K mg base 4 "are_rules" phi_are_rules) (c_written : Callee P w K mg base 5 "written" phi_written) : FnOk P w K mg base (CX1 P w) 6 f fd ["text"] (spX K mg psi_read) :=
  Fun.okX F sc_read rfl rfl fun cdv A outer s H E hr => (dx_read m z c_guessed_rules c_are_rules c_written cdv A outer s H E hr).out
abbrev s_l_found : Stmt := top 44
theorem sc_l_found : FnScope ["_law_text", "_law_found_here", "e", "_law_good"] ["_law_text"] (defScope s_l_found) := ⟨rfl, rfl, rfl, by decide +kernel, rfl, by decide +kernel, by decide +kernel⟩
theorem d_l_found (m : Mg mg) {f : Addr} {C_NoRules C_NoText C_MeltError C_NoStep : Addr} (z : Xc K mg C_NoRules C_NoText C_MeltError C_NoStep) (x_read : CalleeX P w K mg base 6 "read" psi_read) (cdv : Value) (A : Around) (outer : List Env) (s : Shared) (H : Hp) (E : XK) (hr : Room 6 (A.deeper (envOfC "_law_found" (defScope s_l_found) s.heap.objs.size f cdv))) :
    QSs (cxOf CX0 P w K mg base ["_law_text", "_law_found_here", "e", "_law_good"] "_law_found" (defScope s_l_found) f cdv A outer s H E).nox (defBody s_l_found) b_l_found := by
  have nd := sc_l_found.nd
  exact (qpdss_cons (qpds_tryS (i := 2) (j := 1) x_read z.e_NoText z.e_NoText z.s_NoText_NoText (hr.mono (by omega)) (by rfl) (by rfl) (qpda_cons (qpd_var (qv 0)) qpda_nil) (fun _ _ h => h) (by rfl) (by rfl) nd (by rfl) (by rfl) (by rfl) (by first | exact Or.inl rfl | exact Or.inr rfl) (fun _ => (qpdss_cons (qpds_set (i := 3) nd (by rfl) (by first | exact Or.inl rfl | exact Or.inr rfl) (qpd_and (qpd_isX z.k_NoText z.e_NoText.at_ (qv 2) (by rfl) m.m_isinstance (by rfl) z.e_MeltError.is z.i_NoText_MeltError) (qpd_one (qpd_isXB z.k_NoText z.e_NoText.at_ (qv 2) (by rfl) m.m_isinstance (by rfl) m.m_ValueError (by rfl) z.i_NoText_ValueError)))) (qpdss_one (qpds_ret (QD.pb (qpd_ix (QD.pb (qpd_lit (.lst (.cons .int (.cons .non .nil)) (by decide)))) (QD.pb (qpd_intC (by rfl) m.m_int (qpba_cons (QD.pb (qpd_and (qpd_var (qv 3)) (qpd_and (qpd_not (qpd_isX z.k_NoText z.e_NoText.at_ (qv 2) (by rfl) m.m_isinstance (by rfl) z.e_NoRules.is z.i_NoText_NoRules)) (qpd_one (qpd_not (qpd_isX z.k_NoText z.e_NoText.at_ (qv 2) (by rfl) m.m_isinstance (by rfl) z.e_NoStep.is z.i_NoText_NoStep)))))) qpba_nil))) (fun _ _ => rfl)))))))) (qpdss_one (qpds_ret (QD.pb (qpd_ix (QD.pb (QF.pd (qpf_list (qpda_cons (qpd_var (qv 1)) (qpda_cons qpd_int qpda_nil))))) (QD.pb (qpd_intC (by rfl) m.m_int (qpba_cons (QD.pb (qpd_isN (qpb_var (qv 1)) (QD.pb qpd_non))) qpba_nil))) (fun _ _ => rfl))))))
theorem ok_l_found (m : Mg mg) {f : Addr} {fd : FuncData} (F : Fun K "_law_found" "_law_found" s_l_found f fd) {C_NoRules C_NoText C_MeltError C_NoStep : Addr} (z : Xc K mg C_NoRules C_NoText C_MeltError C_NoStep) (x_read : CalleeX P w K mg base 6 "read" psi_read) : FnOk P w K mg base CX0 7 f fd ["_law_text"] (spF K phi_l_found) :=
  Fun.okQ F sc_l_found rfl rfl (d_l_found m z x_read)
abbrev s_l_changed_text : Stmt := top 42
theorem sc_l_changed_text : FnScope ["_law_text", "_law_number", "_law_words", "_law_at", "_law_place", "_law_kind", "_law_sign", "_law_moved", "_law_some"] ["_law_text", "_law_number"] (defScope s_l_changed_text) := ⟨rfl, rfl, rfl, by decide +kernel, rfl, by decide +kernel, by decide +kernel⟩
theorem d_l_changed_text (m : Mg mg) {f : Addr} (cdv : Value) (A : Around) (outer : List Env) (s : Shared) (H : Hp) (E : XK) (hr : Room 0 (A.deeper (envOfC "_law_changed_text" (defScope s_l_changed_text) s.heap.objs.size f cdv))) :
    QSs (cxOf CX0 P w K mg base ["_law_text", "_law_number", "_law_words", "_law_at", "_law_place", "_law_kind", "_law_sign", "_law_moved", "_law_some"] "_law_changed_text" (defScope s_l_changed_text) f cdv A outer s H E).nox (defBody s_l_changed_text) b_l_changed_text := by
  have nd := sc_l_changed_text.nd
  exact (qpdss_cons (qpds_set (i := 2) nd (by rfl) (by first | exact Or.inl rfl | exact Or.inr rfl) (QF.pd (qpf_split (qpb_var (qv 0)) (QD.pb qpd_str)))) (qpdss_cons (qpds_set (i := 3) nd (by rfl) (by first | exact Or.inl rfl | exact Or.inr rfl) (qpd_mod (QD.pb (qpd_fdiv (qpb_var (qv 1)) (QD.pb qpd_int))) (QD.pb (qpd_len (by rfl) m.m_len (qpba_cons (qpb_var (qv 2)) qpba_nil))))) (qpdss_cons (qpds_set (i := 4) nd (by rfl) (by first | exact Or.inl rfl | exact Or.inr rfl) (qpd_mod (QD.pb (qpd_fdiv (qpb_var (qv 1)) (QD.pb qpd_int))) (QD.pb (qpd_plus (QD.pb (qpd_len (by rfl) m.m_len (qpba_cons (qpb_var (qv 0)) qpba_nil))) (QD.pb qpd_int))))) (qpdss_cons (qpds_set (i := 5) nd (by rfl) (by first | exact Or.inl rfl | exact Or.inr rfl) (qpd_mod (qpb_var (qv 1)) (QD.pb qpd_int))) (qpdss_cons (qpds_if (qpdt_eq hr (qpb_var (qv 5)) (QD.pb qpd_int)) (qpdss_one (qpds_ret (QD.pb (qpd_plus (QD.pb (qpd_slice (qpb_var (qv 0)) qpdo_none (qpdo_some (qpd_var (qv 4))))) (QD.pb (qpd_slice (qpb_var (qv 0)) (qpdo_some (qpd_plus (qpb_var (qv 4)) (QD.pb qpd_int))) qpdo_none)))))) qpdss_nil) (qpdss_cons (qpds_if (qpdt_lt hr (qpb_var (qv 5)) (QD.pb qpd_int)) (qpdss_cons (qpds_set (i := 6) nd (by rfl) (by first | exact Or.inl rfl | exact Or.inr rfl) (qpd_ix (QD.pb qpd_str) (QD.pb (qpd_mod (QD.pb (qpd_fdiv (qpb_var (qv 1)) (QD.pb qpd_int))) (QD.pb qpd_int))) (fun _ _ => rfl))) (qpdss_one (qpds_ret (QD.pb (qpd_plus (QD.pb (qpd_plus (QD.pb (qpd_slice (qpb_var (qv 0)) qpdo_none (qpdo_some (qpd_var (qv 4))))) (qpb_var (qv 6)))) (QD.pb (qpd_slice (qpb_var (qv 0)) (qpdo_some (qpd_sub (QD.pb (qpd_plus (qpb_var (qv 4)) (qpb_var (qv 5)))) (QD.pb qpd_int))) qpdo_none))))))) qpdss_nil) (qpdss_cons (qpds_if (qpdt_eq hr (qpb_var (qv 5)) (QD.pb qpd_int)) (qpdss_one (qpds_ret (QD.pb (qpd_join (QD.pb qpd_str) (QD.pb (qpd_plus (QD.pb (qpd_slice (qpb_var (qv 2)) qpdo_none (qpdo_some (qpd_var (qv 3))))) (QD.pb (qpd_slice (qpb_var (qv 2)) (qpdo_some (qpd_plus (qpb_var (qv 3)) (QD.pb qpd_int))) qpdo_none)))))))) qpdss_nil) (qpdss_cons (qpds_if (qpdt_eq hr (qpb_var (qv 5)) (QD.pb qpd_int)) (qpdss_one (qpds_ret (QD.pb (qpd_join (QD.pb qpd_str) (QD.pb (qpd_plus (QD.pb (qpd_plus (QD.pb (qpd_slice (qpb_var (qv 2)) qpdo_none (qpdo_some (qpd_var (qv 3))))) (QD.pb (qpd_slice (qpb_var (qv 2)) (qpdo_some (qpd_var (qv 3))) (qpdo_some (qpd_plus (qpb_var (qv 3)) (QD.pb qpd_int))))))) (QD.pb (qpd_slice (qpb_var (qv 2)) (qpdo_some (qpd_var (qv 3))) qpdo_none)))))))) qpdss_nil) (qpdss_cons (qpds_if (qpdt_eq hr (qpb_var (qv 5)) (QD.pb qpd_int)) (qpdss_cons (qpds_set (i := 7) nd (by rfl) (by first | exact Or.inl rfl | exact Or.inr rfl) (qpd_plus (QD.pb (qpd_slice (qpb_var (qv 2)) (qpdo_some (qpd_plus (qpb_var (qv 3)) (QD.pb qpd_int))) (qpdo_some (qpd_plus (qpb_var (qv 3)) (QD.pb qpd_int))))) (QD.pb (qpd_slice (qpb_var (qv 2)) (qpdo_some (qpd_var (qv 3))) (qpdo_some (qpd_plus (qpb_var (qv 3)) (QD.pb qpd_int))))))) (qpdss_one (qpds_ret (QD.pb (qpd_join (QD.pb qpd_str) (QD.pb (qpd_plus (QD.pb (qpd_plus (QD.pb (qpd_slice (qpb_var (qv 2)) qpdo_none (qpdo_some (qpd_var (qv 3))))) (qpb_var (qv 7)))) (QD.pb (qpd_slice (qpb_var (qv 2)) (qpdo_some (qpd_plus (qpb_var (qv 3)) (QD.pb qpd_int))) qpdo_none))))))))) qpdss_nil) (qpdss_cons (qpds_set (i := 8) nd (by rfl) (by first | exact Or.inl rfl | exact Or.inr rfl) (QF.pd (qpf_split (QD.pb qpd_str) (QD.pb qpd_str)))) (qpdss_one (qpds_ret (QD.pb (qpd_join (QD.pb qpd_str) (QD.pb (qpd_plus (QD.pb (qpd_plus (QD.pb (qpd_slice (qpb_var (qv 2)) qpdo_none (qpdo_some (qpd_var (qv 3))))) (QD.pb (QF.pd (qpf_list (qpda_cons (qpd_ix (qpb_var (qv 8)) (QD.pb (qpd_mod (QD.pb (qpd_fdiv (qpb_var (qv 1)) (QD.pb qpd_int))) (QD.pb qpd_int))) (fun _ _ => rfl)) qpda_nil)))))) (QD.pb (qpd_slice (qpb_var (qv 2)) (qpdo_some (qpd_plus (qpb_var (qv 3)) (QD.pb qpd_int))) qpdo_none))))))))))))))))))
theorem ok_l_changed_text (m : Mg mg) {f : Addr} {fd : FuncData} (F : Fun K "_law_changed_text" "_law_changed_text" s_l_changed_text f fd) : FnOk P w K mg base CX0 1 f fd ["_law_text", "_law_number"] (spF K phi_l_changed_text) :=
  Fun.okQ F sc_l_changed_text rfl rfl (d_l_changed_text m)
abbrev s_l_is_word : Stmt := top 39
theorem sc_l_is_word : FnScope ["_law_thing"] ["_law_thing"] (defScope s_l_is_word) := ⟨rfl, rfl, rfl, by decide +kernel, rfl, by decide +kernel, by decide +kernel⟩
theorem d_l_is_word (m : Mg mg) {f : Addr} (cdv : Value) (A : Around) (outer : List Env) (s : Shared) (H : Hp) (E : XK) (hr : Room 0 (A.deeper (envOfC "_law_is_word" (defScope s_l_is_word) s.heap.objs.size f cdv))) :
    QSs (cxOf CX0 P w K mg base ["_law_thing"] "_law_is_word" (defScope s_l_is_word) f cdv A outer s H E).nox (defBody s_l_is_word) b_l_is_word := by
  have nd := sc_l_is_word.nd
  exact (qpdss_cons (qpds_if (QW.pdt (qpdw_or (qpdt_not (qpdt_val (qpd_isI BaseT.str (qpb_var (qv 0)) (by rfl) m.m_isinstance (by rfl) m.m_str (by rfl)))) (qpdw_or1 (qpdt_gt (QD.pb (qpd_len (by rfl) m.m_len (qpba_cons (qpb_var (qv 0)) qpba_nil))) (QD.pb qpd_int))))) (qpdss_one (qpds_ret (QD.pb qpd_bl))) qpdss_nil) (qpdss_one (qpds_ret (QD.pb (qpd_eq hr (QD.pb (QF.pd (qpf_comp1 (by rfl) (compS (N := ["_law_thing"]) (sc := defScope s_l_is_word) (by rfl) (by rfl) (by decide +kernel)) (show (["_law_sign", "_law_thing"] : List Str).Nodup by decide +kernel) (by rfl) (qpdi_any (qpd_var (qv 0))) (fun _ _ _ _ _ => qpdif_one (qpdt_lt hr (QD.pb (qpd_find (QD.pb qpd_str) (qpb_var (qv 0)))) (QD.pb qpd_int))) (fun _ _ _ _ _ => (qpd_var (qv 0)))))) (QD.pb (qpd_lit (.lst .nil (by decide)))))))))
theorem ok_l_is_word (m : Mg mg) {f : Addr} {fd : FuncData} (F : Fun K "_law_is_word" "_law_is_word" s_l_is_word f fd) : FnOk P w K mg base CX0 1 f fd ["_law_thing"] (spF K phi_l_is_word) :=
  Fun.okQ F sc_l_is_word rfl rfl (d_l_is_word m)
abbrev s_l_are_rules : Stmt := top 40
theorem sc_l_are_rules : FnScope ["_law_thing", "_law_rule_here"] ["_law_thing"] (defScope s_l_are_rules) := ⟨rfl, rfl, rfl, by decide +kernel, rfl, by decide +kernel, by decide +kernel⟩
theorem d_l_are_rules (m : Mg mg) {f : Addr} (c_l_is_word : Callee P w K mg base 1 "_law_is_word" phi_l_is_word) (c_l_less : Callee P w K mg base 1 "_law_less" phi_l_less) (cdv : Value) (A : Around) (outer : List Env) (s : Shared) (H : Hp) (E : XK) (hr : Room 1 (A.deeper (envOfC "_law_are_rules" (defScope s_l_are_rules) s.heap.objs.size f cdv))) :
    QSs (cxOf CX0 P w K mg base ["_law_thing", "_law_rule_here"] "_law_are_rules" (defScope s_l_are_rules) f cdv A outer s H E).nox (defBody s_l_are_rules) b_l_are_rules := by
  have nd := sc_l_are_rules.nd
  exact (qpdss_cons (qpds_if (QW.pdt (qpdw_or (qpdt_not (qpdt_val (qpd_isI BaseT.tuple (qpb_var (qv 0)) (by rfl) m.m_isinstance (by rfl) m.m_tuple (by rfl)))) (qpdw_or1 (qpdt_gt (QD.pb (qpd_len (by rfl) m.m_len (qpba_cons (qpb_var (qv 0)) qpba_nil))) (QD.pb qpd_int))))) (qpdss_one (qpds_ret (QD.pb qpd_bl))) qpdss_nil) (qpdss_cons (qpds_for PassesOwn.never (by rfl) (qpdi_any (qpd_var (qv 0))) (qpdg_var (i := 1) nd (by rfl) (by first | exact Or.inl rfl | exact Or.inr rfl)) (qpdss_cons (qpds_if (QW.pdt (qpdw_or (qpdt_not (qpdt_val (qpd_isI BaseT.tuple (qpb_var (qv 1)) (by rfl) m.m_isinstance (by rfl) m.m_tuple (by rfl)))) (qpdw_or (qpdt_ne hr (QD.pb (qpd_len (by rfl) m.m_len (qpba_cons (qpb_var (qv 1)) qpba_nil))) (QD.pb qpd_int)) (qpdw_or (qpdt_not (qpdt_val (qpd_call c_l_is_word (hr.mono (by omega)) (by rfl) (qpda_cons (qpd_ix (qpb_var (qv 1)) (QD.pb qpd_int) (fun _ _ => rfl)) qpda_nil)))) (qpdw_or1 (qpdt_not (qpdt_val (qpd_call c_l_is_word (hr.mono (by omega)) (by rfl) (qpda_cons (qpd_ix (qpb_var (qv 1)) (QD.pb qpd_int) (fun _ _ => rfl)) qpda_nil))))))))) (qpdss_one (qpds_ret (QD.pb qpd_bl))) qpdss_nil) (qpdss_one (qpds_if (QW.pdt (qpdw_or (qpdt_not (qpdt_chainLE (QD.pb qpd_int) (QD.pb (qpd_len (by rfl) m.m_len (qpba_cons (QD.pb (qpd_ix (qpb_var (qv 1)) (QD.pb qpd_int) (fun _ _ => rfl))) qpba_nil))) (QD.pb qpd_int))) (qpdw_or1 (qpdt_not (qpdt_val (qpd_call c_l_less (hr.mono (by omega)) (by rfl) (qpda_cons (qpd_ix (qpb_var (qv 1)) (QD.pb qpd_int) (fun _ _ => rfl)) (qpda_cons (qpd_ix (qpb_var (qv 1)) (QD.pb qpd_int) (fun _ _ => rfl)) qpda_nil)))))))) (qpdss_one (qpds_ret (QD.pb qpd_bl))) qpdss_nil)))) (qpdss_one (qpds_ret (QD.pb qpd_bl)))))
theorem ok_l_are_rules (m : Mg mg) {f : Addr} {fd : FuncData} (F : Fun K "_law_are_rules" "_law_are_rules" s_l_are_rules f fd) (c_l_is_word : Callee P w K mg base 1 "_law_is_word" phi_l_is_word) (c_l_less : Callee P w K mg base 1 "_law_less" phi_l_less) : FnOk P w K mg base CX0 2 f fd ["_law_thing"] (spF K phi_l_are_rules) :=
  Fun.okQ F sc_l_are_rules rfl rfl (d_l_are_rules m c_l_is_word c_l_less)
abbrev s_l_due : Stmt := top 43
theorem sc_l_due : FnScope ["_law_text", "_law_found_here", "_law_part", "_law_words"] ["_law_text"] (defScope s_l_due) := ⟨rfl, rfl, rfl, by decide +kernel, rfl, by decide +kernel, by decide +kernel⟩
theorem d_l_due (m : Mg mg) {f : Addr} (c_l_are_rules : Callee P w K mg base 2 "_law_are_rules" phi_l_are_rules) (c_l_written : Callee P w K mg base 1 "_law_written" phi_l_written) (cdv : Value) (A : Around) (outer : List Env) (s : Shared) (H : Hp) (E : XK) (hr : Room 2 (A.deeper (envOfC "_law_due" (defScope s_l_due) s.heap.objs.size f cdv))) :
    QSs (cxOf CX0 P w K mg base ["_law_text", "_law_found_here", "_law_part", "_law_words"] "_law_due" (defScope s_l_due) f cdv A outer s H E).nox (defBody s_l_due) b_l_due := by
  have nd := sc_l_due.nd
  exact (qpdss_cons (qpds_if (qpdt_eq hr (qpb_var (qv 0)) (QD.pb qpd_str)) (qpdss_one (qpds_ret (QD.pb (qpd_lit (.tup .nil (by decide)))))) qpdss_nil) (qpdss_cons (qpds_set (i := 1) nd (by rfl) (by first | exact Or.inl rfl | exact Or.inr rfl) (qpd_lit (.tup .nil (by decide)))) (qpdss_cons (qpds_for PassesOwn.never (by rfl) (qpdi_any (QF.pd (qpf_split (qpb_var (qv 0)) (QD.pb qpd_str)))) (qpdg_var (i := 2) nd (by rfl) (by first | exact Or.inl rfl | exact Or.inr rfl)) (qpdss_cons (qpds_set (i := 3) nd (by rfl) (by first | exact Or.inl rfl | exact Or.inr rfl) (QF.pd (qpf_split (qpb_var (qv 2)) (QD.pb qpd_str)))) (qpdss_cons (qpds_if (QW.pdt (qpdw_or (qpdt_ne hr (QD.pb (qpd_len (by rfl) m.m_len (qpba_cons (qpb_var (qv 3)) qpba_nil))) (QD.pb qpd_int)) (qpdw_or1 (qpdt_ne hr (QD.pb (qpd_ix (qpb_var (qv 3)) (QD.pb qpd_int) (fun _ _ => rfl))) (QD.pb qpd_str))))) (qpdss_one (qpds_ret (QD.pb qpd_non))) qpdss_nil) (qpdss_one (qpds_set (i := 1) nd (by rfl) (by first | exact Or.inl rfl | exact Or.inr rfl) (qpd_plus (qpb_var (qv 1)) (QD.pb (qpd_tup (qpda_cons (qpd_tup (qpda_cons (qpd_ix (qpb_var (qv 3)) (QD.pb qpd_int) (fun _ _ => rfl)) (qpda_cons (qpd_ix (QD.pb (QF.pd (qpf_list (qpda_cons (qpd_ix (qpb_var (qv 3)) (QD.pb qpd_int) (fun _ _ => rfl)) (qpda_cons qpd_str qpda_nil))))) (QD.pb (qpd_intC (by rfl) m.m_int (qpba_cons (QD.pb (qpd_eq hr (QD.pb (qpd_ix (qpb_var (qv 3)) (QD.pb qpd_int) (fun _ _ => rfl))) (QD.pb qpd_str))) qpba_nil))) (fun _ _ => rfl)) qpda_nil))) qpda_nil))))))))) (qpdss_cons (qpds_if (QW.pdt (qpdw_or (qpdt_not (qpdt_val (qpd_call c_l_are_rules (hr.mono (by omega)) (by rfl) (qpda_cons (qpd_var (qv 1)) qpda_nil)))) (qpdw_or1 (qpdt_ne hr (QD.pb (qpd_call c_l_written (hr.mono (by omega)) (by rfl) (qpda_cons (qpd_var (qv 1)) qpda_nil))) (qpb_var (qv 0)))))) (qpdss_one (qpds_ret (QD.pb qpd_non))) qpdss_nil) (qpdss_one (qpds_ret (qpb_var (qv 1))))))))
theorem ok_l_due (m : Mg mg) {f : Addr} {fd : FuncData} (F : Fun K "_law_due" "_law_due" s_l_due f fd) (c_l_are_rules : Callee P w K mg base 2 "_law_are_rules" phi_l_are_rules) (c_l_written : Callee P w K mg base 1 "_law_written" phi_l_written) : FnOk P w K mg base CX0 3 f fd ["_law_text"] (spF K phi_l_due) :=
  Fun.okQ F sc_l_due rfl rfl (d_l_due m c_l_are_rules c_l_written)
abbrev s_law : Stmt := top 45
theorem sc_law : FnScope ["_law_script", "_law_rules_here", "_law_number", "_law_text", "_law_k", "_law_found_here"] ["_law_script"] (defScope s_law) := ⟨rfl, rfl, rfl, by decide +kernel, rfl, by decide +kernel, by decide +kernel⟩
theorem d_law (m : Mg mg) {f : Addr} (c_l_rules : Callee P w K mg base 4 "_law_rules" phi_l_rules) (c_l_mixed : Callee P w K mg base 2 "_law_mixed" phi_l_mixed) (c_l_written : Callee P w K mg base 1 "_law_written" phi_l_written) (c_l_found : Callee P w K mg base 7 "_law_found" phi_l_found) (c_l_changed_text : Callee P w K mg base 1 "_law_changed_text" phi_l_changed_text) (c_l_drawn : Callee P w K mg base 1 "_law_drawn" phi_l_drawn) (c_l_due : Callee P w K mg base 3 "_law_due" phi_l_due) (c_l_are_rules : Callee P w K mg base 2 "_law_are_rules" phi_l_are_rules) (cdv : Value) (A : Around) (outer : List Env) (s : Shared) (H : Hp) (E : XK) (hr : Room 7 (A.deeper (envOfC "law" (defScope s_law) s.heap.objs.size f cdv))) :
    QSs (cxOf CX0 P w K mg base ["_law_script", "_law_rules_here", "_law_number", "_law_text", "_law_k", "_law_found_here"] "law" (defScope s_law) f cdv A outer s H E).nox (defBody s_law) b_law := by
  have nd := sc_law.nd
  exact (qpdss_cons (qpds_set (i := 1) nd (by rfl) (by first | exact Or.inl rfl | exact Or.inr rfl) (qpd_call c_l_rules (hr.mono (by omega)) (by rfl) (qpda_cons (qpd_call c_l_mixed (hr.mono (by omega)) (by rfl) (qpda_cons (qpd_var (qv 0)) (qpda_cons qpd_int qpda_nil))) qpda_nil))) (qpdss_cons (qpds_set (i := 2) nd (by rfl) (by first | exact Or.inl rfl | exact Or.inr rfl) (qpd_call c_l_mixed (hr.mono (by omega)) (by rfl) (qpda_cons (qpd_var (qv 0)) (qpda_cons qpd_int qpda_nil)))) (qpdss_cons (qpds_if (QW.pdt (qpdw_and (qpdt_eq hr (QD.pb (qpd_mod (QD.pb (qpd_fdiv (qpb_var (qv 2)) (QD.pb qpd_int))) (QD.pb qpd_int))) (QD.pb qpd_int)) (qpdw_and1 (qpdt_ne hr (qpb_var (qv 1)) (QD.pb (qpd_lit (.tup .nil (by decide)))))))) (qpdss_one (qpds_set (i := 1) nd (by rfl) (by first | exact Or.inl rfl | exact Or.inr rfl) (qpd_slice (QD.pb (qpd_times (qpb_var (qv 1)) (QD.pb qpd_int))) qpdo_none (qpdo_some (qpd_plus (QD.pb qpd_int) (QD.pb (qpd_mod (QD.pb (qpd_fdiv (qpb_var (qv 2)) (QD.pb qpd_int))) (QD.pb qpd_int)))))))) qpdss_nil) (qpdss_cons (qpds_set (i := 3) nd (by rfl) (by first | exact Or.inl rfl | exact Or.inr rfl) (qpd_call c_l_written (hr.mono (by omega)) (by rfl) (qpda_cons (qpd_var (qv 1)) qpda_nil))) (qpdss_cons (qpds_for PassesOwn.never (by rfl) (qpdi_range1 (by rfl) m.m_range (qpd_times (QD.pb (qpd_mod (qpb_var (qv 2)) (QD.pb qpd_int))) (QD.pb (qpd_plus (QD.pb qpd_int) (QD.pb (qpd_mod (QD.pb (qpd_fdiv (qpb_var (qv 2)) (QD.pb qpd_int))) (QD.pb qpd_int))))))) (qpdg_var (i := 4) nd (by rfl) (by first | exact Or.inl rfl | exact Or.inr rfl)) (qpdss_one (qpds_set (i := 3) nd (by rfl) (by first | exact Or.inl rfl | exact Or.inr rfl) (qpd_call c_l_changed_text (hr.mono (by omega)) (by rfl) (qpda_cons (qpd_var (qv 3)) (qpda_cons (qpd_call c_l_drawn (hr.mono (by omega)) (by rfl) (qpda_cons (qpd_var (qv 2)) (qpda_cons (qpd_var (qv 4)) qpda_nil))) qpda_nil)))))) (qpdss_cons (qpds_set (i := 5) nd (by rfl) (by first | exact Or.inl rfl | exact Or.inr rfl) (qpd_call c_l_found (hr.mono (by omega)) (by rfl) (qpda_cons (qpd_var (qv 3)) qpda_nil))) (qpdss_one (qpds_ret (QD.pb (qpd_and (qpd_eq hr (qpb_var (qv 5)) (QD.pb (qpd_call c_l_due (hr.mono (by omega)) (by rfl) (qpda_cons (qpd_var (qv 3)) qpda_nil)))) (qpd_one (qpd_or (qpd_isN (qpb_var (qv 5)) (QD.pb qpd_non)) (qpd_one (qpd_call c_l_are_rules (hr.mono (by omega)) (by rfl) (qpda_cons (qpd_var (qv 5)) qpda_nil)))))))))))))))
theorem ok_law (m : Mg mg) {f : Addr} {fd : FuncData} (F : Fun K "law" "law" s_law f fd) (c_l_rules : Callee P w K mg base 4 "_law_rules" phi_l_rules) (c_l_mixed : Callee P w K mg base 2 "_law_mixed" phi_l_mixed) (c_l_written : Callee P w K mg base 1 "_law_written" phi_l_written) (c_l_found : Callee P w K mg base 7 "_law_found" phi_l_found) (c_l_changed_text : Callee P w K mg base 1 "_law_changed_text" phi_l_changed_text) (c_l_drawn : Callee P w K mg base 1 "_law_drawn" phi_l_drawn) (c_l_due : Callee P w K mg base 3 "_law_due" phi_l_due) (c_l_are_rules : Callee P w K mg base 2 "_law_are_rules" phi_l_are_rules) : FnOk P w K mg base CX0 8 f fd ["_law_script"] (spF K phi_law) :=
  Fun.okQ F sc_law rfl rfl (d_law m c_l_rules c_l_mixed c_l_written c_l_found c_l_changed_text c_l_drawn c_l_due c_l_are_rules)
end
theorem all_mk {l : PySem.W.OpenLaw} {w : World} {K : PySem.W.Frag} {h : Heap} {mg : Str → Option Value} {fa f0 f1 f2 f3 f4 f5 f6 f7 f8 f9 f10 f11 f12 f13 f14 f15 f16 f17 f18 f19 f20 f21 f22 f23 f24 f25 f26 f27 C_NoRules C_NoText C_MeltError C_NoStep : Addr} (X : K.In h) (G : h.Ns mainGlobals mg) (hfa : mg "law" = some (.ref fa))
    {od0 an0 od1 an1 od2 an2 od3 an3 od4 an4 od5 an5 od6 an6 od7 an7 od8 an8 od9 an9 od10 an10 od11 an11 od12 an12 od13 an13 od14 an14 od15 an15 od16 an16 od17 an17 od18 an18 od19 an19 od20 an20 od21 an21 od22 an22 od23 an23 od24 an24 od25 an25 od26 an26 od27 an27 : Option Addr} {sl0 sl1 sl2 sl3 sl4 sl5 sl6 sl7 sl8 sl9 sl10 sl11 sl12 sl13 sl14 sl15 sl16 sl17 sl18 sl19 sl20 sl21 sl22 sl23 sl24 sl25 sl26 sl27 : Array (Option Value)} {oc0 kV0 dc0 pm0 cd0 ct0 oc1 kV1 dc1 pm1 cd1 ct1 oc2 kV2 dc2 pm2 cd2 ct2 oc3 kV3 dc3 pm3 cd3 ct3 oc4 kV4 dc4 pm4 cd4 ct4 oc5 kV5 dc5 pm5 cd5 ct5 oc6 kV6 dc6 pm6 cd6 ct6 oc7 kV7 dc7 pm7 cd7 ct7 oc8 kV8 dc8 pm8 cd8 ct8 oc9 kV9 dc9 pm9 cd9 ct9 oc10 kV10 dc10 pm10 cd10 ct10 oc11 kV11 dc11 pm11 cd11 ct11 oc12 kV12 dc12 pm12 cd12 ct12 oc13 kV13 dc13 pm13 cd13 ct13 oc14 kV14 dc14 pm14 cd14 ct14 oc15 kV15 dc15 pm15 cd15 ct15 oc16 kV16 dc16 pm16 cd16 ct16 oc17 kV17 dc17 pm17 cd17 ct17 oc18 kV18 dc18 pm18 cd18 ct18 oc19 kV19 dc19 pm19 cd19 ct19 oc20 kV20 dc20 pm20 cd20 ct20 oc21 kV21 dc21 pm21 cd21 ct21 oc22 kV22 dc22 pm22 cd22 ct22 oc23 kV23 dc23 pm23 cd23 ct23 oc24 kV24 dc24 pm24 cd24 ct24 oc25 kV25 dc25 pm25 cd25 ct25 oc26 kV26 dc26 pm26 cd26 ct26 oc27 kV27 dc27 pm27 cd27 ct27 : Value} {t_BETWEEN_PARTS t_BETWEEN_RULES t_EMPTY_WORD_MARK t_LETTERS t_MIDDLE_PART t_MOST_LEFT_LETTERS t_MOST_LETTERS t_MOST_RULES t_NO_RULES_MARK : Tok}
    (a0 : PySem.W.nsIn K mainGlobals "_law_drawn" = some (some (.ref f0))) (l0 : K.lookup f0 = some ⟨oc0, od0, .func (PySem.W.fnOf "_law_drawn" "_law_drawn" (defArgs s_l_drawn) (defBody s_l_drawn) (defScope s_l_drawn) .none kV0 dc0 pm0 an0 cd0 ct0), sl0⟩) (q0 : PySem.W.codeIn K cd0 "_law_drawn" = true) (k0 : PySem.W.keepIn K (.ref f0) = true)
    (a1 : PySem.W.nsIn K mainGlobals "_law_tame" = some (some (.ref f1))) (l1 : K.lookup f1 = some ⟨oc1, od1, .func (PySem.W.fnOf "_law_tame" "_law_tame" (defArgs s_l_tame) (defBody s_l_tame) (defScope s_l_tame) .none kV1 dc1 pm1 an1 cd1 ct1), sl1⟩) (q1 : PySem.W.codeIn K cd1 "_law_tame" = true) (k1 : PySem.W.keepIn K (.ref f1) = true)
    (a2 : PySem.W.nsIn K mainGlobals "_law_word" = some (some (.ref f2))) (l2 : K.lookup f2 = some ⟨oc2, od2, .func (PySem.W.fnOf "_law_word" "_law_word" (defArgs s_l_word) (defBody s_l_word) (defScope s_l_word) .none kV2 dc2 pm2 an2 cd2 ct2), sl2⟩) (q2 : PySem.W.codeIn K cd2 "_law_word" = true) (k2 : PySem.W.keepIn K (.ref f2) = true)
    (a3 : PySem.W.nsIn K mainGlobals "_law_less" = some (some (.ref f3))) (l3 : K.lookup f3 = some ⟨oc3, od3, .func (PySem.W.fnOf "_law_less" "_law_less" (defArgs s_l_less) (defBody s_l_less) (defScope s_l_less) .none kV3 dc3 pm3 an3 cd3 ct3), sl3⟩) (q3 : PySem.W.codeIn K cd3 "_law_less" = true) (k3 : PySem.W.keepIn K (.ref f3) = true)
    (a4 : PySem.W.nsIn K mainGlobals "_law_rule" = some (some (.ref f4))) (l4 : K.lookup f4 = some ⟨oc4, od4, .func (PySem.W.fnOf "_law_rule" "_law_rule" (defArgs s_l_rule) (defBody s_l_rule) (defScope s_l_rule) .none kV4 dc4 pm4 an4 cd4 ct4), sl4⟩) (q4 : PySem.W.codeIn K cd4 "_law_rule" = true) (k4 : PySem.W.keepIn K (.ref f4) = true)
    (a5 : PySem.W.nsIn K mainGlobals "_law_rules" = some (some (.ref f5))) (l5 : K.lookup f5 = some ⟨oc5, od5, .func (PySem.W.fnOf "_law_rules" "_law_rules" (defArgs s_l_rules) (defBody s_l_rules) (defScope s_l_rules) .none kV5 dc5 pm5 an5 cd5 ct5), sl5⟩) (q5 : PySem.W.codeIn K cd5 "_law_rules" = true) (k5 : PySem.W.keepIn K (.ref f5) = true)
    (a6 : PySem.W.nsIn K mainGlobals "_law_cell_at" = some (some (.ref f6))) (l6 : K.lookup f6 = some ⟨oc6, od6, .func (PySem.W.fnOf "_law_cell_at" "_law_cell_at" (defArgs s_l_cell_at) (defBody s_l_cell_at) (defScope s_l_cell_at) .none kV6 dc6 pm6 an6 cd6 ct6), sl6⟩) (q6 : PySem.W.codeIn K cd6 "_law_cell_at" = true) (k6 : PySem.W.keepIn K (.ref f6) = true)
    (a7 : PySem.W.nsIn K mainGlobals "_law_mixed" = some (some (.ref f7))) (l7 : K.lookup f7 = some ⟨oc7, od7, .func (PySem.W.fnOf "_law_mixed" "_law_mixed" (defArgs s_l_mixed) (defBody s_l_mixed) (defScope s_l_mixed) .none kV7 dc7 pm7 an7 cd7 ct7), sl7⟩) (q7 : PySem.W.codeIn K cd7 "_law_mixed" = true) (k7 : PySem.W.keepIn K (.ref f7) = true)
    (a8 : PySem.W.nsIn K mainGlobals "_law_written" = some (some (.ref f8))) (l8 : K.lookup f8 = some ⟨oc8, od8, .func (PySem.W.fnOf "_law_written" "_law_written" (defArgs s_l_written) (defBody s_l_written) (defScope s_l_written) .none kV8 dc8 pm8 an8 cd8 ct8), sl8⟩) (q8 : PySem.W.codeIn K cd8 "_law_written" = true) (k8 : PySem.W.keepIn K (.ref f8) = true)
    (a9 : PySem.W.nsIn K mainGlobals "guessed_right" = some (some (.ref f9))) (l9 : K.lookup f9 = some ⟨oc9, od9, .func (PySem.W.fnOf "guessed_right" "guessed_right" (defArgs s_guessed_right) (defBody s_guessed_right) (defScope s_guessed_right) .none kV9 dc9 pm9 an9 cd9 ct9), sl9⟩) (q9 : PySem.W.codeIn K cd9 "guessed_right" = true) (k9 : PySem.W.keepIn K (.ref f9) = true)
    (a10 : PySem.W.nsIn K mainGlobals "guessed_rule" = some (some (.ref f10))) (l10 : K.lookup f10 = some ⟨oc10, od10, .func (PySem.W.fnOf "guessed_rule" "guessed_rule" (defArgs s_guessed_rule) (defBody s_guessed_rule) (defScope s_guessed_rule) .none kV10 dc10 pm10 an10 cd10 ct10), sl10⟩) (q10 : PySem.W.codeIn K cd10 "guessed_rule" = true) (k10 : PySem.W.keepIn K (.ref f10) = true)
    (a11 : PySem.W.nsIn K mainGlobals "guessed_rules" = some (some (.ref f11))) (l11 : K.lookup f11 = some ⟨oc11, od11, .func (PySem.W.fnOf "guessed_rules" "guessed_rules" (defArgs s_guessed_rules) (defBody s_guessed_rules) (defScope s_guessed_rules) .none kV11 dc11 pm11 an11 cd11 ct11), sl11⟩) (q11 : PySem.W.codeIn K cd11 "guessed_rules" = true) (k11 : PySem.W.keepIn K (.ref f11) = true)
    (a12 : PySem.W.nsIn K mainGlobals "is_word" = some (some (.ref f12))) (l12 : K.lookup f12 = some ⟨oc12, od12, .func (PySem.W.fnOf "is_word" "is_word" (defArgs s_is_word) (defBody s_is_word) (defScope s_is_word) .none kV12 dc12 pm12 an12 cd12 ct12), sl12⟩) (q12 : PySem.W.codeIn K cd12 "is_word" = true) (k12 : PySem.W.keepIn K (.ref f12) = true)
    (a13 : PySem.W.nsIn K mainGlobals "is_pair_of_words" = some (some (.ref f13))) (l13 : K.lookup f13 = some ⟨oc13, od13, .func (PySem.W.fnOf "is_pair_of_words" "is_pair_of_words" (defArgs s_is_pair_of_words) (defBody s_is_pair_of_words) (defScope s_is_pair_of_words) .none kV13 dc13 pm13 an13 cd13 ct13), sl13⟩) (q13 : PySem.W.codeIn K cd13 "is_pair_of_words" = true) (k13 : PySem.W.keepIn K (.ref f13) = true)
    (a14 : PySem.W.nsIn K mainGlobals "rank" = some (some (.ref f14))) (l14 : K.lookup f14 = some ⟨oc14, od14, .func (PySem.W.fnOf "rank" "rank" (defArgs s_rank) (defBody s_rank) (defScope s_rank) .none kV14 dc14 pm14 an14 cd14 ct14), sl14⟩) (q14 : PySem.W.codeIn K cd14 "rank" = true) (k14 : PySem.W.keepIn K (.ref f14) = true)
    (a15 : PySem.W.nsIn K mainGlobals "is_less" = some (some (.ref f15))) (l15 : K.lookup f15 = some ⟨oc15, od15, .func (PySem.W.fnOf "is_less" "is_less" (defArgs s_is_less) (defBody s_is_less) (defScope s_is_less) .none kV15 dc15 pm15 an15 cd15 ct15), sl15⟩) (q15 : PySem.W.codeIn K cd15 "is_less" = true) (k15 : PySem.W.keepIn K (.ref f15) = true)
    (a16 : PySem.W.nsIn K mainGlobals "is_rule" = some (some (.ref f16))) (l16 : K.lookup f16 = some ⟨oc16, od16, .func (PySem.W.fnOf "is_rule" "is_rule" (defArgs s_is_rule) (defBody s_is_rule) (defScope s_is_rule) .none kV16 dc16 pm16 an16 cd16 ct16), sl16⟩) (q16 : PySem.W.codeIn K cd16 "is_rule" = true) (k16 : PySem.W.keepIn K (.ref f16) = true)
    (a17 : PySem.W.nsIn K mainGlobals "are_rules" = some (some (.ref f17))) (l17 : K.lookup f17 = some ⟨oc17, od17, .func (PySem.W.fnOf "are_rules" "are_rules" (defArgs s_are_rules) (defBody s_are_rules) (defScope s_are_rules) .none kV17 dc17 pm17 an17 cd17 ct17), sl17⟩) (q17 : PySem.W.codeIn K cd17 "are_rules" = true) (k17 : PySem.W.keepIn K (.ref f17) = true)
    (a18 : PySem.W.nsIn K mainGlobals "written_right" = some (some (.ref f18))) (l18 : K.lookup f18 = some ⟨oc18, od18, .func (PySem.W.fnOf "written_right" "written_right" (defArgs s_written_right) (defBody s_written_right) (defScope s_written_right) .none kV18 dc18 pm18 an18 cd18 ct18), sl18⟩) (q18 : PySem.W.codeIn K cd18 "written_right" = true) (k18 : PySem.W.keepIn K (.ref f18) = true)
    (a19 : PySem.W.nsIn K mainGlobals "written_rule" = some (some (.ref f19))) (l19 : K.lookup f19 = some ⟨oc19, od19, .func (PySem.W.fnOf "written_rule" "written_rule" (defArgs s_written_rule) (defBody s_written_rule) (defScope s_written_rule) .none kV19 dc19 pm19 an19 cd19 ct19), sl19⟩) (q19 : PySem.W.codeIn K cd19 "written_rule" = true) (k19 : PySem.W.keepIn K (.ref f19) = true)
    (a20 : PySem.W.nsIn K mainGlobals "written" = some (some (.ref f20))) (l20 : K.lookup f20 = some ⟨oc20, od20, .func (PySem.W.fnOf "written" "written" (defArgs s_written) (defBody s_written) (defScope s_written) .none kV20 dc20 pm20 an20 cd20 ct20), sl20⟩) (q20 : PySem.W.codeIn K cd20 "written" = true) (k20 : PySem.W.keepIn K (.ref f20) = true)
    (a21 : PySem.W.nsIn K mainGlobals "read" = some (some (.ref f21))) (l21 : K.lookup f21 = some ⟨oc21, od21, .func (PySem.W.fnOf "read" "read" (defArgs s_read) (defBody s_read) (defScope s_read) .none kV21 dc21 pm21 an21 cd21 ct21), sl21⟩) (q21 : PySem.W.codeIn K cd21 "read" = true) (k21 : PySem.W.keepIn K (.ref f21) = true)
    (a22 : PySem.W.nsIn K mainGlobals "_law_found" = some (some (.ref f22))) (l22 : K.lookup f22 = some ⟨oc22, od22, .func (PySem.W.fnOf "_law_found" "_law_found" (defArgs s_l_found) (defBody s_l_found) (defScope s_l_found) .none kV22 dc22 pm22 an22 cd22 ct22), sl22⟩) (q22 : PySem.W.codeIn K cd22 "_law_found" = true) (k22 : PySem.W.keepIn K (.ref f22) = true)
    (a23 : PySem.W.nsIn K mainGlobals "_law_changed_text" = some (some (.ref f23))) (l23 : K.lookup f23 = some ⟨oc23, od23, .func (PySem.W.fnOf "_law_changed_text" "_law_changed_text" (defArgs s_l_changed_text) (defBody s_l_changed_text) (defScope s_l_changed_text) .none kV23 dc23 pm23 an23 cd23 ct23), sl23⟩) (q23 : PySem.W.codeIn K cd23 "_law_changed_text" = true) (k23 : PySem.W.keepIn K (.ref f23) = true)
    (a24 : PySem.W.nsIn K mainGlobals "_law_is_word" = some (some (.ref f24))) (l24 : K.lookup f24 = some ⟨oc24, od24, .func (PySem.W.fnOf "_law_is_word" "_law_is_word" (defArgs s_l_is_word) (defBody s_l_is_word) (defScope s_l_is_word) .none kV24 dc24 pm24 an24 cd24 ct24), sl24⟩) (q24 : PySem.W.codeIn K cd24 "_law_is_word" = true) (k24 : PySem.W.keepIn K (.ref f24) = true)
    (a25 : PySem.W.nsIn K mainGlobals "_law_are_rules" = some (some (.ref f25))) (l25 : K.lookup f25 = some ⟨oc25, od25, .func (PySem.W.fnOf "_law_are_rules" "_law_are_rules" (defArgs s_l_are_rules) (defBody s_l_are_rules) (defScope s_l_are_rules) .none kV25 dc25 pm25 an25 cd25 ct25), sl25⟩) (q25 : PySem.W.codeIn K cd25 "_law_are_rules" = true) (k25 : PySem.W.keepIn K (.ref f25) = true)
    (a26 : PySem.W.nsIn K mainGlobals "_law_due" = some (some (.ref f26))) (l26 : K.lookup f26 = some ⟨oc26, od26, .func (PySem.W.fnOf "_law_due" "_law_due" (defArgs s_l_due) (defBody s_l_due) (defScope s_l_due) .none kV26 dc26 pm26 an26 cd26 ct26), sl26⟩) (q26 : PySem.W.codeIn K cd26 "_law_due" = true) (k26 : PySem.W.keepIn K (.ref f26) = true)
    (a27 : PySem.W.nsIn K mainGlobals "law" = some (some (.ref f27))) (l27 : K.lookup f27 = some ⟨oc27, od27, .func (PySem.W.fnOf "law" "law" (defArgs s_law) (defBody s_law) (defScope s_law) .none kV27 dc27 pm27 an27 cd27 ct27), sl27⟩) (q27 : PySem.W.codeIn K cd27 "law" = true) (k27 : PySem.W.keepIn K (.ref f27) = true)
    (z_ValueError : PySem.W.nsIn K mainGlobals "ValueError" = some none)
    (z_all : PySem.W.nsIn K mainGlobals "all" = some none)
    (z_enumerate : PySem.W.nsIn K mainGlobals "enumerate" = some none)
    (z_int : PySem.W.nsIn K mainGlobals "int" = some none)
    (z_isinstance : PySem.W.nsIn K mainGlobals "isinstance" = some none)
    (z_len : PySem.W.nsIn K mainGlobals "len" = some none)
    (z_range : PySem.W.nsIn K mainGlobals "range" = some none)
    (z_str : PySem.W.nsIn K mainGlobals "str" = some none)
    (z_tuple : PySem.W.nsIn K mainGlobals "tuple" = some none)
    (y_BETWEEN_PARTS : PySem.W.nsIn K mainGlobals "BETWEEN_PARTS" = some (some (.str (" " : Str) t_BETWEEN_PARTS)))
    (y_BETWEEN_RULES : PySem.W.nsIn K mainGlobals "BETWEEN_RULES" = some (some (.str (" ; " : Str) t_BETWEEN_RULES)))
    (y_EMPTY_WORD_MARK : PySem.W.nsIn K mainGlobals "EMPTY_WORD_MARK" = some (some (.str ("-" : Str) t_EMPTY_WORD_MARK)))
    (y_LETTERS : PySem.W.nsIn K mainGlobals "LETTERS" = some (some (.str ("abc" : Str) t_LETTERS)))
    (y_MIDDLE_PART : PySem.W.nsIn K mainGlobals "MIDDLE_PART" = some (some (.str ("to" : Str) t_MIDDLE_PART)))
    (y_MOST_LEFT_LETTERS : PySem.W.nsIn K mainGlobals "MOST_LEFT_LETTERS" = some (some (.int 6 t_MOST_LEFT_LETTERS)))
    (y_MOST_LETTERS : PySem.W.nsIn K mainGlobals "MOST_LETTERS" = some (some (.int 12 t_MOST_LETTERS)))
    (y_MOST_RULES : PySem.W.nsIn K mainGlobals "MOST_RULES" = some (some (.int 8 t_MOST_RULES)))
    (y_NO_RULES_MARK : PySem.W.nsIn K mainGlobals "NO_RULES_MARK" = some (some (.str ("none" : Str) t_NO_RULES_MARK)))
    (a_NoRules : PySem.W.nsIn K mainGlobals "NoRules" = some (some (.ref C_NoRules))) (x_NoRules : PySem.W.excIn K C_NoRules [.type "ValueError", .type "Exception", .type "BaseException", .type "object"] "ValueError.__new__" = true)
    (a_NoText : PySem.W.nsIn K mainGlobals "NoText" = some (some (.ref C_NoText))) (x_NoText : PySem.W.excIn K C_NoText [.type "ValueError", .type "Exception", .type "BaseException", .type "object"] "ValueError.__new__" = true)
    (s_NoText_NoText : PySem.W.subIn K (.ref C_NoText) (.ref C_NoText) = some true)
    (k1_NoText : PySem.W.findIn K (.ref C_NoText) "__class__" = some (some (.builtin "object.__class__"))) (k2_NoText : PySem.W.findIn K (.ref C_NoText) "__getattribute__" = some (some (.builtin "BaseException.__getattribute__"))) (k3_NoText : PySem.W.findIn K (.ref C_NoText) "__getattr__" = some none) (k4_NoText : PySem.W.subIn K (.ref C_NoText) (.type "object") = some true) (k5_NoText : PySem.W.subIn K (.ref C_NoText) (.type "BaseException") = some true)
    (i_NoText_ValueError : PySem.W.kitOne K (.ref C_NoText) (.type "ValueError") = some true)
    (a_MeltError : PySem.W.nsIn K mainGlobals "MeltError" = some (some (.ref C_MeltError))) (x_MeltError : PySem.W.excIn K C_MeltError [.type "ValueError", .type "Exception", .type "BaseException", .type "object"] "ValueError.__new__" = true)
    (i_NoText_MeltError : PySem.W.kitOne K (.ref C_NoText) (.ref C_MeltError) = some true)
    (a_NoStep : PySem.W.nsIn K mainGlobals "NoStep" = some (some (.ref C_NoStep))) (x_NoStep : PySem.W.excIn K C_NoStep [.type "ValueError", .type "Exception", .type "BaseException", .type "object"] "ValueError.__new__" = true)
    (i_NoText_NoStep : PySem.W.kitOne K (.ref C_NoText) (.ref C_NoStep) = some false)
    (i_NoText_NoRules : PySem.W.kitOne K (.ref C_NoText) (.ref C_NoRules) = some false)
    : ∃ fd : FuncData, (∀ (s : Shared) (v : Value), BindsTo s fd ⟨[v], []⟩ [("_law_script", v)]) ∧ ∀ base : Heap, K.In base → base.Ns mainGlobals mg → FnOk l.prog w K mg base CX0 8 fa fd ["_law_script"] (spF K phi_law) := by
  have e := hfa.symm.trans (PySem.W.mg_of X G a27)
  cases e
  have m : Mg mg := ⟨PySem.W.mg_none_of X G z_ValueError, PySem.W.mg_none_of X G z_all, PySem.W.mg_none_of X G z_enumerate, PySem.W.mg_none_of X G z_int, PySem.W.mg_none_of X G z_isinstance, PySem.W.mg_none_of X G z_len, PySem.W.mg_none_of X G z_range, PySem.W.mg_none_of X G z_str, PySem.W.mg_none_of X G z_tuple, ⟨_, PySem.W.mg_of X G y_BETWEEN_PARTS⟩, ⟨_, PySem.W.mg_of X G y_BETWEEN_RULES⟩, ⟨_, PySem.W.mg_of X G y_EMPTY_WORD_MARK⟩, ⟨_, PySem.W.mg_of X G y_LETTERS⟩, ⟨_, PySem.W.mg_of X G y_MIDDLE_PART⟩, ⟨_, PySem.W.mg_of X G y_MOST_LEFT_LETTERS⟩, ⟨_, PySem.W.mg_of X G y_MOST_LETTERS⟩, ⟨_, PySem.W.mg_of X G y_MOST_RULES⟩, ⟨_, PySem.W.mg_of X G y_NO_RULES_MARK⟩⟩
  have z : Xc K mg C_NoRules C_NoText C_MeltError C_NoStep := ⟨⟨a_NoRules, PySem.W.mg_of X G a_NoRules, x_NoRules⟩, ⟨a_NoText, PySem.W.mg_of X G a_NoText, x_NoText⟩, s_NoText_NoText, ⟨k1_NoText, k2_NoText, k3_NoText, k4_NoText, k5_NoText, isc_of x_NoText⟩, i_NoText_ValueError, ⟨a_MeltError, PySem.W.mg_of X G a_MeltError, x_MeltError⟩, i_NoText_MeltError, ⟨a_NoStep, PySem.W.mg_of X G a_NoStep, x_NoStep⟩, i_NoText_NoStep, i_NoText_NoRules⟩
  have F0 := fun_mk (st := s_l_drawn) l0 q0 k0
  have b0 := F0.binds (ps := ["_law_number", "_law_k"]) fun _ _ _ _ _ _ us hl => match us, hl with | [_, _], _ => rfl
  have F1 := fun_mk (st := s_l_tame) l1 q1 k1
  have b1 := F1.binds (ps := ["_law_number", "_law_letters"]) fun _ _ _ _ _ _ us hl => match us, hl with | [_, _], _ => rfl
  have F2 := fun_mk (st := s_l_word) l2 q2 k2
  have b2 := F2.binds (ps := ["_law_number", "_law_letters", "_law_most"]) fun _ _ _ _ _ _ us hl => match us, hl with | [_, _, _], _ => rfl
  have F3 := fun_mk (st := s_l_less) l3 q3 k3
  have b3 := F3.binds (ps := ["_law_one", "_law_other"]) fun _ _ _ _ _ _ us hl => match us, hl with | [_, _], _ => rfl
  have F4 := fun_mk (st := s_l_rule) l4 q4 k4
  have b4 := F4.binds (ps := ["_law_number", "_law_letters"]) fun _ _ _ _ _ _ us hl => match us, hl with | [_, _], _ => rfl
  have F5 := fun_mk (st := s_l_rules) l5 q5 k5
  have b5 := F5.binds (ps := ["_law_number"]) fun _ _ _ _ _ _ us hl => match us, hl with | [_], _ => rfl
  have F6 := fun_mk (st := s_l_cell_at) l6 q6 k6
  have b6 := F6.binds (ps := ["_law_script", "_law_k"]) fun _ _ _ _ _ _ us hl => match us, hl with | [_, _], _ => rfl
  have F7 := fun_mk (st := s_l_mixed) l7 q7 k7
  have b7 := F7.binds (ps := ["_law_script", "_law_k"]) fun _ _ _ _ _ _ us hl => match us, hl with | [_, _], _ => rfl
  have F8 := fun_mk (st := s_l_written) l8 q8 k8
  have b8 := F8.binds (ps := ["_law_rules_here"]) fun _ _ _ _ _ _ us hl => match us, hl with | [_], _ => rfl
  have F9 := fun_mk (st := s_guessed_right) l9 q9 k9
  have b9 := F9.binds (ps := ["text"]) fun _ _ _ _ _ _ us hl => match us, hl with | [_], _ => rfl
  have F10 := fun_mk (st := s_guessed_rule) l10 q10 k10
  have b10 := F10.binds (ps := ["text"]) fun _ _ _ _ _ _ us hl => match us, hl with | [_], _ => rfl
  have F11 := fun_mk (st := s_guessed_rules) l11 q11 k11
  have b11 := F11.binds (ps := ["text"]) fun _ _ _ _ _ _ us hl => match us, hl with | [_], _ => rfl
  have F12 := fun_mk (st := s_is_word) l12 q12 k12
  have b12 := F12.binds (ps := ["thing"]) fun _ _ _ _ _ _ us hl => match us, hl with | [_], _ => rfl
  have F13 := fun_mk (st := s_is_pair_of_words) l13 q13 k13
  have b13 := F13.binds (ps := ["thing"]) fun _ _ _ _ _ _ us hl => match us, hl with | [_], _ => rfl
  have F14 := fun_mk (st := s_rank) l14 q14 k14
  have b14 := F14.binds (ps := ["word"]) fun _ _ _ _ _ _ us hl => match us, hl with | [_], _ => rfl
  have F15 := fun_mk (st := s_is_less) l15 q15 k15
  have b15 := F15.binds (ps := ["one", "other"]) fun _ _ _ _ _ _ us hl => match us, hl with | [_, _], _ => rfl
  have F16 := fun_mk (st := s_is_rule) l16 q16 k16
  have b16 := F16.binds (ps := ["thing"]) fun _ _ _ _ _ _ us hl => match us, hl with | [_], _ => rfl
  have F17 := fun_mk (st := s_are_rules) l17 q17 k17
  have b17 := F17.binds (ps := ["thing"]) fun _ _ _ _ _ _ us hl => match us, hl with | [_], _ => rfl
  have F18 := fun_mk (st := s_written_right) l18 q18 k18
  have b18 := F18.binds (ps := ["word"]) fun _ _ _ _ _ _ us hl => match us, hl with | [_], _ => rfl
  have F19 := fun_mk (st := s_written_rule) l19 q19 k19
  have b19 := F19.binds (ps := ["rule"]) fun _ _ _ _ _ _ us hl => match us, hl with | [_], _ => rfl
  have F20 := fun_mk (st := s_written) l20 q20 k20
  have b20 := F20.binds (ps := ["rules"]) fun _ _ _ _ _ _ us hl => match us, hl with | [_], _ => rfl
  have F21 := fun_mk (st := s_read) l21 q21 k21
  have b21 := F21.binds (ps := ["text"]) fun _ _ _ _ _ _ us hl => match us, hl with | [_], _ => rfl
  have F22 := fun_mk (st := s_l_found) l22 q22 k22
  have b22 := F22.binds (ps := ["_law_text"]) fun _ _ _ _ _ _ us hl => match us, hl with | [_], _ => rfl
  have F23 := fun_mk (st := s_l_changed_text) l23 q23 k23
  have b23 := F23.binds (ps := ["_law_text", "_law_number"]) fun _ _ _ _ _ _ us hl => match us, hl with | [_, _], _ => rfl
  have F24 := fun_mk (st := s_l_is_word) l24 q24 k24
  have b24 := F24.binds (ps := ["_law_thing"]) fun _ _ _ _ _ _ us hl => match us, hl with | [_], _ => rfl
  have F25 := fun_mk (st := s_l_are_rules) l25 q25 k25
  have b25 := F25.binds (ps := ["_law_thing"]) fun _ _ _ _ _ _ us hl => match us, hl with | [_], _ => rfl
  have F26 := fun_mk (st := s_l_due) l26 q26 k26
  have b26 := F26.binds (ps := ["_law_text"]) fun _ _ _ _ _ _ us hl => match us, hl with | [_], _ => rfl
  have F27 := fun_mk (st := s_law) l27 q27 k27
  refine ⟨PySem.W.fnOf "law" "law" (defArgs s_law) (defBody s_law) (defScope s_law) .none kV27 dc27 pm27 an27 cd27 ct27, fun s v => .of_eq rfl, fun base _ _ => ?_⟩
  have c0 := F0.callee (ok_l_drawn (P := l.prog) (w := w) (base := base) m F0) (PySem.W.mg_of X G a0) b0
  have c1 := F1.callee (ok_l_tame (P := l.prog) (w := w) (base := base) m F1 c0) (PySem.W.mg_of X G a1) b1
  have c2 := F2.callee (ok_l_word (P := l.prog) (w := w) (base := base) m F2 c0) (PySem.W.mg_of X G a2) b2
  have c3 := F3.callee (ok_l_less (P := l.prog) (w := w) (base := base) m F3) (PySem.W.mg_of X G a3) b3
  have c4 := F4.callee (ok_l_rule (P := l.prog) (w := w) (base := base) m F4 c2 c0 c3) (PySem.W.mg_of X G a4) b4
  have c5 := F5.callee (ok_l_rules (P := l.prog) (w := w) (base := base) m F5 c1 c4 c0) (PySem.W.mg_of X G a5) b5
  have c6 := F6.callee (ok_l_cell_at (P := l.prog) (w := w) (base := base) m F6) (PySem.W.mg_of X G a6) b6
  have c7 := F7.callee (ok_l_mixed (P := l.prog) (w := w) (base := base) m F7 c6) (PySem.W.mg_of X G a7) b7
  have c8 := F8.callee (ok_l_written (P := l.prog) (w := w) (base := base) m F8) (PySem.W.mg_of X G a8) b8
  have c9 := F9.callee (ok_guessed_right (P := l.prog) (w := w) (base := base) m F9) (PySem.W.mg_of X G a9) b9
  have c10 := F10.callee (ok_guessed_rule (P := l.prog) (w := w) (base := base) m F10 c9) (PySem.W.mg_of X G a10) b10
  have c11 := F11.callee (ok_guessed_rules (P := l.prog) (w := w) (base := base) m F11 c10) (PySem.W.mg_of X G a11) b11
  have c12 := F12.callee (ok_is_word (P := l.prog) (w := w) (base := base) m F12) (PySem.W.mg_of X G a12) b12
  have c13 := F13.callee (ok_is_pair_of_words (P := l.prog) (w := w) (base := base) m F13 c12) (PySem.W.mg_of X G a13) b13
  have c14 := F14.callee (ok_rank (P := l.prog) (w := w) (base := base) m F14) (PySem.W.mg_of X G a14) b14
  have c15 := F15.callee (ok_is_less (P := l.prog) (w := w) (base := base) m F15 c14) (PySem.W.mg_of X G a15) b15
  have c16 := F16.callee (ok_is_rule (P := l.prog) (w := w) (base := base) m F16 c13 c15) (PySem.W.mg_of X G a16) b16
  have c17 := F17.callee (ok_are_rules (P := l.prog) (w := w) (base := base) m F17 c16) (PySem.W.mg_of X G a17) b17
  have c18 := F18.callee (ok_written_right (P := l.prog) (w := w) (base := base) m F18) (PySem.W.mg_of X G a18) b18
  have c19 := F19.callee (ok_written_rule (P := l.prog) (w := w) (base := base) m F19 c18) (PySem.W.mg_of X G a19) b19
  have c20 := F20.callee (ok_written (P := l.prog) (w := w) (base := base) m F20 z c17 c19) (PySem.W.mg_of X G a20) b20
  have x20 := F20.calleeX (okx_written (P := l.prog) (w := w) (base := base) m F20 z c17 c19) (PySem.W.mg_of X G a20) b20
  have c21 := F21.callee (ok_read (P := l.prog) (w := w) (base := base) m F21 z c11 c17 c20) (PySem.W.mg_of X G a21) b21
  have x21 := F21.calleeX (okx_read (P := l.prog) (w := w) (base := base) m F21 z c11 c17 c20) (PySem.W.mg_of X G a21) b21
  have c22 := F22.callee (ok_l_found (P := l.prog) (w := w) (base := base) m F22 z x21) (PySem.W.mg_of X G a22) b22
  have c23 := F23.callee (ok_l_changed_text (P := l.prog) (w := w) (base := base) m F23) (PySem.W.mg_of X G a23) b23
  have c24 := F24.callee (ok_l_is_word (P := l.prog) (w := w) (base := base) m F24) (PySem.W.mg_of X G a24) b24
  have c25 := F25.callee (ok_l_are_rules (P := l.prog) (w := w) (base := base) m F25 c24 c3) (PySem.W.mg_of X G a25) b25
  have c26 := F26.callee (ok_l_due (P := l.prog) (w := w) (base := base) m F26 c25 c8) (PySem.W.mg_of X G a26) b26
  exact ok_law m F27 c5 c7 c8 c22 c23 c0 c26 c25
theorem walk {l : PySem.W.OpenLaw} {q : Program} {loose : List Str} {XP : (Str → Option Value) → Heap → Prop} {YP : World → Heap → Prop} {d : DefRec} {K : Params → PySem.W.Frag} (hn : l.most = some 63) (hdf : d.params.defaults = [])
    (holds : ∀ ns : List Int, ns.length ≤ 63 → phi_law [.lst (ns.map Th.int)] = some (.bl true))
    (hY : ∀ (w : World) (h : Heap), YP w h → (K w.params).In h)
    (F : ∀ (w : World) (mg : Str → Option Value) (fa : Addr) (h : Heap), (K w.params).In h → h.Ns mainGlobals mg → mg d.name = some (.ref fa) →
      ∃ fd : FuncData, (∀ (s : Shared) (u : Value), BindsTo s fd ⟨[u], []⟩ [("_law_script", u)]) ∧ ∀ base : Heap, (K w.params).In base → base.Ns mainGlobals mg → FnOk l.prog w (K w.params) mg base CX0 8 fa fd ["_law_script"] (spF (K w.params) phi_law)) :
    PySem.W.WalkO q loose XP YP l.row.toRowW d [] (fun f vs => PySem.call f vs) :=
  L2.walk_of (n := 63) (k := 8) (x := "_law_script") (CX := fun _ => CX0) (sp := fun w => spF (K w.params) phi_law) hn (by decide) hdf ⟨rfl, by decide, by decide⟩ hY F
    (fun w H a ns hl _ hS => law_sp hS (holds ns hl)) fun _ _ _ _ _ z => z
end K03
open PySem PySem.W PyProof.Rows
set_option maxRecDepth 100000 in
set_option maxHeartbeats 0 in
theorem PySem.Challenge.cw_wordmelt_k03_whole_read_holds : PySem.Challenge.rw_wordmelt_k03_whole_read.Holds := by
  w_on; o_law; k_head; (case hw => w_witness2)
  k_fill
  refine K03.walk (l := PySem.Challenge.rw_wordmelt_k03_whole_read) rfl rfl K03.holds (fun w h Y => PySem.W.kIn_of Y) ?F
  case F =>
    intro w mg fa h KX G hmg
    refine' K03.all_mk KX G hmg ?a0 ?l0 ?q0 ?k0 ?a1 ?l1 ?q1 ?k1 ?a2 ?l2 ?q2 ?k2 ?a3 ?l3 ?q3 ?k3 ?a4 ?l4 ?q4 ?k4 ?a5 ?l5 ?q5 ?k5 ?a6 ?l6 ?q6 ?k6 ?a7 ?l7 ?q7 ?k7 ?a8 ?l8 ?q8 ?k8 ?a9 ?l9 ?q9 ?k9 ?a10 ?l10 ?q10 ?k10 ?a11 ?l11 ?q11 ?k11 ?a12 ?l12 ?q12 ?k12 ?a13 ?l13 ?q13 ?k13 ?a14 ?l14 ?q14 ?k14 ?a15 ?l15 ?q15 ?k15 ?a16 ?l16 ?q16 ?k16 ?a17 ?l17 ?q17 ?k17 ?a18 ?l18 ?q18 ?k18 ?a19 ?l19 ?q19 ?k19 ?a20 ?l20 ?q20 ?k20 ?a21 ?l21 ?q21 ?k21 ?a22 ?l22 ?q22 ?k22 ?a23 ?l23 ?q23 ?k23 ?a24 ?l24 ?q24 ?k24 ?a25 ?l25 ?q25 ?k25 ?a26 ?l26 ?q26 ?k26 ?a27 ?l27 ?q27 ?k27 ?z_ValueError ?z_all ?z_enumerate ?z_int ?z_isinstance ?z_len ?z_range ?z_str ?z_tuple ?y_BETWEEN_PARTS ?y_BETWEEN_RULES ?y_EMPTY_WORD_MARK ?y_LETTERS ?y_MIDDLE_PART ?y_MOST_LEFT_LETTERS ?y_MOST_LETTERS ?y_MOST_RULES ?y_NO_RULES_MARK ?a_NoRules ?x_NoRules ?a_NoText ?x_NoText ?s_NoText_NoText ?k1_NoText ?k2_NoText ?k3_NoText ?k4_NoText ?k5_NoText ?i_NoText_ValueError ?a_MeltError ?x_MeltError ?i_NoText_MeltError ?a_NoStep ?x_NoStep ?i_NoText_NoStep ?i_NoText_NoRules
    (case a0 => k_is)
    (case l0 => k_is)
    (case q0 => k_is)
    (case k0 => k_is)
    (case a1 => k_is)
    (case l1 => k_is)
    (case q1 => k_is)
    (case k1 => k_is)
    (case a2 => k_is)
    (case l2 => k_is)
    (case q2 => k_is)
    (case k2 => k_is)
    (case a3 => k_is)
    (case l3 => k_is)
    (case q3 => k_is)
    (case k3 => k_is)
    (case a4 => k_is)
    (case l4 => k_is)
    (case q4 => k_is)
    (case k4 => k_is)
    (case a5 => k_is)
    (case l5 => k_is)
    (case q5 => k_is)
    (case k5 => k_is)
    (case a6 => k_is)
    (case l6 => k_is)
    (case q6 => k_is)
    (case k6 => k_is)
    (case a7 => k_is)
    (case l7 => k_is)
    (case q7 => k_is)
    (case k7 => k_is)
    (case a8 => k_is)
    (case l8 => k_is)
    (case q8 => k_is)
    (case k8 => k_is)
    (case a9 => k_is)
    (case l9 => k_is)
    (case q9 => k_is)
    (case k9 => k_is)
    (case a10 => k_is)
    (case l10 => k_is)
    (case q10 => k_is)
    (case k10 => k_is)
    (case a11 => k_is)
    (case l11 => k_is)
    (case q11 => k_is)
    (case k11 => k_is)
    (case a12 => k_is)
    (case l12 => k_is)
    (case q12 => k_is)
    (case k12 => k_is)
    (case a13 => k_is)
    (case l13 => k_is)
    (case q13 => k_is)
    (case k13 => k_is)
    (case a14 => k_is)
    (case l14 => k_is)
    (case q14 => k_is)
    (case k14 => k_is)
    (case a15 => k_is)
    (case l15 => k_is)
    (case q15 => k_is)
    (case k15 => k_is)
    (case a16 => k_is)
    (case l16 => k_is)
    (case q16 => k_is)
    (case k16 => k_is)
    (case a17 => k_is)
    (case l17 => k_is)
    (case q17 => k_is)
    (case k17 => k_is)
    (case a18 => k_is)
    (case l18 => k_is)
    (case q18 => k_is)
    (case k18 => k_is)
    (case a19 => k_is)
    (case l19 => k_is)
    (case q19 => k_is)
    (case k19 => k_is)
    (case a20 => k_is)
    (case l20 => k_is)
    (case q20 => k_is)
    (case k20 => k_is)
    (case a21 => k_is)
    (case l21 => k_is)
    (case q21 => k_is)
    (case k21 => k_is)
    (case a22 => k_is)
    (case l22 => k_is)
    (case q22 => k_is)
    (case k22 => k_is)
    (case a23 => k_is)
    (case l23 => k_is)
    (case q23 => k_is)
    (case k23 => k_is)
    (case a24 => k_is)
    (case l24 => k_is)
    (case q24 => k_is)
    (case k24 => k_is)
    (case a25 => k_is)
    (case l25 => k_is)
    (case q25 => k_is)
    (case k25 => k_is)
    (case a26 => k_is)
    (case l26 => k_is)
    (case q26 => k_is)
    (case k26 => k_is)
    (case a27 => k_is)
    (case l27 => k_is)
    (case q27 => k_is)
    (case k27 => k_is)
    (case z_ValueError => k_is)
    (case z_all => k_is)
    (case z_enumerate => k_is)
    (case z_int => k_is)
    (case z_isinstance => k_is)
    (case z_len => k_is)
    (case z_range => k_is)
    (case z_str => k_is)
    (case z_tuple => k_is)
    (case y_BETWEEN_PARTS => k_is)
    (case y_BETWEEN_RULES => k_is)
    (case y_EMPTY_WORD_MARK => k_is)
    (case y_LETTERS => k_is)
    (case y_MIDDLE_PART => k_is)
    (case y_MOST_LEFT_LETTERS => k_is)
    (case y_MOST_LETTERS => k_is)
    (case y_MOST_RULES => k_is)
    (case y_NO_RULES_MARK => k_is)
    (case a_NoRules => k_is)
    (case x_NoRules => k_exc)
    (case a_NoText => k_is)
    (case x_NoText => k_exc)
    (case s_NoText_NoText => k_is)
    (case k1_NoText => k_is)
    (case k2_NoText => k_is)
    (case k3_NoText => k_is)
    (case k4_NoText => k_is)
    (case k5_NoText => k_is)
    (case i_NoText_ValueError => kit_is)
    (case a_MeltError => k_is)
    (case x_MeltError => k_exc)
    (case i_NoText_MeltError => kit_is)
    (case a_NoStep => k_is)
    (case x_NoStep => k_exc)
    (case i_NoText_NoStep => kit_is)
    (case i_NoText_NoRules => kit_is)
