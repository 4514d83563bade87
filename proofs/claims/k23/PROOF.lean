import PyProof.Rows.All
import Wide.All
import OpenK.AllK
import Wide.FinOn
import Lean
import PyProof.EqAt
import PyProof.EqKinds
import PyProof.TupleCall
import PySem.Challenge.RW_lostblock_k23_families_in_turn
set_option Elab.async false
set_option linter.all false
set_option maxRecDepth 100000
def PySem.W.Fast.tw1200310401300803690:=()
def PySem.W.Fast.tw15786508974887330966:=()
def PySem.W.Fast.tw5101953496091721177:=()
def PySem.W.Fast.tw9172522393559218806:=()
def PySem.W.Fast.tw933146248440647006:=()
def PySem.W.Fast.tw10778317332685785517:=()
def PySem.W.Fast.tw3315192817437452377:=()
def PySem.W.Fast.tw12705055089889684158:=()
def PySem.W.Fast.tw13704991460086740967:=()
def PySem.W.Fast.tw13804230723729527890:=()
set_option compiler.extract_closed false
set_option bootstrap.genMatcherCode false
set_option genSizeOf false
local macro_rules | `(tactic| omega) => `(tactic| first | (grind only) | omega (config := {}))
local macro_rules | `(tactic| lia) => `(tactic| first | lia -verbose | omega (config := {}))
namespace L2
open PySem PySem.Spec PyProof.Rows

noncomputable abbrev Key := Sum Int Str
noncomputable def keyIs : Key → Value → Bool
  | .inl k, v => Value.isInt k v
  | .inr x, v => Value.isStrOf x v
noncomputable def keyH (w : World) : Key → Int
  | .inl k => hashInt k
  | .inr x => hashStr w x
theorem keyIs_shape : ∀ {k : Key} {v : Value}, keyIs k v = true → (∃ i t, k = Sum.inl i ∧ v = Value.int i t) ∨ (∃ x t, k = Sum.inr x ∧ v = Value.str x t)
  | .inl i, v, h => by
    obtain ⟨t, e⟩ := Value.isInt_shape (k := i) (v := v) h
    exact .inl ⟨i, t, rfl, e⟩
  | .inr x, v, h => by
    obtain ⟨t, e⟩ := Value.isStrOf_shape (x := x) (v := v) h
    exact .inr ⟨x, t, rfl, e⟩
theorem keyIs_int (i : Int) (t : Tok) : keyIs (.inl i) (.int i t) = true := by simp [keyIs, Value.isInt]
theorem keyIs_str (x : Str) (t : Tok) : keyIs (.inr x) (.str x t) = true := by simp [keyIs, Value.isStrOf]
theorem key_ll (a b : Int) : decide ((Sum.inl a : Key) = Sum.inl b) = (a == b) := by
  by_cases e : a = b
  · subst e; simp
  · have h : ¬ (Sum.inl a : Key) = Sum.inl b := fun q => e (Sum.inl.inj q)
    rw [decide_eq_false h]
    exact (beq_eq_false_iff_ne.mpr e).symm
theorem key_rr (a b : Str) : decide ((Sum.inr a : Key) = Sum.inr b) = decide (a = b) := by
  by_cases e : a = b
  · subst e; simp
  · have h : ¬ (Sum.inr a : Key) = Sum.inr b := fun q => e (Sum.inr.inj q)
    rw [decide_eq_false h, decide_eq_false e]
theorem key_lr (a : Int) (b : Str) : decide ((Sum.inl a : Key) = Sum.inr b) = false := decide_eq_false (fun q => nomatch q)
theorem key_rl (a : Str) (b : Int) : decide ((Sum.inr a : Key) = Sum.inl b) = false := decide_eq_false (fun q => nomatch q)

noncomputable def mixKind (prog : Program) (w : World) : PySem.KeyKind prog w Key where
  is := keyIs
  hash := keyH w
  inj := fun v a b ha hb => by
    rcases keyIs_shape ha with ⟨i, t, rfl, rfl⟩ | ⟨x, t, rfl, rfl⟩
    · rcases keyIs_shape hb with ⟨j, u, rfl, e⟩ | ⟨y, u, rfl, e⟩
      · injection e with e1 _; rw [e1]
      · exact nomatch e
    · rcases keyIs_shape hb with ⟨j, u, rfl, e⟩ | ⟨y, u, rfl, e⟩
      · exact nomatch e
      · injection e with e1 _; rw [e1]
  byValue := fun k v h => by
    rcases keyIs_shape h with ⟨i, t, rfl, rfl⟩ | ⟨x, t, rfl, rfl⟩ <;> rfl
  pyHash := fun hv h => by
    rcases keyIs_shape hv with ⟨i, t, rfl, rfl⟩ | ⟨x, t, rfl, rfl⟩
    · exact wpAny_pyHash_int h
    · exact wpAny_pyHash_str h
  eqBool := fun hu hv h => by
    rcases keyIs_shape hu with ⟨i, t, rfl, rfl⟩ | ⟨x, t, rfl, rfl⟩
    · rcases keyIs_shape hv with ⟨j, u, rfl, rfl⟩ | ⟨y, u, rfl, rfl⟩
      · rw [key_ll] at h; exact wpAny_eqBool_int h
      · rw [key_lr] at h; exact SeqAt.EqAt.int_str i t y u _ _ _ _ h
    · rcases keyIs_shape hv with ⟨j, u, rfl, rfl⟩ | ⟨y, u, rfl, rfl⟩
      · rw [key_rl] at h; exact SeqAt.EqAt.str_int x t j u _ _ _ _ h
      · rw [key_rr] at h; exact wpAny_eqBool_str h
  «strs» := fun k x t v h => by
    rcases keyIs_shape h with ⟨i, u, rfl, e⟩ | ⟨y, u, rfl, e⟩
    · exact nomatch e
    · injection e with e1 _
      subst e1
      cases v <;> rfl

theorem mixKind_int (prog : Program) (w : World) (i : Int) (t : Tok) : (mixKind prog w).is (.inl i) (.int i t) = true := keyIs_int i t
theorem mixKind_str (prog : Program) (w : World) (x : Str) (t : Tok) : (mixKind prog w).is (.inr x) (.str x t) = true := keyIs_str x t
end L2

namespace L2
open PySem PySem.Spec PyProof.Rows

inductive V where
  | non | bl (b : Bool) | int (i : Int) | str (x : Str) | byt (b : Array UInt8) | flt (b : UInt64) | ref (a : Addr) | ty (n : String)
  deriving DecidableEq

noncomputable def RelV : V → Value → Prop
  | .non, u => u = Value.none
  | .bl b, u => u = Value.bool b
  | .int i, u => ∃ t, u = Value.int i t
  | .str x, u => ∃ t, u = Value.str x t
  | .byt b, u => ∃ t, u = Value.bytes b t
  | .flt b, u => ∃ t, u = Value.float b t
  | .ref a, u => u = Value.ref a
  | .ty n, u => u = Value.type n

noncomputable abbrev Vals : List V → List Value → Prop := Paired RelV
theorem Vals.length {xs : List V} {us : List Value} (r : Vals xs us) : xs.length = us.length := Paired.length r
theorem Vals.get : ∀ {xs : List V} {us : List Value} {i : Nat} {x : V}, Vals xs us → xs[i]? = some x → ∃ u, us[i]? = some u ∧ RelV x u
  | _, _, _, _, .nil, e => by simp at e
  | _, _, 0, _, .cons r _, e => by simp at e; subst e; exact ⟨_, rfl, r⟩
  | _, _, i + 1, x, .cons _ t, e => by
    obtain ⟨u, h1, h2⟩ := Vals.get (i := i) (x := x) t (by simpa using e)
    exact ⟨u, by simpa using h1, h2⟩
theorem Vals.set {x : V} {u : Value} (r : RelV x u) : ∀ {xs : List V} {us : List Value} (i : Nat), Vals xs us → Vals (xs.set i x) (us.set i u)
  | _, _, _, .nil => .nil
  | _, _, 0, .cons _ t => .cons r t
  | _, _, i + 1, .cons q t => .cons q (Vals.set r i t)
theorem Vals.append : ∀ {xs ys : List V} {us ws : List Value}, Vals xs us → Vals ys ws → Vals (xs ++ ys) (us ++ ws)
  | _, _, _, _, .nil, s => s
  | _, _, _, _, .cons r t, s => .cons r (Vals.append t s)
theorem Vals.take : ∀ {xs : List V} {us : List Value} (n : Nat), Vals xs us → Vals (xs.take n) (us.take n)
  | _, _, 0, _ => .nil
  | _, _, _ + 1, .nil => .nil
  | _, _, n + 1, .cons r t => .cons r (Vals.take n t)
theorem Vals.drop : ∀ {xs : List V} {us : List Value} (n : Nat), Vals xs us → Vals (xs.drop n) (us.drop n)
  | _, _, 0, r => r
  | _, _, _ + 1, .nil => .nil
  | _, _, n + 1, .cons _ t => Vals.drop n t
noncomputable def RelO : Option V → Option Value → Prop
  | some v, some u => RelV v u
  | none, none => True
  | _, _ => False
noncomputable def KV {κ : Type} : List (κ × V) → List (κ × Value) → Prop := Paired fun (p : κ × V) (q : κ × Value) => p.1 = q.1 ∧ RelV p.2 q.2

noncomputable def kV : Key → V
  | .inl i => .int i
  | .inr x => .str x

inductive HO where
  | lst (xs : List V)
  | tup (xs : List V)
  | dK (kvs : List (Key × V)) | dT (kvs : List (List Key × V))
  | set (S : Int → Bool) (n : Nat)
  | ins (C dx : Addr) (fs : List (Str × V))
  | own (x : Addr)
  | xd (fs : List (Str × V))
  | met (f x : Addr)
  | rng (lo hi : Int)
  | frz (o : Obj) (u : HO)
  | tbl (ps : Array Value)
  | ext (φ : Heap → Prop)

noncomputable abbrev Hp := Addr → Option HO
noncomputable def upd (H : Hp) (a : Addr) (o : HO) : Hp := fun b => if b = a then some o else H b
theorem upd_same {H : Hp} {a : Addr} {o : HO} : upd H a o a = some o := by unfold upd; rw [if_pos rfl]
theorem upd_ne {H : Hp} {a b : Addr} {o : HO} (h : b ≠ a) : upd H a o b = H b := by unfold upd; rw [if_neg h]
theorem ne_of {H : Hp} {a b : Addr} {o u : HO} (h : H a = some o) (h' : H b = some u) (d : o ≠ u) : a ≠ b := by
  intro e; subst e; rw [h] at h'; exact d (Option.some.inj h')
theorem ne_of_none {H : Hp} {a b : Addr} {o : HO} (h : H a = some o) (h' : H b = none) : a ≠ b := by
  intro e; subst e; rw [h] at h'; cases h'

noncomputable def IsTupN (h : Heap) (a : Addr) (items : Array Value) : Prop := IsTup h a items ∧ ∀ o, h.get? a = some o → o.dict = none
theorem IsTupN.new (h : Heap) (items : Array Value) : IsTupN (h.push { cls := .type "tuple", data := .seq items }) h.objs.size items := ⟨IsTup.new h items, fun o e => by rw [Heap.get?_push_size _ rfl] at e; cases e; rfl⟩
theorem IsTupN.mk {h : Heap} {a : Addr} {items : Array Value} {n : Nat} (e : h.get? a = some { cls := .type "tuple", data := .seq items n }) : IsTupN h a items := ⟨⟨_, e, rfl, _, rfl⟩, fun o q => by rw [e] at q; cases q; rfl⟩
theorem IsTupN.lt {h : Heap} {a : Addr} {items : Array Value} (x : IsTupN h a items) : a < h.objs.size := x.1.lt
theorem IsTupN.at' {h h' : Heap} {a : Addr} {items : Array Value} (x : IsTupN h a items) (e : ∀ o, h.get? a = some o → h'.get? a = some o) : IsTupN h' a items := by
  obtain ⟨⟨o, h1, r⟩, d⟩ := x
  exact ⟨⟨o, e o h1, r⟩, fun u q => by rw [e o h1] at q; cases q; exact d o h1⟩

section
variable (P : Program) (w : World)
noncomputable def ObjOk (H : Hp) (h : Heap) (a : Addr) : HO → Prop
  | .lst xs => xs.length ≤ sizeLine ∧ ∃ (its : List Value) (n : Nat), Vals xs its ∧ h.get? a = some { cls := .type "list", data := .seq its.toArray n }
  | .tup xs => xs.length ≤ sizeLine ∧ ∃ its : List Value, Vals xs its ∧ IsTupN h a its.toArray
  | .dK kvs => kvs.length ≤ sizeLine ∧ (a == sysModules) = false ∧ ∃ vs, KV kvs vs ∧ h.DictOf (mixKind P w) a vs
  | .dT kvs => kvs.length ≤ sizeLine ∧ (a == sysModules) = false ∧ ∃ xs : List (List Key × Addr × Value),
      Paired (fun (p : List Key × V) (q : List Key × Addr × Value) => p.1 = q.1 ∧ H q.2.1 = some (.tup (p.1.map kV)) ∧ RelV p.2 q.2.2) kvs xs ∧
      ∃ o es ep, h.get? a = some o ∧ o.ExactDict ∧ o.data = .dict es ep ∧ es.toList = xs.map (entryOfKey (tupleKind (mixKind P w))) ∧ (xs.map (·.1)).Nodup
  | .set S n => h.SetOf (intKind P w) a S n
  | .ins C dx fs => H dx = some (.own a) ∧ fs.length ≤ 1000 ∧ dx ≠ a ∧ h.get? a = some (PySem.W.instObj C dx) ∧
      ∃ mA, h.Ns1 dx mA ∧ (∀ f, RelO (fs.lookup f) (mA f)) ∧ PySem.Within mA (fs.map (·.1))
  | .own _ => ∃ o, h.get? a = some o
  | .xd fs => ∃ mA, h.Ns1 a mA ∧ ∀ f, RelO (fs.lookup f) (mA f)
  | .rng lo hi => ∃ t u v, h.get? a = some { cls := .type "range", data := .fields #[.int lo t, .int hi u, .int 1 v] }
  | .frz o u => h.get? a = some o ∧ ObjOk H h a u
  | .tbl ps => h.get? a = some { cls := .none, data := .fields ps }
  | .met f x => h.get? a = some (PySem.W.methodObj (.ref f) (.ref x))
  | .ext φ => φ h ∧ (∃ o, h.get? a = some o) ∧ ∀ h1 h2 : Heap, φ h1 → (∀ o, h1.get? a = some o → h2.get? a = some o) → φ h2
noncomputable def HOk (H : Hp) (h : Heap) : Prop := ∀ a o, H a = some o → ObjOk P w H h a o
end

section
variable {P : Program} {w : World} {H H' : Hp} {h h' : Heap} {a : Addr} {o : HO}
theorem ObjOk.lt (x : ObjOk P w H h a o) : a < h.objs.size := by
  cases o with
  | lst xs => obtain ⟨_, _, _, _, e⟩ := x; exact Heap.lt_size e
  | tup xs => obtain ⟨_, _, _, p⟩ := x; exact p.lt
  | dK kvs => obtain ⟨_, _, _, _, o, _, _, e, _⟩ := x; exact Heap.lt_size e
  | dT kvs => obtain ⟨_, _, _, _, o, _, _, e, _⟩ := x; exact Heap.lt_size e
  | set S n => obtain ⟨o, _, _, _, e, _⟩ := x; exact Heap.lt_size e
  | ins C dx fs => obtain ⟨_, _, _, e, _⟩ := x; exact Heap.lt_size e
  | own y => obtain ⟨_, e⟩ := x; exact Heap.lt_size e
  | xd fs => obtain ⟨_, ⟨_, _, _, e, _⟩, _⟩ := x; exact Heap.lt_size e
  | rng lo hi => obtain ⟨_, _, _, e⟩ := x; exact Heap.lt_size e
  | frz ob u => obtain ⟨e, _⟩ := x; exact Heap.lt_size e
  | tbl ps => exact Heap.lt_size (show h.get? a = some _ from x)
  | met f y => exact Heap.lt_size (show h.get? a = some _ from x)
  | ext φ => obtain ⟨_, ⟨_, e⟩, _⟩ := x; exact Heap.lt_size e
theorem Paired.mapP {α β : Type} {F G : α → β → Prop} : ∀ {l₁ : List α} {l₂ : List β}, Paired F l₁ l₂ → (∀ a b, F a b → G a b) → Paired G l₁ l₂
  | _, _, .nil, _ => .nil
  | _, _, .cons r t, f => .cons (f _ _ r) (Paired.mapP t f)
theorem ObjOk.stay (x : ObjOk P w H h a o) (k : ∀ b u, (b = a ∨ H b = some (.own a)) → h.get? b = some u → h'.get? b = some u)
    (ho : ∀ b, H b = some (.own a) → H' b = some (.own a)) (ht : ∀ b xs, H b = some (.tup xs) → H' b = some (.tup xs)) : ObjOk P w H' h' a o := by
  induction o with
  | lst xs => obtain ⟨z, its, n, r, e⟩ := x; exact ⟨z, its, n, r, k _ _ (.inl rfl) e⟩
  | tup xs => obtain ⟨z, its, r, c⟩ := x; exact ⟨z, its, r, c.at' fun o e => k _ _ (.inl rfl) e⟩
  | dK kvs => obtain ⟨z, y, vs, r, ob, es, ep, e, c⟩ := x; exact ⟨z, y, vs, r, ob, es, ep, k _ _ (.inl rfl) e, c⟩
  | dT kvs =>
    obtain ⟨z, y, xs, r, ob, es, ep, e, c⟩ := x
    exact ⟨z, y, xs, Paired.mapP r fun p q z => ⟨z.1, ht _ _ z.2.1, z.2.2⟩, ob, es, ep, k _ _ (.inl rfl) e, c⟩
  | set S n => obtain ⟨ob, es, ep, t, e, c⟩ := x; exact ⟨ob, es, ep, t, k _ _ (.inl rfl) e, c⟩
  | ins C dx fs =>
    obtain ⟨d, z, ne, e, mA, ⟨od, es, ep, e2, c⟩, r⟩ := x
    exact ⟨ho _ d, z, ne, k _ _ (.inl rfl) e, mA, ⟨od, es, ep, k _ _ (.inr d) e2, c⟩, r⟩
  | own y => obtain ⟨ob, e⟩ := x; exact ⟨ob, k _ _ (.inl rfl) e⟩
  | xd fs => obtain ⟨mA, ⟨od, es, ep, e, c⟩, r⟩ := x; exact ⟨mA, ⟨od, es, ep, k _ _ (.inl rfl) e, c⟩, r⟩
  | rng lo hi => obtain ⟨t, u, v, e⟩ := x; exact ⟨t, u, v, k _ _ (.inl rfl) e⟩
  | frz ob u ih => obtain ⟨e, q⟩ := x; exact ⟨k _ _ (.inl rfl) e, ih q⟩
  | tbl ps =>
    have e : h.get? a = some { cls := .none, data := .fields ps } := x
    show h'.get? a = some { cls := .none, data := .fields ps }
    exact k a _ (.inl rfl) e
  | met f y =>
    have e : h.get? a = some (PySem.W.methodObj (.ref f) (.ref y)) := x
    show h'.get? a = some (PySem.W.methodObj (.ref f) (.ref y))
    exact k a _ (.inl rfl) e
  | ext φ => obtain ⟨p, ⟨o, e⟩, st⟩ := x; exact ⟨st _ _ p fun o q => k _ _ (.inl rfl) q, ⟨o, k _ _ (.inl rfl) e⟩, st⟩
theorem HOk.lt (x : HOk P w H h) (e : H a = some o) : a < h.objs.size := (x a o e).lt
theorem HOk.fresh (x : HOk P w H h) (e : h.objs.size ≤ a) : H a = none := by
  cases q : H a with
  | none => rfl
  | some u => exact absurd (Nat.lt_of_lt_of_le (x.lt q) e) (Nat.lt_irrefl _)
theorem HOk.kept (x : HOk P w H h) (k : ∀ b u, h.get? b = some u → h'.get? b = some u) : HOk P w H h' := fun a o e =>
  (x a o e).stay (fun b u _ q => k b u q) (fun _ q => q) fun _ _ q => q
theorem HOk.laid (x : HOk P w H h) (k : ∀ b u, h.get? b = some u → h'.get? b = some u) (hp : h.objs.size ≤ a) (new : ObjOk P w (upd H a o) h' a o) : HOk P w (upd H a o) h' := fun b u e => by
  have hn := x.fresh hp
  by_cases hb : b = a
  · subst hb; rw [upd_same] at e; cases e; exact new
  · rw [upd_ne hb] at e
    exact (x b u e).stay (fun c v _ q => k c v q) (fun c q => by rw [upd_ne (ne_of_none q hn)]; exact q) fun c xs q => by rw [upd_ne (ne_of_none q hn)]; exact q
end

noncomputable def Rd (H : Hp) (a : Addr) (u : HO) : Prop := H a = some u ∨ ∃ o, H a = some (.frz o u)
theorem Rd.of {H : Hp} {a : Addr} {u : HO} (h : H a = some u) : Rd H a u := .inl h
theorem Rd.ok {P : Program} {w : World} {H : Hp} {h : Heap} {a : Addr} {u : HO} (r : Rd H a u) (x : HOk P w H h) : ObjOk P w H h a u := by
  rcases r with r | ⟨o, r⟩
  · exact x a u r
  · obtain ⟨_, q⟩ := x a _ r
    exact q
noncomputable def Mut : Option HO → Prop
  | some (.lst _) => True
  | some (.dK _) => True
  | some (.dT _) => True
  | some (.set _ _) => True
  | some (.ins _ _ _) => True
  | some (.ext _) => True
  | _ => False
section
variable {P : Program} {w : World} {H : Hp} {h h' : Heap} {x e : Addr} {o' : HO}
theorem HOk.write (ok : HOk P w H h) (mu : Mut (H x)) (he : e = x ∨ H e = some (.own x)) (k : ∀ b u, b ≠ e → h.get? b = some u → h'.get? b = some u) (heo : ∃ u, h'.get? e = some u)
    (new : ObjOk P w (upd H x o') h' x o') : HOk P w (upd H x o') h' := fun b u q => by
  have nown : ∀ c y, H c = some (.own y) → c ≠ x := fun c y r z => by subst z; rw [r] at mu; exact mu
  have ntup : ∀ c xs, H c = some (.tup xs) → c ≠ x := fun c xs r z => by subst z; rw [r] at mu; exact mu
  by_cases hb : b = x
  · subst hb; rw [upd_same] at q; cases q; exact new
  · rw [upd_ne hb] at q
    by_cases hbe : b = e
    · have q' : H b = some (.own x) := by
        rcases he with z | z
        · exact absurd (hbe.trans z) hb
        · rw [hbe]; exact z
      rw [q] at q'; cases q'
      obtain ⟨v, hv⟩ := heo
      exact ⟨v, by rw [hbe]; exact hv⟩
    · refine (ok b u q).stay (fun c v hc r => k c v ?_ r) (fun c r => by rw [upd_ne (nown c b r)]; exact r) fun c xs r => by rw [upd_ne (ntup c xs r)]; exact r
      rcases hc with rfl | hc
      · exact hbe
      · rintro rfl
        rcases he with z | z
        · exact nown c b hc z
        · rw [hc] at z; cases z; exact hb rfl
end

structure Un (fs ex : List Addr) (H H' : Hp) (h h' : Heap) : Prop where
  keep : ∀ b o, h.get? b = some o → H b = none → b ∉ fs → b ∉ ex → h'.get? b = some o
  slot : ∀ b o, h.get? b = some o → H b = none → b ∈ fs → b ∉ ex → ∃ sl, h'.get? b = some { o with slots := sl }
  free : ∀ b o, h.get? b = some o → H b = none → b ∉ ex → H' b = none
  there : ∀ b o, h.get? b = some o → b ∉ ex → ∃ o', h'.get? b = some o'
  tups : ∀ b xs, H b = some (.tup xs) → H' b = some (.tup xs)
  frzs : ∀ b o u, H b = some (.frz o u) → H' b = some (.frz o u)
  tbls : ∀ b ps, H b = some (.tbl ps) → ∃ more, H' b = some (.tbl (ps ++ more))
section
variable {fs fs' ex ex' : List Addr} {H H1 H2 : Hp} {h h1 h2 h' : Heap} {a x e : Addr} {o : HO}
theorem Un.any (u : Un fs ex H H1 h h1) {b : Addr} {ob : Obj} (q : h.get? b = some ob) (n : H b = none) (hx : b ∉ ex) : ∃ sl, h1.get? b = some { ob with slots := sl } := by
  by_cases hb : b ∈ fs
  · exact u.slot b ob q n hb hx
  · exact ⟨ob.slots, u.keep b ob q n hb hx⟩
theorem Un.trans (a : Un fs ex H H1 h h1) (b : Un fs ex H1 H2 h1 h2) : Un fs ex H H2 h h2 where
  keep := fun c ob q n hc hx => b.keep c ob (a.keep c ob q n hc hx) (a.free c ob q n hx) hc hx
  slot := fun c ob q n hc hx => by
    obtain ⟨sl, e1⟩ := a.slot c ob q n hc hx
    obtain ⟨sl', e2⟩ := b.slot c _ e1 (a.free c ob q n hx) hc hx
    exact ⟨sl', e2⟩
  free := fun c ob q n hx => by
    obtain ⟨o', e1⟩ := a.there c ob q hx
    exact b.free c o' e1 (a.free c ob q n hx) hx
  there := fun c ob q hx => by
    obtain ⟨o', e1⟩ := a.there c ob q hx
    exact b.there c o' e1 hx
  tups := fun c xs q => b.tups c xs (a.tups c xs q)
  frzs := fun c ob xs q => b.frzs c ob xs (a.frzs c ob xs q)
  tbls := fun c ps q => by
    obtain ⟨m1, e1⟩ := a.tbls c ps q
    obtain ⟨m2, e2⟩ := b.tbls c _ e1
    exact ⟨m1 ++ m2, by rw [e2, Array.append_assoc]⟩
theorem Un.kept (k : ∀ b u, h.get? b = some u → h'.get? b = some u) : Un fs ex H H h h' :=
  ⟨fun b ob q _ _ _ => k b ob q, fun b ob q _ _ _ => ⟨ob.slots, k b ob q⟩, fun _ _ _ n _ => n, fun b ob q _ => ⟨ob, k b ob q⟩, fun _ _ q => q, fun _ _ _ q => q, fun _ ps q => ⟨#[], by rw [q]; simp⟩⟩
theorem Un.refl : Un fs ex H H h h := Un.kept fun _ _ q => q
theorem Un.laid (k : ∀ b u, h.get? b = some u → h'.get? b = some u) (hp : h.objs.size ≤ a) (hn : H a = none) : Un fs ex H (upd H a o) h h' where
  keep := fun b u q _ _ _ => k b u q
  slot := fun b u q _ _ _ => ⟨u.slots, k b u q⟩
  free := fun b u q n _ => by rw [upd_ne (Nat.ne_of_lt (Nat.lt_of_lt_of_le (Heap.lt_size q) hp))]; exact n
  there := fun b u q _ => ⟨u, k b u q⟩
  tups := fun b xs q => by rw [upd_ne (ne_of_none q hn)]; exact q
  frzs := fun b u xs q => by rw [upd_ne (ne_of_none q hn)]; exact q
  tbls := fun b ps q => ⟨#[], by rw [upd_ne (ne_of_none q hn), q]; simp⟩
theorem Un.write (mu : Mut (H x)) (he : e = x ∨ H e = some (.own x)) (k : ∀ b u, b ≠ e → h.get? b = some u → h'.get? b = some u) (heo : ∃ u, h'.get? e = some u) : Un fs ex H (upd H x o) h h' := by
  have hx : ∀ b, H b = none → b ≠ x := fun b n z => by subst z; rw [n] at mu; exact mu
  have hb : ∀ b, H b = none → b ≠ e := fun b n z => by
    subst z
    rcases he with r | r
    · exact hx b n r
    · rw [n] at r; cases r
  have hm : ∀ b u, H b = some u → ¬ Mut (some u) → b ≠ x := fun b u q nm z => by subst z; rw [q] at mu; exact nm mu
  refine ⟨fun b u q n _ _ => k b u (hb b n) q, fun b u q n _ _ => ⟨u.slots, k b u (hb b n) q⟩, fun b u q n _ => by rw [upd_ne (hx b n)]; exact n, fun b u q _ => ?_,
    fun b xs q => by rw [upd_ne (hm b _ q fun z => z)]; exact q, fun b u xs q => by rw [upd_ne (hm b _ q fun z => z)]; exact q, fun b ps q => ⟨#[], by rw [upd_ne (hm b _ q fun z => z), q]; simp⟩⟩
  by_cases hbe : b = e
  · subst hbe; exact heo
  · exact ⟨u, k b u hbe q⟩
theorem Un.mono (u : Un fs ex H H1 h h1) (hs : ∀ b ∈ fs, b ∈ fs') (hx : ∀ b ∈ ex, b ∈ ex') : Un fs' ex' H H1 h h1 :=
  ⟨fun b ob q n hb he => u.keep b ob q n (fun z => hb (hs b z)) fun z => he (hx b z), fun _ _ q n _ he => u.any q n fun z => he (hx _ z), fun b ob q n he => u.free b ob q n fun z => he (hx b z), fun b ob q he => u.there b ob q fun z => he (hx b z), u.tups, u.frzs, u.tbls⟩
end

noncomputable def trk (h : Heap) (H : Hp) : List Addr := (List.range h.objs.size).filter fun a => (H a).isSome
noncomputable def hidT (h : Heap) (H : Hp) : Heap := PySem.W.hideAll h (trk h H)
theorem hidT_size (h : Heap) (H : Hp) : (hidT h H).objs.size = h.objs.size := PySem.W.hideAll_size _ _
theorem hidT_get {h : Heap} {H : Hp} {b : Addr} {o : Obj} (e : h.get? b = some o) (n : H b = none) : (hidT h H).get? b = some o :=
  PySem.W.hideAll_get _ e fun hm => by
    have q : (H b).isSome = true := (List.mem_filter.mp hm).2
    rw [n] at q; simp at q
theorem of_hidT {h : Heap} {H : Hp} {b : Addr} {o : Obj} (e : (hidT h H).get? b = some o) : h.get? b = some o ∧ H b = none := by
  have e' : h.get? b = some o := PySem.W.of_hideAll (trk h H) e
  refine ⟨e', ?_⟩
  cases q : H b with
  | none => rfl
  | some x =>
    have hm : b ∈ trk h H := List.mem_filter.mpr ⟨List.mem_range.mpr (Heap.lt_size e'), by simp [q]⟩
    have z : (hidT h H).get? b = none := PySem.W.hideAll_none (trk h H) hm
    rw [z] at e; cases e

noncomputable def allNews (g h : Heap) (L : Addr) : List (Addr × Obj) := (List.range h.objs.size).filterMap fun a => if a = L ∨ (g.get? a).isSome = true then none else (h.get? a).map fun o => (a, o)
noncomputable def rest (g h : Heap) (L d : Addr) : List (Addr × Obj) := (allNews g h L).filter fun p => decide (p.1 ≠ d)
end L2

namespace L2
open PySem PySem.Spec PyProof.Rows

structure Mod (K : PySem.W.Frag) (mg : Str → Option Value) (base : Heap) : Prop where
  kin : K.In base
  glob : base.Ns mainGlobals mg
  blt : ∃ mb, base.Ns builtinsNs mb ∧ ∀ x : Str, x ≠ "__name__" → mb x = bootBuiltins x
  nolimit : base.NoLimit

/-- the context: a def's body (or a comprehension's block) running. base: fixed through the whole law; s₀, H₀: the entry; outer: the frames whose slots others may change (a def's callers); stack: all frames that run;
   ex: iterators that were made ahead of the entry and are walked here (a comprehension's); fn: the names whose cells were made at the entry (a def: all; a comprehension's block: its own); calm: not within an except suite; pn: pins that every state bears; xe: what is wanted of an exception that leaves the code -/
structure Cx where
  prog : Program
  w : World
  K : PySem.W.Frag
  mg : Str → Option Value
  base : Heap
  A : Around
  N : List Str
  s₀ : Shared
  H₀ : Hp
  env : Env
  outer : List Env
  stack : List Env
  ex : List Addr
  fn : Str → Bool
  calm : Bool
  pn : List (Addr × Obj)
  xe : Value → Shared → Prop
noncomputable def frs (l : List Env) : List Addr := l.filterMap (·.frame)
noncomputable abbrev Cx.fs (X : Cx) : List Addr := frs X.outer

noncomputable def Vis (sc : Scope) (x : Str) : Prop := sc.names.lookup x = some .local ∨ sc.names.lookup x = some .cell ∨ sc.names.lookup x = some .free
noncomputable def Loc (sc : Scope) (x : Str) : Prop := sc.names.lookup x = some .local ∨ sc.names.lookup x = some .cell
noncomputable def Look (env : Env) (h : Heap) (m : Str → Option Value) (x : Str) (u : Value) : Prop :=
  (env.kindOf x = some .local ∧ m x = some u) ∨ ((env.kindOf x = some .cell ∨ env.kindOf x = some .free) ∧ ∃ c, env.cells.lookup x = some c ∧ h.IsCell c (some u))

structure Cx.Ok (X : Cx) : Prop where
  mod : Mod X.K X.mg X.base
  kind : X.env.scope.kind = .function
  glob : X.env.globals = mainGlobals
  blt : X.env.builtins = builtinsNs
  above : X.s₀.heap.objs.size ≤ X.env.locals
  inj : ∀ x y c, X.env.cells.lookup x = some c → X.env.cells.lookup y = some c → x = y
  has : ∀ x, (X.env.kindOf x = some .cell ∨ X.env.kindOf x = some .free) → ∃ c, X.env.cells.lookup x = some c
  cab : ∀ x c, X.fn x = true → X.env.cells.lookup x = some c → X.s₀.heap.objs.size ≤ c
  hd : X.calm = true → X.A.handled = none
  frames : X.A.frames = some X.stack
  stk : X.stack = X.outer ∨ (X.stack = X.env :: X.outer ∧ X.env.frame = some X.env.locals)
  exf : ∀ b ∈ X.ex, b ≠ X.env.locals ∧ ∀ x c, X.env.cells.lookup x = some c → c ≠ b
  bs : ∀ b o, X.base.get? b = some o → X.s₀.heap.get? b = some o ∧ X.H₀ b = none
  bsz : X.base.objs.size ≤ X.s₀.heap.objs.size
  noex : ∀ b o, X.base.get? b = some o → b ∉ X.ex
  exfs : ∀ b ∈ X.ex, b ∉ X.fs
  funs : X.s₀.heap.FunFrames X.base X.outer
  frf : ∀ b ∈ X.fs, X.H₀ b = none

structure Inv (X : Cx) (pins : List (Addr × Obj)) (σ : List (Option V)) (H : Hp) (s : Shared) : Prop where
  ok : X.Ok
  os : s.os = X.s₀.os
  bare : AllBare s.gens
  base : Un X.fs X.ex X.H₀ H X.s₀.heap s.heap
  loc : ∃ m, s.heap.Ns X.env.locals m ∧ ∀ (i : Nat) (x : Str) (v : V), X.N[i]? = some x → σ[i]? = some (some v) → Vis X.env.scope x → ∃ u, RelV v u ∧ Look X.env s.heap m x u
  cell : ∀ x c, X.env.cells.lookup x = some c → ∃ v, s.heap.IsCell c v
  free : H X.env.locals = none
  freeC : ∀ x c, X.env.cells.lookup x = some c → H c = none
  pin : ∀ p ∈ X.pn ++ pins, s.heap.get? p.1 = some p.2 ∧ H p.1 = none ∧ p.1 ≠ X.env.locals ∧ p.1 ∉ X.fs ∧ ∀ v, p.2.data ≠ .cell v
  hok : HOk X.prog X.w H s.heap
  len : σ.length = X.N.length

section
variable {X : Cx} {pins : List (Addr × Obj)} {σ : List (Option V)} {H H' : Hp} {s : Shared} {h' : Heap}

theorem Cx.Ok.nofr (ok : X.Ok) {b : Addr} {o : Obj} (e : X.base.get? b = some o) : b ∉ X.fs := fun hb => by
  have := (ok.funs.mem hb).1
  rw [e] at this; cases this
theorem Inv.bs (I : Inv X pins σ H s) : ∀ b o, X.base.get? b = some o → s.heap.get? b = some o ∧ H b = none := fun b o e =>
  ⟨I.base.keep b o (I.ok.bs b o e).1 (I.ok.bs b o e).2 (I.ok.nofr e) (I.ok.noex b o e), I.base.free b o (I.ok.bs b o e).1 (I.ok.bs b o e).2 (I.ok.noex b o e)⟩
theorem Inv.bk (I : Inv X pins σ H s) : ∀ b o, X.base.get? b = some o → s.heap.get? b = some o := fun b o e => (I.bs b o e).1
theorem Inv.mod (I : Inv X pins σ H s) : Mod X.K X.mg X.base := I.ok.mod
theorem Inv.kIn (I : Inv X pins σ H s) : X.K.In s.heap := I.ok.mod.kin.keeps I.bk
theorem Inv.nolimit (I : Inv X pins σ H s) : s.heap.NoLimit := I.ok.mod.nolimit.keeps I.bk
theorem Inv.fr (I : Inv X pins σ H s) : ∃ m, Fr X.base X.env.locals s.heap m :=
  let ⟨m, hn, _⟩ := I.loc
  ⟨m, hn, I.bk, Nat.le_trans I.ok.bsz I.ok.above⟩
theorem Inv.lt (I : Inv X pins σ H s) : X.env.locals < s.heap.objs.size := let ⟨_, hn, _⟩ := I.loc; hn.lt
theorem Inv.sz (I : Inv X pins σ H s) : X.s₀.heap.objs.size ≤ s.heap.objs.size := Nat.le_trans I.ok.above (Nat.le_of_lt I.lt)
theorem Inv.nofs (I : Inv X pins σ H s) {a : Addr} (h : s.heap.objs.size ≤ a) : a ∉ X.fs := fun hb => by
  obtain ⟨_, o, ho, _⟩ := I.ok.funs.mem hb
  exact absurd (Nat.lt_of_lt_of_le (Heap.lt_size ho) (Nat.le_trans I.sz h)) (Nat.lt_irrefl _)
theorem Inv.cne (I : Inv X pins σ H s) : ∀ x c, X.env.cells.lookup x = some c → c ≠ X.env.locals := fun x c e z => by
  obtain ⟨v, o, ho, hd⟩ := I.cell x c e
  obtain ⟨m, ⟨o', es, ep, ho', hd', _⟩, _⟩ := I.loc
  rw [z, ho'] at ho; cases ho; rw [hd'] at hd; cases hd
theorem Inv.funs (I : Inv X pins σ H s) : s.heap.FunFrames X.base X.outer := by
  have all : ∀ (l : List Env), (∀ b ∈ frs l, b ∈ X.fs) → X.s₀.heap.FunFrames X.base l → s.heap.FunFrames X.base l := by
    intro l
    induction l with
    | nil => intro _ _; trivial
    | cons env r ih =>
      intro hs hl
      obtain ⟨hk, ⟨L, o, hf, hn, ho, hd⟩, hr⟩ := hl
      have hL : L ∈ X.fs := hs L (by unfold frs; rw [List.filterMap_cons, hf]; exact List.mem_cons_self)
      obtain ⟨sl, e⟩ := I.base.slot L o ho (I.ok.frf L hL) hL fun z => I.ok.exfs L z hL
      exact ⟨hk, ⟨L, _, hf, hn, e, hd⟩, ih (fun b hb => hs b (by unfold frs; rw [List.filterMap_cons, hf]; exact List.mem_cons_of_mem _ hb)) hr⟩
  exact all X.outer (fun _ hb => hb) I.ok.funs

theorem Inv.stack (I : Inv X pins σ H s) : s.heap.FunFrames X.base X.stack := by
  rcases I.ok.stk with e | ⟨e, hf⟩
  · rw [e]; exact I.funs
  · rw [e]
    obtain ⟨m, hn, _⟩ := I.loc
    refine .cons (by rw [I.ok.kind]; decide) hf hn ?_ I.funs
    exact Heap.get?_none_of_le (Nat.le_trans I.ok.bsz I.ok.above)
theorem Inv.stkSub (I : Inv X pins σ H s) : ∀ b ∈ frs X.stack, b ∈ X.env.locals :: X.fs := fun b hb => by
  rcases I.ok.stk with e | ⟨e, hf⟩
  · rw [e] at hb; exact List.mem_cons_of_mem _ hb
  · rw [e] at hb
    unfold frs at hb
    rw [List.filterMap_cons, hf] at hb
    exact hb
theorem Inv.stkFree (I : Inv X pins σ H s) : ∀ b ∈ frs X.stack, H b = none := fun b hb => by
  rcases List.mem_cons.mp (I.stkSub b hb) with e | hb
  · rw [e]; exact I.free
  · obtain ⟨_, o, ho, _⟩ := I.ok.funs.mem hb
    exact I.base.free b o ho (I.ok.frf b hb) fun z => I.ok.exfs b z hb

theorem Inv.step {g' : Array GenState} {t' : Nat} {d' : Drawn} {ch : List Addr} (I : Inv X pins σ H s)
    (hch : ∀ b ∈ ch, (b ∈ X.ex ∨ X.s₀.heap.objs.size ≤ b) ∧ b ≠ X.env.locals ∧ (∀ x c, X.env.cells.lookup x = some c → c ≠ b) ∧ ∀ p ∈ X.pn ++ pins, p.1 ≠ b)
    (keep : ∀ b o, b ≠ X.env.locals → b ∉ X.fs → b ∉ ch → s.heap.get? b = some o → H b = none → h'.get? b = some o)
    (slot : ∀ b o, b ≠ X.env.locals → b ∈ X.fs → b ∉ ch → s.heap.get? b = some o → H b = none → ∃ sl, h'.get? b = some { o with slots := sl }) (free : ∀ b o, b ∉ ch → s.heap.get? b = some o → H b = none → H' b = none)
    (there : ∀ b o, b ∉ ch → s.heap.get? b = some o → ∃ o', h'.get? b = some o')
    (tups : ∀ b xs, H b = some (.tup xs) → H' b = some (.tup xs)) (frzs : ∀ b o u, H b = some (.frz o u) → H' b = some (.frz o u)) (tbls : ∀ b ps, H b = some (.tbl ps) → ∃ more, H' b = some (.tbl (ps ++ more)))
    (ns : ∀ m, s.heap.Ns X.env.locals m → h'.Ns X.env.locals m) (hok : HOk X.prog X.w H' h') (hg : AllBare g') :
    Inv X pins σ H' { s with heap := h', gens := g', drawn := d', toks := t' } := by
  have neL : ∀ b o, X.s₀.heap.get? b = some o → b ≠ X.env.locals := fun b o e => Nat.ne_of_lt (Nat.lt_of_lt_of_le (Heap.lt_size e) I.ok.above)
  have neC : ∀ b o, X.s₀.heap.get? b = some o → b ∉ X.ex → b ∉ ch := fun b o e hx hb => by
    rcases (hch b hb).1 with z | z
    · exact hx z
    · exact absurd (Nat.lt_of_lt_of_le (Heap.lt_size e) z) (Nat.lt_irrefl _)
  have cellK : ∀ x c, X.env.cells.lookup x = some c → ∀ v, s.heap.IsCell c v → h'.IsCell c v := fun x c e v ⟨o, ho, hd⟩ => by
    have nch : c ∉ ch := fun z => (hch c z).2.2.1 x c e rfl
    by_cases hc : c ∈ X.fs
    · obtain ⟨sl, q⟩ := slot c o (I.cne x c e) hc nch ho (I.freeC x c e)
      exact ⟨_, q, hd⟩
    · exact ⟨o, keep c o (I.cne x c e) hc nch ho (I.freeC x c e), hd⟩
  refine ⟨I.ok, I.os, hg, ⟨fun b o e n hb hx => ?_, fun b o e n hb hx => ?_, fun b o e n hx => ?_, fun b o e hx => ?_, fun b xs e => tups b xs (I.base.tups b xs e), fun b o xs e => frzs b o xs (I.base.frzs b o xs e), fun b ps e => ?_⟩, ?_, fun x c e => ?_, ?_, fun x c e => ?_, fun p hp => ?_, hok, I.len⟩
  · exact keep b o (neL b o e) hb (neC b o e hx) (I.base.keep b o e n hb hx) (I.base.free b o e n hx)
  · obtain ⟨sl, e1⟩ := I.base.slot b o e n hb hx
    obtain ⟨sl', e2⟩ := slot b _ (neL b o e) hb (neC b o e hx) e1 (I.base.free b o e n hx)
    exact ⟨sl', e2⟩
  · obtain ⟨o', e1⟩ := I.base.there b o e hx
    exact free b o' (neC b o e hx) e1 (I.base.free b o e n hx)
  · obtain ⟨o', e1⟩ := I.base.there b o e hx
    exact there b o' (neC b o e hx) e1
  · obtain ⟨m1, e1⟩ := I.base.tbls b ps e
    obtain ⟨m2, e2⟩ := tbls b _ e1
    exact ⟨m1 ++ m2, by rw [e2, Array.append_assoc]⟩
  · obtain ⟨m, hn, hl⟩ := I.loc
    refine ⟨m, ns m hn, fun i x v e1 e2 e3 => ?_⟩
    obtain ⟨u, r, l⟩ := hl i x v e1 e2 e3
    refine ⟨u, r, ?_⟩
    rcases l with l | ⟨k, c, e, z⟩
    · exact .inl l
    · exact .inr ⟨k, c, e, cellK x c e _ z⟩
  · obtain ⟨v, z⟩ := I.cell x c e
    exact ⟨v, cellK x c e v z⟩
  · obtain ⟨m, ⟨o, _, _, ho, _⟩, _⟩ := I.loc
    exact free _ o (fun z => (hch _ z).2.1 rfl) ho I.free
  · obtain ⟨v, o, ho, hd⟩ := I.cell x c e
    exact free c o (fun z => (hch c z).2.2.1 x c e rfl) ho (I.freeC x c e)
  · obtain ⟨e, n, ne, nf, d⟩ := I.pin p hp
    have nch : p.1 ∉ ch := fun z => (hch p.1 z).2.2.2 p hp rfl
    exact ⟨keep p.1 p.2 ne nf nch e n, free p.1 p.2 nch e n, ne, nf, d⟩
theorem Inv.un {t' : Nat} (I : Inv X pins σ H s) (u : Un X.fs [] H H' s.heap h') (hok : HOk X.prog X.w H' h') : Inv X pins σ H' { s with heap := h', toks := t' } := by
  obtain ⟨m, ⟨o, es, ep, ho, r⟩, _⟩ := id I.loc
  obtain ⟨sl, hL⟩ := u.any ho I.free (by simp)
  exact I.step (g' := s.gens) (d' := s.drawn) (ch := []) (fun _ z => nomatch z) (fun b o _ hb _ e n => u.keep b o e n hb (by simp)) (fun b o _ hb _ e n => u.slot b o e n hb (by simp)) (fun b o _ e n => u.free b o e n (by simp)) (fun b o _ e => u.there b o e (by simp)) u.tups u.frzs u.tbls (fun m' hm => by
    obtain ⟨o', es', ep', ho', r'⟩ := hm
    rw [ho] at ho'; cases ho'
    exact ⟨_, es', ep', hL, r'⟩) hok I.bare
theorem Inv.call {g' : Array GenState} {t' : Nat} {d' : Drawn} {ch : List Addr} (I : Inv X pins σ H s) (u : Un (frs X.stack) ch H H' s.heap h') (hok : HOk X.prog X.w H' h') (hg : AllBare g')
    (hch : ∀ b ∈ ch, (b ∈ X.ex ∨ X.s₀.heap.objs.size ≤ b) ∧ b ≠ X.env.locals ∧ (∀ x c, X.env.cells.lookup x = some c → c ≠ b) ∧ ∀ p ∈ X.pn ++ pins, p.1 ≠ b) :
    Inv X pins σ H' { s with heap := h', gens := g', drawn := d', toks := t' } := by
  obtain ⟨m, ⟨o, es, ep, ho, r⟩, _⟩ := id I.loc
  obtain ⟨sl, hL⟩ := u.any ho I.free fun z => (hch _ z).2.1 rfl
  exact I.step (ch := ch) hch (fun b o hL hb hc e n => u.keep b o e n (fun z => (List.mem_cons.mp (I.stkSub b z)).elim hL hb) hc) (fun b o _ _ hc e n => u.any e n hc) (fun b o hc e n => u.free b o e n hc) (fun b o hc e => u.there b o e hc) u.tups u.frzs u.tbls (fun m' hm => by
    obtain ⟨o', es', ep', ho', r'⟩ := hm
    rw [ho] at ho'; cases ho'
    exact ⟨_, es', ep', hL, r'⟩) hok hg
theorem Inv.turned {t' : Nat} {it : Addr} (I : Inv X pins σ H s) (k : ∀ b o, b ≠ it → s.heap.get? b = some o → h'.get? b = some o) (hn : H it = none) (hL : it ≠ X.env.locals)
    (h1 : it ∈ X.ex ∨ X.s₀.heap.objs.size ≤ it) (h2 : ∀ x c, X.env.cells.lookup x = some c → c ≠ it) (h3 : ∀ p ∈ X.pn ++ pins, p.1 ≠ it) : Inv X pins σ H { s with heap := h', toks := t' } := by
  have nit : ∀ b u, H b = some u → b ≠ it := fun b u e z => by rw [z, hn] at e; cases e
  refine I.step (g' := s.gens) (d' := s.drawn) (ch := [it]) (fun b hb => ?_) (fun b o _ _ hc e _ => k b o (fun z => hc (by simp [z])) e) (fun b o _ _ hc e _ => ⟨o.slots, k b o (fun z => hc (by simp [z])) e⟩) (fun _ _ _ _ n => n)
    (fun b o hc e => ⟨o, k b o (fun z => hc (by simp [z])) e⟩) (fun _ _ e => e) (fun _ _ _ e => e) (fun b ps e => ⟨#[], by rw [e]; simp⟩) (fun m hm => ?_) (fun b u e => ?_) I.bare
  · have e : b = it := by simpa using hb
    subst e
    exact ⟨h1, hL, h2, h3⟩
  · obtain ⟨o, es, ep, ho, r⟩ := hm
    exact ⟨o, es, ep, k _ o (Ne.symm hL) ho, r⟩
  · refine (I.hok b u e).stay (fun c v hc q => k c v ?_ q) (fun _ q => q) fun _ _ q => q
    rcases hc with z | z
    · rw [z]; exact nit b u e
    · exact nit c _ z
theorem Inv.tok (I : Inv X pins σ H s) (t : Nat) : Inv X pins σ H { s with toks := t } := I.un (h' := s.heap) (t' := t) Un.refl I.hok
theorem Inv.kept {t' : Nat} (I : Inv X pins σ H s) (k : ∀ b u, s.heap.get? b = some u → h'.get? b = some u) : Inv X pins σ H { s with heap := h', toks := t' } := I.un (Un.kept k) (I.hok.kept k)
theorem Inv.laid {a : Addr} {o : HO} {t' : Nat} (I : Inv X pins σ H s) (k : ∀ b u, s.heap.get? b = some u → h'.get? b = some u) (hp : s.heap.objs.size ≤ a) (new : ObjOk X.prog X.w (upd H a o) h' a o) :
    Inv X pins σ (upd H a o) { s with heap := h', toks := t' } := I.un (Un.laid k hp (I.hok.fresh hp)) (I.hok.laid k hp new)
theorem Inv.write {x e : Addr} {o : HO} {t' : Nat} (I : Inv X pins σ H s) (mu : Mut (H x)) (he : e = x ∨ H e = some (.own x)) (k : ∀ b u, b ≠ e → s.heap.get? b = some u → h'.get? b = some u) (heo : ∃ u, h'.get? e = some u)
    (new : ObjOk X.prog X.w (upd H x o) h' x o) : Inv X pins σ (upd H x o) { s with heap := h', toks := t' } := I.un (Un.write mu he k heo) (I.hok.write mu he k heo new)
theorem Inv.weak {σ' : List (Option V)} (I : Inv X pins σ H s) (hl : σ'.length = σ.length) (w : ∀ (i : Nat) v, σ'[i]? = some (some v) → σ[i]? = some (some v)) : Inv X pins σ' H s :=
  ⟨I.ok, I.os, I.bare, I.base, let ⟨m, hn, hl'⟩ := I.loc; ⟨m, hn, fun i x v e1 e2 e3 => hl' i x v e1 (w i v e2) e3⟩, I.cell, I.free, I.freeC, I.pin, I.hok, hl.trans I.len⟩
theorem Inv.pins_of {pins' : List (Addr × Obj)} (I : Inv X pins σ H s) (h : ∀ p ∈ pins', s.heap.get? p.1 = some p.2 ∧ H p.1 = none ∧ p.1 ≠ X.env.locals ∧ p.1 ∉ X.fs ∧ ∀ v, p.2.data ≠ .cell v) : Inv X pins' σ H s :=
  ⟨I.ok, I.os, I.bare, I.base, I.loc, I.cell, I.free, I.freeC, fun p hp => (List.mem_append.mp hp).elim (fun z => I.pin p (List.mem_append_left _ z)) (h p), I.hok, I.len⟩

theorem nodup_ix {N : List Str} (hN : N.Nodup) {i j : Nat} {x : Str} (a : N[i]? = some x) (b : N[j]? = some x) : i = j := by
  obtain ⟨h1, e1⟩ := List.getElem?_eq_some_iff.mp a
  obtain ⟨h2, e2⟩ := List.getElem?_eq_some_iff.mp b
  exact (List.getElem_inj hN).mp (e1.trans e2.symm)

theorem store_ok2 {M : Model} {A : Around} {E : Value → Shared → Prop} {i : Nat} {x : Str} {v : V} {u : Value} {Q : Unit → Shared → Prop} (I : Inv X pins σ H s) (hN : X.N.Nodup) (hi : X.N[i]? = some x) (hx : Loc X.env.scope x) (r : RelV v u)
    (h : ∀ s', Inv X pins (σ.set i (some v)) H s' → (∃ a, Heap.SameBut a s.heap s'.heap ∧ (a = X.env.locals ∨ X.env.cells.lookup x = some a)) → Q () s') (hf : X.fn x = true ∨ X.env.scope.names.lookup x = some .local := by first | exact .inl rfl | exact .inr rfl | assumption) : wpAny M A (storeName X.env x u) Q E s := by
  obtain ⟨m, hn, hl⟩ := id I.loc
  have hcls : (X.env.scope.kind == .class || (X.env.scope.kind == .module && X.env.locals != X.env.globals)) = false := by rw [I.ok.kind]; rfl
  have hiσ : i < σ.length := by rw [I.len]; exact (List.getElem?_eq_some_iff.mp hi).1
  have cne := I.cne
  have tracked : ∀ {a : Addr} {h' : Heap}, (∃ o, s.heap.get? a = some o ∧ H a = none) → Heap.SameBut a s.heap h' → HOk X.prog X.w H h' := fun {a h'} ha hs b ob e => by
    obtain ⟨_, _, hfree⟩ := ha
    refine (I.hok b ob e).stay (fun c w' hc q => (hs.2 c ?_).trans q) (fun _ q => q) fun _ _ q => q
    rintro rfl
    rcases hc with rfl | hc
    · rw [hfree] at e; cases e
    · rw [hfree] at hc; cases hc
  rcases hx with hk | hk
  · refine wpAny_storeName_local hk hn (fun h' hn' hs => ?_) hcls
    obtain ⟨oL, _, _, hoL, _⟩ := id hn
    refine h _ ⟨I.ok, I.os, I.bare, ⟨fun b o e n hb hx => ?_, fun b o e n hb hx => ?_, I.base.free, fun b o e hx => ?_, I.base.tups, I.base.frzs, I.base.tbls⟩, ⟨_, hn', fun j y v' e1 e2 e3 => ?_⟩, fun y c e => ?_, I.free, I.freeC, fun p hp => ?_, tracked ⟨oL, hoL, I.free⟩ hs, by simpa using I.len⟩ ⟨_, hs, .inl rfl⟩
    · exact (hs.2 b (Nat.ne_of_lt (Nat.lt_of_lt_of_le (Heap.lt_size e) I.ok.above))).trans (I.base.keep b o e n hb hx)
    · obtain ⟨sl, e1⟩ := I.base.slot b o e n hb hx
      exact ⟨sl, (hs.2 b (Nat.ne_of_lt (Nat.lt_of_lt_of_le (Heap.lt_size e) I.ok.above))).trans e1⟩
    · obtain ⟨o', e1⟩ := I.base.there b o e hx
      exact ⟨o', (hs.2 b (Nat.ne_of_lt (Nat.lt_of_lt_of_le (Heap.lt_size e) I.ok.above))).trans e1⟩
    · by_cases hj : j = i
      · subst hj
        rw [hi] at e1; cases e1
        rw [List.getElem?_set_self hiσ] at e2
        cases e2
        exact ⟨u, r, .inl ⟨hk, by simp⟩⟩
      · rw [List.getElem?_set_ne (Ne.symm hj)] at e2
        obtain ⟨u', r', q⟩ := hl j y v' e1 e2 e3
        refine ⟨u', r', ?_⟩
        rcases q with ⟨k, e⟩ | ⟨k, c, e, z⟩
        · refine .inl ⟨k, ?_⟩
          have : y ≠ x := fun e => hj (nodup_ix hN e1 (e ▸ hi))
          simp [this, e]
        · exact .inr ⟨k, c, e, z.sameBut hs (cne y c e)⟩
    · obtain ⟨w', z⟩ := I.cell y c e
      exact ⟨w', z.sameBut hs (cne y c e)⟩
    · obtain ⟨e, n, ne, nf, d⟩ := I.pin p hp
      exact ⟨(hs.2 p.1 ne).trans e, n, ne, nf, d⟩
  · have hfn : X.fn x = true := by
      rcases hf with z | z
      · exact z
      · rw [z] at hk; cases hk
    obtain ⟨c, hc⟩ := I.ok.has x (.inl hk)
    obtain ⟨w', z⟩ := I.cell x c hc
    refine wpAny_storeName_cell I.ok.kind hk hc z (fun h' hc' hs => ?_)
    obtain ⟨oc, hoc, hocd⟩ := id z
    refine h { s with heap := h' } ⟨I.ok, I.os, I.bare, ⟨fun b o e n hb hx => ?_, fun b o e n hb hx => ?_, I.base.free, fun b o e hx => ?_, I.base.tups, I.base.frzs, I.base.tbls⟩, ⟨m, hn.sameBut hs (Ne.symm (cne x c hc)), fun j y v' e1 e2 e3 => ?_⟩, fun y c' e => ?_, I.free, I.freeC, fun p hp => ?_, tracked ⟨oc, hoc, I.freeC x c hc⟩ hs, by simpa using I.len⟩ ⟨c, hs, .inr hc⟩
    · exact (hs.2 b (Nat.ne_of_lt (Nat.lt_of_lt_of_le (Heap.lt_size e) (I.ok.cab x c hfn hc)))).trans (I.base.keep b o e n hb hx)
    · obtain ⟨sl, e1⟩ := I.base.slot b o e n hb hx
      exact ⟨sl, (hs.2 b (Nat.ne_of_lt (Nat.lt_of_lt_of_le (Heap.lt_size e) (I.ok.cab x c hfn hc)))).trans e1⟩
    · obtain ⟨o', e1⟩ := I.base.there b o e hx
      exact ⟨o', (hs.2 b (Nat.ne_of_lt (Nat.lt_of_lt_of_le (Heap.lt_size e) (I.ok.cab x c hfn hc)))).trans e1⟩
    · by_cases hj : j = i
      · subst hj
        rw [hi] at e1; cases e1
        rw [List.getElem?_set_self hiσ] at e2
        cases e2
        exact ⟨u, r, .inr ⟨.inl hk, c, hc, hc'⟩⟩
      · rw [List.getElem?_set_ne (Ne.symm hj)] at e2
        obtain ⟨u', r', q⟩ := hl j y v' e1 e2 e3
        refine ⟨u', r', ?_⟩
        rcases q with q | ⟨k, c', e, z'⟩
        · exact .inl q
        · refine .inr ⟨k, c', e, z'.sameBut hs ?_⟩
          rintro rfl
          exact hj (nodup_ix hN e1 (I.ok.inj _ _ _ e hc ▸ hi))
    · by_cases hcc : c' = c
      · subst hcc; exact ⟨_, hc'⟩
      · obtain ⟨w2, z2⟩ := I.cell y c' e
        exact ⟨w2, z2.sameBut hs hcc⟩
    · obtain ⟨e, n, ne, nf, d⟩ := I.pin p hp
      refine ⟨(hs.2 p.1 ?_).trans e, n, ne, nf, d⟩
      intro q
      rw [q, hoc] at e
      have q' : oc = p.2 := Option.some.inj e
      exact d w' (by rw [← q']; exact hocd)
theorem store_ok {M : Model} {A : Around} {E : Value → Shared → Prop} {i : Nat} {x : Str} {v : V} {u : Value} {Q : Unit → Shared → Prop} (I : Inv X pins σ H s) (hN : X.N.Nodup) (hi : X.N[i]? = some x) (hx : Loc X.env.scope x) (r : RelV v u)
    (h : ∀ s', Inv X pins (σ.set i (some v)) H s' → Q () s') (hf : X.fn x = true ∨ X.env.scope.names.lookup x = some .local := by first | exact .inl rfl | exact .inr rfl | assumption) : wpAny M A (storeName X.env x u) Q E s :=
  store_ok2 I hN hi hx r (fun s' I' _ => h s' I') hf
theorem Inv.call' {s' : Shared} {ch : List Addr} (I : Inv X pins σ H s) (ho : s'.os = s.os) (u : Un (frs X.stack) ch H H' s.heap s'.heap) (hok : HOk X.prog X.w H' s'.heap) (hg : AllBare s'.gens)
    (hch : ∀ b ∈ ch, (b ∈ X.ex ∨ X.s₀.heap.objs.size ≤ b) ∧ b ≠ X.env.locals ∧ (∀ x c, X.env.cells.lookup x = some c → c ≠ b) ∧ ∀ p ∈ X.pn ++ pins, p.1 ≠ b) : Inv X pins σ H' s' := by
  obtain ⟨h', g', d', t', o'⟩ := s'
  have e : o' = s.os := ho
  subst e
  exact I.call (g' := g') (t' := t') (d' := d') u hok hg hch
end

noncomputable abbrev XK := Value → Option Addr → Hp → Prop
noncomputable abbrev St := List (Option V)
noncomputable abbrev VK := V → Hp → Prop
noncomputable abbrev TE := St → Hp → VK → Prop
noncomputable abbrev TT := St → Hp → (Bool → Hp → Prop) → Prop
noncomputable abbrev TA := St → Hp → (List V → Hp → Prop) → Prop
structure Ends where
  nx : St → Hp → Prop
  rt : VK
  bk : St → Hp → Prop := fun _ _ => False
  ct : St → Hp → Prop := fun _ _ => False
noncomputable abbrev TS := Ends → St → Hp → Prop

noncomputable def EP (X : Cx) (pins : List (Addr × Obj)) (σ : St) (Q : VK) (u : Value) (s' : Shared) : Prop := ∃ v H', Inv X pins σ H' s' ∧ RelV v u ∧ Q v H'
noncomputable def TP (X : Cx) (pins : List (Addr × Obj)) (σ : St) (Q : Bool → Hp → Prop) (b : Bool) (s' : Shared) : Prop := ∃ H', Inv X pins σ H' s' ∧ Q b H'
noncomputable def AP (X : Cx) (pins : List (Addr × Obj)) (σ : St) (Q : List V → Hp → Prop) (us : List Value) (s' : Shared) : Prop := ∃ vs H', Inv X pins σ H' s' ∧ Vals vs us ∧ Q vs H'
noncomputable def SP (X : Cx) (pins : List (Addr × Obj)) (D : Ends) (f : Flow) (s' : Shared) : Prop :=
  match f with
  | .next => ∃ σ' H', Inv X pins σ' H' s' ∧ D.nx σ' H'
  | .brk => ∃ σ' H', Inv X pins σ' H' s' ∧ D.bk σ' H'
  | .cont => ∃ σ' H', Inv X pins σ' H' s' ∧ D.ct σ' H'
  | .ret u => ∃ v σ' H', Inv X pins σ' H' s' ∧ RelV v u ∧ D.rt v H'

noncomputable def PE (X : Cx) (e : Expr) (t : TE) : Prop :=
  ∀ (pins : List (Addr × Obj)) (s : Shared) (σ : St) (H : Hp) (Q : VK), Inv X pins σ H s → t σ H Q → wpAny (model X.prog X.w) X.A (eval e X.env) (EP X pins σ Q) X.xe s
noncomputable def PT (X : Cx) (e : Expr) (t : TT) : Prop :=
  ∀ (pins : List (Addr × Obj)) (s : Shared) (σ : St) (H : Hp) (Q : Bool → Hp → Prop), Inv X pins σ H s → t σ H Q → wpAny (model X.prog X.w) X.A (isTrue e X.env (eval e X.env)) (TP X pins σ Q) X.xe s
noncomputable def PW (X : Cx) (e : Expr) (t : TT) : Prop :=
  ∀ (whole : Sem Value) (pins : List (Addr × Obj)) (s : Shared) (σ : St) (H : Hp) (Q : Bool → Hp → Prop), Inv X pins σ H s → t σ H Q → wpAny (model X.prog X.w) X.A (isTrue e X.env whole) (TP X pins σ Q) X.xe s
theorem PW.pt {X : Cx} {e : Expr} {t : TT} (h : PW X e t) : PT X e t := h _
noncomputable def PA (X : Cx) (es : List Expr) (t : TA) : Prop :=
  ∀ (pos : Pos) (pins : List (Addr × Obj)) (s : Shared) (σ : St) (H : Hp) (Q : List V → Hp → Prop), Inv X pins σ H s → t σ H Q → wpAny (model X.prog X.w) X.A (spliced (backTo pos (starEach es X.env))) (AP X pins σ Q) X.xe s
noncomputable def PS (X : Cx) (st : Stmt) (t : TS) : Prop :=
  ∀ (pins : List (Addr × Obj)) (s : Shared) (σ : St) (H : Hp) (D : Ends), Inv X pins σ H s → t D σ H → wpAny (model X.prog X.w) X.A (exec st X.env) (SP X pins D) X.xe s
noncomputable def PSs (X : Cx) (st : List Stmt) (t : TS) : Prop :=
  ∀ (pins : List (Addr × Obj)) (s : Shared) (σ : St) (H : Hp) (D : Ends), Inv X pins σ H s → t D σ H → wpAny (model X.prog X.w) X.A (execs st X.env) (SP X pins D) X.xe s
theorem thn {α : Type} {t : Sem α} {Q Q' : α → Shared → Prop} {M : Model} {A : Around} {E : Value → Shared → Prop} {s : Shared} (h : wpAny M A t Q E s) (hQ : ∀ a s, Q a s → Q' a s) : wpAny M A t Q' E s := wpAny_mono h hQ fun _ _ x => x
end L2

namespace L2
open PySem PySem.Spec PyProof.Rows
section
variable {X : Cx}

noncomputable def tVar (i : Nat) : TE := fun σ H Q => ∃ v, σ[i]? = some (some v) ∧ Q v H
noncomputable def tC (v : V) : TE := fun _ H Q => Q v H
theorem pe_var {i : Nat} {x : Str} {pos : Pos} (hN : X.N[i]? = some x) (hv : Vis X.env.scope x) (hd : (x == ("__debug__" : Str)) = false := by decide) (hcd : (x == ("__classdict__" : Str)) = false := by decide) : PE X (.Name x pos) (tVar i) := by
  intro pins s σ H Q I h
  obtain ⟨v, e, h⟩ := h
  obtain ⟨m, hn, hl⟩ := I.loc
  obtain ⟨u, r, l⟩ := hl i x v hN e hv
  have fin : EP X pins σ Q u s := ⟨v, H, I, r, h⟩
  rcases l with ⟨hk, hm⟩ | ⟨hk, c, hc, hcell⟩
  · exact wpAny_Name (wpAny_loadName_local I.ok.kind hk hn hm fin) hd
  · rcases hk with hk | hk
    · exact wpAny_Name (wpAny_loadName_cell I.ok.kind hk hc hcell fin) hd
    · exact wpAny_Name (wpAny_loadName_free I.ok.kind hk hc hcell fin hcd) hd
theorem pe_int {i j pos} : PE X (.Constant (.int i) j pos) (tC (.int i)) := fun _ _ _ H _ I h => wpAny_Constant_int ⟨.int i, H, I.tok _, ⟨_, rfl⟩, h⟩
theorem pe_bl {b j pos} : PE X (.Constant (.bool b) j pos) (tC (.bl b)) := fun _ _ _ H _ I h => Constant_bool ⟨.bl b, H, I, rfl, h⟩
theorem pe_non {j pos} : PE X (.Constant .none j pos) (tC .non) := fun _ _ _ H _ I h => Constant_none ⟨.non, H, I, rfl, h⟩
noncomputable def Gl (X : Cx) (x : Str) : Prop := X.env.kindOf x = some .globalImplicit
theorem ld_glob {E : Value → Shared → Prop} {pins : List (Addr × Obj)} {s : Shared} {σ : St} {H : Hp} {x : Str} {u : Value} {pos : Pos} {Q : Value → Shared → Prop} (I : Inv X pins σ H s) (hg : Gl X x) (hm : X.mg x = some u) (h : Q u s)
    (hd : (x == ("__debug__" : Str)) = false := by decide) : wpAny (model X.prog X.w) X.A (eval (.Name x pos) X.env) Q E s :=
  Calls.Name_function_global I.ok.kind hg (Calls.loadGlobal_global (by rw [I.ok.glob]; exact I.mod.glob.keeps I.bk) hm h) hd
theorem ld_blt {E : Value → Shared → Prop} {pins : List (Addr × Obj)} {s : Shared} {σ : St} {H : Hp} {x : Str} {u : Value} {pos : Pos} {Q : Value → Shared → Prop} (I : Inv X pins σ H s) (hg : Gl X x) (hm : X.mg x = none) (hv : bootBuiltins x = some u) (h : Q u s)
    (hn : x ≠ "__name__" := by decide) (hd : (x == ("__debug__" : Str)) = false := by decide) : wpAny (model X.prog X.w) X.A (eval (.Name x pos) X.env) Q E s := by
  obtain ⟨mb, h1, h2⟩ := I.mod.blt
  exact Calls.Name_function_global I.ok.kind hg (Calls.loadGlobal_builtin (by rw [I.ok.glob]; exact I.mod.glob.keeps I.bk) hm (by rw [I.ok.blt]; exact h1.keeps I.bk) ((h2 x hn).trans hv) h) hd
variable {a b : Expr} {ta tb : TE} {pos : Pos}
noncomputable def tB (t : TE) : TT := fun σ H Q => t σ H fun x H1 => ∃ c, x = .bl c ∧ Q c H1
theorem pt_val {e : Expr} {t : TE} (h : PE X e t) (he : ∀ whole, isTrue e X.env whole = (do let v ← whole; standAt e.pos; holding [v] (truthy v)) := by intro _; rfl) : PT X e (tB t) := by
  intro pins s σ H Q I hw
  refine isTrue_plain (thn (h pins s σ H _ I hw) fun v s1 ⟨x, H1, I1, r1, q1⟩ => ?_) (he _)
  obtain ⟨d, rfl, q⟩ := q1
  cases r1
  exact wpAny_truthy_bool ⟨H1, I1, q⟩

variable {tA tB' : TT} {rest : List Expr}
noncomputable def tOr (t u : TT) : TT := fun σ H Q => t σ H fun c H1 => if c = true then Q true H1 else u σ H1 Q
theorem pw_or1 (ha : PT X a tA) : PW X (.BoolOp .Or [a] pos) tA := by
  intro wh pins s σ H Q I h
  refine isTrue_or (thn (ha pins s σ H Q I h) fun c s1 e => ?_)
  cases c with
  | false => exact isTrue_or_nil e
  | true => exact e
theorem pw_or (ha : PT X a tA) (hb : PW X (.BoolOp .Or (b :: rest) pos) tB') : PW X (.BoolOp .Or (a :: b :: rest) pos) (tOr tA tB') := by
  intro wh pins s σ H Q I h
  refine isTrue_or (thn (ha pins s σ H _ I h) fun c s1 ⟨H1, I1, q1⟩ => ?_)
  cases c with
  | true => exact ⟨H1, I1, q1⟩
  | false => exact hb wh pins s1 σ H1 Q I1 q1
end
end L2

namespace L2
open PySem PySem.Spec PyProof.Rows

noncomputable def SqL (K : PySem.W.Frag) (H : Hp) (a : Addr) (xs : List V) : Prop :=
  Rd H a (.lst xs) ∨
    ∃ (o : Obj) (its : Array Value) (n : Nat), K.lookup a = some o ∧ o.cls = .type "list" ∧ o.dict = none ∧ o.data = .seq its n ∧ its.size ≤ sizeLine ∧ Vals xs its.toList
noncomputable def SqT (K : PySem.W.Frag) (H : Hp) (a : Addr) (xs : List V) : Prop :=
  Rd H a (.tup xs) ∨
    ∃ (o : Obj) (its : Array Value) (n : Nat), K.lookup a = some o ∧ o.cls = .type "tuple" ∧ o.data = .seq its n ∧ its.size ≤ sizeLine ∧ Vals xs its.toList
noncomputable def absV : Value → Option V
  | .none => some .non
  | .bool b => some (.bl b)
  | .int i _ => some (.int i)
  | .str x _ => some (.str x)
  | .bytes b _ => some (.byt b)
  | .float b _ => some (.flt b)
  | .ref a => some (.ref a)
  | .type n => some (.ty n)
  | _ => none
theorem RelV.abs {x : V} {u : Value} (r : RelV x u) : absV u = some x := by
  cases x with
  | non => cases r; rfl
  | bl _ => cases r; rfl
  | int _ => obtain ⟨t, rfl⟩ := r; rfl
  | str _ => obtain ⟨t, rfl⟩ := r; rfl
  | byt _ => obtain ⟨t, rfl⟩ := r; rfl
  | flt _ => obtain ⟨t, rfl⟩ := r; rfl
  | ref _ => cases r; rfl
  | ty _ => cases r; rfl
theorem RelV.inj {x y : V} {u : Value} (r : RelV x u) (q : RelV y u) : x = y := Option.some.inj (r.abs.symm.trans q.abs)
theorem Vals.inj : ∀ {xs ys : List V} {us : List Value}, Vals xs us → Vals ys us → xs = ys
  | _, _, _, .nil, .nil => rfl
  | _, _, _, .cons r t, .cons r' t' => by rw [r.inj r', Vals.inj t t']
section
variable {X : Cx} {pins : List (Addr × Obj)} {σ : St} {H : Hp} {s : Shared} {a : Addr} {xs ys : List V}
theorem SqL.of {K : PySem.W.Frag} (h : H a = some (.lst xs)) : SqL K H a xs := .inl (.inl h)
theorem SqT.of {K : PySem.W.Frag} (h : H a = some (.tup xs)) : SqT K H a xs := .inl (.inl h)
theorem Inv.list (I : Inv X pins σ H s) (h : SqL X.K H a xs) : ∃ its : List Value, Vals xs its ∧ PlainL s.heap a its.toArray ∧ xs.length ≤ sizeLine := by
  rcases h with h | ⟨o, its, n, hk, hc, hd, hs, hz, r⟩
  · obtain ⟨z, its, n, r, e⟩ := h.ok I.hok
    exact ⟨its, r, ⟨_, n, e, rfl, rfl, rfl⟩, z⟩
  · refine ⟨its.toList, r, ⟨o, n, I.kIn a o hk, hc, hd, by simpa using hs⟩, ?_⟩
    have e := r.length
    simp only [Array.length_toList] at e
    omega
theorem Inv.tuple (I : Inv X pins σ H s) (h : SqT X.K H a xs) : ∃ its : List Value, Vals xs its ∧ IsTup s.heap a its.toArray ∧ xs.length ≤ sizeLine := by
  rcases h with h | ⟨o, its, n, hk, hc, hs, hz, r⟩
  · obtain ⟨z, its, r, p⟩ := h.ok I.hok
    exact ⟨its, r, p.1, z⟩
  · refine ⟨its.toList, r, ⟨o, I.kIn a o hk, hc, n, by simpa using hs⟩, ?_⟩
    have e := r.length
    simp only [Array.length_toList] at e
    omega
theorem Inv.list_inj (I : Inv X pins σ H s) (h : SqL X.K H a xs) (h' : SqL X.K H a ys) : xs = ys := by
  obtain ⟨its, r, ⟨o, n, e, _, _, d⟩, _⟩ := I.list h
  obtain ⟨its', r', ⟨o', n', e', _, _, d'⟩, _⟩ := I.list h'
  rw [e] at e'; cases e'
  rw [d] at d'
  injection d' with d1 _
  have : its = its' := by simpa using congrArg Array.toList d1
  subst this
  exact r.inj r'
theorem Inv.tuple_inj (I : Inv X pins σ H s) (h : SqT X.K H a xs) (h' : SqT X.K H a ys) : xs = ys := by
  obtain ⟨its, r, ⟨o, e, _, n, d⟩, _⟩ := I.tuple h
  obtain ⟨its', r', ⟨o', e', _, n', d'⟩, _⟩ := I.tuple h'
  rw [e] at e'; cases e'
  rw [d] at d'
  injection d' with d1 _
  have : its = its' := by simpa using congrArg Array.toList d1
  subst this
  exact r.inj r'
end

noncomputable abbrev Cx.wish (X : Cx) (E : Value → Shared → Prop) : Cx := { X with xe := E }
noncomputable abbrev Cx.nox (X : Cx) : Cx := X.wish fun _ _ => False
theorem Cx.Ok.wish {X : Cx} (ok : X.Ok) (E : Value → Shared → Prop) : (X.wish E).Ok :=
  ⟨ok.mod, ok.kind, ok.glob, ok.blt, ok.above, ok.inj, ok.has, ok.cab, ok.hd, ok.frames, ok.stk, ok.exf, ok.bs, ok.bsz, ok.noex, ok.exfs, ok.funs, ok.frf⟩
theorem Cx.Ok.unwish {X : Cx} {E : Value → Shared → Prop} (ok : (X.wish E).Ok) : X.Ok :=
  ⟨ok.mod, ok.kind, ok.glob, ok.blt, ok.above, ok.inj, ok.has, ok.cab, ok.hd, ok.frames, ok.stk, ok.exf, ok.bs, ok.bsz, ok.noex, ok.exfs, ok.funs, ok.frf⟩
section
variable {X : Cx} {pins : List (Addr × Obj)} {σ : St} {H : Hp} {s : Shared} {E : Value → Shared → Prop}
theorem Inv.wish (I : Inv X pins σ H s) (E : Value → Shared → Prop) : Inv (X.wish E) pins σ H s := ⟨I.ok.wish E, I.os, I.bare, I.base, I.loc, I.cell, I.free, I.freeC, I.pin, I.hok, I.len⟩
theorem Inv.unwish (I : Inv (X.wish E) pins σ H s) : Inv X pins σ H s := ⟨I.ok.unwish, I.os, I.bare, I.base, I.loc, I.cell, I.free, I.freeC, I.pin, I.hok, I.len⟩
theorem SP.unwish {D : Ends} {f : Flow} {s' : Shared} (h : SP (X.wish E) pins D f s') : SP X pins D f s' := by
  cases f with
  | next => obtain ⟨σ', H', I, q⟩ := h; exact ⟨σ', H', I.unwish, q⟩
  | brk => obtain ⟨σ', H', I, q⟩ := h; exact ⟨σ', H', I.unwish, q⟩
  | cont => obtain ⟨σ', H', I, q⟩ := h; exact ⟨σ', H', I.unwish, q⟩
  | ret u => obtain ⟨v, σ', H', I, r, q⟩ := h; exact ⟨v, σ', H', I.unwish, r, q⟩
theorem PE.nox {e : Expr} {t : TE} (h : PE X.nox e t) : PE X e t := fun pins s σ H Q I hw =>
  wpAny_mono (h pins s σ H Q (I.wish _) hw) (fun _ _ ⟨v, H', I', r, q⟩ => ⟨v, H', I'.unwish, r, q⟩) fun _ _ z => False.elim z
theorem PT.nox {e : Expr} {t : TT} (h : PT X.nox e t) : PT X e t := fun pins s σ H Q I hw =>
  wpAny_mono (h pins s σ H Q (I.wish _) hw) (fun _ _ ⟨H', I', q⟩ => ⟨H', I'.unwish, q⟩) fun _ _ z => False.elim z
theorem PSs.nox {st : List Stmt} {t : TS} (h : PSs X.nox st t) : PSs X st t := fun pins s σ H D I hw =>
  wpAny_mono (h pins s σ H D (I.wish _) hw) (fun _ _ q => q.unwish) fun _ _ z => False.elim z
end

section
variable {X : Cx} {st : Stmt} {rest : List Stmt} {t u : TS} {e : Expr} {te : TE} {pos : Pos}
noncomputable def tNext : TS := fun D σ H => D.nx σ H
noncomputable def tSeq (t u : TS) : TS := fun D σ H => t { D with nx := u D } σ H
theorem pss_nil : PSs X [] tNext := fun _ _ σ H _ I h => wpAny_execs_nil ⟨σ, H, I, h⟩
theorem pss_cons (h1 : PS X st t) (h2 : PSs X rest u) : PSs X (st :: rest) (tSeq t u) := by
  intro pins s σ H D I h
  refine wpAny_execs_cons (thn (h1 pins s σ H { D with nx := u D } I h) fun f s1 q => ?_)
  cases f with
  | next =>
    obtain ⟨σ', H', I', q⟩ := q
    exact h2 pins s1 σ' H' D I' q
  | ret v => exact q
  | brk => exact q
  | cont => exact q
theorem pss_one (h1 : PS X st t) : PSs X [st] t := by
  intro pins s σ H D I h
  refine wpAny_execs_cons (thn (h1 pins s σ H D I h) fun f s1 q => ?_)
  cases f with
  | next => exact wpAny_execs_nil q
  | ret v => exact q
  | brk => exact q
  | cont => exact q
noncomputable def tCont : TS := fun D σ H => D.ct σ H
theorem ps_continue : PS X (.Continue pos) tCont := fun _ _ σ H _ I h => wpAny_Continue ⟨σ, H, I, h⟩
theorem Inv.quiet {pins : List (Addr × Obj)} {σ : St} {H : Hp} {s : Shared} (I : Inv X pins σ H s) : interactive X.env = false := by simp [interactive, I.ok.kind]
noncomputable def tDrop (te : TE) : TS := fun D σ H => te σ H fun _ H1 => D.nx σ H1
theorem ps_expr (he : PE X e te) (hs : swapsWith e none pos.line X.env = pure false := by rfl) : PS X (.Expr e pos) (tDrop te) := by
  intro pins s σ H D I h
  exact wpAny_Expr_any (thn (he pins s σ H _ I h) fun v s1 ⟨x, H1, I1, r1, q1⟩ => ⟨σ, H1, I1, q1⟩) I.quiet hs
noncomputable def tRet (te : TE) : TS := fun D σ H => te σ H D.rt
theorem ps_ret (he : PE X e te) : PS X (.Return (some e) pos) (tRet te) := by
  intro pins s σ H D I h
  exact wpAny_Return_some (thn (he pins s σ H _ I h) fun v s1 ⟨x, H1, I1, r1, q1⟩ => ⟨x, σ, H1, I1, r1, q1⟩)
noncomputable def tIfS (c : TT) (t u : TS) : TS := fun D σ H => c σ H fun b H1 => if b = true then t D σ H1 else u D σ H1
theorem ps_if {c : Expr} {a b : List Stmt} {tc : TT} (hc : PT X c tc) (ha : PSs X a t) (hb : PSs X b u) : PS X (.If c a b pos) (tIfS tc t u) := by
  intro pins s σ H D I h
  refine wpAny_If (thn (hc pins s σ H _ I h) fun d s1 ⟨H1, I1, q1⟩ => ?_)
  cases d with
  | true => exact ha pins s1 σ H1 D I1 q1
  | false => exact hb pins s1 σ H1 D I1 q1
end

noncomputable abbrev TG := V → St → Hp → (St → Hp → Prop) → Prop
noncomputable abbrev TGs := List V → St → Hp → (St → Hp → Prop) → Prop
noncomputable def PG (X : Cx) (target : Expr) (t : TG) : Prop :=
  ∀ (pins : List (Addr × Obj)) (s : Shared) (σ : St) (H : Hp) (v : V) (u : Value) (Q : St → Hp → Prop), Inv X pins σ H s → RelV v u → t v σ H Q →
    wpAny (model X.prog X.w) X.A (assign target X.env u) (fun _ s' => ∃ σ' H', Inv X pins σ' H' s' ∧ Q σ' H') X.xe s
noncomputable def PGs (X : Cx) (ts : List Expr) (t : TGs) : Prop :=
  ∀ (pins : List (Addr × Obj)) (s : Shared) (σ : St) (H : Hp) (vs : List V) (us : List Value) (Q : St → Hp → Prop), Inv X pins σ H s → Vals vs us → t vs σ H Q →
    wpAny (model X.prog X.w) X.A (assignInOrder ((assignEach ts X.env).map (·.2)) us) (fun _ s' => ∃ σ' H', Inv X pins σ' H' s' ∧ Q σ' H') X.xe s
section
variable {X : Cx} {pos : Pos}
noncomputable def gName (i : Nat) : TG := fun v σ H Q => Q (σ.set i (some v)) H
theorem pg_name {i : Nat} {x : Str} (hN : X.N.Nodup) (hi : X.N[i]? = some x) (hx : Loc X.env.scope x) (hf : X.fn x = true ∨ X.env.scope.names.lookup x = some .local := by first | exact .inl rfl | exact .inr rfl | assumption) : PG X (.Name x pos) (gName i) := by
  intro pins s σ H v u Q I r h
  exact wpAny_assign_Name (store_ok I hN hi hx r (fun s' I' => ⟨_, H, I', h⟩) hf)
noncomputable def gNil : TGs := fun vs σ H Q => vs = [] ∧ Q σ H
noncomputable def gCons (t : TG) (u : TGs) : TGs := fun vs σ H Q => ∃ v r, vs = v :: r ∧ t v σ H fun σ' H' => u r σ' H' Q
theorem pgs_nil : PGs X [] gNil := by
  intro pins s σ H vs us Q I r h
  obtain ⟨e, h⟩ := h
  subst e
  cases r
  exact assignInOrder_nil ⟨σ, H, I, h⟩
theorem pgs_cons {e : Expr} {es : List Expr} {t : TG} {u : TGs} (h1 : PG X e t) (h2 : PGs X es u)
    (hs : (assignEach (e :: es) X.env).map (·.2) = assign e X.env :: (assignEach es X.env).map (·.2) := by rfl) : PGs X (e :: es) (gCons t u) := by
  intro pins s σ H vs us Q I r h
  obtain ⟨v, vr, e1, h⟩ := h
  subst e1
  cases r with
  | cons r rr =>
    rw [hs]
    refine assignInOrder_cons (thn (h1 pins s σ H _ _ _ I r h) fun _ s1 ⟨σ1, H1, I1, q1⟩ => ?_)
    exact h2 pins s1 σ1 H1 _ _ Q I1 rr q1
noncomputable def gTup (K : PySem.W.Frag) (n : Nat) (t : TGs) : TG := fun v σ H Q => ∃ a xs, v = .ref a ∧ SqT K H a xs ∧ xs.length = n ∧ t xs σ H Q
theorem pg_tup {es : List Expr} {k : Nat} {t : TGs} {n : Nat} (hc : X.calm = true) (h : PGs X es t)
    (hn : (assignEach es X.env).length = n := by rfl) (hst : (assignEach es X.env).findIdx? (·.1) = none := by rfl) : PG X (.Tuple es k pos) (gTup X.K n t) := by
  intro pins s σ H v u Q I r hw
  obtain ⟨a, xs, e1, hq, hl, hw⟩ := hw
  subst e1
  cases r
  obtain ⟨its, rv, ht, hz⟩ := I.tuple hq
  refine assign_Tuple_tuple (I.ok.hd hc) ht (by simp [hn, ← hl, rv.length]) hst fun h' hx => ?_
  have I1 : Inv X pins σ H { s with heap := h' } := I.kept (t' := s.toks) fun b o e => hx b o (Nat.ne_of_lt (Heap.lt_size e)) e
  exact h pins _ σ H xs _ Q I1 (by simpa using rv) hw
noncomputable def tAsg (te : TE) (g : TG) : TS := fun D σ H => te σ H fun x H1 => g x σ H1 D.nx
theorem ps_set {i : Nat} {x : Str} {e : Expr} {te : TE} {pos' : Pos} (hN : X.N.Nodup) (hi : X.N[i]? = some x) (hx : Loc X.env.scope x) (he : PE X e te) (hs : swapsWith e (some (.Name x pos')) pos.line X.env = pure false := by rfl) (hf : X.fn x = true ∨ X.env.scope.names.lookup x = some .local := by first | exact .inl rfl | exact .inr rfl | assumption) :
    PS X (.Assign [.Name x pos'] e pos) (tAsg te (gName i)) := by
  intro pins s σ H D I h
  refine wpAny_Assign_Name (thn (he pins s σ H _ I h) fun v s1 ⟨y, H1, I1, r1, q1⟩ => ?_) hs
  exact store_ok I1 hN hi hx r1 (fun s2 I2 => ⟨_, H1, I2, q1⟩) hf
end

section
variable {X : Cx} {pos : Pos}
noncomputable def tWhile (c : TT) (tb : TS) : TS := fun D σ H => ∃ W : Nat → St → Hp → Prop, (∃ m, W m σ H) ∧ ∀ m σ H, W m σ H →
  c σ H fun b H1 => if b = true then ∃ N : St → Hp → Prop, (∀ σ' H', N σ' H' → ∃ m', m' < m ∧ W m' σ' H') ∧ tb { D with nx := N, ct := N, bk := D.nx } σ H1 else D.nx σ H1
theorem ps_while {c : Expr} {body : List Stmt} {tc : TT} {tb : TS} (hp : PassesOwn (model X.prog X.w) X.A X.env X.xe) (hc : PT X c tc) (hb : PSs X body tb) : PS X (.While c body [] pos) (tWhile tc tb) := by
  intro pins s σ H D I h
  obtain ⟨W, ⟨m0, w0⟩, turn⟩ := h
  refine wpAny_While (codeAny_whileLoop (fun n s' => ∃ σ' H', Inv X pins σ' H' s' ∧ W n σ' H') ?_ m0 ⟨σ, H, I, w0⟩)
  rintro n s1 ⟨σ1, H1, I1, w1⟩
  refine wpAny_passesOwn hp (thn (hc pins s1 σ1 H1 _ I1 (turn n σ1 H1 w1)) fun b s2 ⟨H2, I2, q2⟩ => ?_)
  cases b with
  | true =>
    obtain ⟨N, hN, q2⟩ := q2
    rw [if_pos rfl]
    refine wpAny_passesOwn hp (thn (hb pins s2 σ1 H2 _ I2 q2) fun f s3 q3 => ?_)
    cases f with
    | next =>
      obtain ⟨σ3, H3, I3, n3⟩ := q3
      obtain ⟨m', hm, w3⟩ := hN σ3 H3 n3
      exact ⟨m', hm, σ3, H3, I3, w3⟩
    | cont =>
      obtain ⟨σ3, H3, I3, n3⟩ := q3
      obtain ⟨m', hm, w3⟩ := hN σ3 H3 n3
      exact ⟨m', hm, σ3, H3, I3, w3⟩
    | brk => exact q3
    | ret v => exact q3
  | false =>
    rw [if_neg Bool.false_ne_true]
    exact wpAny_execs_nil ⟨σ1, H2, I2, q2⟩
end

structure It where
  go : Nat → Hp → Prop
  yld : Nat → Hp → V → Hp → Prop
  stop : Nat → Hp → Prop
noncomputable def FpOk (X : Cx) (pins : List (Addr × Obj)) (H : Hp) (b : Addr) : Prop :=
  H b = none ∧ b ≠ X.env.locals ∧ b ∉ X.fs ∧ (b ∈ X.ex ∨ X.s₀.heap.objs.size ≤ b) ∧ (∀ x c, X.env.cells.lookup x = some c → c ≠ b) ∧ ∀ p ∈ X.pn ++ pins, p.1 ≠ b
theorem Inv.fpOk {X : Cx} {pins : List (Addr × Obj)} {σ : St} {H H' : Hp} {s : Shared} {b : Addr} (I : Inv X pins σ H s) (hb : s.heap.objs.size ≤ b) (hn : H' b = none) : FpOk X pins H' b := by
  refine ⟨hn, Nat.ne_of_gt (Nat.lt_of_lt_of_le I.lt hb), I.nofs hb, .inr (Nat.le_trans I.sz hb), fun x c e z => ?_, fun p hp z => ?_⟩
  · obtain ⟨v, q⟩ := I.cell x c e
    exact absurd (Nat.lt_of_lt_of_le q.lt (by rw [z]; exact hb)) (Nat.lt_irrefl _)
  · exact absurd (Nat.lt_of_lt_of_le (Heap.lt_size (I.pin p hp).1) (by rw [z]; exact hb)) (Nat.lt_irrefl _)
structure Turn (P : Program) (w : World) (K : PySem.W.Frag) (tg : Expr) (J : It) (fp : List Addr) (it : Addr) (tn : Nat → Heap → Prop) : Prop where
  mem : it ∈ fp
  obj : ∀ i h, tn i h → ∀ b ∈ fp, ∃ o, h.get? b = some o ∧ ∀ v, o.data ≠ .cell v
  keep : ∀ i h h', tn i h → (∀ b ∈ fp, ∀ o, h.get? b = some o → h'.get? b = some o) → tn i h'
  item : ∀ (X : Cx), X.prog = P → X.w = w → X.K = K → X.calm = true → ∀ (i : Nat) (pins : List (Addr × Obj)) (s : Shared) (σ : St) (H : Hp) (E : Value → Shared → Prop), Inv X pins σ H s → (∀ b ∈ fp, FpOk X pins H b) → tn i s.heap → J.go i H →
    wpAny (model P w) X.A (pyNext (.ref it)) (fun r s1 => ∃ u, r = some u ∧
      wpAny (model P w) X.A (letOwnedTupleGo tg (.ref it) u) (fun _ s2 => ∃ x H', Inv X pins σ H' s2 ∧ RelV x u ∧ J.yld i H x H' ∧ tn (i + 1) s2.heap ∧ ∀ b ∈ fp, H' b = none) E s1) E s
  done : ∀ (X : Cx), X.prog = P → X.w = w → X.K = K → X.calm = true → ∀ (i : Nat) (pins : List (Addr × Obj)) (s : Shared) (σ : St) (H : Hp) (E : Value → Shared → Prop), Inv X pins σ H s → (∀ b ∈ fp, FpOk X pins H b) → tn i s.heap → J.stop i H →
    wpAny (model P w) X.A (pyNext (.ref it)) (fun r s1 => r = none ∧ Inv X pins σ H s1) E s
  self : ∀ (A : Around) (i : Nat) (s : Shared) (Q : Value → Shared → Prop) (E : Value → Shared → Prop), tn i s.heap → Q (.ref it) s → wpAny (model P w) A (pyIter (.ref it)) Q E s
noncomputable abbrev TI := St → Hp → (It → Hp → Prop) → Prop
noncomputable def PIE (X : Cx) (pins : List (Addr × Obj)) (σ : St) (tg : Expr) (R : It → Hp → Prop) (itv : Value) (s2 : Shared) : Prop :=
  ∃ (it : Addr) (fp : List Addr) (tn : Nat → Heap → Prop) (J : It) (H' : Hp), itv = .ref it ∧ Inv X pins σ H' s2 ∧ Turn X.prog X.w X.K tg J fp it tn ∧ tn 0 s2.heap ∧ (∀ b ∈ fp, FpOk X pins H' b) ∧ R J H'
noncomputable def PI (X : Cx) (tg iter : Expr) (wi : TI) : Prop :=
  ∀ (pins : List (Addr × Obj)) (s : Shared) (σ : St) (H : Hp) (R : It → Hp → Prop), Inv X pins σ H s → wi σ H R →
    wpAny (model X.prog X.w) X.A (eval iter X.env) (fun v s1 => wpAny (model X.prog X.w) X.A (pyIter v) (PIE X pins σ tg R) X.xe s1) X.xe s

theorem go_of {M : Model} {A : Around} {E : Value → Shared → Prop} {s : Shared} {tg : Expr} {it : Addr} {u : Value} {o : Obj} {n : String} {vs : Array Value} {Q : Unit → Shared → Prop} (ho : s.heap.get? it = some o) (hc : o.cls = .type n) (hd : o.data = .fields vs)
    (hn : ["enumerate", "zip", "dict_itemiterator", "dict_reverseitemiterator", "odict_iterator", "itertools.zip_longest", "itertools.pairwise"].contains n = false) (hQ : Q () s) : wpAny M A (letOwnedTupleGo tg (.ref it) u) Q E s := by
  unfold letOwnedTupleGo
  cases tg <;> first
    | exact wpAny_pure hQ
    | (cases u <;> first
        | exact wpAny_pure hQ
        | (refine wpAny_bind (wpAny_load ho ?_)
           rw [hc, hd]
           show wpAny M A (if (["enumerate", "zip", "dict_itemiterator", "dict_reverseitemiterator", "odict_iterator", "itertools.zip_longest", "itertools.pairwise"].contains n && vs[0]? == some (rawInt _)) = true then _ else _) Q E s
           rw [if_neg (by intro h; rw [hn, Bool.false_and] at h; cases h)]
           exact wpAny_pure hQ))

noncomputable def Itl (K : PySem.W.Frag) (a : Addr) : It :=
  ⟨fun i H => ∃ xs x, SqL K H a xs ∧ xs[i]? = some x, fun i H x H' => H' = H ∧ ∀ xs, SqL K H a xs → xs[i]? = some x, fun i H => ∃ xs, SqL K H a xs ∧ xs.length ≤ i⟩
noncomputable def Itt (K : PySem.W.Frag) (a : Addr) : It :=
  ⟨fun i H => ∃ xs x, SqT K H a xs ∧ xs[i]? = some x, fun i H x H' => H' = H ∧ ∀ xs, SqT K H a xs → xs[i]? = some x, fun i H => ∃ xs, SqT K H a xs ∧ xs.length ≤ i⟩
noncomputable def Itr (lo : Int) (n : Nat) : It := ⟨fun i _ => i < n, fun i H x H' => H' = H ∧ x = .int (lo + i), fun i _ => n ≤ i⟩
theorem turn_list {P : Program} {w : World} {K : PySem.W.Frag} {tg : Expr} (a it : Addr) : Turn P w K tg (Itl K a) [it] it (fun i h => h.IsListIter it a i) where
  mem := by simp
  obj := fun i h st b hb => by
    have e : b = it := by simpa using hb
    subst e
    obtain ⟨o, e, c, d⟩ := st
    exact ⟨o, e, fun v z => by rw [d] at z; cases z⟩
  keep := fun i h h' st k => st.at fun o e => k it (by simp) o e
  item := by
    intro X hP hw hK hc i pins s σ H E I hf st hg
    subst hP hw hK
    obtain ⟨xs, x, hq, hx⟩ := hg
    obtain ⟨its, rv, p, hz⟩ := I.list hq
    obtain ⟨u, hu, ru⟩ := rv.get hx
    obtain ⟨f0, f1, f2, f3, f4, f5⟩ := hf it (by simp)
    refine wpAny_pyNext_list_item st p.isList (x := u) (by simpa using hu) fun h' st' sb => ?_
    have I1 : Inv X pins σ H { s with heap := h' } := I.turned (t' := s.toks) (fun b o hb e => (sb.2 b hb).trans e) f0 f1 f3 f4 f5
    obtain ⟨o, e, c, d⟩ := id st'
    exact ⟨u, rfl, go_of (s := { s with heap := h' }) e c d (by decide) ⟨x, H, I1, ru, ⟨rfl, fun ys hy => by rw [I.list_inj hy hq]; exact hx⟩, st', fun b hb => (hf b hb).1⟩⟩
  done := by
    intro X hP hw hK hc i pins s σ H E I hf st hg
    subst hP hw hK
    obtain ⟨xs, hq, hx⟩ := hg
    obtain ⟨its, rv, p, hz⟩ := I.list hq
    obtain ⟨f0, f1, f2, f3, f4, f5⟩ := hf it (by simp)
    have hl := rv.length
    exact wpAny_pyNext_list_end (I.ok.hd hc) st p.isList (by simp; omega) fun h' eb => ⟨rfl, I.turned (t' := s.toks) (fun b o hb e => eb b o hb e) f0 f1 f3 f4 f5⟩
  self := fun _ _ _ _ _ st h => wpAny_pyIter_listiter st h
theorem turn_tuple {P : Program} {w : World} {K : PySem.W.Frag} {tg : Expr} (a it : Addr) : Turn P w K tg (Itt K a) [it] it (fun i h => h.IsTupleIter it a i) where
  mem := by simp
  obj := fun i h st b hb => by
    have e : b = it := by simpa using hb
    subst e
    obtain ⟨o, e, c, d⟩ := st
    exact ⟨o, e, fun v z => by rw [d] at z; cases z⟩
  keep := fun i h h' st k => st.at fun o e => k it (by simp) o e
  item := by
    intro X hP hw hK hc i pins s σ H E I hf st hg
    subst hP hw hK
    obtain ⟨xs, x, hq, hx⟩ := hg
    obtain ⟨its, rv, p, hz⟩ := I.tuple hq
    obtain ⟨u, hu, ru⟩ := rv.get hx
    obtain ⟨f0, f1, f2, f3, f4, f5⟩ := hf it (by simp)
    refine wpAny_pyNext_tuple_item st (show s.heap.IsTuple a its.toArray from p) (x := u) (by simpa using hu) fun h' st' sb => ?_
    have I1 : Inv X pins σ H { s with heap := h' } := I.turned (t' := s.toks) (fun b o hb e => (sb.2 b hb).trans e) f0 f1 f3 f4 f5
    obtain ⟨o, e, c, d⟩ := id st'
    exact ⟨u, rfl, go_of (s := { s with heap := h' }) e c d (by decide) ⟨x, H, I1, ru, ⟨rfl, fun ys hy => by rw [I.tuple_inj hy hq]; exact hx⟩, st', fun b hb => (hf b hb).1⟩⟩
  done := by
    intro X hP hw hK hc i pins s σ H E I hf st hg
    subst hP hw hK
    obtain ⟨xs, hq, hx⟩ := hg
    obtain ⟨its, rv, p, hz⟩ := I.tuple hq
    obtain ⟨f0, f1, f2, f3, f4, f5⟩ := hf it (by simp)
    have hl := rv.length
    exact wpAny_pyNext_tuple_end (I.ok.hd hc) st (show s.heap.IsTuple a its.toArray from p) (by simp; omega) fun h' eb => ⟨rfl, I.turned (t' := s.toks) (fun b o hb e => eb b o hb e) f0 f1 f3 f4 f5⟩
  self := fun _ _ _ _ _ st h => wpAny_pyIter_tupleiter st h
theorem turn_range {P : Program} {w : World} {K : PySem.W.Frag} {tg : Expr} (it : Addr) (lo : Int) (n : Nat) : Turn P w K tg (Itr lo n) [it] it (fun i h => IsRangeIter h it (lo + (i : Nat) * 1) ((n : Int) - (i : Nat)) 1) where
  mem := by simp
  obj := fun i h st b hb => by
    have e : b = it := by simpa using hb
    subst e
    exact ⟨_, st, fun v z => by
      have z' : Data.fields _ = Data.cell v := z
      cases z'⟩
  keep := fun i h h' st k => k it (by simp) _ st
  item := by
    intro X hP hw hK hc i pins s σ H E I hf st hg
    subst hP hw hK
    obtain ⟨f0, f1, f2, f3, f4, f5⟩ := hf it (by simp)
    have W := Walks.range (prog := X.prog) (w := X.w) (I.ok.hd hc) it lo 1 n
    refine W.item i s _ _ hg st fun v h' tk hv st' kk => ?_
    obtain ⟨t, rfl⟩ := hv
    have I1 : Inv X pins σ H { s with heap := h', toks := tk } := I.turned (fun b o hb e => kk b o (by simpa using hb) e) f0 f1 f3 f4 f5
    refine ⟨_, rfl, go_of (s := { s with heap := h', toks := tk }) (n := "range_iterator") st' rfl rfl (by decide) ⟨.int (lo + i), H, I1, ⟨t, ?_⟩, ⟨rfl, rfl⟩, st', fun b hb => (hf b hb).1⟩⟩
    rw [Int.mul_one]
  done := by
    intro X hP hw hK hc i pins s σ H E I hf st hg
    subst hP hw hK
    obtain ⟨f0, f1, f2, f3, f4, f5⟩ := hf it (by simp)
    exact wpAny_pyNext_range_end (I.ok.hd hc) st (by have : n ≤ i := hg; omega) fun h' eb => ⟨rfl, I.turned (t' := s.toks) (fun b o hb e => eb b o hb e) f0 f1 f3 f4 f5⟩
  self := fun _ _ _ _ _ st h => wpAny_pyIter_rangeiter st h
end L2

namespace L2
open PySem PySem.Spec PyProof.Rows
section
variable {X : Cx} {tg : Expr}
theorem range_it {pins : List (Addr × Obj)} {σ : St} {H : Hp} {s : Shared} {R : It → Hp → Prop} {E : Value → Shared → Prop} {lo hi : Int} {t u v : Tok} {tk : Nat} (I : Inv X pins σ H s) (h1 : -(2 ^ 62) ≤ lo) (h2 : lo < 2 ^ 62) (h3 : -(2 ^ 62) ≤ hi) (h4 : hi < 2 ^ 62)
    (q : R (Itr lo (hi - lo).toNat) H) : wpAny (model X.prog X.w) X.A (pyIter (.ref s.heap.objs.size)) (PIE X pins σ tg R) E { s with heap := s.heap.push { cls := .type "range", data := .fields #[.int lo t, .int hi u, .int 1 v] }, toks := tk } := by
  refine wpAny_pyIter_range (IsRange.new ..) (small_one h1 h2 h3 h4) ?_
  have I1 : Inv X pins σ H { s with heap := s.heap.push { cls := .type "range", data := .fields #[.int lo t, .int hi u, .int 1 v] }, toks := tk } := I.kept fun b o e => Heap.get?_push_of_some _ e
  refine ⟨(s.heap.push { cls := .type "range", data := .fields #[.int lo t, .int hi u, .int 1 v] }).objs.size, [(s.heap.push { cls := .type "range", data := .fields #[.int lo t, .int hi u, .int 1 v] }).objs.size], _, _, H, rfl,
    I1.kept (t' := tk) fun b o e => Heap.get?_push_of_some _ e, turn_range _ lo (hi - lo).toNat, ?_, fun b hb => ?_, q⟩
  · have e1 : lo + ((0 : Nat) : Int) * 1 = lo := by simp
    have e2 : (((hi - lo).toNat : Nat) : Int) - ((0 : Nat) : Int) = Builtin.Range.rangeSize lo hi 1 := by rw [rangeSize_one]; split <;> omega
    show IsRangeIter _ _ (lo + ((0 : Nat) : Int) * 1) ((((hi - lo).toNat : Nat) : Int) - ((0 : Nat) : Int)) 1
    rw [e1, e2]
    exact Heap.get?_push_size _ rfl
  · have e : b = (s.heap.push { cls := .type "range", data := .fields #[.int lo t, .int hi u, .int 1 v] }).objs.size := by simpa using hb
    subst e
    exact I1.fpOk (Nat.le_refl _) (I1.hok.fresh (Nat.le_refl _))
noncomputable def iRng1 (ta : TA) : TI := fun σ H R => ta σ H fun vs H1 => ∃ j : Int, vs = [.int j] ∧ -(2 ^ 62) ≤ j ∧ j < 2 ^ 62 ∧ R (Itr 0 j.toNat) H1
noncomputable def iRng2 (ta : TA) : TI := fun σ H R => ta σ H fun vs H1 => ∃ i j : Int, vs = [.int i, .int j] ∧ (-(2 ^ 62) ≤ i ∧ i < 2 ^ 62 ∧ -(2 ^ 62) ≤ j ∧ j < 2 ^ 62) ∧ R (Itr i (j - i).toNat) H1
theorem pi_range1 {a : Expr} {ta : TA} {p pos : Pos} (hg : Gl X "range") (hm : X.mg "range" = none) (ha : PA X [a] ta) (hs : starEach [a] X.env = [(false, eval a X.env)] := by rfl) : PI X tg (.Call (.Name "range" p) [a] [] pos) (iRng1 ta) := by
  intro pins s σ H R I h
  refine Call_ (ld_blt I hg hm boot_range (PyProof.Rows.callWith_type1 (thn (ha pos pins s σ H _ I h) fun us s1 ⟨vs, H1, I1, r1, q1⟩ => ?_) hs rfl))
  obtain ⟨j, e, q1, q2, q⟩ := q1
  subst e
  cases r1 with
  | cons r rr =>
    cases rr
    obtain ⟨t, rfl⟩ := r
    exact call_range_1 (range_it I1 (by omega) (by omega) q1 q2 (by simpa using q))
theorem pi_range2 {a b : Expr} {ta : TA} {p pos : Pos} (hg : Gl X "range") (hm : X.mg "range" = none) (ha : PA X [a, b] ta) (hs : starEach [a, b] X.env = [(false, eval a X.env), (false, eval b X.env)] := by rfl) (hs2 : starEach [b] X.env = [(false, eval b X.env)] := by rfl) :
    PI X tg (.Call (.Name "range" p) [a, b] [] pos) (iRng2 ta) := by
  intro pins s σ H R I h
  refine Call_ (ld_blt I hg hm boot_range (PyProof.Rows.callWith_type1 (thn (ha pos pins s σ H _ I h) fun us s1 ⟨vs, H1, I1, r1, q1⟩ => ?_) (by rw [hs, hs2]) (by rw [hs2]; rfl)))
  obtain ⟨i, j, e, ⟨q1, q2, q3, q4⟩, q⟩ := q1
  subst e
  cases r1 with
  | cons r rr =>
    cases rr with
    | cons r' rr =>
      cases rr
      obtain ⟨t, rfl⟩ := r
      obtain ⟨t', rfl⟩ := r'
      exact call_range_2 (range_it I1 q1 q2 q3 q4 q)

noncomputable def tFor (wi : TI) (g : TG) (tb : TS) : TS := fun D σ H => wi σ H fun J H1 => ∃ W : Nat → Nat → St → Hp → Prop, (∃ m, W 0 m σ H1) ∧ ∀ i m σ H, W i m σ H →
  (J.stop i H ∧ D.nx σ H) ∨ (J.go i H ∧ ∃ N : St → Hp → Prop, (∀ σ' H', N σ' H' → ∃ m', m' < m ∧ W (i + 1) m' σ' H') ∧ ∀ x H', J.yld i H x H' → g x σ H' fun σ2 H2 => tb { D with nx := N, ct := N, bk := D.nx } σ2 H2)
noncomputable def pinsAt (fp : List Addr) (h : Heap) : List (Addr × Obj) := fp.filterMap fun b => (h.get? b).map fun o => (b, o)
theorem mem_pinsAt {fp : List Addr} {h : Heap} {b : Addr} {o : Obj} (hb : b ∈ fp) (e : h.get? b = some o) : (b, o) ∈ pinsAt fp h := List.mem_filterMap.mpr ⟨b, hb, by rw [e]; rfl⟩
theorem of_pinsAt {fp : List Addr} {h : Heap} {p : Addr × Obj} (hp : p ∈ pinsAt fp h) : p.1 ∈ fp ∧ h.get? p.1 = some p.2 := by
  obtain ⟨b, hb, e⟩ := List.mem_filterMap.mp hp
  cases q : h.get? b with
  | none => rw [q] at e; cases e
  | some o =>
    rw [q] at e
    have e' : (b, o) = p := Option.some.inj e
    subst e'
    exact ⟨hb, q⟩
theorem Inv.pinned {pins : List (Addr × Obj)} {σ : St} {H : Hp} {s : Shared} {fp : List Addr} (I : Inv X pins σ H s) (hf : ∀ b ∈ fp, FpOk X pins H b) (ho : ∀ b ∈ fp, ∃ o, s.heap.get? b = some o ∧ ∀ v, o.data ≠ .cell v) : Inv X (pins ++ pinsAt fp s.heap) σ H s :=
  I.pins_of fun p hp => (List.mem_append.mp hp).elim (fun z => I.pin p (List.mem_append_right _ z)) fun z => by
    obtain ⟨hb, e⟩ := of_pinsAt z
    obtain ⟨f0, f1, f2, _⟩ := hf p.1 hb
    obtain ⟨o, e', d⟩ := ho p.1 hb
    rw [e] at e'; cases e'
    exact ⟨e, f0, f1, f2, d⟩
theorem Inv.unpinned {pins pl : List (Addr × Obj)} {σ : St} {H : Hp} {s : Shared} (I : Inv X (pins ++ pl) σ H s) : Inv X pins σ H s := I.pins_of fun p hp => I.pin p (List.mem_append_right _ (List.mem_append_left _ hp))
theorem ps_for {iter : Expr} {body : List Stmt} {wi : TI} {g : TG} {tb : TS} {pos : Pos} (hp : PassesOwn (model X.prog X.w) X.A X.env X.xe) (hc : X.calm = true) (hi : PI X tg iter wi) (hg : PG X tg g) (hb : PSs X body tb)
    (hs : ∀ x, foldedSetIterable iter X.env x = pure x := by intro _; rfl) : PS X (.For tg iter body [] pos) (tFor wi g tb) := by
  intro pins s σ H D I h
  refine wpAny_For (thn (hi pins s σ H _ I h) fun v s1 h1 => thn h1 fun itv s2 h2 => ?_) hs
  obtain ⟨it, fp, tn, J, H2, e, I2, T, st2, f2, W, ⟨m0, w0⟩, turn⟩ := h2
  subst e
  -- what stays true of the iterator's objects through the loop
  have stat : ∀ {H' : Hp}, (∀ b ∈ fp, H' b = none) → ∀ b ∈ fp, FpOk X pins H' b := fun hn b hb => ⟨hn b hb, (f2 b hb).2⟩
  refine codeAny_forLoop_any (fun n s' => ∃ i σ' H', Inv X pins σ' H' s' ∧ tn i s'.heap ∧ (∀ b ∈ fp, H' b = none) ∧ W i n σ' H') ?_ m0 ⟨0, σ, H2, I2, st2, fun b hb => (f2 b hb).1, w0⟩
  rintro n s3 ⟨i, σ3, H3, I3, st3, fr3, w3⟩
  rcases turn i n σ3 H3 w3 with ⟨stop, qn⟩ | ⟨go, N, hN, step⟩
  · refine wpAny_passesOwn hp (thn (T.done X rfl rfl rfl hc i pins s3 σ3 H3 X.xe I3 (stat fr3) st3 stop) fun r s4 ⟨hr, I4⟩ => ?_)
    subst hr
    exact wpAny_execs_nil ⟨σ3, H3, I4, qn⟩
  · refine wpAny_passesOwn hp (thn (T.item X rfl rfl rfl hc i pins s3 σ3 H3 X.xe I3 (stat fr3) st3 go) fun r s4 ⟨u, hr, h4⟩ => ?_)
    subst hr
    refine wpAny_passesOwn hp (thn h4 fun _ s5 ⟨x, H5, I5, r5, y5, st5, fr5⟩ => ?_)
    have I5' := I5.pinned (stat fr5) (T.obj _ _ st5)
    refine wpAny_passesOwn hp (thn (hg _ s5 σ3 H5 x u _ I5' r5 (step x H5 y5)) fun _ s6 ⟨σ6, H6, I6, q6⟩ => ?_)
    refine wpAny_passesOwn hp (thn (hb _ s6 σ6 H6 _ I6 q6) fun f s7 q7 => ?_)
    have again : ∀ {σ7 : St} {H7 : Hp}, Inv X (pins ++ pinsAt fp s5.heap) σ7 H7 s7 → N σ7 H7 → ∃ m, m < n ∧ ∃ i σ' H', Inv X pins σ' H' s7 ∧ tn i s7.heap ∧ (∀ b ∈ fp, H' b = none) ∧ W i m σ' H' := fun {σ7 H7} I7 n7 => by
      obtain ⟨m', hm, w7⟩ := hN σ7 H7 n7
      refine ⟨m', hm, i + 1, σ7, H7, I7.unpinned, T.keep _ _ _ st5 fun b hb o e => (I7.pin (b, o) (List.mem_append_right _ (List.mem_append_right _ (mem_pinsAt hb e)))).1, fun b hb => ?_, w7⟩
      obtain ⟨o, e, d⟩ := T.obj _ _ st5 b hb
      exact (I7.pin (b, o) (List.mem_append_right _ (List.mem_append_right _ (mem_pinsAt hb e)))).2.1
    cases f with
    | next => obtain ⟨σ7, H7, I7, n7⟩ := q7; exact again I7 n7
    | cont => obtain ⟨σ7, H7, I7, n7⟩ := q7; exact again I7 n7
    | brk => obtain ⟨σ7, H7, I7, q7⟩ := q7; exact ⟨σ7, H7, I7.unpinned, q7⟩
    | ret v => obtain ⟨x7, σ7, H7, I7, r7, q7⟩ := q7; exact ⟨x7, σ7, H7, I7.unpinned, r7, q7⟩
end

end L2

namespace L2
open PySem PySem.Spec PyProof.Rows

noncomputable abbrev R2 := V → V → Hp → VK → Prop
noncomputable def OpR (X : Cx) (f : Value → Value → Sem Value) (r : R2) : Prop :=
  ∀ (pins : List (Addr × Obj)) (s : Shared) (σ : St) (H : Hp) (x y : V) (v u : Value) (Q : VK), Inv X pins σ H s → RelV x v → RelV y u → r x y H Q →
    wpAny (model X.prog X.w) X.A (f v u) (EP X pins σ Q) X.xe s
noncomputable def CallR (X : Cx) (f : Value) (r : List V → Hp → VK → Prop) : Prop :=
  ∀ (pins : List (Addr × Obj)) (s : Shared) (σ : St) (H : Hp) (xs : List V) (us : List Value) (Q : VK), Inv X pins σ H s → Vals xs us → r xs H Q →
    wpAny (model X.prog X.w) X.A (call f us) (EP X pins σ Q) X.xe s
noncomputable def tOp (r : R2) (ta tb : TE) : TE := fun σ H Q => ta σ H fun x H1 => tb σ H1 fun y H2 => r x y H2 Q
noncomputable def rI (C : Int → Int → Prop) (g : Int → Int → V) : R2 := fun x y H Q => ∃ i j, x = .int i ∧ y = .int j ∧ C i j ∧ Q (g i j) H
noncomputable def rI0 (g : Int → Int → V) : R2 := fun x y H Q => ∃ i j, x = .int i ∧ y = .int j ∧ Q (g i j) H
section
variable {X : Cx} {a b c : Expr} {ta tb tc : TE} {pos : Pos}

theorem binT (ha : PE X a ta) (hb : PE X b tb) {pins : List (Addr × Obj)} {s : Shared} {σ : St} {H : Hp} {R : V → V → Hp → Prop} (I : Inv X pins σ H s)
    (h : ta σ H fun x H1 => tb σ H1 fun y H2 => R x y H2) {Q : Value → Shared → Prop} {f : Value → Value → Sem Value}
    (hf : ∀ v u s2 x y H2, Inv X pins σ H2 s2 → RelV x v → RelV y u → R x y H2 → wpAny (model X.prog X.w) X.A (f v u) Q X.xe s2) :
    wpAny (model X.prog X.w) X.A (eval a X.env) (fun v s₁ => wpAny (model X.prog X.w) X.A (eval b X.env) (fun u s₂ => wpAny (model X.prog X.w) X.A (f v u) Q X.xe s₂) X.xe s₁) X.xe s := by
  refine thn (ha pins s σ H _ I h) fun v s1 ⟨x, H1, I1, r1, q1⟩ => ?_
  refine thn (hb pins s1 σ H1 _ I1 q1) fun u s2 ⟨y, H2, I2, r2, q2⟩ => ?_
  exact hf v u s2 x y H2 I2 r1 r2 q2

theorem pe_op {op : Operator} {r : R2} (ho : OpR X (binaryOp op) r) (ha : PE X a ta) (hb : PE X b tb) : PE X (.BinOp a op b pos) (tOp r ta tb) := by
  intro pins s σ H Q I h
  exact wpAny_BinOp (binT ha hb I h fun v u s2 x y H2 I2 rx ry q => ho pins s2 σ H2 x y v u Q I2 rx ry q)
theorem opI {f : Value → Value → Sem Value} {C : Int → Int → Prop} {g : Int → Int → Int}
    (rule : ∀ (i j : Int) (t u : Tok) (s : Shared) (Q : Value → Shared → Prop) (E : Value → Shared → Prop), C i j → Q (.int (g i j) s.toks) { s with toks := s.toks + 1 } → wpAny (model X.prog X.w) X.A (f (.int i t) (.int j u)) Q E s) :
    OpR X f (rI C fun i j => .int (g i j)) := by
  intro pins s σ H x y v u Q I rx ry h
  obtain ⟨i, j, rfl, rfl, hc, q⟩ := h
  obtain ⟨t, rfl⟩ := rx
  obtain ⟨t', rfl⟩ := ry
  exact rule i j t t' s _ _ hc ⟨.int (g i j), H, I.tok _, ⟨_, rfl⟩, q⟩
theorem opI0 {f : Value → Value → Sem Value} {g : Int → Int → Int}
    (rule : ∀ (i j : Int) (t u : Tok) (s : Shared) (Q : Value → Shared → Prop) (E : Value → Shared → Prop), Q (.int (g i j) s.toks) { s with toks := s.toks + 1 } → wpAny (model X.prog X.w) X.A (f (.int i t) (.int j u)) Q E s) :
    OpR X f (rI0 fun i j => .int (g i j)) := by
  intro pins s σ H x y v u Q I rx ry h
  obtain ⟨i, j, rfl, rfl, q⟩ := h
  obtain ⟨t, rfl⟩ := rx
  obtain ⟨t', rfl⟩ := ry
  exact rule i j t t' s _ _ ⟨.int (g i j), H, I.tok _, ⟨_, rfl⟩, q⟩
theorem opB0 {f : Value → Value → Sem Value} {g : Int → Int → Bool}
    (rule : ∀ (i j : Int) (t u : Tok) (s : Shared) (Q : Value → Shared → Prop) (E : Value → Shared → Prop), Q (.bool (g i j)) s → wpAny (model X.prog X.w) X.A (f (.int i t) (.int j u)) Q E s) :
    OpR X f (rI0 fun i j => .bl (g i j)) := by
  intro pins s σ H x y v u Q I rx ry h
  obtain ⟨i, j, rfl, rfl, q⟩ := h
  obtain ⟨t, rfl⟩ := rx
  obtain ⟨t', rfl⟩ := ry
  exact rule i j t t' s _ _ ⟨.bl (g i j), H, I, rfl, q⟩

noncomputable def CDiv (i j : Int) : Prop := 0 < j ∧ j < 1073741824
noncomputable def CPow (i j : Int) : Prop := 0 ≤ j ∧ j ≤ 1000000 ∧ i.natAbs < 2 ^ 64
noncomputable def CMul (i j : Int) : Prop := (-(2 ^ 64) < i ∧ i < 2 ^ 64) ∨ (-(2 ^ 64) < j ∧ j < 2 ^ 64)
theorem CMul.ok {i j : Int} (h : CMul i j) : IntMulOk i j := by
  rcases h with ⟨h1, h2⟩ | ⟨h1, h2⟩
  · exact .of_left (intBits_le_64 h1 h2)
  · exact .of_right (intBits_le_64 h1 h2)
theorem two_pow_nn (k : Nat) : (0 : Int) ≤ 2 ^ k := by
  rw [two_pow_cast]
  exact Int.natCast_nonneg _

theorem op_add : OpR X (binaryOp .Add) (rI0 fun i j => .int (i + j)) := opI0 fun _ _ _ _ _ _ _ q => add_int q
theorem op_sub : OpR X (binaryOp .Sub) (rI0 fun i j => .int (i - j)) := opI0 fun _ _ _ _ _ _ _ q => sub_int q
theorem op_mul : OpR X (binaryOp .Mult) (rI CMul fun i j => .int (i * j)) := opI fun _ _ _ _ _ _ _ hc q => mul_int q hc.ok
theorem op_fdiv : OpR X (binaryOp .FloorDiv) (rI CDiv fun i j => .int (i / j)) := opI fun i j _ _ _ _ _ hc q => by
  have h1 : (0 : Int) < j := hc.1
  have h2 : j < 1073741824 := hc.2
  exact floordiv_int (by omega) (by rw [Int.fdiv_eq_ediv_of_nonneg i (by omega)]; exact q) (.inl (PyProof.noPylong_small (by omega)))
theorem op_mod : OpR X (binaryOp .Mod) (rI (fun _ j => 0 < j) fun i j => .int (i % j)) := opI fun i j _ _ _ _ _ hc q => by
  have h1 : (0 : Int) < j := hc
  exact mod_int' (by omega) (by rw [Int.fmod_eq_emod_of_nonneg i (by omega)]; exact q)
theorem op_pow : OpR X (binaryOp .Pow) (rI CPow fun i j => .int (i ^ j.toNat)) := opI fun _ _ _ _ _ _ _ hc q => pow_int_small hc.1 hc.2.1 hc.2.2 q
theorem op_shr : OpR X (binaryOp .RShift) (rI (fun _ j => 0 ≤ j) fun i j => .int (i / 2 ^ j.toNat)) := opI fun i j _ _ _ _ _ hc q =>
  rshift_int hc (by rw [Int.fdiv_eq_ediv_of_nonneg i (two_pow_nn _)]; exact q)
theorem op_and : OpR X (binaryOp .BitAnd) (rI0 fun i j => .int (Builtin.bitAnd i j)) := opI0 fun _ _ _ _ _ _ _ q => and_int q
end

section
variable {X : Cx} {a b c : Expr} {ta tb tc : TE} {pos : Pos}
theorem fin_bl {pins : List (Addr × Obj)} {σ : St} {H : Hp} {s : Shared} {Q : VK} {k k' : Bool} (I : Inv X pins σ H s) (q : Q (.bl k) H) (e : k = k') : EP X pins σ Q (.bool k') s := by
  subst e
  exact ⟨.bl k, H, I, rfl, q⟩
theorem op_lt : OpR X (compareOp .Lt) (rI0 fun i j => .bl (decide (i < j))) := opB0 fun _ _ _ _ _ _ _ q => lt_int q
theorem op_lt_str : OpR X (compareOp .Lt) (fun x y H Q => ∃ i j, x = .str i ∧ y = .str j ∧ Q (.bl (decide (i.cps.toList < j.cps.toList))) H) := by
  intro pins s σ H x y v u Q I rx ry h
  obtain ⟨i, j, rfl, rfl, q⟩ := h
  obtain ⟨t, rfl⟩ := rx
  obtain ⟨t', rfl⟩ := ry
  exact lt_str (fin_bl I q rfl)
theorem op_notN : OpR X (compareOp .IsNot) (fun x y H Q => y = .non ∧ Q (.bl (!decide (x = .non))) H) := by
  intro pins s σ H x y v u Q I rx ry h
  obtain ⟨rfl, q⟩ := h
  cases ry
  refine isnot_none_gen (fin_bl I q ?_)
  cases x <;> first
    | (cases rx; rfl)
    | (obtain ⟨t, rfl⟩ := rx; rfl)

theorem op_notin_str : OpR X (compareOp .NotIn) (fun x y H Q => ∃ i j, x = .str i ∧ y = .str j ∧ Q (.bl (!(!(Builtin.Str.occurrences j i 0 j.length 1).isEmpty))) H) := by
  intro pins s σ H x y v u Q I rx ry h
  obtain ⟨i, j, rfl, rfl, q⟩ := h
  obtain ⟨t, rfl⟩ := rx
  obtain ⟨t', rfl⟩ := ry
  exact notIn_str (fin_bl I q rfl)
theorem OpR.or {f : Value → Value → Sem Value} {r r' : R2} (h : OpR X f r) (h' : OpR X f r') : OpR X f (fun x y H Q => r x y H Q ∨ r' x y H Q) := by
  intro pins s σ H x y v u Q I rx ry q
  rcases q with q | q
  · exact h pins s σ H x y v u Q I rx ry q
  · exact h' pins s σ H x y v u Q I rx ry q

theorem nomark (b : Expr) {op : CmpOp} (h : op ≠ .In := by decide) (h2 : op ≠ .NotIn := by decide) : behindInMarks op b = false := by
  have e1 : (op == CmpOp.In) = false := by cases op <;> first | rfl | exact absurd rfl h
  have e2 : (op == CmpOp.NotIn) = false := by cases op <;> first | rfl | exact absurd rfl h2
  cases b <;> simp [behindInMarks, e1, e2]
theorem pe_cmpR {op : CmpOp} {r : R2} (ho : OpR X (compareOp op) r) (ha : PE X a ta) (hb : PE X b tb) (hm : behindInMarks op b = false) : PE X (.Compare a [op] [b] pos) (tOp r ta tb) := by
  intro pins s σ H Q I h
  exact wpAny_Compare1 (binT ha hb I h fun v u s2 x y H2 I2 rx ry q => ho pins s2 σ H2 x y v u Q I2 rx ry q) hm
noncomputable def tTest (t : TE) : TT := fun σ H Q => t σ H fun x H' => ∃ k, x = .bl k ∧ Q k H'
theorem pt_cmpR {op : CmpOp} {r : R2} (ho : OpR X (compareOp op) r) (ha : PE X a ta) (hb : PE X b tb) (hm : behindInMarks op b = false) : PT X (.Compare a [op] [b] pos) (tTest (tOp r ta tb)) := by
  intro pins s σ H Q I h
  refine wpAny_isTrue_Compare1 (thn (ha pins s σ H _ I h) fun v s1 ⟨x, H1, I1, r1, q1⟩ => thn (hb pins s1 σ H1 _ I1 q1) fun u s2 ⟨y, H2, I2, r2, q2⟩ =>
    thn (ho pins s2 σ H2 x y v u _ I2 r1 r2 q2) fun c s3 ⟨z, H3, I3, r3, k, e, q3⟩ => ?_) hm
  subst e
  cases r3
  exact wpAny_truthy_bool ⟨H3, I3, q3⟩
theorem line63 : (sizeLine : Nat) < 2 ^ 63 := by rw [sizeLine_eq]; decide
theorem op_add_str : OpR X (binaryOp .Add) (fun x y H Q => ∃ i j, x = .str i ∧ y = .str j ∧ i.length + j.length ≤ sizeLine ∧ Q (.str (i ++ j)) H) := by
  intro pins s σ H x y v u Q I rx ry h
  obtain ⟨i, j, rfl, rfl, hz, q⟩ := h
  obtain ⟨t, rfl⟩ := rx
  obtain ⟨t', rfl⟩ := ry
  exact add_str (fun t' tk => ⟨.str (i ++ j), H, I.tok _, ⟨_, rfl⟩, q⟩) hz
theorem vals1 {x : V} {us : List Value} (r : Vals [x] us) : ∃ u, us = [u] ∧ RelV x u := by
  cases r with
  | cons r1 r2 => cases r2; exact ⟨_, rfl, r1⟩
theorem vals2 {x y : V} {us : List Value} (r : Vals [x, y] us) : ∃ u w', us = [u, w'] ∧ RelV x u ∧ RelV y w' := by
  cases r with
  | cons r1 r2 =>
    cases r2 with
    | cons r3 r4 => cases r4; exact ⟨_, _, rfl, r1, r3⟩
theorem call_min2 (hc : X.calm = true) : CallR X (.builtin "min") (fun xs H Q => ∃ i j, xs = [.int i, .int j] ∧ Q (.int (if j < i then j else i)) H) := by
  intro pins s σ H xs us Q I r h
  obtain ⟨i, j, rfl, q⟩ := h
  obtain ⟨u, w', rfl, ⟨t, rfl⟩, ⟨t', rfl⟩⟩ := vals2 r
  refine min_two_ints (I.ok.hd hc) fun h' tk k => ⟨_, H, I.kept k, ?_, q⟩
  by_cases hj : j < i
  · rw [if_pos hj, if_pos hj]; exact ⟨_, rfl⟩
  · rw [if_neg hj, if_neg hj]; exact ⟨_, rfl⟩
noncomputable def LenV (K : PySem.W.Frag) (x : V) (H : Hp) (n : Nat) : Prop :=
  match x with
  | .str y => y.length ≤ sizeLine ∧ n = y.length
  | .byt y => y.size ≤ sizeLine ∧ n = y.size
  | .ref p => (∃ xs, SqL K H p xs ∧ n = xs.length) ∨ ∃ xs, SqT K H p xs ∧ n = xs.length
  | _ => False
theorem call_len : CallR X (.builtin "len") (fun xs H Q => ∃ x n, xs = [x] ∧ LenV X.K x H n ∧ Q (.int n) H) := by
  intro pins s σ H xs us Q I r h
  obtain ⟨x, n, rfl, e, q⟩ := h
  obtain ⟨u, rfl, rx⟩ := vals1 r
  have hl := line63
  have hs : sizeLine = 16777216 := sizeLine_eq
  cases x with
  | str y =>
    obtain ⟨t, rfl⟩ := rx
    obtain ⟨hy, e'⟩ : y.length ≤ sizeLine ∧ n = y.length := e
    subst e'
    exact len_str (by omega) ⟨.int _, H, I.tok _, ⟨_, rfl⟩, q⟩
  | byt y =>
    obtain ⟨t, rfl⟩ := rx
    obtain ⟨hy, e'⟩ : y.size ≤ sizeLine ∧ n = y.size := e
    subst e'
    exact PySem.W.len_bytes (by omega) ⟨.int _, H, I.tok _, ⟨_, rfl⟩, q⟩
  | ref p =>
    cases rx
    have e' : (∃ xs, SqL X.K H p xs ∧ n = xs.length) ∨ ∃ xs, SqT X.K H p xs ∧ n = xs.length := e
    rcases e' with ⟨xs, hx, e'⟩ | ⟨xs, hx, e'⟩
    · subst e'
      obtain ⟨its, r', pl, hz⟩ := I.list hx
      have hlen := r'.length
      exact Calls.call_len_list pl.isList (by simp only [List.size_toArray]; omega) ⟨.int xs.length, H, I.tok _, ⟨_, by simp only [List.size_toArray]; rw [hlen]⟩, q⟩
    · subst e'
      obtain ⟨its, r', pl, hz⟩ := I.tuple hx
      have hlen := r'.length
      exact len_tuple pl (by simp only [List.size_toArray]; omega) ⟨.int xs.length, H, I.tok _, ⟨_, by simp only [List.size_toArray]; rw [hlen]⟩, q⟩
  | _ => exact (show False from e).elim
end
end L2

namespace L2
open PySem PySem.Spec PyProof.Rows

structure ObjM (h : Heap) (x dx C : Addr) (mA : Str → Option Value) : Prop where
  obj : h.get? x = some (PySem.W.instObj C dx)
  ns : h.Ns1 dx mA
  ne : dx ≠ x

theorem lookIn_ns {h : Heap} {dx : Addr} {mA : Str → Option Value} (n : h.Ns1 dx mA) : ∃ od, h.get? dx = some od ∧ ∀ name, PySem.W.lookIn name od = some (mA name) := by
  obtain ⟨o, es, ep, ho, hd, hk, _, hm⟩ := n
  refine ⟨o, ho, fun name => ?_⟩
  have e := hm name
  unfold nsFind findBy at e
  rw [← Array.find?_toList] at e
  unfold PySem.W.lookIn
  rw [hd]
  dsimp only
  split
  · rename_i y q
    rw [q] at e
    exact congrArg some e
  · rename_i q
    rw [q] at e
    have a : es.toList.any (·.refKey) = false := by
      rw [List.any_eq_false]
      intro y hy
      obtain ⟨z, t, hkey⟩ := hk y (Array.mem_toList_iff.mp hy)
      simp [DictEntry.refKey, hkey]
    have a' : ¬ es.toList.any (·.refKey) = true := by rw [a]; exact Bool.false_ne_true
    rw [if_neg a']
    exact congrArg some e

theorem ObjM.look {h : Heap} {x dx C : Addr} {mA : Str → Option Value} (I : ObjM h x dx C mA) : ∃ od, PySem.W.InstAt h x (PySem.W.instObj C dx) C (some od) ∧ ∀ name, PySem.W.lookIn name od = some (mA name) :=
  let ⟨od, ho, hl⟩ := lookIn_ns I.ns
  ⟨od, ⟨I.obj, rfl, rfl, ho⟩, hl⟩

section
variable {prog : Program} {w : World} {A : Around} {E : Value → Shared → Prop} {s : Shared} {K : PySem.W.Frag} {x dx C f : Addr} {mA : Str → Option Value} {name : Str} {v : Value}

end

theorem RelO.some_of {v : V} {o : Option Value} (r : RelO (some v) o) : ∃ u, o = some u ∧ RelV v u := by
  cases o with
  | none => exact (show False from r).elim
  | some u => exact ⟨u, rfl, r⟩
section
variable {P : Program} {w : World} {H H' : Hp} {h h' : Heap} {a C dx : Addr} {fs fs' : List (Str × V)}
end

structure Cls (K : PySem.W.Frag) (C : Addr) : Prop where
  pg : PySem.W.plainGet K C Str.empty = true
  hd : PySem.W.hasDictIn K C = true
  po : PySem.W.plainOver K C = true
  sa : PySem.W.findIn K (.ref C) "__setattr__" = some (some (.builtin "object.__setattr__"))
theorem Cls.get {K : PySem.W.Frag} {C : Addr} (c : Cls K C) (f : Str) : PySem.W.plainGet K C f = true := c.pg
structure Con (K : PySem.W.Frag) (C : Addr) (f : Str) (v : V) (u : Value) : Prop where
  at_ : PySem.W.findIn K (.ref C) f = some (some u)
  rel : RelV v u
  get : PySem.W.specialIn K u "__get__" = some none
  cp : PySem.W.copiedNames.contains f = false
structure Meth (K : PySem.W.Frag) (C : Addr) (m : Str) (f : Addr) : Prop where
  at_ : PySem.W.findIn K (.ref C) m = some (some (.ref f))
  fn : PySem.W.isFn K (.ref f) = true
  kp : PySem.W.keepIn K (.ref f) = true

section
variable {X : Cx} {pins : List (Addr × Obj)} {σ : St} {H : Hp} {s : Shared} {a C dx : Addr} {fs : List (Str × V)} {f : Str} {v : V} {A : Around} {E : Value → Shared → Prop}

theorem Inv.made (I : Inv X pins σ H s) : Inv X pins σ (upd (upd H s.heap.objs.size (.own (s.heap.objs.size + 1))) (s.heap.objs.size + 1) (.ins C s.heap.objs.size []))
    { s with heap := (s.heap.push PySem.W.emptyDict).push (PySem.W.instObj C s.heap.objs.size) } := by
  have e1 : (s.heap.push PySem.W.emptyDict).get? s.heap.objs.size = some PySem.W.emptyDict := Heap.get?_push_size s.heap rfl
  have e2 : ((s.heap.push PySem.W.emptyDict).push (PySem.W.instObj C s.heap.objs.size)).get? (s.heap.objs.size + 1) = some (PySem.W.instObj C s.heap.objs.size) := by
    have := Heap.get?_push_size (s.heap.push PySem.W.emptyDict) (o := PySem.W.instObj C s.heap.objs.size) rfl
    rwa [Heap.size_push] at this
  have e3 : (s.heap.push PySem.W.emptyDict).Ns s.heap.objs.size (fun _ => none) := ⟨PySem.W.emptyDict, #[], _, e1, rfl, (fun e he => absurd he (by simp)), fun _ => rfl⟩
  have I1 := I.laid (a := s.heap.objs.size) (o := .own (s.heap.objs.size + 1)) (h' := s.heap.push PySem.W.emptyDict) (t' := s.toks) (fun b u q => Heap.get?_push_of_some _ q) (Nat.le_refl _) ⟨_, e1⟩
  refine I1.laid (a := s.heap.objs.size + 1) (o := .ins C s.heap.objs.size []) (t' := s.toks) (fun b u q => Heap.get?_push_of_some _ q) (Nat.le_of_eq (Heap.size_push _ _)) ?_
  have ne : s.heap.objs.size ≠ s.heap.objs.size + 1 := Nat.ne_of_lt (Nat.lt_succ_self _)
  refine ⟨by rw [upd_ne ne, upd_same], Nat.zero_le _, ne, e2, fun _ => none, (Heap.Ns1.of_empty e3).at fun o q => Heap.get?_push_of_some _ q, fun _ => True.intro, fun y hy => absurd rfl hy⟩

end

section
variable {X : Cx} {o e value : Expr} {f : Str} {pos pos' tpos : Pos} {ta tv : TE}
end

section
variable {X : Cx} {pins : List (Addr × Obj)} {σ : St} {H : Hp} {s : Shared} {A : Around} {E : Value → Shared → Prop} {Q : Value → Shared → Prop} {c : Value} {b : Bool}
inductive TyOf (K : PySem.W.Frag) (H : Hp) : V → Value → Prop where
  | non : TyOf K H .non (.type "NoneType")
  | bl (x : Bool) : TyOf K H (.bl x) (.type "bool")
  | int (i : Int) : TyOf K H (.int i) (.type "int")
  | str (x : Str) : TyOf K H (.str x) (.type "str")
  | flt (x : UInt64) : TyOf K H (.flt x) (.type "float")
  | lst {a : Addr} {xs : List V} (e : H a = some (.lst xs)) : TyOf K H (.ref a) (.type "list")
  | frz {a : Addr} {o : Obj} {xs : List V} (e : H a = some (.frz o (.lst xs))) : TyOf K H (.ref a) (.type "list")
  | tup {a : Addr} {xs : List V} (e : H a = some (.tup xs)) : TyOf K H (.ref a) (.type "tuple")
  | dK {a : Addr} {kvs : List (Key × V)} (e : H a = some (.dK kvs)) : TyOf K H (.ref a) (.type "dict")
  | dT {a : Addr} {kvs : List (List Key × V)} (e : H a = some (.dT kvs)) : TyOf K H (.ref a) (.type "dict")
  | ins {a C dx : Addr} {fs : List (Str × V)} (e : H a = some (.ins C dx fs)) (cl : Cls K C) (ha : PySem.W.findIn K (.ref C) "__class__" = some (some (.builtin "object.__class__")))
      (hn : PySem.W.specialIn K (.builtin "object.__class__") "__get__" = some (some (.builtin "getset_descriptor.__get__"))) (htk : PySem.W.takesIn K (.builtin "object.__class__") = some true)
      (hm : PySem.W.mroIn K C (.type "object") = some true) : TyOf K H (.ref a) (.ref C)
end
end L2

namespace L2
open PySem PySem.Spec PyProof.Rows

structure Room (k : Nat) (A : Around) : Prop where
  hd : A.handled = none
  dp : A.depth + 3 * k + 5 < recursionLimit
  un : A.units + 16 * k + 200 < cLine
theorem Room.mono {j k : Nat} {A : Around} (r : Room k A) (h : j ≤ k) : Room j A := ⟨r.hd, by have := r.dp; omega, by have := r.un; omega⟩
theorem Room.deeper {k : Nat} {A : Around} (r : Room (k + 1) A) (env : Env) : Room k (A.deeper env) :=
  ⟨r.hd, by have := r.dp; show A.depth + 1 + 3 * k + 5 < _; omega, by have := r.un; show A.units + 3 + 16 * k + 200 < _; omega⟩
theorem Room.in1 {k : Nat} {A : Around} (r : Room (k + 1) A) : Room k A.in1 :=
  ⟨r.hd, by have := r.dp; show A.depth + 3 * k + 5 < _; omega, by have := r.un; show A.units + 1 + 16 * k + 200 < _; omega⟩
theorem Room.depth {k : Nat} {A : Around} (r : Room k A) : A.depth < recursionLimit := by have := r.dp; omega
theorem Room.units {k : Nat} {A : Around} (r : Room k A) : A.units + 64 < cLine := by have := r.un; omega
noncomputable def tNil : TA := fun _ H Q => Q [] H
noncomputable def tCons (ta : TE) (tr : TA) : TA := fun σ H Q => ta σ H fun x H1 => tr σ H1 fun xs H2 => Q (x :: xs) H2
section
variable {X : Cx} {e : Expr} {es : List Expr} {te : TE} {t : TA} {pos : Pos}
theorem pa_nil : PA X [] tNil := fun _ _ _ _ H Q I h => Calls.spliced_nil ⟨[], H, I, .nil, h⟩
theorem pa_cons (ha : PE X e te) (hr : PA X es t) (hs : starEach (e :: es) X.env = (false, eval e X.env) :: starEach es X.env := by rfl) : PA X (e :: es) (tCons te t) := by
  intro pos pins s σ H Q I h
  rw [hs]
  show wpAny _ _ (spliced ((false, eval e X.env) :: backTo pos (starEach es X.env))) _ _ s
  refine Calls.spliced_cons (thn (ha pins s σ H _ I h) fun u s1 ⟨x, H1, I1, r1, q1⟩ => ?_)
  exact thn (hr pos pins s1 σ H1 _ I1 q1) fun us s2 ⟨xs, H2, I2, r2, q2⟩ => ⟨x :: xs, H2, I2, .cons r1 r2, q2⟩

noncomputable def tTup (t : TA) : TE := fun σ H Q => t σ H fun xs H1 => xs.length ≤ sizeLine ∧ ∀ p, H1 p = none → Q (.ref p) (upd H1 p (.tup xs))
noncomputable def tLst (t : TA) : TE := fun σ H Q => t σ H fun xs H1 => xs.length ≤ sizeLine ∧ ∀ p, H1 p = none → Q (.ref p) (upd H1 p (.lst xs))
theorem pe_tup {x1} (h : PA X es t) : PE X (.Tuple es x1 pos) (tTup t) := by
  intro pins s σ H Q I hq
  refine wpAny_Tuple_spliced (thn (h pos pins s σ H _ I hq) fun us s1 ⟨xs, H1, I1, r, z, q⟩ => ⟨by rw [← r.length]; exact z, ?_⟩)
  have hf : H1 s1.heap.objs.size = none := I1.hok.fresh (Nat.le_refl _)
  refine ⟨.ref s1.heap.objs.size, upd H1 s1.heap.objs.size (.tup xs), I1.laid (t' := s1.toks) (fun b u e => Heap.get?_push_of_some _ e) (Nat.le_refl _) ?_, rfl, q _ hf⟩
  exact ⟨z, us, r, IsTupN.mk (Heap.get?_push_size _ rfl)⟩
theorem pe_lst (h : PA X es t) : PE X (.List es pos) (tLst t) := by
  intro pins s σ H Q I hq
  refine wpAny_List_spliced (thn (h pos pins s σ H _ I hq) fun us s1 ⟨xs, H1, I1, r, z, q⟩ => ⟨by rw [← r.length]; exact z, ?_⟩)
  have hf : H1 s1.heap.objs.size = none := I1.hok.fresh (Nat.le_refl _)
  refine ⟨.ref s1.heap.objs.size, upd H1 s1.heap.objs.size (.lst xs), I1.laid (t' := s1.toks) (fun b u e => Heap.get?_push_of_some _ e) (Nat.le_refl _) ?_, rfl, q _ hf⟩
  exact ⟨z, us, 0, r, Heap.get?_push_size _ rfl⟩
end

noncomputable abbrev Sp := List V → Hp → VK → XK → Prop
noncomputable abbrev CXT := List Env → Hp → Shared → XK → Value → Shared → Prop

structure Env0 (P : Program) (w : World) (K : PySem.W.Frag) (mg : Str → Option Value) (base : Heap) (A : Around) (outer : List Env) (s : Shared) (H : Hp) : Prop where
  frames : A.frames = some outer
  mod : Mod K mg base
  bs : ∀ b o, base.get? b = some o → s.heap.get? b = some o ∧ H b = none
  bsz : base.objs.size ≤ s.heap.objs.size
  funs : s.heap.FunFrames base outer
  frf : ∀ b ∈ frs outer, H b = none
  hok : HOk P w H s.heap
  bare : AllBare s.gens
noncomputable def CE (outer : List Env) (P : Program) (w : World) (H : Hp) (s : Shared) (Q : VK) (u : Value) (s' : Shared) : Prop :=
  ∃ v H', s'.os = s.os ∧ AllBare s'.gens ∧ Un (frs outer) [] H H' s.heap s'.heap ∧ HOk P w H' s'.heap ∧ RelV v u ∧ Q v H'
noncomputable def CR (CX : CXT) (outer : List Env) (P : Program) (w : World) (H : Hp) (s : Shared) (Q : VK) (E : XK) (r : Result) (s' : Shared) : Prop :=
  match r with
  | .ok (.ret u) => CE outer P w H s Q u s'
  | .ok _ => False
  | .error e => CX outer H s E e s'
structure FnOk (P : Program) (w : World) (K : PySem.W.Frag) (mg : Str → Option Value) (base : Heap) (CX : CXT) (k : Nat) (f : Addr) (fd : FuncData) (ps : List Str) (sp : Sp) : Prop where
  len : ∀ vs H Q E, sp vs H Q E → vs.length = ps.length
  run : ∀ (A : Around) (outer : List Env) (s : Shared) (H : Hp) (args : Args) (us : List Value) (vs : List V) (Q : VK) (E : XK), Room k A → Env0 P w K mg base A outer s H → BindsTo s fd args (ps.zip us) → Vals vs us → sp vs H Q E →
    codeAny (model P w) A (.call (.ref f) args) (CR CX outer P w H s Q E) s
theorem FnOk.mono {P : Program} {w : World} {K : PySem.W.Frag} {mg : Str → Option Value} {base : Heap} {CX : CXT} {j k : Nat} {f : Addr} {fd : FuncData} {ps : List Str} {sp : Sp} (F : FnOk P w K mg base CX j f fd ps sp) (h : j ≤ k) :
    FnOk P w K mg base CX k f fd ps sp := ⟨F.len, fun A outer s H args us vs Q E hr => F.run A outer s H args us vs Q E (hr.mono h)⟩
theorem FnOk.imp {P : Program} {w : World} {K : PySem.W.Frag} {mg : Str → Option Value} {base : Heap} {CX : CXT} {k : Nat} {f : Addr} {fd : FuncData} {ps : List Str} {sp sp' : Sp} (F : FnOk P w K mg base CX k f fd ps sp)
    (h : ∀ vs H Q E, sp' vs H Q E → sp vs H Q E) : FnOk P w K mg base CX k f fd ps sp' :=
  ⟨fun vs H Q E q => F.len vs H Q E (h _ _ _ _ q), fun A outer s H args us vs Q E hr he hb hv hs => F.run A outer s H args us vs Q E hr he hb hv (h _ _ _ _ hs)⟩

theorem Env0.in1 {P : Program} {w : World} {K : PySem.W.Frag} {mg : Str → Option Value} {base : Heap} {A : Around} {outer : List Env} {s : Shared} {H : Hp} (e : Env0 P w K mg base A outer s H) :
    Env0 P w K mg base A.in1 outer s H := ⟨e.frames, e.mod, e.bs, e.bsz, e.funs, e.frf, e.hok, e.bare⟩

section
variable {X : Cx} {pins : List (Addr × Obj)} {σ : St} {H : Hp} {s s' : Shared}
theorem Inv.env0 (I : Inv X pins σ H s) : Env0 X.prog X.w X.K X.mg X.base X.A X.stack s H :=
  ⟨I.ok.frames, I.ok.mod, I.bs, Nat.le_trans I.ok.bsz I.sz, I.stack, I.stkFree, I.hok, I.bare⟩
theorem Inv.after {Q : VK} {u : Value} (I : Inv X pins σ H s) (h : CE X.stack X.prog X.w H s Q u s') : EP X pins σ Q u s' := by
  obtain ⟨v, H', os, bare, un, hok, r, q⟩ := h
  obtain ⟨hh, g, d, t, os'⟩ := s'
  obtain rfl : os' = s.os := os
  exact ⟨v, H', I.call (h' := hh) (g' := g) (d' := d) (t' := t) (ch := []) un hok bare (fun b z => absurd z (by simp)), r, q⟩
end

noncomputable def tCall (sp : Sp) (dvs : List V) (E : XK) (t : TA) : TE := fun σ H Q => t σ H fun vs H1 => sp (vs ++ dvs) H1 Q E
noncomputable def Binds (K : PySem.W.Frag) (fd : FuncData) (ps : List Str) (ds : List Value) : Prop :=
  ∀ (s : Shared) (us : List Value), K.In s.heap → (us ++ ds).length = ps.length → BindsTo s fd ⟨us, []⟩ (ps.zip (us ++ ds))
theorem Binds.all {K : PySem.W.Frag} {fd : FuncData} {ps : List Str} (h : ∀ us : List Value, us.length = ps.length → bindArgs fd ⟨us, []⟩ = pure (ps.zip us)) : Binds K fd ps [] := fun s us _ hl => by
  rw [List.append_nil] at hl ⊢
  exact .of_eq (h us hl)

noncomputable def Passes (CX : CXT) (X : Cx) (E : XK) : Prop := ∀ (pins : List (Addr × Obj)) (σ : St) (H : Hp) (s : Shared) (e : Value) (s' : Shared), Inv X pins σ H s → CX X.stack H s E e s' → X.xe e s'

section
variable {X : Cx} {CX : CXT} {k : Nat} {f C : Addr} {fd : FuncData} {ps : List Str} {sp : Sp} {dvs : List V} {ds : List Value} {E : XK} {x m : Str} {p pos apos : Pos} {e o : Expr} {es : List Expr} {ta : TE} {t : TA}

theorem run_fn {pins : List (Addr × Obj)} {σ : St} {H : Hp} {s : Shared} {Q : VK} {us : List Value} {vs : List V} (F : FnOk X.prog X.w X.K X.mg X.base CX k f fd ps sp) (hr : Room k X.A) (hb : Binds X.K fd ps ds) (hd : Vals dvs ds) (hx : Passes CX X E)
    (I : Inv X pins σ H s) (r : Vals vs us) (h : sp (vs ++ dvs) H Q E) : wpAny (model X.prog X.w) X.A (call (.ref f) us) (EP X pins σ Q) X.xe s := by
  have r2 : Vals (vs ++ dvs) (us ++ ds) := r.append hd
  have hl : (us ++ ds).length = ps.length := by rw [← r2.length]; exact F.len _ _ _ _ h
  refine wpAny_call (codeAny_mono (F.run X.A X.stack s H ⟨us, []⟩ (us ++ ds) (vs ++ dvs) Q E hr I.env0 (hb s us I.kIn hl) r2 h) fun r s' hq => ?_)
  cases r with
  | error e => exact hx pins σ H s e s' I hq
  | ok fl =>
    cases fl with
    | ret u => exact I.after hq
    | next => exact False.elim hq
    | brk => exact False.elim hq
    | cont => exact False.elim hq

theorem pe_call (F : FnOk X.prog X.w X.K X.mg X.base CX k f fd ps sp) (hr : Room k X.A) (hg : Gl X x) (hm : X.mg x = some (.ref f)) (hk : PySem.W.keepIn X.K (.ref f) = true) (hb : Binds X.K fd ps ds) (hd : Vals dvs ds) (hx : Passes CX X E)
    (ha : PA X (e :: es) t) (hdb : (x == ("__debug__" : Str)) = false := by decide) (he : starEach (e :: es) X.env = (false, eval e X.env) :: starEach es X.env := by rfl) (hpl : (backTo pos (starEach es X.env)).any (·.1) = false := by rfl) :
    PE X (.Call (.Name x p) (e :: es) [] pos) (tCall sp dvs E t) := by
  intro pins s σ H Q I h
  refine wpAny_Call_Name_kw (ld_glob I hg hm ?_ hdb)
  refine PySem.W.callWith_K (h₀ := X.base) I.ok.mod.kin hk (thn (ha pos pins s σ H _ I h) fun us s1 ⟨vs, H1, I1, r, q⟩ => ⟨I1.kIn, ?_⟩) he hpl
  exact run_fn F hr hb hd hx I1 r q
structure Mk (K : PySem.W.Frag) (C f : Addr) : Prop where
  makes : PySem.W.makesIn K C = true
  init : PySem.W.findIn K (.ref C) "__init__" = some (some (.ref f))
  fn : PySem.W.isFn K (.ref f) = true
  kp : PySem.W.keepIn K (.ref C) = true

end

section
variable {X : Cx} {CX : CXT} {k : Nat} {f C : Addr} {fd : FuncData} {ps ks : List Str} {sp : Sp} {E : XK} {x m : Str} {p pos apos kpos : Pos} {e o : Expr} {es : List Expr} {kws : List Keyword} {te ta : TE} {t tk : TA} {nm : Option Str}
structure KBinds (K : PySem.W.Frag) (fd : FuncData) (ps ks : List Str) (g : List Value → List Value → List Value) (gV : List V → List V → List V) : Prop where
  to : ∀ (s : Shared) (us ws : List Value), K.In s.heap → (g us ws).length = ps.length → BindsTo s fd ⟨us, ks.zip ws⟩ (ps.zip (g us ws))
  rel : ∀ {vs : List V} {us : List Value} {zs : List V} {ws : List Value}, Vals vs us → Vals zs ws → Vals (gV vs zs) (g us ws)
variable {g : List Value → List Value → List Value} {gV : List V → List V → List V}
end

structure FnScope (N P : List Str) (sc : Scope) : Prop where
  kind : sc.kind = .function
  co : sc.isCoroutine = false
  gen : sc.isGenerator = false
  nd : N.Nodup
  pre : N.take P.length = P
  par : ∀ x ∈ P, sc.names.lookup x = some .local ∨ sc.names.lookup x = some .cell
  nofree : ∀ y ∈ sc.names, y.2 ≠ .free

theorem bindL_out {kindOf : Str → Option NameKind} {x : Str} : ∀ {binds : List (Str × Value)} {m : Str → Option Value}, (∀ v, (x, v) ∉ binds) → bindL kindOf binds m x = m x
  | [], _, _ => rfl
  | (n, v) :: r, m, h => by
    unfold bindL
    rw [bindL_out fun w hw => h w (List.mem_cons_of_mem _ hw)]
    split
    · have : x ≠ n := by rintro rfl; exact h v List.mem_cons_self
      simp [this]
    · rfl
theorem bindC_out {kindOf : Str → Option NameKind} {x : Str} : ∀ {binds : List (Str × Value)} {m : Str → Option Value}, (∀ v, (x, v) ∉ binds) → bindC kindOf binds m x = m x
  | [], _, _ => rfl
  | (n, v) :: r, m, h => by
    unfold bindC
    rw [bindC_out fun w hw => h w (List.mem_cons_of_mem _ hw)]
    split
    · rfl
    · have : x ≠ n := by rintro rfl; exact h v List.mem_cons_self
      simp [this]
theorem bindL_get {kindOf : Str → Option NameKind} {x : Str} {v : Value} : ∀ {P : List Str} {vs : List Value} {i : Nat} {m : Str → Option Value}, P.Nodup → P[i]? = some x → vs[i]? = some v → kindOf x = some .local →
    bindL kindOf (P.zip vs) m x = some v
  | [], _, _, _, _, h, _, _ => by simp at h
  | _ :: _, [], _, _, _, _, h, _ => by simp at h
  | p :: P, w :: vs, 0, m, nd, h1, h2, hk => by
    simp at h1 h2; subst h1; subst h2
    show bindL kindOf ((p, w) :: P.zip vs) m p = _
    unfold bindL
    rw [bindL_out fun v hv => (List.nodup_cons.mp nd).1 (List.of_mem_zip hv).1, if_pos hk]
    simp
  | p :: P, w :: vs, i + 1, m, nd, h1, h2, hk => by
    show bindL kindOf ((p, w) :: P.zip vs) m x = _
    unfold bindL
    exact bindL_get (i := i) (List.nodup_cons.mp nd).2 (by simpa using h1) (by simpa using h2) hk
theorem bindC_get {kindOf : Str → Option NameKind} {x : Str} {v : Value} : ∀ {P : List Str} {vs : List Value} {i : Nat} {m : Str → Option Value}, P.Nodup → P[i]? = some x → vs[i]? = some v → kindOf x ≠ some .local →
    bindC kindOf (P.zip vs) m x = some v
  | [], _, _, _, _, h, _, _ => by simp at h
  | _ :: _, [], _, _, _, _, h, _ => by simp at h
  | p :: P, w :: vs, 0, m, nd, h1, h2, hk => by
    simp at h1 h2; subst h1; subst h2
    show bindC kindOf ((p, w) :: P.zip vs) m p = _
    unfold bindC
    rw [bindC_out fun v hv => (List.nodup_cons.mp nd).1 (List.of_mem_zip hv).1, if_neg hk]
    simp
  | p :: P, w :: vs, i + 1, m, nd, h1, h2, hk => by
    show bindC kindOf ((p, w) :: P.zip vs) m x = _
    unfold bindC
    exact bindC_get (i := i) (List.nodup_cons.mp nd).2 (by simpa using h1) (by simpa using h2) hk

noncomputable def start (N : List Str) (vs : List V) : St := vs.map some ++ List.replicate (N.length - vs.length) none

noncomputable def cxOf (CX : CXT) (P : Program) (w : World) (K : PySem.W.Frag) (mg : Str → Option Value) (base : Heap) (N : List Str) (qual : Str) (scope : Scope) (f : Addr) (cd : Value) (A : Around) (outer : List Env) (s : Shared) (H : Hp) (E : XK) : Cx where
  prog := P
  w := w
  K := K
  mg := mg
  base := base
  A := A.deeper (envOfC qual scope s.heap.objs.size f cd)
  N := N
  s₀ := s
  H₀ := H
  env := envOfC qual scope s.heap.objs.size f cd
  outer := outer
  stack := envOfC qual scope s.heap.objs.size f cd :: outer
  ex := []
  calm := true
  fn := fun _ => true
  pn := []
  xe := fun e s' => wpAny (model P w) (A.deeper (envOfC qual scope s.heap.objs.size f cd)) (leaving (envOfC qual scope s.heap.objs.size f cd) e) (fun _ s'' => CX outer H s E e s'') (fun e' s'' => CX outer H s E e' s'') s'

theorem cell_has {sc : Scope} {n : Nat} {x : Str} (h : sc.names.lookup x = some .cell) : ∃ c, (cellsFrom n sc.names []).lookup x = some c := by
  have q := PySem.W.cellsFrom_some sc.names n [] (.inl h)
  exact Option.isSome_iff_exists.mp q

theorem inv_start {CX : CXT} {P : Program} {w : World} {K : PySem.W.Frag} {mg : Str → Option Value} {base : Heap} {N ps : List Str} {qual : Str} {scope : Scope} {f : Addr} {cd : Value} {A : Around} {outer : List Env} {s s1 : Shared} {H : Hp} {E : XK} {us : List Value} {vs : List V}
    (S : FnScope N ps scope) (hd : A.handled = none) (e0 : Env0 P w K mg base A outer s H) (hl : vs.length = ps.length) (r : Vals vs us)
    (x : InCallC s s.heap.objs.size (bindL (envOfC qual scope s.heap.objs.size f cd).kindOf (ps.zip us) fun _ => none) (cellsFrom (s.heap.objs.size + 1) scope.names []) (bindC (envOfC qual scope s.heap.objs.size f cd).kindOf (ps.zip us) fun _ => none) s1) :
    Inv (cxOf CX P w K mg base N qual scope f cd A outer s H E) [] (start N vs) H s1 := by
  have hpl : ps.length ≤ N.length := by have := congrArg List.length S.pre; rw [List.length_take] at this; omega
  obtain ⟨h1, tk, rfl, hk⟩ := x.done
  have noA : ∀ b : Addr, b ∉ (cxOf CX P w K mg base N qual scope f cd A outer s H E).ex := fun b z => absurd (show b ∈ ([] : List Addr) from z) (by simp)
  refine ⟨⟨e0.mod, S.kind, rfl, rfl, Nat.le_refl _, fun y z c h1 h2 => ?_, fun y hy => ?_, fun y c _ h => ?_, fun _ => hd, Around.frames_deeper e0.frames, .inr ⟨rfl, rfl⟩, fun b z => absurd z (noA b), e0.bs, e0.bsz, fun b _ _ => noA b, fun b z => absurd z (noA b), e0.funs, e0.frf⟩,
    rfl, e0.bare, Un.kept hk, ⟨_, x.toInCall.ns, fun i y v h1 h2 h3 => ?_⟩, fun y c h => ⟨_, x.cell y c h⟩, e0.hok.fresh (Nat.le_refl _), fun y c h => ?_, fun p hp => absurd (show p ∈ ([] : List (Addr × Obj)) from hp) (by simp), e0.hok.kept hk, ?_⟩
  · exact name_of_addr x.apart (PySem.mem_of_lookup h1) (PySem.mem_of_lookup h2)
  · have hy : scope.names.lookup y = some .cell ∨ scope.names.lookup y = some .free := hy
    rcases hy with hy | hy
    · exact cell_has hy
    · exact absurd rfl (S.nofree _ (PySem.mem_of_lookup hy))
  · exact Nat.le_of_lt (x.above y c (PySem.mem_of_lookup h))
  · have hi : i < vs.length := by
      unfold start at h2
      by_cases hi : i < vs.length
      · exact hi
      · rw [List.getElem?_append_right (by simpa using hi)] at h2
        rw [List.getElem?_replicate] at h2
        split at h2 <;> cases h2
    have ha : vs[i]? = some v := by
      unfold start at h2
      rw [List.getElem?_append_left (by simpa using hi), List.getElem?_map] at h2
      cases e : vs[i]? with
      | none => rw [e] at h2; cases h2
      | some a => rw [e] at h2; cases h2; rfl
    obtain ⟨u, hu, rv⟩ := r.get ha
    have hp : ps[i]? = some y := by
      rw [← S.pre, List.getElem?_take_of_lt (by omega)]; exact h1
    have ndP : ps.Nodup := by rw [← S.pre]; exact S.nd.sublist (List.take_sublist _ _)
    refine ⟨u, rv, ?_⟩
    rcases S.par y (List.mem_of_getElem? hp) with k | k
    · exact .inl ⟨k, bindL_get ndP hp hu k⟩
    · obtain ⟨c, e⟩ := cell_has (n := s.heap.objs.size + 1) k
      refine .inr ⟨.inl k, c, e, ?_⟩
      have q := x.cell y c e
      rw [bindC_get ndP hp hu (by show scope.names.lookup y ≠ _; rw [k]; decide)] at q
      exact q
  · exact e0.hok.fresh (Nat.le_of_lt (x.above y c (PySem.mem_of_lookup h)))
  · unfold start
    show _ = N.length
    rw [List.length_append, List.length_map, List.length_replicate]
    omega

theorem fn_of {CX : CXT} {P : Program} {w : World} {K : PySem.W.Frag} {mg : Str → Option Value} {base : Heap} {k : Nat} {f : Addr} {name qual : Str} {params : Arguments} {body : List Stmt} {scope : Scope} {dV kV doc pm cdv ct oc : Value} {an od : Option Addr}
    {osl : Array (Option Value)} {N ps : List Str} {sp : Sp} (lk : K.lookup f = some ⟨oc, od, .func (PySem.W.fnOf name qual params body scope dV kV doc pm an cdv ct), osl⟩) (hcd : PySem.W.codeIn K cdv qual = true) (S : FnScope N ps scope)
    (len : ∀ vs H Q E, sp vs H Q E → vs.length = ps.length)
    (hbody : ∀ (A : Around) (outer : List Env) (s : Shared) (H : Hp) (vs : List V) (Q : VK) (E : XK), Room k (A.deeper (envOfC qual scope s.heap.objs.size f cdv)) → sp vs H Q E →
      ∃ t, PSs (cxOf CX P w K mg base N qual scope f cdv A outer s H E) body t ∧ t { nx := fun _ H' => Q .non H', rt := Q } (start N vs) H) :
    FnOk P w K mg base CX (k + 1) f (PySem.W.fnOf name qual params body scope dV kV doc pm an cdv ct) ps sp := by
  refine ⟨len, fun A outer s H args us vs Q E hr e0 hb r hsp => ?_⟩
  have hl := len _ _ _ _ hsp
  have KX : K.In s.heap := e0.mod.kin.keeps fun b o e => (e0.bs b o e).1
  have lim : s.heap.NoLimit := e0.mod.nolimit.keeps fun b o e => (e0.bs b o e).1
  have hkind : ∀ y ∈ ps.zip us, scope.names.lookup y.1 = some .local ∨ (scope.names.lookup y.1 = some .cell ∧ ((cellsFrom (s.heap.objs.size + 1) scope.names []).lookup y.1).isSome = true) := fun ⟨n, v⟩ hy => by
    rcases S.par n (List.of_mem_zip hy).1 with q | q
    · exact .inl q
    · exact .inr ⟨q, PySem.W.cellsFrom_some _ _ _ (.inl q)⟩
  refine codeAny_call_function hr.depth (KX _ _ lk) rfl S.co S.gen rfl (PySem.W.codeRec_of KX hcd) (hb _ _ _ _ ?_)
  refine wpAny_newFunctionEnv_cells S.kind hkind fun env he s1 x => ?_
  subst he
  refine ⟨lim.keeps x.toInCall.keep, codeAny_func ?_⟩
  obtain ⟨t, ht, hq⟩ := hbody A outer s H vs Q E (hr.deeper _) hsp
  have I : Inv (cxOf CX P w K mg base N qual scope f cdv A outer s H E) [] (start N vs) H s1 := inv_start S hr.hd e0 hl r x
  refine wpAny_mono (ht [] s1 (start N vs) H _ I hq) (fun fl s' hs => ?_) fun e s' hs => hs
  have fin : ∀ {σ' : St} {H' : Hp} {v : V} {u : Value}, Inv (cxOf CX P w K mg base N qual scope f cdv A outer s H E) [] σ' H' s' → RelV v u → Q v H' → CE outer P w H s Q u s' :=
    fun {σ' H' v u} J rv q => ⟨v, H', J.os, J.bare, J.base, J.hok, rv, q⟩
  cases fl with
  | ret u =>
    obtain ⟨v, σ', H', J, rv, q⟩ := hs
    exact fin J rv q
  | next =>
    obtain ⟨σ', H', J, q⟩ := hs
    exact fin (v := V.non) (u := Value.none) J rfl q
  | brk =>
    obtain ⟨_, _, _, q⟩ := hs
    exact False.elim q
  | cont =>
    obtain ⟨_, _, _, q⟩ := hs
    exact False.elim q
end L2

namespace L2
open PySem PySem.Spec PyProof.Rows
section
variable {X : Cx} {x : Str} {p pos : Pos} {e : Expr} {es : List Expr} {t : TA} {id T : String} {r : List V → Hp → VK → Prop}

noncomputable def tCB (r : List V → Hp → VK → Prop) (t : TA) : TE := fun σ H Q => t σ H fun vs H1 => r vs H1 Q
theorem pe_callB (hc : CallR X (.builtin id) r) (hg : Gl X x) (hm : X.mg x = none) (hv : bootBuiltins x = some (.builtin id)) (ha : PA X (e :: es) t) (hn : x ≠ "__name__" := by decide) (hdb : (x == ("__debug__" : Str)) = false := by decide)
    (he : starEach (e :: es) X.env = (false, eval e X.env) :: starEach es X.env := by rfl) (hpl : (backTo pos (starEach es X.env)).any (·.1) = false := by rfl) : PE X (.Call (.Name x p) (e :: es) [] pos) (tCB r t) := by
  intro pins s σ H Q I h
  refine wpAny_Call_Name_kw (ld_blt I hg hm hv ?_ hn hdb)
  exact PyProof.Rows.callWith_builtin1 (thn (ha pos pins s σ H _ I h) fun us s1 ⟨vs, H1, I1, r1, q1⟩ => hc pins s1 σ H1 vs us Q I1 r1 q1) he hpl
theorem pe_callTy (hc : CallR X (.type T) r) (hg : Gl X x) (hm : X.mg x = none) (hv : bootBuiltins x = some (.type T)) (ha : PA X (e :: es) t) (hn : x ≠ "__name__" := by decide) (hdb : (x == ("__debug__" : Str)) = false := by decide)
    (he : starEach (e :: es) X.env = (false, eval e X.env) :: starEach es X.env := by rfl) (hpl : (backTo pos (starEach es X.env)).any (·.1) = false := by rfl) : PE X (.Call (.Name x p) (e :: es) [] pos) (tCB r t) := by
  intro pins s σ H Q I h
  refine wpAny_Call_Name_kw (ld_blt I hg hm hv ?_ hn hdb)
  exact PyProof.Rows.callWith_type1 (thn (ha pos pins s σ H _ I h) fun us s1 ⟨vs, H1, I1, r1, q1⟩ => hc pins s1 σ H1 vs us Q I1 r1 q1) he hpl
end
end L2

namespace HT
open PySem PyProof.Rows

section
open PySem.SeqAt
open PySem.AutoSeq1 (wpAny_loadPart')
open PySem.MeetsSeq PySem.MeetsSeq2 PySem.MeetsSeq3

end

section
variable {prog : Program} {w : World} {A : Around} {E : Value → Shared → Prop} {s : Shared}

theorem cat_tup {t b : Addr} {vs ws : List Value} {Q : Value → Shared → Prop} (ht : IsTup s.heap t vs.toArray) (hb : IsTup s.heap b ws.toArray) (hv : vs ≠ [])
    (h1 : ws = [] → Q (.ref t) s) (h2 : ws ≠ [] → Q (.ref s.heap.objs.size) { s with heap := s.heap.push { cls := .type "tuple", data := .seq (vs ++ ws).toArray } })
    (hsz : vs.length + ws.length ≤ sizeLine) : wpAny (model prog w) A (binaryOp .Add (.ref t) (.ref b)) Q E s := by
  obtain ⟨⟨cls, dd, data, sl⟩, ho, hc, n, hd⟩ := id ht
  obtain ⟨⟨cls2, dd2, data2, sl2⟩, ho2, hc2, n2, hd2⟩ := id hb
  simp only at hc hd hc2 hd2
  subst hc hd hc2 hd2
  have e : vs.toArray ++ ws.toArray = (vs ++ ws).toArray := by simp
  by_cases hw : ws = []
  · exact concat_meets ⟨_, ho, rfl⟩ ⟨_, ho2, rfl⟩ noFill_tuple_add seq_tuple_add PySem.F.slot_tuple_add PySem.F.entry_tuple_add (PySem.F.args_tuple_add_2 _ _)
      (tuple_addW1 t b vs.toArray ws.toArray n n2 dd dd2 sl sl2 (by simpa using hv) (by simp [hw])) ⟨ho, ho2, h1 hw⟩
  · refine concat_meets ⟨_, ho, rfl⟩ ⟨_, ho2, rfl⟩ noFill_tuple_add seq_tuple_add PySem.F.slot_tuple_add PySem.F.entry_tuple_add (PySem.F.args_tuple_add_2 _ _)
      (tuple_addW2 t b vs.toArray ws.toArray n n2 dd dd2 sl sl2 (by simpa using hv) (by simpa using hw) (by rw [List.size_toArray, List.size_toArray]; exact hsz)) ⟨ho, ho2, ?_⟩
    rw [e]
    exact h2 hw

noncomputable def sIx (n d : Nat) : Option Int → Nat
  | none => d
  | some v => if v < 0 then (v + (n : Int)).toNat else min v.toNat n
end
end HT

namespace L2
open PySem PySem.Spec PyProof.Rows

noncomputable abbrev TO := St → Hp → (Option Int → Hp → Prop) → Prop
section
variable {X : Cx} {e : Expr} {te : TE} {lo hi : Option Expr} {tl th : TO} {pos p2 : Pos}

noncomputable def SlR (X : Cx) (r : V → Option Int → Option Int → Hp → VK → Prop) : Prop :=
  ∀ (pins : List (Addr × Obj)) (s : Shared) (σ : St) (H : Hp) (x : V) (v vl vu : Value) (lo hi : Option Int) (sl : Addr) (Q : VK), Inv X pins σ H s → RelV x v → s.heap.IsSliceOf sl vl vu .none → IsPart vl lo → IsPart vu hi → r x lo hi H Q →
    ∃ T id, typeLookup (.type T) "__getitem__" = pure (some (.builtin id)) ∧ s.TypeIs v T ∧ wpAny (model X.prog X.w) X.A (getItem v (.ref sl)) (EP X pins σ Q) X.xe s
theorem SlR.or {r r' : V → Option Int → Option Int → Hp → VK → Prop} (h : SlR X r) (h' : SlR X r') : SlR X (fun x lo hi H Q => r x lo hi H Q ∨ r' x lo hi H Q) := by
  intro pins s σ H x v vl vu lo hi sl Q I rx hs pl pu q
  rcases q with q | q
  · exact h pins s σ H x v vl vu lo hi sl Q I rx hs pl pu q
  · exact h' pins s σ H x v vl vu lo hi sl Q I rx hs pl pu q
noncomputable def cutV (xs : List V) (lo hi : Option Int) : List V := (xs.drop (HT.sIx xs.length 0 lo)).take (HT.sIx xs.length xs.length hi - HT.sIx xs.length 0 lo)
noncomputable def rCatT (K : PySem.W.Frag) : R2 := fun x y H Q => ∃ a b xs ys, x = .ref a ∧ y = .ref b ∧ SqT K H a xs ∧ SqT K H b ys ∧ xs ≠ [] ∧ xs.length + ys.length ≤ sizeLine ∧
  (ys = [] → Q (.ref a) H) ∧ (ys ≠ [] → ∀ p, H p = none → Q (.ref p) (upd H p (.tup (xs ++ ys))))
theorem Vals.nil_iff {xs : List V} {us : List Value} (r : Vals xs us) : us = [] ↔ xs = [] := by
  cases r with
  | nil => simp
  | cons _ _ => simp
theorem op_catT : OpR X (binaryOp .Add) (rCatT X.K) := by
  intro pins s σ H x y v u Q I rx ry h
  obtain ⟨a, b, xs, ys, rfl, rfl, ha, hb, hx, hz, q1, q2⟩ := h
  cases rx
  cases ry
  obtain ⟨its, r1, p1, _⟩ := I.tuple ha
  obtain ⟨its2, r2, p2, _⟩ := I.tuple hb
  refine HT.cat_tup p1 p2 (fun z => hx (r1.nil_iff.mp z)) (fun z => ⟨.ref a, H, I, rfl, q1 (r2.nil_iff.mp z)⟩) (fun z => ?_) (by rw [← r1.length, ← r2.length]; exact hz)
  refine ⟨.ref s.heap.objs.size, _, I.laid (t' := s.toks) (o := .tup (xs ++ ys)) (fun b ob q => Heap.get?_push_of_some _ q) (Nat.le_refl _) ?_, rfl, q2 (fun w => z (r2.nil_iff.mpr w)) _ (I.hok.fresh (Nat.le_refl _))⟩
  exact ⟨by rw [List.length_append]; exact hz, _, r1.append r2, IsTupN.new _ _⟩
end
end L2

namespace L2
open PySem PySem.Spec PyProof.Rows

noncomputable def ixN (n : Nat) (i : Int) : Option Nat := if 0 ≤ i then (if i < n then some i.toNat else none) else if -(n : Int) ≤ i then some (i + n).toNat else none
noncomputable def atI {α : Type} (xs : List α) (i : Int) : Option α := (ixN xs.length i).bind fun j => xs[j]?
theorem ixN_seq {n : Nat} {i : Int} {j : Nat} (h : ixN n i = some j) : seqIndex? i n = some j ∧ j < n ∧ -(n : Int) ≤ i ∧ i < n := by
  unfold ixN at h
  by_cases h0 : 0 ≤ i
  · rw [if_pos h0] at h
    by_cases h1 : i < n
    · rw [if_pos h1] at h
      have e : i.toNat = j := Option.some.inj h
      exact ⟨by rw [seqIndex_of h0 h1, e], by omega, by omega, h1⟩
    · rw [if_neg h1] at h; cases h
  · rw [if_neg h0] at h
    by_cases h1 : -(n : Int) ≤ i
    · rw [if_pos h1] at h
      have e : (i + n).toNat = j := Option.some.inj h
      exact ⟨by rw [seqIndex_neg (by omega) h1, e], by omega, h1, by omega⟩
    · rw [if_neg h1] at h; cases h
theorem atI_get {α : Type} {xs : List α} {i : Int} {v : α} (h : atI xs i = some v) : ∃ j, seqIndex? i xs.length = some j ∧ xs[j]? = some v ∧ j < xs.length ∧ -(xs.length : Int) ≤ i ∧ i < xs.length := by
  unfold atI at h
  cases e : ixN xs.length i with
  | none => rw [e] at h; cases h
  | some j =>
    rw [e] at h
    obtain ⟨h1, h2, h3, h4⟩ := ixN_seq e
    exact ⟨j, h1, h, h2, h3, h4⟩
theorem atI_nat {α : Type} {xs : List α} {j : Nat} {v : α} (h : xs[j]? = some v) : atI xs (j : Int) = some v := by
  have hj : j < xs.length := (List.getElem?_eq_some_iff.mp h).1
  have e : ixN xs.length (j : Int) = some j := by
    unfold ixN
    rw [if_pos (by omega), if_pos (by omega)]; simp
  unfold atI; rw [e]; exact h
noncomputable def PlainIx (b : Expr) : Prop := ∀ o i, subscripted b false o i = operate [o, i] (getItem o i)
noncomputable def IxR (X : Cx) (r : R2) : Prop :=
  ∀ (value slice : Expr) (pins : List (Addr × Obj)) (s : Shared) (σ : St) (H : Hp) (x y : V) (v u : Value) (Q : VK), Inv X pins σ H s → RelV x v → RelV y u → r x y H Q →
    subscripted slice false v u = operate [v, u] (getItem v u) → wpAny (model X.prog X.w) X.A (subscriptTail value slice v u) (EP X pins σ Q) X.xe s
noncomputable def MtR (X : Cx) (id : String) (r : V → List V → Hp → VK → Prop) : Prop :=
  ∀ (pins : List (Addr × Obj)) (s : Shared) (σ : St) (H : Hp) (x : V) (xs : List V) (v : Value) (us : List Value) (Q : VK), Inv X pins σ H s → RelV x v → Vals xs us → r x xs H Q →
    wpAny (model X.prog X.w) X.A (call (.builtin id) (v :: us)) (EP X pins σ Q) X.xe s
section
variable {X : Cx} {a b : Expr} {ta tb : TE} {pos : Pos}
theorem IxR.or {r r' : R2} (h : IxR X r) (h' : IxR X r') : IxR X (fun x y H Q => r x y H Q ∨ r' x y H Q) := by
  intro value slice pins s σ H x y v u Q I rx ry q hs
  rcases q with q | q
  · exact h value slice pins s σ H x y v u Q I rx ry q hs
  · exact h' value slice pins s σ H x y v u Q I rx ry q hs
theorem MtR.or {id : String} {r r' : V → List V → Hp → VK → Prop} (h : MtR X id r) (h' : MtR X id r') : MtR X id (fun x xs H Q => r x xs H Q ∨ r' x xs H Q) := by
  intro pins s σ H x xs v us Q I rx rs q
  rcases q with q | q
  · exact h pins s σ H x xs v us Q I rx rs q
  · exact h' pins s σ H x xs v us Q I rx rs q
theorem pe_ix {r : R2} (hr : IxR X r) (ha : PE X a ta) (hb : PE X b tb) (hs : PlainIx b) : PE X (.Subscript a b pos) (tOp r ta tb) := by
  intro pins s σ H Q I h
  exact Subscript_ (binT ha hb I h fun v u s2 x y H2 I2 rx ry q => hr a b pins s2 σ H2 x y v u Q I2 rx ry q (hs _ _))

noncomputable def rIxL (K : PySem.W.Frag) : R2 := fun x y H Q => ∃ p xs i v, x = .ref p ∧ y = .int i ∧ SqL K H p xs ∧ atI xs i = some v ∧ Q v H
noncomputable def rIxT (K : PySem.W.Frag) : R2 := fun x y H Q => ∃ p xs i v, x = .ref p ∧ y = .int i ∧ SqT K H p xs ∧ atI xs i = some v ∧ Q v H
noncomputable def rIxS : R2 := fun x y H Q => ∃ z i c, x = .str z ∧ y = .int i ∧ z.length ≤ sizeLine ∧ atI z.cps.toList i = some c ∧ Q (.str ⟨#[c]⟩) H
theorem ix_list : IxR X (rIxL X.K) := by
  intro value slice pins s σ H x y v u Q I rx ry h hs
  obtain ⟨p, xs, i, z, rfl, rfl, hq, he, q⟩ := h
  cases rx
  obtain ⟨t, rfl⟩ := ry
  obtain ⟨its, r, pl, hz⟩ := I.list hq
  obtain ⟨j, h1, h2, h3, h4, h5⟩ := atI_get he
  obtain ⟨w, ew, rw'⟩ := r.get h2
  have hl := r.length
  have hn := line63
  have fin : EP X pins σ Q w s := ⟨z, H, I, rw', q⟩
  by_cases h0 : 0 ≤ i
  · have hj : i.toNat = j := by
      rw [seqIndex_of h0 h5] at h1
      exact Option.some.inj h1
    exact item_listR pl.isList h0 (by omega) (by rw [hj]; simpa using ew) fin hs
  · have hj : (i + (its.toArray.size : Int)).toNat = j := by
      rw [seqIndex_neg (by omega) h4] at h1
      rw [List.size_toArray, ← hl]
      exact Option.some.inj h1
    exact subscriptTail_builtinR (x := w) pl.isList.typeIs slot_list_getitem.lookup
      (wpAny_getItem_list_neg (Q := fun r s' => r = w ∧ EP X pins σ Q r s') pl.isList (by omega) (by rw [List.size_toArray] <;> omega) (by omega) (by rw [hj]; simpa using ew) ⟨rfl, fin⟩) hs
theorem ix_tup : IxR X (rIxT X.K) := by
  intro value slice pins s σ H x y v u Q I rx ry h hs
  obtain ⟨p, xs, i, z, rfl, rfl, hq, he, q⟩ := h
  cases rx
  obtain ⟨t, rfl⟩ := ry
  obtain ⟨its, r, pl, hz⟩ := I.tuple hq
  obtain ⟨j, h1, h2, h3, h4, h5⟩ := atI_get he
  obtain ⟨w, ew, rw'⟩ := r.get h2
  have hl := r.length
  have hn := line63
  have fin : EP X pins σ Q w s := ⟨z, H, I, rw', q⟩
  exact subscriptTail_builtinR (x := w) pl.typeIs slot_tuple_getitem.lookup
    (getItem_tuple (j := j) (Q := fun r s' => r = w ∧ EP X pins σ Q r s') pl (by omega) (by omega) (by rw [List.size_toArray, ← hl]; exact h1) (by simpa using ew) ⟨rfl, fin⟩) hs
theorem ix_str : IxR X rIxS := by
  intro value slice pins s σ H x y v u Q I rx ry h hs
  obtain ⟨z, i, c, rfl, rfl, hz, he, q⟩ := h
  obtain ⟨t, rfl⟩ := rx
  obtain ⟨t', rfl⟩ := ry
  obtain ⟨j, h1, h2, h3, h4, h5⟩ := atI_get he
  have hl : z.cps.toList.length = z.length := by simp [Str.length]
  rw [hl] at h1 h4 h5
  have hn := line63
  exact tail_any (typeIs_str s z t) slot_str_getitem.lookup (getItem_str (c := c) (by
    have e1 : decide (i < -(2 ^ 63 : Int)) = false := decide_eq_false (by omega)
    have e2 : decide (i ≥ 2 ^ 63) = false := decide_eq_false (by omega)
    rw [e1, e2, Bool.or_false]) (by rw [h1]; simpa using h2) ⟨.str ⟨#[c]⟩, H, I.tok _, ⟨_, rfl⟩, q⟩) hs
noncomputable def rIx (K : PySem.W.Frag) : R2 := fun x y H Q => rIxL K x y H Q ∨ rIxT K x y H Q ∨ rIxS x y H Q
theorem ix_seq : IxR X (rIx X.K) := ix_list.or (ix_tup.or ix_str)

theorem Inv.lst {pins : List (Addr × Obj)} {σ : St} {H : Hp} {s : Shared} {p : Addr} {xs : List V} (I : Inv X pins σ H s) (h : H p = some (.lst xs)) :
    ∃ (its : List Value) (n : Nat), Vals xs its ∧ s.heap.get? p = some { cls := .type "list", data := .seq its.toArray n } ∧ xs.length ≤ sizeLine := by
  obtain ⟨z, its, n, r, e⟩ := I.hok p _ h
  exact ⟨its, n, r, e, z⟩
noncomputable def flatV : V → Bool
  | .non => true
  | .bl _ => true
  | .int _ => true
  | .str _ => true
  | _ => false
noncomputable def eqV : V → V → Bool
  | .non, .non => true
  | .bl a, .bl b => a == b
  | .bl a, .int b => (if a then 1 else 0) == b
  | .int a, .bl b => a == (if b then 1 else 0)
  | .int a, .int b => a == b
  | .str a, .str b => a == b
  | _, _ => false
theorem CallR.or {f : Value} {r r' : List V → Hp → VK → Prop} (h : CallR X f r) (h' : CallR X f r') : CallR X f (fun xs H Q => r xs H Q ∨ r' xs H Q) := by
  intro pins s σ H xs us Q I rs q
  rcases q with q | q
  · exact h pins s σ H xs us Q I rs q
  · exact h' pins s σ H xs us Q I rs q
theorem call_list_of : CallR X (.type "list") (fun xs H Q => ∃ p ys, xs = [.ref p] ∧ (SqL X.K H p ys ∨ SqT X.K H p ys) ∧ ∀ l, H l = none → Q (.ref l) (upd H l (.lst ys))) := by
  intro pins s σ H xs us Q I r h
  obtain ⟨p, ys, rfl, hq, q⟩ := h
  obtain ⟨u, rfl, rx⟩ := vals1 r
  cases rx
  have fin : ∀ (its : List Value), Vals ys its → ys.length ≤ sizeLine → ∀ (h' : Heap) (c' : Nat), (∀ b o', s.heap.get? b = some o' → h'.get? b = some o') →
      h'.get? s.heap.objs.size = some { cls := .type "list", dict := none, data := .seq its.toArray c', slots := #[] } → EP X pins σ Q (.ref s.heap.objs.size) { s with heap := h' } := fun its r' hz h' c' kp e =>
    ⟨.ref s.heap.objs.size, _, I.laid (t' := s.toks) kp (Nat.le_refl _) (show ObjOk X.prog X.w _ h' _ (.lst ys) from ⟨hz, its, c', r', e⟩), rfl, q _ (I.hok.fresh (Nat.le_refl _))⟩
  rcases hq with hq | hq
  · obtain ⟨its, r', pl, hz⟩ := I.list hq
    have hlen := r'.length
    obtain ⟨o, ho, hc, n, hd⟩ := pl.isList
    exact call_list_seq p (.inl rfl) ho hc hd (fun h' c' kp e => fin its r' hz h' c' kp e) (by simp only [List.size_toArray] <;> omega)
  · obtain ⟨its, r', pl, hz⟩ := I.tuple hq
    have hlen := r'.length
    obtain ⟨o, ho, hc, n, hd⟩ := pl
    exact call_list_seq p (.inr rfl) ho hc hd (fun h' c' kp e => fin its r' hz h' c' kp e) (by simp only [List.size_toArray] <;> omega)
noncomputable def tyV (K : PySem.W.Frag) (T : String) (x : V) (H : Hp) : Prop := match x with
  | .str _ => T = "str"
  | .int _ => T = "int"
  | .ref p => (T = "list" ∧ ∃ xs, SqL K H p xs) ∨ (T = "tuple" ∧ ∃ o, K.lookup p = some o ∧ o.cls = .type "tuple" ∧ o.dict = none) ∨
      (T = "dict" ∧ ((∃ kvs, H p = some (.dK kvs)) ∨ ∃ kvs, H p = some (.dT kvs))) ∨ (T = "set" ∧ ∃ S n, H p = some (.set S n))
  | _ => False
theorem tyV_is {pins : List (Addr × Obj)} {σ : St} {H : Hp} {s : Shared} {T : String} {x : V} {v : Value} (I : Inv X pins σ H s) (r : RelV x v) (ty : tyV X.K T x H) :
    s.TypeIs v T ∧ ∀ a, v = .ref a → ∃ ob, s.heap.get? a = some ob ∧ ob.dict = none := by
  cases x with
  | str z =>
    obtain ⟨t, rfl⟩ := r
    cases (show T = "str" from ty)
    exact ⟨typeIs_str s z t, fun _ e => nomatch e⟩
  | int i =>
    obtain ⟨t, rfl⟩ := r
    cases (show T = "int" from ty)
    exact ⟨typeIs_int s i t, fun _ e => nomatch e⟩
  | ref p =>
    cases r
    rcases ty with ⟨rfl, xs, hq⟩ | ⟨rfl, o, hk, hc, hd⟩ | ⟨rfl, hk⟩ | ⟨rfl, S, n, hk⟩
    · obtain ⟨its, _, pl, _⟩ := I.list hq
      refine ⟨pl.isList.typeIs, fun a e => ?_⟩
      cases e
      obtain ⟨o, n, e, c, hd, _⟩ := pl
      exact ⟨o, e, hd⟩
    · refine ⟨⟨o, I.kIn p o hk, hc⟩, fun a e => ?_⟩
      cases e
      exact ⟨o, I.kIn _ o hk, hd⟩
    · have z : ∃ o, s.heap.get? p = some o ∧ o.ExactDict := by
        rcases hk with ⟨kvs, hk⟩ | ⟨kvs, hk⟩
        · obtain ⟨_, _, _, _, o, _, _, e, ex, _⟩ := I.hok p _ hk
          exact ⟨o, e, ex⟩
        · obtain ⟨_, _, _, _, o, _, _, e, ex, _⟩ := I.hok p _ hk
          exact ⟨o, e, ex⟩
      obtain ⟨o, e, ex⟩ := z
      refine ⟨⟨o, e, ex.1⟩, fun a e2 => ?_⟩
      cases e2
      exact ⟨o, e, ex.2.1⟩
    · obtain ⟨o, _, _, _, e, ex, _⟩ := I.hok p _ hk
      refine ⟨⟨o, e, ex.1⟩, fun a e2 => ?_⟩
      cases e2
      exact ⟨o, e, ex.2.1⟩
  | _ => exact False.elim ty
noncomputable def tBM (K : PySem.W.Frag) (T : String) (r : V → List V → Hp → VK → Prop) (to : TE) (t : TA) : TE := fun σ H Q => to σ H fun x H1 => tyV K T x H1 ∧ t σ H1 fun xs H2 => r x xs H2 Q
variable {o e : Expr} {es : List Expr} {to : TE} {t : TA} {name : Str} {apos cpos : Pos} {T id : String} {r : V → List V → Hp → VK → Prop}
theorem pe_bm (pa : PlainAttrs T) (slot : Slot T name id) (hty : typeOf (.builtin id) = pure (.type "method_descriptor")) (hm : MtR X id r) (ho : PE X o to) (ha : PA X (e :: es) t)
    (hbase : attributeBase o name X.env (eval o X.env) = eval o X.env := by rfl)
    (hfew : ((backTo cpos (starEach (e :: es) X.env)).all (fun x => !x.1) && (backToKw cpos (keywordEach [] X.env)).all (fun x => x.1.isSome)
      && decide ((e :: es).length + ([] : List Keyword).length + (if ([] : List Keyword).isEmpty then 0 else 1) < 30)) = true := by rfl)
    (hline : (apos.endLine == cpos.line) = true := by rfl) (hs : starEach (e :: es) X.env = (false, eval e X.env) :: starEach es X.env := by rfl) (hplain : (backTo cpos (starEach es X.env)).any (·.1) = false := by rfl) :
    PE X (.Call (.Attribute o name apos) (e :: es) [] cpos) (tBM X.K T r to t) := by
  intro pins s σ H Q I h
  refine wpAny_Call_method_late hbase hfew hline rfl (thn (ho pins s σ H _ I h) fun v s1 ⟨x, H1, I1, r1, ty, q1⟩ => ?_)
  obtain ⟨h1, h2⟩ := tyV_is I1 r1 ty
  refine ⟨T, id, pa, slot, hty, h1, h2, ?_⟩
  have hA := ha cpos pins s1 σ H1 _ I1 q1
  rw [hs] at hA ⊢
  refine Calls.callWith_builtin (by show (false || (backTo cpos (starEach es X.env)).any (·.1)) = false; rw [hplain] <;> rfl) (Calls.evalArgs_plain ?_)
  exact thn hA fun us s2 ⟨vs, H2, I2, r2, q2⟩ => hm pins s2 σ H2 x vs v us Q I2 r1 r2 q2
/- xs.append(e), list.index on a module's tuple .. are MtR facts of 06m -/
end
end L2

namespace L2
open PySem PySem.Spec PyProof.Rows

noncomputable def MtM (X : Cx) (id : String) (r : V → List V → Hp → VK → Prop) : Prop :=
  ∀ (pins : List (Addr × Obj)) (s : Shared) (σ : St) (H : Hp) (x : V) (xs : List V) (v : Value) (us : List Value) (Q : VK), Inv X pins σ H s → RelV x v → Vals xs us → r x xs H Q →
    wpAny (model X.prog X.w) X.A (call (.builtin id) (v :: us)) (EP X pins σ Q) X.xe s

theorem Vals.one : ∀ {x : V} {us : List Value}, Vals [x] us → ∃ u, us = [u] ∧ RelV x u
  | _, _, .cons r .nil => ⟨_, rfl, r⟩
theorem Vals.zero : ∀ {us : List Value}, Vals [] us → us = []
  | _, .nil => rfl
theorem Vals.eraseIdx : ∀ {xs : List V} {us : List Value} (i : Nat), Vals xs us → Vals (xs.eraseIdx i) (us.eraseIdx i)
  | _, _, _, .nil => .nil
  | _, _, 0, .cons _ t => t
  | _, _, i + 1, .cons r t => .cons r (Vals.eraseIdx i t)
theorem Vals.reverse {xs : List V} {us : List Value} (h : Vals xs us) : Vals xs.reverse us.reverse := by
  induction h with
  | nil => exact .nil
  | cons r t ih => rw [List.reverse_cons, List.reverse_cons]; exact Vals.append ih (.cons r .nil)
section
variable {X : Cx} {pins : List (Addr × Obj)} {σ : St} {H : Hp} {s : Shared} {l b : Addr} {xs ys zs : List V}

theorem Inv.lset {its its' : List Value} {n : Nat} {f : Array Value → Array Value} {t' : Nat} (I : Inv X pins σ H s) (hH : H l = some (.lst xs))
    (e : s.heap.get? l = some { cls := .type "list", data := .seq its.toArray n }) (hf : f its.toArray = its'.toArray) (hv : Vals ys its') (hz : ys.length ≤ sizeLine) :
    Inv X pins σ (upd H l (.lst ys)) { s with heap := s.heap.update l (Obj.mapSeq f), toks := t' } := by
  have q := PySem.IsL.update e f
  rw [hf] at q
  refine I.write (x := l) (e := l) (by rw [hH]; exact trivial) (.inl rfl) (fun b' u hb hu => (Heap.get?_update_other s.heap (Obj.mapSeq f) (Ne.symm hb)).trans hu) ⟨_, q⟩ ?_
  exact ⟨hz, its', _, hv, q⟩
theorem Inv.fresh (I : Inv X pins σ H s) : H s.heap.objs.size = none := I.hok.fresh (Nat.le_refl _)
theorem Inv.lstM (I : Inv X pins σ H s) (hH : H l = some (.lst xs)) : xs.length ≤ sizeLine ∧ ∃ (its : List Value) (n : Nat), Vals xs its ∧ xs.length = its.length ∧ s.heap.get? l = some { cls := .type "list", data := .seq its.toArray n } := by
  obtain ⟨z, its, n, r, e⟩ := I.hok l _ hH
  exact ⟨z, its, n, r, r.length, e⟩

end

section
variable {X : Cx}

noncomputable def rAppend : V → List V → Hp → VK → Prop := fun x vs H Q => ∃ l xs y, x = .ref l ∧ vs = [y] ∧ H l = some (.lst xs) ∧ xs.length < sizeLine ∧ Q .non (upd H l (.lst (xs ++ [y])))
theorem mt_append : MtM X "list.append" rAppend := by
  intro pins s σ H x vs v us Q I rx rv h
  obtain ⟨l, xs, y, rfl, rfl, hH, hz, q⟩ := h
  cases rx
  obtain ⟨u, rfl, ru⟩ := rv.one
  obtain ⟨z, its, n, r, hl, e⟩ := I.lstM hH
  refine call_meets F.slot_list_append ⟨_, e, rfl⟩ F.entry_list_append (F.args_list_append_2 _ _) (PySem.list_append l its.toArray n u (by rw [List.size_toArray]; omega)) ⟨e, ?_⟩
  refine ⟨.non, _, I.lset (its' := its ++ [u]) hH e (by simp) (r.append (.cons ru .nil)) ?_, rfl, q⟩
  rw [List.length_append, List.length_singleton]
  omega

end

section
variable {prog : Program} {w : World} {A : Around} {E : Value → Shared → Prop} {s : Shared}
end

section
variable {X : Cx}
end
end L2

namespace Att
open PySem PySem.W PySem.Calls PyProof.Rows

theorem ints_of_wellAll {P : Params} {h : Heap} : ∀ (ns : List Int) (vs : List Value), WellAll P h vs (ns.map WData.int) → IntsAre vs ns := by
  intro ns
  induction ns with
  | nil =>
    intro vs w
    rw [List.map_nil] at w
    cases w
    exact .nil
  | cons n ns ih =>
    intro vs w
    rw [List.map_cons] at w
    cases w with
    | cons a b =>
      cases a
      exact .cons _ _ (ih _ b)

theorem script_of {l : OpenLaw} {n : Nat} (hn : l.most = some n) {P : Params} {h : Heap} {args : List WData} {vals : List Value}
    (hpre : l.row.toRowW.claim.pre args = true) (hwl : WellAll P h vals args) :
    ∃ a vs ns, vals = [Value.ref a] ∧ args = [WData.list (ns.map WData.int)] ∧ h.get? a = some { cls := .type "list", data := .seq vs.toArray } ∧ IntsAre vs ns ∧ ns.length ≤ n := by
  have hsh : WShape.hasAll [] args [.list .int] = true := (pre_splitW hpre).1
  have hc : l.pre.holds [] { args := args } = true := (pre_splitW hpre).2
  obtain ⟨d, r, rfl, h1, h2⟩ := hasAllW_cons hsh
  obtain rfl := hasAllW_nil h2
  obtain ⟨xs, rfl, h3⟩ := hasW_list h1
  obtain ⟨ns, rfl⟩ := items_int h3
  have hlen : ns.length ≤ n := by
    unfold OpenLaw.pre at hc
    have h4 : (WTm.not (.lt (.lit (.int (n : Int))) (.len (.arg 0)))).holds [] { args := [.list (ns.map .int)] } = true := by
      have h4 := (holds_andW hc).1
      rw [hn] at h4
      exact h4
    have h5 := condW_of h4 (w_not (w_lt w_lit (w_len_list (w_arg rfl))))
    rw [List.length_map] at h5
    refine Nat.le_of_not_lt fun q => ?_
    have q' : (n : Int) < ((ns.length : Nat) : Int) := by omega
    first
      | (rw [decide_eq_true q'] at h5; exact absurd h5 (by decide))
      | (simp at h5; omega)
  cases hwl with
  | cons w1 w2 =>
    cases w2
    cases w1 with
    | list ho hall => exact ⟨_, _, ns, rfl, rfl, ho, ints_of_wellAll ns _ hall, hlen⟩

theorem post_true (l : OpenLaw) (args : List WData) : l.row.toRowW.claim.post args (.bool true) args = true :=
  postW_of (r := l.row.toRowW) (X := (true == true))
    (show WShape.has [] (.bool true) .bool = true by first | rfl | decide | simp [WShape.has, WShape.arms, WShape.armsAll])
    (show (WTm.eq .res (.lit (.bool true))).value [] { args := args, res := some (.bool true), after := args } = some (.bool (true == true)) from w_eq_bool (w_res rfl) w_lit) rfl

theorem attach_call {l : OpenLaw} {n : Nat} {q : Program} {loose : List Str} {XP : (Str → Option Value) → Heap → Prop} {YP : World → Heap → Prop} {d : DefRec}
    (hn : l.most = some n) (hdf : d.params.defaults = [])
    (call : ∀ (w : World) (s₀ s₁ : Shared) (mg mb : Str → Option Value) (fa : Addr) (o : Obj) (pm cd doc : Value) (a : Addr) (vs : List Value) (ns : List Int),
      Ground q loose [] XP w s₀ mg mb s₁.heap → YP w s₁.heap →
      s₁.heap.get? fa = some o → o.data = .func (docDef d.name d.params d.body d.scope pm cd doc) → s₁.heap.CodeRec cd d.name → mg d.name = some (.ref fa) →
      s₁.heap.get? a = some { cls := .type "list", data := .seq vs.toArray } → IntsAre vs ns → ns.length ≤ n → s₁.gens = #[] →
      codeAny (model l.prog w) callerA (.call (.ref fa) ⟨[.ref a], []⟩) (fun r s' => r = .ok (.ret (.bool true)) ∧ OldK s₁.heap s'.heap ∧ s'.os = s₁.os ∧ AllBare s'.gens) s₁) :
    WalkO q loose XP YP l.row.toRowW d [] (fun f vs => PySem.call f vs) := by
  intro w s₀ s₁ mg mb G Y fa o pm cd doc dV kV ho hd hcd hD hmg hg args vals as hpre hlay hrd hwl hlo
  obtain rfl : dV = .none := Dflts.none hD hdf
  obtain rfl : kV = .none := Dflts.noKw hD
  obtain ⟨a, vs, ns, rfl, rfl, hobj, hints, hlen⟩ := script_of hn hpre hwl
  refine enter_call (codeAny_mono (call w s₀ s₁ mg mb fa o pm cd doc a vs ns G Y ho (fd_plain hd) hcd hmg hobj hints hlen hg) fun r s' hq => ?_)
  obtain ⟨rfl, h2, h3, h4⟩ := hq
  exact ⟨.inl ⟨.bool true, .bool true, [], rfl, fun _ => rfl, .bool true, post_true l _, fun _ => ⟨List.Pairwise.nil, fun _ hm => (nomatch hm)⟩⟩, h2, h3, h4⟩

section
variable {prog : Program} {w : World} {A : Around} {E : Value → Shared → Prop} {s : Shared} {K : Frag}

end
end Att

namespace L2
open PySem PySem.Spec PyProof.Rows

theorem vals_ints : ∀ {vs : List Value} {ns : List Int}, IntsAre vs ns → Vals (ns.map V.int) vs
  | _, _, .nil => .nil
  | _, _, .cons n t h => .cons ⟨t, rfl⟩ (vals_ints h)

noncomputable def Only (H : Hp) : Prop := ∀ b, H b = none ∨ ∃ o xs, H b = some (.frz o (.lst xs))

theorem law_call {P : Program} {w : World} {K : PySem.W.Frag} {mg mb : Str → Option Value} {CX : CXT} {k : Nat} {fa a : Addr} {fd : FuncData} {x : Str} {sp : Sp} {s₁ : Shared} {vs : List Value} {ns : List Int}
    (KX : K.In s₁.heap) (hns : s₁.heap.Ns mainGlobals mg) (hb : s₁.heap.Ns builtinsNs mb) (hbb : ∀ x : Str, x ≠ "__name__" → mb x = bootBuiltins x) (hlim : s₁.heap.NoLimit) (hg : s₁.gens = #[])
    (ha : s₁.heap.get? a = some { cls := .type "list", data := .seq vs.toArray }) (hi : IntsAre vs ns) (hl : ns.length ≤ sizeLine) (hr : Room k callerA)
    (F : ∀ base : Heap, K.In base → base.Ns mainGlobals mg → FnOk P w K mg base CX k fa fd [x] sp) (hbind : ∀ (s : Shared) (u : Value), BindsTo s fd ⟨[u], []⟩ [(x, u)])
    (hsp : ∀ H : Hp, Only H → SqL K H a (ns.map V.int) → sp [.ref a] H (fun v _ => v = .bl true) fun _ _ _ => False)
    (hCX : ∀ H e s', CX [] H s₁ (fun _ _ _ => False) e s' → False) :
    codeAny (model P w) callerA (.call (.ref fa) ⟨[.ref a], []⟩) (fun r s' => r = .ok (.ret (.bool true)) ∧ OldK s₁.heap s'.heap ∧ s'.os = s₁.os ∧ AllBare s'.gens) s₁ := by
  have rv := vals_ints hi
  have lenV := hi.length
  -- from an abstract heap in which nothing but the script may be tracked
  have core : ∀ H : Hp, Only H → SqL K H a (ns.map V.int) → HOk P w H s₁.heap → (∀ b, H b ≠ none → b = a) → (H a ≠ none → K.lookup a = none) →
      codeAny (model P w) callerA (.call (.ref fa) ⟨[.ref a], []⟩) (fun r s' => r = .ok (.ret (.bool true)) ∧ OldK s₁.heap s'.heap ∧ s'.os = s₁.os ∧ AllBare s'.gens) s₁ := by
    intro H hO hS hok hA hK
    have base_of : ∀ {b : Addr} {o : Obj}, s₁.heap.get? b = some o → H b = none → (hidT s₁.heap H).get? b = some o := fun e n => hidT_get e n
    have noA : ∀ {b : Addr} {o : Obj} {es : Array DictEntry} {ep : Nat}, s₁.heap.get? b = some o → o.data = .dict es ep → H b = none := fun {b o es ep} e d => by
      cases q : H b with
      | none => rfl
      | some u =>
        have e' : b = a := hA b (by rw [q]; simp)
        subst e'
        rw [ha] at e; cases e
        have d' : Data.seq vs.toArray _ = Data.dict es ep := d
        cases d'
    have nsK : ∀ {b : Addr} {m : Str → Option Value}, s₁.heap.Ns b m → (hidT s₁.heap H).Ns b m := fun {b m} ⟨o, es, ep, e, d, r⟩ => ⟨o, es, ep, base_of e (noA e d), d, r⟩
    have hKb : K.In (hidT s₁.heap H) := fun b o e => base_of (KX b o e) (by
      cases q : H b with
      | none => rfl
      | some u =>
        have e' : b = a := hA b (by rw [q]; simp)
        subst e'
        rw [hK (by rw [q]; simp)] at e; cases e)
    have hM : Mod K mg (hidT s₁.heap H) := ⟨hKb, nsK hns, ⟨mb, nsK hb, hbb⟩, let ⟨mc, h1, h2⟩ := hlim; ⟨mc, nsK h1, h2⟩⟩
    have e0 : Env0 P w K mg (hidT s₁.heap H) callerA [] s₁ H := ⟨rfl, hM, fun b o e => of_hidT e, Nat.le_of_eq (hidT_size _ _), trivial, fun b hb => absurd (show b ∈ ([] : List Addr) from hb) (by simp), hok, .of_eq hg⟩
    refine codeAny_mono ((F _ hKb (nsK hns)).run callerA [] s₁ H ⟨[.ref a], []⟩ [.ref a] [.ref a] _ _ hr e0 (hbind s₁ (.ref a)) (.cons rfl .nil) (hsp H hO hS)) fun r s' h => ?_
    cases r with
    | error e => exact (hCX H e s' h).elim
    | ok fl =>
      cases fl with
      | next => exact False.elim h
      | brk => exact False.elim h
      | cont => exact False.elim h
      | ret u =>
        obtain ⟨v, H', os, bare, un, hok', r', q⟩ := h
        have q' : v = .bl true := q
        subst q'
        obtain rfl : u = Value.bool true := r'
        refine ⟨rfl, OldK.of_keep fun b o e => ?_, os, bare⟩
        cases q : H b with
        | none => exact un.keep b o e q (by intro z; exact absurd (show b ∈ ([] : List Addr) from z) (by simp)) (by simp)
        | some u =>
          rcases hO b with z | ⟨ob, xs, z⟩
          · rw [q] at z; cases z
          · have z2 := un.frzs b ob _ z
            obtain ⟨e1, _⟩ := hok b _ z
            obtain ⟨e2, _⟩ := hok' b _ z2
            rw [e] at e1; cases e1
            exact e2
  cases hk : K.lookup a with
  | some o =>
    -- the script is one of the module's own objects
    have e := KX a o hk
    rw [ha] at e
    cases e
    refine core (fun _ => none) (fun _ => .inl rfl) (.inr ⟨_, vs.toArray, _, hk, rfl, rfl, rfl, by rw [List.size_toArray, lenV]; exact hl, by simpa using rv⟩) (fun b u z => by have z' : (none : Option HO) = some u := z; cases z') (fun b z => absurd rfl z) fun z => absurd rfl z
  | none =>
    refine core (fun b => if b = a then some (.frz { cls := .type "list", data := .seq vs.toArray } (.lst (ns.map V.int))) else none) (fun b => ?_) (.inl (.inr ⟨{ cls := .type "list", data := .seq vs.toArray }, if_pos rfl⟩)) (fun b u z => ?_) (fun b z => ?_) fun _ => hk
    · by_cases hb : b = a
      · exact .inr ⟨_, _, if_pos hb⟩
      · exact .inl (if_neg hb)
    · by_cases hb : b = a
      · have z' := (if_pos hb).symm.trans z
        cases z'
        subst hb
        exact ⟨ha, by rw [List.length_map]; exact hl, vs, _, rv, ha⟩
      · have z' := (if_neg hb).symm.trans z
        cases z'
    · by_cases hb : b = a
      · exact hb
      · exact absurd (if_neg hb) z
end L2

namespace L2
open PySem PySem.Spec PyProof.Rows

theorem walk_of {l : PySem.W.OpenLaw} {n k : Nat} {q : Program} {loose : List Str} {XP : (Str → Option Value) → Heap → Prop} {YP : World → Heap → Prop} {d : DefRec} {K : Params → PySem.W.Frag} {CX : World → CXT} {sp : World → Sp} {x : Str}
    (hn : l.most = some n) (hn2 : n ≤ sizeLine) (hdf : d.params.defaults = []) (hr : Room k callerA)
    (hY : ∀ (w : World) (h : Heap), YP w h → (K w.params).In h)
    (F : ∀ (w : World) (mg : Str → Option Value) (fa : Addr) (h : Heap), (K w.params).In h → h.Ns mainGlobals mg → mg d.name = some (.ref fa) →
      ∃ fd : FuncData, (∀ (s : Shared) (u : Value), BindsTo s fd ⟨[u], []⟩ [(x, u)]) ∧
        ∀ base : Heap, (K w.params).In base → base.Ns mainGlobals mg → FnOk l.prog w (K w.params) mg base (CX w) k fa fd [x] (sp w))
    (hsp : ∀ (w : World) (H : Hp) (a : Addr) (ns : List Int), ns.length ≤ n → Only H → SqL (K w.params) H a (ns.map V.int) → sp w [.ref a] H (fun v _ => v = .bl true) fun _ _ _ => False)
    (hCX : ∀ (w : World) (H : Hp) (s : Shared) (e : Value) (s' : Shared), CX w [] H s (fun _ _ _ => False) e s' → False) :
    PySem.W.WalkO q loose XP YP l.row.toRowW d [] (fun f vs => PySem.call f vs) := by
  refine Att.attach_call hn hdf fun w s₀ s₁ mg mb fa o pm cd doc a vs ns G Y ho hd hcd hmg hobj hints hlen hg => ?_
  have KX := hY w _ Y
  obtain ⟨fd, hb, hF⟩ := F w mg fa _ KX G.T.g hmg
  exact law_call KX G.T.g G.T.b G.T.builtins G.T.nolimit hg hobj hints (Nat.le_trans hlen hn2) hr hF hb (fun H hO hS => hsp w H a ns hlen hO hS) fun H e s' => hCX w H s₁ e s'
end L2

/- THE LAST THEOREM (shape; LID, My.* are yours):
   My.Adr: a structure of the addresses that your layer names (classes, functions); My.Txt K t: a structure (Prop) of the equations over K;
   My.txt_mk : {K} {implicit addresses ..} (e1 : nsIn K mainGlobals "law" = some (some (.ref f))) (e2 : K.lookup f = some ⟨oc, od, .func (fnOf "law" "law" params body scope dV kV doc pm an cdv ct), sl⟩) (e3 : codeIn K cdv "law" = true) .. : ∃ t, My.Txt K t

set_option maxRecDepth 100000 in
set_option maxHeartbeats 0 in
theorem PySem.Challenge.cw_LID_holds : PySem.Challenge.rw_LID.Holds := by
  w_on; o_law; k_head; (case hw => w_witness2)
  k_fill
  refine L2.walk_of (l := PySem.Challenge.rw_LID) (n := 63) (k := 40) (x := "script") (CX := fun w => ..) (sp := fun _ => My.sp_law) rfl (by decide) rfl ⟨rfl, by decide, by decide⟩ (fun w h Y => PySem.W.kIn_of Y) ?F ?S ?C
  case F =>
    intro w mg fa h KX G hmg
    have T : ∃ t, My.Txt (L2.KOf KX) t := by
      dsimp only [L2.KOf]                          -- K must stand as «<heap const> w.params» for k_is
      refine' My.txt_mk ?e1 ?e2 ?e3 ..
      (case e1 => PySem.W.k_is)                    -- in the order: a name -> its address -> its object -> its parts
      (case e2 => PySem.W.k_is)
      ..
    obtain ⟨t, T⟩ := T
    have e0 := hmg.symm.trans (PySem.W.mg_of KX G T.law)
    cases e0                                       -- fa is the law's own address
    exact ⟨_, fun s u => .of_eq rfl, fun base kb nb => My.law_fn T kb nb⟩     -- if «.of_eq rfl» comes too early: refine' ⟨_, ?b, fun base kb nb => My.law_fn T kb nb⟩; exact fun s u => .of_eq rfl
  case S => exact fun w H a ns hl hO hS => ..
  case C => exact ..
(the tactic k_is has no namespace: write k_is) -/

namespace L2
open PySem PySem.Spec PyProof.Rows

noncomputable def defArgs (s : Stmt) : Arguments := match s with
  | .FunctionDef _ a _ _ _ _ _ _ _ _ => a
  | _ => { posonlyargs := [], args := [], vararg := none, kwonlyargs := [], kw_defaults := [], kwarg := none, defaults := [] }
noncomputable def defBody (s : Stmt) : List Stmt := match s with
  | .FunctionDef _ _ b _ _ _ _ _ _ _ => b
  | _ => []
noncomputable def defScope (s : Stmt) : Scope := match s with
  | .FunctionDef _ _ _ _ _ _ sc _ _ _ => sc
  | _ => { kind := .function, names := [], isGenerator := false, isCoroutine := false }

noncomputable abbrev CX0 : CXT := fun _ _ _ _ _ _ => False
noncomputable abbrev E0 : XK := fun _ _ _ => False
theorem pass0 {X : Cx} : Passes CX0 X E0 := fun _ _ _ _ _ _ _ h => h.elim

structure Fun (K : PySem.W.Frag) (x qual : Str) (st : Stmt) (f : Addr) (fd : FuncData) : Prop where
  ex : ∃ (oc : Value) (od : Option Addr) (kV doc pm : Value) (an : Option Addr) (cdv ct : Value) (osl : Array (Option Value)),
    fd = PySem.W.fnOf x qual (defArgs st) (defBody st) (defScope st) .none kV doc pm an cdv ct ∧ K.lookup f = some ⟨oc, od, .func fd, osl⟩ ∧ PySem.W.codeIn K cdv qual = true
  kp : PySem.W.keepIn K (.ref f) = true
section
variable {P : Program} {w : World} {K : PySem.W.Frag} {mg : Str → Option Value} {base : Heap}
theorem Fun.ok {x qual : Str} {st : Stmt} {f : Addr} {fd : FuncData} {N ps : List Str} {k : Nat} {sp : Sp} (F : Fun K x qual st f fd) (S : FnScope N ps (defScope st)) (len : ∀ vs H Q E, sp vs H Q E → vs.length = ps.length)
    (hbody : ∀ (cdv : Value) (A : Around) (outer : List Env) (s : Shared) (H : Hp) (vs : List V) (Q : VK) (E : XK), Room k (A.deeper (envOfC qual (defScope st) s.heap.objs.size f cdv)) → sp vs H Q E →
      ∃ t, PSs (cxOf CX0 P w K mg base N qual (defScope st) f cdv A outer s H E).nox (defBody st) t ∧ t { nx := fun _ H' => Q .non H', rt := Q } (start N vs) H) : FnOk P w K mg base CX0 (k + 1) f fd ps sp := by
  obtain ⟨oc, od, kV, doc, pm, an, cdv, ct, osl, rfl, lk, hcd⟩ := F.ex
  refine fn_of lk hcd S len fun A outer s H vs Q E hr hsp => ?_
  obtain ⟨t, h, q⟩ := hbody cdv A outer s H vs Q E hr hsp
  exact ⟨t, h.nox, q⟩
theorem Fun.binds {x qual : Str} {st : Stmt} {f : Addr} {fd : FuncData} {ps : List Str} (F : Fun K x qual st f fd)
    (h : ∀ (kV doc pm : Value) (an : Option Addr) (cdv ct : Value) (us : List Value), us.length = ps.length → bindArgs (PySem.W.fnOf x qual (defArgs st) (defBody st) (defScope st) .none kV doc pm an cdv ct) ⟨us, []⟩ = pure (ps.zip us)) : Binds K fd ps [] := by
  obtain ⟨oc, od, kV, doc, pm, an, cdv, ct, osl, rfl, lk, hcd⟩ := F.ex
  exact .all (h kV doc pm an cdv ct)
theorem fun_mk {x qual : Str} {st : Stmt} {f : Addr} {oc : Value} {od an : Option Addr} {osl : Array (Option Value)} {kV doc pm cdv ct : Value} (l : K.lookup f = some ⟨oc, od, .func (PySem.W.fnOf x qual (defArgs st) (defBody st) (defScope st) .none kV doc pm an cdv ct), osl⟩)
    (c : PySem.W.codeIn K cdv qual = true) (k : PySem.W.keepIn K (.ref f) = true) : Fun K x qual st f (PySem.W.fnOf x qual (defArgs st) (defBody st) (defScope st) .none kV doc pm an cdv ct) := ⟨⟨oc, od, kV, doc, pm, an, cdv, ct, osl, rfl, l, c⟩, k⟩
end
theorem hu_of {A : Around} {k : Nat} (hr : Room k A) : A.units + 1 < cLine := Nat.lt_of_le_of_lt (Nat.add_le_add_left (by decide : 1 ≤ 64) _) hr.units
theorem small1000 {n : Nat} (h : n ≤ 1000) : n < sizeLine := Nat.lt_of_le_of_lt h (by decide)

section
variable {X : Cx}
theorem pv (i : Nat) {x : Str} {pos : Pos} (hN : X.N[i]? = some x := by rfl) (hv : Vis X.env.scope x := by first | exact Or.inl rfl | exact Or.inr (Or.inl rfl) | exact Or.inr (Or.inr rfl)) (hd : (x == ("__debug__" : Str)) = false := by decide)
    (hcd : (x == ("__classdict__" : Str)) = false := by decide) : PE X (.Name x pos) (tVar i) := pe_var hN hv hd hcd
end

theorem ite2 {c A B : Prop} [Decidable c] (h1 : c → A) (h2 : ¬ c → B) : if c then A else B := by
  by_cases h : c
  · rw [if_pos h]
    exact h1 h
  · rw [if_neg h]
    exact h2 h
noncomputable def Same (H H' : Hp) : Prop := ∀ b o, H b = some o → H' b = some o
theorem Same.refl (H : Hp) : Same H H := fun _ _ h => h
theorem Same.trans {H H1 H2 : Hp} (a : Same H H1) (b : Same H1 H2) : Same H H2 := fun c o h => b c o (a c o h)
theorem Same.free {H H' : Hp} (e : Same H H') {l : Addr} (h : H' l = Option.none) : H l = Option.none := by
  cases q : H l with
  | none => rfl
  | some o =>
    rw [e l o q] at h
    cases h
theorem Same.seq {K : PySem.W.Frag} {H H' : Hp} {a : Addr} {xs : List V} (e : Same H H') (h : SqL K H a xs) : SqL K H' a xs := by
  rcases h with (h | ⟨o, h⟩) | h
  · exact .inl (.inl (e _ _ h))
  · exact .inl (.inr ⟨o, e _ _ h⟩)
  · exact .inr h

end L2

set_option maxHeartbeats 4000000

namespace Mth
noncomputable def sub (l m : List Bool) : Bool := (List.range l.length).all fun i => !l.getD i false || m.getD i false
end Mth

namespace Mth
noncomputable def pl (W : Nat) (c : Int × Int) : Nat := c.2.toNat * W + c.1.toNat
noncomputable def cellOf (W : Nat) (i : Nat) : Int × Int := (((i % W : Nat) : Int), ((i / W : Nat) : Int))
structure InR (W H : Nat) (c : Int × Int) : Prop where
  c0 : 0 ≤ c.1
  c1 : c.1 < W
  r0 : 0 ≤ c.2
  r1 : c.2 < H
end Mth

namespace L2
open PySem PySem.Spec PyProof.Rows

theorem closure_go {env : Env} : ∀ (names : List (Str × NameKind)) (cs : List (Str × Addr)), (∀ x ∈ names, x.2 = .free → ∃ c, env.cells.lookup x.1 = some c) →
    (∀ x c, cs.lookup x = some c → env.cells.lookup x = some c) →
    ∃ cl, (forIn names cs fun x s => if (x.snd == NameKind.free) = true then do let d ← cellOf env x.fst; pure (ForInStep.yield ((x.fst, d) :: s)) else pure (ForInStep.yield s) : Sem _) = pure cl ∧
      (∀ x c, cl.lookup x = some c → env.cells.lookup x = some c) ∧ (∀ x c, cs.lookup x = some c → cl.lookup x = some c) ∧ ∀ x, (x, NameKind.free) ∈ names → ∃ c, cl.lookup x = some c
  | [], cs, _, h2 => ⟨cs, rfl, h2, fun _ _ e => e, fun _ h => nomatch h⟩
  | (n, k) :: r, cs, h1, h2 => by
    rw [List.forIn_cons]
    by_cases hk : k = .free
    · subst hk
      obtain ⟨c, hc⟩ := h1 (n, .free) List.mem_cons_self rfl
      have ec : cellOf env n = pure c := by unfold cellOf; simp only [hc]
      obtain ⟨cl, e, p1, p2, p3⟩ := closure_go r ((n, c) :: cs) (fun x hx => h1 x (List.mem_cons_of_mem _ hx)) (fun x d e => by
        rw [List.lookup_cons] at e
        by_cases hx : x = n
        · subst hx; simp at e; subst e; exact hc
        · have hb : (x == n) = false := beq_eq_false_iff_ne.mpr hx
          rw [hb] at e; exact h2 x d e)
      refine ⟨cl, ?_, p1, fun x d e' => ?_, fun x hx => ?_⟩
      · simp only [beq_self_eq_true, if_true, ec]
        exact e
      · by_cases hx : x = n
        · subst hx
          have := h2 _ _ e'
          rw [hc] at this; cases this
          exact p2 x c (by simp)
        · have hb : (x == n) = false := beq_eq_false_iff_ne.mpr hx
          exact p2 x d (by rw [List.lookup_cons, hb]; exact e')
      · rcases List.mem_cons.mp hx with e | hx
        · cases e; exact ⟨c, p2 n c (by simp)⟩
        · exact p3 x hx
    · obtain ⟨cl, e, p1, p2, p3⟩ := closure_go r cs (fun x hx => h1 x (List.mem_cons_of_mem _ hx)) h2
      have hb : (k == NameKind.free) = false := by simpa using hk
      refine ⟨cl, ?_, p1, p2, fun x hx => ?_⟩
      · simp only [hb, Bool.false_eq_true, if_false]
        exact e
      · rcases List.mem_cons.mp hx with e | hx
        · cases e; exact absurd rfl hk
        · exact p3 x hx
theorem closure_of {scope : Scope} {env : Env} (h : ∀ x ∈ scope.names, x.2 = .free → ∃ c, env.cells.lookup x.1 = some c) : ∃ cl, closureFor scope env = pure cl ∧
    (∀ x c, cl.lookup x = some c → env.cells.lookup x = some c) ∧ ∀ x, (x, NameKind.free) ∈ scope.names → ∃ c, cl.lookup x = some c := by
  obtain ⟨cl, e, p1, _, p3⟩ := closure_go scope.names [] h (fun _ _ e => nomatch e)
  refine ⟨cl, ?_, p1, p3⟩
  simp only [closureFor]
  rw [e]
  rfl

noncomputable abbrev relab (env : Env) (x : Str × NameKind) : Str × NameKind := if (x.2 == NameKind.free && env.scope.kind == .function && env.kindOf x.1 == some .cell) = true then (x.1, NameKind.cell) else x
theorem relab_fst (env : Env) (x : Str × NameKind) : (relab env x).1 = x.1 := by unfold relab; split <;> rfl
theorem lookup_relab {env : Env} : ∀ (names : List (Str × NameKind)) (x : Str), (names.map (relab env)).lookup x = (names.lookup x).map fun k => (relab env (x, k)).2
  | [], x => rfl
  | (n, k) :: r, x => by
    rw [List.map_cons]
    have e1 : relab env (n, k) = (n, (relab env (n, k)).2) := by
      have := relab_fst env (n, k)
      cases h : relab env (n, k) with
      | mk a b => rw [h] at this; cases this; rfl
    rw [e1, List.lookup_cons, List.lookup_cons, lookup_relab r x]
    by_cases hx : x = n
    · subst hx; simp
    · have hb : (x == n) = false := beq_eq_false_iff_ne.mpr hx
      rw [hb]
theorem relabel_names (scope : Scope) (env : Env) : (relabel scope env).names = scope.names.map (relab env) := by
  unfold relabel
  show List.map _ _ = _
  refine List.map_congr_left fun x _ => ?_
  obtain ⟨n, k⟩ := x
  rfl
theorem relabel_lookup (scope : Scope) (env : Env) (x : Str) : (relabel scope env).names.lookup x = (scope.names.lookup x).map fun k => (relab env (x, k)).2 := by
  rw [relabel_names, lookup_relab]
theorem relabel_keep {scope : Scope} {env : Env} {x : Str} {k : NameKind} (hk : k ≠ .free) (h : scope.names.lookup x = some k) : (relabel scope env).names.lookup x = some k := by
  rw [relabel_lookup, h]
  simp [relab, hk]
theorem relabel_free {scope : Scope} {env : Env} {x : Str} (h : scope.names.lookup x = some .free) : (relabel scope env).names.lookup x = some .cell ∨ (relabel scope env).names.lookup x = some .free := by
  rw [relabel_lookup, h]
  simp only [Option.map_some, relab]
  split
  · exact .inl rfl
  · exact .inr rfl
theorem relabel_of {scope : Scope} {env : Env} {x : Str} (h0 : scope.names.lookup x ≠ some .cell) (h : (relabel scope env).names.lookup x = some .cell ∨ (relabel scope env).names.lookup x = some .free) : scope.names.lookup x = some .free := by
  rw [relabel_lookup] at h
  cases e : scope.names.lookup x with
  | none => rw [e] at h; simp at h
  | some k =>
    by_cases hk : k = .free
    · rw [hk]
    · rw [e] at h
      simp [relab, hk] at h
      subst h
      exact absurd e h0
theorem lookup_mem {β : Type} : ∀ {l : List (Str × β)} {x : Str} {v : β}, l.lookup x = some v → (x, v) ∈ l
  | [], _, _, h => nomatch h
  | (n, k) :: r, x, v, h => by
    rw [List.lookup_cons] at h
    by_cases hx : x = n
    · subst hx; simp at h; subst h; exact List.mem_cons_self
    · have hb : (x == n) = false := beq_eq_false_iff_ne.mpr hx
      rw [hb] at h
      exact List.mem_cons_of_mem _ (lookup_mem h)

noncomputable abbrev Cx.comp (X : Cx) (N : List Str) (scope : Scope) (cl : List (Str × Addr)) (C : Addr) (s2 : Shared) (H2 : Hp) (fp : List Addr) : Cx where
  prog := X.prog
  w := X.w
  K := X.K
  mg := X.mg
  base := X.base
  A := X.A
  N := N
  s₀ := s2
  H₀ := H2
  env := compEnvC scope cl C X.env
  outer := X.stack
  stack := X.stack
  ex := fp
  fn := fun _ => false
  calm := X.calm
  pn := []
  xe := fun _ _ => False
noncomputable def compOk (XN N : List Str) (xs scope : Scope) (fr : List (Option Nat)) : Bool :=
  decide (fr.length = N.length) && (scope.kind == .function) && (scope.names.all fun x => !(x.2 == .cell)) && (scope.names.all fun x => !(x.2 == .local) || scope.names.lookup x.1 == some .local) &&
  (scope.names.all fun x => !(x.2 == .free) || (xs.names.lookup x.1 == some .cell || xs.names.lookup x.1 == some .free)) &&
  (List.range N.length).all fun j => match fr[j]?, N[j]? with
    | some (some i), some x => decide (XN[i]? = some x) && (scope.names.lookup x == some .free)
    | _, _ => true
theorem compOk_spec {XN N : List Str} {xs scope : Scope} {fr : List (Option Nat)} (h : compOk XN N xs scope fr = true) :
    fr.length = N.length ∧ scope.kind = .function ∧ (∀ x ∈ scope.names, x.2 ≠ .cell) ∧ (∀ x ∈ scope.names, x.2 = .local → scope.names.lookup x.1 = some .local) ∧
    (∀ x ∈ scope.names, x.2 = .free → xs.names.lookup x.1 = some .cell ∨ xs.names.lookup x.1 = some .free) ∧
    ∀ (j i : Nat) (x : Str), fr[j]? = some (some i) → N[j]? = some x → XN[i]? = some x ∧ scope.names.lookup x = some .free := by
  unfold compOk at h
  simp only [Bool.and_eq_true, decide_eq_true_eq, List.all_eq_true] at h
  obtain ⟨⟨⟨⟨⟨h1, h2⟩, h3⟩, h4⟩, h5⟩, h6⟩ := h
  refine ⟨h1, by simpa using h2, fun x hx => by simpa using h3 x hx, fun x hx e => ?_, fun x hx e => ?_, fun j i x e1 e2 => ?_⟩
  · have := h4 x hx
    simp [e] at this
    exact this
  · have := h5 x hx
    simp [e] at this
    exact this
  · have hj : j < N.length := (List.getElem?_eq_some_iff.mp e2).1
    have := h6 j (List.mem_range.mpr hj)
    rw [e1, e2] at this
    simpa using this
noncomputable def frσ (fr : List (Option Nat)) (σ : St) : St := fr.map fun o => match o with
  | some i => match σ[i]? with
    | some v => v
    | none => none
  | none => none
theorem frσ_get {fr : List (Option Nat)} {σ : St} {j : Nat} {v : V} (h : (frσ fr σ)[j]? = some (some v)) : ∃ i, fr[j]? = some (some i) ∧ σ[i]? = some (some v) := by
  unfold frσ at h
  rw [List.getElem?_map] at h
  cases e : fr[j]? with
  | none => rw [e] at h; cases h
  | some o =>
    rw [e] at h
    cases o with
    | none => cases h
    | some i =>
      simp only [Option.map_some] at h
      cases e2 : σ[i]? with
      | none => rw [e2] at h; cases h
      | some w => rw [e2] at h; exact ⟨i, rfl, by simpa [e2] using h⟩

noncomputable def PIfs (X : Cx) (ifs : List Expr) (t : TT) : Prop :=
  ∀ (pins : List (Addr × Obj)) (s : Shared) (σ : St) (H : Hp) (Q : Bool → Hp → Prop), Inv X pins σ H s → t σ H Q →
    wpAny (model X.prog X.w) X.A (forIn ifs true fun c r => if r = true then do let ok ← isTrue c X.env (eval c X.env); pure (ForInStep.yield ok) else pure (ForInStep.yield r)) (TP X pins σ Q) X.xe s
noncomputable def tYes : TT := fun _ H Q => Q true H
theorem pf_nil {X : Cx} : PIfs X [] tYes := fun _ _ _ H _ I h => wpAny_tests_nil ⟨H, I, h⟩
theorem pf_one {X : Cx} {c : Expr} {t : TT} (h : PT X c t) : PIfs X [c] t := fun pins s σ H Q I hw => wpAny_tests_one (h pins s σ H Q I hw)

noncomputable def tEmit (D : Addr) (tc : TT) (te : TE) : TS := fun E σ H => tc σ H fun b H1 => if b = true then te σ H1 fun v H2 => ∃ ys, H2 D = some (.lst ys) ∧ ys.length < sizeLine ∧ E.nx σ (upd H2 D (.lst (ys ++ [v]))) else E.nx σ H1
noncomputable def endC (Q : VK) (D : Addr) : Ends := { nx := fun _ H => Q (.ref D) H, rt := fun _ _ => False }
noncomputable def tComp (wi : TI) (fr : List (Option Nat)) (g : TG) (tc : TT) (te : TE) : TE := fun σ H Q => wi σ H fun J H1 => ∀ D, H1 D = none → ∃ W : Nat → Nat → St → Hp → Prop, (∃ m, W 0 m (frσ fr σ) (upd H1 D (.lst []))) ∧ ∀ i m σ H, W i m σ H →
  (J.stop i H ∧ (endC Q D).nx σ H) ∨ (J.go i H ∧ ∃ N : St → Hp → Prop, (∀ σ' H', N σ' H' → ∃ m', m' < m ∧ W (i + 1) m' σ' H') ∧ ∀ x H', J.yld i H x H' → g x σ H' fun σ2 H2 => tEmit D tc te { endC Q D with nx := N, ct := N, bk := (endC Q D).nx } σ2 H2)

section
variable {prog : Program} {w : World} {A : Around} {R : Result → Shared → Prop} {s : Shared}
theorem comp_loop {elt target iter : Expr} {ifs : List Expr} {scope : Scope} {pos : Pos} {it acc : Value} {env : Env} (I : Nat → Shared → Prop)
    (turn : ∀ n s, I n s → wpAny (model prog w) A (pyNext it) (fun r s₁ => match r with
      | none => R (.ok .next) s₁
      | some v => wpAny (model prog w) A (letOwnedTupleGo target it v) (fun _ s₁ => wpAny (model prog w) A (assign target env v) (fun _ s₂ =>
          wpAny (model prog w) A (forIn ifs true fun c r => if r = true then do let ok ← isTrue c env (eval c env); pure (ForInStep.yield ok) else pure (ForInStep.yield r)) (fun ok s₃ =>
            if ok = true then wpAny (model prog w) A (eval elt env) (fun x s₄ =>
              wpAny (model prog w) A (call (.builtin "list.append") [acc, x]) (fun _ s₅ => ∃ m, m < n ∧ I m s₅) (notedBy (model prog w) A env fun e s' => R (.error e) s') s₄) (notedBy (model prog w) A env fun e s' => R (.error e) s') s₃
            else ∃ m, m < n ∧ I m s₃) (notedBy (model prog w) A env fun e s' => R (.error e) s') s₂) (notedBy (model prog w) A env fun e s' => R (.error e) s') s₁) (notedBy (model prog w) A env fun e s' => R (.error e) s') s₁) (notedBy (model prog w) A env fun e s' => R (.error e) s') s)
    (n : Nat) (h : I n s) :
    codeAny (model prog w) A (.compLoop (.ListComp elt [⟨target, iter, ifs, 0⟩] scope pos) 0 it acc env) R s := by
  refine codeAny_loop rfl I (fun n s hI => ?_) n h
  show wpAny _ A ((compTurn (.ListComp elt [⟨target, iter, ifs, 0⟩] scope pos) 0 it acc env).onRaise (fun x => do noteFrame x env; theTreesLotGoes x)) _ _ s
  refine wpAny_noted ?_
  rw [compTurn_list]
  refine wpAny_bind (wpAny_standAt (wpAny_bind (wpAny_mono (turn n s hI) (fun r s₁ h₁ => ?_) fun _ _ h' => h')))
  cases r with
  | none => exact wpAny_pure h₁
  | some v =>
    refine wpAny_bind (wpAny_mono h₁ (fun _ s₁' h₁' => ?_) fun _ _ h' => h')
    refine wpAny_bind (wpAny_mono h₁' (fun _ s₂ h₂ => wpAny_bind (wpAny_mono h₂ (fun ok s₃ h₃ => ?_) fun _ _ h' => h')) fun _ _ h' => h')
    cases ok with
    | false => exact wpAny_pure ⟨rfl, h₃⟩
    | true =>
      exact wpAny_bind (wpAny_bind (wpAny_mono h₃ (fun x s₄ h₄ => wpAny_bind (wpAny_mono h₄ (fun _ s₅ h₅ => wpAny_pure (wpAny_pure ⟨rfl, h₅⟩)) fun _ _ h' => h')) fun _ _ h' => h'))
end

structure Apart (X : Cx) (pins : List (Addr × Obj)) (C : Addr) : Prop where
  ne : C ≠ X.env.locals
  ab : X.s₀.heap.objs.size ≤ C
  cells : ∀ x c, X.env.cells.lookup x = some c → c ≠ C
  pins : ∀ p ∈ X.pn ++ pins, p.1 ≠ C

section
variable {X : Cx} {elt tg iter : Expr} {ifs : List Expr} {scope : Scope} {pos pos' : Pos} {wi : TI} {g : TG} {tc : TT} {te : TE} {pins : List (Addr × Obj)} {σ : St} {H : Hp} {s : Shared}
theorem comp_run (N : List Str) (fr : List (Option Nat)) (hc : X.calm = true) (hi : PI X tg iter wi) (hg : ∀ cl C s2 H2 fp, PG (X.comp N scope cl C s2 H2 fp) tg g)
    (ht : ∀ cl C s2 H2 fp, PIfs (X.comp N scope cl C s2 H2 fp) ifs tc) (he : ∀ cl C s2 H2 fp, PE (X.comp N scope cl C s2 H2 fp) elt te)
    (ok : compOk X.N N X.env.scope scope fr = true) (hs : ∀ x, foldedSetIterable iter X.env x = pure x) {Q : VK} {Q' : Value → Shared → Prop} {use : Option (Value → Sem Unit)}
    (I : Inv X pins σ H s) (h : tComp wi fr g tc te σ H Q)
    (fin : ∀ D C s' H', Inv X pins σ H' s' → H' C = none → Apart X pins C → (∃ m, s'.heap.Ns C m) → Q (.ref D) H' → compPost (model X.prog X.w) X.A X.xe use Q' (.ref D) C (.ok .next) s') :
    wpAny (model X.prog X.w) X.A (comprehension (.ListComp elt [⟨tg, iter, ifs, 0⟩] scope pos) scope X.env pos' (newList []) false (eval iter X.env) use) Q' X.xe s := by
  obtain ⟨o1, o2, o3, o4, o5, o6⟩ := compOk_spec ok
  obtain ⟨cl, hclos, c1, c2⟩ := closure_of (scope := scope) (env := X.env) (fun x hx hf => I.ok.has x.1 (o5 x hx hf))
  refine wpAny_comprehension_free (use := use) rfl hs hclos o2 o4 (thn (hi pins s σ H _ I h) fun xv s1 h1 => thn h1 fun itv s2 h2 => ?_)
  obtain ⟨it, fp, tn, J, H2, rfl, I2, T, st2, f2, hW⟩ := h2
  refine wpAny_newObj_type (wpAny_newFunctionEnv o3 (by intro y hy; simp at hy) (fun h₁ hns₁ hsb₁ => ?_) o2)
  dsimp only at hns₁ hsb₁ ⊢
  generalize hHH : s2.heap.push { cls := .type "list", dict := none, data := .seq ([] : List Value).toArray } = HH at hns₁ hsb₁ ⊢
  have hC : HH.objs.size = s2.heap.objs.size + 1 := by rw [← hHH, Heap.size_push]
  have hDC : s2.heap.objs.size ≠ HH.objs.size := by rw [hC]; exact Nat.ne_of_lt (Nat.lt_succ_self _)
  have hCle : s2.heap.objs.size ≤ HH.objs.size := by rw [hC]; exact Nat.le_succ _
  have neC : ∀ b, b < s2.heap.objs.size → b ≠ HH.objs.size := fun b hb => by rw [hC]; exact Nat.ne_of_lt (Nat.lt_succ_of_lt hb)
  have old : ∀ b o, s2.heap.get? b = some o → h₁.get? b = some o := fun b o e => hsb₁.extBut b o (neC b (Heap.lt_size e)) (Heap.get?_push_of_some _ (hHH ▸ Heap.get?_push_of_some _ e))
  have atD : h₁.get? s2.heap.objs.size = some { cls := .type "list", data := .seq ([] : List Value).toArray } := hsb₁.extBut _ _ hDC (Heap.get?_push_of_some _ (hHH ▸ Heap.get?_push_size _ rfl))
  have ltf : ∀ b ∈ fp, b < s2.heap.objs.size := fun b hb => let ⟨o, e, _⟩ := T.obj _ _ st2 b hb; Heap.lt_size e
  have ltc : ∀ x c, X.env.cells.lookup x = some c → c < s2.heap.objs.size := fun x c e => let ⟨v, q⟩ := I2.cell x c e; q.lt
  have ltp : ∀ p ∈ X.pn ++ pins, p.1 < s2.heap.objs.size := fun p hp => Heap.lt_size (I2.pin p hp).1
  have fresh : H2 s2.heap.objs.size = none := I2.hok.fresh (Nat.le_refl _)
  have freshC : H2 HH.objs.size = none := I2.hok.fresh hCle
  have ap : Apart X pins HH.objs.size := ⟨Nat.ne_of_gt (Nat.lt_of_lt_of_le I2.lt hCle), Nat.le_trans I2.sz hCle, fun x c e => neC c (ltc x c e), fun p hp => neC _ (ltp p hp)⟩
  have okY : (X.comp N scope cl HH.objs.size s2 H2 fp).Ok := {
    mod := I2.ok.mod
    kind := o2
    glob := I2.ok.glob
    blt := I2.ok.blt
    above := hCle
    inj := fun x y c a b => I2.ok.inj x y c (c1 _ _ a) (c1 _ _ b)
    has := fun x hx => c2 x (lookup_mem (relabel_of (fun z => o3 _ (lookup_mem z) rfl) hx))
    cab := fun x c hx _ => by cases hx
    hd := I2.ok.hd
    frames := I2.ok.frames
    stk := .inl rfl
    exf := fun b hb => ⟨neC b (ltf b hb), fun x c e => (f2 b hb).2.2.2.2.1 x c (c1 x c e)⟩
    bs := I2.bs
    bsz := Nat.le_trans I2.ok.bsz I2.sz
    noex := fun b o e hb => by
      rcases (f2 b hb).2.2.2.1 with z | z
      · exact I2.ok.noex b o e z
      · exact absurd (Nat.lt_of_lt_of_le (Heap.lt_size e) (Nat.le_trans I2.ok.bsz z)) (Nat.lt_irrefl _)
    exfs := fun b hb hf => by
      rcases List.mem_cons.mp (I2.stkSub b hf) with z | z
      · exact (f2 b hb).2.1 z
      · exact (f2 b hb).2.2.1 z
    funs := I2.stack
    frf := I2.stkFree }
  have IY : Inv (X.comp N scope cl HH.objs.size s2 H2 fp) [] (frσ fr σ) (upd H2 s2.heap.objs.size (.lst [])) { s2 with heap := h₁, toks := s2.toks + ([] : List (Str × Value)).length } := {
    ok := okY
    os := rfl
    bare := I2.bare
    base := Un.laid old (Nat.le_refl _) fresh
    loc := by
      refine ⟨_, hns₁, fun j x v e1 e2 e3 => ?_⟩
      obtain ⟨i, f1, f2'⟩ := frσ_get e2
      obtain ⟨g1, g2⟩ := o6 j i x f1 e1
      have k2 := o5 _ (lookup_mem g2) rfl
      obtain ⟨m2, hm2, l2⟩ := I2.loc
      obtain ⟨u, ru, lk⟩ := l2 i x v g1 f2' (.inr k2)
      refine ⟨u, ru, .inr ⟨relabel_free g2, ?_⟩⟩
      obtain ⟨c, hcl⟩ := c2 x (lookup_mem g2)
      refine ⟨c, hcl, ?_⟩
      rcases lk with ⟨k, _⟩ | ⟨_, c', e', z⟩
      · rcases k2 with k2 | k2
        · rw [show X.env.kindOf x = X.env.scope.names.lookup x from rfl, k2] at k; cases k
        · rw [show X.env.kindOf x = X.env.scope.names.lookup x from rfl, k2] at k; cases k
      · rw [c1 x c hcl] at e'
        cases e'
        obtain ⟨oc, hoc, hd⟩ := z
        exact ⟨oc, old c oc hoc, hd⟩
    cell := fun x c e => by
      obtain ⟨v, oc, hoc, hd⟩ := I2.cell x c (c1 x c e)
      exact ⟨v, oc, old c oc hoc, hd⟩
    free := (upd_ne (Ne.symm hDC)).trans freshC
    freeC := fun x c e => by
      rw [upd_ne (Nat.ne_of_lt (ltc x c (c1 x c e)))]
      exact I2.freeC x c (c1 x c e)
    pin := fun p hp => by cases hp
    hok := I2.hok.laid old (Nat.le_refl _) ⟨Nat.zero_le _, [], 0, .nil, atD⟩
    len := by unfold frσ; rw [List.length_map]; exact o1 }
  have stat : ∀ {H' : Hp} {pp : List (Addr × Obj)}, pp = [] → (∀ b ∈ fp, H' b = none) → ∀ b ∈ fp, FpOk (X.comp N scope cl HH.objs.size s2 H2 fp) pp H' b := fun {H' pp} hp hn b hb => by
    subst hp
    exact ⟨hn b hb, neC b (ltf b hb), fun z => okY.exfs b hb z, .inl hb, fun x c e => (f2 b hb).2.2.2.2.1 x c (c1 x c e), fun p hp => by cases hp⟩
  have back : ∀ {σ' : St} {H' : Hp} {s' : Shared}, Inv (X.comp N scope cl HH.objs.size s2 H2 fp) [] σ' H' s' → Inv X pins σ H' s' := fun {σ' H' s'} I' =>
    I2.call' (ch := fp) I'.os I'.base I'.hok I'.bare fun b hb => ⟨(f2 b hb).2.2.2.1, (f2 b hb).2.1, (f2 b hb).2.2.2.2.1, (f2 b hb).2.2.2.2.2⟩
  have loop : ∀ s₃ : Shared, s₃ = { s2 with heap := h₁, toks := s2.toks + ([] : List (Str × Value)).length } →
      codeAny (model X.prog X.w) X.A (.compLoop (.ListComp elt [⟨tg, iter, ifs, 0⟩] scope pos) 0 (.ref it) (.ref s2.heap.objs.size) (compEnvC scope cl HH.objs.size X.env))
        (compPost (model X.prog X.w) X.A X.xe use Q' (.ref s2.heap.objs.size) HH.objs.size) s₃ := by
    rintro s₃ rfl
    obtain ⟨W, ⟨m0, w0⟩, turn⟩ := hW s2.heap.objs.size fresh
    refine comp_loop (fun n s' => ∃ i σ' H', Inv (X.comp N scope cl HH.objs.size s2 H2 fp) [] σ' H' s' ∧ tn i s'.heap ∧ (∀ b ∈ fp, H' b = none) ∧ W i n σ' H') ?_ m0
      ⟨0, _, _, IY, T.keep _ _ _ st2 fun b _ o e => old b o e, fun b hb => by rw [upd_ne (Nat.ne_of_lt (ltf b hb))]; exact (f2 b hb).1, w0⟩
    rintro n s3 ⟨i, σ3, H3, I3, st3, fr3, w3⟩
    rcases turn i n σ3 H3 w3 with ⟨stop, q⟩ | ⟨go, Nx, hN, step⟩
    · refine thn (T.done (X.comp N scope cl HH.objs.size s2 H2 fp) rfl rfl rfl hc i [] s3 σ3 H3 _ I3 (stat rfl fr3) st3 stop) fun r s4 ⟨hr, I4⟩ => ?_
      subst hr
      obtain ⟨m4, hm4, _⟩ := I4.loc
      exact fin _ _ s4 H3 (back I4) I4.free ap ⟨m4, hm4⟩ q
    · refine thn (T.item (X.comp N scope cl HH.objs.size s2 H2 fp) rfl rfl rfl hc i [] s3 σ3 H3 _ I3 (stat rfl fr3) st3 go) fun r s4 ⟨u, hr, h4⟩ => ?_
      subst hr
      refine thn h4 fun _ s5 ⟨x, H5, I5, r5, y5, st5, fr5⟩ => ?_
      have I5' := I5.pinned (stat rfl fr5) (T.obj _ _ st5)
      refine wpAny_mono (hg cl HH.objs.size s2 H2 fp _ s5 σ3 H5 x u _ I5' r5 (step x H5 y5)) (fun _ s6 ⟨σ6, H6, I6, q6⟩ => ?_) fun _ _ f => f.elim
      have again : ∀ {s7 : Shared} {σ7 : St} {H7 : Hp}, Inv (X.comp N scope cl HH.objs.size s2 H2 fp) ([] ++ pinsAt fp s5.heap) σ7 H7 s7 → Nx σ7 H7 →
          ∃ m, m < n ∧ ∃ i σ' H', Inv (X.comp N scope cl HH.objs.size s2 H2 fp) [] σ' H' s7 ∧ tn i s7.heap ∧ (∀ b ∈ fp, H' b = none) ∧ W i m σ' H' := fun {s7 σ7 H7} I7 n7 => by
        obtain ⟨m', hm, w7⟩ := hN σ7 H7 n7
        refine ⟨m', hm, i + 1, σ7, H7, I7.unpinned, T.keep _ _ _ st5 fun b hb o e => (I7.pin (b, o) (List.mem_append_right _ (List.mem_append_right _ (mem_pinsAt hb e)))).1, fun b hb => ?_, w7⟩
        obtain ⟨o, e, d⟩ := T.obj _ _ st5 b hb
        exact (I7.pin (b, o) (List.mem_append_right _ (List.mem_append_right _ (mem_pinsAt hb e)))).2.1
      refine wpAny_mono (ht cl HH.objs.size s2 H2 fp _ s6 σ6 H6 _ I6 q6) (fun b s7 ⟨H7, I7, q7⟩ => ?_) fun _ _ f => f.elim
      cases b with
      | false =>
        rw [if_neg (by decide)] at q7 ⊢
        exact again I7 q7
      | true =>
        rw [if_pos rfl] at q7 ⊢
        refine wpAny_mono (he cl HH.objs.size s2 H2 fp _ s7 σ6 H7 _ I7 q7) (fun y s8 ⟨v, H8, I8, r8, q8⟩ => ?_) fun _ _ f => f.elim
        obtain ⟨ys, e8, l8, n8⟩ := q8
        refine wpAny_mono (mt_append (X := X.comp N scope cl HH.objs.size s2 H2 fp) _ s8 σ6 H8 (.ref s2.heap.objs.size) [v] (.ref s2.heap.objs.size) [y] (fun _ H9 => Nx σ6 H9) I8 rfl (.cons r8 .nil) ⟨_, ys, v, rfl, rfl, e8, l8, n8⟩) (fun _ s9 ⟨_, H9, I9, _, n9⟩ => ?_) fun _ _ f => f.elim
        exact again I9 n9
  exact codeAny_compStart_list (loop _ rfl) (T.self _ 0 _ _ _ (T.keep _ _ _ st2 fun b _ o e => old b o e) (loop _ rfl))

theorem pe_comp (N : List Str) (fr : List (Option Nat)) (hc : X.calm = true) (hi : PI X tg iter wi) (hg : ∀ cl C s2 H2 fp, PG (X.comp N scope cl C s2 H2 fp) tg g)
    (ht : ∀ cl C s2 H2 fp, PIfs (X.comp N scope cl C s2 H2 fp) ifs tc) (he : ∀ cl C s2 H2 fp, PE (X.comp N scope cl C s2 H2 fp) elt te)
    (ok : compOk X.N N X.env.scope scope fr = true := by kernel_rfl) (hs : ∀ x, foldedSetIterable iter X.env x = pure x := by intro _; rfl) :
    PE X (.ListComp elt [⟨tg, iter, ifs, 0⟩] scope pos) (tComp wi fr g tc te) := by
  intro pins s σ H Q I h
  rw [eval_ListComp]
  refine comp_run (use := none) N fr hc hi hg ht he ok hs I h fun D C s' H' I' hn ap hm q => ?_
  obtain ⟨m, hm⟩ := hm
  exact ⟨m, hm, fun h' sb => ⟨.ref D, H', I'.turned (t' := s'.toks) (fun b o hb e => (sb.2 b hb).trans e) hn ap.ne (.inr ap.ab) ap.cells ap.pins, rfl, q⟩⟩
theorem ps_setC {i : Nat} {y : Str} {py spos : Pos} (N : List Str) (fr : List (Option Nat)) (hc : X.calm = true) (hN : X.N.Nodup) (hiy : X.N[i]? = some y) (hy : X.env.scope.names.lookup y = some .local) (hi : PI X tg iter wi)
    (hg : ∀ cl C s2 H2 fp, PG (X.comp N scope cl C s2 H2 fp) tg g) (ht : ∀ cl C s2 H2 fp, PIfs (X.comp N scope cl C s2 H2 fp) ifs tc) (he : ∀ cl C s2 H2 fp, PE (X.comp N scope cl C s2 H2 fp) elt te)
    (ok : compOk X.N N X.env.scope scope fr = true := by kernel_rfl) (hs : ∀ x, foldedSetIterable iter X.env x = pure x := by intro _; rfl)
    (hsw : swapsWith (.ListComp elt [⟨tg, iter, ifs, 0⟩] scope pos) (some (.Name y py)) spos.line X.env = pure true := by rfl) :
    PS X (.Assign [.Name y py] (.ListComp elt [⟨tg, iter, ifs, 0⟩] scope pos) spos) (tAsg (tComp wi fr g tc te) (gName i)) := by
  intro pins s σ H D I h
  rw [exec_Assign_Name_used _ _ _ _ hsw]
  refine wpAny_bind (wpAny_standAt (wpAny_bind ?_))
  show wpAny _ X.A (do let _ ← comprehension (.ListComp elt [⟨tg, iter, ifs, 0⟩] scope pos) scope X.env _ (newList []) false (eval iter X.env) (some (assign (.Name y py) X.env))) _ _ s
  refine wpAny_bind (wpAny_mono (comp_run (use := some (assign (.Name y py) X.env)) (Q' := fun _ s' => SP X pins D .next s') N fr hc hi hg ht he ok hs I h fun Da C s' H' I' hn ap hm q => ?_) (fun _ s' hq => wpAny_pure (wpAny_pure hq)) fun _ _ e => e)
  obtain ⟨m, hm⟩ := hm
  show wpAny _ X.A (assign (.Name y py) X.env (.ref Da)) _ _ _
  refine wpAny_assign_Name (store_ok2 I' hN hiy (.inl hy) (v := .ref Da) rfl (fun s'' I'' hsb => ?_) (.inr hy))
  obtain ⟨a, sb, ha⟩ := hsb
  have hne : C ≠ a := by
    rcases ha with z | z
    · rw [z]; exact ap.ne
    · exact Ne.symm (ap.cells y a z)
  exact ⟨m, hm.sameBut sb hne, fun h' sb' => ⟨_, H', I''.turned (t' := s''.toks) (fun b o hb e => (sb'.2 b hb).trans e) hn ap.ne (.inr ap.ab) ap.cells ap.pins, q⟩⟩
end
end L2

namespace L2
open PySem PySem.Spec PyProof.Rows

section
variable {X : Cx} {pins : List (Addr × Obj)} {σ : List (Option V)} {H : Hp} {s : Shared} {h' : Heap}
theorem Inv.turnedL {t' : Nat} {ch : List Addr} (I : Inv X pins σ H s) (k : ∀ b o, b ∉ ch → s.heap.get? b = some o → h'.get? b = some o) (hf : ∀ b ∈ ch, FpOk X pins H b) : Inv X pins σ H { s with heap := h', toks := t' } := by
  have nit : ∀ b u, H b = some u → b ∉ ch := fun b u e z => by rw [(hf b z).1] at e; cases e
  refine I.step (g' := s.gens) (d' := s.drawn) (ch := ch) (fun b hb => ⟨(hf b hb).2.2.2.1, (hf b hb).2.1, (hf b hb).2.2.2.2.1, (hf b hb).2.2.2.2.2⟩) (fun b o _ _ hc e _ => k b o hc e) (fun b o _ _ hc e _ => ⟨o.slots, k b o hc e⟩) (fun _ _ _ _ n => n)
    (fun b o hc e => ⟨o, k b o hc e⟩) (fun _ _ e => e) (fun _ _ _ e => e) (fun b ps e => ⟨#[], by rw [e]; simp⟩) (fun m hm => ?_) (fun b u e => ?_) I.bare
  · obtain ⟨o, es, ep, ho, r⟩ := hm
    exact ⟨o, es, ep, k _ o (fun z => (hf _ z).2.1 rfl) ho, r⟩
  · refine (I.hok b u e).stay (fun c v hc q => k c v ?_ q) (fun _ q => q) fun _ _ q => q
    rcases hc with z | z
    · rw [z]; exact nit b u e
    · exact nit c _ z
theorem Inv.turnedNew {t' : Nat} {ch : List Addr} {a : Addr} {o : HO} (I : Inv X pins σ H s) (k : ∀ b o, b ∉ ch → s.heap.get? b = some o → h'.get? b = some o) (hf : ∀ b ∈ ch, FpOk X pins H b) (ha : s.heap.objs.size ≤ a)
    (new : ObjOk X.prog X.w (upd H a o) h' a o) : Inv X pins σ (upd H a o) { s with heap := h', toks := t' } := by
  have hn : H a = none := I.hok.fresh ha
  have nit : ∀ b u, H b = some u → b ∉ ch := fun b u e z => by rw [(hf b z).1] at e; cases e
  have ne : ∀ b ob, s.heap.get? b = some ob → b ≠ a := fun b ob e z => by rw [z] at e; exact absurd (Nat.lt_of_lt_of_le (Heap.lt_size e) ha) (Nat.lt_irrefl _)
  refine I.step (g' := s.gens) (d' := s.drawn) (ch := ch) (fun b hb => ⟨(hf b hb).2.2.2.1, (hf b hb).2.1, (hf b hb).2.2.2.2.1, (hf b hb).2.2.2.2.2⟩) (fun b o _ _ hc e _ => k b o hc e) (fun b o _ _ hc e _ => ⟨o.slots, k b o hc e⟩) (fun b ob _ e n => by rw [upd_ne (ne b ob e)]; exact n)
    (fun b o hc e => ⟨o, k b o hc e⟩) (fun b xs e => by rw [upd_ne (ne_of_none e hn)]; exact e) (fun b ob u e => by rw [upd_ne (ne_of_none e hn)]; exact e) (fun b ps e => ⟨#[], by rw [upd_ne (ne_of_none e hn), e]; simp⟩) (fun m hm => ?_) (fun b u e => ?_) I.bare
  · obtain ⟨o, es, ep, ho, r⟩ := hm
    exact ⟨o, es, ep, k _ o (fun z => (hf _ z).2.1 rfl) ho, r⟩
  · by_cases hb : b = a
    · subst hb; rw [upd_same] at e; cases e; exact new
    · rw [upd_ne hb] at e
      refine (I.hok b u e).stay (fun c v hc q => k c v ?_ q) (fun c q => by rw [upd_ne (ne_of_none q hn)]; exact q) fun c xs q => by rw [upd_ne (ne_of_none q hn)]; exact q
      rcases hc with z | z
      · rw [z]; exact nit b u e
      · exact nit c _ z
end

noncomputable def Itf (f : Nat → V) (n : Nat) : It := ⟨fun i _ => i < n, fun i H x H' => H' = H ∧ x = f i, fun i _ => i = n⟩
noncomputable def sgn (z : Str) (i : Nat) : V := .str ⟨#[z.cps.getD i 0]⟩
theorem walks_str {P : Program} {w : World} {A : Around} (hh : A.handled = none) (it : Addr) (z : Str) (t : Tok) : Walks P w A it [it] [it] z.cps.size (SignAt z) (fun i h => h.IsStrIter it (strIterType z) z t i) := by
  unfold strIterType
  split
  · exact Walks.strAscii hh it z t
  · exact Walks.strWide hh it z t
theorem turn_str {P : Program} {w : World} {K : PySem.W.Frag} {tg : Expr} (it : Addr) (z : Str) (t : Tok) : Turn P w K tg (Itf (sgn z) z.cps.size) [it] it (fun i h => h.IsStrIter it (strIterType z) z t i) where
  mem := by simp
  obj := fun i h st b hb => by
    have e : b = it := by simpa using hb
    subst e
    obtain ⟨o, e, c, d⟩ := st
    exact ⟨o, e, fun v z => by rw [d] at z; cases z⟩
  keep := fun i h h' st k => let ⟨o, e, r⟩ := st; ⟨o, k it (by simp) o e, r⟩
  item := by
    intro X hP hw hK hc i pins s σ H E I hf st hg
    subst hP hw hK
    obtain ⟨f0, f1, f2, f3, f4, f5⟩ := hf it (by simp)
    have W := walks_str (P := X.prog) (w := X.w) (I.ok.hd hc) it z t
    refine W.item i s _ _ hg st fun v h' tk hv st' kk => ?_
    obtain ⟨c, u, hx, rfl⟩ := hv
    have I1 : Inv X pins σ H { s with heap := h', toks := tk } := I.turned (fun b o hb e => kk b o (by simpa using hb) e) f0 f1 f3 f4 f5
    obtain ⟨o, e, cc, d⟩ := id st'
    have ec : z.cps.getD i 0 = c := by rw [Array.getD_eq_getD_getElem?, hx]; rfl
    refine ⟨_, rfl, go_of (s := { s with heap := h', toks := tk }) e cc d (by unfold strIterType; split <;> decide) ⟨sgn z i, H, I1, ⟨u, ?_⟩, ⟨rfl, rfl⟩, st', fun b hb => (hf b hb).1⟩⟩
    rw [ec]
  done := by
    intro X hP hw hK hc i pins s σ H E I hf st hg
    subst hP hw hK
    have hg' : i = z.cps.size := hg
    subst hg'
    obtain ⟨f0, f1, f2, f3, f4, f5⟩ := hf it (by simp)
    have W := walks_str (P := X.prog) (w := X.w) (I.ok.hd hc) it z t
    exact W.done s _ _ st fun h' tk kk => ⟨rfl, I.turned (fun b o hb e => kk b o (by simpa using hb) e) f0 f1 f3 f4 f5⟩
  self := fun A i s Q E st h => by
    unfold strIterType at st
    split at st
    · exact wpAny_pyIter_striter_ascii st h
    · exact wpAny_pyIter_striter_wide st h
section
variable {X : Cx} {a b c e : Expr} {ta tb tc te : TE} {pos p2 : Pos}
end
end L2

namespace L2
open PySem PySem.Spec PyProof.Rows
end L2

namespace L2
open PySem PySem.Spec PyProof.Rows
structure DefAt (K : PySem.W.Frag) (mg : Str → Option Value) (x : Str) (st : Stmt) (ps : List Str) : Prop where
  ex : ∃ (f : Addr) (fd : FuncData), mg x = some (.ref f) ∧ Fun K x x st f fd ∧ Binds K fd ps []
noncomputable def FnAt (P : Program) (w : World) (K : PySem.W.Frag) (mg : Str → Option Value) (base : Heap) (x : Str) (k : Nat) (ps : List Str) (sp : Sp) : Prop :=
  ∃ (f : Addr) (fd : FuncData), mg x = some (.ref f) ∧ PySem.W.keepIn K (.ref f) = true ∧ Binds K fd ps [] ∧ FnOk P w K mg base CX0 k f fd ps sp
theorem DefAt.ok {P : Program} {w : World} {K : PySem.W.Frag} {mg : Str → Option Value} {base : Heap} {x : Str} {st : Stmt} {ps N : List Str} {k : Nat} {sp : Sp} (D : DefAt K mg x st ps) (S : FnScope N ps (defScope st)) (len : ∀ vs H Q E, sp vs H Q E → vs.length = ps.length)
    (hbody : ∀ (f : Addr) (cdv : Value) (A : Around) (outer : List Env) (s : Shared) (H : Hp) (vs : List V) (Q : VK) (E : XK), Room k (A.deeper (envOfC x (defScope st) s.heap.objs.size f cdv)) → sp vs H Q E →
      ∃ t, PSs (cxOf CX0 P w K mg base N x (defScope st) f cdv A outer s H E).nox (defBody st) t ∧ t { nx := fun _ H' => Q .non H', rt := Q } (start N vs) H) : FnAt P w K mg base x (k + 1) ps sp := by
  obtain ⟨f, fd, e, F, b⟩ := D.ex
  exact ⟨f, fd, e, F.kp, b, F.ok S len fun cdv A outer s H vs Q E => hbody f cdv A outer s H vs Q E⟩
section
variable {X : Cx} {k : Nat} {ps : List Str} {sp : Sp} {x : Str} {p pos : Pos} {e : Expr} {es : List Expr} {t : TA}
theorem pe_callF (G : FnAt X.prog X.w X.K X.mg X.base x k ps sp) (hr : Room k X.A) (hg : Gl X x) (ha : PA X (e :: es) t) (hdb : (x == ("__debug__" : Str)) = false := by decide)
    (he : starEach (e :: es) X.env = (false, eval e X.env) :: starEach es X.env := by rfl) (hpl : (backTo pos (starEach es X.env)).any (·.1) = false := by rfl) : PE X (.Call (.Name x p) (e :: es) [] pos) (tCall sp [] E0 t) := by
  obtain ⟨f, fd, e1, e2, e3, e4⟩ := G
  exact pe_call e4 hr hg e1 e2 e3 .nil pass0 ha hdb he hpl
end
section
variable {X : Cx} {N : List Str} {scope : Scope} {cl : List (Str × Addr)} {C : Addr} {s2 : Shared} {H2 : Hp} {fp : List Addr} {x : Str} {pos : Pos}
theorem pvl (i : Nat) (hN : N[i]? = some x := by rfl) (hv : scope.names.lookup x = some .local := by rfl) (hd : (x == ("__debug__" : Str)) = false := by decide) (hcd : (x == ("__classdict__" : Str)) = false := by decide) :
    PE (X.comp N scope cl C s2 H2 fp) (.Name x pos) (tVar i) := pe_var hN (.inl (relabel_keep (by decide) hv)) hd hcd
theorem pvf (i : Nat) (hN : N[i]? = some x := by rfl) (hv : scope.names.lookup x = some .free := by rfl) (hd : (x == ("__debug__" : Str)) = false := by decide) (hcd : (x == ("__classdict__" : Str)) = false := by decide) :
    PE (X.comp N scope cl C s2 H2 fp) (.Name x pos) (tVar i) := pe_var hN (.inr (relabel_free hv)) hd hcd
theorem glc (h : scope.names.lookup x = some .globalImplicit) : Gl (X.comp N scope cl C s2 H2 fp) x := relabel_keep (by decide) h
theorem pg_nameL {i : Nat} (hN : N.Nodup) (hi : N[i]? = some x) (hx : scope.names.lookup x = some .local) : PG (X.comp N scope cl C s2 H2 fp) (.Name x pos) (gName i) :=
  pg_name hN hi (.inl (relabel_keep (by decide) hx)) (.inr (relabel_keep (by decide) hx))
end

section
variable {X : Cx} {x : Str} {i : Int} {z : Str} {pos : Pos}
end
theorem tyL {K : PySem.W.Frag} {H : Hp} {p : Addr} {xs : List V} (h : H p = some (.lst xs)) : tyV K "list" (.ref p) H := .inl ⟨rfl, xs, SqL.of h⟩
theorem same_upd {H : Hp} {p : Addr} {o : HO} (h : H p = none) : Same H (upd H p o) := fun b u e => by rw [upd_ne (ne_of_none e h)]; exact e
theorem same_upd2 {H H1 : Hp} {p : Addr} {o : HO} (h : H p = none) (s : Same H H1) : Same H (upd H1 p o) := fun b u e => by rw [upd_ne (ne_of_none e h)]; exact s b u e
theorem Same.tup {K : PySem.W.Frag} {H H' : Hp} {a : Addr} {xs : List V} (e : Same H H') (h : SqT K H a xs) : SqT K H' a xs := by
  rcases h with (h | ⟨o, h⟩) | h
  · exact .inl (.inl (e _ _ h))
  · exact .inl (.inr ⟨o, e _ _ h⟩)
  · exact .inr h
theorem atI_some {α : Type} {xs : List α} {i : Int} (h0 : 0 ≤ i) (h : i < xs.length) : ∃ v, atI xs i = some v ∧ xs[i.toNat]? = some v := by
  have hl : i.toNat < xs.length := by omega
  refine ⟨xs[i.toNat], ?_, by simp [hl]⟩
  have := atI_nat (xs := xs) (j := i.toNat) (v := xs[i.toNat]) (by simp [hl])
  rwa [Int.toNat_of_nonneg h0] at this
noncomputable def ForJ (J : It) (g : TG) (tb : TS) (D : Ends) (σ : St) (H : Hp) : Prop := ∃ W : Nat → Nat → St → Hp → Prop, (∃ m, W 0 m σ H) ∧ ∀ i m σ H, W i m σ H →
  (J.stop i H ∧ D.nx σ H) ∨ (J.go i H ∧ ∃ N : St → Hp → Prop, (∀ σ' H', N σ' H' → ∃ m', m' < m ∧ W (i + 1) m' σ' H') ∧ ∀ x H', J.yld i H x H' → g x σ H' fun σ2 H2 => tb { D with nx := N, ct := N, bk := D.nx } σ2 H2)
section
variable {D : Ends} {σ : St} {H : Hp} {Q : VK} {QB : Bool → Hp → Prop} {QA : List V → Hp → Prop} {QS : St → Hp → Prop} {R : It → Hp → Prop} {t u : TS} {ta tb tc te : TE} {c c2 : TT} {tA : TA} {g : TG} {gs : TGs} {wi : TI} {r r' : R2} {i n : Nat} {v x y : V} {xs : List V} {sp : Sp} {dvs : List V} {E : XK} {K : PySem.W.Frag}
end
end L2

namespace L2
open PySem PySem.Spec PyProof.Rows
section
variable {X : Cx} {e es : Expr} {te : TE} {lo hi : Option Expr} {tl th ts : TO} {pos p2 : Pos}
end
section
variable {σ : St} {H : Hp} {Q : VK} {te : TE} {tl th ts : TO} {K : PySem.W.Frag} {x y : V}
end
theorem ixN_in {n : Nat} {i : Int} (h0 : 0 ≤ i) (h : i < n) : ixN n i = some i.toNat := by
  unfold ixN
  rw [if_pos h0, if_pos h]
noncomputable def SameBut (p : Addr) (H H' : Hp) : Prop := ∀ b o, H b = some o → b ≠ p → H' b = some o
theorem SameBut.refl (p : Addr) (H : Hp) : SameBut p H H := fun _ _ e _ => e
theorem Same.but {H H' : Hp} (p : Addr) (s : Same H H') : SameBut p H H' := fun b o e _ => s b o e
theorem SameBut.upd {H H1 : Hp} {p : Addr} {o : HO} (s : SameBut p H H1) : SameBut p H (upd H1 p o) := fun b u e n => by rw [upd_ne n]; exact s b u e n
theorem SameBut.new {H H1 : Hp} {p q : Addr} {o : HO} (s : SameBut p H H1) (h : H q = none) : SameBut p H (L2.upd H1 q o) := fun b u e n => by rw [upd_ne (ne_of_none e h)]; exact s b u e n
theorem SameBut.trans {p : Addr} {H H1 H2 : Hp} (a : SameBut p H H1) (b : SameBut p H1 H2) : SameBut p H H2 := fun c o e n => b c o (a c o e n) n
theorem SameBut.tup {K : PySem.W.Frag} {H H' : Hp} {p a : Addr} {xs ys : List V} (e : SameBut p H H') (hp : H p = some (.lst ys)) (h : SqT K H a xs) : SqT K H' a xs := by
  rcases h with (h | ⟨o, h⟩) | h
  · exact .inl (.inl (e _ _ h (ne_of h hp (by intro z; cases z))))
  · exact .inl (.inr ⟨o, e _ _ h (ne_of h hp (by intro z; cases z))⟩)
  · exact .inr h
end L2
namespace L2
open PySem PySem.Spec PyProof.Rows
section
variable {X : Cx} {N : List Str} {scope : Scope} {cl : List (Str × Addr)} {C : Addr} {s2 : Shared} {H2 : Hp} {fp : List Addr}
theorem pg_tupC {es : List Expr} {k : Nat} {t : TGs} {n : Nat} {pos : Pos} (hc : X.calm = true) (h : PGs (X.comp N scope cl C s2 H2 fp) es t)
    (hn : (assignEach es (X.comp N scope cl C s2 H2 fp).env).length = n := by rfl) (hst : (assignEach es (X.comp N scope cl C s2 H2 fp).env).findIdx? (·.1) = none := by rfl) : PG (X.comp N scope cl C s2 H2 fp) (.Tuple es k pos) (gTup X.K n t) := pg_tup hc h hn hst
end
end L2
namespace L2
open PySem PySem.Spec PyProof.Rows
end L2

namespace L2
open PySem PySem.Spec PyProof.Rows
inductive EqR (K : PySem.W.Frag) (H : Hp) : Nat → V → V → Bool → Prop
  | flat {n : Nat} {x y : V} : flatV x = true → flatV y = true → EqR K H n x y (eqV x y)
  | tup {n : Nat} {a b : Addr} {xs ys : List V} (e : Nat → Bool) {r : Bool} : SqT K H a xs → SqT K H b ys → (∀ (j : Nat) x y, xs[j]? = some x → ys[j]? = some y → EqR K H n x y (e j)) →
      r = ((List.range (min xs.length ys.length)).all e && xs.length == ys.length) → (a = b → r = true) → EqR K H (n + 1) (.ref a) (.ref b) r
  | lst {n : Nat} {a b : Addr} {xs ys : List V} (e : Nat → Bool) {r : Bool} : SqL K H a xs → SqL K H b ys → xs.length = ys.length → (∀ (j : Nat) x y, xs[j]? = some x → ys[j]? = some y → EqR K H n x y (e j)) →
      r = (List.range xs.length).all e → (a = b → r = true) → EqR K H (n + 1) (.ref a) (.ref b) r
  | lens {n : Nat} {a b : Addr} {xs ys : List V} : SqL K H a xs → SqL K H b ys → xs.length ≠ ys.length → EqR K H (n + 1) (.ref a) (.ref b) false
section
variable {X : Cx} {pins : List (Addr × Obj)} {σ : St} {H : Hp} {s : Shared}
theorem vals_at {xs : List V} {its : List Value} (r : Vals xs its) {j : Nat} (h : j < its.toArray.size) : ∃ x, xs[j]? = some x ∧ RelV x its.toArray[j] := by
  have hl : j < its.length := by simpa using h
  have hx : j < xs.length := by rw [r.length]; exact hl
  obtain ⟨u, hu, ru⟩ := r.get (i := j) (x := xs[j]) (by simp [hx])
  refine ⟨xs[j], by simp [hx], ?_⟩
  have : its.toArray[j] = u := by
    rw [List.getElem?_eq_getElem hl] at hu
    simpa using hu
  rw [this]; exact ru
end
section
variable {X : Cx} {k : Nat}
theorem room32 {A : Around} (hr : Room k A) : A.units + 32 < cLine := Nat.lt_of_le_of_lt (Nat.add_le_add_left (by decide : 32 ≤ 64) _) hr.units
end
noncomputable def PairsAt (H : Hp) (xs : List V) (ps : List (Int × Int)) : Prop := xs.length = ps.length ∧ ∀ (j : Nat) (c : Int × Int), ps[j]? = some c → ∃ a, xs[j]? = some (.ref a) ∧ H a = some (.tup [.int c.1, .int c.2])
end L2

namespace L2
open PySem PySem.Spec PyProof.Rows

section
variable {κ : Type} [DecidableEq κ]
noncomputable def valV (kvs : List (κ × V)) (k : κ) : Option V := (kvs.find? fun kv => decide (kv.1 = k)).map (·.2)
noncomputable def putK (kvs : List (κ × V)) (k : κ) (v : V) : List (κ × V) :=
  if (kvs.any fun kv => decide (kv.1 = k)) = true then kvs.map (fun kv => if kv.1 = k then (kv.1, v) else kv) else kvs ++ [(k, v)]
noncomputable def dropK (kvs : List (κ × V)) (k : κ) : List (κ × V) := kvs.filter fun kv => decide (kv.1 ≠ k)

theorem valV_pos {p : κ × V} {r : List (κ × V)} {k : κ} (e : p.1 = k) : valV (p :: r) k = some p.2 := by simp [valV, List.find?_cons, e]
theorem valV_neg {p : κ × V} {r : List (κ × V)} {k : κ} (e : ¬ p.1 = k) : valV (p :: r) k = valV r k := by simp [valV, List.find?_cons, e]
theorem valV_any (k : κ) : ∀ kvs : List (κ × V), (kvs.any fun kv => decide (kv.1 = k)) = (valV kvs k).isSome
  | [] => rfl
  | p :: r => by
    rw [List.any_cons]
    by_cases e : p.1 = k
    · simp only [valV_pos e, decide_eq_true e, Bool.true_or, Option.isSome_some]
    · rw [valV_neg e, decide_eq_false e, Bool.false_or]; exact valV_any k r
theorem length_putK (kvs : List (κ × V)) (k : κ) (v : V) : (putK kvs k v).length ≤ kvs.length + 1 := by
  unfold putK
  split
  · rw [List.length_map]; omega
  · rw [List.length_append, List.length_cons, List.length_nil]; omega
theorem RelO.isSome_eq {o : Option V} {u : Option Value} (r : RelO o u) : o.isSome = u.isSome := by
  cases o with
  | none => cases u with
    | none => rfl
    | some _ => exact (show False from r).elim
  | some _ => cases u with
    | none => exact (show False from r).elim
    | some _ => rfl
theorem RelO.getD {o : Option V} {u : Option Value} {d : V} {d' : Value} (r : RelO o u) (rd : RelV d d') : RelV (o.getD d) (u.getD d') := by
  cases o with
  | none => cases u with
    | none => exact rd
    | some _ => exact (show False from r).elim
  | some _ => cases u with
    | none => exact (show False from r).elim
    | some _ => exact r

theorem KV.val {kvs : List (κ × V)} {vs : List (κ × Value)} (r : KV kvs vs) (k : κ) : RelO (valV kvs k) (valueAt vs k) := by
  unfold KV at r
  induction r with
  | nil => exact True.intro
  | @cons p q ps qs h t ih =>
    obtain ⟨h1, h2⟩ := h
    by_cases e : p.1 = k
    · have e' : q.1 = k := h1.symm.trans e
      have b : valueAt (q :: qs) k = some q.2 := by simp [valueAt, List.find?_cons, e']
      rw [valV_pos e, b]; exact h2
    · have e' : ¬ q.1 = k := fun z => e (h1.trans z)
      have b : valueAt (q :: qs) k = valueAt qs k := by simp [valueAt, List.find?_cons, e']
      rw [valV_neg e, b]; exact ih
theorem KV.any {kvs : List (κ × V)} {vs : List (κ × Value)} (r : KV kvs vs) (k : κ) : (kvs.any fun kv => decide (kv.1 = k)) = vs.any fun kv => decide (kv.1 = k) := by
  unfold KV at r
  induction r with
  | nil => rfl
  | cons h t ih => rw [List.any_cons, List.any_cons, ih, h.1]
theorem KV.repl {kvs : List (κ × V)} {vs : List (κ × Value)} (r : KV kvs vs) (k : κ) {y : V} {u : Value} (ry : RelV y u) :
    KV (kvs.map fun kv => if kv.1 = k then (kv.1, y) else kv) (vs.map fun kv => if kv.1 = k then (kv.1, u) else kv) := by
  unfold KV at r ⊢
  induction r with
  | nil => exact .nil
  | @cons p q ps qs h t ih =>
    rw [List.map_cons, List.map_cons]
    refine .cons ?_ ih
    obtain ⟨h1, h2⟩ := h
    by_cases e : p.1 = k
    · rw [if_pos e, if_pos (h1.symm.trans e)]; exact ⟨h1, ry⟩
    · rw [if_neg e, if_neg (fun z => e (h1.trans z))]; exact ⟨h1, h2⟩
theorem KV.put {kvs : List (κ × V)} {vs : List (κ × Value)} (r : KV kvs vs) (k : κ) {y : V} {u : Value} (ry : RelV y u) : KV (putK kvs k y) (stored vs k u) := by
  unfold putK stored
  rw [r.any k]
  by_cases e : (vs.any fun kv => decide (kv.1 = k)) = true
  · rw [if_pos e, if_pos e]; exact r.repl k ry
  · rw [if_neg e, if_neg e]; exact Paired.snoc r ⟨rfl, ry⟩
theorem KV.drop {kvs : List (κ × V)} {vs : List (κ × Value)} (r : KV kvs vs) (k : κ) : KV (dropK kvs k) (without vs k) := by
  unfold KV at r ⊢
  unfold dropK without
  induction r with
  | nil => exact .nil
  | @cons p q ps qs h t ih =>
    obtain ⟨h1, h2⟩ := h
    rw [List.filter_cons, List.filter_cons]
    by_cases e : p.1 = k
    · have a : ¬ decide (p.1 ≠ k) = true := by simp [e]
      have b : ¬ decide (q.1 ≠ k) = true := by simp [h1.symm.trans e]
      rw [if_neg a, if_neg b]; exact ih
    · have e' : ¬ q.1 = k := fun z => e (h1.trans z)
      have a : decide (p.1 ≠ k) = true := by simp [e]
      have b : decide (q.1 ≠ k) = true := by simp [e']
      rw [if_pos a, if_pos b]; exact .cons ⟨h1, h2⟩ ih
theorem KV.keys {kvs : List (κ × V)} {vs : List (κ × Value)} (r : KV kvs vs) : kvs.map (·.1) = vs.map (·.1) := by
  unfold KV at r
  induction r with
  | nil => rfl
  | cons h t ih => rw [List.map_cons, List.map_cons, ih, h.1]
theorem KV.length {kvs : List (κ × V)} {vs : List (κ × Value)} (r : KV kvs vs) : kvs.length = vs.length := Paired.length r
end


theorem kV_is {P : Program} {w : World} {k : Key} {u : Value} (r : RelV (kV k) u) : (mixKind P w).is k u = true := by
  cases k with
  | inl i => obtain ⟨t, e⟩ := (show ∃ t, u = Value.int i t from r); subst e; exact mixKind_int P w i t
  | inr x => obtain ⟨t, e⟩ := (show ∃ t, u = Value.str x t from r); subst e; exact mixKind_str P w x t
theorem items_are {P : Program} {w : World} : ∀ {ks : List Key} {us : List Value}, Vals (ks.map kV) us → ItemsAre (mixKind P w) ks us
  | [], _, r => by rw [List.map_nil] at r; cases r; exact .nil
  | k :: ks, _, r => by
    rw [List.map_cons] at r
    cases r with
    | cons h t => exact .cons (kV_is h) (items_are t)

noncomputable abbrev KT (H : Hp) : List (List Key × V) → List (List Key × Addr × Value) → Prop := Paired fun p q => p.1 = q.1 ∧ H q.2.1 = some (.tup (p.1.map kV)) ∧ RelV p.2 q.2.2
theorem KT.val {H : Hp} {kvs : List (List Key × V)} {xs : List (List Key × Addr × Value)} (r : KT H kvs xs) (k : List Key) : RelO (valV kvs k) ((atKey xs k).map (·.2)) := by
  induction r with
  | nil => exact True.intro
  | @cons p q ps qs h t ih =>
    obtain ⟨h1, _, h2⟩ := h
    by_cases e : p.1 = k
    · have e' : q.1 = k := h1.symm.trans e
      have b : atKey (q :: qs) k = some q.2 := by simp [atKey, List.find?_cons, e']
      rw [valV_pos e, b]; exact h2
    · have e' : ¬ q.1 = k := fun z => e (h1.trans z)
      have b : atKey (q :: qs) k = atKey qs k := by simp [atKey, List.find?_cons, e']
      rw [valV_neg e, b]; exact ih
theorem KT.repl {H : Hp} {kvs : List (List Key × V)} {xs : List (List Key × Addr × Value)} (r : KT H kvs xs) (k : List Key) {y : V} {u : Value} (ry : RelV y u) :
    KT H (kvs.map fun kv => if kv.1 = k then (kv.1, y) else kv) (xs.map (putAt k u)) := by
  induction r with
  | nil => exact .nil
  | @cons p q ps qs h t ih =>
    rw [List.map_cons, List.map_cons]
    refine .cons ?_ ih
    obtain ⟨h1, h2, h3⟩ := h
    unfold putAt
    by_cases e : p.1 = k
    · rw [if_pos e, if_pos (h1.symm.trans e)]; exact ⟨h1, h2, ry⟩
    · rw [if_neg e, if_neg (fun z => e (h1.trans z))]; exact ⟨h1, h2, h3⟩
theorem KT.put {H : Hp} {kvs : List (List Key × V)} {xs : List (List Key × Addr × Value)} (r : KT H kvs xs) (k : List Key) {b : Addr} {y : V} {u : Value} (hb : H b = some (.tup (k.map kV))) (ry : RelV y u) :
    KT H (putK kvs k y) (storedH xs k b u) := by
  have e : (kvs.any fun kv => decide (kv.1 = k)) = (atKey xs k).isSome := by
    rw [valV_any, (r.val k).isSome_eq, Option.isSome_map]
  unfold putK storedH
  rw [e]
  by_cases q : (atKey xs k).isSome = true
  · rw [if_pos q, if_pos q]; exact r.repl k ry
  · rw [if_neg q, if_neg q]; exact Paired.snoc r ⟨rfl, hb, ry⟩
theorem KT.keeps {H H' : Hp} {kvs : List (List Key × V)} {xs : List (List Key × Addr × Value)} (r : KT H kvs xs) (ht : ∀ b ys, H b = some (.tup ys) → H' b = some (.tup ys)) : KT H' kvs xs :=
  Paired.mapP r fun _ _ z => ⟨z.1, ht _ _ z.2.1, z.2.2⟩

section
variable {P : Program} {w : World} {H : Hp} {h : Heap} {a : Addr}
theorem rd_of {u : HO} (ok : HOk P w H h) (e : Rd H a u) : ObjOk P w H h a u := e.ok ok
theorem dk_rd {kvs : List (Key × V)} (ok : HOk P w H h) (e : Rd H a (.dK kvs)) : kvs.length ≤ sizeLine ∧ (a == sysModules) = false ∧ ∃ vs, KV kvs vs ∧ h.DictOf (mixKind P w) a vs :=
  show ObjOk P w H h a (.dK kvs) from rd_of ok e
theorem dk_of {kvs : List (Key × V)} (ok : HOk P w H h) (e : H a = some (.dK kvs)) : kvs.length ≤ sizeLine ∧ (a == sysModules) = false ∧ ∃ vs, KV kvs vs ∧ h.DictOf (mixKind P w) a vs := dk_rd ok (.inl e)
theorem key_of {ks : List Key} (ok : HOk P w H h) (e : H a = some (.tup (ks.map kV))) : (tupleKind (mixKind P w)).is h ks a := by
  obtain ⟨_, its, r, ⟨o, h1, h2, n, h3⟩, _⟩ := (show ObjOk P w H h a (.tup (ks.map kV)) from ok a _ e)
  exact ⟨o, its.toArray, n, h1, h2, h3, by simpa using items_are r⟩
theorem dt_rd {kvs : List (List Key × V)} (ok : HOk P w H h) (e : Rd H a (.dT kvs)) : kvs.length ≤ sizeLine ∧ (a == sysModules) = false ∧
    ∃ xs, KT H kvs xs ∧ h.DictOfH (tupleKind (mixKind P w)) a xs := by
  obtain ⟨z, y, xs, r, o, es, ep, h1, h2, h3, h4, h5⟩ := (show ObjOk P w H h a (.dT kvs) from rd_of ok e)
  refine ⟨z, y, xs, r, o, es, ep, h1, h2, h3, h4, fun x hx => ?_, h5⟩
  have all : ∀ {l : List (List Key × V)} {m : List (List Key × Addr × Value)}, KT H l m → ∀ x ∈ m, (tupleKind (mixKind P w)).is h x.1 x.2.1 := by
    intro l m q
    induction q with
    | nil => intro x hx; exact nomatch hx
    | @cons p q ps qs hq t ih =>
      intro x hx
      rcases List.mem_cons.mp hx with e | hx
      · subst e
        exact key_of ok (by rw [← hq.1]; exact hq.2.1)
      · exact ih x hx
  exact all r x hx
theorem dt_of {kvs : List (List Key × V)} (ok : HOk P w H h) (e : H a = some (.dT kvs)) : kvs.length ≤ sizeLine ∧ (a == sysModules) = false ∧
    ∃ xs, KT H kvs xs ∧ h.DictOfH (tupleKind (mixKind P w)) a xs := dt_rd ok (.inl e)
end

noncomputable def DGet (H : Hp) (a : Addr) (y : V) (r : Option V) : Prop :=
  (∃ kvs k, Rd H a (.dK kvs) ∧ y = kV k ∧ r = valV kvs k) ∨ ∃ kvs k b, Rd H a (.dT kvs) ∧ y = .ref b ∧ H b = some (.tup (k.map kV)) ∧ r = valV kvs k
noncomputable def DPut (H : Hp) (a : Addr) (y v : V) (H' : Hp) : Prop :=
  (∃ kvs k, H a = some (.dK kvs) ∧ y = kV k ∧ kvs.length < sizeLine ∧ H' = upd H a (.dK (putK kvs k v))) ∨
  ∃ kvs k b, H a = some (.dT kvs) ∧ y = .ref b ∧ H b = some (.tup (k.map kV)) ∧ kvs.length < sizeLine ∧ H' = upd H a (.dT (putK kvs k v))
theorem DGet.k {H : Hp} {a : Addr} {kvs : List (Key × V)} {k : Key} (e : H a = some (.dK kvs)) : DGet H a (kV k) (valV kvs k) := .inl ⟨kvs, k, .inl e, rfl, rfl⟩
theorem DGet.t {H : Hp} {a b : Addr} {kvs : List (List Key × V)} {k : List Key} (e : H a = some (.dT kvs)) (eb : H b = some (.tup (k.map kV))) : DGet H a (.ref b) (valV kvs k) := .inr ⟨kvs, k, b, .inl e, rfl, eb, rfl⟩
theorem DPut.k {H : Hp} {a : Addr} {kvs : List (Key × V)} {k : Key} {v : V} (e : H a = some (.dK kvs)) (hl : kvs.length < sizeLine) : DPut H a (kV k) v (upd H a (.dK (putK kvs k v))) := .inl ⟨kvs, k, e, rfl, hl, rfl⟩
theorem DPut.t {H : Hp} {a b : Addr} {kvs : List (List Key × V)} {k : List Key} {v : V} (e : H a = some (.dT kvs)) (eb : H b = some (.tup (k.map kV))) (hl : kvs.length < sizeLine) :
    DPut H a (.ref b) v (upd H a (.dT (putK kvs k v))) := .inr ⟨kvs, k, b, e, rfl, eb, hl, rfl⟩


section
variable {X : Cx} {pins : List (Addr × Obj)} {σ : St} {H : Hp} {s : Shared} {a : Addr} {y v : V} {u r : Value} {o : Option V} {A : Around} {E : Value → Shared → Prop}

theorem Inv.big (I : Inv X pins σ H s) : sysModules < s.heap.objs.size := by
  have h : mainGlobals < s.heap.objs.size := (I.mod.glob.keeps I.bk).lt
  exact Nat.lt_trans (by decide) h

theorem d_getItem {Q : Value → Shared → Prop} (hu : A.units + 1 < cLine) (I : Inv X pins σ H s) (g : DGet H a y (some v)) (ry : RelV y u) (h : ∀ w' s', Inv X pins σ H s' → RelV v w' → Q w' s') :
    wpAny (model X.prog X.w) A (getItem (.ref a) u) Q E s := by
  rcases g with ⟨kvs, k, e, ey, l⟩ | ⟨kvs, k, b, e, ey, eb, l⟩
  · subst ey
    obtain ⟨z, hd, vs, rel, dd⟩ := dk_rd I.hok e
    obtain ⟨w', hw, rw'⟩ := RelO.some_of (v := v) (o := valueAt vs k) (by rw [l]; exact rel.val k)
    exact wpAny_getItem_of (kV_is ry) dd.mapOf hw (h w' _ (I.tok _) rw')
  · subst ey
    cases (show u = Value.ref b from ry)
    obtain ⟨z, hd, xs, rel, dd⟩ := dt_rd I.hok e
    obtain ⟨w', hw, rw'⟩ := RelO.some_of (v := v) (o := (atKey xs k).map (·.2)) (by rw [l]; exact rel.val k)
    obtain ⟨p, hp, hp2⟩ := Option.map_eq_some_iff.mp hw
    refine wpAny_getItem_heap (tupleKind_room_in1 hu) (key_of I.hok eb) dd hp ?_
    rw [hp2]
    exact h w' _ (I.tok _) rw'
theorem d_in {Q : Value → Shared → Prop} (hu : A.units + 1 < cLine) (I : Inv X pins σ H s) (g : DGet H a y o) (ry : RelV y u) (h : ∀ s', Inv X pins σ H s' → Q (.bool o.isSome) s') :
    wpAny (model X.prog X.w) A (compareOp .In u (.ref a)) Q E s := by
  rcases g with ⟨kvs, k, e, ey, l⟩ | ⟨kvs, k, b, e, ey, eb, l⟩
  · subst ey
    obtain ⟨z, hd, vs, rel, dd⟩ := dk_rd I.hok e
    refine wpAny_in_of (kV_is ry) hd dd.mapOf ?_
    rw [← (rel.val k).isSome_eq, ← l]
    exact h _ (I.tok _)
  · subst ey
    cases (show u = Value.ref b from ry)
    obtain ⟨z, hd, xs, rel, dd⟩ := dt_rd I.hok e
    refine wpAny_in_heap (tupleKind_room_in1 hu) (key_of I.hok eb) hd dd ?_
    have q := (rel.val k).isSome_eq
    rw [Option.isSome_map] at q
    rw [← q, ← l]
    exact h _ (I.tok _)
theorem d_notIn {Q : Value → Shared → Prop} (hu : A.units + 1 < cLine) (I : Inv X pins σ H s) (g : DGet H a y o) (ry : RelV y u) (h : ∀ s', Inv X pins σ H s' → Q (.bool (!o.isSome)) s') :
    wpAny (model X.prog X.w) A (compareOp .NotIn u (.ref a)) Q E s := by
  rcases g with ⟨kvs, k, e, ey, l⟩ | ⟨kvs, k, b, e, ey, eb, l⟩
  · subst ey
    obtain ⟨z, hd, vs, rel, dd⟩ := dk_rd I.hok e
    refine wpAny_notIn_of (kV_is ry) hd dd.mapOf ?_
    rw [← (rel.val k).isSome_eq, ← l]
    exact h _ (I.tok _)
  · subst ey
    cases (show u = Value.ref b from ry)
    obtain ⟨z, hd, xs, rel, dd⟩ := dt_rd I.hok e
    refine wpAny_notIn_heap (tupleKind_room_in1 hu) (key_of I.hok eb) hd dd ?_
    have q := (rel.val k).isSome_eq
    rw [Option.isSome_map] at q
    rw [← q, ← l]
    exact h _ (I.tok _)
theorem d_write {h' : Heap} {t' : Nat} {ob : HO} (I : Inv X pins σ H s) (mu : Mut (H a)) (hs : Heap.SameBut a s.heap h') (he : ∃ q, h'.get? a = some q) (new : ObjOk X.prog X.w (upd H a ob) h' a ob) :
    Inv X pins σ (upd H a ob) { s with heap := h', toks := t' } :=
  I.write (x := a) (e := a) mu (.inl rfl) (fun b q hb z => (hs.2 b hb).trans z) he new
theorem dk_new {P : Program} {w : World} {H' : Hp} {h' : Heap} {kvs : List (Key × V)} {vs : List (Key × Value)} (z : kvs.length ≤ sizeLine) (hd : (a == sysModules) = false) (rel : KV kvs vs) (dd : h'.DictOf (mixKind P w) a vs) :
    ObjOk P w H' h' a (.dK kvs) := ⟨z, hd, vs, rel, dd⟩
theorem d_setItem {H' : Hp} {Q : Unit → Shared → Prop} (hu : A.units + 1 < cLine) (I : Inv X pins σ H s) (g : DPut H a y v H') (ry : RelV y u) (rv : RelV v r) (h : ∀ s', Inv X pins σ H' s' → Q () s') :
    wpAny (model X.prog X.w) A (setItem (.ref a) u r) Q E s := by
  rcases g with ⟨kvs, k, e, ey, l, eH⟩ | ⟨kvs, k, b, e, ey, eb, l, eH⟩
  · subst ey eH
    obtain ⟨z, hd, vs, rel, dd⟩ := dk_of I.hok e
    have hz : vs.length ≤ sizeLine := by rw [← rel.length]; exact z
    have hl : (putK kvs k v).length ≤ sizeLine := by have := length_putK kvs k v; omega
    refine wpAny_setItem_pairs (hsz := hz) (kV_is ry) dd fun h' dd' hs => h _ ?_
    have he : ∃ q, h'.get? a = some q := let ⟨q, _, _, hq, _⟩ := dd'; ⟨q, hq⟩
    exact d_write I (by rw [e]; exact True.intro) hs he (dk_new hl hd (rel.put k rv) dd')
  · subst ey eH
    cases (show u = Value.ref b from ry)
    obtain ⟨z, hd, xs, rel, dd⟩ := dt_of I.hok e
    have hz : xs.length ≤ sizeLine := by rw [← Paired.length rel]; exact z
    have hl : (putK kvs k v).length ≤ sizeLine := by have := length_putK kvs k v; omega
    refine wpAny_setItem_heap (hsz := hz) (tupleKind_room_in1 hu) (key_of I.hok eb) dd fun h' dd' hs => h _ ?_
    obtain ⟨q, es, ep, hq, h2, h3, h4, _, h5⟩ := dd'
    refine d_write I (by rw [e]; exact True.intro) hs ⟨q, hq⟩ ⟨hl, hd, _, (rel.put k eb rv).keeps fun c ys ec => ?_, q, es, ep, hq, h2, h3, h4, h5⟩
    rw [upd_ne (ne_of ec e (fun z => nomatch z))]
    exact ec
end

section
variable {X : Cx} {pins : List (Addr × Obj)} {σ : St} {H : Hp} {s : Shared} {a : Addr} {kvs : List (Key × V)} {k : Key} {u : Value} {A : Around} {E : Value → Shared → Prop}
end


noncomputable def NoSl (i : Expr) : Prop := ∀ ov iv, subscripted i false ov iv = operate [ov, iv] (getItem ov iv)
theorem subD_of {prog : Program} {w : World} {A : Around} {E : Value → Shared → Prop} {s : Shared} {env : Env} {value slice : Expr} {pos : Pos} {T id : String} {Q : Value → Shared → Prop}
    (hl : typeLookup (.type T) "__getitem__" = pure (some (.builtin id))) (hs : NoSl slice)
    (h : wpAny (model prog w) A (eval value env) (fun o s₁ => wpAny (model prog w) A (eval slice env) (fun i s₂ => s₂.TypeIs o T ∧ wpAny (model prog w) A (getItem o i) Q E s₂) E s₁) E s) :
    wpAny (model prog w) A (eval (.Subscript value slice pos) env) Q E s := by
  refine Subscript_ (wpAny_mono h (fun o s₁ h₁ => wpAny_mono h₁ (fun i s₂ h₂ => ?_) fun _ _ x => x) fun _ _ x => x)
  obtain ⟨hT, h₂⟩ := h₂
  unfold subscriptTail
  refine wpAny_bind ?_
  rw [getitemInPython_of_ne hT.not_modules]
  refine wpAny_bind (wpAny_specialOf hT hl ?_)
  have fin : wpAny (model prog w) A (subscripted slice false o i) (fun r s₃ => wpAny (model prog w) A (letTemporaryGo value o r >>= fun _ => pure r) Q E s₃) E s₂ := by
    rw [hs o i]
    exact wpAny_operating (wpAny_mono h₂ (fun r s₃ h₃ => wpAny_bind (wpAny_letTemporaryGo (wpAny_pure h₃))) fun _ _ x => x)
  first
    | exact wpAny_pure (wpAny_bind fin)
    | exact wpAny_bind (wpAny_pure (wpAny_bind fin))
    | exact wpAny_bind fin

theorem dict_typeIs {X : Cx} {pins : List (Addr × Obj)} {σ : St} {H : Hp} {s : Shared} {a : Addr} {y : V} {o : Option V} (I : Inv X pins σ H s) (g : DGet H a y o) : s.TypeIs (.ref a) "dict" := by
  rcases g with ⟨kvs, k, e, _, _⟩ | ⟨kvs, k, b, e, _, _, _⟩
  · obtain ⟨_, _, vs, _, dd⟩ := dk_rd I.hok e
    exact dd.typeIs
  · obtain ⟨_, _, xs, _, dd⟩ := dt_rd I.hok e
    exact dd.typeIs
noncomputable def tDGet (td ty : TE) : TE := fun σ H Q => td σ H fun x H1 => ty σ H1 fun y H2 => ∃ a v, x = .ref a ∧ DGet H2 a y (some v) ∧ Q v H2
noncomputable def sDPut (td ty tv : TE) : TS := fun D σ H => tv σ H fun v H1 => td σ H1 fun x H2 => ty σ H2 fun y H3 => ∃ a H4, x = .ref a ∧ DPut H3 a y v H4 ∧ D.nx σ H4
section
variable {X : Cx} {o i e value : Expr} {pos pos' tpos : Pos} {td ty tv : TE}
theorem pe_dget (hu : X.A.units + 1 < cLine) (ho : PE X o td) (hi : PE X i ty) (hs : NoSl i) : PE X (.Subscript o i pos) (tDGet td ty) := by
  intro pins s σ H Q I h
  refine subD_of PySem.F.slot_dict_getitem.lookup hs (thn (ho pins s σ H _ I h) fun u s1 ⟨x, H1, I1, rx, q1⟩ => thn (hi pins s1 σ H1 _ I1 q1) fun iv s2 ⟨y, H2, I2, ry, a, v, ex, g, q2⟩ => ?_)
  subst ex
  obtain rfl : u = Value.ref a := rx
  exact ⟨dict_typeIs I2 g, d_getItem hu I2 g ry fun w' s3 I3 rw' => ⟨v, H2, I3, rw', q2⟩⟩
theorem ps_dput (hu : X.A.units + 1 < cLine) (ho : PE X o td) (hi : PE X i ty) (hv : PE X value tv) (hs : swapsWith value (some (.Subscript o i pos')) pos.line X.env = pure false) :
    PS X (.Assign [.Subscript o i pos'] value pos) (sDPut td ty tv) := by
  intro pins s σ H D I h
  refine wpAny_Assign_Subscript (thn (hv pins s σ H _ I h) fun r s1 ⟨v, H1, I1, rv, q1⟩ => thn (ho pins s1 σ H1 _ I1 q1) fun u s2 ⟨x, H2, I2, rx, q2⟩ => thn (hi pins s2 σ H2 _ I2 q2) fun iv s3 ⟨y, H3, I3, ry, a, H4, ex, g, q3⟩ => ?_) hs
  subst ex
  obtain rfl : u = Value.ref a := rx
  exact d_setItem hu I3 g ry rv fun s4 I4 => ⟨σ, H4, I4, q3⟩
end


theorem dk_empty {P : Program} {w : World} {H : Hp} (h : Heap) (hb : sysModules < h.objs.size) : ObjOk P w H (h.push { cls := .type "dict", data := .dict #[] }) h.objs.size (.dK []) :=
  ⟨Nat.zero_le _, beq_eq_false_iff_ne.mpr (Ne.symm (Nat.ne_of_lt hb)), [], .nil, Heap.DictOf.new h⟩
theorem dt_empty {P : Program} {w : World} {H : Hp} (h : Heap) (hb : sysModules < h.objs.size) : ObjOk P w H (h.push { cls := .type "dict", data := .dict #[] }) h.objs.size (.dT []) :=
  ⟨Nat.zero_le _, beq_eq_false_iff_ne.mpr (Ne.symm (Nat.ne_of_lt hb)), [], .nil, _, #[], 0, Heap.get?_push_size _ rfl, ⟨rfl, rfl, rfl⟩, rfl, rfl, List.nodup_nil⟩
noncomputable def tDNewK : TE := fun _ H Q => ∀ p, H p = none → Q (.ref p) (upd H p (.dK []))
section
variable {X : Cx} {pos : Pos}
theorem pe_dnewK : PE X (.Dict [] [] pos) tDNewK := fun pins s σ H Q I h =>
  wpAny_Dict_empty ⟨.ref s.heap.objs.size, _, I.laid (a := s.heap.objs.size) (o := .dK []) (t' := s.toks) (fun _ _ q => Heap.get?_push_of_some _ q) (Nat.le_refl _) (dk_empty s.heap I.big), rfl, h _ (I.hok.fresh (Nat.le_refl _))⟩
end

noncomputable def tPairs : List (TE × TE) → St → Hp → (List (V × V) → Hp → Prop) → Prop
  | [], _, H, Q => Q [] H
  | (tk, tv) :: r, σ, H, Q => tk σ H fun x H1 => tv σ H1 fun y H2 => tPairs r σ H2 fun ps H3 => Q ((x, y) :: ps) H3
noncomputable abbrev VV : List (V × V) → List (Value × Value) → Prop := Paired fun p q => RelV p.1 q.1 ∧ RelV p.2 q.2
noncomputable def PPs (X : Cx) (pos : Pos) (keys : List (Option Expr)) (values : List Expr) (trs : List (TE × TE)) : Prop :=
  ∀ (pins : List (Addr × Obj)) (s : Shared) (σ : St) (H : Hp) (Q : List (V × V) → Hp → Prop), Inv X pins σ H s → tPairs trs σ H Q →
    wpAny (model X.prog X.w) X.A (evalPairs (pairTrees keys values X.env pos)) (fun vs s' => ∃ ps H', Inv X pins σ H' s' ∧ VV ps vs ∧ Q ps H') X.xe s
structure M1 (X : Cx) (o : Expr) (m : Str) (apos : Pos) (e : Expr) (cpos : Pos) : Prop where
  base : attributeBase o m X.env (eval o X.env) = eval o X.env
  few : ((backTo cpos (starEach [e] X.env)).all (fun x => !x.1) && (backToKw cpos (keywordEach [] X.env)).all (fun x => x.1.isSome)
    && decide (([e] : List Expr).length + ([] : List Keyword).length + (if ([] : List Keyword).isEmpty then 0 else 1) < 30)) = true
  line : (apos.endLine == cpos.line) = true
  trees : backTo cpos (starEach [e] X.env) = [(false, eval e X.env)]
structure M2 (X : Cx) (o : Expr) (m : Str) (apos : Pos) (e f : Expr) (cpos : Pos) : Prop where
  base : attributeBase o m X.env (eval o X.env) = eval o X.env
  few : ((backTo cpos (starEach [e, f] X.env)).all (fun x => !x.1) && (backToKw cpos (keywordEach [] X.env)).all (fun x => x.1.isSome)
    && decide (([e, f] : List Expr).length + ([] : List Keyword).length + (if ([] : List Keyword).isEmpty then 0 else 1) < 30)) = true
  line : (apos.endLine == cpos.line) = true
  trees : backTo cpos (starEach [e, f] X.env) = [(false, eval e X.env), (false, eval f X.env)]

noncomputable def IsD (H : Hp) (a : Addr) : Prop := (∃ kvs, Rd H a (.dK kvs)) ∨ ∃ kvs, Rd H a (.dT kvs)
theorem isD_at {X : Cx} {pins : List (Addr × Obj)} {σ : St} {H : Hp} {s : Shared} {a : Addr} (I : Inv X pins σ H s) (d : IsD H a) :
    s.TypeIs (.ref a) "dict" ∧ (∀ b, Value.ref a = .ref b → ∃ ob, s.heap.get? b = some ob ∧ ob.dict = none) ∧ (a == sysModules) = false := by
  rcases d with ⟨kvs, e⟩ | ⟨kvs, e⟩
  · obtain ⟨_, hd, vs, _, dd⟩ := dk_rd I.hok e
    refine ⟨dd.typeIs, fun b q => ?_, hd⟩
    cases q
    obtain ⟨ob, _, _, h1, h2, _⟩ := dd
    exact ⟨ob, h1, h2.2.1⟩
  · obtain ⟨_, hd, xs, _, dd⟩ := dt_rd I.hok e
    refine ⟨dd.typeIs, fun b q => ?_, hd⟩
    cases q
    obtain ⟨ob, _, _, h1, h2, _⟩ := dd
    exact ⟨ob, h1, h2.2.1⟩

section
variable {X : Cx} {pins : List (Addr × Obj)} {σ : St} {H : Hp} {s : Shared} {a : Addr} {y d : V} {u r : Value} {o : Option V} {A : Around} {E : Value → Shared → Prop}
theorem d_get1 {Q : Value → Shared → Prop} (hu : A.units + 1 < cLine) (I : Inv X pins σ H s) (g : DGet H a y o) (ry : RelV y u) (h : ∀ w' s', Inv X pins σ H s' → RelV (o.getD .non) w' → Q w' s') :
    wpAny (model X.prog X.w) A (call (.builtin "dict.get") [.ref a, u]) Q E s := by
  rcases g with ⟨kvs, k, e, ey, l⟩ | ⟨kvs, k, b, e, ey, eb, l⟩
  · subst ey
    obtain ⟨z, hd, vs, rel, dd⟩ := dk_rd I.hok e
    refine call_meetsIn PySem.F.slot_dict_get dd.typeIs PySem.F.entry_dict_get (PySem.F.args_dict_get_2 _ _) (meets_dict_get (mixKind X.prog X.w) a (kV_is ry) hd) ⟨_, dd.mapOf, h _ _ (I.tok _) ?_⟩
    rw [l]
    exact (rel.val k).getD rfl
  · subst ey
    cases (show u = Value.ref b from ry)
    obtain ⟨z, hd, xs, rel, dd⟩ := dt_rd I.hok e
    refine call_meetsIn PySem.F.slot_dict_get dd.typeIs PySem.F.entry_dict_get (PySem.F.args_dict_get_2 _ _) (meetsH_dict_get (tupleKind (mixKind X.prog X.w)) a b hd) ⟨tupleKind_room_in1 hu, k, xs, key_of I.hok eb, dd, h _ _ (I.tok _) ?_⟩
    rw [l]
    exact (rel.val k).getD rfl
end

noncomputable def tDGet1 (td ty : TE) : TE := fun σ H Q => td σ H fun x H1 => ∃ a, x = .ref a ∧ IsD H1 a ∧ ty σ H1 fun y H2 => ∃ o, DGet H2 a y o ∧ Q (o.getD .non) H2
section
variable {X : Cx} {o e f : Expr} {apos cpos : Pos} {td ty tx : TE}
theorem pe_dget1 (hu : X.A.units + 1 < cLine) (ho : PE X o td) (he : PE X e ty) (m : M1 X o "get" apos e cpos) : PE X (.Call (.Attribute o "get" apos) [e] [] cpos) (tDGet1 td ty) := by
  intro pins s σ H Q I h
  refine wpAny_Call_method m.base m.few m.line PySem.F.plainAttrs_dict PySem.F.slot_dict_get PySem.F.type_dict_get (thn (ho pins s σ H _ I h) fun u s1 ⟨x, H1, I1, rx, a, ex, d, q1⟩ => ?_)
  subst ex
  obtain rfl : u = Value.ref a := rx
  obtain ⟨t1, t2, _⟩ := isD_at I1 d
  refine ⟨t1, t2, ?_⟩
  rw [m.trees]
  refine Calls.callWith_builtin rfl (Calls.evalArgs_plain (Calls.spliced_cons (thn (he pins s1 σ H1 _ I1 q1) fun iv s2 ⟨y, H2, I2, ry, ov, g, q2⟩ => Calls.spliced_nil ?_)))
  exact d_get1 hu I2 g ry fun w' s3 I3 rw' => ⟨_, H2, I3, rw', q2⟩
end

section
variable {X : Cx} {pins : List (Addr × Obj)} {σ : St} {H : Hp} {s : Shared} {a : Addr} {kvs : List (Key × V)} {A : Around} {E : Value → Shared → Prop}
end


section
variable {X : Cx} {pins : List (Addr × Obj)} {σ : St} {H : Hp} {s : Shared} {a : Addr} {y : V} {u : Value} {A : Around} {E : Value → Shared → Prop}
end
end L2

namespace L2.MP
open PySem PySem.Spec PyProof.Rows

inductive PV where
  | non | bl (b : Bool) | int (i : Int) | str (x : Str) | ty (n : String)
  | tup (l : List PV) | lst (l : List PV) | dk (l : List (Key × PV)) | dt (l : List (List Key × PV))
  | exc (c : Str) (fs : List (Str × PV))
noncomputable instance : Inhabited PV := ⟨.non⟩
noncomputable def PV.flat : PV → Bool
  | .non | .bl _ | .int _ | .str _ | .ty _ => true
  | _ => false
noncomputable def stillN : Nat → PV → Bool
  | 0, p => p.flat
  | n + 1, .tup l => l.all (stillN n)
  | _ + 1, p => p.flat
noncomputable def PV.still (p : PV) : Bool := stillN 5 p
inductive Res (α : Type) where
  | ok (a : α) | ex (z : PV)
noncomputable def bnd {α β : Type} (x : Option (Res α)) (k : α → Option (Res β)) : Option (Res β) := match x with
  | some (.ok a) => k a
  | some (.ex z) => some (.ex z)
  | none => none
noncomputable def XO (e C : Addr) (d : Option Addr) : HO := .ext fun h => ∃ vs : Array Value, h.get? e = some { cls := .ref C, dict := d, data := .fields vs }
structure XNm (K : PySem.W.Frag) (C : Addr) (c : Str) : Prop where
  ns : PySem.W.nsIn K mainGlobals c = some (some (.ref C))
  cl : ∃ cd, PySem.W.clsIn K C = some cd ∧ cd.name = c

inductive Rep (K : PySem.W.Frag) (F : Hp) : V → PV → Prop
  | non : Rep K F .non .non
  | bl {b : Bool} : Rep K F (.bl b) (.bl b)
  | int {i : Int} : Rep K F (.int i) (.int i)
  | str {x : Str} : Rep K F (.str x) (.str x)
  | ty {n : String} : Rep K F (.ty n) (.ty n)
  | tup {a : Addr} {xs : List V} {l : List PV} (h : F a = some (.tup xs)) (hl : xs.length = l.length) (hr : ∀ (j : Nat) x p, xs[j]? = some x → l[j]? = some p → Rep K F x p) : Rep K F (.ref a) (.tup l)
  | lst {a : Addr} {xs : List V} {l : List PV} (h : SqL K F a xs) (hl : xs.length = l.length) (hr : ∀ (j : Nat) x p, xs[j]? = some x → l[j]? = some p → Rep K F x p) : Rep K F (.ref a) (.lst l)
  | dk {a : Addr} {xs : List (Key × V)} {l : List (Key × PV)} (h : Rd F a (.dK xs)) (hl : xs.map (·.1) = l.map (·.1)) (hr : ∀ (j : Nat) x p, xs[j]? = some x → l[j]? = some p → Rep K F x.2 p.2) : Rep K F (.ref a) (.dk l)
  | dt {a : Addr} {xs : List (List Key × V)} {l : List (List Key × PV)} (h : Rd F a (.dT xs)) (hl : xs.map (·.1) = l.map (·.1)) (hr : ∀ (j : Nat) x p, xs[j]? = some x → l[j]? = some p → Rep K F x.2 p.2) : Rep K F (.ref a) (.dt l)
  | exc {a C dx : Addr} {c : Str} {xs : List (Str × V)} {l : List (Str × PV)} (nm : XNm K C c) (h : F a = some (XO a C (some dx))) (hd : F dx = some (.xd xs)) (hl : xs.map (·.1) = l.map (·.1)) (hr : ∀ (j : Nat) x p, xs[j]? = some x → l[j]? = some p → Rep K F x.2 p.2) : Rep K F (.ref a) (.exc c l)
  | exc0 {a C : Addr} {c : Str} (nm : XNm K C c) (h : F a = some (XO a C none)) : Rep K F (.ref a) (.exc c [])
noncomputable def Reps (K : PySem.W.Frag) (F : Hp) (xs : List V) (l : List PV) : Prop := xs.length = l.length ∧ ∀ (j : Nat) x p, xs[j]? = some x → l[j]? = some p → Rep K F x p

section
variable {K : PySem.W.Frag} {F F' H H' : Hp} {v : V} {p : PV} {xs ys : List V} {l m : List PV}
theorem _root_.L2.Rd.same {F F' : Hp} {a : Addr} {u : HO} (h : Rd F a u) (s : Same F F') : Rd F' a u := h.imp (s _ _) fun ⟨o, e⟩ => ⟨o, s _ _ e⟩
theorem Rep.up (h : Rep K F v p) (s : Same F F') : Rep K F' v p := by
  induction h with
  | non => exact .non
  | bl => exact .bl
  | int => exact .int
  | str => exact .str
  | ty => exact .ty
  | tup h hl _ ih => exact .tup (s _ _ h) hl ih
  | lst h hl _ ih => exact .lst (s.seq h) hl ih
  | dk h hl _ ih => exact .dk (h.same s) hl ih
  | dt h hl _ ih => exact .dt (h.same s) hl ih
  | exc nm h hd hl _ ih => exact .exc nm (s _ _ h) (s _ _ hd) hl ih
  | exc0 nm h => exact .exc0 nm (s _ _ h)
theorem Reps.up (h : Reps K F xs l) (s : Same F F') : Reps K F' xs l := ⟨h.1, fun j x p a b => (h.2 j x p a b).up s⟩
theorem Rep.free (h : Rep K F v p) (hf : p.flat = true) : Rep K F' v p := by
  cases h with
  | non => exact .non
  | bl => exact .bl
  | int => exact .int
  | str => exact .str
  | ty => exact .ty
  | tup => cases hf
  | lst => cases hf
  | dk => cases hf
  | dt => cases hf
  | exc => cases hf
  | exc0 => cases hf
theorem Reps.nil : Reps K F [] [] := ⟨rfl, fun j x p h => by simp at h⟩
theorem Reps.cons (h : Rep K F v p) (t : Reps K F xs l) : Reps K F (v :: xs) (p :: l) := by
  refine ⟨by simp [t.1], fun j x q a b => ?_⟩
  cases j with
  | zero => simp at a b; subst a b; exact h
  | succ j => exact t.2 j x q (by simpa using a) (by simpa using b)
theorem Reps.append (h : Reps K F xs l) (t : Reps K F ys m) : Reps K F (xs ++ ys) (l ++ m) := by
  refine ⟨by rw [List.length_append, List.length_append, h.1, t.1], fun j x p a b => ?_⟩
  by_cases hj : j < xs.length
  · rw [List.getElem?_append_left hj] at a
    rw [List.getElem?_append_left (by rw [← h.1]; exact hj)] at b
    exact h.2 j x p a b
  · rw [List.getElem?_append_right (by omega)] at a
    rw [List.getElem?_append_right (by rw [← h.1]; omega), ← h.1] at b
    exact t.2 _ x p a b
theorem Reps.snoc (h : Reps K F xs l) (t : Rep K F v p) : Reps K F (xs ++ [v]) (l ++ [p]) := h.append (Reps.nil.cons t)
theorem Reps.get (h : Reps K F xs l) {j : Nat} (e : l[j]? = some p) : ∃ x, xs[j]? = some x ∧ Rep K F x p := by
  have hj : j < xs.length := by rw [h.1]; exact (List.getElem?_eq_some_iff.mp e).1
  exact ⟨xs[j], by simp [hj], h.2 j _ p (by simp [hj]) e⟩
theorem Reps.got (h : Reps K F xs l) {j : Nat} (e : xs[j]? = some v) : ∃ p, l[j]? = some p ∧ Rep K F v p := by
  have hj : j < l.length := by rw [← h.1]; exact (List.getElem?_eq_some_iff.mp e).1
  exact ⟨l[j], by simp [hj], h.2 j v _ e (by simp [hj])⟩
theorem Reps.take (h : Reps K F xs l) (n : Nat) : Reps K F (xs.take n) (l.take n) := by
  refine ⟨by simp [h.1], fun j x p a b => ?_⟩
  rw [List.getElem?_take] at a b
  split at a
  · rename_i hj
    rw [if_pos hj] at b
    exact h.2 j x p a b
  · cases a
theorem Reps.drop (h : Reps K F xs l) (n : Nat) : Reps K F (xs.drop n) (l.drop n) := by
  refine ⟨by simp [h.1], fun j x p a b => ?_⟩
  rw [List.getElem?_drop] at a b
  exact h.2 _ x p a b
theorem Reps.set (h : Reps K F xs l) (t : Rep K F v p) (i : Nat) : Reps K F (xs.set i v) (l.set i p) := by
  refine ⟨by simp [h.1], fun j x q a b => ?_⟩
  rw [List.getElem?_set] at a b
  by_cases hj : i = j
  · subst hj
    rw [if_pos rfl] at a b
    split at a
    · rename_i hl
      rw [if_pos (by rw [← h.1]; exact hl)] at b
      cases a; cases b; exact t
    · cases a
  · rw [if_neg hj] at a b
    exact h.2 j x q a b
theorem Reps.inv_cons (h : Reps K F xs (p :: l)) : ∃ v ys, xs = v :: ys ∧ Rep K F v p ∧ Reps K F ys l := by
  obtain ⟨hl, hr⟩ := h
  match xs, hl, hr with
  | [], hl, _ => simp at hl
  | v :: ys, hl, hr => exact ⟨v, ys, rfl, hr 0 v p rfl rfl, by simpa using hl, fun j x q a b => hr (j + 1) x q (by simpa using a) (by simpa using b)⟩
theorem Reps.inv_nil (h : Reps K F xs []) : xs = [] := by
  have := h.1
  simpa using this
theorem Reps.of_ints : ∀ (ns : List Int), Reps K F (ns.map V.int) (ns.map PV.int)
  | [] => .nil
  | n :: ns => (Reps.of_ints ns).cons .int
theorem Rep.inv_int {i : Int} (h : Rep K F v (.int i)) : v = .int i := by cases h; rfl
theorem Rep.inv_bl {b : Bool} (h : Rep K F v (.bl b)) : v = .bl b := by cases h; rfl
theorem Rep.inv_str {z : Str} (h : Rep K F v (.str z)) : v = .str z := by cases h; rfl
theorem Rep.inv_non (h : Rep K F v .non) : v = .non := by cases h; rfl
theorem Rep.inv_tup (h : Rep K F v (.tup l)) : ∃ a xs, v = .ref a ∧ SqT K F a xs ∧ Reps K F xs l := by cases h with | tup h hl hr => exact ⟨_, _, rfl, SqT.of h, hl, hr⟩
theorem Rep.inv_tupF (h : Rep K F v (.tup l)) : ∃ a xs, v = .ref a ∧ F a = some (.tup xs) ∧ Reps K F xs l := by cases h with | tup h hl hr => exact ⟨_, _, rfl, h, hl, hr⟩
theorem Rep.inv_lst (h : Rep K F v (.lst l)) : ∃ a xs, v = .ref a ∧ SqL K F a xs ∧ Reps K F xs l := by cases h with | lst h hl hr => exact ⟨_, _, rfl, h, hl, hr⟩
end

structure Cf where
  io : Addr → Prop
  nw : Prop
  H0 : Hp
  F0 : Hp
  E : XK
inductive Sl where
  | sh (p : PV) | ow (p : PV) | dp (p : PV)
noncomputable abbrev Rho := List (Option Sl)

noncomputable def Own (K : PySem.W.Frag) (F H : Hp) (a : Addr) : PV → Prop
  | .lst l => ∃ xs, H a = some (.lst xs) ∧ Reps K F xs l
  | .dk l => ∃ xs, H a = some (.dK xs) ∧ xs.map (·.1) = l.map (·.1) ∧ ∀ (j : Nat) x p, xs[j]? = some x → l[j]? = some p → Rep K F x.2 p.2
  | .dt l => ∃ xs, H a = some (.dT xs) ∧ xs.map (·.1) = l.map (·.1) ∧ ∀ (j : Nat) x p, xs[j]? = some x → l[j]? = some p → Rep K F x.2 p.2
  | _ => False
inductive Dp (K : PySem.W.Frag) (F H : Hp) : (Addr → Prop) → V → PV → Prop
  | fr {P : Addr → Prop} {v : V} {p : PV} (h : Rep K F v p) (st : p.still = true) : Dp K F H P v p
  | lst {P : Addr → Prop} {S : Nat → Addr → Prop} {a : Addr} {xs : List V} {l : List PV} (h : H a = some (.lst xs)) (hp : P a) (hs : ∀ j b, S j b → P b ∧ b ≠ a) (dj : ∀ i j b, S i b → S j b → i = j) (hl : xs.length = l.length)
      (hr : ∀ (j : Nat) x p, xs[j]? = some x → l[j]? = some p → Dp K F H (S j) x p) : Dp K F H P (.ref a) (.lst l)
  | tup {P : Addr → Prop} {S : Nat → Addr → Prop} {a : Addr} {xs : List V} {l : List PV} (h : H a = some (.tup xs)) (hs : ∀ j b, S j b → P b) (dj : ∀ i j b, S i b → S j b → i = j) (hl : xs.length = l.length)
      (hr : ∀ (j : Nat) x p, xs[j]? = some x → l[j]? = some p → Dp K F H (S j) x p) : Dp K F H P (.ref a) (.tup l)
  | dk {P : Addr → Prop} {S : Nat → Addr → Prop} {a : Addr} {xs : List (Key × V)} {l : List (Key × PV)} (h : H a = some (.dK xs)) (hp : P a) (hs : ∀ j b, S j b → P b ∧ b ≠ a) (dj : ∀ i j b, S i b → S j b → i = j) (hl : xs.map (·.1) = l.map (·.1))
      (hr : ∀ (j : Nat) x p, xs[j]? = some x → l[j]? = some p → Dp K F H (S j) x.2 p.2) : Dp K F H P (.ref a) (.dk l)
  | dt {P : Addr → Prop} {S : Nat → Addr → Prop} {a : Addr} {xs : List (List Key × V)} {l : List (List Key × PV)} (h : H a = some (.dT xs)) (hp : P a) (hs : ∀ j b, S j b → P b ∧ b ≠ a) (dj : ∀ i j b, S i b → S j b → i = j) (hl : xs.map (·.1) = l.map (·.1))
      (hr : ∀ (j : Nat) x p, xs[j]? = some x → l[j]? = some p → Dp K F H (S j) x.2 p.2) : Dp K F H P (.ref a) (.dt l)
section
variable {K : PySem.W.Frag} {F F' H H' : Hp} {v : V} {p : PV} {P P' : Addr → Prop}
theorem Dp.mono (h : Dp K F H P v p) (m : ∀ b, P b → P' b) : Dp K F H P' v p := by
  cases h with
  | fr h st => exact .fr h st
  | lst h hp hs dj hl hr => exact .lst h (m _ hp) (fun j b q => ⟨m _ (hs j b q).1, (hs j b q).2⟩) dj hl hr
  | tup h hs dj hl hr => exact .tup h (fun j b q => m _ (hs j b q)) dj hl hr
  | dk h hp hs dj hl hr => exact .dk h (m _ hp) (fun j b q => ⟨m _ (hs j b q).1, (hs j b q).2⟩) dj hl hr
  | dt h hp hs dj hl hr => exact .dt h (m _ hp) (fun j b q => ⟨m _ (hs j b q).1, (hs j b q).2⟩) dj hl hr
theorem Dp.up (h : Dp K F H P v p) (sf : Same F F') (sh : ∀ b o, P b → H b = some o → H' b = some o) (ht : ∀ b ys, H b = some (.tup ys) → H' b = some (.tup ys)) : Dp K F' H' P v p := by
  induction h with
  | fr h st => exact .fr (h.up sf) st
  | lst h hp hs dj hl _ ih => exact .lst (sh _ _ hp h) hp hs dj hl fun j x p e1 e2 => ih j x p e1 e2 fun b o q => sh b o (hs j b q).1
  | tup h hs dj hl _ ih => exact .tup (ht _ _ h) hs dj hl fun j x p e1 e2 => ih j x p e1 e2 fun b o q => sh b o (hs j b q)
  | dk h hp hs dj hl _ ih => exact .dk (sh _ _ hp h) hp hs dj hl fun j x p e1 e2 => ih j x p e1 e2 fun b o q => sh b o (hs j b q).1
  | dt h hp hs dj hl _ ih => exact .dt (sh _ _ hp h) hp hs dj hl fun j x p e1 e2 => ih j x p e1 e2 fun b o q => sh b o (hs j b q).1
theorem Dp.seen (h : Dp K F H P v p) (sf : Same F F') (sh : ∀ b o, P b → H b = some o → F' b = some o) (ht : ∀ b ys, H b = some (.tup ys) → F' b = some (.tup ys)) : Rep K F' v p := by
  induction h with
  | fr h st => exact h.up sf
  | lst h hp hs dj hl _ ih => exact .lst (SqL.of (sh _ _ hp h)) hl fun j x p e1 e2 => ih j x p e1 e2 fun b o q => sh b o (hs j b q).1
  | tup h hs dj hl _ ih => exact .tup (ht _ _ h) hl fun j x p e1 e2 => ih j x p e1 e2 fun b o q => sh b o (hs j b q)
  | dk h hp hs dj hl _ ih => exact .dk (.inl (sh _ _ hp h)) hl fun j x p e1 e2 => ih j x p e1 e2 fun b o q => sh b o (hs j b q).1
  | dt h hp hs dj hl _ ih => exact .dt (.inl (sh _ _ hp h)) hl fun j x p e1 e2 => ih j x p e1 e2 fun b o q => sh b o (hs j b q).1
theorem Dp.lent (h : Dp K F H P v p) (s : Same F H) : Rep K H v p := h.seen s (fun _ _ _ e => e) fun _ _ e => e
end
structure RD (K : PySem.W.Frag) (C : Cf) (F H : Hp) (σ : St) (ρ : Rho) (P : Nat → Addr → Prop) : Prop where
  own : ∀ i b, P i b → F b = none ∧ (∃ o, H b = some o ∧ ∀ ys, o ≠ .tup ys) ∧ C.nw ∧ C.H0 b = none
  dis : ∀ i j b, P i b → P j b → i = j
  ow : ∀ (i j : Nat) q b, P i b → ρ[j]? = some (some (.ow q)) → σ[j]? ≠ some (some (.ref b))
  dp : ∀ (i : Nat) p, ρ[i]? = some (some (.dp p)) → ∃ v, σ[i]? = some (some v) ∧ Dp K F H (P i) v p
theorem RD.no {K : PySem.W.Frag} {C : Cf} {F H : Hp} {σ : St} {ρ : Rho} (h : ∀ (i : Nat) p, ρ[i]? ≠ some (some (.dp p))) : RD K C F H σ ρ (fun _ _ => False) :=
  ⟨fun _ _ q => q.elim, fun _ _ _ q => q.elim, fun _ _ _ _ q => q.elim, fun i p e => absurd e (h i p)⟩
noncomputable def Frz (H : Hp) (b : Addr) (o : HO) : Prop := H b = none ∨ ∃ ys, o = .tup ys
structure RB (C : Cf) (F H : Hp) : Prop where
  sub : Same F H
  keep : ∀ b o, C.H0 b = some o → ¬ C.io b → H b = some o
  new : ∀ b o, F b = some o → C.F0 b = some o ∨ Frz C.H0 b o
  ios : ∀ b, C.io b → H b ≠ none ∧ C.H0 b ≠ none
structure RE (K : PySem.W.Frag) (C : Cf) (F H : Hp) (σ : St) (ρ : Rho) : Prop where
  rb : RB C F H
  len : σ.length = ρ.length
  sh : ∀ (i : Nat) p, ρ[i]? = some (some (.sh p)) → ∃ v, σ[i]? = some (some v) ∧ Rep K F v p
  ow : ∀ (i : Nat) p, ρ[i]? = some (some (.ow p)) → ∃ a, σ[i]? = some (some (.ref a)) ∧ Own K F H a p ∧ F a = none ∧ (C.io a ∨ (C.nw ∧ C.H0 a = none))
  dis : ∀ (i j : Nat) p q a, ρ[i]? = some (some (.ow p)) → ρ[j]? = some (some (.ow q)) → σ[i]? = some (some (.ref a)) → σ[j]? = some (some (.ref a)) → i = j
  dd : ∃ P, RD K C F H σ ρ P
structure Up (F H F' H' : Hp) : Prop where
  ff : Same F F'
  hh : Same H H'
  fr : ∀ b o, F' b = some o → F b = some o ∨ Frz H b o
  fh : Same F' H'
section
variable {K : PySem.W.Frag} {C : Cf} {F F1 F2 F' H H1 H2 H' : Hp} {σ σ' : St} {ρ ρ' : Rho} {a : Addr} {p : PV} {v : V}
theorem Up.refl (s : Same F H) : Up F H F H := ⟨Same.refl _, Same.refl _, fun _ _ h => .inl h, s⟩
theorem Up.trans (a : Up F H F1 H1) (b : Up F1 H1 F2 H2) : Up F H F2 H2 :=
  ⟨a.ff.trans b.ff, a.hh.trans b.hh, fun c o h => (b.fr c o h).elim (a.fr c o) fun n => .inr (n.imp (fun n => a.hh.free n) id), b.fh⟩
theorem Own.ne (h : Own K F H a p) : ∃ o, H a = some o := by
  cases p with
  | lst l => obtain ⟨xs, e, _⟩ := h; exact ⟨_, e⟩
  | dk l => obtain ⟨xs, e, _⟩ := h; exact ⟨_, e⟩
  | dt l => obtain ⟨xs, e, _⟩ := h; exact ⟨_, e⟩
  | _ => exact h.elim
theorem Own.noTup {ys : List V} (h : Own K F H a p) (e : H a = some (.tup ys)) : False := by
  cases p with
  | lst l => obtain ⟨xs, e', _⟩ := h; rw [e] at e'; cases e'
  | dk l => obtain ⟨xs, e', _⟩ := h; rw [e] at e'; cases e'
  | dt l => obtain ⟨xs, e', _⟩ := h; rw [e] at e'; cases e'
  | _ => exact h.elim
theorem RD.up {P : Nat → Addr → Prop} (d : RD K C F H σ ρ P) (u : Up F H F' H') : RD K C F' H' σ ρ P where
  own := fun i b q => by
    obtain ⟨a1, ⟨o', a2, a3⟩, a4⟩ := d.own i b q
    refine ⟨?_, ⟨o', u.hh _ _ a2, a3⟩, a4⟩
    cases e : F' b with
    | none => rfl
    | some o =>
      rcases u.fr b o e with z | z | ⟨ys, z⟩
      · rw [a1] at z; cases z
      · rw [a2] at z; cases z
      · subst z
        have w := u.fh _ _ e
        rw [u.hh _ _ a2] at w
        cases w
        exact absurd rfl (a3 ys)
  dis := d.dis
  ow := d.ow
  dp := fun i p e => let ⟨v, e1, e2⟩ := d.dp i p e; ⟨v, e1, e2.up u.ff (fun b o _ q => u.hh b o q) fun b ys q => u.hh b _ q⟩
theorem Own.up (h : Own K F H a p) (sf : Same F F') (sh : ∀ o, H a = some o → H' a = some o) : Own K F' H' a p := by
  cases p with
  | lst l => obtain ⟨xs, e, r⟩ := h; exact ⟨xs, sh _ e, r.up sf⟩
  | dk l => obtain ⟨xs, e, r, q⟩ := h; exact ⟨xs, sh _ e, r, fun j x p a b => (q j x p a b).up sf⟩
  | dt l => obtain ⟨xs, e, r, q⟩ := h; exact ⟨xs, sh _ e, r, fun j x p a b => (q j x p a b).up sf⟩
  | _ => exact h.elim
theorem Own.frozen (h : Own K F H a p) (hn : F a = none) : ∃ o, H a = some o ∧ Rep K (upd F a o) (.ref a) p := by
  have s : ∀ o, Same F (upd F a o) := fun o => same_upd hn
  cases p with
  | lst l => obtain ⟨xs, e, r⟩ := h; exact ⟨_, e, .lst (SqL.of upd_same) r.1 (r.up (s _)).2⟩
  | dk l => obtain ⟨xs, e, r, q⟩ := h; exact ⟨_, e, .dk (.inl upd_same) r fun j x p a b => (q j x p a b).up (s _)⟩
  | dt l => obtain ⟨xs, e, r, q⟩ := h; exact ⟨_, e, .dt (.inl upd_same) r fun j x p a b => (q j x p a b).up (s _)⟩
  | _ => exact h.elim
theorem Own.lent (h : Own K F H a p) (s : Same F H) : Rep K H (.ref a) p := by
  cases p with
  | lst l => obtain ⟨xs, e, r⟩ := h; exact .lst (SqL.of e) r.1 (r.up s).2
  | dk l => obtain ⟨xs, e, r, q⟩ := h; exact .dk (.inl e) r fun j x p a b => (q j x p a b).up s
  | dt l => obtain ⟨xs, e, r, q⟩ := h; exact .dt (.inl e) r fun j x p a b => (q j x p a b).up s
  | _ => exact h.elim
theorem RB.up (h : RB C F H) (u : Up F H F' H') : RB C F' H' where
  sub := u.fh
  keep := fun b o e n => u.hh _ _ (h.keep b o e n)
  new := fun b o e => (u.fr b o e).elim (h.new b o) fun n => .inr (n.imp (fun n => by
    cases q : C.H0 b with
    | none => rfl
    | some o' =>
      by_cases hi : C.io b
      · exact absurd n (h.ios b hi).1
      · rw [h.keep b o' q hi] at n; cases n) id)
  ios := fun b hb => ⟨fun n => (h.ios b hb).1 (u.hh.free n), (h.ios b hb).2⟩
theorem RB.free0 (h : RB C F H) {b : Addr} (n : H b = none) : C.H0 b = none := by
  cases q : C.H0 b with
  | none => rfl
  | some o' =>
    by_cases hi : C.io b
    · exact absurd n (h.ios b hi).1
    · rw [h.keep b o' q hi] at n; cases n
theorem RE.up (h : RE K C F H σ ρ) (u : Up F H F' H') : RE K C F' H' σ ρ where
  rb := h.rb.up u
  len := h.len
  sh := fun i p e => let ⟨v, e1, e2⟩ := h.sh i p e; ⟨v, e1, e2.up u.ff⟩
  ow := fun i p e => by
    obtain ⟨a, e1, e2, e3, e4⟩ := h.ow i p e
    refine ⟨a, e1, e2.up u.ff fun o q => u.hh _ _ q, ?_, e4⟩
    cases q : F' a with
    | none => rfl
    | some o =>
      obtain ⟨o', eo⟩ := e2.ne
      rcases u.fr a o q with z | z | ⟨ys, z⟩
      · rw [e3] at z; cases z
      · rw [eo] at z; cases z
      · subst z
        exact absurd (u.fh _ _ q) (fun w => by rw [u.hh _ _ eo] at w; cases w; exact e2.noTup eo)
  dis := h.dis
  dd := let ⟨P, d⟩ := h.dd; ⟨P, d.up u⟩
theorem get_set {α : Type} {l : List α} {i j : Nat} {x y : α} (h : (l.set i x)[j]? = some y) : (i = j ∧ x = y) ∨ (i ≠ j ∧ l[j]? = some y) := by
  rw [List.getElem?_set] at h
  by_cases e : i = j
  · subst e
    rw [if_pos rfl] at h
    split at h
    · exact .inl ⟨rfl, Option.some.inj h⟩
    · cases h
  · rw [if_neg e] at h
    exact .inr ⟨e, h⟩
theorem lt_of_get {α : Type} {l : List α} {j : Nat} {y : α} (h : l[j]? = some y) : j < l.length := (List.getElem?_eq_some_iff.mp h).1
theorem RE.set (h : RE K C F H σ ρ) (i : Nat) (r : Rep K F v p) : RE K C F H (σ.set i (some v)) (ρ.set i (some (.sh p))) where
  rb := h.rb
  len := by simp [h.len]
  sh := fun j q e => by
    rcases get_set e with ⟨e1, e2⟩ | ⟨e1, e2⟩
    · subst e1
      cases e2
      have := lt_of_get e
      exact ⟨v, by rw [List.getElem?_set_self (by rw [h.len]; simpa using this)], r⟩
    · obtain ⟨w, e3, e4⟩ := h.sh j q e2
      exact ⟨w, by rw [List.getElem?_set_ne e1]; exact e3, e4⟩
  ow := fun j q e => by
    rcases get_set e with ⟨e1, e2⟩ | ⟨e1, e2⟩
    · cases e2
    · obtain ⟨w, e3, e4⟩ := h.ow j q e2
      exact ⟨w, by rw [List.getElem?_set_ne e1]; exact e3, e4⟩
  dis := fun j k q q' a e e' f f' => by
    rcases get_set e with ⟨e1, e2⟩ | ⟨e1, e2⟩
    · cases e2
    · rcases get_set e' with ⟨e1', e2'⟩ | ⟨e1', e2'⟩
      · cases e2'
      · rw [List.getElem?_set_ne e1] at f
        rw [List.getElem?_set_ne e1'] at f'
        exact h.dis j k q q' a e2 e2' f f'
  dd := let ⟨P, d⟩ := h.dd; ⟨P, d.own, d.dis, fun j k q b z e f => by
      rcases get_set e with ⟨e1, e2⟩ | ⟨e1, e2⟩
      · cases e2
      · rw [List.getElem?_set_ne e1] at f; exact d.ow j k q b z e2 f, fun j q e => by
      rcases get_set e with ⟨e1, e2⟩ | ⟨e1, e2⟩
      · cases e2
      · obtain ⟨w, e3, e4⟩ := d.dp j q e2
        exact ⟨w, by rw [List.getElem?_set_ne e1]; exact e3, e4⟩⟩
theorem RE.setO (h : RE K C F H σ ρ) (i : Nat) (r : Own K F H a p) (hn : F a = none) (nw : C.nw) (h0 : C.H0 a = none) (ha : ∀ (j : Nat) q, ρ[j]? = some (some (.ow q)) → j ≠ i → σ[j]? ≠ some (some (.ref a))) (hd : ∃ P, RD K C F H σ ρ P ∧ ∀ j, ¬ P j a) :
    RE K C F H (σ.set i (some (.ref a))) (ρ.set i (some (.ow p))) where
  rb := h.rb
  len := by simp [h.len]
  sh := fun j q e => by
    rcases get_set e with ⟨e1, e2⟩ | ⟨e1, e2⟩
    · cases e2
    · obtain ⟨w, e3, e4⟩ := h.sh j q e2
      exact ⟨w, by rw [List.getElem?_set_ne e1]; exact e3, e4⟩
  ow := fun j q e => by
    rcases get_set e with ⟨e1, e2⟩ | ⟨e1, e2⟩
    · subst e1
      cases e2
      have := lt_of_get e
      exact ⟨a, by rw [List.getElem?_set_self (by rw [h.len]; simpa using this)], r, hn, .inr ⟨nw, h0⟩⟩
    · obtain ⟨w, e3, e4⟩ := h.ow j q e2
      exact ⟨w, by rw [List.getElem?_set_ne e1]; exact e3, e4⟩
  dis := fun j k q q' b e e' f f' => by
    rcases get_set e with ⟨e1, e2⟩ | ⟨e1, e2⟩
    · rcases get_set e' with ⟨e1', e2'⟩ | ⟨e1', e2'⟩
      · exact e1.symm.trans e1'
      · subst e1
        have := lt_of_get e
        rw [List.getElem?_set_self (by rw [h.len]; simpa using this)] at f
        cases f
        rw [List.getElem?_set_ne e1'] at f'
        exact absurd f' (ha k q' e2' (Ne.symm e1'))
    · rcases get_set e' with ⟨e1', e2'⟩ | ⟨e1', e2'⟩
      · subst e1'
        have := lt_of_get e'
        rw [List.getElem?_set_self (by rw [h.len]; simpa using this)] at f'
        cases f'
        rw [List.getElem?_set_ne e1] at f
        exact absurd f (ha j q e2 (Ne.symm e1))
      · rw [List.getElem?_set_ne e1] at f
        rw [List.getElem?_set_ne e1'] at f'
        exact h.dis j k q q' b e2 e2' f f'
  dd := let ⟨P, d, na⟩ := hd; ⟨P, d.own, d.dis, fun j k q b z e f => by
      rcases get_set e with ⟨e1, e2⟩ | ⟨e1, e2⟩
      · subst e1
        have := lt_of_get e
        rw [List.getElem?_set_self (by rw [h.len]; simpa using this)] at f
        cases f
        exact na j z
      · rw [List.getElem?_set_ne e1] at f; exact d.ow j k q b z e2 f, fun j q e => by
      rcases get_set e with ⟨e1, e2⟩ | ⟨e1, e2⟩
      · cases e2
      · obtain ⟨w, e3, e4⟩ := d.dp j q e2
        exact ⟨w, by rw [List.getElem?_set_ne e1]; exact e3, e4⟩⟩
theorem RE.apartD (h : RE K C F H σ ρ) (n : H a = none) (u : Up F H F' H') : ∃ P, RD K C F' H' σ ρ P ∧ ∀ j, ¬ P j a := by
  obtain ⟨P, d⟩ := h.dd
  exact ⟨P, d.up u, fun j z => by obtain ⟨_, ⟨o, e, _⟩, _⟩ := d.own j a z; rw [n] at e; cases e⟩
theorem RE.apart (h : RE K C F H σ ρ) (n : H a = none) (j : Nat) (q : PV) (e : ρ[j]? = some (some (.ow q))) : σ[j]? ≠ some (some (.ref a)) := fun f => by
  obtain ⟨b, e1, e2, _⟩ := h.ow j q e
  rw [e1] at f
  cases f
  obtain ⟨o, eo⟩ := e2.ne
  rw [eo] at n; cases n
theorem RE.write (h : RE K C F H σ ρ) {i : Nat} {o : HO} {p' : PV} (e : ρ[i]? = some (some (.ow p))) (ea : σ[i]? = some (some (.ref a))) (r : Own K F (upd H a o) a p') :
    RE K C F (upd H a o) σ (ρ.set i (some (.ow p'))) := by
  obtain ⟨a', e1, e2, e3, e4⟩ := h.ow i p e
  rw [ea] at e1
  cases e1
  have ne : ∀ b u, F b = some u → b ≠ a := fun b u q z => by rw [z, e3] at q; cases q
  refine ⟨⟨fun b u q => by rw [upd_ne (ne b u q)]; exact h.rb.sub b u q, fun b u q n => ?_, h.rb.new, fun b hb => ⟨?_, (h.rb.ios b hb).2⟩⟩, by simp [h.len], fun j q f => ?_, fun j q f => ?_, fun j k q q' b f f' g g' => ?_, ?_⟩
  · have : b ≠ a := fun z => by
      subst z
      rcases e4 with z | z
      · exact n z
      · rw [z.2] at q; cases q
    rw [upd_ne this]; exact h.rb.keep b u q n
  · by_cases hba : b = a
    · subst hba; rw [upd_same]; simp
    · rw [upd_ne hba]; exact (h.rb.ios b hb).1
  · rcases get_set f with ⟨e1, f2⟩ | ⟨e1, f2⟩
    · cases f2
    · exact h.sh j q f2
  · rcases get_set f with ⟨e1, f2⟩ | ⟨e1, f2⟩
    · subst e1
      cases f2
      exact ⟨a, ea, r, e3, e4⟩
    · obtain ⟨b, g1, g2, g3, g4⟩ := h.ow j q f2
      refine ⟨b, g1, g2.up (Same.refl _) fun u qq => ?_, g3, g4⟩
      have : b ≠ a := fun z => by subst z; exact e1 (h.dis i j p q b e f2 ea g1)
      rw [upd_ne this]; exact qq
  · have key : ∀ (j : Nat) q, (ρ.set i (some (Sl.ow p')))[j]? = some (some (.ow q)) → ∃ q0, ρ[j]? = some (some (.ow q0)) := fun j q f => by
      rcases get_set f with ⟨e1, f2⟩ | ⟨e1, f2⟩
      · subst e1; exact ⟨p, e⟩
      · exact ⟨q, f2⟩
    obtain ⟨q0, k0⟩ := key j q f
    obtain ⟨q1, k1⟩ := key k q' f'
    exact h.dis j k q0 q1 b k0 k1 g g'
  · obtain ⟨P, d⟩ := h.dd
    have na : ∀ j b, P j b → b ≠ a := fun j b z e' => by subst e'; exact d.ow j i p b z e ea
    refine ⟨P, fun j b z => ?_, d.dis, fun j k q b z f g => ?_, fun j q f => ?_⟩
    · rw [upd_ne (na j b z)]; exact d.own j b z
    · rcases get_set f with ⟨f1, f2⟩ | ⟨f1, f2⟩
      · subst f1; exact d.ow j i p b z e g
      · exact d.ow j k q b z f2 g
    · rcases get_set f with ⟨f1, f2⟩ | ⟨f1, f2⟩
      · cases f2
      · obtain ⟨w, e3, e5⟩ := d.dp j q f2
        exact ⟨w, e3, e5.up (Same.refl _) (fun b o z q => by rw [upd_ne (na j b z)]; exact q) fun b ys q => by rw [upd_ne fun z => by subst z; exact e2.noTup q]; exact q⟩
theorem RE.frz (h : RE K C F H σ ρ) {i : Nat} (e : ρ[i]? = some (some (.ow p))) (hio : ∀ a, σ[i]? = some (some (.ref a)) → ¬ C.io a) : ∃ F', Same F F' ∧ RE K C F' H σ (ρ.set i (some (.sh p))) := by
  obtain ⟨a, e1, e2, e3, e4⟩ := h.ow i p e
  obtain ⟨o, eo, r⟩ := e2.frozen e3
  have h0 : C.H0 a = none := (e4.resolve_left (hio a e1)).2
  have sf : Same F (upd F a o) := same_upd e3
  have li := lt_of_get e
  refine ⟨upd F a o, sf, ⟨⟨fun b u q => ?_, h.rb.keep, fun b u q => ?_, h.rb.ios⟩, by simp [h.len], fun j q f => ?_, fun j q f => ?_, fun j k q q' b f f' g g' => ?_, ?_⟩⟩
  · by_cases hb : b = a
    · subst hb; rw [upd_same] at q; cases q; exact eo
    · rw [upd_ne hb] at q; exact h.rb.sub b u q
  · by_cases hb : b = a
    · subst hb; exact .inr (.inl h0)
    · rw [upd_ne hb] at q; exact h.rb.new b u q
  · rcases get_set f with ⟨f1, f2⟩ | ⟨f1, f2⟩
    · subst f1; cases f2; exact ⟨_, e1, r⟩
    · obtain ⟨v, g1, g2⟩ := h.sh j q f2
      exact ⟨v, g1, g2.up sf⟩
  · rcases get_set f with ⟨f1, f2⟩ | ⟨f1, f2⟩
    · cases f2
    · obtain ⟨b, g1, g2, g3, g4⟩ := h.ow j q f2
      refine ⟨b, g1, g2.up sf fun _ z => z, ?_, g4⟩
      have : b ≠ a := fun z => by subst z; exact f1 (h.dis i j p q b e f2 e1 g1)
      rw [upd_ne this]; exact g3
  · rcases get_set f with ⟨f1, f2⟩ | ⟨f1, f2⟩
    · cases f2
    · rcases get_set f' with ⟨f1', f2'⟩ | ⟨f1', f2'⟩
      · cases f2'
      · exact h.dis j k q q' b f2 f2' g g'
  · obtain ⟨P, d⟩ := h.dd
    have na : ∀ j b, P j b → b ≠ a := fun j b z e' => by subst e'; exact d.ow j i p b z e e1
    refine ⟨P, fun j b z => ?_, d.dis, fun j k q b z f g => ?_, fun j q f => ?_⟩
    · rw [upd_ne (na j b z)]; exact d.own j b z
    · rcases get_set f with ⟨f1, f2⟩ | ⟨f1, f2⟩
      · cases f2
      · exact d.ow j k q b z f2 g
    · rcases get_set f with ⟨f1, f2⟩ | ⟨f1, f2⟩
      · cases f2
      · obtain ⟨w, e3, e5⟩ := d.dp j q f2
        exact ⟨w, e3, e5.up sf (fun _ _ _ q => q) fun _ _ q => q⟩
end
end L2.MP

namespace L2.MP
open PySem PySem.Spec PyProof.Rows

structure Cg extends Cf where
  XR : Hp → Value → Option Addr → PV → Prop
noncomputable def PX (C : Cg) (F : Hp) (z : PV) : Prop := ∀ e d F' H', Same F F' → RB C.toCf F' H' → C.XR F' e d z → C.E e d H'
noncomputable def Pr {α : Type} (C : Cg) (F : Hp) (ok : α → Prop) : Res α → Prop
  | .ok a => ok a
  | .ex z => PX C F z
noncomputable abbrev Rel (α : Type) := Hp → Hp → V → α → Prop
noncomputable def aF (K : PySem.W.Frag) : Rel PV := fun F _ v p => Rep K F v p
noncomputable def aH (K : PySem.W.Frag) : Rel PV := fun _ H v p => Rep K H v p
noncomputable def aV (K : PySem.W.Frag) : Rel (List PV) := fun F H v l => ∃ a xs, v = .ref a ∧ SqL K H a xs ∧ Reps K F xs l
noncomputable def UpM {α : Type} (A : Rel α) : Prop := ∀ F H F' H' v a, Up F H F' H' → A F H v a → A F' H' v a
theorem aF.up {K : PySem.W.Frag} : UpM (aF K) := fun _ _ _ _ _ _ u h => Rep.up h u.ff
theorem aH.up {K : PySem.W.Frag} : UpM (aH K) := fun _ _ _ _ _ _ u h => Rep.up h u.hh
theorem aV.up {K : PySem.W.Frag} : UpM (aV K) := fun _ _ _ _ _ _ u h => let ⟨a, xs, e, s, r⟩ := h; ⟨a, xs, e, u.hh.seq s, r.up u.ff⟩
noncomputable abbrev Fn (α : Type) := Rho → Option (Res α)

noncomputable def MJ {α : Type} (K : PySem.W.Frag) (C : Cg) (A : Rel α) (te : TE) (f : Fn α) : Prop :=
  ∀ F H σ ρ Q r, RE K C.toCf F H σ ρ → f ρ = some r → Pr C F (fun a => ∀ v F' H', Up F H F' H' → A F' H' v a → Q v H') r → te σ H Q
noncomputable def MT (K : PySem.W.Frag) (C : Cg) (tt : TT) (f : Fn Bool) : Prop :=
  ∀ F H σ ρ Q r, RE K C.toCf F H σ ρ → f ρ = some r → Pr C F (fun b => ∀ F' H', Up F H F' H' → Q b H') r → tt σ H Q
noncomputable def MA (K : PySem.W.Frag) (C : Cg) (ta : TA) (f : Fn (List PV)) : Prop :=
  ∀ F H σ ρ Q r, RE K C.toCf F H σ ρ → f ρ = some r → Pr C F (fun l => ∀ xs F' H', Up F H F' H' → Reps K F' xs l → Q xs H') r → ta σ H Q
noncomputable def MAL (K : PySem.W.Frag) (C : Cg) (ta : TA) (f : Fn (List PV)) : Prop :=
  ∀ F H σ ρ Q r, RE K C.toCf F H σ ρ → f ρ = some r → Pr C F (fun l => ∀ xs F' H', Up F H F' H' → Reps K H' xs l → Q xs H') r → ta σ H Q
noncomputable def MO (K : PySem.W.Frag) (C : Cg) (te : TE) (f : Fn PV) : Prop :=
  ∀ F H σ ρ Q r, RE K C.toCf F H σ ρ → f ρ = some r → Pr C F (fun p => ∀ a F' H', Up F H F' H' → H a = none → F' a = none → Own K F' H' a p → Q (.ref a) H') r → te σ H Q

theorem bnd_inv {α β : Type} {x : Option (Res α)} {k : α → Option (Res β)} {r : Res β} (h : bnd x k = some r) : (∃ z, x = some (.ex z) ∧ r = .ex z) ∨ ∃ a, x = some (.ok a) ∧ k a = some r := by
  match x, h with
  | some (.ok a), h => exact .inr ⟨a, rfl, h⟩
  | some (.ex z), h => exact .inl ⟨z, rfl, (Option.some.inj h).symm⟩
theorem Pr.ex {α β : Type} {C : Cg} {F : Hp} {ok : α → Prop} {ok' : β → Prop} {z : PV} (h : Pr C F ok (.ex z)) : Pr C F ok' (.ex z) := h
theorem PX.up {C : Cg} {F F1 : Hp} {z : PV} (h : PX C F z) (s : Same F F1) : PX C F1 z := fun e d F' H' a b c => h e d F' H' (s.trans a) b c
theorem Pr.mono {α : Type} {C : Cg} {F F1 : Hp} {ok ok' : α → Prop} {r : Res α} (h : Pr C F ok r) (s : Same F F1) (k : ∀ a, ok a → ok' a) : Pr C F1 ok' r := by
  cases r with
  | ok a => exact k a h
  | ex z => exact PX.up h s

section
variable {K : PySem.W.Frag} {C : Cg} {α β γ : Type} {A : Rel α} {B : Rel β} {D : Rel γ} {ta tb te : TE} {f : Fn α} {g : Fn β} {F H : Hp} {σ : St} {ρ : Rho} {Q : VK}
theorem MJ.run {ok : β → Prop} {k : α → Option (Res β)} {r : Res β} (h : MJ K C A ta f) (R : RE K C.toCf F H σ ρ) (hb : bnd (f ρ) k = some r) (P : Pr C F ok r)
    (go : ∀ p v F1 H1, k p = some r → Up F H F1 H1 → A F1 H1 v p → Q v H1) : ta σ H Q := by
  rcases bnd_inv hb with ⟨z, e, rfl⟩ | ⟨p, e, hk⟩
  · exact h F H σ ρ Q _ R e P
  · exact h F H σ ρ Q _ R e fun v F1 H1 u a => go p v F1 H1 hk u a
theorem MT.run {tt : TT} {f : Fn Bool} {Q : Bool → Hp → Prop} {ok : β → Prop} {k : Bool → Option (Res β)} {r : Res β} (h : MT K C tt f) (R : RE K C.toCf F H σ ρ) (hb : bnd (f ρ) k = some r) (P : Pr C F ok r)
    (go : ∀ b F1 H1, k b = some r → Up F H F1 H1 → Q b H1) : tt σ H Q := by
  rcases bnd_inv hb with ⟨z, e, rfl⟩ | ⟨p, e, hk⟩
  · exact h F H σ ρ Q _ R e P
  · exact h F H σ ρ Q _ R e fun F1 H1 u => go p F1 H1 hk u
theorem MA.run {t : TA} {f : Fn (List PV)} {Q : List V → Hp → Prop} {ok : β → Prop} {k : List PV → Option (Res β)} {r : Res β} (h : MA K C t f) (R : RE K C.toCf F H σ ρ) (hb : bnd (f ρ) k = some r) (P : Pr C F ok r)
    (go : ∀ l xs F1 H1, k l = some r → Up F H F1 H1 → Reps K F1 xs l → Q xs H1) : t σ H Q := by
  rcases bnd_inv hb with ⟨z, e, rfl⟩ | ⟨p, e, hk⟩
  · exact h F H σ ρ Q _ R e P
  · exact h F H σ ρ Q _ R e fun xs F1 H1 u a => go p xs F1 H1 hk u a
theorem MAL.run {t : TA} {f : Fn (List PV)} {Q : List V → Hp → Prop} {ok : β → Prop} {k : List PV → Option (Res β)} {r : Res β} (h : MAL K C t f) (R : RE K C.toCf F H σ ρ) (hb : bnd (f ρ) k = some r) (P : Pr C F ok r)
    (go : ∀ l xs F1 H1, k l = some r → Up F H F1 H1 → Reps K H1 xs l → Q xs H1) : t σ H Q := by
  rcases bnd_inv hb with ⟨z, e, rfl⟩ | ⟨p, e, hk⟩
  · exact h F H σ ρ Q _ R e P
  · exact h F H σ ρ Q _ R e fun xs F1 H1 u a => go p xs F1 H1 hk u a
theorem MO.run {f : Fn PV} {ok : β → Prop} {k : PV → Option (Res β)} {r : Res β} (h : MO K C ta f) (R : RE K C.toCf F H σ ρ) (hb : bnd (f ρ) k = some r) (P : Pr C F ok r)
    (go : ∀ p a F1 H1, k p = some r → Up F H F1 H1 → H a = none → F1 a = none → Own K F1 H1 a p → Q (.ref a) H1) : ta σ H Q := by
  rcases bnd_inv hb with ⟨z, e, rfl⟩ | ⟨p, e, hk⟩
  · exact h F H σ ρ Q _ R e P
  · exact h F H σ ρ Q _ R e fun a F1 H1 u h1 h2 h3 => go p a F1 H1 hk u h1 h2 h3
theorem Pr.later {D : Rel γ} {r : Res γ} {F1 H1 : Hp} (P : Pr C F (fun a => ∀ v F' H', Up F H F' H' → D F' H' v a → Q v H') r) (u : Up F H F1 H1) : Pr C F1 (fun a => ∀ v F' H', Up F1 H1 F' H' → D F' H' v a → Q v H') r :=
  P.mono u.ff fun _ h v F' H' u' d => h v F' H' (u.trans u') d
theorem Pr.laterT {Q : Bool → Hp → Prop} {r : Res Bool} {F1 H1 : Hp} (P : Pr C F (fun b => ∀ F' H', Up F H F' H' → Q b H') r) (u : Up F H F1 H1) : Pr C F1 (fun b => ∀ F' H', Up F1 H1 F' H' → Q b H') r :=
  P.mono u.ff fun _ h F' H' u' => h F' H' (u.trans u')
theorem Pr.laterO {r : Res PV} {F1 H1 : Hp} (P : Pr C F (fun p => ∀ a F' H', Up F H F' H' → H a = none → F' a = none → Own K F' H' a p → Q (.ref a) H') r) (u : Up F H F1 H1) :
    Pr C F1 (fun p => ∀ a F' H', Up F1 H1 F' H' → H1 a = none → F' a = none → Own K F' H' a p → Q (.ref a) H') r :=
  P.mono u.ff fun _ h a F' H' u' n1 n2 d => h a F' H' (u.trans u') (u.hh.free n1) n2 d
theorem Pr.laterA {Q : List V → Hp → Prop} {r : Res (List PV)} {F1 H1 : Hp} (P : Pr C F (fun l => ∀ xs F' H', Up F H F' H' → Reps K F' xs l → Q xs H') r) (u : Up F H F1 H1) : Pr C F1 (fun l => ∀ xs F' H', Up F1 H1 F' H' → Reps K F' xs l → Q xs H') r :=
  P.mono u.ff fun _ h xs F' H' u' d => h xs F' H' (u.trans u') d
theorem Pr.laterL {Q : List V → Hp → Prop} {r : Res (List PV)} {F1 H1 : Hp} (P : Pr C F (fun l => ∀ xs F' H', Up F H F' H' → Reps K H' xs l → Q xs H') r) (u : Up F H F1 H1) : Pr C F1 (fun l => ∀ xs F' H', Up F1 H1 F' H' → Reps K H' xs l → Q xs H') r :=
  P.mono u.ff fun _ h xs F' H' u' d => h xs F' H' (u.trans u') d

noncomputable def mV (i : Nat) : Fn PV := fun ρ => match ρ[i]? with
  | some (some (.sh p)) => some (.ok p)
  | _ => none
theorem mj_var (i : Nat) : MJ K C (aF K) (tVar i) (mV i) := by
  intro F H σ ρ Q r R e P
  unfold mV at e
  split at e
  · rename_i p hp
    cases e
    obtain ⟨v, e1, e2⟩ := R.sh i p hp
    exact ⟨v, e1, P v F H (Up.refl R.rb.sub) e2⟩
  · cases e
noncomputable def mVL (i : Nat) : Fn PV := fun ρ => match ρ[i]? with
  | some (some (.sh p)) => some (.ok p)
  | some (some (.ow p)) => some (.ok p)
  | _ => none
theorem mj_lend (i : Nat) : MJ K C (aH K) (tVar i) (mVL i) := by
  intro F H σ ρ Q r R e P
  unfold mVL at e
  split at e
  · rename_i p hp
    cases e
    obtain ⟨v, e1, e2⟩ := R.sh i p hp
    exact ⟨v, e1, P v F H (Up.refl R.rb.sub) (e2.up R.rb.sub)⟩
  · rename_i p hp
    cases e
    obtain ⟨a, e1, e2, e3, _⟩ := R.ow i p hp
    exact ⟨_, e1, P _ F H (Up.refl R.rb.sub) (e2.lent R.rb.sub)⟩
  · cases e
noncomputable def asLst : PV → Option (Res (List PV))
  | .lst l => some (.ok l)
  | _ => none
theorem mj_view {f : Fn PV} (h : MJ K C (aF K) ta f) : MJ K C (aV K) ta (fun ρ => bnd (f ρ) asLst) := by
  intro F H σ ρ Q r R e P
  refine h.run R e P fun p v F1 H1 hk u a => ?_
  match p, hk with
  | .lst l, hk =>
    cases hk
    obtain ⟨b, xs, rfl, s, rr⟩ := Rep.inv_lst a
    exact P _ F1 H1 u ⟨b, xs, rfl, u.fh.seq s, rr⟩
theorem mj_viewN (i : Nat) : MJ K C (aV K) (tVar i) (fun ρ => bnd (mVL i ρ) asLst) := by
  intro F H σ ρ Q r R e P
  rcases bnd_inv e with ⟨z, e1, rfl⟩ | ⟨p, e1, hk⟩
  · unfold mVL at e1
    split at e1 <;> cases e1
  · unfold mVL at e1
    match p, hk with
    | .lst l, hk =>
      cases hk
      split at e1
      · rename_i q hq
        cases e1
        obtain ⟨v, e2, e3⟩ := R.sh i _ hq
        obtain ⟨b, xs, rfl, s, rr⟩ := Rep.inv_lst e3
        exact ⟨_, e2, P _ F H (Up.refl R.rb.sub) ⟨b, xs, rfl, R.rb.sub.seq s, rr⟩⟩
      · rename_i q hq
        cases e1
        obtain ⟨a, e2, ⟨xs, e3, rr⟩, _⟩ := R.ow i _ hq
        exact ⟨_, e2, P _ F H (Up.refl R.rb.sub) ⟨a, xs, rfl, SqL.of e3, rr⟩⟩
      · cases e1
theorem mj_low {f : Fn PV} (h : MJ K C (aF K) ta f) : MJ K C (aH K) ta f := by
  intro F H σ ρ Q r R e P
  refine h F H σ ρ Q r R e ?_
  exact P.mono (Same.refl _) fun _ k v F' H' u d => k v F' H' u (Rep.up d u.fh)
noncomputable def mC (p : PV) : Fn PV := fun _ => some (.ok p)
theorem mj_c {v : V} {p : PV} (h : ∀ F, Rep K F v p) : MJ K C (aF K) (tC v) (mC p) := by
  intro F H σ ρ Q r R e P
  cases e
  exact P v F H (Up.refl R.rb.sub) (h F)
theorem mj_int {i : Int} : MJ K C (aF K) (tC (.int i)) (mC (.int i)) := mj_c fun _ => .int
theorem mj_bl {i : Bool} : MJ K C (aF K) (tC (.bl i)) (mC (.bl i)) := mj_c fun _ => .bl
theorem mj_non : MJ K C (aF K) (tC .non) (mC .non) := mj_c fun _ => .non
theorem mj_own {f : Fn PV} (h : MO K C ta f) : MJ K C (aF K) ta f := by
  intro F H σ ρ Q r R e P
  refine h F H σ ρ Q r R e (P.mono (Same.refl _) fun p k a F' H' u n1 n2 o => ?_)
  obtain ⟨ob, eo, rr⟩ := o.frozen n2
  refine k _ (upd F' a ob) H' ⟨u.ff.trans (same_upd n2), u.hh, fun b x q => ?_, fun b x q => ?_⟩ rr
  · by_cases hb : b = a
    · subst hb; exact .inr (.inl n1)
    · rw [upd_ne hb] at q; exact u.fr b x q
  · by_cases hb : b = a
    · subst hb; rw [upd_same] at q; cases q; exact eo
    · rw [upd_ne hb] at q; exact u.fh b x q
theorem mj_ownV {f : Fn PV} (h : MO K C ta f) : MJ K C (aV K) ta (fun ρ => bnd (f ρ) asLst) := mj_view (mj_own h)

noncomputable def m2 {α β γ : Type} (op : α → β → Option (Res γ)) (f : Fn α) (g : Fn β) : Fn γ := fun ρ => bnd (f ρ) fun a => bnd (g ρ) fun b => op a b
noncomputable def R2M (C : Cg) (A : Rel α) (B : Rel β) (D : Rel γ) (r : R2) (op : α → β → Option (Res γ)) : Prop :=
  ∀ F H x y a b res Q, Same F H → A F H x a → B F H y b → op a b = some res → Pr C F (fun c => ∀ v F' H', Up F H F' H' → D F' H' v c → Q v H') res → r x y H Q
theorem mj_op {op : α → β → Option (Res γ)} {r2 : R2} (up : UpM A) (rule : R2M C A B D r2 op) (ha : MJ K C A ta f) (hb : MJ K C B tb g) : MJ K C D (tOp r2 ta tb) (m2 op f g) := by
  intro F H σ ρ Q r R e P
  refine ha.run R e P fun p v F1 H1 hk u a => ?_
  refine hb.run (R.up u) hk (P.later u) fun q w F2 H2 hk2 u2 b => ?_
  exact rule F2 H2 v w p q r Q u2.fh (up _ _ _ _ _ _ u2 a) b hk2 (P.later (u.trans u2))
noncomputable def m1 {α γ : Type} (op : α → Option (Res γ)) (f : Fn α) : Fn γ := fun ρ => bnd (f ρ) op
noncomputable def asBl : PV → Option (Res Bool)
  | .bl b => some (.ok b)
  | _ => none
theorem mt_test {f : Fn PV} (ha : MJ K C (aF K) ta f) : MT K C (tTest ta) (m1 asBl f) := by
  intro F H σ ρ Q r R e P
  refine ha.run R e P fun p v F1 H1 hk u a => ?_
  match p, hk with
  | .bl b, hk =>
    cases Rep.inv_bl a
    cases hk
    exact ⟨b, rfl, P F1 H1 u⟩
theorem mt_val {f : Fn PV} (ha : MJ K C (aF K) ta f) : MT K C (tB ta) (m1 asBl f) := mt_test ha
noncomputable def mOr (f g : Fn Bool) : Fn Bool := fun ρ => bnd (f ρ) fun a => if a = true then some (.ok true) else g ρ
variable {c d : TT} {fc gc : Fn Bool}
theorem mt_or (ha : MT K C c fc) (hb : MT K C d gc) : MT K C (tOr c d) (mOr fc gc) := by
  intro F H σ ρ Q r R e P
  refine ha.run R e P fun b F1 H1 hk u => ?_
  cases b with
  | true => rw [if_pos rfl] at hk ⊢; cases hk; exact P F1 H1 u
  | false => rw [if_neg (by decide)] at hk ⊢; exact hb F1 H1 σ ρ Q r (R.up u) hk (P.laterT u)
noncomputable def mNil : Fn (List PV) := fun _ => some (.ok [])
noncomputable def mCons (f : Fn PV) (g : Fn (List PV)) : Fn (List PV) := fun ρ => bnd (f ρ) fun a => bnd (g ρ) fun l => some (.ok (a :: l))
theorem ma_nil : MA K C tNil mNil := fun F H σ ρ Q r R e P => by
  cases e
  exact P [] F H (Up.refl R.rb.sub) .nil
theorem ma_cons {f : Fn PV} {g : Fn (List PV)} {t : TA} (ha : MJ K C (aF K) ta f) (hb : MA K C t g) : MA K C (tCons ta t) (mCons f g) := by
  intro F H σ ρ Q r R e P
  refine ha.run R e P fun p v F1 H1 hk u a => ?_
  refine hb.run (R.up u) hk (P.laterA u) fun l xs F2 H2 hk2 u2 b => ?_
  cases hk2
  exact P _ F2 H2 (u.trans u2) (b.cons (Rep.up a u2.ff))
theorem mal_nil : MAL K C tNil mNil := fun F H σ ρ Q r R e P => by
  cases e
  exact P [] F H (Up.refl R.rb.sub) .nil
theorem mal_cons {f : Fn PV} {g : Fn (List PV)} {t : TA} (ha : MJ K C (aH K) ta f) (hb : MAL K C t g) : MAL K C (tCons ta t) (mCons f g) := by
  intro F H σ ρ Q r R e P
  refine ha.run R e P fun p v F1 H1 hk u a => ?_
  refine hb.run (R.up u) hk (P.laterL u) fun l xs F2 H2 hk2 u2 b => ?_
  cases hk2
  exact P _ F2 H2 (u.trans u2) (b.cons (Rep.up a u2.hh))
theorem Up.newU {F H : Hp} {a : Addr} {o : HO} (s : Same F H) (h : H a = none) : Up F H F (upd H a o) := ⟨Same.refl _, same_upd h, fun _ _ q => .inl q, s.trans (same_upd h)⟩
theorem Up.new {F H : Hp} {a : Addr} {o : HO} (s : Same F H) (h : H a = none) : Up F H (upd F a o) (upd H a o) := by
  have hf : F a = none := s.free h
  refine ⟨same_upd hf, same_upd h, fun b u q => ?_, fun b u q => ?_⟩
  · by_cases hb : b = a
    · subst hb; exact .inr (.inl h)
    · rw [upd_ne hb] at q; exact .inl q
  · by_cases hb : b = a
    · subst hb; rw [upd_same] at q ⊢; exact q
    · rw [upd_ne hb] at q ⊢; exact s b u q
noncomputable def mTup (f : Fn (List PV)) : Fn PV := fun ρ => bnd (f ρ) fun l => if l.length ≤ sizeLine then some (.ok (.tup l)) else none
noncomputable def mLst (f : Fn (List PV)) : Fn PV := fun ρ => bnd (f ρ) fun l => if l.length ≤ sizeLine then some (.ok (.lst l)) else none
theorem mj_tup {t : TA} {f : Fn (List PV)} (h : MA K C t f) : MJ K C (aF K) (tTup t) (mTup f) := by
  intro F H σ ρ Q r R e P
  refine h.run R e P fun l xs F1 H1 hk u a => ?_
  split at hk
  · rename_i hl
    cases hk
    refine ⟨by rw [a.1]; exact hl, fun p hp => ?_⟩
    have un := Up.new (o := .tup xs) u.fh hp
    exact P _ _ _ (u.trans un) (.tup upd_same a.1 (a.up un.ff).2)
  · cases hk
theorem mo_lst {t : TA} {f : Fn (List PV)} (h : MA K C t f) : MO K C (tLst t) (mLst f) := by
  intro F H σ ρ Q r R e P
  refine h.run R e P fun l xs F1 H1 hk u a => ?_
  split at hk
  · rename_i hl
    cases hk
    refine ⟨by rw [a.1]; exact hl, fun p hp => ?_⟩
    exact P _ _ _ (u.trans (Up.newU u.fh hp)) (u.hh.free hp) (u.fh.free hp) ⟨xs, upd_same, a⟩
  · cases hk
noncomputable def spM (K : PySem.W.Frag) (XR : Hp → Value → Option Addr → PV → Prop) (m : List PV → Option (Res PV)) : Sp := fun vs H Q E => ∃ ps F r, Same F H ∧ Reps K F vs ps ∧ m ps = some r ∧ match r with
  | .ok p => ∀ v F' H', Up F H F' H' → Rep K F' v p → Q v H'
  | .ex z => ∀ e d F' H', Up F H F' H' → XR F' e d z → E e d H'
noncomputable def spO (K : PySem.W.Frag) (XR : Hp → Value → Option Addr → PV → Prop) (m : List PV → Option (Res PV)) : Sp := fun vs H Q E => ∃ ps F r, Same F H ∧ Reps K F vs ps ∧ m ps = some r ∧ match r with
  | .ok p => ∀ a F' H', Up F H F' H' → H a = none → F' a = none → Own K F' H' a p → Q (.ref a) H'
  | .ex z => ∀ e d F' H', Up F H F' H' → XR F' e d z → E e d H'
noncomputable def mCall (m : List PV → Option (Res PV)) (f : Fn (List PV)) : Fn PV := fun ρ => bnd (f ρ) m
theorem mj_call {t : TA} {f : Fn (List PV)} {m : List PV → Option (Res PV)} (h : MA K C t f) : MJ K C (aF K) (tCall (spM K C.XR m) [] C.E t) (mCall m f) := by
  intro F H σ ρ Q r R e P
  refine h.run R e P fun l xs F1 H1 hk u a => ?_
  refine ⟨l, F1, r, u.fh, by rw [List.append_nil]; exact a, hk, ?_⟩
  cases r with
  | ok p => exact fun v F' H' u' rv => P v F' H' (u.trans u') rv
  | ex z => exact fun e d F' H' u' x => P e d F' H' (u.trans u').ff (R.rb.up (u.trans u')) x
theorem mo_call {t : TA} {f : Fn (List PV)} {m : List PV → Option (Res PV)} (h : MA K C t f) : MO K C (tCall (spO K C.XR m) [] C.E t) (mCall m f) := by
  intro F H σ ρ Q r R e P
  refine h.run R e P fun l xs F1 H1 hk u a => ?_
  refine ⟨l, F1, r, u.fh, by rw [List.append_nil]; exact a, hk, ?_⟩
  cases r with
  | ok p => exact fun v F' H' u' n1 n2 rv => P v F' H' (u.trans u') (u.hh.free n1) n2 rv
  | ex z => exact fun e d F' H' u' x => P e d F' H' (u.trans u').ff (R.rb.up (u.trans u')) x
end
end L2.MP

namespace L2.MP
open PySem PySem.Spec PyProof.Rows
inductive Out where
  | nx (ρ : Rho) | rt (p : PV) | ro (p : PV) | rd (p : PV) | bk (ρ : Rho) | ct (ρ : Rho) | ex (z : PV)
noncomputable abbrev Sn := Rho → Option Out
noncomputable def PO' (K : PySem.W.Frag) (C : Cg) (F : Hp) (D : Ends) : Out → Prop
  | .nx ρ => ∀ F' H' σ, Same F F' → RE K C.toCf F' H' σ ρ → D.nx σ H'
  | .bk ρ => ∀ F' H' σ, Same F F' → RE K C.toCf F' H' σ ρ → D.bk σ H'
  | .ct ρ => ∀ F' H' σ, Same F F' → RE K C.toCf F' H' σ ρ → D.ct σ H'
  | .rt p => ∀ v F' H', Same F F' → RB C.toCf F' H' → Rep K F' v p → D.rt v H'
  | .ro p => ∀ a F' H', Same F F' → RB C.toCf F' H' → Own K F' H' a p → F' a = none → C.H0 a = none → D.rt (.ref a) H'
  | .rd p => ∀ v F' H' S, Same F F' → RB C.toCf F' H' → Dp K F' H' S v p → (∀ b, S b → F' b = none ∧ (∃ o, H' b = some o ∧ ∀ ys, o ≠ .tup ys) ∧ C.H0 b = none) → D.rt v H'
  | .ex z => PX C F z
noncomputable def MS (K : PySem.W.Frag) (C : Cg) (t : TS) (f : Sn) : Prop := ∀ F H σ ρ D o, RE K C.toCf F H σ ρ → f ρ = some o → PO' K C F D o → t D σ H
noncomputable def bndS {α : Type} (x : Option (Res α)) (k : α → Option Out) : Option Out := match x with
  | some (.ok a) => k a
  | some (.ex z) => some (.ex z)
  | none => none
theorem bndS_ok {α : Type} {a : α} {k : α → Option Out} : bndS (some (.ok a)) k = k a := rfl
theorem bndS_inv {α : Type} {x : Option (Res α)} {k : α → Option Out} {o : Out} (h : bndS x k = some o) : (∃ z, x = some (.ex z) ∧ o = .ex z) ∨ ∃ a, x = some (.ok a) ∧ k a = some o := by
  match x, h with
  | some (.ok a), h => exact .inr ⟨a, rfl, h⟩
  | some (.ex z), h => exact .inl ⟨z, rfl, (Option.some.inj h).symm⟩
section
variable {K : PySem.W.Frag} {C : Cg} {α β γ : Type} {A : Rel α} {ta tb te : TE} {F H : Hp} {σ : St} {ρ : Rho} {D : Ends} {t u : TS} {f g : Sn} {o : Out}
theorem PO'.up {F1 : Hp} (h : PO' K C F D o) (s : Same F F1) : PO' K C F1 D o := by
  cases o with
  | nx ρ => exact fun F' H' σ a => h F' H' σ (s.trans a)
  | bk ρ => exact fun F' H' σ a => h F' H' σ (s.trans a)
  | ct ρ => exact fun F' H' σ a => h F' H' σ (s.trans a)
  | rt p => exact fun v F' H' a => h v F' H' (s.trans a)
  | ro p => exact fun v F' H' a => h v F' H' (s.trans a)
  | rd p => exact fun v F' H' S a => h v F' H' S (s.trans a)
  | ex z => exact PX.up h s
theorem MJ.runS {fe : Fn α} {Q : VK} {k : α → Option Out} (h : MJ K C A ta fe) (R : RE K C.toCf F H σ ρ) (hb : bndS (fe ρ) k = some o) (P : PO' K C F D o)
    (go : ∀ p v F1 H1, k p = some o → Up F H F1 H1 → A F1 H1 v p → Q v H1) : ta σ H Q := by
  rcases bndS_inv hb with ⟨z, e, rfl⟩ | ⟨p, e, hk⟩
  · exact h F H σ ρ Q _ R e P
  · exact h F H σ ρ Q _ R e fun v F1 H1 u a => go p v F1 H1 hk u a
theorem MO.runS {fe : Fn PV} {Q : VK} {k : PV → Option Out} (h : MO K C ta fe) (R : RE K C.toCf F H σ ρ) (hb : bndS (fe ρ) k = some o) (P : PO' K C F D o)
    (go : ∀ p a F1 H1, k p = some o → Up F H F1 H1 → H a = none → F1 a = none → Own K F1 H1 a p → Q (.ref a) H1) : ta σ H Q := by
  rcases bndS_inv hb with ⟨z, e, rfl⟩ | ⟨p, e, hk⟩
  · exact h F H σ ρ Q _ R e P
  · exact h F H σ ρ Q _ R e fun a F1 H1 u n1 n2 w => go p a F1 H1 hk u n1 n2 w
theorem MT.runS {tt : TT} {fe : Fn Bool} {Q : Bool → Hp → Prop} {k : Bool → Option Out} (h : MT K C tt fe) (R : RE K C.toCf F H σ ρ) (hb : bndS (fe ρ) k = some o) (P : PO' K C F D o)
    (go : ∀ b F1 H1, k b = some o → Up F H F1 H1 → Q b H1) : tt σ H Q := by
  rcases bndS_inv hb with ⟨z, e, rfl⟩ | ⟨p, e, hk⟩
  · exact h F H σ ρ Q _ R e P
  · exact h F H σ ρ Q _ R e fun F1 H1 u => go p F1 H1 hk u
noncomputable def mNext : Sn := fun ρ => some (.nx ρ)
noncomputable def mSeq (f g : Sn) : Sn := fun ρ => match f ρ with
  | some (.nx ρ') => g ρ'
  | x => x
theorem ms_next : MS K C tNext mNext := fun F H σ ρ D o R e P => by
  cases e
  exact P F H σ (Same.refl _) R
theorem ms_seq (h1 : MS K C t f) (h2 : MS K C u g) : MS K C (tSeq t u) (mSeq f g) := by
  intro F H σ ρ D o R e P
  unfold mSeq at e
  split at e
  · rename_i ρ' h
    refine h1 F H σ ρ _ _ R h ?_
    exact fun F' H' σ' s R' => h2 F' H' σ' ρ' D o R' e (P.up s)
  · rename_i x hx
    cases o with
    | nx ρ' => exact absurd e (hx ρ')
    | bk ρ => exact h1 F H σ _ _ _ R e P
    | ct ρ => exact h1 F H σ _ _ _ R e P
    | rt p => exact h1 F H σ _ _ _ R e P
    | ro p => exact h1 F H σ _ _ _ R e P
    | rd p => exact h1 F H σ _ _ _ R e P
    | ex z => exact h1 F H σ _ _ _ R e P
noncomputable def mCont : Sn := fun ρ => some (.ct ρ)
theorem ms_cont : MS K C tCont mCont := fun F H σ ρ D o R e P => by
  cases e
  exact P F H σ (Same.refl _) R
noncomputable def MG (K : PySem.W.Frag) (C : Cg) (g : TG) (tg : PV → Rho → Option Rho) : Prop :=
  ∀ F H σ ρ v p ρ' Q, RE K C.toCf F H σ ρ → Rep K F v p → tg p ρ = some ρ' → (∀ σ', RE K C.toCf F H σ' ρ' → Q σ' H) → g v σ H Q
noncomputable def MGs (K : PySem.W.Frag) (C : Cg) (g : TGs) (tg : List PV → Rho → Option Rho) : Prop :=
  ∀ F H σ ρ vs ps ρ' Q, RE K C.toCf F H σ ρ → Reps K F vs ps → tg ps ρ = some ρ' → (∀ σ', RE K C.toCf F H σ' ρ' → Q σ' H) → g vs σ H Q
noncomputable def gN (i : Nat) : PV → Rho → Option Rho := fun p ρ => some (ρ.set i (some (.sh p)))
theorem mg_name (i : Nat) : MG K C (gName i) (gN i) := fun F H σ ρ v p ρ' Q R r e k => by
  cases e
  exact k _ (R.set i r)
noncomputable def gsNil : List PV → Rho → Option Rho
  | [], ρ => some ρ
  | _ :: _, _ => none
noncomputable def gsCons (t : PV → Rho → Option Rho) (u : List PV → Rho → Option Rho) : List PV → Rho → Option Rho
  | [], _ => none
  | p :: l, ρ => match t p ρ with
    | some ρ' => u l ρ'
    | none => none
theorem mgs_nil : MGs K C gNil gsNil := fun F H σ ρ vs ps ρ' Q R r e k => by
  cases ps with
  | nil => cases e; exact ⟨r.inv_nil, k σ R⟩
  | cons p l => cases e
theorem mgs_cons {g : TG} {gs : TGs} {tg : PV → Rho → Option Rho} {tgs : List PV → Rho → Option Rho} (h : MG K C g tg) (hs : MGs K C gs tgs) : MGs K C (gCons g gs) (gsCons tg tgs) := fun F H σ ρ vs ps ρ' Q R r e k => by
  cases ps with
  | nil => cases e
  | cons p l =>
    obtain ⟨v, ys, rfl, r1, r2⟩ := r.inv_cons
    have e' : (match tg p ρ with
      | some ρ' => tgs l ρ'
      | none => none) = some ρ' := e
    split at e'
    · rename_i ρ1 h1
      exact ⟨v, ys, rfl, h F H σ ρ v p ρ1 _ R r1 h1 fun σ' R' => hs F H σ' ρ1 ys l ρ' Q R' r2 e' k⟩
    · cases e'
noncomputable def gT (n : Nat) (t : List PV → Rho → Option Rho) : PV → Rho → Option Rho := fun p ρ => match p with
  | .tup l => if l.length = n then t l ρ else none
  | _ => none
theorem mg_tup {n : Nat} {gs : TGs} {tgs : List PV → Rho → Option Rho} (hs : MGs K C gs tgs) : MG K C (gTup K n gs) (gT n tgs) := fun F H σ ρ v p ρ' Q R r e k => by
  unfold gT at e
  split at e
  · rename_i l
    split at e
    · rename_i hn
      obtain ⟨a, xs, rfl, hq, rr⟩ := r.inv_tup
      exact ⟨a, xs, rfl, R.rb.sub.tup hq, by rw [rr.1]; exact hn, hs F H σ ρ xs l ρ' Q R rr e k⟩
    · cases e
  · cases e
noncomputable def mAsg (fe : Fn PV) (tg : PV → Rho → Option Rho) : Sn := fun ρ => bndS (fe ρ) fun p => match tg p ρ with
  | some ρ' => some (.nx ρ')
  | none => none
theorem ms_asg {fe : Fn PV} {gt : TG} {tg : PV → Rho → Option Rho} (h : MJ K C (aF K) te fe) (hg : MG K C gt tg) : MS K C (tAsg te gt) (mAsg fe tg) := by
  intro F H σ ρ D o R e P
  refine h.runS R e P fun p v F1 H1 hk u a => ?_
  split at hk
  · rename_i ρ' h1
    cases hk
    exact hg F1 H1 σ ρ v p ρ' _ (R.up u) a h1 fun σ' R' => P F1 H1 σ' u.ff R'
  · cases hk
noncomputable def mSetO (i : Nat) (fe : Fn PV) : Sn := fun ρ => bndS (fe ρ) fun p => some (.nx (ρ.set i (some (.ow p))))
theorem ms_setO {i : Nat} {fe : Fn PV} (nw : C.nw) (h : MO K C te fe) : MS K C (tAsg te (gName i)) (mSetO i fe) := by
  intro F H σ ρ D o R e P
  refine h.runS R e P fun p a F1 H1 hk u n1 n2 w => ?_
  cases hk
  exact P F1 H1 _ u.ff ((R.up u).setO i w n2 nw (R.rb.free0 n1) (fun j q hj _ => R.apart n1 j q hj) (R.apartD n1 u))
noncomputable def mRet (fe : Fn PV) : Sn := fun ρ => bndS (fe ρ) fun p => some (.rt p)
theorem ms_ret {fe : Fn PV} (h : MJ K C (aF K) te fe) : MS K C (tRet te) (mRet fe) := by
  intro F H σ ρ D o R e P
  refine h.runS R e P fun p v F1 H1 hk u a => ?_
  cases hk
  exact P v F1 H1 u.ff (R.rb.up u) a
noncomputable def mRetO (fe : Fn PV) : Sn := fun ρ => bndS (fe ρ) fun p => some (.ro p)
theorem ms_retO {fe : Fn PV} (h : MO K C te fe) : MS K C (tRet te) (mRetO fe) := by
  intro F H σ ρ D o R e P
  refine h.runS R e P fun p a F1 H1 hk u n1 n2 w => ?_
  cases hk
  exact P a F1 H1 u.ff (R.rb.up u) w n2 (R.rb.free0 n1)
noncomputable def ownAt (i : Nat) (ρ : Rho) : Option PV := match ρ[i]? with
  | some (some (.ow p)) => some p
  | _ => none
theorem ownAt_eq {i : Nat} {p : PV} (h : ownAt i ρ = some p) : ρ[i]? = some (some (.ow p)) := by
  unfold ownAt at h
  split at h
  · rename_i q hq; cases h; exact hq
  · cases h
noncomputable def mRetOw (i : Nat) : Sn := fun ρ => match ownAt i ρ with
  | some p => some (.ro p)
  | none => none
theorem ms_retOw (i : Nat) (hio : ∀ a, ¬ C.io a) : MS K C (tRet (tVar i)) (mRetOw i) := by
  intro F H σ ρ D o R e P
  unfold mRetOw at e
  split at e
  · rename_i p hp
    cases e
    obtain ⟨a, e1, e2, e3, e4⟩ := R.ow i p (ownAt_eq hp)
    exact ⟨_, e1, P a F H (Same.refl _) R.rb e2 e3 (e4.resolve_left (hio a)).2⟩
  · cases e
noncomputable def frzR (i : Nat) (ρ : Rho) : Rho := match ownAt i ρ with
  | some p => ρ.set i (some (.sh p))
  | none => ρ
theorem ms_frz (i : Nat) (hio : ∀ a, ¬ C.io a) (h : MS K C t f) : MS K C t (fun ρ => f (frzR i ρ)) := by
  intro F H σ ρ D o R e P
  have e : f (frzR i ρ) = some o := e
  unfold frzR at e
  cases hp : ownAt i ρ with
  | none => rw [hp] at e; exact h F H σ ρ D o R e P
  | some p =>
    rw [hp] at e
    obtain ⟨F', s, R'⟩ := R.frz (ownAt_eq hp) fun a _ => hio a
    exact h F' H σ _ D o R' e (P.up s)
noncomputable def mApp (i : Nat) (fe : Fn PV) : Sn := fun ρ => match ownAt i ρ with
  | some (.lst l) => bndS (fe ρ) fun p => if l.length < sizeLine then some (.nx (ρ.set i (some (.ow (.lst (l ++ [p])))))) else none
  | _ => none
theorem ms_app {i : Nat} {fe : Fn PV} (h : MJ K C (aF K) te fe) : MS K C (tDrop (tBM K "list" rAppend (tVar i) (tCons te tNil))) (mApp i fe) := by
  intro F H σ ρ D o R e P
  unfold mApp at e
  split at e
  · rename_i l hl
    obtain ⟨a, g1, ⟨xs, g2, g3⟩, g4, g5⟩ := R.ow i _ (ownAt_eq hl)
    refine ⟨_, g1, tyL g2, h.runS R e P fun p v F1 H1 hk u w => ?_⟩
    split at hk
    · rename_i hlen
      cases hk
      obtain ⟨a', k1, ⟨ys, k2, k3⟩, k4, k5⟩ := (R.up u).ow i _ (ownAt_eq hl)
      rw [g1] at k1
      cases k1
      refine ⟨a, ys, v, rfl, rfl, k2, by rw [k3.1]; exact hlen, ?_⟩
      exact P F1 _ σ u.ff ((R.up u).write (ownAt_eq hl) g1 ⟨_, upd_same, k3.snoc w⟩)
    · cases hk
  · cases e
noncomputable def mIfS (fc : Fn Bool) (f g : Sn) : Sn := fun ρ => bndS (fc ρ) fun b => if b = true then f ρ else g ρ
theorem ms_if {c : TT} {fc : Fn Bool} (hc : MT K C c fc) (h1 : MS K C t f) (h2 : MS K C u g) : MS K C (tIfS c t u) (mIfS fc f g) := by
  intro F H σ ρ D o R e P
  refine hc.runS R e P fun b F1 H1 hk uu => ?_
  cases b with
  | true => rw [if_pos rfl] at hk ⊢; exact h1 F1 H1 σ ρ D o (R.up uu) hk (P.up uu.ff)
  | false => rw [if_neg (by decide)] at hk ⊢; exact h2 F1 H1 σ ρ D o (R.up uu) hk (P.up uu.ff)
structure ItR (K : PySem.W.Frag) (J : It) (F : Hp) (l : List PV) : Prop where
  stop : ∀ F' H', Same F F' → Same F' H' → J.stop l.length H'
  go : ∀ i F' H', i < l.length → Same F F' → Same F' H' → J.go i H'
  yld : ∀ i F' H' x H'', i < l.length → Same F F' → Same F' H' → J.yld i H' x H'' → ∃ F'' p, Up F' H' F'' H'' ∧ l[i]? = some p ∧ Rep K F'' x p
noncomputable def MI (K : PySem.W.Frag) (C : Cg) (wi : TI) (f : Fn (List PV)) : Prop :=
  ∀ F H σ ρ R' r, RE K C.toCf F H σ ρ → f ρ = some r → Pr C F (fun l => ∀ J F' H', Up F H F' H' → ItR K J F' l → R' J H') r → wi σ H R'
noncomputable def loop (tg : PV → Rho → Option Rho) (body : Sn) : List PV → Rho → Option Out
  | [], ρ => some (.nx ρ)
  | x :: xs, ρ => match tg x ρ with
    | none => none
    | some ρ1 => match body ρ1 with
      | some (.nx ρ2) => loop tg body xs ρ2
      | some (.ct ρ2) => loop tg body xs ρ2
      | some (.bk ρ2) => some (.nx ρ2)
      | x => x
noncomputable def mFor (it : Fn (List PV)) (tg : PV → Rho → Option Rho) (body : Sn) : Sn := fun ρ => bndS (it ρ) fun l => loop tg body l ρ
theorem forJ_loop {J : It} {gt : TG} {tg : PV → Rho → Option Rho} {l : List PV} (hg : MG K C gt tg) (hb : MS K C t f) (hJ : ItR K J F l) (R : RE K C.toCf F H σ ρ) (e : loop tg f l ρ = some o) (P : PO' K C F D o) : ForJ J gt t D σ H := by
  refine ⟨fun i m σ' H' => ∃ F' ρ', m = l.length - i ∧ i ≤ l.length ∧ Same F F' ∧ RE K C.toCf F' H' σ' ρ' ∧ loop tg f (l.drop i) ρ' = some o, ⟨l.length, F, ρ, by simp, Nat.zero_le _, Same.refl _, R, by rw [List.drop_zero]; exact e⟩, ?_⟩
  rintro i m σ' H' ⟨F', ρ', rfl, hi, s, R', e'⟩
  by_cases hlt : i < l.length
  · refine .inr ⟨hJ.go i F' H' hlt s R'.rb.sub, fun σ2 H2 => ∃ F2 ρ2, Same F F2 ∧ RE K C.toCf F2 H2 σ2 ρ2 ∧ loop tg f (l.drop (i + 1)) ρ2 = some o, fun σ2 H2 ⟨F2, ρ2, s2, R2, e2⟩ => ⟨l.length - (i + 1), by omega, F2, ρ2, rfl, hlt, s2, R2, e2⟩, fun x H'' y => ?_⟩
    obtain ⟨F'', p, u, ep, rx⟩ := hJ.yld i F' H' x H'' hlt s R'.rb.sub y
    have ed : l.drop i = p :: l.drop (i + 1) := by
      rw [List.drop_eq_getElem_cons hlt]
      rw [List.getElem?_eq_getElem hlt] at ep
      rw [Option.some.inj ep]
    rw [ed, loop] at e'
    split at e'
    · cases e'
    · rename_i ρ1 h1
      refine hg F'' H'' σ' ρ' x p ρ1 _ (R'.up u) rx h1 fun σ1 R1 => ?_
      have sF : Same F F'' := s.trans u.ff
      split at e'
      · rename_i ρ2 h2
        exact hb F'' H'' σ1 ρ1 _ _ R1 h2 fun F3 H3 σ3 s3 R3 => ⟨F3, ρ2, sF.trans s3, R3, e'⟩
      · rename_i ρ2 h2
        exact hb F'' H'' σ1 ρ1 _ _ R1 h2 fun F3 H3 σ3 s3 R3 => ⟨F3, ρ2, sF.trans s3, R3, e'⟩
      · rename_i ρ2 h2
        cases e'
        exact hb F'' H'' σ1 ρ1 _ _ R1 h2 fun F3 H3 σ3 s3 R3 => P F3 H3 σ3 (sF.trans s3) R3
      · rename_i n1 n2 n3
        cases o with
        | nx ρ2 => exact absurd e' (n1 ρ2)
        | ct ρ2 => exact absurd e' (n2 ρ2)
        | bk ρ2 => exact absurd e' (n3 ρ2)
        | rt p => exact hb F'' H'' σ1 ρ1 _ _ R1 e' (PO'.up (D := D) P sF)
        | ro p => exact hb F'' H'' σ1 ρ1 _ _ R1 e' (PO'.up (D := D) P sF)
        | rd p => exact hb F'' H'' σ1 ρ1 _ _ R1 e' (PO'.up (D := D) P sF)
        | ex z => exact hb F'' H'' σ1 ρ1 _ _ R1 e' (PX.up P sF)
  · have ei : i = l.length := by omega
    subst ei
    rw [List.drop_length] at e'
    cases e'
    exact .inl ⟨hJ.stop F' H' s R'.rb.sub, P F' H' σ' s R'⟩
theorem ms_for {wi : TI} {it : Fn (List PV)} {gt : TG} {tg : PV → Rho → Option Rho} (hi : MI K C wi it) (hg : MG K C gt tg) (hb : MS K C t f) : MS K C (tFor wi gt t) (mFor it tg f) := by
  intro F H σ ρ D o R e P
  rcases bndS_inv e with ⟨z, e1, rfl⟩ | ⟨l, e1, hk⟩
  · exact hi F H σ ρ _ _ R e1 P
  · exact hi F H σ ρ _ _ R e1 fun J F' H' u hJ => forJ_loop hg hb hJ (R.up u) hk (P.up u.ff)
noncomputable def wloop (fc : Fn Bool) (body : Sn) : Nat → Rho → Option Out
  | 0, _ => none
  | n + 1, ρ => bndS (fc ρ) fun b => if b = true then (match body ρ with
      | some (.nx ρ2) => wloop fc body n ρ2
      | some (.ct ρ2) => wloop fc body n ρ2
      | some (.bk ρ2) => some (.nx ρ2)
      | x => x) else some (.nx ρ)
theorem ms_while {c : TT} {fc : Fn Bool} (n : Nat) (hc : MT K C c fc) (hb : MS K C t f) : MS K C (tWhile c t) (wloop fc f n) := by
  intro F H σ ρ D o R e P
  refine ⟨fun m σ' H' => ∃ F' ρ', Same F F' ∧ RE K C.toCf F' H' σ' ρ' ∧ wloop fc f m ρ' = some o, ⟨n, F, ρ, Same.refl _, R, e⟩, ?_⟩
  rintro m σ' H' ⟨F', ρ', s, R', e'⟩
  cases m with
  | zero => cases e'
  | succ m =>
    refine hc.runS R' e' (P.up s) fun b F1 H1 hk u => ?_
    have sF : Same F F1 := s.trans u.ff
    have R1 := R'.up u
    cases b with
    | false =>
      rw [if_neg (by decide)] at hk ⊢
      cases hk
      exact P F1 H1 σ' sF R1
    | true =>
      rw [if_pos rfl] at hk ⊢
      refine ⟨fun σ2 H2 => ∃ F2 ρ2, Same F F2 ∧ RE K C.toCf F2 H2 σ2 ρ2 ∧ wloop fc f m ρ2 = some o, fun σ2 H2 ⟨F2, ρ2, s2, R2, e2⟩ => ⟨m, Nat.lt_succ_self _, F2, ρ2, s2, R2, e2⟩, ?_⟩
      split at hk
      · rename_i ρ2 h2
        exact hb F1 H1 σ' ρ' _ _ R1 h2 fun F3 H3 σ3 s3 R3 => ⟨F3, ρ2, sF.trans s3, R3, hk⟩
      · rename_i ρ2 h2
        exact hb F1 H1 σ' ρ' _ _ R1 h2 fun F3 H3 σ3 s3 R3 => ⟨F3, ρ2, sF.trans s3, R3, hk⟩
      · rename_i ρ2 h2
        cases hk
        exact hb F1 H1 σ' ρ' _ _ R1 h2 fun F3 H3 σ3 s3 R3 => P F3 H3 σ3 (sF.trans s3) R3
      · rename_i n1 n2 n3
        cases o with
        | nx ρ2 => exact absurd hk (n1 ρ2)
        | ct ρ2 => exact absurd hk (n2 ρ2)
        | bk ρ2 => exact absurd hk (n3 ρ2)
        | rt p => exact hb F1 H1 σ' ρ' _ _ R1 hk (PO'.up (D := D) P sF)
        | ro p => exact hb F1 H1 σ' ρ' _ _ R1 hk (PO'.up (D := D) P sF)
        | rd p => exact hb F1 H1 σ' ρ' _ _ R1 hk (PO'.up (D := D) P sF)
        | ex z => exact hb F1 H1 σ' ρ' _ _ R1 hk (PX.up P sF)
end
end L2.MP

namespace L2.MP
open PySem PySem.Spec PyProof.Rows
noncomputable def eqL (f : PV → PV → Option Bool) : List PV → List PV → Option Bool
  | [], [] => some true
  | [], _ :: _ => some false
  | _ :: _, [] => some false
  | x :: xs, y :: ys => match f x y, eqL f xs ys with
    | some a, some b => some (a && b)
    | _, _ => none
noncomputable def eqF : Nat → PV → PV → Option Bool
  | _, .non, .non => some true
  | _, .non, .bl _ => some false
  | _, .non, .int _ => some false
  | _, .non, .str _ => some false
  | _, .bl _, .non => some false
  | _, .bl a, .bl b => some (decide (a = b))
  | _, .bl _, .str _ => some false
  | _, .int _, .non => some false
  | _, .int a, .int b => some (decide (a = b))
  | _, .int _, .str _ => some false
  | _, .str _, .non => some false
  | _, .str _, .bl _ => some false
  | _, .str _, .int _ => some false
  | _, .str a, .str b => some (decide (a = b))
  | _, .non, .tup _ => some false
  | _, .tup _, .non => some false
  | _, .non, .lst _ => some false
  | _, .lst _, .non => some false
  | _, .int _, .tup _ => some false
  | _, .tup _, .int _ => some false
  | _, .str _, .tup _ => some false
  | _, .tup _, .str _ => some false
  | _, .int _, .lst _ => some false
  | _, .lst _, .int _ => some false
  | _, .str _, .lst _ => some false
  | _, .lst _, .str _ => some false
  | _, .lst _, .tup _ => some false
  | _, .tup _, .lst _ => some false
  | n + 1, .tup l, .tup m => eqL (eqF n) l m
  | n + 1, .lst l, .lst m => if l.length = m.length then eqL (eqF n) l m else some false
  | _, _, _ => none
theorem eqL_refl {f : PV → PV → Option Bool} (h : ∀ p r, f p p = some r → r = true) : ∀ {l : List PV} {r : Bool}, eqL f l l = some r → r = true
  | [], r, e => by cases e; rfl
  | x :: xs, r, e => by
    rw [eqL] at e
    split at e
    · rename_i a b h1 h2
      cases e
      rw [h x a h1, eqL_refl h h2]; rfl
    · cases e
theorem eqF_refl : ∀ (n : Nat) (p : PV) (r : Bool), eqF n p p = some r → r = true
  | n, p, r, e => by
    induction n generalizing p r with
    | zero => cases p <;> first | (cases (show some true = some r from e); rfl) | (cases (show some (decide _) = some r from e); exact decide_eq_true rfl) | cases (show none = some r from e)
    | succ n ih =>
      cases p with
      | tup l => exact eqL_refl ih e
      | lst l =>
        have e : (if l.length = l.length then eqL (eqF n) l l else some false) = some r := e
        rw [if_pos rfl] at e; exact eqL_refl ih e
      | _ => first | (cases (show some true = some r from e); rfl) | (cases (show some (decide _) = some r from e); exact decide_eq_true rfl) | cases (show none = some r from e)
theorem eqL_get {f : PV → PV → Option Bool} : ∀ {l m : List PV} {r : Bool}, eqL f l m = some r → ∃ e : Nat → Bool, (∀ (j : Nat) x y, l[j]? = some x → m[j]? = some y → f x y = some (e j)) ∧ r = ((List.range (min l.length m.length)).all e && l.length == m.length)
  | [], [], r, h => ⟨fun _ => true, fun j x y a => by simp at a, by cases h; rfl⟩
  | [], _ :: _, r, h => ⟨fun _ => true, fun j x y a => by simp at a, by cases h; simp⟩
  | _ :: _, [], r, h => ⟨fun _ => true, fun j x y _ a => by simp at a, by cases h; simp⟩
  | x :: xs, y :: ys, r, h => by
    rw [eqL] at h
    split at h
    · rename_i a b h1 h2
      cases h
      obtain ⟨e, e1, e2⟩ := eqL_get h2
      refine ⟨fun j => match j with | 0 => a | j + 1 => e j, fun j x' y' a' b' => ?_, ?_⟩
      · cases j with
        | zero => simp at a' b'; subst a' b'; exact h1
        | succ j => exact e1 j x' y' (by simpa using a') (by simpa using b')
      · rw [e2, List.length_cons, List.length_cons, Nat.succ_min_succ, List.range_succ_eq_map, List.all_cons, List.all_map]
        have : ((xs.length + 1 == ys.length + 1) : Bool) = (xs.length == ys.length) := by
          rw [Bool.eq_iff_iff]; simp
        rw [this]
        cases a <;> simp [Function.comp_def]
    · cases h
section
variable {X : Cx} {pins : List (Addr × Obj)} {σ : St} {H : Hp} {s : Shared}
theorem Rep.kinds (I : Inv X pins σ H s) {a : Addr} {xs ys : List V} (h1 : SqL X.K H a xs) (h2 : SqT X.K H a ys) : False := by
  obtain ⟨_, _, p1, _⟩ := I.list h1
  obtain ⟨_, _, p2, _⟩ := I.tuple h2
  obtain ⟨o, n, e, c, _⟩ := p1
  obtain ⟨o', e', c', _⟩ := p2
  rw [e] at e'; cases e'
  rw [c] at c'; exact absurd c' (by decide)
theorem reps_inj {xs : List V} {l m : List PV} (h1 : xs.length = l.length) (h2 : xs.length = m.length) (h : ∀ (j : Nat) x p q, xs[j]? = some x → l[j]? = some p → m[j]? = some q → p = q) : l = m := by
  apply List.ext_getElem?
  intro j
  by_cases hj : j < xs.length
  · have hl : j < l.length := by omega
    have hm : j < m.length := by omega
    rw [List.getElem?_eq_getElem hl, List.getElem?_eq_getElem hm, h j xs[j] l[j] m[j] (by simp [hj]) (by simp [hl]) (by simp [hm])]
  · rw [List.getElem?_eq_none (by omega), List.getElem?_eq_none (by omega)]
noncomputable def HO.isDict : HO → Bool
  | .dK _ => true
  | .dT _ => true
  | _ => false
theorem rd_inj0 {H : Hp} {a : Addr} {u v : HO} (hu : HO.isDict u = true) (hv : HO.isDict v = true) (h : Rd H a u) (h' : Rd H a v) : u = v := by
  rcases h with h | ⟨o, h⟩ <;> rcases h' with h' | ⟨o', h'⟩ <;> rw [h] at h' <;> cases h'
  · rfl
  · cases hu
  · cases hv
  · rfl
theorem rd_inj {H : Hp} {a : Addr} {u v : HO} (h : Rd H a u) (h' : Rd H a v) (hu : HO.isDict u = true := by rfl) (hv : HO.isDict v = true := by rfl) : u = v := rd_inj0 hu hv h h'
theorem Rep.noDict (I : Inv X pins σ H s) {a : Addr} {ks : List (Key × V)} {ts : List (List Key × V)} (h1 : Rd H a (.dK ks) ∨ Rd H a (.dT ts)) (h2 : (∃ xs, SqL X.K H a xs) ∨ ∃ xs, SqT X.K H a xs) : False := by
  have d : ∃ o es ep, s.heap.get? a = some o ∧ o.data = .dict es ep := by
    rcases h1 with h1 | h1
    · obtain ⟨_, _, _, _, o, es, ep, e, x, d, _⟩ := h1.ok I.hok
      exact ⟨o, es, ep, e, d⟩
    · obtain ⟨_, _, _, _, o, es, ep, e, x, d, _⟩ := h1.ok I.hok
      exact ⟨o, es, ep, e, d⟩
  obtain ⟨o, es, ep, e, d⟩ := d
  rcases h2 with ⟨xs, h2⟩ | ⟨xs, h2⟩
  · obtain ⟨_, _, p1, _⟩ := I.list h2
    obtain ⟨o', n, e', _, _, d'⟩ := p1
    rw [e] at e'; cases e'
    rw [d] at d'; cases d'
  · obtain ⟨_, _, p1, _⟩ := I.tuple h2
    obtain ⟨o', e', _, n, d'⟩ := p1
    rw [e] at e'; cases e'
    rw [d] at d'; cases d'
theorem XO.at (I : Inv X pins σ H s) {a C : Addr} {d : Option Addr} (h : H a = some (XO a C d)) : ∃ vs : Array Value, s.heap.get? a = some { cls := .ref C, dict := d, data := .fields vs } := (I.hok _ _ h).1
theorem XO.inj (I : Inv X pins σ H s) {a C C' : Addr} {d d' : Option Addr} (h : H a = some (XO a C d)) (h' : H a = some (XO a C' d')) : C = C' ∧ d = d' := by
  obtain ⟨vs, e⟩ := XO.at I h
  obtain ⟨vs', e'⟩ := XO.at I h'
  rw [e] at e'
  cases e'
  exact ⟨rfl, rfl⟩
theorem XO.noSeq (I : Inv X pins σ H s) {a C : Addr} {d : Option Addr} (h : H a = some (XO a C d)) (h2 : (∃ xs, SqL X.K H a xs) ∨ ∃ xs, SqT X.K H a xs) : False := by
  obtain ⟨vs, e⟩ := XO.at I h
  rcases h2 with ⟨xs, h2⟩ | ⟨xs, h2⟩
  · obtain ⟨_, _, p1, _⟩ := I.list h2
    obtain ⟨o', n, e', _, _, d'⟩ := p1
    rw [e] at e'; cases e'
    cases d'
  · obtain ⟨_, _, p1, _⟩ := I.tuple h2
    obtain ⟨o', e', _, n, d'⟩ := p1
    rw [e] at e'; cases e'
    cases d'
theorem XNm.inj {K : PySem.W.Frag} {C : Addr} {c c' : Str} (a : XNm K C c) (b : XNm K C c') : c = c' := by
  obtain ⟨cd, h1, h2⟩ := a.cl
  obtain ⟨cd', h1', h2'⟩ := b.cl
  rw [h1] at h1'; cases h1'
  exact h2.symm.trans h2'
theorem Rep.inj (I : Inv X pins σ H s) {x : V} {p : PV} (h : Rep X.K H x p) : ∀ {q : PV}, Rep X.K H x q → p = q := by
  have pairs : ∀ {κ : Type} {xs : List (κ × V)} {l m : List (κ × PV)}, xs.map (·.1) = l.map (·.1) → xs.map (·.1) = m.map (·.1) → (∀ (j : Nat) x p q, xs[j]? = some x → l[j]? = some p → m[j]? = some q → p.2 = q.2) → l = m := by
    intro κ xs l m h1 h2 h3
    have l1 : xs.length = l.length := by simpa using congrArg List.length h1
    have l2 : xs.length = m.length := by simpa using congrArg List.length h2
    apply List.ext_getElem?
    intro j
    by_cases hj : j < xs.length
    · have hl : j < l.length := by omega
      have hm : j < m.length := by omega
      rw [List.getElem?_eq_getElem hl, List.getElem?_eq_getElem hm]
      have k := congrArg (·[j]?) (h1.symm.trans h2)
      simp [hl, hm] at k
      have v := h3 j xs[j] l[j] m[j] (by simp [hj]) (by simp [hl]) (by simp [hm])
      rw [Prod.ext k v]
    · rw [List.getElem?_eq_none (by omega), List.getElem?_eq_none (by omega)]
  induction h with
  | non => intro q h'; cases h'; rfl
  | bl => intro q h'; cases h'; rfl
  | int => intro q h'; cases h'; rfl
  | str => intro q h'; cases h'; rfl
  | ty => intro q h'; cases h'; rfl
  | @tup a xs l h hl _ ih =>
    intro q h'
    have h := SqT.of (K := X.K) h
    cases h' with
    | tup h2 hl2 hr2 =>
      cases I.tuple_inj h (SqT.of (K := X.K) h2)
      rw [reps_inj hl hl2 fun j x p q e1 e2 e3 => ih j x p e1 e2 (hr2 j x q e1 e3)]
    | lst h2 => exact (Rep.kinds I h2 h).elim
    | dk h2 => exact (Rep.noDict I (ts := []) (.inl h2) (.inr ⟨_, h⟩)).elim
    | dt h2 => exact (Rep.noDict I (ks := []) (.inr h2) (.inr ⟨_, h⟩)).elim
    | exc _ h2 => exact (XO.noSeq I h2 (.inr ⟨_, h⟩)).elim
    | exc0 _ h2 => exact (XO.noSeq I h2 (.inr ⟨_, h⟩)).elim
  | @lst a xs l h hl _ ih =>
    intro q h'
    cases h' with
    | tup h2 => exact (Rep.kinds I h (SqT.of h2)).elim
    | lst h2 hl2 hr2 =>
      cases I.list_inj h h2
      rw [reps_inj hl hl2 fun j x p q e1 e2 e3 => ih j x p e1 e2 (hr2 j x q e1 e3)]
    | dk h2 => exact (Rep.noDict I (ts := []) (.inl h2) (.inl ⟨_, h⟩)).elim
    | dt h2 => exact (Rep.noDict I (ks := []) (.inr h2) (.inl ⟨_, h⟩)).elim
    | exc _ h2 => exact (XO.noSeq I h2 (.inl ⟨_, h⟩)).elim
    | exc0 _ h2 => exact (XO.noSeq I h2 (.inl ⟨_, h⟩)).elim
  | @dk a xs l h hl _ ih =>
    intro q h'
    cases h' with
    | tup h2 => exact (Rep.noDict I (ts := []) (.inl h) (.inr ⟨_, SqT.of h2⟩)).elim
    | lst h2 => exact (Rep.noDict I (ts := []) (.inl h) (.inl ⟨_, h2⟩)).elim
    | dk h2 hl2 hr2 =>
      cases (rd_inj h h2)
      rw [pairs hl hl2 fun j x p q e1 e2 e3 => ih j x p e1 e2 (hr2 j x q e1 e3)]
    | dt h2 => cases rd_inj h h2
    | exc _ h2 => rcases h with h | ⟨o, h⟩ <;> rw [h] at h2 <;> cases h2
    | exc0 _ h2 => rcases h with h | ⟨o, h⟩ <;> rw [h] at h2 <;> cases h2
  | @dt a xs l h hl _ ih =>
    intro q h'
    cases h' with
    | tup h2 => exact (Rep.noDict I (ks := []) (.inr h) (.inr ⟨_, SqT.of h2⟩)).elim
    | lst h2 => exact (Rep.noDict I (ks := []) (.inr h) (.inl ⟨_, h2⟩)).elim
    | dk h2 => cases rd_inj h h2
    | dt h2 hl2 hr2 =>
      cases (rd_inj h h2)
      rw [pairs hl hl2 fun j x p q e1 e2 e3 => ih j x p e1 e2 (hr2 j x q e1 e3)]
    | exc _ h2 => rcases h with h | ⟨o, h⟩ <;> rw [h] at h2 <;> cases h2
    | exc0 _ h2 => rcases h with h | ⟨o, h⟩ <;> rw [h] at h2 <;> cases h2
  | @exc a C dx c xs l nm h hd hl _ ih =>
    intro q h'
    cases h' with
    | tup h2 => exact (XO.noSeq I h (.inr ⟨_, SqT.of h2⟩)).elim
    | lst h2 => exact (XO.noSeq I h (.inl ⟨_, h2⟩)).elim
    | dk h2 => rcases h2 with h2 | ⟨o, h2⟩ <;> rw [h] at h2 <;> cases h2
    | dt h2 => rcases h2 with h2 | ⟨o, h2⟩ <;> rw [h] at h2 <;> cases h2
    | exc nm2 h2 hd2 hl2 hr2 =>
      obtain ⟨rfl, e⟩ := XO.inj I h h2
      cases e
      rw [hd] at hd2; cases hd2
      cases XNm.inj nm nm2
      rw [pairs hl hl2 fun j x p q e1 e2 e3 => ih j x p e1 e2 (hr2 j x q e1 e3)]
    | exc0 nm2 h2 => cases (XO.inj I h h2).2
  | @exc0 a C c nm h =>
    intro q h'
    cases h' with
    | tup h2 => exact (XO.noSeq I h (.inr ⟨_, SqT.of h2⟩)).elim
    | lst h2 => exact (XO.noSeq I h (.inl ⟨_, h2⟩)).elim
    | dk h2 => rcases h2 with h2 | ⟨o, h2⟩ <;> rw [h] at h2 <;> cases h2
    | dt h2 => rcases h2 with h2 | ⟨o, h2⟩ <;> rw [h] at h2 <;> cases h2
    | exc nm2 h2 => cases (XO.inj I h h2).2
    | exc0 nm2 h2 =>
      obtain ⟨rfl, _⟩ := XO.inj I h h2
      cases XNm.inj nm nm2
      rfl
theorem eq_at0 (I : Inv X pins σ H s) : ∀ {A : Around} {x y : V} {p q : PV} {r : Bool} {u v : Value}, A.units < cLine → eqF 0 p q = some r → Rep X.K H x p → Rep X.K H y q → RelV x u → RelV y v →
    SeqAt.RcAt A s u v r ∧ SeqAt.EqAt A s u v r ∧ SeqAt.RcNeAt A s u v (!r) := by
  intro A x y p q r u v hu e rx ry ru rv
  have hu0 : A.units < cLine := hu
  match p, q, e with
  | .non, .non, e =>
    have e := Option.some.inj e
    subst e
    cases Rep.inv_non rx
    cases Rep.inv_non ry
    cases ru
    cases rv
    exact ⟨SeqAt.RcAt.none_none, SeqAt.EqAt.same _, SeqAt.RcNeAt.none_none⟩
  | .non, .bl b, e =>
    have e := Option.some.inj e
    subst e
    cases Rep.inv_non rx
    cases Rep.inv_bl ry
    cases ru
    cases rv
    exact ⟨SeqAt.RcAt.none_bool _, SeqAt.EqAt.none_bool _, SeqAt.RcNeAt.none_bool _⟩
  | .non, .int b, e =>
    have e := Option.some.inj e
    subst e
    cases Rep.inv_non rx
    cases Rep.inv_int ry
    cases ru
    obtain ⟨tb, rfl⟩ := rv
    exact ⟨SeqAt.RcAt.none_int _ _, SeqAt.EqAt.none_int _ _, SeqAt.RcNeAt.none_int _ _⟩
  | .non, .str b, e =>
    have e := Option.some.inj e
    subst e
    cases Rep.inv_non rx
    cases Rep.inv_str ry
    cases ru
    obtain ⟨tb, rfl⟩ := rv
    exact ⟨SeqAt.RcAt.none_str _ _, SeqAt.EqAt.none_str _ _, SeqAt.RcNeAt.none_str _ _⟩
  | .bl a, .non, e =>
    have e := Option.some.inj e
    subst e
    cases Rep.inv_bl rx
    cases Rep.inv_non ry
    cases ru
    cases rv
    exact ⟨SeqAt.RcAt.bool_none _, SeqAt.EqAt.bool_none _, SeqAt.RcNeAt.bool_none _⟩
  | .bl a, .bl b, e =>
    have e := Option.some.inj e
    subst e
    cases Rep.inv_bl rx
    cases Rep.inv_bl ry
    cases ru
    cases rv
    rw [← Bool.beq_eq_decide_eq]
    exact ⟨SeqAt.RcAt.bool_bool _ _, SeqAt.EqAt.bool_bool _ _, SeqAt.RcNeAt.bool_bool _ _⟩
  | .bl a, .str b, e =>
    have e := Option.some.inj e
    subst e
    cases Rep.inv_bl rx
    cases Rep.inv_str ry
    cases ru
    obtain ⟨tb, rfl⟩ := rv
    exact ⟨SeqAt.RcAt.bool_str _ _ _, SeqAt.EqAt.bool_str _ _ _, SeqAt.RcNeAt.bool_str _ _ _⟩
  | .int a, .non, e =>
    have e := Option.some.inj e
    subst e
    cases Rep.inv_int rx
    cases Rep.inv_non ry
    obtain ⟨ta, rfl⟩ := ru
    cases rv
    exact ⟨SeqAt.RcAt.int_none _ _, SeqAt.EqAt.int_none _ _, SeqAt.RcNeAt.int_none _ _⟩
  | .int a, .int b, e =>
    have e := Option.some.inj e
    subst e
    cases Rep.inv_int rx
    cases Rep.inv_int ry
    obtain ⟨ta, rfl⟩ := ru
    obtain ⟨tb, rfl⟩ := rv
    rw [← Bool.beq_eq_decide_eq]
    exact ⟨SeqAt.RcAt.int_int _ _ _ _, SeqAt.EqAt.int_int _ _ _ _, SeqAt.RcNeAt.int_int _ _ _ _⟩
  | .int a, .str b, e =>
    have e := Option.some.inj e
    subst e
    cases Rep.inv_int rx
    cases Rep.inv_str ry
    obtain ⟨ta, rfl⟩ := ru
    obtain ⟨tb, rfl⟩ := rv
    exact ⟨SeqAt.RcAt.int_str _ _ _ _, SeqAt.EqAt.int_str _ _ _ _, SeqAt.RcNeAt.int_str _ _ _ _⟩
  | .str a, .non, e =>
    have e := Option.some.inj e
    subst e
    cases Rep.inv_str rx
    cases Rep.inv_non ry
    obtain ⟨ta, rfl⟩ := ru
    cases rv
    exact ⟨SeqAt.RcAt.str_none _ _, SeqAt.EqAt.str_none _ _, SeqAt.RcNeAt.str_none _ _⟩
  | .str a, .bl b, e =>
    have e := Option.some.inj e
    subst e
    cases Rep.inv_str rx
    cases Rep.inv_bl ry
    obtain ⟨ta, rfl⟩ := ru
    cases rv
    exact ⟨SeqAt.RcAt.str_bool _ _ _, SeqAt.EqAt.str_bool _ _ _, SeqAt.RcNeAt.str_bool _ _ _⟩
  | .str a, .int b, e =>
    have e := Option.some.inj e
    subst e
    cases Rep.inv_str rx
    cases Rep.inv_int ry
    obtain ⟨ta, rfl⟩ := ru
    obtain ⟨tb, rfl⟩ := rv
    exact ⟨SeqAt.RcAt.str_int _ _ _ _, SeqAt.EqAt.str_int _ _ _ _, SeqAt.RcNeAt.str_int _ _ _ _⟩
  | .str a, .str b, e =>
    have e := Option.some.inj e
    subst e
    cases Rep.inv_str rx
    cases Rep.inv_str ry
    obtain ⟨ta, rfl⟩ := ru
    obtain ⟨tb, rfl⟩ := rv
    rw [← Bool.beq_eq_decide_eq]
    exact ⟨SeqAt.RcAt.str_str _ _ _ _, SeqAt.EqAt.str_str _ _ _ _, SeqAt.RcNeAt.str_str _ _ _ _⟩
  | .tup a, .non, e =>
    have e := Option.some.inj e
    subst e
    obtain ⟨aa, xsa, rfl, ha, _⟩ := rx.inv_tup
    cases ru
    obtain ⟨_, _, pa, _⟩ := I.tuple ha
    cases Rep.inv_non ry
    cases rv
    exact ⟨SeqAt.RcAt.tuple_none pa hu0, SeqAt.EqAt.tuple_none pa hu0, SeqAt.RcNeAt.tuple_none pa hu0⟩
  | .non, .tup b, e =>
    have e := Option.some.inj e
    subst e
    cases Rep.inv_non rx
    cases ru
    obtain ⟨ab, xsb, rfl, hb, _⟩ := ry.inv_tup
    cases rv
    obtain ⟨_, _, pb, _⟩ := I.tuple hb
    exact ⟨SeqAt.RcAt.none_tuple pb hu0, SeqAt.EqAt.none_tuple pb hu0, SeqAt.RcNeAt.none_tuple pb hu0⟩
  | .tup a, .int b, e =>
    have e := Option.some.inj e
    subst e
    obtain ⟨aa, xsa, rfl, ha, _⟩ := rx.inv_tup
    cases ru
    obtain ⟨_, _, pa, _⟩ := I.tuple ha
    cases Rep.inv_int ry
    obtain ⟨tb, rfl⟩ := rv
    exact ⟨SeqAt.RcAt.tuple_int _ _ pa hu0, SeqAt.EqAt.tuple_int _ _ pa hu0, SeqAt.RcNeAt.tuple_int _ _ pa hu0⟩
  | .int a, .tup b, e =>
    have e := Option.some.inj e
    subst e
    cases Rep.inv_int rx
    obtain ⟨ta, rfl⟩ := ru
    obtain ⟨ab, xsb, rfl, hb, _⟩ := ry.inv_tup
    cases rv
    obtain ⟨_, _, pb, _⟩ := I.tuple hb
    exact ⟨SeqAt.RcAt.int_tuple _ _ pb hu0, SeqAt.EqAt.int_tuple _ _ pb hu0, SeqAt.RcNeAt.int_tuple _ _ pb hu0⟩
  | .tup a, .str b, e =>
    have e := Option.some.inj e
    subst e
    obtain ⟨aa, xsa, rfl, ha, _⟩ := rx.inv_tup
    cases ru
    obtain ⟨_, _, pa, _⟩ := I.tuple ha
    cases Rep.inv_str ry
    obtain ⟨tb, rfl⟩ := rv
    exact ⟨SeqAt.RcAt.tuple_str _ _ pa hu0, SeqAt.EqAt.tuple_str _ _ pa hu0, SeqAt.RcNeAt.tuple_str _ _ pa hu0⟩
  | .str a, .tup b, e =>
    have e := Option.some.inj e
    subst e
    cases Rep.inv_str rx
    obtain ⟨ta, rfl⟩ := ru
    obtain ⟨ab, xsb, rfl, hb, _⟩ := ry.inv_tup
    cases rv
    obtain ⟨_, _, pb, _⟩ := I.tuple hb
    exact ⟨SeqAt.RcAt.str_tuple _ _ pb hu0, SeqAt.EqAt.str_tuple _ _ pb hu0, SeqAt.RcNeAt.str_tuple _ _ pb hu0⟩
  | .lst a, .non, e =>
    have e := Option.some.inj e
    subst e
    obtain ⟨aa, xsa, rfl, ha, _⟩ := rx.inv_lst
    cases ru
    obtain ⟨_, _, pa, _⟩ := I.list ha
    cases Rep.inv_non ry
    cases rv
    exact ⟨SeqAt.RcAt.list_none pa.isList hu0, SeqAt.EqAt.list_none pa.isList hu0, SeqAt.RcNeAt.list_none pa.isList hu0⟩
  | .non, .lst b, e =>
    have e := Option.some.inj e
    subst e
    cases Rep.inv_non rx
    cases ru
    obtain ⟨ab, xsb, rfl, hb, _⟩ := ry.inv_lst
    cases rv
    obtain ⟨_, _, pb, _⟩ := I.list hb
    exact ⟨SeqAt.RcAt.none_list pb.isList hu0, SeqAt.EqAt.none_list pb.isList hu0, SeqAt.RcNeAt.none_list pb.isList hu0⟩
  | .lst a, .int b, e =>
    have e := Option.some.inj e
    subst e
    obtain ⟨aa, xsa, rfl, ha, _⟩ := rx.inv_lst
    cases ru
    obtain ⟨_, _, pa, _⟩ := I.list ha
    cases Rep.inv_int ry
    obtain ⟨tb, rfl⟩ := rv
    exact ⟨SeqAt.RcAt.list_int _ _ pa.isList hu0, SeqAt.EqAt.list_int _ _ pa.isList hu0, SeqAt.RcNeAt.list_int _ _ pa.isList hu0⟩
  | .int a, .lst b, e =>
    have e := Option.some.inj e
    subst e
    cases Rep.inv_int rx
    obtain ⟨ta, rfl⟩ := ru
    obtain ⟨ab, xsb, rfl, hb, _⟩ := ry.inv_lst
    cases rv
    obtain ⟨_, _, pb, _⟩ := I.list hb
    exact ⟨SeqAt.RcAt.int_list _ _ pb.isList hu0, SeqAt.EqAt.int_list _ _ pb.isList hu0, SeqAt.RcNeAt.int_list _ _ pb.isList hu0⟩
  | .lst a, .str b, e =>
    have e := Option.some.inj e
    subst e
    obtain ⟨aa, xsa, rfl, ha, _⟩ := rx.inv_lst
    cases ru
    obtain ⟨_, _, pa, _⟩ := I.list ha
    cases Rep.inv_str ry
    obtain ⟨tb, rfl⟩ := rv
    exact ⟨SeqAt.RcAt.list_str _ _ pa.isList hu0, SeqAt.EqAt.list_str _ _ pa.isList hu0, SeqAt.RcNeAt.list_str _ _ pa.isList hu0⟩
  | .str a, .lst b, e =>
    have e := Option.some.inj e
    subst e
    cases Rep.inv_str rx
    obtain ⟨ta, rfl⟩ := ru
    obtain ⟨ab, xsb, rfl, hb, _⟩ := ry.inv_lst
    cases rv
    obtain ⟨_, _, pb, _⟩ := I.list hb
    exact ⟨SeqAt.RcAt.str_list _ _ pb.isList hu0, SeqAt.EqAt.str_list _ _ pb.isList hu0, SeqAt.RcNeAt.str_list _ _ pb.isList hu0⟩
  | .lst a, .tup b, e =>
    have e := Option.some.inj e
    subst e
    obtain ⟨aa, xsa, rfl, ha, _⟩ := rx.inv_lst
    cases ru
    obtain ⟨_, _, pa, _⟩ := I.list ha
    obtain ⟨ab, xsb, rfl, hb, _⟩ := ry.inv_tup
    cases rv
    obtain ⟨_, _, pb, _⟩ := I.tuple hb
    exact ⟨SeqAt.RcAt.list_tuple pa.isList pb hu0, SeqAt.EqAt.list_tuple pa.isList pb hu0, SeqAt.RcNeAt.list_tuple pa.isList pb hu0⟩
  | .tup a, .lst b, e =>
    have e := Option.some.inj e
    subst e
    obtain ⟨aa, xsa, rfl, ha, _⟩ := rx.inv_tup
    cases ru
    obtain ⟨_, _, pa, _⟩ := I.tuple ha
    obtain ⟨ab, xsb, rfl, hb, _⟩ := ry.inv_lst
    cases rv
    obtain ⟨_, _, pb, _⟩ := I.list hb
    exact ⟨SeqAt.RcAt.tuple_list pa pb.isList hu0, SeqAt.EqAt.tuple_list pa pb.isList hu0, SeqAt.RcNeAt.tuple_list pa pb.isList hu0⟩
noncomputable def isRec : PV → PV → Bool
  | .tup _, .tup _ => true
  | .lst _, .lst _ => true
  | _, _ => false
theorem eqF_flat {n : Nat} {p q : PV} (h : isRec p q = false) : eqF (n + 1) p q = eqF 0 p q := by
  cases p <;> cases q <;> first | rfl | cases h
theorem isRec_inv : ∀ {p q : PV}, isRec p q = true → (∃ l m, p = .tup l ∧ q = .tup m) ∨ ∃ l m, p = .lst l ∧ q = .lst m
  | .tup l, q, h => by
    cases q with
    | tup m => exact .inl ⟨l, m, rfl, rfl⟩
    | _ => cases h
  | .lst l, q, h => by
    cases q with
    | lst m => exact .inr ⟨l, m, rfl, rfl⟩
    | _ => cases h
theorem eq_at (I : Inv X pins σ H s) : ∀ (n : Nat) {A : Around} {x y : V} {p q : PV} {r : Bool} {u v : Value}, A.units + n < cLine → eqF n p q = some r → Rep X.K H x p → Rep X.K H y q → RelV x u → RelV y v →
    SeqAt.RcAt A s u v r ∧ SeqAt.EqAt A s u v r ∧ SeqAt.RcNeAt A s u v (!r) := by
  intro n
  induction n with
  | zero => exact fun hu e => eq_at0 I (by omega) e
  | succ n ih =>
    intro A x y p q r u v hu e rx ry ru rv
    have hu0 : A.units < cLine := by omega
    cases hr : isRec p q with
    | false => exact eq_at0 I hu0 (by rw [← eqF_flat hr]; exact e) rx ry ru rv
    | true =>
    rcases isRec_inv hr with ⟨l, m, rfl, rfl⟩ | ⟨l, m, rfl, rfl⟩
    · have e : eqL (eqF n) l m = some r := e
      obtain ⟨a, xs, rfl, ha, r1⟩ := rx.inv_tup
      obtain ⟨b, ys, rfl, hb, r2⟩ := ry.inv_tup
      cases ru
      cases rv
      obtain ⟨i1, v1, t1, _⟩ := I.tuple ha
      obtain ⟨i2, v2, t2, _⟩ := I.tuple hb
      obtain ⟨g, g1, g2⟩ := eqL_get e
      have hj : ∀ j (h1 : j < i1.toArray.size) (h2 : j < i2.toArray.size), SeqAt.EqAt A.in1 s i1.toArray[j] i2.toArray[j] (g j) := fun j h1 h2 => by
        obtain ⟨x, hx, rx'⟩ := vals_at v1 h1
        obtain ⟨y, hy, ry'⟩ := vals_at v2 h2
        obtain ⟨p', hp, rp⟩ := r1.got hx
        obtain ⟨q', hq, rq⟩ := r2.got hy
        exact (ih (A := A.in1) (show A.units + 1 + n < cLine by omega) (g1 j p' q' hp hq) rp rq rx' ry').2.1
      have rc := SeqAt.RcAt.tuples (A := A) (e := g) t1 t2 hu0 hj
      have rn := SeqAt.RcNeAt.tuples (A := A) (e := g) t1 t2 hu0 hj
      rw [List.size_toArray, List.size_toArray, ← v1.length, ← v2.length, r1.1, r2.1, ← g2] at rc rn
      refine ⟨rc, ?_, rn⟩
      by_cases hab : a = b
      · subst hab
        have epq : PV.tup l = PV.tup m := Rep.inj I rx ry
        cases epq
        have er := eqL_refl (eqF_refl n) e
        subst er
        exact SeqAt.EqAt.same _
      · exact .of_refs hab rc
    · obtain ⟨a, xs, rfl, ha, r1⟩ := rx.inv_lst
      obtain ⟨b, ys, rfl, hb, r2⟩ := ry.inv_lst
      cases ru
      cases rv
      obtain ⟨i1, v1, t1, _⟩ := I.list ha
      obtain ⟨i2, v2, t2, _⟩ := I.list hb
      have e : (if l.length = m.length then eqL (eqF n) l m else some false) = some r := e
      split at e
      · rename_i hlm
        obtain ⟨g, g1, g2⟩ := eqL_get e
        have hz : i1.toArray.size = i2.toArray.size := by rw [List.size_toArray, List.size_toArray, ← v1.length, ← v2.length, r1.1, r2.1]; exact hlm
        have hj : ∀ j (h1 : j < i1.toArray.size) (h2 : j < i2.toArray.size), SeqAt.EqAt A.in1 s i1.toArray[j] i2.toArray[j] (g j) := fun j h1 h2 => by
          obtain ⟨x, hx, rx'⟩ := vals_at v1 h1
          obtain ⟨y, hy, ry'⟩ := vals_at v2 h2
          obtain ⟨p', hp, rp⟩ := r1.got hx
          obtain ⟨q', hq, rq⟩ := r2.got hy
          exact (ih (A := A.in1) (show A.units + 1 + n < cLine by omega) (g1 j p' q' hp hq) rp rq rx' ry').2.1
        have rc := SeqAt.RcAt.lists (A := A) (e := g) t1.isList t2.isList hz hu0 hj
        have e2 : r = (List.range l.length).all g := by rw [g2, ← hlm, Nat.min_self, beq_self_eq_true, Bool.and_true]
        have rn := SeqAt.RcNeAt.lists (A := A) (e := g) t1.isList t2.isList hz hu0 hj
        rw [List.size_toArray, ← v1.length, r1.1, ← e2] at rc rn
        refine ⟨rc, ?_, rn⟩
        by_cases hab : a = b
        · subst hab
          have epq : PV.lst l = PV.lst m := Rep.inj I rx ry
          cases epq
          have er := eqL_refl (eqF_refl n) e
          subst er
          exact SeqAt.EqAt.same _
        · exact .of_refs hab rc
      · rename_i hlm
        cases e
        have hz : (i1.toArray.size != i2.toArray.size) = true := by rw [List.size_toArray, List.size_toArray, ← v1.length, ← v2.length, r1.1, r2.1]; simpa using hlm
        have rc := SeqAt.RcAt.lists_lengths (A := A) t1.isList t2.isList hz hu0
        have hab : a ≠ b := fun z => by
          subst z
          have epq : PV.lst l = PV.lst m := Rep.inj I rx ry
          cases epq
          exact hlm rfl
        exact ⟨rc, .of_refs hab rc, SeqAt.RcNeAt.lists_lengths (A := A) t1.isList t2.isList hz hu0⟩
end
end L2.MP

namespace L2.MP
open PySem PySem.Spec PyProof.Rows
section
variable {X : Cx} {k : Nat}
theorem OpR.or {f : Value → Value → Sem Value} {r r' : R2} (h : OpR X f r) (h' : OpR X f r') : OpR X f (fun x y H Q => r x y H Q ∨ r' x y H Q) := by
  intro pins s σ H x y v u Q I rx ry q
  rcases q with q | q
  · exact h pins s σ H x y v u Q I rx ry q
  · exact h' pins s σ H x y v u Q I rx ry q
noncomputable def rEqM (K : PySem.W.Frag) : R2 := fun x y H Q => ∃ p q r, Rep K H x p ∧ Rep K H y q ∧ eqF 32 p q = some r ∧ Q (.bl r) H
noncomputable def rNeM (K : PySem.W.Frag) : R2 := fun x y H Q => ∃ p q r, Rep K H x p ∧ Rep K H y q ∧ eqF 32 p q = some r ∧ Q (.bl (!r)) H
theorem op_eqM (hr : Room k X.A) : OpR X (compareOp .Eq) (rEqM X.K) := by
  intro pins s σ H x y v u Q I rx ry h
  obtain ⟨p, q, r, h1, h2, e, h3⟩ := h
  exact (eq_at I 32 (room32 hr) e h1 h2 rx ry).1 X.prog X.w X.xe _ ⟨.bl r, H, I, rfl, h3⟩
theorem op_neM (hr : Room k X.A) : OpR X (compareOp .NotEq) (rNeM X.K) := by
  intro pins s σ H x y v u Q I rx ry h
  obtain ⟨p, q, r, h1, h2, e, h3⟩ := h
  exact (eq_at I 32 (room32 hr) e h1 h2 rx ry).2.2 X.prog X.w X.xe _ ⟨.bl (!r), H, I, rfl, h3⟩
noncomputable def inF (p : PV) : List PV → Option Bool
  | [] => some false
  | x :: xs => match eqF 31 x p, inF p xs with
    | some a, some b => some (a || b)
    | _, _ => none
theorem inF_get {p : PV} : ∀ {l : List PV} {r : Bool}, inF p l = some r → ∃ e : Nat → Bool, (∀ (j : Nat) x, l[j]? = some x → eqF 31 x p = some (e j)) ∧ r = (List.range l.length).any e
  | [], r, h => ⟨fun _ => true, fun j x a => by simp at a, by cases h; rfl⟩
  | x :: xs, r, h => by
    rw [inF] at h
    split at h
    · rename_i a b h1 h2
      cases h
      obtain ⟨e, e1, e2⟩ := inF_get h2
      refine ⟨fun j => match j with | 0 => a | j + 1 => e j, fun j x' a' => ?_, ?_⟩
      · cases j with
        | zero => simp at a'; subst a'; exact h1
        | succ j => exact e1 j x' (by simpa using a')
      · rw [e2, List.length_cons, List.range_succ_eq_map, List.any_cons, List.any_map]
        rfl
    · cases h
noncomputable def rInM (K : PySem.W.Frag) (neg : Bool) : R2 := fun x y H Q => ∃ p l r, Rep K H x p ∧ (Rep K H y (.lst l) ∨ Rep K H y (.tup l)) ∧ inF p l = some r ∧ Q (.bl (if neg = true then !r else r)) H
theorem items_at {pins : List (Addr × Obj)} {σ : St} {H : Hp} {s : Shared} (I : Inv X pins σ H s) (hr : Room k X.A) {x : V} {v : Value} {p : PV} {xs : List V} {its : List Value} {l : List PV} {r : Bool} (rx : RelV x v) (h1 : Rep X.K H x p) (rv : Vals xs its) (hl : Reps X.K H xs l) (e : inF p l = some r) :
    ∃ f : Value → Bool, (∀ y, y ∈ its.toArray → SeqAt.EqAt X.A.in1 s y v (f y)) ∧ its.toArray.any f = r := by
  obtain ⟨g, g1, g2⟩ := inF_get e
  have key : ∀ w' ∈ its, ∃ j, ∃ hj : j < its.length, its[j] = w' := fun w' hw => by
    obtain ⟨j, hj, e⟩ := List.mem_iff_getElem.mp hw
    exact ⟨j, hj, e⟩
  have look : ∀ (j : Nat) (hj : j < its.length), ∃ z q, l[j]? = some q ∧ RelV z its[j] ∧ Rep X.K H z q ∧ eqF 31 q p = some (g j) := fun j hj => by
    obtain ⟨z, hz, rz⟩ := vals_at rv (j := j) (by simpa using hj)
    obtain ⟨q, hq, rq⟩ := hl.got hz
    exact ⟨z, q, hq, by simpa using rz, rq, g1 j q hq⟩
  classical
  let f : Value → Bool := fun w' => if h : ∃ j, ∃ hj : j < its.length, its[j] = w' then g (Classical.choose h) else false
  have fe : ∀ (j : Nat) (hj : j < its.length), f its[j] = g j := fun j hj => by
    have hx : ∃ i, ∃ hi : i < its.length, its[i] = its[j] := ⟨j, hj, rfl⟩
    show (if h : ∃ i, ∃ hi : i < its.length, its[i] = its[j] then g (Classical.choose h) else false) = g j
    rw [dif_pos hx]
    obtain ⟨h1', h2'⟩ := Classical.choose_spec hx
    generalize Classical.choose hx = i at h1' h2' ⊢
    obtain ⟨z, q, _, rz, rq, eq1⟩ := look i h1'
    obtain ⟨z', q', _, rz', rq', eq2⟩ := look j hj
    rw [h2'] at rz
    cases rz.inj rz'
    cases Rep.inj I rq rq'
    rw [eq1] at eq2
    exact Option.some.inj eq2
  refine ⟨f, fun y hy => ?_, ?_⟩
  · obtain ⟨j, hj, e1⟩ := key y (by simpa using hy)
    obtain ⟨z, q, _, rz, rq, eq1⟩ := look j hj
    rw [← e1, fe j hj]
    exact (eq_at I 31 (A := X.A.in1) (show X.A.units + 1 + 31 < cLine by have := room32 hr; omega) eq1 rq h1 rz rx).2.1
  · have hlen : its.length = l.length := by rw [← rv.length, hl.1]
    rw [g2, show its.toArray.any f = its.any f by simp, Bool.eq_iff_iff, List.any_eq_true, List.any_eq_true]
    constructor
    · rintro ⟨w', hw, hf⟩
      obtain ⟨j, hj, e1⟩ := key w' hw
      exact ⟨j, List.mem_range.mpr (by omega), by rw [← fe j hj, e1]; exact hf⟩
    · rintro ⟨j, hj, hf⟩
      have hj' : j < its.length := by rw [hlen]; exact List.mem_range.mp hj
      exact ⟨its[j], List.getElem_mem hj', by rw [fe j hj']; exact hf⟩
theorem op_notinM (hr : Room k X.A) : OpR X (compareOp .NotIn) (rInM X.K true) := by
  intro pins s σ H x y v u Q I rx ry h
  obtain ⟨p, l, r, h1, h2, e, q⟩ := h
  rcases h2 with h2 | h2
  · obtain ⟨a, xs, rfl, hq, rr⟩ := h2.inv_lst
    cases ry
    obtain ⟨its, rv, pl, _⟩ := I.list hq
    obtain ⟨f, f1, f2⟩ := items_at I hr rx h1 rv rr e
    exact SeqAt.notIn_listAt f pl.isList f1 (by rw [f2]; exact ⟨.bl _, H, I, rfl, q⟩)
  · obtain ⟨a, xs, rfl, hq, rr⟩ := h2.inv_tup
    cases ry
    obtain ⟨its, rv, pl, _⟩ := I.tuple hq
    obtain ⟨f, f1, f2⟩ := items_at I hr rx h1 rv rr e
    exact SeqAt.notIn_tupleAt f pl f1 (by rw [f2]; exact ⟨.bl _, H, I, rfl, q⟩)
noncomputable def rNotinU (K : PySem.W.Frag) : R2 := fun x y H Q => rInM K true x y H Q ∨ ∃ i j, x = .str i ∧ y = .str j ∧ Q (.bl (!(!(Builtin.Str.occurrences j i 0 j.length 1).isEmpty))) H
theorem op_notinU (hr : Room k X.A) : OpR X (compareOp .NotIn) (rNotinU X.K) := OpR.or (op_notinM hr) op_notin_str
noncomputable def rAddU (K : PySem.W.Frag) : R2 := fun x y H Q => rI0 (fun i j => .int (i + j)) x y H Q ∨ (∃ i j, x = .str i ∧ y = .str j ∧ i.length + j.length ≤ sizeLine ∧ Q (.str (i ++ j)) H) ∨ rCatT K x y H Q
theorem op_addU : OpR X (binaryOp .Add) (rAddU X.K) := OpR.or op_add (OpR.or op_add_str op_catT)
noncomputable def rMulU : R2 := fun x y H Q => rI CMul (fun i j => .int (i * j)) x y H Q ∨ ∃ z n, x = .str z ∧ y = .int n ∧ -(2 ^ 63) ≤ n ∧ n < 2 ^ 63 ∧ z.length * n.toNat ≤ sizeLine ∧ Q (.str ⟨(List.replicate n.toNat z.cps).foldl (· ++ ·) #[]⟩) H
theorem op_mulU : OpR X (binaryOp .Mult) rMulU := by
  refine OpR.or op_mul ?_
  intro pins s σ H x y v u Q I rx ry h
  obtain ⟨z, n, rfl, rfl, h1, h2, h3, q⟩ := h
  obtain ⟨t, rfl⟩ := rx
  obtain ⟨t', rfl⟩ := ry
  have fin : ∀ t k, EP X pins σ Q (.str ⟨(List.replicate n.toNat z.cps).foldl (· ++ ·) #[]⟩ t) { s with toks := k } := fun t k => ⟨.str _, H, I.tok _, ⟨t, rfl⟩, q⟩
  have hr : (decide (n < -(2 ^ 63 : Int)) || decide (n ≥ 2 ^ 63)) = false := by
    rw [decide_eq_false (by omega), decide_eq_false (by omega)]; rfl
  refine PySem.P.mul_str hr (fun h4 h5 => ?_) (fun h4 h5 => ?_) ?_
  · have hn : 1 ≤ n := by omega
    have h6 : z.length ≤ sizeLine := by
      have : z.length * 1 ≤ z.length * n.toNat := Nat.mul_le_mul_left _ (by omega)
      omega
    have h7 : n ≠ 1 := fun e => by subst e; simp at h5
    have h8 : (z.length : Int) * n ≤ 16777216 := by
      have e : (z.length : Int) * n = ((z.length * n.toNat : Nat) : Int) := by
        rw [Int.natCast_mul, Int.toNat_of_nonneg (by omega)]
      rw [e]
      have : z.length * n.toNat ≤ 16777216 := h3
      omega
    have h9 : (z.length : Int) ≤ (2 ^ 63 - 1) / n := by
      apply (Int.le_ediv_iff_mul_le (by omega)).mpr
      omega
    omega
  · unfold Builtin.Str.tooLong
    exact decide_eq_false (by omega)
  · by_cases h4 : n < 1
    · rw [if_pos h4]
      have e : n.toNat = 0 := by omega
      rw [e] at fin
      exact ⟨Nat.zero_le _, fin _ _⟩
    · rw [if_neg h4]
      refine post_val_or_str ⟨?_, fun t' k => ?_⟩
      · have e1 : ∀ (m : Nat) (acc : Array Nat), ((List.replicate m z.cps).foldl (· ++ ·) acc).size = acc.size + m * z.cps.size := fun m => by
          induction m with
          | zero => intro acc; simp
          | succ m ih => intro acc; rw [List.replicate_succ, List.foldl_cons, ih, Array.size_append, Nat.succ_mul]; omega
        have h6 : z.length ≤ sizeLine := by
          have : z.length * 1 ≤ z.length * n.toNat := Nat.mul_le_mul_left _ (by omega)
          omega
        split
        · exact h6
        · show ((List.replicate n.toNat z.cps).foldl (· ++ ·) #[]).size ≤ sizeLine
          rw [e1, Nat.mul_comm]
          show 0 + z.length * n.toNat ≤ _
          omega
      · have fz := fin t' k
        split
        · rename_i h5
          have e : (⟨(List.replicate n.toNat z.cps).foldl (· ++ ·) #[]⟩ : Str) = z := by
            rcases Bool.or_eq_true _ _ ▸ h5 with h | h
            · have : n = 1 := by simpa using h
              subst this
              show (⟨#[] ++ z.cps⟩ : Str) = z
              rw [Array.empty_append]
            · have h1 : z.length = 0 := by simpa using h
              have h0 : z.cps = #[] := Array.eq_empty_of_size_eq_zero h1
              have e2 : ∀ m : Nat, (List.replicate m (#[] : Array Nat)).foldl (· ++ ·) #[] = #[] := fun m => by
                induction m with
                | zero => rfl
                | succ m ih => rw [List.replicate_succ, List.foldl_cons]; exact ih
              cases z with
              | mk c => cases h0; rw [e2]
          rw [e] at fz
          exact fz
        · exact fz
noncomputable def rLtU : R2 := fun x y H Q => rI0 (fun i j => .bl (decide (i < j))) x y H Q ∨ ∃ i j, x = .str i ∧ y = .str j ∧ Q (.bl (decide (i.cps.toList < j.cps.toList))) H
theorem op_ltU : OpR X (compareOp .Lt) rLtU := OpR.or op_lt op_lt_str
end
end L2.MP

namespace L2.MP
open PySem PySem.Spec PyProof.Rows
theorem noS {α : Type} {r : α} {C : Prop} (e : (none : Option α) = some r) : C := by cases e
noncomputable def opI (c : Int → Int → Bool) (f : Int → Int → PV) : PV → PV → Option (Res PV)
  | .int i, .int j => if c i j = true then some (.ok (f i j)) else none
  | _, _ => none
noncomputable def cT : Int → Int → Bool := fun _ _ => true
noncomputable def cMul : Int → Int → Bool := fun i j => decide ((-(2 ^ 64) < i ∧ i < 2 ^ 64) ∨ (-(2 ^ 64) < j ∧ j < 2 ^ 64))
noncomputable def cDiv : Int → Int → Bool := fun _ j => decide (0 < j ∧ j < 1073741824)
noncomputable def cMod : Int → Int → Bool := fun _ j => decide (0 < j)
noncomputable def cPow : Int → Int → Bool := fun i j => decide (0 ≤ j ∧ j ≤ 1000000 ∧ i.natAbs < 2 ^ 64)
noncomputable def cShr : Int → Int → Bool := fun _ j => decide (0 ≤ j)
noncomputable def opSub := opI cT fun i j => .int (i - j)
noncomputable def opDiv := opI cDiv fun i j => .int (i / j)
noncomputable def opMod := opI cMod fun i j => .int (i % j)
noncomputable def opPow := opI cPow fun i j => .int (i ^ j.toNat)
noncomputable def opShr := opI cShr fun i j => .int (i / 2 ^ j.toNat)
noncomputable def opAnd := opI cT fun i j => .int (Builtin.bitAnd i j)
noncomputable def opAdd : PV → PV → Option (Res PV)
  | .int i, .int j => some (.ok (.int (i + j)))
  | .str i, .str j => if i.length + j.length ≤ sizeLine then some (.ok (.str (i ++ j))) else none
  | .tup l, .tup m => if l ≠ [] ∧ l.length + m.length ≤ sizeLine then some (.ok (.tup (l ++ m))) else none
  | _, _ => none
noncomputable def repS (z : Str) (n : Nat) : Str := ⟨(List.replicate n z.cps).foldl (· ++ ·) #[]⟩
noncomputable def opMul : PV → PV → Option (Res PV)
  | .int i, .int j => if cMul i j = true then some (.ok (.int (i * j))) else none
  | .str z, .int n => if -(2 ^ 63) ≤ n ∧ n < 2 ^ 63 ∧ z.length * n.toNat ≤ sizeLine then some (.ok (.str (repS z n.toNat))) else none
  | _, _ => none
noncomputable def opLt : PV → PV → Option (Res PV)
  | .int i, .int j => some (.ok (.bl (decide (i < j))))
  | .str i, .str j => some (.ok (.bl (decide (i.cps.toList < j.cps.toList))))
  | _, _ => none
noncomputable def opEq (p q : PV) : Option (Res PV) := match eqF 32 p q with
  | some r => some (.ok (.bl r))
  | none => none
noncomputable def opNe (p q : PV) : Option (Res PV) := match eqF 32 p q with
  | some r => some (.ok (.bl (!r)))
  | none => none
noncomputable def inU (p : PV) : PV → Option Bool
  | .lst l => inF p l
  | .tup l => inF p l
  | .str j => match p with
    | .str i => some (!(Builtin.Str.occurrences j i 0 j.length 1).isEmpty)
    | _ => none
  | _ => none
noncomputable def opNotin (p q : PV) : Option (Res PV) := match inU p q with
  | some r => some (.ok (.bl (!r)))
  | none => none
noncomputable def PV.isNon : PV → Bool
  | .non => true
  | _ => false
noncomputable def opNotN (p q : PV) : Option (Res PV) := match q with
  | .non => some (.ok (.bl (!p.isNon)))
  | _ => none
noncomputable def ofO (x : Option PV) : Option (Res PV) := match x with
  | some p => some (.ok p)
  | none => none
noncomputable def opIx : PV → PV → Option (Res PV)
  | .lst l, .int i => ofO (atI l i)
  | .tup l, .int i => ofO (atI l i)
  | .str z, .int i => if z.length ≤ sizeLine then ofO ((atI z.cps.toList i).map fun c => .str ⟨#[c]⟩) else none
  | _, _ => none
noncomputable def opIxV : List PV → PV → Option (Res PV)
  | l, .int i => ofO (atI l i)
  | _, _ => none
section
variable {K : PySem.W.Frag} {C : Cg} {F H : Hp}
theorem c_div {i j : Int} (h : cDiv i j = true) : CDiv i j := of_decide_eq_true (p := 0 < j ∧ j < 1073741824) h
theorem c_pow {i j : Int} (h : cPow i j = true) : CPow i j := of_decide_eq_true (p := 0 ≤ j ∧ j ≤ 1000000 ∧ i.natAbs < 2 ^ 64) h
theorem c_mul {i j : Int} (h : cMul i j = true) : CMul i j := of_decide_eq_true (p := (-(2 ^ 64) < i ∧ i < 2 ^ 64) ∨ (-(2 ^ 64) < j ∧ j < 2 ^ 64)) h
theorem r_int {c : Int → Int → Bool} {f : Int → Int → PV} {cond : Int → Int → Prop} {fv : Int → Int → V} (hc : ∀ i j, c i j = true → cond i j) (hf : ∀ i j F, Rep K F (fv i j) (f i j)) : R2M C (aF K) (aF K) (aF K) (rI cond fv) (opI c f) := by
  intro F H x y a b res Q s ha hb e P
  have inv : (∃ i j, a = .int i ∧ b = .int j) := by
    clear P ha hb
    cases a <;> first | exact noS e | (cases b <;> first | exact noS e | exact ⟨_, _, rfl, rfl⟩)
  obtain ⟨i, j, rfl, rfl⟩ := inv
  cases Rep.inv_int ha
  cases Rep.inv_int hb
  have e : (if c i j = true then some (Res.ok (f i j)) else none) = some res := e
  split at e
  · rename_i h
    cases e
    exact ⟨i, j, rfl, rfl, hc i j h, P _ F H (Up.refl s) (hf i j F)⟩
  · cases e
theorem r_int0 {f : Int → Int → PV} {fv : Int → Int → V} (hf : ∀ i j F, Rep K F (fv i j) (f i j)) : R2M C (aF K) (aF K) (aF K) (rI0 fv) (opI cT f) := by
  intro F H x y a b res Q s ha hb e P
  have inv : (∃ i j, a = .int i ∧ b = .int j) := by
    clear P ha hb
    cases a <;> first | exact noS e | (cases b <;> first | exact noS e | exact ⟨_, _, rfl, rfl⟩)
  obtain ⟨i, j, rfl, rfl⟩ := inv
  cases Rep.inv_int ha
  cases Rep.inv_int hb
  cases e
  exact ⟨i, j, rfl, rfl, P _ F H (Up.refl s) (hf i j F)⟩
theorem r_sub : R2M C (aF K) (aF K) (aF K) (rI0 fun i j => .int (i - j)) opSub := r_int0 fun _ _ _ => .int
theorem r_div : R2M C (aF K) (aF K) (aF K) (rI CDiv fun i j => .int (i / j)) opDiv := r_int (fun _ _ h => c_div h) fun _ _ _ => .int
theorem r_mod : R2M C (aF K) (aF K) (aF K) (rI (fun _ j => 0 < j) fun i j => .int (i % j)) opMod := r_int (fun _ _ h => of_decide_eq_true h) fun _ _ _ => .int
theorem r_pow : R2M C (aF K) (aF K) (aF K) (rI CPow fun i j => .int (i ^ j.toNat)) opPow := r_int (fun _ _ h => c_pow h) fun _ _ _ => .int
theorem r_shr : R2M C (aF K) (aF K) (aF K) (rI (fun _ j => 0 ≤ j) fun i j => .int (i / 2 ^ j.toNat)) opShr := r_int (fun _ _ h => of_decide_eq_true h) fun _ _ _ => .int
theorem r_and : R2M C (aF K) (aF K) (aF K) (rI0 fun i j => .int (Builtin.bitAnd i j)) opAnd := r_int0 fun _ _ _ => .int
theorem r_add : R2M C (aF K) (aF K) (aF K) (rAddU K) opAdd := by
  intro F H x y a b res Q s ha hb e P
  have inv : (∃ i j, a = .int i ∧ b = .int j) ∨ (∃ i j, a = .str i ∧ b = .str j) ∨ (∃ l m, a = .tup l ∧ b = .tup m) := by
    clear P ha hb
    cases a <;> first | exact noS e | (cases b <;> first | exact noS e | exact .inl ⟨_, _, rfl, rfl⟩ | exact .inr (.inl ⟨_, _, rfl, rfl⟩) | exact .inr (.inr ⟨_, _, rfl, rfl⟩))
  rcases inv with ⟨i, j, rfl, rfl⟩ | ⟨i, j, rfl, rfl⟩ | ⟨l, m, rfl, rfl⟩
  · cases Rep.inv_int ha
    cases Rep.inv_int hb
    cases e
    exact .inl ⟨i, j, rfl, rfl, P _ F H (Up.refl s) .int⟩
  · cases Rep.inv_str ha
    cases Rep.inv_str hb
    have e : (if i.length + j.length ≤ sizeLine then some (Res.ok (PV.str (i ++ j))) else none) = some res := e
    split at e
    · rename_i h
      cases e
      exact .inr (.inl ⟨i, j, rfl, rfl, h, P _ F H (Up.refl s) .str⟩)
    · cases e
  · have e : (if l ≠ [] ∧ l.length + m.length ≤ sizeLine then some (Res.ok (PV.tup (l ++ m))) else none) = some res := e
    split at e
    · rename_i h
      cases e
      obtain ⟨a1, xs, rfl, h1, r1⟩ := Rep.inv_tup ha
      obtain ⟨a2, ys, rfl, h2, r2⟩ := Rep.inv_tup hb
      have hx : xs ≠ [] := fun z => h.1 (by have := r1.1; rw [z] at this; simpa using this.symm)
      refine .inr (.inr ⟨a1, a2, xs, ys, rfl, rfl, s.tup h1, s.tup h2, hx, by rw [r1.1, r2.1]; exact h.2, fun z => ?_, fun _ p hp => ?_⟩)
      · subst z
        have hm : m = [] := by have := r2.1; simpa using this.symm
        subst hm
        rw [List.append_nil] at P
        exact P _ F H (Up.refl s) ha
      · have un := Up.new (o := .tup (xs ++ ys)) s hp
        exact P _ _ _ un (.tup upd_same (r1.append r2).1 ((r1.append r2).up un.ff).2)
    · cases e
theorem r_mul : R2M C (aF K) (aF K) (aF K) rMulU opMul := by
  intro F H x y a b res Q s ha hb e P
  have inv : (∃ i j, a = .int i ∧ b = .int j) ∨ (∃ z n, a = .str z ∧ b = .int n) := by
    clear P ha hb
    cases a <;> first | exact noS e | (cases b <;> first | exact noS e | exact .inl ⟨_, _, rfl, rfl⟩ | exact .inr ⟨_, _, rfl, rfl⟩)
  rcases inv with ⟨i, j, rfl, rfl⟩ | ⟨z, n, rfl, rfl⟩
  · cases Rep.inv_int ha
    cases Rep.inv_int hb
    have e : (if cMul i j = true then some (Res.ok (PV.int (i * j))) else none) = some res := e
    split at e
    · rename_i h
      cases e
      exact .inl ⟨i, j, rfl, rfl, c_mul h, P _ F H (Up.refl s) .int⟩
    · cases e
  · cases Rep.inv_str ha
    cases Rep.inv_int hb
    have e : (if -(2 ^ 63) ≤ n ∧ n < 2 ^ 63 ∧ z.length * n.toNat ≤ sizeLine then some (Res.ok (PV.str (repS z n.toNat))) else none) = some res := e
    split at e
    · rename_i h
      cases e
      exact .inr ⟨z, n, rfl, rfl, h.1, h.2.1, h.2.2, P _ F H (Up.refl s) .str⟩
    · cases e
theorem r_lt : R2M C (aF K) (aF K) (aF K) rLtU opLt := by
  intro F H x y a b res Q s ha hb e P
  have inv : (∃ i j, a = .int i ∧ b = .int j) ∨ (∃ i j, a = .str i ∧ b = .str j) := by
    clear P ha hb
    cases a <;> first | exact noS e | (cases b <;> first | exact noS e | exact .inl ⟨_, _, rfl, rfl⟩ | exact .inr ⟨_, _, rfl, rfl⟩)
  rcases inv with ⟨i, j, rfl, rfl⟩ | ⟨i, j, rfl, rfl⟩
  · cases Rep.inv_int ha
    cases Rep.inv_int hb
    cases e
    exact .inl ⟨i, j, rfl, rfl, P _ F H (Up.refl s) .bl⟩
  · cases Rep.inv_str ha
    cases Rep.inv_str hb
    cases e
    exact .inr ⟨i, j, rfl, rfl, P _ F H (Up.refl s) .bl⟩
theorem r_eq : R2M C (aH K) (aH K) (aF K) (rEqM K) opEq := by
  intro F H x y a b res Q s ha hb e P
  unfold opEq at e
  split at e
  · rename_i r h
    cases e
    exact ⟨a, b, r, ha, hb, h, P _ F H (Up.refl s) .bl⟩
  · cases e
theorem r_ne : R2M C (aH K) (aH K) (aF K) (rNeM K) opNe := by
  intro F H x y a b res Q s ha hb e P
  unfold opNe at e
  split at e
  · rename_i r h
    cases e
    exact ⟨a, b, r, ha, hb, h, P _ F H (Up.refl s) .bl⟩
  · cases e
theorem r_notin : R2M C (aH K) (aH K) (aF K) (rNotinU K) opNotin := by
  intro F H x y a b res Q s ha hb e P
  unfold opNotin at e
  split at e
  · rename_i r h
    cases e
    match b, h with
    | .lst l, h => exact .inl ⟨a, l, r, ha, .inl hb, h, P _ F H (Up.refl s) .bl⟩
    | .tup l, h => exact .inl ⟨a, l, r, ha, .inr hb, h, P _ F H (Up.refl s) .bl⟩
    | .str j, h =>
      match a, h with
      | .str i, h =>
        cases h
        exact .inr ⟨i, j, Rep.inv_str ha, Rep.inv_str hb, P _ F H (Up.refl s) .bl⟩
  · cases e
theorem isNon_eq {v : V} {p : PV} (h : Rep K F v p) : decide (v = .non) = p.isNon := by
  cases h <;> first | rfl | exact decide_eq_false (by intro z; cases z)
theorem r_notN : R2M C (aH K) (aF K) (aF K) (fun x y H Q => y = .non ∧ Q (.bl (!decide (x = .non))) H) opNotN := by
  intro F H x y a b res Q s ha hb e P
  match b, e with
  | .non, e =>
    cases e
    rw [isNon_eq ha]
    exact ⟨Rep.inv_non hb, P _ F H (Up.refl s) .bl⟩
theorem atI_rep {xs : List V} {l : List PV} {i : Int} {p : PV} (r : Reps K F xs l) (h : atI l i = some p) : ∃ v, atI xs i = some v ∧ Rep K F v p := by
  unfold atI at h ⊢
  rw [r.1]
  cases e : ixN l.length i with
  | none => rw [e] at h; cases h
  | some j =>
    rw [e] at h
    exact r.get h
theorem ofO_inv {x : Option PV} {res : Res PV} (h : ofO x = some res) : ∃ p, x = some p ∧ res = .ok p := by
  cases x with
  | none => cases h
  | some p => cases h; exact ⟨p, rfl, rfl⟩
theorem r_ix : R2M C (aF K) (aF K) (aF K) (rIx K) opIx := by
  intro F H x y a b res Q s ha hb e P
  have inv : (∃ l i, a = .lst l ∧ b = .int i) ∨ (∃ l i, a = .tup l ∧ b = .int i) ∨ (∃ z i, a = .str z ∧ b = .int i) := by
    clear P ha hb
    cases a <;> first | exact noS e | (cases b <;> first | exact noS e | exact .inl ⟨_, _, rfl, rfl⟩ | exact .inr (.inl ⟨_, _, rfl, rfl⟩) | exact .inr (.inr ⟨_, _, rfl, rfl⟩))
  rcases inv with ⟨l, i, rfl, rfl⟩ | ⟨l, i, rfl, rfl⟩ | ⟨z, i, rfl, rfl⟩
  · cases Rep.inv_int hb
    obtain ⟨p, e1, rfl⟩ := ofO_inv e
    obtain ⟨a1, xs, rfl, h1, r1⟩ := Rep.inv_lst ha
    obtain ⟨v, e2, rv⟩ := atI_rep r1 e1
    exact .inl ⟨a1, xs, i, v, rfl, rfl, s.seq h1, e2, P _ F H (Up.refl s) rv⟩
  · cases Rep.inv_int hb
    obtain ⟨p, e1, rfl⟩ := ofO_inv e
    obtain ⟨a1, xs, rfl, h1, r1⟩ := Rep.inv_tup ha
    obtain ⟨v, e2, rv⟩ := atI_rep r1 e1
    exact .inr (.inl ⟨a1, xs, i, v, rfl, rfl, s.tup h1, e2, P _ F H (Up.refl s) rv⟩)
  · cases Rep.inv_int hb
    cases Rep.inv_str ha
    have e : (if z.length ≤ sizeLine then ofO ((atI z.cps.toList i).map fun c => PV.str ⟨#[c]⟩) else none) = some res := e
    split at e
    · rename_i hz
      obtain ⟨p, e1, rfl⟩ := ofO_inv e
      cases e2 : atI z.cps.toList i with
      | none => rw [e2] at e1; cases e1
      | some c =>
        rw [e2] at e1
        cases e1
        exact .inr (.inr ⟨z, i, c, rfl, rfl, hz, e2, P _ F H (Up.refl s) .str⟩)
    · cases e
theorem r_ixV : R2M C (aV K) (aF K) (aF K) (rIx K) opIxV := by
  intro F H x y a b res Q s ha hb e P
  match b, e with
  | .int i, e =>
    cases Rep.inv_int hb
    obtain ⟨p, e1, rfl⟩ := ofO_inv e
    obtain ⟨a1, xs, rfl, h1, r1⟩ := ha
    obtain ⟨v, e2, rv⟩ := atI_rep r1 e1
    exact .inl ⟨a1, xs, i, v, rfl, rfl, h1, e2, P _ F H (Up.refl s) rv⟩
variable {ta tb te : TE}
noncomputable def MP' (K : PySem.W.Frag) (C : Cg) (t : TO) (f : Fn (Option Int)) : Prop :=
  ∀ F H σ ρ Q r, RE K C.toCf F H σ ρ → f ρ = some r → Pr C F (fun o => ∀ F' H', Up F H F' H' → Q o H') r → t σ H Q
theorem MP'.run {β : Type} {t : TO} {f : Fn (Option Int)} {σ : St} {ρ : Rho} {Q : Option Int → Hp → Prop} {ok : β → Prop} {k : Option Int → Option (Res β)} {r : Res β} (h : MP' K C t f) (R : RE K C.toCf F H σ ρ) (hb : bnd (f ρ) k = some r) (P : Pr C F ok r)
    (go : ∀ o F1 H1, k o = some r → Up F H F1 H1 → Q o H1) : t σ H Q := by
  rcases bnd_inv hb with ⟨z, e, rfl⟩ | ⟨p, e, hk⟩
  · exact h F H σ ρ Q _ R e P
  · exact h F H σ ρ Q _ R e fun F1 H1 u => go p F1 H1 hk u
noncomputable def cutP (l : List PV) (lo hi : Option Int) : List PV := (l.drop (HT.sIx l.length 0 lo)).take (HT.sIx l.length l.length hi - HT.sIx l.length 0 lo)
theorem Reps.cut {xs : List V} {l : List PV} (h : Reps K F xs l) (lo hi : Option Int) : Reps K F (cutV xs lo hi) (cutP l lo hi) := by
  unfold cutV cutP
  rw [h.1]
  exact (h.drop _).take _
end
end L2.MP

namespace L2.MP
open PySem PySem.Spec PyProof.Rows
noncomputable def iSeqU (K : PySem.W.Frag) (tl : TE) : TI := fun σ H R => tl σ H fun x H1 => (∃ a, x = .ref a ∧ (∃ xs, SqL K H1 a xs) ∧ R (Itl K a) H1) ∨ (∃ a, x = .ref a ∧ (∃ xs, SqT K H1 a xs) ∧ R (Itt K a) H1) ∨ ∃ z, x = .str z ∧ R (Itf (sgn z) z.cps.size) H1
theorem pi_seqU {X : Cx} {tg l : Expr} {tl : TE} (hl : PE X l tl) : PI X tg l (iSeqU X.K tl) := by
  intro pins s σ H R I h
  refine thn (hl pins s σ H _ I h) fun v s1 ⟨x, H1, I1, r1, q1⟩ => ?_
  have keep : ∀ (o : Obj), Inv X pins σ H1 { s1 with heap := s1.heap.push o } := fun o => I1.kept (t' := s1.toks) fun b ob e => Heap.get?_push_of_some _ e
  have fp : ∀ b ∈ [s1.heap.objs.size], FpOk X pins H1 b := fun b hb => by
    have e : b = s1.heap.objs.size := by simpa using hb
    subst e
    exact I1.fpOk (Nat.le_refl _) (I1.hok.fresh (Nat.le_refl _))
  rcases q1 with ⟨a, rfl, ⟨xs, hq⟩, q⟩ | ⟨a, rfl, ⟨xs, hq⟩, q⟩ | ⟨z, rfl, q⟩
  · cases r1
    obtain ⟨its, rv, p, hz⟩ := I1.list hq
    exact wpAny_pyIter_list p.isList ⟨_, [_], _, _, H1, rfl, keep _, turn_list a _, ⟨_, Heap.get?_push_size _ rfl, rfl, rfl⟩, fp, q⟩
  · cases r1
    obtain ⟨its, rv, p, hz⟩ := I1.tuple hq
    exact wpAny_pyIter_tuple (show s1.heap.IsTuple a its.toArray from p) ⟨_, [_], _, _, H1, rfl, keep _, turn_tuple a _, ⟨_, Heap.get?_push_size _ rfl, rfl, rfl⟩, fp, q⟩
  · obtain ⟨t, rfl⟩ := r1
    exact wpAny_pyIter_strU ⟨_, [_], _, _, H1, rfl, keep _, turn_str _ z t, ⟨_, Heap.get?_push_size _ rfl, rfl, rfl⟩, fp, q⟩
section
variable {K : PySem.W.Frag} {C : Cg} {F H : Hp} {σ : St} {ρ : Rho} {te ta tb : TE} {tA : TA} {a : Addr} {xs : List V} {l : List PV}
noncomputable def signs (z : Str) : List PV := z.cps.toList.map fun c => .str ⟨#[c]⟩
noncomputable def asSeq : PV → Option (Res (List PV))
  | .lst l => some (.ok l)
  | .tup l => some (.ok l)
  | .str z => some (.ok (signs z))
  | _ => none
theorem itr_list (h : SqL K F a xs) (r : Reps K F xs l) : ItR K (Itl K a) F l where
  stop := fun F' H' s s' => ⟨xs, (s.trans s').seq h, by rw [r.1]; exact Nat.le_refl _⟩
  go := fun i F' H' hi s s' => ⟨xs, xs[i]'(by rw [r.1]; exact hi), (s.trans s').seq h, by simp⟩
  yld := fun i F' H' x H'' hi s s' y => by
    obtain ⟨rfl, y⟩ := y
    have e := y xs ((s.trans s').seq h)
    obtain ⟨p, e2, rp⟩ := r.got e
    exact ⟨F', p, Up.refl s', e2, rp.up s⟩
theorem itr_tup (h : SqT K F a xs) (r : Reps K F xs l) : ItR K (Itt K a) F l where
  stop := fun F' H' s s' => ⟨xs, (s.trans s').tup h, by rw [r.1]; exact Nat.le_refl _⟩
  go := fun i F' H' hi s s' => ⟨xs, xs[i]'(by rw [r.1]; exact hi), (s.trans s').tup h, by simp⟩
  yld := fun i F' H' x H'' hi s s' y => by
    obtain ⟨rfl, y⟩ := y
    have e := y xs ((s.trans s').tup h)
    obtain ⟨p, e2, rp⟩ := r.got e
    exact ⟨F', p, Up.refl s', e2, rp.up s⟩
theorem itr_str (z : Str) : ItR K (Itf (sgn z) z.cps.size) F (signs z) where
  stop := fun F' H' s s' => by simp [signs, Itf]
  go := fun i F' H' hi s s' => by simpa [signs, Itf] using hi
  yld := fun i F' H' x H'' hi s s' y => by
    obtain ⟨rfl, rfl⟩ := y
    have hi' : i < z.cps.size := by simpa [signs] using hi
    refine ⟨F', .str ⟨#[z.cps.getD i 0]⟩, Up.refl s', ?_, .str⟩
    unfold signs
    rw [List.getElem?_map, Array.getElem?_toList, Array.getD_eq_getD_getElem?, Array.getElem?_eq_getElem hi']
    rfl
theorem mi_seqU {f : Fn PV} (h : MJ K C (aF K) te f) : MI K C (iSeqU K te) (m1 asSeq f) := by
  intro F H σ ρ R' r R e P
  refine h.run R e P fun p v F1 H1 hk u a => ?_
  match p, hk with
  | .lst l, hk =>
    cases hk
    obtain ⟨b, xs, rfl, h1, r1⟩ := Rep.inv_lst a
    exact .inl ⟨b, rfl, ⟨xs, u.fh.seq h1⟩, P _ F1 H1 u (itr_list h1 r1)⟩
  | .tup l, hk =>
    cases hk
    obtain ⟨b, xs, rfl, h1, r1⟩ := Rep.inv_tup a
    exact .inr (.inl ⟨b, rfl, ⟨xs, u.fh.tup h1⟩, P _ F1 H1 u (itr_tup h1 r1)⟩)
  | .str z, hk =>
    cases hk
    cases Rep.inv_str a
    exact .inr (.inr ⟨z, rfl, P _ F1 H1 u (itr_str z)⟩)
noncomputable def rngP (lo : Int) (n : Nat) : List PV := (List.range n).map fun (i : Nat) => .int (lo + (i : Int))
theorem rngP_length (lo : Int) (n : Nat) : (rngP lo n).length = n := by simp [rngP]
theorem itr_rng (lo : Int) (n : Nat) : ItR K (Itr lo n) F (rngP lo n) where
  stop := fun F' H' s s' => by rw [rngP_length]; exact Nat.le_refl _
  go := fun i F' H' hi s s' => by rw [rngP_length] at hi; exact hi
  yld := fun i F' H' x H'' hi s s' y => by
    obtain ⟨rfl, rfl⟩ := y
    rw [rngP_length] at hi
    refine ⟨F', .int (lo + i), Up.refl s', ?_, .int⟩
    unfold rngP
    rw [List.getElem?_map, List.getElem?_range hi]
    rfl
noncomputable def asRng1 : List PV → Option (Res (List PV))
  | [.int j] => if -(2 ^ 62) ≤ j ∧ j < 2 ^ 62 then some (.ok (rngP 0 j.toNat)) else none
  | _ => none
noncomputable def asRng2 : List PV → Option (Res (List PV))
  | [.int i, .int j] => if -(2 ^ 62) ≤ i ∧ i < 2 ^ 62 ∧ -(2 ^ 62) ≤ j ∧ j < 2 ^ 62 then some (.ok (rngP i (j - i).toNat)) else none
  | _ => none
theorem mi_rng1 {f : Fn (List PV)} (h : MA K C tA f) : MI K C (iRng1 tA) (m1 asRng1 f) := by
  intro F H σ ρ R' r R e P
  refine h.run R e P fun l xs F1 H1 hk u a => ?_
  have inv : ∃ j, l = [.int j] := by
    clear P u a
    rcases l with _ | ⟨x, _ | ⟨y, l⟩⟩ <;> first | exact noS hk | (cases x <;> first | exact noS hk | exact ⟨_, rfl⟩)
  obtain ⟨j, rfl⟩ := inv
  have hk : (if -(2 ^ 62) ≤ j ∧ j < 2 ^ 62 then some (Res.ok (rngP 0 j.toNat)) else none) = some r := hk
  split at hk
  · rename_i hj
    cases hk
    obtain ⟨v, ys, rfl, r1, r2⟩ := a.inv_cons
    cases r2.inv_nil
    cases Rep.inv_int r1
    exact ⟨j, rfl, hj.1, hj.2, P _ F1 H1 u (itr_rng 0 j.toNat)⟩
  · cases hk
theorem mi_rng2 {f : Fn (List PV)} (h : MA K C tA f) : MI K C (iRng2 tA) (m1 asRng2 f) := by
  intro F H σ ρ R' r R e P
  refine h.run R e P fun l xs F1 H1 hk u a => ?_
  have inv : ∃ i j, l = [.int i, .int j] := by
    clear P u a
    rcases l with _ | ⟨x, _ | ⟨y, _ | ⟨z, l⟩⟩⟩ <;> first | exact noS hk | (cases x <;> first | exact noS hk | (cases y <;> first | exact noS hk | exact ⟨_, _, rfl⟩))
  obtain ⟨i, j, rfl⟩ := inv
  have hk : (if -(2 ^ 62) ≤ i ∧ i < 2 ^ 62 ∧ -(2 ^ 62) ≤ j ∧ j < 2 ^ 62 then some (Res.ok (rngP i (j - i).toNat)) else none) = some r := hk
  split at hk
  · rename_i hj
    cases hk
    obtain ⟨v, ys, rfl, r1, r2⟩ := a.inv_cons
    obtain ⟨w, zs, rfl, r3, r4⟩ := r2.inv_cons
    cases r4.inv_nil
    cases Rep.inv_int r1
    cases Rep.inv_int r3
    exact ⟨i, j, rfl, hj, P _ F1 H1 u (itr_rng i (j - i).toNat)⟩
  · cases hk
noncomputable def NoO (ρ : Rho) : Prop := ∀ (j : Nat) q, ρ[j]? ≠ some (some (.ow q)) ∧ ρ[j]? ≠ some (some (.dp q))
noncomputable def Wr (T : List Nat) (tg : PV → Rho → Option Rho) : Prop := ∀ x ρ ρ', tg x ρ = some ρ' → ρ'.length = ρ.length ∧ (∀ j, j ∉ T → ρ'[j]? = ρ[j]?) ∧ (NoO ρ → NoO ρ')
noncomputable def WrS (T : List Nat) (tg : List PV → Rho → Option Rho) : Prop := ∀ x ρ ρ', tg x ρ = some ρ' → ρ'.length = ρ.length ∧ (∀ j, j ∉ T → ρ'[j]? = ρ[j]?) ∧ (NoO ρ → NoO ρ')
theorem wr_name (i : Nat) : Wr [i] (gN i) := fun x ρ ρ' e => by
  cases e
  refine ⟨by simp, fun j hj => ?_, fun h j q => ⟨fun e => ?_, fun e => ?_⟩⟩
  · rw [List.getElem?_set_ne (by simpa using Ne.symm (by simpa using hj))]
  · rcases get_set e with ⟨_, e2⟩ | ⟨_, e2⟩
    · cases e2
    · exact (h j q).1 e2
  · rcases get_set e with ⟨_, e2⟩ | ⟨_, e2⟩
    · cases e2
    · exact (h j q).2 e2
theorem wrs_nil : WrS [] gsNil := fun x ρ ρ' e => by
  cases x with
  | nil => cases e; exact ⟨rfl, fun _ _ => rfl, fun h => h⟩
  | cons p l => cases e
theorem wrs_cons {T U : List Nat} {t : PV → Rho → Option Rho} {u : List PV → Rho → Option Rho} (h : Wr T t) (hs : WrS U u) : WrS (T ++ U) (gsCons t u) := fun x ρ ρ' e => by
  cases x with
  | nil => cases e
  | cons p l =>
    have e : (match t p ρ with
      | some ρ' => u l ρ'
      | none => none) = some ρ' := e
    split at e
    · rename_i ρ1 h1
      obtain ⟨a1, a2, a3⟩ := h p ρ ρ1 h1
      obtain ⟨b1, b2, b3⟩ := hs l ρ1 ρ' e
      exact ⟨b1.trans a1, fun j hj => (b2 j fun z => hj (List.mem_append_right _ z)).trans (a2 j fun z => hj (List.mem_append_left _ z)), fun z => b3 (a3 z)⟩
    · cases e
theorem wr_tup {n : Nat} {U : List Nat} {u : List PV → Rho → Option Rho} (hs : WrS U u) : Wr U (gT n u) := fun x ρ ρ' e => by
  unfold gT at e
  split at e
  · split at e
    · exact hs _ ρ ρ' e
    · cases e
  · cases e
noncomputable def shOnly : Option Sl → Option Sl
  | some (.sh p) => some (.sh p)
  | _ => none
noncomputable def frR (fr : List (Option Nat)) (ρ : Rho) : Rho := fr.map fun o => match o with
  | some i => match ρ[i]? with
    | some v => shOnly v
    | none => none
  | none => none
noncomputable def compL (tg : PV → Rho → Option Rho) (tst : Fn Bool) (el : Fn PV) (ρb : Rho) : List PV → Option (Res (List PV))
  | [] => some (.ok [])
  | x :: xs => match tg x ρb with
    | none => none
    | some ρ1 => bnd (tst ρ1) fun b => if b = true then bnd (el ρ1) fun p => bnd (compL tg tst el ρb xs) fun r => some (.ok (p :: r)) else compL tg tst el ρb xs
noncomputable def mComp (it : Fn (List PV)) (fr : List (Option Nat)) (tg : PV → Rho → Option Rho) (tst : Fn Bool) (el : Fn PV) : Fn PV := fun ρ => bnd (it ρ) fun l =>
  if l.length ≤ sizeLine then bnd (compL tg tst el (frR fr ρ) l) fun r => some (.ok (.lst r)) else none
noncomputable def mYes : Fn Bool := fun _ => some (.ok true)
theorem mt_yes : MT K C tYes mYes := fun F H σ ρ Q r R e P => by
  cases e
  exact P F H (Up.refl R.rb.sub)
theorem RE.block (R : RE K C.toCf F H σ ρ) (fr : List (Option Nat)) : RE K C.toCf F H (frσ fr σ) (frR fr ρ) ∧ NoO (frR fr ρ) := by
  have nd : ∀ (j : Nat) q, (frR fr ρ)[j]? ≠ some (some (.dp q)) := fun j q e => by
    unfold frR at e
    rw [List.getElem?_map] at e
    cases e1 : fr[j]? with
    | none => rw [e1] at e; cases e
    | some o =>
      rw [e1] at e
      cases o with
      | none => cases e
      | some i =>
        simp only [Option.map_some, Option.some.injEq] at e
        split at e
        · rename_i v hv
          unfold shOnly at e
          split at e <;> cases e
        · cases e
  have no : ∀ (j : Nat) q, (frR fr ρ)[j]? ≠ some (some (.ow q)) := fun j q e => by
    unfold frR at e
    rw [List.getElem?_map] at e
    cases e1 : fr[j]? with
    | none => rw [e1] at e; cases e
    | some o =>
      rw [e1] at e
      cases o with
      | none => cases e
      | some i =>
        simp only [Option.map_some, Option.some.injEq] at e
        split at e
        · rename_i v hv
          unfold shOnly at e
          split at e <;> cases e
        · cases e
  refine ⟨⟨R.rb, by unfold frσ frR; simp, fun j p e => ?_, fun j p e => absurd e (no j p), fun i j p q a e => absurd e (no i p), _, RD.no nd⟩, fun j q => ⟨no j q, nd j q⟩⟩
  unfold frR at e
  rw [List.getElem?_map] at e
  unfold frσ
  rw [List.getElem?_map]
  cases e1 : fr[j]? with
  | none => rw [e1] at e; cases e
  | some o =>
    rw [e1] at e
    cases o with
    | none => cases e
    | some i =>
      simp only [Option.map_some, Option.some.injEq] at e ⊢
      split at e
      · rename_i v hv
        unfold shOnly at e
        split at e
        · cases e
          obtain ⟨w, e2, e3⟩ := R.sh i _ hv
          exact ⟨w, by rw [e2], e3⟩
        · cases e
      · cases e
theorem RE.other (R : RE K C.toCf F H σ ρ) {D : Addr} {o : HO} (hf : F D = none) (h0 : C.H0 D = none) (no : NoO ρ) : RE K C.toCf F (upd H D o) σ ρ where
  rb := ⟨fun b u q => by rw [upd_ne (ne_of_none q hf)]; exact R.rb.sub b u q, fun b u q n => by rw [upd_ne (ne_of_none q h0)]; exact R.rb.keep b u q n, R.rb.new, fun b hb => ⟨by
    have := (R.rb.ios b hb)
    by_cases hbD : b = D
    · subst hbD; exact absurd h0 this.2
    · rw [upd_ne hbD]; exact this.1, (R.rb.ios b hb).2⟩⟩
  len := R.len
  sh := R.sh
  ow := fun i p e => absurd e (no i p).1
  dis := fun i j p q a e => absurd e (no i p).1
  dd := ⟨_, RD.no fun i p => (no i p).2⟩
theorem RE.weak {ρ' : Rho} (R : RE K C.toCf F H σ ρ') (hl : ρ.length = ρ'.length) (h : ∀ (j : Nat) s, ρ[j]? = some (some s) → ρ'[j]? = some (some s)) : RE K C.toCf F H σ ρ where
  rb := R.rb
  len := by rw [R.len, hl]
  sh := fun i p e => R.sh i p (h i _ e)
  ow := fun i p e => R.ow i p (h i _ e)
  dis := fun i j p q a e e' => R.dis i j p q a (h i _ e) (h j _ e')
  dd := let ⟨P, d⟩ := R.dd; ⟨P, d.own, d.dis, fun i j q b z e => d.ow i j q b z (h j _ e), fun i p e => d.dp i p (h i _ e)⟩
structure ItH (K : PySem.W.Frag) (J : It) (F H : Hp) (l : List PV) : Prop where
  stop : ∀ F' H', Same F F' → Same F' H' → Same H H' → J.stop l.length H'
  go : ∀ i F' H', i < l.length → Same F F' → Same F' H' → Same H H' → J.go i H'
  yld : ∀ i F' H' x H'', i < l.length → Same F F' → Same F' H' → Same H H' → J.yld i H' x H'' → ∃ F'' p, Up F' H' F'' H'' ∧ l[i]? = some p ∧ Rep K F'' x p
noncomputable def MIH (K : PySem.W.Frag) (C : Cg) (wi : TI) (f : Fn (List PV)) : Prop :=
  ∀ F H σ ρ R' r, RE K C.toCf F H σ ρ → f ρ = some r → Pr C F (fun l => ∀ J F' H', Up F H F' H' → ItH K J F' H' l → R' J H') r → wi σ H R'
theorem MI.h {wi : TI} {f : Fn (List PV)} (h : MI K C wi f) : MIH K C wi f := fun F H σ ρ R' r R e P =>
  h F H σ ρ R' r R e (Pr.mono P (Same.refl _) fun l q J F' H' u x => q J F' H' u ⟨fun a b c d _ => x.stop a b c d, fun i a b hi c d _ => x.go i a b hi c d, fun i a b y z hi c d _ => x.yld i a b y z hi c d⟩)
theorem bnd_assoc {α β γ : Type} {x : Option (Res α)} {f : α → Option (Res β)} {g : β → Option (Res γ)} : bnd (bnd x f) g = bnd x fun a => bnd (f a) g := by
  match x with
  | some (.ok a) => rfl
  | some (.ex z) => rfl
  | none => rfl
theorem mo_compH {wi : TI} {it : Fn (List PV)} {fr : List (Option Nat)} {gt : TG} {tg : PV → Rho → Option Rho} {T : List Nat} {tc : TT} {tst : Fn Bool} {el : Fn PV} (hi : MIH K C wi it) (hg : MG K C gt tg) (hT : Wr T tg) (ht : MT K C tc tst) (he : MJ K C (aF K) te el)
    (hfr : T.all (fun j => fr[j]? == some none) = true := by rfl) : MO K C (tComp wi fr gt tc te) (mComp it fr tg tst el) := by
  intro F H σ ρ Q r R e P
  rcases bnd_inv e with ⟨z, e1, rfl⟩ | ⟨l, e1, hk⟩
  · exact hi F H σ ρ _ _ R e1 P
  split at hk
  case isFalse => cases hk
  rename_i hlen
  refine hi F H σ ρ _ _ R e1 fun J F1 H1 u hJ D hD => ?_
  have R1 := R.up u
  obtain ⟨Rb, no⟩ := R1.block fr
  have hD0 : C.H0 D = none := R1.rb.free0 hD
  have hFD : F1 D = none := u.fh.free hD
  have hρ : ∀ (j : Nat), j ∈ T → (frR fr ρ)[j]? = some none := fun j hj => by
    have := List.all_eq_true.mp hfr j hj
    unfold frR
    rw [List.getElem?_map, show fr[j]? = some none by simpa using this]
    rfl
  -- between the turns
  refine ⟨fun i m σ' H' => ∃ F' ys acc, m = l.length - i ∧ i ≤ l.length ∧ Same F1 F' ∧ (∀ b o, F' b = some o → F1 b = some o ∨ Frz H1 b o) ∧ Same H1 H' ∧ H' D = some (.lst ys) ∧ F' D = none ∧ Reps K F' ys acc ∧ acc.length ≤ i ∧
      RE K C.toCf F' H' σ' (frR fr ρ) ∧ bnd (compL tg tst el (frR fr ρ) (l.drop i)) (fun r => some (.ok (.lst (acc ++ r)))) = some r,
    ⟨l.length, F1, [], [], by simp, Nat.zero_le _, Same.refl _, fun _ _ q => .inl q, same_upd hD, upd_same, hFD, .nil, Nat.le_refl _, Rb.other hFD hD0 no, by rw [List.drop_zero]; exact hk⟩, ?_⟩
  rintro i m σ' H' ⟨F', ys, acc, rfl, hil, s1, fr1, sH, eD, nD, ra, hacc, R', e'⟩
  by_cases hlt : i < l.length
  case neg =>
    have ei : i = l.length := by omega
    subst ei
    rw [List.drop_length] at e'
    have e' : some (Res.ok (PV.lst (acc ++ []))) = some r := e'
    rw [List.append_nil] at e'
    cases e'
    exact .inl ⟨hJ.stop F' H' s1 R'.rb.sub sH, P D F' H' (u.trans ⟨s1, sH, fr1, R'.rb.sub⟩) (u.hh.free hD) nD ⟨ys, eD, ra⟩⟩
  refine .inr ⟨hJ.go i F' H' hlt s1 R'.rb.sub sH, fun σ2 H2 => ∃ F2 ys acc, Same F1 F2 ∧ (∀ b o, F2 b = some o → F1 b = some o ∨ Frz H1 b o) ∧ Same H1 H2 ∧ H2 D = some (.lst ys) ∧ F2 D = none ∧ Reps K F2 ys acc ∧ acc.length ≤ i + 1 ∧
      RE K C.toCf F2 H2 σ2 (frR fr ρ) ∧ bnd (compL tg tst el (frR fr ρ) (l.drop (i + 1))) (fun r => some (.ok (.lst (acc ++ r)))) = some r,
    fun σ2 H2 ⟨F2, ys, acc, z⟩ => ⟨l.length - (i + 1), by omega, F2, ys, acc, rfl, hlt, z⟩, fun x H'' y => ?_⟩
  obtain ⟨F'', p, u2, ep, rx⟩ := hJ.yld i F' H' x H'' hlt s1 R'.rb.sub sH y
  have ed : l.drop i = p :: l.drop (i + 1) := by
    rw [List.drop_eq_getElem_cons hlt]
    rw [List.getElem?_eq_getElem hlt] at ep
    rw [Option.some.inj ep]
  rw [ed, compL] at e'
  split at e'
  · cases e'
  rename_i ρ1 h1
  obtain ⟨w1, w2, w3⟩ := hT p _ ρ1 h1
  have no1 := w3 no
  have weak : ∀ (j : Nat) s, (frR fr ρ)[j]? = some (some s) → ρ1[j]? = some (some s) := fun j s ej => by
    rw [w2 j fun z => by rw [hρ j z] at ej; cases ej]; exact ej
  refine hg F'' H'' σ' (frR fr ρ) x p ρ1 _ (R'.up u2) rx h1 fun σ1 R1' => ?_
  -- what holds at any heap behind this turn's parts
  have stay : ∀ {F3 H3 : Hp}, Up F' H' F3 H3 → Same F1 F3 ∧ (∀ b o, F3 b = some o → F1 b = some o ∨ Frz H1 b o) ∧ Same H1 H3 ∧ H3 D = some (.lst ys) ∧ F3 D = none ∧ Reps K F3 ys acc := fun {F3 H3} u3 => by
    refine ⟨s1.trans u3.ff, fun b o q => ?_, sH.trans u3.hh, u3.hh _ _ eD, ?_, ra.up u3.ff⟩
    · rcases u3.fr b o q with z | z
      · exact fr1 b o z
      · exact .inr (z.imp (fun z => sH.free z) id)
    · cases q : F3 D with
      | none => rfl
      | some o =>
        rcases u3.fr D o q with z | z | ⟨ys, z⟩
        · rw [nD] at z; cases z
        · rw [eD] at z; cases z
        · subst z
          have w := u3.fh _ _ q
          rw [u3.hh _ _ eD] at w; cases w
  have Pl : ∀ {F3 H3 : Hp}, Up F' H' F3 H3 → ∀ {z : PV}, r = .ex z → PX C F3 z := fun {F3 H3} u3 {z} ez => by
    subst ez
    exact PX.up P (u.ff.trans (s1.trans u3.ff))
  rw [bnd_assoc] at e'
  rcases bnd_inv e' with ⟨z', e4, ez⟩ | ⟨b, e4, e5⟩
  · exact ht F'' H'' σ1 ρ1 _ _ R1' e4 (Pl u2 ez)
  refine ht F'' H'' σ1 ρ1 _ _ R1' e4 fun F3 H3 u3 => ?_
  have u23 := u2.trans u3
  cases b with
  | false =>
    rw [if_neg (by decide)] at e5 ⊢
    obtain ⟨a1, a2, a3, a4, a5, a6⟩ := stay u23
    exact ⟨F3, ys, acc, a1, a2, a3, a4, a5, a6, by omega, (R1'.up u3).weak w1.symm weak, e5⟩
  | true =>
    rw [if_pos rfl] at e5 ⊢
    rw [bnd_assoc] at e5
    rcases bnd_inv e5 with ⟨z', e6, ez⟩ | ⟨q, e6, e7⟩
    · exact he F3 H3 σ1 ρ1 _ _ (R1'.up u3) e6 (Pl u23 ez)
    refine he F3 H3 σ1 ρ1 _ _ (R1'.up u3) e6 fun v F4 H4 u4 rv => ?_
    have u24 := u23.trans u4
    obtain ⟨a1, a2, a3, a4, a5, a6⟩ := stay u24
    refine ⟨ys, a4, by rw [a6.1]; omega, F4, ys ++ [v], acc ++ [q], a1, a2, same_upd2 hD a3, upd_same, a5, a6.snoc rv, by simp; omega, ((R1'.up (u3.trans u4)).other a5 hD0 no1).weak w1.symm weak, ?_⟩
    rw [bnd_assoc] at e7
    rw [← e7]
    congr 1
    funext rr
    show some (Res.ok (PV.lst (acc ++ [q] ++ rr))) = some (Res.ok (PV.lst (acc ++ q :: rr)))
    rw [List.append_assoc]; rfl
theorem mo_comp {wi : TI} {it : Fn (List PV)} {fr : List (Option Nat)} {gt : TG} {tg : PV → Rho → Option Rho} {T : List Nat} {tc : TT} {tst : Fn Bool} {el : Fn PV} (hi : MI K C wi it) (hg : MG K C gt tg) (hT : Wr T tg) (ht : MT K C tc tst) (he : MJ K C (aF K) te el)
    (hfr : T.all (fun j => fr[j]? == some none) = true := by rfl) : MO K C (tComp wi fr gt tc te) (mComp it fr tg tst el) := mo_compH hi.h hg hT ht he hfr
end
end L2.MP

namespace L2.MP
open PySem PySem.Spec PyProof.Rows
noncomputable def tyN : PV → Option String
  | .non => some "NoneType"
  | .bl _ => some "bool"
  | .int _ => some "int"
  | .str _ => some "str"
  | .tup _ => some "tuple"
  | .lst _ => some "list"
  | .dk _ => some "dict"
  | .dt _ => some "dict"
  | _ => none
noncomputable def kitN (t T : String) : Option Bool :=
  if t = T then some true else
  if T = "int" then some (t == "bool") else
  if T = "bool" ∨ T = "str" ∨ T = "tuple" ∨ T = "list" ∨ T = "dict" then some false else none
noncomputable def isI (p : PV) (T : String) : Option Bool := match tyN p with
  | some t => kitN t T
  | none => none
section
variable {X : Cx}
end
section
variable {K : PySem.W.Frag} {C : Cg} {α β γ : Type} {A : Rel α} {B : Rel β} {D : Rel γ} {ta tb te : TE} {f : Fn α} {g : Fn β} {rr : List V → Hp → VK → Prop}
noncomputable def R1M (C : Cg) (A : Rel α) (D : Rel γ) (rr : List V → Hp → VK → Prop) (op : α → Option (Res γ)) : Prop :=
  ∀ F H x a res Q, Same F H → A F H x a → op a = some res → Pr C F (fun c => ∀ v F' H', Up F H F' H' → D F' H' v c → Q v H') res → rr [x] H Q
theorem mj_cb1 {op : α → Option (Res γ)} (rule : R1M C A D rr op) (ha : MJ K C A ta f) : MJ K C D (tCB rr (tCons ta tNil)) (m1 op f) := by
  intro F H σ ρ Q r R e P
  refine ha.run R e P fun p v F1 H1 hk u a => ?_
  exact rule F1 H1 v p r Q u.fh a hk (P.later u)
noncomputable def R1O (K : PySem.W.Frag) (C : Cg) (A : Rel α) (rr : List V → Hp → VK → Prop) (op : α → Option (Res PV)) : Prop :=
  ∀ F H x a res Q, Same F H → A F H x a → op a = some res → Pr C F (fun p => ∀ a F' H', Up F H F' H' → H a = none → F' a = none → Own K F' H' a p → Q (.ref a) H') res → rr [x] H Q
theorem mo_cb1 {op : α → Option (Res PV)} (rule : R1O K C A rr op) (ha : MJ K C A ta f) : MO K C (tCB rr (tCons ta tNil)) (m1 op f) := by
  intro F H σ ρ Q r R e P
  refine ha.run R e P fun p v F1 H1 hk u a => ?_
  exact rule F1 H1 v p r Q u.fh a hk (P.laterO u)
noncomputable def R2B (C : Cg) (A : Rel α) (B : Rel β) (D : Rel γ) (rr : List V → Hp → VK → Prop) (op : α → β → Option (Res γ)) : Prop :=
  ∀ F H x y a b res Q, Same F H → A F H x a → B F H y b → op a b = some res → Pr C F (fun c => ∀ v F' H', Up F H F' H' → D F' H' v c → Q v H') res → rr [x, y] H Q
theorem mj_cb2 {op : α → β → Option (Res γ)} (up : UpM A) (rule : R2B C A B D rr op) (ha : MJ K C A ta f) (hb : MJ K C B tb g) : MJ K C D (tCB rr (tCons ta (tCons tb tNil))) (m2 op f g) := by
  intro F H σ ρ Q r R e P
  refine ha.run R e P fun p v F1 H1 hk u a => ?_
  refine hb.run (R.up u) hk (P.later u) fun q w F2 H2 hk2 u2 b => ?_
  exact rule F2 H2 v w p q r Q u2.fh (up _ _ _ _ _ _ u2 a) b hk2 (P.later (u.trans u2))
noncomputable def opLen : PV → Option (Res PV)
  | .str z => if z.length ≤ sizeLine then some (.ok (.int z.length)) else none
  | .lst l => some (.ok (.int l.length))
  | .tup l => some (.ok (.int l.length))
  | _ => none
theorem r_len : R1M C (aH K) (aF K) (fun xs H Q => ∃ x n, xs = [x] ∧ LenV K x H n ∧ Q (.int n) H) opLen := by
  intro F H x a res Q s ha e P
  match a, e with
  | .str z, e =>
    cases Rep.inv_str ha
    have e : (if z.length ≤ sizeLine then some (Res.ok (PV.int z.length)) else none) = some res := e
    split at e
    · rename_i hz
      cases e
      exact ⟨_, _, rfl, ⟨hz, rfl⟩, P _ F H (Up.refl s) .int⟩
    · cases e
  | .lst l, e =>
    cases e
    obtain ⟨b, xs, rfl, h1, r1⟩ := Rep.inv_lst ha
    rw [← r1.1] at P
    exact ⟨_, _, rfl, .inl ⟨xs, h1, rfl⟩, P _ F H (Up.refl s) .int⟩
  | .tup l, e =>
    cases e
    obtain ⟨b, xs, rfl, h1, r1⟩ := Rep.inv_tup ha
    rw [← r1.1] at P
    exact ⟨_, _, rfl, .inr ⟨xs, h1, rfl⟩, P _ F H (Up.refl s) .int⟩
noncomputable def opMin : PV → PV → Option (Res PV)
  | .int i, .int j => some (.ok (.int (if j < i then j else i)))
  | _, _ => none
theorem r_min : R2B C (aF K) (aF K) (aF K) (fun xs H Q => ∃ i j, xs = [.int i, .int j] ∧ Q (.int (if j < i then j else i)) H) opMin := by
  intro F H x y a b res Q s ha hb e P
  have inv : (∃ i j, a = .int i ∧ b = .int j) := by
    clear P ha hb
    cases a <;> first | exact noS e | (cases b <;> first | exact noS e | exact ⟨_, _, rfl, rfl⟩)
  obtain ⟨i, j, rfl, rfl⟩ := inv
  cases Rep.inv_int ha
  cases Rep.inv_int hb
  cases e
  exact ⟨i, j, rfl, P _ F H (Up.refl s) .int⟩
noncomputable def opList (l : List PV) : Option (Res PV) := some (.ok (.lst l))
theorem r_list : R1O K C (aV K) (fun xs H Q => ∃ p ys, xs = [.ref p] ∧ (SqL K H p ys ∨ SqT K H p ys) ∧ ∀ l, H l = none → Q (.ref l) (upd H l (.lst ys))) opList := by
  intro F H x a res Q s ha e P
  cases e
  obtain ⟨b, xs, rfl, h1, r1⟩ := ha
  exact ⟨b, xs, rfl, .inl h1, fun l hl => P l F _ (Up.newU s hl) hl (s.free hl) ⟨_, upd_same, r1⟩⟩
noncomputable def mView (f : Fn PV) : Fn (List PV) := fun ρ => bnd (f ρ) asLst
noncomputable def mViewN (i : Nat) : Fn (List PV) := fun ρ => bnd (mVL i ρ) asLst
noncomputable def mFrz (i : Nat) (f : Sn) : Sn := fun ρ => f (frzR i ρ)
end
noncomputable abbrev XR0 : Hp → Value → Option Addr → PV → Prop := fun _ _ _ _ => False
noncomputable abbrev C0 (io : Addr → Prop) (H0 F0 : Hp) : Cg := ⟨⟨io, True, H0, F0, E0⟩, XR0⟩
noncomputable def startR (ps : List PV) (k : Nat) : Rho := ps.map (fun p => some (.sh p)) ++ List.replicate k none
noncomputable def fin : Option Out → Option (Res PV)
  | some (.nx _) => some (.ok .non)
  | some (.rt p) => some (.ok p)
  | some (.ex z) => some (.ex z)
  | _ => none
noncomputable def finO : Option Out → Option (Res PV)
  | some (.ro p) => some (.ok p)
  | some (.ex z) => some (.ex z)
  | _ => none
section
variable {K : PySem.W.Frag} {XR : Hp → Value → Option Addr → PV → Prop} {N : List Str} {vs : List V} {H : Hp} {Q : VK} {E : XK} {t : TS} {b : Sn} {m : List PV → Option (Res PV)}
theorem start_re {E : XK} {F : Hp} {ps : List PV} {n : Nat} (s : Same F H) (r : Reps K F vs ps) (hN : N.length = vs.length + n) : RE K ⟨fun _ => False, True, H, F, E⟩ F H (start N vs) (startR ps n) where
  rb := ⟨s, fun _ _ h _ => h, fun _ _ h => .inl h, fun _ h => h.elim⟩
  len := by unfold start startR; rw [List.length_append, List.length_append, List.length_map, List.length_map, List.length_replicate, List.length_replicate, r.1, hN]; have := r.1; omega
  sh := fun i p e => by
    unfold startR at e
    unfold start
    by_cases hi : i < ps.length
    · rw [List.getElem?_append_left (by simpa using hi), List.getElem?_map] at e
      rw [List.getElem?_append_left (by rw [List.length_map, r.1]; exact hi), List.getElem?_map]
      cases h : ps[i]? with
      | none => rw [h] at e; cases e
      | some q =>
        rw [h] at e
        cases e
        obtain ⟨x, hx, rx⟩ := r.get h
        exact ⟨x, by rw [hx]; rfl, rx⟩
    · rw [List.getElem?_append_right (by simpa using hi), List.getElem?_replicate] at e
      split at e <;> cases e
  ow := fun i p e => by
    exfalso
    unfold startR at e
    by_cases hi : i < ps.length
    · rw [List.getElem?_append_left (by simpa using hi), List.getElem?_map] at e
      cases h : ps[i]? with
      | none => rw [h] at e; cases e
      | some q => rw [h] at e; cases e
    · rw [List.getElem?_append_right (by simpa using hi), List.getElem?_replicate] at e
      split at e <;> cases e
  dd := ⟨_, RD.no fun i p e => by
    unfold startR at e
    by_cases hi : i < ps.length
    · rw [List.getElem?_append_left (by simpa using hi), List.getElem?_map] at e
      cases h : ps[i]? with
      | none => rw [h] at e; cases e
      | some q => rw [h] at e; cases e
    · rw [List.getElem?_append_right (by simpa using hi), List.getElem?_replicate] at e
      split at e <;> cases e⟩
  dis := fun i j p q a e => by
    exfalso
    unfold startR at e
    by_cases hi : i < ps.length
    · rw [List.getElem?_append_left (by simpa using hi), List.getElem?_map] at e
      cases h : ps[i]? with
      | none => rw [h] at e; cases e
      | some q => rw [h] at e; cases e
    · rw [List.getElem?_append_right (by simpa using hi), List.getElem?_replicate] at e
      split at e <;> cases e
theorem run_fn0 {k n : Nat} (hk : N.length = k + n) (hm : ∀ ps r, m ps = some r → ps.length = k ∧ fin (b (startR ps n)) = some r) (h : spM K XR0 m vs H Q E) (hS : ∀ (io : Addr → Prop) (H0 F0 : Hp), (∀ a, ¬ io a) → MS K (C0 io H0 F0) t b) :
    t { nx := fun _ H' => Q .non H', rt := Q } (start N vs) H := by
  obtain ⟨ps, F, r, s, rp, e, P⟩ := h
  obtain ⟨hl, e⟩ := hm ps r e
  have R := start_re (E := E0) (N := N) (n := n) s rp (by rw [rp.1, hl]; exact hk)
  have up : ∀ {F' H' : Hp}, Same F F' → RB ⟨fun _ => False, True, H, F, E0⟩ F' H' → Up F H F' H' := fun s' rb => ⟨s', fun c o q => rb.keep c o q id, rb.new, rb.sub⟩
  have M := hS (fun _ => False) H F (fun _ h => h)
  cases ho : b (startR ps n) with
  | none => rw [ho] at e; cases e
  | some o =>
    rw [ho] at e
    refine M F H _ _ _ o R ho ?_
    cases o with
    | nx ρ => cases e; exact fun F' H' σ s' R' => P .non F' H' (up s' R'.rb) .non
    | rt p => cases e; exact fun v F' H' s' rb rv => P v F' H' (up s' rb) rv
    | ex z => exact fun _ _ _ _ _ _ x => x.elim
    | ro p => cases e
    | rd p => cases e
    | bk ρ => cases e
    | ct ρ => cases e
theorem run_fnO {k n : Nat} (hk : N.length = k + n) (hm : ∀ ps r, m ps = some r → ps.length = k ∧ finO (b (startR ps n)) = some r) (h : spO K XR0 m vs H Q E) (hS : ∀ (io : Addr → Prop) (H0 F0 : Hp), (∀ a, ¬ io a) → MS K (C0 io H0 F0) t b) :
    t { nx := fun _ H' => Q .non H', rt := Q } (start N vs) H := by
  obtain ⟨ps, F, r, s, rp, e, P⟩ := h
  obtain ⟨hl, e⟩ := hm ps r e
  have R := start_re (E := E0) (N := N) (n := n) s rp (by rw [rp.1, hl]; exact hk)
  have up : ∀ {F' H' : Hp}, Same F F' → RB ⟨fun _ => False, True, H, F, E0⟩ F' H' → Up F H F' H' := fun s' rb => ⟨s', fun c o q => rb.keep c o q id, rb.new, rb.sub⟩
  have M := hS (fun _ => False) H F (fun _ h => h)
  cases ho : b (startR ps n) with
  | none => rw [ho] at e; cases e
  | some o =>
    rw [ho] at e
    refine M F H _ _ _ o R ho ?_
    cases o with
    | ro p => cases e; exact fun a F' H' s' rb w n1 n2 => P a F' H' (up s' rb) n2 n1 w
    | ex z => exact fun _ _ _ _ _ _ x => x.elim
    | nx ρ => cases e
    | rt p => cases e
    | rd p => cases e
    | bk ρ => cases e
    | ct ρ => cases e
theorem len_spM (h : spM K XR m vs H Q E) {k : Nat} (hm : ∀ ps r, m ps = some r → ps.length = k) : vs.length = k := by
  obtain ⟨ps, F, r, s, rp, e, P⟩ := h
  rw [rp.1]; exact hm ps r e
theorem len_spO (h : spO K XR m vs H Q E) {k : Nat} (hm : ∀ ps r, m ps = some r → ps.length = k) : vs.length = k := by
  obtain ⟨ps, F, r, s, rp, e, P⟩ := h
  rw [rp.1]; exact hm ps r e
end
end L2.MP

namespace L2.MP
open PySem PySem.Spec PyProof.Rows
section
variable {X : Cx} {k : Nat} {N : List Str} {scope : Scope} {cl : List (Str × Addr)} {C : Addr} {s2 : Shared} {H2 : Hp} {fp : List Addr}
theorem ix_seqC : IxR (X.comp N scope cl C s2 H2 fp) (rIx X.K) := ix_seq
theorem op_eqMC (hr : Room k X.A) : OpR (X.comp N scope cl C s2 H2 fp) (compareOp .Eq) (rEqM X.K) := op_eqM hr
theorem op_notinUC (hr : Room k X.A) : OpR (X.comp N scope cl C s2 H2 fp) (compareOp .NotIn) (rNotinU X.K) := op_notinU hr
end
section
variable {K : PySem.W.Frag} {C : Cg} {te : TE}
end
end L2.MP

namespace L2.MP
open PySem PySem.Spec PyProof.Rows
structure IoUp (a : Addr) (F H F' H' : Hp) : Prop where
  ff : Same F F'
  hb : SameBut a H H'
  fr : ∀ b o, F' b = some o → F b = some o ∨ Frz H b o
  fh : Same F' H'
noncomputable def finIO (j : Nat) : Option Out → Option (Res PV)
  | some (.nx ρ) => match ownAt j ρ with
    | some p => some (.ok p)
    | none => none
  | _ => none
section
variable {K : PySem.W.Frag} {C : Cg} {N : List Str} {vs : List V} {H F : Hp} {Q : VK} {E : XK} {t : TS} {b : Sn} {m : List PV → Option (Res PV)} {j : Nat} {ps : List PV} {a : Addr} {p : PV} {n : Nat}
theorem start_at {i : Nat} {x : V} (h : vs[i]? = some x) : (start N vs)[i]? = some (some x) := by
  unfold start
  rw [List.getElem?_append_left (by rw [List.length_map]; exact lt_of_get h), List.getElem?_map, h]
  rfl
end
end L2.MP

namespace L2.MP
open PySem PySem.Spec PyProof.Rows
section
variable {X : Cx}
end
section
variable {K : PySem.W.Frag} {C : Cg} {ta tb : TE}
end
end L2.MP

namespace L2.MP
open PySem PySem.Spec PyProof.Rows
section
variable {X : Cx}
end
section
variable {K : PySem.W.Frag} {C : Cg} {ta tb : TE}
end
theorem ints_are : ∀ {ns : List Int} {us : List Value}, Vals (ns.map V.int) us → IntsAre us ns
  | [], us, r => by rw [List.map_nil] at r; cases r; exact .nil
  | n :: ns, us, r => by
    rw [List.map_cons] at r
    cases r with
    | cons r1 r2 =>
      obtain ⟨t, e⟩ := r1
      subst e
      exact .cons n t (ints_are r2)
section
variable {X : Cx}
end
noncomputable def asInts : List PV → Option (List Int)
  | [] => some []
  | .int n :: l => (asInts l).map (n :: ·)
  | _ => none
theorem asInts_eq {K : PySem.W.Frag} {F : Hp} : ∀ {l : List PV} {ns : List Int} {xs : List V}, asInts l = some ns → Reps K F xs l → xs = ns.map V.int
  | [], ns, xs, h, r => by
    cases h
    exact List.length_eq_zero_iff.mp (by simpa using r.1)
  | .int n :: l, ns, xs, h, r => by
    cases hl : asInts l with
    | none => simp only [asInts, hl] at h; cases h
    | some ms =>
      simp only [asInts, hl] at h
      cases h
      obtain ⟨v, ys, rfl, r1, r2⟩ := r.inv_cons
      cases Rep.inv_int r1
      rw [asInts_eq hl r2]
      rfl
section
variable {X : Cx} {pos : Pos}
end
section
variable {K : PySem.W.Frag} {C : Cg}
noncomputable def mNewD : Fn PV := fun _ => some (.ok (.dk []))
end
section
variable {K : PySem.W.Frag} {C : Cg} {ta tb : TE}
end
end L2.MP

namespace L2.MP
open PySem PySem.Spec PyProof.Rows
theorem keys_miss_list : typeLookup (.type "list") "keys" = pure none := am_miss_of_fast (by decide +kernel)
theorem keys_miss_tuple : typeLookup (.type "tuple") "keys" = pure none := am_miss_of_fast (by decide +kernel)
theorem entry_dict_update_loop : entryFor table "dict.update.loop" = some Builtin.«dict.update.loop» := entryFor_of_tree (by kernel_rfl)
theorem plain_dict_update_loop : plainId "dict.update.loop" = true := by decide +kernel
section
variable {prog : Program} {w : World} {A : Around} {E : Value → Shared → Prop} {s : Shared} {a : Addr} {o : Obj} {xs : Array Value} {k : Nat} {name : Str} {Q : Option Value → Shared → Prop}
theorem getAttrQ_miss_list (hx : s.heap.get? a = some o) (hc : o.cls = .type "list") (hdat : o.data = .seq xs k) (hd : o.dict = none) (hmiss : typeLookup (.type "list") name = pure none) (hname : (["__module__", "__name__", "__qualname__", "__doc__", "__annotations__"] : List Str).contains name = false) (hA : A.handled = none)
    (h : ∀ h' tk, (∀ b ob, s.heap.get? b = some ob → h'.get? b = some ob) → Q none { s with heap := h', toks := tk }) (hsz : name.length + 100 ≤ sizeLine := by size_fits) :
    wpAny (model prog w) A (getAttr? (.ref a) name) Q E s := by
  obtain ⟨c, dct, dat, sl⟩ := o
  simp only at hc hdat hd
  subst hc hdat hd
  obtain ⟨hp, g, d, tk, os⟩ := s
  have hT : ∀ tk', (⟨hp, g, d, tk', os⟩ : Shared).TypeIs (.ref a) "list" := fun _ => ⟨_, hx, rfl⟩
  have f1 := sub_AttributeError
  have f3 := F.slot_list_getattribute.lookup
  have f4 := F.slot_list_getattribute.bind (.ref a)
  have f5 := am_list_getattr_none
  unfold getAttr? getAttrBy? getAttrBy
  repeat (any_goals (first | assumption | exact hT _ | ((with_reducible show wpAny _ _ (call (Value.builtin "list.__getattribute__") _ _) _ _ _); refine call_meets F.slot_list_getattribute (hT _) am_entry_list_getattribute (F.args_list_getattribute_2 _ _) (meets_getattribute_miss_list a xs k sl name _ hmiss hname hsz) ⟨hx, hA, fun h' tk' e hx' => ?_⟩) | wp_step))
  obtain ⟨t', u', he⟩ := hx'.there
  show wpAny _ _ (getattributeRaised _ _ _ _ _ _ _) _ _ _
  unfold getattributeRaised
  repeat (any_goals (first | assumption | wp_step))
  exact h _ _ hx'.keeps
theorem getAttrQ_miss_tuple (hx : s.heap.get? a = some o) (hc : o.cls = .type "tuple") (hdat : o.data = .seq xs k) (hd : o.dict = none) (hmiss : typeLookup (.type "tuple") name = pure none) (hname : (["__module__", "__name__", "__qualname__", "__doc__", "__annotations__"] : List Str).contains name = false) (hA : A.handled = none)
    (h : ∀ h' tk, (∀ b ob, s.heap.get? b = some ob → h'.get? b = some ob) → Q none { s with heap := h', toks := tk }) (hsz : name.length + 100 ≤ sizeLine := by size_fits) :
    wpAny (model prog w) A (getAttr? (.ref a) name) Q E s := by
  obtain ⟨c, dct, dat, sl⟩ := o
  simp only at hc hdat hd
  subst hc hdat hd
  obtain ⟨hp, g, d, tk, os⟩ := s
  have hT : ∀ tk', (⟨hp, g, d, tk', os⟩ : Shared).TypeIs (.ref a) "tuple" := fun _ => ⟨_, hx, rfl⟩
  have f1 := sub_AttributeError
  have f3 := F.slot_tuple_getattribute.lookup
  have f4 := F.slot_tuple_getattribute.bind (.ref a)
  have f5 := am_tuple_getattr_none
  unfold getAttr? getAttrBy? getAttrBy
  repeat (any_goals (first | assumption | exact hT _ | ((with_reducible show wpAny _ _ (call (Value.builtin "tuple.__getattribute__") _ _) _ _ _); refine call_meets F.slot_tuple_getattribute (hT _) am_entry_tuple_getattribute (F.args_tuple_getattribute_2 _ _) (meets_getattribute_miss_tuple a xs k sl name _ hmiss hname hsz) ⟨hx, hA, fun h' tk' e hx' => ?_⟩) | wp_step))
  obtain ⟨t', u', he⟩ := hx'.there
  show wpAny _ _ (getattributeRaised _ _ _ _ _ _ _) _ _ _
  unfold getattributeRaised
  repeat (any_goals (first | assumption | wp_step))
  exact h _ _ hx'.keeps
end
section
variable {X : Cx} {pins : List (Addr × Obj)} {σ : St} {H H' : Hp} {s : Shared} {d : Addr} {y v : V} {u r : Value} {A : Around} {E : Value → Shared → Prop}
theorem d_dictSet {Q : Unit → Shared → Prop} (hu : A.units < cLine) (I : Inv X pins σ H s) (g : DPut H d y v H') (ry : RelV y u) (rv : RelV v r) (h : ∀ h' tk, Heap.SameBut d s.heap h' → Inv X pins σ H' { s with heap := h', toks := tk } → Q () { s with heap := h', toks := tk }) :
    wpAny (model X.prog X.w) A (dictSet d u r) Q E s := by
  rcases g with ⟨kvs, k, e, ey, l, eH⟩ | ⟨kvs, k, b, e, ey, eb, l, eH⟩
  · subst ey eH
    obtain ⟨z, hd, vs, rel, dd⟩ := dk_of I.hok e
    have hz : vs.length ≤ sizeLine := by rw [← rel.length]; exact z
    have hl : (putK kvs k v).length ≤ sizeLine := by have := length_putK kvs k v; omega
    refine wpAny_dictSet_pairs (hsz := hz) (kV_is ry) dd fun h' dd' hs => h h' _ hs ?_
    have he : ∃ q, h'.get? d = some q := let ⟨q, _, _, hq, _⟩ := dd'; ⟨q, hq⟩
    exact d_write I (by rw [e]; exact True.intro) hs he (dk_new hl hd (rel.put k rv) dd')
  · subst ey eH
    cases (show u = Value.ref b from ry)
    obtain ⟨z, hd, xs, rel, dd⟩ := dt_of I.hok e
    have hz : xs.length ≤ sizeLine := by rw [← Paired.length rel]; exact z
    have hl : (putK kvs k v).length ≤ sizeLine := by have := length_putK kvs k v; omega
    refine wpAny_dictSet_heap (hsz := hz) (show (tupleKind (mixKind X.prog X.w)).room A from hu) (key_of I.hok eb) dd fun h' dd' hs => h h' _ hs ?_
    obtain ⟨q, es, ep, hq, h2, h3, h4, _, h5⟩ := dd'
    refine d_write I (by rw [e]; exact True.intro) hs ⟨q, hq⟩ ⟨hl, hd, _, (rel.put k eb rv).keeps fun c ys ec => ?_, q, es, ep, hq, h2, h3, h4, h5⟩
    rw [upd_ne (ne_of ec e (fun z => nomatch z))]
    exact ec
theorem DPut.other (g : DPut H d y v H') {b : Addr} (hb : b ≠ d) : H' b = H b := by
  rcases g with ⟨kvs, k, e, ey, l, rfl⟩ | ⟨kvs, k, b', e, ey, eb, l, rfl⟩
  · exact upd_ne hb
  · exact upd_ne hb
noncomputable def DPuts (d : Addr) : List (V × V) → Hp → (Hp → Prop) → Prop
  | [], H, Q => Q H
  | (y, v) :: r, H, Q => ∃ H', DPut H d y v H' ∧ DPuts d r H' Q
noncomputable def PairsAt (K : PySem.W.Frag) (H : Hp) (ys : List V) (ps : List (V × V)) : Prop := ys.length = ps.length ∧ ∀ (j : Nat) x p, ys[j]? = some x → ps[j]? = some p → ∃ T, x = .ref T ∧ SqT K H T [p.1, p.2]
theorem SqT.but {K : PySem.W.Frag} {T : Addr} {xs : List V} (h : SqT K H T xs) (hb : ∀ b, b ≠ d → H' b = H b) (hn : T ≠ d) : SqT K H' T xs := by
  rcases h with (h | ⟨o, h⟩) | h
  · exact .inl (.inl (by rw [hb T hn]; exact h))
  · exact .inl (.inr ⟨o, by rw [hb T hn]; exact h⟩)
  · exact .inr h
theorem upd_loop {it : Addr} {fp : List Addr} {n : Nat} {P : Nat → Value → Prop} {St : Nat → Heap → Prop} {ps : List (V × V)} {R : Result → Shared → Prop} {H0 : Hp} (hc : X.calm = true) (W : Walks X.prog X.w A.in1 it fp [it] n P St) (hu : A.in1.units < cLine)
    (hn : ps.length = n) (hd : d ∉ fp) (hit : ∀ H, H d ≠ none → (∀ b, b ≠ d → H b = H0 b) → FpOk X pins H it)
    (hp : ∀ (i : Nat) v p, P i v → ps[i]? = some p → ∃ T, v = .ref T ∧ T ≠ d ∧ SqT X.K H0 T [p.1, p.2]) :
    ∀ (k i : Nat) (s : Shared) (H : Hp), n - i = k → i ≤ n → St i s.heap → Inv X pins σ H s → H d ≠ none → (∀ b, b ≠ d → H b = H0 b) → ∀ tk, DPuts d (ps.drop i) H (fun H' => ∀ s', Inv X pins σ H' s' → R (.ok (.ret .none)) s') →
      codeAny (model X.prog X.w) A (.builtin "dict.update.loop" ⟨[.ref d, .ref it, .int i tk, .none], []⟩) R s := by
  intro k
  induction k with
  | zero =>
    intro i s H hk hi hst I hHd hb tk hR
    have hin : i = n := by omega
    subst hin
    refine codeAny_builtin entry_dict_update_loop ?_
    rw [Around.under_plainId plain_dict_update_loop _]
    show wpAny _ A.in1 (pyNext (.ref it) >>= _) _ _ s
    refine wpAny_bind (W.done s _ _ hst fun h' tk' hk' => ?_)
    show wpAny _ _ (Builtin.Dict.addKeywords d [] >>= _) _ _ _
    rw [List.drop_of_length_le (by omega)] at hR
    exact wpAny_bind (wpAny_pure (wpAny_pure (hR _ (I.turnedL hk' fun b hb' => by rw [List.mem_singleton.mp hb']; exact hit H hHd hb))))
  | succ k ih =>
    intro i s H hk hi hst I hHd hb tk hR
    have hlt : i < n := by omega
    have hlp : i < ps.length := by omega
    have hdr : ps.drop i = ps[i] :: ps.drop (i + 1) := List.drop_eq_getElem_cons hlp
    rw [hdr] at hR
    refine codeAny_builtin entry_dict_update_loop ?_
    rw [Around.under_plainId plain_dict_update_loop _]
    show wpAny _ A.in1 (pyNext (.ref it) >>= _) _ _ s
    refine wpAny_bind (W.item i s _ _ hlt hst fun v h' tk' hP hst' hk' => ?_)
    obtain ⟨T, rfl, hT, hq⟩ := hp i v ps[i] hP (by simp [hlp])
    have I1 : Inv X pins σ H { s with heap := h', toks := tk' } := I.turnedL hk' fun b hb' => by rw [List.mem_singleton.mp hb']; exact hit H hHd hb
    obtain ⟨its, rv, ht, _⟩ := I1.tuple (SqT.but hq hb hT)
    obtain ⟨u1, u2, rfl, r1, r2⟩ : ∃ u1 u2, its = [u1, u2] ∧ RelV ps[i].1 u1 ∧ RelV ps[i].2 u2 := by
      cases rv with
      | cons a t => cases t with
        | cons b t => cases t; exact ⟨_, _, rfl, a, b⟩
    obtain ⟨H', g, hR⟩ := hR
    refine wpAny_bind (wpAny_holding (wpAny_bind (wpAny_tryCatch ?_)))
    unfold Builtin.Dict.pairItems
    refine wpAny_bind (wpAny_typeOf ht.typeIs ?_)
    rw [if_pos (by decide)]
    obtain ⟨o, h1, _, m, h2⟩ := ht
    refine wpAny_bind (wpAny_seqItems h1 h2 (wpAny_pure ?_))
    show wpAny _ A.in1 (holding [u1, u2] (dictSet d u1 u2)) _ _ _
    refine wpAny_holding (d_dictSet hu I1 g r1 r2 fun h2' tk2 hs2 I2 => ?_)
    refine wpAny_pure ⟨plainId_quiet plain_dict_update_loop _, ?_⟩
    have := ih (i + 1) { s with heap := h2', toks := tk2 } H' (by omega) hlt (W.frame _ _ _ hst' fun b hb' o e => (hs2.2 b fun z => hd (by rw [← z]; exact hb')).trans e) I2
      (by rcases g with ⟨_, _, _, _, _, rfl⟩ | ⟨_, _, _, _, _, _, _, rfl⟩ <;> rw [upd_same] <;> simp) (fun b hb' => (DPut.other g hb').trans (hb b hb')) 0 hR
    exact this
end
theorem vals_get : ∀ {xs : List V} {us : List Value} {i : Nat} {u : Value}, Vals xs us → us[i]? = some u → ∃ x, xs[i]? = some x ∧ RelV x u
  | [], _, i, u, r, h => by cases r; simp at h
  | x :: xs, _, i, u, r, h => by
    cases r with
    | cons a t =>
      cases i with
      | zero => simp at h; subst h; exact ⟨x, rfl, a⟩
      | succ i => obtain ⟨y, h1, h2⟩ := vals_get (i := i) t (by simpa using h); exact ⟨y, by simpa using h1, h2⟩
noncomputable def rDictP (K : PySem.W.Frag) (n : HO) : List V → Hp → VK → Prop := fun xs H Q => ∃ p ys ps, xs = [.ref p] ∧ (SqL K H p ys ∨ H p = some (.tup ys)) ∧ PairsAt K H ys ps ∧ ∀ d, H d = none → DPuts d ps (upd H d n) fun H' => Q (.ref d) H'
section
variable {X : Cx}
theorem call_dictP {n : HO} (hc : X.calm = true) (hu : X.A.units + 64 < cLine) (hn : n = .dK [] ∨ n = .dT []) : CallR X (.type "dict") (rDictP X.K n) := by
  intro pins s σ H xs us Q I rv h
  obtain ⟨p, ys, ps, rfl, hq, hps, q⟩ := h
  obtain ⟨u, rfl, ru⟩ := rv.one
  cases ru
  have hh : X.A.handled = none := I.ok.hd hc
  refine callType_codes (Q₁ := fun obj s₁ => obj = .ref s.heap.objs.size ∧ s₁ = { s with heap := s.heap.push { cls := .type "dict", data := .dict #[] } }) F.kt_called_dict (F.kt_typeCall_dict_1 _) F.entry_dict_init (kt_code_dict_new _ ⟨rfl, rfl⟩) ?_
  rintro obj s₁ ⟨rfl, rfl⟩
  have ok : ObjOk X.prog X.w (upd H s.heap.objs.size n) (s.heap.push { cls := .type "dict", data := .dict #[] }) s.heap.objs.size n := by
    rcases hn with rfl | rfl
    · exact dk_empty s.heap I.big
    · exact dt_empty s.heap I.big
  have hfree : H s.heap.objs.size = none := I.hok.fresh (Nat.le_refl _)
  have I1 : Inv X pins σ (upd H s.heap.objs.size n) { s with heap := s.heap.push { cls := .type "dict", data := .dict #[] } } := I.laid (a := s.heap.objs.size) (o := n) (t' := s.toks) (fun _ _ q => Heap.get?_push_of_some _ q) (Nat.le_refl _) ok
  have q := q _ hfree
  have hd1 : (s.heap.push { cls := .type "dict", data := .dict #[] }).get? s.heap.objs.size = some { cls := .type "dict", data := .dict #[] } := Heap.get?_push_size _ rfl
  have tyD : ({ s with heap := s.heap.push { cls := .type "dict", data := .dict #[] } } : Shared).TypeIs (.ref s.heap.objs.size) "dict" := ⟨_, hd1, rfl⟩
  refine ⟨tyD, F.args_dict_init_2 _ _, ?_⟩
  unfold Builtin.«dict.__init__»
  refine wpAny_bind ?_
  unfold Builtin.Dict.selfAndRest
  refine wpAny_bind (wpAny_notOrdered_dict tyD ?_)
  show wpAny _ _ (pure (s.heap.objs.size, [Value.ref p])) _ _ _
  refine wpAny_pure ?_
  show wpAny _ _ (Builtin.Dict.updateFrom "dict.__init__" s.heap.objs.size (.ref p) [] .none) _ _ _
  unfold Builtin.Dict.updateFrom
  have same : Same H (upd H s.heap.objs.size n) := same_upd hfree
  have hnd : ∀ (j : Nat) x pr, ys[j]? = some x → ps[j]? = some pr → ∃ T, x = .ref T ∧ T ≠ s.heap.objs.size ∧ SqT X.K (upd H s.heap.objs.size n) T [pr.1, pr.2] := fun j x pr e1 e2 => by
    obtain ⟨T, rfl, hT⟩ := hps.2 j x pr e1 e2
    obtain ⟨its, _, ht, _⟩ := I.tuple hT
    exact ⟨T, rfl, Nat.ne_of_lt ht.lt, same.tup hT⟩
  -- behind getAttr? and pyIter
  have fin : ∀ (h2 : Heap) (tk : Nat) (o : Obj) (St : Nat → Heap → Prop) (its : List Value), (∀ b ob, (s.heap.push { cls := .type "dict", data := .dict #[] }).get? b = some ob → h2.get? b = some ob) → Vals ys its →
      Walks X.prog X.w X.A.in1.in1 h2.objs.size [h2.objs.size, p] [h2.objs.size] its.toArray.size (fun i v => its.toArray[i]? = some v) St → St 0 (h2.push o) → p ≠ s.heap.objs.size → (∀ b, o.cls ≠ .ref b) →
      codeAny (model X.prog X.w) X.A.in1 (.builtin "dict.update.loop" ⟨[.ref s.heap.objs.size, .ref h2.objs.size, .int (0 : Nat) 0, .none], []⟩) (wants (fun r s₂ => r = .none ∧ EP X pins σ Q (.ref s.heap.objs.size) s₂) X.xe) { s with heap := h2.push o, toks := tk } := by
    intro h2 tk o St its hk rv W h0 hp _
    have I2 : Inv X pins σ (upd H s.heap.objs.size n) { s with heap := h2, toks := tk } := I1.kept hk
    have I3 : Inv X pins σ (upd H s.heap.objs.size n) { s with heap := h2.push o, toks := tk } := I2.kept (t' := tk) fun b ob e => Heap.get?_push_of_some _ e
    have lt1 : s.heap.objs.size < h2.objs.size := Heap.lt_size (hk _ _ hd1)
    have hn2 : upd H s.heap.objs.size n h2.objs.size = none := I2.hok.fresh (Nat.le_refl _)
    refine upd_loop (A := X.A.in1) (ps := ps) (H0 := upd H s.heap.objs.size n) hc W (show X.A.units + 2 < cLine by omega) ?_ ?_ (fun Hx hx1 hx2 => ?_) (fun i v pr hv hpr => ?_) _ 0 _ _ rfl (Nat.zero_le _) h0 I3 (by rw [upd_same]; simp) (fun _ _ => rfl) 0 ?_
    · rw [List.size_toArray, ← rv.length]; exact hps.1.symm
    · intro z
      rcases List.mem_cons.mp z with z | z
      · exact absurd z (Nat.ne_of_lt lt1)
      · exact absurd (List.mem_singleton.mp z).symm hp
    · exact I2.fpOk (Nat.le_refl _) (by rw [hx2 _ (Nat.ne_of_gt lt1)]; exact hn2)
    · rw [List.getElem?_toArray] at hv
      obtain ⟨y, hy, ry⟩ := vals_get rv hv
      obtain ⟨T, rfl, h1, h2⟩ := hnd i y pr hy hpr
      cases ry
      exact ⟨T, rfl, h1, h2⟩
    · rw [List.drop_zero]
      have mono : ∀ (ps : List (V × V)) (Hx : Hp) (P1 P2 : Hp → Prop), (∀ H, P1 H → P2 H) → DPuts s.heap.objs.size ps Hx P1 → DPuts s.heap.objs.size ps Hx P2 := by
        intro ps
        induction ps with
        | nil => exact fun Hx P1 P2 hP h => hP _ h
        | cons a r ih => exact fun Hx P1 P2 hP ⟨H', g, h⟩ => ⟨H', g, ih _ _ _ hP h⟩
      exact mono _ _ _ _ (fun Hx hQ s' Is => ⟨rfl, .ref _, Hx, Is, rfl, hQ⟩) q
  rcases hq with hq | hq
  · obtain ⟨its, rv, pl, hz⟩ := I1.list (same.seq hq)
    have hp : p ≠ s.heap.objs.size := fun z => by
      obtain ⟨o, m, e, c, _⟩ := pl
      rw [z, hd1] at e; cases e; exact absurd (show Value.type "dict" = Value.type "list" from c) (by decide)
    obtain ⟨o, m, e, c, dn, dt⟩ := id pl
    refine wpAny_bind (wpAny_typeOf (show Shared.TypeIs _ (.ref p) "list" from ⟨_, e, c⟩) ?_)
    rw [if_pos (by decide)]
    refine wpAny_bind (getAttrQ_miss_list e c dt dn keys_miss_list (by decide +kernel) hh fun h2 tk hk => ?_)
    rw [if_pos (show (none : Option Value).isNone = true from rfl)]
    refine wpAny_bind (wpAny_rule (wpAny_bind (wpAny_pyIter_list ((pl.keeps hk).isList) ?_)))
    refine wpAny_pure ⟨plainId_quiet plain_dict_update_loop _, fin h2 tk _ _ its hk rv (Walks.list (A := X.A.in1.in1) hh _ p (Nat.ne_of_lt (pl.keeps hk).lt) its.toArray) ⟨⟨_, Heap.get?_push_size _ rfl, rfl, rfl⟩, (pl.keeps fun b ob eb => Heap.get?_push_of_some _ (hk b ob eb)).isList⟩ hp (fun b z => nomatch z)⟩
  · obtain ⟨_, its, rv, tn⟩ := (show ObjOk X.prog X.w _ _ p (.tup ys) from I1.hok p _ (same _ _ hq))
    have hp : p ≠ s.heap.objs.size := fun z => by
      obtain ⟨⟨o, e, c, _⟩, _⟩ := tn
      rw [z, hd1] at e; cases e; exact absurd (show Value.type "dict" = Value.type "tuple" from c) (by decide)
    obtain ⟨⟨o, e, c, m, dt⟩, dn⟩ := id tn
    refine wpAny_bind (wpAny_typeOf (show Shared.TypeIs _ (.ref p) "tuple" from ⟨_, e, c⟩) ?_)
    rw [if_pos (by decide)]
    refine wpAny_bind (getAttrQ_miss_tuple e c dt (dn o e) keys_miss_tuple (by decide +kernel) hh fun h2 tk hk => ?_)
    rw [if_pos (show (none : Option Value).isNone = true from rfl)]
    have tp : ({ s with heap := h2, toks := tk } : Shared).heap.IsTuple p its.toArray := ⟨o, hk _ _ e, c, m, dt⟩
    refine wpAny_bind (wpAny_rule (wpAny_bind (wpAny_pyIter_tuple tp ?_)))
    refine wpAny_pure ⟨plainId_quiet plain_dict_update_loop _, fin h2 tk _ _ its hk rv (Walks.tuple (A := X.A.in1.in1) hh _ p (Nat.ne_of_lt (Heap.lt_size (hk _ _ e))) its.toArray) ⟨⟨_, Heap.get?_push_size _ rfl, rfl, rfl⟩, ⟨o, Heap.get?_push_of_some _ (hk _ _ e), c, m, dt⟩⟩ hp (fun b z => nomatch z)⟩
end
end L2.MP

namespace L2.MP
open PySem PySem.Spec PyProof.Rows
section
variable {κ : Type} [DecidableEq κ]
noncomputable def valP : List (κ × PV) → κ → Option PV
  | [], _ => none
  | (a, p) :: l, k => if a = k then some p else valP l k
noncomputable def putP : List (κ × PV) → κ → PV → List (κ × PV)
  | [], k, p => [(k, p)]
  | (a, q) :: l, k, p => if a = k then (a, p) :: (if (l.any fun e => decide (e.1 = k)) = true then putP l k p else l) else (a, q) :: putP l k p
inductive DRep (K : PySem.W.Frag) (F : Hp) : List (κ × V) → List (κ × PV) → Prop
  | nil : DRep K F [] []
  | cons {k : κ} {v : V} {p : PV} {xs : List (κ × V)} {l : List (κ × PV)} (h : Rep K F v p) (t : DRep K F xs l) : DRep K F ((k, v) :: xs) ((k, p) :: l)
variable {K : PySem.W.Frag} {F F' : Hp} {xs : List (κ × V)} {l : List (κ × PV)} {k : κ}
theorem DRep.of : ∀ {xs : List (κ × V)} {l : List (κ × PV)}, xs.map (·.1) = l.map (·.1) → (∀ (j : Nat) x p, xs[j]? = some x → l[j]? = some p → Rep K F x.2 p.2) → DRep K F xs l
  | [], [], _, _ => .nil
  | [], _ :: _, h, _ => by simp at h
  | _ :: _, [], h, _ => by simp at h
  | (a, v) :: xs, (b, p) :: l, h, hr => by
    simp only [List.map_cons, List.cons.injEq] at h
    obtain ⟨h1, h2⟩ := h
    have h1 : a = b := h1
    subst h1
    exact .cons (hr 0 _ _ rfl rfl) (DRep.of h2 fun j x p e1 e2 => hr (j + 1) x p (by simpa using e1) (by simpa using e2))
theorem DRep.keys (h : DRep K F xs l) : xs.map (·.1) = l.map (·.1) := by
  induction h with
  | nil => rfl
  | cons h t ih => simp [ih]
theorem DRep.len (h : DRep K F xs l) : xs.length = l.length := by
  have := congrArg List.length h.keys
  simpa using this
theorem DRep.at (h : DRep K F xs l) : ∀ (j : Nat) x p, xs[j]? = some x → l[j]? = some p → Rep K F x.2 p.2 := by
  induction h with
  | nil => intro j x p e; simp at e
  | cons h t ih =>
    intro j x p e1 e2
    cases j with
    | zero => simp at e1 e2; subst e1 e2; exact h
    | succ j => exact ih j x p (by simpa using e1) (by simpa using e2)
theorem DRep.none (h : DRep K F xs l) (e : valP l k = none) : valV xs k = none := by
  induction h with
  | nil => rfl
  | @cons a v p xs l h t ih =>
    unfold valP at e
    split at e
    · cases e
    · rename_i hk
      rw [valV_neg hk]; exact ih e
theorem DRep.some {p : PV} (h : DRep K F xs l) (e : valP l k = some p) : ∃ v, valV xs k = some v ∧ Rep K F v p := by
  induction h with
  | nil => cases e
  | @cons a v q xs l h t ih =>
    unfold valP at e
    split at e
    · rename_i hk
      cases e
      exact ⟨v, valV_pos hk, h⟩
    · rename_i hk
      obtain ⟨w, h1, h2⟩ := ih e
      exact ⟨w, by rw [valV_neg hk]; exact h1, h2⟩
theorem DRep.any (h : DRep K F xs l) : (xs.any fun e => decide (e.1 = k)) = l.any fun e => decide (e.1 = k) := by
  induction h with
  | nil => rfl
  | cons h t ih => simp only [List.any_cons, ih]
theorem DRep.repl {v : V} {p : PV} (h : DRep K F xs l) (r : Rep K F v p) : (l.any fun e => decide (e.1 = k)) = true → DRep K F (xs.map fun kv => if kv.1 = k then (kv.1, v) else kv) (putP l k p) := by
  induction h with
  | nil => intro z; cases z
  | @cons a w q xs l h t ih =>
    intro z
    unfold putP
    rw [List.map_cons]
    by_cases hk : a = k
    · rw [if_pos hk, if_pos hk]
      refine .cons r ?_
      by_cases hl : (l.any fun e => decide (e.1 = k)) = true
      · rw [if_pos hl]; exact ih hl
      · rw [if_neg hl]
        have hx : ∀ e ∈ xs, ¬ e.1 = k := fun e he z => hl (by rw [← t.any]; exact List.any_eq_true.mpr ⟨e, he, by simpa using z⟩)
        rw [show xs.map (fun kv => if kv.1 = k then (kv.1, v) else kv) = xs from by
          conv => rhs; rw [← List.map_id xs]
          exact List.map_congr_left fun e he => by rw [if_neg (hx e he)]; rfl]
        exact t
    · rw [if_neg hk, if_neg hk]
      refine .cons h (ih ?_)
      rw [List.any_cons] at z
      simpa [hk] using z
theorem DRep.snoc {v : V} {p : PV} (h : DRep K F xs l) (r : Rep K F v p) : (l.any fun e => decide (e.1 = k)) = false → DRep K F (xs ++ [(k, v)]) (putP l k p) := by
  induction h with
  | nil => intro _; exact .cons r .nil
  | @cons a w q xs l h t ih =>
    intro z
    rw [List.any_cons, Bool.or_eq_false_iff] at z
    have hk : ¬ a = k := by simpa using z.1
    unfold putP
    rw [if_neg hk]
    exact .cons h (ih z.2)
theorem DRep.put {v : V} {p : PV} (h : DRep K F xs l) (r : Rep K F v p) : DRep K F (putK xs k v) (putP l k p) := by
  unfold putK
  by_cases z : (xs.any fun e => decide (e.1 = k)) = true
  · rw [if_pos z]; exact h.repl r (by rw [← h.any]; exact z)
  · rw [if_neg z]; exact h.snoc r (by rw [← h.any]; exact Bool.not_eq_true _ ▸ z)
end
noncomputable def asKey : PV → Option Key
  | .int i => some (.inl i)
  | .str x => some (.inr x)
  | _ => none
noncomputable def asKeys : List PV → Option (List Key)
  | [] => some []
  | p :: l => match asKey p, asKeys l with
    | some k, some ks => some (k :: ks)
    | _, _ => none
noncomputable def keyP : Key → PV
  | .inl i => .int i
  | .inr x => .str x
theorem asKey_eq {K : PySem.W.Frag} {F : Hp} {p : PV} {k : Key} {v : V} (h : asKey p = some k) (r : Rep K F v p) : v = kV k := by
  cases p with
  | int i => cases h; cases Rep.inv_int r; rfl
  | str x => cases h; cases Rep.inv_str r; rfl
  | _ => cases h
theorem asKeys_eq {K : PySem.W.Frag} {F : Hp} : ∀ {l : List PV} {ks : List Key} {xs : List V}, asKeys l = some ks → Reps K F xs l → xs = ks.map kV
  | [], ks, xs, h, r => by cases h; exact r.inv_nil
  | p :: l, ks, xs, h, r => by
    unfold asKeys at h
    split at h
    · rename_i k ks' h1 h2
      cases h
      obtain ⟨v, ys, rfl, r1, r2⟩ := r.inv_cons
      rw [asKey_eq h1 r1, asKeys_eq h2 r2]
      rfl
    · cases h
noncomputable def PV.isD : PV → Bool
  | .dk _ => true
  | .dt _ => true
  | _ => false
noncomputable def DLk (K : PySem.W.Frag) (F H : Hp) (a : Addr) : PV → Prop
  | .dk l => ∃ xs, Rd H a (.dK xs) ∧ xs.map (·.1) = l.map (·.1) ∧ ∀ (j : Nat) x p, xs[j]? = some x → l[j]? = some p → Rep K F x.2 p.2
  | .dt l => ∃ xs, Rd H a (.dT xs) ∧ xs.map (·.1) = l.map (·.1) ∧ ∀ (j : Nat) x p, xs[j]? = some x → l[j]? = some p → Rep K F x.2 p.2
  | _ => False
theorem DLk.up {K : PySem.W.Frag} {F H F' H' : Hp} {a : Addr} {p : PV} (o : DLk K F H a p) (sf : Same F F') (sh : Same H H') : DLk K F' H' a p := by
  cases p with
  | dk l => obtain ⟨xs, e, r, q⟩ := o; exact ⟨xs, e.same sh, r, fun j x p a b => (q j x p a b).up sf⟩
  | dt l => obtain ⟨xs, e, r, q⟩ := o; exact ⟨xs, e.same sh, r, fun j x p a b => (q j x p a b).up sf⟩
  | _ => exact o.elim
theorem Own.look {K : PySem.W.Frag} {F H : Hp} {a : Addr} {p : PV} (o : Own K F H a p) (d : p.isD = true) : DLk K F H a p := by
  cases p with
  | dk l => obtain ⟨xs, e, r⟩ := o; exact ⟨xs, .inl e, r⟩
  | dt l => obtain ⟨xs, e, r⟩ := o; exact ⟨xs, .inl e, r⟩
  | _ => cases d
noncomputable def aD (K : PySem.W.Frag) : Rel PV := fun F H v p => p.isD = true ∧ ∃ a, v = .ref a ∧ DLk K F H a p
theorem aD.up {K : PySem.W.Frag} : UpM (aD K) := fun _ _ _ _ _ _ u ⟨h1, b, e, o⟩ => ⟨h1, b, e, o.up u.ff u.hh⟩
noncomputable def asD (p : PV) : Option (Res PV) := if p.isD = true then some (.ok p) else none
theorem Rep.own {K : PySem.W.Frag} {F H : Hp} {v : V} {p : PV} (r : Rep K F v p) (s : Same F H) (d : p.isD = true) : ∃ a, v = .ref a ∧ DLk K F H a p := by
  cases r with
  | dk h hl hr => exact ⟨_, rfl, _, h.same s, hl, hr⟩
  | dt h hl hr => exact ⟨_, rfl, _, h.same s, hl, hr⟩
  | _ => cases d
section
variable {K : PySem.W.Frag} {C : Cg} {ta tb tc te : TE} {f g h : Fn PV}
noncomputable def mViewD (f : Fn PV) : Fn PV := fun ρ => bnd (f ρ) asD
noncomputable def mViewDN (i : Nat) : Fn PV := fun ρ => bnd (mVL i ρ) asD
theorem mj_viewD (h : MJ K C (aF K) ta f) : MJ K C (aD K) ta (mViewD f) := by
  intro F H σ ρ Q r R e P
  refine h.run R e P fun p v F1 H1 hk u a => ?_
  unfold asD at hk
  split at hk
  · rename_i hd
    cases hk
    exact P v F1 H1 u ⟨hd, Rep.own a u.fh hd⟩
  · cases hk
theorem mj_viewDN (i : Nat) : MJ K C (aD K) (tVar i) (mViewDN i) := by
  intro F H σ ρ Q r R e P
  unfold mViewDN at e
  rcases bnd_inv e with ⟨z, e1, rfl⟩ | ⟨p, e1, hk⟩
  · unfold mVL at e1
    split at e1 <;> cases e1
  · unfold asD at hk
    split at hk
    case isFalse => cases hk
    rename_i hd
    cases hk
    unfold mVL at e1
    split at e1
    · rename_i q hq
      cases e1
      obtain ⟨v, e2, e3⟩ := R.sh i _ hq
      exact ⟨v, e2, P v F H (Up.refl R.rb.sub) ⟨hd, Rep.own e3 R.rb.sub hd⟩⟩
    · rename_i q hq
      cases e1
      obtain ⟨a, e2, e3, _⟩ := R.ow i _ hq
      exact ⟨_, e2, P _ F H (Up.refl R.rb.sub) ⟨hd, a, rfl, e3.look hd⟩⟩
    · cases e1
noncomputable def dFind : PV → PV → Option (Option PV)
  | .dk l, k => (asKey k).map (valP l)
  | .dt l, .tup ks => (asKeys ks).map (valP l)
  | _, _ => none
theorem dFind_ok {F H : Hp} {a : Addr} {d k : PV} {y : V} {r : Option PV} (s : Same F H) (o : DLk K F H a d) (ry : Rep K F y k) (e : dFind d k = some r) :
    ∃ o, DGet H a y o ∧ (r = none → o = none) ∧ ∀ p, r = some p → ∃ v, o = some v ∧ Rep K F v p := by
  have inv : (∃ l, d = .dk l) ∨ ∃ l ks, d = .dt l ∧ k = .tup ks := by
    clear o ry
    cases d <;> first | exact noS e | exact .inl ⟨_, rfl⟩ | (cases k <;> first | exact noS e | exact .inr ⟨_, _, rfl, rfl⟩)
  rcases inv with ⟨l, rfl⟩ | ⟨l, ks, rfl, rfl⟩
  · obtain ⟨xs, h1, h2, h3⟩ := o
    have D := DRep.of (K := K) (F := F) h2 h3
    have e : (asKey k).map (valP l) = some r := e
    cases hk : asKey k with
    | none => rw [hk] at e; cases e
    | some k' =>
      rw [hk] at e
      cases e
      cases asKey_eq hk ry
      exact ⟨_, .inl ⟨_, _, h1, rfl, rfl⟩, fun n => D.none n, fun p q => D.some q⟩
  · obtain ⟨xs, h1, h2, h3⟩ := o
    have D := DRep.of (K := K) (F := F) h2 h3
    have e : (asKeys ks).map (valP l) = some r := e
    cases hk : asKeys ks with
    | none => rw [hk] at e; cases e
    | some k' =>
      rw [hk] at e
      cases e
      obtain ⟨b, ys, rfl, hb, rr⟩ := Rep.inv_tupF ry
      cases asKeys_eq hk rr
      exact ⟨_, .inr ⟨_, _, _, h1, rfl, s _ _ hb, rfl⟩, fun n => D.none n, fun p q => D.some q⟩
noncomputable def opDGet (d k : PV) : Option (Res PV) := match dFind d k with
  | some (some p) => some (.ok p)
  | _ => none
noncomputable def rDGet : R2 := fun x y H Q => ∃ a v, x = .ref a ∧ DGet H a y (some v) ∧ Q v H
theorem r_dget : R2M C (aD K) (aF K) (aF K) rDGet opDGet := by
  intro F H x y a b res Q s ha hb e P
  obtain ⟨_, ad, rfl, o⟩ := ha
  unfold opDGet at e
  split at e
  · rename_i p hp
    cases e
    obtain ⟨ov, g, _, g2⟩ := dFind_ok s o hb hp
    obtain ⟨v, rfl, rv⟩ := g2 p rfl
    exact ⟨ad, v, rfl, g, P v F H (Up.refl s) rv⟩
  · cases e
noncomputable def opDIn (k d : PV) : Option (Res PV) := (dFind d k).map fun r => .ok (.bl r.isSome)
noncomputable def opDNotIn (k d : PV) : Option (Res PV) := (dFind d k).map fun r => .ok (.bl (!r.isSome))
theorem r_din : R2M C (aF K) (aD K) (aF K) (fun y x H Q => ∃ a o, x = .ref a ∧ DGet H a y o ∧ Q (.bl o.isSome) H) opDIn := by
  intro F H x y a b res Q s ha hb e P
  obtain ⟨_, ad, rfl, o⟩ := hb
  unfold opDIn at e
  cases hp : dFind b a with
  | none => rw [hp] at e; cases e
  | some r =>
    rw [hp] at e
    cases e
    obtain ⟨ov, g, g1, g2⟩ := dFind_ok s o ha hp
    have es : ov.isSome = r.isSome := by
      cases r with
      | none => rw [g1 rfl]; rfl
      | some p => obtain ⟨v, rfl, _⟩ := g2 p rfl; rfl
    exact ⟨ad, ov, rfl, g, by rw [es]; exact P _ F H (Up.refl s) .bl⟩
theorem r_dnotin : R2M C (aF K) (aD K) (aF K) (fun y x H Q => ∃ a o, x = .ref a ∧ DGet H a y o ∧ Q (.bl (!o.isSome)) H) opDNotIn := by
  intro F H x y a b res Q s ha hb e P
  obtain ⟨_, ad, rfl, o⟩ := hb
  unfold opDNotIn at e
  cases hp : dFind b a with
  | none => rw [hp] at e; cases e
  | some r =>
    rw [hp] at e
    cases e
    obtain ⟨ov, g, g1, g2⟩ := dFind_ok s o ha hp
    have es : ov.isSome = r.isSome := by
      cases r with
      | none => rw [g1 rfl]; rfl
      | some p => obtain ⟨v, rfl, _⟩ := g2 p rfl; rfl
    exact ⟨ad, ov, rfl, g, by rw [es]; exact P _ F H (Up.refl s) .bl⟩
theorem DLk.isD {F H : Hp} {a : Addr} {p : PV} (o : DLk K F H a p) (d : p.isD = true) : IsD H a := by
  cases p with
  | dk l => obtain ⟨xs, e, _⟩ := o; exact .inl ⟨xs, e⟩
  | dt l => obtain ⟨xs, e, _⟩ := o; exact .inr ⟨xs, e⟩
  | _ => cases d
noncomputable def mDGet1 (f g : Fn PV) : Fn PV := fun ρ => bnd (f ρ) fun d => bnd (g ρ) fun k => (dFind d k).map fun r => .ok (r.getD .non)
theorem mj_dget1 (ha : MJ K C (aD K) ta f) (hb : MJ K C (aF K) tb g) : MJ K C (aF K) (tDGet1 ta tb) (mDGet1 f g) := by
  intro F H σ ρ Q r R e P
  refine ha.run R e P fun d v F1 H1 hk u ⟨hd, a, ea, o⟩ => ?_
  subst ea
  refine ⟨a, rfl, o.isD hd, ?_⟩
  refine hb.run (R.up u) hk (P.later u) fun k w F2 H2 hk2 u2 b => ?_
  cases hp : dFind d k with
  | none => rw [hp] at hk2; cases hk2
  | some q =>
    rw [hp] at hk2
    cases hk2
    obtain ⟨ov, g, g1, g2⟩ := dFind_ok u2.fh (o.up u2.ff u2.hh) b hp
    refine ⟨ov, g, P _ F2 H2 (u.trans u2) ?_⟩
    cases q with
    | none => rw [g1 rfl]; exact .non
    | some p => obtain ⟨v, rfl, rv⟩ := g2 p rfl; exact rv
noncomputable def dPut : PV → PV → PV → Option PV
  | .dk l, k, p => match asKey k with
    | some k => if l.length < sizeLine then some (.dk (putP l k p)) else none
    | none => none
  | .dt l, .tup ks, p => match asKeys ks with
    | some k => if l.length < sizeLine then some (.dt (putP l k p)) else none
    | none => none
  | _, _, _ => none
theorem dPut_ok {F H : Hp} {a : Addr} {d k p d' : PV} {y v : V} (s : Same F H) (o : Own K F H a d) (ry : Rep K F y k) (rv : Rep K F v p) (e : dPut d k p = some d') :
    ∃ ob, DPut H a y v (upd H a ob) ∧ Own K F (upd H a ob) a d' := by
  have inv : (∃ l, d = .dk l) ∨ ∃ l ks, d = .dt l ∧ k = .tup ks := by
    clear o ry rv
    cases d <;> first | exact noS e | exact .inl ⟨_, rfl⟩ | (cases k <;> first | exact noS e | exact .inr ⟨_, _, rfl, rfl⟩)
  rcases inv with ⟨l, rfl⟩ | ⟨l, ks, rfl, rfl⟩
  · obtain ⟨xs, h1, h2, h3⟩ := o
    have D := DRep.of (K := K) (F := F) h2 h3
    have e : (match asKey k with | some k => if l.length < sizeLine then some (PV.dk (putP l k p)) else none | none => none) = some d' := e
    split at e
    case h_2 => cases e
    rename_i k' hk
    split at e
    case isFalse => cases e
    rename_i hz
    cases e
    cases asKey_eq hk ry
    have D' := D.put (k := k') rv
    exact ⟨_, DPut.k h1 (by rw [D.len]; exact hz), _, upd_same, D'.keys, D'.at⟩
  · obtain ⟨xs, h1, h2, h3⟩ := o
    have D := DRep.of (K := K) (F := F) h2 h3
    have e : (match asKeys ks with | some k => if l.length < sizeLine then some (PV.dt (putP l k p)) else none | none => none) = some d' := e
    split at e
    case h_2 => cases e
    rename_i k' hk
    split at e
    case isFalse => cases e
    rename_i hz
    cases e
    obtain ⟨b, ys, rfl, hb, rr⟩ := Rep.inv_tupF ry
    cases asKeys_eq hk rr
    have D' := D.put (k := k') rv
    exact ⟨_, DPut.t h1 (s _ _ hb) (by rw [D.len]; exact hz), _, upd_same, D'.keys, D'.at⟩
noncomputable def mDPut (i : Nat) (fe fk : Fn PV) : Sn := fun ρ => bndS (fe ρ) fun p => match ownAt i ρ with
  | some d => bndS (fk ρ) fun k => match dPut d k p with
    | some d' => some (.nx (ρ.set i (some (.ow d'))))
    | none => none
  | none => none
theorem ms_dput {i : Nat} {fe fk : Fn PV} (he : MJ K C (aF K) te fe) (hk : MJ K C (aF K) tb fk) : MS K C (sDPut (tVar i) tb te) (mDPut i fe fk) := by
  intro F H σ ρ D o R e P
  refine he.runS R e P fun p v F1 H1 hk1 u a => ?_
  split at hk1
  case h_2 => cases hk1
  rename_i d hd
  obtain ⟨b, g1, _⟩ := R.ow i _ (ownAt_eq hd)
  refine ⟨_, g1, hk.runS (R.up u) hk1 (P.up u.ff) fun k w F2 H2 hk2 u2 rk => ?_⟩
  split at hk2
  case h_2 => cases hk2
  rename_i d' hd'
  cases hk2
  have R2 := R.up (u.trans u2)
  obtain ⟨a', k1, k2, _⟩ := R2.ow i _ (ownAt_eq hd)
  rw [g1] at k1
  cases k1
  obtain ⟨ob, g, w'⟩ := dPut_ok u2.fh k2 rk (Rep.up a u2.ff) hd'
  exact ⟨b, _, rfl, g, P F2 _ σ (u.trans u2).ff (R2.write (ownAt_eq hd) g1 w')⟩
theorem mo_newK : MO K C tDNewK mNewD := by
  intro F H σ ρ Q r R e P
  cases e
  intro p hp
  exact P p F _ (Up.newU R.rb.sub hp) hp (R.rb.sub.free hp) ⟨[], upd_same, rfl, fun j x p h => by simp at h⟩
noncomputable def asPair : PV → Option (PV × PV)
  | .tup [a, b] => some (a, b)
  | _ => none
noncomputable def asPairs : List PV → Option (List (PV × PV))
  | [] => some []
  | p :: l => match asPair p, asPairs l with
    | some a, some r => some (a :: r)
    | _, _ => none
noncomputable def dPutAll (d : PV) : List (PV × PV) → Option PV
  | [] => some d
  | (k, p) :: r => match dPut d k p with
    | some d' => dPutAll d' r
    | none => none
theorem asPairs_at {F H : Hp} (s : Same F H) : ∀ {l : List PV} {ps : List (PV × PV)} {xs : List V}, asPairs l = some ps → Reps K F xs l →
    ∃ vs : List (V × V), PairsAt K H xs vs ∧ vs.length = ps.length ∧ ∀ (j : Nat) x p, vs[j]? = some x → ps[j]? = some p → Rep K F x.1 p.1 ∧ Rep K F x.2 p.2
  | [], ps, xs, h, r => by
    cases h
    cases r.inv_nil
    exact ⟨[], ⟨rfl, fun j x p e => by simp at e⟩, rfl, fun j x p e => by simp at e⟩
  | p :: l, ps, xs, h, r => by
    unfold asPairs at h
    split at h
    · rename_i a r' h1 h2
      cases h
      obtain ⟨v, ys, rfl, r1, r2⟩ := r.inv_cons
      obtain ⟨vs, g1, g2, g3⟩ := asPairs_at s h2 r2
      unfold asPair at h1
      split at h1
      · rename_i pa pb
        cases h1
        obtain ⟨b, zs, rfl, hb, rr⟩ := Rep.inv_tup r1
        obtain ⟨v1, zs1, rfl, q1, rr⟩ := rr.inv_cons
        obtain ⟨v2, zs2, rfl, q2, rr⟩ := rr.inv_cons
        cases rr.inv_nil
        refine ⟨(v1, v2) :: vs, ⟨by simp [g1.1], fun j x p e1 e2 => ?_⟩, by simp [g2], fun j x p e1 e2 => ?_⟩
        · cases j with
          | zero => simp at e1 e2; subst e1 e2; exact ⟨b, rfl, s.tup hb⟩
          | succ j => exact g1.2 j x p (by simpa using e1) (by simpa using e2)
        · cases j with
          | zero => simp at e1 e2; subst e1 e2; exact ⟨q1, q2⟩
          | succ j => exact g3 j x p (by simpa using e1) (by simpa using e2)
      · cases h1
    · cases h
theorem dPutAll_ok {F : Hp} {a : Addr} {Q : Hp → Prop} : ∀ {ps : List (PV × PV)} {vs : List (V × V)} {H : Hp} {d d' : PV}, Same F H → F a = none → Own K F H a d → vs.length = ps.length → (∀ (j : Nat) x p, vs[j]? = some x → ps[j]? = some p → Rep K F x.1 p.1 ∧ Rep K F x.2 p.2) →
    dPutAll d ps = some d' → (∀ H', Same F H' → (∀ b, b ≠ a → H' b = H b) → Own K F H' a d' → Q H') → DPuts a vs H Q
  | [], vs, H, d, d', s, hn, o, hl, hr, e, q => by
    cases vs with
    | nil => cases e; exact q H s (fun _ _ => rfl) o
    | cons v vs => simp at hl
  | (k, p) :: ps, vs, H, d, d', s, hn, o, hl, hr, e, q => by
    cases vs with
    | nil => simp at hl
    | cons v vs =>
      unfold dPutAll at e
      split at e
      case h_2 => cases e
      rename_i d1 h1
      obtain ⟨r1, r2⟩ := hr 0 v (k, p) rfl rfl
      obtain ⟨ob, g, o1⟩ := dPut_ok s o r1 r2 h1
      refine ⟨_, g, dPutAll_ok (H := upd H a ob) (fun b u z => by rw [upd_ne (ne_of_none z hn)]; exact s b u z) hn o1 (by simpa using hl) (fun j x p e1 e2 => hr (j + 1) x p (by simpa using e1) (by simpa using e2)) e fun H' s' hb o' => ?_⟩
      exact q H' s' (fun b hb' => (hb b hb').trans (upd_ne hb')) o'
noncomputable def opDictP (d : PV) (l : List PV) : Option (Res PV) := match asPairs l with
  | some ps => (dPutAll d ps).map .ok
  | none => none
theorem r_dictP {n : HO} {d : PV} (hd : ∀ F H a, H a = some n → Own K F H a d) : R1O K C (aV K) (rDictP K n) (opDictP d) := by
  intro F H x l res Q s ha e P
  obtain ⟨b, xs, rfl, h1, r1⟩ := ha
  unfold opDictP at e
  split at e
  case h_2 => cases e
  rename_i ps hps
  cases hd' : dPutAll d ps with
  | none => rw [hd'] at e; cases e
  | some d' =>
    rw [hd'] at e
    cases e
    obtain ⟨vs, g1, g2, g3⟩ := asPairs_at (H := H) s hps r1
    refine ⟨b, xs, vs, rfl, .inl h1, g1, fun a na => ?_⟩
    refine dPutAll_ok (F := F) (s.trans (same_upd na)) (s.free na) (hd _ _ _ upd_same) g2 g3 hd' fun H' s' hb o' => ?_
    exact P a F H' ⟨Same.refl _, fun c o q => by rw [hb c (ne_of_none q na), upd_ne (ne_of_none q na)]; exact q, fun _ _ q => .inl q, s'⟩ na (s.free na) o'
theorem own_dk0 {F H : Hp} {a : Addr} (h : H a = some (.dK [])) : Own K F H a (.dk []) := ⟨[], h, rfl, fun j x p e => by simp at e⟩
end
section
variable {K : PySem.W.Frag} {C : Cg} {ta tb te : TE} {f g : Fn PV}
theorem mj_dget (ha : MJ K C (aD K) ta f) (hb : MJ K C (aF K) tb g) : MJ K C (aF K) (tDGet ta tb) (m2 opDGet f g) := mj_op (r2 := rDGet) aD.up r_dget ha hb
end
section
variable {X : Cx}
theorem op_din {k : Nat} (hr : Room k X.A) : OpR X (compareOp .In) (fun y x H Q => ∃ a o, x = .ref a ∧ DGet H a y o ∧ Q (.bl o.isSome) H) := by
  intro pins s σ H x y v u Q I rx ry h
  obtain ⟨a, o, rfl, g, q⟩ := h
  cases ry
  exact d_in (hu_of hr) I g rx fun s3 I3 => ⟨.bl o.isSome, H, I3, rfl, q⟩
theorem op_dnotin {k : Nat} (hr : Room k X.A) : OpR X (compareOp .NotIn) (fun y x H Q => ∃ a o, x = .ref a ∧ DGet H a y o ∧ Q (.bl (!o.isSome)) H) := by
  intro pins s σ H x y v u Q I rx ry h
  obtain ⟨a, o, rfl, g, q⟩ := h
  cases ry
  exact d_notIn (hu_of hr) I g rx fun s3 I3 => ⟨.bl (!o.isSome), H, I3, rfl, q⟩
theorem call_dictK {k : Nat} (hr : Room k X.A) (hc : X.calm = true) : CallR X (.type "dict") (rDictP X.K (.dK [])) := call_dictP hc hr.units (.inl rfl)
end
section
variable {X : Cx} {k : Nat} {N : List Str} {scope : Scope} {cl : List (Str × Addr)} {C : Addr} {s2 : Shared} {H2 : Hp} {fp : List Addr}
theorem op_dnotinC (hr : Room k X.A) : OpR (X.comp N scope cl C s2 H2 fp) (compareOp .NotIn) (fun y x H Q => ∃ a o, x = .ref a ∧ DGet H a y o ∧ Q (.bl (!o.isSome)) H) := op_dnotin hr
theorem pe_dgetM {X : Cx} {k : Nat} {o i : Expr} {pos : Pos} {td ty : TE} (hr : Room k X.A) (ho : PE X o td) (hi : PE X i ty) (hs : NoSl i) : PE X (.Subscript o i pos) (tDGet td ty) := pe_dget (hu_of hr) ho hi hs
theorem pe_dget1M {X : Cx} {k : Nat} {o e : Expr} {apos cpos : Pos} {td ty : TE} (hr : Room k X.A) (ho : PE X o td) (he : PE X e ty) (m : M1 X o "get" apos e cpos) : PE X (.Call (.Attribute o "get" apos) [e] [] cpos) (tDGet1 td ty) := pe_dget1 (hu_of hr) ho he m
end
end L2.MP

namespace L2.MP
open PySem PySem.Spec PyProof.Rows
end L2.MP

namespace L2.MP
open PySem PySem.Spec PyProof.Rows
section
variable {X : Cx} {tg : Expr}
noncomputable def CR (a b c : Int) : Prop := 0 ≤ a ∧ a < 2 ^ 30 ∧ -(2 ^ 30) ≤ b ∧ b < 2 ^ 30 ∧ 0 < c ∧ c < 2 ^ 30
noncomputable instance (a b c : Int) : Decidable (CR a b c) := inferInstanceAs (Decidable (_ ∧ _))
theorem vals_ints {acc : Array Value} {n : Nat} (h : ItemsOf (fun i v => ∃ t, v = .int (0 + (i : Nat) * 1) t) acc n) : Vals ((List.range n).map fun i => V.int (i : Nat)) acc.toList := by
  obtain ⟨hs, hv⟩ := h
  have go : ∀ (l : List Value) (k : Nat), (∀ (i : Nat) v, l[i]? = some v → ∃ t, v = Value.int (((k + i : Nat) : Int)) t) → Vals ((List.range' k l.length).map fun i => V.int (i : Nat)) l := by
    intro l
    induction l with
    | nil => intro k _; exact .nil
    | cons v l ih =>
      intro k h
      rw [List.length_cons, List.range'_succ, List.map_cons]
      obtain ⟨t, e⟩ := h 0 v rfl
      refine .cons ⟨t, by rw [e]; rfl⟩ (ih (k + 1) fun i v hv => ?_)
      obtain ⟨t, e⟩ := h (i + 1) v (by simpa using hv)
      exact ⟨t, by rw [e]; congr 2; omega⟩
  have := go acc.toList 0 fun i v e => by
    obtain ⟨t, e2⟩ := hv i v (by simpa using e)
    exact ⟨t, by rw [e2]; congr 1; omega⟩
  rwa [Array.length_toList, hs, ← List.range_eq_range'] at this
section
variable {prog : Program} {w : World} {A : Around} {E : Value → Shared → Prop} {s : Shared}
end
end
section
variable {K : PySem.W.Frag} {C : Cg} {F : Hp} {te : TE} {tA : TA} {f : Fn PV}
end
end L2.MP

namespace L2.MP
open PySem PySem.Spec PyProof.Rows
section
variable {K : PySem.W.Frag} {C : Cg} {ta : TE} {f : Fn PV}
end
section
variable {prog : Program} {w : World} {A : Around} {E : Value → Shared → Prop} {s : Shared}
end
section
variable {X : Cx}
end
section
variable {K : PySem.W.Frag} {C : Cg} {te : TE}
end
section
variable {K : PySem.W.Frag} {C : Cg} {ta : TE} {f : Fn PV}
inductive MPs (K : PySem.W.Frag) (C : Cg) : List (TE × TE) → List (Fn PV × Fn PV) → Prop
  | nil : MPs K C [] []
  | cons {tk tv : TE} {fk fv : Fn PV} {ts : List (TE × TE)} {fs : List (Fn PV × Fn PV)} (hk : MJ K C (aF K) tk fk) (hv : MJ K C (aF K) tv fv) (h : MPs K C ts fs) : MPs K C ((tk, tv) :: ts) ((fk, fv) :: fs)
inductive Reps2 (K : PySem.W.Frag) (F : Hp) : List (V × V) → List (PV × PV) → Prop
  | nil : Reps2 K F [] []
  | cons {x y : V} {p q : PV} {xs : List (V × V)} {l : List (PV × PV)} (h1 : Rep K F x p) (h2 : Rep K F y q) (t : Reps2 K F xs l) : Reps2 K F ((x, y) :: xs) ((p, q) :: l)
theorem Reps2.up {F F' : Hp} {xs : List (V × V)} {l : List (PV × PV)} (h : Reps2 K F xs l) (s : Same F F') : Reps2 K F' xs l := by
  induction h with
  | nil => exact .nil
  | cons h1 h2 _ ih => exact .cons (h1.up s) (h2.up s) ih
end
end L2.MP

namespace L2.MP
open PySem PySem.Spec PyProof.Rows
noncomputable def POk (K : PySem.W.Frag) (C : Cg) (F : Hp) (D : Ends) (i : Nat) (c : Option (Option V)) : Out → Prop
  | .nx ρ => ∀ F' H' σ, Same F F' → RE K C.toCf F' H' σ ρ → σ[i]? = c → D.nx σ H'
  | .bk ρ => ∀ F' H' σ, Same F F' → RE K C.toCf F' H' σ ρ → σ[i]? = c → D.bk σ H'
  | .ct ρ => ∀ F' H' σ, Same F F' → RE K C.toCf F' H' σ ρ → σ[i]? = c → D.ct σ H'
  | o => PO' K C F D o
noncomputable def MSk (K : PySem.W.Frag) (C : Cg) (i : Nat) (t : TS) (f : Sn) : Prop := ∀ F H σ ρ D o, RE K C.toCf F H σ ρ → f ρ = some o → POk K C F D i (σ[i]?) o → t D σ H
noncomputable def MGk (K : PySem.W.Frag) (C : Cg) (i : Nat) (g : TG) (tg : PV → Rho → Option Rho) : Prop :=
  ∀ F H σ ρ v p ρ' Q, RE K C.toCf F H σ ρ → Rep K F v p → tg p ρ = some ρ' → (∀ σ', RE K C.toCf F H σ' ρ' → σ'[i]? = σ[i]? → Q σ' H) → g v σ H Q
section
variable {K : PySem.W.Frag} {C : Cg} {i : Nat} {te : TE} {F H : Hp} {σ : St} {ρ : Rho} {D : Ends} {t u : TS} {f g : Sn} {o : Out} {c : Option (Option V)}
theorem POk.up {F1 : Hp} (h : POk K C F D i c o) (s : Same F F1) : POk K C F1 D i c o := by
  cases o with
  | nx ρ => exact fun F' H' σ a => h F' H' σ (s.trans a)
  | bk ρ => exact fun F' H' σ a => h F' H' σ (s.trans a)
  | ct ρ => exact fun F' H' σ a => h F' H' σ (s.trans a)
  | rt p => exact fun v F' H' a => h v F' H' (s.trans a)
  | ro p => exact fun v F' H' a => h v F' H' (s.trans a)
  | rd p => exact fun v F' H' S a => h v F' H' S (s.trans a)
  | ex z => exact PX.up h s
theorem mgk_name (j : Nat) (h : j ≠ i) : MGk K C i (gName j) (gN j) := fun F H σ ρ v p ρ' Q R r e k => by
  cases e
  exact k _ (R.set j r) (List.getElem?_set_ne h)
theorem MT.runK {tt : TT} {fe : Fn Bool} {Q : Bool → Hp → Prop} {k : Bool → Option Out} (h : MT K C tt fe) (R : RE K C.toCf F H σ ρ) (hb : bndS (fe ρ) k = some o) (P : POk K C F D i c o)
    (go : ∀ b F1 H1, k b = some o → Up F H F1 H1 → Q b H1) : tt σ H Q := by
  rcases bndS_inv hb with ⟨z, e, rfl⟩ | ⟨p, e, hk⟩
  · exact h F H σ ρ Q _ R e P
  · exact h F H σ ρ Q _ R e fun F1 H1 u => go p F1 H1 hk u
theorem MJ.runK {α : Type} {A : Rel α} {ta : TE} {fe : Fn α} {Q : VK} {k : α → Option Out} (h : MJ K C A ta fe) (R : RE K C.toCf F H σ ρ) (hb : bndS (fe ρ) k = some o) (P : POk K C F D i c o)
    (go : ∀ p v F1 H1, k p = some o → Up F H F1 H1 → A F1 H1 v p → Q v H1) : ta σ H Q := by
  rcases bndS_inv hb with ⟨z, e, rfl⟩ | ⟨p, e, hk⟩
  · exact h F H σ ρ Q _ R e P
  · exact h F H σ ρ Q _ R e fun v F1 H1 u a => go p v F1 H1 hk u a
theorem msk_asg {fe : Fn PV} {gt : TG} {tg : PV → Rho → Option Rho} (h : MJ K C (aF K) te fe) (hg : MGk K C i gt tg) : MSk K C i (tAsg te gt) (mAsg fe tg) := by
  intro F H σ ρ D o R e P
  refine h.runK R e P fun p v F1 H1 hk u a => ?_
  split at hk
  · rename_i ρ' h1
    cases hk
    exact hg F1 H1 σ ρ v p ρ' _ (R.up u) a h1 fun σ' R' k => P F1 H1 σ' u.ff R' k
  · cases hk
theorem msk_seq (h1 : MSk K C i t f) (h2 : MSk K C i u g) : MSk K C i (tSeq t u) (mSeq f g) := by
  intro F H σ ρ D o R e P
  unfold mSeq at e
  split at e
  · rename_i ρ' h
    refine h1 F H σ ρ _ _ R h ?_
    exact fun F' H' σ' s R' k => h2 F' H' σ' ρ' D o R' e (by rw [k]; exact P.up s)
  · rename_i x hx
    cases o with
    | nx ρ' => exact absurd e (hx ρ')
    | bk ρ => exact h1 F H σ _ _ _ R e P
    | ct ρ => exact h1 F H σ _ _ _ R e P
    | rt p => exact h1 F H σ _ _ _ R e P
    | ro p => exact h1 F H σ _ _ _ R e P
    | rd p => exact h1 F H σ _ _ _ R e P
    | ex z => exact h1 F H σ _ _ _ R e P
end
end L2.MP

namespace L2.MP
open PySem PySem.Spec PyProof.Rows
noncomputable def New (H F' H' : Hp) (S : Addr → Prop) : Prop := ∀ b, S b → H b = none ∧ F' b = none ∧ ∃ o, H' b = some o ∧ ∀ ys, o ≠ .tup ys
noncomputable def MD (K : PySem.W.Frag) (C : Cg) (te : TE) (f : Fn PV) : Prop :=
  ∀ F H σ ρ Q r, RE K C.toCf F H σ ρ → f ρ = some r → Pr C F (fun p => ∀ v F' H' S, Up F H F' H' → Dp K F' H' S v p → New H F' H' S → Q v H') r → te σ H Q
noncomputable def spD (K : PySem.W.Frag) (XR : Hp → Value → Option Addr → PV → Prop) (m : List PV → Option (Res PV)) : Sp := fun vs H Q E => ∃ ps F r, Same F H ∧ Reps K F vs ps ∧ m ps = some r ∧ match r with
  | .ok p => ∀ v F' H' S, Up F H F' H' → Dp K F' H' S v p → New H F' H' S → Q v H'
  | .ex z => ∀ e d F' H', Up F H F' H' → XR F' e d z → E e d H'
section
variable {K : PySem.W.Frag} {C : Cg} {te ta tb : TE} {F F1 F2 H H1 H2 : Hp} {σ : St} {ρ : Rho} {D : Ends} {t u : TS} {f g : Sn} {o : Out} {S : Addr → Prop} {v : V} {p : PV}
theorem New.up (n : New H F1 H1 S) (u : Up F1 H1 F2 H2) : New H F2 H2 S := fun b q => by
  obtain ⟨n0, n1, o, n2, n3⟩ := n b q
  refine ⟨n0, ?_, o, u.hh _ _ n2, n3⟩
  cases e : F2 b with
  | none => rfl
  | some o' =>
    rcases u.fr b o' e with z | z | ⟨ys, z⟩
    · rw [n1] at z; cases z
    · rw [n2] at z; cases z
    · subst z
      have w := u.fh _ _ e
      rw [u.hh _ _ n2] at w
      cases w
      exact absurd rfl (n3 ys)
theorem Dp.stay (d : Dp K F1 H1 S v p) (u : Up F1 H1 F2 H2) : Dp K F2 H2 S v p := d.up u.ff (fun b o _ q => u.hh b o q) fun b ys q => u.hh b _ q
noncomputable def thaw (F H : Hp) (S : Addr → Prop) : Hp := fun b => @ite _ (S b ∨ ∃ ys, H b = some (.tup ys)) (Classical.propDecidable _) (H b) (F b)
theorem thaw_in {b : Addr} (h : S b ∨ ∃ ys, H b = some (.tup ys)) : thaw F H S b = H b := @if_pos _ (Classical.propDecidable _) h _ _ _
theorem thaw_out {b : Addr} (h : ¬ (S b ∨ ∃ ys, H b = some (.tup ys))) : thaw F H S b = F b := @if_neg _ (Classical.propDecidable _) h _ _ _
theorem thaw_same (s : Same F H) : Same F (thaw F H S) := fun b o e => by
  by_cases h : S b ∨ ∃ ys, H b = some (.tup ys)
  · rw [thaw_in h]; exact s b o e
  · rw [thaw_out h]; exact e
theorem thaw_sub (s : Same F H) : Same (thaw F H S) H := fun b o e => by
  by_cases h : S b ∨ ∃ ys, H b = some (.tup ys)
  · rw [thaw_in h] at e; exact e
  · rw [thaw_out h] at e; exact s b o e
theorem thaw_rep (d : Dp K F H S v p) (s : Same F H) : Rep K (thaw F H S) v p :=
  d.seen (thaw_same s) (fun b o q e => by rw [thaw_in (.inl q)]; exact e) fun b ys e => by rw [thaw_in (.inr ⟨ys, e⟩)]; exact e
noncomputable def mDeep (fe : Fn PV) : Fn PV := fun ρ => bnd (fe ρ) fun p => match p with
  | .lst l => if l.all PV.still = true then some (.ok (.lst l)) else none
  | _ => none
theorem md_of {fe : Fn PV} (h : MO K C te fe) : MD K C te (mDeep fe) := by
  intro F H σ ρ Q r R e P
  rcases bnd_inv e with ⟨z, e1, rfl⟩ | ⟨p, e1, hk⟩
  · exact h F H σ ρ Q _ R e1 P
  · split at hk
    · rename_i l
      split at hk
      · rename_i hl
        cases hk
        refine h F H σ ρ Q _ R e1 fun a F' H' u n1 n2 w => ?_
        obtain ⟨xs, e2, e3⟩ := w
        refine P _ F' H' (fun b => b = a) u ?_ ?_
        · refine .lst (S := fun _ _ => False) e2 rfl (fun j b q => q.elim) (fun i j b q => q.elim) e3.1 fun j x p e4 e5 => .fr (e3.2 j x p e4 e5) ?_
          exact List.all_eq_true.mp hl p (List.mem_of_getElem? e5)
        · rintro b rfl
          exact ⟨n1, n2, _, e2, fun ys q => by cases q⟩
      · cases hk
    · cases hk
noncomputable def mStill (fe : Fn PV) : Fn PV := fun ρ => bnd (fe ρ) fun p => if p.still = true then some (.ok p) else none
theorem md_still {fe : Fn PV} (h : MJ K C (aF K) te fe) : MD K C te (mStill fe) := by
  intro F H σ ρ Q r R e P
  rcases bnd_inv e with ⟨z, e1, rfl⟩ | ⟨p, e1, hk⟩
  · exact h F H σ ρ Q _ R e1 P
  · split at hk
    · rename_i hp
      cases hk
      exact h F H σ ρ Q _ R e1 fun v F' H' u w => P v F' H' (fun _ => False) u (.fr w hp) fun b q => q.elim
    · cases hk
theorem md_call {t : TA} {fe : Fn (List PV)} {m : List PV → Option (Res PV)} (h : MA K C t fe) : MD K C (tCall (spD K C.XR m) [] C.E t) (mCall m fe) := by
  intro F H σ ρ Q r R e P
  refine h.run R e P fun l xs F1 H1 hk u a => ?_
  refine ⟨l, F1, r, u.fh, by rw [List.append_nil]; exact a, hk, ?_⟩
  cases r with
  | ok p => exact fun v F' H' S u' d n => P v F' H' S (u.trans u') d fun b q => ⟨u.hh.free (n b q).1, (n b q).2⟩
  | ex z => exact fun e d F' H' u' x => P e d F' H' (u.trans u').ff (R.rb.up (u.trans u')) x
noncomputable def Dps (K : PySem.W.Frag) (F H : Hp) (S : Nat → Addr → Prop) (xs : List V) (l : List PV) : Prop :=
  xs.length = l.length ∧ (∀ i j b, S i b → S j b → i = j) ∧ ∀ (j : Nat) x p, xs[j]? = some x → l[j]? = some p → Dp K F H (S j) x p
noncomputable def dpAt (i : Nat) (ρ : Rho) : Option PV := match ρ[i]? with
  | some (some (.dp p)) => some p
  | _ => none
theorem dpAt_eq {i : Nat} {p : PV} (h : dpAt i ρ = some p) : ρ[i]? = some (some (.dp p)) := by
  unfold dpAt at h
  split at h
  · rename_i q hq; cases h; exact hq
  · cases h
theorem RE.setD {C : Cf} (R : RE K C F H σ ρ) (i : Nat) (u : Up F H F1 H1) (d : Dp K F1 H1 S v p) (n : New H F1 H1 S) (nw : C.nw) : RE K C F1 H1 (σ.set i (some v)) (ρ.set i (some (.dp p))) where
  rb := R.rb.up u
  len := by simp [R.len]
  sh := fun j q e => by
    rcases get_set e with ⟨e1, e2⟩ | ⟨e1, e2⟩
    · cases e2
    · obtain ⟨w, e3, e4⟩ := (R.up u).sh j q e2
      exact ⟨w, by rw [List.getElem?_set_ne e1]; exact e3, e4⟩
  ow := fun j q e => by
    rcases get_set e with ⟨e1, e2⟩ | ⟨e1, e2⟩
    · cases e2
    · obtain ⟨w, e3, e4⟩ := (R.up u).ow j q e2
      exact ⟨w, by rw [List.getElem?_set_ne e1]; exact e3, e4⟩
  dis := fun j k q q' b e e' f f' => by
    rcases get_set e with ⟨e1, e2⟩ | ⟨e1, e2⟩
    · cases e2
    · rcases get_set e' with ⟨e1', e2'⟩ | ⟨e1', e2'⟩
      · cases e2'
      · rw [List.getElem?_set_ne e1] at f
        rw [List.getElem?_set_ne e1'] at f'
        exact R.dis j k q q' b e2 e2' f f'
  dd := by
    obtain ⟨P, d0⟩ := R.dd
    have d1 := d0.up u
    refine ⟨fun j b => if j = i then S b else P j b, fun j b q => ?_, fun j k b a1 a2 => ?_, fun j k q b z e f => ?_, fun j q e => ?_⟩
    · by_cases hj : j = i
      · simp only [hj, if_true] at q
        obtain ⟨c1, c2, c3⟩ := n b q
        exact ⟨c2, c3, nw, R.rb.free0 c1⟩
      · simp only [hj, if_false] at q
        exact d1.own j b q
    · by_cases hj : j = i <;> by_cases hk : k = i
      · rw [hj, hk]
      · simp only [hj, hk, if_true, if_false] at a1 a2
        obtain ⟨_, ⟨o, c, _⟩, _⟩ := d0.own k b a2
        rw [(n b a1).1] at c; cases c
      · simp only [hj, hk, if_true, if_false] at a1 a2
        obtain ⟨_, ⟨o, c, _⟩, _⟩ := d0.own j b a1
        rw [(n b a2).1] at c; cases c
      · simp only [hj, hk, if_false] at a1 a2
        exact d0.dis j k b a1 a2
    · rcases get_set e with ⟨e1, e2⟩ | ⟨e1, e2⟩
      · cases e2
      · rw [List.getElem?_set_ne e1] at f
        by_cases hj : j = i
        · simp only [hj, if_true] at z
          exact R.apart (n b z).1 k q e2 f
        · simp only [hj, if_false] at z
          exact d0.ow j k q b z e2 f
    · rcases get_set e with ⟨e1, e2⟩ | ⟨e1, e2⟩
      · subst e1
        cases e2
        have := lt_of_get e
        refine ⟨v, by rw [List.getElem?_set_self (by rw [R.len]; simpa using this)], ?_⟩
        simp only [if_true]
        exact d
      · obtain ⟨w, e3, e4⟩ := d1.dp j q e2
        refine ⟨w, by rw [List.getElem?_set_ne e1]; exact e3, ?_⟩
        simp only [Ne.symm e1, if_false]
        exact e4
noncomputable def mSetD (i : Nat) (fe : Fn PV) : Sn := fun ρ => bndS (fe ρ) fun p => some (.nx (ρ.set i (some (.dp p))))
theorem ms_setD {i : Nat} {fe : Fn PV} (nw : C.nw) (h : MD K C te fe) : MS K C (tAsg te (gName i)) (mSetD i fe) := by
  intro F H σ ρ D o R e P
  rcases bndS_inv e with ⟨z, e1, rfl⟩ | ⟨p, e1, hk⟩
  · exact h F H σ ρ _ _ R e1 P
  · cases hk
    exact h F H σ ρ _ _ R e1 fun v F1 H1 S u d n => P F1 H1 _ u.ff (R.setD i u d n nw)
theorem RE.frzD {C : Cf} (R : RE K C F H σ ρ) {i : Nat} (e : ρ[i]? = some (some (.dp p))) : ∃ S v, σ[i]? = some (some v) ∧ Dp K F H S v p ∧ (∀ b, S b → F b = none ∧ (∃ o, H b = some o ∧ ∀ ys, o ≠ .tup ys) ∧ C.H0 b = none) ∧ RE K C (thaw F H S) H σ (ρ.set i (some (.sh p))) := by
  obtain ⟨P, d⟩ := R.dd
  obtain ⟨v, e1, e2⟩ := d.dp i p e
  have li := lt_of_get e
  have sf : Same F (thaw F H (P i)) := thaw_same R.rb.sub
  refine ⟨P i, v, e1, e2, fun b q => ⟨(d.own i b q).1, (d.own i b q).2.1, (d.own i b q).2.2.2⟩, ⟨⟨thaw_sub R.rb.sub, R.rb.keep, fun b o q => ?_, R.rb.ios⟩, by simp [R.len], fun j q f => ?_, fun j q f => ?_, fun j k q q' b f f' g g' => ?_, ?_⟩⟩
  · by_cases h : P i b ∨ ∃ ys, H b = some (.tup ys)
    · rw [thaw_in h] at q
      rcases h with h | ⟨ys, h⟩
      · exact .inr (.inl (d.own i b h).2.2.2)
      · rw [h] at q; cases q; exact .inr (.inr ⟨ys, rfl⟩)
    · rw [thaw_out h] at q; exact R.rb.new b o q
  · rcases get_set f with ⟨f1, f2⟩ | ⟨f1, f2⟩
    · subst f1; cases f2; exact ⟨v, e1, thaw_rep e2 R.rb.sub⟩
    · obtain ⟨w, g1, g2⟩ := R.sh j q f2
      exact ⟨w, g1, g2.up sf⟩
  · rcases get_set f with ⟨f1, f2⟩ | ⟨f1, f2⟩
    · cases f2
    · obtain ⟨b, g1, g2, g3, g4⟩ := R.ow j q f2
      refine ⟨b, g1, g2.up sf fun _ z => z, ?_, g4⟩
      rw [thaw_out]
      · exact g3
      · rintro (z | ⟨ys, z⟩)
        · exact d.ow i j q b z f2 g1
        · exact g2.noTup z
  · rcases get_set f with ⟨f1, f2⟩ | ⟨f1, f2⟩
    · cases f2
    · rcases get_set f' with ⟨f1', f2'⟩ | ⟨f1', f2'⟩
      · cases f2'
      · exact R.dis j k q q' b f2 f2' g g'
  · refine ⟨fun j b => j ≠ i ∧ P j b, fun j b z => ?_, fun j k b a1 a2 => d.dis j k b a1.2 a2.2, fun j k q b z f g => ?_, fun j q f => ?_⟩
    · obtain ⟨c1, c2, c3⟩ := d.own j b z.2
      refine ⟨?_, c2, c3⟩
      rw [thaw_out]
      · exact c1
      · rintro (y | ⟨ys, y⟩)
        · exact z.1 (d.dis j i b z.2 y)
        · obtain ⟨o, c4, c5⟩ := c2
          rw [y] at c4; cases c4; exact c5 ys rfl
    · rcases get_set f with ⟨f1, f2⟩ | ⟨f1, f2⟩
      · cases f2
      · exact d.ow j k q b z.2 f2 g
    · rcases get_set f with ⟨f1, f2⟩ | ⟨f1, f2⟩
      · cases f2
      · obtain ⟨w, g1, g2⟩ := d.dp j q f2
        refine ⟨w, g1, (g2.up sf (fun _ _ _ q => q) fun _ _ q => q).mono fun b z => ⟨Ne.symm f1, z⟩⟩
noncomputable def mFz (i : Nat) (fe : Fn PV) : Fn PV := fun ρ => match dpAt i ρ with
  | some p => bnd (fe (ρ.set i (some (.sh p)))) fun q => if q.flat = true then some (.ok q) else none
  | none => none
theorem mj_fz {i : Nat} {fe : Fn PV} (h : MJ K C (aF K) te fe) : MJ K C (aF K) te (mFz i fe) := by
  intro F H σ ρ Q r R e P
  unfold mFz at e
  split at e
  · rename_i p hp
    obtain ⟨S, v, _, _, _, R'⟩ := R.frzD (dpAt_eq hp)
    have sf : Same F (thaw F H S) := thaw_same R.rb.sub
    rcases bnd_inv e with ⟨z, e1, rfl⟩ | ⟨q, e1, hk⟩
    · exact h _ H σ _ Q _ R' e1 (PX.up P sf)
    · split at hk
      · rename_i hq
        cases hk
        exact h _ H σ _ Q _ R' e1 fun w F1 H1 u rw' => P w F H1 ⟨Same.refl _, u.hh, fun _ _ z => .inl z, R.rb.sub.trans u.hh⟩ (Rep.free rw' hq)
      · cases hk
  · cases e
noncomputable def mFzT (i : Nat) (fe : Fn Bool) : Fn Bool := fun ρ => match dpAt i ρ with
  | some p => fe (ρ.set i (some (.sh p)))
  | none => none
theorem mt_fz {i : Nat} {tt : TT} {fe : Fn Bool} (h : MT K C tt fe) : MT K C tt (mFzT i fe) := by
  intro F H σ ρ Q r R e P
  unfold mFzT at e
  split at e
  · rename_i p hp
    obtain ⟨S, v, _, _, _, R'⟩ := R.frzD (dpAt_eq hp)
    have sf : Same F (thaw F H S) := thaw_same R.rb.sub
    cases r with
    | ex z => exact h _ H σ _ Q _ R' e (PX.up P sf)
    | ok b => exact h _ H σ _ Q _ R' e fun F1 H1 u => P F H1 ⟨Same.refl _, u.hh, fun _ _ z => .inl z, R.rb.sub.trans u.hh⟩
  · cases e
noncomputable def mRetDp (i : Nat) : Sn := fun ρ => match dpAt i ρ with
  | some p => some (.rd p)
  | none => none
theorem ms_retDp (i : Nat) : MS K C (tRet (tVar i)) (mRetDp i) := by
  intro F H σ ρ D o R e P
  unfold mRetDp at e
  split at e
  · rename_i p hp
    cases e
    obtain ⟨S, v, e1, e2, e3, _⟩ := R.frzD (dpAt_eq hp)
    exact ⟨_, e1, P v F H S (Same.refl _) R.rb e2 e3⟩
  · cases e
end
end L2.MP

namespace L2.MP
open PySem PySem.Spec PyProof.Rows
section
variable {K : PySem.W.Frag} {C : Cg} {te ta tb : TE} {F F1 F2 H H1 H2 : Hp} {σ : St} {ρ : Rho} {D : Ends} {t u : TS} {f g : Sn} {o : Out} {S : Addr → Prop} {v : V} {p : PV}
theorem Dp.inv_lst {l : List PV} (d : Dp K F H S v (.lst l)) : ∃ (T : Nat → Addr → Prop) (a : Addr) (xs : List V), v = .ref a ∧ H a = some (.lst xs) ∧ S a ∧ (∀ j b, T j b → S b ∧ b ≠ a) ∧ Dps K F H T xs l := by
  cases d with
  | fr h st => cases st
  | lst h hp hs dj hl hr => exact ⟨_, _, _, rfl, h, hp, hs, hl, dj, hr⟩
theorem RE.writeD {C : Cf} (R : RE K C F H σ ρ) {P : Nat → Addr → Prop} (d : RD K C F H σ ρ P) {i : Nat} (e : ρ[i]? = some (some (.dp p))) (e1 : σ[i]? = some (some v)) {a : Addr} {ob : HO} (ha : P i a) (ho : ∀ ys, ob ≠ .tup ys) {p' : PV} {S' : Addr → Prop}
    (hd : Dp K F (upd H a ob) S' v p') (hS : ∀ b, S' b → P i b ∨ (F b = none ∧ (∃ o, H b = some o ∧ ∀ ys, o ≠ .tup ys) ∧ C.nw ∧ C.H0 b = none ∧ (∀ j, ¬ P j b) ∧ ∀ (j : Nat) q, ρ[j]? = some (some (.ow q)) → σ[j]? ≠ some (some (.ref b)))) :
    RE K C F (upd H a ob) σ (ρ.set i (some (.dp p'))) := by
  obtain ⟨c1, ⟨oa, c2, c3⟩, c4, c5⟩ := d.own i a ha
  have hio : ¬ C.io a := fun z => (R.rb.ios a z).2 c5
  refine ⟨⟨fun b o q => by rw [upd_ne (fun z => by subst z; rw [c1] at q; cases q)]; exact R.rb.sub b o q, fun b o q z => by rw [upd_ne (fun y => by subst y; rw [c5] at q; cases q)]; exact R.rb.keep b o q z, R.rb.new, fun b z => ?_⟩, by simp [R.len], fun j q f => ?_, fun j q f => ?_, fun j k q q' b f f' g g' => ?_, ?_⟩
  · refine ⟨?_, (R.rb.ios b z).2⟩
    rw [upd_ne (fun y => by subst y; exact hio z)]; exact (R.rb.ios b z).1
  · rcases get_set f with ⟨f1, f2⟩ | ⟨f1, f2⟩
    · cases f2
    · exact R.sh j q f2
  · rcases get_set f with ⟨f1, f2⟩ | ⟨f1, f2⟩
    · cases f2
    · obtain ⟨b, g1, g2, g3, g4⟩ := R.ow j q f2
      have nb : b ≠ a := fun z => by subst z; exact d.ow i j q b ha f2 g1
      refine ⟨b, g1, ?_, g3, g4⟩
      cases q with
      | lst l => obtain ⟨xs, k1, k2⟩ := g2; exact ⟨xs, by rw [upd_ne nb]; exact k1, k2⟩
      | dk l => obtain ⟨xs, k1, k2⟩ := g2; exact ⟨xs, by rw [upd_ne nb]; exact k1, k2⟩
      | dt l => obtain ⟨xs, k1, k2⟩ := g2; exact ⟨xs, by rw [upd_ne nb]; exact k1, k2⟩
      | _ => exact g2.elim
  · rcases get_set f with ⟨f1, f2⟩ | ⟨f1, f2⟩
    · cases f2
    · rcases get_set f' with ⟨f1', f2'⟩ | ⟨f1', f2'⟩
      · cases f2'
      · exact R.dis j k q q' b f2 f2' g g'
  · have up : ∀ b o, H b = some o → (∀ ys, o ≠ .tup ys) → ∃ o', upd H a ob b = some o' ∧ ∀ ys, o' ≠ .tup ys := fun b o q z => by
      by_cases h : b = a
      · subst h; exact ⟨ob, upd_same, ho⟩
      · exact ⟨o, by rw [upd_ne h]; exact q, z⟩
    refine ⟨fun j b => if j = i then S' b else P j b, fun j b z => ?_, fun j k b a1 a2 => ?_, fun j k q b z f g => ?_, fun j q f => ?_⟩
    · by_cases hj : j = i
      · simp only [hj, if_true] at z
        rcases hS b z with w | ⟨w1, ⟨o, w2, w2'⟩, w3, w4, _⟩
        · obtain ⟨k1, ⟨o, k2, k3⟩, k4⟩ := d.own i b w
          exact ⟨k1, up b o k2 k3, k4⟩
        · exact ⟨w1, up b o w2 w2', w3, w4⟩
      · simp only [hj, if_false] at z
        obtain ⟨k1, ⟨o, k2, k3⟩, k4⟩ := d.own j b z
        exact ⟨k1, up b o k2 k3, k4⟩
    · by_cases hj : j = i <;> by_cases hk : k = i
      · rw [hj, hk]
      · simp only [hj, hk, if_true, if_false] at a1 a2
        rcases hS b a1 with w | ⟨_, _, _, _, w, _⟩
        · rw [hj]; exact d.dis i k b w a2
        · exact absurd a2 (w k)
      · simp only [hj, hk, if_true, if_false] at a1 a2
        rcases hS b a2 with w | ⟨_, _, _, _, w, _⟩
        · rw [hk]; exact d.dis j i b a1 w
        · exact absurd a1 (w j)
      · simp only [hj, hk, if_false] at a1 a2
        exact d.dis j k b a1 a2
    · rcases get_set f with ⟨f1, f2⟩ | ⟨f1, f2⟩
      · cases f2
      · by_cases hj : j = i
        · simp only [hj, if_true] at z
          rcases hS b z with w | ⟨_, _, _, _, _, w⟩
          · exact d.ow i k q b w f2 g
          · exact w k q f2 g
        · simp only [hj, if_false] at z
          exact d.ow j k q b z f2 g
    · rcases get_set f with ⟨f1, f2⟩ | ⟨f1, f2⟩
      · subst f1
        cases f2
        refine ⟨v, e1, ?_⟩
        simp only [if_true]
        exact hd
      · obtain ⟨w, g1, g2⟩ := d.dp j q f2
        refine ⟨w, g1, ?_⟩
        simp only [Ne.symm f1, if_false]
        refine g2.up (Same.refl _) (fun b o z q => ?_) fun b ys q => ?_
        · rw [upd_ne (fun y => by subst y; exact f1 (d.dis i j b ha z))]; exact q
        · rw [upd_ne (fun y => by subst y; rw [c2] at q; cases q; exact c3 ys rfl)]; exact q
end
end L2.MP

namespace L2.MP
open PySem PySem.Spec PyProof.Rows
section
variable {K : PySem.W.Frag} {C : Cg} {te ta tb : TE} {F F1 F2 H H1 H2 : Hp} {σ : St} {ρ : Rho} {D : Ends} {t u : TS} {f g : Sn} {o : Out} {S : Addr → Prop} {v : V} {p : PV}
theorem Dp.inv_tup {l : List PV} (d : Dp K F H S v (.tup l)) (hl : (PV.tup l).still = false) : ∃ (T : Nat → Addr → Prop) (a : Addr) (xs : List V), v = .ref a ∧ H a = some (.tup xs) ∧ (∀ j b, T j b → S b) ∧ Dps K F H T xs l := by
  cases d with
  | fr h st => rw [hl] at st; cases st
  | tup h hs dj hl hr => exact ⟨_, _, _, rfl, h, hs, hl, dj, hr⟩
theorem Dps.len {T : Nat → Addr → Prop} {xs : List V} {l : List PV} (h : Dps K F H T xs l) : xs.length = l.length := h.1
theorem Dps.put {T : Nat → Addr → Prop} {xs : List V} {l : List PV} (h : Dps K F H T xs l) {j : Nat} {b : Addr} {ob : HO} (hb : T j b) (nt : ∀ ys, H b ≠ some (.tup ys)) {x : V} {q : PV} (ex : xs[j]? = some x) (d : Dp K F (upd H b ob) (T j) x q) : Dps K F (upd H b ob) T xs (l.set j q) := by
  refine ⟨by simp [h.1], h.2.1, fun k y r e1 e2 => ?_⟩
  rcases get_set e2 with ⟨f1, f2⟩ | ⟨f1, f2⟩
  · subst f1; subst f2
    rw [ex] at e1; cases e1
    exact d
  · exact (h.2.2 k y r e1 f2).up (Same.refl _) (fun c o z e => by rw [upd_ne (fun w => by subst w; exact f1 (h.2.1 j k c hb z))]; exact e) fun c ys e => by rw [upd_ne (fun w => by subst w; exact nt ys e)]; exact e
noncomputable def mAppD (i : Nat) (fi fe : Fn PV) : Sn := fun ρ => match dpAt i ρ with
  | some (.lst l) => bndS (fi ρ) fun k => match k with
    | .int k => match ixN l.length k with
      | some j => match l[j]? with
        | some (.lst row) => bndS (fe ρ) fun q => if q.still = true ∧ row.length < sizeLine then some (.nx (ρ.set i (some (.dp (.lst (l.set j (.lst (row ++ [q])))))))) else none
        | _ => none
      | none => none
    | _ => none
  | some (.tup l) => if (PV.tup l).still = false then bndS (fi ρ) fun k => match k with
    | .int k => match ixN l.length k with
      | some j => match l[j]? with
        | some (.lst row) => bndS (fe ρ) fun q => if q.still = true ∧ row.length < sizeLine ∧ (PV.tup (l.set j (.lst (row ++ [q])))).still = false then some (.nx (ρ.set i (some (.dp (.tup (l.set j (.lst (row ++ [q])))))))) else none
        | _ => none
      | none => none
    | _ => none else none
  | _ => none
theorem Dp.snoc {b : Addr} {T : Nat → Addr → Prop} {ys : List V} {row : List PV} {q : PV} (e : H b = some (.lst ys)) (sb : S b) (ht : ∀ j c, T j c → S c ∧ c ≠ b) (d : Dps K F H T ys row) (r : Rep K F v q) (st : q.still = true) : Dp K F (upd H b (.lst (ys ++ [v]))) S (.ref b) (.lst (row ++ [q])) := by
  refine .lst (S := fun j c => j < ys.length ∧ T j c) upd_same sb (fun j c z => ht j c z.2) (fun i j c z z' => d.2.1 i j c z.2 z'.2) (by simp [d.1]) fun j x p e1 e2 => ?_
  by_cases hj : j < ys.length
  · rw [List.getElem?_append_left hj] at e1
    rw [List.getElem?_append_left (by rw [← d.1]; exact hj)] at e2
    refine ((d.2.2 j x p e1 e2).up (Same.refl _) (fun c o z e => by rw [upd_ne (ht j c z).2]; exact e) fun c zs e' => ?_).mono fun c z => ⟨hj, z⟩
    rw [upd_ne (fun w => by subst w; rw [e] at e'; cases e')]; exact e'
  · rw [List.getElem?_append_right (by omega)] at e1
    rw [List.getElem?_append_right (by rw [← d.1]; omega)] at e2
    have ej : j = ys.length := by
      have := lt_of_get e1
      simp at this
      omega
    rw [ej, Nat.sub_self] at e1
    rw [ej, d.1, Nat.sub_self] at e2
    cases e1; cases e2
    exact .fr r st
theorem ms_appD {i : Nat} {fi fe : Fn PV} (hi : MJ K C (aF K) tb fi) (h : MJ K C (aF K) te fe) : MS K C (tDrop (tBM K "list" rAppend (tOp (rIx K) (tVar i) tb) (tCons te tNil))) (mAppD i fi fe) := by
  intro F H σ ρ D o R e P
  unfold mAppD at e
  split at e
  · rename_i l hl
    obtain ⟨S, v, e1, _, _, _⟩ := R.frzD (dpAt_eq hl)
    refine ⟨v, e1, hi.runS R e P fun k w F1 H1 hk u a => ?_⟩
    split at hk
    case h_2 => cases hk
    rename_i k
    cases Rep.inv_int a
    split at hk
    case h_2 => cases hk
    rename_i j hj
    split at hk
    case h_2 => cases hk
    rename_i row hrow
    obtain ⟨P1, d1⟩ := (R.up u).dd
    obtain ⟨v', e1', dp1⟩ := d1.dp i _ (dpAt_eq hl)
    rw [e1] at e1'; cases e1'
    obtain ⟨T, a, xs, rfl, ha, sa, ht, ds⟩ := dp1.inv_lst
    have hjx : j < xs.length := by rw [ds.1]; exact lt_of_get hrow
    obtain ⟨x, ex⟩ : ∃ x, xs[j]? = some x := ⟨_, List.getElem?_eq_getElem hjx⟩
    obtain ⟨T2, b, ys, rfl, hb, sb, ht2, ds2⟩ := (ds.2.2 j x _ ex hrow).inv_lst
    refine .inl ⟨a, xs, k, .ref b, rfl, rfl, SqL.of ha, by unfold atI; rw [ds.1, hj]; exact ex, tyL hb, ?_⟩
    refine h.runS (R.up u) hk (P.up u.ff) fun q w F2 H2 hk2 u2 rw' => ?_
    split at hk2
    case isFalse => cases hk2
    rename_i hq
    cases hk2
    have hb2 := u2.hh _ _ hb
    refine ⟨b, ys, w, rfl, rfl, hb2, by rw [ds2.1]; exact hq.2, ?_⟩
    have R2 := R.up (u.trans u2)
    have d2 : RD K C.toCf F2 H2 σ ρ P1 := d1.up u2
    have pb : P1 i b := (ht j b sb).1
    have dsx : Dps K F2 H2 T xs l := ⟨ds.1, ds.2.1, fun k y r c1 c2 => (ds.2.2 k y r c1 c2).stay u2⟩
    have ds2x : Dps K F2 H2 T2 ys row := ⟨ds2.1, ds2.2.1, fun k y r c1 c2 => (ds2.2.2 k y r c1 c2).stay u2⟩
    have nt : ∀ zs, H2 b ≠ some (.tup zs) := fun zs z => by rw [hb2] at z; cases z
    have nab : a ≠ b := fun z => (ht j b sb).2 z.symm
    refine P F2 _ σ (u.trans u2).ff (R2.writeD d2 (dpAt_eq hl) e1 pb (fun ys z => by cases z) (S' := P1 i) ?_ fun c z => .inl z)
    have pu := dsx.put (q := .lst (row ++ [q])) (ob := .lst (ys ++ [w])) sb nt ex (Dp.snoc hb2 sb ht2 ds2x rw' hq.1)
    exact .lst (by rw [upd_ne nab]; exact u2.hh _ _ ha) sa ht pu.2.1 pu.1 pu.2.2
  · rename_i l hl
    split at e
    case isFalse => cases e
    rename_i hst
    obtain ⟨S, v, e1, _, _, _⟩ := R.frzD (dpAt_eq hl)
    refine ⟨v, e1, hi.runS R e P fun k w F1 H1 hk u a => ?_⟩
    split at hk
    case h_2 => cases hk
    rename_i k
    cases Rep.inv_int a
    split at hk
    case h_2 => cases hk
    rename_i j hj
    split at hk
    case h_2 => cases hk
    rename_i row hrow
    obtain ⟨P1, d1⟩ := (R.up u).dd
    obtain ⟨v', e1', dp1⟩ := d1.dp i _ (dpAt_eq hl)
    rw [e1] at e1'; cases e1'
    obtain ⟨T, a, xs, rfl, ha, ht, ds⟩ := dp1.inv_tup hst
    have hjx : j < xs.length := by rw [ds.1]; exact lt_of_get hrow
    obtain ⟨x, ex⟩ : ∃ x, xs[j]? = some x := ⟨_, List.getElem?_eq_getElem hjx⟩
    obtain ⟨T2, b, ys, rfl, hb, sb, ht2, ds2⟩ := (ds.2.2 j x _ ex hrow).inv_lst
    refine .inr (.inl ⟨a, xs, k, .ref b, rfl, rfl, SqT.of ha, by unfold atI; rw [ds.1, hj]; exact ex, tyL hb, ?_⟩)
    refine h.runS (R.up u) hk (P.up u.ff) fun q w F2 H2 hk2 u2 rw' => ?_
    split at hk2
    case isFalse => cases hk2
    rename_i hq
    cases hk2
    have hb2 := u2.hh _ _ hb
    refine ⟨b, ys, w, rfl, rfl, hb2, by rw [ds2.1]; exact hq.2.1, ?_⟩
    have R2 := R.up (u.trans u2)
    have d2 : RD K C.toCf F2 H2 σ ρ P1 := d1.up u2
    have pb : P1 i b := ht j b sb
    have dsx : Dps K F2 H2 T xs l := ⟨ds.1, ds.2.1, fun k y r c1 c2 => (ds.2.2 k y r c1 c2).stay u2⟩
    have ds2x : Dps K F2 H2 T2 ys row := ⟨ds2.1, ds2.2.1, fun k y r c1 c2 => (ds2.2.2 k y r c1 c2).stay u2⟩
    have nt : ∀ zs, H2 b ≠ some (.tup zs) := fun zs z => by rw [hb2] at z; cases z
    have nab : a ≠ b := fun z => by subst z; rw [u2.hh _ _ ha] at hb2; cases hb2
    refine P F2 _ σ (u.trans u2).ff (R2.writeD d2 (dpAt_eq hl) e1 pb (fun ys z => by cases z) (S' := P1 i) ?_ fun c z => .inl z)
    have pu := dsx.put (q := .lst (row ++ [q])) (ob := .lst (ys ++ [w])) sb nt ex (Dp.snoc hb2 sb ht2 ds2x rw' hq.1)
    exact .tup (by rw [upd_ne nab]; exact u2.hh _ _ ha) ht pu.2.1 pu.1 pu.2.2
  · cases e
noncomputable def mAppT (i : Nat) (fe : Fn PV) : Sn := fun ρ => match dpAt i ρ with
  | some (.lst l) => bndS (fe ρ) fun q => if l.length < sizeLine then some (.nx (ρ.set i (some (.dp (.lst (l ++ [q])))))) else none
  | _ => none
theorem ms_appT {i : Nat} {fe : Fn PV} (h : MD K C te fe) : MS K C (tDrop (tBM K "list" rAppend (tVar i) (tCons te tNil))) (mAppT i fe) := by
  intro F H σ ρ D o R e P
  unfold mAppT at e
  split at e
  · rename_i l hl
    obtain ⟨P0, d0⟩ := R.dd
    obtain ⟨v0, e1, dp0⟩ := d0.dp i _ (dpAt_eq hl)
    obtain ⟨T, a, xs, rfl, ha, sa, ht, ds⟩ := dp0.inv_lst
    refine ⟨_, e1, tyL ha, ?_⟩
    rcases bndS_inv e with ⟨z, e2, rfl⟩ | ⟨q, e2, hk⟩
    · exact h F H σ ρ _ _ R e2 P
    split at hk
    case isFalse => cases hk
    rename_i hlen
    cases hk
    refine h F H σ ρ _ _ R e2 fun w F1 H1 S u d n => ?_
    have ha1 := u.hh _ _ ha
    refine ⟨a, xs, w, rfl, rfl, ha1, by rw [ds.1]; exact hlen, ?_⟩
    have R1 := R.up u
    have d1 : RD K C.toCf F1 H1 σ ρ P0 := d0.up u
    have na : ∀ b, S b → b ≠ a := fun b z y => by subst y; have := (n b z).1; rw [ha] at this; cases this
    have nP : ∀ b, S b → ∀ j, ¬ P0 j b := fun b z j y => by obtain ⟨_, ⟨o, c, _⟩, _⟩ := d0.own j b y; rw [(n b z).1] at c; cases c
    refine P F1 _ σ u.ff (R1.writeD d1 (dpAt_eq hl) e1 sa (fun ys z => by cases z) (S' := fun b => P0 i b ∨ S b) ?_ fun b z => ?_)
    · refine .lst (S := fun j b => if j = xs.length then S b else j < xs.length ∧ T j b) upd_same (.inl sa) (fun j b z => ?_) (fun j k b z z' => ?_) (by simp [ds.1]) fun j x p c1 c2 => ?_
      · by_cases hj : j = xs.length
        · simp only [hj, if_true] at z; exact ⟨.inr z, na b z⟩
        · simp only [hj, if_false] at z; exact ⟨.inl (ht j b z.2).1, (ht j b z.2).2⟩
      · by_cases hj : j = xs.length <;> by_cases hk : k = xs.length
        · rw [hj, hk]
        · simp only [hj, hk, if_true, if_false] at z z'
          exact absurd (ht k b z'.2).1 (nP b z i)
        · simp only [hj, hk, if_true, if_false] at z z'
          exact absurd (ht j b z.2).1 (nP b z' i)
        · simp only [hj, hk, if_false] at z z'
          exact ds.2.1 j k b z.2 z'.2
      · have tups : ∀ b zs, H1 b = some (.tup zs) → upd H1 a (.lst (xs ++ [w])) b = some (.tup zs) := fun b zs c => by
          rw [upd_ne (fun y => by subst y; rw [ha1] at c; cases c)]; exact c
        by_cases hj : j < xs.length
        · rw [List.getElem?_append_left hj] at c1
          rw [List.getElem?_append_left (by rw [← ds.1]; exact hj)] at c2
          simp only [show ¬ j = xs.length by omega, if_false]
          exact (((ds.2.2 j x p c1 c2).stay u).up (Same.refl _) (fun b o z c => by rw [upd_ne (ht j b z).2]; exact c) tups).mono fun b z => ⟨hj, z⟩
        · rw [List.getElem?_append_right (by omega)] at c1
          rw [List.getElem?_append_right (by rw [← ds.1]; omega)] at c2
          have ej : j = xs.length := by
            have := lt_of_get c1
            simp at this
            omega
          rw [ej, Nat.sub_self] at c1
          rw [ej, ds.1, Nat.sub_self] at c2
          cases c1; cases c2
          simp only [ej, if_true]
          exact d.up (Same.refl _) (fun b o z c => by rw [upd_ne (na b z)]; exact c) tups
    · rcases z with z | z
      · exact .inl z
      · refine .inr ⟨(n b z).2.1, (n b z).2.2, (d0.own i a sa).2.2.1, R.rb.free0 (n b z).1, nP b z, fun j q f => ?_⟩
        exact R.apart (n b z).1 j q f
  · cases e
end
noncomputable def finT : Option Out → Option (Res PV)
  | some (.rd p) => some (.ok p)
  | some (.ex z) => some (.ex z)
  | _ => none
section
variable {K : PySem.W.Frag} {XR : Hp → Value → Option Addr → PV → Prop} {N : List Str} {vs : List V} {H : Hp} {Q : VK} {E : XK} {t : TS} {b : Sn} {m : List PV → Option (Res PV)}
theorem run_fnT {k n : Nat} (hk : N.length = k + n) (hm : ∀ ps r, m ps = some r → ps.length = k ∧ finT (b (startR ps n)) = some r) (h : spD K XR0 m vs H Q E) (hS : ∀ (io : Addr → Prop) (H0 F0 : Hp), (∀ a, ¬ io a) → MS K (C0 io H0 F0) t b) :
    t { nx := fun _ H' => Q .non H', rt := Q } (start N vs) H := by
  obtain ⟨ps, F, r, s, rp, e, P⟩ := h
  obtain ⟨hl, e⟩ := hm ps r e
  have R := start_re (E := E0) (N := N) (n := n) s rp (by rw [rp.1, hl]; exact hk)
  have up : ∀ {F' H' : Hp}, Same F F' → RB ⟨fun _ => False, True, H, F, E0⟩ F' H' → Up F H F' H' := fun s' rb => ⟨s', fun c o q => rb.keep c o q id, rb.new, rb.sub⟩
  have M := hS (fun _ => False) H F (fun _ h => h)
  cases ho : b (startR ps n) with
  | none => rw [ho] at e; cases e
  | some o =>
    rw [ho] at e
    refine M F H _ _ _ o R ho ?_
    cases o with
    | rd p => cases e; exact fun v F' H' S s' rb d n => P v F' H' S (up s' rb) d fun b q => ⟨(n b q).2.2, (n b q).1, (n b q).2.1⟩
    | ex z => exact fun _ _ _ _ _ _ x => x.elim
    | nx ρ => cases e
    | rt p => cases e
    | ro p => cases e
    | bk ρ => cases e
    | ct ρ => cases e
theorem len_spD (h : spD K XR m vs H Q E) {k : Nat} (hm : ∀ ps r, m ps = some r → ps.length = k) : vs.length = k := by
  obtain ⟨ps, F, r, s, rp, e, P⟩ := h
  rw [rp.1]; exact hm ps r e
end
end L2.MP

namespace L2
open PySem PySem.Spec PyProof PyProof.Rows
namespace MP
section
variable {K : PySem.W.Frag} {C : Cg} {tA : TA}
end
end MP
end L2

namespace L2
open PySem PySem.Spec PyProof PyProof.Rows
noncomputable def isDct : HO → Prop
  | .dK _ => True
  | .dT _ => True
  | _ => False
section
variable {X : Cx} {pins : List (Addr × Obj)} {σ : St} {H : Hp} {s : Shared} {a : Addr} {u : HO} {raw : Obj}
theorem isDct.mut (hu : isDct u) (e : H a = some u) : Mut (H a) := by
  rw [e]
  cases u <;> first | trivial | exact hu.elim
theorem dct_ok (I : Inv X pins σ H s) (e : H a = some u) (hu : isDct u) : ∃ raw, s.heap.get? a = some raw := by
  have := I.hok a u e
  cases u with
  | dK kvs => obtain ⟨_, _, _, _, o, es, ep, h1, _⟩ := this; exact ⟨o, h1⟩
  | dT kvs => obtain ⟨_, _, _, _, o, es, ep, h1, _⟩ := this; exact ⟨o, h1⟩
  | _ => exact hu.elim
theorem Inv.hold (I : Inv X pins σ H s) (e : H a = some u) (hu : isDct u) : ∃ raw, s.heap.get? a = some raw ∧ Inv X pins σ (upd H a (.frz raw u)) s := by
  obtain ⟨raw, hr⟩ := dct_ok I e hu
  refine ⟨raw, hr, I.write (t' := s.toks) (h' := s.heap) (hu.mut e) (.inl rfl) (fun b o _ q => q) ⟨raw, hr⟩ ⟨hr, ?_⟩⟩
  refine (I.hok a u e).stay (fun b o _ q => q) (fun b q => ?_) fun b xs q => ?_
  · rw [upd_ne (fun z => by subst z; rw [e] at q; cases q; exact hu)]; exact q
  · rw [upd_ne (fun z => by subst z; rw [e] at q; cases q; exact hu)]; exact q
theorem Inv.loose (I : Inv X pins σ H s) (e : H a = some (.frz raw u)) (hu : isDct u) (h0 : ∀ o v, X.H₀ a ≠ some (.frz o v)) : Inv X pins σ (upd H a u) s where
  ok := I.ok
  os := I.os
  bare := I.bare
  base := {
    keep := I.base.keep
    slot := I.base.slot
    free := fun b o q n hx => by
      have := I.base.free b o q n hx
      rw [upd_ne (fun z => by subst z; rw [e] at this; cases this)]; exact this
    there := I.base.there
    tups := fun b xs q => by
      have := I.base.tups b xs q
      rw [upd_ne (fun z => by subst z; rw [e] at this; cases this)]; exact this
    frzs := fun b o v q => by
      rw [upd_ne (fun z => by subst z; exact h0 o v q)]; exact I.base.frzs b o v q
    tbls := fun b ps q => by
      obtain ⟨more, r⟩ := I.base.tbls b ps q
      exact ⟨more, by rw [upd_ne (fun z => by subst z; rw [e] at r; cases r)]; exact r⟩ }
  loc := I.loc
  cell := I.cell
  free := by rw [upd_ne (fun z => by have := I.free; rw [z, e] at this; cases this)]; exact I.free
  freeC := fun x c q => by
    have := I.freeC x c q
    rw [upd_ne (fun z => by subst z; rw [e] at this; cases this)]; exact this
  pin := fun p hp => by
    obtain ⟨p1, p2, p3⟩ := I.pin p hp
    exact ⟨p1, by rw [upd_ne (fun z => by rw [z, e] at p2; cases p2)]; exact p2, p3⟩
  hok := fun b o q => by
    have ho : ∀ c y, H c = some (.own y) → upd H a u c = some (.own y) := fun c y r => by rw [upd_ne (fun z => by subst z; rw [e] at r; cases r)]; exact r
    have ht : ∀ c xs, H c = some (.tup xs) → upd H a u c = some (.tup xs) := fun c xs r => by rw [upd_ne (fun z => by subst z; rw [e] at r; cases r)]; exact r
    by_cases hb : b = a
    · subst hb
      rw [upd_same] at q; cases q
      exact (I.hok b _ e).2.stay (fun _ _ _ q => q) (fun c r => ho c b r) ht
    · rw [upd_ne hb] at q
      exact (I.hok b o q).stay (fun _ _ _ q => q) (fun c r => ho c b r) ht
  len := I.len
noncomputable def Ends.loose (D : Ends) (a : Addr) (raw : Obj) (u : HO) : Ends where
  nx := fun σ H => H a = some (.frz raw u) ∧ D.nx σ (upd H a u)
  bk := fun σ H => H a = some (.frz raw u) ∧ D.bk σ (upd H a u)
  ct := fun σ H => H a = some (.frz raw u) ∧ D.ct σ (upd H a u)
  rt := fun v H => H a = some (.frz raw u) ∧ D.rt v (upd H a u)
noncomputable def tHold (i : Nat) (t : TS) : TS := fun D σ H => ∃ a u, σ[i]? = some (some (.ref a)) ∧ isDct u ∧ (((∃ raw, H a = some (.frz raw u)) ∧ t D σ H) ∨ (H a = some u ∧ ∀ raw, t (D.loose a raw u) σ (upd H a (.frz raw u))))
theorem ps_hold {st : Stmt} {t : TS} (i : Nat) (h : PS X st t) : PS X st (tHold i t) := by
  intro pins s σ H D I q
  obtain ⟨a, u, _, hu, ⟨_, q⟩ | ⟨e, q⟩⟩ := q
  · exact h pins s σ H D I q
  · have h0 : ∀ o v, X.H₀ a ≠ some (.frz o v) := fun o v z => by
      have := I.base.frzs a o v z
      rw [e] at this; cases this
      exact hu
    obtain ⟨raw, _, I2⟩ := I.hold e hu
    refine thn (h pins s σ _ _ I2 (q raw)) fun f s' r => ?_
    cases f with
    | next => obtain ⟨σ', H', I', e', r⟩ := r; exact ⟨σ', _, I'.loose e' hu h0, r⟩
    | brk => obtain ⟨σ', H', I', e', r⟩ := r; exact ⟨σ', _, I'.loose e' hu h0, r⟩
    | cont => obtain ⟨σ', H', I', e', r⟩ := r; exact ⟨σ', _, I'.loose e' hu h0, r⟩
    | ret w => obtain ⟨v, σ', H', I', rv, e', r⟩ := r; exact ⟨v, σ', _, I'.loose e' hu h0, rv, r⟩
noncomputable def tHoldE (i : Nat) (t : TE) : TE := fun σ H Q => ∃ a u, σ[i]? = some (some (.ref a)) ∧ isDct u ∧ (((∃ raw, H a = some (.frz raw u)) ∧ t σ H Q) ∨ (H a = some u ∧ ∀ raw, t σ (upd H a (.frz raw u)) fun v H' => H' a = some (.frz raw u) ∧ Q v (upd H' a u)))
theorem pe_hold {e : Expr} {t : TE} (i : Nat) (h : PE X e t) : PE X e (tHoldE i t) := by
  intro pins s σ H Q I q
  obtain ⟨a, u, _, hu, ⟨_, q⟩ | ⟨e', q⟩⟩ := q
  · exact h pins s σ H Q I q
  · have h0 : ∀ o v, X.H₀ a ≠ some (.frz o v) := fun o v z => by
      have := I.base.frzs a o v z
      rw [e'] at this; cases this
      exact hu
    obtain ⟨raw, _, I2⟩ := I.hold e' hu
    refine thn (h pins s σ _ _ I2 (q raw)) fun w s' ⟨v, H', I', rv, e2, r⟩ => ⟨v, _, I'.loose e2 hu h0, rv, r⟩
end
end L2

namespace L2
open PySem PySem.Spec PyProof PyProof.Rows
noncomputable def Itd (a : Addr) (raw : Obj) (kvs : List (Key × V)) : It :=
  ⟨fun i H => H a = some (.frz raw (.dK kvs)) ∧ i < kvs.length, fun i H x H' => H' = H ∧ ∃ kv, kvs[i]? = some kv ∧ x = kV kv.1, fun i H => H a = some (.frz raw (.dK kvs)) ∧ i = kvs.length⟩
theorem key_rel {P : Program} {w : World} {k : Key} {u : Value} (h : (mixKind P w).is k u = true) : RelV (kV k) u := by
  rcases keyIs_shape h with ⟨i, t, rfl, rfl⟩ | ⟨x, t, rfl, rfl⟩
  · exact ⟨t, rfl⟩
  · exact ⟨t, rfl⟩
theorem held_at {P : Program} {w : World} {H : Hp} {h : Heap} {a : Addr} {raw : Obj} {kvs : List (Key × V)} (ok : HOk P w H h) (e : H a = some (.frz raw (.dK kvs))) {es : Array DictEntry} {ep : Nat} (hd : raw.data = .dict es ep) : (a == sysModules) = false ∧ ∃ vs, KV kvs vs ∧ h.DictAt (mixKind P w) a vs ep := by
  obtain ⟨hr, _, hs, vs, kv, o, es', ep', h1, h2, h3, h4⟩ := (show ObjOk P w H h a (.frz raw (.dK kvs)) from ok a _ e)
  rw [hr] at h1
  cases h1
  rw [hd] at h3
  cases h3
  exact ⟨hs, vs, kv, raw, es, hr, h2, hd, h4⟩
theorem turn_dict {P : Program} {w : World} {K : PySem.W.Frag} {tg : Expr} (a it : Addr) (raw : Obj) (kvs : List (Key × V)) {es : Array DictEntry} {ep : Nat} (hd : raw.data = .dict es ep) :
    Turn P w K tg (Itd a raw kvs) [it] it (fun i h => h.IsKeyIter it a i kvs.length ep) where
  mem := by simp
  obj := fun i h st b hb => by
    have e : b = it := by simpa using hb
    subst e
    obtain ⟨o, e, c, d⟩ := st
    exact ⟨o, e, fun v z => by rw [d] at z; cases z⟩
  keep := fun i h h' st k => st.at fun o q => k it (by simp) o q
  item := by
    intro X hP hw hK hc i pins s σ H E I hf st hg
    subst hP hw hK
    obtain ⟨e, hi⟩ := hg
    obtain ⟨f0, f1, f2, f3, f4, f5⟩ := hf it (by simp)
    obtain ⟨_, vs, kv, dd⟩ := held_at I.hok e hd
    have hl := kv.length
    have hne : a ≠ it := fun z => by subst z; rw [e] at f0; cases f0
    have W := Walks.dictKeys (prog := X.prog) (w := X.w) (A := X.A) (knd := mixKind X.prog X.w) (I.ok.hd hc) it a hne vs ep
    refine W.item i s _ _ (by omega) ⟨by rw [← hl]; exact st, dd⟩ fun v h' tk hv st' kk => ?_
    obtain ⟨k, x, hx, hk⟩ := hv
    have I1 : Inv X pins σ H { s with heap := h', toks := tk } := I.turned (fun b o hb e => kk b o (by simpa using hb) e) f0 f1 f3 f4 f5
    obtain ⟨o, eo, cc, dd'⟩ := id st'.1
    obtain ⟨p, hp⟩ : ∃ p, kvs[i]? = some p := ⟨_, List.getElem?_eq_getElem hi⟩
    have ek : p.1 = k := by
      have h1 : (kvs.map (·.1))[i]? = some p.1 := by rw [List.getElem?_map, hp]; rfl
      have h2 : (vs.map (·.1))[i]? = some k := by rw [List.getElem?_map, hx]; rfl
      rw [kv.keys, h2] at h1
      exact (Option.some.inj h1).symm
    refine ⟨_, rfl, go_of (s := { s with heap := h', toks := tk }) eo cc dd' (by decide) ⟨kV p.1, H, I1, by rw [ek]; exact key_rel hk, ⟨rfl, p, hp, rfl⟩, by rw [hl]; exact st'.1, fun b hb => (hf b hb).1⟩⟩
  done := by
    intro X hP hw hK hc i pins s σ H E I hf st hg
    subst hP hw hK
    obtain ⟨e, hi⟩ := hg
    obtain ⟨f0, f1, f2, f3, f4, f5⟩ := hf it (by simp)
    obtain ⟨_, vs, kv, dd⟩ := held_at I.hok e hd
    have hl := kv.length
    have hne : a ≠ it := fun z => by subst z; rw [e] at f0; cases f0
    have W := Walks.dictKeys (prog := X.prog) (w := X.w) (A := X.A) (knd := mixKind X.prog X.w) (I.ok.hd hc) it a hne vs ep
    subst hi
    refine W.done s _ _ ⟨by rw [← hl]; exact st, dd⟩ fun h' tk kk => ⟨rfl, I.turned (fun b o hb e => kk b o (by simpa using hb) e) f0 f1 f3 f4 f5⟩
  self := fun A i s Q E st h => wpAny_pyIter_keyiter st h
noncomputable def iDict (tl : TE) : TI := fun σ H R => tl σ H fun x H1 => ∃ a raw kvs, x = .ref a ∧ H1 a = some (.frz raw (.dK kvs)) ∧ R (Itd a raw kvs) H1
theorem pi_dict {X : Cx} {tg l : Expr} {tl : TE} (hl : PE X l tl) : PI X tg l (iDict tl) := by
  intro pins s σ H R I h
  refine thn (hl pins s σ H _ I h) fun v s1 ⟨x, H1, I1, r1, q1⟩ => ?_
  obtain ⟨a, raw, kvs, e, ha, q⟩ := q1
  subst e
  cases r1
  obtain ⟨es, ep, hd⟩ : ∃ es ep, raw.data = .dict es ep := by
    obtain ⟨hr, _, hs, vs, kv, o, es', ep', h1, h2, h3, h4⟩ := (show ObjOk X.prog X.w H1 s1.heap a (.frz raw (.dK kvs)) from I1.hok a _ ha)
    rw [hr] at h1
    cases h1
    exact ⟨_, _, h3⟩
  obtain ⟨hs, vs, kv, dd⟩ := held_at I1.hok ha hd
  refine wpAny_pyIter_dict hs dd ?_
  refine ⟨s1.heap.objs.size, [s1.heap.objs.size], _, _, H1, rfl, I1.kept (t' := s1.toks) fun b o e => Heap.get?_push_of_some _ e, turn_dict a _ raw kvs hd, ⟨_, Heap.get?_push_size _ rfl, rfl, by rw [kv.length]; rfl⟩, fun b hb => ?_, q⟩
  have e : b = s1.heap.objs.size := by simpa using hb
  subst e
  exact I1.fpOk (Nat.le_refl _) (I1.hok.fresh (Nat.le_refl _))
end L2

namespace L2.MP
open PySem PySem.Spec PyProof.Rows
structure Sw (F F' : Hp) (a : Addr) (u : HO) : Prop where
  ne : ∀ b, b ≠ a → F' b = F b
  l : Rd F a u
  r : Rd F' a u
  d : isDct u
section
variable {K : PySem.W.Frag} {F F' H H' : Hp} {a : Addr} {u : HO} {v : V} {p : PV}
theorem Sw.symm (w : Sw F F' a u) : Sw F' F a u := ⟨fun b hb => (w.ne b hb).symm, w.r, w.l, w.d⟩
theorem Sw.other (w : Sw F F' a u) {b : Addr} {o : HO} (e : F b = some o) (h1 : ¬ isDct o) (h2 : ∀ raw x, isDct x → o ≠ .frz raw x) : F' b = some o := by
  rw [w.ne b fun z => ?_]
  · exact e
  · subst z
    rcases w.l with q | ⟨raw, q⟩
    · rw [e] at q; cases q; exact h1 w.d
    · rw [e] at q; cases q; exact h2 raw u w.d rfl
theorem Sw.rd (w : Sw F F' a u) {b : Addr} {o : HO} (h : Rd F b o) (ho : isDct o) : Rd F' b o := by
  by_cases hb : b = a
  · subst hb
    have : o = u := by
      rcases h with h | ⟨r, h⟩ <;> rcases w.l with q | ⟨r', q⟩ <;> rw [h] at q <;> cases q
      · rfl
      · exact ho.elim
      · exact w.d.elim
      · rfl
    rw [this]; exact w.r
  · rcases h with h | ⟨r, h⟩
    · exact .inl (by rw [w.ne b hb]; exact h)
    · exact .inr ⟨r, by rw [w.ne b hb]; exact h⟩
theorem Sw.sq (w : Sw F F' a u) {b : Addr} {xs : List V} (h : SqL K F b xs) : SqL K F' b xs := by
  rcases h with (h | ⟨o, h⟩) | h
  · exact .inl (.inl (w.other h (fun z => z) fun _ _ _ z => by cases z))
  · exact .inl (.inr ⟨o, w.other h (fun z => z) fun _ x hx z => by cases z; exact hx⟩)
  · exact .inr h
theorem Rep.sw (w : Sw F F' a u) (h : Rep K F v p) : Rep K F' v p := by
  induction h with
  | non => exact .non
  | bl => exact .bl
  | int => exact .int
  | str => exact .str
  | ty => exact .ty
  | tup h hl _ ih => exact .tup (w.other h (fun z => z) fun _ _ _ z => by cases z) hl ih
  | lst h hl _ ih => exact .lst (w.sq h) hl ih
  | dk h hl _ ih => exact .dk (w.rd h trivial) hl ih
  | dt h hl _ ih => exact .dt (w.rd h trivial) hl ih
  | exc nm h hd hl _ ih => exact .exc nm (w.other h (fun z => z) fun _ _ _ z => by cases z) (w.other hd (fun z => z) fun _ _ _ z => by cases z) hl ih
  | exc0 nm h => exact .exc0 nm (w.other h (fun z => z) fun _ _ _ z => by cases z)
theorem Reps.sw {xs : List V} {l : List PV} (w : Sw F F' a u) (h : Reps K F xs l) : Reps K F' xs l := ⟨h.1, fun j x p a b => (h.2 j x p a b).sw w⟩
theorem Own.sw {b : Addr} (w : Sw F F' a u) (e : H' b = H b) (h : Own K F H b p) : Own K F' H' b p := by
  cases p with
  | lst l => obtain ⟨xs, q, r⟩ := h; exact ⟨xs, by rw [e]; exact q, r.sw w⟩
  | dk l => obtain ⟨xs, q, r, s⟩ := h; exact ⟨xs, by rw [e]; exact q, r, fun j x p a b => (s j x p a b).sw w⟩
  | dt l => obtain ⟨xs, q, r, s⟩ := h; exact ⟨xs, by rw [e]; exact q, r, fun j x p a b => (s j x p a b).sw w⟩
  | _ => exact h.elim
theorem Dp.sw {P : Addr → Prop} (w : Sw F F' a u) (wH : Sw H H' a u) (h : Dp K F H P v p) : (∀ b, P b → b ≠ a) → Dp K F' H' P v p := by
  induction h with
  | fr h st => exact fun _ => .fr (h.sw w) st
  | lst h hp hs dj hl _ ih => exact fun n => .lst (by rw [wH.ne _ (n _ hp)]; exact h) hp hs dj hl fun j x p e1 e2 => ih j x p e1 e2 fun b q => n b (hs j b q).1
  | tup h hs dj hl _ ih => exact fun n => .tup (wH.other h (fun z => z) fun _ _ _ z => by cases z) hs dj hl fun j x p e1 e2 => ih j x p e1 e2 fun b q => n b (hs j b q)
  | dk h hp hs dj hl _ ih => exact fun n => .dk (by rw [wH.ne _ (n _ hp)]; exact h) hp hs dj hl fun j x p e1 e2 => ih j x p e1 e2 fun b q => n b (hs j b q).1
  | dt h hp hs dj hl _ ih => exact fun n => .dt (by rw [wH.ne _ (n _ hp)]; exact h) hp hs dj hl fun j x p e1 e2 => ih j x p e1 e2 fun b q => n b (hs j b q).1
theorem RE.sw {C C' : Cf} {σ : St} {ρ : Rho} (w : Sw F F' a u) (wH : Sw H H' a u) (fa : F a ≠ none) (hio : C'.io = C.io) (hnw : C'.nw = C.nw) (h0 : ∀ b, b ≠ a → C'.H0 b = C.H0 b) (rb : RB C' F' H') (R : RE K C F H σ ρ) : RE K C' F' H' σ ρ where
  rb := rb
  len := R.len
  sh := fun i p e => let ⟨v, e1, r⟩ := R.sh i p e; ⟨v, e1, r.sw w⟩
  ow := fun i p e => by
    obtain ⟨b, e1, e2, e3, e4⟩ := R.ow i p e
    have nb : b ≠ a := fun z => by subst z; exact fa e3
    exact ⟨b, e1, e2.sw w (wH.ne b nb), by rw [w.ne b nb]; exact e3, by rw [hio, hnw, h0 b nb]; exact e4⟩
  dis := R.dis
  dd := by
    obtain ⟨P, d⟩ := R.dd
    have nb : ∀ i b, P i b → b ≠ a := fun i b q z => by subst z; exact fa (d.own i b q).1
    refine ⟨P, fun i b q => ?_, d.dis, d.ow, fun i p e => ?_⟩
    · obtain ⟨c1, ⟨o, c2, c3⟩, c4, c5⟩ := d.own i b q
      exact ⟨by rw [w.ne b (nb i b q)]; exact c1, ⟨o, by rw [wH.ne b (nb i b q)]; exact c2, c3⟩, by rw [hnw]; exact c4, by rw [h0 b (nb i b q)]; exact c5⟩
    · obtain ⟨v, e1, e2⟩ := d.dp i p e
      exact ⟨v, e1, e2.sw w wH (nb i)⟩
end
noncomputable def heldAt (G : Hp) (a : Addr) (raw : Obj) (u : HO) : Hp := fun b => @ite _ (b = a ∧ G a = some u) (Classical.propDecidable _) (some (.frz raw u)) (G b)
theorem heldAt_ne {G : Hp} {a b : Addr} {raw : Obj} {u : HO} (h : b ≠ a) : heldAt G a raw u b = G b := @if_neg _ (Classical.propDecidable _) (fun z => h z.1) _ _ _
theorem heldAt_in {G : Hp} {a : Addr} {raw : Obj} {u : HO} (h : G a = some u) : heldAt G a raw u a = some (.frz raw u) := @if_pos _ (Classical.propDecidable _) ⟨rfl, h⟩ _ _ _
theorem heldAt_out {G : Hp} {a : Addr} {raw : Obj} {u : HO} (h : G a ≠ some u) : heldAt G a raw u a = G a := @if_neg _ (Classical.propDecidable _) (fun z => h z.2) _ _ _
noncomputable def Held (F : Hp) (σ : St) (i : Nat) : Prop := ∃ a raw u, σ[i]? = some (some (.ref a)) ∧ F a = some (.frz raw u) ∧ isDct u
noncomputable def MSh (K : PySem.W.Frag) (C : Cg) (i : Nat) (t : TS) (f : Sn) : Prop := ∀ F H σ ρ D o, RE K C.toCf F H σ ρ → Held F σ i → f ρ = some o → PO' K C F D o → t D σ H
noncomputable def MOh (K : PySem.W.Frag) (C : Cg) (i : Nat) (te : TE) (f : Fn PV) : Prop :=
  ∀ F H σ ρ Q r, RE K C.toCf F H σ ρ → Held F σ i → f ρ = some r → Pr C F (fun p => ∀ a F' H', Up F H F' H' → H a = none → F' a = none → Own K F' H' a p → Q (.ref a) H') r → te σ H Q
noncomputable def mHold (i : Nat) (f : Sn) : Sn := fun ρ => match ρ[i]? with
  | some (some (.sh p)) => if p.isD = true then (match f ρ with
    | some (.rd _) => none
    | x => x) else none
  | _ => none
section
variable {K : PySem.W.Frag} {t : TS} {f : Sn}
theorem hold_re {io : Addr → Prop} {H0 F0 F H : Hp} {σ : St} {ρ : Rho} {a : Addr} {u : HO} {raw : Obj} (R : RE K (C0 io H0 F0).toCf F H σ ρ) (fa : F a = some u) (hu : isDct u) :
    RE K (C0 io (heldAt H0 a raw u) (heldAt F0 a raw u)).toCf (upd F a (.frz raw u)) (upd H a (.frz raw u)) σ ρ ∧ H a = some u := by
  have ha := R.rb.sub _ _ fa
  have w : Sw F (upd F a (.frz raw u)) a u := ⟨fun b hb => upd_ne hb, .inl fa, .inr ⟨raw, upd_same⟩, hu⟩
  have wH : Sw H (upd H a (.frz raw u)) a u := ⟨fun b hb => upd_ne hb, .inl ha, .inr ⟨raw, upd_same⟩, hu⟩
  have nt : ∀ ys, u ≠ .tup ys := fun ys z => by subst z; exact hu
  -- the beginning, held too
  have rb2 : RB (C0 io (heldAt H0 a raw u) (heldAt F0 a raw u)).toCf (upd F a (.frz raw u)) (upd H a (.frz raw u)) := by
    refine ⟨fun b o q => ?_, fun b o q n => ?_, fun b o q => ?_, fun b q => ?_⟩
    · by_cases hb : b = a
      · subst hb; rw [upd_same] at q ⊢; exact q
      · rw [upd_ne hb] at q ⊢; exact R.rb.sub b o q
    · by_cases hb : b = a
      · subst hb
        rw [upd_same]
        by_cases hh : H0 b = some u
        · have q : heldAt H0 b raw u b = some o := q
          rw [heldAt_in hh] at q; exact q
        · have q : heldAt H0 b raw u b = some o := q
          rw [heldAt_out hh] at q
          have := R.rb.keep b o q n
          rw [ha] at this
          exact absurd (q.trans this.symm) hh
      · have q : heldAt H0 a raw u b = some o := q
        rw [heldAt_ne hb] at q
        rw [upd_ne hb]; exact R.rb.keep b o q n
    · by_cases hb : b = a
      · subst hb
        rw [upd_same] at q
        cases q
        rcases R.rb.new b u fa with z | z | ⟨ys, z⟩
        · exact .inl (heldAt_in z)
        · refine .inr (.inl ?_)
          show heldAt H0 b raw u b = none
          rw [heldAt_out (by rw [show H0 b = none from z]; intro y; cases y)]; exact z
        · exact absurd z (nt ys)
      · rw [upd_ne hb] at q
        rcases R.rb.new b o q with z | z | z
        · exact .inl ((heldAt_ne hb).trans z)
        · exact .inr (.inl ((heldAt_ne hb).trans z))
        · exact .inr (.inr z)
    · obtain ⟨q1, q2⟩ := R.rb.ios b q
      refine ⟨?_, ?_⟩
      · by_cases hb : b = a
        · subst hb; rw [upd_same]; intro z; cases z
        · rw [upd_ne hb]; exact q1
      · show heldAt H0 a raw u b ≠ none
        by_cases hb : b = a
        · subst hb
          by_cases hh : H0 b = some u
          · rw [heldAt_in hh]; intro z; cases z
          · rw [heldAt_out hh]; exact q2
        · rw [heldAt_ne hb]; exact q2
  have R2 : RE K (C0 io (heldAt H0 a raw u) (heldAt F0 a raw u)).toCf (upd F a (.frz raw u)) (upd H a (.frz raw u)) σ ρ := RE.sw (C := (C0 io H0 F0).toCf) w wH (by rw [fa]; intro z; cases z) rfl rfl (fun b hb => heldAt_ne hb) rb2 R
  exact ⟨R2, ha⟩
theorem ms_hold {io : Addr → Prop} {H0 F0 : Hp} (i : Nat) (h : ∀ H0 F0, MSh K (C0 io H0 F0) i t f) : MS K (C0 io H0 F0) (tHold i t) (mHold i f) := by
  intro F H σ ρ D o R e P
  unfold mHold at e
  split at e
  case h_2 => cases e
  rename_i p hp
  split at e
  case isFalse => cases e
  rename_i hd
  obtain ⟨e', nrd⟩ : f ρ = some o ∧ ∀ q, o ≠ .rd q := by
    split at e
    · cases e
    · rename_i x hx
      exact ⟨e, fun q z => by subst z; exact hx q e⟩
  obtain ⟨v, ev, rv⟩ := R.sh i p hp
  obtain ⟨a, u, rfl, rd, hu⟩ : ∃ a u, v = .ref a ∧ Rd F a u ∧ isDct u := by
    cases rv with
    | dk h => exact ⟨_, _, rfl, h, trivial⟩
    | dt h => exact ⟨_, _, rfl, h, trivial⟩
    | _ => cases hd
  refine ⟨a, u, ev, hu, ?_⟩
  rcases rd with fa | ⟨raw, fa⟩
  case inr => exact .inl ⟨⟨raw, R.rb.sub _ _ fa⟩, h H0 F0 F H σ ρ D o R ⟨a, raw, u, ev, fa, hu⟩ e' P⟩
  refine .inr ⟨R.rb.sub _ _ fa, fun raw => ?_⟩
  have ha := R.rb.sub _ _ fa
  have w : Sw F (upd F a (.frz raw u)) a u := ⟨fun b hb => upd_ne hb, .inl fa, .inr ⟨raw, upd_same⟩, hu⟩
  have wH : Sw H (upd H a (.frz raw u)) a u := ⟨fun b hb => upd_ne hb, .inl ha, .inr ⟨raw, upd_same⟩, hu⟩
  have nt : ∀ ys, u ≠ .tup ys := fun ys z => by subst z; exact hu
  obtain ⟨R2, _⟩ := hold_re (raw := raw) R fa hu
  -- back
  have back : ∀ {F3 H3 : Hp}, Same (upd F a (.frz raw u)) F3 → RB (C0 io (heldAt H0 a raw u) (heldAt F0 a raw u)).toCf F3 H3 → H3 a = some (.frz raw u) ∧ Sw F3 (upd F3 a u) a u ∧ Sw H3 (upd H3 a u) a u ∧ Same F (upd F3 a u) ∧ RB (C0 io H0 F0).toCf (upd F3 a u) (upd H3 a u) := by
    intro F3 H3 s3 rb3
    have f3 : F3 a = some (.frz raw u) := s3 _ _ upd_same
    have h3 := rb3.sub _ _ f3
    refine ⟨h3, ⟨fun b hb => upd_ne hb, .inr ⟨raw, f3⟩, .inl upd_same, hu⟩, ⟨fun b hb => upd_ne hb, .inr ⟨raw, h3⟩, .inl upd_same, hu⟩, fun b o q => ?_, fun b o q => ?_, fun b o q n => ?_, fun b o q => ?_, fun b q => ?_⟩
    · by_cases hb : b = a
      · subst hb; rw [upd_same, ← q, fa]
      · rw [upd_ne hb]; exact s3 b o (by rw [upd_ne hb]; exact q)
    · by_cases hb : b = a
      · subst hb; rw [upd_same] at q ⊢; exact q
      · rw [upd_ne hb] at q ⊢; exact rb3.sub b o q
    · by_cases hb : b = a
      · subst hb
        have := R.rb.keep b o q n
        rw [ha] at this
        rw [upd_same]; exact this
      · rw [upd_ne hb]
        exact rb3.keep b o ((heldAt_ne hb).trans q) n
    · by_cases hb : b = a
      · subst hb
        rw [upd_same] at q
        cases q
        exact R.rb.new b u fa
      · rw [upd_ne hb] at q
        rcases rb3.new b o q with z | z | z
        · exact .inl ((heldAt_ne hb).symm.trans z)
        · exact .inr (.inl ((heldAt_ne hb).symm.trans z))
        · exact .inr (.inr z)
    · refine ⟨?_, (R.rb.ios b q).2⟩
      by_cases hb : b = a
      · subst hb; rw [upd_same]; intro z; cases z
      · rw [upd_ne hb]; exact (rb3.ios b q).1
  have backR : ∀ {F3 H3 : Hp} {σ3 : St} {ρ3 : Rho}, Same (upd F a (.frz raw u)) F3 → RE K (C0 io (heldAt H0 a raw u) (heldAt F0 a raw u)).toCf F3 H3 σ3 ρ3 → H3 a = some (.frz raw u) ∧ Same F (upd F3 a u) ∧ RE K (C0 io H0 F0).toCf (upd F3 a u) (upd H3 a u) σ3 ρ3 := by
    intro F3 H3 σ3 ρ3 s3 R3
    obtain ⟨b1, b2, b3, b4, b5⟩ := back s3 R3.rb
    have f3 : F3 a = some (.frz raw u) := s3 _ _ upd_same
    exact ⟨b1, b4, RE.sw (C := (C0 io (heldAt H0 a raw u) (heldAt F0 a raw u)).toCf) b2 b3 (by rw [f3]; intro z; cases z) rfl rfl (fun b hb => (heldAt_ne hb).symm) b5 R3⟩
  refine h (heldAt H0 a raw u) (heldAt F0 a raw u) _ _ σ ρ _ o R2 ⟨a, raw, u, ev, upd_same, hu⟩ e' ?_
  cases o with
  | nx ρ3 => exact fun F3 H3 σ3 s3 R3 => let ⟨b1, b2, b3⟩ := backR s3 R3; ⟨b1, P _ _ _ b2 b3⟩
  | bk ρ3 => exact fun F3 H3 σ3 s3 R3 => let ⟨b1, b2, b3⟩ := backR s3 R3; ⟨b1, P _ _ _ b2 b3⟩
  | ct ρ3 => exact fun F3 H3 σ3 s3 R3 => let ⟨b1, b2, b3⟩ := backR s3 R3; ⟨b1, P _ _ _ b2 b3⟩
  | rt q => exact fun v F3 H3 s3 rb3 r => let ⟨b1, b2, b3, b4, b5⟩ := back s3 rb3; ⟨b1, P v _ _ b4 b5 (r.sw b2)⟩
  | ro q =>
    intro b F3 H3 s3 rb3 ow nb n0
    obtain ⟨b1, b2, b3, b4, b5⟩ := back s3 rb3
    have f3 : F3 a = some (.frz raw u) := s3 _ _ upd_same
    have hb : b ≠ a := fun z => by subst z; rw [f3] at nb; cases nb
    exact ⟨b1, P b _ _ b4 b5 (ow.sw b2 (b3.ne b hb)) (by rw [upd_ne hb]; exact nb) ((heldAt_ne hb).symm.trans n0)⟩
  | rd q => exact absurd rfl (nrd q)
  | ex z => exact fun _ _ _ _ _ _ x => x.elim
end
end L2.MP

namespace L2.MP
open PySem PySem.Spec PyProof.Rows
noncomputable def keysP (l : List (Key × PV)) : List PV := l.map fun kv => keyP kv.1
noncomputable def asDKeys : PV → Option (Res (List PV))
  | .dk l => some (.ok (keysP l))
  | _ => none
noncomputable def MIHh (K : PySem.W.Frag) (C : Cg) (i : Nat) (wi : TI) (f : Fn (List PV)) : Prop :=
  ∀ F H σ ρ R' r, RE K C.toCf F H σ ρ → Held F σ i → f ρ = some r → Pr C F (fun l => ∀ J F' H', Up F H F' H' → ItR K J F' l → R' J H') r → wi σ H R'
section
variable {K : PySem.W.Frag} {C : Cg} {te : TE} {t : TS} {f : Sn} {F H : Hp} {σ : St} {ρ : Rho} {D : Ends} {o : Out}
theorem key_rep {k : Key} : Rep K F (kV k) (keyP k) := by
  cases k with
  | inl i => exact .int
  | inr z => exact .str
theorem mih_dict (i : Nat) : MIHh K C i (iDict (tVar i)) (m1 asDKeys (mV i)) := by
  intro F H σ ρ R' r R hh e P
  rcases bnd_inv e with ⟨z, e1, rfl⟩ | ⟨p, e1, hk⟩
  · unfold mV at e1
    split at e1
    · cases e1
    · cases e1
  obtain ⟨a, raw, u, ev, fa, hu⟩ := hh
  have hp : ρ[i]? = some (some (.sh p)) := by
    unfold mV at e1
    split at e1
    · rename_i q hq; cases e1; exact hq
    · cases e1
  match p, hk with
  | .dk l, hk =>
    cases hk
    obtain ⟨v, ev', rv⟩ := R.sh i _ hp
    rw [ev] at ev'
    cases ev'
    cases rv with
    | @dk _ xs _ h hl hr =>
      have hx : u = .dK xs := by
        rcases h with h | ⟨o, h⟩
        · rw [fa] at h; cases h
        · rw [fa] at h; cases h; rfl
      subst hx
      have len : xs.length = l.length := by have := congrArg List.length hl; simpa using this
      refine ⟨_, ev, a, raw, xs, rfl, R.rb.sub _ _ fa, P _ F H (Up.refl R.rb.sub) ⟨fun F' H' s s' => ?_, fun j F' H' hj s s' => ?_, fun j F' H' x H'' hj s s' y => ?_⟩⟩
      · exact ⟨s' _ _ (s _ _ fa), by unfold keysP; rw [List.length_map]; exact len.symm⟩
      · refine ⟨s' _ _ (s _ _ fa), ?_⟩
        unfold keysP at hj
        rw [List.length_map] at hj
        omega
      · obtain ⟨rfl, kv, hkv, rfl⟩ := y
        have hl2 : (l.map (·.1))[j]? = some kv.1 := by rw [← hl, List.getElem?_map, hkv]; rfl
        refine ⟨F', keyP kv.1, Up.refl s', ?_, key_rep⟩
        unfold keysP
        rw [List.getElem?_map] at hl2 ⊢
        cases q : l[j]? with
        | none => rw [q] at hl2; cases hl2
        | some w =>
          rw [q] at hl2
          show some (keyP w.1) = some (keyP kv.1)
          rw [show w.1 = kv.1 from Option.some.inj hl2]
theorem msh_for {i : Nat} {wi : TI} {it : Fn (List PV)} {gt : TG} {tg : PV → Rho → Option Rho} (hi : MIHh K C i wi it) (hg : MG K C gt tg) (hb : MS K C t f) : MSh K C i (tFor wi gt t) (mFor it tg f) := by
  intro F H σ ρ D o R hh e P
  rcases bndS_inv e with ⟨z, e1, rfl⟩ | ⟨l, e1, hk⟩
  · exact hi F H σ ρ _ _ R hh e1 P
  · exact hi F H σ ρ _ _ R hh e1 fun J F' H' u hJ => forJ_loop hg hb hJ (R.up u) hk (P.up u.ff)
theorem mo_compHold {wi : TI} {it : Fn (List PV)} {fr : List (Option Nat)} {gt : TG} {tg : PV → Rho → Option Rho} {T : List Nat} {tc : TT} {tst : Fn Bool} {el : Fn PV} {i0 : Nat} (hi : MIHh K C i0 wi it) (hg : MG K C gt tg) (hT : Wr T tg) (ht : MT K C tc tst) (he : MJ K C (aF K) te el)
    (hfr : T.all (fun j => fr[j]? == some none) = true := by rfl) : MOh K C i0 (tComp wi fr gt tc te) (mComp it fr tg tst el) := by
  intro F H σ ρ Q r R hh e P
  rcases bnd_inv e with ⟨z, e1, rfl⟩ | ⟨l, e1, hk⟩
  · exact hi F H σ ρ _ _ R hh e1 P
  split at hk
  case isFalse => cases hk
  rename_i hlen
  refine hi F H σ ρ _ _ R hh e1 fun J F1 H1 u hJ D hD => ?_
  have R1 := R.up u
  obtain ⟨Rb, no⟩ := R1.block fr
  have hD0 : C.H0 D = none := R1.rb.free0 hD
  have hFD : F1 D = none := u.fh.free hD
  have hρ : ∀ (j : Nat), j ∈ T → (frR fr ρ)[j]? = some none := fun j hj => by
    have := List.all_eq_true.mp hfr j hj
    unfold frR
    rw [List.getElem?_map, show fr[j]? = some none by simpa using this]
    rfl
  -- between the turns
  refine ⟨fun i m σ' H' => ∃ F' ys acc, m = l.length - i ∧ i ≤ l.length ∧ Same F1 F' ∧ (∀ b o, F' b = some o → F1 b = some o ∨ Frz H1 b o) ∧ Same H1 H' ∧ H' D = some (.lst ys) ∧ F' D = none ∧ Reps K F' ys acc ∧ acc.length ≤ i ∧
      RE K C.toCf F' H' σ' (frR fr ρ) ∧ bnd (compL tg tst el (frR fr ρ) (l.drop i)) (fun r => some (.ok (.lst (acc ++ r)))) = some r,
    ⟨l.length, F1, [], [], by simp, Nat.zero_le _, Same.refl _, fun _ _ q => .inl q, same_upd hD, upd_same, hFD, .nil, Nat.le_refl _, Rb.other hFD hD0 no, by rw [List.drop_zero]; exact hk⟩, ?_⟩
  rintro i m σ' H' ⟨F', ys, acc, rfl, hil, s1, fr1, sH, eD, nD, ra, hacc, R', e'⟩
  by_cases hlt : i < l.length
  case neg =>
    have ei : i = l.length := by omega
    subst ei
    rw [List.drop_length] at e'
    have e' : some (Res.ok (PV.lst (acc ++ []))) = some r := e'
    rw [List.append_nil] at e'
    cases e'
    exact .inl ⟨hJ.stop F' H' s1 R'.rb.sub, P D F' H' (u.trans ⟨s1, sH, fr1, R'.rb.sub⟩) (u.hh.free hD) nD ⟨ys, eD, ra⟩⟩
  refine .inr ⟨hJ.go i F' H' hlt s1 R'.rb.sub, fun σ2 H2 => ∃ F2 ys acc, Same F1 F2 ∧ (∀ b o, F2 b = some o → F1 b = some o ∨ Frz H1 b o) ∧ Same H1 H2 ∧ H2 D = some (.lst ys) ∧ F2 D = none ∧ Reps K F2 ys acc ∧ acc.length ≤ i + 1 ∧
      RE K C.toCf F2 H2 σ2 (frR fr ρ) ∧ bnd (compL tg tst el (frR fr ρ) (l.drop (i + 1))) (fun r => some (.ok (.lst (acc ++ r)))) = some r,
    fun σ2 H2 ⟨F2, ys, acc, z⟩ => ⟨l.length - (i + 1), by omega, F2, ys, acc, rfl, hlt, z⟩, fun x H'' y => ?_⟩
  obtain ⟨F'', p, u2, ep, rx⟩ := hJ.yld i F' H' x H'' hlt s1 R'.rb.sub y
  have ed : l.drop i = p :: l.drop (i + 1) := by
    rw [List.drop_eq_getElem_cons hlt]
    rw [List.getElem?_eq_getElem hlt] at ep
    rw [Option.some.inj ep]
  rw [ed, compL] at e'
  split at e'
  · cases e'
  rename_i ρ1 h1
  obtain ⟨w1, w2, w3⟩ := hT p _ ρ1 h1
  have no1 := w3 no
  have weak : ∀ (j : Nat) s, (frR fr ρ)[j]? = some (some s) → ρ1[j]? = some (some s) := fun j s ej => by
    rw [w2 j fun z => by rw [hρ j z] at ej; cases ej]; exact ej
  refine hg F'' H'' σ' (frR fr ρ) x p ρ1 _ (R'.up u2) rx h1 fun σ1 R1' => ?_
  -- what holds at any heap behind this turn's parts
  have stay : ∀ {F3 H3 : Hp}, Up F' H' F3 H3 → Same F1 F3 ∧ (∀ b o, F3 b = some o → F1 b = some o ∨ Frz H1 b o) ∧ Same H1 H3 ∧ H3 D = some (.lst ys) ∧ F3 D = none ∧ Reps K F3 ys acc := fun {F3 H3} u3 => by
    refine ⟨s1.trans u3.ff, fun b o q => ?_, sH.trans u3.hh, u3.hh _ _ eD, ?_, ra.up u3.ff⟩
    · rcases u3.fr b o q with z | z
      · exact fr1 b o z
      · exact .inr (z.imp (fun z => sH.free z) id)
    · cases q : F3 D with
      | none => rfl
      | some o =>
        rcases u3.fr D o q with z | z | ⟨ys, z⟩
        · rw [nD] at z; cases z
        · rw [eD] at z; cases z
        · subst z
          have w := u3.fh _ _ q
          rw [u3.hh _ _ eD] at w; cases w
  have Pl : ∀ {F3 H3 : Hp}, Up F' H' F3 H3 → ∀ {z : PV}, r = .ex z → PX C F3 z := fun {F3 H3} u3 {z} ez => by
    subst ez
    exact PX.up P (u.ff.trans (s1.trans u3.ff))
  rw [bnd_assoc] at e'
  rcases bnd_inv e' with ⟨z', e4, ez⟩ | ⟨b, e4, e5⟩
  · exact ht F'' H'' σ1 ρ1 _ _ R1' e4 (Pl u2 ez)
  refine ht F'' H'' σ1 ρ1 _ _ R1' e4 fun F3 H3 u3 => ?_
  have u23 := u2.trans u3
  cases b with
  | false =>
    rw [if_neg (by decide)] at e5 ⊢
    obtain ⟨a1, a2, a3, a4, a5, a6⟩ := stay u23
    exact ⟨F3, ys, acc, a1, a2, a3, a4, a5, a6, by omega, (R1'.up u3).weak w1.symm weak, e5⟩
  | true =>
    rw [if_pos rfl] at e5 ⊢
    rw [bnd_assoc] at e5
    rcases bnd_inv e5 with ⟨z', e6, ez⟩ | ⟨q, e6, e7⟩
    · exact he F3 H3 σ1 ρ1 _ _ (R1'.up u3) e6 (Pl u23 ez)
    refine he F3 H3 σ1 ρ1 _ _ (R1'.up u3) e6 fun v F4 H4 u4 rv => ?_
    have u24 := u23.trans u4
    obtain ⟨a1, a2, a3, a4, a5, a6⟩ := stay u24
    refine ⟨ys, a4, by rw [a6.1]; omega, F4, ys ++ [v], acc ++ [q], a1, a2, same_upd2 hD a3, upd_same, a5, a6.snoc rv, by simp; omega, ((R1'.up (u3.trans u4)).other a5 hD0 no1).weak w1.symm weak, ?_⟩
    rw [bnd_assoc] at e7
    rw [← e7]
    congr 1
    funext rr
    show some (Res.ok (PV.lst (acc ++ [q] ++ rr))) = some (Res.ok (PV.lst (acc ++ q :: rr)))
    rw [List.append_assoc]; rfl

noncomputable def mHoldE (i : Nat) (f : Fn PV) : Fn PV := fun ρ => match ρ[i]? with
  | some (some (.sh p)) => if p.isD = true then f ρ else none
  | _ => none
theorem mo_hold {io : Addr → Prop} {H0 F0 : Hp} {fe : Fn PV} (i : Nat) (h : ∀ H0 F0, MOh K (C0 io H0 F0) i te fe) : MO K (C0 io H0 F0) (tHoldE i te) (mHoldE i fe) := by
  intro F H σ ρ Q r R e P
  unfold mHoldE at e
  split at e
  case h_2 => cases e
  rename_i p hp
  split at e
  case isFalse => cases e
  rename_i hd
  obtain ⟨v, ev, rv⟩ := R.sh i p hp
  obtain ⟨a, u, rfl, rd, hu⟩ : ∃ a u, v = .ref a ∧ Rd F a u ∧ isDct u := by
    cases rv with
    | dk h => exact ⟨_, _, rfl, h, trivial⟩
    | dt h => exact ⟨_, _, rfl, h, trivial⟩
    | _ => cases hd
  refine ⟨a, u, ev, hu, ?_⟩
  rcases rd with fa | ⟨raw, fa⟩
  case inr => exact .inl ⟨⟨raw, R.rb.sub _ _ fa⟩, h H0 F0 F H σ ρ Q r R ⟨a, raw, u, ev, fa, hu⟩ e P⟩
  refine .inr ⟨R.rb.sub _ _ fa, fun raw => ?_⟩
  have ha := R.rb.sub _ _ fa
  obtain ⟨R2, _⟩ := hold_re (raw := raw) R fa hu
  refine h (heldAt H0 a raw u) (heldAt F0 a raw u) _ _ σ ρ _ r R2 ⟨a, raw, u, ev, upd_same, hu⟩ e ?_
  cases r with
  | ex z => exact fun _ _ _ _ _ _ x => x.elim
  | ok q =>
    intro b F3 H3 u3 n1 n2 ow
    have f3 : F3 a = some (.frz raw u) := u3.ff _ _ upd_same
    have h3 := u3.fh _ _ f3
    have hb : b ≠ a := fun z => by subst z; rw [f3] at n2; cases n2
    refine ⟨h3, P b (upd F3 a u) (upd H3 a u) ⟨fun c o' q => ?_, fun c o' q => ?_, fun c o' q => ?_, fun c o' q => ?_⟩ (by rw [upd_ne hb] at n1; exact n1) (by rw [upd_ne hb]; exact n2) (ow.sw ⟨fun c hc => upd_ne hc, .inr ⟨raw, f3⟩, .inl upd_same, hu⟩ (upd_ne hb))⟩
    · by_cases hc : c = a
      · subst hc; rw [upd_same, ← q, fa]
      · rw [upd_ne hc]; exact u3.ff c o' (by rw [upd_ne hc]; exact q)
    · by_cases hc : c = a
      · subst hc; rw [upd_same, ← q, ha]
      · rw [upd_ne hc]; exact u3.hh c o' (by rw [upd_ne hc]; exact q)
    · by_cases hc : c = a
      · subst hc; rw [upd_same] at q; cases q; exact .inl fa
      · rw [upd_ne hc] at q
        rcases u3.fr c o' q with z | z | z
        · rw [upd_ne hc] at z; exact .inl z
        · rw [upd_ne hc] at z; exact .inr (.inl z)
        · exact .inr (.inr z)
    · by_cases hc : c = a
      · subst hc; rw [upd_same] at q ⊢; exact q
      · rw [upd_ne hc] at q ⊢; exact u3.fh c o' q
end
end L2.MP

namespace L2.MP
open PySem PySem.Spec PyProof.Rows
structure IoUp2 (a c : Addr) (F H F' H' : Hp) : Prop where
  ff : Same F F'
  hb : ∀ b o, H b = some o → b ≠ a → b ≠ c → H' b = some o
  fr : ∀ b o, F' b = some o → F b = some o ∨ Frz H b o
  fh : Same F' H'
noncomputable def RepsJ2 (K : PySem.W.Frag) (F : Hp) (a c : Addr) (p q : PV) (xs : List V) (l : List PV) : Prop :=
  xs.length = l.length ∧ xs[0]? = some (.ref a) ∧ l[0]? = some p ∧ xs[1]? = some (.ref c) ∧ l[1]? = some q ∧ ∀ (k : Nat) x r, 2 ≤ k → xs[k]? = some x → l[k]? = some r → Rep K F x r
noncomputable def spIO2 (K : PySem.W.Frag) (m : List PV → Option (Res PV)) : Sp := fun vs H Q _ => ∃ ps F a c p q p' q', Same F H ∧ RepsJ2 K F a c p q vs ps ∧ a ≠ c ∧ Own K F H a p ∧ F a = none ∧ Own K F H c q ∧ F c = none ∧ m ps = some (.ok (.tup [p', q'])) ∧ ∀ F' H', IoUp2 a c F H F' H' → Own K F' H' a p' → F' a = none → Own K F' H' c q' → F' c = none → Q .non H'
noncomputable def startIO2 (ps : List PV) (n : Nat) : Rho := (ps.mapIdx fun k p => some (if k < 2 then Sl.ow p else Sl.sh p)) ++ List.replicate n none
noncomputable def finIO2 : Option Out → Option (Res PV)
  | some (.nx ρ) => match ownAt 0 ρ, ownAt 1 ρ with
    | some p, some q => some (.ok (.tup [p, q]))
    | _, _ => none
  | _ => none
section
variable {K : PySem.W.Frag} {C : Cg} {N : List Str} {vs : List V} {H F : Hp} {Q : VK} {E : XK} {t : TS} {b : Sn} {m : List PV → Option (Res PV)} {ps : List PV} {a c : Addr} {p q : PV} {n : Nat}
theorem startIO2_get {i : Nat} {s : Sl} (e : (startIO2 ps n)[i]? = some (some s)) : ∃ q, ps[i]? = some q ∧ s = if i < 2 then Sl.ow q else Sl.sh q := by
  unfold startIO2 at e
  by_cases hi : i < ps.length
  · rw [List.getElem?_append_left (by simpa using hi), List.getElem?_mapIdx] at e
    cases h : ps[i]? with
    | none => rw [h] at e; cases e
    | some q => rw [h] at e; exact ⟨q, rfl, (Option.some.inj (Option.some.inj e)).symm⟩
  · rw [List.getElem?_append_right (by simpa using hi), List.getElem?_replicate] at e
    split at e <;> cases e
theorem startIO2_ow {i : Nat} {x : PV} (r : RepsJ2 K F a c p q vs ps) (e : (startIO2 ps n)[i]? = some (some (.ow x))) : (i = 0 ∧ x = p) ∨ (i = 1 ∧ x = q) := by
  obtain ⟨q', e1, e2⟩ := startIO2_get e
  by_cases hij : i < 2
  · rw [if_pos hij] at e2
    cases e2
    rcases (show i = 0 ∨ i = 1 by omega) with rfl | rfl
    · rw [r.2.2.1] at e1; cases e1; exact .inl ⟨rfl, rfl⟩
    · rw [r.2.2.2.2.1] at e1; cases e1; exact .inr ⟨rfl, rfl⟩
  · rw [if_neg hij] at e2; cases e2
theorem startIO2_re (s : Same F H) (r : RepsJ2 K F a c p q vs ps) (ac : a ≠ c) (w : Own K F H a p) (hn : F a = none) (w2 : Own K F H c q) (hn2 : F c = none) (hN : N.length = vs.length + n) : RE K ⟨fun b => b = a ∨ b = c, False, H, F, E⟩ F H (start N vs) (startIO2 ps n) where
  rb := ⟨s, fun _ _ h _ => h, fun _ _ h => .inl h, fun b hb => by
    obtain ⟨o, eo⟩ := w.ne
    obtain ⟨o2, eo2⟩ := w2.ne
    have h1 : H b ≠ none := by
      rcases hb with rfl | rfl
      · rw [eo]; simp
      · rw [eo2]; simp
    exact ⟨h1, h1⟩⟩
  len := by unfold start startIO2; rw [List.length_append, List.length_append, List.length_map, List.length_mapIdx, List.length_replicate, List.length_replicate, r.1, hN]; have := r.1; omega
  sh := fun i x e => by
    obtain ⟨q', e1, e2⟩ := startIO2_get e
    by_cases hij : i < 2
    · rw [if_pos hij] at e2; cases e2
    · rw [if_neg hij] at e2
      cases e2
      have hi : i < vs.length := by rw [r.1]; exact lt_of_get e1
      exact ⟨vs[i], start_at (by simp [hi]), r.2.2.2.2.2 i _ _ (by omega) (by simp [hi]) e1⟩
  ow := fun i x e => by
    rcases startIO2_ow r e with ⟨rfl, rfl⟩ | ⟨rfl, rfl⟩
    · exact ⟨a, start_at r.2.1, w, hn, .inl (.inl rfl)⟩
    · exact ⟨c, start_at r.2.2.2.1, w2, hn2, .inl (.inr rfl)⟩
  dis := fun i k x y d e e' f f' => by
    rcases startIO2_ow r e with ⟨rfl, _⟩ | ⟨rfl, _⟩ <;> rcases startIO2_ow r e' with ⟨rfl, _⟩ | ⟨rfl, _⟩
    · rfl
    · rw [start_at r.2.1] at f; rw [start_at r.2.2.2.1] at f'; cases f; cases f'; exact absurd rfl ac
    · rw [start_at r.2.2.2.1] at f; rw [start_at r.2.1] at f'; cases f; cases f'; exact absurd rfl ac
    · rfl
  dd := ⟨_, RD.no fun i x e => by
    obtain ⟨q', e1, e2⟩ := startIO2_get e
    by_cases hij : i < 2
    · rw [if_pos hij] at e2; cases e2
    · rw [if_neg hij] at e2; cases e2⟩
noncomputable abbrev C2 (a c : Addr) (H0 F0 : Hp) : Cg := ⟨⟨fun b => b = a ∨ b = c, False, H0, F0, E0⟩, XR0⟩
theorem run_fnIO2 {k : Nat} (hk : N.length = k + n) (hm : ∀ ps r, m ps = some r → ps.length = k ∧ finIO2 (b (startIO2 ps n)) = some r) (h : spIO2 K m vs H Q E) (hS : ∀ (a c : Addr) (H0 F0 : Hp), MSk K (C2 a c H0 F0) 0 t b) :
    t { nx := fun _ H' => Q .non H', rt := Q } (start N vs) H := by
  obtain ⟨ps, F, a, c, p, q, p', q', s, rp, ac, w, hn, w2, hn2, e, P⟩ := h
  obtain ⟨hl, e⟩ := hm ps _ e
  have R := startIO2_re (E := E0) (N := N) (n := n) s rp ac w hn w2 hn2 (by rw [rp.1, hl]; exact hk)
  cases ho : b (startIO2 ps n) with
  | none => rw [ho] at e; cases e
  | some o =>
    rw [ho] at e
    refine hS a c H F F H _ _ _ o R ho ?_
    cases o with
    | nx ρ =>
      intro F' H' σ s' R' kk
      rw [start_at rp.2.1] at kk
      have e : (match ownAt 0 ρ, ownAt 1 ρ with | some p, some q => some (Res.ok (PV.tup [p, q])) | _, _ => none) = some (.ok (.tup [p', q'])) := e
      split at e
      · rename_i x y h0 h1
        cases e
        obtain ⟨b0, e1, e2, e3, e4⟩ := R'.ow 0 _ (ownAt_eq h0)
        obtain ⟨b1, f1, f2, f3, f4⟩ := R'.ow 1 _ (ownAt_eq h1)
        rw [kk] at e1
        cases e1
        have hc : b1 = c := by
          rcases f4 with (z | z) | z
          · subst z
            exact absurd (R'.dis 0 1 _ _ _ (ownAt_eq h0) (ownAt_eq h1) kk f1) (by decide)
          · exact z
          · exact z.1.elim
        subst hc
        exact P F' H' ⟨s', fun b o q h1 h2 => R'.rb.keep b o q fun z => z.elim h1 h2, R'.rb.new, R'.rb.sub⟩ e2 e3 f2 f3
      · cases e
    | _ => cases e
theorem len_spIO2 (h : spIO2 K m vs H Q E) {k : Nat} (hm : ∀ ps r, m ps = some r → ps.length = k) : vs.length = k := by
  obtain ⟨ps, F, a, c, p, q, p', q', s, rp, ac, w, hn, w2, hn2, e, P⟩ := h
  rw [rp.1]; exact hm ps _ e
theorem RE.ioUp2 {F' H' : Hp} {σ : St} {ρ : Rho} {p' q' : PV} {i j : Nat} (R : RE K C.toCf F H σ ρ) (ij : i ≠ j) (e : ρ[i]? = some (some (.ow p))) (ea : σ[i]? = some (some (.ref a))) (f0 : ρ[j]? = some (some (.ow q))) (fc : σ[j]? = some (some (.ref c)))
    (u : IoUp2 a c F H F' H') (w : Own K F' H' a p') (hn : F' a = none) (w2 : Own K F' H' c q') (hn2 : F' c = none) : RE K C.toCf F' H' σ ((ρ.set i (some (.ow p'))).set j (some (.ow q'))) := by
  obtain ⟨a1, e1, e2, e3, e4⟩ := R.ow i p e
  rw [ea] at e1
  cases e1
  obtain ⟨c1, g1, g2, g3, g4⟩ := R.ow j q f0
  rw [fc] at g1
  cases g1
  have own : ∀ {b : Addr}, b ≠ a → b ≠ c → ∀ {x : PV}, Own K F H b x → F b = none → Own K F' H' b x ∧ F' b = none := fun {b} ha hc {x} ox fb => by
    refine ⟨ox.up u.ff fun o q => u.hb b o q ha hc, ?_⟩
    cases hF : F' b with
    | none => rfl
    | some o =>
      obtain ⟨ob, eob⟩ := ox.ne
      rcases u.fr b o hF with z | z | ⟨ys, z⟩
      · rw [fb] at z; cases z
      · rw [eob] at z; cases z
      · subst z
        have w := u.fh _ _ hF
        rw [u.hb b _ eob ha hc] at w; cases w
        exact (ox.noTup eob).elim
  have key : ∀ {k : Nat} {x : PV}, ((ρ.set i (some (Sl.ow p'))).set j (some (Sl.ow q')))[k]? = some (some (.ow x)) → (k = j ∧ x = q') ∨ (k = i ∧ x = p') ∨ (k ≠ i ∧ k ≠ j ∧ ρ[k]? = some (some (.ow x))) := fun {k x} f => by
    rcases get_set f with ⟨h1, h2⟩ | ⟨h1, h2⟩
    · cases h2; exact .inl ⟨h1.symm, rfl⟩
    · rcases get_set h2 with ⟨h3, h4⟩ | ⟨h3, h4⟩
      · cases h4; exact .inr (.inl ⟨h3.symm, rfl⟩)
      · exact .inr (.inr ⟨Ne.symm h3, Ne.symm h1, h4⟩)
  have key' : ∀ {k : Nat} {x : PV}, ((ρ.set i (some (Sl.ow p'))).set j (some (Sl.ow q')))[k]? = some (some (.ow x)) → ∃ y, ρ[k]? = some (some (.ow y)) := fun {k x} f => by
    rcases key f with ⟨rfl, _⟩ | ⟨rfl, _⟩ | ⟨_, _, h⟩
    · exact ⟨q, f0⟩
    · exact ⟨p, e⟩
    · exact ⟨x, h⟩
  refine ⟨⟨u.fh, fun b o h n => ?_, fun b o h => ?_, fun b hb => ⟨?_, (R.rb.ios b hb).2⟩⟩, by simp [R.len], fun k x f => ?_, fun k x f => ?_, fun k l x y b f f' h h' => ?_, ?_⟩
  · have h1 : b ≠ a := fun z => by
      subst z
      rcases e4 with z | z
      · exact n z
      · rw [z.2] at h; cases h
    have h2 : b ≠ c := fun z => by
      subst z
      rcases g4 with z | z
      · exact n z
      · rw [z.2] at h; cases h
    exact u.hb b o (R.rb.keep b o h n) h1 h2
  · rcases u.fr b o h with z | z
    · exact R.rb.new b o z
    · exact .inr (z.imp (fun z => R.rb.free0 z) id)
  · by_cases hba : b = a
    · subst hba; obtain ⟨o, eo⟩ := w.ne; rw [eo]; simp
    · by_cases hbc : b = c
      · subst hbc; obtain ⟨o, eo⟩ := w2.ne; rw [eo]; simp
      · cases hb' : H b with
        | none => exact absurd hb' (R.rb.ios b hb).1
        | some o => rw [u.hb b o hb' hba hbc]; simp
  · rcases get_set f with ⟨h1, h2⟩ | ⟨h1, h2⟩
    · cases h2
    · rcases get_set h2 with ⟨h3, h4⟩ | ⟨h3, h4⟩
      · cases h4
      · obtain ⟨v, k1, k2⟩ := R.sh k x h4
        exact ⟨v, k1, k2.up u.ff⟩
  · rcases key f with ⟨rfl, rfl⟩ | ⟨rfl, rfl⟩ | ⟨k1, k2, h⟩
    · exact ⟨c, fc, w2, hn2, g4⟩
    · exact ⟨a, ea, w, hn, e4⟩
    · obtain ⟨b, h1, h2, h3, h4⟩ := R.ow k x h
      have ha : b ≠ a := fun z => by subst z; exact k1 (R.dis i k p x b e h ea h1).symm
      have hc : b ≠ c := fun z => by subst z; exact k2 (R.dis j k q x b f0 h fc h1).symm
      exact ⟨b, h1, (own ha hc h2 h3).1, (own ha hc h2 h3).2, h4⟩
  · obtain ⟨y1, k1⟩ := key' f
    obtain ⟨y2, k2⟩ := key' f'
    exact R.dis k l y1 y2 b k1 k2 h h'
  · obtain ⟨P, d⟩ := R.dd
    have na : ∀ k b, P k b → b ≠ a := fun k b z e' => by subst e'; exact d.ow k i p b z e ea
    have nc : ∀ k b, P k b → b ≠ c := fun k b z e' => by subst e'; exact d.ow k j q b z f0 fc
    refine ⟨P, fun k b z => ?_, d.dis, fun k l x b z f h => ?_, fun k x f => ?_⟩
    · obtain ⟨a1, ⟨o', a2, a3⟩, a4⟩ := d.own k b z
      have hb' := u.hb b _ a2 (na k b z) (nc k b z)
      refine ⟨?_, ⟨o', hb', a3⟩, a4⟩
      cases hF : F' b with
      | none => rfl
      | some o =>
        rcases u.fr b o hF with w | w | ⟨ys, w⟩
        · rw [a1] at w; cases w
        · rw [a2] at w; cases w
        · subst w
          have w := u.fh _ _ hF
          rw [hb'] at w; cases w
          exact absurd rfl (a3 ys)
    · obtain ⟨y, k1⟩ := key' f
      exact d.ow k l y b z k1 h
    · rcases get_set f with ⟨h1, h2⟩ | ⟨h1, h2⟩
      · cases h2
      · rcases get_set h2 with ⟨h3, h4⟩ | ⟨h3, h4⟩
        · cases h4
        · obtain ⟨w', k1, k2⟩ := d.dp k x h4
          exact ⟨w', k1, k2.up u.ff (fun b o z q => u.hb b o q (na k b z) (nc k b z)) fun b ys q => u.hb b _ q (fun z => by subst z; exact e2.noTup q) fun z => by subst z; exact g2.noTup q⟩
noncomputable def mConsO2 (i j : Nat) (g : Fn (List PV)) : Fn (List PV) := fun ρ => match ownAt i ρ, ownAt j ρ with
  | some p, some q => bnd (g ρ) fun l => some (.ok (p :: q :: l))
  | _, _ => none
noncomputable def mIO2 (i j : Nat) (m : List PV → Option (Res PV)) (g : Fn (List PV)) : Sn := fun ρ => bndS (mConsO2 i j g ρ) fun l => match m l with
  | some (.ok (.tup [p', q'])) => some (.nx ((ρ.set i (some (.ow p'))).set j (some (.ow q'))))
  | _ => none
theorem ms_io2 {i j : Nat} {ts : TA} {g : Fn (List PV)} {m : List PV → Option (Res PV)} (ij : i ≠ j) (h : MA K C ts g) : MS K C (tDrop (tCall (spIO2 K m) [] C.E (tCons (tVar i) (tCons (tVar j) ts)))) (mIO2 i j m g) := by
  intro F H σ ρ D o R e P
  unfold mIO2 mConsO2 at e
  cases hp : ownAt i ρ with
  | none => rw [hp] at e; cases e
  | some p =>
  cases hq : ownAt j ρ with
  | none => rw [hp, hq] at e; cases e
  | some q =>
  rw [hp, hq] at e
  have ep := ownAt_eq hp
  have eq := ownAt_eq hq
  obtain ⟨a, ea, _⟩ := R.ow i p ep
  obtain ⟨c, ec, _⟩ := R.ow j q eq
  refine ⟨_, ea, _, ec, ?_⟩
  rcases bndS_inv e with ⟨z, e1, rfl⟩ | ⟨l, e1, e2⟩
  · rcases bnd_inv e1 with ⟨z', e3, ez⟩ | ⟨l, e3, e4⟩
    · cases ez; exact h F H σ ρ _ _ R e3 P
    · cases e4
  · rcases bnd_inv e1 with ⟨z', e3, ez⟩ | ⟨l', e3, e4⟩
    · cases ez
    cases e4
    refine h F H σ ρ _ _ R e3 fun xs F1 H1 u rr => ?_
    have R1 := R.up u
    obtain ⟨a', ea', w1, n1, _⟩ := R1.ow i p ep
    obtain ⟨c', ec', w2, n2, _⟩ := R1.ow j q eq
    rw [ea] at ea'; cases ea'
    rw [ec] at ec'; cases ec'
    have ac : a ≠ c := fun z => by subst z; exact ij (R.dis i j p q a ep eq ea ec)
    split at e2
    · rename_i p' q' hm
      cases e2
      refine ⟨p :: q :: l', F1, a, c, p, q, p', q', u.fh, ⟨by simp [rr.1], rfl, rfl, rfl, rfl, fun k x r hk ex er => ?_⟩, ac, w1, n1, w2, n2, hm, fun F2 H2 u2 o1 m1 o2 m2 => ?_⟩
      · obtain ⟨k, rfl⟩ : ∃ k', k = k' + 2 := ⟨k - 2, by omega⟩
        exact rr.2 k x r (by simpa using ex) (by simpa using er)
      · exact P F2 H2 σ (u.ff.trans u2.ff) (R1.ioUp2 ij ep ea eq ec u2 o1 m1 o2 m2)
    · cases e2
theorem msk_dput {k i : Nat} {te tb : TE} {fe fk : Fn PV} (he : MJ K C (aF K) te fe) (hk : MJ K C (aF K) tb fk) : MSk K C k (sDPut (tVar i) tb te) (mDPut i fe fk) := by
  intro F H σ ρ D o R e P
  refine he.runK R e P fun p v F1 H1 hk1 u a => ?_
  split at hk1
  case h_2 => cases hk1
  rename_i d hd
  obtain ⟨b, g1, _⟩ := R.ow i _ (ownAt_eq hd)
  refine ⟨_, g1, hk.runK (R.up u) hk1 (P.up u.ff) fun kk w F2 H2 hk2 u2 rk => ?_⟩
  split at hk2
  case h_2 => cases hk2
  rename_i d' hd'
  cases hk2
  have R2 := R.up (u.trans u2)
  obtain ⟨a', k1, k2, _⟩ := R2.ow i _ (ownAt_eq hd)
  rw [g1] at k1
  cases k1
  obtain ⟨ob, g, w'⟩ := dPut_ok u2.fh k2 rk (Rep.up a u2.ff) hd'
  exact ⟨b, _, rfl, g, P F2 _ σ (u.trans u2).ff (R2.write (ownAt_eq hd) g1 w') rfl⟩
theorem msk_while {k : Nat} {c : TT} {fc : Fn Bool} {f : Sn} (n : Nat) (hc : MT K C c fc) (hb : MSk K C k t f) : MSk K C k (tWhile c t) (wloop fc f n) := by
  intro F H σ ρ D o R e P
  refine ⟨fun m σ' H' => ∃ F' ρ', Same F F' ∧ RE K C.toCf F' H' σ' ρ' ∧ σ'[k]? = σ[k]? ∧ wloop fc f m ρ' = some o, ⟨n, F, ρ, Same.refl _, R, rfl, e⟩, ?_⟩
  rintro m σ' H' ⟨F', ρ', s, R', kk, e'⟩
  cases m with
  | zero => cases e'
  | succ m =>
    refine hc.runK R' e' (P.up s) fun b F1 H1 hk u => ?_
    have sF : Same F F1 := s.trans u.ff
    have R1 := R'.up u
    cases b with
    | false =>
      rw [if_neg (by decide)] at hk ⊢
      cases hk
      exact P F1 H1 σ' sF R1 kk
    | true =>
      rw [if_pos rfl] at hk ⊢
      refine ⟨fun σ2 H2 => ∃ F2 ρ2, Same F F2 ∧ RE K C.toCf F2 H2 σ2 ρ2 ∧ σ2[k]? = σ[k]? ∧ wloop fc f m ρ2 = some o, fun σ2 H2 ⟨F2, ρ2, s2, R2, k2, e2⟩ => ⟨m, Nat.lt_succ_self _, F2, ρ2, s2, R2, k2, e2⟩, ?_⟩
      split at hk
      · rename_i ρ2 h2
        exact hb F1 H1 σ' ρ' _ _ R1 h2 fun F3 H3 σ3 s3 R3 k3 => ⟨F3, ρ2, sF.trans s3, R3, k3.trans kk, hk⟩
      · rename_i ρ2 h2
        exact hb F1 H1 σ' ρ' _ _ R1 h2 fun F3 H3 σ3 s3 R3 k3 => ⟨F3, ρ2, sF.trans s3, R3, k3.trans kk, hk⟩
      · rename_i ρ2 h2
        cases hk
        exact hb F1 H1 σ' ρ' _ _ R1 h2 fun F3 H3 σ3 s3 R3 k3 => P F3 H3 σ3 (sF.trans s3) R3 (k3.trans kk)
      · rename_i n1 n2 n3
        cases o with
        | nx ρ2 => exact absurd hk (n1 ρ2)
        | ct ρ2 => exact absurd hk (n2 ρ2)
        | bk ρ2 => exact absurd hk (n3 ρ2)
        | rt p => exact hb F1 H1 σ' ρ' _ _ R1 hk (POk.up (D := D) (c := σ[k]?) P sF)
        | ro p => exact hb F1 H1 σ' ρ' _ _ R1 hk (POk.up (D := D) (c := σ[k]?) P sF)
        | rd p => exact hb F1 H1 σ' ρ' _ _ R1 hk (POk.up (D := D) (c := σ[k]?) P sF)
        | ex z => exact hb F1 H1 σ' ρ' _ _ R1 hk (PX.up P sF)
end
end L2.MP

namespace L2
open PySem PySem.Spec PyProof PyProof.Rows
noncomputable def srt (ns : List Int) : List Int := ns.mergeSort fun a b => decide (a ≤ b)
theorem srt_perm (ns : List Int) : (srt ns).Perm ns := List.mergeSort_perm ns _
theorem srt_sorted (ns : List Int) : (srt ns).Pairwise (· ≤ ·) := by
  have := List.pairwise_mergeSort (le := fun a b : Int => decide (a ≤ b)) (fun a b c h1 h2 => by simp at h1 h2 ⊢; omega) (fun a b => by simp; omega) ns
  exact this.imp fun h => by simpa using h
theorem sorted_uniq : ∀ {l m : List Int}, l.Perm m → l.Pairwise (· ≤ ·) → m.Pairwise (· ≤ ·) → l = m
  | [], m, p, _, _ => p.nil_eq
  | a :: l, [], p, _, _ => absurd p.eq_nil (by simp)
  | a :: l, b :: m, p, hl, hm => by
    have hab : a = b := by
      have h1 : b ∈ a :: l := p.symm.subset List.mem_cons_self
      have h2 : a ∈ b :: m := p.subset List.mem_cons_self
      have l1 := (List.pairwise_cons.mp hl).1
      have m1 := (List.pairwise_cons.mp hm).1
      rcases List.mem_cons.mp h1 with e | h1
      · exact e.symm
      · rcases List.mem_cons.mp h2 with e | h2
        · exact e
        · have := l1 b h1; have := m1 a h2; omega
    subst hab
    rw [sorted_uniq (List.Perm.cons_inv p) (List.pairwise_cons.mp hl).2 (List.pairwise_cons.mp hm).2]
theorem vals_ints_of {vs : List Value} {ns : List Int} (h : IntsAre vs ns) : Vals (ns.map V.int) vs := by
  induction h with
  | nil => exact .nil
  | cons n t _ ih => exact .cons ⟨t, rfl⟩ ih
noncomputable def rSort (K : PySem.W.Frag) : List V → Hp → VK → Prop := fun xs H Q => ∃ p ns, xs = [.ref p] ∧ SqL K H p (ns.map V.int) ∧ ns.length < 64 ∧ ∀ l, H l = none → Q (.ref l) (upd H l (.lst ((srt ns).map V.int)))
section
variable {X : Cx}
theorem call_sorted : CallR X (.builtin "sorted") (rSort X.K) := by
  intro pins s σ H xs us Q I rv h
  obtain ⟨p, ns, rfl, hq, h64, q⟩ := h
  obtain ⟨u, rfl, ru⟩ := rv.one
  cases ru
  obtain ⟨its, r, pl, hz⟩ := I.list hq
  have hi := MP.ints_are r
  have hl : its.length = ns.length := by have := r.length; simpa using this.symm
  refine sorted_ints pl.isList hi (by omega) fun out ns' a1 a2 a3 => ?_
  obtain ⟨e, he⟩ := sortedAll_at s.heap its out
  have en : ns' = srt ns := sorted_uniq (a2.trans (srt_perm ns).symm) a3 (srt_sorted ns)
  subst en
  have fresh : H (s.heap.objs.size + 1) = none := I.hok.fresh (Nat.le_succ _)
  refine ⟨.ref (s.heap.objs.size + 1), upd H (s.heap.objs.size + 1) (.lst ((srt ns).map V.int)), I.laid (t' := s.toks) (fun b o => sortedAll_old) (Nat.le_succ _) ⟨?_, out.toList, e, vals_ints_of a1, by rw [Array.toArray_toList]; exact he⟩, rfl, q _ fresh⟩
  rw [List.length_map, (srt_perm ns).length_eq]
  exact Nat.le_trans (Nat.le_of_lt h64) (by decide)
end
namespace MP
noncomputable def opSort (l : List PV) : Option (Res PV) := match asInts l with
  | some ns => if ns.length < 64 then some (.ok (.lst ((srt ns).map .int))) else none
  | none => none
section
variable {K : PySem.W.Frag} {C : Cg}
theorem r_sort : R1O K C (aV K) (rSort K) opSort := by
  intro F H x a res Q s ha e P
  unfold opSort at e
  cases h : asInts a with
  | none => rw [h] at e; cases e
  | some ns =>
    rw [h] at e
    have e : (if ns.length < 64 then some (Res.ok (PV.lst ((srt ns).map .int))) else none) = some res := e
    split at e
    · rename_i h64
      cases e
      obtain ⟨b, xs, rfl, h1, r1⟩ := ha
      have ex : xs = ns.map V.int := asInts_eq h r1
      subst ex
      exact ⟨b, ns, rfl, h1, h64, fun l hl => P l F _ (Up.newU s hl) hl (s.free hl) ⟨_, upd_same, Reps.of_ints _⟩⟩
    · cases e
end
end MP
end L2

namespace L2
open PySem PySem.Spec PyProof PyProof.Rows
noncomputable def Itp (a : Addr) (raw : Obj) (kvs : List (Key × V)) : It :=
  ⟨fun i H => H a = some (.frz raw (.dK kvs)) ∧ i < kvs.length, fun i H x H' => ∃ p kv, H p = none ∧ kvs[i]? = some kv ∧ x = .ref p ∧ H' = upd H p (.tup [kV kv.1, kv.2]), fun i H => H a = some (.frz raw (.dK kvs)) ∧ i = kvs.length⟩
theorem kv_got {P : Program} {w : World} {kvs : List (Key × V)} {vs : List (Key × Value)} (r : KV kvs vs) {i : Nat} {p : Key × V} (e : kvs[i]? = some p) : ∃ u, vs[i]? = some (p.1, u) ∧ RelV p.2 u := by
  induction r generalizing i with
  | nil => cases i <;> cases e
  | @cons a b as bs h t ih =>
    cases i with
    | zero =>
      cases e
      obtain ⟨b1, b2⟩ := b
      obtain ⟨h1, h2⟩ := h
      exact ⟨b2, by rw [List.getElem?_cons_zero, h1], h2⟩
    | succ i => rw [List.getElem?_cons_succ] at e; obtain ⟨u, q1, q2⟩ := ih e; exact ⟨u, by rw [List.getElem?_cons_succ]; exact q1, q2⟩
theorem turn_items {P : Program} {w : World} {K : PySem.W.Frag} {elts : List Expr} {x1 : Nat} {pos : Pos} (a it : Addr) (raw : Obj) (kvs : List (Key × V)) {es : Array DictEntry} {ep : Nat} (hd : raw.data = .dict es ep) :
    Turn P w K (.Tuple elts x1 pos) (Itp a raw kvs) [it] it (fun i h => ∃ ok ov, IsItemIter h it a i kvs.length ep ok ov) where
  mem := by simp
  obj := fun i h st b hb => by
    have e : b = it := by simpa using hb
    subst e
    obtain ⟨ok, ov, e⟩ := st
    exact ⟨_, e, fun v z => by cases z⟩
  keep := fun i h h' st k => by
    obtain ⟨ok, ov, e⟩ := st
    exact ⟨ok, ov, k it (by simp) _ e⟩
  item := by
    intro X hP hw hK hc i pins s σ H E I hf st hg
    subst hP hw hK
    obtain ⟨e, hi⟩ := hg
    obtain ⟨ok, ov, ei⟩ := st
    obtain ⟨f0, f1, f2, f3, f4, f5⟩ := hf it (by simp)
    obtain ⟨_, vs, kv, dd⟩ := held_at I.hok e hd
    have hl := kv.length
    obtain ⟨p, hp⟩ : ∃ p, kvs[i]? = some p := ⟨_, List.getElem?_eq_getElem hi⟩
    obtain ⟨u, hu, ru⟩ := kv_got (P := X.prog) (w := X.w) kv hp
    refine wpAny_pyNext_items_item (knd := mixKind X.prog X.w) (by rw [← hl]; exact ei) dd hu fun key h3 hk e3 n3 sz3 k3 => ?_
    refine ⟨_, rfl, wpAny_letOwnedTupleGo_items e3 fun h4 e4 s4 => ?_⟩
    have ilt : it < s.heap.objs.size := Heap.lt_size ei
    have hT2 : IsPair h4 s.heap.objs.size key u := (s4.2 _ (Nat.ne_of_gt ilt)).trans n3
    refine ⟨.ref s.heap.objs.size, upd H s.heap.objs.size (.tup [kV p.1, p.2]), I.turnedNew (ch := [it]) (fun b' o hb q => ?_) hf (Nat.le_refl _) ⟨by show 2 ≤ sizeLine; decide, [key, u], .cons (key_rel hk) (.cons ru .nil), IsTupN.mk hT2⟩, rfl, ⟨_, p, I.hok.fresh (Nat.le_refl _), hp, rfl, rfl⟩, ⟨key, u, by rw [hl]; exact e4⟩, fun b' hb => ?_⟩
    · have q1 : b' ≠ it := fun e => hb (by simp [e])
      exact (s4.2 b' q1).trans (k3 b' o q1 q)
    · have e : b' = it := by simpa using hb
      subst e
      rw [upd_ne (Nat.ne_of_lt ilt)]
      exact f0
  done := by
    intro X hP hw hK hc i pins s σ H E I hf st hg
    subst hP hw hK
    obtain ⟨e, hi⟩ := hg
    obtain ⟨ok, ov, ei⟩ := st
    obtain ⟨_, vs, kv, dd⟩ := held_at I.hok e hd
    have hl := kv.length
    refine wpAny_pyNext_items_end (knd := mixKind X.prog X.w) (I.ok.hd hc) (by rw [← hl]; exact ei) dd (by rw [List.getElem?_eq_none_iff]; omega) fun h' k => ⟨rfl, ?_⟩
    exact I.turnedL (t' := s.toks) (ch := [it]) (fun b' o hb q => k b' o (fun e => hb (by simp [e])) q) hf
  self := fun A i s Q E st h => by
    obtain ⟨ok, ov, e⟩ := st
    exact PySem.W.kcp_self e h
noncomputable def iItems (tl : TE) : TI := fun σ H R => tl σ H fun x H1 => ∃ a raw kvs, x = .ref a ∧ H1 a = some (.frz raw (.dK kvs)) ∧ R (Itp a raw kvs) H1
theorem pi_items {X : Cx} {o : Expr} {apos cpos tpos : Pos} {elts : List Expr} {x1 : Nat} {tl : TE} (hl : PE X o tl) (hbase : attributeBase o "items" X.env (eval o X.env) = eval o X.env := by rfl) (hline : (apos.endLine == cpos.line) = true := by rfl) :
    PI X (.Tuple elts x1 tpos) (.Call (.Attribute o "items" apos) [] [] cpos) (iItems tl) := by
  intro pins s σ H R I h
  refine wpAny_Call_method (T := "dict") (id := "dict.items") hbase rfl hline PySem.F.plainAttrs_dict PySem.F.slot_dict_items PySem.F.type_dict_items (thn (hl pins s σ H _ I h) fun u s1 ⟨x, H1, I1, rx, q1⟩ => ?_)
  obtain ⟨a, raw, kvs, e, ha, q⟩ := q1
  subst e
  obtain rfl : u = Value.ref a := rx
  obtain ⟨t1, t2, _⟩ := isD_at I1 (.inl ⟨kvs, .inr ⟨raw, ha⟩⟩)
  refine ⟨t1, t2, ?_⟩
  obtain ⟨es, ep, hd⟩ : ∃ es ep, raw.data = .dict es ep := by
    obtain ⟨hr, _, hs, vs, kv, o, es', ep', h1, h2, h3, h4⟩ := (show ObjOk X.prog X.w H1 s1.heap a (.frz raw (.dK kvs)) from I1.hok a _ ha)
    rw [hr] at h1
    cases h1
    exact ⟨_, _, h3⟩
  obtain ⟨hs, vs, kv, dd⟩ := held_at I1.hok ha hd
  show wpAny _ _ (callWith cpos (.builtin "dict.items") [.ref a] [] []) _ _ s1
  refine method_meetsIn PySem.F.slot_dict_items PySem.F.entry_dict_items rfl (PySem.evalArgs_none ⟨rfl, t1, PySem.F.args_dict_items_1 _, _, meets_dict_items (mixKind X.prog X.w) a hs, ⟨vs, Heap.DictAt.dictOf dd⟩, ?_⟩)
  have hsz : (s1.heap.push { cls := .type "dict_items", data := .fields #[.ref a] }).objs.size = s1.heap.objs.size + 1 := Heap.size_push ..
  refine wpAny_pyIter_items (knd := mixKind X.prog X.w) (d := a) (kvs := vs) (ep := ep) ⟨_, Heap.get?_push_size _ rfl, rfl, rfl⟩ (dd.push _) ?_
  refine ⟨(s1.heap.push { cls := .type "dict_items", data := .fields #[.ref a] }).objs.size, [(s1.heap.push { cls := .type "dict_items", data := .fields #[.ref a] }).objs.size], _, _, H1, rfl, I1.kept (t' := s1.toks) fun b o e => Heap.get?_push_of_some _ (Heap.get?_push_of_some _ e), turn_items a _ raw kvs hd, ⟨.none, .none, ?_⟩, fun b hb => ?_, q⟩
  · rw [kv.length]
    exact Heap.get?_push_size _ rfl
  · have e : b = s1.heap.objs.size + 1 := by simpa [hsz] using hb
    subst e
    exact I1.fpOk (Nat.le_succ _) (I1.hok.fresh (Nat.le_succ _))
namespace MP
noncomputable def itemsP (l : List (Key × PV)) : List PV := l.map fun kv => .tup [keyP kv.1, kv.2]
noncomputable def asDItems : PV → Option (Res (List PV))
  | .dk l => some (.ok (itemsP l))
  | _ => none
section
variable {K : PySem.W.Frag} {C : Cg}
theorem mih_items (i : Nat) : MIHh K C i (iItems (tVar i)) (m1 asDItems (mV i)) := by
  intro F H σ ρ R' r R hh e P
  rcases bnd_inv e with ⟨z, e1, rfl⟩ | ⟨p, e1, hk⟩
  · unfold mV at e1
    split at e1
    · cases e1
    · cases e1
  obtain ⟨a, raw, u, ev, fa, hu⟩ := hh
  have hp : ρ[i]? = some (some (.sh p)) := by
    unfold mV at e1
    split at e1
    · rename_i q hq; cases e1; exact hq
    · cases e1
  match p, hk with
  | .dk l, hk =>
    cases hk
    obtain ⟨v, ev', rv⟩ := R.sh i _ hp
    rw [ev] at ev'
    cases ev'
    cases rv with
    | @dk _ xs _ h hl hr =>
      have hx : u = .dK xs := by
        rcases h with h | ⟨o, h⟩
        · rw [fa] at h; cases h
        · rw [fa] at h; cases h; rfl
      subst hx
      have len : xs.length = l.length := by have := congrArg List.length hl; simpa using this
      refine ⟨_, ev, a, raw, xs, rfl, R.rb.sub _ _ fa, P _ F H (Up.refl R.rb.sub) ⟨fun F' H' s s' => ?_, fun j F' H' hj s s' => ?_, fun j F' H' x H'' hj s s' y => ?_⟩⟩
      · exact ⟨s' _ _ (s _ _ fa), by unfold itemsP; rw [List.length_map]; exact len.symm⟩
      · refine ⟨s' _ _ (s _ _ fa), ?_⟩
        unfold itemsP at hj
        rw [List.length_map] at hj
        omega
      · obtain ⟨p, kv, hp, hkv, rfl, rfl⟩ := y
        have hl2 : (l.map (·.1))[j]? = some kv.1 := by rw [← hl, List.getElem?_map, hkv]; rfl
        rw [List.getElem?_map] at hl2
        cases q : l[j]? with
        | none => rw [q] at hl2; cases hl2
        | some w =>
          rw [q] at hl2
          have ew : w.1 = kv.1 := Option.some.inj hl2
          have un := Up.new (o := .tup [kV kv.1, kv.2]) s' hp
          refine ⟨_, .tup [keyP w.1, w.2], un, ?_, .tup upd_same rfl fun n x p' hx hp' => ?_⟩
          · unfold itemsP
            rw [List.getElem?_map, q]
            rfl
          · match n with
            | 0 => simp at hx hp'; subst hx hp'; rw [ew]; exact key_rep
            | 1 => simp at hx hp'; subst hx hp'; exact (hr j _ _ hkv q).up (s.trans un.ff)
            | n + 2 => simp at hx
end
end MP
end L2

namespace L2
open PySem PySem.Spec PyProof PyProof.Rows
noncomputable def kInts : List Key → Option (List Int)
  | [] => some []
  | .inl n :: ks => (kInts ks).map (n :: ·)
  | .inr _ :: _ => none
theorem kInts_length : ∀ {ks : List Key} {ns : List Int}, kInts ks = some ns → ns.length = ks.length
  | [], ns, e => by cases e; rfl
  | .inl n :: ks, ns, e => by
    simp only [kInts, Option.map_eq_some_iff] at e
    obtain ⟨ms, e, rfl⟩ := e
    simp [kInts_length e]
  | .inr _ :: _, ns, e => by cases e
theorem ints_of_keys {P : Program} {w : World} : ∀ {ks : List Key} {ns : List Int} {vs : List Value}, kInts ks = some ns → vs.length = ks.length → (∀ (j : Nat) v, vs[j]? = some v → ∃ k, ks[j]? = some k ∧ (mixKind P w).is k v = true) → IntsAre vs ns
  | [], ns, vs, e, hl, h => by
    cases e
    cases vs with
    | nil => exact .nil
    | cons v vs => cases hl
  | .inl n :: ks, ns, vs, e, hl, h => by
    simp only [kInts, Option.map_eq_some_iff] at e
    obtain ⟨ms, e, rfl⟩ := e
    cases vs with
    | nil => cases hl
    | cons v vs =>
      obtain ⟨k, e0, hk⟩ := h 0 v rfl
      cases e0
      obtain ⟨t, rfl⟩ : RelV (kV (.inl n)) v := key_rel hk
      exact .cons n t (ints_of_keys (P := P) (w := w) e (by simpa using hl) fun j v hv => h (j + 1) v hv)
  | .inr _ :: _, ns, vs, e, hl, h => by cases e
theorem sortedAt_old {h : Heap} {vs : List Value} {out : Array Value} {b : Addr} {o : Obj} (hb : h.get? b = some o) : (sortedHeap (h.push (seqObj "list" vs.toArray 0)) h.objs.size vs out).get? b = some o := by
  have hlt : b < h.objs.size := Heap.lt_size hb
  rw [sortedHeap_old (Nat.ne_of_lt hlt) (by rw [size_push']; exact Nat.lt_succ_of_lt hlt)]
  exact Heap.get?_push_of_some _ hb
noncomputable def rSortD : List V → Hp → VK → Prop := fun xs H Q => ∃ p kvs ns, xs = [.ref p] ∧ Rd H p (.dK kvs) ∧ kInts (kvs.map (·.1)) = some ns ∧ ns.length < 64 ∧ ∀ l, H l = none → Q (.ref l) (upd H l (.lst ((srt ns).map V.int)))
section
variable {X : Cx}
theorem call_sortedD (hc : X.calm = true) : CallR X (.builtin "sorted") rSortD := by
  intro pins s σ H xs us Q I rv h
  obtain ⟨p, kvs, ns, rfl, e, hk, h64, q⟩ := h
  obtain ⟨u, rfl, ru⟩ := rv.one
  cases ru
  obtain ⟨z, hd, vs, rel, dd⟩ := dk_rd I.hok e
  obtain ⟨o, es, ep, d1, d2, d3, d4⟩ := dd
  have hl := rel.length
  have hn : ns.length = kvs.length := by have := kInts_length hk; simpa using this
  refine Calls.call_function_entry kind_sorted plain_sorted entry_sorted (args_sorted1 _) ?_
  unfold Builtin.«sorted»
  refine wpAny_bind (m := checkCount "sorted" 1 1 _) (wpAny_pure ?_)
  refine wpAny_bind (PySem.W.kdu_collect (PySem.W.kdl_dict (knd := mixKind X.prog X.w) (kvs := vs) (ep := ep) hd) (I.ok.hd hc) ⟨o, es, d1, d2, d3, d4⟩ (by omega) fun h' tk acc hold hacc => ?_)
  have hla : acc.toList.length = vs.length := by rw [Array.length_toList]; exact hacc.1
  have hia : IntsAre acc.toList ns := ints_of_keys (P := X.prog) (w := X.w) hk (by rw [hla, List.length_map, hl]) fun j v hv => by
    obtain ⟨k, x, q1, q2⟩ := hacc.2 j v (by rw [← Array.getElem?_toList]; exact hv)
    refine ⟨k, ?_, q2⟩
    rw [rel.keys, List.getElem?_map, q1]; rfl
  refine wpAny_bind (wpAny_newList ?_ (by rw [hla]; omega))
  have hoL : (h'.push (seqObj "list" acc.toList.toArray 0)).get? h'.objs.size = some (seqObj "list" acc.toList.toArray 0) := Heap.get?_push_size _ rfl
  show wpAny _ _ _ _ _ { s with heap := h'.push (seqObj "list" acc.toList.toArray 0), toks := tk }
  refine wpAny_bind (wpAny_holding (wpAny_call_entry slot_list_sort ⟨_, hoL, rfl⟩ entry_list_sort (list_sort_tree hoL hia (by omega) fun out ns' a1 a2 a3 => ⟨_, rfl, ?_⟩) (args_list_sort _)))
  refine wpAny_pure ⟨_, rfl, ?_⟩
  obtain ⟨e', he⟩ := sortedHeap_at (out := out) hoL
  have en : ns' = srt ns := sorted_uniq (a2.trans (srt_perm ns).symm) a3 (srt_sorted ns)
  subst en
  have I1 : Inv X pins σ H { s with heap := h', toks := tk } := I.kept hold
  have fresh : H h'.objs.size = none := I1.hok.fresh (Nat.le_refl _)
  refine ⟨.ref h'.objs.size, upd H h'.objs.size (.lst ((srt ns).map V.int)), I1.laid (t' := tk) (fun b o => sortedAt_old) (Nat.le_refl _) ⟨?_, out.toList, e', vals_ints_of a1, by rw [Array.toArray_toList]; exact he⟩, rfl, q _ fresh⟩
  rw [List.length_map, (srt_perm ns).length_eq]
  exact Nat.le_trans (Nat.le_of_lt h64) (by decide)
end
namespace MP
noncomputable def opSortD : PV → Option (Res PV)
  | .dk l => match kInts (l.map (·.1)) with
    | some ns => if ns.length < 64 then some (.ok (.lst ((srt ns).map .int))) else none
    | none => none
  | _ => none
section
variable {K : PySem.W.Frag} {C : Cg}
theorem r_sortD : R1O K C (aD K) rSortD opSortD := by
  intro F H x a res Q s ha e P
  match a, e with
  | .dk l, e =>
    obtain ⟨_, ad, rfl, xs, h1, h2, h3⟩ := ha
    replace e : (match kInts (l.map (·.1)) with
      | some ns => if ns.length < 64 then some (Res.ok (PV.lst ((srt ns).map .int))) else none
      | none => none) = some res := e
    cases h : kInts (l.map (·.1)) with
    | none => rw [h] at e; cases e
    | some ns =>
      rw [h] at e
      have e : (if ns.length < 64 then some (Res.ok (PV.lst ((srt ns).map .int))) else none) = some res := e
      split at e
      · rename_i h64
        cases e
        exact ⟨ad, xs, ns, rfl, h1, by rw [h2]; exact h, h64, fun l' hl => P l' F _ (Up.newU s hl) hl (s.free hl) ⟨_, upd_same, Reps.of_ints _⟩⟩
      · cases e
end
end MP
end L2

namespace L2.MP
open PySem PySem.Spec PyProof.Rows
section
variable {K : PySem.W.Frag} {C : Cg} {te : TE} {F F' G H H1 H' : Hp} {σ : St} {ρ : Rho} {D : Ends} {t : TS} {f : Sn} {o : Out} {S : Addr → Prop} {v : V} {p : PV}
theorem Rep.stillN : ∀ {n : Nat} {v : V} {p : PV}, Rep K F v p → MP.stillN n p = true → (∀ b ys, F b = some (.tup ys) → G b = some (.tup ys)) → Rep K G v p
  | 0, v, p, h, hs, g => h.free hs
  | n + 1, v, p, h, hs, g => by
    cases h with
    | non => exact .non
    | bl => exact .bl
    | int => exact .int
    | str => exact .str
    | ty => exact .ty
    | tup h hl hr => exact .tup (g _ _ h) hl fun j x p a b => (hr j x p a b).stillN (n := n) (List.all_eq_true.mp hs p (List.mem_of_getElem? b)) g
    | lst => cases hs
    | dk => cases hs
    | dt => cases hs
    | exc => cases hs
    | exc0 => cases hs
theorem Dp.toG (d : Dp K F H S v p) (g : ∀ b ys, F b = some (.tup ys) → G b = some (.tup ys)) : Dp K G H S v p := by
  induction d with
  | fr h st => exact .fr (h.stillN st g) st
  | lst h hp hs dj hl _ ih => exact .lst h hp hs dj hl ih
  | tup h hs dj hl _ ih => exact .tup h hs dj hl ih
  | dk h hp hs dj hl _ ih => exact .dk h hp hs dj hl ih
  | dt h hp hs dj hl _ ih => exact .dt h hp hs dj hl ih
noncomputable def mCallT (m : List PV → Option (Res PV)) (f : Fn (List PV)) : Fn PV := fun ρ => bnd (f ρ) fun l => match m l with
  | some (.ok p) => some (.ok p)
  | _ => none
theorem md_callT {t : TA} {f : Fn (List PV)} {m : List PV → Option (Res PV)} (h : MAL K C t f) : MD K C (tCall (spD K C.XR m) [] C.E t) (mCallT m f) := by
  intro F H σ ρ Q r R e P
  refine h.run R e P fun l xs F1 H1 hk u a => ?_
  split at hk
  · rename_i p hp
    cases hk
    refine ⟨l, H1, .ok p, Same.refl _, by rw [List.append_nil]; exact a, hp, fun v F' H' S u' d n => ?_⟩
    have s1 : Same F1 H' := u.fh.trans u'.hh
    refine P v (thaw F1 H' fun _ => False) H' S ⟨u.ff.trans (thaw_same s1), u.hh.trans u'.hh, fun b o q => ?_, thaw_sub s1⟩ (d.toG fun b ys q => ?_) fun b q => ?_
    · by_cases hb : False ∨ ∃ ys, H' b = some (.tup ys)
      · rw [thaw_in hb] at q
        obtain ⟨ys, z⟩ := hb.resolve_left id
        rw [z] at q; cases q
        exact .inr (.inr ⟨ys, rfl⟩)
      · rw [thaw_out hb] at q
        exact u.fr b o q
    · have := u'.fh _ _ q
      rw [thaw_in (.inr ⟨ys, this⟩)]; exact this
    · obtain ⟨n1, n2, o, n3, n4⟩ := n b q
      refine ⟨u.hh.free n1, ?_, o, n3, n4⟩
      rw [thaw_out]
      · exact u.fh.free n1
      · rintro (z | ⟨ys, z⟩)
        · exact z
        · rw [n3] at z; cases z; exact n4 ys rfl
  · cases hk
noncomputable def mFrzD (i : Nat) (f : Sn) : Sn := fun ρ => match dpAt i ρ with
  | some p => f (ρ.set i (some (.sh p)))
  | none => none
theorem ms_frzD (i : Nat) (h : MS K C t f) : MS K C t (mFrzD i f) := by
  intro F H σ ρ D o R e P
  unfold mFrzD at e
  split at e
  · rename_i p hp
    obtain ⟨S, v, _, _, _, R'⟩ := R.frzD (dpAt_eq hp)
    exact h _ H σ _ D o R' e (P.up (thaw_same R.rb.sub))
  · cases e
noncomputable def NewO (C : Cf) (js : List Nat) (ρ : Rho) (σ : St) (H F' H' : Hp) (S : Addr → Prop) : Prop := ∀ b, S b → (H b = none ∨ ∃ i p, i ∈ js ∧ ρ[i]? = some (some (.ow p)) ∧ σ[i]? = some (some (.ref b))) ∧ F' b = none ∧ (∃ o, H' b = some o ∧ ∀ ys, o ≠ .tup ys) ∧ C.H0 b = none
noncomputable def MDo (K : PySem.W.Frag) (C : Cg) (js : List Nat) (ta : TA) (f : Fn (List PV)) : Prop :=
  ∀ F H σ ρ Q r, RE K C.toCf F H σ ρ → f ρ = some r → Pr C F (fun l => ∀ xs F' H' S, Up F H F' H' → Dps K F' H' S xs l → NewO C.toCf js ρ σ H F' H' (fun b => ∃ j, S j b) → Q xs H') r → ta σ H Q
theorem mdo_nil : MDo K C [] tNil mNil := fun F H σ ρ Q r R e P => by
  cases e
  exact P [] F H (fun _ _ => False) (Up.refl R.rb.sub) ⟨rfl, fun _ _ _ q => q.elim, fun j x p e => by simp at e⟩ fun b ⟨_, q⟩ => q.elim
theorem mdo_cons {js : List Nat} {fe : Fn PV} {fs : Fn (List PV)} {ts : TA} (h : MD K C te fe) (hs : MDo K C js ts fs) : MDo K C js (tCons te ts) (mCons fe fs) := by
  intro F H σ ρ Q r R e P
  rcases bnd_inv e with ⟨z, e1, rfl⟩ | ⟨p, e1, hk⟩
  · exact h F H σ ρ _ _ R e1 P
  refine h F H σ ρ _ _ R e1 fun v F1 H1 S u d n => ?_
  rcases bnd_inv hk with ⟨z, e2, rfl⟩ | ⟨l, e2, hk2⟩
  · exact hs F1 H1 σ ρ _ _ (R.up u) e2 (PX.up P u.ff)
  refine hs F1 H1 σ ρ _ _ (R.up u) e2 fun xs F2 H2 S2 u2 d2 n2 => ?_
  cases hk2
  have ap : ∀ b j, S b → S2 j b → False := fun b j a1 a2 => by
    obtain ⟨c0, _, o, c1, _⟩ := n b a1
    rcases (n2 b ⟨j, a2⟩).1 with c2 | ⟨i, q, _, c2, c3⟩
    · rw [c1] at c2; cases c2
    · exact R.apart c0 i q c2 c3
  refine P (v :: xs) F2 H2 (fun j b => match j with | 0 => S b | j + 1 => S2 j b) (u.trans u2) ⟨by simp [d2.1], fun i j b a1 a2 => ?_, fun j x q a1 a2 => ?_⟩ fun b ⟨j, q⟩ => ?_
  · match i, j, a1, a2 with
    | 0, 0, _, _ => rfl
    | 0, j + 1, a1, a2 => exact (ap b j a1 a2).elim
    | i + 1, 0, a1, a2 => exact (ap b i a2 a1).elim
    | i + 1, j + 1, a1, a2 => exact congrArg (· + 1) (d2.2.1 i j b a1 a2)
  · match j, a1, a2 with
    | 0, a1, a2 => cases a1; cases a2; exact d.stay u2
    | j + 1, a1, a2 => exact d2.2.2 j x q (by simpa using a1) (by simpa using a2)
  · match j, q with
    | 0, q =>
      obtain ⟨c0, c1, o, c2, c3⟩ := (n.up u2) b q
      exact ⟨.inl c0, c1, ⟨o, c2, c3⟩, R.rb.free0 c0⟩
    | j + 1, q =>
      obtain ⟨c1, c2⟩ := n2 b ⟨j, q⟩
      exact ⟨c1.imp (fun z => u.hh.free z) id, c2⟩
noncomputable def PV.shallow : PV → Bool
  | .lst l => l.all PV.still
  | .dk l => l.all fun kv => kv.2.still
  | .dt l => l.all fun kv => kv.2.still
  | _ => false
noncomputable def mOwnD (i : Nat) : Fn PV := fun ρ => match ownAt i ρ with
  | some p => if p.shallow = true then some (.ok p) else none
  | none => none
theorem Own.dp {a : Addr} (w : Own K F H a p) (h : p.shallow = true) : Dp K F H (fun b => b = a) (.ref a) p := by
  cases p with
  | lst l =>
    obtain ⟨xs, e2, e3⟩ := w
    exact .lst (S := fun _ _ => False) e2 rfl (fun j b q => q.elim) (fun i j b q => q.elim) e3.1 fun j x p e4 e5 => .fr (e3.2 j x p e4 e5) (List.all_eq_true.mp h p (List.mem_of_getElem? e5))
  | dk l =>
    obtain ⟨xs, e2, e3, e4⟩ := w
    exact .dk (S := fun _ _ => False) e2 rfl (fun j b q => q.elim) (fun i j b q => q.elim) e3 fun j x p e5 e6 => .fr (e4 j x p e5 e6) (List.all_eq_true.mp h p (List.mem_of_getElem? e6))
  | dt l =>
    obtain ⟨xs, e2, e3, e4⟩ := w
    exact .dt (S := fun _ _ => False) e2 rfl (fun j b q => q.elim) (fun i j b q => q.elim) e3 fun j x p e5 e6 => .fr (e4 j x p e5 e6) (List.all_eq_true.mp h p (List.mem_of_getElem? e6))
  | _ => cases h
theorem mdo_own {js : List Nat} (i : Nat) {fs : Fn (List PV)} {ts : TA} (hio : ∀ a, ¬ C.io a) (hi : i ∉ js) (hs : MDo K C js ts fs) : MDo K C (i :: js) (tCons (tVar i) ts) (mCons (mOwnD i) fs) := by
  intro F H σ ρ Q r R e P
  rcases bnd_inv e with ⟨z, e1, rfl⟩ | ⟨p, e1, hk⟩
  · unfold mOwnD at e1
    split at e1
    · split at e1 <;> cases e1
    · cases e1
  have hp : ρ[i]? = some (some (.ow p)) ∧ p.shallow = true := by
    unfold mOwnD at e1
    split at e1
    · rename_i q hq
      split at e1
      · rename_i sh; cases e1; exact ⟨ownAt_eq hq, sh⟩
      · cases e1
    · cases e1
  obtain ⟨a, ea, w, na, e4⟩ := R.ow i p hp.1
  refine ⟨_, ea, ?_⟩
  rcases bnd_inv hk with ⟨z, e2, rfl⟩ | ⟨l, e2, hk2⟩
  · exact hs F H σ ρ _ _ R e2 P
  refine hs F H σ ρ _ _ R e2 fun xs F2 H2 S2 u2 d2 n2 => ?_
  cases hk2
  obtain ⟨a', ea', w2, na2, _⟩ := (R.up u2).ow i p hp.1
  rw [ea] at ea'; cases ea'
  obtain ⟨ob, eob⟩ := w.ne
  have ap : ∀ j, S2 j a → False := fun j q => by
    rcases (n2 a ⟨j, q⟩).1 with c | ⟨k, q', hk', c2, c3⟩
    · rw [eob] at c; cases c
    · have := R.dis i k p q' a hp.1 c2 ea c3
      subst this
      exact hi hk'
  refine P (.ref a :: xs) F2 H2 (fun j b => match j with | 0 => b = a | j + 1 => S2 j b) u2 ⟨by simp [d2.1], fun i j b a1 a2 => ?_, fun j x q a1 a2 => ?_⟩ fun b ⟨j, q⟩ => ?_
  · match i, j, a1, a2 with
    | 0, 0, _, _ => rfl
    | 0, j + 1, a1, a2 => cases a1; exact (ap j a2).elim
    | i + 1, 0, a1, a2 => cases a2; exact (ap i a1).elim
    | i + 1, j + 1, a1, a2 => exact congrArg (· + 1) (d2.2.1 i j b a1 a2)
  · match j, a1, a2 with
    | 0, a1, a2 => cases a1; cases a2; exact w2.dp hp.2
    | j + 1, a1, a2 => exact d2.2.2 j x q (by simpa using a1) (by simpa using a2)
  · match j, q with
    | 0, q =>
      cases q
      obtain ⟨ob2, eob2⟩ := w2.ne
      exact ⟨.inr ⟨i, p, List.mem_cons_self, hp.1, ea⟩, na2, ⟨ob2, eob2, fun ys z => by subst z; exact w2.noTup eob2⟩, (e4.resolve_left (hio a)).2⟩
    | j + 1, q =>
      obtain ⟨c1, c2⟩ := n2 b ⟨j, q⟩
      exact ⟨c1.imp id fun ⟨k, q', hk', z⟩ => ⟨k, q', List.mem_cons_of_mem _ hk', z⟩, c2⟩
noncomputable def mRetT (fs : Fn (List PV)) : Sn := fun ρ => bndS (fs ρ) fun l => if l.length ≤ sizeLine then some (.rd (.tup l)) else none
theorem ms_retT {js : List Nat} {fs : Fn (List PV)} {ts : TA} (h : MDo K C js ts fs) : MS K C (tRet (tTup ts)) (mRetT fs) := by
  intro F H σ ρ D o R e P
  rcases bndS_inv e with ⟨z, e1, rfl⟩ | ⟨l, e1, hk⟩
  · exact h F H σ ρ _ _ R e1 P
  split at hk
  · rename_i hl
    cases hk
    refine h F H σ ρ _ _ R e1 fun xs F1 H1 S u d n => ⟨by rw [d.1]; exact hl, fun a ha => ?_⟩
    have u2 : Up F1 H1 F1 (upd H1 a (.tup xs)) := ⟨Same.refl _, same_upd ha, fun _ _ q => .inl q, fun b o q => by rw [upd_ne (fun z => by subst z; have := u.fh _ _ q; rw [ha] at this; cases this)]; exact u.fh b o q⟩
    refine P (.ref a) F1 _ (fun b => ∃ j, S j b) u.ff (R.rb.up (u.trans u2)) (.tup upd_same (fun j b q => ⟨j, q⟩) d.2.1 d.1 fun j x p a1 a2 => (d.2.2 j x p a1 a2).stay u2) fun b q => ?_
    obtain ⟨_, c1, ⟨o, c2, c3⟩, c4⟩ := n b q
    exact ⟨c1, ⟨o, u2.hh _ _ c2, c3⟩, c4⟩
  · cases hk
end
end L2.MP

namespace L2.MP
open PySem PySem.Spec PyProof PyProof.Rows
noncomputable def CMulL (i j : Int) : Prop := i.natAbs < 2 ^ 9000 ∧ j.natAbs < 2 ^ 9000
noncomputable def cMulL (i j : Int) : Bool := decide (i.natAbs < 2 ^ 9000 ∧ j.natAbs < 2 ^ 9000)
section
variable {K : PySem.W.Frag} {C : Cg}
theorem op_mulL {X : Cx} : OpR X (binaryOp .Mult) (rI CMulL fun i j => .int (i * j)) := _root_.L2.opI fun _ _ _ _ _ _ _ hc q => mul_int q (PySem.IntMulOk.of_le (PyProof.Rows.intBits_le hc.1) (PyProof.Rows.intBits_le hc.2) (by decide))
noncomputable def opMulL := MP.opI cMulL fun i j => .int (i * j)
theorem r_mulL : R2M C (aF K) (aF K) (aF K) (rI CMulL fun i j => .int (i * j)) opMulL := r_int (fun _ _ h => of_decide_eq_true (p := _ ∧ _) h) fun _ _ _ => .int
end
end L2.MP

namespace L2.MP
open PySem PySem.Spec PyProof.Rows
section
variable {K : PySem.W.Frag} {C : Cg} {te ta tb : TE} {F F1 F2 H H1 H2 : Hp} {σ : St} {ρ : Rho} {D : Ends} {t u : TS} {f g : Sn} {o : Out} {S : Addr → Prop} {v : V} {p : PV}
theorem Dp.none {b : Addr} (sb : S b) : Dp K F (upd H b (.lst [])) S (.ref b) (.lst []) :=
  .lst (S := fun _ _ => False) upd_same sb (fun _ _ z => z.elim) (fun _ _ _ z => z.elim) rfl fun j x p e1 => by simp at e1
end
end L2.MP

namespace L2
open PySem PySem.Spec PyProof PyProof.Rows
noncomputable def RawD (h : Heap) (d : Addr) (es : Array DictEntry) (ep : Nat) : Prop := ∃ o, h.get? d = some o ∧ o.ExactDict ∧ o.data = .dict es ep
section
variable {prog : Program} {w : World} {A : Around} {E : Value → Shared → Prop} {s : Shared} {h h' : Heap} {d it : Addr} {es : Array DictEntry} {ep i : Nat}
theorem RawD.step (r : RawD h d es ep) (k : ∀ o, h.get? d = some o → h'.get? d = some o) : RawD h' d es ep := by
  obtain ⟨o, e, q⟩ := r; exact ⟨o, k o e, q⟩
theorem RawD.ty (r : RawD s.heap d es ep) : s.TypeIs (.ref d) "dict" := by
  obtain ⟨o, e, c, _⟩ := r; exact ⟨o, e, c.1⟩
end
end L2
namespace L2
open PySem PySem.W PyProof.Rows
noncomputable def kEval {α : Type} (lt : Nat → Nat → Bool) : KasT α → α
  | .ret a => a
  | .ask i j k => kEval lt (k (lt i j))
noncomputable def kIn {α : Type} (n : Nat) (P : α → Prop) : KasT α → Prop
  | .ret a => P a
  | .ask i j k => i < n ∧ j < n ∧ ∀ b, kIn n P (k b)
theorem kIn.then {α β : Type} {n : Nat} {P : α → Prop} {P' : β → Prop} {f : α → KasT β} : ∀ {t : KasT α}, kIn n P t → (∀ a, P a → kIn n P' (f a)) → kIn n P' (t.bind f)
  | .ret a, h, hf => hf a h
  | .ask i j k, h, hf => ⟨h.1, h.2.1, fun b => kIn.then (h.2.2 b) hf⟩
theorem kIn.val {α : Type} {n : Nat} {P : α → Prop} {lt : Nat → Nat → Bool} : ∀ {t : KasT α}, kIn n P t → P (kEval lt t)
  | .ret _, h => h
  | .ask i j k, h => kIn.val (t := k (lt i j)) (h.2.2 (lt i j))
theorem kIn.run {α : Type} {n : Nat} {P : α → Prop} {lt : Nat → Nat → Bool} {cmp : Nat → Nat → (Bool → Shared → Prop) → Shared → Prop} {Q : α → Shared → Prop} {s : Shared} (hc : ∀ i j C, i < n → j < n → C (lt i j) s → cmp i j C s) : ∀ {t : KasT α}, kIn n P t → Q (kEval lt t) s → t.kasWp cmp Q s
  | .ret _, _, q => q
  | .ask i j k, h, q => hc i j _ h.1 h.2.1 (kIn.run hc (h.2.2 (lt i j)) q)
noncomputable def Bd (n : Nat) (p : Array Nat) : Prop := ∀ x ∈ p.toList, x < n
section
variable {n : Nat} {p : Array Nat}
theorem Bd.get (h : Bd n p) (n0 : 0 < n) (i : Nat) : p.getD i 0 < n := by
  by_cases hi : i < p.size
  · have e : p.getD i 0 = p[i] := by simp [Array.getD, hi]
    rw [e]
    exact h _ (Array.getElem_mem_toList hi)
  · have e : p.getD i 0 = 0 := by simp [Array.getD, hi]
    rw [e]; exact n0
theorem Bd.perm {q : Array Nat} (h : Bd n p) (e : q.Perm p) : Bd n q := fun x hx => h x ((Array.perm_iff_toList_perm.mp e).mem_iff.mp hx)
theorem Bd.rev (h : Bd n p) (i j : Nat) : Bd n (kas_rev p i j) := h.perm (mirror_perm _ _ _ _)
end
end L2
namespace L2
open PySem PySem.Spec PySem.W PyProof PyProof.Rows
noncomputable def PrAt (h : Heap) (v : Value) (p : Str × Int) : Prop := ∃ a o t u n, v = .ref a ∧ h.get? a = some o ∧ o.cls = .type "tuple" ∧ o.data = .seq #[.str p.1 t, .int p.2 u] n
noncomputable def ltP (p q : Str × Int) : Bool := if p.1 = q.1 then (if p.2 = q.2 then false else decide (p.2 < q.2)) else decide (p.1.cps.toList < q.1.cps.toList)
section
variable {prog : Program} {w : World} {A : Around} {E : Value → Shared → Prop} {s : Shared} {u v : Value} {p q : Str × Int}
theorem PrAt.same {h h' : Heap} (x : PrAt h v p) (k : ∀ a o, v = .ref a → h.get? a = some o → h'.get? a = some o) : PrAt h' v p := by
  obtain ⟨a, o, t, t2, n, rfl, e1, e2, e3⟩ := x
  exact ⟨a, o, t, t2, n, rfl, k a o rfl e1, e2, e3⟩
theorem PrAt.lt (hp : PrAt s.heap v p) (hq : PrAt s.heap u q) {Q : Bool → Shared → Prop} (h : Q (ltP p q) s) : wpAny (model prog w) A (keyLt' (tuples' true) v u) Q E s := by
  obtain ⟨a, o, t, t2, n, rfl, e1, e2, e3⟩ := hp
  obtain ⟨b, o', r, r2, n', rfl, f1, f2, f3⟩ := hq
  refine kat_lt e1 e3 f1 f3 (kat_cons (wpAny_eqBool_str ?_))
  by_cases c : p.1 = q.1
  · rw [decide_eq_true c]
    refine kat_yes (kat_cons (wpAny_eqBool_int ?_))
    by_cases d : p.2 = q.2
    · rw [beq_iff_eq.mpr d]
      refine kat_yes (kat_nil ?_)
      rw [show ltP p q = false by unfold ltP; rw [if_pos c, if_pos d]] at h
      exact h
    · rw [beq_eq_false_iff_ne.mpr d]
      refine kat_no ?_
      show wpAny _ _ (oneLt' false _ _) _ _ _
      rw [show ltP p q = decide (p.2 < q.2) by unfold ltP; rw [if_pos c, if_neg d]] at h
      exact kat_one _ _ (lt_int h)
  · rw [decide_eq_false c]
    refine kat_no ?_
    show wpAny _ _ (oneLt' true _ _) _ _ _
    rw [show ltP p q = decide (p.1.cps.toList < q.1.cps.toList) by unfold ltP; rw [if_neg c]] at h
    exact oneLt_str h
end
end L2
namespace L2
open PySem PySem.Spec PySem.W PyProof PyProof.Rows
theorem KT.at {H : Hp} {kvs : List (List Key × V)} {xs : List (List Key × Addr × Value)} (r : KT H kvs xs) : xs.length = kvs.length ∧ ∀ (i : Nat) k, (kvs.map (·.1))[i]? = some k → ∃ b u, xs[i]? = some (k, b, u) ∧ H b = some (.tup (k.map kV)) := by
  induction r with
  | nil => exact ⟨rfl, fun i k h => by simp at h⟩
  | @cons p q ps qs hq t ih =>
    refine ⟨by simp [ih.1], fun i k h => ?_⟩
    cases i with
    | zero =>
      have h : p.1 = k := by simpa using h
      subst h
      obtain ⟨q1, b, u⟩ := q
      exact ⟨b, u, by rw [hq.1]; rfl, hq.2.1⟩
    | succ i => exact ih.2 i k (by simpa using h)
section
variable {X : Cx}
end
namespace MP
section
variable {K : PySem.W.Frag} {C : Cg}
theorem Up.tups {F H : Hp} {l : Addr} {o : HO} (s : Same F H) (hl : H l = none) : Up F H (thaw F H fun _ => False) (upd H l o) := by
  refine ⟨thaw_same s, same_upd hl, fun b o q => ?_, (thaw_sub s).trans (same_upd hl)⟩
  by_cases hb : False ∨ ∃ ys, H b = some (.tup ys)
  · rw [thaw_in hb] at q
    obtain ⟨ys, z⟩ := hb.resolve_left id
    rw [z] at q; cases q
    exact .inr (.inr ⟨ys, rfl⟩)
  · rw [thaw_out hb] at q
    exact .inl q
end
end MP
end L2

namespace L2.MP
open PySem PySem.Spec PyProof.Rows
section
variable {K : PySem.W.Frag} {C : Cg} {te : TE}
end
end L2.MP

namespace L2.MP
open PySem PySem.Spec PyProof.Rows
section
variable {K : PySem.W.Frag} {C : Cg} {te ta tb : TE} {F F1 F2 H H1 H2 : Hp} {σ : St} {ρ : Rho} {D : Ends} {S : Addr → Prop} {v : V} {p : PV}
end
end L2.MP

namespace L2
open PySem PySem.F PySem.Spec PyProof PyProof.Rows
section
variable {prog : Program} {w : World} {A : Around} {E : Value → Shared → Prop} {s : Shared} {t : Tok} {n : Int}
noncomputable def itO (l : Addr) : Obj := { cls := .type "list_iterator", data := .fields #[.ref l, .int 0 0] }
end
end L2

namespace L2
open PySem PySem.F PySem.Spec PyProof PyProof.Rows
section
variable {M : Model} {A : Around} {E : Value → Shared → Prop} {s : Shared}
end
namespace MP
section
variable {K : PySem.W.Frag} {C : Cg} {tA : TA}
end
end MP
end L2

namespace L2
open PySem PySem.Spec PyProof PyProof.Rows
section
variable {K : Type} [DecidableEq K]
variable {prog : Program} {w : World} {knd : HeapKind prog w K} {A : Around} {E : Value → Shared → Prop} {s : Shared} {d a : Addr} {k : K} {xs : List (K × Addr × Value)} {p : Addr × Value}
end
theorem KT.drop {H : Hp} {kvs : List (List Key × V)} {xs : List (List Key × Addr × Value)} (r : KT H kvs xs) (k : List Key) : KT H (dropK kvs k) (xs.filter fun x => decide (x.1 ≠ k)) := by
  unfold KT at r ⊢
  unfold dropK
  induction r with
  | nil => exact .nil
  | @cons p q ps qs h t ih =>
    rw [List.filter_cons, List.filter_cons]
    by_cases e : p.1 = k
    · have a : ¬ decide (p.1 ≠ k) = true := by simp [e]
      have b : ¬ decide (q.1 ≠ k) = true := by simp [h.1.symm.trans e]
      rw [if_neg a, if_neg b]; exact ih
    · have e' : ¬ q.1 = k := fun z => e (h.1.trans z)
      have a : decide (p.1 ≠ k) = true := by simp [e]
      have b : decide (q.1 ≠ k) = true := by simp [e']
      rw [if_pos a, if_pos b]; exact .cons h ih
section
variable {X : Cx} {pins : List (Addr × Obj)} {σ : St} {H : Hp} {s : Shared} {a b : Addr} {kvs : List (List Key × V)} {k : List Key} {A : Around} {E : Value → Shared → Prop}
end
section
variable {X : Cx} {o e : Expr} {apos cpos : Pos} {td ty : TE}
end
namespace MP
section
variable {K : PySem.W.Frag} {C : Cg}
theorem DRep.drop {κ : Type} [DecidableEq κ] {F : Hp} {xs : List (κ × V)} {l : List (κ × PV)} (h : DRep K F xs l) (k : κ) : DRep K F (dropK xs k) (l.filter fun e => decide (e.1 ≠ k)) := by
  unfold dropK
  induction h with
  | nil => exact .nil
  | @cons a v p xs l h t ih =>
    rw [List.filter_cons, List.filter_cons]
    by_cases e : a = k
    · rw [if_neg (by simp [e]), if_neg (by simp [e])]; exact ih
    · rw [if_pos (by simp [e]), if_pos (by simp [e])]; exact .cons h ih
end
end MP
end L2

namespace L2
open PySem PySem.Spec PySem.W PyProof PyProof.Rows
section
variable {X : Cx}
end
namespace MP
section
variable {K : PySem.W.Frag} {C : Cg}
end
end MP
end L2

namespace L2.MP
open PySem PySem.Spec PyProof.Rows
section
variable {K : PySem.W.Frag} {C : Cg} {te ta tb : TE} {F F1 F2 H H1 H2 : Hp} {σ : St} {ρ : Rho} {D : Ends} {S : Addr → Prop} {v : V} {p : PV}
end
end L2.MP

namespace L2
open PySem PySem.Spec PyProof PyProof.Rows
section
variable {X : Cx} {pins : List (Addr × Obj)} {σ : St} {H : Hp} {s : Shared} {a : Addr} {kvs : List (Key × V)} {k : Key} {z : V} {u r : Value} {A : Around} {E : Value → Shared → Prop}
end
section
variable {X : Cx} {o e f : Expr} {apos cpos : Pos} {td ty tz : TE}
end
namespace MP
noncomputable def POks (K : PySem.W.Frag) (C : Cg) (F : Hp) (D : Ends) (ks : List Nat) (σ0 : St) : Out → Prop
  | .nx ρ => ∀ F' H' σ, Same F F' → RE K C.toCf F' H' σ ρ → (∀ k ∈ ks, σ[k]? = σ0[k]?) → D.nx σ H'
  | .bk ρ => ∀ F' H' σ, Same F F' → RE K C.toCf F' H' σ ρ → (∀ k ∈ ks, σ[k]? = σ0[k]?) → D.bk σ H'
  | .ct ρ => ∀ F' H' σ, Same F F' → RE K C.toCf F' H' σ ρ → (∀ k ∈ ks, σ[k]? = σ0[k]?) → D.ct σ H'
  | o => PO' K C F D o
section
variable {K : PySem.W.Frag} {C : Cg} {ks : List Nat} {te tb : TE} {F H : Hp} {σ σ0 : St} {ρ : Rho} {D : Ends} {t u : TS} {f g : Sn} {o : Out}
theorem POks.up {F1 : Hp} (h : POks K C F D ks σ0 o) (s : Same F F1) : POks K C F1 D ks σ0 o := by
  cases o with
  | nx ρ => exact fun F' H' σ a => h F' H' σ (s.trans a)
  | bk ρ => exact fun F' H' σ a => h F' H' σ (s.trans a)
  | ct ρ => exact fun F' H' σ a => h F' H' σ (s.trans a)
  | rt p => exact fun v F' H' a => h v F' H' (s.trans a)
  | ro p => exact fun v F' H' a => h v F' H' (s.trans a)
  | rd p => exact fun v F' H' S a => h v F' H' S (s.trans a)
  | ex z => exact PX.up h s
theorem POks.of {σ1 : St} (h : POks K C F D ks σ0 o) (k : ∀ i ∈ ks, σ1[i]? = σ0[i]?) : POks K C F D ks σ1 o := by
  cases o with
  | nx ρ => exact fun F' H' σ a R q => h F' H' σ a R fun i hi => (q i hi).trans (k i hi)
  | bk ρ => exact fun F' H' σ a R q => h F' H' σ a R fun i hi => (q i hi).trans (k i hi)
  | ct ρ => exact fun F' H' σ a R q => h F' H' σ a R fun i hi => (q i hi).trans (k i hi)
  | rt p => exact h
  | ro p => exact h
  | rd p => exact h
  | ex z => exact h
end
end MP
end L2

namespace L2.MP
open PySem PySem.Spec PyProof.Rows
section
variable {K : PySem.W.Frag} {F F1 F2 H H1 H2 : Hp} {S : Addr → Prop} {v : V} {p : PV}
end
section
variable {κ : Type} [DecidableEq κ]
end
section
variable {K : PySem.W.Frag} {io : Addr → Prop} {H0 F0 F H Hb F2 H2 : Hp} {σ σ2 : St} {ρ ρ2 : Rho} {P : Nat → Addr → Prop} {i g : Nat} {b : Addr} {c : List (List Key × PV)} {p : PV}
end
end L2.MP
namespace L2.MP
open PySem PySem.Spec PyProof.Rows
section
variable {K : PySem.W.Frag} {io : Addr → Prop} {H0 F0 F H F2 H2 : Hp} {σ σ2 : St} {ρ ρ2 : Rho} {i s : Nat} {a : Addr} {xs : List V} {l : List PV}
end
end L2.MP

namespace L2.TS
open PySem PySem.Spec PyProof.Rows
section
variable {prog : Program} {w : World} {A : Around} {E : Value → Shared → Prop} {s : Shared} {κ : SortKind} {D : Keyed → Prop} {r : Keyed → Nat} {st : SortSt} {left : Bool} {key x y : Keyed} {arr : Array Keyed} {base n hint : Nat}
end
end L2.TS

namespace L2.TS
open PySem PySem.Spec PyProof.Rows
section
variable {r : Keyed → Nat} {la lb out : List Keyed} {ia ib : Nat}
noncomputable def Srt (r : Keyed → Nat) (l : List Keyed) : Prop := l.Pairwise fun x y => r x < r y
structure Mg (r : Keyed → Nat) (la lb out : List Keyed) (ia ib : Nat) : Prop where
  so : Srt r out
  lt : ∀ o ∈ out, ∀ z ∈ la.drop ia ++ lb.drop ib, r o < r z
  pm : out.Perm (la.take ia ++ lb.take ib)
theorem Mg.as (h : Mg r la lb out ia ib) (sa : Srt r la) (k : Nat) (hk : ∀ x ∈ (la.drop ia).take k, ∀ y ∈ lb.drop ib, r x < r y) : Mg r la lb (out ++ (la.drop ia).take k) (ia + k) ib := by
  have sd : Srt r (la.drop ia) := List.Pairwise.sublist (List.drop_sublist _ _) sa
  have e : la.drop (ia + k) = (la.drop ia).drop k := by rw [List.drop_drop]
  refine ⟨List.pairwise_append.mpr ⟨h.so, List.Pairwise.sublist (List.take_sublist _ _) sd, fun o ho x hx => h.lt o ho x (List.mem_append.mpr (.inl (List.mem_of_mem_take hx)))⟩, fun o ho z hz => ?_, ?_⟩
  · rw [e] at hz
    rcases List.mem_append.mp ho with q | q
    · refine h.lt o q z ?_
      rcases List.mem_append.mp hz with w | w
      · exact List.mem_append.mpr (.inl (List.mem_of_mem_drop w))
      · exact List.mem_append.mpr (.inr w)
    · rcases List.mem_append.mp hz with w | w
      · have := sd
        rw [← List.take_append_drop k (la.drop ia)] at this
        exact (List.pairwise_append.mp this).2.2 o q z w
      · exact hk o q z w
  · rw [List.take_add]
    refine (h.pm.append_right _).trans ?_
    rw [List.append_assoc, List.append_assoc]
    exact List.Perm.append_left _ List.perm_append_comm
theorem Mg.bs (h : Mg r la lb out ia ib) (sb : Srt r lb) (k : Nat) (hk : ∀ y ∈ (lb.drop ib).take k, ∀ x ∈ la.drop ia, r y < r x) : Mg r la lb (out ++ (lb.drop ib).take k) ia (ib + k) := by
  have sd : Srt r (lb.drop ib) := List.Pairwise.sublist (List.drop_sublist _ _) sb
  have e : lb.drop (ib + k) = (lb.drop ib).drop k := by rw [List.drop_drop]
  refine ⟨List.pairwise_append.mpr ⟨h.so, List.Pairwise.sublist (List.take_sublist _ _) sd, fun o ho x hx => h.lt o ho x (List.mem_append.mpr (.inr (List.mem_of_mem_take hx)))⟩, fun o ho z hz => ?_, ?_⟩
  · rw [e] at hz
    rcases List.mem_append.mp ho with q | q
    · refine h.lt o q z ?_
      rcases List.mem_append.mp hz with w | w
      · exact List.mem_append.mpr (.inl w)
      · exact List.mem_append.mpr (.inr (List.mem_of_mem_drop w))
    · rcases List.mem_append.mp hz with w | w
      · exact hk o q z w
      · have := sd
        rw [← List.take_append_drop k (lb.drop ib)] at this
        exact (List.pairwise_append.mp this).2.2 o q z w
  · rw [List.take_add, ← List.append_assoc]
    exact h.pm.append_right _
theorem Mg.end (h : Mg r la lb out ia ib) (sa : Srt r la) (sb : Srt r lb) (hk : ∀ x ∈ la.drop ia, ∀ y ∈ lb.drop ib, r x < r y) : Srt r (out ++ la.drop ia ++ lb.drop ib) ∧ (out ++ la.drop ia ++ lb.drop ib).Perm (la ++ lb) := by
  refine ⟨?_, ?_⟩
  · rw [List.append_assoc]
    refine List.pairwise_append.mpr ⟨h.so, List.pairwise_append.mpr ⟨List.Pairwise.sublist (List.drop_sublist _ _) sa, List.Pairwise.sublist (List.drop_sublist _ _) sb, hk⟩, h.lt⟩
  · have e : (la ++ lb).Perm (la.take ia ++ lb.take ib ++ (la.drop ia ++ lb.drop ib)) := by
      conv => lhs; rw [← List.take_append_drop ia la, ← List.take_append_drop ib lb]
      simp only [List.append_assoc]
      refine List.Perm.append_left _ ?_
      rw [← List.append_assoc, ← List.append_assoc]
      exact List.Perm.append_right _ List.perm_append_comm
    rw [List.append_assoc]
    exact (h.pm.append_right _).trans e.symm
end
end L2.TS

namespace L2.TS
open PySem PySem.Spec PyProof.Rows
noncomputable abbrev S7 := Option (Array Keyed) × Array Keyed × Nat × Nat × Nat × Nat × Nat
section
variable {prog : Program} {w : World} {A : Around} {E : Value → Shared → Prop} {s : Shared} {κ : SortKind} {D : Keyed → Prop} {r : Keyed → Nat} {st : SortSt} {a b : Array Keyed}
structure LoOk (D : Keyed → Prop) (r : Keyed → Nat) (a b : Array Keyed) : Prop where
  da : ∀ x ∈ a.toList, D x
  db : ∀ x ∈ b.toList, D x
  sa : Srt r a.toList
  sb : Srt r b.toList
  ne : ∀ x ∈ a.toList, ∀ y ∈ b.toList, r x ≠ r y
  la : ∀ x, a.toList[a.size - 1]? = some x → ∀ y ∈ b.toList, r y < r x
noncomputable def Good (r : Keyed → Nat) (a b out : Array Keyed) : Prop := Srt r out.toList ∧ out.toList.Perm (a.toList ++ b.toList)
structure In (r : Keyed → Nat) (a b out : Array Keyed) (ia ib : Nat) : Prop where
  mg : Mg r a.toList b.toList out.toList ia ib
  ha : ia + 1 < a.size
  hb : ib < b.size
noncomputable def P7 (r : Keyed → Nat) (a b : Array Keyed) (n : Nat) : ForInStep S7 → Prop
  | .done (some o, _) => Good r a b o
  | .done (none, out, ia, ib, _) => In r a b out ia ib ∧ n ≤ ia + ib
  | .yield (none, out, ia, ib, _) => In r a b out ia ib ∧ n ≤ ia + ib
  | .yield (some _, _) => False
end
end L2.TS

namespace L2.TS
open PySem PySem.Spec PyProof.Rows
section
variable {prog : Program} {w : World} {A : Around} {E : Value → Shared → Prop} {s : Shared} {κ : SortKind} {D : Keyed → Prop} {r : Keyed → Nat} {st : SortSt} {a b : Array Keyed}
theorem P7.mono {n m : Nat} (h : n ≤ m) : ∀ {c : ForInStep S7}, P7 r a b m c → P7 r a b n c
  | .done (some _, _), p => p
  | .done (none, _, _, _, _), p => ⟨p.1, Nat.le_trans h p.2⟩
  | .yield (none, _, _, _, _), p => ⟨p.1, Nat.le_trans h p.2⟩
  | .yield (some _, _), p => p
end
end L2.TS

namespace L2.TS
open PySem PySem.Spec PyProof.Rows
section
variable {prog : Program} {w : World} {A : Around} {E : Value → Shared → Prop} {s : Shared} {κ : SortKind} {D : Keyed → Prop} {r : Keyed → Nat} {st : SortSt} {a b : Array Keyed}
end
end L2.TS

namespace L2.TS
open PySem PySem.Spec PyProof.Rows
noncomputable abbrev T7 := Option (Array Keyed) × Nat × Nat × Array Keyed × Nat × Nat × Nat
noncomputable abbrev T6 := Option (Array Keyed) × Nat × Nat × Array Keyed × Nat × Nat
noncomputable abbrev T5 := Option (Array Keyed) × Nat × Nat × Array Keyed × Nat
section
variable {r : Keyed → Nat} {la lb out : List Keyed} {na nb : Nat}
structure Mh (r : Keyed → Nat) (la lb out : List Keyed) (na nb : Nat) : Prop where
  so : Srt r out.reverse
  lt : ∀ o ∈ out, ∀ z ∈ la.take na ++ lb.take nb, r z < r o
  pm : out.Perm (la.drop na ++ lb.drop nb)
theorem drop_split (l : List Keyed) {i j : Nat} (h : i ≤ j) : l.drop i = (l.take j).drop i ++ l.drop j := by
  conv => lhs; rw [← List.take_append_drop j l]
  by_cases q : j ≤ l.length
  · rw [List.drop_append_of_le_length (by simp; omega)]
  · rw [show l.drop j = [] from List.drop_of_length_le (by omega), List.append_nil, List.append_nil]
theorem Mh.as (h : Mh r la lb out na nb) (sa : Srt r la) {i : Nat} (hi : i ≤ na) (hk : ∀ x ∈ (la.take na).drop i, ∀ y ∈ lb.take nb, r y < r x) : Mh r la lb (out ++ ((la.take na).drop i).reverse) i nb := by
  have st : Srt r (la.take na) := List.Pairwise.sublist (List.take_sublist _ _) sa
  have e : la.take i = (la.take na).take i := by rw [List.take_take, Nat.min_eq_left hi]
  have sp : Srt r ((la.take na).take i ++ (la.take na).drop i) := by rw [List.take_append_drop]; exact st
  refine ⟨?_, fun o ho z hz => ?_, ?_⟩
  · rw [List.reverse_append, List.reverse_reverse]
    exact List.pairwise_append.mpr ⟨List.Pairwise.sublist (List.drop_sublist _ _) st, h.so, fun x hx o ho => h.lt o (List.mem_reverse.mp ho) x (List.mem_append.mpr (.inl (List.mem_of_mem_drop hx)))⟩
  · rw [e] at hz
    rcases List.mem_append.mp ho with q | q
    · refine h.lt o q z ?_
      rcases List.mem_append.mp hz with w | w
      · exact List.mem_append.mpr (.inl (List.mem_of_mem_take w))
      · exact List.mem_append.mpr (.inr w)
    · have q := List.mem_reverse.mp q
      rcases List.mem_append.mp hz with w | w
      · exact (List.pairwise_append.mp sp).2.2 z w o q
      · exact hk o q z w
  · rw [drop_split la hi, List.append_assoc]
    refine (List.Perm.append h.pm (List.reverse_perm _)).trans ?_
    exact List.perm_append_comm
theorem Mh.bs (h : Mh r la lb out na nb) (sb : Srt r lb) {i : Nat} (hi : i ≤ nb) (hk : ∀ y ∈ (lb.take nb).drop i, ∀ x ∈ la.take na, r x < r y) : Mh r la lb (out ++ ((lb.take nb).drop i).reverse) na i := by
  have st : Srt r (lb.take nb) := List.Pairwise.sublist (List.take_sublist _ _) sb
  have e : lb.take i = (lb.take nb).take i := by rw [List.take_take, Nat.min_eq_left hi]
  have sp : Srt r ((lb.take nb).take i ++ (lb.take nb).drop i) := by rw [List.take_append_drop]; exact st
  refine ⟨?_, fun o ho z hz => ?_, ?_⟩
  · rw [List.reverse_append, List.reverse_reverse]
    exact List.pairwise_append.mpr ⟨List.Pairwise.sublist (List.drop_sublist _ _) st, h.so, fun x hx o ho => h.lt o (List.mem_reverse.mp ho) x (List.mem_append.mpr (.inr (List.mem_of_mem_drop hx)))⟩
  · rw [e] at hz
    rcases List.mem_append.mp ho with q | q
    · refine h.lt o q z ?_
      rcases List.mem_append.mp hz with w | w
      · exact List.mem_append.mpr (.inl w)
      · exact List.mem_append.mpr (.inr (List.mem_of_mem_take w))
    · have q := List.mem_reverse.mp q
      rcases List.mem_append.mp hz with w | w
      · exact hk o q z w
      · exact (List.pairwise_append.mp sp).2.2 z w o q
  · rw [drop_split lb hi]
    refine (List.Perm.append h.pm (List.reverse_perm _)).trans ?_
    rw [List.append_assoc]
    refine List.Perm.append_left _ ?_
    exact List.perm_append_comm
theorem halves (la lb : List Keyed) (na nb : Nat) : (la.take na ++ lb.take nb ++ (la.drop na ++ lb.drop nb)).Perm (la ++ lb) := by
  conv => rhs; rw [← List.take_append_drop na la, ← List.take_append_drop nb lb]
  simp only [List.append_assoc]
  refine List.Perm.append_left _ ?_
  rw [← List.append_assoc, ← List.append_assoc]
  exact List.Perm.append_right _ List.perm_append_comm
theorem Mh.end (h : Mh r la lb out na nb) (sa : Srt r la) (sb : Srt r lb) (hk : ∀ x ∈ la.take na, ∀ y ∈ lb.take nb, r x < r y) : Srt r (la.take na ++ lb.take nb ++ out.reverse) ∧ (la.take na ++ lb.take nb ++ out.reverse).Perm (la ++ lb) := by
  refine ⟨List.pairwise_append.mpr ⟨List.pairwise_append.mpr ⟨List.Pairwise.sublist (List.take_sublist _ _) sa, List.Pairwise.sublist (List.take_sublist _ _) sb, hk⟩, h.so, fun z hz o ho => h.lt o (List.mem_reverse.mp ho) z hz⟩, ?_⟩
  exact (List.Perm.append_left _ ((List.reverse_perm _).trans h.pm)).trans (halves la lb na nb)
end
end L2.TS

namespace L2.TS
open PySem PySem.Spec PyProof.Rows
section
variable {prog : Program} {w : World} {A : Around} {E : Value → Shared → Prop} {s : Shared} {κ : SortKind} {D : Keyed → Prop} {r : Keyed → Nat} {st : SortSt} {a b : Array Keyed}
structure HiOk (D : Keyed → Prop) (r : Keyed → Nat) (a b : Array Keyed) : Prop where
  da : ∀ x ∈ a.toList, D x
  db : ∀ x ∈ b.toList, D x
  sa : Srt r a.toList
  sb : Srt r b.toList
  ne : ∀ x ∈ a.toList, ∀ y ∈ b.toList, r x ≠ r y
  fb : ∀ y, b.toList[0]? = some y → ∀ x ∈ a.toList, r y < r x
structure Ih (r : Keyed → Nat) (a b out : Array Keyed) (na nb : Nat) : Prop where
  mh : Mh r a.toList b.toList out.toList na nb
  a0 : 1 ≤ na
  a1 : na ≤ a.size
  b0 : 2 ≤ nb
  b1 : nb ≤ b.size
noncomputable def H7 (r : Keyed → Nat) (a b : Array Keyed) (n : Nat) : ForInStep T7 → Prop
  | .done (some o, _) => Good r a b o
  | .done (none, na, nb, out, _) => Ih r a b out na nb ∧ na + nb ≤ n
  | .yield (none, na, nb, out, _) => Ih r a b out na nb ∧ na + nb ≤ n
  | .yield (some _, _) => False
theorem H7.mono {n m : Nat} (h : n ≤ m) : ∀ {c : ForInStep T7}, H7 r a b n c → H7 r a b m c
  | .done (some _, _), p => p
  | .done (none, _, _, _, _), p => ⟨p.1, Nat.le_trans p.2 h⟩
  | .yield (none, _, _, _, _), p => ⟨p.1, Nat.le_trans p.2 h⟩
  | .yield (some _, _), p => p
theorem last1 {l : List Keyed} {n : Nat} {x : Keyed} (h0 : 1 ≤ n) (h : l[n - 1]? = some x) : (l.take n).drop (n - 1) = [x] := by
  have hi := (List.getElem?_eq_some_iff.mp h).1
  have e : l.take n = l.take (n - 1) ++ [x] := by
    conv => lhs; rw [show n = n - 1 + 1 by omega]
    rw [List.take_succ, h]; rfl
  rw [e, List.drop_left' (by simp; omega)]
theorem Mh.a1 {out : Array Keyed} {na nb : Nat} {x : Keyed} (m : Mh r a.toList b.toList out.toList na nb) (sa : Srt r a.toList) (h0 : 1 ≤ na) (ex : a.toList[na - 1]? = some x) (hx : ∀ y ∈ b.toList.take nb, r y < r x) : Mh r a.toList b.toList (out.push x).toList (na - 1) nb := by
  have := m.as sa (i := na - 1) (by omega) (by rw [last1 h0 ex]; intro z hz; rw [List.mem_singleton.mp hz]; exact hx)
  rw [last1 h0 ex] at this
  rw [Array.toList_push]; exact this
theorem Mh.b1 {out : Array Keyed} {na nb : Nat} {y : Keyed} (m : Mh r a.toList b.toList out.toList na nb) (sb : Srt r b.toList) (h0 : 1 ≤ nb) (ey : b.toList[nb - 1]? = some y) (hy : ∀ x ∈ a.toList.take na, r x < r y) : Mh r a.toList b.toList (out.push y).toList na (nb - 1) := by
  have := m.bs sb (i := nb - 1) (by omega) (by rw [last1 h0 ey]; intro z hz; rw [List.mem_singleton.mp hz]; exact hy)
  rw [last1 h0 ey] at this
  rw [Array.toList_push]; exact this
noncomputable def H6 (r : Keyed → Nat) (a b : Array Keyed) (n : Nat) : ForInStep T6 → Prop
  | .done (some o, _) => Good r a b o
  | .done (none, na, nb, out, _) => Ih r a b out na nb ∧ na + nb ≤ n
  | .yield (none, na, nb, out, _) => Ih r a b out na nb ∧ na + nb ≤ n
  | .yield (some _, _) => False
noncomputable def H5 (r : Keyed → Nat) (a b : Array Keyed) (n : Nat) : ForInStep T5 → Prop
  | .done (some o, _) => Good r a b o
  | .done (none, _) => False
  | .yield (none, na, nb, out, _) => Ih r a b out na nb ∧ na + nb ≤ n
  | .yield (some _, _) => False
end
end L2.TS

namespace L2.TS
open PySem PySem.Spec PyProof.Rows
section
variable {prog : Program} {w : World} {A : Around} {E : Value → Shared → Prop} {s : Shared} {κ : SortKind} {D : Keyed → Prop} {r : Keyed → Nat} {st : SortSt}
noncomputable def Unl (r : Keyed → Nat) (l : List Keyed) : Prop := l.Pairwise fun x y => r x ≠ r y
end
end L2.TS

namespace L2.TS
open PySem PySem.Spec PyProof.Rows
noncomputable def Rk (r : Keyed → Nat) (a : Array Keyed) (k : Nat) : Nat := match a[k]? with
  | some x => r x
  | none => 0
noncomputable def SrtI (r : Keyed → Nat) (a : Array Keyed) (i j : Nat) : Prop := ∀ p q, i ≤ p → p < q → q < j → Rk r a p < Rk r a q
theorem Rk_of {r : Keyed → Nat} {a b : Array Keyed} {i j : Nat} (h : a[i]? = b[j]?) : Rk r a i = Rk r b j := by unfold Rk; rw [h]
theorem Rk_at {r : Keyed → Nat} {a : Array Keyed} {k : Nat} {x : Keyed} (h : a[k]? = some x) : Rk r a k = r x := by unfold Rk; rw [h]
section
variable {prog : Program} {w : World} {A : Around} {E : Value → Shared → Prop} {s : Shared} {κ : SortKind} {D : Keyed → Prop} {r : Keyed → Nat} {st : SortSt}
structure Bs (D : Keyed → Prop) (r : Keyed → Nat) (a : Array Keyed) : Prop where
  dm : ∀ (k : Nat) x, a[k]? = some x → D x
  un : ∀ p q, p < q → q < a.size → Rk r a p ≠ Rk r a q
theorem Bs.of {a : Array Keyed} (d : ∀ x ∈ a.toList, D x) (u : Unl r a.toList) : Bs D r a := by
  refine ⟨fun k x h => d x (List.mem_of_getElem? (by rw [Array.getElem?_toList]; exact h)), fun p q h1 h2 => ?_⟩
  have := List.pairwise_iff_getElem.mp u p q (by simp; omega) (by simp; omega) h1
  have e : ∀ k (hk : k < a.size), Rk r a k = r (a.toList[k]'(by simpa using hk)) := fun k hk => Rk_at (by rw [Array.getElem?_eq_getElem hk, Array.getElem_toList])
  rw [e p (by omega), e q h2]
  exact this
theorem Unl.perm {l m : List Keyed} (u : Unl r l) (p : m.Perm l) : Unl r m := (p.pairwise_iff (fun h => Ne.symm h)).mpr u
theorem Bs.perm {a b : Array Keyed} (d : ∀ x ∈ a.toList, D x) (u : Unl r a.toList) (p : b.Perm a) : Bs D r b :=
  have p := Array.perm_iff_toList_perm.mp p
  Bs.of (fun x hx => d x (p.mem_iff.mp hx)) (u.perm p)
theorem SrtI.snoc {a : Array Keyed} {i j : Nat} (h : SrtI r a i j) (hij : i < j) (l : Rk r a (j - 1) < Rk r a j) : SrtI r a i (j + 1) := fun p q h1 h2 h3 => by
  by_cases e : q = j
  · subst e
    by_cases e2 : p = q - 1
    · rw [e2]; exact l
    · exact Nat.lt_trans (h p (q - 1) h1 (by omega) (by omega)) l
  · exact h p q h1 h2 (by omega)
end
end L2.TS

namespace L2.TS
open PySem PySem.Spec PyProof.Rows
noncomputable def layStep (pw : Nat) : StateT SortSt Sem (ForInStep (Option Unit × Unit)) := do
  let s ← get
  match (if (pendingOf s).size > 1 then (pendingOf s)[(pendingOf s).size - 2]? else none) with
  | some x => if x.2.2 ≤ pw then pure (.done (none, ())) else do
    let ok ← mergeAt' ((pendingOf s).size - 2)
    if (!ok) = true then pure (.done (some (), ())) else pure (.yield (none, ()))
  | none => pure (.done (none, ()))
noncomputable def layPush (lo n : Nat) : StateT SortSt Sem (ForInStep (Option Unit × Nat)) := do
  modify fun s => setPending s ((pendingOf s).push (lo, n, 0))
  pure (.yield (none, lo + n))
noncomputable def lay (size lo n : Nat) : StateT SortSt Sem (ForInStep (Option Unit × Nat)) := do
  let s ← get
  match (pendingOf s).back? with
  | some x => do
    let c ← forIn [0:size] ((none : Option Unit), ()) fun _ _ => layStep (power' size (2 * x.1 + x.2.1) (2 * x.1 + x.2.1 + x.2.1 + n) size)
    match c.1 with
    | some r => pure (.done (some r, lo))
    | none => do
      modify fun s => setPending s ((pendingOf s).modify ((pendingOf s).size - 1) fun y => (y.1, y.2.1, power' size (2 * x.1 + x.2.1) (2 * x.1 + x.2.1 + x.2.1 + n) size))
      layPush lo n
  | none => layPush lo n
end L2.TS

namespace L2.TS
open PySem PySem.Spec PyProof.Rows
noncomputable abbrev Pd := Nat × Nat × Nat
noncomputable def Rn (r : Keyed → Nat) (a : Array Keyed) : Nat → List Pd → Nat → Prop
  | s, [], e => s = e
  | s, x :: l, e => x.1 = s ∧ 1 ≤ x.2.1 ∧ SrtI r a s (s + x.2.1) ∧ Rn r a (s + x.2.1) l e
section
variable {r : Keyed → Nat} {a b : Array Keyed}
theorem Rn.le : ∀ {l : List Pd} {s e : Nat}, Rn r a s l e → s + l.length ≤ e
  | [], s, e, h => by cases h; simp
  | x :: l, s, e, h => by
    have := h.2.2.2.le
    have := h.2.1
    simp only [List.length_cons]
    omega
theorem SrtI.congr {i j : Nat} (h : ∀ k, i ≤ k → k < j → b[k]? = a[k]?) (S : SrtI r a i j) : SrtI r b i j := fun p q h1 h2 h3 => by
  rw [Rk_of (h p h1 (by omega)), Rk_of (h q (by omega) h3)]
  exact S p q h1 h2 h3
theorem Rn.congr : ∀ {l : List Pd} {s e : Nat}, (∀ k, s ≤ k → k < e → b[k]? = a[k]?) → Rn r a s l e → Rn r b s l e
  | [], _, _, _, h => h
  | x :: l, s, e, hk, ⟨h1, h2, h3, h4⟩ => by
    have := h4.le
    exact ⟨h1, h2, h3.congr fun k g1 g2 => hk k g1 (by omega), Rn.congr (fun k g1 g2 => hk k (by omega) g2) h4⟩
end
section
variable {prog : Program} {w : World} {A : Around} {E : Value → Shared → Prop} {s : Shared} {κ : SortKind} {D : Keyed → Prop} {r : Keyed → Nat} {st : SortSt} {a0 : Array Keyed}
structure Rs (κ : SortKind) (r : Keyed → Nat) (a0 : Array Keyed) (lo : Nat) (st : SortSt) : Prop where
  kd : kindOf st = κ
  fl : failedOf st = none
  pm : (arrOf st).Perm a0
  rn : Rn r (arrOf st) 0 (pendingOf st).toList lo
  le : lo ≤ a0.size
end
end L2.TS

namespace L2.TS
open PySem PySem.Spec PyProof.Rows
section
variable {prog : Program} {w : World} {A : Around} {E : Value → Shared → Prop} {s : Shared} {κ : SortKind} {D : Keyed → Prop} {r : Keyed → Nat} {st : SortSt} {a0 : Array Keyed}
theorem Rn.mod {a : Array Keyed} {f : Pd → Pd} (hf : ∀ x, (f x).1 = x.1 ∧ (f x).2.1 = x.2.1) : ∀ {l : List Pd} {i s e : Nat}, Rn r a s l e → Rn r a s (l.modify i f) e
  | [], _, _, _, h => by simpa using h
  | x :: l, 0, s, e, ⟨h1, h2, h3, h4⟩ => by
    rw [List.modify_zero_cons]
    exact ⟨(hf x).1.trans h1, by rw [(hf x).2]; exact h2, by rw [(hf x).2]; exact h3, by rw [(hf x).2]; exact h4⟩
  | x :: l, i + 1, s, e, ⟨h1, h2, h3, h4⟩ => by
    rw [List.modify_succ_cons]
    exact ⟨h1, h2, h3, Rn.mod hf h4⟩
end
end L2.TS

namespace L2
open PySem PySem.Spec PyProof PyProof.Rows
section
variable {K : Type} [DecidableEq K] {prog : Program} {w : World} {knd : HeapKind prog w K} {A : Around} {E : Value → Shared → Prop} {s : Shared} {d a : Addr} {k : K} {xs : List (K × Addr × Value)}
end
section
variable {X : Cx} {pins : List (Addr × Obj)} {σ : St} {H : Hp} {s : Shared} {a b : Addr} {kvs : List (List Key × V)} {k : List Key} {z : V} {r : Value} {A : Around} {E : Value → Shared → Prop}
end
section
variable {X : Cx} {o e f : Expr} {apos cpos : Pos} {td ty tz : TE}
end
namespace MP
section
variable {K : PySem.W.Frag} {C : Cg} {te tb : TE} {F F1 F2 H H1 H2 : Hp} {σ : St} {ρ : Rho} {D : Ends} {S : Addr → Prop} {v : V} {p : PV}
end
end MP
end L2

namespace L2
open PySem PySem.Spec PySem.W PyProof PyProof.Rows
noncomputable abbrev Sk := Str × List Int
noncomputable def ltI : List Int → List Int → Bool
  | a :: l, b :: m => if a = b then ltI l m else decide (a < b)
  | _, _ => false
noncomputable def ltSk (p q : Sk) : Bool := if p.1 = q.1 then ltI p.2 q.2 else decide (p.1.cps.toList < q.1.cps.toList)
theorem ltI_irrefl : ∀ l, ltI l l = false
  | [] => rfl
  | a :: l => by unfold ltI; rw [if_pos rfl]; exact ltI_irrefl l
theorem ltI_trans : ∀ {l m n : List Int}, ltI l m = true → ltI m n = true → ltI l n = true
  | a :: l, b :: m, c :: n, h1, h2 => by
    unfold ltI at h1 h2 ⊢
    by_cases e1 : a = b
    · rw [if_pos e1] at h1
      by_cases e2 : b = c
      · rw [if_pos e2] at h2; rw [if_pos (e1.trans e2)]; exact ltI_trans h1 h2
      · rw [if_neg e2] at h2; rw [if_neg (fun z => e2 (e1.symm.trans z)), e1]; exact h2
    · rw [if_neg e1] at h1
      have h1 := of_decide_eq_true h1
      by_cases e2 : b = c
      · rw [if_neg (fun z => e1 (z.trans e2.symm)), ← e2]; exact decide_eq_true h1
      · rw [if_neg e2] at h2
        have h2 := of_decide_eq_true h2
        rw [if_neg (by omega)]
        exact decide_eq_true (by omega)
  | [], _, _, h1, _ => by cases h1
  | _ :: _, [], _, h1, _ => by cases h1
  | _ :: _, _ :: _, [], _, h2 => by cases h2
theorem ltI_total : ∀ {l m : List Int}, l.length = m.length → l ≠ m → ltI l m = true ∨ ltI m l = true
  | [], [], _, h => absurd rfl h
  | a :: l, b :: m, hl, h => by
    unfold ltI
    by_cases e : a = b
    · subst e
      rw [if_pos rfl, if_pos rfl]
      exact ltI_total (by simpa using hl) fun z => h (by rw [z])
    · rw [if_neg e, if_neg (Ne.symm e)]
      rcases Int.lt_or_gt_of_ne e with q | q
      · exact .inl (decide_eq_true q)
      · exact .inr (decide_eq_true q)
theorem str_ne {a b : Str} (h : a ≠ b) : a.cps.toList ≠ b.cps.toList := fun e => h (by
  cases a; cases b
  simp only [Str.mk.injEq]
  exact Array.toList_inj.mp e)
theorem ltSk_irrefl (p : Sk) : ltSk p p = false := by unfold ltSk; rw [if_pos rfl]; exact ltI_irrefl _
theorem ltSk_trans {p q t : Sk} (h1 : ltSk p q = true) (h2 : ltSk q t = true) : ltSk p t = true := by
  unfold ltSk at h1 h2 ⊢
  by_cases e1 : p.1 = q.1
  · rw [if_pos e1] at h1
    by_cases e2 : q.1 = t.1
    · rw [if_pos e2] at h2; rw [if_pos (e1.trans e2)]; exact ltI_trans h1 h2
    · rw [if_neg e2] at h2; rw [if_neg (fun z => e2 (e1.symm.trans z)), e1]; exact h2
  · rw [if_neg e1] at h1
    have h1 := of_decide_eq_true h1
    by_cases e2 : q.1 = t.1
    · rw [if_neg (fun z => e1 (z.trans e2.symm)), ← e2]; exact decide_eq_true h1
    · rw [if_neg e2] at h2
      have h2 := of_decide_eq_true h2
      have h3 := List.lt_trans h1 h2
      rw [if_neg (fun z => by rw [z] at h3; exact List.lt_irrefl _ h3)]
      exact decide_eq_true h3
theorem ltSk_total {p q : Sk} (hl : p.2.length = q.2.length) (h : p ≠ q) : ltSk p q = true ∨ ltSk q p = true := by
  unfold ltSk
  by_cases e : p.1 = q.1
  · rw [if_pos e, if_pos e.symm]
    exact ltI_total hl fun z => h (Prod.ext e z)
  · rw [if_neg e, if_neg (Ne.symm e)]
    by_cases q1 : p.1.cps.toList < q.1.cps.toList
    · exact .inl (decide_eq_true q1)
    · refine .inr (decide_eq_true ?_)
      by_cases q2 : q.1.cps.toList < p.1.cps.toList
      · exact q2
      · exact absurd (List.le_antisymm (List.not_lt.mp q2) (List.not_lt.mp q1)) (str_ne e)
noncomputable def rkS (ps : List Sk) (i : Nat) : Nat := ((List.range ps.length).filter fun j => ltSk (ps.getD j default) (ps.getD i default)).length
structure SkOk (ps : List Sk) (m : Nat) : Prop where
  nd : ps.Nodup
  ln : ∀ p ∈ ps, p.2.length = m
section
variable {ps : List Sk} {m : Nat}
theorem sk_mem {i : Nat} (h : i < ps.length) : ps.getD i default ∈ ps := List.mem_of_getElem? (i := i) (by rw [List.getD_eq_getElem?_getD, List.getElem?_eq_getElem h]; rfl)
theorem SkOk.inj (o : SkOk ps m) {i j : Nat} (hi : i < ps.length) (hj : j < ps.length) (e : ps.getD i default = ps.getD j default) : i = j := by
  have g : ∀ i, i < ps.length → ps[i]? = some (ps.getD i default) := fun i h => by rw [List.getD_eq_getElem?_getD, List.getElem?_eq_getElem h]; rfl
  exact (List.getElem?_inj hi o.nd).mp (by rw [g i hi, g j hj, e])
theorem rk_lt {i j : Nat} (hi : i < ps.length) (h : ltSk (ps.getD i default) (ps.getD j default) = true) : rkS ps i < rkS ps j := by
  unfold rkS
  have sub : ((List.range ps.length).filter fun k => ltSk (ps.getD k default) (ps.getD i default)).Sublist ((List.range ps.length).filter fun k => ltSk (ps.getD k default) (ps.getD j default)) := by
    have e : ((List.range ps.length).filter fun k => ltSk (ps.getD k default) (ps.getD i default)) = ((List.range ps.length).filter fun k => ltSk (ps.getD k default) (ps.getD j default)).filter fun k => ltSk (ps.getD k default) (ps.getD i default) := by
      rw [List.filter_filter]
      refine List.filter_congr fun k _ => ?_
      cases q : ltSk (ps.getD k default) (ps.getD i default) with
      | false => rfl
      | true => rw [ltSk_trans q h]; rfl
    rw [e]; exact List.filter_sublist
  refine Nat.lt_of_le_of_ne sub.length_le fun e => ?_
  have e := sub.eq_of_length e
  have : i ∈ (List.range ps.length).filter fun k => ltSk (ps.getD k default) (ps.getD j default) := List.mem_filter.mpr ⟨List.mem_range.mpr hi, h⟩
  rw [← e] at this
  have := (List.mem_filter.mp this).2
  rw [ltSk_irrefl] at this
  cases this
theorem SkOk.lt (o : SkOk ps m) {i j : Nat} (hi : i < ps.length) (hj : j < ps.length) : ltSk (ps.getD i default) (ps.getD j default) = decide (rkS ps i < rkS ps j) := by
  cases q : ltSk (ps.getD i default) (ps.getD j default) with
  | true => exact (decide_eq_true (rk_lt hi q)).symm
  | false =>
    refine (decide_eq_false fun z => ?_).symm
    by_cases e : ps.getD i default = ps.getD j default
    · rw [o.inj hi hj e] at z; omega
    · rcases ltSk_total (by rw [o.ln _ (sk_mem hi), o.ln _ (sk_mem hj)]) e with w | w
      · rw [q] at w; cases w
      · have := rk_lt hj w; omega
theorem SkOk.rinj (o : SkOk ps m) {i j : Nat} (hi : i < ps.length) (hj : j < ps.length) (e : rkS ps i = rkS ps j) : i = j := by
  refine o.inj hi hj (Classical.byContradiction fun ne => ?_)
  rcases ltSk_total (by rw [o.ln _ (sk_mem hi), o.ln _ (sk_mem hj)]) ne with w | w
  · have := rk_lt hi w; omega
  · have := rk_lt hj w; omega
noncomputable def ordS (ps : List Sk) : List Nat := (List.range ps.length).mergeSort fun i j => decide (rkS ps i ≤ rkS ps j)
theorem ordS_perm (ps : List Sk) : (ordS ps).Perm (List.range ps.length) := List.mergeSort_perm _ _
theorem ordS_lt : ∀ i ∈ ordS ps, i < ps.length := fun i hi => List.mem_range.mp ((ordS_perm ps).mem_iff.mp hi)
theorem SkOk.ord (o : SkOk ps m) : (ordS ps).Pairwise fun i j => rkS ps i < rkS ps j := by
  have h := List.pairwise_mergeSort (le := fun i j => decide (rkS ps i ≤ rkS ps j)) (fun a b c h1 h2 => by simp at h1 h2 ⊢; omega) (fun a b => by simp; omega) (List.range ps.length)
  have nd : (ordS ps).Nodup := (ordS_perm ps).nodup_iff.mpr List.nodup_range
  refine (h.and nd).imp_of_mem fun {i j} hi hj q => ?_
  have h1 : rkS ps i ≤ rkS ps j := by simpa using q.1
  exact Nat.lt_of_le_of_ne h1 fun e => q.2 (o.rinj (ordS_lt i hi) (ordS_lt j hj) e)
end
end L2

namespace L2
open PySem PySem.Spec PySem.W PyProof PyProof.Rows
noncomputable def SkAt (h : Heap) (v : Value) (p : Sk) : Prop := ∃ a o t ys n, v = .ref a ∧ h.get? a = some o ∧ o.cls = .type "tuple" ∧ o.data = .seq (List.toArray (.str p.1 t :: ys)) n ∧ IntsAre ys p.2
section
variable {prog : Program} {w : World} {A : Around} {E : Value → Shared → Prop} {s : Shared} {v u : Value} {p q : Sk}
theorem SkAt.same {h h' : Heap} (x : SkAt h v p) (k : ∀ a o, v = .ref a → h.get? a = some o → h'.get? a = some o) : SkAt h' v p := by
  obtain ⟨a, o, t, ys, n, e, h1, h2⟩ := x
  exact ⟨a, o, t, ys, n, e, k a o e h1, h2⟩
theorem kat_ints {Q : Bool → Shared → Prop} : ∀ {ys zs : List Value} {ns ms : List Int} (i : Nat), IntsAre ys ns → IntsAre zs ms → ns.length = ms.length → Q (ltI ns ms) s → KatLex prog w A true false Q (ys.zip zs) (i + 1) s
  | _, _, _, _, i, .nil, .nil, _, h => kat_nil h
  | _, _, _, _, i, .cons n t h1, .cons m t' h2, hl, h => by
    refine kat_cons (wpAny_eqBool_int ?_)
    by_cases d : n = m
    · rw [beq_iff_eq.mpr d]
      refine kat_yes (kat_ints (i + 1) h1 h2 (by simpa using hl) ?_)
      unfold ltI at h
      rw [if_pos d] at h
      exact h
    · rw [beq_eq_false_iff_ne.mpr d]
      refine kat_no ?_
      rw [show (true && i + 1 == 0) = false by simp]
      unfold ltI at h
      rw [if_neg d] at h
      exact kat_one _ _ (lt_int h)
  | _, _, _, _, _, .nil, .cons .., hl, _ => by simp at hl
  | _, _, _, _, _, .cons .., .nil, hl, _ => by simp at hl
theorem ints_len : ∀ {ys : List Value} {ns : List Int}, IntsAre ys ns → ys.length = ns.length
  | _, _, .nil => rfl
  | _, _, .cons _ _ h => by simp [ints_len h]
theorem SkAt.lt (hp : SkAt s.heap v p) (hq : SkAt s.heap u q) (hl : p.2.length = q.2.length) {Q : Bool → Shared → Prop} (h : Q (ltSk p q) s) : wpAny (model prog w) A (keyLt' (tuples' true) v u) Q E s := by
  obtain ⟨a, o, t, ys, n, rfl, e1, e2, e3, e4⟩ := hp
  obtain ⟨b, o', t', zs, n', rfl, f1, f2, f3, f4⟩ := hq
  refine kat_lt e1 e3 f1 f3 (kat_cons (wpAny_eqBool_str ?_))
  rw [show decide ((List.toArray (Value.str p.1 t :: ys)).size < (List.toArray (Value.str q.1 t' :: zs)).size) = false by
    refine decide_eq_false ?_
    simp [ints_len e4, ints_len f4, hl]]
  by_cases c : p.1 = q.1
  · rw [decide_eq_true c]
    refine kat_yes (kat_ints 0 e4 f4 hl ?_)
    rw [show ltSk p q = ltI p.2 q.2 by unfold ltSk; rw [if_pos c]] at h
    exact h
  · rw [decide_eq_false c]
    refine kat_no ?_
    show wpAny _ _ (oneLt' true _ _) _ _ _
    rw [show ltSk p q = decide (p.1.cps.toList < q.1.cps.toList) by unfold ltSk; rw [if_neg c]] at h
    exact oneLt_str h
end
end L2

namespace L2
open PySem PySem.Spec PySem.W PyProof PyProof.Rows
section
variable {X : Cx}
end
end L2
namespace L2.MP
open PySem PySem.Spec PySem.W PyProof PyProof.Rows
theorem asInts_map {l : List PV} : ∀ {ns : List Int}, asInts l = some ns → l = ns.map PV.int := by
  induction l with
  | nil => intro ns h; cases h; rfl
  | cons a l ih =>
    intro ns h
    have inv : ∃ n, a = .int n := by
      clear ih
      cases a <;> first | exact noS h | exact ⟨_, rfl⟩
    obtain ⟨n, rfl⟩ := inv
    have h : (asInts l).map (n :: ·) = some ns := h
    obtain ⟨q, e1, rfl⟩ := Option.map_eq_some_iff.mp h
    rw [ih e1]; rfl
section
variable {K : PySem.W.Frag} {C : Cg}
end
end L2.MP

namespace L2
open PySem PySem.Spec PyProof PyProof.Rows
namespace MP
section
variable {K : PySem.W.Frag} {C : Cg}
end
end MP
end L2

namespace L2
open PySem PySem.Spec PyProof PyProof.Rows
section
variable {prog : Program} {w : World} {A : Around} {E : Value → Shared → Prop} {s : Shared} {d it : Addr} {es : Array DictEntry} {ep i : Nat}
end
namespace MP
section
variable {K : PySem.W.Frag} {C : Cg}
end
end MP
end L2

namespace L2
open PySem PySem.Spec PyProof PyProof.Rows
section
variable {prog : Program} {w : World} {A : Around} {E : Value → Shared → Prop}
end
section
variable {X : Cx} {pos : Pos}
end
namespace MP
section
variable {K : PySem.W.Frag} {C : Cg}
end
end MP
end L2

namespace L2.MP
section
variable {α : Type} {us : List α}
theorem len0 (h : us.length = 0) : us = [] := List.length_eq_zero_iff.mp h
theorem lenS {n : Nat} (h : us.length = n + 1) : ∃ a vs, us = a :: vs ∧ vs.length = n := by
  cases us with
  | nil => cases h
  | cons a vs => exact ⟨a, vs, rfl, Nat.succ.inj h⟩
theorem len1 (h : us.length = 1) : ∃ a, us = [a] := by
  obtain ⟨a, vs, rfl, h2⟩ := lenS h
  cases len0 h2
  exact ⟨a, rfl⟩
theorem len2 (h : us.length = 2) : ∃ a b, us = [a, b] := by
  obtain ⟨a, vs, rfl, h2⟩ := lenS h
  obtain ⟨b, rfl⟩ := len1 h2
  exact ⟨a, b, rfl⟩
theorem len3 (h : us.length = 3) : ∃ a b c, us = [a, b, c] := by
  obtain ⟨a, vs, rfl, h2⟩ := lenS h
  obtain ⟨b, c, rfl⟩ := len2 h2
  exact ⟨a, b, c, rfl⟩
theorem len4 (h : us.length = 4) : ∃ a b c d, us = [a, b, c, d] := by
  obtain ⟨a, vs, rfl, h2⟩ := lenS h
  obtain ⟨b, c, d, rfl⟩ := len3 h2
  exact ⟨a, b, c, d, rfl⟩
end
end L2.MP

namespace L2
open PySem PySem.Spec PyProof PyProof.Rows
inductive LtK : List Key → List Key → Bool → Prop
  | nn : LtK [] [] false
  | nc (k : Key) (l : List Key) : LtK [] (k :: l) true
  | cn (k : Key) (l : List Key) : LtK (k :: l) [] false
  | eq (k : Key) {l m : List Key} {r : Bool} (h : LtK l m r) : LtK (k :: l) (k :: m) r
  | int {i j : Int} (l m : List Key) (h : i ≠ j) : LtK (.inl i :: l) (.inl j :: m) (decide (i < j))
  | str {i j : Str} (l m : List Key) (h : i ≠ j) : LtK (.inr i :: l) (.inr j :: m) (decide (i.cps.toList < j.cps.toList))
section
open PySem.SeqAt
open PySem.AutoSeq1 (wpAny_loadPart')
open PySem.MeetsSeq PySem.MeetsSeq2 PySem.MeetsSeq3
end
end L2
namespace L2.MP
open PySem PySem.Spec PyProof PyProof.Rows
end L2.MP

namespace L2.SE
open PySem
noncomputable def Inc (xs : Array Nat) : Prop := xs.toList.Pairwise (· < ·)
theorem Inc.lt {xs : Array Nat} (h : Inc xs) {i j d e : Nat} (hij : i < j) (hj : j < xs.size) : xs.getD i d < xs.getD j e := by
  have q := List.pairwise_iff_getElem.mp h i j (by rw [Array.length_toList]; omega) (by rw [Array.length_toList]; exact hj) hij
  rw [Array.getD_eq_getD_getElem?, Array.getD_eq_getD_getElem?, Array.getElem?_eq_getElem (by omega), Array.getElem?_eq_getElem hj]
  simpa using q
theorem go_ok {xs : Array Nat} (h : Inc xs) (j : Nat) : ∀ (fuel lo hi : Nat), lo ≤ hi → hi ≤ xs.size → hi - lo ≤ fuel → (∀ i, i < lo → xs.getD i j < j) → (∀ i, hi ≤ i → i < xs.size → j ≤ xs.getD i j) →
    SetTable.below.go xs j fuel lo hi ≤ xs.size ∧ (∀ i, i < SetTable.below.go xs j fuel lo hi → xs.getD i j < j) ∧ (∀ i, SetTable.below.go xs j fuel lo hi ≤ i → i < xs.size → j ≤ xs.getD i j)
  | 0, lo, hi, h1, h2, h3, h4, h5 => by
    have e : lo = hi := by omega
    subst e
    exact ⟨h2, h4, h5⟩
  | fuel + 1, lo, hi, h1, h2, h3, h4, h5 => by
    unfold SetTable.below.go
    by_cases c : lo < hi
    · rw [if_pos c]
      dsimp only
      have m1 : lo ≤ (lo + hi) / 2 := by omega
      have m2 : (lo + hi) / 2 < hi := by omega
      by_cases d : xs.getD ((lo + hi) / 2) j < j
      · rw [if_pos d]
        refine go_ok h j fuel _ _ (by omega) h2 (by omega) (fun i hi' => ?_) h5
        rcases Nat.lt_or_ge i ((lo + hi) / 2) with q | q
        · exact Nat.lt_trans (h.lt q (by omega)) d
        · have : i = (lo + hi) / 2 := by omega
          rw [this]; exact d
      · rw [if_neg d]
        refine go_ok h j fuel _ _ m1 (by omega) (by omega) h4 fun i hi' hs => ?_
        rcases Nat.lt_or_ge ((lo + hi) / 2) i with q | q
        · exact Nat.le_of_lt (Nat.lt_of_le_of_lt (Nat.le_of_not_lt d) (h.lt q hs))
        · have : i = (lo + hi) / 2 := by omega
          rw [this]; exact Nat.le_of_not_lt d
    · rw [if_neg c]
      have e : lo = hi := by omega
      subst e
      exact ⟨h2, h4, h5⟩
theorem below_ok {xs : Array Nat} (h : Inc xs) (j : Nat) : SetTable.below xs j ≤ xs.size ∧ (∀ i, i < SetTable.below xs j → xs.getD i j < j) ∧ (∀ i, SetTable.below xs j ≤ i → i < xs.size → j ≤ xs.getD i j) :=
  go_ok h j xs.size 0 xs.size (Nat.zero_le _) (Nat.le_refl _) (by omega) (fun i hi => absurd hi (Nat.not_lt_zero _)) fun i h1 h2 => absurd h2 (by omega)
theorem below_at {xs : Array Nat} (h : Inc xs) {k slot : Nat} (hk : k ≤ xs.size) (h0 : ∀ i, i < k → xs.getD i slot < slot) (h1 : ∀ i, k ≤ i → i < xs.size → slot ≤ xs.getD i slot) : SetTable.below xs slot = k := by
  obtain ⟨a, b, c⟩ := below_ok h slot
  rcases Nat.lt_trichotomy (SetTable.below xs slot) k with q | q | q
  · have := h0 _ q; have := c _ (Nat.le_refl _) (by omega); omega
  · exact q
  · have := b _ q; have := h1 _ (Nat.le_refl _) (by omega); omega
theorem below_zero {xs : Array Nat} (h : Inc xs) : SetTable.below xs 0 = 0 := below_at h (Nat.zero_le _) (fun i hi => absurd hi (Nat.not_lt_zero _)) fun _ _ _ => Nat.zero_le _
theorem below_next {xs : Array Nat} (h : Inc xs) {k p : Nat} (hk : xs[k]? = some p) : SetTable.below xs (p + 1) = k + 1 := by
  obtain ⟨hl, e⟩ := Array.getElem?_eq_some_iff.mp hk
  have ed : ∀ d, xs.getD k d = p := fun d => by rw [Array.getD_eq_getD_getElem?, hk]; rfl
  refine below_at h hl (fun i hi => ?_) fun i hi hs => ?_
  · rcases Nat.lt_or_ge i k with q | q
    · have := h.lt (d := p + 1) (e := p + 1) q hl; rw [ed] at this; omega
    · have : i = k := by omega
      rw [this, ed]; omega
  · have := h.lt (d := p + 1) (e := p + 1) (show k < i by omega) hs; rw [ed] at this; omega
structure Good (b : Bool) (t : SetTable) : Prop where
  led : t.led = b
  dum : t.dummies = #[]
  inc : Inc t.place
theorem has_nil (j : Nat) : SetTable.has #[] j = false := rfl
theorem slot_free {t : SetTable} (hd : t.dummies = #[]) {j : Nat} : t.slot j = .empty ∨ ∃ i, t.slot j = .live i := by
  unfold SetTable.slot
  dsimp only
  split
  · exact .inr ⟨_, rfl⟩
  · rw [hd, has_nil]; exact .inl rfl
theorem probe_ok {t : SetTable} (hd : t.dummies = #[]) {h : Int} : ∀ (fuel : Nat) (p : SetTable.Probe) (m : SetTable.Met), p.dummy = none → SetTable.probe.go t (fun _ => h + 1) h fuel p = some m → ∃ j, m = .empty j none ∧ t.slot j = .empty
  | 0, _, _, _, e => nomatch e
  | fuel + 1, p, m, hp, e => by
    unfold SetTable.probe.go at e
    rcases slot_free hd (j := p.j) with q | ⟨i, q⟩
    · rw [q] at e
      cases e
      exact ⟨p.j, by rw [hp], q⟩
    · rw [q] at e
      replace e : (if (h + 1 == h) = true then some (SetTable.Met.candidate p.j i (t.advance p)) else SetTable.probe.go t (fun _ => h + 1) h fuel (t.advance p)) = some m := e
      rw [if_neg (by simp; omega)] at e
      refine probe_ok hd fuel _ m ?_ e
      unfold SetTable.advance
      split <;> exact hp
theorem free_ok {t : SetTable} (hd : t.dummies = #[]) {h : Int} {j : Nat} {b : Bool} (e : t.freeSlot h = some (j, b)) : t.slot j = .empty := by
  unfold SetTable.freeSlot at e
  cases q : t.probe (fun _ => h + 1) h (t.probeStart h) with
  | none => rw [q] at e; cases e
  | some m =>
    obtain ⟨j', rfl, hs⟩ := probe_ok hd _ _ _ rfl q
    rw [q] at e
    cases e
    exact hs
theorem put_good {b : Bool} {t : SetTable} (g : Good b t) {j : Nat} (hj : t.slot j = .empty) : Good b (t.put j).1 := by
  have hn : ∀ i, t.place[i]? = some j → False := fun i e => by
    obtain ⟨hl, e'⟩ := Array.getElem?_eq_some_iff.mp e
    obtain ⟨a1, a2, a3⟩ := below_ok g.inc j
    have ed : t.place.getD i j = j := by rw [Array.getD_eq_getD_getElem?, e]; rfl
    have hb : SetTable.below t.place j = i := by
      rcases Nat.lt_trichotomy (SetTable.below t.place j) i with q | q | q
      · have := g.inc.lt (d := j) (e := j) q hl; have := a3 _ (Nat.le_refl _) (by omega); omega
      · exact q
      · have := a2 _ q; omega
    unfold SetTable.slot at hj
    dsimp only at hj
    rw [hb, e, if_pos (by simp)] at hj
    cases hj
  refine ⟨g.led, by show (if SetTable.has t.dummies j then _ else t.dummies) = _; rw [g.dum, has_nil]; rfl, ?_⟩
  show List.Pairwise _ (SetTable.insertAt t.place (SetTable.below t.place j) j).toList
  obtain ⟨a1, a2, a3⟩ := below_ok g.inc j
  rw [SetTable.toList_insertAt, List.pairwise_append]
  have key : ∀ x ∈ t.place.toList.drop (SetTable.below t.place j), j < x := fun x hx => by
    obtain ⟨i, hi, rfl⟩ := List.getElem_of_mem hx
    rw [List.length_drop, Array.length_toList] at hi
    rw [List.getElem_drop, Array.getElem_toList]
    have q := a3 (SetTable.below t.place j + i) (by omega) (by omega)
    rw [Array.getD_eq_getD_getElem?, Array.getElem?_eq_getElem (by omega)] at q
    have q : j ≤ t.place[SetTable.below t.place j + i] := q
    refine Nat.lt_of_le_of_ne q fun e => hn _ (Array.getElem?_eq_some_iff.mpr ⟨by omega, e.symm⟩)
  have key2 : ∀ x ∈ t.place.toList.take (SetTable.below t.place j), x < j := fun x hx => by
    obtain ⟨i, hi, rfl⟩ := List.getElem_of_mem hx
    rw [List.length_take, Array.length_toList] at hi
    rw [List.getElem_take, Array.getElem_toList]
    have q := a2 i (by omega)
    rw [Array.getD_eq_getD_getElem?, Array.getElem?_eq_getElem (by omega)] at q
    exact q
  refine ⟨List.Pairwise.sublist (List.take_sublist _ _) g.inc, List.pairwise_cons.mpr ⟨key, List.Pairwise.sublist (List.drop_sublist _ _) g.inc⟩, fun x hx y hy => ?_⟩
  rcases List.mem_cons.mp hy with rfl | hy
  · exact key2 x hx
  · exact Nat.lt_trans (key2 x hx) (key y hy)
theorem standIn_good {b : Bool} {t : SetTable} (g : t.led = b) (n : Nat) : Good b (t.standIn n) := ⟨g, rfl, by
  show List.Pairwise _ (Array.range n).toList
  rw [Array.toList_range]; exact List.pairwise_lt_range⟩
theorem layNew_good {b : Bool} {t : SetTable} (g : Good b t) (es : Array (Int × Value)) (h : Int) (x : Value) : Good b (layNew t es h x).2.1 := by
  unfold layNew
  cases q : t.freeSlot h with
  | none => exact standIn_good g.led _
  | some p =>
    obtain ⟨j, w⟩ := p
    have g1 := put_good g (free_ok g.dum q)
    show Good b (SetTable.orStandIn _ _)
    unfold SetTable.orStandIn
    split
    · exact g1
    · exact standIn_good g1.led _
theorem laid_inc {mask finger moves : Nat} {led plain : Bool} {hs : Array Int} {t : SetTable} {o : Array Nat} (e : SetTable.laid mask finger moves led plain hs = some (t, o)) : Good led t := by
  unfold SetTable.laid at e
  cases q : SetTable.layClean mask hs with
  | none => rw [q] at e; cases e
  | some ow =>
    rw [q] at e
    cases e
    refine ⟨rfl, rfl, ?_⟩
    show List.Pairwise _ (List.map _ _)
    rw [List.pairwise_map, List.pairwise_filterMap]
    refine List.pairwise_lt_range.imp fun {a b} hab x hx y hy => ?_
    obtain ⟨_, _, rfl⟩ := Option.map_eq_some_iff.mp hx
    obtain ⟨_, _, rfl⟩ := Option.map_eq_some_iff.mp hy
    exact hab
theorem relay_good {b : Bool} {t : SetTable} (g : Good b t) (es : Array (Int × Value)) (n : Nat) : Good b (relayAll t es n).2.1 := by
  unfold relayAll
  cases q : t.relaid (es.map (·.1)) n with
  | none => exact standIn_good g.led _
  | some p =>
    obtain ⟨t', o⟩ := p
    have g1 := laid_inc q
    rw [g.led] at g1
    dsimp only
    split
    · exact g1
    · exact standIn_good g.led _
theorem fresh_good (b : Bool) : Good b (.fresh 0 0 b) := ⟨rfl, rfl, List.Pairwise.nil⟩
end L2.SE

namespace L2.SE
open PySem PySem.Spec PyProof PyProof.Rows
section
variable {prog : Program} {w : World} {K : Type} [DecidableEq K] (knd : KeyKind prog w K)
noncomputable def Apart (l : List (Int × Value)) : Prop := l.Pairwise fun e f => ∀ k, knd.is k e.2 = true → knd.is k f.2 = true → False
structure Els (S : K → Bool) (es : Array (Int × Value)) : Prop where
  el : ElemsOf knd es.toList
  ap : Apart knd es.toList
  mem : ∀ k, S k = true ↔ ∃ e ∈ es.toList, knd.is k e.2 = true
noncomputable def SetG (h : Heap) (a : Addr) (b : Bool) (S : K → Bool) (n : Nat) : Prop :=
  ∃ o es ep t, h.get? a = some o ∧ o.ExactSet ∧ o.data = .set es ep t ∧ Els knd S es ∧ es.size < scanBound ∧ t.fits es.size = true ∧ Good b t ∧ es.size ≤ n
variable {knd} {S : K → Bool} {A : Around} {E : Value → Shared → Prop} {s : Shared} {a : Addr} {b : Bool} {n : Nat}
theorem Els.perm {es es' : Array (Int × Value)} (h : Els knd S es) (p : es'.toList.Perm es.toList) : Els knd S es' :=
  ⟨h.el.perm p, (p.symm.pairwise_iff fun {x y} q k u v => q k v u).mp h.ap, fun k => (h.mem k).trans ⟨fun ⟨e, u, v⟩ => ⟨e, p.mem_iff.mpr u, v⟩, fun ⟨e, u, v⟩ => ⟨e, p.mem_iff.mp u, v⟩⟩⟩
theorem Els.push {es es' : Array (Int × Value)} (h : Els knd S es) {k : K} {x : Value} (hk : knd.is k x = true) (hx : x.scannable = true) (hn : S k = false) (p : es'.toList.Perm (es.toList ++ [(knd.hash k, x)])) : Els knd (fun k' => S k' || decide (k' = k)) es' := by
  refine ⟨(h.el.push hk hx).perm p, (p.symm.pairwise_iff fun {x y} q k u v => q k v u).mp (List.pairwise_append.mpr ⟨h.ap, List.pairwise_singleton _ _, fun e he f hf k' u v => ?_⟩), mem_push_iff hk h.mem p⟩
  rw [List.mem_singleton] at hf
  subst hf
  have e : k' = k := knd.inj x k' k v hk
  subst e
  rw [(h.mem k').mpr ⟨_, he, u⟩] at hn
  cases hn
theorem lay {h : Heap} {o : Obj} {es : Array (Int × Value)} {ep : Nat} {t : SetTable} (ho : h.get? a = some o) (hex : o.ExactSet) (hd : o.data = .set es ep t) {es' : Array (Int × Value)} {t' : SetTable}
    (x : Els knd S es') (hb : es'.size < scanBound) (hf : t'.fits es'.size = true) (g : Good b t') (hn : es'.size ≤ n) :
    (h.update a (Obj.putSet es' t')).get? a = some { o with data := .set es' (ep + 1) t' } ∧ SetG knd (h.update a (Obj.putSet es' t')) a b S n := by
  have q := (SetOf_store (knd := knd) ho hex hd x.el x.mem hb hf).1
  exact ⟨q, _, es', ep + 1, t', q, hex, rfl, x, hb, hf, g, hn⟩
theorem tail_ok {gw : Bool → Sem Unit} (hgw : ∀ (c : Bool) (z : Shared) (P : Unit → Shared → Prop), P () z → wpAny (model prog w) A (gw c) P E z)
    {o : Obj} {es : Array (Int × Value)} {ep : Nat} {t : SetTable} (ho : s.heap.get? a = some o) (hex : o.ExactSet) (hd : o.data = .set es ep t) {fs : Array (Int × Value)} {u : SetTable}
    (x : Els knd S fs) (hb : fs.size < scanBound) (hf : u.fits fs.size = true) (g : Good b u) (hn : fs.size ≤ n) {wd : Bool} {R : Option Bool → Shared → Prop}
    (h : ∀ h', Heap.SameBut a s.heap h' → SetG knd h' a b S n → R (some true) { s with heap := h' }) :
    wpAny (model prog w) A (storeSet a fs u >>= fun _ => if (!wd && u.tooFull) = true then (gw (relayAll u fs (SetTable.grown fs.size)).2.2 >>= fun _ => storeSet a (relayAll u fs (SetTable.grown fs.size)).1 (relayAll u fs (SetTable.grown fs.size)).2.1 >>= fun _ => pure (some true)) else pure (some true)) R E s := by
  obtain ⟨q1, q2⟩ := lay (n := n) ho hex hd x hb hf g hn
  have sb := Heap.SameBut.update s.heap a (Obj.putSet fs u)
  refine wpAny_bind (wpAny_storeSet_of ho hd ?_ (fits_of_scanBound hb))
  by_cases c : (!wd && u.tooFull) = true
  · rw [if_pos c]
    have p := relayAll_perm u fs (SetTable.grown fs.size)
    have f2 := relayAll_fits u fs (SetTable.grown fs.size)
    have g2 := relay_good g fs (SetTable.grown fs.size)
    generalize relayAll u fs (SetTable.grown fs.size) = rl at p f2 g2 ⊢
    obtain ⟨fs2, u2, w2⟩ := rl
    have z : fs2.size = fs.size := by rw [← Array.length_toList, p.length_eq, Array.length_toList]
    refine wpAny_bind (hgw _ _ _ (wpAny_bind (wpAny_storeSet_of q1 rfl (wpAny_pure (h _ (sb.trans (Heap.SameBut.update _ a _)) ?_)) (fits_of_scanBound (z ▸ hb)))))
    exact (lay (n := n) q1 hex rfl (x.perm p) (z ▸ hb) f2 g2 (z ▸ hn)).2
  · rw [if_neg c]
    exact wpAny_pure (h _ sb q2)
theorem add_ok {k : K} {x : Value} {Q : Bool → Shared → Prop} (hkey : knd.is k x = true) (hsc : x.scannable = true) (hS : SetG knd s.heap a b S n) (room : n + 1 < scanBound)
    (h : ∀ r h', Heap.SameBut a s.heap h' → SetG knd h' a b (fun k' => S k' || decide (k' = k)) (n + 1) → Q r { s with heap := h' }) :
    wpAny (model prog w) A (setAddHashed a x (knd.hash k)) Q E s := by
  obtain ⟨o, es, ep, t, ho, hex, hd, el, hb, hf, g, hn⟩ := hS
  unfold setAddHashed setAddHashedIn
  refine wpAny_holding (wpAny_bind (wpAny_setState_of ho hd hf ?_))
  dsimp only
  rw [byScan_of hsc hb el.el, if_pos rfl]
  unfold setAddByScan
  refine wpAny_bind (wpAny_bind (wpAny_rule (wpAny_bind (wpAny_setScan_of hkey ho hd hf el.el ?_))))
  cases hr : List.findIdx? (fun e => knd.is k e.2) es.toList with
  | some j =>
    obtain ⟨hj, hpj, _⟩ := List.findIdx?_eq_some_iff_getElem.mp hr
    have hSk : S k = true := (el.mem k).mpr ⟨_, List.getElem_mem hj, hpj⟩
    refine wpAny_pure (wpAny_pure ?_)
    refine h false s.heap (Heap.SameBut.refl a s.heap) ⟨o, es, ep, t, ho, hex, hd, ⟨el.el, el.ap, fun k' => ?_⟩, hb, hf, g, Nat.le_succ_of_le hn⟩
    rw [← el.mem k', Bool.or_eq_true, decide_eq_true_eq]
    exact ⟨fun q => q.elim id fun e => e ▸ hSk, .inl⟩
  | none =>
    have hSk : S k = false := by
      cases hk : S k with
      | false => rfl
      | true =>
        obtain ⟨e, he, hp⟩ := (el.mem k).mp hk
        rw [List.findIdx?_eq_none_iff.mp hr e he] at hp
        cases hp
    have p := layNew_perm t es (knd.hash k) x
    have f2 := layNew_fits t es (knd.hash k) x
    have g2 := layNew_good g es (knd.hash k) x
    dsimp only
    generalize layNew t es (knd.hash k) x = L at p f2 g2 ⊢
    obtain ⟨fs, u, wd, gv⟩ := L
    dsimp only at p f2 g2 ⊢
    rw [Array.toList_push] at p
    have z : fs.size = es.size + 1 := by rw [← Array.length_toList, p.length_eq, List.length_append, Array.length_toList]; rfl
    have X := el.push hkey hsc hSk p
    have hb2 : fs.size < scanBound := by omega
    have hgw : ∀ (c : Bool) (y : Shared) (P : Unit → Shared → Prop), P () y → wpAny (model prog w) A (match c with | true => rule "set.scan.the-table-gave-way" | false => pure ()) P E y := fun c y P q => by
      cases c
      · exact wpAny_pure q
      · exact wpAny_rule q
    refine wpAny_bind (hgw _ _ _ ?_)
    by_cases c : u.plain = true
    · rw [if_pos c, hashByValue_scannable 8 hsc]
      refine wpAny_bind (wpAny_pure (tail_ok hgw ho hex hd X hb2 ?_ ?_ (n := n + 1) (by omega) fun h' u1 u2 => wpAny_pure (h true h' u1 u2)))
      · split
        · exact f2
        · exact SetTable.fits_plain_off f2
      · split
        · exact g2
        · exact ⟨g2.led, g2.dum, g2.inc⟩
    · rw [if_neg c]
      refine wpAny_bind (wpAny_pure ?_)
      rw [if_pos rfl]
      exact tail_ok hgw ho hex hd X hb2 f2 g2 (n := n + 1) (by omega) fun h' u1 u2 => wpAny_pure (h true h' u1 u2)
end
end L2.SE

namespace L2.SE
open PySem PySem.Spec PyProof PyProof.Rows
noncomputable def byT (w : World) : Bool := w.params.followText "set-order"
noncomputable abbrev sObj (b : Bool) : Obj := { cls := .type "set", dict := none, data := .set #[] 0 (.fresh 0 0 b) }
section
variable {prog : Program} {w : World} {K : Type} [DecidableEq K] {knd : KeyKind prog w K} {S : K → Bool} {A : Around} {E : Value → Shared → Prop} {s : Shared} {a : Addr} {b : Bool} {n : Nat}
theorem SetG.at {h h' : Heap} (x : SetG knd h a b S n) (e : ∀ o, h.get? a = some o → h'.get? a = some o) : SetG knd h' a b S n :=
  let ⟨o, es, ep, t, ho, r⟩ := x; ⟨o, es, ep, t, e o ho, r⟩
theorem SetG.fresh {h : Heap} : SetG knd (h.push (sObj b)) h.objs.size b (fun _ => false) 0 :=
  ⟨_, #[], 0, .fresh 0 0 b, Heap.get?_push_size _ rfl, ⟨rfl, rfl, rfl⟩, rfl, ⟨fun e he => by simp at he, List.Pairwise.nil, fun k => by simp⟩, by decide, by rfl, fresh_good b, Nat.le_refl _⟩
noncomputable def seen (key : Nat → K) (i : Nat) : K → Bool := fun k => (List.range i).any fun j => decide (k = key j)
theorem seen_succ (key : Nat → K) (i : Nat) : (fun k => seen key i k || decide (k = key i)) = seen key (i + 1) := by
  funext k
  unfold seen
  rw [List.range_succ, List.any_append, List.any_cons, List.any_nil, Bool.or_false]
theorem new_ok (x : Value) {Q : Value → Shared → Prop} (h : Q (.ref s.heap.objs.size) { s with heap := s.heap.push (sObj (!byT w)) }) :
    codeAny (model prog w) A (.call (.builtin "set.__new__") ⟨[.type "set", x], []⟩) (wants Q E) s := by
  refine codeAny_of_tree ?_
  show wpAny _ A.in1 (checkBuiltinCall "set.__new__" ⟨[.type "set", x], []⟩ >>= fun _ => again (.builtin "set.__new__" ⟨[.type "set", x], []⟩)) _ _ s
  refine wpAny_bind (wpAny_of_eq (F.newCall_set_1 x) (wpAny_pure ⟨plainId_quiet F.plain_set_new _, codeAny_builtin F.entry_set_new ?_⟩))
  rw [Around.under_plainId F.plain_set_new _]
  unfold Builtin.«set.__new__» Builtin.Frozenset.newClass
  have hs := sub_set_self
  obtain ⟨hp, g, d, tk, os⟩ := s
  dsimp only at h ⊢
  wp_walk
  refine wpAny_askSetting (wpAny_pure ?_)
  dsimp only
  simp only [newObj]
  exact wpAny_bind (wpAny_alloc (wpAny_pure (wpAny_pure h)))
end
section
variable {prog : Program} {w : World} {K : Type} [DecidableEq K] {knd : KeyKind prog w K} {A : Around} {R : Result → Shared → Prop} {I : Addr} {fp wr : List Addr} {G : Array GenState → Array GenState → Prop} {n : Nat} {P : Nat → Value → Prop} {St : Nat → Shared → Prop} {b : Bool}
theorem loop_ok (W : WalksS prog w A.in1 I fp wr G n P St) (D : Addr) (hD : D ∉ fp) (key : Nat → K) (hv : ∀ i v, P i v → knd.is (key i) v = true ∧ v.scannable = true) (hb : n + 1 < scanBound) :
    ∀ (k i : Nat) (s : Shared), n - i = k → i ≤ n → St i s → SetG knd s.heap D b (seen key i) i → (∀ s', Moved (D :: wr) G s s' → SetG knd s'.heap D b (seen key n) n → R (.ok (.ret .none)) s') →
      codeAny (model prog w) A (.builtin "set.update.loop" ⟨[.ref D, .ref I], []⟩) R s := by
  have hDw : D ∉ wr := fun q => hD (W.sub _ q)
  have up : ∀ c ∈ wr, c ∈ D :: wr := fun c q => List.mem_cons_of_mem _ q
  intro k
  induction k with
  | zero =>
    intro i s hk hi st X r
    obtain rfl : i = n := by omega
    refine codeAny_builtin F.entry_set_update_loop ?_
    rw [Around.under_plainId F.plain_set_update_loop _]
    refine wpAny_bind (m := pyNext (.ref I)) (W.done s _ _ st fun s' hm => ?_)
    exact wpAny_pure (r s' (hm.mono up) (X.at fun o e => hm.heap D o hDw e))
  | succ k ih =>
    intro i s hk hi st X r
    refine codeAny_builtin F.entry_set_update_loop ?_
    rw [Around.under_plainId F.plain_set_update_loop _]
    refine wpAny_bind (m := pyNext (.ref I)) (W.item i s _ _ (by omega) st fun v s' hP st' hm => ?_)
    obtain ⟨q1, q2⟩ := hv i v hP
    have X' := X.at (h' := s'.heap) fun o e => hm.heap D o hDw e
    refine wpAny_bind (m := holding [v] (setAdd D v)) (wpAny_holding ?_)
    unfold setAdd
    refine wpAny_holding (wpAny_bind (knd.pyHash q1 ?_))
    refine add_ok (s := { s' with toks := s'.toks + 1 }) q1 q2 X' (by omega) fun _ h' sb X2 => ?_
    rw [seen_succ] at X2
    refine wpAny_pure ⟨plainId_quiet F.plain_set_update_loop _, ih (i + 1) _ (by omega) (by omega) (W.frame _ s' _ _ st' (Nat.le_succ _) fun c hc o e => ?_) X2 fun s2 hm2 X3 => ?_⟩
    · rw [sb.2 c fun z => hD (z ▸ hc)]; exact e
    · refine r s2 (Moved.trans W.gtrans ((hm.mono up).then_heap (Nat.le_succ _) fun c o hc e => ?_) hm2) X3
      rw [sb.2 c fun z => hc (by rw [z]; exact List.mem_cons_self)]; exact e
end
section
variable {prog : Program} {w : World} {K : Type} [DecidableEq K] {knd : KeyKind prog w K} {A : Around} {E : Value → Shared → Prop} {s : Shared}
theorem set_ok {l : Addr} {items : Array Value} {key : Nat → K} {Q : Value → Shared → Prop} (hh : A.handled = none) (hl : s.heap.IsList l items) (hv : ∀ i v, items[i]? = some v → knd.is (key i) v = true ∧ v.scannable = true) (hb : items.size + 1 < scanBound)
    (h : ∀ (h' : Heap) (tk : Nat), SetG knd h' s.heap.objs.size (!byT w) (seen key items.size) items.size → (∀ c o, s.heap.get? c = some o → h'.get? c = some o) → Q (.ref s.heap.objs.size) { s with heap := h', toks := tk }) :
    wpAny (model prog w) A (call (.type "set") [.ref l]) Q E s := by
  obtain ⟨c, tl, m1⟩ := F.called_set.mro
  have m2 := F.called_set.made
  have m3 := F.called_set.sub
  have m4 := F.called_set.notType
  have m5 := F.called_set.canCreate
  have m6 := F.typeCall_set_1 (.ref l)
  refine wpAny_call (codeAny_of_tree ?_)
  show wpAny _ _ (callAny (Value.type "set") _) _ _ _
  refine wpAny_pure ⟨Code.quiet_builtin _ (by decide +kernel), codeAny_builtin F.entry_type_call ?_⟩
  rw [Around.under_plain (weight_type_call_type "set" [.ref l] []) rfl]
  repeat (any_goals (first | assumption | wp_step))
  refine codeAny_mono (new_ok (.ref l) (E := E) (Q := fun obj s₁ => obj = .ref s.heap.objs.size ∧ s₁ = { s with heap := s.heap.push (sObj (!byT w)) }) ⟨rfl, rfl⟩) fun r s₁ hr => ?_
  match r, hr with
  | .error e, hr => exact hr
  | .ok (.ret obj), ⟨e1, e2⟩ =>
    subst e1; subst e2
    have hS : (s.heap.push (sObj (!byT w))).get? s.heap.objs.size = some (sObj (!byT w)) := Heap.get?_push_size _ rfl
    have hT : Shared.TypeIs { s with heap := s.heap.push (sObj (!byT w)) } (.ref s.heap.objs.size) "set" := ⟨_, hS, rfl⟩
    have i1 := F.called_set.init.lookup
    have i2 := F.called_set.init.bind (.ref s.heap.objs.size)
    repeat (any_goals (first | assumption | wp_step))
    refine codeAny_mono (codeAny_call_builtin (R := wants (fun r s₂ => r = .none ∧ ∃ h' tk, s₂ = { s with heap := h', toks := tk } ∧ SetG knd h' s.heap.objs.size (!byT w) (seen key items.size) items.size ∧ ∀ c o, s.heap.get? c = some o → h'.get? c = some o) E) F.called_set.init.plain F.entry_set_init (check_set_init_1 hT ?_)) fun r₂ s₂ hr₂ => ?_
    · obtain ⟨ol, hol, hcl, nl, hdl⟩ := hl
      obtain ⟨oc, od, oda, osl⟩ := ol
      simp only at hcl hdl
      subst hcl; subst hdl
      have hol' := Heap.get?_push_of_some (sObj (!byT w)) hol
      have z1 := F.sub_list_set
      have z2 := F.sub_list_frozenset
      have z3 : (Value.type "list" == Value.type "dict") = false := by decide
      have hl1 : (s.heap.push (sObj (!byT w))).IsList l items := ⟨_, hol', rfl, nl, rfl⟩
      unfold Builtin.«set.__init__» noKeywords Builtin.Frozenset.updateFrom
      generalize hPI : pyIter = PI
      wp_walk
      subst hPI
      refine wpAny_pyIter_list hl1 (wpAny_bind (wpAny_runValue ?_))
      have lt := Heap.lt_size hol
      have ne : l ≠ (s.heap.push (sObj (!byT w))).objs.size := by
        rw [Heap.size_push]; exact Nat.ne_of_lt (Nat.lt_succ_of_lt lt)
      have hf : s.heap.objs.size ∉ [(s.heap.push (sObj (!byT w))).objs.size, l] := fun q => by
        rw [Heap.size_push] at q
        rcases List.mem_cons.mp q with e | q
        · exact absurd e (Nat.ne_of_lt (Nat.lt_succ_self _))
        · exact absurd (List.mem_singleton.mp q) (Nat.ne_of_gt lt)
      refine loop_ok (b := !byT w) ((Walks.list (A := A.in1.in1.in1) (by simp [hh]) _ l ne items).toS) s.heap.objs.size hf key hv hb (items.size - 0) 0 _ rfl (Nat.zero_le _) ⟨⟨_, Heap.get?_push_size _ rfl, rfl, rfl⟩, hl1.push _⟩ ?_ ?_
      · exact (SetG.fresh (knd := knd) (b := !byT w) (h := s.heap)).at fun o e => Heap.get?_push_of_some _ e
      · intro s' hm X
        rw [Moved.eq_with hm]
        refine wpAny_pure (wpAny_pure ⟨rfl, _, _, rfl, X, fun c o e => ?_⟩)
        have lc := Heap.lt_size e
        refine hm.heap c o (fun q => ?_) (Heap.get?_push_of_some _ (Heap.get?_push_of_some _ e))
        rcases List.mem_cons.mp q with q | q
        · exact absurd q (Nat.ne_of_lt lc)
        · rw [Heap.size_push] at q
          exact absurd (List.mem_singleton.mp q) (Nat.ne_of_lt (Nat.lt_succ_of_lt lc))
    · match r₂, hr₂ with
      | .error e, hr => exact hr
      | .ok (.ret _), ⟨e1, h', tk, e2, X, k⟩ =>
        subst e1; subst e2
        repeat (any_goals (first | assumption | wp_step))
        exact h _ _ X k
end
end L2.SE

namespace L2.SE
open PySem PySem.Spec PyProof PyProof.Rows
theorem slot_next : Slot "set_iterator" "__next__" "set_iterator.__next__" :=
  .of (owner := "set_iterator") (n := "__next__") (by rw [typeLookup_type, builtinLookup_eq_fast]; kernel_rfl) (by decide +kernel) (by decide +kernel) (by decide +kernel)
    (by first | exact .inl (by decide +kernel) | exact .inr (by decide +kernel)) (by rw [isSubtype_type]; kernel_rfl)
theorem entry_next : entryFor table "set_iterator.__next__" = some Builtin.«set_iterator.__next__» := entryFor_of_tree (by kernel_rfl)
theorem owner_it : Manifest.owners.lookup (String.ofList ['r', 'o', 't', 'a', 'r', 'e', 't', 'i', '_', 't', 'e', 's'].reverse) = some Manifest.sig_set_iterator := by kernel_rfl
theorem args_next (a : Value) : argsOk "set_iterator.__next__" ⟨[a], []⟩ := by
  unfold argsOk; rw [signature?_of (id := "set_iterator.__next__") (n := ['_', '_', 't', 'x', 'e', 'n', '_', '_']) (o := ['r', 'o', 't', 'a', 'r', 'e', 't', 'i', '_', 't', 'e', 's']) (by kernel_rfl) owner_it]; kernel_rfl
theorem entry_iter : entryFor table "set.__iter__" = some Builtin.«frozenset.__iter__» := entryFor_alias (id' := "frozenset.__iter__") (by kernel_rfl) rfl (by decide +kernel) (by kernel_rfl)
noncomputable def SetAt (h : Heap) (a : Addr) (es : Array (Int × Value)) (ep : Nat) (t : SetTable) : Prop := ∃ o, h.get? a = some o ∧ o.cls = .type "set" ∧ o.data = .set es ep t
noncomputable def It (h : Heap) (I : Addr) (f : Value) (i : Nat) (a : Addr) (n ep : Nat) : Prop := ∃ o, h.get? I = some o ∧ o.cls = .type "set_iterator" ∧ o.data = .fields #[f, .int i 0, .ref a, .int n 0, .int ep 0]
theorem It.typeIs {s : Shared} {I : Addr} {f : Value} {i : Nat} {a : Addr} {n ep : Nat} (x : It s.heap I f i a n ep) : s.TypeIs (.ref I) "set_iterator" := let ⟨o, h, c, _⟩ := x; ⟨o, h, c⟩
section
variable {prog : Program} {w : World} {A : Around} {E : Value → Shared → Prop} {s : Shared} {I a : Addr} {f : Value} {i ep : Nat} {es : Array (Int × Value)} {t : SetTable}
theorem itemI {c c' : Nat} {x : Value} {Q : Option Value → Shared → Prop} (hit : It s.heap I (.int c 0) i a es.size ep) (hs : SetAt s.heap a es ep t) (hf : t.fits es.size = true)
    (hn : ∀ (A : Around) (E : Value → Shared → Prop) (Q : Option (Value × Nat) → Shared → Prop), Q (some (x, c')) s → wpAny (model prog w) A (setNext a c i ep) Q E s)
    (hQ : ∀ h', It h' I (.int c' 0) (i + 1) a es.size ep → Heap.SameBut I s.heap h' → Q (some x) { s with heap := h' }) : wpAny (model prog w) A (pyNext (.ref I)) Q E s := by
  obtain ⟨o, ho, hc, hd⟩ := id hit
  obtain ⟨oa, hoa, hca, hda⟩ := id hs
  unfold pyNext
  refine wpAny_bind (wpAny_attempt (wpAny_callSpecial?_slot (name := Str.ofString "__next__") hit.typeIs slot_next (wpAny_call_entry slot_next hit.typeIs entry_next ?_ (args_next _))))
  unfold Builtin.«set_iterator.__next__»
  refine wpAny_bind (wpAny_pure (wpAny_bind (wpAny_fieldsOf ho hd ?_)))
  show wpAny _ _ (setEntries a >>= _) _ _ s
  refine wpAny_bind (wpAny_setEntries_of hoa hda hf ?_)
  rw [if_neg (by simp)]
  refine wpAny_bind (m := setNext a c i ep) (hn _ _ _ ?_)
  refine wpAny_bind (wpAny_setField ho hd (by simp) ?_)
  have g1 := Heap.get?_update_self (Obj.mapFields (·.setIfInBounds 0 (rawInt c'))) ho (Obj.isFreed_of_fields (Obj.data_mapFields hd _))
  refine wpAny_bind (wpAny_setField g1 (Obj.data_mapFields hd _) (by simp) (wpAny_pure ⟨x, rfl, wpAny_pure (hQ _ ?_ ((Heap.SameBut.update ..).trans (Heap.SameBut.update ..)))⟩))
  refine ⟨_, Heap.get?_update_self _ g1 (Obj.isFreed_of_fields (Obj.data_mapFields (Obj.data_mapFields hd _) _)), (Obj.cls_mapFields ..).trans ((Obj.cls_mapFields ..).trans hc), ?_⟩
  rw [Obj.data_mapFields (Obj.data_mapFields hd _)]
  simp [rawInt]
theorem endI {c : Nat} {Q : Option Value → Shared → Prop} (hh : A.handled = none) (hit : It s.heap I (.int c 0) i a es.size ep) (hs : SetAt s.heap a es ep t) (hf : t.fits es.size = true)
    (hn : ∀ (A : Around) (E : Value → Shared → Prop) (Q : Option (Value × Nat) → Shared → Prop), Q none s → wpAny (model prog w) A (setNext a c i ep) Q E s)
    (hQ : ∀ h', Heap.ExtBut I s.heap h' → Q none { s with heap := h' }) : wpAny (model prog w) A (pyNext (.ref I)) Q E s := by
  obtain ⟨o, ho, hc, hd⟩ := id hit
  obtain ⟨oa, hoa, hca, hda⟩ := id hs
  unfold pyNext
  refine wpAny_bind (wpAny_attempt (wpAny_callSpecial?_slot (name := Str.ofString "__next__") hit.typeIs slot_next (wpAny_call_entry slot_next hit.typeIs entry_next ?_ (args_next _))))
  unfold Builtin.«set_iterator.__next__»
  refine wpAny_bind (wpAny_pure (wpAny_bind (wpAny_fieldsOf ho hd ?_)))
  show wpAny _ _ (setEntries a >>= _) _ _ s
  refine wpAny_bind (wpAny_setEntries_of hoa hda hf ?_)
  rw [if_neg (by simp)]
  refine wpAny_bind (m := setNext a c i ep) (hn _ _ _ ?_)
  refine wpAny_bind (wpAny_setField ho hd (by simp) (wpAny_bind ?_))
  simp only [newExc, newTuple]
  refine wpAny_bind (wpAny_newObj_type ?_ (by size_fits))
  refine wpAny_bind (m := firstArgMember _ _) (wpAny_of_eq (a := Value.none) (by first | rfl | (simp only [firstArgMember]; rfl)) ?_)
  refine wpAny_newObj_type ?_ (by size_fits)
  simp only [raiseNew]
  refine wpAny_bind (wpAny_handled ?_)
  rw [show A.in1.handled = none from hh]
  refine wpAny_bind (wpAny_pure (wpAny_throw ?_))
  refine wpAny_bind (wpAny_isInstance (b := true) (T := "StopIteration") ⟨_, Heap.get?_push_size _ rfl, rfl⟩ isSubtype_stop ?_)
  exact wpAny_pure (hQ _ (((Heap.SameBut.update ..).extBut.push _).push _))
end
end L2.SE

namespace L2.SE
open PySem PySem.Spec PyProof PyProof.Rows
theorem erase_perm {α : Type} : ∀ (l : List α) (i : Nat) (h : i < l.length), (l[i] :: l.eraseIdx i).Perm l
  | x :: l, 0, _ => .refl _
  | x :: l, i + 1, h => ((List.Perm.swap x _ _)).trans ((erase_perm l i (Nat.lt_of_succ_lt_succ h)).cons x)
theorem pick_perm {α : Type} (nx : Nat → Nat) : ∀ (fuel k : Nat) (left : List α) (out : Array α), left.length = fuel → (pickOrder.go nx fuel k left out).toList.Perm (out.toList ++ left)
  | 0, k, left, out, e => by
    cases left with
    | nil => rw [List.append_nil]; exact .refl _
    | cons x l => cases e
  | fuel + 1, k, left, out, e => by
    unfold pickOrder.go
    have hi : nx k % left.length < left.length := Nat.mod_lt _ (by omega)
    rw [List.getElem?_eq_getElem hi]
    refine (pick_perm nx fuel (k + 1) _ _ (by rw [List.length_eraseIdx, if_pos hi]; omega)).trans ?_
    rw [Array.toList_push, List.append_assoc]
    exact List.Perm.append_left _ (erase_perm _ _ hi)
theorem pick_ok {α : Type} (nx : Nat → Nat) (xs : Array α) : (pickOrder nx xs).toList.Perm xs.toList := by
  have := pick_perm nx xs.size 0 xs.toList #[] (by simp)
  simpa [pickOrder] using this
section
variable {prog : Program} {w : World} {A : Around} {E : Value → Shared → Prop} {s : Shared} {I a : Addr} {i ep : Nat} {es : Array (Int × Value)} {t : SetTable}
theorem choose_ok {src : Source} {n : Nat} {Q : Nat → Shared → Prop} (hn : n ≠ 0) (h : ∀ r d, r < n → Q r { s with drawn := d }) : wpAny (model prog w) A (choose src n) Q E s :=
  fun _ _ _ => ⟨hn, h _ _ (Nat.mod_lt _ (Nat.pos_of_ne_zero hn))⟩
theorem draw_ok {α : Type} : ∀ (n : Nat) (xs : List α) (s : Shared) (Q : List α → Shared → Prop), xs.length = n → (∀ ys d, ys.Perm xs → Q ys { s with drawn := d }) → wpAny (model prog w) A (drawOrder n xs) Q E s
  | 0, xs, s, Q, e, h => by
    cases xs with
    | nil => exact wpAny_pure (h [] s.drawn (.refl _))
    | cons x l => cases e
  | n + 1, xs, s, Q, e, h => by
    cases xs with
    | nil => cases e
    | cons x l =>
      unfold drawOrder
      refine wpAny_bind (choose_ok (by simp) fun r d hr => ?_)
      rw [List.getElem?_eq_getElem hr]
      refine wpAny_bind (draw_ok n _ _ _ (by rw [List.length_eraseIdx, if_pos hr]; simp at e ⊢; exact e) fun ys d' p => wpAny_pure ?_)
      exact h _ d' ((p.cons _).trans (erase_perm _ _ hr))
theorem byText_ok {Q : Bool → Shared → Prop} (h : Q (byT w) s) : wpAny (model prog w) A setsByText Q E s := by
  unfold setsByText
  exact wpAny_bind (wpAny_askSetting (wpAny_pure h))
theorem nextT {Q : Option (Value × Nat) → Shared → Prop} (hs : SetAt s.heap a es ep t) (hf : t.fits es.size = true) (hb : byT w = true) {c : Nat}
    (h : Q (((pickOrder (w.params.setOrder a ep) es)[i]?).map fun e => (e.2, c)) s) : wpAny (model prog w) A (setNext a c i ep) Q E s := by
  obtain ⟨o, ho, hc, hd⟩ := hs
  unfold setNext
  refine wpAny_bind (wpAny_setState_of ho hd hf (wpAny_bind (byText_ok ?_)))
  rw [hb, if_pos rfl]
  dsimp only
  rw [if_neg (by simp)]
  unfold setWalk
  refine wpAny_bind ?_
  refine wpAny_bind (wpAny_setState_of ho hd hf (wpAny_bind (byText_ok ?_)))
  rw [hb, if_pos rfl]
  exact wpAny_bind (wpAny_askSetting (wpAny_pure (wpAny_pure h)))
theorem nextL {Q : Option (Value × Nat) → Shared → Prop} (hs : SetAt s.heap a es ep t) (hf : t.fits es.size = true) (hb : byT w = false) (hl : t.led = true) (hp : (!t.plain && decide (es.size > 1)) = false) {c : Nat}
    (h : Q (match es[SetTable.below t.place c]?, t.place[SetTable.below t.place c]? with | some (_, x), some j => some (x, j + 1) | _, _ => none) s) : wpAny (model prog w) A (setNext a c i ep) Q E s := by
  obtain ⟨o, ho, hc, hd⟩ := hs
  unfold setNext
  refine wpAny_bind (wpAny_setState_of ho hd hf (wpAny_bind (byText_ok ?_)))
  rw [hb, if_neg Bool.false_ne_true]
  dsimp only
  split
  · rename_i q
    exact absurd (show (!t.plain && decide (es.size > 1)) = true from q) (by rw [hp]; exact Bool.false_ne_true)
  · refine wpAny_bind ?_
    show wpAny _ _ (if (!t.led && !es.isEmpty) = true then _ else _) _ _ _
    rw [hl, if_neg (by simp)]
    exact wpAny_pure (wpAny_pure h)
end
end L2.SE

namespace L2.SE
open PySem PySem.Spec PyProof PyProof.Rows
theorem slot_itit : Slot "set_iterator" "__iter__" "set_iterator.__iter__" :=
  .of (owner := "set_iterator") (n := "__iter__") (by rw [typeLookup_type, builtinLookup_eq_fast]; kernel_rfl) (by decide +kernel) (by decide +kernel) (by decide +kernel)
    (by first | exact .inl (by decide +kernel) | exact .inr (by decide +kernel)) (by rw [isSubtype_type]; kernel_rfl)
theorem entry_itit : entryFor table "set_iterator.__iter__" = some Builtin.«dict_keyiterator.__iter__» := entryFor_alias (id' := "dict_keyiterator.__iter__") (by kernel_rfl) rfl (by decide +kernel) (by kernel_rfl)
theorem args_itit (a : Value) : argsOk "set_iterator.__iter__" ⟨[a], []⟩ := by
  unfold argsOk; rw [signature?_of (id := "set_iterator.__iter__") (n := ['_', '_', 'r', 'e', 't', 'i', '_', '_']) (o := ['r', 'o', 't', 'a', 'r', 'e', 't', 'i', '_', 't', 'e', 's']) (by kernel_rfl) owner_it]; kernel_rfl
theorem It.at {h h' : Heap} {I : Addr} {f : Value} {i : Nat} {a : Addr} {n ep : Nat} (x : It h I f i a n ep) (e : ∀ o, h.get? I = some o → h'.get? I = some o) : It h' I f i a n ep := let ⟨o, q, r⟩ := x; ⟨o, e o q, r⟩
theorem SetAt.at {h h' : Heap} {a : Addr} {es : Array (Int × Value)} {ep : Nat} {t : SetTable} (x : SetAt h a es ep t) (e : ∀ o, h.get? a = some o → h'.get? a = some o) : SetAt h' a es ep t := let ⟨o, q, r⟩ := x; ⟨o, e o q, r⟩
noncomputable def TupAt (h : Heap) (p : Addr) (xs : Array Value) : Prop := ∃ o n, h.get? p = some o ∧ o.data = .seq xs n
theorem TupAt.at {h h' : Heap} {p : Addr} {xs : Array Value} (x : TupAt h p xs) (e : ∀ o, h.get? p = some o → h'.get? p = some o) : TupAt h' p xs := let ⟨o, n, q, r⟩ := x; ⟨o, n, e o q, r⟩
section
variable {prog : Program} {w : World} {A : Around} {E : Value → Shared → Prop} {s : Shared} {I a : Addr} {i ep : Nat} {es : Array (Int × Value)} {t : SetTable}
theorem self_ok {f : Value} {n : Nat} {Q : Value → Shared → Prop} (hit : It s.heap I f i a n ep) (h : Q (.ref I) s) : wpAny (model prog w) A (pyIter (.ref I)) Q E s := by
  refine wpAny_pyIter_slot hit.typeIs slot_itit (wpAny_call_entry slot_itit hit.typeIs entry_itit ?_ (args_itit _))
  show wpAny _ _ (ret (.ref I)) _ _ s
  exact wpAny_pure ⟨_, rfl, "set_iterator", _, hit.typeIs, slot_next.lookup, h⟩
theorem itemD {p j : Nat} {ps : Array Value} {x : Int × Value} {Q : Option Value → Shared → Prop} (hit : It s.heap I (.ref p) i a es.size ep) (hs : SetAt s.heap a es ep t) (hf : t.fits es.size = true) (ht : TupAt s.heap p ps) (hj : ps[i]? = some (.int j 0)) (hx : es[j]? = some x)
    (hQ : ∀ h', It h' I (.ref p) (i + 1) a es.size ep → Heap.SameBut I s.heap h' → Q (some x.2) { s with heap := h' }) : wpAny (model prog w) A (pyNext (.ref I)) Q E s := by
  obtain ⟨o, ho, hc, hd⟩ := id hit
  obtain ⟨oa, hoa, hca, hda⟩ := id hs
  obtain ⟨op, np, hop, hdp⟩ := id ht
  unfold pyNext
  refine wpAny_bind (wpAny_attempt (wpAny_callSpecial?_slot (name := Str.ofString "__next__") hit.typeIs slot_next (wpAny_call_entry slot_next hit.typeIs entry_next ?_ (args_next _))))
  unfold Builtin.«set_iterator.__next__»
  refine wpAny_bind (wpAny_pure (wpAny_bind (wpAny_fieldsOf ho hd ?_)))
  show wpAny _ _ (setEntries a >>= _) _ _ s
  refine wpAny_bind (wpAny_setEntries_of hoa hda hf ?_)
  rw [if_neg (by simp)]
  refine wpAny_bind (m := seqItems? (.ref p)) (wpAny_seqItems hop hdp ?_)
  simp only [Int.toNat_natCast, hj]
  unfold setNextDrawn
  refine wpAny_bind (wpAny_bind (wpAny_setState_of hoa hda hf ?_))
  dsimp only
  rw [if_neg (by simp), hx]
  refine wpAny_pure (wpAny_bind (wpAny_setField ho hd (by simp) (wpAny_pure ⟨x.2, rfl, wpAny_pure (hQ _ ?_ (Heap.SameBut.update ..))⟩)))
  refine ⟨_, Heap.get?_update_self _ ho (Obj.isFreed_of_fields (Obj.data_mapFields hd _)), (Obj.cls_mapFields ..).trans hc, ?_⟩
  rw [Obj.data_mapFields hd]
  simp [rawInt]
theorem endD {p : Nat} {ps : Array Value} {Q : Option Value → Shared → Prop} (hh : A.handled = none) (hit : It s.heap I (.ref p) i a es.size ep) (hs : SetAt s.heap a es ep t) (hf : t.fits es.size = true) (ht : TupAt s.heap p ps) (hj : ps[i]? = none)
    (hQ : ∀ h', Heap.ExtBut I s.heap h' → Q none { s with heap := h' }) : wpAny (model prog w) A (pyNext (.ref I)) Q E s := by
  obtain ⟨o, ho, hc, hd⟩ := id hit
  obtain ⟨oa, hoa, hca, hda⟩ := id hs
  obtain ⟨op, np, hop, hdp⟩ := id ht
  unfold pyNext
  refine wpAny_bind (wpAny_attempt (wpAny_callSpecial?_slot (name := Str.ofString "__next__") hit.typeIs slot_next (wpAny_call_entry slot_next hit.typeIs entry_next ?_ (args_next _))))
  unfold Builtin.«set_iterator.__next__»
  refine wpAny_bind (wpAny_pure (wpAny_bind (wpAny_fieldsOf ho hd ?_)))
  show wpAny _ _ (setEntries a >>= _) _ _ s
  refine wpAny_bind (wpAny_setEntries_of hoa hda hf ?_)
  rw [if_neg (by simp)]
  refine wpAny_bind (m := seqItems? (.ref p)) (wpAny_seqItems hop hdp ?_)
  simp only [Int.toNat_natCast, hj]
  refine wpAny_bind (wpAny_setField ho hd (by simp) ?_)
  have g1 := Heap.get?_update_self (Obj.mapFields (·.setIfInBounds 0 (rawInt 0))) ho (Obj.isFreed_of_fields (Obj.data_mapFields hd _))
  refine wpAny_bind (wpAny_setField g1 (Obj.data_mapFields hd _) (by simp) (wpAny_bind ?_))
  simp only [newExc, newTuple]
  refine wpAny_bind (wpAny_newObj_type ?_ (by size_fits))
  refine wpAny_bind (m := firstArgMember _ _) (wpAny_of_eq (a := Value.none) (by first | rfl | (simp only [firstArgMember]; rfl)) ?_)
  refine wpAny_newObj_type ?_ (by size_fits)
  simp only [raiseNew]
  refine wpAny_bind (wpAny_handled ?_)
  rw [show A.in1.handled = none from hh]
  refine wpAny_bind (wpAny_pure (wpAny_throw ?_))
  refine wpAny_bind (wpAny_isInstance (b := true) (T := "StopIteration") ⟨_, Heap.get?_push_size _ rfl, rfl⟩ isSubtype_stop ?_)
  exact wpAny_pure (hQ _ ((((Heap.SameBut.update ..).trans (Heap.SameBut.update ..)).extBut.push _).push _))
theorem walkI (hh : A.handled = none) (ne : a ≠ I) (hf : t.fits es.size = true) (ord : Array Value) (sl : Nat → Nat) (hz : ord.size = es.size)
    (hn : ∀ (i : Nat), i ≤ es.size → ∀ (A : Around) (E : Value → Shared → Prop) (s : Shared) (Q : Option (Value × Nat) → Shared → Prop), SetAt s.heap a es ep t → Q ((ord[i]?).map fun x => (x, sl (i + 1))) s → wpAny (model prog w) A (setNext a (sl i) i ep) Q E s) :
    Walks prog w A I [I, a] [I] es.size (fun i v => ord[i]? = some v) (fun i h => It h I (.int (sl i) 0) i a es.size ep ∧ SetAt h a es ep t) where
  sub := fun b hb => by simp at hb; simp [hb]
  frame := fun _ _ _ st k => ⟨st.1.at fun o e => k I (by simp) o e, st.2.at fun o e => k a (by simp) o e⟩
  item := fun i s Q E hi st hQ => by
    have e : ord[i]? = some ord[i] := Array.getElem?_eq_getElem (by omega)
    refine itemI st.1 st.2 hf (x := ord[i]'(by omega)) (c' := sl (i + 1)) (fun A E Q q => hn i (by omega) A E s Q st.2 (by rw [e]; exact q)) fun h' it sb => ?_
    exact hQ _ h' s.toks e ⟨it, st.2.at fun o q => sb.extBut a o ne q⟩ fun b o hb q => sb.extBut b o (fun z => hb (by simp [z])) q
  done := fun s Q E st hQ => endI hh st.1 st.2 hf (fun A E Q q => hn _ (Nat.le_refl _) A E s Q st.2 (by rw [Array.getElem?_eq_none (by omega)]; exact q)) fun h' k => hQ h' s.toks fun b o hb q => k b o (fun z => hb (by simp [z])) q
  self := fun _ _ _ _ st hQ => self_ok st.1 hQ
theorem walkD {p : Nat} (hh : A.handled = none) (ne : a ≠ I) (np : p ≠ I) (hf : t.fits es.size = true) (ys : List Nat) (hl : ys.length = es.size) (hy : ∀ j ∈ ys, j < es.size) :
    Walks prog w A I [I, a, p] [I] es.size (fun i v => ∃ j e, ys[i]? = some j ∧ es[j]? = some e ∧ v = e.2) (fun i h => It h I (.ref p) i a es.size ep ∧ SetAt h a es ep t ∧ TupAt h p (ys.map fun (j : Nat) => rawInt j).toArray) where
  sub := fun b hb => by simp at hb; simp [hb]
  frame := fun _ _ _ st k => ⟨st.1.at fun o e => k I (by simp) o e, st.2.1.at fun o e => k a (by simp) o e, st.2.2.at fun o e => k p (by simp) o e⟩
  item := fun i s Q E hi st hQ => by
    have hi' : i < ys.length := by omega
    have hj := hy ys[i] (List.getElem_mem hi')
    refine itemD st.1 st.2.1 hf st.2.2 (j := ys[i]) (x := es[ys[i]]) (by simp [List.getElem?_eq_getElem hi', rawInt]) (Array.getElem?_eq_getElem hj) fun h' it sb => ?_
    exact hQ _ h' s.toks ⟨_, _, List.getElem?_eq_getElem hi', Array.getElem?_eq_getElem hj, rfl⟩ ⟨it, st.2.1.at fun o q => sb.extBut a o ne q, st.2.2.at fun o q => sb.extBut p o np q⟩ fun b o hb q => sb.extBut b o (fun z => hb (by simp [z])) q
  done := fun s Q E st hQ => endD hh st.1 st.2.1 hf st.2.2 (by simp [hl]) fun h' k => hQ h' s.toks fun b o hb q => k b o (fun z => hb (by simp [z])) q
  self := fun _ _ _ _ st hQ => self_ok st.1 hQ
noncomputable def itO (f : Value) (a : Addr) (n ep : Nat) : Obj := { cls := .type "set_iterator", data := .fields #[f, .int 0 0, .ref a, .int n 0, .int ep 0] }
theorem iter_ok {Q : Value → Shared → Prop} (hs : SetAt s.heap a es ep t) (hf : t.fits es.size = true) (hz : es.size ≤ sizeLine)
    (h1 : byT w = true ∨ (!t.plain && decide (es.size > 1)) = false → Q (.ref s.heap.objs.size) { s with heap := s.heap.push (itO (.int 0 0) a es.size ep) })
    (h2 : ∀ (ys : List Nat) d, ys.Perm (List.range es.size) → Q (.ref (s.heap.objs.size + 1)) { s with heap := (s.heap.push { cls := .type "tuple", data := .seq (ys.map fun (j : Nat) => rawInt j).toArray }).push (itO (.ref s.heap.objs.size) a es.size ep), drawn := d }) :
    wpAny (model prog w) A (pyIter (.ref a)) Q E s := by
  obtain ⟨o, ho, hc, hd⟩ := id hs
  have hT : s.TypeIs (.ref a) "set" := ⟨o, ho, hc⟩
  refine wpAny_pyIter_slot hT F.slot_set_iter (wpAny_call_entry F.slot_set_iter hT entry_iter ?_ (F.args_set_iter_1 _))
  unfold Builtin.«frozenset.__iter__»
  refine wpAny_bind (wpAny_pure ?_)
  unfold Builtin.Frozenset.sizeOf
  refine wpAny_bind (wpAny_bind (wpAny_setEntries_of ho hd hf (wpAny_pure ?_)))
  unfold setDrawn
  refine wpAny_bind (wpAny_bind (wpAny_setState_of ho hd hf (wpAny_bind (byText_ok (wpAny_pure ?_)))))
  dsimp only
  split
  · refine wpAny_bind (draw_ok _ _ _ _ (List.length_range) fun ys d p => ?_)
    have hl : ys.length = es.size := by rw [p.length_eq, List.length_range]
    refine wpAny_bind (wpAny_newTuple ?_ (by rw [List.length_map, hl]; exact hz))
    have ho' := Heap.get?_push_of_some { cls := .type "tuple", data := .seq (ys.map fun (j : Nat) => rawInt j).toArray } ho
    refine wpAny_bind (wpAny_setEpoch_of ho' hd hf (wpAny_bind (wpAny_newObj_type (wpAny_pure ⟨_, rfl, "set_iterator", _, ⟨_, Heap.get?_push_size _ rfl, rfl⟩, slot_next.lookup, ?_⟩))))
    have := h2 ys d p
    rw [show s.heap.objs.size + 1 = (s.heap.push { cls := .type "tuple", data := .seq (ys.map fun (j : Nat) => rawInt j).toArray }).objs.size from (Heap.size_push _ _).symm] at this
    exact this
  · rename_i c
    have c : ¬ (!byT w && (!t.plain && decide (es.size > 1))) = true := c
    refine wpAny_bind (wpAny_pure (wpAny_bind (wpAny_setEpoch_of ho hd hf (wpAny_bind (wpAny_newObj_type (wpAny_pure ⟨_, rfl, "set_iterator", _, ⟨_, Heap.get?_push_size _ rfl, rfl⟩, slot_next.lookup, h1 ?_⟩))))))
    cases q : byT w with
    | true => exact .inl rfl
    | false => rw [q] at c; exact .inr (Bool.eq_false_iff.mpr c)
end
end L2.SE

namespace L2.SE
open PySem PySem.Spec PyProof PyProof.Rows
theorem items_eq {P : Nat → Value → Prop} {acc : Array Value} {n : Nat} (L : List Value) (hl : L.length = n) (h : ItemsOf P acc n) (hp : ∀ j v, P j v → L[j]? = some v) : acc.toList = L := by
  refine List.ext_getElem? fun j => ?_
  rcases Nat.lt_or_ge j n with q | q
  · have hj : j < acc.size := by rw [h.1]; exact q
    rw [Array.getElem?_toList, Array.getElem?_eq_getElem hj]
    exact (hp j _ (h.2 j _ (Array.getElem?_eq_getElem hj))).symm
  · rw [List.getElem?_eq_none (by rw [Array.length_toList, h.1]; exact q), List.getElem?_eq_none (by omega)]
theorem fits_size {t : SetTable} {n : Nat} (h : t.fits n = true) : t.place.size = n := by
  simp only [SetTable.fits, Bool.and_eq_true, beq_iff_eq] at h
  exact h.1
noncomputable def slots (t : SetTable) : Nat → Nat
  | 0 => 0
  | i + 1 => t.place.getD i 0 + 1
theorem slots_ok {b : Bool} {t : SetTable} (g : Good b t) : ∀ {i : Nat}, i ≤ t.place.size → SetTable.below t.place (slots t i) = i
  | 0, _ => below_zero g.inc
  | i + 1, h => by
    have e : t.place[i]? = some (t.place.getD i 0) := by
      rw [Array.getD_eq_getD_getElem?, Array.getElem?_eq_getElem h]; rfl
    exact below_next g.inc e
section
variable {prog : Program} {w : World} {K : Type} [DecidableEq K] {knd : KeyKind prog w K} {S : K → Bool} {A : Around} {E : Value → Shared → Prop} {s : Shared} {a : Addr} {n : Nat} {es : Array (Int × Value)} {t : SetTable} {ep : Nat}
theorem hint_ok {Q : Bool → Shared → Prop} (hT : s.TypeIs (.ref a) "set") (h : Q false s) : wpAny (model prog w) A (Builtin.List.listLengthHint (.ref a)) Q E s := by
  unfold Builtin.List.listLengthHint
  refine wpAny_bind (wpAny_specialOf hT F.slot_set_len.lookup ?_)
  generalize q : ("set.__len__" : String) = nm
  wp_delta
  rw [show splitId nm = some ("set", "__len__") from by subst q; decide +kernel]
  subst q
  refine wpAny_bind (wpAny_isInstance (b := true) (T := "set") hT (by rw [isSubtype_type]; kernel_rfl) ?_)
  refine wpAny_ite_split (fun z => absurd z (by decide)) fun _ => ?_
  refine wpAny_ite_split (fun _ => ?_) fun z => absurd (by decide +kernel) z
  exact wpAny_bind (wpAny_typeOf hT (wpAny_pure h))
theorem loopE {R : Result → Shared → Prop} {D I : Addr} {fp wr : List Addr} {P : Nat → Value → Prop} {St : Nat → Heap → Prop} {c : Nat} (hS : s.heap.get? D = some { cls := .type "list", data := .seq #[] c }) (hDf : D ∉ fp) (hn : n ≤ sizeLine)
    (W : Walks prog w A.in1 I fp wr n P St) (st : St 0 s.heap)
    (h : ∀ s' acc c', Moved (D :: wr) (fun x y => y = x) s s' → s'.heap.get? D = some { cls := .type "list", dict := none, data := .seq acc c', slots := #[] } → ItemsOf P acc n → R (.ok (.ret (.ref D))) s') :
    wpAny (model prog w) A.in1 (again (.builtin "list.extend.loop" ⟨[.ref D, .ref I, .ref D], []⟩)) (fun fin s' => match fin with | .done f => R (.ok f) s' | .again c' => c'.quiet = true ∧ codeAny (model prog w) A c' R s') (fun e s' => R (.error e) s') s :=
  wpAny_pure ⟨plainId_quiet F.plain_extend_loop _, codeAny_extend_loopS W.toS hn D hDf _ n 0 _ _ _ rfl (Nat.zero_le _) st hS (ItemsOf.nil P) h⟩
theorem loopT {R : Result → Shared → Prop} {D I : Addr} {fp wr : List Addr} {P : Nat → Value → Prop} {St : Nat → Heap → Prop} {c : Nat} (hS : s.heap.get? D = some { cls := .type "list", data := .seq #[] c }) (hDf : D ∉ fp) (hn : n ≤ sizeLine)
    (W : Walks prog w A.in1 I fp wr n P St) (st : St 0 s.heap)
    (h : ∀ s' acc c', Moved (D :: wr) (fun x y => y = x) s s' → s'.heap.get? D = some { cls := .type "list", dict := none, data := .seq acc c', slots := #[] } → ItemsOf P acc n → R (.ok (.ret (.ref D))) s') :
    wpAny (model prog w) A.in1 (rule "list.extend.makes-room" >>= fun _ => Builtin.List.listTouch (.ref D) >>= fun _ => again (.builtin "list.extend.loop" ⟨[.ref D, .ref I, .ref D], []⟩)) (fun fin s' => match fin with | .done f => R (.ok f) s' | .again c' => c'.quiet = true ∧ codeAny (model prog w) A c' R s') (fun e s' => R (.error e) s') s := by
  have g1 := Heap.get?_update_self (Obj.mapSeq (·.push Value.none)) hS rfl
  have g2 := Heap.get?_update_self (Obj.mapSeq (·.pop)) g1 rfl
  have oth : ∀ b o, b ≠ D → s.heap.get? b = some o → ((s.heap.update D (Obj.mapSeq (·.push Value.none))).update D (Obj.mapSeq (·.pop))).get? b = some o := fun b o hb e =>
    (Heap.get?_update_other _ _ (Ne.symm hb)).trans ((Heap.get?_update_other _ _ (Ne.symm hb)).trans e)
  refine wpAny_bind (wpAny_rule (wpAny_bind ?_))
  refine wpAny_bind (m := updateSeq D (·.push .none)) (wpAny_updateSeq hS rfl ?_)
  refine wpAny_updateSeq (hz := by seq_fits) g1 rfl ?_
  refine loopE g2 hDf hn W (W.frame 0 _ _ st fun b hb o e => oth b o (fun z => hDf (z ▸ hb)) e) fun s' acc c' m q1 q2 => h s' acc c' ?_ q1 q2
  exact Moved.trans (fun _ _ _ e1 e2 => e2.trans e1) ((Moved.refl (G := fun x y => y = x) fun _ => rfl).then_heap (Nat.le_refl _) fun b o hb e => oth b o (fun z => hb (by rw [z]; exact List.mem_cons_self)) e) m
theorem after_ok {R : Result → Shared → Prop} {D I : Addr} {fp wr : List Addr} {P : Nat → Value → Prop} {St : Nat → Heap → Prop} {c : Nat} (q : Bool) (hT : s.TypeIs (.ref a) "set") (hS : s.heap.get? D = some { cls := .type "list", data := .seq #[] c }) (hDf : D ∉ fp) (hn : n ≤ sizeLine)
    (W : Walks prog w A.in1 I fp wr n P St) (st : St 0 s.heap)
    (h : ∀ s' acc c', Moved (D :: wr) (fun x y => y = x) s s' → s'.heap.get? D = some { cls := .type "list", dict := none, data := .seq acc c', slots := #[] } → ItemsOf P acc n → R (.ok (.ret (.ref D))) s') :
    wpAny (model prog w) A.in1 (holding [Value.ref I] (Builtin.List.listLengthHint (.ref a)) >>= fun room => if (room || q) = true then (rule "list.extend.makes-room" >>= fun _ => Builtin.List.listTouch (.ref D) >>= fun _ => again (.builtin "list.extend.loop" ⟨[.ref D, .ref I, .ref D], []⟩)) else again (.builtin "list.extend.loop" ⟨[.ref D, .ref I, .ref D], []⟩))
      (fun fin s' => match fin with | .done f => R (.ok f) s' | .again c' => c'.quiet = true ∧ codeAny (model prog w) A c' R s') (fun e s' => R (.error e) s') s := by
  refine wpAny_bind (wpAny_holding (hint_ok hT ?_))
  split
  · exact loopT hS hDf hn W st h
  · exact loopE hS hDf hn W st h
theorem extend_ok {R : Result → Shared → Prop} {D : Addr} {c : Nat} (hh : A.handled = none) (X : SetG knd s.heap a (!byT w) S n) (hS : s.heap.get? D = some { cls := .type "list", data := .seq #[] c }) (hD : D ≠ a)
    (h : ∀ (h' : Heap) d (tk : Nat) (acc : Array Value) (c' : Nat) (es : Array (Int × Value)), (∀ b o, b ≠ D → s.heap.get? b = some o → h'.get? b = some o) → h'.get? D = some { cls := .type "list", dict := none, data := .seq acc c', slots := #[] } → Els knd S es → es.size ≤ n → acc.toList.Perm (es.toList.map (·.2)) → R (.ok (.ret (.ref D))) { s with heap := h', drawn := d, toks := tk }) :
    wpAny (model prog w) A.in1 (Builtin.List.listExtendWith (.ref D) (.ref a) (.ref D)) (fun fin s' => match fin with | .done f => R (.ok f) s' | .again c' => c'.quiet = true ∧ codeAny (model prog w) A c' R s') (fun e s' => R (.error e) s') s := by
  obtain ⟨o, es, ep, t, ho, hex, hd, el, hb, hf, g, hn⟩ := X
  have hz := fits_of_scanBound hb
  have hs : SetAt s.heap a es ep t := ⟨o, ho, hex.1, hd⟩
  have hT : s.TypeIs (.ref a) "set" := ⟨o, ho, hex.1⟩
  have hDl := Heap.lt_size hS
  have hal := Heap.lt_size ho
  unfold Builtin.List.listExtendWith
  refine wpAny_bind (wpAny_typeOf hT ?_)
  rw [if_neg (by simp [Builtin.List.listSameRef, hD])]
  refine wpAny_bind (iter_ok hs hf hz (fun m => ?_) fun ys d p => ?_)
  · have ne : a ≠ s.heap.objs.size := Nat.ne_of_lt hal
    have nD : D ∉ [s.heap.objs.size, a] := fun q => by
      rcases List.mem_cons.mp q with q | q
      · exact absurd q (Nat.ne_of_lt hDl)
      · exact hD (List.mem_singleton.mp q)
    obtain ⟨ord, sl, po, s0, hx⟩ : ∃ (ord : Array Value) (sl : Nat → Nat), ord.toList.Perm (es.toList.map (·.2)) ∧ sl 0 = 0 ∧ ∀ (i : Nat), i ≤ es.size → ∀ (A : Around) (E : Value → Shared → Prop) (s : Shared) (Q : Option (Value × Nat) → Shared → Prop), SetAt s.heap a es ep t → Q ((ord[i]?).map fun x => (x, sl (i + 1))) s → wpAny (model prog w) A (setNext a (sl i) i ep) Q E s := by
      cases q : byT w with
      | true =>
        refine ⟨(pickOrder (w.params.setOrder a ep) es).map (·.2), fun _ => 0, ?_, rfl, fun i _ A E s Q hs' hq => nextT hs' hf q ?_⟩
        · rw [Array.toList_map]; exact (pick_ok _ es).map _
        · rw [Array.getElem?_map, Option.map_map] at hq
          exact hq
      | false =>
        rw [q] at g
        refine ⟨es.map (·.2), slots t, by rw [Array.toList_map], rfl, fun i hi A E s Q hs' hq => nextL hs' hf q g.led (m.resolve_left (by rw [q]; exact Bool.false_ne_true)) ?_⟩
        rw [slots_ok g (by rw [fits_size hf]; exact hi)]
        rw [Array.getElem?_map] at hq
        rcases Nat.lt_or_ge i es.size with l | l
        · rw [Array.getElem?_eq_getElem l] at hq ⊢
          have e : t.place[i]? = some (t.place.getD i 0) := by
            rw [Array.getD_eq_getD_getElem?, Array.getElem?_eq_getElem (by rw [fits_size hf]; exact l)]; rfl
          rw [e]
          exact hq
        · rw [Array.getElem?_eq_none l] at hq ⊢
          exact hq
    have hz' : ord.size = es.size := by rw [← Array.length_toList, po.length_eq, List.length_map, Array.length_toList]
    have W := walkI (prog := prog) (w := w) (A := A.in1.in1) (I := s.heap.objs.size) (t := t) (ep := ep) hh ne hf ord sl hz' hx
    exact after_ok (s := { s with heap := s.heap.push (itO (.int 0 0) a es.size ep) }) (R := R) (D := D) (c := c) _ ⟨o, Heap.get?_push_of_some _ ho, hex.1⟩ (Heap.get?_push_of_some _ hS) nD hz W.of_in1 ⟨⟨_, Heap.get?_push_size _ rfl, rfl, by rw [s0]; rfl⟩, hs.at fun o e => Heap.get?_push_of_some _ e⟩ fun s' acc c' m q1 q2 => by
      rw [Moved.eq_with m]
      refine h s'.heap s.drawn s'.toks acc c' es (fun b o hb e => m.heap b o (fun z => ?_) (Heap.get?_push_of_some _ e)) q1 el hn ?_
      · rcases List.mem_cons.mp z with z | z
        · exact hb z
        · exact absurd (List.mem_singleton.mp z) (Nat.ne_of_lt (Heap.lt_size e))
      · rw [items_eq ord.toList (by rw [Array.length_toList, hz']) q2 fun j v e => by rw [Array.getElem?_toList]; exact e]
        exact po
  · have hl : ys.length = es.size := by rw [p.length_eq, List.length_range]
    have hI : s.heap.objs.size + 1 = (s.heap.push { cls := .type "tuple", data := .seq (ys.map fun (j : Nat) => rawInt j).toArray }).objs.size := (Heap.size_push _ _).symm
    have ne : a ≠ s.heap.objs.size + 1 := Nat.ne_of_lt (Nat.lt_succ_of_lt hal)
    have nD : D ∉ [s.heap.objs.size + 1, a, s.heap.objs.size] := fun q => by
      rcases List.mem_cons.mp q with q | q
      · exact absurd q (Nat.ne_of_lt (Nat.lt_succ_of_lt hDl))
      · rcases List.mem_cons.mp q with q | q
        · exact hD q
        · exact absurd (List.mem_singleton.mp q) (Nat.ne_of_lt hDl)
    have W := walkD (prog := prog) (w := w) (A := A.in1.in1) (I := s.heap.objs.size + 1) (p := s.heap.objs.size) (t := t) (ep := ep) hh ne (Nat.ne_of_lt (Nat.lt_succ_self _)) hf ys hl fun j hj => List.mem_range.mp (p.mem_iff.mp hj)
    have up : ∀ {b o}, s.heap.get? b = some o → ((s.heap.push { cls := .type "tuple", data := .seq (ys.map fun (j : Nat) => rawInt j).toArray }).push (itO (.ref s.heap.objs.size) a es.size ep)).get? b = some o := fun e => Heap.get?_push_of_some _ (Heap.get?_push_of_some _ e)
    refine after_ok (s := { s with heap := (s.heap.push { cls := .type "tuple", data := .seq (ys.map fun (j : Nat) => rawInt j).toArray }).push (itO (.ref s.heap.objs.size) a es.size ep), drawn := d }) (R := R) (D := D) (c := c) _ ⟨o, up ho, hex.1⟩ (up hS) nD hz W.of_in1 ⟨⟨_, by rw [hI]; exact Heap.get?_push_size _ rfl, rfl, rfl⟩, hs.at fun o e => up e, ⟨_, 0, Heap.get?_push_of_some _ (Heap.get?_push_size _ rfl), rfl⟩⟩ fun s' acc c' m q1 q2 => ?_
    rw [Moved.eq_with m]
    refine h s'.heap d s'.toks acc c' es (fun b o hb e => m.heap b o (fun z => ?_) (up e)) q1 el hn ?_
    · rcases List.mem_cons.mp z with z | z
      · exact hb z
      · exact absurd (List.mem_singleton.mp z) (Nat.ne_of_lt (Nat.lt_succ_of_lt (Heap.lt_size e)))
    · have ea : acc.toList = ys.map fun j => ((es[j]?).map (·.2)).getD .none := items_eq _ (by rw [List.length_map, hl]) q2 fun j v ⟨k, e, e1, e2, e3⟩ => by
        rw [List.getElem?_map, e1, Option.map_some, e2, e3]; rfl
      rw [ea]
      refine (p.map _).trans ?_
      rw [show (List.range es.size).map (fun j => ((es[j]?).map (·.2)).getD Value.none) = es.toList.map (·.2) from ?_]
      refine List.ext_getElem (by simp) fun i h1 h2 => ?_
      have hi : i < es.size := by simpa using h1
      simp [hi]
theorem collect_ok {R : List Value → Shared → Prop} (hh : A.handled = none) (X : SetG knd s.heap a (!byT w) S n)
    (h : ∀ (h' : Heap) d (tk : Nat) (vs : List Value) (es : Array (Int × Value)), (∀ b o, s.heap.get? b = some o → h'.get? b = some o) → Els knd S es → es.size ≤ n → vs.Perm (es.toList.map (·.2)) → R vs { s with heap := h', drawn := d, toks := tk }) :
    wpAny (model prog w) A (collect (.ref a)) R E s := by
  have hal : a < s.heap.objs.size := by obtain ⟨o, _, _, _, ho, _⟩ := X; exact Heap.lt_size ho
  unfold collect
  refine wpAny_bind (wpAny_runValue (codeAny_builtin F.entry_proto_collect ?_))
  rw [Around.under_plainId F.plain_proto_collect _]
  refine wpAny_bind (m := newList []) (wpAny_newObj_type ?_)
  refine wpAny_pure ⟨plainId_quiet F.plain_list_iadd _, codeAny_builtin F.entry_list_iadd ?_⟩
  rw [Around.under_plainId F.plain_list_iadd _]
  show wpAny _ A.in1 (Builtin.List.listExtendWith (.ref s.heap.objs.size) (.ref a) (.ref s.heap.objs.size)) _ _ _
  have key := extend_ok (s := { s with heap := s.heap.push { cls := .type "list", data := .seq ([] : List Value).toArray } }) (knd := knd) (S := S) (n := n) (c := 0) (D := s.heap.objs.size) (A := A)
    (R := fun q s' => ∃ h' d tk acc c' es, q = .ok (.ret (.ref s.heap.objs.size)) ∧ s' = { s with heap := h', drawn := d, toks := tk } ∧ (∀ b o, s.heap.get? b = some o → h'.get? b = some o) ∧ h'.get? s.heap.objs.size = some { cls := .type "list", dict := none, data := .seq acc c', slots := #[] } ∧ Els knd S es ∧ es.size ≤ n ∧ acc.toList.Perm (es.toList.map (·.2)))
    hh (X.at fun o e => Heap.get?_push_of_some _ e) (Heap.get?_push_size _ rfl) (Nat.ne_of_gt hal) fun h' d tk acc c' es k q1 el hn p =>
      ⟨h', d, tk, acc, c', es, rfl, rfl, fun b o e => k b o (Nat.ne_of_lt (Heap.lt_size e)) (Heap.get?_push_of_some _ e), q1, el, hn, p⟩
  refine wpAny_mono key (fun f s' x => ?_) fun e s' x => ?_
  · match f, x with
    | .done g, ⟨h', d, tk, acc, c', es, e, e2, k, q1, el, hn, p⟩ =>
      subst e2
      cases e
      exact wpAny_bind (wpAny_load q1 (wpAny_pure (h h' d tk acc.toList es k el hn p)))
    | .again g, ⟨x1, x2⟩ =>
      refine ⟨x1, codeAny_mono x2 fun r s₂ y => ?_⟩
      obtain ⟨h', d, tk, acc, c', es, rfl, rfl, k, q1, el, hn, p⟩ := y
      exact wpAny_bind (wpAny_load q1 (wpAny_pure (h h' d tk acc.toList es k el hn p)))
  · obtain ⟨_, _, _, _, _, _, z, _⟩ := x
    cases z
end
end L2.SE

namespace L2
open PySem PySem.Spec PyProof PyProof.Rows
noncomputable def dd : List Int → List Int
  | [] => []
  | x :: l => if x ∈ l then dd l else x :: dd l
theorem dd_mem : ∀ {l : List Int} {x : Int}, x ∈ dd l ↔ x ∈ l
  | [], x => Iff.rfl
  | y :: l, x => by
    unfold dd
    split
    · rename_i h
      rw [dd_mem, List.mem_cons]
      exact ⟨.inr, fun q => q.elim (fun e => e ▸ h) id⟩
    · rw [List.mem_cons, List.mem_cons, dd_mem]
theorem dd_nodup : ∀ l : List Int, (dd l).Nodup
  | [] => List.nodup_nil
  | y :: l => by
    unfold dd
    split
    · exact dd_nodup l
    · rename_i h
      exact List.nodup_cons.mpr ⟨fun q => h (dd_mem.mp q), dd_nodup l⟩
theorem perm_nodup : ∀ {l m : List Int}, l.Nodup → m.Nodup → (∀ x, x ∈ l ↔ x ∈ m) → l.Perm m
  | [], m, _, _, h => by
    have : m = [] := List.eq_nil_iff_forall_not_mem.mpr fun x q => nomatch (h x).mpr q
    rw [this]
  | a :: l, m, hl, hm, h => by
    obtain ⟨s, t, rfl⟩ := List.append_of_mem ((h a).mp List.mem_cons_self)
    have hm' := (List.perm_middle (a := a) (l₁ := s) (l₂ := t)).nodup hm
    obtain ⟨n1, n2⟩ := List.nodup_cons.mp hm'
    obtain ⟨n3, n4⟩ := List.nodup_cons.mp hl
    refine ((perm_nodup n4 n2 fun x => ?_).cons a).trans List.perm_middle.symm
    have q := h x
    rw [List.mem_cons, (List.perm_middle (a := a) (l₁ := s) (l₂ := t)).mem_iff, List.mem_cons] at q
    constructor
    · intro hx
      exact (q.mp (.inr hx)).resolve_left fun e => n3 (e ▸ hx)
    · intro hx
      exact (q.mpr (.inr hx)).resolve_left fun e => n1 (e ▸ hx)
theorem ints_ex : ∀ {vs : List Value}, (∀ v ∈ vs, ∃ k t, v = Value.int k t) → vs.Pairwise (fun u v => ∀ k t t', u = .int k t → v = .int k t' → False) →
    ∃ ms : List Int, IntsAre vs ms ∧ ms.Nodup ∧ ∀ k, k ∈ ms ↔ ∃ t, Value.int k t ∈ vs
  | [], _, _ => ⟨[], .nil, List.nodup_nil, fun k => ⟨fun q => absurd q List.not_mem_nil, fun q => absurd q.choose_spec List.not_mem_nil⟩⟩
  | v :: vs, h, p => by
    obtain ⟨k, t, rfl⟩ := h v List.mem_cons_self
    obtain ⟨p1, p2⟩ := List.pairwise_cons.mp p
    obtain ⟨ms, h1, h2, h3⟩ := ints_ex (fun v q => h v (List.mem_cons_of_mem _ q)) p2
    refine ⟨k :: ms, .cons k t h1, List.nodup_cons.mpr ⟨fun q => ?_, h2⟩, fun x => ?_⟩
    · obtain ⟨t', q⟩ := (h3 k).mp q
      exact p1 _ q k t t' rfl rfl
    · rw [List.mem_cons, h3]
      constructor
      · rintro (rfl | ⟨t', q⟩)
        · exact ⟨t, List.mem_cons_self⟩
        · exact ⟨t', List.mem_cons_of_mem _ q⟩
      · rintro ⟨t', q⟩
        rcases List.mem_cons.mp q with e | q
        · cases e; exact .inl rfl
        · exact .inr ⟨t', q⟩
theorem els_ints {P : Program} {w : World} {S : Int → Bool} {es : Array (Int × Value)} (x : SE.Els (intKind P w) S es) {vs : List Value} (p : vs.Perm (es.toList.map (·.2))) : ∃ ms : List Int, IntsAre vs ms ∧ ms.Nodup ∧ ∀ k, k ∈ ms ↔ S k = true := by
  have h0 : ∀ v ∈ vs, ∃ k t, v = Value.int k t := fun v q => by
    obtain ⟨e, he, rfl⟩ := List.mem_map.mp (p.mem_iff.mp q)
    obtain ⟨⟨k, hk, _⟩, _⟩ := x.el e he
    obtain ⟨t, ht⟩ := Value.isInt_shape hk
    exact ⟨k, t, ht⟩
  have h1 : (es.toList.map (·.2)).Pairwise (fun u v => ∀ k t t', u = .int k t → v = .int k t' → False) := by
    rw [List.pairwise_map]
    refine x.ap.imp fun {e f} q k t t' e1 e2 => q k ?_ ?_
    · rw [e1]; exact intKind_is _ _ _ _
    · rw [e2]; exact intKind_is _ _ _ _
  obtain ⟨ms, a, b, c⟩ := ints_ex h0 ((p.symm.pairwise_iff fun {u v} q k t t' e1 e2 => q k t' t e2 e1).mp h1)
  refine ⟨ms, a, b, fun k => ?_⟩
  rw [c, x.mem]
  constructor
  · rintro ⟨t, q⟩
    obtain ⟨e, he, e2⟩ := List.mem_map.mp (p.mem_iff.mp q)
    exact ⟨e, he, by rw [e2]; exact intKind_is _ _ _ _⟩
  · rintro ⟨e, he, q⟩
    obtain ⟨t, ht⟩ := Value.isInt_shape q
    exact ⟨t, p.mem_iff.mpr (List.mem_map.mpr ⟨e, he, ht⟩)⟩
noncomputable def phiS (P : Program) (w : World) (a : Addr) (ns : List Int) : Heap → Prop := fun h => SE.SetG (intKind P w) h a (!SE.byT w) (SE.seen (fun i => ns.getD i 0) ns.length) ns.length
noncomputable def rSet (K : PySem.W.Frag) (P : Program) (w : World) : List V → Hp → VK → Prop := fun xs H Q => ∃ p ns, xs = [.ref p] ∧ SqL K H p (ns.map V.int) ∧ ns.length < 64 ∧ ∀ l, H l = none → Q (.ref l) (upd H l (.ext (phiS P w l ns)))
noncomputable def rSortX (P : Program) (w : World) : List V → Hp → VK → Prop := fun xs H Q => ∃ p ns, xs = [.ref p] ∧ H p = some (.ext (phiS P w p ns)) ∧ ns.length < 64 ∧ ∀ l, H l = none → Q (.ref l) (upd H l (.lst ((srt (dd ns)).map V.int)))
theorem Inv.drawn {X : Cx} {pins : List (Addr × Obj)} {σ : List (Option V)} {H : Hp} {s : Shared} {d} (I : Inv X pins σ H s) : Inv X pins σ H { s with drawn := d } := ⟨I.ok, I.os, I.bare, I.base, I.loc, I.cell, I.free, I.freeC, I.pin, I.hok, I.len⟩
theorem seen_ints {ns : List Int} {k : Int} : SE.seen (fun i => ns.getD i 0) ns.length k = true ↔ k ∈ ns := by
  unfold SE.seen
  rw [List.any_eq_true]
  constructor
  · rintro ⟨i, hi, q⟩
    have hi := List.mem_range.mp hi
    rw [decide_eq_true_eq] at q
    subst q
    show ns.getD i 0 ∈ ns
    rw [List.getD_eq_getElem?_getD, List.getElem?_eq_getElem hi]
    exact List.getElem_mem hi
  · intro q
    obtain ⟨i, hi, rfl⟩ := List.getElem_of_mem q
    refine ⟨i, List.mem_range.mpr hi, ?_⟩
    rw [decide_eq_true_eq]
    show ns[i] = ns.getD i 0
    rw [List.getD_eq_getElem?_getD, List.getElem?_eq_getElem hi]; rfl
section
variable {X : Cx}
theorem call_set (hc : X.calm = true) : CallR X (.type "set") (rSet X.K X.prog X.w) := by
  intro pins s σ H xs us Q I rv h
  obtain ⟨p, ns, rfl, hq, h64, q⟩ := h
  obtain ⟨u, rfl, ru⟩ := rv.one
  cases ru
  obtain ⟨its, r, pl, hz⟩ := I.list hq
  have hi := MP.ints_are r
  have hl : its.length = ns.length := by have := r.length; simpa using this.symm
  refine SE.set_ok (knd := intKind X.prog X.w) (key := fun i => ns.getD i 0) (I.ok.hd hc) pl.isList (fun i v e => ?_) (by rw [List.size_toArray, hl]; exact Nat.lt_trans (Nat.succ_lt_succ h64) (by decide)) fun h' tk G k => ?_
  · obtain ⟨t, rfl⟩ := IntsAre.int_at hi i v (by rw [← Array.getElem?_toList] at e; exact e)
    exact ⟨intKind_is _ _ _ _, rfl⟩
  · have zz : its.toArray.size = ns.length := by rw [List.size_toArray, hl]
    rw [zz] at G
    have fresh : H s.heap.objs.size = none := I.hok.fresh (Nat.le_refl _)
    have ex : ∃ o, h'.get? s.heap.objs.size = some o := by obtain ⟨o, _, _, _, ho, _⟩ := G; exact ⟨o, ho⟩
    exact ⟨.ref s.heap.objs.size, upd H s.heap.objs.size (.ext (phiS X.prog X.w s.heap.objs.size ns)), I.laid (t' := tk) k (Nat.le_refl _) ⟨G, ex, fun h1 h2 g e => SE.SetG.at g e⟩, rfl, q _ fresh⟩
theorem call_sortedX (hc : X.calm = true) : CallR X (.builtin "sorted") (rSortX X.prog X.w) := by
  intro pins s σ H xs us Q I rv h
  obtain ⟨p, ns, rfl, hp, h64, q⟩ := h
  obtain ⟨u, rfl, ru⟩ := rv.one
  cases ru
  have G : phiS X.prog X.w p ns s.heap := (I.hok p _ hp).1
  refine Calls.call_function_entry kind_sorted plain_sorted entry_sorted (args_sorted1 _) ?_
  unfold Builtin.«sorted»
  refine wpAny_bind (m := checkCount "sorted" 1 1 _) (wpAny_pure ?_)
  refine wpAny_bind (SE.collect_ok (I.ok.hd hc) G fun h' d tk vs es hold el hn pm => ?_)
  obtain ⟨ms, m1, m2, m3⟩ := els_ints el pm
  have hle : vs.length ≤ ns.length := by rw [pm.length_eq, List.length_map, Array.length_toList]; exact hn
  refine wpAny_bind (wpAny_newList ?_ (Nat.le_trans hle (Nat.le_trans (Nat.le_of_lt h64) (by decide))))
  have hoL : (h'.push (seqObj "list" vs.toArray 0)).get? h'.objs.size = some (seqObj "list" vs.toArray 0) := Heap.get?_push_size _ rfl
  show wpAny _ _ _ _ _ { s with heap := h'.push (seqObj "list" vs.toArray 0), drawn := d, toks := tk }
  refine wpAny_bind (wpAny_holding (wpAny_call_entry slot_list_sort ⟨_, hoL, rfl⟩ entry_list_sort (list_sort_tree hoL m1 (Nat.lt_of_le_of_lt hle h64) fun out ns' a1 a2 a3 => ⟨_, rfl, ?_⟩) (args_list_sort _)))
  refine wpAny_pure ⟨_, rfl, ?_⟩
  obtain ⟨e', he⟩ := sortedHeap_at (out := out) hoL
  have pp : ms.Perm (dd ns) := perm_nodup m2 (dd_nodup ns) fun x => by rw [m3, seen_ints, dd_mem]
  have en : ns' = srt (dd ns) := sorted_uniq ((a2.trans pp).trans (srt_perm _).symm) a3 (srt_sorted _)
  subst en
  have I1 : Inv X pins σ H { s with heap := h', drawn := d, toks := tk } := (I.kept (t' := tk) hold).drawn
  have fresh : H h'.objs.size = none := I1.hok.fresh (Nat.le_refl _)
  refine ⟨.ref h'.objs.size, upd H h'.objs.size (.lst ((srt (dd ns)).map V.int)), I1.laid (t' := tk) (fun b o => sortedAt_old) (Nat.le_refl _) ⟨?_, out.toList, e', vals_ints_of a1, by rw [Array.toArray_toList]; exact he⟩, rfl, q _ fresh⟩
  rw [List.length_map, (srt_perm _).length_eq, ← pp.length_eq]
  have := IntsAre.length m1
  exact Nat.le_trans (by omega) (Nat.le_trans (Nat.le_of_lt h64) (by decide : 64 ≤ sizeLine))
end
namespace MP
noncomputable def opSortU (l : List PV) : Option (Res PV) := match asInts l with
  | some ns => if ns.length < 64 then some (.ok (.lst ((srt (dd ns)).map .int))) else none
  | none => none
section
variable {K : PySem.W.Frag} {C : Cg} {P : Program} {w : World} {ta : TE} {f : Fn (List PV)}
theorem r_sortU : R1O K C (aV K) (fun xs H Q => rSet K P w xs H fun x H2 => rSortX P w [x] H2 Q) opSortU := by
  intro F H x a res Q s ha e hP
  unfold opSortU at e
  cases h : asInts a with
  | none => rw [h] at e; cases e
  | some ns =>
    rw [h] at e
    have e : (if ns.length < 64 then some (Res.ok (PV.lst ((srt (dd ns)).map .int))) else none) = some res := e
    split at e
    · rename_i h64
      cases e
      obtain ⟨b, xs, rfl, h1, r1⟩ := ha
      have ex : xs = ns.map V.int := asInts_eq h r1
      subst ex
      refine ⟨b, ns, rfl, h1, h64, fun l hl => ⟨l, ns, rfl, upd_same, h64, fun l2 hl2 => ?_⟩⟩
      have u1 : Up F H F (upd H l (.ext (phiS P w l ns))) := Up.newU s hl
      have ne : l2 ≠ l := fun z => by rw [z, upd_same] at hl2; cases hl2
      have hl2' : H l2 = none := by rw [upd_ne ne] at hl2; exact hl2
      exact hP l2 F _ (u1.trans (Up.newU u1.fh hl2)) hl2' (s.free hl2') ⟨_, upd_same, Reps.of_ints _⟩
    · cases e
theorem mo_sortU (ha : MJ K C (aV K) ta f) : MO K C (tCB (rSortX P w) (tCons (tCB (rSet K P w) (tCons ta tNil)) tNil)) (m1 opSortU f) := mo_cb1 (rr := fun xs H Q => rSet K P w xs H fun x H2 => rSortX P w [x] H2 Q) r_sortU ha
noncomputable def CShlL (i j : Int) : Prop := 0 ≤ j ∧ j ≤ 1000000 ∧ i.natAbs < 2 ^ 9000
noncomputable def cShlL (i j : Int) : Bool := decide (0 ≤ j ∧ j ≤ 1000000 ∧ i.natAbs < 2 ^ 9000)
theorem op_shlL {X : Cx} : OpR X (binaryOp .LShift) (rI CShlL fun i j => .int (i * 2 ^ j.toNat)) := _root_.L2.opI fun _ _ _ _ _ _ _ hc q => lshift_int hc.1 (by
  have h := PyProof.Rows.intBits_le hc.2.2
  have h2 := hc.2.1
  have h3 : (9000 : Int) + 1000000 ≤ 2 ^ 27 := by decide
  omega) q
noncomputable def opShlL := MP.opI cShlL fun i j => .int (i * 2 ^ j.toNat)
theorem r_shlL : R2M C (aF K) (aF K) (aF K) (rI CShlL fun i j => .int (i * 2 ^ j.toNat)) opShlL := r_int (fun _ _ h => of_decide_eq_true (p := _ ∧ _) h) fun _ _ _ => .int
end
end MP
end L2

namespace MM
open PySem PySem.Spec PyProof.Rows L2 L2.MP
noncomputable def Tv {α : Type} (x : Option (Res α)) (Q : α → Prop) : Prop := ∃ a, x = some (.ok a) ∧ Q a
noncomputable def Out.calm : Out → Prop
  | .ex _ => False
  | _ => True
noncomputable def To (x : Option Out) (Q : Out → Prop) : Prop := ∃ o, x = some o ∧ Out.calm o ∧ Q o
noncomputable def onNx (k : Rho → Prop) (Q : Out → Prop) : Out → Prop
  | .nx ρ => k ρ
  | o => Q o
section
variable {α β γ : Type} {Q : α → Prop} {QS : Out → Prop} {k : β → Prop} {f : Fn PV} {g h : Fn PV} {ρ : Rho} {a : β} {z p : PV} {i : Nat} {s t : Sn}
theorem onNx_nx {k : Rho → Prop} : onNx k QS (.nx ρ) = k ρ := rfl
theorem onNx_rt {k : Rho → Prop} : onNx k QS (.rt p) = QS (.rt p) := rfl
theorem onNx_ro {k : Rho → Prop} : onNx k QS (.ro p) = QS (.ro p) := rfl
theorem onNx_rd {k : Rho → Prop} : onNx k QS (.rd p) = QS (.rd p) := rfl
theorem onNx_bk {k : Rho → Prop} : onNx k QS (.bk ρ) = QS (.bk ρ) := rfl
theorem onNx_ct {k : Rho → Prop} : onNx k QS (.ct ρ) = QS (.ct ρ) := rfl
theorem tv_some {a : α} : Tv (some (.ok a)) Q = Q a := by
  refine propext ⟨fun ⟨r', e, q⟩ => ?_, fun q => ⟨a, rfl, q⟩⟩
  cases e; exact q
theorem to_nx : To (some (.nx ρ)) QS = QS (.nx ρ) := propext ⟨fun ⟨_, e, _, q⟩ => by cases e; exact q, fun q => ⟨_, rfl, trivial, q⟩⟩
theorem to_rt : To (some (.rt p)) QS = QS (.rt p) := propext ⟨fun ⟨_, e, _, q⟩ => by cases e; exact q, fun q => ⟨_, rfl, trivial, q⟩⟩
theorem to_ro : To (some (.ro p)) QS = QS (.ro p) := propext ⟨fun ⟨_, e, _, q⟩ => by cases e; exact q, fun q => ⟨_, rfl, trivial, q⟩⟩
theorem to_rd : To (some (.rd p)) QS = QS (.rd p) := propext ⟨fun ⟨_, e, _, q⟩ => by cases e; exact q, fun q => ⟨_, rfl, trivial, q⟩⟩
theorem to_bk : To (some (.bk ρ)) QS = QS (.bk ρ) := propext ⟨fun ⟨_, e, _, q⟩ => by cases e; exact q, fun q => ⟨_, rfl, trivial, q⟩⟩
theorem to_ct : To (some (.ct ρ)) QS = QS (.ct ρ) := propext ⟨fun ⟨_, e, _, q⟩ => by cases e; exact q, fun q => ⟨_, rfl, trivial, q⟩⟩
theorem tv_bnd {x : Option (Res β)} {kk : β → Option (Res α)} : Tv (bnd x kk) Q = Tv x (fun b => Tv (kk b) Q) := by
  refine propext ⟨fun ⟨r, e, q⟩ => ?_, fun ⟨b, e, q⟩ => ?_⟩
  · rcases bnd_inv e with ⟨z, e1, e2⟩ | ⟨b, e1, e2⟩
    · cases e2
    · exact ⟨_, e1, r, e2, q⟩
  · subst e; exact q
theorem to_bnd {x : Option (Res β)} {kk : β → Option Out} : To (bndS x kk) QS = Tv x (fun b => To (kk b) QS) := by
  refine propext ⟨fun ⟨r, e, c, q⟩ => ?_, fun ⟨b, e, q⟩ => ?_⟩
  · rcases bndS_inv e with ⟨z, e1, rfl⟩ | ⟨b, e1, e2⟩
    · exact c.elim
    · exact ⟨_, e1, r, e2, c, q⟩
  · subst e; exact q
theorem to_seq : To (mSeq s t ρ) QS = To (s ρ) (onNx (fun ρ' => To (t ρ') QS) QS) := by
  refine propext ⟨fun ⟨r, e, c, q⟩ => ?_, fun ⟨o, e, c, q⟩ => ?_⟩
  · unfold mSeq at e
    split at e
    · rename_i ρ' h
      exact ⟨_, h, trivial, r, e, c, q⟩
    · rename_i x hx
      refine ⟨r, e, c, ?_⟩
      cases r with
      | nx ρ' => exact absurd e (hx ρ')
      | _ => exact q
  · unfold mSeq To
    rw [e]
    cases o with
    | nx ρ' => exact q
    | _ => exact ⟨_, rfl, c, q⟩
theorem tv_none : Tv (none : Option (Res α)) Q = False := propext ⟨fun ⟨_, e, _⟩ => (nomatch e), fun h => h.elim⟩
theorem to_none : To none QS = False := propext ⟨fun ⟨_, e, _⟩ => (nomatch e), fun h => h.elim⟩
theorem tv_m2 {op : β → γ → Option (Res α)} {f : Fn β} {g : Fn γ} : Tv (m2 op f g ρ) Q = Tv (f ρ) (fun a => Tv (g ρ) (fun b => Tv (op a b) Q)) := by
  unfold m2
  simp only [tv_bnd]
theorem tv_m1 {op : β → Option (Res α)} {f : Fn β} : Tv (m1 op f ρ) Q = Tv (f ρ) (fun a => Tv (op a) Q) := by unfold m1; rw [tv_bnd]
theorem tv_var {Q : PV → Prop} : Tv (mV i ρ) Q = ∃ p, ρ[i]? = some (some (.sh p)) ∧ Q p := by
  refine propext ⟨fun ⟨r, e, q⟩ => ?_, fun ⟨p, e, q⟩ => ⟨_, by unfold mV; rw [e], q⟩⟩
  unfold mV at e
  split at e
  · rename_i p hp; cases e; exact ⟨_, hp, q⟩
  · cases e
theorem tv_lend {Q : PV → Prop} : Tv (mVL i ρ) Q = ∃ s, ρ[i]? = some (some s) ∧ (match s with | .sh p => Q p | .ow p => Q p | .dp _ => False) := by
  refine propext ⟨fun ⟨r, e, q⟩ => ?_, fun ⟨s, e, q⟩ => ?_⟩
  · unfold mVL at e
    split at e
    · rename_i p hp; cases e; exact ⟨_, hp, q⟩
    · rename_i p hp; cases e; exact ⟨_, hp, q⟩
    · cases e
  · cases s with
    | sh p => exact ⟨_, by unfold mVL; rw [e], q⟩
    | ow p => exact ⟨_, by unfold mVL; rw [e], q⟩
    | dp p => exact q.elim
theorem tv_c {Q : PV → Prop} : Tv (mC p ρ) Q = Q p := tv_some
theorem tv_view {Q : List PV → Prop} : Tv (mView f ρ) Q = Tv (f ρ) (fun a => Tv (asLst a) Q) := tv_bnd
theorem tv_viewN {Q : List PV → Prop} : Tv (mViewN i ρ) Q = Tv (mVL i ρ) (fun a => Tv (asLst a) Q) := tv_bnd
theorem tv_asLst {l : List PV} {Q : List PV → Prop} : Tv (asLst (.lst l)) Q = Q l := tv_some
theorem tv_nil {Q : List PV → Prop} : Tv (mNil ρ) Q = Q [] := tv_some
theorem tv_cons {g : Fn (List PV)} {Q : List PV → Prop} : Tv (mCons f g ρ) Q = Tv (f ρ) (fun a => Tv (g ρ) (fun l => Q (a :: l))) := by
  unfold mCons
  simp only [tv_bnd, tv_some]
theorem tv_if_some {c : Prop} [Decidable c] {a : α} : Tv (if c then some (.ok a) else none) Q = (c ∧ Q a) := by
  by_cases h : c
  · rw [if_pos h, tv_some]; simp [h]
  · rw [if_neg h, tv_none]; simp [h]
theorem tv_tup {f : Fn (List PV)} {Q : PV → Prop} : Tv (mTup f ρ) Q = Tv (f ρ) (fun l => l.length ≤ sizeLine ∧ Q (.tup l)) := by
  unfold mTup
  simp only [tv_bnd, tv_if_some]
theorem tv_lst {f : Fn (List PV)} {Q : PV → Prop} : Tv (mLst f ρ) Q = Tv (f ρ) (fun l => l.length ≤ sizeLine ∧ Q (.lst l)) := by
  unfold mLst
  simp only [tv_bnd, tv_if_some]
theorem tv_call {m : List PV → Option (Res PV)} {f : Fn (List PV)} {Q : PV → Prop} : Tv (mCall m f ρ) Q = Tv (f ρ) (fun l => Tv (m l) Q) := tv_bnd
theorem tv_ite {c : Prop} [Decidable c] {x y : Option (Res α)} : Tv (if c then x else y) Q = if c then Tv x Q else Tv y Q := by split <;> rfl
theorem to_ite {c : Prop} [Decidable c] {x y : Option Out} : To (if c then x else y) QS = if c then To x QS else To y QS := by split <;> rfl
theorem tv_mOr {c d : Fn Bool} {Q : Bool → Prop} : Tv (mOr c d ρ) Q = Tv (c ρ) (fun b => if b = true then Q true else Tv (d ρ) Q) := by
  unfold mOr
  simp only [tv_bnd, tv_ite, tv_some]
theorem tv_comp {it : Fn (List PV)} {fr : List (Option Nat)} {tg : PV → Rho → Option Rho} {tst : Fn Bool} {el : Fn PV} {Q : PV → Prop} : Tv (mComp it fr tg tst el ρ) Q = Tv (it ρ) (fun l => l.length ≤ sizeLine ∧ Tv (compL tg tst el (frR fr ρ) l) (fun r => Q (.lst r))) := by
  unfold mComp
  rw [tv_bnd]
  congr 1; funext l
  by_cases hl : l.length ≤ sizeLine
  · rw [if_pos hl, tv_bnd]
    simp only [tv_some, hl, true_and]
  · rw [if_neg hl, tv_none]; simp [hl]
theorem to_next : To (mNext ρ) QS = QS (.nx ρ) := to_nx
theorem to_cont : To (mCont ρ) QS = QS (.ct ρ) := to_ct
theorem to_ret : To (mRet f ρ) QS = Tv (f ρ) (fun p => QS (.rt p)) := by unfold mRet; simp only [to_bnd, to_rt]
theorem to_retO : To (mRetO f ρ) QS = Tv (f ρ) (fun p => QS (.ro p)) := by unfold mRetO; simp only [to_bnd, to_ro]
theorem to_setO : To (mSetO i f ρ) QS = Tv (f ρ) (fun p => QS (.nx (ρ.set i (some (.ow p))))) := by unfold mSetO; simp only [to_bnd, to_nx]
theorem to_asg {tg : PV → Rho → Option Rho} : To (mAsg f tg ρ) QS = Tv (f ρ) (fun p => ∃ ρ', tg p ρ = some ρ' ∧ QS (.nx ρ')) := by
  unfold mAsg
  rw [to_bnd]
  congr 1; funext a
  cases e : tg a ρ with
  | none => rw [to_none]; exact propext ⟨fun h => h.elim, fun ⟨_, z, _⟩ => nomatch z⟩
  | some ρ' => rw [to_nx]; exact propext ⟨fun q => ⟨ρ', rfl, q⟩, fun ⟨_, z, q⟩ => by cases z; exact q⟩
theorem to_asgN : To (mAsg f (gN i) ρ) QS = Tv (f ρ) (fun p => QS (.nx (ρ.set i (some (.sh p))))) := by
  rw [to_asg]
  congr 1; funext a
  exact propext ⟨fun ⟨ρ', e, q⟩ => by cases e; exact q, fun q => ⟨_, rfl, q⟩⟩
theorem to_if {c : Fn Bool} : To (mIfS c s t ρ) QS = Tv (c ρ) (fun b => if b = true then To (s ρ) QS else To (t ρ) QS) := by
  unfold mIfS
  simp only [to_bnd, to_ite]
theorem to_for {it : Fn (List PV)} {tg : PV → Rho → Option Rho} : To (mFor it tg s ρ) QS = Tv (it ρ) (fun l => To (loop tg s l ρ) QS) := to_bnd
theorem to_retOw : To (mRetOw i ρ) QS = ∃ p, ρ[i]? = some (some (.ow p)) ∧ QS (.ro p) := by
  refine propext ⟨fun ⟨r, e, c, q⟩ => ?_, fun ⟨p, e, q⟩ => ⟨.ro p, by unfold mRetOw ownAt; rw [e], trivial, q⟩⟩
  unfold mRetOw at e
  split at e
  · rename_i p hp; cases e; exact ⟨p, ownAt_eq hp, q⟩
  · cases e
theorem to_app : To (mApp i f ρ) QS = ∃ l, ρ[i]? = some (some (.ow (.lst l))) ∧ Tv (f ρ) (fun p => l.length < sizeLine ∧ QS (.nx (ρ.set i (some (.ow (.lst (l ++ [p]))))))) := by
  refine propext ⟨fun ⟨r, e, c, q⟩ => ?_, fun ⟨l, e, p, e1, h, q⟩ => ?_⟩
  · unfold mApp at e
    split at e
    · rename_i l hl
      refine ⟨l, ownAt_eq hl, ?_⟩
      rcases bndS_inv e with ⟨z, e1, rfl⟩ | ⟨p, e1, e2⟩
      · exact c.elim
      · split at e2
        · rename_i hlen; cases e2; exact ⟨_, e1, hlen, q⟩
        · cases e2
    · cases e
  · have eo : ownAt i ρ = some (.lst l) := by unfold ownAt; rw [e]
    unfold To mApp
    rw [eo]
    exact ⟨.nx _, by simp only [e1, bndS]; exact if_pos h, trivial, q⟩
theorem to_frz : To (mFrz i s ρ) QS = To (s (frzR i ρ)) QS := rfl
theorem tv_opI {c : Int → Int → Bool} {F : Int → Int → PV} {x y : Int} {Q : PV → Prop} : Tv (MP.opI c F (.int x) (.int y)) Q = (c x y = true ∧ Q (F x y)) := tv_if_some
theorem tv_sub {x y : Int} {Q : PV → Prop} : Tv (opSub (.int x) (.int y)) Q = Q (.int (x - y)) := by unfold opSub; rw [tv_opI]; simp [cT]
theorem tv_and' {x y : Int} {Q : PV → Prop} : Tv (opAnd (.int x) (.int y)) Q = Q (.int (Builtin.bitAnd x y)) := by unfold opAnd; rw [tv_opI]; simp [cT]
theorem tv_div {x y : Int} {Q : PV → Prop} : Tv (opDiv (.int x) (.int y)) Q = ((0 < y ∧ y < 1073741824) ∧ Q (.int (x / y))) := by unfold opDiv; rw [tv_opI]; simp [cDiv]
theorem tv_mod {x y : Int} {Q : PV → Prop} : Tv (opMod (.int x) (.int y)) Q = (0 < y ∧ Q (.int (x % y))) := by unfold opMod; rw [tv_opI]; simp [cMod]
theorem tv_pow {x y : Int} {Q : PV → Prop} : Tv (opPow (.int x) (.int y)) Q = ((0 ≤ y ∧ y ≤ 1000000 ∧ x.natAbs < 2 ^ 64) ∧ Q (.int (x ^ y.toNat))) := by unfold opPow; rw [tv_opI]; simp [cPow]
theorem tv_shr {x y : Int} {Q : PV → Prop} : Tv (opShr (.int x) (.int y)) Q = (0 ≤ y ∧ Q (.int (x / 2 ^ y.toNat))) := by unfold opShr; rw [tv_opI]; simp [cShr]
theorem tv_add {x y : Int} {Q : PV → Prop} : Tv (opAdd (.int x) (.int y)) Q = Q (.int (x + y)) := tv_some
theorem tv_addS {x y : Str} {Q : PV → Prop} : Tv (opAdd (.str x) (.str y)) Q = (x.length + y.length ≤ sizeLine ∧ Q (.str (x ++ y))) := tv_if_some
theorem tv_addT {x y : List PV} {Q : PV → Prop} : Tv (opAdd (.tup x) (.tup y)) Q = ((x ≠ [] ∧ x.length + y.length ≤ sizeLine) ∧ Q (.tup (x ++ y))) := tv_if_some
theorem tv_mul {x y : Int} {Q : PV → Prop} : Tv (opMul (.int x) (.int y)) Q = (CMul x y ∧ Q (.int (x * y))) := by
  show Tv (if cMul x y = true then _ else none) Q = _
  rw [tv_if_some]
  unfold cMul CMul
  simp
theorem tv_mulS {z : Str} {n : Int} {Q : PV → Prop} : Tv (opMul (.str z) (.int n)) Q = ((-(2 ^ 63) ≤ n ∧ n < 2 ^ 63 ∧ z.length * n.toNat ≤ sizeLine) ∧ Q (.str (repS z n.toNat))) := tv_if_some
theorem tv_lt {x y : Int} {Q : PV → Prop} : Tv (opLt (.int x) (.int y)) Q = Q (.bl (decide (x < y))) := tv_some
theorem tv_ltS {x y : Str} {Q : PV → Prop} : Tv (opLt (.str x) (.str y)) Q = Q (.bl (decide (x.cps.toList < y.cps.toList))) := tv_some
theorem tv_eq {p q : PV} {Q : PV → Prop} : Tv (opEq p q) Q = ∃ r, eqF 32 p q = some r ∧ Q (.bl r) := by
  refine propext ⟨fun ⟨r, e, k⟩ => ?_, fun ⟨r, e, k⟩ => ⟨_, by unfold opEq; rw [e], k⟩⟩
  unfold opEq at e
  split at e
  · rename_i b hb; cases e; exact ⟨b, hb, k⟩
  · cases e
theorem tv_ne {p q : PV} {Q : PV → Prop} : Tv (opNe p q) Q = ∃ r, eqF 32 p q = some r ∧ Q (.bl (!r)) := by
  refine propext ⟨fun ⟨r, e, k⟩ => ?_, fun ⟨r, e, k⟩ => ⟨_, by unfold opNe; rw [e], k⟩⟩
  unfold opNe at e
  split at e
  · rename_i b hb; cases e; exact ⟨b, hb, k⟩
  · cases e
theorem eqF_int (n : Nat) (i j : Int) : eqF n (.int i) (.int j) = some (decide (i = j)) := by cases n <;> rfl
theorem eqF_str (n : Nat) (i j : Str) : eqF n (.str i) (.str j) = some (decide (i = j)) := by cases n <;> rfl
theorem eqF_bl (n : Nat) (i j : Bool) : eqF n (.bl i) (.bl j) = some (decide (i = j)) := by cases n <;> rfl
theorem tv_eqI {x y : Int} {Q : PV → Prop} : Tv (opEq (.int x) (.int y)) Q = Q (.bl (decide (x = y))) := by rw [tv_eq, eqF_int]; simp
theorem tv_eqS {x y : Str} {Q : PV → Prop} : Tv (opEq (.str x) (.str y)) Q = Q (.bl (decide (x = y))) := by rw [tv_eq, eqF_str]; simp
theorem tv_neI {x y : Int} {Q : PV → Prop} : Tv (opNe (.int x) (.int y)) Q = Q (.bl (!decide (x = y))) := by rw [tv_ne, eqF_int]; simp
theorem tv_neS {x y : Str} {Q : PV → Prop} : Tv (opNe (.str x) (.str y)) Q = Q (.bl (!decide (x = y))) := by rw [tv_ne, eqF_str]; simp
theorem tv_notin {p q : PV} {Q : PV → Prop} : Tv (opNotin p q) Q = ∃ r, inU p q = some r ∧ Q (.bl (!r)) := by
  refine propext ⟨fun ⟨r, e, k⟩ => ?_, fun ⟨r, e, k⟩ => ⟨_, by unfold opNotin; rw [e], k⟩⟩
  unfold opNotin at e
  split at e
  · rename_i b hb; cases e; exact ⟨b, hb, k⟩
  · cases e
theorem tv_notN {p : PV} {Q : PV → Prop} : Tv (opNotN p .non) Q = Q (.bl (!p.isNon)) := tv_some
theorem tv_ofO {x : Option PV} {Q : PV → Prop} : Tv (ofO x) Q = ∃ p, x = some p ∧ Q p := by
  refine propext ⟨fun ⟨r, e, k⟩ => ?_, fun ⟨p, e, k⟩ => ⟨_, by subst e; rfl, k⟩⟩
  obtain ⟨p, e1, e2⟩ := ofO_inv e
  cases e2
  exact ⟨_, e1, k⟩
theorem tv_ixL {l : List PV} {n : Int} {Q : PV → Prop} : Tv (opIx (.lst l) (.int n)) Q = ∃ p, atI l n = some p ∧ Q p := tv_ofO
theorem tv_ixT {l : List PV} {n : Int} {Q : PV → Prop} : Tv (opIx (.tup l) (.int n)) Q = ∃ p, atI l n = some p ∧ Q p := tv_ofO
theorem tv_ixV {l : List PV} {n : Int} {Q : PV → Prop} : Tv (opIxV l (.int n)) Q = ∃ p, atI l n = some p ∧ Q p := tv_ofO
theorem tv_ixS {z : Str} {n : Int} {Q : PV → Prop} : Tv (opIx (.str z) (.int n)) Q = (z.length ≤ sizeLine ∧ ∃ c, atI z.cps.toList n = some c ∧ Q (.str ⟨#[c]⟩)) := by
  show Tv (if z.length ≤ sizeLine then _ else none) Q = _
  by_cases hz : z.length ≤ sizeLine
  · rw [if_pos hz, tv_ofO]
    simp only [hz, true_and]
    refine propext ⟨fun ⟨p, e, k⟩ => ?_, fun ⟨c, e, k⟩ => ⟨_, by rw [e]; rfl, k⟩⟩
    cases e1 : atI z.cps.toList n with
    | none => rw [e1] at e; cases e
    | some c => rw [e1] at e; cases e; exact ⟨c, rfl, k⟩
  · rw [if_neg hz]
    exact propext ⟨fun ⟨r, e, q⟩ => (nomatch e), fun ⟨z, _⟩ => absurd z hz⟩
theorem tv_lenS {z : Str} {Q : PV → Prop} : Tv (opLen (.str z)) Q = (z.length ≤ sizeLine ∧ Q (.int z.length)) := tv_if_some
theorem tv_lenL {l : List PV} {Q : PV → Prop} : Tv (opLen (.lst l)) Q = Q (.int l.length) := tv_some
theorem tv_lenT {l : List PV} {Q : PV → Prop} : Tv (opLen (.tup l)) Q = Q (.int l.length) := tv_some
theorem tv_asBl {b : Bool} {Q : Bool → Prop} : Tv (asBl (.bl b)) Q = Q b := tv_some
theorem tv_min {x y : Int} {Q : PV → Prop} : Tv (opMin (.int x) (.int y)) Q = Q (.int (if y < x then y else x)) := tv_some
theorem tv_list {l : List PV} {Q : PV → Prop} : Tv (opList l) Q = Q (.lst l) := tv_some
theorem tv_asSeqL {l : List PV} {Q : List PV → Prop} : Tv (asSeq (.lst l)) Q = Q l := tv_some
theorem tv_asSeqT {l : List PV} {Q : List PV → Prop} : Tv (asSeq (.tup l)) Q = Q l := tv_some
theorem tv_asSeqS {z : Str} {Q : List PV → Prop} : Tv (asSeq (.str z)) Q = Q (signs z) := tv_some
theorem tv_rng1 {j : Int} {Q : List PV → Prop} : Tv (asRng1 [.int j]) Q = ((-(2 ^ 62) ≤ j ∧ j < 2 ^ 62) ∧ Q (rngP 0 j.toNat)) := tv_if_some
theorem tv_rng2 {x y : Int} {Q : List PV → Prop} : Tv (asRng2 [.int x, .int y]) Q = ((-(2 ^ 62) ≤ x ∧ x < 2 ^ 62 ∧ -(2 ^ 62) ≤ y ∧ y < 2 ^ 62) ∧ Q (rngP x (y - x).toNat)) := tv_if_some
end
section
variable {QS : Out → Prop} {Q : PV → Prop} {ρ : Rho} {i j : Nat} {f g : Fn PV} {z y : Str}
theorem finIO_nx {p : PV} : (finIO j (some (.nx ρ)) = some (.ok p)) = (ρ[j]? = some (some (.ow p))) := by
  show ((match ownAt j ρ with | some p => some (Res.ok p) | none => none) = some (.ok p)) = _
  cases h : ownAt j ρ with
  | none => exact propext ⟨fun e => (nomatch e), fun e => by unfold ownAt at h; rw [e] at h; cases h⟩
  | some q => exact propext ⟨fun e => by cases e; exact ownAt_eq h, fun e => by rw [ownAt_eq h] at e; cases e; rfl⟩
end
noncomputable def turn (I : Rho → Prop) (QS : Out → Prop) : Out → Prop
  | .nx ρ => I ρ
  | .ct ρ => I ρ
  | .bk ρ => QS (.nx ρ)
  | o => QS o
theorem turn_nx {I : Rho → Prop} {QS : Out → Prop} {ρ : Rho} : turn I QS (.nx ρ) = I ρ := rfl
theorem turn_ct {I : Rho → Prop} {QS : Out → Prop} {ρ : Rho} : turn I QS (.ct ρ) = I ρ := rfl
theorem turn_bk {I : Rho → Prop} {QS : Out → Prop} {ρ : Rho} : turn I QS (.bk ρ) = QS (.nx ρ) := rfl
theorem turn_rt {I : Rho → Prop} {QS : Out → Prop} {p : PV} : turn I QS (.rt p) = QS (.rt p) := rfl
theorem turn_ro {I : Rho → Prop} {QS : Out → Prop} {p : PV} : turn I QS (.ro p) = QS (.ro p) := rfl
theorem turn_rd {I : Rho → Prop} {QS : Out → Prop} {p : PV} : turn I QS (.rd p) = QS (.rd p) := rfl
theorem to_loop {tg : PV → Rho → Option Rho} {body : Sn} {QS : Out → Prop} (I : Nat → Rho → Prop) : ∀ {l : List PV} {ρ : Rho}, I 0 ρ →
    (∀ (i : Nat) x ρ, l[i]? = some x → I i ρ → ∃ ρ1, tg x ρ = some ρ1 ∧ To (body ρ1) (turn (I (i + 1)) QS)) →
    (∀ ρ', I l.length ρ' → QS (.nx ρ')) → To (loop tg body l ρ) QS := by
  intro l
  induction l generalizing I with
  | nil => exact fun h0 _ hd => ⟨_, rfl, trivial, hd _ h0⟩
  | cons x xs ih =>
    intro ρ h0 hs hd
    obtain ⟨ρ1, e1, o, e2, c, q⟩ := hs 0 x ρ rfl h0
    unfold To
    rw [loop, e1]
    simp only [e2]
    cases o with
    | nx ρ2 => exact ih (fun i => I (i + 1)) q (fun i y ρ e => hs (i + 1) y ρ (by simpa using e)) hd
    | ct ρ2 => exact ih (fun i => I (i + 1)) q (fun i y ρ e => hs (i + 1) y ρ (by simpa using e)) hd
    | bk ρ2 => exact ⟨_, rfl, trivial, q⟩
    | rt p => exact ⟨_, rfl, trivial, q⟩
    | ro p => exact ⟨_, rfl, trivial, q⟩
    | rd p => exact ⟨_, rfl, trivial, q⟩
    | ex z => exact c.elim
theorem hideN {x : Option Out} {I : Rho → Prop} {Q : Out → Prop} (h : ∀ QS : Out → Prop, (∀ ρ, I ρ → QS (.nx ρ)) → To x QS) : To x (turn I Q) := h _ fun _ h => h
theorem hideQ {x : Option Out} {Q : Out → Prop} (h : ∀ QS : Out → Prop, (∀ o, Q o → QS o) → To x QS) : To x Q := h _ fun _ h => h
theorem to_loopN {j : Nat} {body : Sn} {QS : Out → Prop} (I : Nat → Rho → Prop) {l : List PV} {ρ : Rho} (h0 : I 0 ρ)
    (hs : ∀ (i : Nat) x ρ, l[i]? = some x → I i ρ → To (body (ρ.set j (some (.sh x)))) (turn (I (i + 1)) QS)) (hd : ∀ ρ', I l.length ρ' → QS (.nx ρ')) : To (loop (gN j) body l ρ) QS :=
  to_loop I h0 (fun i x ρ e hI => ⟨_, rfl, hs i x ρ e hI⟩) hd
theorem to_while {fc : Fn Bool} {body : Sn} {QS : Out → Prop} (I : Nat → Rho → Prop) : ∀ {n : Nat} {ρ : Rho}, I n ρ →
    (∀ (n : Nat) ρ, I n ρ → Tv (fc ρ) (fun b => if b = true then 0 < n ∧ To (body ρ) (turn (I (n - 1)) QS) else QS (.nx ρ))) → To (wloop fc body (n + 1) ρ) QS := by
  intro n
  induction n with
  | zero =>
    intro ρ h0 hs
    rw [wloop, to_bnd]
    obtain ⟨b, e, q⟩ := hs 0 ρ h0
    refine ⟨b, e, ?_⟩
    cases b with
    | true => exact absurd q.1 (Nat.lt_irrefl _)
    | false => exact ⟨_, rfl, trivial, q⟩
  | succ n ih =>
    intro ρ h0 hs
    rw [wloop, to_bnd]
    obtain ⟨b, e, q⟩ := hs (n + 1) ρ h0
    refine ⟨b, e, ?_⟩
    cases b with
    | false => exact ⟨_, rfl, trivial, q⟩
    | true =>
      obtain ⟨_, o, e2, c, q2⟩ := q
      show To (if true = true then _ else _) QS
      rw [if_pos rfl]
      simp only [e2]
      cases o with
      | nx ρ2 => exact ih q2 hs
      | ct ρ2 => exact ih q2 hs
      | bk ρ2 => exact ⟨_, rfl, trivial, q2⟩
      | rt p => exact ⟨_, rfl, trivial, q2⟩
      | ro p => exact ⟨_, rfl, trivial, q2⟩
      | rd p => exact ⟨_, rfl, trivial, q2⟩
      | ex z => exact c.elim
theorem fin_of {x : Option Out} {r : Res PV} (h : To x fun o => fin (some o) = some r) : fin x = some r := by
  obtain ⟨o, e, _, q⟩ := h
  rw [e]; exact q
theorem finO_of {x : Option Out} {r : Res PV} (h : To x fun o => finO (some o) = some r) : finO x = some r := by
  obtain ⟨o, e, _, q⟩ := h
  rw [e]; exact q
theorem ex_fin {x : Option Out} {P : PV → Prop} (h : To x fun o => ∃ p, fin (some o) = some (.ok p) ∧ P p) : ∃ p, fin x = some (.ok p) ∧ P p := by
  obtain ⟨o, e, _, q⟩ := h
  rw [e]; exact q
theorem ex_finO {x : Option Out} {P : PV → Prop} (h : To x fun o => ∃ p, finO (some o) = some (.ok p) ∧ P p) : ∃ p, finO x = some (.ok p) ∧ P p := by
  obtain ⟨o, e, _, q⟩ := h
  rw [e]; exact q
theorem fin_nx {ρ : Rho} : fin (some (.nx ρ)) = some (.ok .non) := rfl
theorem fin_rt {p : PV} : fin (some (.rt p)) = some (.ok p) := rfl
theorem finO_ro {p : PV} : finO (some (.ro p)) = some (.ok p) := rfl
theorem tv_compN {tg : PV → Rho → Option Rho} {tst : Fn Bool} {el : Fn PV} {ρb : Rho} {Q : List PV → Prop} : Tv (compL tg tst el ρb []) Q = Q [] := tv_some
theorem tv_compC {j : Nat} {tst : Fn Bool} {el : Fn PV} {ρb : Rho} {x : PV} {xs : List PV} {Q : List PV → Prop} : Tv (compL (gN j) tst el ρb (x :: xs)) Q =
    Tv (tst (ρb.set j (some (.sh x)))) (fun b => if b = true then Tv (el (ρb.set j (some (.sh x)))) (fun p => Tv (compL (gN j) tst el ρb xs) (fun r => Q (p :: r))) else Tv (compL (gN j) tst el ρb xs) Q) := by
  rw [compL]
  simp only [gN, tv_bnd, tv_ite, tv_some]
theorem tv_yes {ρ : Rho} {Q : Bool → Prop} : Tv (mYes ρ) Q = Q true := tv_some
theorem ok_of {α : Type} {x : Option (Res α)} {q : α} (h : Tv x fun p => p = q) : x = some (.ok q) := by
  obtain ⟨p, e, rfl⟩ := h
  exact e
noncomputable def szP (w h : Int) : PV := .tup [.int w, .int h]
noncomputable def cellP (c : Int × Int) : PV := .tup [.int c.1, .int c.2]
theorem snocI (l : List Int) (a : Int) : l.map PV.int ++ [PV.int a] = (l ++ [a]).map PV.int := by rw [List.map_append]; rfl
theorem snocS (l : List Str) (a : Str) : l.map PV.str ++ [PV.str a] = (l ++ [a]).map PV.str := by rw [List.map_append]; rfl
theorem snocC (l : List (Int × Int)) (a b : Int) : l.map cellP ++ [PV.tup [.int a, .int b]] = (l ++ [(a, b)]).map cellP := by rw [List.map_append]; rfl
theorem is_non_int : isI .non "int" = some false := rfl
theorem is_non_bool : isI .non "bool" = some false := rfl
theorem is_non_str : isI .non "str" = some false := rfl
theorem is_non_list : isI .non "list" = some false := rfl
theorem is_non_tuple : isI .non "tuple" = some false := rfl
theorem is_non_dict : isI .non "dict" = some false := rfl
theorem is_bl_int {b : Bool} : isI (.bl b) "int" = some true := rfl
theorem is_bl_bool {b : Bool} : isI (.bl b) "bool" = some true := rfl
theorem is_bl_str {b : Bool} : isI (.bl b) "str" = some false := rfl
theorem is_bl_list {b : Bool} : isI (.bl b) "list" = some false := rfl
theorem is_bl_tuple {b : Bool} : isI (.bl b) "tuple" = some false := rfl
theorem is_bl_dict {b : Bool} : isI (.bl b) "dict" = some false := rfl
theorem is_int_int {i : Int} : isI (.int i) "int" = some true := rfl
theorem is_int_bool {i : Int} : isI (.int i) "bool" = some false := rfl
theorem is_int_str {i : Int} : isI (.int i) "str" = some false := rfl
theorem is_int_list {i : Int} : isI (.int i) "list" = some false := rfl
theorem is_int_tuple {i : Int} : isI (.int i) "tuple" = some false := rfl
theorem is_int_dict {i : Int} : isI (.int i) "dict" = some false := rfl
theorem is_str_int {z : Str} : isI (.str z) "int" = some false := rfl
theorem is_str_bool {z : Str} : isI (.str z) "bool" = some false := rfl
theorem is_str_str {z : Str} : isI (.str z) "str" = some true := rfl
theorem is_str_list {z : Str} : isI (.str z) "list" = some false := rfl
theorem is_str_tuple {z : Str} : isI (.str z) "tuple" = some false := rfl
theorem is_str_dict {z : Str} : isI (.str z) "dict" = some false := rfl
theorem is_tup_int {l : List PV} : isI (.tup l) "int" = some false := rfl
theorem is_tup_bool {l : List PV} : isI (.tup l) "bool" = some false := rfl
theorem is_tup_str {l : List PV} : isI (.tup l) "str" = some false := rfl
theorem is_tup_list {l : List PV} : isI (.tup l) "list" = some false := rfl
theorem is_tup_tuple {l : List PV} : isI (.tup l) "tuple" = some true := rfl
theorem is_tup_dict {l : List PV} : isI (.tup l) "dict" = some false := rfl
theorem is_lst_int {l : List PV} : isI (.lst l) "int" = some false := rfl
theorem is_lst_bool {l : List PV} : isI (.lst l) "bool" = some false := rfl
theorem is_lst_str {l : List PV} : isI (.lst l) "str" = some false := rfl
theorem is_lst_list {l : List PV} : isI (.lst l) "list" = some true := rfl
theorem is_lst_tuple {l : List PV} : isI (.lst l) "tuple" = some false := rfl
theorem is_lst_dict {l : List PV} : isI (.lst l) "dict" = some false := rfl
theorem eqL_map {α : Type} {f : PV → PV → Option Bool} {g : α → PV} [DecidableEq α] (h : ∀ a b, f (g a) (g b) = some (decide (a = b))) : ∀ l m : List α, eqL f (l.map g) (m.map g) = some (decide (l = m))
  | [], [] => rfl
  | [], _ :: _ => rfl
  | _ :: _, [] => rfl
  | x :: xs, y :: ys => by
    rw [List.map_cons, List.map_cons, eqL, h x y, eqL_map h xs ys]
    simp only [List.cons.injEq, Bool.decide_and]
theorem eqF_lst {α : Type} {n : Nat} {g : α → PV} [DecidableEq α] (h : ∀ a b, eqF n (g a) (g b) = some (decide (a = b))) (l m : List α) : eqF (n + 1) (.lst (l.map g)) (.lst (m.map g)) = some (decide (l = m)) := by
  show (if (l.map g).length = (m.map g).length then eqL (eqF n) (l.map g) (m.map g) else some false) = _
  by_cases hl : l.length = m.length
  · rw [if_pos (by simpa using hl)]
    exact eqL_map h l m
  · rw [if_neg (by simpa using hl), decide_eq_false fun e => hl (by rw [e])]
theorem inF_map0 {α : Type} {g : α → PV} [DecidableEq α] (h : ∀ a b, eqF 31 (g a) (g b) = some (decide (a = b))) (a : α) : ∀ l : List α, inF (g a) (l.map g) = some (decide (a ∈ l))
  | [] => rfl
  | x :: xs => by
    rw [List.map_cons, inF, h x a, inF_map0 h a xs]
    simp only [List.mem_cons, Bool.decide_or]
    congr 2
    exact decide_eq_decide.mpr ⟨fun e => e.symm, fun e => e.symm⟩
theorem inF_map {α : Type} {g : α → PV} [DecidableEq α] (h : ∀ a b, eqF 31 (g a) (g b) = some (decide (a = b))) (a : α) (l : List α) [Decidable (a ∈ l)] : inF (g a) (l.map g) = some (decide (a ∈ l)) := by
  rw [inF_map0 h a l]
  congr 1
  exact decide_eq_decide.mpr Iff.rfl
theorem atI_ints' {ns : List Int} {i : Int} (h0 : 0 ≤ i) (h : i < ns.length) : atI (ns.map PV.int) i = some (.int (ns.getD i.toNat 0)) := by
  obtain ⟨v, e1, e2⟩ := atI_some (xs := ns.map PV.int) h0 (by rw [List.length_map]; exact h)
  rw [e1]
  rw [List.getElem?_map] at e2
  have hl : i.toNat < ns.length := by omega
  rw [List.getElem?_eq_getElem hl] at e2
  rw [List.getD_eq_getElem?_getD, List.getElem?_eq_getElem hl]
  exact e2.symm
theorem atI_0 {p : PV} {l : List PV} : atI (p :: l) 0 = some p := atI_nat (j := 0) rfl
theorem atI_1 {p q : PV} {l : List PV} : atI (p :: q :: l) 1 = some q := atI_nat (j := 1) rfl
theorem atI_2 {p q r : PV} {l : List PV} : atI (p :: q :: r :: l) 2 = some r := atI_nat (j := 2) rfl
theorem atI_3 {p q r s : PV} {l : List PV} : atI (p :: q :: r :: s :: l) 3 = some s := atI_nat (j := 3) rfl
end MM

namespace MM
open PySem PySem.Spec PyProof.Rows L2 L2.MP
end MM

namespace MM
open PySem PySem.Spec PyProof.Rows L2 L2.MP
theorem tv_newD {ρ : Rho} {Q : PV → Prop} : Tv (mNewD ρ) Q = Q (.dk []) := tv_some
theorem is_dk_int {l : List (Key × PV)} : isI (.dk l) "int" = some false := rfl
theorem is_dk_str {l : List (Key × PV)} : isI (.dk l) "str" = some false := rfl
end MM

namespace MM
open PySem PySem.Spec PyProof.Rows L2 L2.MP
section
variable {ρ : Rho} {f g h : Fn PV} {i : Nat} {Q : PV → Prop} {QS : Out → Prop} {d k x p : PV} {l : List PV}
theorem tv_asD : Tv (asD p) Q = (p.isD = true ∧ Q p) := tv_if_some
theorem tv_viewD : Tv (mViewD f ρ) Q = Tv (f ρ) (fun p => p.isD = true ∧ Q p) := by unfold mViewD; rw [tv_bnd]; simp only [tv_asD]
theorem tv_viewDN : Tv (mViewDN i ρ) Q = Tv (mVL i ρ) (fun p => p.isD = true ∧ Q p) := by unfold mViewDN; rw [tv_bnd]; simp only [tv_asD]
theorem tv_mapO {α : Type} {o : Option α} {F : α → PV} : Tv (o.map fun r => Res.ok (F r)) Q = ∃ r, o = some r ∧ Q (F r) := by
  cases o with
  | none => exact propext ⟨(fun ⟨_, e, _⟩ => by cases e), (fun ⟨_, e, _⟩ => by cases e)⟩
  | some r => exact propext ⟨fun ⟨_, e, q⟩ => by cases e; exact ⟨r, rfl, q⟩, fun ⟨_, e, q⟩ => by cases e; exact ⟨_, rfl, q⟩⟩
theorem tv_dget1 : Tv (mDGet1 f g ρ) Q = Tv (f ρ) (fun d => Tv (g ρ) (fun k => ∃ r, dFind d k = some r ∧ Q (r.getD .non))) := by
  unfold mDGet1; simp only [tv_bnd, tv_mapO]
theorem tv_opDGet : Tv (opDGet d k) Q = ∃ p, dFind d k = some (some p) ∧ Q p := by
  unfold opDGet
  split
  · rename_i p h; rw [h, tv_some]; exact propext ⟨fun q => ⟨p, rfl, q⟩, fun ⟨_, e, q⟩ => by cases e; exact q⟩
  · rename_i h; rw [tv_none]; exact propext ⟨fun z => z.elim, fun ⟨p, e, _⟩ => (h p e).elim⟩
theorem tv_opDIn : Tv (opDIn k d) Q = ∃ r, dFind d k = some r ∧ Q (.bl r.isSome) := by unfold opDIn; rw [tv_mapO]
theorem tv_opDNotIn : Tv (opDNotIn k d) Q = ∃ r, dFind d k = some r ∧ Q (.bl (!r.isSome)) := by unfold opDNotIn; rw [tv_mapO]
theorem tv_dictP : Tv (opDictP d l) Q = ∃ ps d', asPairs l = some ps ∧ dPutAll d ps = some d' ∧ Q d' := by
  unfold opDictP
  split
  · rename_i ps h
    rw [h]
    refine propext ⟨fun ⟨r, e, q⟩ => ?_, fun ⟨ps', d', e1, e2, q⟩ => ?_⟩
    · cases h2 : dPutAll d ps with
      | none => rw [h2] at e; cases e
      | some d' => rw [h2] at e; cases e; exact ⟨ps, _, rfl, h2, q⟩
    · cases e1; exact ⟨d', by rw [e2]; rfl, q⟩
  · rename_i h; rw [tv_none]; exact propext ⟨fun z => z.elim, fun ⟨ps, _, e, _⟩ => by rw [h] at e; cases e⟩
theorem to_dput : To (mDPut i f g ρ) QS = Tv (f ρ) (fun p => ∃ d, ρ[i]? = some (some (.ow d)) ∧ Tv (g ρ) (fun k => ∃ d', dPut d k p = some d' ∧ QS (.nx (ρ.set i (some (.ow d')))))) := by
  unfold mDPut
  rw [to_bnd]
  congr 1; funext p
  refine propext ⟨fun ⟨r, e, c, q⟩ => ?_, fun ⟨d, e, k, e1, d', h1, q⟩ => ?_⟩
  · split at e
    · rename_i d hd
      refine ⟨d, ownAt_eq hd, ?_⟩
      rcases bndS_inv e with ⟨z, e1, rfl⟩ | ⟨k, e1, e2⟩
      · exact c.elim
      · split at e2
        · rename_i d' h'
          cases e2
          exact ⟨k, e1, d', h', q⟩
        · cases e2
    · cases e
  · refine ⟨.nx (ρ.set i (some (.ow d'))), ?_, trivial, q⟩
    have eo : ownAt i ρ = some d := by unfold ownAt; rw [e]
    rw [eo]
    simp only [e1, bndS_ok, h1]
end
section
variable {l : List (Key × PV)} {t : List (List Key × PV)} {ks : List PV} {n : Int} {z : Str} {p : PV}
theorem dF_int : dFind (.dk l) (.int n) = some (valP l (.inl n)) := rfl
theorem dF_str : dFind (.dk l) (.str z) = some (valP l (.inr z)) := rfl
theorem dF_tup : dFind (.dt t) (.tup ks) = (asKeys ks).map (valP t) := rfl
theorem dP_int : dPut (.dk l) (.int n) p = if l.length < sizeLine then some (.dk (putP l (.inl n) p)) else none := rfl
theorem isD_dk : (PV.dk l).isD = true := rfl
theorem isD_dt : (PV.dt t).isD = true := rfl
end
section
variable {κ : Type} [DecidableEq κ]
end
end MM

namespace MM
open PySem PySem.Spec PyProof.Rows L2 L2.MP
section
variable {f g : Fn PV} {ρ : Rho} {Q : PV → Prop} {QS : Out → Prop} {i : Nat} {s : Sn} {p : PV}
theorem tv_deep : Tv (mDeep f ρ) Q = Tv (f ρ) (fun p => ∃ l, p = .lst l ∧ l.all PV.still = true ∧ Q (.lst l)) := by
  unfold mDeep
  rw [tv_bnd]
  congr 1; funext p
  refine propext ⟨fun ⟨r, e, q⟩ => ?_, ?_⟩
  · cases p with
    | lst l =>
      have e : (if l.all PV.still = true then some (Res.ok (PV.lst l)) else none) = some (.ok r) := e
      split at e
      · rename_i h; cases e; exact ⟨l, rfl, h, q⟩
      · cases e
    | _ => cases e
  · rintro ⟨l, rfl, h, q⟩
    exact ⟨_, if_pos h, q⟩
theorem tv_still : Tv (mStill f ρ) Q = Tv (f ρ) (fun p => p.still = true ∧ Q p) := by
  unfold mStill
  rw [tv_bnd]
  congr 1; funext p
  exact tv_if_some
theorem to_setD : To (mSetD i f ρ) QS = Tv (f ρ) (fun p => QS (.nx (ρ.set i (some (.dp p))))) := by unfold mSetD; simp only [to_bnd, to_nx]
theorem to_retDp : To (mRetDp i ρ) QS = ∃ p, ρ[i]? = some (some (.dp p)) ∧ QS (.rd p) := by
  refine propext ⟨fun ⟨r, e, c, q⟩ => ?_, fun ⟨p, e, q⟩ => ⟨.rd p, by unfold mRetDp dpAt; rw [e], trivial, q⟩⟩
  unfold mRetDp at e
  split at e
  · rename_i p hp; cases e; exact ⟨p, dpAt_eq hp, q⟩
  · cases e
theorem tv_fzT {f : Fn Bool} {Q : Bool → Prop} : Tv (mFzT i f ρ) Q = ∃ p, ρ[i]? = some (some (.dp p)) ∧ Tv (f (ρ.set i (some (.sh p)))) Q := by
  refine propext ⟨fun ⟨r, e, q⟩ => ?_, fun ⟨p, e, r, e2, q⟩ => ⟨r, by unfold mFzT dpAt; rw [e]; exact e2, q⟩⟩
  unfold mFzT at e
  split at e
  · rename_i p hp; exact ⟨p, dpAt_eq hp, r, e, q⟩
  · cases e
theorem tv_fz : Tv (mFz i f ρ) Q = ∃ p, ρ[i]? = some (some (.dp p)) ∧ Tv (f (ρ.set i (some (.sh p)))) (fun q => q.flat = true ∧ Q q) := by
  refine propext ⟨fun ⟨r, e, q⟩ => ?_, fun ⟨p, e, r, e2, c, q⟩ => ⟨r, by unfold mFz dpAt; rw [e]; simp only [e2, bnd]; rw [if_pos c], q⟩⟩
  unfold mFz at e
  split at e
  · rename_i p hp
    rcases bnd_inv e with ⟨z, _, e3⟩ | ⟨a, e3, e4⟩
    · cases e3
    · split at e4
      · rename_i c; cases e4; exact ⟨p, dpAt_eq hp, r, e3, c, q⟩
      · cases e4
  · cases e
theorem finT_rd : finT (some (.rd p)) = some (.ok p) := rfl
theorem finT_of {x : Option Out} {r : Res PV} (h : To x fun o => finT (some o) = some r) : finT x = some r := by
  obtain ⟨o, e, _, q⟩ := h
  rw [e]; exact q
theorem ex_finT {x : Option Out} {P : PV → Prop} (h : To x fun o => ∃ p, finT (some o) = some (.ok p) ∧ P p) : ∃ p, finT x = some (.ok p) ∧ P p := by
  obtain ⟨o, e, _, q⟩ := h
  rw [e]; exact q
theorem to_appT {l : List PV} (h : ρ[i]? = some (some (.dp (.lst l)))) (hs : Tv (f ρ) fun q => l.length < sizeLine ∧ QS (.nx (ρ.set i (some (.dp (.lst (l ++ [q]))))))) : To (mAppT i f ρ) QS := by
  obtain ⟨r, e, c, q⟩ := hs
  have ho : dpAt i ρ = some (.lst l) := by unfold dpAt; rw [h]
  unfold mAppT
  rw [ho]
  exact ⟨.nx (ρ.set i (some (.dp (.lst (l ++ [r]))))), by simp only [e, bndS]; rw [if_pos c], trivial, q⟩
theorem to_appD {l : List PV} {n : Int} {j : Nat} {row : List PV} {q : PV} (h : ρ[i]? = some (some (.dp (.lst l)))) (hi : f ρ = some (.ok (.int n))) (hj : ixN l.length n = some j) (hr : l[j]? = some (.lst row)) (he : g ρ = some (.ok q)) (st : q.still = true) (hl : row.length < sizeLine)
    (hs : QS (.nx (ρ.set i (some (.dp (.lst (l.set j (.lst (row ++ [q])))))))) ) : To (mAppD i f g ρ) QS := by
  have ho : dpAt i ρ = some (.lst l) := by unfold dpAt; rw [h]
  unfold mAppD
  rw [ho]
  exact ⟨.nx (ρ.set i (some (.dp (.lst (l.set j (.lst (row ++ [q]))))))), by simp only [hi, bndS, hj, hr, he]; rw [if_pos ⟨st, hl⟩], trivial, hs⟩
end
end MM

namespace MM
open PySem PySem.Spec PyProof.Rows L2 L2.MP
section
variable {f g : Fn PV} {ρ : Rho} {Q : PV → Prop} {QS : Out → Prop} {i j : Nat} {s : Sn} {p : PV} {k : Rho → Prop}
theorem tv_dkeys {l : List (Key × PV)} {Q : List PV → Prop} : Tv (asDKeys (.dk l)) Q = Q (keysP l) := tv_some
theorem tv_ditems {l : List (Key × PV)} {Q : List PV → Prop} : Tv (asDItems (.dk l)) Q = Q (itemsP l) := tv_some
theorem tv_sort {l : List PV} : Tv (opSort l) Q = ∃ ns, asInts l = some ns ∧ ns.length < 64 ∧ Q (.lst ((srt ns).map .int)) := by
  unfold opSort
  split
  · rename_i ns h; rw [h, tv_if_some]; exact propext ⟨fun q => ⟨ns, rfl, q⟩, fun ⟨_, e, q⟩ => by cases e; exact q⟩
  · rename_i h; rw [tv_none]; exact propext ⟨fun z => z.elim, fun ⟨_, e, _⟩ => by rw [h] at e; cases e⟩
theorem asInts_map : ∀ ns : List Int, asInts (ns.map .int) = some ns
  | [] => rfl
  | n :: ns => by show (asInts (ns.map .int)).map (n :: ·) = _; rw [asInts_map ns]; rfl
theorem tv_sortD {l : List (Key × PV)} : Tv (opSortD (.dk l)) Q = ∃ ns, kInts (l.map (·.1)) = some ns ∧ ns.length < 64 ∧ Q (.lst ((srt ns).map .int)) := by
  show Tv (match kInts (l.map (·.1)) with
    | some ns => if ns.length < 64 then some (.ok (.lst ((srt ns).map .int))) else none
    | none => none) Q = _
  split
  · rename_i ns h; rw [h, tv_if_some]; exact propext ⟨fun q => ⟨ns, rfl, q⟩, fun ⟨_, e, q⟩ => by cases e; exact q⟩
  · rename_i h; rw [tv_none]; exact propext ⟨fun z => z.elim, fun ⟨_, e, _⟩ => by rw [h] at e; cases e⟩
theorem tv_holdE : Tv (mHoldE i f ρ) Q = ∃ p, ρ[i]? = some (some (.sh p)) ∧ p.isD = true ∧ Tv (f ρ) Q := by
  refine propext ⟨fun ⟨r, e, q⟩ => ?_, fun ⟨p, e, d, r, e2, q⟩ => ⟨r, by unfold mHoldE; rw [e]; simp only; rw [if_pos d]; exact e2, q⟩⟩
  unfold mHoldE at e
  split at e
  · rename_i p hp
    split at e
    · rename_i d; exact ⟨p, hp, d, r, e, q⟩
    · cases e
  · cases e
noncomputable def holdQ (QS : Out → Prop) : Out → Prop
  | .rd _ => False
  | o => QS o
theorem holdQ_nx : holdQ QS (.nx ρ) = QS (.nx ρ) := rfl
theorem holdQ_rt : holdQ QS (.rt p) = QS (.rt p) := rfl
theorem holdQ_ro : holdQ QS (.ro p) = QS (.ro p) := rfl
theorem to_hold : To (mHold i s ρ) QS = ∃ p, ρ[i]? = some (some (.sh p)) ∧ p.isD = true ∧ To (s ρ) (holdQ QS) := by
  refine propext ⟨fun ⟨o, e, c, q⟩ => ?_, fun ⟨p, e, d, o, e2, c, q⟩ => ⟨o, ?_, c, ?_⟩⟩
  · unfold mHold at e
    split at e
    · rename_i p hp
      split at e
      · rename_i d
        refine ⟨p, hp, d, o, ?_⟩
        split at e
        · cases e
        · rename_i x hx
          refine ⟨e, c, ?_⟩
          cases o with
          | rd y => exact (hx y e).elim
          | _ => exact q
      · cases e
    · cases e
  · unfold mHold
    rw [e]
    simp only
    rw [if_pos d, e2]
    cases o with
    | rd y => exact q.elim
    | _ => rfl
  · cases o with
    | rd y => exact q.elim
    | _ => exact q
theorem to_io2 {m : List PV → Option (Res PV)} {f : Fn (List PV)} : To (mIO2 i j m f ρ) QS = ∃ p q, ρ[i]? = some (some (.ow p)) ∧ ρ[j]? = some (some (.ow q)) ∧ Tv (f ρ) (fun l => ∃ p' q', m (p :: q :: l) = some (.ok (.tup [p', q'])) ∧ QS (.nx ((ρ.set i (some (.ow p'))).set j (some (.ow q'))))) := by
  refine propext ⟨fun h => ?_, fun ⟨p, q, e1, e2, l, e3, p', q', e4, h⟩ => ?_⟩
  · unfold mIO2 at h
    rw [to_bnd] at h
    obtain ⟨l, e, o, e2, c, h⟩ := h
    unfold mConsO2 at e
    split at e
    · rename_i p q h1 h2
      rcases bnd_inv e with ⟨z, _, e3⟩ | ⟨l', e3, e4⟩
      · cases e3
      · cases e4
        split at e2
        · rename_i p' q' hm
          cases e2
          exact ⟨p, q, ownAt_eq h1, ownAt_eq h2, l', e3, p', q', hm, h⟩
        · cases e2
    · cases e
  · have o1 : ownAt i ρ = some p := by unfold ownAt; rw [e1]
    have o2 : ownAt j ρ = some q := by unfold ownAt; rw [e2]
    refine ⟨.nx ((ρ.set i (some (.ow p'))).set j (some (.ow q'))), ?_, trivial, h⟩
    unfold mIO2 mConsO2
    rw [o1, o2]
    simp only [e3, bnd, bndS, e4]
theorem tv_callT {m : List PV → Option (Res PV)} {f : Fn (List PV)} : Tv (mCallT m f ρ) Q = Tv (f ρ) (fun l => Tv (m l) Q) := by
  unfold mCallT
  rw [tv_bnd]
  congr 1; funext l
  refine propext ⟨fun ⟨r, e, q⟩ => ?_, fun ⟨r, e, q⟩ => ⟨r, by rw [e], q⟩⟩
  split at e
  · rename_i p hp; cases e; exact ⟨_, hp, q⟩
  · cases e
theorem to_frzD : To (mFrzD i s ρ) QS = ∃ p, ρ[i]? = some (some (.dp p)) ∧ To (s (ρ.set i (some (.sh p)))) QS := by
  refine propext ⟨fun ⟨r, e, q⟩ => ?_, fun ⟨p, e, r, e2, q⟩ => ⟨r, by unfold mFrzD dpAt; rw [e]; exact e2, q⟩⟩
  unfold mFrzD at e
  split at e
  · rename_i p hp; exact ⟨p, dpAt_eq hp, r, e, q⟩
  · cases e
theorem tv_ownD : Tv (mOwnD i ρ) Q = ∃ p, ρ[i]? = some (some (.ow p)) ∧ p.shallow = true ∧ Q p := by
  refine propext ⟨fun ⟨r, e, q⟩ => ?_, fun ⟨p, e, h, q⟩ => ⟨p, by unfold mOwnD ownAt; rw [e]; simp only; rw [if_pos h], q⟩⟩
  unfold mOwnD at e
  split at e
  · rename_i p hp
    split at e
    · rename_i h; cases e; exact ⟨_, ownAt_eq hp, h, q⟩
    · cases e
  · cases e
theorem to_retT {f : Fn (List PV)} : To (mRetT f ρ) QS = Tv (f ρ) (fun l => l.length ≤ sizeLine ∧ QS (.rd (.tup l))) := by
  unfold mRetT
  rw [to_bnd]
  congr 1; funext l
  by_cases h : l.length ≤ sizeLine
  · rw [if_pos h, to_rd]; simp [h]
  · rw [if_neg h, to_none]; simp [h]
theorem tv_shlL {x y : Int} : Tv (opShlL (.int x) (.int y)) Q = ((0 ≤ y ∧ y ≤ 1000000 ∧ x.natAbs < 2 ^ 9000) ∧ Q (.int (x * 2 ^ y.toNat))) := by unfold opShlL; rw [tv_opI]; simp [cShlL]
theorem tv_mulL {x y : Int} : Tv (opMulL (.int x) (.int y)) Q = ((x.natAbs < 2 ^ 9000 ∧ y.natAbs < 2 ^ 9000) ∧ Q (.int (x * y))) := by unfold opMulL; rw [tv_opI]; simp [cMulL]
theorem ex_finIO2 {x : Option Out} {P : PV → Prop} (h : To x fun o => ∃ p, finIO2 (some o) = some (.ok p) ∧ P p) : ∃ p, finIO2 x = some (.ok p) ∧ P p := by
  obtain ⟨o, e, _, q⟩ := h
  rw [e]; exact q
end
end MM

namespace MM
open PySem PySem.Spec PyProof.Rows L2 L2.MP
section
variable {f : Fn PV} {ρ : Rho} {Q : PV → Prop} {QS : Out → Prop} {i : Nat}
end
end MM
namespace MM
open PySem PySem.Spec PyProof.Rows L2 L2.MP
end MM
namespace MM
open PySem PySem.Spec PyProof.Rows L2 L2.MP
end MM
namespace MM
open PySem PySem.Spec PyProof.Rows L2 L2.MP
end MM
namespace MM
open PySem PySem.Spec PyProof.Rows L2 L2.MP
end MM

namespace MM
open PySem PySem.Spec PyProof.Rows L2 L2.MP
/- 0 one, 1 other -/
noncomputable def B_within : Sn :=
  (mRet (m2 opEq (m2 opAnd (mV 0) (mV 1)) (mVL 0)))
noncomputable def M_within : List PV → Option (Res PV)
  | [a0, a1] => fin (B_within (startR [a0, a1] 0))
  | _ => none
/- 0 wishes, 1 asker_of, 2 starts, 3 askers, 4 came_by, 5 place, 6 asker, 7 giver -/
noncomputable def B_walked_1 : Sn :=
  (mRetT (mCons (mStill (mV 7)) (mCons (mOwnD 3) (mCons (mOwnD 4) mNil))))
noncomputable def B_walked_2 : Sn :=
  (mApp 3 (m2 opDGet (mViewDN 1) (mV 7)))
noncomputable def B_walked_3 : Sn :=
  (mSeq (mDPut 4 (mV 6) (mV 7))
          (mSeq (mIfS (m1 asBl (m2 opDNotIn (mV 7) (mViewDN 1)))
            B_walked_1
            mNext)
          B_walked_2))
noncomputable def B_walked_4 : Sn :=
  (mSeq (mIfS (m1 asBl (m2 opDIn (mV 7) (mViewDN 4)))
            mCont
            mNext)
          B_walked_3)
noncomputable def B_walked_5 : Sn :=
  (mAsg (m2 opAdd (mV 5) (mC (.int 1))) (gN 5))
noncomputable def B_walked_6 : Sn :=
  (mSeq (mAsg (m2 opIxV (mViewN 3) (mV 5)) (gN 6))
        (mSeq (mFor (m1 asSeq (m2 opDGet (mViewDN 0) (mV 6))) (gN 7)
          B_walked_4)
        B_walked_5))
noncomputable def B_walked_7 : Sn :=
  (mRetT (mCons (mStill (mC .non)) (mCons (mOwnD 3) (mCons (mOwnD 4) mNil))))
noncomputable def B_walked : Sn :=
  (mSeq (mSetO 3 (m1 opList (mViewN 2)))
      (mSeq (mSetO 4 mNewD)
      (mSeq (mAsg (mC (.int 0)) (gN 5))
      (mSeq (wloop (m1 asBl (m2 opLt (mV 5) (m1 opLen (mVL 3))))
        B_walked_6 200)
      B_walked_7))))
noncomputable def M_walked : List PV → Option (Res PV)
  | [a0, a1, a2] => finT (B_walked (startR [a0, a1, a2] 5))
  | _ => none
/- 0 giver_of, 1 asker_of, 2 came_by, 3 free, 4 giver, 5 asker, 6 left -/
noncomputable def B_pair_anew_1 : Sn :=
  (mSeq (mAsg (m2 opDGet (mViewDN 2) (mV 4)) (gN 5))
        (mSeq (mAsg (mDGet1 (mViewDN 0) (mV 5)) (gN 6))
        (mSeq (mDPut 0 (mV 4) (mV 5))
        (mSeq (mDPut 1 (mV 5) (mV 4))
        (mAsg (mV 6) (gN 4))))))
noncomputable def B_pair_anew : Sn :=
  (mSeq (mAsg (mV 3) (gN 4))
      (wloop (m1 asBl (m2 opNotN (mVL 4) (mC .non)))
        B_pair_anew_1 200))
noncomputable def M_pair_anew : List PV → Option (Res PV)
  | [a0, a1, a2, a3] => finIO2 (B_pair_anew (startIO2 [a0, a1, a2, a3] 3))
  | _ => none
/- 0 wishes, 1 giver_of, 2 asker_of, 3 asker, 4 way -/
noncomputable def B_most_pairs_1 : Sn :=
  (mSeq (mSetD 4 (mCallT M_walked (mCons (mVL 0) (mCons (mVL 2) (mCons (mLst (mCons (mV 3) mNil)) mNil)))))
        (mFrzD 4 (mIO2 1 2 M_pair_anew (mCons (m2 opIx (mV 4) (mC (.int 2))) (mCons (m2 opIx (mV 4) (mC (.int 0))) mNil)))))
noncomputable def B_most_pairs_2 : Sn :=
  (mRetOw 1)
noncomputable def B_most_pairs : Sn :=
  (mSeq (mSetO 1 mNewD)
      (mSeq (mSetO 2 mNewD)
      (mSeq (mHold 0 (mFor (m1 asDKeys (mV 0)) (gN 3)
        B_most_pairs_1))
      B_most_pairs_2)))
noncomputable def M_most_pairs : List PV → Option (Res PV)
  | [a0] => finO (B_most_pairs (startR [a0] 4))
  | _ => none
/- 0 wishes, 1 giver_of, 2 asker_of, 3 way -/
noncomputable def B_short_of_givers : Sn :=
  (mSeq (mAsg (m1 (opDictP (.dk [])) (mView (mHoldE 1 (mComp (m1 asDItems (mV 1)) [none, none] (gT 2 (gsCons (gN 0) (gsCons (gN 1) gsNil))) mYes (mTup (mCons (mV 1) (mCons (mV 0) mNil))))))) (gN 2))
      (mSeq (mSetD 3 (mCall M_walked (mCons (mV 0) (mCons (mV 2) (mCons (mHoldE 0 (mComp (m1 asDKeys (mV 0)) [none, some 1] (gN 0) (m1 asBl (m2 opDNotIn (mV 0) (mViewDN 1))) (mV 0))) mNil)))))
      (mFrzD 3 (mRet (mTup (mCons (m1 opSort (mView (m2 opIx (mV 3) (mC (.int 1))))) (mCons (m1 opSortD (mViewD (m2 opIx (mV 3) (mC (.int 2))))) mNil)))))))
noncomputable def M_short_of_givers : List PV → Option (Res PV)
  | [a0, a1] => fin (B_short_of_givers (startR [a0, a1] 2))
  | _ => none
/- 0 states, 1 number -/
noncomputable def B_states_ahead : Sn :=
  (mRetO (mComp (m1 asRng1 (mCons (mV 1) mNil)) [none, some 0, some 1] (gN 0) (m1 asBl (mCall M_within (mCons (m2 opIx (mV 1) (mV 2)) (mCons (m2 opIx (mV 1) (mV 0)) mNil)))) (mV 0)))
noncomputable def M_states_ahead : List PV → Option (Res PV)
  | [a0, a1] => finO (B_states_ahead (startR [a0, a1] 0))
  | _ => none
/- 0 many, 1 ahead_of, 2 chains, 3 chain_of, 4 number -/
noncomputable def B_chains_by_1 : Sn :=
  (mSeq (mDPut 3 (m2 opDGet (mViewDN 3) (m2 opDGet (mViewDN 1) (mV 4))) (mV 4))
          (mAppD 2 (m2 opDGet (mViewDN 3) (mV 4)) (mV 4)))
noncomputable def B_chains_by_2 : Sn :=
  (mSeq (mDPut 3 (mFz 2 (m1 opLen (mVL 2))) (mV 4))
          (mAppT 2 (mDeep (mLst (mCons (mV 4) mNil)))))
noncomputable def B_chains_by_3 : Sn :=
  (mIfS (m1 asBl (m2 opDIn (mV 4) (mViewDN 1)))
          B_chains_by_1
          B_chains_by_2)
noncomputable def B_chains_by_4 : Sn :=
  (mRetDp 2)
noncomputable def B_chains_by : Sn :=
  (mSeq (mSetD 2 (mDeep (mLst mNil)))
      (mSeq (mSetO 3 mNewD)
      (mSeq (mFor (m1 asRng1 (mCons (mV 0) mNil)) (gN 4)
        B_chains_by_3)
      B_chains_by_4)))
noncomputable def M_chains_by : List PV → Option (Res PV)
  | [a0, a1] => finT (B_chains_by (startR [a0, a1] 3))
  | _ => none
/- 0 states, 1 wishes, 2 ahead_of, 3 short, 4 apart -/
noncomputable def B_fewest_blocks : Sn :=
  (mSeq (mAsg (m1 (opDictP (.dk [])) (mView (mComp (m1 asRng1 (mCons (m1 opLen (mVL 0)) mNil)) [none, some 0] (gN 0) mYes (mTup (mCons (mV 0) (mCons (mCall M_states_ahead (mCons (mV 1) (mCons (mV 0) mNil))) mNil)))))) (gN 1))
      (mSeq (mAsg (mCall M_most_pairs (mCons (mV 1) mNil)) (gN 2))
      (mSeq (mAsg (mCall M_short_of_givers (mCons (mV 1) (mCons (mV 2) mNil))) (gN 3))
      (mSeq (mSetO 4 (mComp (m1 asSeq (m2 opIx (mV 3) (mC (.int 0)))) [none, some 3] (gN 0) (m1 asBl (m2 opNotin (mVL 0) (m2 opIx (mV 1) (mC (.int 1))))) (mV 0)))
      (mRetT (mCons (mCall M_chains_by (mCons (m1 opLen (mVL 0)) (mCons (mV 2) mNil))) (mCons (mOwnD 4) mNil)))))))
noncomputable def M_fewest_blocks : List PV → Option (Res PV)
  | [a0] => finT (B_fewest_blocks (startR [a0] 4))
  | _ => none
/- 0 _law_script, 1 _law_k -/
noncomputable def B__law_cell_at_1 : Sn :=
  (mRet (m2 opIx (mV 0) (mV 1)))
noncomputable def B__law_cell_at_2 : Sn :=
  (mRet (mC (.int 0)))
noncomputable def B__law_cell_at : Sn :=
  (mSeq (mIfS (m1 asBl (m2 opLt (mV 1) (m1 opLen (mVL 0))))
        B__law_cell_at_1
        mNext)
      B__law_cell_at_2)
noncomputable def M__law_cell_at : List PV → Option (Res PV)
  | [a0, a1] => fin (B__law_cell_at (startR [a0, a1] 0))
  | _ => none
/- 0 _law_cell, 1 _law_k -/
noncomputable def B__law_mixed : Sn :=
  (mRet (m2 opMod (m2 opMulL (m2 opAdd (m2 opAdd (m2 opMod (mV 0) (m2 opPow (mC (.int 10)) (mC (.int 30)))) (m2 opMulL (mV 1) (mV 1))) (mC (.int 1))) (mC (.int 314159265358979323846264338327))) (m2 opAdd (m2 opPow (mC (.int 10)) (mC (.int 30))) (mC (.int 57)))))
noncomputable def M__law_mixed : List PV → Option (Res PV)
  | [a0, a1] => fin (B__law_mixed (startR [a0, a1] 0))
  | _ => none
/- 0 _law_script, 1 _law_many, 2 _law_turns_here, 3 _law_k -/
noncomputable def B__law_turns_1 : Sn :=
  (mApp 2 (m2 opMod (m2 opDiv (mCall M__law_mixed (mCons (m2 opIx (mV 0) (mV 3)) (mCons (mV 3) mNil))) (mC (.int 1000))) (mV 1)))
noncomputable def B__law_turns_2 : Sn :=
  (mRetOw 2)
noncomputable def B__law_turns : Sn :=
  (mSeq (mAsg (m2 opAdd (mC (.int 1)) (m2 opMod (mCall M__law_cell_at (mCons (mV 0) (mCons (mC (.int 0)) mNil))) (mC (.int 8)))) (gN 1))
      (mSeq (mSetO 2 (mLst mNil))
      (mSeq (mFor (m1 asRng2 (mCons (mC (.int 2)) (mCons (m2 opMin (m1 opLen (mVL 0)) (mC (.int 62))) mNil))) (gN 3)
        B__law_turns_1)
      B__law_turns_2)))
noncomputable def M__law_turns : List PV → Option (Res PV)
  | [a0] => finO (B__law_turns (startR [a0] 3))
  | _ => none
/- 0 _law_one, 1 _law_number, 2 _law_kept -/
noncomputable def B__law_next_1 : Sn :=
  (mRet (mV 0))
noncomputable def B__law_next_2 : Sn :=
  (mRet (mV 2))
noncomputable def B__law_next : Sn :=
  (mSeq (mAsg (m2 opAnd (mV 0) (m2 opMulL (m2 opAdd (m2 opMulL (mV 1) (mV 1)) (mC (.int 1))) (m2 opAdd (m2 opPow (mC (.int 10)) (mC (.int 22))) (mC (.int 9))))) (gN 2))
      (mSeq (mIfS (m1 asBl (m2 opEq (mVL 2) (mC (.int 0))))
        B__law_next_1
        mNext)
      B__law_next_2))
noncomputable def M__law_next : List PV → Option (Res PV)
  | [a0, a1] => fin (B__law_next (startR [a0, a1] 1))
  | _ => none
/- 0 _law_script, 1 _law_turns_here, 2 _law_known, 3 _law_states, 4 _law_k, 5 _law_number, 6 _law_inner, 7 _law_due, 8 _law_turn, 9 _law_chain, 10 _law_found -/
noncomputable def B_law_1 : Sn :=
  (mDPut 2 (m2 opShlL (m2 opSub (m2 opShlL (mC (.int 1)) (mC (.int 72))) (mC (.int 1))) (m2 opMul (m2 opIx (mV 1) (mV 4)) (mC (.int 72)))) (m2 opIx (mV 1) (mV 4)))
noncomputable def B_law_2 : Sn :=
  (mSeq (mAsg (m2 opShr (m2 opDGet (mViewDN 2) (m2 opIx (mV 1) (mV 4))) (m2 opMul (m2 opIx (mV 1) (mV 4)) (mC (.int 72)))) (gN 6))
          (mDPut 2 (m2 opShlL (mCall M__law_next (mCons (mV 6) (mCons (mV 5) mNil))) (m2 opMul (m2 opIx (mV 1) (mV 4)) (mC (.int 72)))) (m2 opIx (mV 1) (mV 4))))
noncomputable def B_law_3 : Sn :=
  (mApp 3 (m2 opDGet (mViewDN 2) (m2 opIx (mV 1) (mV 4))))
noncomputable def B_law_4 : Sn :=
  (mSeq (mAsg (mCall M__law_mixed (mCons (mCall M__law_cell_at (mCons (mV 0) (mCons (m2 opAdd (mC (.int 2)) (mV 4)) mNil))) (mCons (m2 opAdd (mC (.int 200)) (mV 4)) mNil))) (gN 5))
        (mSeq (mIfS (m1 asBl (m2 opDNotIn (m2 opIx (mV 1) (mV 4)) (mViewDN 2)))
          B_law_1
          B_law_2)
        B_law_3))
noncomputable def B_law_5 : Sn :=
  (mApp 7 (mV 9))
noncomputable def B_law_6 : Sn :=
  (mSeq (mAsg (mComp (m1 asRng1 (mCons (m1 opLen (mVL 1)) mNil)) [none, some 8, some 1] (gN 0) (m1 asBl (m2 opEq (m2 opIx (mV 2) (mV 0)) (mVL 1))) (mV 0)) (gN 9))
        (mIfS (m1 asBl (m2 opNotin (mVL 9) (mVL 7)))
          B_law_5
          mNext))
noncomputable def B_law_7 : Sn :=
  (mRet (mC (.bl false)))
noncomputable def B_law_8 : Sn :=
  (mRet (mFz 10 (m2 opEq (m1 opSort (mView (mComp (m1 asSeq (m2 opIx (mV 10) (mC (.int 1)))) [none, some 1] (gN 0) mYes (m2 opIx (mV 1) (mV 0))))) (m1 opSortU (mViewN 1)))))
noncomputable def B_law_9 : Sn :=
  (mSeq (mFrz 3 (mSetD 10 (mCall M_fewest_blocks (mCons (mV 3) mNil))))
      (mSeq (mIfS (mFzT 10 (mOr (m1 asBl (m2 opNe (m2 opIx (mV 10) (mC (.int 0))) (mVL 7))) (m1 asBl (m2 opNe (m1 opLen (m2 opIx (mV 10) (mC (.int 1)))) (m1 opLen (mVL 7))))))
        B_law_7
        mNext)
      B_law_8))
noncomputable def B_law_10 : Sn :=
  (mSeq (mSetO 7 (mLst mNil))
      (mSeq (mFor (m1 asSeq (mV 1)) (gN 8)
        B_law_6)
      B_law_9))
noncomputable def B_law : Sn :=
  (mSeq (mAsg (mCall M__law_turns (mCons (mV 0) mNil)) (gN 1))
      (mSeq (mSetO 2 mNewD)
      (mSeq (mSetO 3 (mLst mNil))
      (mSeq (mFor (m1 asRng1 (mCons (m1 opLen (mVL 1)) mNil)) (gN 4)
        B_law_4)
      B_law_10))))
noncomputable def M_law : List PV → Option (Res PV)
  | [a0] => fin (B_law (startR [a0] 10))
  | _ => none
end MM

namespace MM
open PySem PySem.Spec PyProof.Rows L2 L2.MP
local macro_rules | `(tactic| walk_at "rd") => do
  let ids := ("onNx_nx onNx_rt onNx_ro onNx_rd onNx_bk onNx_ct tv_some to_nx to_rt to_ro to_rd to_bk to_ct tv_ite to_ite turn_nx turn_ct turn_bk turn_rt turn_ro turn_rd tv_bnd to_bnd to_seq tv_m2 tv_m1 tv_var tv_lend tv_c tv_view tv_viewN tv_asLst tv_nil tv_cons tv_tup tv_lst tv_call tv_mOr tv_comp tv_compN tv_compC tv_yes to_next to_cont to_ret to_retO to_hold to_frzD to_retT tv_ownD tv_callT holdQ_nx holdQ_rt holdQ_ro tv_holdE tv_dkeys tv_ditems tv_sort tv_sortD to_io2 to_setO to_setD to_retDp tv_deep tv_still tv_fz tv_fzT to_asgN to_asg to_if to_for to_retOw to_app to_frz tv_newD tv_viewD tv_viewDN tv_dget1 tv_opDGet tv_opDIn tv_opDNotIn tv_dictP tv_mulL tv_shlL to_dput dF_int dF_str dF_tup isD_dk isD_dt is_dk_int is_dk_str finIO_nx tv_sub tv_and' tv_div tv_mod tv_pow tv_shr tv_add tv_addS tv_addT tv_mul tv_mulS tv_lt tv_ltS tv_eqI tv_eqS tv_neI tv_neS tv_eq tv_ne tv_notin tv_notN tv_ixL tv_ixT tv_ixV tv_ixS tv_lenS tv_lenL tv_lenT tv_asBl tv_min tv_list tv_asSeqL tv_asSeqT tv_asSeqS tv_rng1 tv_rng2 startR fin_nx fin_rt finO_ro finT_rd gN gT gsCons gsNil szP cellP List.map_cons List.map_nil List.replicate_succ List.replicate_zero List.cons_append List.nil_append List.append_nil List.getElem?_cons_zero List.getElem?_cons_succ List.set_cons_zero List.set_cons_succ List.length_cons List.length_nil Nat.zero_le true_and and_true Option.some.injEq Sl.sh.injEq Sl.ow.injEq Sl.dp.injEq Res.ok.injEq PV.int.injEq PV.str.injEq PV.bl.injEq PV.lst.injEq PV.tup.injEq exists_eq_left' exists_eq_left exists_eq and_assoc exists_and_left if_true if_false not_true_eq_false not_false_eq_true Bool.false_eq_true Bool.not_true Bool.not_false decide_eq_true_eq Bool.not_eq_true' decide_eq_false_iff_not reduceCtorEq is_non_int is_non_bool is_non_str is_non_list is_non_tuple is_non_dict is_bl_int is_bl_bool is_bl_str is_bl_list is_bl_tuple is_bl_dict is_int_int is_int_bool is_int_str is_int_list is_int_tuple is_int_dict is_str_int is_str_bool is_str_str is_str_list is_str_tuple is_str_dict is_tup_int is_tup_bool is_tup_str is_tup_list is_tup_tuple is_tup_dict is_lst_int is_lst_bool is_lst_str is_lst_list is_lst_tuple is_lst_dict Int.reduceAdd Int.reduceSub Int.reduceMul Int.reduceNeg Int.reduceToNat atI_0 atI_1 atI_2 atI_3 snocI snocS snocC eqF_int eqF_str eqF_bl frR shOnly".splitOn " ").toArray.map fun s => Lean.mkIdent s.toName
  `(tactic| simp (maxSteps := 2000000) only [$[$ids:ident],*])
theorem cell_at_ok (ns : List Int) (i : Int) (i0 : 0 ≤ i) : ∃ n : Int, M__law_cell_at [.lst (ns.map .int), .int i] = some (.ok (.int n)) := by
  suffices h : ∃ p, M__law_cell_at [.lst (ns.map .int), .int i] = some (.ok p) ∧ ∃ n, p = .int n by
    obtain ⟨p, e, n, rfl⟩ := h
    exact ⟨n, e⟩
  refine ex_fin ?_
  unfold B__law_cell_at
  walk_at "rd"
  refine ite2 (fun h => ?_) (fun h => ?_)
  · unfold B__law_cell_at_1
    walk_at "rd"
    exact ⟨_, atI_ints' i0 (by rw [List.length_map] at h; exact h), _, rfl⟩
  · unfold B__law_cell_at_2
    walk_at "rd"
    exact ⟨_, rfl⟩
structure Sz (w h : Int) : Prop where
  w0 : 1 ≤ w
  w1 : w ≤ 24
  h0 : 1 ≤ h
  h1 : h ≤ 24
theorem Sz.at {w h c r : Int} (_ : Sz w h) (c0 : 0 ≤ c) (c1 : c < w) (r0 : 0 ≤ r) (r1 : r < h) : 0 ≤ r * w + c ∧ r * w + c < w * h := by
  have e1 : 0 ≤ r * w := Int.mul_nonneg r0 (by omega)
  have e2 : (r + 1) * w ≤ h * w := Int.mul_le_mul_of_nonneg_right (by omega) (by omega)
  rw [Int.add_mul, Int.one_mul] at e2
  rw [Int.mul_comm w h]
  omega
structure Cell (w h c r : Int) : Prop where
  c0 : 0 ≤ c
  c1 : c < w
  r0 : 0 ≤ r
  r1 : r < h
theorem Cell.of {w h : Int} {c : Int × Int} (z : Mth.InR w.toNat h.toNat c) : Cell w h c.1 c.2 := ⟨z.c0, by have := z.c1; have := z.c0; omega, z.r0, by have := z.r1; have := z.r0; omega⟩
theorem Cell.pl {w h c r : Int} (z : Cell w h c r) : (r * w + c).toNat = Mth.pl w.toNat (c, r) ∧ 0 ≤ r * w + c := by
  obtain ⟨c0, c1, r0, r1⟩ := z
  obtain ⟨a, rfl⟩ := Int.eq_ofNat_of_zero_le c0
  obtain ⟨b, rfl⟩ := Int.eq_ofNat_of_zero_le r0
  obtain ⟨v, rfl⟩ := Int.eq_ofNat_of_zero_le (show 0 ≤ w by omega)
  unfold Mth.pl
  simp only [Int.toNat_natCast]
  have e : (b : Int) * (v : Int) + (a : Int) = ((b * v + a : Nat) : Int) := by simp
  rw [e, Int.toNat_natCast]
  exact ⟨rfl, Int.natCast_nonneg _⟩
theorem rng_get {lo : Int} {n i : Nat} {x : PV} (h : (rngP lo n)[i]? = some x) : i < n ∧ x = .int (lo + (i : Int)) := by
  have hi : i < n := by simpa [rngP] using lt_of_get h
  unfold rngP at h
  rw [List.getElem?_map, List.getElem?_range hi] at h
  exact ⟨hi, (Option.some.inj h).symm⟩
theorem len_le_of_sub : ∀ {l k : List Nat}, l.Nodup → (∀ x ∈ l, x ∈ k) → l.length ≤ k.length
  | [], k, _, _ => Nat.zero_le _
  | a :: l, k, nd, h => by
    have ha : a ∈ k := h a List.mem_cons_self
    have nd' := List.nodup_cons.mp nd
    have := len_le_of_sub (l := l) (k := k.erase a) nd'.2 fun x hx => (List.mem_erase_of_ne (fun e : x = a => nd'.1 (by rw [← e]; exact hx))).mpr (h x (List.mem_cons_of_mem _ hx))
    rw [List.length_erase_of_mem ha] at this
    have : 0 < k.length := List.length_pos_of_mem ha
    simp only [List.length_cons]; omega
structure Mt (G : Nat → Nat → Prop) (m : Nat → Option Nat) : Prop where
  ok : ∀ {j i}, m j = some i → i < j ∧ G i j
  inj : ∀ {j k i}, m j = some i → m k = some i → j = k
inductive Anc (m : Nat → Option Nat) : Nat → Nat → Prop
  | one {i j} (h : m j = some i) : Anc m i j
  | more {i j k} (h : m j = some k) (a : Anc m i k) : Anc m i j
section
variable {G : Nat → Nat → Prop} {m : Nat → Option Nat}
theorem Anc.rel (M : Mt G m) (tr : ∀ {i j k}, G i j → G j k → G i k) {i j : Nat} (a : Anc m i j) : G i j := by
  induction a with
  | one h => exact (M.ok h).2
  | more h _ ih => exact tr ih (M.ok h).2
theorem Anc.of (M : Mt G m) {i j : Nat} (a : Anc m i j) : ∃ x, x ≤ j ∧ m x = some i := by
  induction a with
  | one h => exact ⟨_, Nat.le_refl _, h⟩
  | more h _ ih => obtain ⟨x, h1, h2⟩ := ih; exact ⟨x, by have := (M.ok h).1; omega, h2⟩
theorem root_ex (M : Mt G m) : ∀ j, ∃ r, m r = none ∧ (r = j ∨ Anc m r j) := by
  intro j
  induction j using Nat.strongRecOn with
  | _ j ih =>
    cases h : m j with
    | none => exact ⟨j, h, .inl rfl⟩
    | some i =>
      obtain ⟨r, h1, h2⟩ := ih i (M.ok h).1
      refine ⟨r, h1, .inr ?_⟩
      rcases h2 with rfl | h2
      · exact .one h
      · exact .more h h2
theorem same_root (M : Mt G m) {r : Nat} (hr : m r = none) : ∀ j i, i < j → (r = i ∨ Anc m r i) → (r = j ∨ Anc m r j) → Anc m i j := by
  intro j
  induction j using Nat.strongRecOn with
  | _ j ih =>
    intro i hij hi hj
    have le : ∀ {a b : Nat}, Anc m a b → a < b := fun {a b} h => by
      induction h with
      | one h => exact (M.ok h).1
      | more h _ ih => have := (M.ok h).1; omega
    rcases hj with rfl | hj
    · rcases hi with rfl | hi
      · omega
      · have := le hi; omega
    · obtain ⟨k, hk, hrk⟩ : ∃ k, m j = some k ∧ (r = k ∨ Anc m r k) := by
        cases hj with
        | one h => exact ⟨r, h, .inl rfl⟩
        | more h a => exact ⟨_, h, .inr a⟩
      have kj := (M.ok hk).1
      rcases Nat.lt_trichotomy i k with h | h | h
      · exact .more hk (ih k kj i h hi hrk)
      · subst h; exact .one hk
      · obtain ⟨x, h1, h2⟩ := (ih i hij k h hrk hi).of M
        have := M.inj h2 hk
        omega
theorem dual (M : Mt G m) (tr : ∀ {i j k}, G i j → G j k → G i k) {n : Nat} {A : List Nat} (nd : A.Nodup) (lt : ∀ a ∈ A, a < n) (ap : ∀ a ∈ A, ∀ b ∈ A, a < b → ¬ G a b) :
    A.length ≤ ((List.range n).filter fun j => (m j).isNone).length := by
  have le : ∀ {a b : Nat}, Anc m a b → a < b := fun {a b} h => by
    induction h with
    | one h => exact (M.ok h).1
    | more h _ ih => have := (M.ok h).1; omega
  have : ∃ f : Nat → Nat, ∀ j, m (f j) = none ∧ (f j = j ∨ Anc m (f j) j) := ⟨fun j => Classical.choose (root_ex M j), fun j => Classical.choose_spec (root_ex M j)⟩
  obtain ⟨f, hf⟩ := this
  have inj : ∀ a ∈ A, ∀ b ∈ A, f a = f b → a = b := fun a ha b hb e => by
    rcases Nat.lt_trichotomy a b with h | h | h
    · exact absurd ((same_root M (hf a).1 b a h (hf a).2 (by rw [e]; exact (hf b).2)).rel M tr) (ap a ha b hb h)
    · exact h
    · exact absurd ((same_root M (hf b).1 a b h (hf b).2 (by rw [← e]; exact (hf a).2)).rel M tr) (ap b hb a ha h)
  have nd2 : (A.map f).Nodup := by
    rw [List.Nodup, List.pairwise_map]
    exact nd.imp_of_mem fun {a b} ha hb hne e => hne (inj a ha b hb e)
  have := len_le_of_sub (l := A.map f) (k := (List.range n).filter fun j => (m j).isNone) nd2 fun x hx => by
    obtain ⟨a, ha, rfl⟩ := List.mem_map.mp hx
    refine List.mem_filter.mpr ⟨List.mem_range.mpr ?_, by rw [(hf a).1]; rfl⟩
    rcases (hf a).2 with e | e
    · rw [e]; exact lt a ha
    · exact Nat.lt_trans (le e) (lt a ha)
  simpa using this
end
noncomputable abbrev gNil : PV := .dk []
noncomputable abbrev opSortX : PV → Option (Res PV) := opSortD
noncomputable def lk : List (Nat × Nat) → Nat → Option Nat
  | [], _ => none
  | p :: l, k => if p.1 = k then some p.2 else lk l k
noncomputable def ptN : List (Nat × Nat) → Nat → Nat → List (Nat × Nat)
  | [], k, v => [(k, v)]
  | p :: l, k, v => if p.1 = k then (k, v) :: l else p :: ptN l k v
theorem lk_pt (k v j : Nat) : ∀ l, lk (ptN l k v) j = if j = k then some v else lk l j
  | [] => by
    unfold ptN lk lk
    by_cases h : j = k
    · rw [if_pos h, if_pos h.symm]
    · rw [if_neg h, if_neg (Ne.symm h)]
  | p :: l => by
    unfold ptN
    by_cases h : p.1 = k
    · rw [if_pos h]
      unfold lk
      by_cases hj : j = k
      · rw [if_pos hj, if_pos hj.symm]
      · rw [if_neg hj, if_neg (Ne.symm hj), if_neg (fun e => hj (e.symm.trans h))]
    · rw [if_neg h]
      unfold lk
      rw [lk_pt k v j l]
      by_cases hj : j = k
      · rw [if_pos hj, if_neg (fun e => h (e.trans hj)), if_pos hj]
      · simp only [if_neg hj]
theorem pt_new (k v : Nat) : ∀ l, lk l k = none → ptN l k v = l ++ [(k, v)]
  | [], _ => rfl
  | p :: l, h => by
    unfold lk at h
    split at h
    · cases h
    · rename_i hp
      unfold ptN
      rw [if_neg hp, pt_new k v l h]; rfl
theorem lk_none {k : Nat} : ∀ {l}, lk l k = none ↔ k ∉ l.map (·.1)
  | [] => by simp [lk]
  | p :: l => by
    unfold lk
    by_cases h : p.1 = k
    · simp [h]
    · rw [if_neg h, lk_none]; simp [Ne.symm h]
theorem lk_mem {k v : Nat} : ∀ {l}, lk l k = some v → (k, v) ∈ l
  | p :: l, h => by
    unfold lk at h
    split at h
    · rename_i hp; cases h; subst hp; exact List.mem_cons_self
    · exact List.mem_cons_of_mem _ (lk_mem h)
theorem lk_of {k v : Nat} : ∀ {l : List (Nat × Nat)}, (l.map (·.1)).Nodup → (k, v) ∈ l → lk l k = some v
  | p :: l, nd, h => by
    rw [List.map_cons, List.nodup_cons] at nd
    unfold lk
    rcases List.mem_cons.mp h with e | h
    · subst e; rw [if_pos rfl]
    · rw [if_neg fun e => nd.1 (by rw [e]; exact List.mem_map.mpr ⟨_, h, rfl⟩)]; exact lk_of nd.2 h
theorem pt_keys (k v : Nat) : ∀ l, (ptN l k v).map (·.1) = if lk l k = none then l.map (·.1) ++ [k] else l.map (·.1)
  | [] => rfl
  | p :: l => by
    unfold ptN lk
    by_cases h : p.1 = k
    · rw [if_pos h, if_pos h]; simp [h]
    · rw [if_neg h, if_neg h, List.map_cons, pt_keys k v l]
      split <;> simp
theorem pt_len (k v : Nat) (l : List (Nat × Nat)) : (ptN l k v).length ≤ l.length + 1 := by
  have := congrArg List.length (pt_keys k v l)
  rw [List.length_map] at this
  rw [this]
  split <;> simp
noncomputable def kvQ {κ : Type} (fk : Nat → κ) (fv : Nat → PV) (l : List (Nat × Nat)) : List (κ × PV) := l.map fun p => (fk p.1, fv p.2)
theorem valP_kvQ {κ : Type} [DecidableEq κ] {fk : Nat → κ} {fv : Nat → PV} (inj : ∀ a b, fk a = fk b → a = b) (k : Nat) : ∀ l, valP (kvQ fk fv l) (fk k) = (lk l k).map fv
  | [] => rfl
  | p :: l => by
    show valP ((fk p.1, fv p.2) :: kvQ fk fv l) _ = _
    unfold valP lk
    by_cases h : p.1 = k
    · subst h; rw [if_pos rfl, if_pos rfl]; rfl
    · rw [if_neg (fun e => h (inj _ _ e)), if_neg h]; exact valP_kvQ inj k l
theorem putP_kvQ {κ : Type} [DecidableEq κ] {fk : Nat → κ} {fv : Nat → PV} (inj : ∀ a b, fk a = fk b → a = b) (k v : Nat) : ∀ {l : List (Nat × Nat)}, (l.map (·.1)).Nodup → putP (kvQ fk fv l) (fk k) (fv v) = kvQ fk fv (ptN l k v)
  | [], _ => rfl
  | p :: l, nd => by
    rw [List.map_cons, List.nodup_cons] at nd
    show putP ((fk p.1, fv p.2) :: kvQ fk fv l) _ _ = _
    unfold putP ptN
    by_cases h : p.1 = k
    · subst h
      have : ((kvQ fk fv l).any fun e => decide (e.1 = fk p.1)) = false := by
        rw [List.any_eq_false]
        intro x hx
        obtain ⟨q, hq, rfl⟩ := List.mem_map.mp hx
        simp only [decide_eq_true_eq]
        exact fun e => nd.1 (by rw [← inj _ _ e]; exact List.mem_map.mpr ⟨q, hq, rfl⟩)
      rw [if_pos rfl, if_pos rfl, this]; rfl
    · rw [if_neg (fun e => h (inj _ _ e)), if_neg h, putP_kvQ inj k v nd.2]; rfl
theorem kvQ_len {κ : Type} {fk : Nat → κ} {fv : Nat → PV} (l : List (Nat × Nat)) : (kvQ fk fv l).length = l.length := by simp [kvQ]
noncomputable def iK (a : Nat) : Key := .inl (a : Int)
noncomputable def iV (a : Nat) : PV := .int (a : Int)
theorem iK_inj (a b : Nat) (e : iK a = iK b) : a = b := by have := Sum.inl.inj e; omega
theorem keyNe {a b : Nat} (h : a ≠ b) : (Sum.inl (a : Int) : Key) ≠ .inl (b : Int) := fun e => h (by have := Sum.inl.inj e; omega)
structure Gv where
  gv : Nat → PV
  GD : List (Nat × Nat) → PV
  srtd : List (Nat × Nat) → List PV
  still : ∀ g, (gv g).still = true
  nn : ∀ g, (gv g).isNon = false
  nil : GD [] = gNil
  isD : ∀ l, (GD l).isD = true
  sh : ∀ l, PV.shallow (GD l) = true
  find : ∀ l g, dFind (GD l) (gv g) = some ((lk l g).map iV)
  put : ∀ l g a, (l.map (·.1)).Nodup → l.length < sizeLine → dPut (GD l) (gv g) (iV a) = some (GD (ptN l g a))
  srt : ∀ l (Q : PV → Prop), l.length < 64 → Q (.lst (srtd l)) → Tv (opSortX (GD l)) Q
noncomputable def Gv.GA (G : Gv) (l : List (Nat × Nat)) : PV := .dk (kvQ iK G.gv l)
noncomputable def Gv.GL (G : Gv) (l : List Nat) : List PV := l.map G.gv
theorem Gv.findA (G : Gv) (l : List (Nat × Nat)) (a : Nat) : dFind (G.GA l) (.int (a : Int)) = some ((lk l a).map G.gv) := by
  unfold Gv.GA; rw [dF_int]; exact congrArg some (valP_kvQ iK_inj a l)
theorem Gv.putA (G : Gv) {l : List (Nat × Nat)} {a g : Nat} (nd : (l.map (·.1)).Nodup) (h : l.length < sizeLine) : dPut (G.GA l) (.int (a : Int)) (G.gv g) = some (G.GA (ptN l a g)) := by
  unfold Gv.GA; rw [dP_int, if_pos (by rw [kvQ_len]; exact h)]; exact congrArg (fun z => some (PV.dk z)) (putP_kvQ iK_inj a g nd)
noncomputable def natsP (l : List Nat) : List PV := l.map fun (n : Nat) => .int (n : Int)
theorem shallow_nats (l : List Nat) : PV.shallow (.lst (natsP l)) = true := List.all_eq_true.mpr fun p hp => by
  obtain ⟨n, _, rfl⟩ := List.mem_map.mp hp; rfl
noncomputable def wiP (G : Gv) (n : Nat) (W : Nat → List Nat) : PV := .dk ((List.range n).map fun (i : Nat) => ((.inl (i : Int) : Key), PV.lst (G.GL (W i))))
theorem valP_range {f : Nat → PV} {k : Nat} : ∀ {l : List Nat}, k ∈ l → valP (l.map fun (i : Nat) => ((.inl (i : Int) : Key), f i)) (.inl (k : Int)) = some (f k)
  | i :: l, h => by
    rw [List.map_cons]
    unfold valP
    by_cases e : i = k
    · subst e; rw [if_pos rfl]
    · rw [if_neg (keyNe e)]
      exact valP_range ((List.mem_cons.mp h).resolve_left (Ne.symm e))
theorem dF_wi {G : Gv} {n k : Nat} {W : Nat → List Nat} (h : k < n) : dFind (wiP G n W) (.int (k : Int)) = some (some (.lst (G.GL (W k)))) := by
  unfold wiP; rw [dF_int, valP_range (f := fun i => .lst (G.GL (W i))) (List.mem_range.mpr h)]
structure Wk (n : Nat) (W : Nat → List Nat) (B : List (Nat × Nat)) (S R : List Nat) (cb : List (Nat × Nat)) : Prop where
  eq : R = S ++ cb.map fun p => (lk B p.1).getD 0
  pr : ∀ p ∈ cb, lk B p.1 ≠ none
  nd : (cb.map (·.1)).Nodup
  wish : ∀ p ∈ cb, p.1 ∈ W p.2
  back : ∀ (k : Nat) p, cb[k]? = some p → ∃ i, i < S.length + k ∧ R[i]? = some p.2
  lt : ∀ a ∈ R, a < n
section
variable {n : Nat} {W : Nat → List Nat} {B : List (Nat × Nat)} {S R : List Nat} {cb : List (Nat × Nat)}
theorem Wk.len (h : Wk n W B S R cb) : R.length = S.length + cb.length := by rw [h.eq]; simp
theorem Wk.key_lt {N : Nat} (h : Wk n W B S R cb) (wl : ∀ i g, g ∈ W i → g < N) : cb.length ≤ N := by
  have := len_le_of_sub (l := cb.map (·.1)) (k := List.range N) h.nd fun x hx => by
    obtain ⟨p, hp, rfl⟩ := List.mem_map.mp hx
    exact List.mem_range.mpr (wl _ _ (h.wish p hp))
  simpa using this
theorem Wk.start (h : ∀ a ∈ S, a < n) : Wk n W B S S [] := ⟨by simp, fun p h => by simp at h, by simp, fun p h => by simp at h, fun k p e => by simp at e, h⟩
theorem Wk.more (h : Wk n W B S R cb) {a g b i : Nat} (ha : R[i]? = some a) (hg : g ∈ W a) (hn : lk cb g = none) (hb : lk B g = some b) (bl : b < n) : Wk n W B S (R ++ [b]) (cb ++ [(g, a)]) where
  eq := by rw [List.map_append, List.map_cons, List.map_nil, hb, ← List.append_assoc, ← h.eq]; rfl
  pr := fun p hp => by
    rcases List.mem_append.mp hp with hp | hp
    · exact h.pr p hp
    · simp at hp; subst hp; rw [hb]; simp
  nd := by
    rw [List.map_append, List.nodup_append]
    refine ⟨h.nd, by simp, fun x hx y hy => ?_⟩
    simp at hy
    subst hy
    exact fun e => lk_none.mp hn (e ▸ hx)
  wish := fun p hp => by
    rcases List.mem_append.mp hp with hp | hp
    · exact h.wish p hp
    · simp at hp; subst hp; exact hg
  back := fun k p e => by
    have hl := h.len
    by_cases hk : k < cb.length
    · rw [List.getElem?_append_left hk] at e
      obtain ⟨j, h1, h2⟩ := h.back k p e
      refine ⟨j, h1, ?_⟩
      rw [List.getElem?_append_left (by omega)]; exact h2
    · rw [List.getElem?_append_right (by omega)] at e
      have : k = cb.length := by
        rcases Nat.lt_or_ge (k - cb.length) 1 with q | q
        · omega
        · rw [List.getElem?_eq_none (by simpa using q)] at e; cases e
      subst this
      simp at e
      subst e
      have hi : i < R.length := (List.getElem?_eq_some_iff.mp ha).1
      exact ⟨i, by omega, by rw [List.getElem?_append_left hi]; exact ha⟩
  lt := fun x hx => by
    rcases List.mem_append.mp hx with hx | hx
    · exact h.lt x hx
    · simp at hx; subst hx; exact bl
end
noncomputable def gvP (G : Gv) : Option Nat → PV
  | none => .non
  | some g => G.gv g
noncomputable def WEnd (n : Nat) (W : Nat → List Nat) (B : List (Nat × Nat)) (S : List Nat) (g : Option Nat) (R : List Nat) (cb : List (Nat × Nat)) : Prop :=
  match g with
  | none => Wk n W B S R cb ∧ ∀ a ∈ R, ∀ x ∈ W a, x ∈ cb.map (·.1)
  | some g => ∃ (cb' : List (Nat × Nat)) (a i : Nat), cb = cb' ++ [(g, a)] ∧ Wk n W B S R cb' ∧ R[i]? = some a ∧ g ∈ W a ∧ lk cb' g = none ∧ lk B g = none
theorem natsP_get {l : List Nat} {i : Nat} {x : PV} (h : (natsP l)[i]? = some x) : ∃ g, l[i]? = some g ∧ x = .int (g : Int) := by
  unfold natsP at h
  rw [List.getElem?_map] at h
  cases e : l[i]? with
  | none => rw [e] at h; cases h
  | some g => rw [e] at h; cases h; exact ⟨g, rfl, rfl⟩
theorem GL_get {G : Gv} {l : List Nat} {i : Nat} {x : PV} (h : (G.GL l)[i]? = some x) : ∃ g, l[i]? = some g ∧ x = G.gv g := by
  unfold Gv.GL at h
  rw [List.getElem?_map] at h
  cases e : l[i]? with
  | none => rw [e] at h; cases h
  | some g => rw [e] at h; cases h; exact ⟨g, rfl, rfl⟩
theorem natsP_app (l : List Nat) (b : Nat) : natsP l ++ [.int (b : Int)] = natsP (l ++ [b]) := by simp [natsP]
theorem atI_nats {l : List Nat} {i a : Nat} (h : l[i]? = some a) : atI (natsP l) (i : Int) = some (.int (a : Int)) := by
  exact atI_nat (by unfold natsP; rw [List.getElem?_map, h]; rfl)
theorem walked_ok {G : Gv} {n N : Nat} {W : Nat → List Nat} {B : List (Nat × Nat)} {S : List Nat} (hN : N ≤ 120) (hS : S.length ≤ 60) (sl : ∀ a ∈ S, a < n) (wl : ∀ i g, g ∈ W i → g < N) (bl : ∀ g b, lk B g = some b → b < n) :
    ∃ g R cb, M_walked [wiP G n W, G.GD B, .lst (natsP S)] = some (.ok (.tup [gvP G g, .lst (natsP R), G.GD cb])) ∧ WEnd n W B S g R cb := by
  have big : ∀ {k : Nat}, k ≤ 900 → k < sizeLine := fun h => small1000 (by omega)
  suffices h : ∃ p, M_walked [wiP G n W, G.GD B, .lst (natsP S)] = some (.ok p) ∧ ∃ g R cb, p = .tup [gvP G g, .lst (natsP R), G.GD cb] ∧ WEnd n W B S g R cb by
    obtain ⟨p, e, g, R, cb, rfl, h⟩ := h
    exact ⟨g, R, cb, e, h⟩
  refine ex_finT ?_
  unfold B_walked
  rw [show startR [wiP G n W, G.GD B, .lst (natsP S)] 5 = [some (.sh (wiP G n W)), some (.sh (G.GD B)), some (.sh (.lst (natsP S))), none, none, none, none, none] from rfl]
  walk_at "rd"
  refine to_while (n := 199) (I := fun k ρ => ∃ (R : List Nat) (cb : List (Nat × Nat)) (pl : Nat) (v6 v7 : Option Sl), ρ = [some (.sh (wiP G n W)), some (.sh (G.GD B)), some (.sh (.lst (natsP S))), some (.ow (.lst (natsP R))), some (.ow (G.GD cb)), some (.sh (.int (pl : Int))), v6, v7] ∧ k + pl = 199 ∧ pl ≤ R.length ∧ Wk n W B S R cb ∧ ∀ i a, i < pl → R[i]? = some a → ∀ x ∈ W a, x ∈ cb.map (·.1)) ⟨S, [], 0, none, none, by rw [G.nil]; rfl, rfl, Nat.zero_le _, Wk.start sl, fun i a h => absurd h (Nat.not_lt_zero _)⟩ ?_
  rintro k ρ ⟨R, cb, pl, v6, v7, rfl, hk, hpl, hw, hc⟩
  have hR := hw.len
  have hcb := hw.key_lt wl
  walk_at "rd"
  by_cases hlt : (pl : Int) < ((natsP R).length : Int)
  case neg =>
    rw [if_neg hlt]
    have hpl2 : pl = R.length := by simp only [natsP, List.length_map] at hlt; omega
    unfold B_walked_7
    walk_at "rd"
    refine ⟨rfl, shallow_nats R, G.sh cb, Nat.le_of_lt (big (by omega)), none, R, cb, rfl, hw, fun a ha x hx => ?_⟩
    obtain ⟨i, hi⟩ := List.getElem?_of_mem ha
    exact hc i a (by rw [hpl2]; exact (List.getElem?_eq_some_iff.mp hi).1) hi x hx
  case pos =>
    rw [if_pos hlt]
    have hp2 : pl < R.length := by simp only [natsP, List.length_map] at hlt; omega
    obtain ⟨a, ha⟩ : ∃ a, R[pl]? = some a := ⟨_, List.getElem?_eq_getElem hp2⟩
    have al : a < n := hw.lt a (List.mem_of_getElem? ha)
    refine ⟨by omega, ?_⟩
    unfold B_walked_6
    walk_at "rd"
    refine ⟨.int (a : Int), atI_nats ha, rfl, _, dF_wi al, ?_⟩
    rw [tv_asSeqL]
    refine to_loopN (I := fun j ρ => ∃ (R : List Nat) (cb : List (Nat × Nat)) (v7 : Option Sl), ρ = [some (.sh (wiP G n W)), some (.sh (G.GD B)), some (.sh (.lst (natsP S))), some (.ow (.lst (natsP R))), some (.ow (G.GD cb)), some (.sh (.int (pl : Int))), some (.sh (.int (a : Int))), v7] ∧ R[pl]? = some a ∧ Wk n W B S R cb ∧ (∀ i a, i < pl → R[i]? = some a → ∀ x ∈ W a, x ∈ cb.map (·.1)) ∧ ∀ i x, i < j → (W a)[i]? = some x → x ∈ cb.map (·.1)) ⟨R, cb, v7, rfl, ha, hw, hc, fun i x h => absurd h (Nat.not_lt_zero _)⟩ ?_ ?_
    case refine_2 =>
      rintro ρ ⟨R, cb, v7, rfl, ha, hw, hc, hj⟩
      have hR := hw.len
      have hcb := hw.key_lt wl
      have hp3 : pl < R.length := (List.getElem?_eq_some_iff.mp ha).1
      walk_at "rd"
      unfold B_walked_5
      walk_at "rd"
      refine ⟨R, cb, pl + 1, some (.sh (.int a)), v7, by simp, by omega, hp3, hw, fun i b hi hb x hx => ?_⟩
      by_cases e : i = pl
      · subst e
        rw [ha] at hb; cases hb
        obtain ⟨i, hi⟩ := List.getElem?_of_mem hx
        exact hj i x (by simpa [Gv.GL] using (List.getElem?_eq_some_iff.mp hi).1) hi
      · exact hc i b (by omega) hb x hx
    rintro j y ρ ey ⟨R, cb, v7, rfl, ha, hw, hc, hj⟩
    obtain ⟨g, eg, rfl⟩ := GL_get ey
    have hR := hw.len
    have hcb := hw.key_lt wl
    have hg : g ∈ W a := List.mem_of_getElem? eg
    unfold B_walked_4
    walk_at "rd"
    refine ⟨G.isD _, _, G.find _ _, ?_⟩
    cases hk2 : lk cb g with
    | some z =>
      rw [Option.map_some, Option.isSome_some, if_pos rfl]
      refine ⟨R, cb, _, rfl, ha, hw, hc, fun i x hi hx => ?_⟩
      by_cases e : i = j
      · subst e
        rw [eg] at hx; cases hx
        exact List.mem_map.mpr ⟨_, lk_mem hk2, rfl⟩
      · exact hj i x (by omega) hx
    | none =>
      rw [Option.map_none, Option.isSome_none, if_neg (by decide)]
      unfold B_walked_3
      walk_at "rd"
      refine ⟨_, G.put _ _ _ hw.nd (big (by omega)), G.isD _, _, G.find _ _, ?_⟩
      rw [pt_new _ _ _ hk2]
      cases hb : lk B g with
      | none =>
        rw [Option.map_none, Option.isSome_none, if_pos (by decide)]
        unfold B_walked_1
        walk_at "rd"
        exact ⟨G.still g, shallow_nats R, G.sh _, Nat.le_of_lt (big (by omega)), some g, R, _, rfl, cb, a, pl, rfl, hw, ha, hg, hk2, hb⟩
      | some b =>
        rw [Option.map_some, Option.isSome_some, if_neg (by decide)]
        unfold B_walked_2
        walk_at "rd"
        have hp3 : pl < R.length := (List.getElem?_eq_some_iff.mp ha).1
        have sub : ∀ x, x ∈ cb.map (·.1) → x ∈ (cb ++ [(g, a)]).map (·.1) := fun x hx => by rw [List.map_append]; exact List.mem_append_left _ hx
        refine ⟨G.isD _, .int (b : Int), by rw [G.find, hb]; rfl, by simp only [natsP, List.length_map]; exact big (by omega), R ++ [b], cb ++ [(g, a)], _, by rw [natsP_app], by rw [List.getElem?_append_left hp3]; exact ha, hw.more ha hg hk2 hb (bl g b hb), fun i c hi hc' x hx => ?_, fun i x hi hx => ?_⟩
        · rw [List.getElem?_append_left (by omega)] at hc'
          exact sub x (hc i c hi hc' x hx)
        · by_cases e : i = j
          · subst e
            rw [eg] at hx; cases hx
            simp
          · exact sub x (hj i x (by omega) hx)
structure Pm (n : Nat) (W : Nat → List Nat) (A B : List (Nat × Nat)) : Prop where
  ndA : (A.map (·.1)).Nodup
  ndB : (B.map (·.1)).Nodup
  iff : ∀ a g, lk A a = some g ↔ lk B g = some a
  ok : ∀ {a g}, lk A a = some g → g ∈ W a ∧ a < n
structure Bk (n : Nat) (W : Nat → List Nat) (B : List (Nat × Nat)) (s : Nat) (cb : List (Nat × Nat)) : Prop where
  nd : (cb.map (·.1)).Nodup
  wish : ∀ p ∈ cb, p.1 ∈ W p.2
  back : ∀ (k : Nat) p, cb[k]? = some p → p.2 = s ∨ ∃ (j : Nat) (q : Nat × Nat), j < k ∧ cb[j]? = some q ∧ lk B q.1 = some p.2
  lt : ∀ p ∈ cb, p.2 < n
theorem Wk.bk {n : Nat} {W : Nat → List Nat} {B : List (Nat × Nat)} {s : Nat} {R : List Nat} {cb : List (Nat × Nat)} (h : Wk n W B [s] R cb) {g a i : Nat} (ha : R[i]? = some a) (hg : g ∈ W a) (hn : lk cb g = none) : Bk n W B s (cb ++ [(g, a)]) where
  nd := by
    rw [List.map_append, List.nodup_append]
    refine ⟨h.nd, by simp, fun x hx y hy => ?_⟩
    simp at hy
    subst hy
    exact fun e => lk_none.mp hn (e ▸ hx)
  wish := fun p hp => by
    rcases List.mem_append.mp hp with hp | hp
    · exact h.wish p hp
    · simp at hp; subst hp; exact hg
  back := fun k p e => by
    have hl := h.len
    obtain ⟨j, hj, ej⟩ : ∃ j, j < 1 + k ∧ R[j]? = some p.2 := by
      by_cases hk : k < cb.length
      · rw [List.getElem?_append_left hk] at e
        exact h.back k p e
      · rw [List.getElem?_append_right (by omega)] at e
        have : k = cb.length := by
          rcases Nat.lt_or_ge (k - cb.length) 1 with q | q
          · omega
          · rw [List.getElem?_eq_none (by simpa using q)] at e; cases e
        subst this
        simp at e
        subst e
        have hi : i < R.length := (List.getElem?_eq_some_iff.mp ha).1
        exact ⟨i, by simp at hl; omega, ha⟩
    have hjR : j < R.length := (List.getElem?_eq_some_iff.mp ej).1
    rw [h.eq] at ej
    cases j with
    | zero => left; simpa using ej.symm
    | succ j =>
      right
      rw [List.getElem?_append_right (by simp)] at ej
      simp only [List.length_cons, List.length_nil, Nat.zero_add, Nat.add_sub_cancel, List.getElem?_map] at ej
      cases q : cb[j]? with
      | none => rw [q] at ej; cases ej
      | some p' =>
        rw [q] at ej
        have ej : some ((lk B p'.1).getD 0) = some p.2 := ej
        have hp' := h.pr p' (List.mem_of_getElem? q)
        have jl : j < cb.length := (List.getElem?_eq_some_iff.mp q).1
        refine ⟨j, p', by omega, by rw [List.getElem?_append_left jl]; exact q, ?_⟩
        cases z : lk B p'.1 with
        | none => exact absurd z hp'
        | some b => rw [z] at ej; exact congrArg some (Option.some.inj ej)
  lt := fun p hp => by
    rcases List.mem_append.mp hp with hp | hp
    · obtain ⟨k, hk⟩ := List.getElem?_of_mem hp
      obtain ⟨j, _, ej⟩ := h.back k p hk
      exact h.lt _ (List.mem_of_getElem? ej)
    · simp at hp; subst hp; exact h.lt _ (List.mem_of_getElem? ha)
structure Jp (n N : Nat) (W : Nat → List Nat) (A0 B0 : List (Nat × Nat)) (s : Nat) (cb : List (Nat × Nat)) (Dd : Nat → Prop) (k x : Nat) (A B : List (Nat × Nat)) : Prop where
  ndA : (A.map (·.1)).Nodup
  ndB : (B.map (·.1)).Nodup
  kA : ∀ a ∈ A.map (·.1), a < n
  kB : ∀ a ∈ B.map (·.1), a < N
  old : ∀ (i : Nat) p b, i < k → cb[i]? = some p → lk A0 b = some p.1 → lk A b = some p.1
  st : lk A s = none
  iff : ∀ a g, g ≠ x → (lk A a = some g ↔ lk B g = some a)
  no : ∀ a, lk A a ≠ some x
  ok : ∀ {a g}, lk A a = some g → g ∈ W a ∧ a < n
  xd : ∀ d, Dd d → lk B0 x ≠ some d
  bd : ∀ g d, Dd d → lk B0 g = some d → lk B g = some d
  more : ∀ b, lk A0 b ≠ none → lk A b ≠ none
  less : ∀ b, lk A b ≠ none → lk A0 b ≠ none
noncomputable def ClosedD (W : Nat → List Nat) (B : List (Nat × Nat)) (Dd : Nat → Prop) : Prop := ∀ d, Dd d → ∀ g ∈ W d, ∃ d', lk B g = some d' ∧ Dd d'
section
variable {n N : Nat} {W : Nat → List Nat} {A0 B0 A B : List (Nat × Nat)} {s k x a : Nat} {cb : List (Nat × Nat)} {Dd : Nat → Prop}
theorem nd_pt {l : List (Nat × Nat)} (h : (l.map (·.1)).Nodup) (k v : Nat) : ((ptN l k v).map (·.1)).Nodup := by
  rw [pt_keys]
  split
  · rename_i e
    rw [List.nodup_append]
    refine ⟨h, by simp, fun x hx y hy => ?_⟩
    simp at hy; subst hy
    exact fun z => lk_none.mp e (z ▸ hx)
  · exact h
theorem keys_pt {l : List (Nat × Nat)} {k v n : Nat} (h : ∀ a ∈ l.map (·.1), a < n) (hk : k < n) : ∀ a ∈ (ptN l k v).map (·.1), a < n := by
  rw [pt_keys]
  split
  · intro a ha
    rcases List.mem_append.mp ha with ha | ha
    · exact h a ha
    · simp at ha; subst ha; exact hk
  · exact h
theorem len_keys {l : List (Nat × Nat)} {n : Nat} (nd : (l.map (·.1)).Nodup) (h : ∀ a ∈ l.map (·.1), a < n) : l.length ≤ n := by
  have := len_le_of_sub (l := l.map (·.1)) (k := List.range n) nd fun x hx => List.mem_range.mpr (h x hx)
  simpa using this
theorem Jp.last (P : Pm n W A0 B0) (b : Bk n W B0 s cb) (c : ClosedD W B0 Dd) (j : Jp n N W A0 B0 s cb Dd k x A B) (e : cb[k]? = some (x, a)) (hl : lk A a = none) : Pm n W (ptN A a x) (ptN B x a) ∧ lk (ptN A a x) s ≠ none ∧ (∀ b, lk A0 b ≠ none → lk (ptN A a x) b ≠ none) ∧ (∀ b, lk (ptN A a x) b ≠ none → b = s ∨ lk A0 b ≠ none) ∧ ClosedD W (ptN B x a) Dd := by
  have xa : x ∈ W a := b.wish _ (List.mem_of_getElem? e)
  have as : a = s := by
    rcases b.back k _ e with h | ⟨i, q, hi, eq, hq⟩
    · exact h
    · exact absurd hl (j.more a (by rw [(P.iff _ _).mpr hq]; simp))
  refine ⟨⟨nd_pt j.ndA _ _, nd_pt j.ndB _ _, fun b' g => ?_, fun {b' g} h => ?_⟩, by rw [lk_pt, if_pos as.symm]; simp, fun b' hb => ?_, fun b' hb => ?_, fun d hd g hg => ?_⟩
  · rw [lk_pt, lk_pt]
    by_cases hb : b' = a
    · subst hb
      rw [if_pos rfl]
      by_cases hx : g = x
      · subst hx; simp
      · rw [if_neg hx]
        refine ⟨fun z => absurd (Option.some.inj z).symm hx, fun z => ?_⟩
        rw [(j.iff _ _ hx).mpr z] at hl; cases hl
    · rw [if_neg hb]
      by_cases hx : g = x
      · subst hx
        rw [if_pos rfl]
        exact ⟨fun z => absurd z (j.no b'), fun z => absurd (Option.some.inj z).symm hb⟩
      · rw [if_neg hx]; exact j.iff _ _ hx
  · rw [lk_pt] at h
    split at h
    · rename_i hb; cases h; subst hb; exact ⟨xa, b.lt _ (List.mem_of_getElem? e)⟩
    · exact j.ok h
  · rw [lk_pt]
    split
    · simp
    · exact j.more b' hb
  · rw [lk_pt] at hb
    split at hb
    · rename_i e'; exact .inl (e'.trans as)
    · exact .inr (j.less b' hb)
  · obtain ⟨d', h1, h2⟩ := c d hd g hg
    refine ⟨d', ?_, h2⟩
    rw [lk_pt, if_neg fun z => by subst z; exact j.xd d' h2 h1]
    exact j.bd g d' h2 h1
theorem Jp.step (P : Pm n W A0 B0) (wl : ∀ i g, g ∈ W i → g < N) (b : Bk n W B0 s cb) (c : ClosedD W B0 Dd) (j : Jp n N W A0 B0 s cb Dd k x A B) (e : cb[k]? = some (x, a)) {y : Nat} (hl : lk A a = some y) : ∃ k2 a2, k2 < k ∧ cb[k2]? = some (y, a2) ∧ Jp n N W A0 B0 s cb Dd k2 y (ptN A a x) (ptN B x a) := by
  have xa : x ∈ W a := b.wish _ (List.mem_of_getElem? e)
  have an : a < n := b.lt _ (List.mem_of_getElem? e)
  have sa : s ≠ a := fun z => by subst z; rw [j.st] at hl; cases hl
  obtain ⟨i, q, hi, eq, hq⟩ := (b.back k _ e).resolve_left (Ne.symm sa)
  have hA0 := (P.iff _ _).mpr hq
  have yq : y = q.1 := by have := j.old i q a hi eq hA0; rw [hl] at this; exact Option.some.inj this
  subst yq
  have nx : ∀ (i' : Nat) p, i' < k → cb[i']? = some p → p.1 ≠ x := fun i' p h1 h2 z => by
    have e1 : (cb.map (·.1))[i']? = some x := by rw [List.getElem?_map, h2]; exact congrArg some z
    have e2 : (cb.map (·.1))[k]? = some x := by rw [List.getElem?_map, e]; rfl
    have l1 : i' < (cb.map (·.1)).length := (List.getElem?_eq_some_iff.mp e1).1
    have := (List.getElem?_inj l1 b.nd).mp (e1.trans e2.symm)
    omega
  have da : ¬ Dd a := fun hd => by
    obtain ⟨d', h1, h2⟩ := c a hd x xa
    exact j.xd d' h2 h1
  have ny := nx i q hi eq
  refine ⟨i, q.2, hi, eq, nd_pt j.ndA _ _, nd_pt j.ndB _ _, keys_pt j.kA an, keys_pt j.kB (wl _ _ xa), fun i' p b' h1 h2 h3 => ?_, by rw [lk_pt, if_neg sa]; exact j.st, fun b' g hg => ?_, fun b' => ?_, fun {b' g} h => ?_, fun d hd z => ?_, fun g d hd z => ?_, fun b' hb' => ?_, fun b' hb' => ?_⟩
  · rw [lk_pt, if_neg fun z => ?_]
    · exact j.old i' p b' (by omega) h2 h3
    · subst z
      rw [hA0] at h3
      have z : q.1 = p.1 := Option.some.inj h3
      have e1 : (cb.map (·.1))[i']? = some q.1 := by rw [List.getElem?_map, h2]; exact congrArg some z.symm
      have e2 : (cb.map (·.1))[i]? = some q.1 := by rw [List.getElem?_map, eq]; rfl
      have l1 : i' < (cb.map (·.1)).length := (List.getElem?_eq_some_iff.mp e1).1
      have := (List.getElem?_inj l1 b.nd).mp (e1.trans e2.symm)
      omega
  · rw [lk_pt, lk_pt]
    by_cases hb : b' = a
    · subst hb
      rw [if_pos rfl]
      by_cases hx : g = x
      · subst hx; simp
      · rw [if_neg hx]
        refine ⟨fun z => absurd (Option.some.inj z).symm hx, fun z => ?_⟩
        rw [(j.iff _ _ hx).mpr z] at hl
        exact absurd (Option.some.inj hl) hg
    · rw [if_neg hb]
      by_cases hx : g = x
      · subst hx
        rw [if_pos rfl]
        exact ⟨fun z => absurd z (j.no b'), fun z => absurd (Option.some.inj z).symm hb⟩
      · rw [if_neg hx]; exact j.iff _ _ hx
  · rw [lk_pt]
    split
    · exact fun z => ny (Option.some.inj z).symm
    · rename_i hb
      exact fun z => hb (by have h1 := (j.iff _ _ ny).mp z; have h2 := (j.iff _ _ ny).mp hl; rw [h1] at h2; exact Option.some.inj h2)
  · rw [lk_pt] at h
    split at h
    · rename_i hb; cases h; subst hb; exact ⟨xa, an⟩
    · exact j.ok h
  · rw [hq] at z
    cases z
    exact da hd
  · rw [lk_pt, if_neg fun w => by subst w; exact j.xd d hd z]
    exact j.bd g d hd z
  · rw [lk_pt]
    split
    · simp
    · exact j.more b' hb'
  · rw [lk_pt] at hb'
    split at hb'
    · rename_i e'; subst e'; exact j.less _ (by rw [hl]; simp)
    · exact j.less b' hb'
end
theorem pair_none {G : Gv} {A B cb : List (Nat × Nat)} : M_pair_anew [G.GA A, G.GD B, G.GD cb, .non] = some (.ok (.tup [G.GA A, G.GD B])) := by
  suffices h : ∃ p, M_pair_anew [G.GA A, G.GD B, G.GD cb, .non] = some (.ok p) ∧ p = .tup [G.GA A, G.GD B] by
    obtain ⟨p, e, rfl⟩ := h; exact e
  show ∃ p, finIO2 (B_pair_anew (startIO2 [G.GA A, G.GD B, G.GD cb, .non] 3)) = some (.ok p) ∧ p = .tup [G.GA A, G.GD B]
  refine ex_finIO2 ?_
  unfold B_pair_anew
  rw [show startIO2 [G.GA A, G.GD B, G.GD cb, .non] 3 = [some (.ow (G.GA A)), some (.ow (G.GD B)), some (.sh (G.GD cb)), some (.sh .non), none, none, none] from rfl]
  walk_at "rd"
  refine to_while (n := 199) (I := fun _ ρ => ρ = [some (.ow (G.GA A)), some (.ow (G.GD B)), some (.sh (G.GD cb)), some (.sh .non), some (.sh .non), none, none]) rfl ?_
  rintro k ρ rfl
  walk_at "rd"
  rw [if_neg (show ¬ PV.non.isNon = false by decide)]
  exact ⟨_, rfl, rfl⟩
theorem pair_ok {G : Gv} {n N : Nat} {W : Nat → List Nat} {A0 B0 cb : List (Nat × Nat)} {s g a : Nat} {Dd : Nat → Prop} (hn : n ≤ 60) (hN : N ≤ 120) (wl : ∀ i g, g ∈ W i → g < N) (P : Pm n W A0 B0) (b : Bk n W B0 s (cb ++ [(g, a)])) (c : ClosedD W B0 Dd) (hs : lk A0 s = none) (hg : lk B0 g = none) :
    ∃ A B, M_pair_anew [G.GA A0, G.GD B0, G.GD (cb ++ [(g, a)]), G.gv g] = some (.ok (.tup [G.GA A, G.GD B])) ∧ Pm n W A B ∧ lk A s ≠ none ∧ (∀ b, lk A0 b ≠ none → lk A b ≠ none) ∧ (∀ b, lk A b ≠ none → b = s ∨ lk A0 b ≠ none) ∧ ClosedD W B Dd := by
  have big : ∀ {k : Nat}, k ≤ 900 → k < sizeLine := fun h => small1000 (by omega)
  suffices h : ∃ p, M_pair_anew [G.GA A0, G.GD B0, G.GD (cb ++ [(g, a)]), G.gv g] = some (.ok p) ∧ ∃ A B, p = .tup [G.GA A, G.GD B] ∧ Pm n W A B ∧ lk A s ≠ none ∧ (∀ b, lk A0 b ≠ none → lk A b ≠ none) ∧ (∀ b, lk A b ≠ none → b = s ∨ lk A0 b ≠ none) ∧ ClosedD W B Dd by
    obtain ⟨p, e, A, B, rfl, h⟩ := h; exact ⟨A, B, e, h⟩
  generalize hcb : cb ++ [(g, a)] = cbx at b ⊢
  have e0 : cbx[cb.length]? = some (g, a) := by rw [← hcb]; simp
  have hlen : cbx.length ≤ N := len_keys b.nd fun x hx => by
    obtain ⟨p, hp, rfl⟩ := List.mem_map.mp hx
    exact wl _ _ (b.wish p hp)
  have kl : ∀ {l : List (Nat × Nat)} {k : Nat}, k ∈ l.map (·.1) → ∃ v, lk l k = some v := fun {l k} h => by
    cases e : lk l k with
    | none => exact absurd h (lk_none.mp e)
    | some v => exact ⟨v, rfl⟩
  have j0 : Jp n N W A0 B0 s cbx Dd cb.length g A0 B0 := by
    refine ⟨P.ndA, P.ndB, fun x hx => ?_, fun x hx => ?_, fun i p b' h1 h2 h3 => h3, hs, fun a' g' _ => P.iff a' g', fun a' z => ?_, P.ok, fun d _ z => ?_, fun g' d _ z => z, fun b' z => z, fun b' z => z⟩
    · obtain ⟨v, hv⟩ := kl hx; exact (P.ok hv).2
    · obtain ⟨v, hv⟩ := kl hx; exact wl _ _ (P.ok ((P.iff _ _).mpr hv)).1
    · rw [(P.iff _ _).mp z] at hg; cases hg
    · rw [hg] at z; cases z
  refine ex_finIO2 ?_
  unfold B_pair_anew
  rw [show startIO2 [G.GA A0, G.GD B0, G.GD cbx, G.gv g] 3 = [some (.ow (G.GA A0)), some (.ow (G.GD B0)), some (.sh (G.GD cbx)), some (.sh (G.gv g)), none, none, none] from rfl]
  walk_at "rd"
  refine to_while (n := 199) (I := fun m ρ => ∃ (A B : List (Nat × Nat)) (y : Option Nat) (v5 v6 : Option Sl), ρ = [some (.ow (G.GA A)), some (.ow (G.GD B)), some (.sh (G.GD cbx)), some (.sh (G.gv g)), some (.sh (gvP G y)), v5, v6] ∧
    match y with
    | none => Pm n W A B ∧ lk A s ≠ none ∧ (∀ b, lk A0 b ≠ none → lk A b ≠ none) ∧ (∀ b, lk A b ≠ none → b = s ∨ lk A0 b ≠ none) ∧ ClosedD W B Dd
    | some x => ∃ k a, cbx[k]? = some (x, a) ∧ k < m ∧ Jp n N W A0 B0 s cbx Dd k x A B) ⟨A0, B0, some g, none, none, rfl, cb.length, a, e0, by have := (List.getElem?_eq_some_iff.mp e0).1; omega, j0⟩ ?_
  rintro m ρ ⟨A, B, y, v5, v6, rfl, hy⟩
  cases y with
  | none =>
    rw [show gvP G none = .non from rfl]
    walk_at "rd"
    rw [if_neg (show ¬ PV.non.isNon = false by decide)]
    exact ⟨_, rfl, A, B, rfl, hy⟩
  | some x =>
    obtain ⟨k, a', ek, km, j⟩ := hy
    rw [show gvP G (some x) = G.gv x from rfl]
    walk_at "rd"
    rw [if_pos (G.nn x)]
    refine ⟨by omega, ?_⟩
    unfold B_pair_anew_1
    have lc : lk cbx x = some a' := lk_of b.nd (List.mem_of_getElem? ek)
    have lA := len_keys j.ndA j.kA
    have lB := len_keys j.ndB j.kB
    walk_at "rd"
    refine ⟨G.isD _, .int (a' : Int), by rw [G.find, lc]; rfl, rfl, _, G.findA _ _, _, G.putA j.ndA (big (by omega)), _, G.put _ _ _ j.ndB (big (by omega)), ptN A a' x, ptN B x a', lk A a', some (.sh (.int (a' : Int))), some (.sh ((Option.map G.gv (lk A a')).getD PV.non)), ?_, ?_⟩
    · cases lk A a' <;> rfl
    · cases hl : lk A a' with
      | none => exact j.last P b c ek hl
      | some y =>
        obtain ⟨k2, a2, h1, h2, h3⟩ := j.step P wl b c ek hl
        exact ⟨k2, a2, h2, by omega, h3⟩
theorem keys_wi (G : Gv) (n : Nat) (W : Nat → List Nat) : keysP ((List.range n).map fun (i : Nat) => ((.inl (i : Int) : Key), PV.lst (G.GL (W i)))) = natsP (List.range n) := by
  unfold keysP natsP
  rw [List.map_map]
  rfl
theorem most_ok {G : Gv} {n N : Nat} {W : Nat → List Nat} (hn : n ≤ 60) (hN : N ≤ 120) (wl : ∀ i g, g ∈ W i → g < N) :
    ∃ A B, M_most_pairs [wiP G n W] = some (.ok (G.GA A)) ∧ Pm n W A B ∧ ∃ Dd, ClosedD W B Dd ∧ ∀ a, a < n → lk A a = none → Dd a := by
  have big : ∀ {k : Nat}, k ≤ 900 → k < sizeLine := fun h => small1000 (by omega)
  suffices h : ∃ p, M_most_pairs [wiP G n W] = some (.ok p) ∧ ∃ A B, p = G.GA A ∧ Pm n W A B ∧ ∃ Dd, ClosedD W B Dd ∧ ∀ a, a < n → lk A a = none → Dd a by
    obtain ⟨p, e, A, B, rfl, h⟩ := h; exact ⟨A, B, e, h⟩
  refine ex_finO ?_
  unfold B_most_pairs
  rw [show startR [wiP G n W] 4 = [some (.sh (wiP G n W)), none, none, none, none] from rfl]
  walk_at "rd"
  refine ⟨rfl, ?_⟩
  rw [show wiP G n W = .dk ((List.range n).map fun (i : Nat) => ((.inl (i : Int) : Key), PV.lst (G.GL (W i)))) from rfl, tv_dkeys, keys_wi, ← show wiP G n W = .dk ((List.range n).map fun (i : Nat) => ((.inl (i : Int) : Key), PV.lst (G.GL (W i)))) from rfl]
  refine to_loopN (I := fun j ρ => ∃ (A B : List (Nat × Nat)) (v3 v4 : Option Sl), ρ = [some (.sh (wiP G n W)), some (.ow (G.GA A)), some (.ow (G.GD B)), v3, v4] ∧ Pm n W A B ∧ (∀ a, j ≤ a → lk A a = none) ∧ ∃ Dd, ClosedD W B Dd ∧ ∀ a, a < j → lk A a = none → Dd a)
    ⟨[], [], none, none, by rw [G.nil]; rfl, ⟨by simp, by simp, fun a g => by simp [lk], fun {a g} h => by simp [lk] at h⟩, fun a _ => rfl, fun _ => False, fun d h => h.elim, fun a h => absurd h (Nat.not_lt_zero _)⟩ ?_ ?_
  case refine_2 =>
    rintro ρ ⟨A, B, v3, v4, rfl, P, un, Dd, c, hd⟩
    walk_at "rd"
    unfold B_most_pairs_2
    walk_at "rd"
    exact ⟨A, rfl, B, P, Dd, c, fun a ha => hd a (by simpa [natsP] using ha)⟩
  rintro j y ρ ey ⟨A, B, v3, v4, rfl, P, un, Dd, c, hd⟩
  obtain ⟨s, es, rfl⟩ := natsP_get ey
  have hs : s = j ∧ s < n := by
    have hj : j < n := by simpa using (List.getElem?_eq_some_iff.mp es).1
    rw [List.getElem?_range hj] at es
    cases es; exact ⟨rfl, hj⟩
  obtain ⟨rfl, sn⟩ := hs
  obtain ⟨g, R, cb, ew, he⟩ := walked_ok (G := G) (B := B) (S := [s]) hN (by simp) (fun a ha => by simp at ha; omega) wl fun g b h => (P.ok ((P.iff _ _).mpr h)).2
  unfold B_most_pairs_1
  walk_at "rd"
  refine ⟨Nat.le_of_lt (big (by omega)), ?_⟩
  rw [show [PV.int (s : Int)] = natsP [s] from rfl, ew]
  walk_at "rd"
  cases g with
  | none =>
    obtain ⟨hw, hc⟩ := he
    refine ⟨_, _, pair_none, A, B, _, _, rfl, P, fun a ha => un a (by omega), fun d => Dd d ∨ d ∈ R, fun d hd' g hg => ?_, fun a ha hl => ?_⟩
    · rcases hd' with h | h
      · obtain ⟨d', h1, h2⟩ := c d h g hg
        exact ⟨d', h1, .inl h2⟩
      · obtain ⟨p, hp, rfl⟩ := List.mem_map.mp (hc d h g hg)
        cases e : lk B p.1 with
        | none => exact absurd e (hw.pr p hp)
        | some b =>
          refine ⟨b, rfl, .inr ?_⟩
          rw [hw.eq]
          exact List.mem_append_right _ (List.mem_map.mpr ⟨p, hp, by rw [e]; rfl⟩)
    · by_cases e : a = s
      · right; subst e; rw [hw.eq]; simp
      · exact .inl (hd a (by omega) hl)
  | some g =>
    obtain ⟨cb', a, i, rfl, hw, ha, hg, hk, hb⟩ := he
    obtain ⟨A', B', e1, P', h1, h2, h3, c'⟩ := pair_ok (G := G) hn hN wl P (hw.bk ha hg hk) c (un s (Nat.le_refl _)) hb
    refine ⟨_, _, e1, A', B', _, _, rfl, P', fun b hb' => ?_, Dd, c', fun b hb' hl => ?_⟩
    · cases e : lk A' b with
      | none => rfl
      | some z =>
        rcases h3 b (by rw [e]; simp) with h | h
        · omega
        · exact absurd (un b (by omega)) h
    · by_cases e : b = s
      · subst e; exact absurd hl h1
      · refine hd b (by omega) ?_
        cases z : lk A b with
        | none => rfl
        | some z' => exact absurd hl (h2 b (by rw [z]; simp))
theorem compL_on {α : Type} {tg : PV → Rho → Option Rho} {tst : Fn Bool} {el : Fn PV} {ρb : Rho} (src : α → PV) (t : α → Bool) (f : α → PV) : ∀ (l : List α),
    (∀ x ∈ l, ∃ ρ1, tg (src x) ρb = some ρ1 ∧ tst ρ1 = some (.ok (t x)) ∧ (t x = true → el ρ1 = some (.ok (f x)))) → compL tg tst el ρb (l.map src) = some (.ok ((l.filter t).map f))
  | [], _ => rfl
  | x :: xs, h => by
    obtain ⟨ρ1, e1, e2, e3⟩ := h x List.mem_cons_self
    have ih := compL_on src t f xs fun y hy => h y (List.mem_cons_of_mem _ hy)
    rw [List.map_cons, compL, e1]
    simp only [e2, bnd]
    cases ht : t x with
    | true => simp only [if_true, e3 ht, ih, bnd, List.filter_cons, ht, List.map_cons]
    | false => simp only [Bool.false_eq_true, if_false, ih, List.filter_cons, ht]
noncomputable def revN (l B : List (Nat × Nat)) : List (Nat × Nat) := l.foldl (fun B p => ptN B p.2 p.1) B
theorem lk_revN {g a : Nat} : ∀ (l : List (Nat × Nat)) {B : List (Nat × Nat)}, (l.map (·.2)).Nodup → (lk (revN l B) g = some a ↔ (a, g) ∈ l ∨ (lk B g = some a ∧ g ∉ l.map (·.2)))
  | [], B, _ => by simp [revN]
  | p :: l, B, nd => by
    rw [List.map_cons, List.nodup_cons] at nd
    show lk (revN l (ptN B p.2 p.1)) g = some a ↔ _
    rw [lk_revN l nd.2, lk_pt]
    by_cases h : g = p.2
    · subst h
      rw [if_pos rfl]
      constructor
      · rintro (h | ⟨h, _⟩)
        · exact .inl (List.mem_cons_of_mem _ h)
        · cases h; exact .inl List.mem_cons_self
      · rintro (h | ⟨_, h⟩)
        · rcases List.mem_cons.mp h with e | h
          · right; rw [← e]; exact ⟨rfl, by rw [show (a, p.2).2 = p.2 from rfl]; exact nd.1⟩
          · exact absurd (List.mem_map.mpr ⟨_, h, rfl⟩) nd.1
        · simp at h
    · rw [if_neg h]
      constructor
      · rintro (q | ⟨q1, q2⟩)
        · exact .inl (List.mem_cons_of_mem _ q)
        · exact .inr ⟨q1, by simp only [List.map_cons, List.mem_cons, not_or]; exact ⟨h, q2⟩⟩
      · rintro (q | ⟨q1, q2⟩)
        · rcases List.mem_cons.mp q with e | q
          · rw [← e] at h; exact absurd rfl h
          · exact .inl q
        · simp only [List.map_cons, List.mem_cons, not_or] at q2
          exact .inr ⟨q1, q2.2⟩
theorem put_all {G : Gv} : ∀ (l : List (Nat × Nat)) {B : List (Nat × Nat)}, (B.map (·.1)).Nodup → B.length + l.length ≤ 900 → dPutAll (G.GD B) (l.map fun p => (G.gv p.2, PV.int (p.1 : Int))) = some (G.GD (revN l B))
  | [], _, _, _ => rfl
  | p :: l, B, nd, h => by
    have h1 := G.put B p.2 p.1 nd (small1000 (by simp at h; omega))
    rw [List.map_cons]
    unfold dPutAll
    rw [show PV.int (p.1 : Int) = iV p.1 from rfl, h1]
    exact put_all l (nd_pt nd _ _) (by have := pt_len p.2 p.1 B; simp at h; omega)
theorem as_pairs {G : Gv} : ∀ (l : List (Nat × Nat)), asPairs (l.map fun p => PV.tup [G.gv p.2, .int (p.1 : Int)]) = some (l.map fun p => (G.gv p.2, PV.int (p.1 : Int)))
  | [] => rfl
  | p :: l => by
    rw [List.map_cons]
    unfold asPairs
    rw [as_pairs l]; rfl
theorem Pm.sndNd {n : Nat} {W : Nat → List Nat} {A B : List (Nat × Nat)} (P : Pm n W A B) : (A.map (·.2)).Nodup := by
  have h := P.ndA
  rw [List.Nodup, List.pairwise_map] at h ⊢
  refine h.imp_of_mem fun {p q} hp hq hne e => hne ?_
  have h1 := (P.iff _ _).mp (lk_of P.ndA (show (p.1, p.2) ∈ A from hp))
  have h2 := (P.iff _ _).mp (lk_of P.ndA (show (q.1, q.2) ∈ A from hq))
  rw [e, h2] at h1
  exact (Option.some.inj h1).symm
theorem Pm.rev {n : Nat} {W : Nat → List Nat} {A B : List (Nat × Nat)} (P : Pm n W A B) (g a : Nat) : lk (revN A []) g = some a ↔ lk B g = some a := by
  rw [lk_revN A P.sndNd, ← P.iff]
  simp only [lk, reduceCtorEq, false_and, or_false]
  exact ⟨fun h => lk_of P.ndA h, fun h => lk_mem h⟩
noncomputable def freeN (n : Nat) (A : List (Nat × Nat)) : List Nat := (List.range n).filter fun a => (lk A a).isNone
theorem asInts_nats (l : List Nat) : asInts (natsP l) = some (l.map fun (n : Nat) => (n : Int)) := by
  rw [show natsP l = (l.map fun (n : Nat) => (n : Int)).map PV.int by simp [natsP]]
  exact asInts_map _
theorem items_kv (G : Gv) (l : List (Nat × Nat)) : itemsP (kvQ iK G.gv l) = l.map fun p => PV.tup [.int (p.1 : Int), G.gv p.2] := by
  unfold itemsP kvQ
  rw [List.map_map]
  rfl
theorem Wk.ndR {n : Nat} {W : Nat → List Nat} {A B B' : List (Nat × Nat)} {R : List Nat} {cb : List (Nat × Nat)} (P : Pm n W A B) (hB : ∀ g a, lk B' g = some a ↔ lk B g = some a) (hw : Wk n W B' (freeN n A) R cb) : R.Nodup := by
  rw [hw.eq, List.nodup_append]
  refine ⟨List.Nodup.sublist List.filter_sublist List.nodup_range, ?_, fun a ha b hb e => ?_⟩
  · have h := hw.nd
    rw [List.Nodup, List.pairwise_map] at h ⊢
    refine h.imp_of_mem fun {p q} hp hq hne e => hne ?_
    cases e1 : lk B' p.1 with
    | none => exact absurd e1 (hw.pr p hp)
    | some a =>
      cases e2 : lk B' q.1 with
      | none => exact absurd e2 (hw.pr q hq)
      | some b =>
        rw [e1, e2] at e
        have e : a = b := e
        subst e
        have h1 := (P.iff _ _).mpr ((hB _ _).mp e1)
        have h2 := (P.iff _ _).mpr ((hB _ _).mp e2)
        rw [h1] at h2
        exact Option.some.inj h2
  · subst e
    obtain ⟨p, hp, e1⟩ := List.mem_map.mp hb
    cases e2 : lk B' p.1 with
    | none => exact absurd e2 (hw.pr p hp)
    | some z =>
      rw [e2] at e1
      have e1 : z = a := e1
      subst e1
      have h1 := (P.iff _ _).mpr ((hB _ _).mp e2)
      have := (List.mem_filter.mp ha).2
      rw [h1] at this; cases this
theorem short_ok {G : Gv} {n N : Nat} {W : Nat → List Nat} {A B : List (Nat × Nat)} {Dd : Nat → Prop} (hn : n ≤ 60) (hN : N ≤ 120) (wl : ∀ i g, g ∈ W i → g < N) (P : Pm n W A B) (c : ClosedD W B Dd) (hd : ∀ a, a < n → lk A a = none → Dd a) :
    ∃ B' R cb, M_short_of_givers [wiP G n W, G.GA A] = some (.ok (.tup [.lst ((srt (R.map fun (n : Nat) => (n : Int))).map .int), .lst (G.srtd cb)])) ∧ (∀ g a, lk B' g = some a ↔ lk B g = some a) ∧ Wk n W B' (freeN n A) R cb ∧ ∀ a ∈ R, ∀ x ∈ W a, x ∈ cb.map (·.1) := by
  have big : ∀ {k : Nat}, k ≤ 900 → k < sizeLine := fun h => small1000 (by omega)
  have kl : ∀ {l : List (Nat × Nat)} {k : Nat}, k ∈ l.map (·.1) → ∃ v, lk l k = some v := fun {l k} h => by
    cases e : lk l k with
    | none => exact absurd h (lk_none.mp e)
    | some v => exact ⟨v, rfl⟩
  have lA : A.length ≤ n := len_keys P.ndA fun x hx => by obtain ⟨v, hv⟩ := kl hx; exact (P.ok hv).2
  obtain ⟨g, R, cb, ew, he⟩ := walked_ok (G := G) (B := revN A []) (S := freeN n A) hN (by have : (freeN n A).length ≤ (List.range n).length := List.length_filter_le _ _; rw [List.length_range] at this; omega) (fun a ha => by simpa [freeN] using (List.mem_filter.mp ha).1) wl fun g b h => (P.ok ((P.iff _ _).mpr ((P.rev g b).mp h))).2
  -- it stays among the dead
  have stay : ∀ {R cb}, Wk n W (revN A []) (freeN n A) R cb → (∀ a ∈ R, Dd a) := fun {R cb} hw => by
    intro a ha
    obtain ⟨i, hi⟩ := List.getElem?_of_mem ha
    induction i using Nat.strongRecOn generalizing a with
    | _ i ih =>
      rw [hw.eq] at hi
      by_cases hl : i < (freeN n A).length
      · rw [List.getElem?_append_left hl] at hi
        have := List.mem_filter.mp (List.mem_of_getElem? hi)
        exact hd a (by simpa using this.1) (by simpa using this.2)
      · rw [List.getElem?_append_right (by omega), List.getElem?_map] at hi
        cases q : cb[i - (freeN n A).length]? with
        | none => rw [q] at hi; cases hi
        | some p =>
          rw [q] at hi
          have hi : some ((lk (revN A []) p.1).getD 0) = some a := hi
          obtain ⟨j, h1, h2⟩ := hw.back _ p q
          have dj := ih j (by omega) p.2 (List.mem_of_getElem? h2) h2
          obtain ⟨d', e1, e2⟩ := c p.2 dj p.1 (hw.wish p (List.mem_of_getElem? q))
          rw [(P.rev _ _).mpr e1] at hi
          cases hi; exact e2
  have hg : g = none := by
    cases g with
    | none => rfl
    | some g =>
      obtain ⟨cb', a, i, rfl, hw, ha, hg, hk, hb⟩ := he
      obtain ⟨d', e1, _⟩ := c a (stay hw a (List.mem_of_getElem? ha)) g hg
      rw [(P.rev _ _).mpr e1] at hb; cases hb
  subst hg
  obtain ⟨hw, hc⟩ := he
  refine ⟨revN A [], R, cb, ?_, P.rev, hw, hc⟩
  refine fin_of ?_
  unfold B_short_of_givers
  rw [show startR [wiP G n W, G.GA A] 2 = [some (.sh (wiP G n W)), some (.sh (G.GA A)), none, none] from rfl]
  walk_at "rd"
  rw [show G.GA A = .dk (kvQ iK G.gv A) from rfl, tv_ditems, items_kv, compL_on (fun p : Nat × Nat => PV.tup [.int (p.1 : Int), G.gv p.2]) (fun _ => true) (fun p => PV.tup [G.gv p.2, .int (p.1 : Int)]) A fun p _ => ⟨_, rfl, rfl, fun _ => ok_of (by walk_at "rd"; exact Nat.le_of_lt (big (by omega)))⟩, tv_some, List.filter_eq_self.mpr (fun _ _ => rfl)]
  have pa : dPutAll gNil (A.map fun p => (G.gv p.2, PV.int (p.1 : Int))) = some (G.GD (revN A [])) := by
    have h := put_all (G := G) A (B := []) (by simp) (by simp; omega)
    rw [G.nil] at h; exact h
  refine ⟨rfl, by rw [List.length_map]; exact Nat.le_of_lt (big (by omega)), _, as_pairs A, _, pa, rfl, ?_⟩
  rw [show wiP G n W = .dk ((List.range n).map fun (i : Nat) => ((.inl (i : Int) : Key), PV.lst (G.GL (W i)))) from rfl, tv_dkeys, keys_wi, ← show wiP G n W = .dk ((List.range n).map fun (i : Nat) => ((.inl (i : Int) : Key), PV.lst (G.GL (W i)))) from rfl]
  refine ⟨by simp only [natsP, List.length_map, List.length_range]; exact Nat.le_of_lt (big (by omega)), ?_⟩
  rw [show natsP (List.range n) = (List.range n).map fun (i : Nat) => PV.int (i : Int) from rfl, compL_on (fun i : Nat => PV.int (i : Int)) (fun a => (lk A a).isNone) (fun i : Nat => PV.int (i : Int)) (List.range n) fun a _ => ⟨_, rfl, ok_of (by
    walk_at "rd"
    rw [show valP (kvQ iK G.gv A) (.inl (a : Int)) = (lk A a).map G.gv from valP_kvQ iK_inj a A]
    cases lk A a <;> rfl), fun _ => ok_of (by walk_at "rd")⟩, tv_some, show ((List.range n).filter fun a => (lk A a).isNone).map (fun (i : Nat) => PV.int (i : Int)) = natsP (freeN n A) from rfl, ew]
  walk_at "rd"
  have hR := hw.len
  have hcb := hw.key_lt wl
  have hf : (freeN n A).length ≤ (List.range n).length := List.length_filter_le _ _
  rw [List.length_range] at hf
  have nR : R.length ≤ n := by
    have := len_le_of_sub (l := R) (k := List.range n) (Wk.ndR P P.rev hw) fun x hx => List.mem_range.mpr (hw.lt x hx)
    simpa using this
  refine ⟨_, asInts_nats R, by rw [List.length_map]; omega, G.isD _, G.srt cb _ (by omega) ?_⟩
  exact ⟨Nat.le_of_lt (big (by omega)), rfl⟩
theorem apart_len {n : Nat} {G : Nat → Nat → Prop} {W : Nat → List Nat} {A B B' : List (Nat × Nat)} {R : List Nat} {cb : List (Nat × Nat)} (wG : ∀ a g, g ∈ W a ↔ g < a ∧ G g a) (wl : ∀ i g, g ∈ W i → g < n) (tr : ∀ {i j k}, G i j → G j k → G i k) (P : Pm n W A B) (hB : ∀ g a, lk B' g = some a ↔ lk B g = some a) (hw : Wk n W B' (freeN n A) R cb) (hc : ∀ a ∈ R, ∀ x ∈ W a, x ∈ cb.map (·.1)) :
    R.Nodup ∧ (∀ a ∈ R.filter (fun a => !(cb.map (·.1)).contains a), ∀ b ∈ R.filter (fun a => !(cb.map (·.1)).contains a), a < b → ¬ G a b) ∧ (R.filter fun a => !(cb.map (·.1)).contains a).length = (freeN n A).length := by
  have nd : R.Nodup := Wk.ndR P hB hw
  have ap : ∀ a ∈ R.filter (fun a => !(cb.map (·.1)).contains a), ∀ b ∈ R.filter (fun a => !(cb.map (·.1)).contains a), a < b → ¬ G a b := fun a ha b hb hab hg => by
    have h1 := (List.mem_filter.mp ha).2
    have h2 := hc b (List.mem_filter.mp hb).1 a ((wG b a).mpr ⟨hab, hg⟩)
    rw [List.contains_iff_mem.mpr h2] at h1
    cases h1
  refine ⟨nd, ap, Nat.le_antisymm ?_ ?_⟩
  · have M : Mt G (lk A) := ⟨fun {j i} h => (wG _ _).mp (P.ok h).1, fun {j k i} h1 h2 => by
      have a1 := (P.iff _ _).mp h1
      rw [(P.iff _ _).mp h2] at a1
      exact (Option.some.inj a1).symm⟩
    exact dual M tr (List.Nodup.sublist List.filter_sublist nd) (fun a ha => hw.lt a (List.mem_filter.mp ha).1) ap
  · have h1 := hw.len
    have h2 : (R.filter fun a => (cb.map (·.1)).contains a).length ≤ (cb.map (·.1)).length := len_le_of_sub (List.Nodup.sublist List.filter_sublist nd) fun x hx => List.contains_iff_mem.mp (List.mem_filter.mp hx).2
    have h3 : R.length = (R.filter fun a => (cb.map (·.1)).contains a).length + (R.filter fun a => !(cb.map (·.1)).contains a).length := by
      rw [← List.countP_eq_length_filter, ← List.countP_eq_length_filter, List.length_eq_countP_add_countP (fun a => (cb.map (·.1)).contains a)]
      congr 2
      funext a
      cases (cb.map (·.1)).contains a <;> rfl
    rw [List.length_map] at h2
    omega
theorem kInts_kvQ : ∀ (l : List (Nat × Nat)), kInts ((kvQ iK iV l).map (·.1)) = some ((l.map (·.1)).map fun (n : Nat) => (n : Int))
  | [] => rfl
  | p :: l => by
    show (kInts ((kvQ iK iV l).map (·.1))).map ((p.1 : Int) :: ·) = _
    rw [kInts_kvQ l]; rfl
noncomputable def gvI : Gv where
  gv := iV
  GD l := .dk (kvQ iK iV l)
  srtd l := (srt ((l.map (·.1)).map fun (n : Nat) => (n : Int))).map .int
  still _ := rfl
  nn _ := rfl
  nil := rfl
  isD _ := rfl
  sh l := List.all_eq_true.mpr fun p hp => by
    obtain ⟨n, _, rfl⟩ := List.mem_map.mp hp; rfl
  find l g := by
    show dFind (.dk (kvQ iK iV l)) (.int (g : Int)) = _
    rw [dF_int]; exact congrArg some (valP_kvQ iK_inj g l)
  put l g a nd h := by
    show dPut (.dk (kvQ iK iV l)) (.int (g : Int)) (iV a) = _
    rw [dP_int, if_pos (by rw [kvQ_len]; exact h)]
    exact congrArg (fun z => some (PV.dk z)) (putP_kvQ iK_inj g a nd)
  srt l Q h q := by
    show Tv (opSortD (.dk (kvQ iK iV l))) Q
    rw [tv_sortD]
    exact ⟨_, kInts_kvQ l, by simpa using h, q⟩
noncomputable abbrev kvP (l : List (Nat × Nat)) : List (Key × PV) := kvQ iK iV l
theorem valP_kv (k : Nat) (l : List (Nat × Nat)) : valP (kvP l) (.inl (k : Int)) = (lk l k).map fun v => .int (v : Int) := valP_kvQ iK_inj k l
theorem dF_kv {l : List (Nat × Nat)} {k : Nat} : dFind (.dk (kvP l)) (.int (k : Int)) = some ((lk l k).map fun v => .int (v : Int)) := by rw [dF_int, valP_kv]
theorem dP_kv {l : List (Nat × Nat)} {k v : Nat} (nd : (l.map (·.1)).Nodup) (h : l.length < sizeLine) : dPut (.dk (kvP l)) (.int (k : Int)) (.int (v : Int)) = some (.dk (kvP (ptN l k v))) := gvI.put l k v nd h
noncomputable def inN (st : List Nat) (i j : Nat) : Prop := st.getD j 0 &&& st.getD i 0 = st.getD j 0
theorem inN_tr {st : List Nat} {i j k : Nat} (h1 : inN st i j) (h2 : inN st j k) : inN st i k := by
  unfold inN at *
  rw [← h2, Nat.and_assoc, h1]
noncomputable def wishN (st : List Nat) (j : Nat) : List Nat := (List.range j).filter fun i => decide (st.getD j 0 &&& st.getD i 0 = st.getD j 0)
theorem wishN_mem {st : List Nat} (a g : Nat) : g ∈ wishN st a ↔ g < a ∧ inN st g a := by
  unfold wishN inN
  rw [List.mem_filter, List.mem_range, decide_eq_true_eq]
theorem andN_int (a b : Nat) : Builtin.bitAnd (a : Int) (b : Int) = ((a &&& b : Nat) : Int) := by
  rw [bitAnd_pp (Int.natCast_nonneg _) (Int.natCast_nonneg _), Int.toNat_natCast, Int.toNat_natCast]
theorem within_ok (x y : Nat) : M_within [.int (x : Int), .int (y : Int)] = some (.ok (.bl (decide (x &&& y = x)))) := by
  show fin (B_within (startR [.int (x : Int), .int (y : Int)] 0)) = _
  refine fin_of ?_
  unfold B_within
  walk_at "rd"
  rw [andN_int]
  exact decide_eq_decide.mpr ⟨fun h => by omega, fun h => by rw [h]⟩
theorem rngP_nats (n : Nat) : rngP 0 (n : Int).toNat = (List.range n).map fun (i : Nat) => PV.int (i : Int) := by
  unfold rngP
  rw [Int.toNat_natCast]
  refine List.map_congr_left fun i _ => ?_
  rw [Int.zero_add]
theorem getD_of {l : List Nat} {i : Nat} (h : i < l.length) : l[i]? = some (l.getD i 0) := by
  rw [List.getD_eq_getElem?_getD, List.getElem?_eq_getElem h]; rfl
theorem ahead_ok {st : List Nat} {j : Nat} (hl : st.length ≤ 60) (hj : j < st.length) : M_states_ahead [.lst (natsP st), .int (j : Int)] = some (.ok (.lst (natsP (wishN st j)))) := by
  show finO (B_states_ahead (startR [.lst (natsP st), .int (j : Int)] 0)) = _
  refine finO_of ?_
  unfold B_states_ahead
  walk_at "rd"
  have big : ∀ {k : Nat}, k ≤ 900 → k < sizeLine := fun h => small1000 (by omega)
  rw [rngP_nats, compL_on (fun i : Nat => PV.int (i : Int)) (fun i => decide (st.getD j 0 &&& st.getD i 0 = st.getD j 0)) (fun i : Nat => PV.int (i : Int)) (List.range j) fun i hi => ⟨_, rfl, ok_of (by
    have il : i < st.length := by have := List.mem_range.mp hi; omega
    walk_at "rd"
    refine ⟨_, atI_nats (getD_of hj), _, atI_nats (getD_of il), ?_⟩
    rw [within_ok]
    walk_at "rd"), fun _ => ok_of (by walk_at "rd")⟩, tv_some]
  exact ⟨by omega, by omega, by rw [List.length_map, List.length_range]; exact Nat.le_of_lt (big (by omega)), rfl⟩
theorem put_new {p : PV} {k : Key} : ∀ {l : List (Key × PV)}, valP l k = none → putP l k p = l ++ [(k, p)]
  | [], _ => rfl
  | (a, q) :: l, h => by
    unfold valP at h
    split at h
    · cases h
    · rename_i hp
      unfold putP
      rw [if_neg hp, put_new h]; rfl
theorem val_none {f : Nat → PV} {k : Nat} : ∀ {l : List Nat}, k ∉ l → valP (l.map fun (i : Nat) => ((.inl (i : Int) : Key), f i)) (.inl (k : Int)) = none
  | [], _ => rfl
  | i :: l, h => by
    rw [List.map_cons]
    unfold valP
    rw [if_neg (keyNe fun e => h (by rw [e]; exact List.mem_cons_self))]
    exact val_none fun z => h (List.mem_cons_of_mem _ z)
theorem put_wi (f : Nat → PV) : ∀ (l l0 : List Nat), (l0 ++ l).Nodup → l0.length + l.length ≤ 900 → dPutAll (.dk (l0.map fun (i : Nat) => ((.inl (i : Int) : Key), f i))) (l.map fun (i : Nat) => (PV.int (i : Int), f i)) = some (.dk ((l0 ++ l).map fun (i : Nat) => ((.inl (i : Int) : Key), f i)))
  | [], l0, _, _ => by rw [List.append_nil]; rfl
  | i :: l, l0, nd, hl => by
    simp only [List.length_cons] at hl
    rw [List.map_cons]
    unfold dPutAll
    have hi : i ∉ l0 := fun z => (List.nodup_append.mp nd).2.2 i z i List.mem_cons_self rfl
    rw [dP_int, if_pos (by rw [List.length_map]; exact small1000 (by omega)), put_new (val_none hi)]
    have := put_wi f l (l0 ++ [i]) (by rw [List.append_assoc]; exact nd) (by rw [List.length_append]; simp; omega)
    rw [List.map_append, List.append_assoc] at this
    exact this
theorem pairs_wi (f : Nat → PV) : ∀ (l : List Nat), asPairs (l.map fun (i : Nat) => PV.tup [.int (i : Int), f i]) = some (l.map fun (i : Nat) => (PV.int (i : Int), f i))
  | [] => rfl
  | i :: l => by
    rw [List.map_cons]
    unfold asPairs
    rw [pairs_wi f l]; rfl
noncomputable def ofN (st : List Nat) (i j : Nat) : Prop := j < st.length ∧ inN st i j
noncomputable def wcut (st : List Nat) (j : Nat) : List Nat := if j < st.length then wishN st j else []
theorem wcut_mem {st : List Nat} (a g : Nat) : g ∈ wcut st a ↔ g < a ∧ ofN st g a := by
  unfold wcut ofN
  split
  · rename_i h; rw [wishN_mem]; simp [h]
  · rename_i h; simp [h]
theorem inU_ints (x : Int) (ns : List Int) : inU (.int x) (.lst (ns.map .int)) = some (ns.contains x) := by
  show inF (.int x) (ns.map .int) = _
  rw [inF_map (g := PV.int) (eqF_int 31), List.contains_eq_mem]
theorem pow250 : 10 ^ 250 ≤ 2 ^ 9000 := by
  have h : (10 ^ 50) ^ 5 ≤ (2 ^ 167) ^ 5 := Nat.pow_le_pow_left (by decide) 5
  rw [← Nat.pow_mul, ← Nat.pow_mul] at h
  exact Nat.le_trans h (Nat.pow_le_pow_right (by decide) (by decide))
theorem big_ok {x : Int} (h0 : 0 ≤ x) (h : x < 10 ^ 250) : x.natAbs < 2 ^ 9000 := by
  refine Nat.lt_of_lt_of_le ?_ pow250
  have e : ((x.natAbs : Nat) : Int) = x := by omega
  have : ((x.natAbs : Nat) : Int) < ((10 ^ 250 : Nat) : Int) := by rw [e]; exact h
  exact Int.ofNat_lt.mp this
theorem mixB_ok (c k : Int) (k0 : 0 ≤ k) (k1 : k ≤ 1000) : ∃ n : Nat, M__law_mixed [.int c, .int k] = some (.ok (.int (n : Int))) ∧ n < 10 ^ 30 + 57 := by
  suffices h : ∃ p, M__law_mixed [.int c, .int k] = some (.ok p) ∧ ∃ n : Nat, p = .int (n : Int) ∧ n < 10 ^ 30 + 57 by
    obtain ⟨p, e, n, rfl, h⟩ := h
    exact ⟨n, e, h⟩
  show ∃ p, fin (B__law_mixed (startR [.int c, .int k] 0)) = _ ∧ _
  refine ex_fin ?_
  unfold B__law_mixed
  have kk : k * k ≤ 1000 * 1000 := Int.mul_le_mul k1 k1 k0 (by decide)
  have kk0 : 0 ≤ k * k := Int.mul_nonneg k0 k0
  walk_at "rd"
  have m0 : 0 ≤ c % 10 ^ 30 := Int.emod_nonneg _ (by decide)
  have m1 : c % 10 ^ 30 < 10 ^ 30 := Int.emod_lt_of_pos _ (by decide)
  generalize c % 10 ^ 30 = x at m0 m1
  have q0 : 0 ≤ (x + k * k + 1) * 314159265358979323846264338327 % (10 ^ 30 + 57) := Int.emod_nonneg _ (by decide)
  have q1 : (x + k * k + 1) * 314159265358979323846264338327 % (10 ^ 30 + 57) < 10 ^ 30 + 57 := Int.emod_lt_of_pos _ (by decide)
  generalize (x + k * k + 1) * 314159265358979323846264338327 % (10 ^ 30 + 57) = y at q0 q1
  have hb : (10 : Int) ^ 30 + 1000 * 1000 + 1 < 10 ^ 250 := by decide +kernel
  exact ⟨by decide, by decide, by decide, by decide, big_ok k0 (by omega), big_ok k0 (by omega), big_ok (by omega) (by omega), big_ok (by decide) (by decide +kernel), by decide, by decide, by decide, by decide, y.toNat, by omega, by omega⟩
theorem grown {t j : Nat} (h : t < 10 ^ (31 * j)) (hj : j ≤ 7) : (t : Int) < 10 ^ 250 := by
  have : t < 10 ^ 250 := Nat.lt_of_lt_of_le h (Nat.pow_le_pow_right (by decide) (by omega))
  have : ((t : Nat) : Int) < ((10 ^ 250 : Nat) : Int) := Int.ofNat_lt.mpr this
  exact this
structure Chs (n : Nat) (A : List (Nat × Nat)) (L : List (List Nat)) : Prop where
  ne : ∀ r ∈ L, r ≠ []
  link : ∀ r ∈ L, ∀ (t x y : Nat), r[t]? = some x → r[t + 1]? = some y → lk A y = some x
  inc : ∀ r ∈ L, r.Pairwise (· < ·)
  all : ∀ i, i < n ↔ i ∈ L.flatten
  nd : L.flatten.Nodup
  hd : (L.map fun r => r.headD 0).Pairwise (· < ·)
theorem Chs.nil (A : List (Nat × Nat)) : Chs 0 A [] := ⟨fun r h => by simp at h, fun r h => by simp at h, fun r h => by simp at h, fun i => by simp, by simp, by simp⟩
theorem headD_mem {r : List Nat} (h : r ≠ []) : r.headD 0 ∈ r := by
  cases r with
  | nil => exact absurd rfl h
  | cons a l => simp
theorem Chs.new {n : Nat} {A : List (Nat × Nat)} {L : List (List Nat)} (h : Chs n A L) : Chs (n + 1) A (L ++ [[n]]) := by
  have lt : ∀ i ∈ L.flatten, i < n := fun i hi => (h.all i).mpr hi
  refine ⟨fun r hr => ?_, fun r hr t x y e1 e2 => ?_, fun r hr => ?_, fun i => ?_, ?_, ?_⟩
  · rcases List.mem_append.mp hr with q | q
    · exact h.ne r q
    · simp at q; subst q; simp
  · rcases List.mem_append.mp hr with q | q
    · exact h.link r q t x y e1 e2
    · simp at q; subst q; simp at e2
  · rcases List.mem_append.mp hr with q | q
    · exact h.inc r q
    · simp at q; subst q; simp
  · rw [List.flatten_append, List.mem_append]
    simp only [List.flatten_cons, List.flatten_nil, List.append_nil, List.mem_singleton, ← h.all]
    omega
  · rw [List.flatten_append, List.nodup_append]
    refine ⟨h.nd, by simp, fun x hx y hy e => ?_⟩
    simp at hy
    have := lt x hx
    omega
  · rw [List.map_append, List.pairwise_append]
    refine ⟨h.hd, by simp, fun x hx y hy => ?_⟩
    obtain ⟨r, hr, rfl⟩ := List.mem_map.mp hx
    simp at hy
    subst hy
    exact lt _ (List.mem_flatten.mpr ⟨r, hr, headD_mem (h.ne r hr)⟩)
theorem flat_set (j : Nat) : ∀ {L : List (List Nat)} {k : Nat} {r : List Nat}, L[k]? = some r → (L.set k (r ++ [j])).flatten.Perm (L.flatten ++ [j])
  | [], k, r, e => by simp at e
  | a :: L, 0, r, e => by
    have e : a = r := by simpa using e
    subst e
    simp only [List.set_cons_zero, List.flatten_cons, List.append_assoc]
    exact List.Perm.append_left _ List.perm_append_comm
  | a :: L, k + 1, r, e => by
    simp only [List.set_cons_succ, List.flatten_cons, List.append_assoc]
    exact List.Perm.append_left _ (flat_set j (by simpa using e))
theorem Chs.more {n g k : Nat} {A : List (Nat × Nat)} {L : List (List Nat)} {r : List Nat} (h : Chs n A L) (inj : ∀ a b g, lk A a = some g → lk A b = some g → a = b) (ha : lk A n = some g) (hk : L[k]? = some r) (hg : g ∈ r) : Chs (n + 1) A (L.set k (r ++ [n])) := by
  have lt : ∀ i ∈ L.flatten, i < n := fun i hi => (h.all i).mpr hi
  have mr : r ∈ L := List.mem_of_getElem? hk
  have rl : ∀ i ∈ r, i < n := fun i hi => lt i (List.mem_flatten.mpr ⟨r, mr, hi⟩)
  have last : ∀ t x, t + 1 = r.length → r[t]? = some x → x = g := fun t x ht hx => by
    obtain ⟨s, hs⟩ := List.getElem?_of_mem hg
    by_cases e : s = t
    · subst e; rw [hx] at hs; exact Option.some.inj hs
    · have sl : s < r.length := (List.getElem?_eq_some_iff.mp hs).1
      have s1 : s + 1 < r.length := by omega
      have e2 : r[s + 1]? = some r[s + 1] := List.getElem?_eq_getElem s1
      have := inj _ _ _ (h.link r mr s g _ hs e2) ha
      have := rl _ (List.getElem_mem s1)
      omega
  have pm := flat_set n hk
  have rows : ∀ q ∈ L.set k (r ++ [n]), q ∈ L ∨ q = r ++ [n] := fun q hq => List.mem_or_eq_of_mem_set hq
  refine ⟨fun q hq => ?_, fun q hq t x y e1 e2 => ?_, fun q hq => ?_, fun i => ?_, ?_, ?_⟩
  · rcases rows q hq with z | z
    · exact h.ne q z
    · subst z; simp
  · rcases rows q hq with z | z
    · exact h.link q z t x y e1 e2
    · subst z
      by_cases h1 : t + 1 < r.length
      · rw [List.getElem?_append_left h1] at e2
        rw [List.getElem?_append_left (by omega)] at e1
        exact h.link r mr t x y e1 e2
      · rw [List.getElem?_append_right (by omega)] at e2
        have : t + 1 - r.length = 0 := by
          rcases Nat.eq_zero_or_pos (t + 1 - r.length) with q | q
          · exact q
          · rw [List.getElem?_eq_none (by simp; omega)] at e2; cases e2
        rw [this] at e2
        have e2 : n = y := by simpa using e2
        subst e2
        rw [List.getElem?_append_left (by omega)] at e1
        rw [last t x (by omega) e1]
        exact ha
  · rcases rows q hq with z | z
    · exact h.inc q z
    · subst z
      rw [List.pairwise_append]
      refine ⟨h.inc r mr, by simp, fun x hx y hy => ?_⟩
      simp at hy
      subst hy
      exact rl x hx
  · rw [pm.mem_iff, List.mem_append, ← h.all]
    simp
    omega
  · rw [pm.nodup_iff, List.nodup_append]
    refine ⟨h.nd, by simp, fun x hx y hy e => ?_⟩
    simp at hy
    have := lt x hx
    omega
  · have e : (L.set k (r ++ [n])).map (fun r => r.headD 0) = L.map fun r => r.headD 0 := by
      rw [List.map_set]
      apply List.ext_getElem?
      intro i
      rw [List.getElem?_set]
      split
      · rename_i e
        subst e
        rw [if_pos (by rw [List.length_map]; exact (List.getElem?_eq_some_iff.mp hk).1), List.getElem?_map, hk]
        have := h.ne r mr
        cases r with
        | nil => exact absurd rfl this
        | cons a l => rfl
      · rfl
    rw [e]; exact h.hd
noncomputable def rowP (r : List Nat) : PV := .lst (natsP r)
theorem chains_all {n : Nat} {A : List (Nat × Nat)} (hn : n ≤ 60) (lt : ∀ a g, lk A a = some g → g < a) (inj : ∀ a b g, lk A a = some g → lk A b = some g → a = b) :
    ∃ L : List (List Nat), M_chains_by [.int (n : Int), .dk (kvP A)] = some (.ok (.lst (L.map rowP))) ∧ L.length = (freeN n A).length ∧ Chs n A L := by
  have big : ∀ {k : Nat}, k ≤ 900 → k < sizeLine := fun h => small1000 (by omega)
  suffices h : ∃ p, M_chains_by [.int (n : Int), .dk (kvP A)] = some (.ok p) ∧ ∃ L : List (List Nat), p = .lst (L.map rowP) ∧ L.length = (freeN n A).length ∧ Chs n A L by
    obtain ⟨p, e, L, rfl, h⟩ := h; exact ⟨L, e, h⟩
  show ∃ p, finT (B_chains_by (startR [.int (n : Int), .dk (kvP A)] 3)) = some (.ok p) ∧ ∃ L : List (List Nat), p = .lst (L.map rowP) ∧ L.length = (freeN n A).length ∧ Chs n A L
  refine ex_finT ?_
  unfold B_chains_by
  rw [show startR [PV.int (n : Int), .dk (kvP A)] 3 = [some (.sh (.int (n : Int))), some (.sh (.dk (kvP A))), none, none, none] from rfl]
  walk_at "rd"
  refine ⟨rfl, by omega, by omega, ?_⟩
  refine to_loopN (I := fun j ρ => ∃ (L : List (List Nat)) (C : List (Nat × Nat)) (v4 : Option Sl), ρ = [some (.sh (.int (n : Int))), some (.sh (.dk (kvP A))), some (.dp (.lst (L.map rowP))), some (.ow (.dk (kvP C))), v4] ∧ L.length = (freeN j A).length ∧ Chs j A L ∧ (C.map (·.1)).Nodup ∧ C.length ≤ j ∧ ∀ i, i < j → ∃ k r, lk C i = some k ∧ L[k]? = some r ∧ i ∈ r) ⟨[], [], none, rfl, rfl, Chs.nil A, by simp, Nat.le_refl _, fun i h => absurd h (Nat.not_lt_zero _)⟩ ?_ ?_
  case refine_2 =>
    rintro ρ ⟨L, C, v4, rfl, h1, h2, h3, h4, h5⟩
    rw [rngP_length, Int.toNat_natCast] at h1 h2
    walk_at "rd"
    unfold B_chains_by_4
    walk_at "rd"
    exact ⟨L, rfl, h1, h2⟩
  rintro j y ρ ey ⟨L, C, v4, rfl, h1, h2, h3, h4, h5⟩
  obtain ⟨jn, hy⟩ := rng_get ey
  have hy : y = .int (j : Int) := by rw [hy]; congr 1; omega
  subst hy
  have jn : j < n := by omega
  have hL : L.length ≤ 60 := by
    have : (freeN j A).length ≤ (List.range j).length := List.length_filter_le _ _
    rw [List.length_range] at this; omega
  have rlen : ∀ r ∈ L, r.length ≤ j := fun r hr => by
    have nd : r.Nodup := (h2.inc r hr).imp fun h => Nat.ne_of_lt h
    have := len_le_of_sub (l := r) (k := List.range j) nd fun x hx => List.mem_range.mpr ((h2.all x).mpr (List.mem_flatten.mpr ⟨r, hr, hx⟩))
    simpa using this
  have fs : (freeN (j + 1) A).length = (freeN j A).length + if (lk A j).isNone then 1 else 0 := by
    unfold freeN
    rw [List.range_succ, List.filter_append, List.length_append]
    congr 1
    rw [List.filter_cons]
    cases lk A j <;> rfl
  unfold B_chains_by_3
  walk_at "rd"
  rw [valP_kv]
  cases ha : lk A j with
  | none =>
    rw [ha] at fs
    rw [Option.map_none, Option.isSome_none, if_neg (by decide)]
    unfold B_chains_by_2
    walk_at "rd"
    rw [List.length_map]
    refine ⟨rfl, _, dP_kv h3 (big (by omega)), to_appT (l := L.map rowP) rfl ?_⟩
    walk_at "rd"
    have pl := pt_len j L.length C
    refine ⟨Nat.le_of_lt (big (by omega)), rfl, by rw [List.length_map]; exact big (by omega), L ++ [[j]], ptN C j L.length, _, by rw [List.map_append]; rfl, by rw [List.length_append, h1, fs]; rfl, h2.new, nd_pt h3 _ _, by omega, fun i hi => ?_⟩
    by_cases e : i = j
    · exact ⟨L.length, by rw [lk_pt, if_pos e], [j], by simp, by simp [e]⟩
    · obtain ⟨k, r, k1, k2, k3⟩ := h5 i (by omega)
      exact ⟨k, by rw [lk_pt, if_neg e]; exact k1, r, by rw [List.getElem?_append_left (List.getElem?_eq_some_iff.mp k2).1]; exact k2, k3⟩
  | some g =>
    rw [ha] at fs
    rw [Option.map_some, Option.isSome_some, if_pos rfl]
    unfold B_chains_by_1
    walk_at "rd"
    obtain ⟨k, row, k2, hrow, kg⟩ := h5 g (lt j g ha)
    have k1 : k < L.length := (List.getElem?_eq_some_iff.mp hrow).1
    have rl := rlen row (List.mem_of_getElem? hrow)
    have nrl : (natsP row).length = row.length := by simp [natsP]
    have pl := pt_len j k C
    refine ⟨.int (g : Int), by rw [valP_kv, ha]; rfl, .int (k : Int), by rw [dF_kv, k2]; rfl, _, dP_kv h3 (big (by omega)), ?_⟩
    refine to_appD (l := L.map rowP) (n := (k : Int)) (j := k) (row := natsP row) (q := .int (j : Int)) rfl (ok_of ?_) ?_ (by rw [List.getElem?_map, hrow]; rfl) (ok_of ?_) rfl (by rw [nrl]; exact big (by omega)) ?_
    · walk_at "rd"
      exact ⟨_, by rw [valP_kv, lk_pt, if_pos rfl]; rfl, rfl⟩
    · rw [List.length_map]
      have := ixN_in (n := L.length) (i := (k : Int)) (by omega) (by omega)
      simpa using this
    · walk_at "rd"
    · walk_at "rd"
      refine ⟨L.set k (row ++ [j]), ptN C j k, some (.sh (.int (j : Int))), by rw [natsP_app, List.map_set]; rfl, by rw [List.length_set, h1, fs]; rfl, h2.more inj ha hrow kg, nd_pt h3 _ _, by omega, fun i hi => ?_⟩
      by_cases e : i = j
      · exact ⟨k, by rw [lk_pt, if_pos e], row ++ [j], by rw [List.getElem?_set, if_pos rfl, if_pos k1], by simp [e]⟩
      · obtain ⟨k', r', q1, q2, q3⟩ := h5 i (by omega)
        by_cases ek : k' = k
        · subst ek
          rw [hrow] at q2; cases q2
          exact ⟨k', by rw [lk_pt, if_neg e]; exact q1, row ++ [j], by rw [List.getElem?_set, if_pos rfl, if_pos k1], List.mem_append_left _ q3⟩
        · exact ⟨k', by rw [lk_pt, if_neg e]; exact q1, r', by rw [List.getElem?_set_ne (Ne.symm ek)]; exact q2, q3⟩
theorem few_whole {st : List Nat} (hl : st.length ≤ 60) : ∃ (L : List (List Nat)) (B : List Nat) (A : List (Nat × Nat)), M_fewest_blocks [.lst (natsP st)] = some (.ok (.tup [.lst (L.map rowP), .lst (natsP B)])) ∧ L.length = B.length ∧ Chs st.length A L ∧ (∀ a g, lk A a = some g → inN st g a) ∧ B.Pairwise (· < ·) ∧ (∀ b ∈ B, b < st.length) ∧ ∀ a ∈ B, ∀ b ∈ B, a < b → ¬ inN st a b := by
  have big : ∀ {k : Nat}, k ≤ 900 → k < sizeLine := fun h => small1000 (by omega)
  have wl : ∀ i g, g ∈ wcut st i → g < st.length := fun i g h => by
    have := (wcut_mem i g).mp h
    have := this.2.1; omega
  have tr : ∀ {i j k}, ofN st i j → ofN st j k → ofN st i k := fun h1 h2 => ⟨h2.1, inN_tr h1.2 h2.2⟩
  obtain ⟨A, B, em, P, Dd, c, hd⟩ := most_ok (G := gvI) hl (by omega) wl
  obtain ⟨B', R, cb, es, hB, hw, hc⟩ := short_ok (G := gvI) hl (by omega) wl P c hd
  obtain ⟨nd, hap, hlen⟩ := apart_len wcut_mem wl tr P hB hw hc
  have inj : ∀ a b g, lk A a = some g → lk A b = some g → a = b := fun a b g h1 h2 => by
    have q := (P.iff _ _).mp h1
    rw [(P.iff _ _).mp h2] at q
    exact (Option.some.inj q).symm
  obtain ⟨L, ec, hL, ch⟩ := chains_all hl (fun a g h => ((wcut_mem _ _).mp (P.ok h).1).1) inj
  have ec : M_chains_by [.int (st.length : Int), gvI.GA A] = some (.ok (.lst (L.map rowP))) := ec
  have sm : ∀ x ∈ srt (R.map fun (n : Nat) => (n : Int)), ∃ n : Nat, n ∈ R ∧ x = (n : Int) := fun x hx => by
    obtain ⟨n, hn, rfl⟩ := List.mem_map.mp ((srt_perm _).mem_iff.mp hx)
    exact ⟨n, hn, rfl⟩
  have slt : (srt (R.map fun (n : Nat) => (n : Int))).Pairwise (· < ·) := by
    have h1 := srt_sorted (R.map fun (n : Nat) => (n : Int))
    have h2 : (srt (R.map fun (n : Nat) => (n : Int))).Nodup := by
      rw [(srt_perm _).nodup_iff, List.Nodup, List.pairwise_map]
      exact nd.imp fun h e => h (by omega)
    exact h1.imp₂ (fun h e => by omega) h2
  generalize hF : ((srt (R.map fun (n : Nat) => (n : Int))).filter fun x => !(srt ((cb.map (·.1)).map fun (n : Nat) => (n : Int))).contains x) = FL
  have fm : ∀ x ∈ FL, ∃ n : Nat, n ∈ R ∧ x = (n : Int) ∧ n ∉ cb.map (·.1) := fun x hx => by
    rw [← hF] at hx
    obtain ⟨h1, h2⟩ := List.mem_filter.mp hx
    obtain ⟨n, hn, rfl⟩ := sm x h1
    refine ⟨n, hn, rfl, fun z => ?_⟩
    have : (srt ((cb.map (·.1)).map fun (n : Nat) => (n : Int))).contains (n : Int) = true := List.contains_iff_mem.mpr ((srt_perm _).mem_iff.mpr (List.mem_map.mpr ⟨n, z, rfl⟩))
    rw [this] at h2
    cases h2
  have eB : FL.map PV.int = natsP (FL.map Int.toNat) := by
    unfold natsP
    rw [List.map_map]
    refine List.map_congr_left fun x hx => ?_
    obtain ⟨n, _, rfl, _⟩ := fm x hx
    rfl
  refine ⟨L, FL.map Int.toNat, A, ?_, ?_, ch, fun a g h => ((wcut_mem _ _).mp (P.ok h).1).2.2, ?_, fun b hb => ?_, fun a ha b hb hab z => ?_⟩
  · show finT (B_fewest_blocks (startR [.lst (natsP st)] 4)) = _
    refine finT_of ?_
    unfold B_fewest_blocks
    walk_at "rd"
    have nl : ((natsP st).length : Int) = (st.length : Int) := by simp [natsP]
    rw [nl, rngP_nats, compL_on (fun i : Nat => PV.int (i : Int)) (fun _ => true) (fun i : Nat => PV.tup [.int (i : Int), .lst (natsP (wcut st i))]) (List.range st.length) fun i hi => ⟨_, rfl, rfl, fun _ => ok_of (by
      have il : i < st.length := List.mem_range.mp hi
      walk_at "rd"
      rw [ahead_ok hl il]
      walk_at "rd"
      exact ⟨Nat.le_of_lt (big (by omega)), by unfold wcut; rw [if_pos il]⟩)⟩, tv_some, List.filter_eq_self.mpr (fun _ _ => rfl)]
    refine ⟨by omega, by omega, by rw [List.length_map, List.length_range]; exact Nat.le_of_lt (big (by omega)), _, pairs_wi (fun i => .lst (natsP (wcut st i))) _, _, put_wi (fun i => .lst (natsP (wcut st i))) _ [] (by simpa using List.nodup_range) (by simp; omega), ?_⟩
    rw [List.nil_append, show PV.dk ((List.range st.length).map fun (i : Nat) => ((.inl (i : Int) : Key), PV.lst (natsP (wcut st i)))) = wiP gvI st.length (wcut st) from rfl, em, tv_some, es, tv_some]
    walk_at "rd"
    have hR := hw.len
    have hcb := hw.key_lt wl
    have hf : (freeN st.length A).length ≤ (List.range st.length).length := List.length_filter_le _ _
    rw [List.length_range] at hf
    refine ⟨by rw [List.length_map, (srt_perm _).length_eq, List.length_map]; exact Nat.le_of_lt (big (by omega)), ?_⟩
    rw [compL_on PV.int (fun x => !(srt ((cb.map (·.1)).map fun (n : Nat) => (n : Int))).contains x) PV.int _ fun x _ => ⟨_, rfl, ok_of (by
      walk_at "rd"
      exact ⟨_, inU_ints _ _, rfl⟩), fun _ => ok_of (by walk_at "rd")⟩, tv_some, ec, tv_some, hF, eB]
    exact ⟨shallow_nats _, Nat.le_of_lt (big (by decide)), rfl⟩
  · rw [List.length_map, hL, ← hlen, ← hF]
    have e1 : ∀ x : Nat, (srt ((cb.map (·.1)).map fun (n : Nat) => (n : Int))).contains (x : Int) = (cb.map (·.1)).contains x := fun x => by
      rw [Bool.eq_iff_iff, List.contains_iff_mem, List.contains_iff_mem, (srt_perm _).mem_iff, List.mem_map]
      exact ⟨fun ⟨y, hy, e⟩ => by have : y = x := by omega
                                  subst this; exact hy, fun h => ⟨x, h, rfl⟩⟩
    rw [((srt_perm (R.map fun (n : Nat) => (n : Int))).filter _).length_eq, List.filter_map, List.length_map]
    exact (congrArg List.length (List.filter_congr fun x _ => by show (!(srt ((cb.map (·.1)).map fun (n : Nat) => (n : Int))).contains (x : Int)) = _; rw [e1])).symm
  · rw [List.pairwise_map]
    have : FL.Pairwise (· < ·) := by rw [← hF]; exact slt.sublist List.filter_sublist
    refine this.imp_of_mem fun {x y} hx hy h => ?_
    obtain ⟨n, _, rfl, _⟩ := fm x hx
    obtain ⟨m, _, rfl, _⟩ := fm y hy
    simpa using h
  · obtain ⟨x, hx, rfl⟩ := List.mem_map.mp hb
    obtain ⟨n, hn, rfl, _⟩ := fm x hx
    exact hw.lt n hn
  · obtain ⟨x, hx, rfl⟩ := List.mem_map.mp ha
    obtain ⟨y, hy, rfl⟩ := List.mem_map.mp hb
    obtain ⟨n, hn, rfl, q1⟩ := fm x hx
    obtain ⟨m, hm, rfl, q2⟩ := fm y hy
    have im : ∀ {n : Nat}, n ∈ R → n ∉ cb.map (·.1) → n ∈ R.filter fun a => !(cb.map (·.1)).contains a := fun {n} h1 h2 => List.mem_filter.mpr ⟨h1, by simpa using h2⟩
    exact hap n (im hn q1) m (im hm q2) hab ⟨hw.lt m hm, z⟩
theorem pw_ext {α : Type} {R : α → α → Prop} (as : ∀ a b, R a b → R b a → False) : ∀ {l m : List α}, l.Pairwise R → m.Pairwise R → (∀ x, x ∈ l ↔ x ∈ m) → l = m
  | [], [], _, _, _ => rfl
  | [], b :: m, _, _, h => absurd ((h b).mpr List.mem_cons_self) List.not_mem_nil
  | a :: l, [], _, _, h => absurd ((h a).mp List.mem_cons_self) List.not_mem_nil
  | a :: l, b :: m, hl, hm, h => by
    obtain ⟨l1, l2⟩ := List.pairwise_cons.mp hl
    obtain ⟨m1, m2⟩ := List.pairwise_cons.mp hm
    have e : a = b := by
      rcases List.mem_cons.mp ((h a).mp List.mem_cons_self) with q | q
      · exact q
      · rcases List.mem_cons.mp ((h b).mpr List.mem_cons_self) with q' | q'
        · exact q'.symm
        · exact (as _ _ (m1 a q) (l1 b q')).elim
    subst e
    rw [pw_ext as l2 m2 fun x => ?_]
    constructor
    · intro hx
      exact (List.mem_cons.mp ((h x).mp (List.mem_cons_of_mem _ hx))).resolve_left fun e => by subst e; exact as _ _ (l1 x hx) (l1 x hx)
    · intro hx
      exact (List.mem_cons.mp ((h x).mpr (List.mem_cons_of_mem _ hx))).resolve_left fun e => by subst e; exact as _ _ (m1 x hx) (m1 x hx)
theorem perm_of_sub {α : Type} : ∀ {l k : List α}, l.Nodup → (∀ x ∈ l, x ∈ k) → k.length ≤ l.length → l.Perm k
  | [], k, _, _, h => by
    cases k with
    | nil => exact .refl _
    | cons x k => simp at h
  | a :: l, k, nd, hs, h => by
    obtain ⟨s, t, rfl⟩ := List.append_of_mem (hs a List.mem_cons_self)
    obtain ⟨n1, n2⟩ := List.nodup_cons.mp nd
    refine ((perm_of_sub n2 (k := s ++ t) (fun x hx => ?_) (by simp at h ⊢; omega)).cons a).trans List.perm_middle.symm
    rcases List.mem_append.mp (hs x (List.mem_cons_of_mem _ hx)) with q | q
    · exact List.mem_append_left _ q
    · rcases List.mem_cons.mp q with e | q
      · subst e; exact absurd hx n1
      · exact List.mem_append_right _ q
noncomputable def fam (T : List Nat) (t : Nat) : List Nat := (List.range T.length).filter fun i => T.getD i 0 == t
theorem fam_mem {T : List Nat} {t i : Nat} : i ∈ fam T t ↔ i < T.length ∧ T.getD i 0 = t := by
  unfold fam
  rw [List.mem_filter, List.mem_range, beq_iff_eq]
theorem fam_inc (T : List Nat) (t : Nat) : (fam T t).Pairwise (· < ·) := List.pairwise_lt_range.sublist List.filter_sublist
structure Fam (T st : List Nat) : Prop where
  len : st.length = T.length
  sub : ∀ i j, i < j → j < T.length → T.getD i 0 = T.getD j 0 → inN st i j
  sep : ∀ i j, i < T.length → j < T.length → inN st i j → T.getD i 0 = T.getD j 0
noncomputable def vN (T r : List Nat) : Nat := T.getD (r.headD 0) 0
theorem Fam.main {T st : List Nat} {A : List (Nat × Nat)} {L : List (List Nat)} {B : List Nat} (F : Fam T st) (ch : Chs st.length A L) (w : ∀ a g, lk A a = some g → inN st g a) (len : L.length = B.length) (inc : B.Pairwise (· < ·)) (lt : ∀ b ∈ B, b < st.length) (ap : ∀ a ∈ B, ∀ b ∈ B, a < b → ¬ inN st a b) :
    (∀ r, r ∈ L ↔ ∃ t ∈ T, r = fam T t) ∧ (∀ t, t ∈ B.map (fun b => T.getD b 0) ↔ t ∈ T) ∧ (B.map fun b => T.getD b 0).Nodup := by
  have hlt : ∀ r ∈ L, ∀ x ∈ r, x < T.length := fun r hr x hx => F.len ▸ (ch.all x).mpr (List.mem_flatten.mpr ⟨r, hr, hx⟩)
  have one : ∀ r ∈ L, ∀ (t x : Nat), r[t]? = some x → T.getD x 0 = vN T r := fun r hr t => by
    induction t with
    | zero =>
      intro x hx
      cases r with
      | nil => cases hx
      | cons a r => cases hx; rfl
    | succ t ih =>
      intro y hy
      have hl := (List.getElem?_eq_some_iff.mp hy).1
      have hx : r[t]? = some r[t] := List.getElem?_eq_getElem (by omega)
      rw [← ih _ hx]
      have q := w _ _ (ch.link r hr t _ y hx hy)
      exact (F.sep _ _ (hlt r hr _ (List.getElem_mem _)) (hlt r hr _ (List.mem_of_getElem? hy)) q).symm
  have one : ∀ r ∈ L, ∀ x ∈ r, T.getD x 0 = vN T r := fun r hr x hx => by
    obtain ⟨t, ht⟩ := List.getElem?_of_mem hx
    exact one r hr t x ht
  have nd : (B.map fun b => T.getD b 0).Nodup := by
    rw [List.Nodup, List.pairwise_map]
    refine inc.imp_of_mem fun {a b} ha hb h e => ap a ha b hb h (F.sub a b h (F.len ▸ lt b hb) e)
  have val : ∀ {i : Nat}, i < T.length → T.getD i 0 ∈ T := fun {i} h => by
    rw [List.getD_eq_getElem?_getD, List.getElem?_eq_getElem h]; exact List.getElem_mem h
  have vm : ∀ r ∈ L, vN T r ∈ T := fun r hr => val (hlt r hr _ (headD_mem (ch.ne r hr)))
  have sur : ∀ {i : Nat}, i < T.length → ∃ r ∈ L, i ∈ r ∧ vN T r = T.getD i 0 := fun {i} h => by
    obtain ⟨r, hr, hi⟩ := List.mem_flatten.mp ((ch.all i).mp (F.len ▸ h))
    exact ⟨r, hr, hi, (one r hr i hi).symm⟩
  have idx : ∀ {t : Nat}, t ∈ T → ∃ i, i < T.length ∧ T.getD i 0 = t := fun {t} h => by
    obtain ⟨i, hi, rfl⟩ := List.getElem_of_mem h
    exact ⟨i, hi, by rw [List.getD_eq_getElem?_getD, List.getElem?_eq_getElem hi]; rfl⟩
  have pm : (B.map fun b => T.getD b 0).Perm (L.map (vN T)) := perm_of_sub nd (fun x hx => by
    obtain ⟨b, hb, rfl⟩ := List.mem_map.mp hx
    obtain ⟨r, hr, _, e⟩ := sur (F.len ▸ lt b hb)
    exact List.mem_map.mpr ⟨r, hr, e⟩) (by rw [List.length_map, List.length_map, len]; exact Nat.le_refl _)
  have nl : (L.map (vN T)).Nodup := pm.nodup nd
  have inj : ∀ r ∈ L, ∀ s ∈ L, vN T r = vN T s → r = s := fun r hr s hs e => by
    obtain ⟨i, hi, rfl⟩ := List.getElem_of_mem hr
    obtain ⟨j, hj, rfl⟩ := List.getElem_of_mem hs
    rw [List.Nodup, List.pairwise_map, List.pairwise_iff_getElem] at nl
    rcases Nat.lt_trichotomy i j with q | q | q
    · exact absurd e (nl i j hi hj q)
    · subst q; rfl
    · exact absurd e.symm (nl j i hj hi q)
  have row : ∀ r ∈ L, r = fam T (vN T r) := fun r hr => pw_ext (R := fun a b : Nat => a < b) (fun a b h1 h2 => by omega) (ch.inc r hr) (fam_inc _ _) fun x => by
    rw [fam_mem]
    refine ⟨fun hx => ⟨hlt r hr x hx, one r hr x hx⟩, fun ⟨h1, h2⟩ => ?_⟩
    obtain ⟨s, hs, hx, e⟩ := sur h1
    rw [inj r hr s hs (by rw [e, h2])]
    exact hx
  refine ⟨fun r => ⟨fun hr => ⟨_, vm r hr, row r hr⟩, fun ⟨t, ht, e⟩ => ?_⟩, fun t => ⟨fun h => ?_, fun h => ?_⟩, nd⟩
  · obtain ⟨i, hi, rfl⟩ := idx ht
    obtain ⟨s, hs, _, e2⟩ := sur hi
    rw [e, ← e2, ← row s hs]
    exact hs
  · obtain ⟨b, hb, rfl⟩ := List.mem_map.mp h
    exact val (F.len ▸ lt b hb)
  · obtain ⟨i, hi, rfl⟩ := idx h
    obtain ⟨s, hs, _, e2⟩ := sur hi
    rw [pm.mem_iff, ← e2]
    exact List.mem_map.mpr ⟨s, hs, rfl⟩
structure Due (T : List Nat) (k : Nat) (D : List (List Nat)) : Prop where
  mem : ∀ r, r ∈ D ↔ ∃ i, i < k ∧ r = fam T (T.getD i 0)
  inc : D.Pairwise fun r s => r.headD 0 < s.headD 0
  lt : ∀ r ∈ D, r.headD 0 < k
  len : D.length ≤ k
theorem Due.nil (T : List Nat) : Due T 0 [] := ⟨fun r => ⟨fun h => absurd h List.not_mem_nil, fun ⟨_, h, _⟩ => absurd h (Nat.not_lt_zero _)⟩, .nil, fun r h => absurd h List.not_mem_nil, Nat.le_refl _⟩
theorem Due.old {T : List Nat} {k : Nat} {D : List (List Nat)} (h : Due T k D) (hm : fam T (T.getD k 0) ∈ D) : Due T (k + 1) D :=
  ⟨fun r => (h.mem r).trans ⟨fun ⟨i, hi, e⟩ => ⟨i, by omega, e⟩, fun ⟨i, hi, e⟩ => by
    rcases Nat.lt_or_ge i k with q | q
    · exact ⟨i, q, e⟩
    · have : i = k := by omega
      subst this
      rw [e]
      exact (h.mem _).mp hm⟩, h.inc, fun r hr => Nat.lt_succ_of_lt (h.lt r hr), Nat.le_succ_of_le h.len⟩
theorem head_le {l : List Nat} (h : l.Pairwise (· < ·)) {x : Nat} (hx : x ∈ l) : l.headD 0 ≤ x := by
  cases l with
  | nil => cases hx
  | cons a l =>
    rcases List.mem_cons.mp hx with e | q
    · exact Nat.le_of_eq e.symm
    · exact Nat.le_of_lt ((List.pairwise_cons.mp h).1 x q)
theorem Due.new {T : List Nat} {k : Nat} {D : List (List Nat)} (h : Due T k D) (hk : k < T.length) (hm : fam T (T.getD k 0) ∉ D) : Due T (k + 1) (D ++ [fam T (T.getD k 0)]) := by
  have km : k ∈ fam T (T.getD k 0) := fam_mem.mpr ⟨hk, rfl⟩
  have hd : (fam T (T.getD k 0)).headD 0 = k := by
    have h1 := head_le (fam_inc T (T.getD k 0)) km
    rcases Nat.lt_or_ge ((fam T (T.getD k 0)).headD 0) k with q | q
    · have z := fam_mem.mp (headD_mem (List.ne_nil_of_mem km))
      exact absurd ((h.mem _).mpr ⟨_, q, by rw [z.2]⟩) hm
    · omega
  refine ⟨fun r => ?_, ?_, fun r hr => ?_, by rw [List.length_append]; exact Nat.succ_le_succ h.len⟩
  · rw [List.mem_append, List.mem_singleton, h.mem]
    constructor
    · rintro (⟨i, hi, e⟩ | e)
      · exact ⟨i, by omega, e⟩
      · exact ⟨k, by omega, e⟩
    · rintro ⟨i, hi, e⟩
      rcases Nat.lt_or_ge i k with q | q
      · exact .inl ⟨i, q, e⟩
      · have : i = k := by omega
        subst this
        exact .inr e
  · rw [List.pairwise_append]
    refine ⟨h.inc, List.pairwise_singleton _ _, fun r hr s hs => ?_⟩
    rw [List.mem_singleton] at hs
    subst hs
    rw [hd]
    exact h.lt r hr
  · rcases List.mem_append.mp hr with q | q
    · exact Nat.lt_succ_of_lt (h.lt r q)
    · rw [List.mem_singleton] at q
      subst q
      rw [hd]
      exact Nat.lt_succ_self _
theorem Due.same {T : List Nat} {D L : List (List Nat)} {A : List (Nat × Nat)} {n : Nat} (h : Due T T.length D) (ch : Chs n A L) (hm : ∀ r, r ∈ L ↔ ∃ t ∈ T, r = fam T t) : L = D := by
  have hd := ch.hd
  rw [List.pairwise_map] at hd
  refine pw_ext (R := fun r s : List Nat => r.headD 0 < s.headD 0) (fun a b h1 h2 => by omega) hd h.inc fun r => ?_
  rw [hm, h.mem]
  constructor
  · rintro ⟨t, ht, e⟩
    obtain ⟨i, hi, rfl⟩ := List.getElem_of_mem ht
    exact ⟨i, hi, by rw [e, List.getD_eq_getElem?_getD, List.getElem?_eq_getElem hi]; rfl⟩
  · rintro ⟨i, hi, e⟩
    refine ⟨_, ?_, e⟩
    rw [List.getD_eq_getElem?_getD, List.getElem?_eq_getElem hi]
    exact List.getElem_mem hi
structure Mk (T : List Nat) (i : Nat) (st : List Nat) (K : List (Nat × Nat)) : Prop where
  len : st.length = i
  each : ∀ j, j < i → ∃ x, 0 < x ∧ x < 2 ^ 72 ∧ st.getD j 0 = x * 2 ^ (72 * T.getD j 0)
  sub : ∀ a b, a < b → b < i → T.getD a 0 = T.getD b 0 → inN st a b
  val : ∀ t s, lk K t = some s → ∃ x, 0 < x ∧ x < 2 ^ 72 ∧ s = x * 2 ^ (72 * t) ∧ ∀ j, j < i → T.getD j 0 = t → s &&& st.getD j 0 = s
  has : ∀ j, j < i → lk K (T.getD j 0) ≠ none
  nd : (K.map (·.1)).Nodup
  kl : K.length ≤ i
theorem Mk.nil (T : List Nat) : Mk T 0 [] [] := ⟨rfl, fun j h => absurd h (Nat.not_lt_zero _), fun a b _ h => absurd h (Nat.not_lt_zero _), fun t s h => (nomatch h), fun j h => absurd h (Nat.not_lt_zero _), List.nodup_nil, Nat.le_refl _⟩
theorem getD_old {st : List Nat} {j s : Nat} (h : j < st.length) : (st ++ [s]).getD j 0 = st.getD j 0 := by
  rw [List.getD_eq_getElem?_getD, List.getD_eq_getElem?_getD, List.getElem?_append_left h]
theorem getD_new {st : List Nat} {s : Nat} : (st ++ [s]).getD st.length 0 = s := by
  rw [List.getD_eq_getElem?_getD, List.getElem?_append_right (Nat.le_refl _), Nat.sub_self]; rfl
theorem Mk.step {T : List Nat} {i : Nat} {st : List Nat} {K : List (Nat × Nat)} (h : Mk T i st K) {x : Nat} (x0 : 0 < x) (x1 : x < 2 ^ 72) (hs : ∀ j, j < i → T.getD j 0 = T.getD i 0 → (x * 2 ^ (72 * T.getD i 0)) &&& st.getD j 0 = x * 2 ^ (72 * T.getD i 0)) :
    Mk T (i + 1) (st ++ [x * 2 ^ (72 * T.getD i 0)]) (ptN K (T.getD i 0) (x * 2 ^ (72 * T.getD i 0))) := by
  have old : ∀ {j}, j < i → (st ++ [x * 2 ^ (72 * T.getD i 0)]).getD j 0 = st.getD j 0 := fun q => getD_old (h.len ▸ q)
  have new : (st ++ [x * 2 ^ (72 * T.getD i 0)]).getD i 0 = x * 2 ^ (72 * T.getD i 0) := by
    have := getD_new (st := st) (s := x * 2 ^ (72 * T.getD i 0))
    rw [h.len] at this
    exact this
  refine ⟨by rw [List.length_append, h.len]; rfl, fun j hj => ?_, fun a b hab hb e => ?_, fun t s hl => ?_, fun j hj => ?_, nd_pt h.nd _ _, by have := pt_len (T.getD i 0) (x * 2 ^ (72 * T.getD i 0)) K; have := h.kl; omega⟩
  · rcases Nat.lt_or_ge j i with q | q
    · rw [old q]; exact h.each j q
    · have : j = i := by omega
      subst this
      rw [new]
      exact ⟨x, x0, x1, rfl⟩
  · unfold inN
    rcases Nat.lt_or_ge b i with q | q
    · rw [old q, old (by omega)]; exact h.sub a b hab q e
    · have : b = i := by omega
      subst this
      rw [new, old hab]
      exact hs a hab e
  · rw [lk_pt] at hl
    split at hl
    · rename_i et
      cases hl
      subst et
      refine ⟨x, x0, x1, rfl, fun j hj e => ?_⟩
      rcases Nat.lt_or_ge j i with q | q
      · rw [old q]; exact hs j q e
      · have : j = i := by omega
        subst this
        rw [new, Nat.and_self]
    · rename_i et
      obtain ⟨y, y0, y1, y2, y3⟩ := h.val t s hl
      refine ⟨y, y0, y1, y2, fun j hj e => ?_⟩
      rcases Nat.lt_or_ge j i with q | q
      · rw [old q]; exact y3 j q e
      · have : j = i := by omega
        subst this
        exact absurd e.symm et
  · rw [lk_pt]
    split
    · exact fun z => by cases z
    · rename_i et
      rcases Nat.lt_or_ge j i with q | q
      · exact h.has j q
      · have : j = i := by omega
        subst this
        exact absurd rfl et
theorem Mk.fam {T st : List Nat} {K : List (Nat × Nat)} (h : Mk T T.length st K) : Fam T st := by
  refine ⟨h.len, h.sub, fun i j hi hj q => ?_⟩
  obtain ⟨x, x0, x1, ex⟩ := h.each i hi
  obtain ⟨y, y0, y1, ey⟩ := h.each j hj
  unfold inN at q
  obtain ⟨k, hk⟩ := Nat.exists_testBit_of_ne_zero (Nat.ne_of_gt y0)
  have k72 : k < 72 := by
    rcases Nat.lt_or_ge k 72 with z | z
    · exact z
    · rw [Nat.testBit_lt_two_pow (Nat.lt_of_lt_of_le y1 (Nat.pow_le_pow_right (by decide) z))] at hk; cases hk
  have b1 : (st.getD j 0).testBit (72 * T.getD j 0 + k) = true := by
    rw [ey, Nat.testBit_mul_two_pow, Nat.add_sub_cancel_left, hk, decide_eq_true (Nat.le_add_right _ _)]; rfl
  have b2 : (st.getD i 0).testBit (72 * T.getD j 0 + k) = true := by
    rw [← q, Nat.testBit_and, Bool.and_eq_true] at b1
    exact b1.2
  rw [ex, Nat.testBit_mul_two_pow, Bool.and_eq_true, decide_eq_true_eq] at b2
  obtain ⟨c1, c2⟩ := b2
  have c3 : 72 * T.getD j 0 + k - 72 * T.getD i 0 < 72 := by
    rcases Nat.lt_or_ge (72 * T.getD j 0 + k - 72 * T.getD i 0) 72 with z | z
    · exact z
    · rw [Nat.testBit_lt_two_pow (Nat.lt_of_lt_of_le x1 (Nat.pow_le_pow_right (by decide) z))] at c2; cases c2
  omega
theorem and_shift (x y c : Nat) (h : x &&& y = x) : (x * 2 ^ c) &&& (y * 2 ^ c) = x * 2 ^ c := by
  rw [← Nat.shiftLeft_eq, ← Nat.shiftLeft_eq, ← Nat.shiftLeft_and_distrib, h]
theorem and_tr {x y z : Nat} (h1 : x &&& y = x) (h2 : y &&& z = y) : x &&& z = x := by
  rw [← h1, Nat.and_assoc, h2]
theorem lturns_ok (ns : List Int) : ∃ T : List Nat, M__law_turns [.lst (ns.map .int)] = some (.ok (.lst (natsP T))) ∧ T.length ≤ 60 ∧ ∀ t ∈ T, t < 8 := by
  have big : ∀ {k : Nat}, k ≤ 900 → k < sizeLine := fun h => small1000 (by omega)
  suffices h : ∃ p, M__law_turns [.lst (ns.map .int)] = some (.ok p) ∧ ∃ T : List Nat, p = .lst (natsP T) ∧ T.length ≤ 60 ∧ ∀ t ∈ T, t < 8 by
    obtain ⟨p, e, n, rfl, h⟩ := h
    exact ⟨n, e, h⟩
  obtain ⟨c0, ec⟩ := cell_at_ok ns 0 (by decide)
  have h8 : 0 ≤ c0 % 8 ∧ c0 % 8 < 8 := ⟨Int.emod_nonneg _ (by decide), Int.emod_lt_of_pos _ (by decide)⟩
  show ∃ p, finO (B__law_turns (startR [.lst (ns.map .int)] 3)) = _ ∧ _
  refine ex_finO ?_
  unfold B__law_turns
  rw [show startR [PV.lst (ns.map .int)] 3 = [some (.sh (.lst (ns.map .int))), none, none, none] from rfl]
  walk_at "rd"
  rw [ec]
  walk_at "rd"
  rw [List.length_map]
  generalize hm : (if (62 : Int) < (ns.length : Int) then (62 : Int) else (ns.length : Int)) = m
  have m62 : m ≤ 62 ∧ m ≤ (ns.length : Int) ∧ 0 ≤ m := by rw [← hm]; split <;> omega
  refine ⟨by decide, by decide, by decide, by omega, by omega, ?_⟩
  refine to_loopN (fun i ρ => ∃ (T : List Nat) (v3 : Option Sl), ρ = [some (.sh (.lst (ns.map .int))), some (.sh (.int (1 + c0 % 8))), some (.ow (.lst (natsP T))), v3] ∧ T.length = i ∧ ∀ t ∈ T, t < 8) ⟨[], none, rfl, rfl, fun t h => absurd h List.not_mem_nil⟩ ?_ ?_
  · rintro i x ρ hx ⟨T, v3, rfl, hl, hb⟩
    obtain ⟨hi, rfl⟩ := rng_get hx
    have hi2 : 2 + i < ns.length := by omega
    have al : (natsP T).length = i := by rw [← hl]; simp [natsP]
    obtain ⟨z, ea⟩ : ∃ z : Int, atI (ns.map PV.int) (2 + (i : Int)) = some (.int z) := ⟨_, atI_ints' (by omega) (by omega)⟩
    obtain ⟨n, en, ln⟩ := mixB_ok z (2 + (i : Int)) (by omega) (by omega)
    unfold B__law_turns_1
    walk_at "rd"
    refine ⟨_, ea, ?_⟩
    rw [en]
    walk_at "rd"
    have k0 : 0 ≤ (n : Int) / 1000 % (1 + c0 % 8) := Int.emod_nonneg _ (by omega)
    have k1 : (n : Int) / 1000 % (1 + c0 % 8) < 1 + c0 % 8 := Int.emod_lt_of_pos _ (by omega)
    obtain ⟨t, et⟩ : ∃ t : Nat, (n : Int) / 1000 % (1 + c0 % 8) = (t : Int) := ⟨_, (Int.toNat_of_nonneg k0).symm⟩
    rw [et] at k1 ⊢
    rw [natsP_app]
    refine ⟨by decide, by decide, by omega, by rw [al]; exact big (by omega), T ++ [t], _, rfl, by rw [List.length_append, hl]; rfl, fun x hx => ?_⟩
    rcases List.mem_append.mp hx with q | q
    · exact hb x q
    · rw [List.mem_singleton.mp q]; omega
  · rintro ρ ⟨T, v3, rfl, hl, hb⟩
    rw [rngP_length] at hl
    unfold B__law_turns_2
    walk_at "rd"
    exact ⟨T, rfl, by omega, hb⟩
theorem lnext_ok {x n : Nat} (x0 : 0 < x) (x1 : x < 2 ^ 72) (hn : n < 10 ^ 30 + 57) : ∃ y : Nat, M__law_next [.int (x : Int), .int (n : Int)] = some (.ok (.int (y : Int))) ∧ 0 < y ∧ y < 2 ^ 72 ∧ y &&& x = y := by
  suffices h : ∃ p, M__law_next [.int (x : Int), .int (n : Int)] = some (.ok p) ∧ ∃ y : Nat, p = .int (y : Int) ∧ 0 < y ∧ y < 2 ^ 72 ∧ y &&& x = y by
    obtain ⟨p, e, y, rfl, h⟩ := h
    exact ⟨y, e, h⟩
  show ∃ p, fin (B__law_next (startR [.int (x : Int), .int (n : Int)] 1)) = _ ∧ _
  refine ex_fin ?_
  unfold B__law_next
  walk_at "rd"
  obtain ⟨m, em⟩ : ∃ m : Nat, ((n : Int) * (n : Int) + 1) * (10 ^ 22 + 9) = (m : Int) := ⟨_, (Int.toNat_of_nonneg (Int.mul_nonneg (Int.add_nonneg (Int.mul_nonneg (by omega) (by omega)) (by decide)) (by decide))).symm⟩
  have nb : (n : Int) < 10 ^ 250 := Int.lt_trans (show (n : Int) < 10 ^ 30 + 57 by omega) (by decide +kernel)
  have n2 : (n : Int) * (n : Int) + 1 < 10 ^ 250 := by
    have h1 : (n : Int) * (n : Int) ≤ (10 ^ 30 + 57) * (10 ^ 30 + 57) := Int.mul_le_mul (by omega) (by omega) (by omega) (by decide)
    have h2 : ((10 : Int) ^ 30 + 57) * (10 ^ 30 + 57) + 1 < 10 ^ 250 := by decide +kernel
    generalize (n : Int) * (n : Int) = y at h1 ⊢
    generalize ((10 : Int) ^ 30 + 57) * (10 ^ 30 + 57) = y2 at h1 h2
    generalize (10 : Int) ^ 250 = y3 at h2 ⊢
    omega
  rw [em, andN_int]
  refine ⟨big_ok (by omega) nb, big_ok (by omega) nb, by decide, by decide, by decide, big_ok (Int.add_nonneg (Int.mul_nonneg (by omega) (by omega)) (by decide)) n2, big_ok (by decide) (by decide +kernel), ite2 (fun h => ?_) (fun h => ?_)⟩
  · unfold B__law_next_1
    walk_at "rd"
    exact ⟨x, rfl, x0, x1, Nat.and_self _⟩
  · unfold B__law_next_2
    walk_at "rd"
    refine ⟨x &&& m, rfl, Nat.pos_of_ne_zero fun z => h (by rw [z]; rfl), Nat.lt_of_le_of_lt Nat.and_le_left x1, ?_⟩
    rw [Nat.and_comm x m, Nat.and_assoc, Nat.and_self]
theorem eqF_nat (n a b : Nat) : eqF n (.int (a : Int)) (.int (b : Int)) = some (decide (a = b)) := by
  rw [eqF_int]
  exact congrArg some (decide_eq_decide.mpr ⟨fun h => by omega, fun h => by rw [h]⟩)
theorem eqF_row (n : Nat) (r s : List Nat) : eqF (n + 1) (rowP r) (rowP s) = some (decide (r = s)) := eqF_lst (g := fun (k : Nat) => PV.int (k : Int)) (eqF_nat n) r s
theorem inU_rows (r : List Nat) (D : List (List Nat)) : inU (rowP r) (.lst (D.map rowP)) = some (decide (r ∈ D)) := inF_map (fun a b => eqF_row 30 a b) r D
theorem law_main (ns : List Int) (hn : ns.length ≤ 63) : M_law [.lst (ns.map .int)] = some (.ok (.bl true)) := by
  have big : ∀ {k : Nat}, k ≤ 900 → k < sizeLine := fun h => small1000 (by omega)
  have nl : ∀ l : List Nat, (natsP l).length = l.length := fun l => by simp [natsP]
  obtain ⟨T, eT, hT, hb⟩ := lturns_ok ns
  refine fin_of (x := B_law (startR [.lst (ns.map .int)] 10)) (hideQ fun QS hQ => ?_)
  unfold B_law
  rw [show startR [PV.lst (ns.map .int)] 10 = [some (.sh (.lst (ns.map .int))), none, none, none, none, none, none, none, none, none, none] from rfl]
  walk_at "rd"
  rw [eT]
  walk_at "rd"
  rw [nl]
  refine ⟨by omega, by omega, ?_⟩
  refine to_loopN (fun i ρ => ∃ (st : List Nat) (K : List (Nat × Nat)) (v4 v5 v6 : Option Sl), ρ = [some (.sh (.lst (ns.map .int))), some (.sh (.lst (natsP T))), some (.ow (.dk (kvP K))), some (.ow (.lst (natsP st))), v4, v5, v6, none, none, none, none] ∧ Mk T i st K) ⟨[], [], none, none, none, rfl, Mk.nil T⟩ ?_ ?_
  · rintro i x ρ hx ⟨st, K, v4, v5, v6, rfl, mk⟩
    obtain ⟨hi, rfl⟩ := rng_get hx
    have hi : i < T.length := by omega
    rw [show (0 : Int) + (i : Int) = (i : Int) by omega]
    have ht := hb _ (List.mem_of_getElem? (getD_of hi))
    have aT := atI_nats (getD_of hi)
    obtain ⟨z, ez⟩ := cell_at_ok ns (2 + (i : Int)) (by omega)
    obtain ⟨n, en, ln⟩ := mixB_ok z (200 + (i : Int)) (by omega) (by omega)
    have sh : ∀ y : Nat, (y : Int) * 2 ^ ((T.getD i 0 : Int) * 72).toNat = ((y * 2 ^ (72 * T.getD i 0) : Nat) : Int) := fun y => by
      rw [show ((T.getD i 0 : Int) * 72).toNat = 72 * T.getD i 0 by omega]
      simp
    have bound : ∀ {y : Nat}, y < 2 ^ 72 → ((y : Int)).natAbs < 2 ^ 9000 := fun {y} h => Nat.lt_of_lt_of_le (m := 2 ^ 72) (by rw [Int.natAbs_natCast]; exact h) (Nat.pow_le_pow_right (by decide) (by decide))
    refine hideN fun QS hQ => ?_
    unfold B_law_4
    walk_at "rd"
    rw [ez]
    walk_at "rd"
    rw [en]
    walk_at "rd"
    refine ⟨_, aT, _, dF_kv, ?_⟩
    cases hk : lk K (T.getD i 0) with
    | none =>
      rw [Option.map_none, if_pos (show (none : Option PV).isSome = false from rfl)]
      unfold B_law_1
      walk_at "rd"
      refine ⟨by decide, by decide, by decide, _, aT, ?_⟩
      walk_at "rd"
      rw [show (1 : Int) * 2 ^ 72 - 1 = ((2 ^ 72 - 1 : Nat) : Int) by decide, sh (2 ^ 72 - 1)]
      refine ⟨.inl ⟨by omega, by omega⟩, by omega, by omega, bound (by decide), _, aT, _, dP_kv mk.nd (big (by have := mk.kl; omega)), ?_⟩
      unfold B_law_3
      walk_at "rd"
      refine ⟨_, aT, _, by rw [dF_kv, lk_pt, if_pos rfl]; rfl, by rw [nl, mk.len]; exact big (by omega), hQ _ ⟨st ++ [(2 ^ 72 - 1) * 2 ^ (72 * T.getD i 0)], _, _, _, _, by rw [natsP_app], mk.step (by decide) (by decide) fun j hj e => ?_⟩⟩
      exact absurd (by rw [e]; exact hk) (mk.has j hj)
    | some s =>
      rw [Option.map_some, if_neg (show ¬ (some (PV.int (s : Int))).isSome = false from fun z => by cases z)]
      unfold B_law_2
      obtain ⟨x, x0, x1, ex, xs⟩ := mk.val _ _ hk
      walk_at "rd"
      refine ⟨_, aT, _, by rw [dF_kv, hk]; rfl, _, aT, ?_⟩
      walk_at "rd"
      have e1 : (s : Int) / 2 ^ ((T.getD i 0 : Int) * 72).toNat = (x : Int) := by
        rw [ex, show ((T.getD i 0 : Int) * 72).toNat = 72 * T.getD i 0 by omega]
        rw [show (2 : Int) ^ (72 * T.getD i 0) = ((2 ^ (72 * T.getD i 0) : Nat) : Int) by simp, ← Int.natCast_ediv, Nat.mul_div_cancel _ (Nat.pow_pos (by decide))]
      obtain ⟨y, ey, y0, y1, y2⟩ := lnext_ok x0 x1 ln
      rw [e1, ey]
      walk_at "rd"
      refine ⟨.inl ⟨by omega, by omega⟩, by omega, _, aT, ?_⟩
      walk_at "rd"
      rw [sh y]
      refine ⟨.inl ⟨by omega, by omega⟩, by omega, by omega, bound y1, _, aT, _, dP_kv mk.nd (big (by have := mk.kl; omega)), ?_⟩
      unfold B_law_3
      walk_at "rd"
      refine ⟨_, aT, _, by rw [dF_kv, lk_pt, if_pos rfl]; rfl, by rw [nl, mk.len]; exact big (by omega), hQ _ ⟨st ++ [y * 2 ^ (72 * T.getD i 0)], _, _, _, _, by rw [natsP_app], mk.step y0 y1 fun j hj e => ?_⟩⟩
      have q := and_shift y x (72 * T.getD i 0) y2
      rw [← ex] at q
      exact and_tr q (xs j hj e)
  · rintro ρ ⟨st, K, v4, v5, v6, rfl, mk⟩
    rw [rngP_length] at mk
    rw [Int.toNat_natCast] at mk
    unfold B_law_10
    walk_at "rd"
    refine to_loopN (fun i ρ => ∃ (D : List (List Nat)) (v8 v9 : Option Sl), ρ = [some (.sh (.lst (ns.map .int))), some (.sh (.lst (natsP T))), some (.ow (.dk (kvP K))), some (.ow (.lst (natsP st))), v4, v5, v6, some (.ow (.lst (D.map rowP))), v8, v9, none] ∧ Due T i D) ⟨[], none, none, rfl, Due.nil T⟩ ?_ ?_
    · rintro i x ρ hx ⟨D, v8, v9, rfl, du⟩
      obtain ⟨t, et, rfl⟩ := natsP_get hx
      have hi : i < T.length := (List.getElem?_eq_some_iff.mp et).1
      have tt : t = T.getD i 0 := by rw [List.getD_eq_getElem?_getD, et]; rfl
      subst tt
      refine hideN fun QS hQ => ?_
      unfold B_law_6
      walk_at "rd"
      rw [nl, rngP_nats, compL_on (fun j : Nat => PV.int (j : Int)) (fun j => T.getD j 0 == T.getD i 0) (fun j : Nat => PV.int (j : Int)) (List.range T.length) fun j hj => ⟨_, rfl, ok_of (by
        walk_at "rd"
        exact ⟨_, atI_nats (getD_of (List.mem_range.mp hj)), _, eqF_nat _ _ _, by rw [Bool.eq_iff_iff, beq_iff_eq, decide_eq_true_eq]⟩), fun _ => ok_of (by walk_at "rd")⟩, tv_some]
      refine ⟨by omega, by omega, by rw [List.length_map, List.length_range]; exact Nat.le_of_lt (big (by omega)), _, inU_rows (fam T (T.getD i 0)) D, ?_⟩
      by_cases hm : fam T (T.getD i 0) ∈ D
      · rw [decide_eq_true hm, if_neg (by decide)]
        exact hQ _ ⟨D, _, _, rfl, du.old hm⟩
      · rw [decide_eq_false hm, if_pos rfl]
        unfold B_law_5
        walk_at "rd"
        have dl := du.len
        exact ⟨by rw [List.length_map]; exact big (by omega), hQ _ ⟨D ++ [fam T (T.getD i 0)], _, _, by rw [List.map_append]; rfl, du.new hi hm⟩⟩
    · rintro ρ ⟨D, v8, v9, rfl, du⟩
      rw [nl] at du
      obtain ⟨L, B, A, ef, len, ch, w, inc, lt, ap⟩ := few_whole (st := st) (by rw [mk.len]; exact hT)
      obtain ⟨r1, r2, r3⟩ := mk.fam.main ch w len inc lt ap
      have eL := du.same ch r1
      subst eL
      unfold B_law_9
      rw [onNx_nx, to_seq, to_frz, show frzR 3 [some (Sl.sh (.lst (ns.map .int))), some (.sh (.lst (natsP T))), some (.ow (.dk (kvP K))), some (.ow (.lst (natsP st))), v4, v5, v6, some (.ow (.lst (L.map rowP))), v8, v9, none] = [some (Sl.sh (.lst (ns.map .int))), some (.sh (.lst (natsP T))), some (.ow (.dk (kvP K))), some (.sh (.lst (natsP st))), v4, v5, v6, some (.ow (.lst (L.map rowP))), v8, v9, none] from rfl]
      walk_at "rd"
      rw [ef]
      walk_at "rd"
      refine ⟨_, eqF_lst (n := 31) (eqF_row 30) L L, ?_⟩
      rw [decide_eq_true rfl, if_neg (by decide), if_neg (by rw [nl, List.length_map, len]; exact fun z => z rfl)]
      unfold B_law_8
      walk_at "rd"
      have bl : B.length ≤ 60 := by
        have := len_le_of_sub (l := B) (k := List.range st.length) (inc.imp fun h => Nat.ne_of_lt h) fun x hx => List.mem_range.mpr (lt x hx)
        rw [List.length_range, mk.len] at this; omega
      refine ⟨by rw [nl]; exact Nat.le_of_lt (big (by omega)), ?_⟩
      rw [show natsP B = B.map (fun b : Nat => PV.int (b : Int)) from rfl, compL_on (fun b : Nat => PV.int (b : Int)) (fun _ => true) (fun b : Nat => PV.int (T.getD b 0 : Nat)) B fun b hb => ⟨_, rfl, rfl, fun _ => ok_of (by
        walk_at "rd"
        exact ⟨_, atI_nats (getD_of (mk.len ▸ lt b hb)), rfl⟩)⟩, tv_some, List.filter_eq_self.mpr (fun _ _ => rfl), show (B.map fun b : Nat => PV.int (T.getD b 0 : Nat)) = natsP (B.map fun b => T.getD b 0) from by rw [natsP, List.map_map]; rfl]
      refine ⟨_, asInts_nats _, by rw [List.length_map, List.length_map]; omega, ?_⟩
      have es : opSortU (natsP T) = some (.ok (.lst ((srt (dd (T.map fun (n : Nat) => (n : Int)))).map .int))) := by
        unfold opSortU
        rw [asInts_nats]
        exact if_pos (by rw [List.length_map]; omega)
      have e2 : srt ((B.map fun b => T.getD b 0).map fun (n : Nat) => (n : Int)) = srt (dd (T.map fun (n : Nat) => (n : Int))) := by
        refine sorted_uniq (((srt_perm _).trans (perm_nodup ?_ (dd_nodup _) fun x => ?_)).trans (srt_perm _).symm) (srt_sorted _) (srt_sorted _)
        · rw [List.Nodup, List.pairwise_map]
          exact r3.imp fun h e => h (by omega)
        · rw [dd_mem, List.mem_map, List.mem_map]
          exact ⟨fun ⟨y, hy, e⟩ => ⟨y, (r2 y).mp hy, e⟩, fun ⟨y, hy, e⟩ => ⟨y, (r2 y).mpr hy, e⟩⟩
      rw [es, tv_some, e2]
      refine ⟨_, eqF_lst (n := 31) (eqF_int 31) _ _, rfl, hQ _ ?_⟩
      rw [decide_eq_true rfl]
      rfl
end MM

namespace MM
open PySem PySem.Spec PyProof.Rows L2 L2.MP
noncomputable def top (i : Nat) : Stmt := PySem.Challenge.pw_lostblock_k23_families_in_turn.main.body.getD i (.Pass ⟨0, 0, 0, 0⟩)
noncomputable def eD (P : Params) (x : Str) (t : Tok) (v : Value) : DictEntry := { hash := PyData.keyHash P x, key := .str x t, val := v }
noncomputable def fO (n : Str) (i : Nat) (pm : Value) (c : Nat) : Obj := { cls := .type "function", data := .func (PySem.W.fnOf n n (defArgs (top i)) (defBody (top i)) (defScope (top i)) .none .none .none pm none (.ref c) .none) }
noncomputable def cO (n : Str) (t1 t2 t3 : Tok) (l k : Int) (a : Nat) (m : Int) (b : Nat) (u v : Value) (c : Nat) (z : Int) (t4 : Tok) : Obj := { cls := .type "code", data := .fields #[.str n t1, .str n t2, .str "/claim/cut.py" t3, .int l 0, .int k 0, .int 0 0, .int 0 0, .int 3 0, .ref a, .bool true, .int m 0, .ref b, .none, u, v, .ref c, .int z 0, .int l 0, .str "/claim/cut.py" t4] }
noncomputable def KK : Params → PySem.W.Frag := fun P => (nat_lit 3, { cls := .type "dict", data := .dict #[eD P "__name__" 165 (.str "law_lostblock_k23_families_in_turn" 268), eD P "__doc__" 166 .none, eD P "__package__" 167 .none, eD P "__loader__" 168 (.builtin "__main__.__loader__#opaque"), eD P "__spec__" 169 .none, eD P "__annotations__" 170 (.ref 6), eD P "__builtins__" 171 (.ref 4), eD P "__file__" 173 (.str "/claim/cut.py" 172), eD P "__cached__" 174 .none, eD P "within" 196 (.ref 21), eD P "walked" 212 (.ref 28), eD P "pair_anew" 225 (.ref 35), eD P "most_pairs" 236 (.ref 42), eD P "short_of_givers" 242 (.ref 47), eD P "states_ahead" 250 (.ref 52), eD P "chains_by" 261 (.ref 59), eD P "fewest_blocks" 267 (.ref 64), eD P "_law_cell_at" 277 (.ref 71), eD P "_law_mixed" 285 (.ref 78), eD P "_law_turns" 295 (.ref 85), eD P "_law_next" 304 (.ref 92), eD P "law" 310 (.ref 97)] 22 }) :: (nat_lit 20, cO "within" 189 190 191 2 2 15 181 16 (.ref 17) (.ref 18) 19 194 195) :: (nat_lit 21, fO "within" 1 (.str "lostblock.boards" 187) 20) :: (nat_lit 27, cO "walked" 199 200 201 5 3 22 181 23 (.ref 24) (.ref 25) 26 210 211) :: (nat_lit 28, fO "walked" 3 (.str "lostblock.matching" 197) 27) :: (nat_lit 34, cO "pair_anew" 213 214 215 20 4 29 181 30 (.ref 31) (.ref 32) 33 223 224) :: (nat_lit 35, fO "pair_anew" 4 (.str "lostblock.matching" 197) 34) :: (nat_lit 41, cO "most_pairs" 226 227 228 28 1 36 181 37 (.ref 38) (.ref 39) 40 234 235) :: (nat_lit 42, fO "most_pairs" 5 (.str "lostblock.matching" 197) 41) :: (nat_lit 46, cO "short_of_givers" 237 238 239 35 2 43 181 44 .none .none 45 240 241) :: (nat_lit 47, fO "short_of_givers" 6 (.str "lostblock.matching" 197) 46) :: (nat_lit 51, cO "states_ahead" 245 246 247 40 2 48 181 49 .none .none 50 248 249) :: (nat_lit 52, fO "states_ahead" 8 (.str "lostblock.chains" 243) 51) :: (nat_lit 58, cO "chains_by" 251 252 253 42 2 53 181 54 (.ref 55) (.ref 56) 57 259 260) :: (nat_lit 59, fO "chains_by" 9 (.str "lostblock.chains" 243) 58) :: (nat_lit 63, cO "fewest_blocks" 262 263 264 53 1 60 181 61 .none .none 62 265 266) :: (nat_lit 64, fO "fewest_blocks" 10 (.str "lostblock.chains" 243) 63) :: (nat_lit 70, cO "_law_cell_at" 270 271 272 60 2 65 181 66 (.ref 67) (.ref 68) 69 275 276) :: (nat_lit 71, fO "_law_cell_at" 12 (.str "law_lostblock_k23_families_in_turn" 268) 70) :: (nat_lit 77, cO "_law_mixed" 278 279 280 64 2 72 181 73 (.ref 74) (.ref 75) 76 283 284) :: (nat_lit 78, fO "_law_mixed" 13 (.str "law_lostblock_k23_families_in_turn" 268) 77) :: (nat_lit 84, cO "_law_turns" 286 287 288 66 1 79 181 80 (.ref 81) (.ref 82) 83 293 294) :: (nat_lit 85, fO "_law_turns" 14 (.str "law_lostblock_k23_families_in_turn" 268) 84) :: (nat_lit 91, cO "_law_next" 296 297 298 72 2 86 181 87 (.ref 88) (.ref 89) 90 302 303) :: (nat_lit 92, fO "_law_next" 15 (.str "law_lostblock_k23_families_in_turn" 268) 91) :: (nat_lit 96, cO "law" 305 306 307 77 1 93 181 94 .none .none 95 308 309) :: (nat_lit 97, fO "law" 16 (.str "law_lostblock_k23_families_in_turn" 268) 96) :: []
structure Txt (mg : Str → Option Value) : Prop where
  tt : True
  b_dict : mg "dict" = none
  b_len : mg "len" = none
  b_list : mg "list" = none
  b_min : mg "min" = none
  b_range : mg "range" = none
  b_set : mg "set" = none
  b_sorted : mg "sorted" = none
section
seal PE PA PS PSs PG PGs PI PPs MJ MT MA MAL MO MS MG MGs MI
variable {P : Program} {w : World} {K : PySem.W.Frag} {mg : Str → Option Value} {base : Heap}
theorem sc_within : FnScope ["one", "other"] ["one", "other"] (defScope (top 1)) := ⟨rfl, rfl, rfl, by decide +kernel, rfl, by decide +kernel, by decide +kernel⟩
set_option maxHeartbeats 4000000 in
theorem ok_within (T : Txt mg) (D : DefAt K mg "within" (top 1) ["one", "other"]) : FnAt P w K mg base "within" 1 ["one", "other"] (spM K XR0 M_within) := by
  refine D.ok sc_within (fun vs H Q E h => len_spM h fun ps r e => match ps, e with | [_, _], _ => rfl) (fun f cdv A outer s H vs Q E hr h => ?_)
  refine ⟨_, (pss_one (ps_ret (pe_cmpR (op_eqM hr) (pe_op op_and (pv 0) (pv 1)) (pv 0) (nomark _)))), run_fn0 (b := B_within) (k := 2) (n := 0) rfl (fun ps r e => match ps, e with | [_, _], e => ⟨rfl, e⟩) h fun io H0 F0 hio => ?_⟩
  exact (ms_ret (mj_op aH.up r_eq (mj_low (mj_op aF.up r_and (mj_var 0) (mj_var 1))) (mj_lend 0)))
theorem sc_walked : FnScope ["wishes", "asker_of", "starts", "askers", "came_by", "place", "asker", "giver"] ["wishes", "asker_of", "starts"] (defScope (top 3)) := ⟨rfl, rfl, rfl, by decide +kernel, rfl, by decide +kernel, by decide +kernel⟩
set_option maxHeartbeats 4000000 in
theorem ok_walked (T : Txt mg) (D : DefAt K mg "walked" (top 3) ["wishes", "asker_of", "starts"]) : FnAt P w K mg base "walked" 1 ["wishes", "asker_of", "starts"] (spD K XR0 M_walked) := by
  refine D.ok sc_walked (fun vs H Q E h => len_spD h fun ps r e => match ps, e with | [_, _, _], _ => rfl) (fun f cdv A outer s H vs Q E hr h => ?_)
  refine ⟨_, (pss_cons (ps_set (i := 3) sc_walked.nd rfl (Or.inl rfl) (pe_callTy call_list_of rfl T.b_list (by decide +kernel) (pa_cons (pv 2) pa_nil)))
      (pss_cons (ps_set (i := 4) sc_walked.nd rfl (Or.inl rfl) pe_dnewK)
      (pss_cons (ps_set (i := 5) sc_walked.nd rfl (Or.inl rfl) pe_int)
      (pss_cons (ps_while PassesOwn.never (pt_cmpR op_ltU (pv 5) (pe_callB call_len rfl T.b_len (by decide +kernel) (pa_cons (pv 3) pa_nil)) (nomark _))
        (pss_cons (ps_set (i := 6) sc_walked.nd rfl (Or.inl rfl) (pe_ix ix_seq (pv 3) (pv 5) (fun _ _ => rfl)))
        (pss_cons (ps_for PassesOwn.never rfl (pi_seqU (pe_dgetM hr (pv 0) (pv 6) (fun _ _ => rfl))) (pg_name (i := 7) sc_walked.nd rfl (Or.inl rfl))
          (pss_cons (ps_if (pt_cmpR (op_din hr) (pv 7) (pv 4) (by with_unfolding_all rfl))
            (pss_one ps_continue)
            pss_nil)
          (pss_cons (ps_dput (hu_of hr) (pv 4) (pv 7) (pv 6) rfl)
          (pss_cons (ps_if (pt_cmpR (op_dnotin hr) (pv 7) (pv 1) (by with_unfolding_all rfl))
            (pss_one (ps_ret (pe_tup (pa_cons (pv 7) (pa_cons (pv 3) (pa_cons (pv 4) pa_nil))))))
            pss_nil)
          (pss_one (ps_expr (pe_bm PySem.F.plainAttrs_list PySem.F.slot_list_append PySem.F.type_list_append mt_append (pv 3) (pa_cons (pe_dgetM hr (pv 1) (pv 7) (fun _ _ => rfl)) pa_nil))))))))
        (pss_one (ps_set (i := 5) sc_walked.nd rfl (Or.inl rfl) (pe_op op_addU (pv 5) pe_int))))))
      (pss_one (ps_ret (pe_tup (pa_cons pe_non (pa_cons (pv 3) (pa_cons (pv 4) pa_nil)))))))))), run_fnT (b := B_walked) (k := 3) (n := 5) rfl (fun ps r e => match ps, e with | [_, _, _], e => ⟨rfl, e⟩) h fun io H0 F0 hio => ?_⟩
  exact (ms_seq (ms_setO (i := 3) trivial (mo_cb1 r_list (mj_viewN 2)))
      (ms_seq (ms_setO (i := 4) trivial mo_newK)
      (ms_seq (ms_asg mj_int (mg_name 5))
      (ms_seq (ms_while 200 (mt_test (mj_op aF.up r_lt (mj_var 5) (mj_cb1 r_len (mj_lend 3))))
        (ms_seq (ms_asg (mj_op aV.up r_ixV (mj_viewN 3) (mj_var 5)) (mg_name 6))
        (ms_seq (ms_for (mi_seqU (mj_dget (mj_viewDN 0) (mj_var 6))) (mg_name 7)
          (ms_seq (ms_if (mt_test (mj_op aF.up r_din (mj_var 7) (mj_viewDN 4)))
            ms_cont
            ms_next)
          (ms_seq (ms_dput (mj_var 6) (mj_var 7))
          (ms_seq (ms_if (mt_test (mj_op aF.up r_dnotin (mj_var 7) (mj_viewDN 1)))
            (ms_retT (mdo_cons (md_still (mj_var 7)) (mdo_own 3 hio (by decide) (mdo_own 4 hio (by decide) mdo_nil))))
            ms_next)
          (ms_app (mj_dget (mj_viewDN 1) (mj_var 7)))))))
        (ms_asg (mj_op aF.up r_add (mj_var 5) mj_int) (mg_name 5)))))
      (ms_retT (mdo_cons (md_still mj_non) (mdo_own 3 hio (by decide) (mdo_own 4 hio (by decide) mdo_nil))))))))
theorem sc_pair_anew : FnScope ["giver_of", "asker_of", "came_by", "free", "giver", "asker", "left"] ["giver_of", "asker_of", "came_by", "free"] (defScope (top 4)) := ⟨rfl, rfl, rfl, by decide +kernel, rfl, by decide +kernel, by decide +kernel⟩
set_option maxHeartbeats 4000000 in
theorem ok_pair_anew (T : Txt mg) (D : DefAt K mg "pair_anew" (top 4) ["giver_of", "asker_of", "came_by", "free"]) : FnAt P w K mg base "pair_anew" 1 ["giver_of", "asker_of", "came_by", "free"] (spIO2 K M_pair_anew) := by
  refine D.ok sc_pair_anew (fun vs H Q E h => len_spIO2 h fun ps r e => match ps, e with | [_, _, _, _], _ => rfl) (fun f cdv A outer s H vs Q E hr h => ?_)
  refine ⟨_, (pss_cons (ps_set (i := 4) sc_pair_anew.nd rfl (Or.inl rfl) (pv 3))
      (pss_one (ps_while PassesOwn.never (pt_cmpR op_notN (pv 4) pe_non (nomark _))
        (pss_cons (ps_set (i := 5) sc_pair_anew.nd rfl (Or.inl rfl) (pe_dgetM hr (pv 2) (pv 4) (fun _ _ => rfl)))
        (pss_cons (ps_set (i := 6) sc_pair_anew.nd rfl (Or.inl rfl) (pe_dget1M hr (pv 0) (pv 5) ⟨rfl, rfl, rfl, rfl⟩))
        (pss_cons (ps_dput (hu_of hr) (pv 0) (pv 5) (pv 4) rfl)
        (pss_cons (ps_dput (hu_of hr) (pv 1) (pv 4) (pv 5) rfl)
        (pss_one (ps_set (i := 4) sc_pair_anew.nd rfl (Or.inl rfl) (pv 6)))))))))), run_fnIO2 (b := B_pair_anew) (k := 4) (n := 3) rfl (fun ps r e => match ps, e with | [_, _, _, _], e => ⟨rfl, e⟩) h fun a c H0 F0 => ?_⟩
  exact (msk_seq (msk_asg (mj_var 3) (mgk_name 4 (by decide)))
      (msk_while 200 (mt_test (mj_op aH.up r_notN (mj_lend 4) mj_non))
        (msk_seq (msk_asg (mj_dget (mj_viewDN 2) (mj_var 4)) (mgk_name 5 (by decide)))
        (msk_seq (msk_asg (mj_dget1 (mj_viewDN 0) (mj_var 5)) (mgk_name 6 (by decide)))
        (msk_seq (msk_dput (mj_var 4) (mj_var 5))
        (msk_seq (msk_dput (mj_var 5) (mj_var 4))
        (msk_asg (mj_var 6) (mgk_name 4 (by decide)))))))))
theorem sc_most_pairs : FnScope ["wishes", "giver_of", "asker_of", "asker", "way"] ["wishes"] (defScope (top 5)) := ⟨rfl, rfl, rfl, by decide +kernel, rfl, by decide +kernel, by decide +kernel⟩
set_option maxHeartbeats 4000000 in
theorem ok_most_pairs (T : Txt mg) (D : DefAt K mg "most_pairs" (top 5) ["wishes"]) (G_walked : FnAt P w K mg base "walked" 1 ["wishes", "asker_of", "starts"] (spD K XR0 M_walked)) (G_pair_anew : FnAt P w K mg base "pair_anew" 1 ["giver_of", "asker_of", "came_by", "free"] (spIO2 K M_pair_anew)) : FnAt P w K mg base "most_pairs" 2 ["wishes"] (spO K XR0 M_most_pairs) := by
  refine D.ok sc_most_pairs (fun vs H Q E h => len_spO h fun ps r e => match ps, e with | [_], _ => rfl) (fun f cdv A outer s H vs Q E hr h => ?_)
  refine ⟨_, (pss_cons (ps_set (i := 1) sc_most_pairs.nd rfl (Or.inl rfl) pe_dnewK)
      (pss_cons (ps_set (i := 2) sc_most_pairs.nd rfl (Or.inl rfl) pe_dnewK)
      (pss_cons (ps_hold 0 (ps_for PassesOwn.never rfl (pi_dict (pv 0)) (pg_name (i := 3) sc_most_pairs.nd rfl (Or.inl rfl))
        (pss_cons (ps_set (i := 4) sc_most_pairs.nd rfl (Or.inl rfl) (pe_callF G_walked (hr.mono (by decide)) rfl (pa_cons (pv 0) (pa_cons (pv 2) (pa_cons (pe_lst (pa_cons (pv 3) pa_nil)) pa_nil)))))
        (pss_one (ps_expr (pe_callF G_pair_anew (hr.mono (by decide)) rfl (pa_cons (pv 1) (pa_cons (pv 2) (pa_cons (pe_ix ix_seq (pv 4) pe_int (fun _ _ => rfl)) (pa_cons (pe_ix ix_seq (pv 4) pe_int (fun _ _ => rfl)) pa_nil))))))))))
      (pss_one (ps_ret (pv 1)))))), run_fnO (b := B_most_pairs) (k := 1) (n := 4) rfl (fun ps r e => match ps, e with | [_], e => ⟨rfl, e⟩) h fun io H0 F0 hio => ?_⟩
  exact (ms_seq (ms_setO (i := 1) trivial mo_newK)
      (ms_seq (ms_setO (i := 2) trivial mo_newK)
      (ms_seq (ms_hold 0 (fun _ _ => msh_for (mih_dict 0) (mg_name 3)
        (ms_seq (ms_setD (i := 4) trivial (md_callT (mal_cons (mj_lend 0) (mal_cons (mj_lend 2) (mal_cons (mj_low (mj_own (mo_lst (ma_cons (mj_var 3) ma_nil)))) mal_nil)))))
        (ms_frzD 4 (ms_io2 (by decide) (ma_cons (mj_op aF.up r_ix (mj_var 4) mj_int) (ma_cons (mj_op aF.up r_ix (mj_var 4) mj_int) ma_nil)))))))
      (ms_retOw 1 hio))))
theorem sc_short_of_givers : FnScope ["wishes", "giver_of", "asker_of", "way"] ["wishes", "giver_of"] (defScope (top 6)) := ⟨rfl, rfl, rfl, by decide +kernel, rfl, by decide +kernel, by decide +kernel⟩
set_option maxHeartbeats 4000000 in
theorem ok_short_of_givers (T : Txt mg) (D : DefAt K mg "short_of_givers" (top 6) ["wishes", "giver_of"]) (G_walked : FnAt P w K mg base "walked" 1 ["wishes", "asker_of", "starts"] (spD K XR0 M_walked)) : FnAt P w K mg base "short_of_givers" 2 ["wishes", "giver_of"] (spM K XR0 M_short_of_givers) := by
  refine D.ok sc_short_of_givers (fun vs H Q E h => len_spM h fun ps r e => match ps, e with | [_, _], _ => rfl) (fun f cdv A outer s H vs Q E hr h => ?_)
  refine ⟨_, (pss_cons (ps_set (i := 2) sc_short_of_givers.nd rfl (Or.inl rfl) (pe_callTy (call_dictK hr rfl) rfl T.b_dict (by decide +kernel) (pa_cons (pe_hold 1 (pe_comp ["asker", "giver"] [none, none] rfl (pi_items (pv 1)) (fun _ _ _ _ _ => (pg_tupC (n := 2) rfl (pgs_cons (pg_nameL (i := 0) (by decide +kernel) rfl rfl) (pgs_cons (pg_nameL (i := 1) (by decide +kernel) rfl rfl) pgs_nil)))) (fun _ _ _ _ _ => pf_nil) (fun _ _ _ _ _ => (pe_tup (pa_cons (pvl 1) (pa_cons (pvl 0) pa_nil)))))) pa_nil)))
      (pss_cons (ps_set (i := 3) sc_short_of_givers.nd rfl (Or.inl rfl) (pe_callF G_walked (hr.mono (by decide)) rfl (pa_cons (pv 0) (pa_cons (pv 2) (pa_cons (pe_hold 0 (pe_comp ["asker", "giver_of"] [none, some 1] rfl (pi_dict (pv 0)) (fun _ _ _ _ _ => (pg_nameL (i := 0) (by decide +kernel) rfl rfl)) (fun _ _ _ _ _ => (pf_one (pt_cmpR (op_dnotinC hr) (pvl 0) (pvf 1) (by with_unfolding_all rfl)))) (fun _ _ _ _ _ => (pvl 0)))) pa_nil)))))
      (pss_one (ps_ret (pe_tup (pa_cons (pe_callB call_sorted rfl T.b_sorted (by decide +kernel) (pa_cons (pe_ix ix_seq (pv 3) pe_int (fun _ _ => rfl)) pa_nil)) (pa_cons (pe_callB (call_sortedD rfl) rfl T.b_sorted (by decide +kernel) (pa_cons (pe_ix ix_seq (pv 3) pe_int (fun _ _ => rfl)) pa_nil)) pa_nil))))))), run_fn0 (b := B_short_of_givers) (k := 2) (n := 2) rfl (fun ps r e => match ps, e with | [_, _], e => ⟨rfl, e⟩) h fun io H0 F0 hio => ?_⟩
  exact (ms_seq (ms_asg (mj_own (mo_cb1 (r_dictP fun _ _ _ => own_dk0) (mj_ownV (mo_hold 1 (fun _ _ => mo_compHold (mih_items 1) (mg_tup (mgs_cons (mg_name 0) (mgs_cons (mg_name 1) mgs_nil))) (wr_tup (wrs_cons (wr_name 0) (wrs_cons (wr_name 1) wrs_nil))) mt_yes (mj_tup (ma_cons (mj_var 1) (ma_cons (mj_var 0) ma_nil)))))))) (mg_name 2))
      (ms_seq (ms_setD (i := 3) trivial (md_call (ma_cons (mj_var 0) (ma_cons (mj_var 2) (ma_cons (mj_own (mo_hold 0 (fun _ _ => mo_compHold (mih_dict 0) (mg_name 0) (wr_name 0) (mt_test (mj_op aF.up r_dnotin (mj_var 0) (mj_viewDN 1))) (mj_var 0)))) ma_nil)))))
      (ms_frzD 3 (ms_ret (mj_tup (ma_cons (mj_own (mo_cb1 r_sort (mj_view (mj_op aF.up r_ix (mj_var 3) mj_int)))) (ma_cons (mj_own (mo_cb1 r_sortD (mj_viewD (mj_op aF.up r_ix (mj_var 3) mj_int)))) ma_nil)))))))
theorem sc_states_ahead : FnScope ["states", "number"] ["states", "number"] (defScope (top 8)) := ⟨rfl, rfl, rfl, by decide +kernel, rfl, by decide +kernel, by decide +kernel⟩
set_option maxHeartbeats 4000000 in
theorem ok_states_ahead (T : Txt mg) (D : DefAt K mg "states_ahead" (top 8) ["states", "number"]) (G_within : FnAt P w K mg base "within" 1 ["one", "other"] (spM K XR0 M_within)) : FnAt P w K mg base "states_ahead" 2 ["states", "number"] (spO K XR0 M_states_ahead) := by
  refine D.ok sc_states_ahead (fun vs H Q E h => len_spO h fun ps r e => match ps, e with | [_, _], _ => rfl) (fun f cdv A outer s H vs Q E hr h => ?_)
  refine ⟨_, (pss_one (ps_ret (pe_comp ["earlier", "states", "number"] [none, some 0, some 1] rfl (pi_range1 rfl T.b_range (pa_cons (pv 1) pa_nil)) (fun _ _ _ _ _ => (pg_nameL (i := 0) (by decide +kernel) rfl rfl)) (fun _ _ _ _ _ => (pf_one (pt_val (pe_callF G_within (hr.mono (by decide)) (glc rfl) (pa_cons (pe_ix ix_seqC (pvf 1) (pvf 2) (fun _ _ => rfl)) (pa_cons (pe_ix ix_seqC (pvf 1) (pvl 0) (fun _ _ => rfl)) pa_nil)))))) (fun _ _ _ _ _ => (pvl 0))))), run_fnO (b := B_states_ahead) (k := 2) (n := 0) rfl (fun ps r e => match ps, e with | [_, _], e => ⟨rfl, e⟩) h fun io H0 F0 hio => ?_⟩
  exact (ms_retO (mo_comp (mi_rng1 (ma_cons (mj_var 1) ma_nil)) (mg_name 0) (wr_name 0) (mt_val (mj_call (ma_cons (mj_op aF.up r_ix (mj_var 1) (mj_var 2)) (ma_cons (mj_op aF.up r_ix (mj_var 1) (mj_var 0)) ma_nil)))) (mj_var 0)))
theorem sc_chains_by : FnScope ["many", "ahead_of", "chains", "chain_of", "number"] ["many", "ahead_of"] (defScope (top 9)) := ⟨rfl, rfl, rfl, by decide +kernel, rfl, by decide +kernel, by decide +kernel⟩
set_option maxHeartbeats 4000000 in
theorem ok_chains_by (T : Txt mg) (D : DefAt K mg "chains_by" (top 9) ["many", "ahead_of"]) : FnAt P w K mg base "chains_by" 1 ["many", "ahead_of"] (spD K XR0 M_chains_by) := by
  refine D.ok sc_chains_by (fun vs H Q E h => len_spD h fun ps r e => match ps, e with | [_, _], _ => rfl) (fun f cdv A outer s H vs Q E hr h => ?_)
  refine ⟨_, (pss_cons (ps_set (i := 2) sc_chains_by.nd rfl (Or.inl rfl) (pe_lst pa_nil))
      (pss_cons (ps_set (i := 3) sc_chains_by.nd rfl (Or.inl rfl) pe_dnewK)
      (pss_cons (ps_for PassesOwn.never rfl (pi_range1 rfl T.b_range (pa_cons (pv 0) pa_nil)) (pg_name (i := 4) sc_chains_by.nd rfl (Or.inl rfl))
        (pss_one (ps_if (pt_cmpR (op_din hr) (pv 4) (pv 1) (by with_unfolding_all rfl))
          (pss_cons (ps_dput (hu_of hr) (pv 3) (pv 4) (pe_dgetM hr (pv 3) (pe_dgetM hr (pv 1) (pv 4) (fun _ _ => rfl)) (fun _ _ => rfl)) rfl)
          (pss_one (ps_expr (pe_bm PySem.F.plainAttrs_list PySem.F.slot_list_append PySem.F.type_list_append mt_append (pe_ix ix_seq (pv 2) (pe_dgetM hr (pv 3) (pv 4) (fun _ _ => rfl)) (fun _ _ => rfl)) (pa_cons (pv 4) pa_nil)))))
          (pss_cons (ps_dput (hu_of hr) (pv 3) (pv 4) (pe_callB call_len rfl T.b_len (by decide +kernel) (pa_cons (pv 2) pa_nil)) rfl)
          (pss_one (ps_expr (pe_bm PySem.F.plainAttrs_list PySem.F.slot_list_append PySem.F.type_list_append mt_append (pv 2) (pa_cons (pe_lst (pa_cons (pv 4) pa_nil)) pa_nil))))))))
      (pss_one (ps_ret (pv 2)))))), run_fnT (b := B_chains_by) (k := 2) (n := 3) rfl (fun ps r e => match ps, e with | [_, _], e => ⟨rfl, e⟩) h fun io H0 F0 hio => ?_⟩
  exact (ms_seq (ms_setD (i := 2) trivial (md_of (mo_lst ma_nil)))
      (ms_seq (ms_setO (i := 3) trivial mo_newK)
      (ms_seq (ms_for (mi_rng1 (ma_cons (mj_var 0) ma_nil)) (mg_name 4)
        (ms_if (mt_test (mj_op aF.up r_din (mj_var 4) (mj_viewDN 1)))
          (ms_seq (ms_dput (mj_dget (mj_viewDN 3) (mj_dget (mj_viewDN 1) (mj_var 4))) (mj_var 4))
          (ms_appD (mj_dget (mj_viewDN 3) (mj_var 4)) (mj_var 4)))
          (ms_seq (ms_dput (mj_fz (i := 2) (mj_cb1 r_len (mj_lend 2))) (mj_var 4))
          (ms_appT (md_of (mo_lst (ma_cons (mj_var 4) ma_nil)))))))
      (ms_retDp 2))))
theorem sc_fewest_blocks : FnScope ["states", "wishes", "ahead_of", "short", "apart"] ["states"] (defScope (top 10)) := ⟨rfl, rfl, rfl, by decide +kernel, rfl, by decide +kernel, by decide +kernel⟩
set_option maxHeartbeats 4000000 in
theorem ok_fewest_blocks (T : Txt mg) (D : DefAt K mg "fewest_blocks" (top 10) ["states"]) (G_states_ahead : FnAt P w K mg base "states_ahead" 2 ["states", "number"] (spO K XR0 M_states_ahead)) (G_most_pairs : FnAt P w K mg base "most_pairs" 2 ["wishes"] (spO K XR0 M_most_pairs)) (G_short_of_givers : FnAt P w K mg base "short_of_givers" 2 ["wishes", "giver_of"] (spM K XR0 M_short_of_givers)) (G_chains_by : FnAt P w K mg base "chains_by" 1 ["many", "ahead_of"] (spD K XR0 M_chains_by)) : FnAt P w K mg base "fewest_blocks" 3 ["states"] (spD K XR0 M_fewest_blocks) := by
  refine D.ok sc_fewest_blocks (fun vs H Q E h => len_spD h fun ps r e => match ps, e with | [_], _ => rfl) (fun f cdv A outer s H vs Q E hr h => ?_)
  refine ⟨_, (pss_cons (ps_set (i := 1) sc_fewest_blocks.nd rfl (Or.inl rfl) (pe_callTy (call_dictK hr rfl) rfl T.b_dict (by decide +kernel) (pa_cons (pe_comp ["number", "states"] [none, some 0] rfl (pi_range1 rfl T.b_range (pa_cons (pe_callB call_len rfl T.b_len (by decide +kernel) (pa_cons (pv 0) pa_nil)) pa_nil)) (fun _ _ _ _ _ => (pg_nameL (i := 0) (by decide +kernel) rfl rfl)) (fun _ _ _ _ _ => pf_nil) (fun _ _ _ _ _ => (pe_tup (pa_cons (pvl 0) (pa_cons (pe_callF G_states_ahead (hr.mono (by decide)) (glc rfl) (pa_cons (pvf 1) (pa_cons (pvl 0) pa_nil))) pa_nil))))) pa_nil)))
      (pss_cons (ps_set (i := 2) sc_fewest_blocks.nd rfl (Or.inl rfl) (pe_callF G_most_pairs (hr.mono (by decide)) rfl (pa_cons (pv 1) pa_nil)))
      (pss_cons (ps_set (i := 3) sc_fewest_blocks.nd rfl (Or.inr rfl) (pe_callF G_short_of_givers (hr.mono (by decide)) rfl (pa_cons (pv 1) (pa_cons (pv 2) pa_nil))))
      (pss_cons (ps_setC (i := 4) ["number", "short"] [none, some 3] rfl sc_fewest_blocks.nd rfl rfl (pi_seqU (pe_ix ix_seq (pv 3) pe_int (fun _ _ => rfl))) (fun _ _ _ _ _ => (pg_nameL (i := 0) (by decide +kernel) rfl rfl)) (fun _ _ _ _ _ => (pf_one (pt_cmpR (op_notinUC hr) (pvl 0) (pe_ix ix_seqC (pvf 1) pe_int (fun _ _ => rfl)) (by with_unfolding_all rfl)))) (fun _ _ _ _ _ => (pvl 0)))
      (pss_one (ps_ret (pe_tup (pa_cons (pe_callF G_chains_by (hr.mono (by decide)) rfl (pa_cons (pe_callB call_len rfl T.b_len (by decide +kernel) (pa_cons (pv 0) pa_nil)) (pa_cons (pv 2) pa_nil))) (pa_cons (pv 4) pa_nil))))))))), run_fnT (b := B_fewest_blocks) (k := 1) (n := 4) rfl (fun ps r e => match ps, e with | [_], e => ⟨rfl, e⟩) h fun io H0 F0 hio => ?_⟩
  exact (ms_seq (ms_asg (mj_own (mo_cb1 (r_dictP fun _ _ _ => own_dk0) (mj_ownV (mo_comp (mi_rng1 (ma_cons (mj_cb1 r_len (mj_lend 0)) ma_nil)) (mg_name 0) (wr_name 0) mt_yes (mj_tup (ma_cons (mj_var 0) (ma_cons (mj_own (mo_call (ma_cons (mj_var 1) (ma_cons (mj_var 0) ma_nil)))) ma_nil))))))) (mg_name 1))
      (ms_seq (ms_asg (mj_own (mo_call (ma_cons (mj_var 1) ma_nil))) (mg_name 2))
      (ms_seq (ms_asg (mj_call (ma_cons (mj_var 1) (ma_cons (mj_var 2) ma_nil))) (mg_name 3))
      (ms_seq (ms_setO (i := 4) trivial (mo_comp (mi_seqU (mj_op aF.up r_ix (mj_var 3) mj_int)) (mg_name 0) (wr_name 0) (mt_test (mj_op aH.up r_notin (mj_lend 0) (mj_low (mj_op aF.up r_ix (mj_var 1) mj_int)))) (mj_var 0)))
      (ms_retT (mdo_cons (md_call (ma_cons (mj_cb1 r_len (mj_lend 0)) (ma_cons (mj_var 2) ma_nil))) (mdo_own 4 hio (by decide) mdo_nil)))))))
theorem sc_L_cell_at : FnScope ["_law_script", "_law_k"] ["_law_script", "_law_k"] (defScope (top 12)) := ⟨rfl, rfl, rfl, by decide +kernel, rfl, by decide +kernel, by decide +kernel⟩
set_option maxHeartbeats 4000000 in
theorem ok_L_cell_at (T : Txt mg) (D : DefAt K mg "_law_cell_at" (top 12) ["_law_script", "_law_k"]) : FnAt P w K mg base "_law_cell_at" 1 ["_law_script", "_law_k"] (spM K XR0 M__law_cell_at) := by
  refine D.ok sc_L_cell_at (fun vs H Q E h => len_spM h fun ps r e => match ps, e with | [_, _], _ => rfl) (fun f cdv A outer s H vs Q E hr h => ?_)
  refine ⟨_, (pss_cons (ps_if (pt_cmpR op_ltU (pv 1) (pe_callB call_len rfl T.b_len (by decide +kernel) (pa_cons (pv 0) pa_nil)) (nomark _))
        (pss_one (ps_ret (pe_ix ix_seq (pv 0) (pv 1) (fun _ _ => rfl))))
        pss_nil)
      (pss_one (ps_ret pe_int))), run_fn0 (b := B__law_cell_at) (k := 2) (n := 0) rfl (fun ps r e => match ps, e with | [_, _], e => ⟨rfl, e⟩) h fun io H0 F0 hio => ?_⟩
  exact (ms_seq (ms_if (mt_test (mj_op aF.up r_lt (mj_var 1) (mj_cb1 r_len (mj_lend 0))))
        (ms_ret (mj_op aF.up r_ix (mj_var 0) (mj_var 1)))
        ms_next)
      (ms_ret mj_int))
theorem sc_L_mixed : FnScope ["_law_cell", "_law_k"] ["_law_cell", "_law_k"] (defScope (top 13)) := ⟨rfl, rfl, rfl, by decide +kernel, rfl, by decide +kernel, by decide +kernel⟩
set_option maxHeartbeats 4000000 in
theorem ok_L_mixed (T : Txt mg) (D : DefAt K mg "_law_mixed" (top 13) ["_law_cell", "_law_k"]) : FnAt P w K mg base "_law_mixed" 1 ["_law_cell", "_law_k"] (spM K XR0 M__law_mixed) := by
  refine D.ok sc_L_mixed (fun vs H Q E h => len_spM h fun ps r e => match ps, e with | [_, _], _ => rfl) (fun f cdv A outer s H vs Q E hr h => ?_)
  refine ⟨_, (pss_one (ps_ret (pe_op op_mod (pe_op op_mulL (pe_op op_addU (pe_op op_addU (pe_op op_mod (pv 0) (pe_op op_pow pe_int pe_int)) (pe_op op_mulL (pv 1) (pv 1))) pe_int) pe_int) (pe_op op_addU (pe_op op_pow pe_int pe_int) pe_int)))), run_fn0 (b := B__law_mixed) (k := 2) (n := 0) rfl (fun ps r e => match ps, e with | [_, _], e => ⟨rfl, e⟩) h fun io H0 F0 hio => ?_⟩
  exact (ms_ret (mj_op aF.up r_mod (mj_op aF.up r_mulL (mj_op aF.up r_add (mj_op aF.up r_add (mj_op aF.up r_mod (mj_var 0) (mj_op aF.up r_pow mj_int mj_int)) (mj_op aF.up r_mulL (mj_var 1) (mj_var 1))) mj_int) mj_int) (mj_op aF.up r_add (mj_op aF.up r_pow mj_int mj_int) mj_int)))
theorem sc_L_turns : FnScope ["_law_script", "_law_many", "_law_turns_here", "_law_k"] ["_law_script"] (defScope (top 14)) := ⟨rfl, rfl, rfl, by decide +kernel, rfl, by decide +kernel, by decide +kernel⟩
set_option maxHeartbeats 4000000 in
theorem ok_L_turns (T : Txt mg) (D : DefAt K mg "_law_turns" (top 14) ["_law_script"]) (G__law_cell_at : FnAt P w K mg base "_law_cell_at" 1 ["_law_script", "_law_k"] (spM K XR0 M__law_cell_at)) (G__law_mixed : FnAt P w K mg base "_law_mixed" 1 ["_law_cell", "_law_k"] (spM K XR0 M__law_mixed)) : FnAt P w K mg base "_law_turns" 2 ["_law_script"] (spO K XR0 M__law_turns) := by
  refine D.ok sc_L_turns (fun vs H Q E h => len_spO h fun ps r e => match ps, e with | [_], _ => rfl) (fun f cdv A outer s H vs Q E hr h => ?_)
  refine ⟨_, (pss_cons (ps_set (i := 1) sc_L_turns.nd rfl (Or.inl rfl) (pe_op op_addU pe_int (pe_op op_mod (pe_callF G__law_cell_at (hr.mono (by decide)) rfl (pa_cons (pv 0) (pa_cons pe_int pa_nil))) pe_int)))
      (pss_cons (ps_set (i := 2) sc_L_turns.nd rfl (Or.inl rfl) (pe_lst pa_nil))
      (pss_cons (ps_for PassesOwn.never rfl (pi_range2 rfl T.b_range (pa_cons pe_int (pa_cons (pe_callB (call_min2 rfl) rfl T.b_min (by decide +kernel) (pa_cons (pe_callB call_len rfl T.b_len (by decide +kernel) (pa_cons (pv 0) pa_nil)) (pa_cons pe_int pa_nil))) pa_nil))) (pg_name (i := 3) sc_L_turns.nd rfl (Or.inl rfl))
        (pss_one (ps_expr (pe_bm PySem.F.plainAttrs_list PySem.F.slot_list_append PySem.F.type_list_append mt_append (pv 2) (pa_cons (pe_op op_mod (pe_op op_fdiv (pe_callF G__law_mixed (hr.mono (by decide)) rfl (pa_cons (pe_ix ix_seq (pv 0) (pv 3) (fun _ _ => rfl)) (pa_cons (pv 3) pa_nil))) pe_int) (pv 1)) pa_nil)))))
      (pss_one (ps_ret (pv 2)))))), run_fnO (b := B__law_turns) (k := 1) (n := 3) rfl (fun ps r e => match ps, e with | [_], e => ⟨rfl, e⟩) h fun io H0 F0 hio => ?_⟩
  exact (ms_seq (ms_asg (mj_op aF.up r_add mj_int (mj_op aF.up r_mod (mj_call (ma_cons (mj_var 0) (ma_cons mj_int ma_nil))) mj_int)) (mg_name 1))
      (ms_seq (ms_setO (i := 2) trivial (mo_lst ma_nil))
      (ms_seq (ms_for (mi_rng2 (ma_cons mj_int (ma_cons (mj_cb2 aF.up r_min (mj_cb1 r_len (mj_lend 0)) mj_int) ma_nil))) (mg_name 3)
        (ms_app (mj_op aF.up r_mod (mj_op aF.up r_div (mj_call (ma_cons (mj_op aF.up r_ix (mj_var 0) (mj_var 3)) (ma_cons (mj_var 3) ma_nil))) mj_int) (mj_var 1))))
      (ms_retOw 2 hio))))
theorem sc_L_next : FnScope ["_law_one", "_law_number", "_law_kept"] ["_law_one", "_law_number"] (defScope (top 15)) := ⟨rfl, rfl, rfl, by decide +kernel, rfl, by decide +kernel, by decide +kernel⟩
set_option maxHeartbeats 4000000 in
theorem ok_L_next (T : Txt mg) (D : DefAt K mg "_law_next" (top 15) ["_law_one", "_law_number"]) : FnAt P w K mg base "_law_next" 1 ["_law_one", "_law_number"] (spM K XR0 M__law_next) := by
  refine D.ok sc_L_next (fun vs H Q E h => len_spM h fun ps r e => match ps, e with | [_, _], _ => rfl) (fun f cdv A outer s H vs Q E hr h => ?_)
  refine ⟨_, (pss_cons (ps_set (i := 2) sc_L_next.nd rfl (Or.inl rfl) (pe_op op_and (pv 0) (pe_op op_mulL (pe_op op_addU (pe_op op_mulL (pv 1) (pv 1)) pe_int) (pe_op op_addU (pe_op op_pow pe_int pe_int) pe_int))))
      (pss_cons (ps_if (pt_cmpR (op_eqM hr) (pv 2) pe_int (nomark _))
        (pss_one (ps_ret (pv 0)))
        pss_nil)
      (pss_one (ps_ret (pv 2))))), run_fn0 (b := B__law_next) (k := 2) (n := 1) rfl (fun ps r e => match ps, e with | [_, _], e => ⟨rfl, e⟩) h fun io H0 F0 hio => ?_⟩
  exact (ms_seq (ms_asg (mj_op aF.up r_and (mj_var 0) (mj_op aF.up r_mulL (mj_op aF.up r_add (mj_op aF.up r_mulL (mj_var 1) (mj_var 1)) mj_int) (mj_op aF.up r_add (mj_op aF.up r_pow mj_int mj_int) mj_int))) (mg_name 2))
      (ms_seq (ms_if (mt_test (mj_op aH.up r_eq (mj_lend 2) (mj_low mj_int)))
        (ms_ret (mj_var 0))
        ms_next)
      (ms_ret (mj_var 2))))
theorem sc_law : FnScope ["_law_script", "_law_turns_here", "_law_known", "_law_states", "_law_k", "_law_number", "_law_inner", "_law_due", "_law_turn", "_law_chain", "_law_found"] ["_law_script"] (defScope (top 16)) := ⟨rfl, rfl, rfl, by decide +kernel, rfl, by decide +kernel, by decide +kernel⟩
set_option maxHeartbeats 4000000 in
theorem ok_law (T : Txt mg) {f : Addr} {fd : FuncData} (F : Fun K "law" "law" (top 16) f fd) (G__law_turns : FnAt P w K mg base "_law_turns" 2 ["_law_script"] (spO K XR0 M__law_turns)) (G__law_mixed : FnAt P w K mg base "_law_mixed" 1 ["_law_cell", "_law_k"] (spM K XR0 M__law_mixed)) (G__law_cell_at : FnAt P w K mg base "_law_cell_at" 1 ["_law_script", "_law_k"] (spM K XR0 M__law_cell_at)) (G__law_next : FnAt P w K mg base "_law_next" 1 ["_law_one", "_law_number"] (spM K XR0 M__law_next)) (G_fewest_blocks : FnAt P w K mg base "fewest_blocks" 3 ["states"] (spD K XR0 M_fewest_blocks)) : FnOk P w K mg base CX0 4 f fd ["_law_script"] (spM K XR0 M_law) := by
  refine F.ok sc_law (fun vs H Q E h => len_spM h fun ps r e => match ps, e with | [_], _ => rfl) (fun cdv A outer s H vs Q E hr h => ?_)
  refine ⟨_, (pss_cons (ps_set (i := 1) sc_law.nd rfl (Or.inr rfl) (pe_callF G__law_turns (hr.mono (by decide)) rfl (pa_cons (pv 0) pa_nil)))
      (pss_cons (ps_set (i := 2) sc_law.nd rfl (Or.inl rfl) pe_dnewK)
      (pss_cons (ps_set (i := 3) sc_law.nd rfl (Or.inl rfl) (pe_lst pa_nil))
      (pss_cons (ps_for PassesOwn.never rfl (pi_range1 rfl T.b_range (pa_cons (pe_callB call_len rfl T.b_len (by decide +kernel) (pa_cons (pv 1) pa_nil)) pa_nil)) (pg_name (i := 4) sc_law.nd rfl (Or.inl rfl))
        (pss_cons (ps_set (i := 5) sc_law.nd rfl (Or.inl rfl) (pe_callF G__law_mixed (hr.mono (by decide)) rfl (pa_cons (pe_callF G__law_cell_at (hr.mono (by decide)) rfl (pa_cons (pv 0) (pa_cons (pe_op op_addU pe_int (pv 4)) pa_nil))) (pa_cons (pe_op op_addU pe_int (pv 4)) pa_nil))))
        (pss_cons (ps_if (pt_cmpR (op_dnotin hr) (pe_ix ix_seq (pv 1) (pv 4) (fun _ _ => rfl)) (pv 2) (by with_unfolding_all rfl))
          (pss_one (ps_dput (hu_of hr) (pv 2) (pe_ix ix_seq (pv 1) (pv 4) (fun _ _ => rfl)) (pe_op op_shlL (pe_op op_sub (pe_op op_shlL pe_int pe_int) pe_int) (pe_op op_mulU (pe_ix ix_seq (pv 1) (pv 4) (fun _ _ => rfl)) pe_int)) rfl))
          (pss_cons (ps_set (i := 6) sc_law.nd rfl (Or.inl rfl) (pe_op op_shr (pe_dgetM hr (pv 2) (pe_ix ix_seq (pv 1) (pv 4) (fun _ _ => rfl)) (fun _ _ => rfl)) (pe_op op_mulU (pe_ix ix_seq (pv 1) (pv 4) (fun _ _ => rfl)) pe_int)))
          (pss_one (ps_dput (hu_of hr) (pv 2) (pe_ix ix_seq (pv 1) (pv 4) (fun _ _ => rfl)) (pe_op op_shlL (pe_callF G__law_next (hr.mono (by decide)) rfl (pa_cons (pv 6) (pa_cons (pv 5) pa_nil))) (pe_op op_mulU (pe_ix ix_seq (pv 1) (pv 4) (fun _ _ => rfl)) pe_int)) rfl))))
        (pss_one (ps_expr (pe_bm PySem.F.plainAttrs_list PySem.F.slot_list_append PySem.F.type_list_append mt_append (pv 3) (pa_cons (pe_dgetM hr (pv 2) (pe_ix ix_seq (pv 1) (pv 4) (fun _ _ => rfl)) (fun _ _ => rfl)) pa_nil)))))))
      (pss_cons (ps_set (i := 7) sc_law.nd rfl (Or.inl rfl) (pe_lst pa_nil))
      (pss_cons (ps_for PassesOwn.never rfl (pi_seqU (pv 1)) (pg_name (i := 8) sc_law.nd rfl (Or.inr rfl))
        (pss_cons (ps_setC (i := 9) ["_law_k", "_law_turn", "_law_turns_here"] [none, some 8, some 1] rfl sc_law.nd rfl rfl (pi_range1 rfl T.b_range (pa_cons (pe_callB call_len rfl T.b_len (by decide +kernel) (pa_cons (pv 1) pa_nil)) pa_nil)) (fun _ _ _ _ _ => (pg_nameL (i := 0) (by decide +kernel) rfl rfl)) (fun _ _ _ _ _ => (pf_one (pt_cmpR (op_eqMC hr) (pe_ix ix_seqC (pvf 2) (pvl 0) (fun _ _ => rfl)) (pvf 1) (nomark _)))) (fun _ _ _ _ _ => (pvl 0)))
        (pss_one (ps_if (pt_cmpR (op_notinU hr) (pv 9) (pv 7) (by with_unfolding_all rfl))
          (pss_one (ps_expr (pe_bm PySem.F.plainAttrs_list PySem.F.slot_list_append PySem.F.type_list_append mt_append (pv 7) (pa_cons (pv 9) pa_nil))))
          pss_nil))))
      (pss_cons (ps_set (i := 10) sc_law.nd rfl (Or.inl rfl) (pe_callF G_fewest_blocks (hr.mono (by decide)) rfl (pa_cons (pv 3) pa_nil)))
      (pss_cons (ps_if (PW.pt (pw_or (pt_cmpR (op_neM hr) (pe_ix ix_seq (pv 10) pe_int (fun _ _ => rfl)) (pv 7) (nomark _)) (pw_or1 (pt_cmpR (op_neM hr) (pe_callB call_len rfl T.b_len (by decide +kernel) (pa_cons (pe_ix ix_seq (pv 10) pe_int (fun _ _ => rfl)) pa_nil)) (pe_callB call_len rfl T.b_len (by decide +kernel) (pa_cons (pv 7) pa_nil)) (nomark _)))))
        (pss_one (ps_ret pe_bl))
        pss_nil)
      (pss_one (ps_ret (pe_cmpR (op_eqM hr) (pe_callB call_sorted rfl T.b_sorted (by decide +kernel) (pa_cons (pe_comp ["_law_k", "_law_turns_here"] [none, some 1] rfl (pi_seqU (pe_ix ix_seq (pv 10) pe_int (fun _ _ => rfl))) (fun _ _ _ _ _ => (pg_nameL (i := 0) (by decide +kernel) rfl rfl)) (fun _ _ _ _ _ => pf_nil) (fun _ _ _ _ _ => (pe_ix ix_seqC (pvf 1) (pvl 0) (fun _ _ => rfl)))) pa_nil)) (pe_callB (call_sortedX rfl) rfl T.b_sorted (by decide +kernel) (pa_cons (pe_callTy (call_set rfl) rfl T.b_set (by decide +kernel) (pa_cons (pv 1) pa_nil)) pa_nil)) (nomark _)))))))))))), run_fn0 (b := B_law) (k := 1) (n := 10) rfl (fun ps r e => match ps, e with | [_], e => ⟨rfl, e⟩) h fun io H0 F0 hio => ?_⟩
  exact (ms_seq (ms_asg (mj_own (mo_call (ma_cons (mj_var 0) ma_nil))) (mg_name 1))
      (ms_seq (ms_setO (i := 2) trivial mo_newK)
      (ms_seq (ms_setO (i := 3) trivial (mo_lst ma_nil))
      (ms_seq (ms_for (mi_rng1 (ma_cons (mj_cb1 r_len (mj_lend 1)) ma_nil)) (mg_name 4)
        (ms_seq (ms_asg (mj_call (ma_cons (mj_call (ma_cons (mj_var 0) (ma_cons (mj_op aF.up r_add mj_int (mj_var 4)) ma_nil))) (ma_cons (mj_op aF.up r_add mj_int (mj_var 4)) ma_nil))) (mg_name 5))
        (ms_seq (ms_if (mt_test (mj_op aF.up r_dnotin (mj_op aF.up r_ix (mj_var 1) (mj_var 4)) (mj_viewDN 2)))
          (ms_dput (mj_op aF.up r_shlL (mj_op aF.up r_sub (mj_op aF.up r_shlL mj_int mj_int) mj_int) (mj_op aF.up r_mul (mj_op aF.up r_ix (mj_var 1) (mj_var 4)) mj_int)) (mj_op aF.up r_ix (mj_var 1) (mj_var 4)))
          (ms_seq (ms_asg (mj_op aF.up r_shr (mj_dget (mj_viewDN 2) (mj_op aF.up r_ix (mj_var 1) (mj_var 4))) (mj_op aF.up r_mul (mj_op aF.up r_ix (mj_var 1) (mj_var 4)) mj_int)) (mg_name 6))
          (ms_dput (mj_op aF.up r_shlL (mj_call (ma_cons (mj_var 6) (ma_cons (mj_var 5) ma_nil))) (mj_op aF.up r_mul (mj_op aF.up r_ix (mj_var 1) (mj_var 4)) mj_int)) (mj_op aF.up r_ix (mj_var 1) (mj_var 4)))))
        (ms_app (mj_dget (mj_viewDN 2) (mj_op aF.up r_ix (mj_var 1) (mj_var 4)))))))
      (ms_seq (ms_setO (i := 7) trivial (mo_lst ma_nil))
      (ms_seq (ms_for (mi_seqU (mj_var 1)) (mg_name 8)
        (ms_seq (ms_asg (mj_own (mo_comp (mi_rng1 (ma_cons (mj_cb1 r_len (mj_lend 1)) ma_nil)) (mg_name 0) (wr_name 0) (mt_test (mj_op aH.up r_eq (mj_low (mj_op aF.up r_ix (mj_var 2) (mj_var 0))) (mj_lend 1))) (mj_var 0))) (mg_name 9))
        (ms_if (mt_test (mj_op aH.up r_notin (mj_lend 9) (mj_lend 7)))
          (ms_app (mj_var 9))
          ms_next)))
      (ms_seq (ms_frz 3 hio (ms_setD (i := 10) trivial (md_call (ma_cons (mj_var 3) ma_nil))))
      (ms_seq (ms_if (mt_fz (i := 10) (mt_or (mt_test (mj_op aH.up r_ne (mj_low (mj_op aF.up r_ix (mj_var 10) mj_int)) (mj_lend 7))) (mt_test (mj_op aH.up r_ne (mj_low (mj_cb1 r_len (mj_low (mj_op aF.up r_ix (mj_var 10) mj_int)))) (mj_low (mj_cb1 r_len (mj_lend 7)))))))
        (ms_ret mj_bl)
        ms_next)
      (ms_ret (mj_fz (i := 10) (mj_op aH.up r_eq (mj_low (mj_own (mo_cb1 r_sort (mj_ownV (mo_comp (mi_seqU (mj_op aF.up r_ix (mj_var 10) mj_int)) (mg_name 0) (wr_name 0) mt_yes (mj_op aF.up r_ix (mj_var 1) (mj_var 0))))))) (mj_low (mj_own (mo_sortU (mj_viewN 1)))))))))))))))
end
theorem all_mk {l : PySem.W.OpenLaw} {w : World} {K : PySem.W.Frag} {h : Heap} {mg : Str → Option Value} {fa f0 f1 f2 f3 f4 f5 f6 f7 f8 f9 f10 f11 f12 : Addr} (X : K.In h) (G : h.Ns mainGlobals mg) (hfa : mg "law" = some (.ref fa))
    {od0 an0 od1 an1 od2 an2 od3 an3 od4 an4 od5 an5 od6 an6 od7 an7 od8 an8 od9 an9 od10 an10 od11 an11 od12 an12 : Option Addr} {sl0 sl1 sl2 sl3 sl4 sl5 sl6 sl7 sl8 sl9 sl10 sl11 sl12 : Array (Option Value)} {oc0 kV0 dc0 pm0 cd0 ct0 oc1 kV1 dc1 pm1 cd1 ct1 oc2 kV2 dc2 pm2 cd2 ct2 oc3 kV3 dc3 pm3 cd3 ct3 oc4 kV4 dc4 pm4 cd4 ct4 oc5 kV5 dc5 pm5 cd5 ct5 oc6 kV6 dc6 pm6 cd6 ct6 oc7 kV7 dc7 pm7 cd7 ct7 oc8 kV8 dc8 pm8 cd8 ct8 oc9 kV9 dc9 pm9 cd9 ct9 oc10 kV10 dc10 pm10 cd10 ct10 oc11 kV11 dc11 pm11 cd11 ct11 oc12 kV12 dc12 pm12 cd12 ct12 : Value}
    (a0 : PySem.W.nsIn K mainGlobals "within" = some (some (.ref f0))) (l0 : K.lookup f0 = some ⟨oc0, od0, .func (PySem.W.fnOf "within" "within" (defArgs (top 1)) (defBody (top 1)) (defScope (top 1)) .none kV0 dc0 pm0 an0 cd0 ct0), sl0⟩) (c0 : PySem.W.codeIn K cd0 "within" = true) (k0 : PySem.W.keepIn K (.ref f0) = true)
    (a1 : PySem.W.nsIn K mainGlobals "walked" = some (some (.ref f1))) (l1 : K.lookup f1 = some ⟨oc1, od1, .func (PySem.W.fnOf "walked" "walked" (defArgs (top 3)) (defBody (top 3)) (defScope (top 3)) .none kV1 dc1 pm1 an1 cd1 ct1), sl1⟩) (c1 : PySem.W.codeIn K cd1 "walked" = true) (k1 : PySem.W.keepIn K (.ref f1) = true)
    (a2 : PySem.W.nsIn K mainGlobals "pair_anew" = some (some (.ref f2))) (l2 : K.lookup f2 = some ⟨oc2, od2, .func (PySem.W.fnOf "pair_anew" "pair_anew" (defArgs (top 4)) (defBody (top 4)) (defScope (top 4)) .none kV2 dc2 pm2 an2 cd2 ct2), sl2⟩) (c2 : PySem.W.codeIn K cd2 "pair_anew" = true) (k2 : PySem.W.keepIn K (.ref f2) = true)
    (a3 : PySem.W.nsIn K mainGlobals "most_pairs" = some (some (.ref f3))) (l3 : K.lookup f3 = some ⟨oc3, od3, .func (PySem.W.fnOf "most_pairs" "most_pairs" (defArgs (top 5)) (defBody (top 5)) (defScope (top 5)) .none kV3 dc3 pm3 an3 cd3 ct3), sl3⟩) (c3 : PySem.W.codeIn K cd3 "most_pairs" = true) (k3 : PySem.W.keepIn K (.ref f3) = true)
    (a4 : PySem.W.nsIn K mainGlobals "short_of_givers" = some (some (.ref f4))) (l4 : K.lookup f4 = some ⟨oc4, od4, .func (PySem.W.fnOf "short_of_givers" "short_of_givers" (defArgs (top 6)) (defBody (top 6)) (defScope (top 6)) .none kV4 dc4 pm4 an4 cd4 ct4), sl4⟩) (c4 : PySem.W.codeIn K cd4 "short_of_givers" = true) (k4 : PySem.W.keepIn K (.ref f4) = true)
    (a5 : PySem.W.nsIn K mainGlobals "states_ahead" = some (some (.ref f5))) (l5 : K.lookup f5 = some ⟨oc5, od5, .func (PySem.W.fnOf "states_ahead" "states_ahead" (defArgs (top 8)) (defBody (top 8)) (defScope (top 8)) .none kV5 dc5 pm5 an5 cd5 ct5), sl5⟩) (c5 : PySem.W.codeIn K cd5 "states_ahead" = true) (k5 : PySem.W.keepIn K (.ref f5) = true)
    (a6 : PySem.W.nsIn K mainGlobals "chains_by" = some (some (.ref f6))) (l6 : K.lookup f6 = some ⟨oc6, od6, .func (PySem.W.fnOf "chains_by" "chains_by" (defArgs (top 9)) (defBody (top 9)) (defScope (top 9)) .none kV6 dc6 pm6 an6 cd6 ct6), sl6⟩) (c6 : PySem.W.codeIn K cd6 "chains_by" = true) (k6 : PySem.W.keepIn K (.ref f6) = true)
    (a7 : PySem.W.nsIn K mainGlobals "fewest_blocks" = some (some (.ref f7))) (l7 : K.lookup f7 = some ⟨oc7, od7, .func (PySem.W.fnOf "fewest_blocks" "fewest_blocks" (defArgs (top 10)) (defBody (top 10)) (defScope (top 10)) .none kV7 dc7 pm7 an7 cd7 ct7), sl7⟩) (c7 : PySem.W.codeIn K cd7 "fewest_blocks" = true) (k7 : PySem.W.keepIn K (.ref f7) = true)
    (a8 : PySem.W.nsIn K mainGlobals "_law_cell_at" = some (some (.ref f8))) (l8 : K.lookup f8 = some ⟨oc8, od8, .func (PySem.W.fnOf "_law_cell_at" "_law_cell_at" (defArgs (top 12)) (defBody (top 12)) (defScope (top 12)) .none kV8 dc8 pm8 an8 cd8 ct8), sl8⟩) (c8 : PySem.W.codeIn K cd8 "_law_cell_at" = true) (k8 : PySem.W.keepIn K (.ref f8) = true)
    (a9 : PySem.W.nsIn K mainGlobals "_law_mixed" = some (some (.ref f9))) (l9 : K.lookup f9 = some ⟨oc9, od9, .func (PySem.W.fnOf "_law_mixed" "_law_mixed" (defArgs (top 13)) (defBody (top 13)) (defScope (top 13)) .none kV9 dc9 pm9 an9 cd9 ct9), sl9⟩) (c9 : PySem.W.codeIn K cd9 "_law_mixed" = true) (k9 : PySem.W.keepIn K (.ref f9) = true)
    (a10 : PySem.W.nsIn K mainGlobals "_law_turns" = some (some (.ref f10))) (l10 : K.lookup f10 = some ⟨oc10, od10, .func (PySem.W.fnOf "_law_turns" "_law_turns" (defArgs (top 14)) (defBody (top 14)) (defScope (top 14)) .none kV10 dc10 pm10 an10 cd10 ct10), sl10⟩) (c10 : PySem.W.codeIn K cd10 "_law_turns" = true) (k10 : PySem.W.keepIn K (.ref f10) = true)
    (a11 : PySem.W.nsIn K mainGlobals "_law_next" = some (some (.ref f11))) (l11 : K.lookup f11 = some ⟨oc11, od11, .func (PySem.W.fnOf "_law_next" "_law_next" (defArgs (top 15)) (defBody (top 15)) (defScope (top 15)) .none kV11 dc11 pm11 an11 cd11 ct11), sl11⟩) (c11 : PySem.W.codeIn K cd11 "_law_next" = true) (k11 : PySem.W.keepIn K (.ref f11) = true)
    (a12 : PySem.W.nsIn K mainGlobals "law" = some (some (.ref f12))) (l12 : K.lookup f12 = some ⟨oc12, od12, .func (PySem.W.fnOf "law" "law" (defArgs (top 16)) (defBody (top 16)) (defScope (top 16)) .none kV12 dc12 pm12 an12 cd12 ct12), sl12⟩) (c12 : PySem.W.codeIn K cd12 "law" = true) (k12 : PySem.W.keepIn K (.ref f12) = true)
    (z_dict : PySem.W.nsIn K mainGlobals "dict" = some none) (z_len : PySem.W.nsIn K mainGlobals "len" = some none) (z_list : PySem.W.nsIn K mainGlobals "list" = some none) (z_min : PySem.W.nsIn K mainGlobals "min" = some none) (z_range : PySem.W.nsIn K mainGlobals "range" = some none) (z_set : PySem.W.nsIn K mainGlobals "set" = some none) (z_sorted : PySem.W.nsIn K mainGlobals "sorted" = some none) :
    ∃ fd : FuncData, (∀ (s : Shared) (v : Value), BindsTo s fd ⟨[v], []⟩ [("_law_script", v)]) ∧ ∀ base : Heap, K.In base → base.Ns mainGlobals mg → FnOk l.prog w K mg base CX0 4 fa fd ["_law_script"] (spM K XR0 M_law) := by
  have e := hfa.symm.trans (PySem.W.mg_of X G a12)
  cases e
  have T : Txt mg := ⟨trivial, PySem.W.mg_none_of X G z_dict, PySem.W.mg_none_of X G z_len, PySem.W.mg_none_of X G z_list, PySem.W.mg_none_of X G z_min, PySem.W.mg_none_of X G z_range, PySem.W.mg_none_of X G z_set, PySem.W.mg_none_of X G z_sorted⟩
  have F0 := fun_mk (st := top 1) l0 c0 k0
  have D0 : DefAt K mg "within" (top 1) ["one", "other"] := ⟨⟨_, _, PySem.W.mg_of X G a0, F0, F0.binds fun _ _ _ _ _ _ us hl => by obtain ⟨_, _, rfl⟩ := len2 hl; rfl⟩⟩
  have F1 := fun_mk (st := top 3) l1 c1 k1
  have D1 : DefAt K mg "walked" (top 3) ["wishes", "asker_of", "starts"] := ⟨⟨_, _, PySem.W.mg_of X G a1, F1, F1.binds fun _ _ _ _ _ _ us hl => by obtain ⟨_, _, _, rfl⟩ := len3 hl; rfl⟩⟩
  have F2 := fun_mk (st := top 4) l2 c2 k2
  have D2 : DefAt K mg "pair_anew" (top 4) ["giver_of", "asker_of", "came_by", "free"] := ⟨⟨_, _, PySem.W.mg_of X G a2, F2, F2.binds fun _ _ _ _ _ _ us hl => by obtain ⟨_, _, _, _, rfl⟩ := len4 hl; rfl⟩⟩
  have F3 := fun_mk (st := top 5) l3 c3 k3
  have D3 : DefAt K mg "most_pairs" (top 5) ["wishes"] := ⟨⟨_, _, PySem.W.mg_of X G a3, F3, F3.binds fun _ _ _ _ _ _ us hl => by obtain ⟨_, rfl⟩ := len1 hl; rfl⟩⟩
  have F4 := fun_mk (st := top 6) l4 c4 k4
  have D4 : DefAt K mg "short_of_givers" (top 6) ["wishes", "giver_of"] := ⟨⟨_, _, PySem.W.mg_of X G a4, F4, F4.binds fun _ _ _ _ _ _ us hl => by obtain ⟨_, _, rfl⟩ := len2 hl; rfl⟩⟩
  have F5 := fun_mk (st := top 8) l5 c5 k5
  have D5 : DefAt K mg "states_ahead" (top 8) ["states", "number"] := ⟨⟨_, _, PySem.W.mg_of X G a5, F5, F5.binds fun _ _ _ _ _ _ us hl => by obtain ⟨_, _, rfl⟩ := len2 hl; rfl⟩⟩
  have F6 := fun_mk (st := top 9) l6 c6 k6
  have D6 : DefAt K mg "chains_by" (top 9) ["many", "ahead_of"] := ⟨⟨_, _, PySem.W.mg_of X G a6, F6, F6.binds fun _ _ _ _ _ _ us hl => by obtain ⟨_, _, rfl⟩ := len2 hl; rfl⟩⟩
  have F7 := fun_mk (st := top 10) l7 c7 k7
  have D7 : DefAt K mg "fewest_blocks" (top 10) ["states"] := ⟨⟨_, _, PySem.W.mg_of X G a7, F7, F7.binds fun _ _ _ _ _ _ us hl => by obtain ⟨_, rfl⟩ := len1 hl; rfl⟩⟩
  have F8 := fun_mk (st := top 12) l8 c8 k8
  have D8 : DefAt K mg "_law_cell_at" (top 12) ["_law_script", "_law_k"] := ⟨⟨_, _, PySem.W.mg_of X G a8, F8, F8.binds fun _ _ _ _ _ _ us hl => by obtain ⟨_, _, rfl⟩ := len2 hl; rfl⟩⟩
  have F9 := fun_mk (st := top 13) l9 c9 k9
  have D9 : DefAt K mg "_law_mixed" (top 13) ["_law_cell", "_law_k"] := ⟨⟨_, _, PySem.W.mg_of X G a9, F9, F9.binds fun _ _ _ _ _ _ us hl => by obtain ⟨_, _, rfl⟩ := len2 hl; rfl⟩⟩
  have F10 := fun_mk (st := top 14) l10 c10 k10
  have D10 : DefAt K mg "_law_turns" (top 14) ["_law_script"] := ⟨⟨_, _, PySem.W.mg_of X G a10, F10, F10.binds fun _ _ _ _ _ _ us hl => by obtain ⟨_, rfl⟩ := len1 hl; rfl⟩⟩
  have F11 := fun_mk (st := top 15) l11 c11 k11
  have D11 : DefAt K mg "_law_next" (top 15) ["_law_one", "_law_number"] := ⟨⟨_, _, PySem.W.mg_of X G a11, F11, F11.binds fun _ _ _ _ _ _ us hl => by obtain ⟨_, _, rfl⟩ := len2 hl; rfl⟩⟩
  have F12 := fun_mk (st := top 16) l12 c12 k12
  refine ⟨PySem.W.fnOf "law" "law" (defArgs (top 16)) (defBody (top 16)) (defScope (top 16)) .none kV12 dc12 pm12 an12 cd12 ct12, fun s v => .of_eq rfl, fun base _ _ => ?_⟩
  have G0 := ok_within (P := l.prog) (w := w) (base := base) T D0
  have G1 := ok_walked (P := l.prog) (w := w) (base := base) T D1
  have G2 := ok_pair_anew (P := l.prog) (w := w) (base := base) T D2
  have G3 := ok_most_pairs (P := l.prog) (w := w) (base := base) T D3 G1 G2
  have G4 := ok_short_of_givers (P := l.prog) (w := w) (base := base) T D4 G1
  have G5 := ok_states_ahead (P := l.prog) (w := w) (base := base) T D5 G0
  have G6 := ok_chains_by (P := l.prog) (w := w) (base := base) T D6
  have G7 := ok_fewest_blocks (P := l.prog) (w := w) (base := base) T D7 G5 G3 G4 G6
  have G8 := ok_L_cell_at (P := l.prog) (w := w) (base := base) T D8
  have G9 := ok_L_mixed (P := l.prog) (w := w) (base := base) T D9
  have G10 := ok_L_turns (P := l.prog) (w := w) (base := base) T D10 G8 G9
  have G11 := ok_L_next (P := l.prog) (w := w) (base := base) T D11
  exact ok_law (P := l.prog) (w := w) (base := base) T F12 G10 G9 G8 G11 G7
theorem walk {l : PySem.W.OpenLaw} {q : Program} {loose : List Str} {XP : (Str → Option Value) → Heap → Prop} {YP : World → Heap → Prop} {d : DefRec} {K : Params → PySem.W.Frag} (hn : l.most = some 63) (hdf : d.params.defaults = [])
    (hY : ∀ (w : World) (h : Heap), YP w h → (K w.params).In h)
    (F : ∀ (w : World) (mg : Str → Option Value) (fa : Addr) (h : Heap), (K w.params).In h → h.Ns mainGlobals mg → mg d.name = some (.ref fa) →
      ∃ fd : FuncData, (∀ (s : Shared) (u : Value), BindsTo s fd ⟨[u], []⟩ [("_law_script", u)]) ∧ ∀ base : Heap, (K w.params).In base → base.Ns mainGlobals mg → FnOk l.prog w (K w.params) mg base CX0 4 fa fd ["_law_script"] (spM (K w.params) XR0 M_law))
    (main : ∀ ns : List Int, ns.length ≤ 63 → M_law [.lst (ns.map PV.int)] = some (.ok (.bl true))) :
    PySem.W.WalkO q loose XP YP l.row.toRowW d [] (fun f vs => PySem.call f vs) :=
  L2.walk_of (n := 63) (k := 4) (x := "_law_script") (CX := fun _ => CX0) (sp := fun w => spM (K w.params) XR0 M_law) hn (by decide) hdf ⟨rfl, by decide, by decide⟩ hY F (fun w H a ns hl _ hS => ⟨[.lst (ns.map PV.int)], H, .ok (.bl true), Same.refl _, Reps.nil.cons (.lst hS (Reps.of_ints (K := K w.params) (F := H) ns).1 (Reps.of_ints ns).2), main ns hl, fun v F' H' _ rv => Rep.inv_bl rv⟩) fun _ _ _ _ _ z => z
end MM

open PySem PySem.W PyProof.Rows
set_option maxRecDepth 100000 in
set_option maxHeartbeats 0 in
theorem PySem.Challenge.cw_lostblock_k23_families_in_turn_holds : PySem.Challenge.rw_lostblock_k23_families_in_turn.Holds := by
  w_on; o_law; o_head (kHook MM.KK [3, 20, 21, 27, 28, 34, 35, 41, 42, 46, 47, 51, 52, 58, 59, 63, 64, 70, 71, 77, 78, 84, 85, 91, 92, 96, 97] (fun _ => by kernel_rfl)); (case hw => w_witness2)
  k_fill
  refine MM.walk (l := PySem.Challenge.rw_lostblock_k23_families_in_turn) rfl rfl (fun w h Y => PySem.W.kIn_of Y) ?F MM.law_main
  case F =>
    intro w mg fa h KX G hmg
    refine' MM.all_mk KX G hmg ?a0 ?l0 ?c0 ?k0 ?a1 ?l1 ?c1 ?k1 ?a2 ?l2 ?c2 ?k2 ?a3 ?l3 ?c3 ?k3 ?a4 ?l4 ?c4 ?k4 ?a5 ?l5 ?c5 ?k5 ?a6 ?l6 ?c6 ?k6 ?a7 ?l7 ?c7 ?k7 ?a8 ?l8 ?c8 ?k8 ?a9 ?l9 ?c9 ?k9 ?a10 ?l10 ?c10 ?k10 ?a11 ?l11 ?c11 ?k11 ?a12 ?l12 ?c12 ?k12 ?z_dict ?z_len ?z_list ?z_min ?z_range ?z_set ?z_sorted
    (case a0 => k_is)
    (case l0 => k_is)
    (case c0 => k_is)
    (case k0 => k_is)
    (case a1 => k_is)
    (case l1 => k_is)
    (case c1 => k_is)
    (case k1 => k_is)
    (case a2 => k_is)
    (case l2 => k_is)
    (case c2 => k_is)
    (case k2 => k_is)
    (case a3 => k_is)
    (case l3 => k_is)
    (case c3 => k_is)
    (case k3 => k_is)
    (case a4 => k_is)
    (case l4 => k_is)
    (case c4 => k_is)
    (case k4 => k_is)
    (case a5 => k_is)
    (case l5 => k_is)
    (case c5 => k_is)
    (case k5 => k_is)
    (case a6 => k_is)
    (case l6 => k_is)
    (case c6 => k_is)
    (case k6 => k_is)
    (case a7 => k_is)
    (case l7 => k_is)
    (case c7 => k_is)
    (case k7 => k_is)
    (case a8 => k_is)
    (case l8 => k_is)
    (case c8 => k_is)
    (case k8 => k_is)
    (case a9 => k_is)
    (case l9 => k_is)
    (case c9 => k_is)
    (case k9 => k_is)
    (case a10 => k_is)
    (case l10 => k_is)
    (case c10 => k_is)
    (case k10 => k_is)
    (case a11 => k_is)
    (case l11 => k_is)
    (case c11 => k_is)
    (case k11 => k_is)
    (case a12 => k_is)
    (case l12 => k_is)
    (case c12 => k_is)
    (case k12 => k_is)
    (case z_dict => k_is)
    (case z_len => k_is)
    (case z_list => k_is)
    (case z_min => k_is)
    (case z_range => k_is)
    (case z_set => k_is)
    (case z_sorted => k_is)
#print axioms PySem.Challenge.cw_lostblock_k23_families_in_turn_holds
