import PyProof.Rows.All
import Wide.All
import OpenK.AllK
import Wide.FinOn
import Lean
import PyProof.EqAt
import PyProof.EqKinds
import PyProof.TupleCall
import PySem.Challenge.RW_lostblock_k41_whole_plan_rows_refused
set_option Elab.async false
set_option linter.all false
set_option maxRecDepth 100000
def PySem.W.Fast.tw6090455184703425471:=()
def PySem.W.Fast.tw5173303265171636102:=()
def PySem.W.Fast.tw7431390326316941559:=()
def PySem.W.Fast.tw5433194257365625866:=()
def PySem.W.Fast.tw15778583000374699839:=()
def PySem.W.Fast.tw15404696423959069131:=()
def PySem.W.Fast.tw4831891417406408562:=()
def PySem.W.Fast.tw14451505423550441973:=()
def PySem.W.Fast.tw18168815582444536237:=()
def PySem.W.Fast.tw4098493322631425457:=()
def PySem.W.Fast.tw10289452355129201915:=()
def PySem.W.Fast.tw10823540174898035923:=()
def PySem.W.Fast.tw16824687743154131596:=()
def PySem.W.Fast.tw4792680253155545240:=()
def PySem.W.Fast.tw9295232292699180287:=()
def PySem.W.Fast.tw9275459975574591421:=()
def PySem.W.Fast.tw3553639084726973119:=()
def PySem.W.Fast.tw5954577912104645563:=()
def PySem.W.Fast.tw13872223873166540041:=()
def PySem.W.Fast.tw18255821487332790397:=()
def PySem.W.Fast.tw6179551288212758014:=()
def PySem.W.Fast.tw10850696784943366514:=()
def PySem.W.Fast.tw12363427935612631654:=()
def PySem.W.Fast.tw16479170055283991655:=()
def PySem.W.Fast.tw2102919506760642113:=()
def PySem.W.Fast.tw13562446262282213786:=()
def PySem.W.Fast.tw3096504992496012059:=()
def PySem.W.Fast.tw8691423384880848866:=()
def PySem.W.Fast.tw17714449987983086455:=()
def PySem.W.Fast.tw8663390063997072967:=()
def PySem.W.Fast.tw16078400755448600850:=()
def PySem.W.Fast.tw436738193540411160:=()
def PySem.W.Fast.tw1076788821888411604:=()
def PySem.W.Fast.tw3958527451078891329:=()
def PySem.W.Fast.tw14292998415032668690:=()
def PySem.W.Fast.tw16226302467588424574:=()
def PySem.W.Fast.tw11449685665644570817:=()
def PySem.W.Fast.tw3794095630443754392:=()
def PySem.W.Fast.tw3914904828391364864:=()
def PySem.W.Fast.tw2402017514195268130:=()
def PySem.W.Fast.tw13836311027521763209:=()
def PySem.W.Fast.tw15576217332831262527:=()
def PySem.W.Fast.tw1907866735627134575:=()
def PySem.W.Fast.tw1399211433446463597:=()
def PySem.W.Fast.tw9037176379936519818:=()
def PySem.W.Fast.tw17831495377088769845:=()
def PySem.W.Fast.tw14479378695044577565:=()
def PySem.W.Fast.tw7341299357294249267:=()
def PySem.W.Fast.tw14733976357660347263:=()
set_option compiler.extract_closed false
set_option bootstrap.genMatcherCode false
set_option genSizeOf false
local macro_rules | `(tactic| omega) => `(tactic| first | (grind only) | omega (config := {}))
local macro_rules | `(tactic| lia) => `(tactic| first | lia -verbose | omega (config := {}))
namespace L2
open PySem PySem.Spec PyProof.Rows

noncomputable abbrev Key := Sum Int Str
noncomputable def keyIs : Key → Value → Bool
  | .inl k, v => Value.isInt k v
  | .inr x, v => Value.isStrOf x v
noncomputable def keyH (w : World) : Key → Int
  | .inl k => hashInt k
  | .inr x => hashStr w x
theorem keyIs_shape : ∀ {k : Key} {v : Value}, keyIs k v = true → (∃ i t, k = Sum.inl i ∧ v = Value.int i t) ∨ (∃ x t, k = Sum.inr x ∧ v = Value.str x t)
  | .inl i, v, h => by
    obtain ⟨t, e⟩ := Value.isInt_shape (k := i) (v := v) h
    exact .inl ⟨i, t, rfl, e⟩
  | .inr x, v, h => by
    obtain ⟨t, e⟩ := Value.isStrOf_shape (x := x) (v := v) h
    exact .inr ⟨x, t, rfl, e⟩
theorem key_ll (a b : Int) : decide ((Sum.inl a : Key) = Sum.inl b) = (a == b) := by
  by_cases e : a = b
  · subst e; simp
  · have h : ¬ (Sum.inl a : Key) = Sum.inl b := fun q => e (Sum.inl.inj q)
    rw [decide_eq_false h]
    exact (beq_eq_false_iff_ne.mpr e).symm
theorem key_rr (a b : Str) : decide ((Sum.inr a : Key) = Sum.inr b) = decide (a = b) := by
  by_cases e : a = b
  · subst e; simp
  · have h : ¬ (Sum.inr a : Key) = Sum.inr b := fun q => e (Sum.inr.inj q)
    rw [decide_eq_false h, decide_eq_false e]
theorem key_lr (a : Int) (b : Str) : decide ((Sum.inl a : Key) = Sum.inr b) = false := decide_eq_false (fun q => nomatch q)
theorem key_rl (a : Str) (b : Int) : decide ((Sum.inr a : Key) = Sum.inl b) = false := decide_eq_false (fun q => nomatch q)

noncomputable def mixKind (prog : Program) (w : World) : PySem.KeyKind prog w Key where
  is := keyIs
  hash := keyH w
  inj := fun v a b ha hb => by
    rcases keyIs_shape ha with ⟨i, t, rfl, rfl⟩ | ⟨x, t, rfl, rfl⟩
    · rcases keyIs_shape hb with ⟨j, u, rfl, e⟩ | ⟨y, u, rfl, e⟩
      · injection e with e1 _; rw [e1]
      · exact nomatch e
    · rcases keyIs_shape hb with ⟨j, u, rfl, e⟩ | ⟨y, u, rfl, e⟩
      · exact nomatch e
      · injection e with e1 _; rw [e1]
  byValue := fun k v h => by
    rcases keyIs_shape h with ⟨i, t, rfl, rfl⟩ | ⟨x, t, rfl, rfl⟩ <;> rfl
  pyHash := fun hv h => by
    rcases keyIs_shape hv with ⟨i, t, rfl, rfl⟩ | ⟨x, t, rfl, rfl⟩
    · exact wpAny_pyHash_int h
    · exact wpAny_pyHash_str h
  eqBool := fun hu hv h => by
    rcases keyIs_shape hu with ⟨i, t, rfl, rfl⟩ | ⟨x, t, rfl, rfl⟩
    · rcases keyIs_shape hv with ⟨j, u, rfl, rfl⟩ | ⟨y, u, rfl, rfl⟩
      · rw [key_ll] at h; exact wpAny_eqBool_int h
      · rw [key_lr] at h; exact SeqAt.EqAt.int_str i t y u _ _ _ _ h
    · rcases keyIs_shape hv with ⟨j, u, rfl, rfl⟩ | ⟨y, u, rfl, rfl⟩
      · rw [key_rl] at h; exact SeqAt.EqAt.str_int x t j u _ _ _ _ h
      · rw [key_rr] at h; exact wpAny_eqBool_str h
  «strs» := fun k x t v h => by
    rcases keyIs_shape h with ⟨i, u, rfl, e⟩ | ⟨y, u, rfl, e⟩
    · exact nomatch e
    · injection e with e1 _
      subst e1
      cases v <;> rfl

end L2

namespace L2
open PySem PySem.Spec PyProof.Rows

inductive V where
  | non | bl (b : Bool) | int (i : Int) | str (x : Str) | byt (b : Array UInt8) | flt (b : UInt64) | ref (a : Addr) | ty (n : String)
  deriving DecidableEq

noncomputable def RelV : V → Value → Prop
  | .non, u => u = Value.none
  | .bl b, u => u = Value.bool b
  | .int i, u => ∃ t, u = Value.int i t
  | .str x, u => ∃ t, u = Value.str x t
  | .byt b, u => ∃ t, u = Value.bytes b t
  | .flt b, u => ∃ t, u = Value.float b t
  | .ref a, u => u = Value.ref a
  | .ty n, u => u = Value.type n

noncomputable abbrev Vals : List V → List Value → Prop := Paired RelV
theorem Vals.length {xs : List V} {us : List Value} (r : Vals xs us) : xs.length = us.length := Paired.length r
theorem Vals.get : ∀ {xs : List V} {us : List Value} {i : Nat} {x : V}, Vals xs us → xs[i]? = some x → ∃ u, us[i]? = some u ∧ RelV x u
  | _, _, _, _, .nil, e => by simp at e
  | _, _, 0, _, .cons r _, e => by simp at e; subst e; exact ⟨_, rfl, r⟩
  | _, _, i + 1, x, .cons _ t, e => by
    obtain ⟨u, h1, h2⟩ := Vals.get (i := i) (x := x) t (by simpa using e)
    exact ⟨u, by simpa using h1, h2⟩
theorem Vals.set {x : V} {u : Value} (r : RelV x u) : ∀ {xs : List V} {us : List Value} (i : Nat), Vals xs us → Vals (xs.set i x) (us.set i u)
  | _, _, _, .nil => .nil
  | _, _, 0, .cons _ t => .cons r t
  | _, _, i + 1, .cons q t => .cons q (Vals.set r i t)
theorem Vals.append : ∀ {xs ys : List V} {us ws : List Value}, Vals xs us → Vals ys ws → Vals (xs ++ ys) (us ++ ws)
  | _, _, _, _, .nil, s => s
  | _, _, _, _, .cons r t, s => .cons r (Vals.append t s)
theorem Vals.take : ∀ {xs : List V} {us : List Value} (n : Nat), Vals xs us → Vals (xs.take n) (us.take n)
  | _, _, 0, _ => .nil
  | _, _, _ + 1, .nil => .nil
  | _, _, n + 1, .cons r t => .cons r (Vals.take n t)
theorem Vals.drop : ∀ {xs : List V} {us : List Value} (n : Nat), Vals xs us → Vals (xs.drop n) (us.drop n)
  | _, _, 0, r => r
  | _, _, _ + 1, .nil => .nil
  | _, _, n + 1, .cons _ t => Vals.drop n t
noncomputable def RelO : Option V → Option Value → Prop
  | some v, some u => RelV v u
  | none, none => True
  | _, _ => False
noncomputable def KV {κ : Type} : List (κ × V) → List (κ × Value) → Prop := Paired fun (p : κ × V) (q : κ × Value) => p.1 = q.1 ∧ RelV p.2 q.2

noncomputable def kV : Key → V
  | .inl i => .int i
  | .inr x => .str x

inductive HO where
  | lst (xs : List V)
  | tup (xs : List V)
  | dK (kvs : List (Key × V)) | dT (kvs : List (List Key × V))
  | set (S : Int → Bool) (n : Nat)
  | ins (C dx : Addr) (fs : List (Str × V))
  | own (x : Addr)
  | xd (fs : List (Str × V))
  | met (f x : Addr)
  | rng (lo hi : Int)
  | frz (o : Obj) (u : HO)
  | tbl (ps : Array Value)
  | ext (φ : Heap → Prop)

noncomputable abbrev Hp := Addr → Option HO
noncomputable def upd (H : Hp) (a : Addr) (o : HO) : Hp := fun b => if b = a then some o else H b
theorem upd_same {H : Hp} {a : Addr} {o : HO} : upd H a o a = some o := by unfold upd; rw [if_pos rfl]
theorem upd_ne {H : Hp} {a b : Addr} {o : HO} (h : b ≠ a) : upd H a o b = H b := by unfold upd; rw [if_neg h]
theorem ne_of {H : Hp} {a b : Addr} {o u : HO} (h : H a = some o) (h' : H b = some u) (d : o ≠ u) : a ≠ b := by
  intro e; subst e; rw [h] at h'; exact d (Option.some.inj h')
theorem ne_of_none {H : Hp} {a b : Addr} {o : HO} (h : H a = some o) (h' : H b = none) : a ≠ b := by
  intro e; subst e; rw [h] at h'; cases h'

noncomputable def IsTupN (h : Heap) (a : Addr) (items : Array Value) : Prop := IsTup h a items ∧ ∀ o, h.get? a = some o → o.dict = none
theorem IsTupN.new (h : Heap) (items : Array Value) : IsTupN (h.push { cls := .type "tuple", data := .seq items }) h.objs.size items := ⟨IsTup.new h items, fun o e => by rw [Heap.get?_push_size _ rfl] at e; cases e; rfl⟩
theorem IsTupN.mk {h : Heap} {a : Addr} {items : Array Value} {n : Nat} (e : h.get? a = some { cls := .type "tuple", data := .seq items n }) : IsTupN h a items := ⟨⟨_, e, rfl, _, rfl⟩, fun o q => by rw [e] at q; cases q; rfl⟩
theorem IsTupN.lt {h : Heap} {a : Addr} {items : Array Value} (x : IsTupN h a items) : a < h.objs.size := x.1.lt
theorem IsTupN.at' {h h' : Heap} {a : Addr} {items : Array Value} (x : IsTupN h a items) (e : ∀ o, h.get? a = some o → h'.get? a = some o) : IsTupN h' a items := by
  obtain ⟨⟨o, h1, r⟩, d⟩ := x
  exact ⟨⟨o, e o h1, r⟩, fun u q => by rw [e o h1] at q; cases q; exact d o h1⟩

section
variable (P : Program) (w : World)
noncomputable def ObjOk (H : Hp) (h : Heap) (a : Addr) : HO → Prop
  | .lst xs => xs.length ≤ sizeLine ∧ ∃ (its : List Value) (n : Nat), Vals xs its ∧ h.get? a = some { cls := .type "list", data := .seq its.toArray n }
  | .tup xs => xs.length ≤ sizeLine ∧ ∃ its : List Value, Vals xs its ∧ IsTupN h a its.toArray
  | .dK kvs => kvs.length ≤ sizeLine ∧ (a == sysModules) = false ∧ ∃ vs, KV kvs vs ∧ h.DictOf (mixKind P w) a vs
  | .dT kvs => kvs.length ≤ sizeLine ∧ (a == sysModules) = false ∧ ∃ xs : List (List Key × Addr × Value),
      Paired (fun (p : List Key × V) (q : List Key × Addr × Value) => p.1 = q.1 ∧ H q.2.1 = some (.tup (p.1.map kV)) ∧ RelV p.2 q.2.2) kvs xs ∧
      ∃ o es ep, h.get? a = some o ∧ o.ExactDict ∧ o.data = .dict es ep ∧ es.toList = xs.map (entryOfKey (tupleKind (mixKind P w))) ∧ (xs.map (·.1)).Nodup
  | .set S n => h.SetOf (intKind P w) a S n
  | .ins C dx fs => H dx = some (.own a) ∧ fs.length ≤ 1000 ∧ dx ≠ a ∧ h.get? a = some (PySem.W.instObj C dx) ∧
      ∃ mA, h.Ns1 dx mA ∧ (∀ f, RelO (fs.lookup f) (mA f)) ∧ PySem.Within mA (fs.map (·.1))
  | .own _ => ∃ o, h.get? a = some o
  | .xd fs => ∃ mA, h.Ns1 a mA ∧ ∀ f, RelO (fs.lookup f) (mA f)
  | .rng lo hi => ∃ t u v, h.get? a = some { cls := .type "range", data := .fields #[.int lo t, .int hi u, .int 1 v] }
  | .frz o u => h.get? a = some o ∧ ObjOk H h a u
  | .tbl ps => h.get? a = some { cls := .none, data := .fields ps }
  | .met f x => h.get? a = some (PySem.W.methodObj (.ref f) (.ref x))
  | .ext φ => φ h ∧ (∃ o, h.get? a = some o) ∧ ∀ h1 h2 : Heap, φ h1 → (∀ o, h1.get? a = some o → h2.get? a = some o) → φ h2
noncomputable def HOk (H : Hp) (h : Heap) : Prop := ∀ a o, H a = some o → ObjOk P w H h a o
end

section
variable {P : Program} {w : World} {H H' : Hp} {h h' : Heap} {a : Addr} {o : HO}
theorem ObjOk.lt (x : ObjOk P w H h a o) : a < h.objs.size := by
  cases o with
  | lst xs => obtain ⟨_, _, _, _, e⟩ := x; exact Heap.lt_size e
  | tup xs => obtain ⟨_, _, _, p⟩ := x; exact p.lt
  | dK kvs => obtain ⟨_, _, _, _, o, _, _, e, _⟩ := x; exact Heap.lt_size e
  | dT kvs => obtain ⟨_, _, _, _, o, _, _, e, _⟩ := x; exact Heap.lt_size e
  | set S n => obtain ⟨o, _, _, _, e, _⟩ := x; exact Heap.lt_size e
  | ins C dx fs => obtain ⟨_, _, _, e, _⟩ := x; exact Heap.lt_size e
  | own y => obtain ⟨_, e⟩ := x; exact Heap.lt_size e
  | xd fs => obtain ⟨_, ⟨_, _, _, e, _⟩, _⟩ := x; exact Heap.lt_size e
  | rng lo hi => obtain ⟨_, _, _, e⟩ := x; exact Heap.lt_size e
  | frz ob u => obtain ⟨e, _⟩ := x; exact Heap.lt_size e
  | tbl ps => exact Heap.lt_size (show h.get? a = some _ from x)
  | met f y => exact Heap.lt_size (show h.get? a = some _ from x)
  | ext φ => obtain ⟨_, ⟨_, e⟩, _⟩ := x; exact Heap.lt_size e
theorem Paired.mapP {α β : Type} {F G : α → β → Prop} : ∀ {l₁ : List α} {l₂ : List β}, Paired F l₁ l₂ → (∀ a b, F a b → G a b) → Paired G l₁ l₂
  | _, _, .nil, _ => .nil
  | _, _, .cons r t, f => .cons (f _ _ r) (Paired.mapP t f)
theorem ObjOk.stay (x : ObjOk P w H h a o) (k : ∀ b u, (b = a ∨ H b = some (.own a)) → h.get? b = some u → h'.get? b = some u)
    (ho : ∀ b, H b = some (.own a) → H' b = some (.own a)) (ht : ∀ b xs, H b = some (.tup xs) → H' b = some (.tup xs)) : ObjOk P w H' h' a o := by
  induction o with
  | lst xs => obtain ⟨z, its, n, r, e⟩ := x; exact ⟨z, its, n, r, k _ _ (.inl rfl) e⟩
  | tup xs => obtain ⟨z, its, r, c⟩ := x; exact ⟨z, its, r, c.at' fun o e => k _ _ (.inl rfl) e⟩
  | dK kvs => obtain ⟨z, y, vs, r, ob, es, ep, e, c⟩ := x; exact ⟨z, y, vs, r, ob, es, ep, k _ _ (.inl rfl) e, c⟩
  | dT kvs =>
    obtain ⟨z, y, xs, r, ob, es, ep, e, c⟩ := x
    exact ⟨z, y, xs, Paired.mapP r fun p q z => ⟨z.1, ht _ _ z.2.1, z.2.2⟩, ob, es, ep, k _ _ (.inl rfl) e, c⟩
  | set S n => obtain ⟨ob, es, ep, t, e, c⟩ := x; exact ⟨ob, es, ep, t, k _ _ (.inl rfl) e, c⟩
  | ins C dx fs =>
    obtain ⟨d, z, ne, e, mA, ⟨od, es, ep, e2, c⟩, r⟩ := x
    exact ⟨ho _ d, z, ne, k _ _ (.inl rfl) e, mA, ⟨od, es, ep, k _ _ (.inr d) e2, c⟩, r⟩
  | own y => obtain ⟨ob, e⟩ := x; exact ⟨ob, k _ _ (.inl rfl) e⟩
  | xd fs => obtain ⟨mA, ⟨od, es, ep, e, c⟩, r⟩ := x; exact ⟨mA, ⟨od, es, ep, k _ _ (.inl rfl) e, c⟩, r⟩
  | rng lo hi => obtain ⟨t, u, v, e⟩ := x; exact ⟨t, u, v, k _ _ (.inl rfl) e⟩
  | frz ob u ih => obtain ⟨e, q⟩ := x; exact ⟨k _ _ (.inl rfl) e, ih q⟩
  | tbl ps =>
    have e : h.get? a = some { cls := .none, data := .fields ps } := x
    show h'.get? a = some { cls := .none, data := .fields ps }
    exact k a _ (.inl rfl) e
  | met f y =>
    have e : h.get? a = some (PySem.W.methodObj (.ref f) (.ref y)) := x
    show h'.get? a = some (PySem.W.methodObj (.ref f) (.ref y))
    exact k a _ (.inl rfl) e
  | ext φ => obtain ⟨p, ⟨o, e⟩, st⟩ := x; exact ⟨st _ _ p fun o q => k _ _ (.inl rfl) q, ⟨o, k _ _ (.inl rfl) e⟩, st⟩
theorem HOk.lt (x : HOk P w H h) (e : H a = some o) : a < h.objs.size := (x a o e).lt
theorem HOk.fresh (x : HOk P w H h) (e : h.objs.size ≤ a) : H a = none := by
  cases q : H a with
  | none => rfl
  | some u => exact absurd (Nat.lt_of_lt_of_le (x.lt q) e) (Nat.lt_irrefl _)
theorem HOk.kept (x : HOk P w H h) (k : ∀ b u, h.get? b = some u → h'.get? b = some u) : HOk P w H h' := fun a o e =>
  (x a o e).stay (fun b u _ q => k b u q) (fun _ q => q) fun _ _ q => q
theorem HOk.laid (x : HOk P w H h) (k : ∀ b u, h.get? b = some u → h'.get? b = some u) (hp : h.objs.size ≤ a) (new : ObjOk P w (upd H a o) h' a o) : HOk P w (upd H a o) h' := fun b u e => by
  have hn := x.fresh hp
  by_cases hb : b = a
  · subst hb; rw [upd_same] at e; cases e; exact new
  · rw [upd_ne hb] at e
    exact (x b u e).stay (fun c v _ q => k c v q) (fun c q => by rw [upd_ne (ne_of_none q hn)]; exact q) fun c xs q => by rw [upd_ne (ne_of_none q hn)]; exact q
end

noncomputable def Rd (H : Hp) (a : Addr) (u : HO) : Prop := H a = some u ∨ ∃ o, H a = some (.frz o u)
theorem Rd.of {H : Hp} {a : Addr} {u : HO} (h : H a = some u) : Rd H a u := .inl h
theorem Rd.ok {P : Program} {w : World} {H : Hp} {h : Heap} {a : Addr} {u : HO} (r : Rd H a u) (x : HOk P w H h) : ObjOk P w H h a u := by
  rcases r with r | ⟨o, r⟩
  · exact x a u r
  · obtain ⟨_, q⟩ := x a _ r
    exact q
noncomputable def Mut : Option HO → Prop
  | some (.lst _) => True
  | some (.dK _) => True
  | some (.dT _) => True
  | some (.set _ _) => True
  | some (.ins _ _ _) => True
  | some (.ext _) => True
  | _ => False
section
variable {P : Program} {w : World} {H : Hp} {h h' : Heap} {x e : Addr} {o' : HO}
theorem HOk.write (ok : HOk P w H h) (mu : Mut (H x)) (he : e = x ∨ H e = some (.own x)) (k : ∀ b u, b ≠ e → h.get? b = some u → h'.get? b = some u) (heo : ∃ u, h'.get? e = some u)
    (new : ObjOk P w (upd H x o') h' x o') : HOk P w (upd H x o') h' := fun b u q => by
  have nown : ∀ c y, H c = some (.own y) → c ≠ x := fun c y r z => by subst z; rw [r] at mu; exact mu
  have ntup : ∀ c xs, H c = some (.tup xs) → c ≠ x := fun c xs r z => by subst z; rw [r] at mu; exact mu
  by_cases hb : b = x
  · subst hb; rw [upd_same] at q; cases q; exact new
  · rw [upd_ne hb] at q
    by_cases hbe : b = e
    · have q' : H b = some (.own x) := by
        rcases he with z | z
        · exact absurd (hbe.trans z) hb
        · rw [hbe]; exact z
      rw [q] at q'; cases q'
      obtain ⟨v, hv⟩ := heo
      exact ⟨v, by rw [hbe]; exact hv⟩
    · refine (ok b u q).stay (fun c v hc r => k c v ?_ r) (fun c r => by rw [upd_ne (nown c b r)]; exact r) fun c xs r => by rw [upd_ne (ntup c xs r)]; exact r
      rcases hc with rfl | hc
      · exact hbe
      · rintro rfl
        rcases he with z | z
        · exact nown c b hc z
        · rw [hc] at z; cases z; exact hb rfl
end

structure Un (fs ex : List Addr) (H H' : Hp) (h h' : Heap) : Prop where
  keep : ∀ b o, h.get? b = some o → H b = none → b ∉ fs → b ∉ ex → h'.get? b = some o
  slot : ∀ b o, h.get? b = some o → H b = none → b ∈ fs → b ∉ ex → ∃ sl, h'.get? b = some { o with slots := sl }
  free : ∀ b o, h.get? b = some o → H b = none → b ∉ ex → H' b = none
  there : ∀ b o, h.get? b = some o → b ∉ ex → ∃ o', h'.get? b = some o'
  tups : ∀ b xs, H b = some (.tup xs) → H' b = some (.tup xs)
  frzs : ∀ b o u, H b = some (.frz o u) → H' b = some (.frz o u)
  tbls : ∀ b ps, H b = some (.tbl ps) → ∃ more, H' b = some (.tbl (ps ++ more))
section
variable {fs fs' ex ex' : List Addr} {H H1 H2 : Hp} {h h1 h2 h' : Heap} {a x e : Addr} {o : HO}
theorem Un.any (u : Un fs ex H H1 h h1) {b : Addr} {ob : Obj} (q : h.get? b = some ob) (n : H b = none) (hx : b ∉ ex) : ∃ sl, h1.get? b = some { ob with slots := sl } := by
  by_cases hb : b ∈ fs
  · exact u.slot b ob q n hb hx
  · exact ⟨ob.slots, u.keep b ob q n hb hx⟩
theorem Un.trans (a : Un fs ex H H1 h h1) (b : Un fs ex H1 H2 h1 h2) : Un fs ex H H2 h h2 where
  keep := fun c ob q n hc hx => b.keep c ob (a.keep c ob q n hc hx) (a.free c ob q n hx) hc hx
  slot := fun c ob q n hc hx => by
    obtain ⟨sl, e1⟩ := a.slot c ob q n hc hx
    obtain ⟨sl', e2⟩ := b.slot c _ e1 (a.free c ob q n hx) hc hx
    exact ⟨sl', e2⟩
  free := fun c ob q n hx => by
    obtain ⟨o', e1⟩ := a.there c ob q hx
    exact b.free c o' e1 (a.free c ob q n hx) hx
  there := fun c ob q hx => by
    obtain ⟨o', e1⟩ := a.there c ob q hx
    exact b.there c o' e1 hx
  tups := fun c xs q => b.tups c xs (a.tups c xs q)
  frzs := fun c ob xs q => b.frzs c ob xs (a.frzs c ob xs q)
  tbls := fun c ps q => by
    obtain ⟨m1, e1⟩ := a.tbls c ps q
    obtain ⟨m2, e2⟩ := b.tbls c _ e1
    exact ⟨m1 ++ m2, by rw [e2, Array.append_assoc]⟩
theorem Un.kept (k : ∀ b u, h.get? b = some u → h'.get? b = some u) : Un fs ex H H h h' :=
  ⟨fun b ob q _ _ _ => k b ob q, fun b ob q _ _ _ => ⟨ob.slots, k b ob q⟩, fun _ _ _ n _ => n, fun b ob q _ => ⟨ob, k b ob q⟩, fun _ _ q => q, fun _ _ _ q => q, fun _ ps q => ⟨#[], by rw [q]; simp⟩⟩
theorem Un.refl : Un fs ex H H h h := Un.kept fun _ _ q => q
theorem Un.laid (k : ∀ b u, h.get? b = some u → h'.get? b = some u) (hp : h.objs.size ≤ a) (hn : H a = none) : Un fs ex H (upd H a o) h h' where
  keep := fun b u q _ _ _ => k b u q
  slot := fun b u q _ _ _ => ⟨u.slots, k b u q⟩
  free := fun b u q n _ => by rw [upd_ne (Nat.ne_of_lt (Nat.lt_of_lt_of_le (Heap.lt_size q) hp))]; exact n
  there := fun b u q _ => ⟨u, k b u q⟩
  tups := fun b xs q => by rw [upd_ne (ne_of_none q hn)]; exact q
  frzs := fun b u xs q => by rw [upd_ne (ne_of_none q hn)]; exact q
  tbls := fun b ps q => ⟨#[], by rw [upd_ne (ne_of_none q hn), q]; simp⟩
theorem Un.write (mu : Mut (H x)) (he : e = x ∨ H e = some (.own x)) (k : ∀ b u, b ≠ e → h.get? b = some u → h'.get? b = some u) (heo : ∃ u, h'.get? e = some u) : Un fs ex H (upd H x o) h h' := by
  have hx : ∀ b, H b = none → b ≠ x := fun b n z => by subst z; rw [n] at mu; exact mu
  have hb : ∀ b, H b = none → b ≠ e := fun b n z => by
    subst z
    rcases he with r | r
    · exact hx b n r
    · rw [n] at r; cases r
  have hm : ∀ b u, H b = some u → ¬ Mut (some u) → b ≠ x := fun b u q nm z => by subst z; rw [q] at mu; exact nm mu
  refine ⟨fun b u q n _ _ => k b u (hb b n) q, fun b u q n _ _ => ⟨u.slots, k b u (hb b n) q⟩, fun b u q n _ => by rw [upd_ne (hx b n)]; exact n, fun b u q _ => ?_,
    fun b xs q => by rw [upd_ne (hm b _ q fun z => z)]; exact q, fun b u xs q => by rw [upd_ne (hm b _ q fun z => z)]; exact q, fun b ps q => ⟨#[], by rw [upd_ne (hm b _ q fun z => z), q]; simp⟩⟩
  by_cases hbe : b = e
  · subst hbe; exact heo
  · exact ⟨u, k b u hbe q⟩
theorem Un.mono (u : Un fs ex H H1 h h1) (hs : ∀ b ∈ fs, b ∈ fs') (hx : ∀ b ∈ ex, b ∈ ex') : Un fs' ex' H H1 h h1 :=
  ⟨fun b ob q n hb he => u.keep b ob q n (fun z => hb (hs b z)) fun z => he (hx b z), fun _ _ q n _ he => u.any q n fun z => he (hx _ z), fun b ob q n he => u.free b ob q n fun z => he (hx b z), fun b ob q he => u.there b ob q fun z => he (hx b z), u.tups, u.frzs, u.tbls⟩
end

noncomputable def trk (h : Heap) (H : Hp) : List Addr := (List.range h.objs.size).filter fun a => (H a).isSome
noncomputable def hidT (h : Heap) (H : Hp) : Heap := PySem.W.hideAll h (trk h H)
theorem hidT_size (h : Heap) (H : Hp) : (hidT h H).objs.size = h.objs.size := PySem.W.hideAll_size _ _
theorem hidT_get {h : Heap} {H : Hp} {b : Addr} {o : Obj} (e : h.get? b = some o) (n : H b = none) : (hidT h H).get? b = some o :=
  PySem.W.hideAll_get _ e fun hm => by
    have q : (H b).isSome = true := (List.mem_filter.mp hm).2
    rw [n] at q; simp at q
theorem of_hidT {h : Heap} {H : Hp} {b : Addr} {o : Obj} (e : (hidT h H).get? b = some o) : h.get? b = some o ∧ H b = none := by
  have e' : h.get? b = some o := PySem.W.of_hideAll (trk h H) e
  refine ⟨e', ?_⟩
  cases q : H b with
  | none => rfl
  | some x =>
    have hm : b ∈ trk h H := List.mem_filter.mpr ⟨List.mem_range.mpr (Heap.lt_size e'), by simp [q]⟩
    have z : (hidT h H).get? b = none := PySem.W.hideAll_none (trk h H) hm
    rw [z] at e; cases e

noncomputable def allNews (g h : Heap) (L : Addr) : List (Addr × Obj) := (List.range h.objs.size).filterMap fun a => if a = L ∨ (g.get? a).isSome = true then none else (h.get? a).map fun o => (a, o)
noncomputable def rest (g h : Heap) (L d : Addr) : List (Addr × Obj) := (allNews g h L).filter fun p => decide (p.1 ≠ d)
end L2

namespace L2
open PySem PySem.Spec PyProof.Rows

structure Mod (K : PySem.W.Frag) (mg : Str → Option Value) (base : Heap) : Prop where
  kin : K.In base
  glob : base.Ns mainGlobals mg
  blt : ∃ mb, base.Ns builtinsNs mb ∧ ∀ x : Str, x ≠ "__name__" → mb x = bootBuiltins x
  nolimit : base.NoLimit

/-- the context: a def's body (or a comprehension's block) running. base: fixed through the whole law; s₀, H₀: the entry; outer: the frames whose slots others may change (a def's callers); stack: all frames that run;
   ex: iterators that were made ahead of the entry and are walked here (a comprehension's); fn: the names whose cells were made at the entry (a def: all; a comprehension's block: its own); calm: not within an except suite; pn: pins that every state bears; xe: what is wanted of an exception that leaves the code -/
structure Cx where
  prog : Program
  w : World
  K : PySem.W.Frag
  mg : Str → Option Value
  base : Heap
  A : Around
  N : List Str
  s₀ : Shared
  H₀ : Hp
  env : Env
  outer : List Env
  stack : List Env
  ex : List Addr
  fn : Str → Bool
  calm : Bool
  pn : List (Addr × Obj)
  xe : Value → Shared → Prop
noncomputable def frs (l : List Env) : List Addr := l.filterMap (·.frame)
noncomputable abbrev Cx.fs (X : Cx) : List Addr := frs X.outer

noncomputable def Vis (sc : Scope) (x : Str) : Prop := sc.names.lookup x = some .local ∨ sc.names.lookup x = some .cell ∨ sc.names.lookup x = some .free
noncomputable def Loc (sc : Scope) (x : Str) : Prop := sc.names.lookup x = some .local ∨ sc.names.lookup x = some .cell
noncomputable def Look (env : Env) (h : Heap) (m : Str → Option Value) (x : Str) (u : Value) : Prop :=
  (env.kindOf x = some .local ∧ m x = some u) ∨ ((env.kindOf x = some .cell ∨ env.kindOf x = some .free) ∧ ∃ c, env.cells.lookup x = some c ∧ h.IsCell c (some u))

structure Cx.Ok (X : Cx) : Prop where
  mod : Mod X.K X.mg X.base
  kind : X.env.scope.kind = .function
  glob : X.env.globals = mainGlobals
  blt : X.env.builtins = builtinsNs
  above : X.s₀.heap.objs.size ≤ X.env.locals
  inj : ∀ x y c, X.env.cells.lookup x = some c → X.env.cells.lookup y = some c → x = y
  has : ∀ x, (X.env.kindOf x = some .cell ∨ X.env.kindOf x = some .free) → ∃ c, X.env.cells.lookup x = some c
  cab : ∀ x c, X.fn x = true → X.env.cells.lookup x = some c → X.s₀.heap.objs.size ≤ c
  hd : X.calm = true → X.A.handled = none
  frames : X.A.frames = some X.stack
  stk : X.stack = X.outer ∨ (X.stack = X.env :: X.outer ∧ X.env.frame = some X.env.locals)
  exf : ∀ b ∈ X.ex, b ≠ X.env.locals ∧ ∀ x c, X.env.cells.lookup x = some c → c ≠ b
  bs : ∀ b o, X.base.get? b = some o → X.s₀.heap.get? b = some o ∧ X.H₀ b = none
  bsz : X.base.objs.size ≤ X.s₀.heap.objs.size
  noex : ∀ b o, X.base.get? b = some o → b ∉ X.ex
  exfs : ∀ b ∈ X.ex, b ∉ X.fs
  funs : X.s₀.heap.FunFrames X.base X.outer
  frf : ∀ b ∈ X.fs, X.H₀ b = none

structure Inv (X : Cx) (pins : List (Addr × Obj)) (σ : List (Option V)) (H : Hp) (s : Shared) : Prop where
  ok : X.Ok
  os : s.os = X.s₀.os
  bare : AllBare s.gens
  base : Un X.fs X.ex X.H₀ H X.s₀.heap s.heap
  loc : ∃ m, s.heap.Ns X.env.locals m ∧ ∀ (i : Nat) (x : Str) (v : V), X.N[i]? = some x → σ[i]? = some (some v) → Vis X.env.scope x → ∃ u, RelV v u ∧ Look X.env s.heap m x u
  cell : ∀ x c, X.env.cells.lookup x = some c → ∃ v, s.heap.IsCell c v
  free : H X.env.locals = none
  freeC : ∀ x c, X.env.cells.lookup x = some c → H c = none
  pin : ∀ p ∈ X.pn ++ pins, s.heap.get? p.1 = some p.2 ∧ H p.1 = none ∧ p.1 ≠ X.env.locals ∧ p.1 ∉ X.fs ∧ ∀ v, p.2.data ≠ .cell v
  hok : HOk X.prog X.w H s.heap
  len : σ.length = X.N.length

section
variable {X : Cx} {pins : List (Addr × Obj)} {σ : List (Option V)} {H H' : Hp} {s : Shared} {h' : Heap}

theorem Cx.Ok.nofr (ok : X.Ok) {b : Addr} {o : Obj} (e : X.base.get? b = some o) : b ∉ X.fs := fun hb => by
  have := (ok.funs.mem hb).1
  rw [e] at this; cases this
theorem Inv.bs (I : Inv X pins σ H s) : ∀ b o, X.base.get? b = some o → s.heap.get? b = some o ∧ H b = none := fun b o e =>
  ⟨I.base.keep b o (I.ok.bs b o e).1 (I.ok.bs b o e).2 (I.ok.nofr e) (I.ok.noex b o e), I.base.free b o (I.ok.bs b o e).1 (I.ok.bs b o e).2 (I.ok.noex b o e)⟩
theorem Inv.bk (I : Inv X pins σ H s) : ∀ b o, X.base.get? b = some o → s.heap.get? b = some o := fun b o e => (I.bs b o e).1
theorem Inv.mod (I : Inv X pins σ H s) : Mod X.K X.mg X.base := I.ok.mod
theorem Inv.kIn (I : Inv X pins σ H s) : X.K.In s.heap := I.ok.mod.kin.keeps I.bk
theorem Inv.nolimit (I : Inv X pins σ H s) : s.heap.NoLimit := I.ok.mod.nolimit.keeps I.bk
theorem Inv.fr (I : Inv X pins σ H s) : ∃ m, Fr X.base X.env.locals s.heap m :=
  let ⟨m, hn, _⟩ := I.loc
  ⟨m, hn, I.bk, Nat.le_trans I.ok.bsz I.ok.above⟩
theorem Inv.lt (I : Inv X pins σ H s) : X.env.locals < s.heap.objs.size := let ⟨_, hn, _⟩ := I.loc; hn.lt
theorem Inv.sz (I : Inv X pins σ H s) : X.s₀.heap.objs.size ≤ s.heap.objs.size := Nat.le_trans I.ok.above (Nat.le_of_lt I.lt)
theorem Inv.nofs (I : Inv X pins σ H s) {a : Addr} (h : s.heap.objs.size ≤ a) : a ∉ X.fs := fun hb => by
  obtain ⟨_, o, ho, _⟩ := I.ok.funs.mem hb
  exact absurd (Nat.lt_of_lt_of_le (Heap.lt_size ho) (Nat.le_trans I.sz h)) (Nat.lt_irrefl _)
theorem Inv.cne (I : Inv X pins σ H s) : ∀ x c, X.env.cells.lookup x = some c → c ≠ X.env.locals := fun x c e z => by
  obtain ⟨v, o, ho, hd⟩ := I.cell x c e
  obtain ⟨m, ⟨o', es, ep, ho', hd', _⟩, _⟩ := I.loc
  rw [z, ho'] at ho; cases ho; rw [hd'] at hd; cases hd
theorem Inv.funs (I : Inv X pins σ H s) : s.heap.FunFrames X.base X.outer := by
  have all : ∀ (l : List Env), (∀ b ∈ frs l, b ∈ X.fs) → X.s₀.heap.FunFrames X.base l → s.heap.FunFrames X.base l := by
    intro l
    induction l with
    | nil => intro _ _; trivial
    | cons env r ih =>
      intro hs hl
      obtain ⟨hk, ⟨L, o, hf, hn, ho, hd⟩, hr⟩ := hl
      have hL : L ∈ X.fs := hs L (by unfold frs; rw [List.filterMap_cons, hf]; exact List.mem_cons_self)
      obtain ⟨sl, e⟩ := I.base.slot L o ho (I.ok.frf L hL) hL fun z => I.ok.exfs L z hL
      exact ⟨hk, ⟨L, _, hf, hn, e, hd⟩, ih (fun b hb => hs b (by unfold frs; rw [List.filterMap_cons, hf]; exact List.mem_cons_of_mem _ hb)) hr⟩
  exact all X.outer (fun _ hb => hb) I.ok.funs

theorem Inv.stack (I : Inv X pins σ H s) : s.heap.FunFrames X.base X.stack := by
  rcases I.ok.stk with e | ⟨e, hf⟩
  · rw [e]; exact I.funs
  · rw [e]
    obtain ⟨m, hn, _⟩ := I.loc
    refine .cons (by rw [I.ok.kind]; decide) hf hn ?_ I.funs
    exact Heap.get?_none_of_le (Nat.le_trans I.ok.bsz I.ok.above)
theorem Inv.stkSub (I : Inv X pins σ H s) : ∀ b ∈ frs X.stack, b ∈ X.env.locals :: X.fs := fun b hb => by
  rcases I.ok.stk with e | ⟨e, hf⟩
  · rw [e] at hb; exact List.mem_cons_of_mem _ hb
  · rw [e] at hb
    unfold frs at hb
    rw [List.filterMap_cons, hf] at hb
    exact hb
theorem Inv.stkFree (I : Inv X pins σ H s) : ∀ b ∈ frs X.stack, H b = none := fun b hb => by
  rcases List.mem_cons.mp (I.stkSub b hb) with e | hb
  · rw [e]; exact I.free
  · obtain ⟨_, o, ho, _⟩ := I.ok.funs.mem hb
    exact I.base.free b o ho (I.ok.frf b hb) fun z => I.ok.exfs b z hb

theorem Inv.step {g' : Array GenState} {t' : Nat} {d' : Drawn} {ch : List Addr} (I : Inv X pins σ H s)
    (hch : ∀ b ∈ ch, (b ∈ X.ex ∨ X.s₀.heap.objs.size ≤ b) ∧ b ≠ X.env.locals ∧ (∀ x c, X.env.cells.lookup x = some c → c ≠ b) ∧ ∀ p ∈ X.pn ++ pins, p.1 ≠ b)
    (keep : ∀ b o, b ≠ X.env.locals → b ∉ X.fs → b ∉ ch → s.heap.get? b = some o → H b = none → h'.get? b = some o)
    (slot : ∀ b o, b ≠ X.env.locals → b ∈ X.fs → b ∉ ch → s.heap.get? b = some o → H b = none → ∃ sl, h'.get? b = some { o with slots := sl }) (free : ∀ b o, b ∉ ch → s.heap.get? b = some o → H b = none → H' b = none)
    (there : ∀ b o, b ∉ ch → s.heap.get? b = some o → ∃ o', h'.get? b = some o')
    (tups : ∀ b xs, H b = some (.tup xs) → H' b = some (.tup xs)) (frzs : ∀ b o u, H b = some (.frz o u) → H' b = some (.frz o u)) (tbls : ∀ b ps, H b = some (.tbl ps) → ∃ more, H' b = some (.tbl (ps ++ more)))
    (ns : ∀ m, s.heap.Ns X.env.locals m → h'.Ns X.env.locals m) (hok : HOk X.prog X.w H' h') (hg : AllBare g') :
    Inv X pins σ H' { s with heap := h', gens := g', drawn := d', toks := t' } := by
  have neL : ∀ b o, X.s₀.heap.get? b = some o → b ≠ X.env.locals := fun b o e => Nat.ne_of_lt (Nat.lt_of_lt_of_le (Heap.lt_size e) I.ok.above)
  have neC : ∀ b o, X.s₀.heap.get? b = some o → b ∉ X.ex → b ∉ ch := fun b o e hx hb => by
    rcases (hch b hb).1 with z | z
    · exact hx z
    · exact absurd (Nat.lt_of_lt_of_le (Heap.lt_size e) z) (Nat.lt_irrefl _)
  have cellK : ∀ x c, X.env.cells.lookup x = some c → ∀ v, s.heap.IsCell c v → h'.IsCell c v := fun x c e v ⟨o, ho, hd⟩ => by
    have nch : c ∉ ch := fun z => (hch c z).2.2.1 x c e rfl
    by_cases hc : c ∈ X.fs
    · obtain ⟨sl, q⟩ := slot c o (I.cne x c e) hc nch ho (I.freeC x c e)
      exact ⟨_, q, hd⟩
    · exact ⟨o, keep c o (I.cne x c e) hc nch ho (I.freeC x c e), hd⟩
  refine ⟨I.ok, I.os, hg, ⟨fun b o e n hb hx => ?_, fun b o e n hb hx => ?_, fun b o e n hx => ?_, fun b o e hx => ?_, fun b xs e => tups b xs (I.base.tups b xs e), fun b o xs e => frzs b o xs (I.base.frzs b o xs e), fun b ps e => ?_⟩, ?_, fun x c e => ?_, ?_, fun x c e => ?_, fun p hp => ?_, hok, I.len⟩
  · exact keep b o (neL b o e) hb (neC b o e hx) (I.base.keep b o e n hb hx) (I.base.free b o e n hx)
  · obtain ⟨sl, e1⟩ := I.base.slot b o e n hb hx
    obtain ⟨sl', e2⟩ := slot b _ (neL b o e) hb (neC b o e hx) e1 (I.base.free b o e n hx)
    exact ⟨sl', e2⟩
  · obtain ⟨o', e1⟩ := I.base.there b o e hx
    exact free b o' (neC b o e hx) e1 (I.base.free b o e n hx)
  · obtain ⟨o', e1⟩ := I.base.there b o e hx
    exact there b o' (neC b o e hx) e1
  · obtain ⟨m1, e1⟩ := I.base.tbls b ps e
    obtain ⟨m2, e2⟩ := tbls b _ e1
    exact ⟨m1 ++ m2, by rw [e2, Array.append_assoc]⟩
  · obtain ⟨m, hn, hl⟩ := I.loc
    refine ⟨m, ns m hn, fun i x v e1 e2 e3 => ?_⟩
    obtain ⟨u, r, l⟩ := hl i x v e1 e2 e3
    refine ⟨u, r, ?_⟩
    rcases l with l | ⟨k, c, e, z⟩
    · exact .inl l
    · exact .inr ⟨k, c, e, cellK x c e _ z⟩
  · obtain ⟨v, z⟩ := I.cell x c e
    exact ⟨v, cellK x c e v z⟩
  · obtain ⟨m, ⟨o, _, _, ho, _⟩, _⟩ := I.loc
    exact free _ o (fun z => (hch _ z).2.1 rfl) ho I.free
  · obtain ⟨v, o, ho, hd⟩ := I.cell x c e
    exact free c o (fun z => (hch c z).2.2.1 x c e rfl) ho (I.freeC x c e)
  · obtain ⟨e, n, ne, nf, d⟩ := I.pin p hp
    have nch : p.1 ∉ ch := fun z => (hch p.1 z).2.2.2 p hp rfl
    exact ⟨keep p.1 p.2 ne nf nch e n, free p.1 p.2 nch e n, ne, nf, d⟩
theorem Inv.un {t' : Nat} (I : Inv X pins σ H s) (u : Un X.fs [] H H' s.heap h') (hok : HOk X.prog X.w H' h') : Inv X pins σ H' { s with heap := h', toks := t' } := by
  obtain ⟨m, ⟨o, es, ep, ho, r⟩, _⟩ := id I.loc
  obtain ⟨sl, hL⟩ := u.any ho I.free (by simp)
  exact I.step (g' := s.gens) (d' := s.drawn) (ch := []) (fun _ z => nomatch z) (fun b o _ hb _ e n => u.keep b o e n hb (by simp)) (fun b o _ hb _ e n => u.slot b o e n hb (by simp)) (fun b o _ e n => u.free b o e n (by simp)) (fun b o _ e => u.there b o e (by simp)) u.tups u.frzs u.tbls (fun m' hm => by
    obtain ⟨o', es', ep', ho', r'⟩ := hm
    rw [ho] at ho'; cases ho'
    exact ⟨_, es', ep', hL, r'⟩) hok I.bare
theorem Inv.call {g' : Array GenState} {t' : Nat} {d' : Drawn} {ch : List Addr} (I : Inv X pins σ H s) (u : Un (frs X.stack) ch H H' s.heap h') (hok : HOk X.prog X.w H' h') (hg : AllBare g')
    (hch : ∀ b ∈ ch, (b ∈ X.ex ∨ X.s₀.heap.objs.size ≤ b) ∧ b ≠ X.env.locals ∧ (∀ x c, X.env.cells.lookup x = some c → c ≠ b) ∧ ∀ p ∈ X.pn ++ pins, p.1 ≠ b) :
    Inv X pins σ H' { s with heap := h', gens := g', drawn := d', toks := t' } := by
  obtain ⟨m, ⟨o, es, ep, ho, r⟩, _⟩ := id I.loc
  obtain ⟨sl, hL⟩ := u.any ho I.free fun z => (hch _ z).2.1 rfl
  exact I.step (ch := ch) hch (fun b o hL hb hc e n => u.keep b o e n (fun z => (List.mem_cons.mp (I.stkSub b z)).elim hL hb) hc) (fun b o _ _ hc e n => u.any e n hc) (fun b o hc e n => u.free b o e n hc) (fun b o hc e => u.there b o e hc) u.tups u.frzs u.tbls (fun m' hm => by
    obtain ⟨o', es', ep', ho', r'⟩ := hm
    rw [ho] at ho'; cases ho'
    exact ⟨_, es', ep', hL, r'⟩) hok hg
theorem Inv.turned {t' : Nat} {it : Addr} (I : Inv X pins σ H s) (k : ∀ b o, b ≠ it → s.heap.get? b = some o → h'.get? b = some o) (hn : H it = none) (hL : it ≠ X.env.locals)
    (h1 : it ∈ X.ex ∨ X.s₀.heap.objs.size ≤ it) (h2 : ∀ x c, X.env.cells.lookup x = some c → c ≠ it) (h3 : ∀ p ∈ X.pn ++ pins, p.1 ≠ it) : Inv X pins σ H { s with heap := h', toks := t' } := by
  have nit : ∀ b u, H b = some u → b ≠ it := fun b u e z => by rw [z, hn] at e; cases e
  refine I.step (g' := s.gens) (d' := s.drawn) (ch := [it]) (fun b hb => ?_) (fun b o _ _ hc e _ => k b o (fun z => hc (by simp [z])) e) (fun b o _ _ hc e _ => ⟨o.slots, k b o (fun z => hc (by simp [z])) e⟩) (fun _ _ _ _ n => n)
    (fun b o hc e => ⟨o, k b o (fun z => hc (by simp [z])) e⟩) (fun _ _ e => e) (fun _ _ _ e => e) (fun b ps e => ⟨#[], by rw [e]; simp⟩) (fun m hm => ?_) (fun b u e => ?_) I.bare
  · have e : b = it := by simpa using hb
    subst e
    exact ⟨h1, hL, h2, h3⟩
  · obtain ⟨o, es, ep, ho, r⟩ := hm
    exact ⟨o, es, ep, k _ o (Ne.symm hL) ho, r⟩
  · refine (I.hok b u e).stay (fun c v hc q => k c v ?_ q) (fun _ q => q) fun _ _ q => q
    rcases hc with z | z
    · rw [z]; exact nit b u e
    · exact nit c _ z
theorem Inv.tok (I : Inv X pins σ H s) (t : Nat) : Inv X pins σ H { s with toks := t } := I.un (h' := s.heap) (t' := t) Un.refl I.hok
theorem Inv.kept {t' : Nat} (I : Inv X pins σ H s) (k : ∀ b u, s.heap.get? b = some u → h'.get? b = some u) : Inv X pins σ H { s with heap := h', toks := t' } := I.un (Un.kept k) (I.hok.kept k)
theorem Inv.laid {a : Addr} {o : HO} {t' : Nat} (I : Inv X pins σ H s) (k : ∀ b u, s.heap.get? b = some u → h'.get? b = some u) (hp : s.heap.objs.size ≤ a) (new : ObjOk X.prog X.w (upd H a o) h' a o) :
    Inv X pins σ (upd H a o) { s with heap := h', toks := t' } := I.un (Un.laid k hp (I.hok.fresh hp)) (I.hok.laid k hp new)
theorem Inv.write {x e : Addr} {o : HO} {t' : Nat} (I : Inv X pins σ H s) (mu : Mut (H x)) (he : e = x ∨ H e = some (.own x)) (k : ∀ b u, b ≠ e → s.heap.get? b = some u → h'.get? b = some u) (heo : ∃ u, h'.get? e = some u)
    (new : ObjOk X.prog X.w (upd H x o) h' x o) : Inv X pins σ (upd H x o) { s with heap := h', toks := t' } := I.un (Un.write mu he k heo) (I.hok.write mu he k heo new)
theorem Inv.weak {σ' : List (Option V)} (I : Inv X pins σ H s) (hl : σ'.length = σ.length) (w : ∀ (i : Nat) v, σ'[i]? = some (some v) → σ[i]? = some (some v)) : Inv X pins σ' H s :=
  ⟨I.ok, I.os, I.bare, I.base, let ⟨m, hn, hl'⟩ := I.loc; ⟨m, hn, fun i x v e1 e2 e3 => hl' i x v e1 (w i v e2) e3⟩, I.cell, I.free, I.freeC, I.pin, I.hok, hl.trans I.len⟩
theorem Inv.pins_of {pins' : List (Addr × Obj)} (I : Inv X pins σ H s) (h : ∀ p ∈ pins', s.heap.get? p.1 = some p.2 ∧ H p.1 = none ∧ p.1 ≠ X.env.locals ∧ p.1 ∉ X.fs ∧ ∀ v, p.2.data ≠ .cell v) : Inv X pins' σ H s :=
  ⟨I.ok, I.os, I.bare, I.base, I.loc, I.cell, I.free, I.freeC, fun p hp => (List.mem_append.mp hp).elim (fun z => I.pin p (List.mem_append_left _ z)) (h p), I.hok, I.len⟩

theorem nodup_ix {N : List Str} (hN : N.Nodup) {i j : Nat} {x : Str} (a : N[i]? = some x) (b : N[j]? = some x) : i = j := by
  obtain ⟨h1, e1⟩ := List.getElem?_eq_some_iff.mp a
  obtain ⟨h2, e2⟩ := List.getElem?_eq_some_iff.mp b
  exact (List.getElem_inj hN).mp (e1.trans e2.symm)

theorem store_ok2 {M : Model} {A : Around} {E : Value → Shared → Prop} {i : Nat} {x : Str} {v : V} {u : Value} {Q : Unit → Shared → Prop} (I : Inv X pins σ H s) (hN : X.N.Nodup) (hi : X.N[i]? = some x) (hx : Loc X.env.scope x) (r : RelV v u)
    (h : ∀ s', Inv X pins (σ.set i (some v)) H s' → (∃ a, Heap.SameBut a s.heap s'.heap ∧ (a = X.env.locals ∨ X.env.cells.lookup x = some a)) → Q () s') (hf : X.fn x = true ∨ X.env.scope.names.lookup x = some .local := by first | exact .inl rfl | exact .inr rfl | assumption) : wpAny M A (storeName X.env x u) Q E s := by
  obtain ⟨m, hn, hl⟩ := id I.loc
  have hcls : (X.env.scope.kind == .class || (X.env.scope.kind == .module && X.env.locals != X.env.globals)) = false := by rw [I.ok.kind]; rfl
  have hiσ : i < σ.length := by rw [I.len]; exact (List.getElem?_eq_some_iff.mp hi).1
  have cne := I.cne
  have tracked : ∀ {a : Addr} {h' : Heap}, (∃ o, s.heap.get? a = some o ∧ H a = none) → Heap.SameBut a s.heap h' → HOk X.prog X.w H h' := fun {a h'} ha hs b ob e => by
    obtain ⟨_, _, hfree⟩ := ha
    refine (I.hok b ob e).stay (fun c w' hc q => (hs.2 c ?_).trans q) (fun _ q => q) fun _ _ q => q
    rintro rfl
    rcases hc with rfl | hc
    · rw [hfree] at e; cases e
    · rw [hfree] at hc; cases hc
  rcases hx with hk | hk
  · refine wpAny_storeName_local hk hn (fun h' hn' hs => ?_) hcls
    obtain ⟨oL, _, _, hoL, _⟩ := id hn
    refine h _ ⟨I.ok, I.os, I.bare, ⟨fun b o e n hb hx => ?_, fun b o e n hb hx => ?_, I.base.free, fun b o e hx => ?_, I.base.tups, I.base.frzs, I.base.tbls⟩, ⟨_, hn', fun j y v' e1 e2 e3 => ?_⟩, fun y c e => ?_, I.free, I.freeC, fun p hp => ?_, tracked ⟨oL, hoL, I.free⟩ hs, by simpa using I.len⟩ ⟨_, hs, .inl rfl⟩
    · exact (hs.2 b (Nat.ne_of_lt (Nat.lt_of_lt_of_le (Heap.lt_size e) I.ok.above))).trans (I.base.keep b o e n hb hx)
    · obtain ⟨sl, e1⟩ := I.base.slot b o e n hb hx
      exact ⟨sl, (hs.2 b (Nat.ne_of_lt (Nat.lt_of_lt_of_le (Heap.lt_size e) I.ok.above))).trans e1⟩
    · obtain ⟨o', e1⟩ := I.base.there b o e hx
      exact ⟨o', (hs.2 b (Nat.ne_of_lt (Nat.lt_of_lt_of_le (Heap.lt_size e) I.ok.above))).trans e1⟩
    · by_cases hj : j = i
      · subst hj
        rw [hi] at e1; cases e1
        rw [List.getElem?_set_self hiσ] at e2
        cases e2
        exact ⟨u, r, .inl ⟨hk, by simp⟩⟩
      · rw [List.getElem?_set_ne (Ne.symm hj)] at e2
        obtain ⟨u', r', q⟩ := hl j y v' e1 e2 e3
        refine ⟨u', r', ?_⟩
        rcases q with ⟨k, e⟩ | ⟨k, c, e, z⟩
        · refine .inl ⟨k, ?_⟩
          have : y ≠ x := fun e => hj (nodup_ix hN e1 (e ▸ hi))
          simp [this, e]
        · exact .inr ⟨k, c, e, z.sameBut hs (cne y c e)⟩
    · obtain ⟨w', z⟩ := I.cell y c e
      exact ⟨w', z.sameBut hs (cne y c e)⟩
    · obtain ⟨e, n, ne, nf, d⟩ := I.pin p hp
      exact ⟨(hs.2 p.1 ne).trans e, n, ne, nf, d⟩
  · have hfn : X.fn x = true := by
      rcases hf with z | z
      · exact z
      · rw [z] at hk; cases hk
    obtain ⟨c, hc⟩ := I.ok.has x (.inl hk)
    obtain ⟨w', z⟩ := I.cell x c hc
    refine wpAny_storeName_cell I.ok.kind hk hc z (fun h' hc' hs => ?_)
    obtain ⟨oc, hoc, hocd⟩ := id z
    refine h { s with heap := h' } ⟨I.ok, I.os, I.bare, ⟨fun b o e n hb hx => ?_, fun b o e n hb hx => ?_, I.base.free, fun b o e hx => ?_, I.base.tups, I.base.frzs, I.base.tbls⟩, ⟨m, hn.sameBut hs (Ne.symm (cne x c hc)), fun j y v' e1 e2 e3 => ?_⟩, fun y c' e => ?_, I.free, I.freeC, fun p hp => ?_, tracked ⟨oc, hoc, I.freeC x c hc⟩ hs, by simpa using I.len⟩ ⟨c, hs, .inr hc⟩
    · exact (hs.2 b (Nat.ne_of_lt (Nat.lt_of_lt_of_le (Heap.lt_size e) (I.ok.cab x c hfn hc)))).trans (I.base.keep b o e n hb hx)
    · obtain ⟨sl, e1⟩ := I.base.slot b o e n hb hx
      exact ⟨sl, (hs.2 b (Nat.ne_of_lt (Nat.lt_of_lt_of_le (Heap.lt_size e) (I.ok.cab x c hfn hc)))).trans e1⟩
    · obtain ⟨o', e1⟩ := I.base.there b o e hx
      exact ⟨o', (hs.2 b (Nat.ne_of_lt (Nat.lt_of_lt_of_le (Heap.lt_size e) (I.ok.cab x c hfn hc)))).trans e1⟩
    · by_cases hj : j = i
      · subst hj
        rw [hi] at e1; cases e1
        rw [List.getElem?_set_self hiσ] at e2
        cases e2
        exact ⟨u, r, .inr ⟨.inl hk, c, hc, hc'⟩⟩
      · rw [List.getElem?_set_ne (Ne.symm hj)] at e2
        obtain ⟨u', r', q⟩ := hl j y v' e1 e2 e3
        refine ⟨u', r', ?_⟩
        rcases q with q | ⟨k, c', e, z'⟩
        · exact .inl q
        · refine .inr ⟨k, c', e, z'.sameBut hs ?_⟩
          rintro rfl
          exact hj (nodup_ix hN e1 (I.ok.inj _ _ _ e hc ▸ hi))
    · by_cases hcc : c' = c
      · subst hcc; exact ⟨_, hc'⟩
      · obtain ⟨w2, z2⟩ := I.cell y c' e
        exact ⟨w2, z2.sameBut hs hcc⟩
    · obtain ⟨e, n, ne, nf, d⟩ := I.pin p hp
      refine ⟨(hs.2 p.1 ?_).trans e, n, ne, nf, d⟩
      intro q
      rw [q, hoc] at e
      have q' : oc = p.2 := Option.some.inj e
      exact d w' (by rw [← q']; exact hocd)
theorem store_ok {M : Model} {A : Around} {E : Value → Shared → Prop} {i : Nat} {x : Str} {v : V} {u : Value} {Q : Unit → Shared → Prop} (I : Inv X pins σ H s) (hN : X.N.Nodup) (hi : X.N[i]? = some x) (hx : Loc X.env.scope x) (r : RelV v u)
    (h : ∀ s', Inv X pins (σ.set i (some v)) H s' → Q () s') (hf : X.fn x = true ∨ X.env.scope.names.lookup x = some .local := by first | exact .inl rfl | exact .inr rfl | assumption) : wpAny M A (storeName X.env x u) Q E s :=
  store_ok2 I hN hi hx r (fun s' I' _ => h s' I') hf
theorem Inv.call' {s' : Shared} {ch : List Addr} (I : Inv X pins σ H s) (ho : s'.os = s.os) (u : Un (frs X.stack) ch H H' s.heap s'.heap) (hok : HOk X.prog X.w H' s'.heap) (hg : AllBare s'.gens)
    (hch : ∀ b ∈ ch, (b ∈ X.ex ∨ X.s₀.heap.objs.size ≤ b) ∧ b ≠ X.env.locals ∧ (∀ x c, X.env.cells.lookup x = some c → c ≠ b) ∧ ∀ p ∈ X.pn ++ pins, p.1 ≠ b) : Inv X pins σ H' s' := by
  obtain ⟨h', g', d', t', o'⟩ := s'
  have e : o' = s.os := ho
  subst e
  exact I.call (g' := g') (t' := t') (d' := d') u hok hg hch
end

noncomputable abbrev XK := Value → Option Addr → Hp → Prop
noncomputable abbrev St := List (Option V)
noncomputable abbrev VK := V → Hp → Prop
noncomputable abbrev TE := St → Hp → VK → Prop
noncomputable abbrev TT := St → Hp → (Bool → Hp → Prop) → Prop
noncomputable abbrev TA := St → Hp → (List V → Hp → Prop) → Prop
structure Ends where
  nx : St → Hp → Prop
  rt : VK
  bk : St → Hp → Prop := fun _ _ => False
  ct : St → Hp → Prop := fun _ _ => False
noncomputable abbrev TS := Ends → St → Hp → Prop

noncomputable def EP (X : Cx) (pins : List (Addr × Obj)) (σ : St) (Q : VK) (u : Value) (s' : Shared) : Prop := ∃ v H', Inv X pins σ H' s' ∧ RelV v u ∧ Q v H'
noncomputable def TP (X : Cx) (pins : List (Addr × Obj)) (σ : St) (Q : Bool → Hp → Prop) (b : Bool) (s' : Shared) : Prop := ∃ H', Inv X pins σ H' s' ∧ Q b H'
noncomputable def AP (X : Cx) (pins : List (Addr × Obj)) (σ : St) (Q : List V → Hp → Prop) (us : List Value) (s' : Shared) : Prop := ∃ vs H', Inv X pins σ H' s' ∧ Vals vs us ∧ Q vs H'
noncomputable def SP (X : Cx) (pins : List (Addr × Obj)) (D : Ends) (f : Flow) (s' : Shared) : Prop :=
  match f with
  | .next => ∃ σ' H', Inv X pins σ' H' s' ∧ D.nx σ' H'
  | .brk => ∃ σ' H', Inv X pins σ' H' s' ∧ D.bk σ' H'
  | .cont => ∃ σ' H', Inv X pins σ' H' s' ∧ D.ct σ' H'
  | .ret u => ∃ v σ' H', Inv X pins σ' H' s' ∧ RelV v u ∧ D.rt v H'

noncomputable def PE (X : Cx) (e : Expr) (t : TE) : Prop :=
  ∀ (pins : List (Addr × Obj)) (s : Shared) (σ : St) (H : Hp) (Q : VK), Inv X pins σ H s → t σ H Q → wpAny (model X.prog X.w) X.A (eval e X.env) (EP X pins σ Q) X.xe s
noncomputable def PT (X : Cx) (e : Expr) (t : TT) : Prop :=
  ∀ (pins : List (Addr × Obj)) (s : Shared) (σ : St) (H : Hp) (Q : Bool → Hp → Prop), Inv X pins σ H s → t σ H Q → wpAny (model X.prog X.w) X.A (isTrue e X.env (eval e X.env)) (TP X pins σ Q) X.xe s
noncomputable def PW (X : Cx) (e : Expr) (t : TT) : Prop :=
  ∀ (whole : Sem Value) (pins : List (Addr × Obj)) (s : Shared) (σ : St) (H : Hp) (Q : Bool → Hp → Prop), Inv X pins σ H s → t σ H Q → wpAny (model X.prog X.w) X.A (isTrue e X.env whole) (TP X pins σ Q) X.xe s
theorem PW.pt {X : Cx} {e : Expr} {t : TT} (h : PW X e t) : PT X e t := h _
noncomputable def PA (X : Cx) (es : List Expr) (t : TA) : Prop :=
  ∀ (pos : Pos) (pins : List (Addr × Obj)) (s : Shared) (σ : St) (H : Hp) (Q : List V → Hp → Prop), Inv X pins σ H s → t σ H Q → wpAny (model X.prog X.w) X.A (spliced (backTo pos (starEach es X.env))) (AP X pins σ Q) X.xe s
noncomputable def PS (X : Cx) (st : Stmt) (t : TS) : Prop :=
  ∀ (pins : List (Addr × Obj)) (s : Shared) (σ : St) (H : Hp) (D : Ends), Inv X pins σ H s → t D σ H → wpAny (model X.prog X.w) X.A (exec st X.env) (SP X pins D) X.xe s
noncomputable def PSs (X : Cx) (st : List Stmt) (t : TS) : Prop :=
  ∀ (pins : List (Addr × Obj)) (s : Shared) (σ : St) (H : Hp) (D : Ends), Inv X pins σ H s → t D σ H → wpAny (model X.prog X.w) X.A (execs st X.env) (SP X pins D) X.xe s
theorem thn {α : Type} {t : Sem α} {Q Q' : α → Shared → Prop} {M : Model} {A : Around} {E : Value → Shared → Prop} {s : Shared} (h : wpAny M A t Q E s) (hQ : ∀ a s, Q a s → Q' a s) : wpAny M A t Q' E s := wpAny_mono h hQ fun _ _ x => x
end L2

namespace L2
open PySem PySem.Spec PyProof.Rows
section
variable {X : Cx}

noncomputable def tVar (i : Nat) : TE := fun σ H Q => ∃ v, σ[i]? = some (some v) ∧ Q v H
noncomputable def tC (v : V) : TE := fun _ H Q => Q v H
theorem pe_var {i : Nat} {x : Str} {pos : Pos} (hN : X.N[i]? = some x) (hv : Vis X.env.scope x) (hd : (x == ("__debug__" : Str)) = false := by decide) (hcd : (x == ("__classdict__" : Str)) = false := by decide) : PE X (.Name x pos) (tVar i) := by
  intro pins s σ H Q I h
  obtain ⟨v, e, h⟩ := h
  obtain ⟨m, hn, hl⟩ := I.loc
  obtain ⟨u, r, l⟩ := hl i x v hN e hv
  have fin : EP X pins σ Q u s := ⟨v, H, I, r, h⟩
  rcases l with ⟨hk, hm⟩ | ⟨hk, c, hc, hcell⟩
  · exact wpAny_Name (wpAny_loadName_local I.ok.kind hk hn hm fin) hd
  · rcases hk with hk | hk
    · exact wpAny_Name (wpAny_loadName_cell I.ok.kind hk hc hcell fin) hd
    · exact wpAny_Name (wpAny_loadName_free I.ok.kind hk hc hcell fin hcd) hd
theorem pe_int {i j pos} : PE X (.Constant (.int i) j pos) (tC (.int i)) := fun _ _ _ H _ I h => wpAny_Constant_int ⟨.int i, H, I.tok _, ⟨_, rfl⟩, h⟩
theorem pe_bl {b j pos} : PE X (.Constant (.bool b) j pos) (tC (.bl b)) := fun _ _ _ H _ I h => Constant_bool ⟨.bl b, H, I, rfl, h⟩
theorem pe_non {j pos} : PE X (.Constant .none j pos) (tC .non) := fun _ _ _ H _ I h => Constant_none ⟨.non, H, I, rfl, h⟩
theorem pe_str {x j pos} : PE X (.Constant (.str x) j pos) (tC (.str x)) := fun _ _ _ H _ I h => Calls.Constant_str ⟨.str x, H, I.tok _, ⟨_, rfl⟩, h⟩

noncomputable def Gl (X : Cx) (x : Str) : Prop := X.env.kindOf x = some .globalImplicit
theorem ld_glob {E : Value → Shared → Prop} {pins : List (Addr × Obj)} {s : Shared} {σ : St} {H : Hp} {x : Str} {u : Value} {pos : Pos} {Q : Value → Shared → Prop} (I : Inv X pins σ H s) (hg : Gl X x) (hm : X.mg x = some u) (h : Q u s)
    (hd : (x == ("__debug__" : Str)) = false := by decide) : wpAny (model X.prog X.w) X.A (eval (.Name x pos) X.env) Q E s :=
  Calls.Name_function_global I.ok.kind hg (Calls.loadGlobal_global (by rw [I.ok.glob]; exact I.mod.glob.keeps I.bk) hm h) hd
theorem ld_blt {E : Value → Shared → Prop} {pins : List (Addr × Obj)} {s : Shared} {σ : St} {H : Hp} {x : Str} {u : Value} {pos : Pos} {Q : Value → Shared → Prop} (I : Inv X pins σ H s) (hg : Gl X x) (hm : X.mg x = none) (hv : bootBuiltins x = some u) (h : Q u s)
    (hn : x ≠ "__name__" := by decide) (hd : (x == ("__debug__" : Str)) = false := by decide) : wpAny (model X.prog X.w) X.A (eval (.Name x pos) X.env) Q E s := by
  obtain ⟨mb, h1, h2⟩ := I.mod.blt
  exact Calls.Name_function_global I.ok.kind hg (Calls.loadGlobal_builtin (by rw [I.ok.glob]; exact I.mod.glob.keeps I.bk) hm (by rw [I.ok.blt]; exact h1.keeps I.bk) ((h2 x hn).trans hv) h) hd
theorem pe_glob {x : Str} {v : V} {u : Value} {pos : Pos} (hg : Gl X x) (hm : X.mg x = some u) (r : RelV v u) (hd : (x == ("__debug__" : Str)) = false := by decide) : PE X (.Name x pos) (tC v) :=
  fun _ _ _ H _ I h => ld_glob I hg hm ⟨v, H, I, r, h⟩ hd
theorem pe_bltn {x : Str} {v : V} {u : Value} {pos : Pos} (hg : Gl X x) (hm : X.mg x = none) (hv : bootBuiltins x = some u) (r : RelV v u) (hn : x ≠ "__name__" := by decide) (hd : (x == ("__debug__" : Str)) = false := by decide) : PE X (.Name x pos) (tC v) :=
  fun _ _ _ H _ I h => ld_blt I hg hm hv ⟨v, H, I, r, h⟩ hn hd

variable {a b : Expr} {ta tb : TE} {pos : Pos}
noncomputable def tB (t : TE) : TT := fun σ H Q => t σ H fun x H1 => ∃ c, x = .bl c ∧ Q c H1
theorem pt_val {e : Expr} {t : TE} (h : PE X e t) (he : ∀ whole, isTrue e X.env whole = (do let v ← whole; standAt e.pos; holding [v] (truthy v)) := by intro _; rfl) : PT X e (tB t) := by
  intro pins s σ H Q I hw
  refine isTrue_plain (thn (h pins s σ H _ I hw) fun v s1 ⟨x, H1, I1, r1, q1⟩ => ?_) (he _)
  obtain ⟨d, rfl, q⟩ := q1
  cases r1
  exact wpAny_truthy_bool ⟨H1, I1, q⟩

variable {tA tB' : TT} {rest : List Expr}
noncomputable def tAnd (t u : TT) : TT := fun σ H Q => t σ H fun c H1 => if c = true then u σ H1 Q else Q false H1
noncomputable def tOr (t u : TT) : TT := fun σ H Q => t σ H fun c H1 => if c = true then Q true H1 else u σ H1 Q
noncomputable def tNot (t : TT) : TT := fun σ H Q => t σ H fun c H1 => Q (!c) H1
theorem pw_and1 (ha : PT X a tA) : PW X (.BoolOp .And [a] pos) tA := by
  intro wh pins s σ H Q I h
  refine isTrue_and (thn (ha pins s σ H Q I h) fun c s1 e => ?_)
  cases c with
  | true => exact isTrue_and_nil e
  | false => exact e
theorem pw_or1 (ha : PT X a tA) : PW X (.BoolOp .Or [a] pos) tA := by
  intro wh pins s σ H Q I h
  refine isTrue_or (thn (ha pins s σ H Q I h) fun c s1 e => ?_)
  cases c with
  | false => exact isTrue_or_nil e
  | true => exact e
theorem pw_and (ha : PT X a tA) (hb : PW X (.BoolOp .And (b :: rest) pos) tB') : PW X (.BoolOp .And (a :: b :: rest) pos) (tAnd tA tB') := by
  intro wh pins s σ H Q I h
  refine isTrue_and (thn (ha pins s σ H _ I h) fun c s1 ⟨H1, I1, q1⟩ => ?_)
  cases c with
  | true => exact hb wh pins s1 σ H1 Q I1 q1
  | false => exact ⟨H1, I1, q1⟩
theorem pw_or (ha : PT X a tA) (hb : PW X (.BoolOp .Or (b :: rest) pos) tB') : PW X (.BoolOp .Or (a :: b :: rest) pos) (tOr tA tB') := by
  intro wh pins s σ H Q I h
  refine isTrue_or (thn (ha pins s σ H _ I h) fun c s1 ⟨H1, I1, q1⟩ => ?_)
  cases c with
  | true => exact ⟨H1, I1, q1⟩
  | false => exact hb wh pins s1 σ H1 Q I1 q1
theorem pt_not (ha : PT X a tA) : PT X (.UnaryOp .Not a pos) (tNot tA) := by
  intro pins s σ H Q I h
  exact isTrue_not (ha pins s σ H (fun c H1 => Q (!c) H1) I h)
noncomputable def tAndV (ta tb : TE) : TE := fun σ H Q => ta σ H fun x H1 => ∃ c, x = .bl c ∧ if c = true then tb σ H1 Q else Q (.bl false) H1
noncomputable def tNotV (ta : TE) : TE := fun σ H Q => ta σ H fun x H1 => ∃ c, x = .bl c ∧ Q (.bl (!c)) H1
theorem pe_one {op} {t : TE} (h : PE X a t) : PE X (.BoolOp op [a] pos) t := fun pins s σ H Q I hw => BoolOp_one (h pins s σ H Q I hw)
theorem pe_and (ha : PE X a ta) (hb : PE X (.BoolOp .And (b :: rest) pos) tb) : PE X (.BoolOp .And (a :: b :: rest) pos) (tAndV ta tb) := by
  intro pins s σ H Q I h
  refine BoolOp_and (thn (ha pins s σ H _ I h) fun v s1 ⟨x, H1, I1, r1, q1⟩ => ?_)
  obtain ⟨c, rfl, q1⟩ := q1
  cases r1
  refine wpAny_truthy_bool ?_
  cases c with
  | true => exact hb pins s1 σ H1 Q I1 q1
  | false => exact ⟨.bl false, H1, I1, rfl, q1⟩
theorem pe_not (ha : PE X a ta) : PE X (.UnaryOp .Not a pos) (tNotV ta) := by
  intro pins s σ H Q I h
  refine UnaryOp_ (thn (ha pins s σ H _ I h) fun v s1 ⟨x, H1, I1, r1, q1⟩ => ?_)
  obtain ⟨c, rfl, q1⟩ := q1
  cases r1
  exact not_of (wpAny_truthy_bool ⟨.bl (!c), H1, I1, rfl, q1⟩)
noncomputable def tIf (t : TT) (ta tb : TE) : TE := fun σ H Q => t σ H fun c H1 => if c = true then ta σ H1 Q else tb σ H1 Q
theorem pe_ifExp {c : Expr} (hc : PT X c tA) (ha : PE X a ta) (hb : PE X b tb) : PE X (.IfExp c a b pos) (tIf tA ta tb) := by
  intro pins s σ H Q I h
  refine wpAny_IfExp (thn (hc pins s σ H _ I h) fun d s1 ⟨H1, I1, q1⟩ => ?_)
  cases d with
  | true => exact ha pins s1 σ H1 Q I1 q1
  | false => exact hb pins s1 σ H1 Q I1 q1
end
end L2

namespace L2
open PySem PySem.Spec PyProof.Rows

noncomputable def SqL (K : PySem.W.Frag) (H : Hp) (a : Addr) (xs : List V) : Prop :=
  Rd H a (.lst xs) ∨
    ∃ (o : Obj) (its : Array Value) (n : Nat), K.lookup a = some o ∧ o.cls = .type "list" ∧ o.dict = none ∧ o.data = .seq its n ∧ its.size ≤ sizeLine ∧ Vals xs its.toList
noncomputable def SqT (K : PySem.W.Frag) (H : Hp) (a : Addr) (xs : List V) : Prop :=
  Rd H a (.tup xs) ∨
    ∃ (o : Obj) (its : Array Value) (n : Nat), K.lookup a = some o ∧ o.cls = .type "tuple" ∧ o.data = .seq its n ∧ its.size ≤ sizeLine ∧ Vals xs its.toList
noncomputable def absV : Value → Option V
  | .none => some .non
  | .bool b => some (.bl b)
  | .int i _ => some (.int i)
  | .str x _ => some (.str x)
  | .bytes b _ => some (.byt b)
  | .float b _ => some (.flt b)
  | .ref a => some (.ref a)
  | .type n => some (.ty n)
  | _ => none
theorem RelV.abs {x : V} {u : Value} (r : RelV x u) : absV u = some x := by
  cases x with
  | non => cases r; rfl
  | bl _ => cases r; rfl
  | int _ => obtain ⟨t, rfl⟩ := r; rfl
  | str _ => obtain ⟨t, rfl⟩ := r; rfl
  | byt _ => obtain ⟨t, rfl⟩ := r; rfl
  | flt _ => obtain ⟨t, rfl⟩ := r; rfl
  | ref _ => cases r; rfl
  | ty _ => cases r; rfl
theorem RelV.inj {x y : V} {u : Value} (r : RelV x u) (q : RelV y u) : x = y := Option.some.inj (r.abs.symm.trans q.abs)
theorem Vals.inj : ∀ {xs ys : List V} {us : List Value}, Vals xs us → Vals ys us → xs = ys
  | _, _, _, .nil, .nil => rfl
  | _, _, _, .cons r t, .cons r' t' => by rw [r.inj r', Vals.inj t t']
section
variable {X : Cx} {pins : List (Addr × Obj)} {σ : St} {H : Hp} {s : Shared} {a : Addr} {xs ys : List V}
theorem SqL.of {K : PySem.W.Frag} (h : H a = some (.lst xs)) : SqL K H a xs := .inl (.inl h)
theorem SqT.of {K : PySem.W.Frag} (h : H a = some (.tup xs)) : SqT K H a xs := .inl (.inl h)
theorem Inv.list (I : Inv X pins σ H s) (h : SqL X.K H a xs) : ∃ its : List Value, Vals xs its ∧ PlainL s.heap a its.toArray ∧ xs.length ≤ sizeLine := by
  rcases h with h | ⟨o, its, n, hk, hc, hd, hs, hz, r⟩
  · obtain ⟨z, its, n, r, e⟩ := h.ok I.hok
    exact ⟨its, r, ⟨_, n, e, rfl, rfl, rfl⟩, z⟩
  · refine ⟨its.toList, r, ⟨o, n, I.kIn a o hk, hc, hd, by simpa using hs⟩, ?_⟩
    have e := r.length
    simp only [Array.length_toList] at e
    omega
theorem Inv.tuple (I : Inv X pins σ H s) (h : SqT X.K H a xs) : ∃ its : List Value, Vals xs its ∧ IsTup s.heap a its.toArray ∧ xs.length ≤ sizeLine := by
  rcases h with h | ⟨o, its, n, hk, hc, hs, hz, r⟩
  · obtain ⟨z, its, r, p⟩ := h.ok I.hok
    exact ⟨its, r, p.1, z⟩
  · refine ⟨its.toList, r, ⟨o, I.kIn a o hk, hc, n, by simpa using hs⟩, ?_⟩
    have e := r.length
    simp only [Array.length_toList] at e
    omega
theorem Inv.list_inj (I : Inv X pins σ H s) (h : SqL X.K H a xs) (h' : SqL X.K H a ys) : xs = ys := by
  obtain ⟨its, r, ⟨o, n, e, _, _, d⟩, _⟩ := I.list h
  obtain ⟨its', r', ⟨o', n', e', _, _, d'⟩, _⟩ := I.list h'
  rw [e] at e'; cases e'
  rw [d] at d'
  injection d' with d1 _
  have : its = its' := by simpa using congrArg Array.toList d1
  subst this
  exact r.inj r'
theorem Inv.tuple_inj (I : Inv X pins σ H s) (h : SqT X.K H a xs) (h' : SqT X.K H a ys) : xs = ys := by
  obtain ⟨its, r, ⟨o, e, _, n, d⟩, _⟩ := I.tuple h
  obtain ⟨its', r', ⟨o', e', _, n', d'⟩, _⟩ := I.tuple h'
  rw [e] at e'; cases e'
  rw [d] at d'
  injection d' with d1 _
  have : its = its' := by simpa using congrArg Array.toList d1
  subst this
  exact r.inj r'
end

noncomputable abbrev Cx.wish (X : Cx) (E : Value → Shared → Prop) : Cx := { X with xe := E }
noncomputable abbrev Cx.nox (X : Cx) : Cx := X.wish fun _ _ => False
theorem Cx.Ok.wish {X : Cx} (ok : X.Ok) (E : Value → Shared → Prop) : (X.wish E).Ok :=
  ⟨ok.mod, ok.kind, ok.glob, ok.blt, ok.above, ok.inj, ok.has, ok.cab, ok.hd, ok.frames, ok.stk, ok.exf, ok.bs, ok.bsz, ok.noex, ok.exfs, ok.funs, ok.frf⟩
theorem Cx.Ok.unwish {X : Cx} {E : Value → Shared → Prop} (ok : (X.wish E).Ok) : X.Ok :=
  ⟨ok.mod, ok.kind, ok.glob, ok.blt, ok.above, ok.inj, ok.has, ok.cab, ok.hd, ok.frames, ok.stk, ok.exf, ok.bs, ok.bsz, ok.noex, ok.exfs, ok.funs, ok.frf⟩
section
variable {X : Cx} {pins : List (Addr × Obj)} {σ : St} {H : Hp} {s : Shared} {E : Value → Shared → Prop}
theorem Inv.wish (I : Inv X pins σ H s) (E : Value → Shared → Prop) : Inv (X.wish E) pins σ H s := ⟨I.ok.wish E, I.os, I.bare, I.base, I.loc, I.cell, I.free, I.freeC, I.pin, I.hok, I.len⟩
theorem Inv.unwish (I : Inv (X.wish E) pins σ H s) : Inv X pins σ H s := ⟨I.ok.unwish, I.os, I.bare, I.base, I.loc, I.cell, I.free, I.freeC, I.pin, I.hok, I.len⟩
theorem SP.unwish {D : Ends} {f : Flow} {s' : Shared} (h : SP (X.wish E) pins D f s') : SP X pins D f s' := by
  cases f with
  | next => obtain ⟨σ', H', I, q⟩ := h; exact ⟨σ', H', I.unwish, q⟩
  | brk => obtain ⟨σ', H', I, q⟩ := h; exact ⟨σ', H', I.unwish, q⟩
  | cont => obtain ⟨σ', H', I, q⟩ := h; exact ⟨σ', H', I.unwish, q⟩
  | ret u => obtain ⟨v, σ', H', I, r, q⟩ := h; exact ⟨v, σ', H', I.unwish, r, q⟩
theorem PE.nox {e : Expr} {t : TE} (h : PE X.nox e t) : PE X e t := fun pins s σ H Q I hw =>
  wpAny_mono (h pins s σ H Q (I.wish _) hw) (fun _ _ ⟨v, H', I', r, q⟩ => ⟨v, H', I'.unwish, r, q⟩) fun _ _ z => False.elim z
theorem PT.nox {e : Expr} {t : TT} (h : PT X.nox e t) : PT X e t := fun pins s σ H Q I hw =>
  wpAny_mono (h pins s σ H Q (I.wish _) hw) (fun _ _ ⟨H', I', q⟩ => ⟨H', I'.unwish, q⟩) fun _ _ z => False.elim z
theorem PSs.nox {st : List Stmt} {t : TS} (h : PSs X.nox st t) : PSs X st t := fun pins s σ H D I hw =>
  wpAny_mono (h pins s σ H D (I.wish _) hw) (fun _ _ q => q.unwish) fun _ _ z => False.elim z
end

section
variable {X : Cx} {st : Stmt} {rest : List Stmt} {t u : TS} {e : Expr} {te : TE} {pos : Pos}
noncomputable def tNext : TS := fun D σ H => D.nx σ H
noncomputable def tSeq (t u : TS) : TS := fun D σ H => t { D with nx := u D } σ H
theorem pss_nil : PSs X [] tNext := fun _ _ σ H _ I h => wpAny_execs_nil ⟨σ, H, I, h⟩
theorem pss_cons (h1 : PS X st t) (h2 : PSs X rest u) : PSs X (st :: rest) (tSeq t u) := by
  intro pins s σ H D I h
  refine wpAny_execs_cons (thn (h1 pins s σ H { D with nx := u D } I h) fun f s1 q => ?_)
  cases f with
  | next =>
    obtain ⟨σ', H', I', q⟩ := q
    exact h2 pins s1 σ' H' D I' q
  | ret v => exact q
  | brk => exact q
  | cont => exact q
theorem pss_one (h1 : PS X st t) : PSs X [st] t := by
  intro pins s σ H D I h
  refine wpAny_execs_cons (thn (h1 pins s σ H D I h) fun f s1 q => ?_)
  cases f with
  | next => exact wpAny_execs_nil q
  | ret v => exact q
  | brk => exact q
  | cont => exact q
theorem Inv.quiet {pins : List (Addr × Obj)} {σ : St} {H : Hp} {s : Shared} (I : Inv X pins σ H s) : interactive X.env = false := by simp [interactive, I.ok.kind]
noncomputable def tDrop (te : TE) : TS := fun D σ H => te σ H fun _ H1 => D.nx σ H1
theorem ps_expr (he : PE X e te) (hs : swapsWith e none pos.line X.env = pure false := by rfl) : PS X (.Expr e pos) (tDrop te) := by
  intro pins s σ H D I h
  exact wpAny_Expr_any (thn (he pins s σ H _ I h) fun v s1 ⟨x, H1, I1, r1, q1⟩ => ⟨σ, H1, I1, q1⟩) I.quiet hs
noncomputable def tRet (te : TE) : TS := fun D σ H => te σ H D.rt
theorem ps_ret (he : PE X e te) : PS X (.Return (some e) pos) (tRet te) := by
  intro pins s σ H D I h
  exact wpAny_Return_some (thn (he pins s σ H _ I h) fun v s1 ⟨x, H1, I1, r1, q1⟩ => ⟨x, σ, H1, I1, r1, q1⟩)
noncomputable def tIfS (c : TT) (t u : TS) : TS := fun D σ H => c σ H fun b H1 => if b = true then t D σ H1 else u D σ H1
theorem ps_if {c : Expr} {a b : List Stmt} {tc : TT} (hc : PT X c tc) (ha : PSs X a t) (hb : PSs X b u) : PS X (.If c a b pos) (tIfS tc t u) := by
  intro pins s σ H D I h
  refine wpAny_If (thn (hc pins s σ H _ I h) fun d s1 ⟨H1, I1, q1⟩ => ?_)
  cases d with
  | true => exact ha pins s1 σ H1 D I1 q1
  | false => exact hb pins s1 σ H1 D I1 q1
end

noncomputable abbrev TG := V → St → Hp → (St → Hp → Prop) → Prop
noncomputable abbrev TGs := List V → St → Hp → (St → Hp → Prop) → Prop
noncomputable def PG (X : Cx) (target : Expr) (t : TG) : Prop :=
  ∀ (pins : List (Addr × Obj)) (s : Shared) (σ : St) (H : Hp) (v : V) (u : Value) (Q : St → Hp → Prop), Inv X pins σ H s → RelV v u → t v σ H Q →
    wpAny (model X.prog X.w) X.A (assign target X.env u) (fun _ s' => ∃ σ' H', Inv X pins σ' H' s' ∧ Q σ' H') X.xe s
noncomputable def PGs (X : Cx) (ts : List Expr) (t : TGs) : Prop :=
  ∀ (pins : List (Addr × Obj)) (s : Shared) (σ : St) (H : Hp) (vs : List V) (us : List Value) (Q : St → Hp → Prop), Inv X pins σ H s → Vals vs us → t vs σ H Q →
    wpAny (model X.prog X.w) X.A (assignInOrder ((assignEach ts X.env).map (·.2)) us) (fun _ s' => ∃ σ' H', Inv X pins σ' H' s' ∧ Q σ' H') X.xe s
noncomputable abbrev TSet := V → V → V → Hp → (Hp → Prop) → Prop
noncomputable def PSet (X : Cx) (t : TSet) : Prop :=
  ∀ (pins : List (Addr × Obj)) (s : Shared) (σ : St) (H : Hp) (o i v : V) (ov iv u : Value) (Q : Hp → Prop), Inv X pins σ H s → RelV o ov → RelV i iv → RelV v u → t o i v H Q →
    wpAny (model X.prog X.w) X.A (setItem ov iv u) (fun _ s' => ∃ H', Inv X pins σ H' s' ∧ Q H') X.xe s
section
variable {X : Cx} {pos : Pos}
noncomputable def gName (i : Nat) : TG := fun v σ H Q => Q (σ.set i (some v)) H
theorem pg_name {i : Nat} {x : Str} (hN : X.N.Nodup) (hi : X.N[i]? = some x) (hx : Loc X.env.scope x) (hf : X.fn x = true ∨ X.env.scope.names.lookup x = some .local := by first | exact .inl rfl | exact .inr rfl | assumption) : PG X (.Name x pos) (gName i) := by
  intro pins s σ H v u Q I r h
  exact wpAny_assign_Name (store_ok I hN hi hx r (fun s' I' => ⟨_, H, I', h⟩) hf)
noncomputable def gNil : TGs := fun vs σ H Q => vs = [] ∧ Q σ H
noncomputable def gCons (t : TG) (u : TGs) : TGs := fun vs σ H Q => ∃ v r, vs = v :: r ∧ t v σ H fun σ' H' => u r σ' H' Q
theorem pgs_nil : PGs X [] gNil := by
  intro pins s σ H vs us Q I r h
  obtain ⟨e, h⟩ := h
  subst e
  cases r
  exact assignInOrder_nil ⟨σ, H, I, h⟩
theorem pgs_cons {e : Expr} {es : List Expr} {t : TG} {u : TGs} (h1 : PG X e t) (h2 : PGs X es u)
    (hs : (assignEach (e :: es) X.env).map (·.2) = assign e X.env :: (assignEach es X.env).map (·.2) := by rfl) : PGs X (e :: es) (gCons t u) := by
  intro pins s σ H vs us Q I r h
  obtain ⟨v, vr, e1, h⟩ := h
  subst e1
  cases r with
  | cons r rr =>
    rw [hs]
    refine assignInOrder_cons (thn (h1 pins s σ H _ _ _ I r h) fun _ s1 ⟨σ1, H1, I1, q1⟩ => ?_)
    exact h2 pins s1 σ1 H1 _ _ Q I1 rr q1
noncomputable def gTup (K : PySem.W.Frag) (n : Nat) (t : TGs) : TG := fun v σ H Q => ∃ a xs, v = .ref a ∧ SqT K H a xs ∧ xs.length = n ∧ t xs σ H Q
theorem pg_tup {es : List Expr} {k : Nat} {t : TGs} {n : Nat} (hc : X.calm = true) (h : PGs X es t)
    (hn : (assignEach es X.env).length = n := by rfl) (hst : (assignEach es X.env).findIdx? (·.1) = none := by rfl) : PG X (.Tuple es k pos) (gTup X.K n t) := by
  intro pins s σ H v u Q I r hw
  obtain ⟨a, xs, e1, hq, hl, hw⟩ := hw
  subst e1
  cases r
  obtain ⟨its, rv, ht, hz⟩ := I.tuple hq
  refine assign_Tuple_tuple (I.ok.hd hc) ht (by simp [hn, ← hl, rv.length]) hst fun h' hx => ?_
  have I1 : Inv X pins σ H { s with heap := h' } := I.kept (t' := s.toks) fun b o e => hx b o (Nat.ne_of_lt (Heap.lt_size e)) e
  exact h pins _ σ H xs _ Q I1 (by simpa using rv) hw
noncomputable def gSub (to ti : TE) (t : TSet) : TG := fun v σ H Q => to σ H fun o H1 => ti σ H1 fun i H2 => t o i v H2 fun H3 => Q σ H3
theorem pg_sub {o i : Expr} {to ti : TE} {t : TSet} (ho : PE X o to) (hi : PE X i ti) (hs : PSet X t)
    (ha : ∀ v, assign (.Subscript o i pos) X.env v = (do
      let ov ← holding [v] (eval o X.env)
      let iv ← holding [v, ov] (eval i X.env)
      standAt pos
      holding [v, ov, iv] (setItem ov iv v)
      release [v, ov, iv] []) := by intro _; rfl) : PG X (.Subscript o i pos) (gSub to ti t) := by
  intro pins s σ H v u Q I r h
  rw [ha]
  refine wpAny_bind (wpAny_holding (thn (ho pins s σ H _ I h) fun ov s1 ⟨x, H1, I1, r1, q1⟩ => ?_))
  refine wpAny_bind (wpAny_holding (thn (hi pins s1 σ H1 _ I1 q1) fun iv s2 ⟨y, H2, I2, r2, q2⟩ => ?_))
  refine wpAny_bind (wpAny_standAt (wpAny_bind (wpAny_holding (thn (hs pins s2 σ H2 x y v ov iv u _ I2 r1 r2 r q2) fun _ s3 ⟨H3, I3, q3⟩ => ?_))))
  exact wpAny_release ⟨σ, H3, I3, q3⟩
noncomputable def tAsg (te : TE) (g : TG) : TS := fun D σ H => te σ H fun x H1 => g x σ H1 D.nx
theorem ps_asg {tg e : Expr} {te : TE} {g : TG} (he : PE X e te) (hg : PG X tg g) (hs : swapsWithSole [tg] e pos.line X.env = pure false := by rfl) (hw : swappedStores [tg] e X.env = pure none := by rfl)
    (h1 : (assignEach [tg] X.env).map (·.2) = [assign tg X.env] := by rfl) : PS X (.Assign [tg] e pos) (tAsg te g) := by
  intro pins s σ H D I h
  refine wpAny_Assign_stores (thn (he pins s σ H _ I h) fun v s1 ⟨x, H1, I1, r1, q1⟩ => ?_) hs hw
  rw [h1]
  exact thn (hg pins s1 σ H1 x v _ I1 r1 q1) fun _ s2 q => q
theorem ps_set {i : Nat} {x : Str} {e : Expr} {te : TE} {pos' : Pos} (hN : X.N.Nodup) (hi : X.N[i]? = some x) (hx : Loc X.env.scope x) (he : PE X e te) (hs : swapsWith e (some (.Name x pos')) pos.line X.env = pure false := by rfl) (hf : X.fn x = true ∨ X.env.scope.names.lookup x = some .local := by first | exact .inl rfl | exact .inr rfl | assumption) :
    PS X (.Assign [.Name x pos'] e pos) (tAsg te (gName i)) := by
  intro pins s σ H D I h
  refine wpAny_Assign_Name (thn (he pins s σ H _ I h) fun v s1 ⟨y, H1, I1, r1, q1⟩ => ?_) hs
  exact store_ok I1 hN hi hx r1 (fun s2 I2 => ⟨_, H1, I2, q1⟩) hf
end

section
variable {X : Cx} {pos : Pos}
end

structure It where
  go : Nat → Hp → Prop
  yld : Nat → Hp → V → Hp → Prop
  stop : Nat → Hp → Prop
noncomputable def FpOk (X : Cx) (pins : List (Addr × Obj)) (H : Hp) (b : Addr) : Prop :=
  H b = none ∧ b ≠ X.env.locals ∧ b ∉ X.fs ∧ (b ∈ X.ex ∨ X.s₀.heap.objs.size ≤ b) ∧ (∀ x c, X.env.cells.lookup x = some c → c ≠ b) ∧ ∀ p ∈ X.pn ++ pins, p.1 ≠ b
theorem Inv.fpOk {X : Cx} {pins : List (Addr × Obj)} {σ : St} {H H' : Hp} {s : Shared} {b : Addr} (I : Inv X pins σ H s) (hb : s.heap.objs.size ≤ b) (hn : H' b = none) : FpOk X pins H' b := by
  refine ⟨hn, Nat.ne_of_gt (Nat.lt_of_lt_of_le I.lt hb), I.nofs hb, .inr (Nat.le_trans I.sz hb), fun x c e z => ?_, fun p hp z => ?_⟩
  · obtain ⟨v, q⟩ := I.cell x c e
    exact absurd (Nat.lt_of_lt_of_le q.lt (by rw [z]; exact hb)) (Nat.lt_irrefl _)
  · exact absurd (Nat.lt_of_lt_of_le (Heap.lt_size (I.pin p hp).1) (by rw [z]; exact hb)) (Nat.lt_irrefl _)
structure Turn (P : Program) (w : World) (K : PySem.W.Frag) (tg : Expr) (J : It) (fp : List Addr) (it : Addr) (tn : Nat → Heap → Prop) : Prop where
  mem : it ∈ fp
  obj : ∀ i h, tn i h → ∀ b ∈ fp, ∃ o, h.get? b = some o ∧ ∀ v, o.data ≠ .cell v
  keep : ∀ i h h', tn i h → (∀ b ∈ fp, ∀ o, h.get? b = some o → h'.get? b = some o) → tn i h'
  item : ∀ (X : Cx), X.prog = P → X.w = w → X.K = K → X.calm = true → ∀ (i : Nat) (pins : List (Addr × Obj)) (s : Shared) (σ : St) (H : Hp) (E : Value → Shared → Prop), Inv X pins σ H s → (∀ b ∈ fp, FpOk X pins H b) → tn i s.heap → J.go i H →
    wpAny (model P w) X.A (pyNext (.ref it)) (fun r s1 => ∃ u, r = some u ∧
      wpAny (model P w) X.A (letOwnedTupleGo tg (.ref it) u) (fun _ s2 => ∃ x H', Inv X pins σ H' s2 ∧ RelV x u ∧ J.yld i H x H' ∧ tn (i + 1) s2.heap ∧ ∀ b ∈ fp, H' b = none) E s1) E s
  done : ∀ (X : Cx), X.prog = P → X.w = w → X.K = K → X.calm = true → ∀ (i : Nat) (pins : List (Addr × Obj)) (s : Shared) (σ : St) (H : Hp) (E : Value → Shared → Prop), Inv X pins σ H s → (∀ b ∈ fp, FpOk X pins H b) → tn i s.heap → J.stop i H →
    wpAny (model P w) X.A (pyNext (.ref it)) (fun r s1 => r = none ∧ Inv X pins σ H s1) E s
  self : ∀ (A : Around) (i : Nat) (s : Shared) (Q : Value → Shared → Prop) (E : Value → Shared → Prop), tn i s.heap → Q (.ref it) s → wpAny (model P w) A (pyIter (.ref it)) Q E s
noncomputable abbrev TI := St → Hp → (It → Hp → Prop) → Prop
noncomputable def PIE (X : Cx) (pins : List (Addr × Obj)) (σ : St) (tg : Expr) (R : It → Hp → Prop) (itv : Value) (s2 : Shared) : Prop :=
  ∃ (it : Addr) (fp : List Addr) (tn : Nat → Heap → Prop) (J : It) (H' : Hp), itv = .ref it ∧ Inv X pins σ H' s2 ∧ Turn X.prog X.w X.K tg J fp it tn ∧ tn 0 s2.heap ∧ (∀ b ∈ fp, FpOk X pins H' b) ∧ R J H'
noncomputable def PI (X : Cx) (tg iter : Expr) (wi : TI) : Prop :=
  ∀ (pins : List (Addr × Obj)) (s : Shared) (σ : St) (H : Hp) (R : It → Hp → Prop), Inv X pins σ H s → wi σ H R →
    wpAny (model X.prog X.w) X.A (eval iter X.env) (fun v s1 => wpAny (model X.prog X.w) X.A (pyIter v) (PIE X pins σ tg R) X.xe s1) X.xe s

theorem go_of {M : Model} {A : Around} {E : Value → Shared → Prop} {s : Shared} {tg : Expr} {it : Addr} {u : Value} {o : Obj} {n : String} {vs : Array Value} {Q : Unit → Shared → Prop} (ho : s.heap.get? it = some o) (hc : o.cls = .type n) (hd : o.data = .fields vs)
    (hn : ["enumerate", "zip", "dict_itemiterator", "dict_reverseitemiterator", "odict_iterator", "itertools.zip_longest", "itertools.pairwise"].contains n = false) (hQ : Q () s) : wpAny M A (letOwnedTupleGo tg (.ref it) u) Q E s := by
  unfold letOwnedTupleGo
  cases tg <;> first
    | exact wpAny_pure hQ
    | (cases u <;> first
        | exact wpAny_pure hQ
        | (refine wpAny_bind (wpAny_load ho ?_)
           rw [hc, hd]
           show wpAny M A (if (["enumerate", "zip", "dict_itemiterator", "dict_reverseitemiterator", "odict_iterator", "itertools.zip_longest", "itertools.pairwise"].contains n && vs[0]? == some (rawInt _)) = true then _ else _) Q E s
           rw [if_neg (by intro h; rw [hn, Bool.false_and] at h; cases h)]
           exact wpAny_pure hQ))

noncomputable def Itl (K : PySem.W.Frag) (a : Addr) : It :=
  ⟨fun i H => ∃ xs x, SqL K H a xs ∧ xs[i]? = some x, fun i H x H' => H' = H ∧ ∀ xs, SqL K H a xs → xs[i]? = some x, fun i H => ∃ xs, SqL K H a xs ∧ xs.length ≤ i⟩
noncomputable def Itt (K : PySem.W.Frag) (a : Addr) : It :=
  ⟨fun i H => ∃ xs x, SqT K H a xs ∧ xs[i]? = some x, fun i H x H' => H' = H ∧ ∀ xs, SqT K H a xs → xs[i]? = some x, fun i H => ∃ xs, SqT K H a xs ∧ xs.length ≤ i⟩
noncomputable def Itr (lo : Int) (n : Nat) : It := ⟨fun i _ => i < n, fun i H x H' => H' = H ∧ x = .int (lo + i), fun i _ => n ≤ i⟩
theorem turn_list {P : Program} {w : World} {K : PySem.W.Frag} {tg : Expr} (a it : Addr) : Turn P w K tg (Itl K a) [it] it (fun i h => h.IsListIter it a i) where
  mem := by simp
  obj := fun i h st b hb => by
    have e : b = it := by simpa using hb
    subst e
    obtain ⟨o, e, c, d⟩ := st
    exact ⟨o, e, fun v z => by rw [d] at z; cases z⟩
  keep := fun i h h' st k => st.at fun o e => k it (by simp) o e
  item := by
    intro X hP hw hK hc i pins s σ H E I hf st hg
    subst hP hw hK
    obtain ⟨xs, x, hq, hx⟩ := hg
    obtain ⟨its, rv, p, hz⟩ := I.list hq
    obtain ⟨u, hu, ru⟩ := rv.get hx
    obtain ⟨f0, f1, f2, f3, f4, f5⟩ := hf it (by simp)
    refine wpAny_pyNext_list_item st p.isList (x := u) (by simpa using hu) fun h' st' sb => ?_
    have I1 : Inv X pins σ H { s with heap := h' } := I.turned (t' := s.toks) (fun b o hb e => (sb.2 b hb).trans e) f0 f1 f3 f4 f5
    obtain ⟨o, e, c, d⟩ := id st'
    exact ⟨u, rfl, go_of (s := { s with heap := h' }) e c d (by decide) ⟨x, H, I1, ru, ⟨rfl, fun ys hy => by rw [I.list_inj hy hq]; exact hx⟩, st', fun b hb => (hf b hb).1⟩⟩
  done := by
    intro X hP hw hK hc i pins s σ H E I hf st hg
    subst hP hw hK
    obtain ⟨xs, hq, hx⟩ := hg
    obtain ⟨its, rv, p, hz⟩ := I.list hq
    obtain ⟨f0, f1, f2, f3, f4, f5⟩ := hf it (by simp)
    have hl := rv.length
    exact wpAny_pyNext_list_end (I.ok.hd hc) st p.isList (by simp; omega) fun h' eb => ⟨rfl, I.turned (t' := s.toks) (fun b o hb e => eb b o hb e) f0 f1 f3 f4 f5⟩
  self := fun _ _ _ _ _ st h => wpAny_pyIter_listiter st h
theorem turn_tuple {P : Program} {w : World} {K : PySem.W.Frag} {tg : Expr} (a it : Addr) : Turn P w K tg (Itt K a) [it] it (fun i h => h.IsTupleIter it a i) where
  mem := by simp
  obj := fun i h st b hb => by
    have e : b = it := by simpa using hb
    subst e
    obtain ⟨o, e, c, d⟩ := st
    exact ⟨o, e, fun v z => by rw [d] at z; cases z⟩
  keep := fun i h h' st k => st.at fun o e => k it (by simp) o e
  item := by
    intro X hP hw hK hc i pins s σ H E I hf st hg
    subst hP hw hK
    obtain ⟨xs, x, hq, hx⟩ := hg
    obtain ⟨its, rv, p, hz⟩ := I.tuple hq
    obtain ⟨u, hu, ru⟩ := rv.get hx
    obtain ⟨f0, f1, f2, f3, f4, f5⟩ := hf it (by simp)
    refine wpAny_pyNext_tuple_item st (show s.heap.IsTuple a its.toArray from p) (x := u) (by simpa using hu) fun h' st' sb => ?_
    have I1 : Inv X pins σ H { s with heap := h' } := I.turned (t' := s.toks) (fun b o hb e => (sb.2 b hb).trans e) f0 f1 f3 f4 f5
    obtain ⟨o, e, c, d⟩ := id st'
    exact ⟨u, rfl, go_of (s := { s with heap := h' }) e c d (by decide) ⟨x, H, I1, ru, ⟨rfl, fun ys hy => by rw [I.tuple_inj hy hq]; exact hx⟩, st', fun b hb => (hf b hb).1⟩⟩
  done := by
    intro X hP hw hK hc i pins s σ H E I hf st hg
    subst hP hw hK
    obtain ⟨xs, hq, hx⟩ := hg
    obtain ⟨its, rv, p, hz⟩ := I.tuple hq
    obtain ⟨f0, f1, f2, f3, f4, f5⟩ := hf it (by simp)
    have hl := rv.length
    exact wpAny_pyNext_tuple_end (I.ok.hd hc) st (show s.heap.IsTuple a its.toArray from p) (by simp; omega) fun h' eb => ⟨rfl, I.turned (t' := s.toks) (fun b o hb e => eb b o hb e) f0 f1 f3 f4 f5⟩
  self := fun _ _ _ _ _ st h => wpAny_pyIter_tupleiter st h
theorem turn_range {P : Program} {w : World} {K : PySem.W.Frag} {tg : Expr} (it : Addr) (lo : Int) (n : Nat) : Turn P w K tg (Itr lo n) [it] it (fun i h => IsRangeIter h it (lo + (i : Nat) * 1) ((n : Int) - (i : Nat)) 1) where
  mem := by simp
  obj := fun i h st b hb => by
    have e : b = it := by simpa using hb
    subst e
    exact ⟨_, st, fun v z => by
      have z' : Data.fields _ = Data.cell v := z
      cases z'⟩
  keep := fun i h h' st k => k it (by simp) _ st
  item := by
    intro X hP hw hK hc i pins s σ H E I hf st hg
    subst hP hw hK
    obtain ⟨f0, f1, f2, f3, f4, f5⟩ := hf it (by simp)
    have W := Walks.range (prog := X.prog) (w := X.w) (I.ok.hd hc) it lo 1 n
    refine W.item i s _ _ hg st fun v h' tk hv st' kk => ?_
    obtain ⟨t, rfl⟩ := hv
    have I1 : Inv X pins σ H { s with heap := h', toks := tk } := I.turned (fun b o hb e => kk b o (by simpa using hb) e) f0 f1 f3 f4 f5
    refine ⟨_, rfl, go_of (s := { s with heap := h', toks := tk }) (n := "range_iterator") st' rfl rfl (by decide) ⟨.int (lo + i), H, I1, ⟨t, ?_⟩, ⟨rfl, rfl⟩, st', fun b hb => (hf b hb).1⟩⟩
    rw [Int.mul_one]
  done := by
    intro X hP hw hK hc i pins s σ H E I hf st hg
    subst hP hw hK
    obtain ⟨f0, f1, f2, f3, f4, f5⟩ := hf it (by simp)
    exact wpAny_pyNext_range_end (I.ok.hd hc) st (by have : n ≤ i := hg; omega) fun h' eb => ⟨rfl, I.turned (t' := s.toks) (fun b o hb e => eb b o hb e) f0 f1 f3 f4 f5⟩
  self := fun _ _ _ _ _ st h => wpAny_pyIter_rangeiter st h
end L2

namespace L2
open PySem PySem.Spec PyProof.Rows
section
variable {X : Cx} {tg : Expr}
theorem range_it {pins : List (Addr × Obj)} {σ : St} {H : Hp} {s : Shared} {R : It → Hp → Prop} {E : Value → Shared → Prop} {lo hi : Int} {t u v : Tok} {tk : Nat} (I : Inv X pins σ H s) (h1 : -(2 ^ 62) ≤ lo) (h2 : lo < 2 ^ 62) (h3 : -(2 ^ 62) ≤ hi) (h4 : hi < 2 ^ 62)
    (q : R (Itr lo (hi - lo).toNat) H) : wpAny (model X.prog X.w) X.A (pyIter (.ref s.heap.objs.size)) (PIE X pins σ tg R) E { s with heap := s.heap.push { cls := .type "range", data := .fields #[.int lo t, .int hi u, .int 1 v] }, toks := tk } := by
  refine wpAny_pyIter_range (IsRange.new ..) (small_one h1 h2 h3 h4) ?_
  have I1 : Inv X pins σ H { s with heap := s.heap.push { cls := .type "range", data := .fields #[.int lo t, .int hi u, .int 1 v] }, toks := tk } := I.kept fun b o e => Heap.get?_push_of_some _ e
  refine ⟨(s.heap.push { cls := .type "range", data := .fields #[.int lo t, .int hi u, .int 1 v] }).objs.size, [(s.heap.push { cls := .type "range", data := .fields #[.int lo t, .int hi u, .int 1 v] }).objs.size], _, _, H, rfl,
    I1.kept (t' := tk) fun b o e => Heap.get?_push_of_some _ e, turn_range _ lo (hi - lo).toNat, ?_, fun b hb => ?_, q⟩
  · have e1 : lo + ((0 : Nat) : Int) * 1 = lo := by simp
    have e2 : (((hi - lo).toNat : Nat) : Int) - ((0 : Nat) : Int) = Builtin.Range.rangeSize lo hi 1 := by rw [rangeSize_one]; split <;> omega
    show IsRangeIter _ _ (lo + ((0 : Nat) : Int) * 1) ((((hi - lo).toNat : Nat) : Int) - ((0 : Nat) : Int)) 1
    rw [e1, e2]
    exact Heap.get?_push_size _ rfl
  · have e : b = (s.heap.push { cls := .type "range", data := .fields #[.int lo t, .int hi u, .int 1 v] }).objs.size := by simpa using hb
    subst e
    exact I1.fpOk (Nat.le_refl _) (I1.hok.fresh (Nat.le_refl _))
noncomputable def iRng1 (ta : TA) : TI := fun σ H R => ta σ H fun vs H1 => ∃ j : Int, vs = [.int j] ∧ -(2 ^ 62) ≤ j ∧ j < 2 ^ 62 ∧ R (Itr 0 j.toNat) H1
theorem pi_range1 {a : Expr} {ta : TA} {p pos : Pos} (hg : Gl X "range") (hm : X.mg "range" = none) (ha : PA X [a] ta) (hs : starEach [a] X.env = [(false, eval a X.env)] := by rfl) : PI X tg (.Call (.Name "range" p) [a] [] pos) (iRng1 ta) := by
  intro pins s σ H R I h
  refine Call_ (ld_blt I hg hm boot_range (PyProof.Rows.callWith_type1 (thn (ha pos pins s σ H _ I h) fun us s1 ⟨vs, H1, I1, r1, q1⟩ => ?_) hs rfl))
  obtain ⟨j, e, q1, q2, q⟩ := q1
  subst e
  cases r1 with
  | cons r rr =>
    cases rr
    obtain ⟨t, rfl⟩ := r
    exact call_range_1 (range_it I1 (by omega) (by omega) q1 q2 (by simpa using q))
noncomputable def tFor (wi : TI) (g : TG) (tb : TS) : TS := fun D σ H => wi σ H fun J H1 => ∃ W : Nat → Nat → St → Hp → Prop, (∃ m, W 0 m σ H1) ∧ ∀ i m σ H, W i m σ H →
  (J.stop i H ∧ D.nx σ H) ∨ (J.go i H ∧ ∃ N : St → Hp → Prop, (∀ σ' H', N σ' H' → ∃ m', m' < m ∧ W (i + 1) m' σ' H') ∧ ∀ x H', J.yld i H x H' → g x σ H' fun σ2 H2 => tb { D with nx := N, ct := N, bk := D.nx } σ2 H2)
noncomputable def pinsAt (fp : List Addr) (h : Heap) : List (Addr × Obj) := fp.filterMap fun b => (h.get? b).map fun o => (b, o)
theorem mem_pinsAt {fp : List Addr} {h : Heap} {b : Addr} {o : Obj} (hb : b ∈ fp) (e : h.get? b = some o) : (b, o) ∈ pinsAt fp h := List.mem_filterMap.mpr ⟨b, hb, by rw [e]; rfl⟩
theorem of_pinsAt {fp : List Addr} {h : Heap} {p : Addr × Obj} (hp : p ∈ pinsAt fp h) : p.1 ∈ fp ∧ h.get? p.1 = some p.2 := by
  obtain ⟨b, hb, e⟩ := List.mem_filterMap.mp hp
  cases q : h.get? b with
  | none => rw [q] at e; cases e
  | some o =>
    rw [q] at e
    have e' : (b, o) = p := Option.some.inj e
    subst e'
    exact ⟨hb, q⟩
theorem Inv.pinned {pins : List (Addr × Obj)} {σ : St} {H : Hp} {s : Shared} {fp : List Addr} (I : Inv X pins σ H s) (hf : ∀ b ∈ fp, FpOk X pins H b) (ho : ∀ b ∈ fp, ∃ o, s.heap.get? b = some o ∧ ∀ v, o.data ≠ .cell v) : Inv X (pins ++ pinsAt fp s.heap) σ H s :=
  I.pins_of fun p hp => (List.mem_append.mp hp).elim (fun z => I.pin p (List.mem_append_right _ z)) fun z => by
    obtain ⟨hb, e⟩ := of_pinsAt z
    obtain ⟨f0, f1, f2, _⟩ := hf p.1 hb
    obtain ⟨o, e', d⟩ := ho p.1 hb
    rw [e] at e'; cases e'
    exact ⟨e, f0, f1, f2, d⟩
theorem Inv.unpinned {pins pl : List (Addr × Obj)} {σ : St} {H : Hp} {s : Shared} (I : Inv X (pins ++ pl) σ H s) : Inv X pins σ H s := I.pins_of fun p hp => I.pin p (List.mem_append_right _ (List.mem_append_left _ hp))
theorem ps_for {iter : Expr} {body : List Stmt} {wi : TI} {g : TG} {tb : TS} {pos : Pos} (hp : PassesOwn (model X.prog X.w) X.A X.env X.xe) (hc : X.calm = true) (hi : PI X tg iter wi) (hg : PG X tg g) (hb : PSs X body tb)
    (hs : ∀ x, foldedSetIterable iter X.env x = pure x := by intro _; rfl) : PS X (.For tg iter body [] pos) (tFor wi g tb) := by
  intro pins s σ H D I h
  refine wpAny_For (thn (hi pins s σ H _ I h) fun v s1 h1 => thn h1 fun itv s2 h2 => ?_) hs
  obtain ⟨it, fp, tn, J, H2, e, I2, T, st2, f2, W, ⟨m0, w0⟩, turn⟩ := h2
  subst e
  -- what stays true of the iterator's objects through the loop
  have stat : ∀ {H' : Hp}, (∀ b ∈ fp, H' b = none) → ∀ b ∈ fp, FpOk X pins H' b := fun hn b hb => ⟨hn b hb, (f2 b hb).2⟩
  refine codeAny_forLoop_any (fun n s' => ∃ i σ' H', Inv X pins σ' H' s' ∧ tn i s'.heap ∧ (∀ b ∈ fp, H' b = none) ∧ W i n σ' H') ?_ m0 ⟨0, σ, H2, I2, st2, fun b hb => (f2 b hb).1, w0⟩
  rintro n s3 ⟨i, σ3, H3, I3, st3, fr3, w3⟩
  rcases turn i n σ3 H3 w3 with ⟨stop, qn⟩ | ⟨go, N, hN, step⟩
  · refine wpAny_passesOwn hp (thn (T.done X rfl rfl rfl hc i pins s3 σ3 H3 X.xe I3 (stat fr3) st3 stop) fun r s4 ⟨hr, I4⟩ => ?_)
    subst hr
    exact wpAny_execs_nil ⟨σ3, H3, I4, qn⟩
  · refine wpAny_passesOwn hp (thn (T.item X rfl rfl rfl hc i pins s3 σ3 H3 X.xe I3 (stat fr3) st3 go) fun r s4 ⟨u, hr, h4⟩ => ?_)
    subst hr
    refine wpAny_passesOwn hp (thn h4 fun _ s5 ⟨x, H5, I5, r5, y5, st5, fr5⟩ => ?_)
    have I5' := I5.pinned (stat fr5) (T.obj _ _ st5)
    refine wpAny_passesOwn hp (thn (hg _ s5 σ3 H5 x u _ I5' r5 (step x H5 y5)) fun _ s6 ⟨σ6, H6, I6, q6⟩ => ?_)
    refine wpAny_passesOwn hp (thn (hb _ s6 σ6 H6 _ I6 q6) fun f s7 q7 => ?_)
    have again : ∀ {σ7 : St} {H7 : Hp}, Inv X (pins ++ pinsAt fp s5.heap) σ7 H7 s7 → N σ7 H7 → ∃ m, m < n ∧ ∃ i σ' H', Inv X pins σ' H' s7 ∧ tn i s7.heap ∧ (∀ b ∈ fp, H' b = none) ∧ W i m σ' H' := fun {σ7 H7} I7 n7 => by
      obtain ⟨m', hm, w7⟩ := hN σ7 H7 n7
      refine ⟨m', hm, i + 1, σ7, H7, I7.unpinned, T.keep _ _ _ st5 fun b hb o e => (I7.pin (b, o) (List.mem_append_right _ (List.mem_append_right _ (mem_pinsAt hb e)))).1, fun b hb => ?_, w7⟩
      obtain ⟨o, e, d⟩ := T.obj _ _ st5 b hb
      exact (I7.pin (b, o) (List.mem_append_right _ (List.mem_append_right _ (mem_pinsAt hb e)))).2.1
    cases f with
    | next => obtain ⟨σ7, H7, I7, n7⟩ := q7; exact again I7 n7
    | cont => obtain ⟨σ7, H7, I7, n7⟩ := q7; exact again I7 n7
    | brk => obtain ⟨σ7, H7, I7, q7⟩ := q7; exact ⟨σ7, H7, I7.unpinned, q7⟩
    | ret v => obtain ⟨x7, σ7, H7, I7, r7, q7⟩ := q7; exact ⟨x7, σ7, H7, I7.unpinned, r7, q7⟩
end

end L2

namespace L2
open PySem PySem.Spec PyProof.Rows

noncomputable abbrev R2 := V → V → Hp → VK → Prop
noncomputable def OpR (X : Cx) (f : Value → Value → Sem Value) (r : R2) : Prop :=
  ∀ (pins : List (Addr × Obj)) (s : Shared) (σ : St) (H : Hp) (x y : V) (v u : Value) (Q : VK), Inv X pins σ H s → RelV x v → RelV y u → r x y H Q →
    wpAny (model X.prog X.w) X.A (f v u) (EP X pins σ Q) X.xe s
noncomputable def CallR (X : Cx) (f : Value) (r : List V → Hp → VK → Prop) : Prop :=
  ∀ (pins : List (Addr × Obj)) (s : Shared) (σ : St) (H : Hp) (xs : List V) (us : List Value) (Q : VK), Inv X pins σ H s → Vals xs us → r xs H Q →
    wpAny (model X.prog X.w) X.A (call f us) (EP X pins σ Q) X.xe s
noncomputable def tOp (r : R2) (ta tb : TE) : TE := fun σ H Q => ta σ H fun x H1 => tb σ H1 fun y H2 => r x y H2 Q
noncomputable def rI (C : Int → Int → Prop) (g : Int → Int → V) : R2 := fun x y H Q => ∃ i j, x = .int i ∧ y = .int j ∧ C i j ∧ Q (g i j) H
noncomputable def rI0 (g : Int → Int → V) : R2 := fun x y H Q => ∃ i j, x = .int i ∧ y = .int j ∧ Q (g i j) H
section
variable {X : Cx} {a b c : Expr} {ta tb tc : TE} {pos : Pos}

theorem binT (ha : PE X a ta) (hb : PE X b tb) {pins : List (Addr × Obj)} {s : Shared} {σ : St} {H : Hp} {R : V → V → Hp → Prop} (I : Inv X pins σ H s)
    (h : ta σ H fun x H1 => tb σ H1 fun y H2 => R x y H2) {Q : Value → Shared → Prop} {f : Value → Value → Sem Value}
    (hf : ∀ v u s2 x y H2, Inv X pins σ H2 s2 → RelV x v → RelV y u → R x y H2 → wpAny (model X.prog X.w) X.A (f v u) Q X.xe s2) :
    wpAny (model X.prog X.w) X.A (eval a X.env) (fun v s₁ => wpAny (model X.prog X.w) X.A (eval b X.env) (fun u s₂ => wpAny (model X.prog X.w) X.A (f v u) Q X.xe s₂) X.xe s₁) X.xe s := by
  refine thn (ha pins s σ H _ I h) fun v s1 ⟨x, H1, I1, r1, q1⟩ => ?_
  refine thn (hb pins s1 σ H1 _ I1 q1) fun u s2 ⟨y, H2, I2, r2, q2⟩ => ?_
  exact hf v u s2 x y H2 I2 r1 r2 q2

theorem pe_op {op : Operator} {r : R2} (ho : OpR X (binaryOp op) r) (ha : PE X a ta) (hb : PE X b tb) : PE X (.BinOp a op b pos) (tOp r ta tb) := by
  intro pins s σ H Q I h
  exact wpAny_BinOp (binT ha hb I h fun v u s2 x y H2 I2 rx ry q => ho pins s2 σ H2 x y v u Q I2 rx ry q)
theorem opI {f : Value → Value → Sem Value} {C : Int → Int → Prop} {g : Int → Int → Int}
    (rule : ∀ (i j : Int) (t u : Tok) (s : Shared) (Q : Value → Shared → Prop) (E : Value → Shared → Prop), C i j → Q (.int (g i j) s.toks) { s with toks := s.toks + 1 } → wpAny (model X.prog X.w) X.A (f (.int i t) (.int j u)) Q E s) :
    OpR X f (rI C fun i j => .int (g i j)) := by
  intro pins s σ H x y v u Q I rx ry h
  obtain ⟨i, j, rfl, rfl, hc, q⟩ := h
  obtain ⟨t, rfl⟩ := rx
  obtain ⟨t', rfl⟩ := ry
  exact rule i j t t' s _ _ hc ⟨.int (g i j), H, I.tok _, ⟨_, rfl⟩, q⟩
theorem opI0 {f : Value → Value → Sem Value} {g : Int → Int → Int}
    (rule : ∀ (i j : Int) (t u : Tok) (s : Shared) (Q : Value → Shared → Prop) (E : Value → Shared → Prop), Q (.int (g i j) s.toks) { s with toks := s.toks + 1 } → wpAny (model X.prog X.w) X.A (f (.int i t) (.int j u)) Q E s) :
    OpR X f (rI0 fun i j => .int (g i j)) := by
  intro pins s σ H x y v u Q I rx ry h
  obtain ⟨i, j, rfl, rfl, q⟩ := h
  obtain ⟨t, rfl⟩ := rx
  obtain ⟨t', rfl⟩ := ry
  exact rule i j t t' s _ _ ⟨.int (g i j), H, I.tok _, ⟨_, rfl⟩, q⟩
theorem opB0 {f : Value → Value → Sem Value} {g : Int → Int → Bool}
    (rule : ∀ (i j : Int) (t u : Tok) (s : Shared) (Q : Value → Shared → Prop) (E : Value → Shared → Prop), Q (.bool (g i j)) s → wpAny (model X.prog X.w) X.A (f (.int i t) (.int j u)) Q E s) :
    OpR X f (rI0 fun i j => .bl (g i j)) := by
  intro pins s σ H x y v u Q I rx ry h
  obtain ⟨i, j, rfl, rfl, q⟩ := h
  obtain ⟨t, rfl⟩ := rx
  obtain ⟨t', rfl⟩ := ry
  exact rule i j t t' s _ _ ⟨.bl (g i j), H, I, rfl, q⟩

noncomputable def CDiv (i j : Int) : Prop := 0 < j ∧ j < 1073741824
noncomputable def CPow (i j : Int) : Prop := 0 ≤ j ∧ j ≤ 1000000 ∧ i.natAbs < 2 ^ 64
noncomputable def CMul (i j : Int) : Prop := (-(2 ^ 64) < i ∧ i < 2 ^ 64) ∨ (-(2 ^ 64) < j ∧ j < 2 ^ 64)
theorem CMul.ok {i j : Int} (h : CMul i j) : IntMulOk i j := by
  rcases h with ⟨h1, h2⟩ | ⟨h1, h2⟩
  · exact .of_left (intBits_le_64 h1 h2)
  · exact .of_right (intBits_le_64 h1 h2)
theorem op_add : OpR X (binaryOp .Add) (rI0 fun i j => .int (i + j)) := opI0 fun _ _ _ _ _ _ _ q => add_int q
theorem op_sub : OpR X (binaryOp .Sub) (rI0 fun i j => .int (i - j)) := opI0 fun _ _ _ _ _ _ _ q => sub_int q
theorem op_mul : OpR X (binaryOp .Mult) (rI CMul fun i j => .int (i * j)) := opI fun _ _ _ _ _ _ _ hc q => mul_int q hc.ok
theorem op_fdiv : OpR X (binaryOp .FloorDiv) (rI CDiv fun i j => .int (i / j)) := opI fun i j _ _ _ _ _ hc q => by
  have h1 : (0 : Int) < j := hc.1
  have h2 : j < 1073741824 := hc.2
  exact floordiv_int (by omega) (by rw [Int.fdiv_eq_ediv_of_nonneg i (by omega)]; exact q) (.inl (PyProof.noPylong_small (by omega)))
theorem op_mod : OpR X (binaryOp .Mod) (rI (fun _ j => 0 < j) fun i j => .int (i % j)) := opI fun i j _ _ _ _ _ hc q => by
  have h1 : (0 : Int) < j := hc
  exact mod_int' (by omega) (by rw [Int.fmod_eq_emod_of_nonneg i (by omega)]; exact q)
theorem op_pow : OpR X (binaryOp .Pow) (rI CPow fun i j => .int (i ^ j.toNat)) := opI fun _ _ _ _ _ _ _ hc q => pow_int_small hc.1 hc.2.1 hc.2.2 q
end

section
variable {X : Cx} {a b c : Expr} {ta tb tc : TE} {pos : Pos}
theorem fin_bl {pins : List (Addr × Obj)} {σ : St} {H : Hp} {s : Shared} {Q : VK} {k k' : Bool} (I : Inv X pins σ H s) (q : Q (.bl k) H) (e : k = k') : EP X pins σ Q (.bool k') s := by
  subst e
  exact ⟨.bl k, H, I, rfl, q⟩
theorem op_lt : OpR X (compareOp .Lt) (rI0 fun i j => .bl (decide (i < j))) := opB0 fun _ _ _ _ _ _ _ q => lt_int q
theorem op_le : OpR X (compareOp .LtE) (rI0 fun i j => .bl (decide (i ≤ j))) := opB0 fun _ _ _ _ _ _ _ q => le_int q
theorem op_gt : OpR X (compareOp .Gt) (rI0 fun i j => .bl (decide (j < i))) := opB0 fun _ _ _ _ _ _ _ q => gt_int q
theorem op_ge : OpR X (compareOp .GtE) (rI0 fun i j => .bl (decide (j ≤ i))) := opB0 fun _ _ _ _ _ _ _ q => ge_int q
theorem op_lt_str : OpR X (compareOp .Lt) (fun x y H Q => ∃ i j, x = .str i ∧ y = .str j ∧ Q (.bl (decide (i.cps.toList < j.cps.toList))) H) := by
  intro pins s σ H x y v u Q I rx ry h
  obtain ⟨i, j, rfl, rfl, q⟩ := h
  obtain ⟨t, rfl⟩ := rx
  obtain ⟨t', rfl⟩ := ry
  exact lt_str (fin_bl I q rfl)
theorem op_in_str : OpR X (compareOp .In) (fun x y H Q => ∃ i j, x = .str i ∧ y = .str j ∧ Q (.bl (!(Builtin.Str.occurrences j i 0 j.length 1).isEmpty)) H) := by
  intro pins s σ H x y v u Q I rx ry h
  obtain ⟨i, j, rfl, rfl, q⟩ := h
  obtain ⟨t, rfl⟩ := rx
  obtain ⟨t', rfl⟩ := ry
  exact in_str (fin_bl I q rfl)

theorem op_isN : OpR X (compareOp .Is) (fun x y H Q => y = .non ∧ Q (.bl (decide (x = .non))) H) := by
  intro pins s σ H x y v u Q I rx ry h
  obtain ⟨rfl, q⟩ := h
  cases ry
  refine is_none_gen (fin_bl I q ?_)
  cases x <;> first
    | (cases rx; rfl)
    | (obtain ⟨t, rfl⟩ := rx; rfl)
theorem op_notN : OpR X (compareOp .IsNot) (fun x y H Q => y = .non ∧ Q (.bl (!decide (x = .non))) H) := by
  intro pins s σ H x y v u Q I rx ry h
  obtain ⟨rfl, q⟩ := h
  cases ry
  refine isnot_none_gen (fin_bl I q ?_)
  cases x <;> first
    | (cases rx; rfl)
    | (obtain ⟨t, rfl⟩ := rx; rfl)

theorem op_notin_str : OpR X (compareOp .NotIn) (fun x y H Q => ∃ i j, x = .str i ∧ y = .str j ∧ Q (.bl (!(!(Builtin.Str.occurrences j i 0 j.length 1).isEmpty))) H) := by
  intro pins s σ H x y v u Q I rx ry h
  obtain ⟨i, j, rfl, rfl, q⟩ := h
  obtain ⟨t, rfl⟩ := rx
  obtain ⟨t', rfl⟩ := ry
  exact notIn_str (fin_bl I q rfl)
theorem OpR.or {f : Value → Value → Sem Value} {r r' : R2} (h : OpR X f r) (h' : OpR X f r') : OpR X f (fun x y H Q => r x y H Q ∨ r' x y H Q) := by
  intro pins s σ H x y v u Q I rx ry q
  rcases q with q | q
  · exact h pins s σ H x y v u Q I rx ry q
  · exact h' pins s σ H x y v u Q I rx ry q

theorem nomark (b : Expr) {op : CmpOp} (h : op ≠ .In := by decide) (h2 : op ≠ .NotIn := by decide) : behindInMarks op b = false := by
  have e1 : (op == CmpOp.In) = false := by cases op <;> first | rfl | exact absurd rfl h
  have e2 : (op == CmpOp.NotIn) = false := by cases op <;> first | rfl | exact absurd rfl h2
  cases b <;> simp [behindInMarks, e1, e2]
theorem pe_cmpR {op : CmpOp} {r : R2} (ho : OpR X (compareOp op) r) (ha : PE X a ta) (hb : PE X b tb) (hm : behindInMarks op b = false) : PE X (.Compare a [op] [b] pos) (tOp r ta tb) := by
  intro pins s σ H Q I h
  exact wpAny_Compare1 (binT ha hb I h fun v u s2 x y H2 I2 rx ry q => ho pins s2 σ H2 x y v u Q I2 rx ry q) hm
noncomputable def tTest (t : TE) : TT := fun σ H Q => t σ H fun x H' => ∃ k, x = .bl k ∧ Q k H'
theorem pt_cmpR {op : CmpOp} {r : R2} (ho : OpR X (compareOp op) r) (ha : PE X a ta) (hb : PE X b tb) (hm : behindInMarks op b = false) : PT X (.Compare a [op] [b] pos) (tTest (tOp r ta tb)) := by
  intro pins s σ H Q I h
  refine wpAny_isTrue_Compare1 (thn (ha pins s σ H _ I h) fun v s1 ⟨x, H1, I1, r1, q1⟩ => thn (hb pins s1 σ H1 _ I1 q1) fun u s2 ⟨y, H2, I2, r2, q2⟩ =>
    thn (ho pins s2 σ H2 x y v u _ I2 r1 r2 q2) fun c s3 ⟨z, H3, I3, r3, k, e, q3⟩ => ?_) hm
  subst e
  cases r3
  exact wpAny_truthy_bool ⟨H3, I3, q3⟩
noncomputable def tChain (r r' : R2) (ta tb tc : TE) : TE := fun σ H Q => ta σ H fun x H1 => tb σ H1 fun y H2 => r x y H2 fun z H3 => ∃ k, z = .bl k ∧
  (if k = true then tc σ H3 fun w' H4 => r' y w' H4 Q else Q (.bl false) H3)
theorem pt_chain {op op' : CmpOp} {r r' : R2} (ho : OpR X (compareOp op) r) (ho' : OpR X (compareOp op') r') (ha : PE X a ta) (hb : PE X b tb) (hc : PE X c tc)
    (hm : lastMarks [op, op'] [b, c] = false := by with_unfolding_all rfl) : PT X (.Compare a [op, op'] [b, c] pos) (tTest (tChain r r' ta tb tc)) := by
  intro pins s σ H Q I h
  refine isTrue_chain (thn (ha pins s σ H _ I h) fun v s1 ⟨x, H1, I1, r1, q1⟩ => test_link (thn (hb pins s1 σ H1 _ I1 q1) fun u s2 ⟨y, H2, I2, r2, q2⟩ =>
    thn (ho pins s2 σ H2 x y v u _ I2 r1 r2 q2) fun d s3 ⟨z, H3, I3, r3, k, e, q3⟩ => ?_)) hm
  subst e
  cases r3
  refine wpAny_truthy_bool ?_
  cases k with
  | false =>
    obtain ⟨k', e', q'⟩ := q3
    cases e'
    exact ite_ff ⟨H3, I3, q'⟩
  | true =>
    refine ite_tt (test_last (thn (hc pins s3 σ H3 _ I3 q3) fun w' s4 ⟨z', H4, I4, r4, q4⟩ => thn (ho' pins s4 σ H4 y z' u w' _ I4 r2 r4 q4) fun d' s5 ⟨z2, H5, I5, r5, k2, e2, q5⟩ => ?_))
    subst e2
    cases r5
    exact wpAny_truthy_bool ⟨H5, I5, q5⟩

theorem line63 : (sizeLine : Nat) < 2 ^ 63 := by rw [sizeLine_eq]; decide
theorem op_add_str : OpR X (binaryOp .Add) (fun x y H Q => ∃ i j, x = .str i ∧ y = .str j ∧ i.length + j.length ≤ sizeLine ∧ Q (.str (i ++ j)) H) := by
  intro pins s σ H x y v u Q I rx ry h
  obtain ⟨i, j, rfl, rfl, hz, q⟩ := h
  obtain ⟨t, rfl⟩ := rx
  obtain ⟨t', rfl⟩ := ry
  exact add_str (fun t' tk => ⟨.str (i ++ j), H, I.tok _, ⟨_, rfl⟩, q⟩) hz
theorem vals1 {x : V} {us : List Value} (r : Vals [x] us) : ∃ u, us = [u] ∧ RelV x u := by
  cases r with
  | cons r1 r2 => cases r2; exact ⟨_, rfl, r1⟩
theorem call_str_int : CallR X (.type "str") (fun xs H Q => ∃ i, xs = [.int i] ∧ i.natAbs.log2 < 1920 ∧ Q (.str (toString i)) H) := by
  intro pins s σ H xs us Q I r h
  obtain ⟨i, rfl, hz, q⟩ := h
  obtain ⟨u, rfl, t, rfl⟩ := vals1 r
  exact PySem.P.str_of_int hz ⟨.str _, H, I.tok _, ⟨_, rfl⟩, q⟩
noncomputable def LenV (K : PySem.W.Frag) (x : V) (H : Hp) (n : Nat) : Prop :=
  match x with
  | .str y => y.length ≤ sizeLine ∧ n = y.length
  | .byt y => y.size ≤ sizeLine ∧ n = y.size
  | .ref p => (∃ xs, SqL K H p xs ∧ n = xs.length) ∨ ∃ xs, SqT K H p xs ∧ n = xs.length
  | _ => False
theorem call_len : CallR X (.builtin "len") (fun xs H Q => ∃ x n, xs = [x] ∧ LenV X.K x H n ∧ Q (.int n) H) := by
  intro pins s σ H xs us Q I r h
  obtain ⟨x, n, rfl, e, q⟩ := h
  obtain ⟨u, rfl, rx⟩ := vals1 r
  have hl := line63
  have hs : sizeLine = 16777216 := sizeLine_eq
  cases x with
  | str y =>
    obtain ⟨t, rfl⟩ := rx
    obtain ⟨hy, e'⟩ : y.length ≤ sizeLine ∧ n = y.length := e
    subst e'
    exact len_str (by omega) ⟨.int _, H, I.tok _, ⟨_, rfl⟩, q⟩
  | byt y =>
    obtain ⟨t, rfl⟩ := rx
    obtain ⟨hy, e'⟩ : y.size ≤ sizeLine ∧ n = y.size := e
    subst e'
    exact PySem.W.len_bytes (by omega) ⟨.int _, H, I.tok _, ⟨_, rfl⟩, q⟩
  | ref p =>
    cases rx
    have e' : (∃ xs, SqL X.K H p xs ∧ n = xs.length) ∨ ∃ xs, SqT X.K H p xs ∧ n = xs.length := e
    rcases e' with ⟨xs, hx, e'⟩ | ⟨xs, hx, e'⟩
    · subst e'
      obtain ⟨its, r', pl, hz⟩ := I.list hx
      have hlen := r'.length
      exact Calls.call_len_list pl.isList (by simp only [List.size_toArray]; omega) ⟨.int xs.length, H, I.tok _, ⟨_, by simp only [List.size_toArray]; rw [hlen]⟩, q⟩
    · subst e'
      obtain ⟨its, r', pl, hz⟩ := I.tuple hx
      have hlen := r'.length
      exact len_tuple pl (by simp only [List.size_toArray]; omega) ⟨.int xs.length, H, I.tok _, ⟨_, by simp only [List.size_toArray]; rw [hlen]⟩, q⟩
  | _ => exact (show False from e).elim
end
end L2

namespace L2
open PySem PySem.Spec PyProof.Rows

structure ObjM (h : Heap) (x dx C : Addr) (mA : Str → Option Value) : Prop where
  obj : h.get? x = some (PySem.W.instObj C dx)
  ns : h.Ns1 dx mA
  ne : dx ≠ x

theorem lookIn_ns {h : Heap} {dx : Addr} {mA : Str → Option Value} (n : h.Ns1 dx mA) : ∃ od, h.get? dx = some od ∧ ∀ name, PySem.W.lookIn name od = some (mA name) := by
  obtain ⟨o, es, ep, ho, hd, hk, _, hm⟩ := n
  refine ⟨o, ho, fun name => ?_⟩
  have e := hm name
  unfold nsFind findBy at e
  rw [← Array.find?_toList] at e
  unfold PySem.W.lookIn
  rw [hd]
  dsimp only
  split
  · rename_i y q
    rw [q] at e
    exact congrArg some e
  · rename_i q
    rw [q] at e
    have a : es.toList.any (·.refKey) = false := by
      rw [List.any_eq_false]
      intro y hy
      obtain ⟨z, t, hkey⟩ := hk y (Array.mem_toList_iff.mp hy)
      simp [DictEntry.refKey, hkey]
    have a' : ¬ es.toList.any (·.refKey) = true := by rw [a]; exact Bool.false_ne_true
    rw [if_neg a']
    exact congrArg some e

theorem ObjM.look {h : Heap} {x dx C : Addr} {mA : Str → Option Value} (I : ObjM h x dx C mA) : ∃ od, PySem.W.InstAt h x (PySem.W.instObj C dx) C (some od) ∧ ∀ name, PySem.W.lookIn name od = some (mA name) :=
  let ⟨od, ho, hl⟩ := lookIn_ns I.ns
  ⟨od, ⟨I.obj, rfl, rfl, ho⟩, hl⟩

section
variable {prog : Program} {w : World} {A : Around} {E : Value → Shared → Prop} {s : Shared} {K : PySem.W.Frag} {x dx C f : Addr} {mA : Str → Option Value} {name : Str} {v : Value}

end

theorem handed_of {v : V} {u : Value} (r : RelV v u) : PySem.W.handedIn u = true := by
  cases v with
  | non => cases (show u = Value.none from r); rfl
  | bl b => cases (show u = Value.bool b from r); rfl
  | int i => obtain ⟨t, e⟩ := (show ∃ t, u = Value.int i t from r); cases e; rfl
  | str x => obtain ⟨t, e⟩ := (show ∃ t, u = Value.str x t from r); cases e; rfl
  | byt b => obtain ⟨t, e⟩ := (show ∃ t, u = Value.bytes b t from r); cases e; rfl
  | flt b => obtain ⟨t, e⟩ := (show ∃ t, u = Value.float b t from r); cases e; rfl
  | ref a => cases (show u = Value.ref a from r); rfl
  | ty n => cases (show u = Value.type n from r); rfl

section
variable {P : Program} {w : World} {H H' : Hp} {h h' : Heap} {a C dx : Addr} {fs fs' : List (Str × V)}
end

structure Cls (K : PySem.W.Frag) (C : Addr) : Prop where
  pg : PySem.W.plainGet K C Str.empty = true
  hd : PySem.W.hasDictIn K C = true
  po : PySem.W.plainOver K C = true
  sa : PySem.W.findIn K (.ref C) "__setattr__" = some (some (.builtin "object.__setattr__"))
theorem Cls.get {K : PySem.W.Frag} {C : Addr} (c : Cls K C) (f : Str) : PySem.W.plainGet K C f = true := c.pg
structure Con (K : PySem.W.Frag) (C : Addr) (f : Str) (v : V) (u : Value) : Prop where
  at_ : PySem.W.findIn K (.ref C) f = some (some u)
  rel : RelV v u
  get : PySem.W.specialIn K u "__get__" = some none
  cp : PySem.W.copiedNames.contains f = false
structure Meth (K : PySem.W.Frag) (C : Addr) (m : Str) (f : Addr) : Prop where
  at_ : PySem.W.findIn K (.ref C) m = some (some (.ref f))
  fn : PySem.W.isFn K (.ref f) = true
  kp : PySem.W.keepIn K (.ref f) = true

section
variable {X : Cx} {pins : List (Addr × Obj)} {σ : St} {H : Hp} {s : Shared} {a C dx : Addr} {fs : List (Str × V)} {f : Str} {v : V} {A : Around} {E : Value → Shared → Prop}

theorem attr_of {prog : Program} {w : World} {env : Env} {e : Expr} {f : Str} {pos : Pos} {s : Shared} {Q : Value → Shared → Prop} (hb : attributeBase e f env (eval e env) = eval e env)
    (h : wpAny (model prog w) A (eval e env) (fun o s₁ => wpAny (model prog w) A (getAttr o f true) Q E s₁) E s) : wpAny (model prog w) A (eval (.Attribute e f pos) env) Q E s :=
  Attribute_any_ h (by rw [arm_eval_Attribute, hb])
end

section
variable {X : Cx} {o e value : Expr} {f : Str} {pos pos' tpos : Pos} {ta tv : TE}
end

section
variable {X : Cx} {pins : List (Addr × Obj)} {σ : St} {H : Hp} {s : Shared} {A : Around} {E : Value → Shared → Prop} {Q : Value → Shared → Prop} {c : Value} {b : Bool}
inductive TyOf (K : PySem.W.Frag) (H : Hp) : V → Value → Prop where
  | non : TyOf K H .non (.type "NoneType")
  | bl (x : Bool) : TyOf K H (.bl x) (.type "bool")
  | int (i : Int) : TyOf K H (.int i) (.type "int")
  | str (x : Str) : TyOf K H (.str x) (.type "str")
  | flt (x : UInt64) : TyOf K H (.flt x) (.type "float")
  | lst {a : Addr} {xs : List V} (e : H a = some (.lst xs)) : TyOf K H (.ref a) (.type "list")
  | frz {a : Addr} {o : Obj} {xs : List V} (e : H a = some (.frz o (.lst xs))) : TyOf K H (.ref a) (.type "list")
  | tup {a : Addr} {xs : List V} (e : H a = some (.tup xs)) : TyOf K H (.ref a) (.type "tuple")
  | dK {a : Addr} {kvs : List (Key × V)} (e : H a = some (.dK kvs)) : TyOf K H (.ref a) (.type "dict")
  | dT {a : Addr} {kvs : List (List Key × V)} (e : H a = some (.dT kvs)) : TyOf K H (.ref a) (.type "dict")
  | ins {a C dx : Addr} {fs : List (Str × V)} (e : H a = some (.ins C dx fs)) (cl : Cls K C) (ha : PySem.W.findIn K (.ref C) "__class__" = some (some (.builtin "object.__class__")))
      (hn : PySem.W.specialIn K (.builtin "object.__class__") "__get__" = some (some (.builtin "getset_descriptor.__get__"))) (htk : PySem.W.takesIn K (.builtin "object.__class__") = some true)
      (hm : PySem.W.mroIn K C (.type "object") = some true) : TyOf K H (.ref a) (.ref C)
end
end L2

namespace L2
open PySem PySem.Spec PyProof.Rows

structure Room (k : Nat) (A : Around) : Prop where
  hd : A.handled = none
  dp : A.depth + 3 * k + 5 < recursionLimit
  un : A.units + 16 * k + 200 < cLine
theorem Room.mono {j k : Nat} {A : Around} (r : Room k A) (h : j ≤ k) : Room j A := ⟨r.hd, by have := r.dp; omega, by have := r.un; omega⟩
theorem Room.deeper {k : Nat} {A : Around} (r : Room (k + 1) A) (env : Env) : Room k (A.deeper env) :=
  ⟨r.hd, by have := r.dp; show A.depth + 1 + 3 * k + 5 < _; omega, by have := r.un; show A.units + 3 + 16 * k + 200 < _; omega⟩
theorem Room.in1 {k : Nat} {A : Around} (r : Room (k + 1) A) : Room k A.in1 :=
  ⟨r.hd, by have := r.dp; show A.depth + 3 * k + 5 < _; omega, by have := r.un; show A.units + 1 + 16 * k + 200 < _; omega⟩
theorem make_depth {A : Around} {C : Addr} {us : List Value} {kw : List (Str × Value)} : (A.under (.builtin "type.__call__" ⟨.ref C :: us, kw⟩)).depth = A.depth + 1 := by
  first | rfl | simp [Around.under, Code.weight, Code.isCreation, Code.isGuard, Code.isCaller, Code.frames, Code.isFrame, guardIds]
theorem make_units {A : Around} {C : Addr} {us : List Value} {kw : List (Str × Value)} : (A.under (.builtin "type.__call__" ⟨.ref C :: us, kw⟩)).units = A.units + 1 := by
  first | rfl | simp [Around.under, Code.cUnits, Code.frames, Code.isFrame]
theorem Room.make {k : Nat} {A : Around} (r : Room (k + 1) A) (C : Addr) (us : List Value) (kw : List (Str × Value)) : Room k (A.under (.builtin "type.__call__" ⟨.ref C :: us, kw⟩)) :=
  ⟨r.hd, by have := r.dp; rw [make_depth]; omega, by have := r.un; rw [make_units]; omega⟩
theorem Room.depth {k : Nat} {A : Around} (r : Room k A) : A.depth < recursionLimit := by have := r.dp; omega
theorem Room.units {k : Nat} {A : Around} (r : Room k A) : A.units + 64 < cLine := by have := r.un; omega
noncomputable def tNil : TA := fun _ H Q => Q [] H
noncomputable def tCons (ta : TE) (tr : TA) : TA := fun σ H Q => ta σ H fun x H1 => tr σ H1 fun xs H2 => Q (x :: xs) H2
section
variable {X : Cx} {e : Expr} {es : List Expr} {te : TE} {t : TA} {pos : Pos}
theorem pa_nil : PA X [] tNil := fun _ _ _ _ H Q I h => Calls.spliced_nil ⟨[], H, I, .nil, h⟩
theorem pa_cons (ha : PE X e te) (hr : PA X es t) (hs : starEach (e :: es) X.env = (false, eval e X.env) :: starEach es X.env := by rfl) : PA X (e :: es) (tCons te t) := by
  intro pos pins s σ H Q I h
  rw [hs]
  show wpAny _ _ (spliced ((false, eval e X.env) :: backTo pos (starEach es X.env))) _ _ s
  refine Calls.spliced_cons (thn (ha pins s σ H _ I h) fun u s1 ⟨x, H1, I1, r1, q1⟩ => ?_)
  exact thn (hr pos pins s1 σ H1 _ I1 q1) fun us s2 ⟨xs, H2, I2, r2, q2⟩ => ⟨x :: xs, H2, I2, .cons r1 r2, q2⟩

noncomputable def tTup (t : TA) : TE := fun σ H Q => t σ H fun xs H1 => xs.length ≤ sizeLine ∧ ∀ p, H1 p = none → Q (.ref p) (upd H1 p (.tup xs))
noncomputable def tLst (t : TA) : TE := fun σ H Q => t σ H fun xs H1 => xs.length ≤ sizeLine ∧ ∀ p, H1 p = none → Q (.ref p) (upd H1 p (.lst xs))
theorem pe_tup {x1} (h : PA X es t) : PE X (.Tuple es x1 pos) (tTup t) := by
  intro pins s σ H Q I hq
  refine wpAny_Tuple_spliced (thn (h pos pins s σ H _ I hq) fun us s1 ⟨xs, H1, I1, r, z, q⟩ => ⟨by rw [← r.length]; exact z, ?_⟩)
  have hf : H1 s1.heap.objs.size = none := I1.hok.fresh (Nat.le_refl _)
  refine ⟨.ref s1.heap.objs.size, upd H1 s1.heap.objs.size (.tup xs), I1.laid (t' := s1.toks) (fun b u e => Heap.get?_push_of_some _ e) (Nat.le_refl _) ?_, rfl, q _ hf⟩
  exact ⟨z, us, r, IsTupN.mk (Heap.get?_push_size _ rfl)⟩
theorem pe_lst (h : PA X es t) : PE X (.List es pos) (tLst t) := by
  intro pins s σ H Q I hq
  refine wpAny_List_spliced (thn (h pos pins s σ H _ I hq) fun us s1 ⟨xs, H1, I1, r, z, q⟩ => ⟨by rw [← r.length]; exact z, ?_⟩)
  have hf : H1 s1.heap.objs.size = none := I1.hok.fresh (Nat.le_refl _)
  refine ⟨.ref s1.heap.objs.size, upd H1 s1.heap.objs.size (.lst xs), I1.laid (t' := s1.toks) (fun b u e => Heap.get?_push_of_some _ e) (Nat.le_refl _) ?_, rfl, q _ hf⟩
  exact ⟨z, us, 0, r, Heap.get?_push_size _ rfl⟩
end

noncomputable abbrev Sp := List V → Hp → VK → XK → Prop
noncomputable abbrev CXT := List Env → Hp → Shared → XK → Value → Shared → Prop

structure Env0 (P : Program) (w : World) (K : PySem.W.Frag) (mg : Str → Option Value) (base : Heap) (A : Around) (outer : List Env) (s : Shared) (H : Hp) : Prop where
  frames : A.frames = some outer
  mod : Mod K mg base
  bs : ∀ b o, base.get? b = some o → s.heap.get? b = some o ∧ H b = none
  bsz : base.objs.size ≤ s.heap.objs.size
  funs : s.heap.FunFrames base outer
  frf : ∀ b ∈ frs outer, H b = none
  hok : HOk P w H s.heap
  bare : AllBare s.gens
noncomputable def CE (outer : List Env) (P : Program) (w : World) (H : Hp) (s : Shared) (Q : VK) (u : Value) (s' : Shared) : Prop :=
  ∃ v H', s'.os = s.os ∧ AllBare s'.gens ∧ Un (frs outer) [] H H' s.heap s'.heap ∧ HOk P w H' s'.heap ∧ RelV v u ∧ Q v H'
noncomputable def CR (CX : CXT) (outer : List Env) (P : Program) (w : World) (H : Hp) (s : Shared) (Q : VK) (E : XK) (r : Result) (s' : Shared) : Prop :=
  match r with
  | .ok (.ret u) => CE outer P w H s Q u s'
  | .ok _ => False
  | .error e => CX outer H s E e s'
structure FnOk (P : Program) (w : World) (K : PySem.W.Frag) (mg : Str → Option Value) (base : Heap) (CX : CXT) (k : Nat) (f : Addr) (fd : FuncData) (ps : List Str) (sp : Sp) : Prop where
  len : ∀ vs H Q E, sp vs H Q E → vs.length = ps.length
  run : ∀ (A : Around) (outer : List Env) (s : Shared) (H : Hp) (args : Args) (us : List Value) (vs : List V) (Q : VK) (E : XK), Room k A → Env0 P w K mg base A outer s H → BindsTo s fd args (ps.zip us) → Vals vs us → sp vs H Q E →
    codeAny (model P w) A (.call (.ref f) args) (CR CX outer P w H s Q E) s
theorem FnOk.mono {P : Program} {w : World} {K : PySem.W.Frag} {mg : Str → Option Value} {base : Heap} {CX : CXT} {j k : Nat} {f : Addr} {fd : FuncData} {ps : List Str} {sp : Sp} (F : FnOk P w K mg base CX j f fd ps sp) (h : j ≤ k) :
    FnOk P w K mg base CX k f fd ps sp := ⟨F.len, fun A outer s H args us vs Q E hr => F.run A outer s H args us vs Q E (hr.mono h)⟩
theorem FnOk.imp {P : Program} {w : World} {K : PySem.W.Frag} {mg : Str → Option Value} {base : Heap} {CX : CXT} {k : Nat} {f : Addr} {fd : FuncData} {ps : List Str} {sp sp' : Sp} (F : FnOk P w K mg base CX k f fd ps sp)
    (h : ∀ vs H Q E, sp' vs H Q E → sp vs H Q E) : FnOk P w K mg base CX k f fd ps sp' :=
  ⟨fun vs H Q E q => F.len vs H Q E (h _ _ _ _ q), fun A outer s H args us vs Q E hr he hb hv hs => F.run A outer s H args us vs Q E hr he hb hv (h _ _ _ _ hs)⟩

theorem Env0.make {P : Program} {w : World} {K : PySem.W.Frag} {mg : Str → Option Value} {base : Heap} {A : Around} {outer : List Env} {s : Shared} {H : Hp} (e : Env0 P w K mg base A outer s H) (C : Addr) (us : List Value) (kw : List (Str × Value)) :
    Env0 P w K mg base (A.under (.builtin "type.__call__" ⟨.ref C :: us, kw⟩)) outer s H := ⟨by first | exact e.frames | (simpa [Around.under, Code.envs, Code.isFrame, pushEnvs] using e.frames), e.mod, e.bs, e.bsz, e.funs, e.frf, e.hok, e.bare⟩
theorem Env0.in1 {P : Program} {w : World} {K : PySem.W.Frag} {mg : Str → Option Value} {base : Heap} {A : Around} {outer : List Env} {s : Shared} {H : Hp} (e : Env0 P w K mg base A outer s H) :
    Env0 P w K mg base A.in1 outer s H := ⟨e.frames, e.mod, e.bs, e.bsz, e.funs, e.frf, e.hok, e.bare⟩

section
variable {X : Cx} {pins : List (Addr × Obj)} {σ : St} {H : Hp} {s s' : Shared}
theorem Inv.env0 (I : Inv X pins σ H s) : Env0 X.prog X.w X.K X.mg X.base X.A X.stack s H :=
  ⟨I.ok.frames, I.ok.mod, I.bs, Nat.le_trans I.ok.bsz I.sz, I.stack, I.stkFree, I.hok, I.bare⟩
theorem Inv.after {Q : VK} {u : Value} (I : Inv X pins σ H s) (h : CE X.stack X.prog X.w H s Q u s') : EP X pins σ Q u s' := by
  obtain ⟨v, H', os, bare, un, hok, r, q⟩ := h
  obtain ⟨hh, g, d, t, os'⟩ := s'
  obtain rfl : os' = s.os := os
  exact ⟨v, H', I.call (h' := hh) (g' := g) (d' := d) (t' := t) (ch := []) un hok bare (fun b z => absurd z (by simp)), r, q⟩
end

noncomputable def tCall (sp : Sp) (dvs : List V) (E : XK) (t : TA) : TE := fun σ H Q => t σ H fun vs H1 => sp (vs ++ dvs) H1 Q E
noncomputable def Binds (K : PySem.W.Frag) (fd : FuncData) (ps : List Str) (ds : List Value) : Prop :=
  ∀ (s : Shared) (us : List Value), K.In s.heap → (us ++ ds).length = ps.length → BindsTo s fd ⟨us, []⟩ (ps.zip (us ++ ds))
theorem Binds.all {K : PySem.W.Frag} {fd : FuncData} {ps : List Str} (h : ∀ us : List Value, us.length = ps.length → bindArgs fd ⟨us, []⟩ = pure (ps.zip us)) : Binds K fd ps [] := fun s us _ hl => by
  rw [List.append_nil] at hl ⊢
  exact .of_eq (h us hl)

noncomputable def Passes (CX : CXT) (X : Cx) (E : XK) : Prop := ∀ (pins : List (Addr × Obj)) (σ : St) (H : Hp) (s : Shared) (e : Value) (s' : Shared), Inv X pins σ H s → CX X.stack H s E e s' → X.xe e s'

section
variable {X : Cx} {CX : CXT} {k : Nat} {f C : Addr} {fd : FuncData} {ps : List Str} {sp : Sp} {dvs : List V} {ds : List Value} {E : XK} {x m : Str} {p pos apos : Pos} {e o : Expr} {es : List Expr} {ta : TE} {t : TA}

theorem run_fn {pins : List (Addr × Obj)} {σ : St} {H : Hp} {s : Shared} {Q : VK} {us : List Value} {vs : List V} (F : FnOk X.prog X.w X.K X.mg X.base CX k f fd ps sp) (hr : Room k X.A) (hb : Binds X.K fd ps ds) (hd : Vals dvs ds) (hx : Passes CX X E)
    (I : Inv X pins σ H s) (r : Vals vs us) (h : sp (vs ++ dvs) H Q E) : wpAny (model X.prog X.w) X.A (call (.ref f) us) (EP X pins σ Q) X.xe s := by
  have r2 : Vals (vs ++ dvs) (us ++ ds) := r.append hd
  have hl : (us ++ ds).length = ps.length := by rw [← r2.length]; exact F.len _ _ _ _ h
  refine wpAny_call (codeAny_mono (F.run X.A X.stack s H ⟨us, []⟩ (us ++ ds) (vs ++ dvs) Q E hr I.env0 (hb s us I.kIn hl) r2 h) fun r s' hq => ?_)
  cases r with
  | error e => exact hx pins σ H s e s' I hq
  | ok fl =>
    cases fl with
    | ret u => exact I.after hq
    | next => exact False.elim hq
    | brk => exact False.elim hq
    | cont => exact False.elim hq

theorem pe_call (F : FnOk X.prog X.w X.K X.mg X.base CX k f fd ps sp) (hr : Room k X.A) (hg : Gl X x) (hm : X.mg x = some (.ref f)) (hk : PySem.W.keepIn X.K (.ref f) = true) (hb : Binds X.K fd ps ds) (hd : Vals dvs ds) (hx : Passes CX X E)
    (ha : PA X (e :: es) t) (hdb : (x == ("__debug__" : Str)) = false := by decide) (he : starEach (e :: es) X.env = (false, eval e X.env) :: starEach es X.env := by rfl) (hpl : (backTo pos (starEach es X.env)).any (·.1) = false := by rfl) :
    PE X (.Call (.Name x p) (e :: es) [] pos) (tCall sp dvs E t) := by
  intro pins s σ H Q I h
  refine wpAny_Call_Name_kw (ld_glob I hg hm ?_ hdb)
  refine PySem.W.callWith_K (h₀ := X.base) I.ok.mod.kin hk (thn (ha pos pins s σ H _ I h) fun us s1 ⟨vs, H1, I1, r, q⟩ => ⟨I1.kIn, ?_⟩) he hpl
  exact run_fn F hr hb hd hx I1 r q
structure Mk (K : PySem.W.Frag) (C f : Addr) : Prop where
  makes : PySem.W.makesIn K C = true
  init : PySem.W.findIn K (.ref C) "__init__" = some (some (.ref f))
  fn : PySem.W.isFn K (.ref f) = true
  kp : PySem.W.keepIn K (.ref C) = true

end

section
variable {X : Cx} {CX : CXT} {k : Nat} {f C : Addr} {fd : FuncData} {ps ks : List Str} {sp : Sp} {E : XK} {x m : Str} {p pos apos kpos : Pos} {e o : Expr} {es : List Expr} {kws : List Keyword} {te ta : TE} {t tk : TA} {nm : Option Str}
structure KBinds (K : PySem.W.Frag) (fd : FuncData) (ps ks : List Str) (g : List Value → List Value → List Value) (gV : List V → List V → List V) : Prop where
  to : ∀ (s : Shared) (us ws : List Value), K.In s.heap → (g us ws).length = ps.length → BindsTo s fd ⟨us, ks.zip ws⟩ (ps.zip (g us ws))
  rel : ∀ {vs : List V} {us : List Value} {zs : List V} {ws : List Value}, Vals vs us → Vals zs ws → Vals (gV vs zs) (g us ws)
variable {g : List Value → List Value → List Value} {gV : List V → List V → List V}
end

structure FnScope (N P : List Str) (sc : Scope) : Prop where
  kind : sc.kind = .function
  co : sc.isCoroutine = false
  gen : sc.isGenerator = false
  nd : N.Nodup
  pre : N.take P.length = P
  par : ∀ x ∈ P, sc.names.lookup x = some .local ∨ sc.names.lookup x = some .cell
  nofree : ∀ y ∈ sc.names, y.2 ≠ .free

theorem bindL_out {kindOf : Str → Option NameKind} {x : Str} : ∀ {binds : List (Str × Value)} {m : Str → Option Value}, (∀ v, (x, v) ∉ binds) → bindL kindOf binds m x = m x
  | [], _, _ => rfl
  | (n, v) :: r, m, h => by
    unfold bindL
    rw [bindL_out fun w hw => h w (List.mem_cons_of_mem _ hw)]
    split
    · have : x ≠ n := by rintro rfl; exact h v List.mem_cons_self
      simp [this]
    · rfl
theorem bindC_out {kindOf : Str → Option NameKind} {x : Str} : ∀ {binds : List (Str × Value)} {m : Str → Option Value}, (∀ v, (x, v) ∉ binds) → bindC kindOf binds m x = m x
  | [], _, _ => rfl
  | (n, v) :: r, m, h => by
    unfold bindC
    rw [bindC_out fun w hw => h w (List.mem_cons_of_mem _ hw)]
    split
    · rfl
    · have : x ≠ n := by rintro rfl; exact h v List.mem_cons_self
      simp [this]
theorem bindL_get {kindOf : Str → Option NameKind} {x : Str} {v : Value} : ∀ {P : List Str} {vs : List Value} {i : Nat} {m : Str → Option Value}, P.Nodup → P[i]? = some x → vs[i]? = some v → kindOf x = some .local →
    bindL kindOf (P.zip vs) m x = some v
  | [], _, _, _, _, h, _, _ => by simp at h
  | _ :: _, [], _, _, _, _, h, _ => by simp at h
  | p :: P, w :: vs, 0, m, nd, h1, h2, hk => by
    simp at h1 h2; subst h1; subst h2
    show bindL kindOf ((p, w) :: P.zip vs) m p = _
    unfold bindL
    rw [bindL_out fun v hv => (List.nodup_cons.mp nd).1 (List.of_mem_zip hv).1, if_pos hk]
    simp
  | p :: P, w :: vs, i + 1, m, nd, h1, h2, hk => by
    show bindL kindOf ((p, w) :: P.zip vs) m x = _
    unfold bindL
    exact bindL_get (i := i) (List.nodup_cons.mp nd).2 (by simpa using h1) (by simpa using h2) hk
theorem bindC_get {kindOf : Str → Option NameKind} {x : Str} {v : Value} : ∀ {P : List Str} {vs : List Value} {i : Nat} {m : Str → Option Value}, P.Nodup → P[i]? = some x → vs[i]? = some v → kindOf x ≠ some .local →
    bindC kindOf (P.zip vs) m x = some v
  | [], _, _, _, _, h, _, _ => by simp at h
  | _ :: _, [], _, _, _, _, h, _ => by simp at h
  | p :: P, w :: vs, 0, m, nd, h1, h2, hk => by
    simp at h1 h2; subst h1; subst h2
    show bindC kindOf ((p, w) :: P.zip vs) m p = _
    unfold bindC
    rw [bindC_out fun v hv => (List.nodup_cons.mp nd).1 (List.of_mem_zip hv).1, if_neg hk]
    simp
  | p :: P, w :: vs, i + 1, m, nd, h1, h2, hk => by
    show bindC kindOf ((p, w) :: P.zip vs) m x = _
    unfold bindC
    exact bindC_get (i := i) (List.nodup_cons.mp nd).2 (by simpa using h1) (by simpa using h2) hk

noncomputable def start (N : List Str) (vs : List V) : St := vs.map some ++ List.replicate (N.length - vs.length) none

noncomputable def cxOf (CX : CXT) (P : Program) (w : World) (K : PySem.W.Frag) (mg : Str → Option Value) (base : Heap) (N : List Str) (qual : Str) (scope : Scope) (f : Addr) (cd : Value) (A : Around) (outer : List Env) (s : Shared) (H : Hp) (E : XK) : Cx where
  prog := P
  w := w
  K := K
  mg := mg
  base := base
  A := A.deeper (envOfC qual scope s.heap.objs.size f cd)
  N := N
  s₀ := s
  H₀ := H
  env := envOfC qual scope s.heap.objs.size f cd
  outer := outer
  stack := envOfC qual scope s.heap.objs.size f cd :: outer
  ex := []
  calm := true
  fn := fun _ => true
  pn := []
  xe := fun e s' => wpAny (model P w) (A.deeper (envOfC qual scope s.heap.objs.size f cd)) (leaving (envOfC qual scope s.heap.objs.size f cd) e) (fun _ s'' => CX outer H s E e s'') (fun e' s'' => CX outer H s E e' s'') s'

theorem cell_has {sc : Scope} {n : Nat} {x : Str} (h : sc.names.lookup x = some .cell) : ∃ c, (cellsFrom n sc.names []).lookup x = some c := by
  have q := PySem.W.cellsFrom_some sc.names n [] (.inl h)
  exact Option.isSome_iff_exists.mp q

theorem inv_start {CX : CXT} {P : Program} {w : World} {K : PySem.W.Frag} {mg : Str → Option Value} {base : Heap} {N ps : List Str} {qual : Str} {scope : Scope} {f : Addr} {cd : Value} {A : Around} {outer : List Env} {s s1 : Shared} {H : Hp} {E : XK} {us : List Value} {vs : List V}
    (S : FnScope N ps scope) (hd : A.handled = none) (e0 : Env0 P w K mg base A outer s H) (hl : vs.length = ps.length) (r : Vals vs us)
    (x : InCallC s s.heap.objs.size (bindL (envOfC qual scope s.heap.objs.size f cd).kindOf (ps.zip us) fun _ => none) (cellsFrom (s.heap.objs.size + 1) scope.names []) (bindC (envOfC qual scope s.heap.objs.size f cd).kindOf (ps.zip us) fun _ => none) s1) :
    Inv (cxOf CX P w K mg base N qual scope f cd A outer s H E) [] (start N vs) H s1 := by
  have hpl : ps.length ≤ N.length := by have := congrArg List.length S.pre; rw [List.length_take] at this; omega
  obtain ⟨h1, tk, rfl, hk⟩ := x.done
  have noA : ∀ b : Addr, b ∉ (cxOf CX P w K mg base N qual scope f cd A outer s H E).ex := fun b z => absurd (show b ∈ ([] : List Addr) from z) (by simp)
  refine ⟨⟨e0.mod, S.kind, rfl, rfl, Nat.le_refl _, fun y z c h1 h2 => ?_, fun y hy => ?_, fun y c _ h => ?_, fun _ => hd, Around.frames_deeper e0.frames, .inr ⟨rfl, rfl⟩, fun b z => absurd z (noA b), e0.bs, e0.bsz, fun b _ _ => noA b, fun b z => absurd z (noA b), e0.funs, e0.frf⟩,
    rfl, e0.bare, Un.kept hk, ⟨_, x.toInCall.ns, fun i y v h1 h2 h3 => ?_⟩, fun y c h => ⟨_, x.cell y c h⟩, e0.hok.fresh (Nat.le_refl _), fun y c h => ?_, fun p hp => absurd (show p ∈ ([] : List (Addr × Obj)) from hp) (by simp), e0.hok.kept hk, ?_⟩
  · exact name_of_addr x.apart (PySem.mem_of_lookup h1) (PySem.mem_of_lookup h2)
  · have hy : scope.names.lookup y = some .cell ∨ scope.names.lookup y = some .free := hy
    rcases hy with hy | hy
    · exact cell_has hy
    · exact absurd rfl (S.nofree _ (PySem.mem_of_lookup hy))
  · exact Nat.le_of_lt (x.above y c (PySem.mem_of_lookup h))
  · have hi : i < vs.length := by
      unfold start at h2
      by_cases hi : i < vs.length
      · exact hi
      · rw [List.getElem?_append_right (by simpa using hi)] at h2
        rw [List.getElem?_replicate] at h2
        split at h2 <;> cases h2
    have ha : vs[i]? = some v := by
      unfold start at h2
      rw [List.getElem?_append_left (by simpa using hi), List.getElem?_map] at h2
      cases e : vs[i]? with
      | none => rw [e] at h2; cases h2
      | some a => rw [e] at h2; cases h2; rfl
    obtain ⟨u, hu, rv⟩ := r.get ha
    have hp : ps[i]? = some y := by
      rw [← S.pre, List.getElem?_take_of_lt (by omega)]; exact h1
    have ndP : ps.Nodup := by rw [← S.pre]; exact S.nd.sublist (List.take_sublist _ _)
    refine ⟨u, rv, ?_⟩
    rcases S.par y (List.mem_of_getElem? hp) with k | k
    · exact .inl ⟨k, bindL_get ndP hp hu k⟩
    · obtain ⟨c, e⟩ := cell_has (n := s.heap.objs.size + 1) k
      refine .inr ⟨.inl k, c, e, ?_⟩
      have q := x.cell y c e
      rw [bindC_get ndP hp hu (by show scope.names.lookup y ≠ _; rw [k]; decide)] at q
      exact q
  · exact e0.hok.fresh (Nat.le_of_lt (x.above y c (PySem.mem_of_lookup h)))
  · unfold start
    show _ = N.length
    rw [List.length_append, List.length_map, List.length_replicate]
    omega

theorem fn_of {CX : CXT} {P : Program} {w : World} {K : PySem.W.Frag} {mg : Str → Option Value} {base : Heap} {k : Nat} {f : Addr} {name qual : Str} {params : Arguments} {body : List Stmt} {scope : Scope} {dV kV doc pm cdv ct oc : Value} {an od : Option Addr}
    {osl : Array (Option Value)} {N ps : List Str} {sp : Sp} (lk : K.lookup f = some ⟨oc, od, .func (PySem.W.fnOf name qual params body scope dV kV doc pm an cdv ct), osl⟩) (hcd : PySem.W.codeIn K cdv qual = true) (S : FnScope N ps scope)
    (len : ∀ vs H Q E, sp vs H Q E → vs.length = ps.length)
    (hbody : ∀ (A : Around) (outer : List Env) (s : Shared) (H : Hp) (vs : List V) (Q : VK) (E : XK), Room k (A.deeper (envOfC qual scope s.heap.objs.size f cdv)) → sp vs H Q E →
      ∃ t, PSs (cxOf CX P w K mg base N qual scope f cdv A outer s H E) body t ∧ t { nx := fun _ H' => Q .non H', rt := Q } (start N vs) H) :
    FnOk P w K mg base CX (k + 1) f (PySem.W.fnOf name qual params body scope dV kV doc pm an cdv ct) ps sp := by
  refine ⟨len, fun A outer s H args us vs Q E hr e0 hb r hsp => ?_⟩
  have hl := len _ _ _ _ hsp
  have KX : K.In s.heap := e0.mod.kin.keeps fun b o e => (e0.bs b o e).1
  have lim : s.heap.NoLimit := e0.mod.nolimit.keeps fun b o e => (e0.bs b o e).1
  have hkind : ∀ y ∈ ps.zip us, scope.names.lookup y.1 = some .local ∨ (scope.names.lookup y.1 = some .cell ∧ ((cellsFrom (s.heap.objs.size + 1) scope.names []).lookup y.1).isSome = true) := fun ⟨n, v⟩ hy => by
    rcases S.par n (List.of_mem_zip hy).1 with q | q
    · exact .inl q
    · exact .inr ⟨q, PySem.W.cellsFrom_some _ _ _ (.inl q)⟩
  refine codeAny_call_function hr.depth (KX _ _ lk) rfl S.co S.gen rfl (PySem.W.codeRec_of KX hcd) (hb _ _ _ _ ?_)
  refine wpAny_newFunctionEnv_cells S.kind hkind fun env he s1 x => ?_
  subst he
  refine ⟨lim.keeps x.toInCall.keep, codeAny_func ?_⟩
  obtain ⟨t, ht, hq⟩ := hbody A outer s H vs Q E (hr.deeper _) hsp
  have I : Inv (cxOf CX P w K mg base N qual scope f cdv A outer s H E) [] (start N vs) H s1 := inv_start S hr.hd e0 hl r x
  refine wpAny_mono (ht [] s1 (start N vs) H _ I hq) (fun fl s' hs => ?_) fun e s' hs => hs
  have fin : ∀ {σ' : St} {H' : Hp} {v : V} {u : Value}, Inv (cxOf CX P w K mg base N qual scope f cdv A outer s H E) [] σ' H' s' → RelV v u → Q v H' → CE outer P w H s Q u s' :=
    fun {σ' H' v u} J rv q => ⟨v, H', J.os, J.bare, J.base, J.hok, rv, q⟩
  cases fl with
  | ret u =>
    obtain ⟨v, σ', H', J, rv, q⟩ := hs
    exact fin J rv q
  | next =>
    obtain ⟨σ', H', J, q⟩ := hs
    exact fin (v := V.non) (u := Value.none) J rfl q
  | brk =>
    obtain ⟨_, _, _, q⟩ := hs
    exact False.elim q
  | cont =>
    obtain ⟨_, _, _, q⟩ := hs
    exact False.elim q
end L2

namespace L2
open PySem PySem.Spec PyProof.Rows
section
variable {X : Cx} {x : Str} {p pos : Pos} {e : Expr} {es : List Expr} {t : TA} {id T : String} {r : List V → Hp → VK → Prop}

noncomputable def tCB (r : List V → Hp → VK → Prop) (t : TA) : TE := fun σ H Q => t σ H fun vs H1 => r vs H1 Q
theorem pe_callB (hc : CallR X (.builtin id) r) (hg : Gl X x) (hm : X.mg x = none) (hv : bootBuiltins x = some (.builtin id)) (ha : PA X (e :: es) t) (hn : x ≠ "__name__" := by decide) (hdb : (x == ("__debug__" : Str)) = false := by decide)
    (he : starEach (e :: es) X.env = (false, eval e X.env) :: starEach es X.env := by rfl) (hpl : (backTo pos (starEach es X.env)).any (·.1) = false := by rfl) : PE X (.Call (.Name x p) (e :: es) [] pos) (tCB r t) := by
  intro pins s σ H Q I h
  refine wpAny_Call_Name_kw (ld_blt I hg hm hv ?_ hn hdb)
  exact PyProof.Rows.callWith_builtin1 (thn (ha pos pins s σ H _ I h) fun us s1 ⟨vs, H1, I1, r1, q1⟩ => hc pins s1 σ H1 vs us Q I1 r1 q1) he hpl
theorem pe_callTy (hc : CallR X (.type T) r) (hg : Gl X x) (hm : X.mg x = none) (hv : bootBuiltins x = some (.type T)) (ha : PA X (e :: es) t) (hn : x ≠ "__name__" := by decide) (hdb : (x == ("__debug__" : Str)) = false := by decide)
    (he : starEach (e :: es) X.env = (false, eval e X.env) :: starEach es X.env := by rfl) (hpl : (backTo pos (starEach es X.env)).any (·.1) = false := by rfl) : PE X (.Call (.Name x p) (e :: es) [] pos) (tCB r t) := by
  intro pins s σ H Q I h
  refine wpAny_Call_Name_kw (ld_blt I hg hm hv ?_ hn hdb)
  exact PyProof.Rows.callWith_type1 (thn (ha pos pins s σ H _ I h) fun us s1 ⟨vs, H1, I1, r1, q1⟩ => hc pins s1 σ H1 vs us Q I1 r1 q1) he hpl
end
end L2

namespace HT
open PySem PyProof.Rows

section
open PySem.SeqAt
open PySem.AutoSeq1 (wpAny_loadPart')
open PySem.MeetsSeq PySem.MeetsSeq2 PySem.MeetsSeq3

end

section
variable {prog : Program} {w : World} {A : Around} {E : Value → Shared → Prop} {s : Shared}

theorem cat_tup {t b : Addr} {vs ws : List Value} {Q : Value → Shared → Prop} (ht : IsTup s.heap t vs.toArray) (hb : IsTup s.heap b ws.toArray) (hv : vs ≠ [])
    (h1 : ws = [] → Q (.ref t) s) (h2 : ws ≠ [] → Q (.ref s.heap.objs.size) { s with heap := s.heap.push { cls := .type "tuple", data := .seq (vs ++ ws).toArray } })
    (hsz : vs.length + ws.length ≤ sizeLine) : wpAny (model prog w) A (binaryOp .Add (.ref t) (.ref b)) Q E s := by
  obtain ⟨⟨cls, dd, data, sl⟩, ho, hc, n, hd⟩ := id ht
  obtain ⟨⟨cls2, dd2, data2, sl2⟩, ho2, hc2, n2, hd2⟩ := id hb
  simp only at hc hd hc2 hd2
  subst hc hd hc2 hd2
  have e : vs.toArray ++ ws.toArray = (vs ++ ws).toArray := by simp
  by_cases hw : ws = []
  · exact concat_meets ⟨_, ho, rfl⟩ ⟨_, ho2, rfl⟩ noFill_tuple_add seq_tuple_add PySem.F.slot_tuple_add PySem.F.entry_tuple_add (PySem.F.args_tuple_add_2 _ _)
      (tuple_addW1 t b vs.toArray ws.toArray n n2 dd dd2 sl sl2 (by simpa using hv) (by simp [hw])) ⟨ho, ho2, h1 hw⟩
  · refine concat_meets ⟨_, ho, rfl⟩ ⟨_, ho2, rfl⟩ noFill_tuple_add seq_tuple_add PySem.F.slot_tuple_add PySem.F.entry_tuple_add (PySem.F.args_tuple_add_2 _ _)
      (tuple_addW2 t b vs.toArray ws.toArray n n2 dd dd2 sl sl2 (by simpa using hv) (by simpa using hw) (by rw [List.size_toArray, List.size_toArray]; exact hsz)) ⟨ho, ho2, ?_⟩
    rw [e]
    exact h2 hw

noncomputable def sIx (n d : Nat) : Option Int → Nat
  | none => d
  | some v => if v < 0 then (v + (n : Int)).toNat else min v.toNat n
theorem sIx_none (n d : Nat) : sIx n d none = d := rfl
theorem sIx_nat (n d k : Nat) : sIx n d (some (k : Int)) = min k n := by
  show (if (k : Int) < 0 then ((k : Int) + (n : Int)).toNat else min (k : Int).toNat n) = min k n
  rw [if_neg (by omega), Int.toNat_natCast]
theorem sIx_le (n d : Nat) (hd : d ≤ n) (o : Option Int) : sIx n d o ≤ n := by
  cases o with
  | none => exact hd
  | some v =>
    show (if v < 0 then (v + (n : Int)).toNat else min v.toNat n) ≤ n
    by_cases hv : v < 0
    · rw [if_pos hv]; omega
    · rw [if_neg hv]; exact Nat.min_le_right _ _
theorem clip_eq (v : Int) (n d : Nat) : (if v < 0 then max (v + (n : Int)) 0 else min v (n : Int)) = ((sIx n d (some v) : Nat) : Int) := by
  show (if v < 0 then max (v + (n : Int)) 0 else min v (n : Int)) = (((if v < 0 then (v + (n : Int)).toNat else min v.toNat n) : Nat) : Int)
  by_cases hv : v < 0
  · simp only [if_pos hv]; omega
  · simp only [if_neg hv]; omega
theorem adjust_gen (lo hi : Option Int) (n : Nat) : Builtin.Slice.sliceAdjust lo hi 1 (n : Int) = (((sIx n 0 lo : Nat) : Int), ((sIx n n hi : Nat) : Int)) := by
  have h1 : ¬ ((1 : Int) < 0) := by omega
  unfold Builtin.Slice.sliceAdjust
  simp only [h1, if_false]
  refine Prod.ext ?_ ?_
  · cases lo with
    | none => rfl
    | some v => exact clip_eq v n 0
  · cases hi with
    | none => rfl
    | some v => exact clip_eq v n n
theorem places_gen (i j : Nat) : Builtin.Slice.slicePlaces (i : Int) (j : Int) 1 = j - i := by
  unfold Builtin.Slice.slicePlaces
  have h1 : (1 : Int) > 0 := by omega
  simp only [h1, if_true, Int.ediv_one]
  split <;> omega
theorem slicePart_ {v : Value} {o : Option Int} {Q : Option Int → Shared → Prop} (p : IsPart v o) (h : Q o s) : wpAny (model prog w) A (Builtin.Slice.slicePartIndex v) Q E s := by
  cases p with
  | none => exact slicePart_none h
  | int i t => exact slicePart_int h
theorem sliceApplied_gen {sl : Addr} {vl vu : Value} {lo hi : Option Int} {n : Nat} {Q : Int × Int × Nat → Shared → Prop} (hs : s.heap.IsSliceOf sl vl vu .none) (pl : IsPart vl lo) (pu : IsPart vu hi)
    (h : Q (((sIx n 0 lo : Nat) : Int), 1, sIx n n hi - sIx n 0 lo) s) : wpAny (model prog w) A (Builtin.Slice.sliceApplied (.ref sl) (pure (n : Int))) Q E s := by
  obtain ⟨os, hos, hcs, hds⟩ := id hs
  unfold Builtin.Slice.sliceApplied Builtin.Slice.sliceFields
  refine wpAny_bind (wpAny_bind (wpAny_field hos hds (x := vl) rfl (wpAny_bind (wpAny_field hos hds (x := vu) rfl (wpAny_bind (wpAny_field hos hds (x := .none) rfl (wpAny_pure ?_)))))))
  refine wpAny_bind (slicePart_none ?_)
  show wpAny _ _ (if ((1 : Int) == 0) = true then _ else _) _ _ s
  rw [if_neg (by decide)]
  refine wpAny_bind (slicePart_ pl (wpAny_bind (slicePart_ pu (wpAny_bind (wpAny_pure ?_)))))
  show wpAny _ _ (match Builtin.Slice.sliceAdjust lo hi 1 (n : Int) with | (lo, hi) => pure (lo, (1 : Int), Builtin.Slice.slicePlaces lo hi 1)) _ _ s
  rw [adjust_gen lo hi n]
  show wpAny _ _ (pure (((sIx n 0 lo : Nat) : Int), (1 : Int), Builtin.Slice.slicePlaces ((sIx n 0 lo : Nat) : Int) ((sIx n n hi : Nat) : Int) 1)) _ _ s
  rw [places_gen]
  exact wpAny_pure h
theorem pick_gen (xs : Array Value) (i k : Nat) : ((List.range k).filterMap fun (m : Nat) => xs[((i : Int) + (m : Int) * 1).toNat]?).toArray = ((xs.toList.drop i).take k).toArray := by
  have e : (fun (m : Nat) => xs[((i : Int) + (m : Int) * 1).toNat]?) = fun m => xs[i + m]? := by
    funext m
    have : ((i : Int) + (m : Int) * 1).toNat = i + m := by omega
    rw [this]
  rw [e]
  have := pick_run xs i k
  rw [List.filterMap_map] at this
  have e2 : ((fun x => xs[x]?) ∘ fun x => i + x) = fun m => xs[i + m]? := rfl
  rw [e2] at this
  rw [this]

theorem getItem_tuple_cut {t sl : Addr} {items : Array Value} {vl vu : Value} {lo hi : Option Int} {Q : Value → Shared → Prop} (ht : IsTup s.heap t items) (hs : s.heap.IsSliceOf sl vl vu .none) (pl : IsPart vl lo) (pu : IsPart vu hi)
    (hw : ¬ (sIx items.size 0 lo = 0 ∧ sIx items.size items.size hi = items.size))
    (h : Q (.ref s.heap.objs.size) { s with heap := s.heap.push { cls := .type "tuple", data := .seq ((items.toList.drop (sIx items.size 0 lo)).take (sIx items.size items.size hi - sIx items.size 0 lo)).toArray } })
    (hsz : items.size ≤ sizeLine) : wpAny (model prog w) A (getItem (.ref t) (.ref sl)) Q E s := by
  have htake : sizeOk (.seq ((items.toList.drop (sIx items.size 0 lo)).take (sIx items.size items.size hi - sIx items.size 0 lo)).toArray) := by
    show ((items.toList.drop (sIx items.size 0 lo)).take (sIx items.size items.size hi - sIx items.size 0 lo)).toArray.size ≤ sizeLine
    rw [List.size_toArray, List.length_take, List.length_drop, Array.length_toList]
    omega
  have hj : sIx items.size items.size hi ≤ items.size := sIx_le _ _ (Nat.le_refl _) hi
  obtain ⟨os, hos, hcs, hds⟩ := id hs
  have hTs : s.TypeIs (.ref sl) "slice" := ⟨os, hos, hcs⟩
  unfold getItem
  try with_reducible refine wpAny_holding ?_
  first | refine wpAny_bind (wpAny_pure ?_) | skip
  refine wpAny_bind (wpAny_sequenceKey ht.typeIs (by decide) ?_)
  refine wpAny_bind (wpAny_callSpecial?_slot (name := Str.ofString "__getitem__") ht.typeIs PyProof.Rows.slot_tuple_getitem
    (wpAny_call_entry PyProof.Rows.slot_tuple_getitem ht.typeIs entry_tuple_getitem ?_ (args_tuple_getitem _ _)))
  show wpAny _ _ (Builtin.Tuple.tupleItemsOf (.ref t) >>= _) _ _ s
  refine wpAny_bind (tupleItemsOf_ ht ?_)
  refine wpAny_bind (wpAny_typeOf hTs ?_)
  rw [if_pos (by decide)]
  refine wpAny_bind (sliceApplied_gen hs pl pu ?_)
  have hno : ¬ ((((sIx items.size 0 lo : Nat) : Int) == 0 && (1 : Int) == 1 && (sIx items.size items.size hi - sIx items.size 0 lo) == items.size) = true) := by
    intro q
    rw [Bool.and_eq_true, Bool.and_eq_true] at q
    have q1 : ((sIx items.size 0 lo : Nat) : Int) = 0 := eq_of_beq q.1.1
    have q2 : sIx items.size items.size hi - sIx items.size 0 lo = items.size := eq_of_beq q.2
    exact hw ⟨by omega, by omega⟩
  show wpAny _ _ (if (((sIx items.size 0 lo : Nat) : Int) == 0 && (1 : Int) == 1 && (sIx items.size items.size hi - sIx items.size 0 lo) == items.size) = true then _ else _) _ _ s
  rw [if_neg hno, pick_gen]
  first
    | exact wpAny_bind (m := Builtin.Tuple.tupleExact _) (wpAny_newObj_type (wpAny_pure ⟨_, rfl, wpAny_pure h⟩) htake)
    | exact wpAny_bind (m := Builtin.Tuple.tupleExact _) (wpAny_newObj_type (wpAny_bind (wpAny_pure (wpAny_pure ⟨_, rfl, wpAny_pure h⟩))) htake)
    | exact wpAny_bind (wpAny_bind (m := Builtin.Tuple.tupleExact _) (wpAny_newObj_type (wpAny_pure (wpAny_pure ⟨_, rfl, wpAny_pure h⟩)) htake))
    | exact wpAny_bind (wpAny_bind (m := Builtin.Tuple.tupleExact _) (wpAny_newObj_type (wpAny_pure ⟨_, rfl, wpAny_pure h⟩) htake))
end
end HT

namespace L2
open PySem PySem.Spec PyProof.Rows

noncomputable abbrev TO := St → Hp → (Option Int → Hp → Prop) → Prop
noncomputable def PO (X : Cx) (e : Option Expr) (t : TO) : Prop :=
  ∀ (pins : List (Addr × Obj)) (s : Shared) (σ : St) (H : Hp) (Q : Option Int → Hp → Prop), Inv X pins σ H s → t σ H Q →
    wpAny (model X.prog X.w) X.A (evalPart e X.env) (fun u s' => ∃ o H', Inv X pins σ H' s' ∧ IsPart u o ∧ Q o H') X.xe s
noncomputable def tNoPart : TO := fun _ H Q => Q none H
noncomputable def tPart (t : TE) : TO := fun σ H Q => t σ H fun x H1 => ∃ i, x = .int i ∧ Q (some i) H1

section
variable {X : Cx} {e : Expr} {te : TE} {lo hi : Option Expr} {tl th : TO} {pos p2 : Pos}

theorem po_none : PO X none tNoPart := by
  intro pins s σ H Q I h
  rw [evalPart_none]
  exact wpAny_pure ⟨none, H, I, .none, h⟩
theorem po_some (h : PE X e te) : PO X (some e) (tPart te) := by
  intro pins s σ H Q I hw
  rw [evalPart_some]
  refine thn (h pins s σ H _ I hw) fun u s1 ⟨x, H1, I1, r1, q1⟩ => ?_
  obtain ⟨i, rfl, q⟩ := q1
  obtain ⟨t, rfl⟩ := r1
  exact ⟨some i, H1, I1, .int i t, q⟩

noncomputable def SlR (X : Cx) (r : V → Option Int → Option Int → Hp → VK → Prop) : Prop :=
  ∀ (pins : List (Addr × Obj)) (s : Shared) (σ : St) (H : Hp) (x : V) (v vl vu : Value) (lo hi : Option Int) (sl : Addr) (Q : VK), Inv X pins σ H s → RelV x v → s.heap.IsSliceOf sl vl vu .none → IsPart vl lo → IsPart vu hi → r x lo hi H Q →
    ∃ T id, typeLookup (.type T) "__getitem__" = pure (some (.builtin id)) ∧ s.TypeIs v T ∧ wpAny (model X.prog X.w) X.A (getItem v (.ref sl)) (EP X pins σ Q) X.xe s
theorem SlR.or {r r' : V → Option Int → Option Int → Hp → VK → Prop} (h : SlR X r) (h' : SlR X r') : SlR X (fun x lo hi H Q => r x lo hi H Q ∨ r' x lo hi H Q) := by
  intro pins s σ H x v vl vu lo hi sl Q I rx hs pl pu q
  rcases q with q | q
  · exact h pins s σ H x v vl vu lo hi sl Q I rx hs pl pu q
  · exact h' pins s σ H x v vl vu lo hi sl Q I rx hs pl pu q
noncomputable def tSl (r : V → Option Int → Option Int → Hp → VK → Prop) (te : TE) (tl th : TO) : TE := fun σ H Q => te σ H fun x H1 => tl σ H1 fun l H2 => th σ H2 fun u H3 => r x l u H3 Q
theorem pe_slice {r : V → Option Int → Option Int → Hp → VK → Prop} (hr : SlR X r) (he : PE X e te) (hl : PO X lo tl) (hu : PO X hi th) : PE X (.Subscript e (.Slice lo hi none p2) pos) (tSl r te tl th) := by
  intro pins s σ H Q I h
  refine Subscript_ (thn (he pins s σ H _ I h) fun v s1 ⟨x, H1, I1, r1, q1⟩ => ?_)
  refine wpAny_Slice (thn (hl pins s1 σ H1 _ I1 q1) fun vl s2 ⟨l, H2, I2, pl, q2⟩ => thn (hu pins s2 σ H2 _ I2 q2) fun vu s3 ⟨u, H3, I3, pu, q3⟩ => ?_)
  rw [evalPart_none]
  refine wpAny_pure ?_
  have I4 : Inv X pins σ H3 { s3 with heap := s3.heap.push { cls := .type "slice", data := .fields #[vl, vu, .none] } } := I3.kept (t' := s3.toks) fun b ob q => Heap.get?_push_of_some _ q
  obtain ⟨T, id, hT, ht, hg⟩ := hr pins { s3 with heap := s3.heap.push { cls := .type "slice", data := .fields #[vl, vu, .none] } } σ H3 x v vl vu l u s3.heap.objs.size Q I4 r1 (Heap.IsSliceOf.new ..) pl pu q3
  show wpAny (model X.prog X.w) X.A (subscriptTail e (.Slice lo hi none p2) v (.ref s3.heap.objs.size)) (EP X pins σ Q) X.xe { s3 with heap := s3.heap.push { cls := .type "slice", data := .fields #[vl, vu, .none] } }
  exact tail_any (ops := [.ref s3.heap.objs.size, v]) ht hT hg (by with_unfolding_all rfl)

noncomputable def cutV (xs : List V) (lo hi : Option Int) : List V := (xs.drop (HT.sIx xs.length 0 lo)).take (HT.sIx xs.length xs.length hi - HT.sIx xs.length 0 lo)
theorem cutV_length (xs : List V) (lo hi : Option Int) : (cutV xs lo hi).length ≤ xs.length := by
  unfold cutV
  rw [List.length_take, List.length_drop]
  omega
noncomputable def rSlT (K : PySem.W.Frag) : V → Option Int → Option Int → Hp → VK → Prop := fun x lo hi H Q => ∃ a xs, x = .ref a ∧ SqT K H a xs ∧
  ¬ (HT.sIx xs.length 0 lo = 0 ∧ HT.sIx xs.length xs.length hi = xs.length) ∧ ∀ p, H p = none → Q (.ref p) (upd H p (.tup (cutV xs lo hi)))
theorem sl_tup : SlR X (rSlT X.K) := by
  intro pins s σ H x v vl vu lo hi sl Q I rx hs pl pu h
  obtain ⟨a, xs, rfl, hx, hw, q⟩ := h
  cases rx
  obtain ⟨its, r, ht, hz⟩ := I.tuple hx
  have hlen : its.toArray.size = xs.length := by rw [List.size_toArray]; exact r.length.symm
  refine ⟨"tuple", _, PyProof.Rows.slot_tuple_getitem.lookup, ht.typeIs, ?_⟩
  refine HT.getItem_tuple_cut ht hs pl pu (by rw [hlen]; exact hw) ?_ (by rw [hlen]; exact hz)
  rw [hlen]
  refine ⟨.ref s.heap.objs.size, _, I.laid (t' := s.toks) (o := .tup (cutV xs lo hi)) (fun b ob q => Heap.get?_push_of_some _ q) (Nat.le_refl _) ?_, rfl, q _ (I.hok.fresh (Nat.le_refl _))⟩
  exact ⟨Nat.le_trans (cutV_length xs lo hi) hz, _, (r.drop (HT.sIx xs.length 0 lo)).take (HT.sIx xs.length xs.length hi - HT.sIx xs.length 0 lo), IsTupN.new _ _⟩

noncomputable def rCatT (K : PySem.W.Frag) : R2 := fun x y H Q => ∃ a b xs ys, x = .ref a ∧ y = .ref b ∧ SqT K H a xs ∧ SqT K H b ys ∧ xs ≠ [] ∧ xs.length + ys.length ≤ sizeLine ∧
  (ys = [] → Q (.ref a) H) ∧ (ys ≠ [] → ∀ p, H p = none → Q (.ref p) (upd H p (.tup (xs ++ ys))))
theorem Vals.nil_iff {xs : List V} {us : List Value} (r : Vals xs us) : us = [] ↔ xs = [] := by
  cases r with
  | nil => simp
  | cons _ _ => simp
theorem op_catT : OpR X (binaryOp .Add) (rCatT X.K) := by
  intro pins s σ H x y v u Q I rx ry h
  obtain ⟨a, b, xs, ys, rfl, rfl, ha, hb, hx, hz, q1, q2⟩ := h
  cases rx
  cases ry
  obtain ⟨its, r1, p1, _⟩ := I.tuple ha
  obtain ⟨its2, r2, p2, _⟩ := I.tuple hb
  refine HT.cat_tup p1 p2 (fun z => hx (r1.nil_iff.mp z)) (fun z => ⟨.ref a, H, I, rfl, q1 (r2.nil_iff.mp z)⟩) (fun z => ?_) (by rw [← r1.length, ← r2.length]; exact hz)
  refine ⟨.ref s.heap.objs.size, _, I.laid (t' := s.toks) (o := .tup (xs ++ ys)) (fun b ob q => Heap.get?_push_of_some _ q) (Nat.le_refl _) ?_, rfl, q2 (fun w => z (r2.nil_iff.mpr w)) _ (I.hok.fresh (Nat.le_refl _))⟩
  exact ⟨by rw [List.length_append]; exact hz, _, r1.append r2, IsTupN.new _ _⟩
end
end L2

namespace L2
open PySem PySem.Spec PyProof.Rows

noncomputable def ixN (n : Nat) (i : Int) : Option Nat := if 0 ≤ i then (if i < n then some i.toNat else none) else if -(n : Int) ≤ i then some (i + n).toNat else none
noncomputable def atI {α : Type} (xs : List α) (i : Int) : Option α := (ixN xs.length i).bind fun j => xs[j]?
theorem ixN_seq {n : Nat} {i : Int} {j : Nat} (h : ixN n i = some j) : seqIndex? i n = some j ∧ j < n ∧ -(n : Int) ≤ i ∧ i < n := by
  unfold ixN at h
  by_cases h0 : 0 ≤ i
  · rw [if_pos h0] at h
    by_cases h1 : i < n
    · rw [if_pos h1] at h
      have e : i.toNat = j := Option.some.inj h
      exact ⟨by rw [seqIndex_of h0 h1, e], by omega, by omega, h1⟩
    · rw [if_neg h1] at h; cases h
  · rw [if_neg h0] at h
    by_cases h1 : -(n : Int) ≤ i
    · rw [if_pos h1] at h
      have e : (i + n).toNat = j := Option.some.inj h
      exact ⟨by rw [seqIndex_neg (by omega) h1, e], by omega, h1, by omega⟩
    · rw [if_neg h1] at h; cases h
theorem atI_get {α : Type} {xs : List α} {i : Int} {v : α} (h : atI xs i = some v) : ∃ j, seqIndex? i xs.length = some j ∧ xs[j]? = some v ∧ j < xs.length ∧ -(xs.length : Int) ≤ i ∧ i < xs.length := by
  unfold atI at h
  cases e : ixN xs.length i with
  | none => rw [e] at h; cases h
  | some j =>
    rw [e] at h
    obtain ⟨h1, h2, h3, h4⟩ := ixN_seq e
    exact ⟨j, h1, h, h2, h3, h4⟩
theorem atI_nat {α : Type} {xs : List α} {j : Nat} {v : α} (h : xs[j]? = some v) : atI xs (j : Int) = some v := by
  have hj : j < xs.length := (List.getElem?_eq_some_iff.mp h).1
  have e : ixN xs.length (j : Int) = some j := by
    unfold ixN
    rw [if_pos (by omega), if_pos (by omega)]; simp
  unfold atI; rw [e]; exact h
noncomputable def PlainIx (b : Expr) : Prop := ∀ o i, subscripted b false o i = operate [o, i] (getItem o i)
noncomputable def IxR (X : Cx) (r : R2) : Prop :=
  ∀ (value slice : Expr) (pins : List (Addr × Obj)) (s : Shared) (σ : St) (H : Hp) (x y : V) (v u : Value) (Q : VK), Inv X pins σ H s → RelV x v → RelV y u → r x y H Q →
    subscripted slice false v u = operate [v, u] (getItem v u) → wpAny (model X.prog X.w) X.A (subscriptTail value slice v u) (EP X pins σ Q) X.xe s
noncomputable def MtR (X : Cx) (id : String) (r : V → List V → Hp → VK → Prop) : Prop :=
  ∀ (pins : List (Addr × Obj)) (s : Shared) (σ : St) (H : Hp) (x : V) (xs : List V) (v : Value) (us : List Value) (Q : VK), Inv X pins σ H s → RelV x v → Vals xs us → r x xs H Q →
    wpAny (model X.prog X.w) X.A (call (.builtin id) (v :: us)) (EP X pins σ Q) X.xe s
section
variable {X : Cx} {a b : Expr} {ta tb : TE} {pos : Pos}
theorem IxR.or {r r' : R2} (h : IxR X r) (h' : IxR X r') : IxR X (fun x y H Q => r x y H Q ∨ r' x y H Q) := by
  intro value slice pins s σ H x y v u Q I rx ry q hs
  rcases q with q | q
  · exact h value slice pins s σ H x y v u Q I rx ry q hs
  · exact h' value slice pins s σ H x y v u Q I rx ry q hs
theorem MtR.or {id : String} {r r' : V → List V → Hp → VK → Prop} (h : MtR X id r) (h' : MtR X id r') : MtR X id (fun x xs H Q => r x xs H Q ∨ r' x xs H Q) := by
  intro pins s σ H x xs v us Q I rx rs q
  rcases q with q | q
  · exact h pins s σ H x xs v us Q I rx rs q
  · exact h' pins s σ H x xs v us Q I rx rs q
theorem pe_ix {r : R2} (hr : IxR X r) (ha : PE X a ta) (hb : PE X b tb) (hs : PlainIx b) : PE X (.Subscript a b pos) (tOp r ta tb) := by
  intro pins s σ H Q I h
  exact Subscript_ (binT ha hb I h fun v u s2 x y H2 I2 rx ry q => hr a b pins s2 σ H2 x y v u Q I2 rx ry q (hs _ _))

noncomputable def rIxL (K : PySem.W.Frag) : R2 := fun x y H Q => ∃ p xs i v, x = .ref p ∧ y = .int i ∧ SqL K H p xs ∧ atI xs i = some v ∧ Q v H
noncomputable def rIxT (K : PySem.W.Frag) : R2 := fun x y H Q => ∃ p xs i v, x = .ref p ∧ y = .int i ∧ SqT K H p xs ∧ atI xs i = some v ∧ Q v H
noncomputable def rIxS : R2 := fun x y H Q => ∃ z i c, x = .str z ∧ y = .int i ∧ z.length ≤ sizeLine ∧ atI z.cps.toList i = some c ∧ Q (.str ⟨#[c]⟩) H
theorem ix_list : IxR X (rIxL X.K) := by
  intro value slice pins s σ H x y v u Q I rx ry h hs
  obtain ⟨p, xs, i, z, rfl, rfl, hq, he, q⟩ := h
  cases rx
  obtain ⟨t, rfl⟩ := ry
  obtain ⟨its, r, pl, hz⟩ := I.list hq
  obtain ⟨j, h1, h2, h3, h4, h5⟩ := atI_get he
  obtain ⟨w, ew, rw'⟩ := r.get h2
  have hl := r.length
  have hn := line63
  have fin : EP X pins σ Q w s := ⟨z, H, I, rw', q⟩
  by_cases h0 : 0 ≤ i
  · have hj : i.toNat = j := by
      rw [seqIndex_of h0 h5] at h1
      exact Option.some.inj h1
    exact item_listR pl.isList h0 (by omega) (by rw [hj]; simpa using ew) fin hs
  · have hj : (i + (its.toArray.size : Int)).toNat = j := by
      rw [seqIndex_neg (by omega) h4] at h1
      rw [List.size_toArray, ← hl]
      exact Option.some.inj h1
    exact subscriptTail_builtinR (x := w) pl.isList.typeIs slot_list_getitem.lookup
      (wpAny_getItem_list_neg (Q := fun r s' => r = w ∧ EP X pins σ Q r s') pl.isList (by omega) (by rw [List.size_toArray] <;> omega) (by omega) (by rw [hj]; simpa using ew) ⟨rfl, fin⟩) hs
theorem ix_tup : IxR X (rIxT X.K) := by
  intro value slice pins s σ H x y v u Q I rx ry h hs
  obtain ⟨p, xs, i, z, rfl, rfl, hq, he, q⟩ := h
  cases rx
  obtain ⟨t, rfl⟩ := ry
  obtain ⟨its, r, pl, hz⟩ := I.tuple hq
  obtain ⟨j, h1, h2, h3, h4, h5⟩ := atI_get he
  obtain ⟨w, ew, rw'⟩ := r.get h2
  have hl := r.length
  have hn := line63
  have fin : EP X pins σ Q w s := ⟨z, H, I, rw', q⟩
  exact subscriptTail_builtinR (x := w) pl.typeIs slot_tuple_getitem.lookup
    (getItem_tuple (j := j) (Q := fun r s' => r = w ∧ EP X pins σ Q r s') pl (by omega) (by omega) (by rw [List.size_toArray, ← hl]; exact h1) (by simpa using ew) ⟨rfl, fin⟩) hs
theorem ix_str : IxR X rIxS := by
  intro value slice pins s σ H x y v u Q I rx ry h hs
  obtain ⟨z, i, c, rfl, rfl, hz, he, q⟩ := h
  obtain ⟨t, rfl⟩ := rx
  obtain ⟨t', rfl⟩ := ry
  obtain ⟨j, h1, h2, h3, h4, h5⟩ := atI_get he
  have hl : z.cps.toList.length = z.length := by simp [Str.length]
  rw [hl] at h1 h4 h5
  have hn := line63
  exact tail_any (typeIs_str s z t) slot_str_getitem.lookup (getItem_str (c := c) (by
    have e1 : decide (i < -(2 ^ 63 : Int)) = false := decide_eq_false (by omega)
    have e2 : decide (i ≥ 2 ^ 63) = false := decide_eq_false (by omega)
    rw [e1, e2, Bool.or_false]) (by rw [h1]; simpa using h2) ⟨.str ⟨#[c]⟩, H, I.tok _, ⟨_, rfl⟩, q⟩) hs
noncomputable def rIx (K : PySem.W.Frag) : R2 := fun x y H Q => rIxL K x y H Q ∨ rIxT K x y H Q ∨ rIxS x y H Q
theorem ix_seq : IxR X (rIx X.K) := ix_list.or (ix_tup.or ix_str)

theorem mapSeq_set (its : List Value) (n j : Nat) (u : Value) : Obj.mapSeq (·.setIfInBounds j u) { cls := .type "list", data := .seq its.toArray n } = { cls := .type "list", data := .seq (its.set j u).toArray n } := by
  simp [Obj.mapSeq]
theorem Inv.lst {pins : List (Addr × Obj)} {σ : St} {H : Hp} {s : Shared} {p : Addr} {xs : List V} (I : Inv X pins σ H s) (h : H p = some (.lst xs)) :
    ∃ (its : List Value) (n : Nat), Vals xs its ∧ s.heap.get? p = some { cls := .type "list", data := .seq its.toArray n } ∧ xs.length ≤ sizeLine := by
  obtain ⟨z, its, n, r, e⟩ := I.hok p _ h
  exact ⟨its, n, r, e, z⟩
theorem Inv.lstUpd {pins : List (Addr × Obj)} {σ : St} {H : Hp} {s : Shared} {p : Addr} {xs ys : List V} {its its' : List Value} {n n' : Nat} {f : Obj → Obj} (I : Inv X pins σ H s) (h : H p = some (.lst xs))
    (ho : s.heap.get? p = some { cls := .type "list", data := .seq its.toArray n }) (hf : f { cls := .type "list", data := .seq its.toArray n } = { cls := .type "list", data := .seq its'.toArray n' }) (r : Vals ys its') (hz : ys.length ≤ sizeLine) (t : Nat) :
    Inv X pins σ (upd H p (.lst ys)) { s with heap := s.heap.update p f, toks := t } := by
  have e : (s.heap.update p f).get? p = some { cls := .type "list", data := .seq its'.toArray n' } := by
    rw [Heap.get?_update_self f ho (by rw [hf] <;> rfl), hf]
  refine I.write (x := p) (e := p) (by rw [h]; trivial) (.inl rfl) (fun b u hb q => (Heap.get?_update_other _ _ (Ne.symm hb)).trans q) ⟨_, e⟩ ?_
  exact ⟨hz, its', n', r, e⟩
noncomputable def rSetL : V → V → V → Hp → (Hp → Prop) → Prop := fun o i v H Q => ∃ p xs k j, o = .ref p ∧ i = .int k ∧ H p = some (.lst xs) ∧ ixN xs.length k = some j ∧ Q (upd H p (.lst (xs.set j v)))
theorem set_list : PSet X rSetL := by
  intro pins s σ H o i v ov iv u Q I ro ri rv h
  obtain ⟨p, xs, k, j, rfl, rfl, hp, hj, q⟩ := h
  cases ro
  obtain ⟨t, rfl⟩ := ri
  obtain ⟨its, n, r, ho, hz⟩ := I.lst hp
  obtain ⟨h1, h2, h3, h4⟩ := ixN_seq hj
  have hl := r.length
  have hn := line63
  have I' : Inv X pins σ (upd H p (.lst (xs.set j v))) { s with heap := s.heap.update p (Obj.mapSeq (·.setIfInBounds j u)) } :=
    I.lstUpd hp ho (mapSeq_set its n j u) (r.set rv j) (by rw [List.length_set]; exact hz) s.toks
  by_cases h0 : 0 ≤ k
  · have hk : k.toNat = j := by
      rw [seqIndex_of h0 h4] at h1
      exact Option.some.inj h1
    exact PySem.W.ki_setAt ho h0 (by omega) (by rw [List.size_toArray, ← hl]; exact h4) (by rw [hk]; exact ⟨_, I', q⟩)
  · have hk : (k + (its.toArray.size : Int)).toNat = j := by
      rw [seqIndex_neg (by omega) h3] at h1
      rw [List.size_toArray, ← hl]
      exact Option.some.inj h1
    exact PySem.W.ki_setBack ho (by omega) (by rw [List.size_toArray, ← hl]; exact h3) (by omega) (by rw [hk]; exact ⟨_, I', q⟩)

theorem slice_bounds (lo hi : Option Int) (n : Nat) : (sliceBounds lo hi none n).1 = ((HT.sIx n 0 lo : Nat) : Int) ∧ (sliceBounds lo hi none n).2.1 = ((HT.sIx n n hi : Nat) : Int) ∧ (sliceBounds lo hi none n).2.2 = 1 := by
  refine ⟨?_, ?_, rfl⟩
  · cases lo with
    | none => simp [sliceBounds, HT.sIx]
    | some i =>
      simp only [sliceBounds, HT.sIx, Option.getD_none, show (1 : Int) > 0 by decide, if_true]
      by_cases h : i < 0
      · simp only [h, if_true] <;> omega
      · simp only [h, if_false] <;> omega
  · cases hi with
    | none => simp [sliceBounds, HT.sIx]
    | some i =>
      simp only [sliceBounds, HT.sIx, Option.getD_none, show (1 : Int) > 0 by decide, if_true]
      by_cases h : i < 0
      · simp only [h, if_true] <;> omega
      · simp only [h, if_false] <;> omega
theorem slicePick_cut (its : List Value) (lo hi : Option Int) : slicePick its.toArray lo hi none = ((its.drop (HT.sIx its.length 0 lo)).take (HT.sIx its.length its.length hi - HT.sIx its.length 0 lo)).toArray := by
  obtain ⟨h1, h2, h3⟩ := slice_bounds lo hi its.toArray.size
  unfold slicePick
  rw [h1, h2, h3]
  simp only [sliceRange_one, pick_run, List.size_toArray] <;> rfl
noncomputable def rSlL (K : PySem.W.Frag) : V → Option Int → Option Int → Hp → VK → Prop := fun x lo hi H Q => ∃ a xs, x = .ref a ∧ SqL K H a xs ∧ ∀ p, H p = none → Q (.ref p) (upd H p (.lst (cutV xs lo hi)))
theorem sl_list : SlR X (rSlL X.K) := by
  intro pins s σ H x v vl vu lo hi sl Q I rx hs pl pu h
  obtain ⟨a, xs, rfl, hx, q⟩ := h
  cases rx
  obtain ⟨its, r, ht, hz⟩ := I.list hx
  have hlen := r.length
  refine ⟨"list", _, slot_list_getitem.lookup, ht.isList.typeIs, ?_⟩
  refine wpAny_getItem_list_slice ht.isList hs pl pu .none (by simp) ?_ (by rw [List.size_toArray] <;> omega)
  rw [slicePick_cut, ← hlen]
  refine ⟨.ref s.heap.objs.size, _, I.laid (t' := s.toks) (o := .lst (cutV xs lo hi)) (fun b ob q => Heap.get?_push_of_some _ q) (Nat.le_refl _) ?_, rfl, q _ (I.hok.fresh (Nat.le_refl _))⟩
  exact ⟨Nat.le_trans (cutV_length xs lo hi) hz, _, 0, (r.drop (HT.sIx xs.length 0 lo)).take (HT.sIx xs.length xs.length hi - HT.sIx xs.length 0 lo), Heap.get?_push_size _ rfl⟩

noncomputable def flatV : V → Bool
  | .non => true
  | .bl _ => true
  | .int _ => true
  | .str _ => true
  | _ => false
noncomputable def eqV : V → V → Bool
  | .non, .non => true
  | .bl a, .bl b => a == b
  | .bl a, .int b => (if a then 1 else 0) == b
  | .int a, .bl b => a == (if b then 1 else 0)
  | .int a, .int b => a == b
  | .str a, .str b => a == b
  | _, _ => false
theorem CallR.or {f : Value} {r r' : List V → Hp → VK → Prop} (h : CallR X f r) (h' : CallR X f r') : CallR X f (fun xs H Q => r xs H Q ∨ r' xs H Q) := by
  intro pins s σ H xs us Q I rs q
  rcases q with q | q
  · exact h pins s σ H xs us Q I rs q
  · exact h' pins s σ H xs us Q I rs q
theorem call_tuple_of : CallR X (.type "tuple") (fun xs H Q => ∃ p ys, xs = [.ref p] ∧ ((SqL X.K H p ys ∧ ∀ l, H l = none → Q (.ref l) (upd H l (.tup ys))) ∨ (SqT X.K H p ys ∧ Q (.ref p) H))) := by
  intro pins s σ H xs us Q I r h
  obtain ⟨p, ys, rfl, h⟩ := h
  obtain ⟨u, rfl, rx⟩ := vals1 r
  cases rx
  rcases h with ⟨hq, q⟩ | ⟨hq, q⟩
  · obtain ⟨its, r', pl, hz⟩ := I.list hq
    have hlen := r'.length
    refine call_tuple_list pl.isList (fun h' kp => ?_) (by simp only [List.size_toArray] <;> omega)
    have I1 : Inv X pins σ H { s with heap := h' } := I.kept (t' := s.toks) kp
    have I2 : Inv X pins σ (upd H h'.objs.size (.tup ys)) { s with heap := h'.push { cls := .type "tuple", data := .seq its.toArray } } :=
      I1.laid (t' := s.toks) (fun b o e => Heap.get?_push_of_some _ e) (Nat.le_refl _) (show ObjOk X.prog X.w _ _ _ (.tup ys) from ⟨hz, its, r', IsTupN.new _ _⟩)
    exact ⟨.ref h'.objs.size, _, I2, rfl, q _ (I1.hok.fresh (Nat.le_refl _))⟩
  · obtain ⟨its, r', pl, hz⟩ := I.tuple hq
    exact call_tuple_same pl ⟨.ref p, H, I, rfl, q⟩

noncomputable def tyV (K : PySem.W.Frag) (T : String) (x : V) (H : Hp) : Prop := match x with
  | .str _ => T = "str"
  | .int _ => T = "int"
  | .ref p => (T = "list" ∧ ∃ xs, SqL K H p xs) ∨ (T = "tuple" ∧ ∃ o, K.lookup p = some o ∧ o.cls = .type "tuple" ∧ o.dict = none) ∨
      (T = "dict" ∧ ((∃ kvs, H p = some (.dK kvs)) ∨ ∃ kvs, H p = some (.dT kvs))) ∨ (T = "set" ∧ ∃ S n, H p = some (.set S n))
  | _ => False
theorem tyV_is {pins : List (Addr × Obj)} {σ : St} {H : Hp} {s : Shared} {T : String} {x : V} {v : Value} (I : Inv X pins σ H s) (r : RelV x v) (ty : tyV X.K T x H) :
    s.TypeIs v T ∧ ∀ a, v = .ref a → ∃ ob, s.heap.get? a = some ob ∧ ob.dict = none := by
  cases x with
  | str z =>
    obtain ⟨t, rfl⟩ := r
    cases (show T = "str" from ty)
    exact ⟨typeIs_str s z t, fun _ e => nomatch e⟩
  | int i =>
    obtain ⟨t, rfl⟩ := r
    cases (show T = "int" from ty)
    exact ⟨typeIs_int s i t, fun _ e => nomatch e⟩
  | ref p =>
    cases r
    rcases ty with ⟨rfl, xs, hq⟩ | ⟨rfl, o, hk, hc, hd⟩ | ⟨rfl, hk⟩ | ⟨rfl, S, n, hk⟩
    · obtain ⟨its, _, pl, _⟩ := I.list hq
      refine ⟨pl.isList.typeIs, fun a e => ?_⟩
      cases e
      obtain ⟨o, n, e, c, hd, _⟩ := pl
      exact ⟨o, e, hd⟩
    · refine ⟨⟨o, I.kIn p o hk, hc⟩, fun a e => ?_⟩
      cases e
      exact ⟨o, I.kIn _ o hk, hd⟩
    · have z : ∃ o, s.heap.get? p = some o ∧ o.ExactDict := by
        rcases hk with ⟨kvs, hk⟩ | ⟨kvs, hk⟩
        · obtain ⟨_, _, _, _, o, _, _, e, ex, _⟩ := I.hok p _ hk
          exact ⟨o, e, ex⟩
        · obtain ⟨_, _, _, _, o, _, _, e, ex, _⟩ := I.hok p _ hk
          exact ⟨o, e, ex⟩
      obtain ⟨o, e, ex⟩ := z
      refine ⟨⟨o, e, ex.1⟩, fun a e2 => ?_⟩
      cases e2
      exact ⟨o, e, ex.2.1⟩
    · obtain ⟨o, _, _, _, e, ex, _⟩ := I.hok p _ hk
      refine ⟨⟨o, e, ex.1⟩, fun a e2 => ?_⟩
      cases e2
      exact ⟨o, e, ex.2.1⟩
  | _ => exact False.elim ty
noncomputable def tBM (K : PySem.W.Frag) (T : String) (r : V → List V → Hp → VK → Prop) (to : TE) (t : TA) : TE := fun σ H Q => to σ H fun x H1 => tyV K T x H1 ∧ t σ H1 fun xs H2 => r x xs H2 Q
variable {o e : Expr} {es : List Expr} {to : TE} {t : TA} {name : Str} {apos cpos : Pos} {T id : String} {r : V → List V → Hp → VK → Prop}
theorem pe_bm (pa : PlainAttrs T) (slot : Slot T name id) (hty : typeOf (.builtin id) = pure (.type "method_descriptor")) (hm : MtR X id r) (ho : PE X o to) (ha : PA X (e :: es) t)
    (hbase : attributeBase o name X.env (eval o X.env) = eval o X.env := by rfl)
    (hfew : ((backTo cpos (starEach (e :: es) X.env)).all (fun x => !x.1) && (backToKw cpos (keywordEach [] X.env)).all (fun x => x.1.isSome)
      && decide ((e :: es).length + ([] : List Keyword).length + (if ([] : List Keyword).isEmpty then 0 else 1) < 30)) = true := by rfl)
    (hline : (apos.endLine == cpos.line) = true := by rfl) (hs : starEach (e :: es) X.env = (false, eval e X.env) :: starEach es X.env := by rfl) (hplain : (backTo cpos (starEach es X.env)).any (·.1) = false := by rfl) :
    PE X (.Call (.Attribute o name apos) (e :: es) [] cpos) (tBM X.K T r to t) := by
  intro pins s σ H Q I h
  refine wpAny_Call_method_late hbase hfew hline rfl (thn (ho pins s σ H _ I h) fun v s1 ⟨x, H1, I1, r1, ty, q1⟩ => ?_)
  obtain ⟨h1, h2⟩ := tyV_is I1 r1 ty
  refine ⟨T, id, pa, slot, hty, h1, h2, ?_⟩
  have hA := ha cpos pins s1 σ H1 _ I1 q1
  rw [hs] at hA ⊢
  refine Calls.callWith_builtin (by show (false || (backTo cpos (starEach es X.env)).any (·.1)) = false; rw [hplain] <;> rfl) (Calls.evalArgs_plain ?_)
  exact thn hA fun us s2 ⟨vs, H2, I2, r2, q2⟩ => hm pins s2 σ H2 x vs v us Q I2 r1 r2 q2
/- xs.append(e), list.index on a module's tuple .. are MtR facts of 06m -/
end
end L2

namespace L2
open PySem PySem.Spec PyProof.Rows

noncomputable def MtM (X : Cx) (id : String) (r : V → List V → Hp → VK → Prop) : Prop :=
  ∀ (pins : List (Addr × Obj)) (s : Shared) (σ : St) (H : Hp) (x : V) (xs : List V) (v : Value) (us : List Value) (Q : VK), Inv X pins σ H s → RelV x v → Vals xs us → r x xs H Q →
    wpAny (model X.prog X.w) X.A (call (.builtin id) (v :: us)) (EP X pins σ Q) X.xe s

theorem Vals.one : ∀ {x : V} {us : List Value}, Vals [x] us → ∃ u, us = [u] ∧ RelV x u
  | _, _, .cons r .nil => ⟨_, rfl, r⟩
theorem Vals.two : ∀ {x y : V} {us : List Value}, Vals [x, y] us → ∃ u v, us = [u, v] ∧ RelV x u ∧ RelV y v
  | _, _, _, .cons r (.cons q .nil) => ⟨_, _, rfl, r, q⟩
theorem Vals.zero : ∀ {us : List Value}, Vals [] us → us = []
  | _, .nil => rfl
theorem Vals.reverse {xs : List V} {us : List Value} (h : Vals xs us) : Vals xs.reverse us.reverse := by
  induction h with
  | nil => exact .nil
  | cons r t ih => rw [List.reverse_cons, List.reverse_cons]; exact Vals.append ih (.cons r .nil)
theorem Vals.rep {xs : List V} {us : List Value} (h : Vals xs us) : ∀ k : Nat, Vals (List.replicate k xs).flatten (List.replicate k us).flatten
  | 0 => .nil
  | k + 1 => by
    rw [List.replicate_succ, List.replicate_succ, List.flatten_cons, List.flatten_cons]
    exact Vals.append h (Vals.rep h k)
section
variable {X : Cx} {pins : List (Addr × Obj)} {σ : St} {H : Hp} {s : Shared} {l b : Addr} {xs ys zs : List V}

theorem Inv.lset {its its' : List Value} {n : Nat} {f : Array Value → Array Value} {t' : Nat} (I : Inv X pins σ H s) (hH : H l = some (.lst xs))
    (e : s.heap.get? l = some { cls := .type "list", data := .seq its.toArray n }) (hf : f its.toArray = its'.toArray) (hv : Vals ys its') (hz : ys.length ≤ sizeLine) :
    Inv X pins σ (upd H l (.lst ys)) { s with heap := s.heap.update l (Obj.mapSeq f), toks := t' } := by
  have q := PySem.IsL.update e f
  rw [hf] at q
  refine I.write (x := l) (e := l) (by rw [hH]; exact trivial) (.inl rfl) (fun b' u hb hu => (Heap.get?_update_other s.heap (Obj.mapSeq f) (Ne.symm hb)).trans hu) ⟨_, q⟩ ?_
  exact ⟨hz, its', _, hv, q⟩
theorem Inv.lnew {its : List Value} {t' : Nat} (I : Inv X pins σ H s) (hv : Vals ys its) (hz : ys.length ≤ sizeLine) :
    Inv X pins σ (upd H s.heap.objs.size (.lst ys)) { s with heap := s.heap.push { cls := .type "list", data := .seq its.toArray }, toks := t' } :=
  I.laid (fun _ _ q => Heap.get?_push_of_some _ q) (Nat.le_refl _) ⟨hz, its, 0, hv, Heap.get?_push_size _ rfl⟩
theorem Inv.fresh (I : Inv X pins σ H s) : H s.heap.objs.size = none := I.hok.fresh (Nat.le_refl _)
theorem Inv.lstM (I : Inv X pins σ H s) (hH : H l = some (.lst xs)) : xs.length ≤ sizeLine ∧ ∃ (its : List Value) (n : Nat), Vals xs its ∧ xs.length = its.length ∧ s.heap.get? l = some { cls := .type "list", data := .seq its.toArray n } := by
  obtain ⟨z, its, n, r, e⟩ := I.hok l _ hH
  exact ⟨z, its, n, r, r.length, e⟩

end

section
variable {X : Cx}

noncomputable def rAppend : V → List V → Hp → VK → Prop := fun x vs H Q => ∃ l xs y, x = .ref l ∧ vs = [y] ∧ H l = some (.lst xs) ∧ xs.length < sizeLine ∧ Q .non (upd H l (.lst (xs ++ [y])))
theorem mt_append : MtM X "list.append" rAppend := by
  intro pins s σ H x vs v us Q I rx rv h
  obtain ⟨l, xs, y, rfl, rfl, hH, hz, q⟩ := h
  cases rx
  obtain ⟨u, rfl, ru⟩ := rv.one
  obtain ⟨z, its, n, r, hl, e⟩ := I.lstM hH
  refine call_meets F.slot_list_append ⟨_, e, rfl⟩ F.entry_list_append (F.args_list_append_2 _ _) (PySem.list_append l its.toArray n u (by rw [List.size_toArray]; omega)) ⟨e, ?_⟩
  refine ⟨.non, _, I.lset (its' := its ++ [u]) hH e (by simp) (r.append (.cons ru .nil)) ?_, rfl, q⟩
  rw [List.length_append, List.length_singleton]
  omega

end

section
variable {prog : Program} {w : World} {A : Around} {E : Value → Shared → Prop} {s : Shared}
end

section
variable {X : Cx}
end
end L2

namespace Att
open PySem PySem.W PySem.Calls PyProof.Rows

theorem ints_of_wellAll {P : Params} {h : Heap} : ∀ (ns : List Int) (vs : List Value), WellAll P h vs (ns.map WData.int) → IntsAre vs ns := by
  intro ns
  induction ns with
  | nil =>
    intro vs w
    rw [List.map_nil] at w
    cases w
    exact .nil
  | cons n ns ih =>
    intro vs w
    rw [List.map_cons] at w
    cases w with
    | cons a b =>
      cases a
      exact .cons _ _ (ih _ b)

theorem script_of {l : OpenLaw} {n : Nat} (hn : l.most = some n) {P : Params} {h : Heap} {args : List WData} {vals : List Value}
    (hpre : l.row.toRowW.claim.pre args = true) (hwl : WellAll P h vals args) :
    ∃ a vs ns, vals = [Value.ref a] ∧ args = [WData.list (ns.map WData.int)] ∧ h.get? a = some { cls := .type "list", data := .seq vs.toArray } ∧ IntsAre vs ns ∧ ns.length ≤ n := by
  have hsh : WShape.hasAll [] args [.list .int] = true := (pre_splitW hpre).1
  have hc : l.pre.holds [] { args := args } = true := (pre_splitW hpre).2
  obtain ⟨d, r, rfl, h1, h2⟩ := hasAllW_cons hsh
  obtain rfl := hasAllW_nil h2
  obtain ⟨xs, rfl, h3⟩ := hasW_list h1
  obtain ⟨ns, rfl⟩ := items_int h3
  have hlen : ns.length ≤ n := by
    unfold OpenLaw.pre at hc
    have h4 : (WTm.not (.lt (.lit (.int (n : Int))) (.len (.arg 0)))).holds [] { args := [.list (ns.map .int)] } = true := by
      have h4 := (holds_andW hc).1
      rw [hn] at h4
      exact h4
    have h5 := condW_of h4 (w_not (w_lt w_lit (w_len_list (w_arg rfl))))
    rw [List.length_map] at h5
    refine Nat.le_of_not_lt fun q => ?_
    have q' : (n : Int) < ((ns.length : Nat) : Int) := by omega
    first
      | (rw [decide_eq_true q'] at h5; exact absurd h5 (by decide))
      | (simp at h5; omega)
  cases hwl with
  | cons w1 w2 =>
    cases w2
    cases w1 with
    | list ho hall => exact ⟨_, _, ns, rfl, rfl, ho, ints_of_wellAll ns _ hall, hlen⟩

theorem post_true (l : OpenLaw) (args : List WData) : l.row.toRowW.claim.post args (.bool true) args = true :=
  postW_of (r := l.row.toRowW) (X := (true == true))
    (show WShape.has [] (.bool true) .bool = true by first | rfl | decide | simp [WShape.has, WShape.arms, WShape.armsAll])
    (show (WTm.eq .res (.lit (.bool true))).value [] { args := args, res := some (.bool true), after := args } = some (.bool (true == true)) from w_eq_bool (w_res rfl) w_lit) rfl

theorem attach_call {l : OpenLaw} {n : Nat} {q : Program} {loose : List Str} {XP : (Str → Option Value) → Heap → Prop} {YP : World → Heap → Prop} {d : DefRec}
    (hn : l.most = some n) (hdf : d.params.defaults = [])
    (call : ∀ (w : World) (s₀ s₁ : Shared) (mg mb : Str → Option Value) (fa : Addr) (o : Obj) (pm cd doc : Value) (a : Addr) (vs : List Value) (ns : List Int),
      Ground q loose [] XP w s₀ mg mb s₁.heap → YP w s₁.heap →
      s₁.heap.get? fa = some o → o.data = .func (docDef d.name d.params d.body d.scope pm cd doc) → s₁.heap.CodeRec cd d.name → mg d.name = some (.ref fa) →
      s₁.heap.get? a = some { cls := .type "list", data := .seq vs.toArray } → IntsAre vs ns → ns.length ≤ n → s₁.gens = #[] →
      codeAny (model l.prog w) callerA (.call (.ref fa) ⟨[.ref a], []⟩) (fun r s' => r = .ok (.ret (.bool true)) ∧ OldK s₁.heap s'.heap ∧ s'.os = s₁.os ∧ AllBare s'.gens) s₁) :
    WalkO q loose XP YP l.row.toRowW d [] (fun f vs => PySem.call f vs) := by
  intro w s₀ s₁ mg mb G Y fa o pm cd doc dV kV ho hd hcd hD hmg hg args vals as hpre hlay hrd hwl hlo
  obtain rfl : dV = .none := Dflts.none hD hdf
  obtain rfl : kV = .none := Dflts.noKw hD
  obtain ⟨a, vs, ns, rfl, rfl, hobj, hints, hlen⟩ := script_of hn hpre hwl
  refine enter_call (codeAny_mono (call w s₀ s₁ mg mb fa o pm cd doc a vs ns G Y ho (fd_plain hd) hcd hmg hobj hints hlen hg) fun r s' hq => ?_)
  obtain ⟨rfl, h2, h3, h4⟩ := hq
  exact ⟨.inl ⟨.bool true, .bool true, [], rfl, fun _ => rfl, .bool true, post_true l _, fun _ => ⟨List.Pairwise.nil, fun _ hm => (nomatch hm)⟩⟩, h2, h3, h4⟩

section
variable {prog : Program} {w : World} {A : Around} {E : Value → Shared → Prop} {s : Shared} {K : Frag}

end
end Att

namespace L2
open PySem PySem.Spec PyProof.Rows

theorem vals_ints : ∀ {vs : List Value} {ns : List Int}, IntsAre vs ns → Vals (ns.map V.int) vs
  | _, _, .nil => .nil
  | _, _, .cons n t h => .cons ⟨t, rfl⟩ (vals_ints h)

noncomputable def Only (H : Hp) : Prop := ∀ b, H b = none ∨ ∃ o xs, H b = some (.frz o (.lst xs))

theorem law_call {P : Program} {w : World} {K : PySem.W.Frag} {mg mb : Str → Option Value} {CX : CXT} {k : Nat} {fa a : Addr} {fd : FuncData} {x : Str} {sp : Sp} {s₁ : Shared} {vs : List Value} {ns : List Int}
    (KX : K.In s₁.heap) (hns : s₁.heap.Ns mainGlobals mg) (hb : s₁.heap.Ns builtinsNs mb) (hbb : ∀ x : Str, x ≠ "__name__" → mb x = bootBuiltins x) (hlim : s₁.heap.NoLimit) (hg : s₁.gens = #[])
    (ha : s₁.heap.get? a = some { cls := .type "list", data := .seq vs.toArray }) (hi : IntsAre vs ns) (hl : ns.length ≤ sizeLine) (hr : Room k callerA)
    (F : ∀ base : Heap, K.In base → base.Ns mainGlobals mg → FnOk P w K mg base CX k fa fd [x] sp) (hbind : ∀ (s : Shared) (u : Value), BindsTo s fd ⟨[u], []⟩ [(x, u)])
    (hsp : ∀ H : Hp, Only H → SqL K H a (ns.map V.int) → sp [.ref a] H (fun v _ => v = .bl true) fun _ _ _ => False)
    (hCX : ∀ H e s', CX [] H s₁ (fun _ _ _ => False) e s' → False) :
    codeAny (model P w) callerA (.call (.ref fa) ⟨[.ref a], []⟩) (fun r s' => r = .ok (.ret (.bool true)) ∧ OldK s₁.heap s'.heap ∧ s'.os = s₁.os ∧ AllBare s'.gens) s₁ := by
  have rv := vals_ints hi
  have lenV := hi.length
  -- from an abstract heap in which nothing but the script may be tracked
  have core : ∀ H : Hp, Only H → SqL K H a (ns.map V.int) → HOk P w H s₁.heap → (∀ b, H b ≠ none → b = a) → (H a ≠ none → K.lookup a = none) →
      codeAny (model P w) callerA (.call (.ref fa) ⟨[.ref a], []⟩) (fun r s' => r = .ok (.ret (.bool true)) ∧ OldK s₁.heap s'.heap ∧ s'.os = s₁.os ∧ AllBare s'.gens) s₁ := by
    intro H hO hS hok hA hK
    have base_of : ∀ {b : Addr} {o : Obj}, s₁.heap.get? b = some o → H b = none → (hidT s₁.heap H).get? b = some o := fun e n => hidT_get e n
    have noA : ∀ {b : Addr} {o : Obj} {es : Array DictEntry} {ep : Nat}, s₁.heap.get? b = some o → o.data = .dict es ep → H b = none := fun {b o es ep} e d => by
      cases q : H b with
      | none => rfl
      | some u =>
        have e' : b = a := hA b (by rw [q]; simp)
        subst e'
        rw [ha] at e; cases e
        have d' : Data.seq vs.toArray _ = Data.dict es ep := d
        cases d'
    have nsK : ∀ {b : Addr} {m : Str → Option Value}, s₁.heap.Ns b m → (hidT s₁.heap H).Ns b m := fun {b m} ⟨o, es, ep, e, d, r⟩ => ⟨o, es, ep, base_of e (noA e d), d, r⟩
    have hKb : K.In (hidT s₁.heap H) := fun b o e => base_of (KX b o e) (by
      cases q : H b with
      | none => rfl
      | some u =>
        have e' : b = a := hA b (by rw [q]; simp)
        subst e'
        rw [hK (by rw [q]; simp)] at e; cases e)
    have hM : Mod K mg (hidT s₁.heap H) := ⟨hKb, nsK hns, ⟨mb, nsK hb, hbb⟩, let ⟨mc, h1, h2⟩ := hlim; ⟨mc, nsK h1, h2⟩⟩
    have e0 : Env0 P w K mg (hidT s₁.heap H) callerA [] s₁ H := ⟨rfl, hM, fun b o e => of_hidT e, Nat.le_of_eq (hidT_size _ _), trivial, fun b hb => absurd (show b ∈ ([] : List Addr) from hb) (by simp), hok, .of_eq hg⟩
    refine codeAny_mono ((F _ hKb (nsK hns)).run callerA [] s₁ H ⟨[.ref a], []⟩ [.ref a] [.ref a] _ _ hr e0 (hbind s₁ (.ref a)) (.cons rfl .nil) (hsp H hO hS)) fun r s' h => ?_
    cases r with
    | error e => exact (hCX H e s' h).elim
    | ok fl =>
      cases fl with
      | next => exact False.elim h
      | brk => exact False.elim h
      | cont => exact False.elim h
      | ret u =>
        obtain ⟨v, H', os, bare, un, hok', r', q⟩ := h
        have q' : v = .bl true := q
        subst q'
        obtain rfl : u = Value.bool true := r'
        refine ⟨rfl, OldK.of_keep fun b o e => ?_, os, bare⟩
        cases q : H b with
        | none => exact un.keep b o e q (by intro z; exact absurd (show b ∈ ([] : List Addr) from z) (by simp)) (by simp)
        | some u =>
          rcases hO b with z | ⟨ob, xs, z⟩
          · rw [q] at z; cases z
          · have z2 := un.frzs b ob _ z
            obtain ⟨e1, _⟩ := hok b _ z
            obtain ⟨e2, _⟩ := hok' b _ z2
            rw [e] at e1; cases e1
            exact e2
  cases hk : K.lookup a with
  | some o =>
    -- the script is one of the module's own objects
    have e := KX a o hk
    rw [ha] at e
    cases e
    refine core (fun _ => none) (fun _ => .inl rfl) (.inr ⟨_, vs.toArray, _, hk, rfl, rfl, rfl, by rw [List.size_toArray, lenV]; exact hl, by simpa using rv⟩) (fun b u z => by have z' : (none : Option HO) = some u := z; cases z') (fun b z => absurd rfl z) fun z => absurd rfl z
  | none =>
    refine core (fun b => if b = a then some (.frz { cls := .type "list", data := .seq vs.toArray } (.lst (ns.map V.int))) else none) (fun b => ?_) (.inl (.inr ⟨{ cls := .type "list", data := .seq vs.toArray }, if_pos rfl⟩)) (fun b u z => ?_) (fun b z => ?_) fun _ => hk
    · by_cases hb : b = a
      · exact .inr ⟨_, _, if_pos hb⟩
      · exact .inl (if_neg hb)
    · by_cases hb : b = a
      · have z' := (if_pos hb).symm.trans z
        cases z'
        subst hb
        exact ⟨ha, by rw [List.length_map]; exact hl, vs, _, rv, ha⟩
      · have z' := (if_neg hb).symm.trans z
        cases z'
    · by_cases hb : b = a
      · exact hb
      · exact absurd (if_neg hb) z
end L2

namespace L2
open PySem PySem.Spec PyProof.Rows

theorem walk_of {l : PySem.W.OpenLaw} {n k : Nat} {q : Program} {loose : List Str} {XP : (Str → Option Value) → Heap → Prop} {YP : World → Heap → Prop} {d : DefRec} {K : Params → PySem.W.Frag} {CX : World → CXT} {sp : World → Sp} {x : Str}
    (hn : l.most = some n) (hn2 : n ≤ sizeLine) (hdf : d.params.defaults = []) (hr : Room k callerA)
    (hY : ∀ (w : World) (h : Heap), YP w h → (K w.params).In h)
    (F : ∀ (w : World) (mg : Str → Option Value) (fa : Addr) (h : Heap), (K w.params).In h → h.Ns mainGlobals mg → mg d.name = some (.ref fa) →
      ∃ fd : FuncData, (∀ (s : Shared) (u : Value), BindsTo s fd ⟨[u], []⟩ [(x, u)]) ∧
        ∀ base : Heap, (K w.params).In base → base.Ns mainGlobals mg → FnOk l.prog w (K w.params) mg base (CX w) k fa fd [x] (sp w))
    (hsp : ∀ (w : World) (H : Hp) (a : Addr) (ns : List Int), ns.length ≤ n → Only H → SqL (K w.params) H a (ns.map V.int) → sp w [.ref a] H (fun v _ => v = .bl true) fun _ _ _ => False)
    (hCX : ∀ (w : World) (H : Hp) (s : Shared) (e : Value) (s' : Shared), CX w [] H s (fun _ _ _ => False) e s' → False) :
    PySem.W.WalkO q loose XP YP l.row.toRowW d [] (fun f vs => PySem.call f vs) := by
  refine Att.attach_call hn hdf fun w s₀ s₁ mg mb fa o pm cd doc a vs ns G Y ho hd hcd hmg hobj hints hlen hg => ?_
  have KX := hY w _ Y
  obtain ⟨fd, hb, hF⟩ := F w mg fa _ KX G.T.g hmg
  exact law_call KX G.T.g G.T.b G.T.builtins G.T.nolimit hg hobj hints (Nat.le_trans hlen hn2) hr hF hb (fun H hO hS => hsp w H a ns hlen hO hS) fun H e s' => hCX w H s₁ e s'
end L2

/- THE LAST THEOREM (shape; LID, My.* are yours):
   My.Adr: a structure of the addresses that your layer names (classes, functions); My.Txt K t: a structure (Prop) of the equations over K;
   My.txt_mk : {K} {implicit addresses ..} (e1 : nsIn K mainGlobals "law" = some (some (.ref f))) (e2 : K.lookup f = some ⟨oc, od, .func (fnOf "law" "law" params body scope dV kV doc pm an cdv ct), sl⟩) (e3 : codeIn K cdv "law" = true) .. : ∃ t, My.Txt K t

set_option maxRecDepth 100000 in
set_option maxHeartbeats 0 in
theorem PySem.Challenge.cw_LID_holds : PySem.Challenge.rw_LID.Holds := by
  w_on; o_law; k_head; (case hw => w_witness2)
  k_fill
  refine L2.walk_of (l := PySem.Challenge.rw_LID) (n := 63) (k := 40) (x := "script") (CX := fun w => ..) (sp := fun _ => My.sp_law) rfl (by decide) rfl ⟨rfl, by decide, by decide⟩ (fun w h Y => PySem.W.kIn_of Y) ?F ?S ?C
  case F =>
    intro w mg fa h KX G hmg
    have T : ∃ t, My.Txt (L2.KOf KX) t := by
      dsimp only [L2.KOf]                          -- K must stand as «<heap const> w.params» for k_is
      refine' My.txt_mk ?e1 ?e2 ?e3 ..
      (case e1 => PySem.W.k_is)                    -- in the order: a name -> its address -> its object -> its parts
      (case e2 => PySem.W.k_is)
      ..
    obtain ⟨t, T⟩ := T
    have e0 := hmg.symm.trans (PySem.W.mg_of KX G T.law)
    cases e0                                       -- fa is the law's own address
    exact ⟨_, fun s u => .of_eq rfl, fun base kb nb => My.law_fn T kb nb⟩     -- if «.of_eq rfl» comes too early: refine' ⟨_, ?b, fun base kb nb => My.law_fn T kb nb⟩; exact fun s u => .of_eq rfl
  case S => exact fun w H a ns hl hO hS => ..
  case C => exact ..
(the tactic k_is has no namespace: write k_is) -/

namespace L2
open PySem PySem.Spec PyProof.Rows

noncomputable def inClass (s : Stmt) (j : Nat) : Stmt := match s with
  | .ClassDef _ _ _ body _ _ _ _ _ _ _ => body.getD j (.Pass ⟨0, 0, 0, 0⟩)
  | _ => .Pass ⟨0, 0, 0, 0⟩
noncomputable def defArgs (s : Stmt) : Arguments := match s with
  | .FunctionDef _ a _ _ _ _ _ _ _ _ => a
  | _ => { posonlyargs := [], args := [], vararg := none, kwonlyargs := [], kw_defaults := [], kwarg := none, defaults := [] }
noncomputable def defBody (s : Stmt) : List Stmt := match s with
  | .FunctionDef _ _ b _ _ _ _ _ _ _ => b
  | _ => []
noncomputable def defScope (s : Stmt) : Scope := match s with
  | .FunctionDef _ _ _ _ _ _ sc _ _ _ => sc
  | _ => { kind := .function, names := [], isGenerator := false, isCoroutine := false }

noncomputable abbrev CX0 : CXT := fun _ _ _ _ _ _ => False
noncomputable abbrev E0 : XK := fun _ _ _ => False
theorem pass0 {X : Cx} : Passes CX0 X E0 := fun _ _ _ _ _ _ _ h => h.elim

structure Fun (K : PySem.W.Frag) (x qual : Str) (st : Stmt) (f : Addr) (fd : FuncData) : Prop where
  ex : ∃ (oc : Value) (od : Option Addr) (kV doc pm : Value) (an : Option Addr) (cdv ct : Value) (osl : Array (Option Value)),
    fd = PySem.W.fnOf x qual (defArgs st) (defBody st) (defScope st) .none kV doc pm an cdv ct ∧ K.lookup f = some ⟨oc, od, .func fd, osl⟩ ∧ PySem.W.codeIn K cdv qual = true
  kp : PySem.W.keepIn K (.ref f) = true
section
variable {P : Program} {w : World} {K : PySem.W.Frag} {mg : Str → Option Value} {base : Heap}
theorem Fun.ok {x qual : Str} {st : Stmt} {f : Addr} {fd : FuncData} {N ps : List Str} {k : Nat} {sp : Sp} (F : Fun K x qual st f fd) (S : FnScope N ps (defScope st)) (len : ∀ vs H Q E, sp vs H Q E → vs.length = ps.length)
    (hbody : ∀ (cdv : Value) (A : Around) (outer : List Env) (s : Shared) (H : Hp) (vs : List V) (Q : VK) (E : XK), Room k (A.deeper (envOfC qual (defScope st) s.heap.objs.size f cdv)) → sp vs H Q E →
      ∃ t, PSs (cxOf CX0 P w K mg base N qual (defScope st) f cdv A outer s H E).nox (defBody st) t ∧ t { nx := fun _ H' => Q .non H', rt := Q } (start N vs) H) : FnOk P w K mg base CX0 (k + 1) f fd ps sp := by
  obtain ⟨oc, od, kV, doc, pm, an, cdv, ct, osl, rfl, lk, hcd⟩ := F.ex
  refine fn_of lk hcd S len fun A outer s H vs Q E hr hsp => ?_
  obtain ⟨t, h, q⟩ := hbody cdv A outer s H vs Q E hr hsp
  exact ⟨t, h.nox, q⟩
theorem Fun.binds {x qual : Str} {st : Stmt} {f : Addr} {fd : FuncData} {ps : List Str} (F : Fun K x qual st f fd)
    (h : ∀ (kV doc pm : Value) (an : Option Addr) (cdv ct : Value) (us : List Value), us.length = ps.length → bindArgs (PySem.W.fnOf x qual (defArgs st) (defBody st) (defScope st) .none kV doc pm an cdv ct) ⟨us, []⟩ = pure (ps.zip us)) : Binds K fd ps [] := by
  obtain ⟨oc, od, kV, doc, pm, an, cdv, ct, osl, rfl, lk, hcd⟩ := F.ex
  exact .all (h kV doc pm an cdv ct)
theorem fun_mk {x qual : Str} {st : Stmt} {f : Addr} {oc : Value} {od an : Option Addr} {osl : Array (Option Value)} {kV doc pm cdv ct : Value} (l : K.lookup f = some ⟨oc, od, .func (PySem.W.fnOf x qual (defArgs st) (defBody st) (defScope st) .none kV doc pm an cdv ct), osl⟩)
    (c : PySem.W.codeIn K cdv qual = true) (k : PySem.W.keepIn K (.ref f) = true) : Fun K x qual st f (PySem.W.fnOf x qual (defArgs st) (defBody st) (defScope st) .none kV doc pm an cdv ct) := ⟨⟨oc, od, kV, doc, pm, an, cdv, ct, osl, rfl, l, c⟩, k⟩
end
theorem small1000 {n : Nat} (h : n ≤ 1000) : n < sizeLine := Nat.lt_of_le_of_lt h (by decide)

section
variable {X : Cx}
theorem pv (i : Nat) {x : Str} {pos : Pos} (hN : X.N[i]? = some x := by rfl) (hv : Vis X.env.scope x := by first | exact Or.inl rfl | exact Or.inr (Or.inl rfl) | exact Or.inr (Or.inr rfl)) (hd : (x == ("__debug__" : Str)) = false := by decide)
    (hcd : (x == ("__classdict__" : Str)) = false := by decide) : PE X (.Name x pos) (tVar i) := pe_var hN hv hd hcd
end

theorem ite2 {c A B : Prop} [Decidable c] (h1 : c → A) (h2 : ¬ c → B) : if c then A else B := by
  by_cases h : c
  · rw [if_pos h]
    exact h1 h
  · rw [if_neg h]
    exact h2 h
noncomputable def Same (H H' : Hp) : Prop := ∀ b o, H b = some o → H' b = some o
theorem Same.refl (H : Hp) : Same H H := fun _ _ h => h
theorem Same.trans {H H1 H2 : Hp} (a : Same H H1) (b : Same H1 H2) : Same H H2 := fun c o h => b c o (a c o h)
theorem Same.free {H H' : Hp} (e : Same H H') {l : Addr} (h : H' l = Option.none) : H l = Option.none := by
  cases q : H l with
  | none => rfl
  | some o =>
    rw [e l o q] at h
    cases h
theorem Same.seq {K : PySem.W.Frag} {H H' : Hp} {a : Addr} {xs : List V} (e : Same H H') (h : SqL K H a xs) : SqL K H' a xs := by
  rcases h with (h | ⟨o, h⟩) | h
  · exact .inl (.inl (e _ _ h))
  · exact .inl (.inr ⟨o, e _ _ h⟩)
  · exact .inr h

end L2

set_option maxHeartbeats 4000000

namespace Mth
noncomputable def sub (l m : List Bool) : Bool := (List.range l.length).all fun i => !l.getD i false || m.getD i false
end Mth

namespace Mth
noncomputable def pl (W : Nat) (c : Int × Int) : Nat := c.2.toNat * W + c.1.toNat
noncomputable def cellOf (W : Nat) (i : Nat) : Int × Int := (((i % W : Nat) : Int), ((i / W : Nat) : Int))
structure InR (W H : Nat) (c : Int × Int) : Prop where
  c0 : 0 ≤ c.1
  c1 : c.1 < W
  r0 : 0 ≤ c.2
  r1 : c.2 < H
end Mth

namespace L2
open PySem PySem.Spec PyProof.Rows

theorem closure_go {env : Env} : ∀ (names : List (Str × NameKind)) (cs : List (Str × Addr)), (∀ x ∈ names, x.2 = .free → ∃ c, env.cells.lookup x.1 = some c) →
    (∀ x c, cs.lookup x = some c → env.cells.lookup x = some c) →
    ∃ cl, (forIn names cs fun x s => if (x.snd == NameKind.free) = true then do let d ← cellOf env x.fst; pure (ForInStep.yield ((x.fst, d) :: s)) else pure (ForInStep.yield s) : Sem _) = pure cl ∧
      (∀ x c, cl.lookup x = some c → env.cells.lookup x = some c) ∧ (∀ x c, cs.lookup x = some c → cl.lookup x = some c) ∧ ∀ x, (x, NameKind.free) ∈ names → ∃ c, cl.lookup x = some c
  | [], cs, _, h2 => ⟨cs, rfl, h2, fun _ _ e => e, fun _ h => nomatch h⟩
  | (n, k) :: r, cs, h1, h2 => by
    rw [List.forIn_cons]
    by_cases hk : k = .free
    · subst hk
      obtain ⟨c, hc⟩ := h1 (n, .free) List.mem_cons_self rfl
      have ec : cellOf env n = pure c := by unfold cellOf; simp only [hc]
      obtain ⟨cl, e, p1, p2, p3⟩ := closure_go r ((n, c) :: cs) (fun x hx => h1 x (List.mem_cons_of_mem _ hx)) (fun x d e => by
        rw [List.lookup_cons] at e
        by_cases hx : x = n
        · subst hx; simp at e; subst e; exact hc
        · have hb : (x == n) = false := beq_eq_false_iff_ne.mpr hx
          rw [hb] at e; exact h2 x d e)
      refine ⟨cl, ?_, p1, fun x d e' => ?_, fun x hx => ?_⟩
      · simp only [beq_self_eq_true, if_true, ec]
        exact e
      · by_cases hx : x = n
        · subst hx
          have := h2 _ _ e'
          rw [hc] at this; cases this
          exact p2 x c (by simp)
        · have hb : (x == n) = false := beq_eq_false_iff_ne.mpr hx
          exact p2 x d (by rw [List.lookup_cons, hb]; exact e')
      · rcases List.mem_cons.mp hx with e | hx
        · cases e; exact ⟨c, p2 n c (by simp)⟩
        · exact p3 x hx
    · obtain ⟨cl, e, p1, p2, p3⟩ := closure_go r cs (fun x hx => h1 x (List.mem_cons_of_mem _ hx)) h2
      have hb : (k == NameKind.free) = false := by simpa using hk
      refine ⟨cl, ?_, p1, p2, fun x hx => ?_⟩
      · simp only [hb, Bool.false_eq_true, if_false]
        exact e
      · rcases List.mem_cons.mp hx with e | hx
        · cases e; exact absurd rfl hk
        · exact p3 x hx
theorem closure_of {scope : Scope} {env : Env} (h : ∀ x ∈ scope.names, x.2 = .free → ∃ c, env.cells.lookup x.1 = some c) : ∃ cl, closureFor scope env = pure cl ∧
    (∀ x c, cl.lookup x = some c → env.cells.lookup x = some c) ∧ ∀ x, (x, NameKind.free) ∈ scope.names → ∃ c, cl.lookup x = some c := by
  obtain ⟨cl, e, p1, _, p3⟩ := closure_go scope.names [] h (fun _ _ e => nomatch e)
  refine ⟨cl, ?_, p1, p3⟩
  simp only [closureFor]
  rw [e]
  rfl

noncomputable abbrev relab (env : Env) (x : Str × NameKind) : Str × NameKind := if (x.2 == NameKind.free && env.scope.kind == .function && env.kindOf x.1 == some .cell) = true then (x.1, NameKind.cell) else x
theorem relab_fst (env : Env) (x : Str × NameKind) : (relab env x).1 = x.1 := by unfold relab; split <;> rfl
theorem lookup_relab {env : Env} : ∀ (names : List (Str × NameKind)) (x : Str), (names.map (relab env)).lookup x = (names.lookup x).map fun k => (relab env (x, k)).2
  | [], x => rfl
  | (n, k) :: r, x => by
    rw [List.map_cons]
    have e1 : relab env (n, k) = (n, (relab env (n, k)).2) := by
      have := relab_fst env (n, k)
      cases h : relab env (n, k) with
      | mk a b => rw [h] at this; cases this; rfl
    rw [e1, List.lookup_cons, List.lookup_cons, lookup_relab r x]
    by_cases hx : x = n
    · subst hx; simp
    · have hb : (x == n) = false := beq_eq_false_iff_ne.mpr hx
      rw [hb]
theorem relabel_names (scope : Scope) (env : Env) : (relabel scope env).names = scope.names.map (relab env) := by
  unfold relabel
  show List.map _ _ = _
  refine List.map_congr_left fun x _ => ?_
  obtain ⟨n, k⟩ := x
  rfl
theorem relabel_lookup (scope : Scope) (env : Env) (x : Str) : (relabel scope env).names.lookup x = (scope.names.lookup x).map fun k => (relab env (x, k)).2 := by
  rw [relabel_names, lookup_relab]
theorem relabel_keep {scope : Scope} {env : Env} {x : Str} {k : NameKind} (hk : k ≠ .free) (h : scope.names.lookup x = some k) : (relabel scope env).names.lookup x = some k := by
  rw [relabel_lookup, h]
  simp [relab, hk]
theorem relabel_free {scope : Scope} {env : Env} {x : Str} (h : scope.names.lookup x = some .free) : (relabel scope env).names.lookup x = some .cell ∨ (relabel scope env).names.lookup x = some .free := by
  rw [relabel_lookup, h]
  simp only [Option.map_some, relab]
  split
  · exact .inl rfl
  · exact .inr rfl
theorem relabel_of {scope : Scope} {env : Env} {x : Str} (h0 : scope.names.lookup x ≠ some .cell) (h : (relabel scope env).names.lookup x = some .cell ∨ (relabel scope env).names.lookup x = some .free) : scope.names.lookup x = some .free := by
  rw [relabel_lookup] at h
  cases e : scope.names.lookup x with
  | none => rw [e] at h; simp at h
  | some k =>
    by_cases hk : k = .free
    · rw [hk]
    · rw [e] at h
      simp [relab, hk] at h
      subst h
      exact absurd e h0
theorem lookup_mem {β : Type} : ∀ {l : List (Str × β)} {x : Str} {v : β}, l.lookup x = some v → (x, v) ∈ l
  | [], _, _, h => nomatch h
  | (n, k) :: r, x, v, h => by
    rw [List.lookup_cons] at h
    by_cases hx : x = n
    · subst hx; simp at h; subst h; exact List.mem_cons_self
    · have hb : (x == n) = false := beq_eq_false_iff_ne.mpr hx
      rw [hb] at h
      exact List.mem_cons_of_mem _ (lookup_mem h)

noncomputable abbrev Cx.comp (X : Cx) (N : List Str) (scope : Scope) (cl : List (Str × Addr)) (C : Addr) (s2 : Shared) (H2 : Hp) (fp : List Addr) : Cx where
  prog := X.prog
  w := X.w
  K := X.K
  mg := X.mg
  base := X.base
  A := X.A
  N := N
  s₀ := s2
  H₀ := H2
  env := compEnvC scope cl C X.env
  outer := X.stack
  stack := X.stack
  ex := fp
  fn := fun _ => false
  calm := X.calm
  pn := []
  xe := fun _ _ => False
noncomputable def compOk (XN N : List Str) (xs scope : Scope) (fr : List (Option Nat)) : Bool :=
  decide (fr.length = N.length) && (scope.kind == .function) && (scope.names.all fun x => !(x.2 == .cell)) && (scope.names.all fun x => !(x.2 == .local) || scope.names.lookup x.1 == some .local) &&
  (scope.names.all fun x => !(x.2 == .free) || (xs.names.lookup x.1 == some .cell || xs.names.lookup x.1 == some .free)) &&
  (List.range N.length).all fun j => match fr[j]?, N[j]? with
    | some (some i), some x => decide (XN[i]? = some x) && (scope.names.lookup x == some .free)
    | _, _ => true
theorem compOk_spec {XN N : List Str} {xs scope : Scope} {fr : List (Option Nat)} (h : compOk XN N xs scope fr = true) :
    fr.length = N.length ∧ scope.kind = .function ∧ (∀ x ∈ scope.names, x.2 ≠ .cell) ∧ (∀ x ∈ scope.names, x.2 = .local → scope.names.lookup x.1 = some .local) ∧
    (∀ x ∈ scope.names, x.2 = .free → xs.names.lookup x.1 = some .cell ∨ xs.names.lookup x.1 = some .free) ∧
    ∀ (j i : Nat) (x : Str), fr[j]? = some (some i) → N[j]? = some x → XN[i]? = some x ∧ scope.names.lookup x = some .free := by
  unfold compOk at h
  simp only [Bool.and_eq_true, decide_eq_true_eq, List.all_eq_true] at h
  obtain ⟨⟨⟨⟨⟨h1, h2⟩, h3⟩, h4⟩, h5⟩, h6⟩ := h
  refine ⟨h1, by simpa using h2, fun x hx => by simpa using h3 x hx, fun x hx e => ?_, fun x hx e => ?_, fun j i x e1 e2 => ?_⟩
  · have := h4 x hx
    simp [e] at this
    exact this
  · have := h5 x hx
    simp [e] at this
    exact this
  · have hj : j < N.length := (List.getElem?_eq_some_iff.mp e2).1
    have := h6 j (List.mem_range.mpr hj)
    rw [e1, e2] at this
    simpa using this
noncomputable def frσ (fr : List (Option Nat)) (σ : St) : St := fr.map fun o => match o with
  | some i => match σ[i]? with
    | some v => v
    | none => none
  | none => none
theorem frσ_get {fr : List (Option Nat)} {σ : St} {j : Nat} {v : V} (h : (frσ fr σ)[j]? = some (some v)) : ∃ i, fr[j]? = some (some i) ∧ σ[i]? = some (some v) := by
  unfold frσ at h
  rw [List.getElem?_map] at h
  cases e : fr[j]? with
  | none => rw [e] at h; cases h
  | some o =>
    rw [e] at h
    cases o with
    | none => cases h
    | some i =>
      simp only [Option.map_some] at h
      cases e2 : σ[i]? with
      | none => rw [e2] at h; cases h
      | some w => rw [e2] at h; exact ⟨i, rfl, by simpa [e2] using h⟩

noncomputable def PIfs (X : Cx) (ifs : List Expr) (t : TT) : Prop :=
  ∀ (pins : List (Addr × Obj)) (s : Shared) (σ : St) (H : Hp) (Q : Bool → Hp → Prop), Inv X pins σ H s → t σ H Q →
    wpAny (model X.prog X.w) X.A (forIn ifs true fun c r => if r = true then do let ok ← isTrue c X.env (eval c X.env); pure (ForInStep.yield ok) else pure (ForInStep.yield r)) (TP X pins σ Q) X.xe s
noncomputable def tYes : TT := fun _ H Q => Q true H
theorem pf_nil {X : Cx} : PIfs X [] tYes := fun _ _ _ H _ I h => wpAny_tests_nil ⟨H, I, h⟩
noncomputable def tEmit (D : Addr) (tc : TT) (te : TE) : TS := fun E σ H => tc σ H fun b H1 => if b = true then te σ H1 fun v H2 => ∃ ys, H2 D = some (.lst ys) ∧ ys.length < sizeLine ∧ E.nx σ (upd H2 D (.lst (ys ++ [v]))) else E.nx σ H1
noncomputable def endC (Q : VK) (D : Addr) : Ends := { nx := fun _ H => Q (.ref D) H, rt := fun _ _ => False }
noncomputable def tComp (wi : TI) (fr : List (Option Nat)) (g : TG) (tc : TT) (te : TE) : TE := fun σ H Q => wi σ H fun J H1 => ∀ D, H1 D = none → ∃ W : Nat → Nat → St → Hp → Prop, (∃ m, W 0 m (frσ fr σ) (upd H1 D (.lst []))) ∧ ∀ i m σ H, W i m σ H →
  (J.stop i H ∧ (endC Q D).nx σ H) ∨ (J.go i H ∧ ∃ N : St → Hp → Prop, (∀ σ' H', N σ' H' → ∃ m', m' < m ∧ W (i + 1) m' σ' H') ∧ ∀ x H', J.yld i H x H' → g x σ H' fun σ2 H2 => tEmit D tc te { endC Q D with nx := N, ct := N, bk := (endC Q D).nx } σ2 H2)

section
variable {prog : Program} {w : World} {A : Around} {R : Result → Shared → Prop} {s : Shared}
theorem comp_loop {elt target iter : Expr} {ifs : List Expr} {scope : Scope} {pos : Pos} {it acc : Value} {env : Env} (I : Nat → Shared → Prop)
    (turn : ∀ n s, I n s → wpAny (model prog w) A (pyNext it) (fun r s₁ => match r with
      | none => R (.ok .next) s₁
      | some v => wpAny (model prog w) A (letOwnedTupleGo target it v) (fun _ s₁ => wpAny (model prog w) A (assign target env v) (fun _ s₂ =>
          wpAny (model prog w) A (forIn ifs true fun c r => if r = true then do let ok ← isTrue c env (eval c env); pure (ForInStep.yield ok) else pure (ForInStep.yield r)) (fun ok s₃ =>
            if ok = true then wpAny (model prog w) A (eval elt env) (fun x s₄ =>
              wpAny (model prog w) A (call (.builtin "list.append") [acc, x]) (fun _ s₅ => ∃ m, m < n ∧ I m s₅) (notedBy (model prog w) A env fun e s' => R (.error e) s') s₄) (notedBy (model prog w) A env fun e s' => R (.error e) s') s₃
            else ∃ m, m < n ∧ I m s₃) (notedBy (model prog w) A env fun e s' => R (.error e) s') s₂) (notedBy (model prog w) A env fun e s' => R (.error e) s') s₁) (notedBy (model prog w) A env fun e s' => R (.error e) s') s₁) (notedBy (model prog w) A env fun e s' => R (.error e) s') s)
    (n : Nat) (h : I n s) :
    codeAny (model prog w) A (.compLoop (.ListComp elt [⟨target, iter, ifs, 0⟩] scope pos) 0 it acc env) R s := by
  refine codeAny_loop rfl I (fun n s hI => ?_) n h
  show wpAny _ A ((compTurn (.ListComp elt [⟨target, iter, ifs, 0⟩] scope pos) 0 it acc env).onRaise (fun x => do noteFrame x env; theTreesLotGoes x)) _ _ s
  refine wpAny_noted ?_
  rw [compTurn_list]
  refine wpAny_bind (wpAny_standAt (wpAny_bind (wpAny_mono (turn n s hI) (fun r s₁ h₁ => ?_) fun _ _ h' => h')))
  cases r with
  | none => exact wpAny_pure h₁
  | some v =>
    refine wpAny_bind (wpAny_mono h₁ (fun _ s₁' h₁' => ?_) fun _ _ h' => h')
    refine wpAny_bind (wpAny_mono h₁' (fun _ s₂ h₂ => wpAny_bind (wpAny_mono h₂ (fun ok s₃ h₃ => ?_) fun _ _ h' => h')) fun _ _ h' => h')
    cases ok with
    | false => exact wpAny_pure ⟨rfl, h₃⟩
    | true =>
      exact wpAny_bind (wpAny_bind (wpAny_mono h₃ (fun x s₄ h₄ => wpAny_bind (wpAny_mono h₄ (fun _ s₅ h₅ => wpAny_pure (wpAny_pure ⟨rfl, h₅⟩)) fun _ _ h' => h')) fun _ _ h' => h'))
end

structure Apart (X : Cx) (pins : List (Addr × Obj)) (C : Addr) : Prop where
  ne : C ≠ X.env.locals
  ab : X.s₀.heap.objs.size ≤ C
  cells : ∀ x c, X.env.cells.lookup x = some c → c ≠ C
  pins : ∀ p ∈ X.pn ++ pins, p.1 ≠ C

section
variable {X : Cx} {elt tg iter : Expr} {ifs : List Expr} {scope : Scope} {pos pos' : Pos} {wi : TI} {g : TG} {tc : TT} {te : TE} {pins : List (Addr × Obj)} {σ : St} {H : Hp} {s : Shared}
theorem comp_run (N : List Str) (fr : List (Option Nat)) (hc : X.calm = true) (hi : PI X tg iter wi) (hg : ∀ cl C s2 H2 fp, PG (X.comp N scope cl C s2 H2 fp) tg g)
    (ht : ∀ cl C s2 H2 fp, PIfs (X.comp N scope cl C s2 H2 fp) ifs tc) (he : ∀ cl C s2 H2 fp, PE (X.comp N scope cl C s2 H2 fp) elt te)
    (ok : compOk X.N N X.env.scope scope fr = true) (hs : ∀ x, foldedSetIterable iter X.env x = pure x) {Q : VK} {Q' : Value → Shared → Prop} {use : Option (Value → Sem Unit)}
    (I : Inv X pins σ H s) (h : tComp wi fr g tc te σ H Q)
    (fin : ∀ D C s' H', Inv X pins σ H' s' → H' C = none → Apart X pins C → (∃ m, s'.heap.Ns C m) → Q (.ref D) H' → compPost (model X.prog X.w) X.A X.xe use Q' (.ref D) C (.ok .next) s') :
    wpAny (model X.prog X.w) X.A (comprehension (.ListComp elt [⟨tg, iter, ifs, 0⟩] scope pos) scope X.env pos' (newList []) false (eval iter X.env) use) Q' X.xe s := by
  obtain ⟨o1, o2, o3, o4, o5, o6⟩ := compOk_spec ok
  obtain ⟨cl, hclos, c1, c2⟩ := closure_of (scope := scope) (env := X.env) (fun x hx hf => I.ok.has x.1 (o5 x hx hf))
  refine wpAny_comprehension_free (use := use) rfl hs hclos o2 o4 (thn (hi pins s σ H _ I h) fun xv s1 h1 => thn h1 fun itv s2 h2 => ?_)
  obtain ⟨it, fp, tn, J, H2, rfl, I2, T, st2, f2, hW⟩ := h2
  refine wpAny_newObj_type (wpAny_newFunctionEnv o3 (by intro y hy; simp at hy) (fun h₁ hns₁ hsb₁ => ?_) o2)
  dsimp only at hns₁ hsb₁ ⊢
  generalize hHH : s2.heap.push { cls := .type "list", dict := none, data := .seq ([] : List Value).toArray } = HH at hns₁ hsb₁ ⊢
  have hC : HH.objs.size = s2.heap.objs.size + 1 := by rw [← hHH, Heap.size_push]
  have hDC : s2.heap.objs.size ≠ HH.objs.size := by rw [hC]; exact Nat.ne_of_lt (Nat.lt_succ_self _)
  have hCle : s2.heap.objs.size ≤ HH.objs.size := by rw [hC]; exact Nat.le_succ _
  have neC : ∀ b, b < s2.heap.objs.size → b ≠ HH.objs.size := fun b hb => by rw [hC]; exact Nat.ne_of_lt (Nat.lt_succ_of_lt hb)
  have old : ∀ b o, s2.heap.get? b = some o → h₁.get? b = some o := fun b o e => hsb₁.extBut b o (neC b (Heap.lt_size e)) (Heap.get?_push_of_some _ (hHH ▸ Heap.get?_push_of_some _ e))
  have atD : h₁.get? s2.heap.objs.size = some { cls := .type "list", data := .seq ([] : List Value).toArray } := hsb₁.extBut _ _ hDC (Heap.get?_push_of_some _ (hHH ▸ Heap.get?_push_size _ rfl))
  have ltf : ∀ b ∈ fp, b < s2.heap.objs.size := fun b hb => let ⟨o, e, _⟩ := T.obj _ _ st2 b hb; Heap.lt_size e
  have ltc : ∀ x c, X.env.cells.lookup x = some c → c < s2.heap.objs.size := fun x c e => let ⟨v, q⟩ := I2.cell x c e; q.lt
  have ltp : ∀ p ∈ X.pn ++ pins, p.1 < s2.heap.objs.size := fun p hp => Heap.lt_size (I2.pin p hp).1
  have fresh : H2 s2.heap.objs.size = none := I2.hok.fresh (Nat.le_refl _)
  have freshC : H2 HH.objs.size = none := I2.hok.fresh hCle
  have ap : Apart X pins HH.objs.size := ⟨Nat.ne_of_gt (Nat.lt_of_lt_of_le I2.lt hCle), Nat.le_trans I2.sz hCle, fun x c e => neC c (ltc x c e), fun p hp => neC _ (ltp p hp)⟩
  have okY : (X.comp N scope cl HH.objs.size s2 H2 fp).Ok := {
    mod := I2.ok.mod
    kind := o2
    glob := I2.ok.glob
    blt := I2.ok.blt
    above := hCle
    inj := fun x y c a b => I2.ok.inj x y c (c1 _ _ a) (c1 _ _ b)
    has := fun x hx => c2 x (lookup_mem (relabel_of (fun z => o3 _ (lookup_mem z) rfl) hx))
    cab := fun x c hx _ => by cases hx
    hd := I2.ok.hd
    frames := I2.ok.frames
    stk := .inl rfl
    exf := fun b hb => ⟨neC b (ltf b hb), fun x c e => (f2 b hb).2.2.2.2.1 x c (c1 x c e)⟩
    bs := I2.bs
    bsz := Nat.le_trans I2.ok.bsz I2.sz
    noex := fun b o e hb => by
      rcases (f2 b hb).2.2.2.1 with z | z
      · exact I2.ok.noex b o e z
      · exact absurd (Nat.lt_of_lt_of_le (Heap.lt_size e) (Nat.le_trans I2.ok.bsz z)) (Nat.lt_irrefl _)
    exfs := fun b hb hf => by
      rcases List.mem_cons.mp (I2.stkSub b hf) with z | z
      · exact (f2 b hb).2.1 z
      · exact (f2 b hb).2.2.1 z
    funs := I2.stack
    frf := I2.stkFree }
  have IY : Inv (X.comp N scope cl HH.objs.size s2 H2 fp) [] (frσ fr σ) (upd H2 s2.heap.objs.size (.lst [])) { s2 with heap := h₁, toks := s2.toks + ([] : List (Str × Value)).length } := {
    ok := okY
    os := rfl
    bare := I2.bare
    base := Un.laid old (Nat.le_refl _) fresh
    loc := by
      refine ⟨_, hns₁, fun j x v e1 e2 e3 => ?_⟩
      obtain ⟨i, f1, f2'⟩ := frσ_get e2
      obtain ⟨g1, g2⟩ := o6 j i x f1 e1
      have k2 := o5 _ (lookup_mem g2) rfl
      obtain ⟨m2, hm2, l2⟩ := I2.loc
      obtain ⟨u, ru, lk⟩ := l2 i x v g1 f2' (.inr k2)
      refine ⟨u, ru, .inr ⟨relabel_free g2, ?_⟩⟩
      obtain ⟨c, hcl⟩ := c2 x (lookup_mem g2)
      refine ⟨c, hcl, ?_⟩
      rcases lk with ⟨k, _⟩ | ⟨_, c', e', z⟩
      · rcases k2 with k2 | k2
        · rw [show X.env.kindOf x = X.env.scope.names.lookup x from rfl, k2] at k; cases k
        · rw [show X.env.kindOf x = X.env.scope.names.lookup x from rfl, k2] at k; cases k
      · rw [c1 x c hcl] at e'
        cases e'
        obtain ⟨oc, hoc, hd⟩ := z
        exact ⟨oc, old c oc hoc, hd⟩
    cell := fun x c e => by
      obtain ⟨v, oc, hoc, hd⟩ := I2.cell x c (c1 x c e)
      exact ⟨v, oc, old c oc hoc, hd⟩
    free := (upd_ne (Ne.symm hDC)).trans freshC
    freeC := fun x c e => by
      rw [upd_ne (Nat.ne_of_lt (ltc x c (c1 x c e)))]
      exact I2.freeC x c (c1 x c e)
    pin := fun p hp => by cases hp
    hok := I2.hok.laid old (Nat.le_refl _) ⟨Nat.zero_le _, [], 0, .nil, atD⟩
    len := by unfold frσ; rw [List.length_map]; exact o1 }
  have stat : ∀ {H' : Hp} {pp : List (Addr × Obj)}, pp = [] → (∀ b ∈ fp, H' b = none) → ∀ b ∈ fp, FpOk (X.comp N scope cl HH.objs.size s2 H2 fp) pp H' b := fun {H' pp} hp hn b hb => by
    subst hp
    exact ⟨hn b hb, neC b (ltf b hb), fun z => okY.exfs b hb z, .inl hb, fun x c e => (f2 b hb).2.2.2.2.1 x c (c1 x c e), fun p hp => by cases hp⟩
  have back : ∀ {σ' : St} {H' : Hp} {s' : Shared}, Inv (X.comp N scope cl HH.objs.size s2 H2 fp) [] σ' H' s' → Inv X pins σ H' s' := fun {σ' H' s'} I' =>
    I2.call' (ch := fp) I'.os I'.base I'.hok I'.bare fun b hb => ⟨(f2 b hb).2.2.2.1, (f2 b hb).2.1, (f2 b hb).2.2.2.2.1, (f2 b hb).2.2.2.2.2⟩
  have loop : ∀ s₃ : Shared, s₃ = { s2 with heap := h₁, toks := s2.toks + ([] : List (Str × Value)).length } →
      codeAny (model X.prog X.w) X.A (.compLoop (.ListComp elt [⟨tg, iter, ifs, 0⟩] scope pos) 0 (.ref it) (.ref s2.heap.objs.size) (compEnvC scope cl HH.objs.size X.env))
        (compPost (model X.prog X.w) X.A X.xe use Q' (.ref s2.heap.objs.size) HH.objs.size) s₃ := by
    rintro s₃ rfl
    obtain ⟨W, ⟨m0, w0⟩, turn⟩ := hW s2.heap.objs.size fresh
    refine comp_loop (fun n s' => ∃ i σ' H', Inv (X.comp N scope cl HH.objs.size s2 H2 fp) [] σ' H' s' ∧ tn i s'.heap ∧ (∀ b ∈ fp, H' b = none) ∧ W i n σ' H') ?_ m0
      ⟨0, _, _, IY, T.keep _ _ _ st2 fun b _ o e => old b o e, fun b hb => by rw [upd_ne (Nat.ne_of_lt (ltf b hb))]; exact (f2 b hb).1, w0⟩
    rintro n s3 ⟨i, σ3, H3, I3, st3, fr3, w3⟩
    rcases turn i n σ3 H3 w3 with ⟨stop, q⟩ | ⟨go, Nx, hN, step⟩
    · refine thn (T.done (X.comp N scope cl HH.objs.size s2 H2 fp) rfl rfl rfl hc i [] s3 σ3 H3 _ I3 (stat rfl fr3) st3 stop) fun r s4 ⟨hr, I4⟩ => ?_
      subst hr
      obtain ⟨m4, hm4, _⟩ := I4.loc
      exact fin _ _ s4 H3 (back I4) I4.free ap ⟨m4, hm4⟩ q
    · refine thn (T.item (X.comp N scope cl HH.objs.size s2 H2 fp) rfl rfl rfl hc i [] s3 σ3 H3 _ I3 (stat rfl fr3) st3 go) fun r s4 ⟨u, hr, h4⟩ => ?_
      subst hr
      refine thn h4 fun _ s5 ⟨x, H5, I5, r5, y5, st5, fr5⟩ => ?_
      have I5' := I5.pinned (stat rfl fr5) (T.obj _ _ st5)
      refine wpAny_mono (hg cl HH.objs.size s2 H2 fp _ s5 σ3 H5 x u _ I5' r5 (step x H5 y5)) (fun _ s6 ⟨σ6, H6, I6, q6⟩ => ?_) fun _ _ f => f.elim
      have again : ∀ {s7 : Shared} {σ7 : St} {H7 : Hp}, Inv (X.comp N scope cl HH.objs.size s2 H2 fp) ([] ++ pinsAt fp s5.heap) σ7 H7 s7 → Nx σ7 H7 →
          ∃ m, m < n ∧ ∃ i σ' H', Inv (X.comp N scope cl HH.objs.size s2 H2 fp) [] σ' H' s7 ∧ tn i s7.heap ∧ (∀ b ∈ fp, H' b = none) ∧ W i m σ' H' := fun {s7 σ7 H7} I7 n7 => by
        obtain ⟨m', hm, w7⟩ := hN σ7 H7 n7
        refine ⟨m', hm, i + 1, σ7, H7, I7.unpinned, T.keep _ _ _ st5 fun b hb o e => (I7.pin (b, o) (List.mem_append_right _ (List.mem_append_right _ (mem_pinsAt hb e)))).1, fun b hb => ?_, w7⟩
        obtain ⟨o, e, d⟩ := T.obj _ _ st5 b hb
        exact (I7.pin (b, o) (List.mem_append_right _ (List.mem_append_right _ (mem_pinsAt hb e)))).2.1
      refine wpAny_mono (ht cl HH.objs.size s2 H2 fp _ s6 σ6 H6 _ I6 q6) (fun b s7 ⟨H7, I7, q7⟩ => ?_) fun _ _ f => f.elim
      cases b with
      | false =>
        rw [if_neg (by decide)] at q7 ⊢
        exact again I7 q7
      | true =>
        rw [if_pos rfl] at q7 ⊢
        refine wpAny_mono (he cl HH.objs.size s2 H2 fp _ s7 σ6 H7 _ I7 q7) (fun y s8 ⟨v, H8, I8, r8, q8⟩ => ?_) fun _ _ f => f.elim
        obtain ⟨ys, e8, l8, n8⟩ := q8
        refine wpAny_mono (mt_append (X := X.comp N scope cl HH.objs.size s2 H2 fp) _ s8 σ6 H8 (.ref s2.heap.objs.size) [v] (.ref s2.heap.objs.size) [y] (fun _ H9 => Nx σ6 H9) I8 rfl (.cons r8 .nil) ⟨_, ys, v, rfl, rfl, e8, l8, n8⟩) (fun _ s9 ⟨_, H9, I9, _, n9⟩ => ?_) fun _ _ f => f.elim
        exact again I9 n9
  exact codeAny_compStart_list (loop _ rfl) (T.self _ 0 _ _ _ (T.keep _ _ _ st2 fun b _ o e => old b o e) (loop _ rfl))

theorem pe_comp (N : List Str) (fr : List (Option Nat)) (hc : X.calm = true) (hi : PI X tg iter wi) (hg : ∀ cl C s2 H2 fp, PG (X.comp N scope cl C s2 H2 fp) tg g)
    (ht : ∀ cl C s2 H2 fp, PIfs (X.comp N scope cl C s2 H2 fp) ifs tc) (he : ∀ cl C s2 H2 fp, PE (X.comp N scope cl C s2 H2 fp) elt te)
    (ok : compOk X.N N X.env.scope scope fr = true := by kernel_rfl) (hs : ∀ x, foldedSetIterable iter X.env x = pure x := by intro _; rfl) :
    PE X (.ListComp elt [⟨tg, iter, ifs, 0⟩] scope pos) (tComp wi fr g tc te) := by
  intro pins s σ H Q I h
  rw [eval_ListComp]
  refine comp_run (use := none) N fr hc hi hg ht he ok hs I h fun D C s' H' I' hn ap hm q => ?_
  obtain ⟨m, hm⟩ := hm
  exact ⟨m, hm, fun h' sb => ⟨.ref D, H', I'.turned (t' := s'.toks) (fun b o hb e => (sb.2 b hb).trans e) hn ap.ne (.inr ap.ab) ap.cells ap.pins, rfl, q⟩⟩
theorem ps_setC {i : Nat} {y : Str} {py spos : Pos} (N : List Str) (fr : List (Option Nat)) (hc : X.calm = true) (hN : X.N.Nodup) (hiy : X.N[i]? = some y) (hy : X.env.scope.names.lookup y = some .local) (hi : PI X tg iter wi)
    (hg : ∀ cl C s2 H2 fp, PG (X.comp N scope cl C s2 H2 fp) tg g) (ht : ∀ cl C s2 H2 fp, PIfs (X.comp N scope cl C s2 H2 fp) ifs tc) (he : ∀ cl C s2 H2 fp, PE (X.comp N scope cl C s2 H2 fp) elt te)
    (ok : compOk X.N N X.env.scope scope fr = true := by kernel_rfl) (hs : ∀ x, foldedSetIterable iter X.env x = pure x := by intro _; rfl)
    (hsw : swapsWith (.ListComp elt [⟨tg, iter, ifs, 0⟩] scope pos) (some (.Name y py)) spos.line X.env = pure true := by rfl) :
    PS X (.Assign [.Name y py] (.ListComp elt [⟨tg, iter, ifs, 0⟩] scope pos) spos) (tAsg (tComp wi fr g tc te) (gName i)) := by
  intro pins s σ H D I h
  rw [exec_Assign_Name_used _ _ _ _ hsw]
  refine wpAny_bind (wpAny_standAt (wpAny_bind ?_))
  show wpAny _ X.A (do let _ ← comprehension (.ListComp elt [⟨tg, iter, ifs, 0⟩] scope pos) scope X.env _ (newList []) false (eval iter X.env) (some (assign (.Name y py) X.env))) _ _ s
  refine wpAny_bind (wpAny_mono (comp_run (use := some (assign (.Name y py) X.env)) (Q' := fun _ s' => SP X pins D .next s') N fr hc hi hg ht he ok hs I h fun Da C s' H' I' hn ap hm q => ?_) (fun _ s' hq => wpAny_pure (wpAny_pure hq)) fun _ _ e => e)
  obtain ⟨m, hm⟩ := hm
  show wpAny _ X.A (assign (.Name y py) X.env (.ref Da)) _ _ _
  refine wpAny_assign_Name (store_ok2 I' hN hiy (.inl hy) (v := .ref Da) rfl (fun s'' I'' hsb => ?_) (.inr hy))
  obtain ⟨a, sb, ha⟩ := hsb
  have hne : C ≠ a := by
    rcases ha with z | z
    · rw [z]; exact ap.ne
    · exact Ne.symm (ap.cells y a z)
  exact ⟨m, hm.sameBut sb hne, fun h' sb' => ⟨_, H', I''.turned (t' := s''.toks) (fun b o hb e => (sb'.2 b hb).trans e) hn ap.ne (.inr ap.ab) ap.cells ap.pins, q⟩⟩
end
end L2

namespace L2
open PySem PySem.Spec PyProof.Rows

section
variable {X : Cx} {pins : List (Addr × Obj)} {σ : List (Option V)} {H : Hp} {s : Shared} {h' : Heap}
theorem Inv.turnedL {t' : Nat} {ch : List Addr} (I : Inv X pins σ H s) (k : ∀ b o, b ∉ ch → s.heap.get? b = some o → h'.get? b = some o) (hf : ∀ b ∈ ch, FpOk X pins H b) : Inv X pins σ H { s with heap := h', toks := t' } := by
  have nit : ∀ b u, H b = some u → b ∉ ch := fun b u e z => by rw [(hf b z).1] at e; cases e
  refine I.step (g' := s.gens) (d' := s.drawn) (ch := ch) (fun b hb => ⟨(hf b hb).2.2.2.1, (hf b hb).2.1, (hf b hb).2.2.2.2.1, (hf b hb).2.2.2.2.2⟩) (fun b o _ _ hc e _ => k b o hc e) (fun b o _ _ hc e _ => ⟨o.slots, k b o hc e⟩) (fun _ _ _ _ n => n)
    (fun b o hc e => ⟨o, k b o hc e⟩) (fun _ _ e => e) (fun _ _ _ e => e) (fun b ps e => ⟨#[], by rw [e]; simp⟩) (fun m hm => ?_) (fun b u e => ?_) I.bare
  · obtain ⟨o, es, ep, ho, r⟩ := hm
    exact ⟨o, es, ep, k _ o (fun z => (hf _ z).2.1 rfl) ho, r⟩
  · refine (I.hok b u e).stay (fun c v hc q => k c v ?_ q) (fun _ q => q) fun _ _ q => q
    rcases hc with z | z
    · rw [z]; exact nit b u e
    · exact nit c _ z
theorem Inv.turnedNew {t' : Nat} {ch : List Addr} {a : Addr} {o : HO} (I : Inv X pins σ H s) (k : ∀ b o, b ∉ ch → s.heap.get? b = some o → h'.get? b = some o) (hf : ∀ b ∈ ch, FpOk X pins H b) (ha : s.heap.objs.size ≤ a)
    (new : ObjOk X.prog X.w (upd H a o) h' a o) : Inv X pins σ (upd H a o) { s with heap := h', toks := t' } := by
  have hn : H a = none := I.hok.fresh ha
  have nit : ∀ b u, H b = some u → b ∉ ch := fun b u e z => by rw [(hf b z).1] at e; cases e
  have ne : ∀ b ob, s.heap.get? b = some ob → b ≠ a := fun b ob e z => by rw [z] at e; exact absurd (Nat.lt_of_lt_of_le (Heap.lt_size e) ha) (Nat.lt_irrefl _)
  refine I.step (g' := s.gens) (d' := s.drawn) (ch := ch) (fun b hb => ⟨(hf b hb).2.2.2.1, (hf b hb).2.1, (hf b hb).2.2.2.2.1, (hf b hb).2.2.2.2.2⟩) (fun b o _ _ hc e _ => k b o hc e) (fun b o _ _ hc e _ => ⟨o.slots, k b o hc e⟩) (fun b ob _ e n => by rw [upd_ne (ne b ob e)]; exact n)
    (fun b o hc e => ⟨o, k b o hc e⟩) (fun b xs e => by rw [upd_ne (ne_of_none e hn)]; exact e) (fun b ob u e => by rw [upd_ne (ne_of_none e hn)]; exact e) (fun b ps e => ⟨#[], by rw [upd_ne (ne_of_none e hn), e]; simp⟩) (fun m hm => ?_) (fun b u e => ?_) I.bare
  · obtain ⟨o, es, ep, ho, r⟩ := hm
    exact ⟨o, es, ep, k _ o (fun z => (hf _ z).2.1 rfl) ho, r⟩
  · by_cases hb : b = a
    · subst hb; rw [upd_same] at e; cases e; exact new
    · rw [upd_ne hb] at e
      refine (I.hok b u e).stay (fun c v hc q => k c v ?_ q) (fun c q => by rw [upd_ne (ne_of_none q hn)]; exact q) fun c xs q => by rw [upd_ne (ne_of_none q hn)]; exact q
      rcases hc with z | z
      · rw [z]; exact nit b u e
      · exact nit c _ z
end

noncomputable def Itf (f : Nat → V) (n : Nat) : It := ⟨fun i _ => i < n, fun i H x H' => H' = H ∧ x = f i, fun i _ => i = n⟩
noncomputable def sgn (z : Str) (i : Nat) : V := .str ⟨#[z.cps.getD i 0]⟩
theorem walks_str {P : Program} {w : World} {A : Around} (hh : A.handled = none) (it : Addr) (z : Str) (t : Tok) : Walks P w A it [it] [it] z.cps.size (SignAt z) (fun i h => h.IsStrIter it (strIterType z) z t i) := by
  unfold strIterType
  split
  · exact Walks.strAscii hh it z t
  · exact Walks.strWide hh it z t
theorem turn_str {P : Program} {w : World} {K : PySem.W.Frag} {tg : Expr} (it : Addr) (z : Str) (t : Tok) : Turn P w K tg (Itf (sgn z) z.cps.size) [it] it (fun i h => h.IsStrIter it (strIterType z) z t i) where
  mem := by simp
  obj := fun i h st b hb => by
    have e : b = it := by simpa using hb
    subst e
    obtain ⟨o, e, c, d⟩ := st
    exact ⟨o, e, fun v z => by rw [d] at z; cases z⟩
  keep := fun i h h' st k => let ⟨o, e, r⟩ := st; ⟨o, k it (by simp) o e, r⟩
  item := by
    intro X hP hw hK hc i pins s σ H E I hf st hg
    subst hP hw hK
    obtain ⟨f0, f1, f2, f3, f4, f5⟩ := hf it (by simp)
    have W := walks_str (P := X.prog) (w := X.w) (I.ok.hd hc) it z t
    refine W.item i s _ _ hg st fun v h' tk hv st' kk => ?_
    obtain ⟨c, u, hx, rfl⟩ := hv
    have I1 : Inv X pins σ H { s with heap := h', toks := tk } := I.turned (fun b o hb e => kk b o (by simpa using hb) e) f0 f1 f3 f4 f5
    obtain ⟨o, e, cc, d⟩ := id st'
    have ec : z.cps.getD i 0 = c := by rw [Array.getD_eq_getD_getElem?, hx]; rfl
    refine ⟨_, rfl, go_of (s := { s with heap := h', toks := tk }) e cc d (by unfold strIterType; split <;> decide) ⟨sgn z i, H, I1, ⟨u, ?_⟩, ⟨rfl, rfl⟩, st', fun b hb => (hf b hb).1⟩⟩
    rw [ec]
  done := by
    intro X hP hw hK hc i pins s σ H E I hf st hg
    subst hP hw hK
    have hg' : i = z.cps.size := hg
    subst hg'
    obtain ⟨f0, f1, f2, f3, f4, f5⟩ := hf it (by simp)
    have W := walks_str (P := X.prog) (w := X.w) (I.ok.hd hc) it z t
    exact W.done s _ _ st fun h' tk kk => ⟨rfl, I.turned (fun b o hb e => kk b o (by simpa using hb) e) f0 f1 f3 f4 f5⟩
  self := fun A i s Q E st h => by
    unfold strIterType at st
    split at st
    · exact wpAny_pyIter_striter_ascii st h
    · exact wpAny_pyIter_striter_wide st h
noncomputable def Ite (K : PySem.W.Frag) (a : Addr) : It :=
  ⟨fun i H => ∃ xs x, SqL K H a xs ∧ xs[i]? = some x, fun i H x H' => ∃ p y, H p = none ∧ x = .ref p ∧ H' = upd H p (.tup [.int i, y]) ∧ ∀ xs, SqL K H a xs → xs[i]? = some y, fun i H => ∃ xs, SqL K H a xs ∧ xs.length ≤ i⟩
theorem turn_enum {P : Program} {w : World} {K : PySem.W.Frag} {elts : List Expr} {x1 : Nat} {pos : Pos} (a e it : Addr) (hei : e ≠ it) :
    Turn P w K (.Tuple elts x1 pos) (Ite K a) [e, it] e (fun i h => (∃ old, IsEnum h e it (i : Int) old) ∧ h.IsListIter it a i) where
  mem := by simp
  obj := fun i h st b hb => by
    obtain ⟨⟨old, he⟩, o, ho, c, d⟩ := st
    rcases List.mem_cons.mp hb with z | z
    · subst z; exact ⟨_, he, fun v q => by cases q⟩
    · have z : b = it := by simpa using z
      subst z
      exact ⟨o, ho, fun v q => by rw [d] at q; cases q⟩
  keep := fun i h h' st k => by
    obtain ⟨⟨old, he⟩, hit⟩ := st
    exact ⟨⟨old, k e (by simp) _ he⟩, hit.at fun o q => k it (by simp) o q⟩
  item := by
    intro X hP hw hK hc i pins s σ H E I hf st hg
    subst hP hw hK
    obtain ⟨xs, x, hq, hx⟩ := hg
    obtain ⟨its, rv, p, hz⟩ := I.list hq
    obtain ⟨u, hu, ru⟩ := rv.get hx
    obtain ⟨⟨old, he⟩, hit⟩ := st
    have hl := p.isList
    have hai : a ≠ it := by
      rintro rfl
      obtain ⟨o1, e1, c1, _⟩ := hl
      obtain ⟨o2, e2, c2, _⟩ := hit
      rw [e1] at e2; cases e2; rw [c1] at c2; exact absurd c2 (by decide)
    have hae : a ≠ e := by
      rintro rfl
      obtain ⟨o1, e1, c1, _⟩ := hl
      rw [he] at e1; cases e1; exact absurd (show Value.type "enumerate" = Value.type "list" from c1) (by decide)
    have D := Draws.list (prog := X.prog) (w := X.w) (A := X.A.in1) (I.ok.hd hc) it a hai its.toArray
    have hlt : i < its.toArray.size := by
      have := (List.getElem?_eq_some_iff.mp hu).1
      simpa using this
    refine wpAny_pyNext_enum_itemD D he ⟨hit, hl⟩ hlt hei (by simp [hei, Ne.symm hae]) fun v h1 tk hP ho hst hT hsz hk => ?_
    have ev : v = u := by
      have hP' : its.toArray[i]? = some v := hP
      rw [List.getElem?_toArray, hu] at hP'
      exact (Option.some.inj hP').symm
    subst ev
    refine ⟨_, rfl, wpAny_letOwnedTupleGo_enum ho fun h2 he2 hs2 => ?_⟩
    have elt : e < s.heap.objs.size := Heap.lt_size he
    have hT2 : h2.get? s.heap.objs.size = some { cls := .type "tuple", data := .seq #[.int i tk, v] } := (hs2.2 _ (Nat.ne_of_gt elt)).trans hT
    refine ⟨.ref s.heap.objs.size, upd H s.heap.objs.size (.tup [.int i, x]), I.turnedNew (ch := [e, it]) (fun b o hb q => ?_) hf (Nat.le_refl _) ⟨by show 2 ≤ sizeLine; decide, [.int i tk, v], .cons ⟨tk, rfl⟩ (.cons ru .nil), IsTupN.mk hT2⟩, rfl, ⟨_, x, I.hok.fresh (Nat.le_refl _), rfl, rfl, fun ys hy => by rw [I.list_inj hy hq]; exact hx⟩, ⟨⟨v, by simpa using he2⟩, ?_⟩, fun b hb => ?_⟩
    · have h1' : b ≠ e := fun z => hb (by simp [z])
      have h2' : b ≠ it := fun z => hb (by simp [z])
      exact (hs2.2 b h1').trans (hk b o h1' h2' q)
    · exact hst.1.at fun o q => (hs2.2 it (Ne.symm hei)).trans q
    · rw [upd_ne ?_]
      · exact (hf b hb).1
      · rcases List.mem_cons.mp hb with z | z
        · rw [z]; exact Nat.ne_of_lt elt
        · have z : b = it := by simpa using z
          rw [z]
          obtain ⟨o2, e2, _⟩ := hit
          exact Nat.ne_of_lt (Heap.lt_size e2)
  done := by
    intro X hP hw hK hc i pins s σ H E I hf st hg
    subst hP hw hK
    obtain ⟨xs, hq, hx⟩ := hg
    obtain ⟨its, rv, p, hz⟩ := I.list hq
    obtain ⟨⟨old, he⟩, hit⟩ := st
    have hl := p.isList
    have ln := rv.length
    refine wpAny_pyNext_enum_end (I.ok.hd hc) he hit hl (by rw [List.getElem?_toArray]; exact List.getElem?_eq_none_iff.mpr (by omega)) fun h1 eb => ⟨rfl, ?_⟩
    exact I.turnedL (t' := s.toks) (ch := [e, it]) (fun b o hb q => eb b o (fun z => hb (by simp [z])) q) hf
  self := fun A i s Q E st h => by
    obtain ⟨⟨old, he⟩, _⟩ := st
    exact wpAny_pyIter_enum he h
noncomputable def iEnum (K : PySem.W.Frag) (ta : TA) : TI := fun σ H R => ta σ H fun vs H1 => ∃ a, vs = [.ref a] ∧ (∃ xs, SqL K H1 a xs) ∧ R (Ite K a) H1
theorem pi_enum {X : Cx} {l : Expr} {ta : TA} {elts : List Expr} {x1 : Nat} {tpos p pos : Pos} (hg : Gl X "enumerate") (hm : X.mg "enumerate" = none) (ha : PA X [l] ta) (hs : starEach [l] X.env = [(false, eval l X.env)] := by rfl) :
    PI X (.Tuple elts x1 tpos) (.Call (.Name "enumerate" p) [l] [] pos) (iEnum X.K ta) := by
  intro pins s σ H R I h
  refine Call_ (ld_blt I hg hm boot_enumerate (PyProof.Rows.callWith_type1 (thn (ha pos pins s σ H _ I h) fun us s1 ⟨vs, H1, I1, r1, q1⟩ => ?_) hs rfl))
  obtain ⟨a, e, ⟨xs, hq⟩, q⟩ := q1
  subst e
  cases r1 with
  | cons r rr =>
    cases rr
    cases r
    obtain ⟨its, rv, p, hz⟩ := I1.list hq
    refine call_enumerate_list p.isList fun h1 he hit hsz hk => ?_
    refine wpAny_pyIter_enum he ?_
    have I2 : Inv X pins σ H1 { s1 with heap := h1 } := I1.kept (t' := s1.toks) hk
    refine ⟨s1.heap.objs.size + 1, [s1.heap.objs.size + 1, s1.heap.objs.size], _, _, H1, rfl, I2, turn_enum a _ _ (by simp), ⟨⟨_, he⟩, hit⟩, fun b hb => ?_, q⟩
    rcases List.mem_cons.mp hb with z | z
    · subst z; exact I1.fpOk (Nat.le_succ _) (I1.hok.fresh (Nat.le_succ _))
    · have z : b = s1.heap.objs.size := by simpa using z
      subst z; exact I1.fpOk (Nat.le_refl _) (I1.hok.fresh (Nat.le_refl _))
section
variable {X : Cx} {a b c e : Expr} {ta tb tc te : TE} {pos p2 : Pos}
theorem all_range (bs : List Bool) : (List.range bs.length).all (fun i => bs.getD i true) = bs.all id := by
  rw [Bool.eq_iff_iff]
  simp only [List.all_eq_true, List.mem_range, id]
  constructor
  · intro h x hx
    obtain ⟨i, hi, rfl⟩ := List.mem_iff_getElem.mp hx
    have := h i hi
    simpa [List.getD_eq_getElem?_getD, hi] using this
  · intro h i hi
    have := h bs[i] (List.getElem_mem hi)
    simpa [List.getD_eq_getElem?_getD, hi] using this
theorem call_all (hc : X.calm = true) : CallR X (.builtin "all") (fun xs H Q => ∃ (p : Addr) (bs : List Bool), xs = [.ref p] ∧ SqL X.K H p (bs.map V.bl) ∧ Q (.bl (bs.all id)) H) := by
  intro pins s σ H xs us Q I rv h
  obtain ⟨p, bs, rfl, hq, q⟩ := h
  obtain ⟨u, rfl, ru⟩ := rv.one
  cases ru
  obtain ⟨its, r, pl, hz⟩ := I.list hq
  have ln := r.length
  rw [List.length_map] at ln
  refine call_all_walk (wpAny_pyIter_list pl.isList ?_)
  have hne : p ≠ s.heap.objs.size := by
    obtain ⟨o, n, e, _⟩ := pl
    exact Nat.ne_of_lt (Heap.lt_size e)
  refine ⟨s.heap.objs.size, _, _, _, _, _, fun i => bs.getD i true, rfl, Walks.list (A := X.A.in1) (I.ok.hd hc) s.heap.objs.size p hne its.toArray, ⟨⟨_, Heap.get?_push_size _ rfl, rfl, rfl⟩, pl.isList.at fun o e => Heap.get?_push_of_some _ e⟩, ?_, fun h' tk kk => ?_⟩
  · intro i v s' Q' E' hP hQ
    have hP' : its.toArray[i]? = some v := hP
    rw [List.getElem?_toArray] at hP'
    have hi : i < its.length := (List.getElem?_eq_some_iff.mp hP').1
    have hb : (bs.map V.bl)[i]? = some (V.bl (bs.getD i true)) := by
      rw [List.getElem?_map, List.getElem?_eq_getElem (by omega)]
      simp [List.getD_eq_getElem?_getD, show i < bs.length by omega]
    obtain ⟨u, hu, ru⟩ := r.get hb
    rw [hP'] at hu; cases hu
    cases ru
    exact wpAny_truthy_bool hQ
  · have en : (List.range its.toArray.size).all (fun i => bs.getD i true) = bs.all id := by
      rw [List.size_toArray, ← ln]; exact all_range bs
    rw [en]
    refine ⟨.bl _, H, ?_, rfl, q⟩
    refine I.kept fun b o e => kk b o ?_ (Heap.get?_push_of_some _ e)
    simp
    exact Nat.ne_of_lt (Heap.lt_size e)
theorem strs_of : ∀ {ys : List Str} {us : List Value}, Vals (ys.map V.str) us → StrsAre us ys
  | [], us, r => by rw [List.map_nil] at r; cases r; exact .nil
  | y :: ys, us, r => by
    rw [List.map_cons] at r
    cases r with
    | cons r1 r2 =>
      obtain ⟨t, e⟩ := r1
      subst e
      exact .cons y t (strs_of r2)
theorem mt_join : MtR X "str.join" (fun x xs H Q => ∃ (z : Str) (p : Addr) (ys : List Str), x = .str z ∧ xs = [.ref p] ∧ SqL X.K H p (ys.map V.str) ∧ (ys.map (·.length)).sum + ys.length * z.length ≤ 16777216 ∧ Q (.str (Txt.join z ys)) H) := by
  intro pins s σ H x xs v us Q I rx rv h
  obtain ⟨z, p, ys, rfl, rfl, hq, hz, q⟩ := h
  obtain ⟨t, rfl⟩ := rx
  obtain ⟨u, rfl, ru⟩ := rv.one
  cases ru
  obtain ⟨its, r, pl, _⟩ := I.list hq
  refine join_list pl.isList (by simpa using strs_of r) hz fun t' k => ⟨.str _, H, I.tok _, ⟨t', rfl⟩, q⟩
theorem op_le_str : OpR X (compareOp .LtE) (fun x y H Q => ∃ i j, x = .str i ∧ y = .str j ∧ Q (.bl (!(decide (j.cps.toList < i.cps.toList)))) H) := by
  intro pins s σ H x y v u Q I rx ry h
  obtain ⟨i, j, rfl, rfl, q⟩ := h
  obtain ⟨t, rfl⟩ := rx
  obtain ⟨t', rfl⟩ := ry
  exact PySem.P.le_str (fin_bl I q rfl)
end
end L2

namespace L2
open PySem PySem.Spec PyProof.Rows
end L2

namespace L2
open PySem PySem.Spec PyProof.Rows
structure DefAt (K : PySem.W.Frag) (mg : Str → Option Value) (x : Str) (st : Stmt) (ps : List Str) : Prop where
  ex : ∃ (f : Addr) (fd : FuncData), mg x = some (.ref f) ∧ Fun K x x st f fd ∧ Binds K fd ps []
noncomputable def FnAt (P : Program) (w : World) (K : PySem.W.Frag) (mg : Str → Option Value) (base : Heap) (x : Str) (k : Nat) (ps : List Str) (sp : Sp) : Prop :=
  ∃ (f : Addr) (fd : FuncData), mg x = some (.ref f) ∧ PySem.W.keepIn K (.ref f) = true ∧ Binds K fd ps [] ∧ FnOk P w K mg base CX0 k f fd ps sp
theorem DefAt.ok {P : Program} {w : World} {K : PySem.W.Frag} {mg : Str → Option Value} {base : Heap} {x : Str} {st : Stmt} {ps N : List Str} {k : Nat} {sp : Sp} (D : DefAt K mg x st ps) (S : FnScope N ps (defScope st)) (len : ∀ vs H Q E, sp vs H Q E → vs.length = ps.length)
    (hbody : ∀ (f : Addr) (cdv : Value) (A : Around) (outer : List Env) (s : Shared) (H : Hp) (vs : List V) (Q : VK) (E : XK), Room k (A.deeper (envOfC x (defScope st) s.heap.objs.size f cdv)) → sp vs H Q E →
      ∃ t, PSs (cxOf CX0 P w K mg base N x (defScope st) f cdv A outer s H E).nox (defBody st) t ∧ t { nx := fun _ H' => Q .non H', rt := Q } (start N vs) H) : FnAt P w K mg base x (k + 1) ps sp := by
  obtain ⟨f, fd, e, F, b⟩ := D.ex
  exact ⟨f, fd, e, F.kp, b, F.ok S len fun cdv A outer s H vs Q E => hbody f cdv A outer s H vs Q E⟩
section
variable {X : Cx} {k : Nat} {ps : List Str} {sp : Sp} {x : Str} {p pos : Pos} {e : Expr} {es : List Expr} {t : TA}
theorem pe_callF (G : FnAt X.prog X.w X.K X.mg X.base x k ps sp) (hr : Room k X.A) (hg : Gl X x) (ha : PA X (e :: es) t) (hdb : (x == ("__debug__" : Str)) = false := by decide)
    (he : starEach (e :: es) X.env = (false, eval e X.env) :: starEach es X.env := by rfl) (hpl : (backTo pos (starEach es X.env)).any (·.1) = false := by rfl) : PE X (.Call (.Name x p) (e :: es) [] pos) (tCall sp [] E0 t) := by
  obtain ⟨f, fd, e1, e2, e3, e4⟩ := G
  exact pe_call e4 hr hg e1 e2 e3 .nil pass0 ha hdb he hpl
end
section
variable {X : Cx} {N : List Str} {scope : Scope} {cl : List (Str × Addr)} {C : Addr} {s2 : Shared} {H2 : Hp} {fp : List Addr} {x : Str} {pos : Pos}
theorem pvl (i : Nat) (hN : N[i]? = some x := by rfl) (hv : scope.names.lookup x = some .local := by rfl) (hd : (x == ("__debug__" : Str)) = false := by decide) (hcd : (x == ("__classdict__" : Str)) = false := by decide) :
    PE (X.comp N scope cl C s2 H2 fp) (.Name x pos) (tVar i) := pe_var hN (.inl (relabel_keep (by decide) hv)) hd hcd
theorem glc (h : scope.names.lookup x = some .globalImplicit) : Gl (X.comp N scope cl C s2 H2 fp) x := relabel_keep (by decide) h
theorem pg_nameL {i : Nat} (hN : N.Nodup) (hi : N[i]? = some x) (hx : scope.names.lookup x = some .local) : PG (X.comp N scope cl C s2 H2 fp) (.Name x pos) (gName i) :=
  pg_name hN hi (.inl (relabel_keep (by decide) hx)) (.inr (relabel_keep (by decide) hx))
end

section
variable {X : Cx} {x : Str} {i : Int} {z : Str} {pos : Pos}
theorem pe_gI (hg : Gl X x) (h : ∃ t, X.mg x = some (.int i t)) (hd : (x == ("__debug__" : Str)) = false := by decide) : PE X (.Name x pos) (tC (.int i)) := by
  obtain ⟨t, h⟩ := h
  exact pe_glob hg h ⟨t, rfl⟩ hd
theorem pe_gS (hg : Gl X x) (h : ∃ t, X.mg x = some (.str z t)) (hd : (x == ("__debug__" : Str)) = false := by decide) : PE X (.Name x pos) (tC (.str z)) := by
  obtain ⟨t, h⟩ := h
  exact pe_glob hg h ⟨t, rfl⟩ hd
theorem pe_gT {n : String} (hg : Gl X x) (hm : X.mg x = none) (hv : bootBuiltins x = some (.type n)) (hn : x ≠ "__name__" := by decide) (hd : (x == ("__debug__" : Str)) = false := by decide) : PE X (.Name x pos) (tC (.ty n)) :=
  pe_bltn hg hm hv rfl hn hd
end
theorem tyL {K : PySem.W.Frag} {H : Hp} {p : Addr} {xs : List V} (h : H p = some (.lst xs)) : tyV K "list" (.ref p) H := .inl ⟨rfl, xs, SqL.of h⟩
theorem same_upd {H : Hp} {p : Addr} {o : HO} (h : H p = none) : Same H (upd H p o) := fun b u e => by rw [upd_ne (ne_of_none e h)]; exact e
theorem same_upd2 {H H1 : Hp} {p : Addr} {o : HO} (h : H p = none) (s : Same H H1) : Same H (upd H1 p o) := fun b u e => by rw [upd_ne (ne_of_none e h)]; exact s b u e
theorem Same.tup {K : PySem.W.Frag} {H H' : Hp} {a : Addr} {xs : List V} (e : Same H H') (h : SqT K H a xs) : SqT K H' a xs := by
  rcases h with (h | ⟨o, h⟩) | h
  · exact .inl (.inl (e _ _ h))
  · exact .inl (.inr ⟨o, e _ _ h⟩)
  · exact .inr h
theorem atI_some {α : Type} {xs : List α} {i : Int} (h0 : 0 ≤ i) (h : i < xs.length) : ∃ v, atI xs i = some v ∧ xs[i.toNat]? = some v := by
  have hl : i.toNat < xs.length := by omega
  refine ⟨xs[i.toNat], ?_, by simp [hl]⟩
  have := atI_nat (xs := xs) (j := i.toNat) (v := xs[i.toNat]) (by simp [hl])
  rwa [Int.toNat_of_nonneg h0] at this
theorem getD_mem {ns : List Int} {i : Nat} (h : i < ns.length) : ns.getD i 0 ∈ ns := by
  rw [List.getD_eq_getElem?_getD, List.getElem?_eq_getElem h]
  exact List.getElem_mem h
theorem tyS {K : PySem.W.Frag} {H : Hp} {z : Str} : tyV K "str" (.str z) H := rfl
theorem kit_same {K : PySem.W.Frag} {T : String} : PySem.W.kitOne K (.type T) (.type T) = some true := by
  unfold PySem.W.kitOne
  rw [if_pos (by simp)]
noncomputable def ForJ (J : It) (g : TG) (tb : TS) (D : Ends) (σ : St) (H : Hp) : Prop := ∃ W : Nat → Nat → St → Hp → Prop, (∃ m, W 0 m σ H) ∧ ∀ i m σ H, W i m σ H →
  (J.stop i H ∧ D.nx σ H) ∨ (J.go i H ∧ ∃ N : St → Hp → Prop, (∀ σ' H', N σ' H' → ∃ m', m' < m ∧ W (i + 1) m' σ' H') ∧ ∀ x H', J.yld i H x H' → g x σ H' fun σ2 H2 => tb { D with nx := N, ct := N, bk := D.nx } σ2 H2)
section
variable {D : Ends} {σ : St} {H : Hp} {Q : VK} {QB : Bool → Hp → Prop} {QA : List V → Hp → Prop} {QS : St → Hp → Prop} {R : It → Hp → Prop} {t u : TS} {ta tb tc te : TE} {c c2 : TT} {tA : TA} {g : TG} {gs : TGs} {wi : TI} {r r' : R2} {i n : Nat} {v x y : V} {xs : List V} {sp : Sp} {dvs : List V} {E : XK} {K : PySem.W.Frag}
end
end L2

namespace L2
open PySem PySem.Spec PyProof.Rows
section
variable {X : Cx} {e es : Expr} {te : TE} {lo hi : Option Expr} {tl th ts : TO} {pos p2 : Pos}
end
section
variable {σ : St} {H : Hp} {Q : VK} {te : TE} {tl th ts : TO} {K : PySem.W.Frag} {x y : V}
end
theorem ixN_in {n : Nat} {i : Int} (h0 : 0 ≤ i) (h : i < n) : ixN n i = some i.toNat := by
  unfold ixN
  rw [if_pos h0, if_pos h]
noncomputable def SameBut (p : Addr) (H H' : Hp) : Prop := ∀ b o, H b = some o → b ≠ p → H' b = some o
theorem SameBut.refl (p : Addr) (H : Hp) : SameBut p H H := fun _ _ e _ => e
theorem SameBut.upd {H H1 : Hp} {p : Addr} {o : HO} (s : SameBut p H H1) : SameBut p H (upd H1 p o) := fun b u e n => by rw [upd_ne n]; exact s b u e n
theorem SameBut.new {H H1 : Hp} {p q : Addr} {o : HO} (s : SameBut p H H1) (h : H q = none) : SameBut p H (L2.upd H1 q o) := fun b u e n => by rw [upd_ne (ne_of_none e h)]; exact s b u e n
theorem SameBut.trans {p : Addr} {H H1 H2 : Hp} (a : SameBut p H H1) (b : SameBut p H1 H2) : SameBut p H H2 := fun c o e n => b c o (a c o e n) n
theorem SameBut.tup {K : PySem.W.Frag} {H H' : Hp} {p a : Addr} {xs ys : List V} (e : SameBut p H H') (hp : H p = some (.lst ys)) (h : SqT K H a xs) : SqT K H' a xs := by
  rcases h with (h | ⟨o, h⟩) | h
  · exact .inl (.inl (e _ _ h (ne_of h hp (by intro z; cases z))))
  · exact .inl (.inr ⟨o, e _ _ h (ne_of h hp (by intro z; cases z))⟩)
  · exact .inr h
end L2
namespace L2
open PySem PySem.Spec PyProof.Rows
section
variable {X : Cx} {N : List Str} {scope : Scope} {cl : List (Str × Addr)} {C : Addr} {s2 : Shared} {H2 : Hp} {fp : List Addr}
theorem pg_tupC {es : List Expr} {k : Nat} {t : TGs} {n : Nat} {pos : Pos} (hc : X.calm = true) (h : PGs (X.comp N scope cl C s2 H2 fp) es t)
    (hn : (assignEach es (X.comp N scope cl C s2 H2 fp).env).length = n := by rfl) (hst : (assignEach es (X.comp N scope cl C s2 H2 fp).env).findIdx? (·.1) = none := by rfl) : PG (X.comp N scope cl C s2 H2 fp) (.Tuple es k pos) (gTup X.K n t) := pg_tup hc h hn hst
end
end L2
namespace L2
open PySem PySem.Spec PyProof.Rows
end L2

namespace L2
open PySem PySem.Spec PyProof.Rows
inductive EqR (K : PySem.W.Frag) (H : Hp) : Nat → V → V → Bool → Prop
  | flat {n : Nat} {x y : V} : flatV x = true → flatV y = true → EqR K H n x y (eqV x y)
  | tup {n : Nat} {a b : Addr} {xs ys : List V} (e : Nat → Bool) {r : Bool} : SqT K H a xs → SqT K H b ys → (∀ (j : Nat) x y, xs[j]? = some x → ys[j]? = some y → EqR K H n x y (e j)) →
      r = ((List.range (min xs.length ys.length)).all e && xs.length == ys.length) → (a = b → r = true) → EqR K H (n + 1) (.ref a) (.ref b) r
  | lst {n : Nat} {a b : Addr} {xs ys : List V} (e : Nat → Bool) {r : Bool} : SqL K H a xs → SqL K H b ys → xs.length = ys.length → (∀ (j : Nat) x y, xs[j]? = some x → ys[j]? = some y → EqR K H n x y (e j)) →
      r = (List.range xs.length).all e → (a = b → r = true) → EqR K H (n + 1) (.ref a) (.ref b) r
  | lens {n : Nat} {a b : Addr} {xs ys : List V} : SqL K H a xs → SqL K H b ys → xs.length ≠ ys.length → EqR K H (n + 1) (.ref a) (.ref b) false
section
variable {X : Cx} {pins : List (Addr × Obj)} {σ : St} {H : Hp} {s : Shared}
theorem vals_at {xs : List V} {its : List Value} (r : Vals xs its) {j : Nat} (h : j < its.toArray.size) : ∃ x, xs[j]? = some x ∧ RelV x its.toArray[j] := by
  have hl : j < its.length := by simpa using h
  have hx : j < xs.length := by rw [r.length]; exact hl
  obtain ⟨u, hu, ru⟩ := r.get (i := j) (x := xs[j]) (by simp [hx])
  refine ⟨xs[j], by simp [hx], ?_⟩
  have : its.toArray[j] = u := by
    rw [List.getElem?_eq_getElem hl] at hu
    simpa using hu
  rw [this]; exact ru
end
section
variable {X : Cx} {k : Nat}
theorem room32 {A : Around} (hr : Room k A) : A.units + 32 < cLine := Nat.lt_of_le_of_lt (Nat.add_le_add_left (by decide : 32 ≤ 64) _) hr.units
end
end L2

namespace L2
open PySem PySem.Spec PyProof.Rows

section
variable {κ : Type} [DecidableEq κ]
noncomputable def valV (kvs : List (κ × V)) (k : κ) : Option V := (kvs.find? fun kv => decide (kv.1 = k)).map (·.2)
noncomputable def putK (kvs : List (κ × V)) (k : κ) (v : V) : List (κ × V) :=
  if (kvs.any fun kv => decide (kv.1 = k)) = true then kvs.map (fun kv => if kv.1 = k then (kv.1, v) else kv) else kvs ++ [(k, v)]
noncomputable def dropK (kvs : List (κ × V)) (k : κ) : List (κ × V) := kvs.filter fun kv => decide (kv.1 ≠ k)

theorem valV_pos {p : κ × V} {r : List (κ × V)} {k : κ} (e : p.1 = k) : valV (p :: r) k = some p.2 := by simp [valV, List.find?_cons, e]
theorem valV_neg {p : κ × V} {r : List (κ × V)} {k : κ} (e : ¬ p.1 = k) : valV (p :: r) k = valV r k := by simp [valV, List.find?_cons, e]
theorem RelO.getD {o : Option V} {u : Option Value} {d : V} {d' : Value} (r : RelO o u) (rd : RelV d d') : RelV (o.getD d) (u.getD d') := by
  cases o with
  | none => cases u with
    | none => exact rd
    | some _ => exact (show False from r).elim
  | some _ => cases u with
    | none => exact (show False from r).elim
    | some _ => exact r

theorem KV.val {kvs : List (κ × V)} {vs : List (κ × Value)} (r : KV kvs vs) (k : κ) : RelO (valV kvs k) (valueAt vs k) := by
  unfold KV at r
  induction r with
  | nil => exact True.intro
  | @cons p q ps qs h t ih =>
    obtain ⟨h1, h2⟩ := h
    by_cases e : p.1 = k
    · have e' : q.1 = k := h1.symm.trans e
      have b : valueAt (q :: qs) k = some q.2 := by simp [valueAt, List.find?_cons, e']
      rw [valV_pos e, b]; exact h2
    · have e' : ¬ q.1 = k := fun z => e (h1.trans z)
      have b : valueAt (q :: qs) k = valueAt qs k := by simp [valueAt, List.find?_cons, e']
      rw [valV_neg e, b]; exact ih
theorem KV.any {kvs : List (κ × V)} {vs : List (κ × Value)} (r : KV kvs vs) (k : κ) : (kvs.any fun kv => decide (kv.1 = k)) = vs.any fun kv => decide (kv.1 = k) := by
  unfold KV at r
  induction r with
  | nil => rfl
  | cons h t ih => rw [List.any_cons, List.any_cons, ih, h.1]
theorem KV.drop {kvs : List (κ × V)} {vs : List (κ × Value)} (r : KV kvs vs) (k : κ) : KV (dropK kvs k) (without vs k) := by
  unfold KV at r ⊢
  unfold dropK without
  induction r with
  | nil => exact .nil
  | @cons p q ps qs h t ih =>
    obtain ⟨h1, h2⟩ := h
    rw [List.filter_cons, List.filter_cons]
    by_cases e : p.1 = k
    · have a : ¬ decide (p.1 ≠ k) = true := by simp [e]
      have b : ¬ decide (q.1 ≠ k) = true := by simp [h1.symm.trans e]
      rw [if_neg a, if_neg b]; exact ih
    · have e' : ¬ q.1 = k := fun z => e (h1.trans z)
      have a : decide (p.1 ≠ k) = true := by simp [e]
      have b : decide (q.1 ≠ k) = true := by simp [e']
      rw [if_pos a, if_pos b]; exact .cons ⟨h1, h2⟩ ih
theorem KV.keys {kvs : List (κ × V)} {vs : List (κ × Value)} (r : KV kvs vs) : kvs.map (·.1) = vs.map (·.1) := by
  unfold KV at r
  induction r with
  | nil => rfl
  | cons h t ih => rw [List.map_cons, List.map_cons, ih, h.1]
theorem KV.length {kvs : List (κ × V)} {vs : List (κ × Value)} (r : KV kvs vs) : kvs.length = vs.length := Paired.length r
end


noncomputable abbrev KT (H : Hp) : List (List Key × V) → List (List Key × Addr × Value) → Prop := Paired fun p q => p.1 = q.1 ∧ H q.2.1 = some (.tup (p.1.map kV)) ∧ RelV p.2 q.2.2
theorem KT.val {H : Hp} {kvs : List (List Key × V)} {xs : List (List Key × Addr × Value)} (r : KT H kvs xs) (k : List Key) : RelO (valV kvs k) ((atKey xs k).map (·.2)) := by
  induction r with
  | nil => exact True.intro
  | @cons p q ps qs h t ih =>
    obtain ⟨h1, _, h2⟩ := h
    by_cases e : p.1 = k
    · have e' : q.1 = k := h1.symm.trans e
      have b : atKey (q :: qs) k = some q.2 := by simp [atKey, List.find?_cons, e']
      rw [valV_pos e, b]; exact h2
    · have e' : ¬ q.1 = k := fun z => e (h1.trans z)
      have b : atKey (q :: qs) k = atKey qs k := by simp [atKey, List.find?_cons, e']
      rw [valV_neg e, b]; exact ih
theorem KT.keeps {H H' : Hp} {kvs : List (List Key × V)} {xs : List (List Key × Addr × Value)} (r : KT H kvs xs) (ht : ∀ b ys, H b = some (.tup ys) → H' b = some (.tup ys)) : KT H' kvs xs :=
  Paired.mapP r fun _ _ z => ⟨z.1, ht _ _ z.2.1, z.2.2⟩

section
variable {P : Program} {w : World} {H : Hp} {h : Heap} {a : Addr}
end

noncomputable def DGet (H : Hp) (a : Addr) (y : V) (r : Option V) : Prop :=
  (∃ kvs k, Rd H a (.dK kvs) ∧ y = kV k ∧ r = valV kvs k) ∨ ∃ kvs k b, Rd H a (.dT kvs) ∧ y = .ref b ∧ H b = some (.tup (k.map kV)) ∧ r = valV kvs k
noncomputable def DPut (H : Hp) (a : Addr) (y v : V) (H' : Hp) : Prop :=
  (∃ kvs k, H a = some (.dK kvs) ∧ y = kV k ∧ kvs.length < sizeLine ∧ H' = upd H a (.dK (putK kvs k v))) ∨
  ∃ kvs k b, H a = some (.dT kvs) ∧ y = .ref b ∧ H b = some (.tup (k.map kV)) ∧ kvs.length < sizeLine ∧ H' = upd H a (.dT (putK kvs k v))
theorem DGet.k {H : Hp} {a : Addr} {kvs : List (Key × V)} {k : Key} (e : H a = some (.dK kvs)) : DGet H a (kV k) (valV kvs k) := .inl ⟨kvs, k, .inl e, rfl, rfl⟩
theorem DGet.t {H : Hp} {a b : Addr} {kvs : List (List Key × V)} {k : List Key} (e : H a = some (.dT kvs)) (eb : H b = some (.tup (k.map kV))) : DGet H a (.ref b) (valV kvs k) := .inr ⟨kvs, k, b, .inl e, rfl, eb, rfl⟩
theorem DPut.k {H : Hp} {a : Addr} {kvs : List (Key × V)} {k : Key} {v : V} (e : H a = some (.dK kvs)) (hl : kvs.length < sizeLine) : DPut H a (kV k) v (upd H a (.dK (putK kvs k v))) := .inl ⟨kvs, k, e, rfl, hl, rfl⟩
theorem DPut.t {H : Hp} {a b : Addr} {kvs : List (List Key × V)} {k : List Key} {v : V} (e : H a = some (.dT kvs)) (eb : H b = some (.tup (k.map kV))) (hl : kvs.length < sizeLine) :
    DPut H a (.ref b) v (upd H a (.dT (putK kvs k v))) := .inr ⟨kvs, k, b, e, rfl, eb, hl, rfl⟩


section
variable {X : Cx} {pins : List (Addr × Obj)} {σ : St} {H : Hp} {s : Shared} {a : Addr} {y v : V} {u r : Value} {o : Option V} {A : Around} {E : Value → Shared → Prop}

theorem Inv.big (I : Inv X pins σ H s) : sysModules < s.heap.objs.size := by
  have h : mainGlobals < s.heap.objs.size := (I.mod.glob.keeps I.bk).lt
  exact Nat.lt_trans (by decide) h

end

section
variable {X : Cx} {pins : List (Addr × Obj)} {σ : St} {H : Hp} {s : Shared} {a : Addr} {kvs : List (Key × V)} {k : Key} {u : Value} {A : Around} {E : Value → Shared → Prop}
end


section
variable {X : Cx} {o i e value : Expr} {pos pos' tpos : Pos} {td ty tv : TE}
end


section
variable {X : Cx} {pos : Pos}
end

noncomputable def tPairs : List (TE × TE) → St → Hp → (List (V × V) → Hp → Prop) → Prop
  | [], _, H, Q => Q [] H
  | (tk, tv) :: r, σ, H, Q => tk σ H fun x H1 => tv σ H1 fun y H2 => tPairs r σ H2 fun ps H3 => Q ((x, y) :: ps) H3
noncomputable abbrev VV : List (V × V) → List (Value × Value) → Prop := Paired fun p q => RelV p.1 q.1 ∧ RelV p.2 q.2
noncomputable def PPs (X : Cx) (pos : Pos) (keys : List (Option Expr)) (values : List Expr) (trs : List (TE × TE)) : Prop :=
  ∀ (pins : List (Addr × Obj)) (s : Shared) (σ : St) (H : Hp) (Q : List (V × V) → Hp → Prop), Inv X pins σ H s → tPairs trs σ H Q →
    wpAny (model X.prog X.w) X.A (evalPairs (pairTrees keys values X.env pos)) (fun vs s' => ∃ ps H', Inv X pins σ H' s' ∧ VV ps vs ∧ Q ps H') X.xe s
structure M1 (X : Cx) (o : Expr) (m : Str) (apos : Pos) (e : Expr) (cpos : Pos) : Prop where
  base : attributeBase o m X.env (eval o X.env) = eval o X.env
  few : ((backTo cpos (starEach [e] X.env)).all (fun x => !x.1) && (backToKw cpos (keywordEach [] X.env)).all (fun x => x.1.isSome)
    && decide (([e] : List Expr).length + ([] : List Keyword).length + (if ([] : List Keyword).isEmpty then 0 else 1) < 30)) = true
  line : (apos.endLine == cpos.line) = true
  trees : backTo cpos (starEach [e] X.env) = [(false, eval e X.env)]
structure M2 (X : Cx) (o : Expr) (m : Str) (apos : Pos) (e f : Expr) (cpos : Pos) : Prop where
  base : attributeBase o m X.env (eval o X.env) = eval o X.env
  few : ((backTo cpos (starEach [e, f] X.env)).all (fun x => !x.1) && (backToKw cpos (keywordEach [] X.env)).all (fun x => x.1.isSome)
    && decide (([e, f] : List Expr).length + ([] : List Keyword).length + (if ([] : List Keyword).isEmpty then 0 else 1) < 30)) = true
  line : (apos.endLine == cpos.line) = true
  trees : backTo cpos (starEach [e, f] X.env) = [(false, eval e X.env), (false, eval f X.env)]

noncomputable def IsD (H : Hp) (a : Addr) : Prop := (∃ kvs, Rd H a (.dK kvs)) ∨ ∃ kvs, Rd H a (.dT kvs)
section
variable {X : Cx} {pins : List (Addr × Obj)} {σ : St} {H : Hp} {s : Shared} {a : Addr} {y d : V} {u r : Value} {o : Option V} {A : Around} {E : Value → Shared → Prop}
end

section
variable {X : Cx} {o e f : Expr} {apos cpos : Pos} {td ty tx : TE}
end

section
variable {X : Cx} {pins : List (Addr × Obj)} {σ : St} {H : Hp} {s : Shared} {a : Addr} {kvs : List (Key × V)} {A : Around} {E : Value → Shared → Prop}
end


section
variable {X : Cx} {pins : List (Addr × Obj)} {σ : St} {H : Hp} {s : Shared} {a : Addr} {y : V} {u : Value} {A : Around} {E : Value → Shared → Prop}
end
end L2

namespace L2.MP
open PySem PySem.Spec PyProof.Rows

inductive PV where
  | non | bl (b : Bool) | int (i : Int) | str (x : Str) | ty (n : String)
  | tup (l : List PV) | lst (l : List PV) | dk (l : List (Key × PV)) | dt (l : List (List Key × PV))
  | exc (c : Str) (fs : List (Str × PV))
noncomputable instance : Inhabited PV := ⟨.non⟩
noncomputable def PV.flat : PV → Bool
  | .non | .bl _ | .int _ | .str _ | .ty _ => true
  | _ => false
noncomputable def stillN : Nat → PV → Bool
  | 0, p => p.flat
  | n + 1, .tup l => l.all (stillN n)
  | _ + 1, p => p.flat
noncomputable def PV.still (p : PV) : Bool := stillN 5 p
inductive Res (α : Type) where
  | ok (a : α) | ex (z : PV)
noncomputable def bnd {α β : Type} (x : Option (Res α)) (k : α → Option (Res β)) : Option (Res β) := match x with
  | some (.ok a) => k a
  | some (.ex z) => some (.ex z)
  | none => none
noncomputable def XO (e C : Addr) (d : Option Addr) : HO := .ext fun h => ∃ vs : Array Value, h.get? e = some { cls := .ref C, dict := d, data := .fields vs }
structure XNm (K : PySem.W.Frag) (C : Addr) (c : Str) : Prop where
  ns : PySem.W.nsIn K mainGlobals c = some (some (.ref C))
  cl : ∃ cd, PySem.W.clsIn K C = some cd ∧ cd.name = c

inductive Rep (K : PySem.W.Frag) (F : Hp) : V → PV → Prop
  | non : Rep K F .non .non
  | bl {b : Bool} : Rep K F (.bl b) (.bl b)
  | int {i : Int} : Rep K F (.int i) (.int i)
  | str {x : Str} : Rep K F (.str x) (.str x)
  | ty {n : String} : Rep K F (.ty n) (.ty n)
  | tup {a : Addr} {xs : List V} {l : List PV} (h : F a = some (.tup xs)) (hl : xs.length = l.length) (hr : ∀ (j : Nat) x p, xs[j]? = some x → l[j]? = some p → Rep K F x p) : Rep K F (.ref a) (.tup l)
  | lst {a : Addr} {xs : List V} {l : List PV} (h : SqL K F a xs) (hl : xs.length = l.length) (hr : ∀ (j : Nat) x p, xs[j]? = some x → l[j]? = some p → Rep K F x p) : Rep K F (.ref a) (.lst l)
  | dk {a : Addr} {xs : List (Key × V)} {l : List (Key × PV)} (h : Rd F a (.dK xs)) (hl : xs.map (·.1) = l.map (·.1)) (hr : ∀ (j : Nat) x p, xs[j]? = some x → l[j]? = some p → Rep K F x.2 p.2) : Rep K F (.ref a) (.dk l)
  | dt {a : Addr} {xs : List (List Key × V)} {l : List (List Key × PV)} (h : Rd F a (.dT xs)) (hl : xs.map (·.1) = l.map (·.1)) (hr : ∀ (j : Nat) x p, xs[j]? = some x → l[j]? = some p → Rep K F x.2 p.2) : Rep K F (.ref a) (.dt l)
  | exc {a C dx : Addr} {c : Str} {xs : List (Str × V)} {l : List (Str × PV)} (nm : XNm K C c) (h : F a = some (XO a C (some dx))) (hd : F dx = some (.xd xs)) (hl : xs.map (·.1) = l.map (·.1)) (hr : ∀ (j : Nat) x p, xs[j]? = some x → l[j]? = some p → Rep K F x.2 p.2) : Rep K F (.ref a) (.exc c l)
  | exc0 {a C : Addr} {c : Str} (nm : XNm K C c) (h : F a = some (XO a C none)) : Rep K F (.ref a) (.exc c [])
noncomputable def Reps (K : PySem.W.Frag) (F : Hp) (xs : List V) (l : List PV) : Prop := xs.length = l.length ∧ ∀ (j : Nat) x p, xs[j]? = some x → l[j]? = some p → Rep K F x p

section
variable {K : PySem.W.Frag} {F F' H H' : Hp} {v : V} {p : PV} {xs ys : List V} {l m : List PV}
theorem _root_.L2.Rd.same {F F' : Hp} {a : Addr} {u : HO} (h : Rd F a u) (s : Same F F') : Rd F' a u := h.imp (s _ _) fun ⟨o, e⟩ => ⟨o, s _ _ e⟩
theorem Rep.up (h : Rep K F v p) (s : Same F F') : Rep K F' v p := by
  induction h with
  | non => exact .non
  | bl => exact .bl
  | int => exact .int
  | str => exact .str
  | ty => exact .ty
  | tup h hl _ ih => exact .tup (s _ _ h) hl ih
  | lst h hl _ ih => exact .lst (s.seq h) hl ih
  | dk h hl _ ih => exact .dk (h.same s) hl ih
  | dt h hl _ ih => exact .dt (h.same s) hl ih
  | exc nm h hd hl _ ih => exact .exc nm (s _ _ h) (s _ _ hd) hl ih
  | exc0 nm h => exact .exc0 nm (s _ _ h)
theorem Reps.up (h : Reps K F xs l) (s : Same F F') : Reps K F' xs l := ⟨h.1, fun j x p a b => (h.2 j x p a b).up s⟩
theorem Rep.free (h : Rep K F v p) (hf : p.flat = true) : Rep K F' v p := by
  cases h with
  | non => exact .non
  | bl => exact .bl
  | int => exact .int
  | str => exact .str
  | ty => exact .ty
  | tup => cases hf
  | lst => cases hf
  | dk => cases hf
  | dt => cases hf
  | exc => cases hf
  | exc0 => cases hf
theorem Reps.nil : Reps K F [] [] := ⟨rfl, fun j x p h => by simp at h⟩
theorem Reps.cons (h : Rep K F v p) (t : Reps K F xs l) : Reps K F (v :: xs) (p :: l) := by
  refine ⟨by simp [t.1], fun j x q a b => ?_⟩
  cases j with
  | zero => simp at a b; subst a b; exact h
  | succ j => exact t.2 j x q (by simpa using a) (by simpa using b)
theorem Reps.append (h : Reps K F xs l) (t : Reps K F ys m) : Reps K F (xs ++ ys) (l ++ m) := by
  refine ⟨by rw [List.length_append, List.length_append, h.1, t.1], fun j x p a b => ?_⟩
  by_cases hj : j < xs.length
  · rw [List.getElem?_append_left hj] at a
    rw [List.getElem?_append_left (by rw [← h.1]; exact hj)] at b
    exact h.2 j x p a b
  · rw [List.getElem?_append_right (by omega)] at a
    rw [List.getElem?_append_right (by rw [← h.1]; omega), ← h.1] at b
    exact t.2 _ x p a b
theorem Reps.snoc (h : Reps K F xs l) (t : Rep K F v p) : Reps K F (xs ++ [v]) (l ++ [p]) := h.append (Reps.nil.cons t)
theorem Reps.get (h : Reps K F xs l) {j : Nat} (e : l[j]? = some p) : ∃ x, xs[j]? = some x ∧ Rep K F x p := by
  have hj : j < xs.length := by rw [h.1]; exact (List.getElem?_eq_some_iff.mp e).1
  exact ⟨xs[j], by simp [hj], h.2 j _ p (by simp [hj]) e⟩
theorem Reps.got (h : Reps K F xs l) {j : Nat} (e : xs[j]? = some v) : ∃ p, l[j]? = some p ∧ Rep K F v p := by
  have hj : j < l.length := by rw [← h.1]; exact (List.getElem?_eq_some_iff.mp e).1
  exact ⟨l[j], by simp [hj], h.2 j v _ e (by simp [hj])⟩
theorem Reps.take (h : Reps K F xs l) (n : Nat) : Reps K F (xs.take n) (l.take n) := by
  refine ⟨by simp [h.1], fun j x p a b => ?_⟩
  rw [List.getElem?_take] at a b
  split at a
  · rename_i hj
    rw [if_pos hj] at b
    exact h.2 j x p a b
  · cases a
theorem Reps.drop (h : Reps K F xs l) (n : Nat) : Reps K F (xs.drop n) (l.drop n) := by
  refine ⟨by simp [h.1], fun j x p a b => ?_⟩
  rw [List.getElem?_drop] at a b
  exact h.2 _ x p a b
theorem Reps.set (h : Reps K F xs l) (t : Rep K F v p) (i : Nat) : Reps K F (xs.set i v) (l.set i p) := by
  refine ⟨by simp [h.1], fun j x q a b => ?_⟩
  rw [List.getElem?_set] at a b
  by_cases hj : i = j
  · subst hj
    rw [if_pos rfl] at a b
    split at a
    · rename_i hl
      rw [if_pos (by rw [← h.1]; exact hl)] at b
      cases a; cases b; exact t
    · cases a
  · rw [if_neg hj] at a b
    exact h.2 j x q a b
theorem Reps.inv_cons (h : Reps K F xs (p :: l)) : ∃ v ys, xs = v :: ys ∧ Rep K F v p ∧ Reps K F ys l := by
  obtain ⟨hl, hr⟩ := h
  match xs, hl, hr with
  | [], hl, _ => simp at hl
  | v :: ys, hl, hr => exact ⟨v, ys, rfl, hr 0 v p rfl rfl, by simpa using hl, fun j x q a b => hr (j + 1) x q (by simpa using a) (by simpa using b)⟩
theorem Reps.inv_nil (h : Reps K F xs []) : xs = [] := by
  have := h.1
  simpa using this
theorem Reps.of_ints : ∀ (ns : List Int), Reps K F (ns.map V.int) (ns.map PV.int)
  | [] => .nil
  | n :: ns => (Reps.of_ints ns).cons .int
theorem Rep.inv_int {i : Int} (h : Rep K F v (.int i)) : v = .int i := by cases h; rfl
theorem Rep.inv_bl {b : Bool} (h : Rep K F v (.bl b)) : v = .bl b := by cases h; rfl
theorem Rep.inv_str {z : Str} (h : Rep K F v (.str z)) : v = .str z := by cases h; rfl
theorem Rep.inv_non (h : Rep K F v .non) : v = .non := by cases h; rfl
theorem Rep.inv_ty {n : String} (h : Rep K F v (.ty n)) : v = .ty n := by cases h; rfl
theorem Rep.inv_tup (h : Rep K F v (.tup l)) : ∃ a xs, v = .ref a ∧ SqT K F a xs ∧ Reps K F xs l := by cases h with | tup h hl hr => exact ⟨_, _, rfl, SqT.of h, hl, hr⟩
theorem Rep.inv_lst (h : Rep K F v (.lst l)) : ∃ a xs, v = .ref a ∧ SqL K F a xs ∧ Reps K F xs l := by cases h with | lst h hl hr => exact ⟨_, _, rfl, h, hl, hr⟩
end

structure Cf where
  io : Addr → Prop
  nw : Prop
  H0 : Hp
  F0 : Hp
  E : XK
inductive Sl where
  | sh (p : PV) | ow (p : PV) | dp (p : PV)
noncomputable abbrev Rho := List (Option Sl)

noncomputable def Own (K : PySem.W.Frag) (F H : Hp) (a : Addr) : PV → Prop
  | .lst l => ∃ xs, H a = some (.lst xs) ∧ Reps K F xs l
  | .dk l => ∃ xs, H a = some (.dK xs) ∧ xs.map (·.1) = l.map (·.1) ∧ ∀ (j : Nat) x p, xs[j]? = some x → l[j]? = some p → Rep K F x.2 p.2
  | .dt l => ∃ xs, H a = some (.dT xs) ∧ xs.map (·.1) = l.map (·.1) ∧ ∀ (j : Nat) x p, xs[j]? = some x → l[j]? = some p → Rep K F x.2 p.2
  | _ => False
inductive Dp (K : PySem.W.Frag) (F H : Hp) : (Addr → Prop) → V → PV → Prop
  | fr {P : Addr → Prop} {v : V} {p : PV} (h : Rep K F v p) (st : p.still = true) : Dp K F H P v p
  | lst {P : Addr → Prop} {S : Nat → Addr → Prop} {a : Addr} {xs : List V} {l : List PV} (h : H a = some (.lst xs)) (hp : P a) (hs : ∀ j b, S j b → P b ∧ b ≠ a) (dj : ∀ i j b, S i b → S j b → i = j) (hl : xs.length = l.length)
      (hr : ∀ (j : Nat) x p, xs[j]? = some x → l[j]? = some p → Dp K F H (S j) x p) : Dp K F H P (.ref a) (.lst l)
  | tup {P : Addr → Prop} {S : Nat → Addr → Prop} {a : Addr} {xs : List V} {l : List PV} (h : H a = some (.tup xs)) (hs : ∀ j b, S j b → P b) (dj : ∀ i j b, S i b → S j b → i = j) (hl : xs.length = l.length)
      (hr : ∀ (j : Nat) x p, xs[j]? = some x → l[j]? = some p → Dp K F H (S j) x p) : Dp K F H P (.ref a) (.tup l)
  | dk {P : Addr → Prop} {S : Nat → Addr → Prop} {a : Addr} {xs : List (Key × V)} {l : List (Key × PV)} (h : H a = some (.dK xs)) (hp : P a) (hs : ∀ j b, S j b → P b ∧ b ≠ a) (dj : ∀ i j b, S i b → S j b → i = j) (hl : xs.map (·.1) = l.map (·.1))
      (hr : ∀ (j : Nat) x p, xs[j]? = some x → l[j]? = some p → Dp K F H (S j) x.2 p.2) : Dp K F H P (.ref a) (.dk l)
  | dt {P : Addr → Prop} {S : Nat → Addr → Prop} {a : Addr} {xs : List (List Key × V)} {l : List (List Key × PV)} (h : H a = some (.dT xs)) (hp : P a) (hs : ∀ j b, S j b → P b ∧ b ≠ a) (dj : ∀ i j b, S i b → S j b → i = j) (hl : xs.map (·.1) = l.map (·.1))
      (hr : ∀ (j : Nat) x p, xs[j]? = some x → l[j]? = some p → Dp K F H (S j) x.2 p.2) : Dp K F H P (.ref a) (.dt l)
section
variable {K : PySem.W.Frag} {F F' H H' : Hp} {v : V} {p : PV} {P P' : Addr → Prop}
theorem Dp.mono (h : Dp K F H P v p) (m : ∀ b, P b → P' b) : Dp K F H P' v p := by
  cases h with
  | fr h st => exact .fr h st
  | lst h hp hs dj hl hr => exact .lst h (m _ hp) (fun j b q => ⟨m _ (hs j b q).1, (hs j b q).2⟩) dj hl hr
  | tup h hs dj hl hr => exact .tup h (fun j b q => m _ (hs j b q)) dj hl hr
  | dk h hp hs dj hl hr => exact .dk h (m _ hp) (fun j b q => ⟨m _ (hs j b q).1, (hs j b q).2⟩) dj hl hr
  | dt h hp hs dj hl hr => exact .dt h (m _ hp) (fun j b q => ⟨m _ (hs j b q).1, (hs j b q).2⟩) dj hl hr
theorem Dp.up (h : Dp K F H P v p) (sf : Same F F') (sh : ∀ b o, P b → H b = some o → H' b = some o) (ht : ∀ b ys, H b = some (.tup ys) → H' b = some (.tup ys)) : Dp K F' H' P v p := by
  induction h with
  | fr h st => exact .fr (h.up sf) st
  | lst h hp hs dj hl _ ih => exact .lst (sh _ _ hp h) hp hs dj hl fun j x p e1 e2 => ih j x p e1 e2 fun b o q => sh b o (hs j b q).1
  | tup h hs dj hl _ ih => exact .tup (ht _ _ h) hs dj hl fun j x p e1 e2 => ih j x p e1 e2 fun b o q => sh b o (hs j b q)
  | dk h hp hs dj hl _ ih => exact .dk (sh _ _ hp h) hp hs dj hl fun j x p e1 e2 => ih j x p e1 e2 fun b o q => sh b o (hs j b q).1
  | dt h hp hs dj hl _ ih => exact .dt (sh _ _ hp h) hp hs dj hl fun j x p e1 e2 => ih j x p e1 e2 fun b o q => sh b o (hs j b q).1
theorem Dp.seen (h : Dp K F H P v p) (sf : Same F F') (sh : ∀ b o, P b → H b = some o → F' b = some o) (ht : ∀ b ys, H b = some (.tup ys) → F' b = some (.tup ys)) : Rep K F' v p := by
  induction h with
  | fr h st => exact h.up sf
  | lst h hp hs dj hl _ ih => exact .lst (SqL.of (sh _ _ hp h)) hl fun j x p e1 e2 => ih j x p e1 e2 fun b o q => sh b o (hs j b q).1
  | tup h hs dj hl _ ih => exact .tup (ht _ _ h) hl fun j x p e1 e2 => ih j x p e1 e2 fun b o q => sh b o (hs j b q)
  | dk h hp hs dj hl _ ih => exact .dk (.inl (sh _ _ hp h)) hl fun j x p e1 e2 => ih j x p e1 e2 fun b o q => sh b o (hs j b q).1
  | dt h hp hs dj hl _ ih => exact .dt (.inl (sh _ _ hp h)) hl fun j x p e1 e2 => ih j x p e1 e2 fun b o q => sh b o (hs j b q).1
theorem Dp.lent (h : Dp K F H P v p) (s : Same F H) : Rep K H v p := h.seen s (fun _ _ _ e => e) fun _ _ e => e
end
structure RD (K : PySem.W.Frag) (C : Cf) (F H : Hp) (σ : St) (ρ : Rho) (P : Nat → Addr → Prop) : Prop where
  own : ∀ i b, P i b → F b = none ∧ (∃ o, H b = some o ∧ ∀ ys, o ≠ .tup ys) ∧ C.nw ∧ C.H0 b = none
  dis : ∀ i j b, P i b → P j b → i = j
  ow : ∀ (i j : Nat) q b, P i b → ρ[j]? = some (some (.ow q)) → σ[j]? ≠ some (some (.ref b))
  dp : ∀ (i : Nat) p, ρ[i]? = some (some (.dp p)) → ∃ v, σ[i]? = some (some v) ∧ Dp K F H (P i) v p
theorem RD.no {K : PySem.W.Frag} {C : Cf} {F H : Hp} {σ : St} {ρ : Rho} (h : ∀ (i : Nat) p, ρ[i]? ≠ some (some (.dp p))) : RD K C F H σ ρ (fun _ _ => False) :=
  ⟨fun _ _ q => q.elim, fun _ _ _ q => q.elim, fun _ _ _ _ q => q.elim, fun i p e => absurd e (h i p)⟩
noncomputable def Frz (H : Hp) (b : Addr) (o : HO) : Prop := H b = none ∨ ∃ ys, o = .tup ys
structure RB (C : Cf) (F H : Hp) : Prop where
  sub : Same F H
  keep : ∀ b o, C.H0 b = some o → ¬ C.io b → H b = some o
  new : ∀ b o, F b = some o → C.F0 b = some o ∨ Frz C.H0 b o
  ios : ∀ b, C.io b → H b ≠ none ∧ C.H0 b ≠ none
structure RE (K : PySem.W.Frag) (C : Cf) (F H : Hp) (σ : St) (ρ : Rho) : Prop where
  rb : RB C F H
  len : σ.length = ρ.length
  sh : ∀ (i : Nat) p, ρ[i]? = some (some (.sh p)) → ∃ v, σ[i]? = some (some v) ∧ Rep K F v p
  ow : ∀ (i : Nat) p, ρ[i]? = some (some (.ow p)) → ∃ a, σ[i]? = some (some (.ref a)) ∧ Own K F H a p ∧ F a = none ∧ (C.io a ∨ (C.nw ∧ C.H0 a = none))
  dis : ∀ (i j : Nat) p q a, ρ[i]? = some (some (.ow p)) → ρ[j]? = some (some (.ow q)) → σ[i]? = some (some (.ref a)) → σ[j]? = some (some (.ref a)) → i = j
  dd : ∃ P, RD K C F H σ ρ P
structure Up (F H F' H' : Hp) : Prop where
  ff : Same F F'
  hh : Same H H'
  fr : ∀ b o, F' b = some o → F b = some o ∨ Frz H b o
  fh : Same F' H'
section
variable {K : PySem.W.Frag} {C : Cf} {F F1 F2 F' H H1 H2 H' : Hp} {σ σ' : St} {ρ ρ' : Rho} {a : Addr} {p : PV} {v : V}
theorem Up.refl (s : Same F H) : Up F H F H := ⟨Same.refl _, Same.refl _, fun _ _ h => .inl h, s⟩
theorem Up.trans (a : Up F H F1 H1) (b : Up F1 H1 F2 H2) : Up F H F2 H2 :=
  ⟨a.ff.trans b.ff, a.hh.trans b.hh, fun c o h => (b.fr c o h).elim (a.fr c o) fun n => .inr (n.imp (fun n => a.hh.free n) id), b.fh⟩
theorem Own.ne (h : Own K F H a p) : ∃ o, H a = some o := by
  cases p with
  | lst l => obtain ⟨xs, e, _⟩ := h; exact ⟨_, e⟩
  | dk l => obtain ⟨xs, e, _⟩ := h; exact ⟨_, e⟩
  | dt l => obtain ⟨xs, e, _⟩ := h; exact ⟨_, e⟩
  | _ => exact h.elim
theorem Own.noTup {ys : List V} (h : Own K F H a p) (e : H a = some (.tup ys)) : False := by
  cases p with
  | lst l => obtain ⟨xs, e', _⟩ := h; rw [e] at e'; cases e'
  | dk l => obtain ⟨xs, e', _⟩ := h; rw [e] at e'; cases e'
  | dt l => obtain ⟨xs, e', _⟩ := h; rw [e] at e'; cases e'
  | _ => exact h.elim
theorem RD.up {P : Nat → Addr → Prop} (d : RD K C F H σ ρ P) (u : Up F H F' H') : RD K C F' H' σ ρ P where
  own := fun i b q => by
    obtain ⟨a1, ⟨o', a2, a3⟩, a4⟩ := d.own i b q
    refine ⟨?_, ⟨o', u.hh _ _ a2, a3⟩, a4⟩
    cases e : F' b with
    | none => rfl
    | some o =>
      rcases u.fr b o e with z | z | ⟨ys, z⟩
      · rw [a1] at z; cases z
      · rw [a2] at z; cases z
      · subst z
        have w := u.fh _ _ e
        rw [u.hh _ _ a2] at w
        cases w
        exact absurd rfl (a3 ys)
  dis := d.dis
  ow := d.ow
  dp := fun i p e => let ⟨v, e1, e2⟩ := d.dp i p e; ⟨v, e1, e2.up u.ff (fun b o _ q => u.hh b o q) fun b ys q => u.hh b _ q⟩
theorem Own.up (h : Own K F H a p) (sf : Same F F') (sh : ∀ o, H a = some o → H' a = some o) : Own K F' H' a p := by
  cases p with
  | lst l => obtain ⟨xs, e, r⟩ := h; exact ⟨xs, sh _ e, r.up sf⟩
  | dk l => obtain ⟨xs, e, r, q⟩ := h; exact ⟨xs, sh _ e, r, fun j x p a b => (q j x p a b).up sf⟩
  | dt l => obtain ⟨xs, e, r, q⟩ := h; exact ⟨xs, sh _ e, r, fun j x p a b => (q j x p a b).up sf⟩
  | _ => exact h.elim
theorem Own.frozen (h : Own K F H a p) (hn : F a = none) : ∃ o, H a = some o ∧ Rep K (upd F a o) (.ref a) p := by
  have s : ∀ o, Same F (upd F a o) := fun o => same_upd hn
  cases p with
  | lst l => obtain ⟨xs, e, r⟩ := h; exact ⟨_, e, .lst (SqL.of upd_same) r.1 (r.up (s _)).2⟩
  | dk l => obtain ⟨xs, e, r, q⟩ := h; exact ⟨_, e, .dk (.inl upd_same) r fun j x p a b => (q j x p a b).up (s _)⟩
  | dt l => obtain ⟨xs, e, r, q⟩ := h; exact ⟨_, e, .dt (.inl upd_same) r fun j x p a b => (q j x p a b).up (s _)⟩
  | _ => exact h.elim
theorem Own.lent (h : Own K F H a p) (s : Same F H) : Rep K H (.ref a) p := by
  cases p with
  | lst l => obtain ⟨xs, e, r⟩ := h; exact .lst (SqL.of e) r.1 (r.up s).2
  | dk l => obtain ⟨xs, e, r, q⟩ := h; exact .dk (.inl e) r fun j x p a b => (q j x p a b).up s
  | dt l => obtain ⟨xs, e, r, q⟩ := h; exact .dt (.inl e) r fun j x p a b => (q j x p a b).up s
  | _ => exact h.elim
theorem RB.up (h : RB C F H) (u : Up F H F' H') : RB C F' H' where
  sub := u.fh
  keep := fun b o e n => u.hh _ _ (h.keep b o e n)
  new := fun b o e => (u.fr b o e).elim (h.new b o) fun n => .inr (n.imp (fun n => by
    cases q : C.H0 b with
    | none => rfl
    | some o' =>
      by_cases hi : C.io b
      · exact absurd n (h.ios b hi).1
      · rw [h.keep b o' q hi] at n; cases n) id)
  ios := fun b hb => ⟨fun n => (h.ios b hb).1 (u.hh.free n), (h.ios b hb).2⟩
theorem RB.free0 (h : RB C F H) {b : Addr} (n : H b = none) : C.H0 b = none := by
  cases q : C.H0 b with
  | none => rfl
  | some o' =>
    by_cases hi : C.io b
    · exact absurd n (h.ios b hi).1
    · rw [h.keep b o' q hi] at n; cases n
theorem RE.up (h : RE K C F H σ ρ) (u : Up F H F' H') : RE K C F' H' σ ρ where
  rb := h.rb.up u
  len := h.len
  sh := fun i p e => let ⟨v, e1, e2⟩ := h.sh i p e; ⟨v, e1, e2.up u.ff⟩
  ow := fun i p e => by
    obtain ⟨a, e1, e2, e3, e4⟩ := h.ow i p e
    refine ⟨a, e1, e2.up u.ff fun o q => u.hh _ _ q, ?_, e4⟩
    cases q : F' a with
    | none => rfl
    | some o =>
      obtain ⟨o', eo⟩ := e2.ne
      rcases u.fr a o q with z | z | ⟨ys, z⟩
      · rw [e3] at z; cases z
      · rw [eo] at z; cases z
      · subst z
        exact absurd (u.fh _ _ q) (fun w => by rw [u.hh _ _ eo] at w; cases w; exact e2.noTup eo)
  dis := h.dis
  dd := let ⟨P, d⟩ := h.dd; ⟨P, d.up u⟩
theorem get_set {α : Type} {l : List α} {i j : Nat} {x y : α} (h : (l.set i x)[j]? = some y) : (i = j ∧ x = y) ∨ (i ≠ j ∧ l[j]? = some y) := by
  rw [List.getElem?_set] at h
  by_cases e : i = j
  · subst e
    rw [if_pos rfl] at h
    split at h
    · exact .inl ⟨rfl, Option.some.inj h⟩
    · cases h
  · rw [if_neg e] at h
    exact .inr ⟨e, h⟩
theorem lt_of_get {α : Type} {l : List α} {j : Nat} {y : α} (h : l[j]? = some y) : j < l.length := (List.getElem?_eq_some_iff.mp h).1
theorem RE.set (h : RE K C F H σ ρ) (i : Nat) (r : Rep K F v p) : RE K C F H (σ.set i (some v)) (ρ.set i (some (.sh p))) where
  rb := h.rb
  len := by simp [h.len]
  sh := fun j q e => by
    rcases get_set e with ⟨e1, e2⟩ | ⟨e1, e2⟩
    · subst e1
      cases e2
      have := lt_of_get e
      exact ⟨v, by rw [List.getElem?_set_self (by rw [h.len]; simpa using this)], r⟩
    · obtain ⟨w, e3, e4⟩ := h.sh j q e2
      exact ⟨w, by rw [List.getElem?_set_ne e1]; exact e3, e4⟩
  ow := fun j q e => by
    rcases get_set e with ⟨e1, e2⟩ | ⟨e1, e2⟩
    · cases e2
    · obtain ⟨w, e3, e4⟩ := h.ow j q e2
      exact ⟨w, by rw [List.getElem?_set_ne e1]; exact e3, e4⟩
  dis := fun j k q q' a e e' f f' => by
    rcases get_set e with ⟨e1, e2⟩ | ⟨e1, e2⟩
    · cases e2
    · rcases get_set e' with ⟨e1', e2'⟩ | ⟨e1', e2'⟩
      · cases e2'
      · rw [List.getElem?_set_ne e1] at f
        rw [List.getElem?_set_ne e1'] at f'
        exact h.dis j k q q' a e2 e2' f f'
  dd := let ⟨P, d⟩ := h.dd; ⟨P, d.own, d.dis, fun j k q b z e f => by
      rcases get_set e with ⟨e1, e2⟩ | ⟨e1, e2⟩
      · cases e2
      · rw [List.getElem?_set_ne e1] at f; exact d.ow j k q b z e2 f, fun j q e => by
      rcases get_set e with ⟨e1, e2⟩ | ⟨e1, e2⟩
      · cases e2
      · obtain ⟨w, e3, e4⟩ := d.dp j q e2
        exact ⟨w, by rw [List.getElem?_set_ne e1]; exact e3, e4⟩⟩
theorem RE.setO (h : RE K C F H σ ρ) (i : Nat) (r : Own K F H a p) (hn : F a = none) (nw : C.nw) (h0 : C.H0 a = none) (ha : ∀ (j : Nat) q, ρ[j]? = some (some (.ow q)) → j ≠ i → σ[j]? ≠ some (some (.ref a))) (hd : ∃ P, RD K C F H σ ρ P ∧ ∀ j, ¬ P j a) :
    RE K C F H (σ.set i (some (.ref a))) (ρ.set i (some (.ow p))) where
  rb := h.rb
  len := by simp [h.len]
  sh := fun j q e => by
    rcases get_set e with ⟨e1, e2⟩ | ⟨e1, e2⟩
    · cases e2
    · obtain ⟨w, e3, e4⟩ := h.sh j q e2
      exact ⟨w, by rw [List.getElem?_set_ne e1]; exact e3, e4⟩
  ow := fun j q e => by
    rcases get_set e with ⟨e1, e2⟩ | ⟨e1, e2⟩
    · subst e1
      cases e2
      have := lt_of_get e
      exact ⟨a, by rw [List.getElem?_set_self (by rw [h.len]; simpa using this)], r, hn, .inr ⟨nw, h0⟩⟩
    · obtain ⟨w, e3, e4⟩ := h.ow j q e2
      exact ⟨w, by rw [List.getElem?_set_ne e1]; exact e3, e4⟩
  dis := fun j k q q' b e e' f f' => by
    rcases get_set e with ⟨e1, e2⟩ | ⟨e1, e2⟩
    · rcases get_set e' with ⟨e1', e2'⟩ | ⟨e1', e2'⟩
      · exact e1.symm.trans e1'
      · subst e1
        have := lt_of_get e
        rw [List.getElem?_set_self (by rw [h.len]; simpa using this)] at f
        cases f
        rw [List.getElem?_set_ne e1'] at f'
        exact absurd f' (ha k q' e2' (Ne.symm e1'))
    · rcases get_set e' with ⟨e1', e2'⟩ | ⟨e1', e2'⟩
      · subst e1'
        have := lt_of_get e'
        rw [List.getElem?_set_self (by rw [h.len]; simpa using this)] at f'
        cases f'
        rw [List.getElem?_set_ne e1] at f
        exact absurd f (ha j q e2 (Ne.symm e1))
      · rw [List.getElem?_set_ne e1] at f
        rw [List.getElem?_set_ne e1'] at f'
        exact h.dis j k q q' b e2 e2' f f'
  dd := let ⟨P, d, na⟩ := hd; ⟨P, d.own, d.dis, fun j k q b z e f => by
      rcases get_set e with ⟨e1, e2⟩ | ⟨e1, e2⟩
      · subst e1
        have := lt_of_get e
        rw [List.getElem?_set_self (by rw [h.len]; simpa using this)] at f
        cases f
        exact na j z
      · rw [List.getElem?_set_ne e1] at f; exact d.ow j k q b z e2 f, fun j q e => by
      rcases get_set e with ⟨e1, e2⟩ | ⟨e1, e2⟩
      · cases e2
      · obtain ⟨w, e3, e4⟩ := d.dp j q e2
        exact ⟨w, by rw [List.getElem?_set_ne e1]; exact e3, e4⟩⟩
theorem RE.apartD (h : RE K C F H σ ρ) (n : H a = none) (u : Up F H F' H') : ∃ P, RD K C F' H' σ ρ P ∧ ∀ j, ¬ P j a := by
  obtain ⟨P, d⟩ := h.dd
  exact ⟨P, d.up u, fun j z => by obtain ⟨_, ⟨o, e, _⟩, _⟩ := d.own j a z; rw [n] at e; cases e⟩
theorem RE.apart (h : RE K C F H σ ρ) (n : H a = none) (j : Nat) (q : PV) (e : ρ[j]? = some (some (.ow q))) : σ[j]? ≠ some (some (.ref a)) := fun f => by
  obtain ⟨b, e1, e2, _⟩ := h.ow j q e
  rw [e1] at f
  cases f
  obtain ⟨o, eo⟩ := e2.ne
  rw [eo] at n; cases n
theorem RE.write (h : RE K C F H σ ρ) {i : Nat} {o : HO} {p' : PV} (e : ρ[i]? = some (some (.ow p))) (ea : σ[i]? = some (some (.ref a))) (r : Own K F (upd H a o) a p') :
    RE K C F (upd H a o) σ (ρ.set i (some (.ow p'))) := by
  obtain ⟨a', e1, e2, e3, e4⟩ := h.ow i p e
  rw [ea] at e1
  cases e1
  have ne : ∀ b u, F b = some u → b ≠ a := fun b u q z => by rw [z, e3] at q; cases q
  refine ⟨⟨fun b u q => by rw [upd_ne (ne b u q)]; exact h.rb.sub b u q, fun b u q n => ?_, h.rb.new, fun b hb => ⟨?_, (h.rb.ios b hb).2⟩⟩, by simp [h.len], fun j q f => ?_, fun j q f => ?_, fun j k q q' b f f' g g' => ?_, ?_⟩
  · have : b ≠ a := fun z => by
      subst z
      rcases e4 with z | z
      · exact n z
      · rw [z.2] at q; cases q
    rw [upd_ne this]; exact h.rb.keep b u q n
  · by_cases hba : b = a
    · subst hba; rw [upd_same]; simp
    · rw [upd_ne hba]; exact (h.rb.ios b hb).1
  · rcases get_set f with ⟨e1, f2⟩ | ⟨e1, f2⟩
    · cases f2
    · exact h.sh j q f2
  · rcases get_set f with ⟨e1, f2⟩ | ⟨e1, f2⟩
    · subst e1
      cases f2
      exact ⟨a, ea, r, e3, e4⟩
    · obtain ⟨b, g1, g2, g3, g4⟩ := h.ow j q f2
      refine ⟨b, g1, g2.up (Same.refl _) fun u qq => ?_, g3, g4⟩
      have : b ≠ a := fun z => by subst z; exact e1 (h.dis i j p q b e f2 ea g1)
      rw [upd_ne this]; exact qq
  · have key : ∀ (j : Nat) q, (ρ.set i (some (Sl.ow p')))[j]? = some (some (.ow q)) → ∃ q0, ρ[j]? = some (some (.ow q0)) := fun j q f => by
      rcases get_set f with ⟨e1, f2⟩ | ⟨e1, f2⟩
      · subst e1; exact ⟨p, e⟩
      · exact ⟨q, f2⟩
    obtain ⟨q0, k0⟩ := key j q f
    obtain ⟨q1, k1⟩ := key k q' f'
    exact h.dis j k q0 q1 b k0 k1 g g'
  · obtain ⟨P, d⟩ := h.dd
    have na : ∀ j b, P j b → b ≠ a := fun j b z e' => by subst e'; exact d.ow j i p b z e ea
    refine ⟨P, fun j b z => ?_, d.dis, fun j k q b z f g => ?_, fun j q f => ?_⟩
    · rw [upd_ne (na j b z)]; exact d.own j b z
    · rcases get_set f with ⟨f1, f2⟩ | ⟨f1, f2⟩
      · subst f1; exact d.ow j i p b z e g
      · exact d.ow j k q b z f2 g
    · rcases get_set f with ⟨f1, f2⟩ | ⟨f1, f2⟩
      · cases f2
      · obtain ⟨w, e3, e5⟩ := d.dp j q f2
        exact ⟨w, e3, e5.up (Same.refl _) (fun b o z q => by rw [upd_ne (na j b z)]; exact q) fun b ys q => by rw [upd_ne fun z => by subst z; exact e2.noTup q]; exact q⟩
theorem RE.frz (h : RE K C F H σ ρ) {i : Nat} (e : ρ[i]? = some (some (.ow p))) (hio : ∀ a, σ[i]? = some (some (.ref a)) → ¬ C.io a) : ∃ F', Same F F' ∧ RE K C F' H σ (ρ.set i (some (.sh p))) := by
  obtain ⟨a, e1, e2, e3, e4⟩ := h.ow i p e
  obtain ⟨o, eo, r⟩ := e2.frozen e3
  have h0 : C.H0 a = none := (e4.resolve_left (hio a e1)).2
  have sf : Same F (upd F a o) := same_upd e3
  have li := lt_of_get e
  refine ⟨upd F a o, sf, ⟨⟨fun b u q => ?_, h.rb.keep, fun b u q => ?_, h.rb.ios⟩, by simp [h.len], fun j q f => ?_, fun j q f => ?_, fun j k q q' b f f' g g' => ?_, ?_⟩⟩
  · by_cases hb : b = a
    · subst hb; rw [upd_same] at q; cases q; exact eo
    · rw [upd_ne hb] at q; exact h.rb.sub b u q
  · by_cases hb : b = a
    · subst hb; exact .inr (.inl h0)
    · rw [upd_ne hb] at q; exact h.rb.new b u q
  · rcases get_set f with ⟨f1, f2⟩ | ⟨f1, f2⟩
    · subst f1; cases f2; exact ⟨_, e1, r⟩
    · obtain ⟨v, g1, g2⟩ := h.sh j q f2
      exact ⟨v, g1, g2.up sf⟩
  · rcases get_set f with ⟨f1, f2⟩ | ⟨f1, f2⟩
    · cases f2
    · obtain ⟨b, g1, g2, g3, g4⟩ := h.ow j q f2
      refine ⟨b, g1, g2.up sf fun _ z => z, ?_, g4⟩
      have : b ≠ a := fun z => by subst z; exact f1 (h.dis i j p q b e f2 e1 g1)
      rw [upd_ne this]; exact g3
  · rcases get_set f with ⟨f1, f2⟩ | ⟨f1, f2⟩
    · cases f2
    · rcases get_set f' with ⟨f1', f2'⟩ | ⟨f1', f2'⟩
      · cases f2'
      · exact h.dis j k q q' b f2 f2' g g'
  · obtain ⟨P, d⟩ := h.dd
    have na : ∀ j b, P j b → b ≠ a := fun j b z e' => by subst e'; exact d.ow j i p b z e e1
    refine ⟨P, fun j b z => ?_, d.dis, fun j k q b z f g => ?_, fun j q f => ?_⟩
    · rw [upd_ne (na j b z)]; exact d.own j b z
    · rcases get_set f with ⟨f1, f2⟩ | ⟨f1, f2⟩
      · cases f2
      · exact d.ow j k q b z f2 g
    · rcases get_set f with ⟨f1, f2⟩ | ⟨f1, f2⟩
      · cases f2
      · obtain ⟨w, e3, e5⟩ := d.dp j q f2
        exact ⟨w, e3, e5.up sf (fun _ _ _ q => q) fun _ _ q => q⟩
end
end L2.MP

namespace L2.MP
open PySem PySem.Spec PyProof.Rows

structure Cg extends Cf where
  XR : Hp → Value → Option Addr → PV → Prop
noncomputable def PX (C : Cg) (F : Hp) (z : PV) : Prop := ∀ e d F' H', Same F F' → RB C.toCf F' H' → C.XR F' e d z → C.E e d H'
noncomputable def Pr {α : Type} (C : Cg) (F : Hp) (ok : α → Prop) : Res α → Prop
  | .ok a => ok a
  | .ex z => PX C F z
noncomputable abbrev Rel (α : Type) := Hp → Hp → V → α → Prop
noncomputable def aF (K : PySem.W.Frag) : Rel PV := fun F _ v p => Rep K F v p
noncomputable def aH (K : PySem.W.Frag) : Rel PV := fun _ H v p => Rep K H v p
noncomputable def aV (K : PySem.W.Frag) : Rel (List PV) := fun F H v l => ∃ a xs, v = .ref a ∧ SqL K H a xs ∧ Reps K F xs l
noncomputable def UpM {α : Type} (A : Rel α) : Prop := ∀ F H F' H' v a, Up F H F' H' → A F H v a → A F' H' v a
theorem aF.up {K : PySem.W.Frag} : UpM (aF K) := fun _ _ _ _ _ _ u h => Rep.up h u.ff
theorem aH.up {K : PySem.W.Frag} : UpM (aH K) := fun _ _ _ _ _ _ u h => Rep.up h u.hh
theorem aV.up {K : PySem.W.Frag} : UpM (aV K) := fun _ _ _ _ _ _ u h => let ⟨a, xs, e, s, r⟩ := h; ⟨a, xs, e, u.hh.seq s, r.up u.ff⟩
noncomputable abbrev Fn (α : Type) := Rho → Option (Res α)

noncomputable def MJ {α : Type} (K : PySem.W.Frag) (C : Cg) (A : Rel α) (te : TE) (f : Fn α) : Prop :=
  ∀ F H σ ρ Q r, RE K C.toCf F H σ ρ → f ρ = some r → Pr C F (fun a => ∀ v F' H', Up F H F' H' → A F' H' v a → Q v H') r → te σ H Q
noncomputable def MT (K : PySem.W.Frag) (C : Cg) (tt : TT) (f : Fn Bool) : Prop :=
  ∀ F H σ ρ Q r, RE K C.toCf F H σ ρ → f ρ = some r → Pr C F (fun b => ∀ F' H', Up F H F' H' → Q b H') r → tt σ H Q
noncomputable def MA (K : PySem.W.Frag) (C : Cg) (ta : TA) (f : Fn (List PV)) : Prop :=
  ∀ F H σ ρ Q r, RE K C.toCf F H σ ρ → f ρ = some r → Pr C F (fun l => ∀ xs F' H', Up F H F' H' → Reps K F' xs l → Q xs H') r → ta σ H Q
noncomputable def MAL (K : PySem.W.Frag) (C : Cg) (ta : TA) (f : Fn (List PV)) : Prop :=
  ∀ F H σ ρ Q r, RE K C.toCf F H σ ρ → f ρ = some r → Pr C F (fun l => ∀ xs F' H', Up F H F' H' → Reps K H' xs l → Q xs H') r → ta σ H Q
noncomputable def MO (K : PySem.W.Frag) (C : Cg) (te : TE) (f : Fn PV) : Prop :=
  ∀ F H σ ρ Q r, RE K C.toCf F H σ ρ → f ρ = some r → Pr C F (fun p => ∀ a F' H', Up F H F' H' → H a = none → F' a = none → Own K F' H' a p → Q (.ref a) H') r → te σ H Q

theorem bnd_inv {α β : Type} {x : Option (Res α)} {k : α → Option (Res β)} {r : Res β} (h : bnd x k = some r) : (∃ z, x = some (.ex z) ∧ r = .ex z) ∨ ∃ a, x = some (.ok a) ∧ k a = some r := by
  match x, h with
  | some (.ok a), h => exact .inr ⟨a, rfl, h⟩
  | some (.ex z), h => exact .inl ⟨z, rfl, (Option.some.inj h).symm⟩
theorem Pr.ex {α β : Type} {C : Cg} {F : Hp} {ok : α → Prop} {ok' : β → Prop} {z : PV} (h : Pr C F ok (.ex z)) : Pr C F ok' (.ex z) := h
theorem PX.up {C : Cg} {F F1 : Hp} {z : PV} (h : PX C F z) (s : Same F F1) : PX C F1 z := fun e d F' H' a b c => h e d F' H' (s.trans a) b c
theorem Pr.mono {α : Type} {C : Cg} {F F1 : Hp} {ok ok' : α → Prop} {r : Res α} (h : Pr C F ok r) (s : Same F F1) (k : ∀ a, ok a → ok' a) : Pr C F1 ok' r := by
  cases r with
  | ok a => exact k a h
  | ex z => exact PX.up h s

section
variable {K : PySem.W.Frag} {C : Cg} {α β γ : Type} {A : Rel α} {B : Rel β} {D : Rel γ} {ta tb te : TE} {f : Fn α} {g : Fn β} {F H : Hp} {σ : St} {ρ : Rho} {Q : VK}
theorem MJ.run {ok : β → Prop} {k : α → Option (Res β)} {r : Res β} (h : MJ K C A ta f) (R : RE K C.toCf F H σ ρ) (hb : bnd (f ρ) k = some r) (P : Pr C F ok r)
    (go : ∀ p v F1 H1, k p = some r → Up F H F1 H1 → A F1 H1 v p → Q v H1) : ta σ H Q := by
  rcases bnd_inv hb with ⟨z, e, rfl⟩ | ⟨p, e, hk⟩
  · exact h F H σ ρ Q _ R e P
  · exact h F H σ ρ Q _ R e fun v F1 H1 u a => go p v F1 H1 hk u a
theorem MT.run {tt : TT} {f : Fn Bool} {Q : Bool → Hp → Prop} {ok : β → Prop} {k : Bool → Option (Res β)} {r : Res β} (h : MT K C tt f) (R : RE K C.toCf F H σ ρ) (hb : bnd (f ρ) k = some r) (P : Pr C F ok r)
    (go : ∀ b F1 H1, k b = some r → Up F H F1 H1 → Q b H1) : tt σ H Q := by
  rcases bnd_inv hb with ⟨z, e, rfl⟩ | ⟨p, e, hk⟩
  · exact h F H σ ρ Q _ R e P
  · exact h F H σ ρ Q _ R e fun F1 H1 u => go p F1 H1 hk u
theorem MA.run {t : TA} {f : Fn (List PV)} {Q : List V → Hp → Prop} {ok : β → Prop} {k : List PV → Option (Res β)} {r : Res β} (h : MA K C t f) (R : RE K C.toCf F H σ ρ) (hb : bnd (f ρ) k = some r) (P : Pr C F ok r)
    (go : ∀ l xs F1 H1, k l = some r → Up F H F1 H1 → Reps K F1 xs l → Q xs H1) : t σ H Q := by
  rcases bnd_inv hb with ⟨z, e, rfl⟩ | ⟨p, e, hk⟩
  · exact h F H σ ρ Q _ R e P
  · exact h F H σ ρ Q _ R e fun xs F1 H1 u a => go p xs F1 H1 hk u a
theorem MAL.run {t : TA} {f : Fn (List PV)} {Q : List V → Hp → Prop} {ok : β → Prop} {k : List PV → Option (Res β)} {r : Res β} (h : MAL K C t f) (R : RE K C.toCf F H σ ρ) (hb : bnd (f ρ) k = some r) (P : Pr C F ok r)
    (go : ∀ l xs F1 H1, k l = some r → Up F H F1 H1 → Reps K H1 xs l → Q xs H1) : t σ H Q := by
  rcases bnd_inv hb with ⟨z, e, rfl⟩ | ⟨p, e, hk⟩
  · exact h F H σ ρ Q _ R e P
  · exact h F H σ ρ Q _ R e fun xs F1 H1 u a => go p xs F1 H1 hk u a
theorem MO.run {f : Fn PV} {ok : β → Prop} {k : PV → Option (Res β)} {r : Res β} (h : MO K C ta f) (R : RE K C.toCf F H σ ρ) (hb : bnd (f ρ) k = some r) (P : Pr C F ok r)
    (go : ∀ p a F1 H1, k p = some r → Up F H F1 H1 → H a = none → F1 a = none → Own K F1 H1 a p → Q (.ref a) H1) : ta σ H Q := by
  rcases bnd_inv hb with ⟨z, e, rfl⟩ | ⟨p, e, hk⟩
  · exact h F H σ ρ Q _ R e P
  · exact h F H σ ρ Q _ R e fun a F1 H1 u h1 h2 h3 => go p a F1 H1 hk u h1 h2 h3
theorem Pr.later {D : Rel γ} {r : Res γ} {F1 H1 : Hp} (P : Pr C F (fun a => ∀ v F' H', Up F H F' H' → D F' H' v a → Q v H') r) (u : Up F H F1 H1) : Pr C F1 (fun a => ∀ v F' H', Up F1 H1 F' H' → D F' H' v a → Q v H') r :=
  P.mono u.ff fun _ h v F' H' u' d => h v F' H' (u.trans u') d
theorem Pr.laterT {Q : Bool → Hp → Prop} {r : Res Bool} {F1 H1 : Hp} (P : Pr C F (fun b => ∀ F' H', Up F H F' H' → Q b H') r) (u : Up F H F1 H1) : Pr C F1 (fun b => ∀ F' H', Up F1 H1 F' H' → Q b H') r :=
  P.mono u.ff fun _ h F' H' u' => h F' H' (u.trans u')
theorem Pr.laterO {r : Res PV} {F1 H1 : Hp} (P : Pr C F (fun p => ∀ a F' H', Up F H F' H' → H a = none → F' a = none → Own K F' H' a p → Q (.ref a) H') r) (u : Up F H F1 H1) :
    Pr C F1 (fun p => ∀ a F' H', Up F1 H1 F' H' → H1 a = none → F' a = none → Own K F' H' a p → Q (.ref a) H') r :=
  P.mono u.ff fun _ h a F' H' u' n1 n2 d => h a F' H' (u.trans u') (u.hh.free n1) n2 d
theorem Pr.laterA {Q : List V → Hp → Prop} {r : Res (List PV)} {F1 H1 : Hp} (P : Pr C F (fun l => ∀ xs F' H', Up F H F' H' → Reps K F' xs l → Q xs H') r) (u : Up F H F1 H1) : Pr C F1 (fun l => ∀ xs F' H', Up F1 H1 F' H' → Reps K F' xs l → Q xs H') r :=
  P.mono u.ff fun _ h xs F' H' u' d => h xs F' H' (u.trans u') d
noncomputable def mV (i : Nat) : Fn PV := fun ρ => match ρ[i]? with
  | some (some (.sh p)) => some (.ok p)
  | _ => none
theorem mj_var (i : Nat) : MJ K C (aF K) (tVar i) (mV i) := by
  intro F H σ ρ Q r R e P
  unfold mV at e
  split at e
  · rename_i p hp
    cases e
    obtain ⟨v, e1, e2⟩ := R.sh i p hp
    exact ⟨v, e1, P v F H (Up.refl R.rb.sub) e2⟩
  · cases e
noncomputable def mVL (i : Nat) : Fn PV := fun ρ => match ρ[i]? with
  | some (some (.sh p)) => some (.ok p)
  | some (some (.ow p)) => some (.ok p)
  | _ => none
theorem mj_lend (i : Nat) : MJ K C (aH K) (tVar i) (mVL i) := by
  intro F H σ ρ Q r R e P
  unfold mVL at e
  split at e
  · rename_i p hp
    cases e
    obtain ⟨v, e1, e2⟩ := R.sh i p hp
    exact ⟨v, e1, P v F H (Up.refl R.rb.sub) (e2.up R.rb.sub)⟩
  · rename_i p hp
    cases e
    obtain ⟨a, e1, e2, e3, _⟩ := R.ow i p hp
    exact ⟨_, e1, P _ F H (Up.refl R.rb.sub) (e2.lent R.rb.sub)⟩
  · cases e
noncomputable def asLst : PV → Option (Res (List PV))
  | .lst l => some (.ok l)
  | _ => none
theorem mj_view {f : Fn PV} (h : MJ K C (aF K) ta f) : MJ K C (aV K) ta (fun ρ => bnd (f ρ) asLst) := by
  intro F H σ ρ Q r R e P
  refine h.run R e P fun p v F1 H1 hk u a => ?_
  match p, hk with
  | .lst l, hk =>
    cases hk
    obtain ⟨b, xs, rfl, s, rr⟩ := Rep.inv_lst a
    exact P _ F1 H1 u ⟨b, xs, rfl, u.fh.seq s, rr⟩
theorem mj_viewN (i : Nat) : MJ K C (aV K) (tVar i) (fun ρ => bnd (mVL i ρ) asLst) := by
  intro F H σ ρ Q r R e P
  rcases bnd_inv e with ⟨z, e1, rfl⟩ | ⟨p, e1, hk⟩
  · unfold mVL at e1
    split at e1 <;> cases e1
  · unfold mVL at e1
    match p, hk with
    | .lst l, hk =>
      cases hk
      split at e1
      · rename_i q hq
        cases e1
        obtain ⟨v, e2, e3⟩ := R.sh i _ hq
        obtain ⟨b, xs, rfl, s, rr⟩ := Rep.inv_lst e3
        exact ⟨_, e2, P _ F H (Up.refl R.rb.sub) ⟨b, xs, rfl, R.rb.sub.seq s, rr⟩⟩
      · rename_i q hq
        cases e1
        obtain ⟨a, e2, ⟨xs, e3, rr⟩, _⟩ := R.ow i _ hq
        exact ⟨_, e2, P _ F H (Up.refl R.rb.sub) ⟨a, xs, rfl, SqL.of e3, rr⟩⟩
      · cases e1
theorem mj_low {f : Fn PV} (h : MJ K C (aF K) ta f) : MJ K C (aH K) ta f := by
  intro F H σ ρ Q r R e P
  refine h F H σ ρ Q r R e ?_
  exact P.mono (Same.refl _) fun _ k v F' H' u d => k v F' H' u (Rep.up d u.fh)
noncomputable def mC (p : PV) : Fn PV := fun _ => some (.ok p)
theorem mj_c {v : V} {p : PV} (h : ∀ F, Rep K F v p) : MJ K C (aF K) (tC v) (mC p) := by
  intro F H σ ρ Q r R e P
  cases e
  exact P v F H (Up.refl R.rb.sub) (h F)
theorem mj_int {i : Int} : MJ K C (aF K) (tC (.int i)) (mC (.int i)) := mj_c fun _ => .int
theorem mj_bl {i : Bool} : MJ K C (aF K) (tC (.bl i)) (mC (.bl i)) := mj_c fun _ => .bl
theorem mj_str {i : Str} : MJ K C (aF K) (tC (.str i)) (mC (.str i)) := mj_c fun _ => .str
theorem mj_non : MJ K C (aF K) (tC .non) (mC .non) := mj_c fun _ => .non
theorem mj_ty {n : String} : MJ K C (aF K) (tC (.ty n)) (mC (.ty n)) := mj_c fun _ => .ty
theorem mj_own {f : Fn PV} (h : MO K C ta f) : MJ K C (aF K) ta f := by
  intro F H σ ρ Q r R e P
  refine h F H σ ρ Q r R e (P.mono (Same.refl _) fun p k a F' H' u n1 n2 o => ?_)
  obtain ⟨ob, eo, rr⟩ := o.frozen n2
  refine k _ (upd F' a ob) H' ⟨u.ff.trans (same_upd n2), u.hh, fun b x q => ?_, fun b x q => ?_⟩ rr
  · by_cases hb : b = a
    · subst hb; exact .inr (.inl n1)
    · rw [upd_ne hb] at q; exact u.fr b x q
  · by_cases hb : b = a
    · subst hb; rw [upd_same] at q; cases q; exact eo
    · rw [upd_ne hb] at q; exact u.fh b x q
theorem mj_ownV {f : Fn PV} (h : MO K C ta f) : MJ K C (aV K) ta (fun ρ => bnd (f ρ) asLst) := mj_view (mj_own h)

noncomputable def m2 {α β γ : Type} (op : α → β → Option (Res γ)) (f : Fn α) (g : Fn β) : Fn γ := fun ρ => bnd (f ρ) fun a => bnd (g ρ) fun b => op a b
noncomputable def R2M (C : Cg) (A : Rel α) (B : Rel β) (D : Rel γ) (r : R2) (op : α → β → Option (Res γ)) : Prop :=
  ∀ F H x y a b res Q, Same F H → A F H x a → B F H y b → op a b = some res → Pr C F (fun c => ∀ v F' H', Up F H F' H' → D F' H' v c → Q v H') res → r x y H Q
theorem mj_op {op : α → β → Option (Res γ)} {r2 : R2} (up : UpM A) (rule : R2M C A B D r2 op) (ha : MJ K C A ta f) (hb : MJ K C B tb g) : MJ K C D (tOp r2 ta tb) (m2 op f g) := by
  intro F H σ ρ Q r R e P
  refine ha.run R e P fun p v F1 H1 hk u a => ?_
  refine hb.run (R.up u) hk (P.later u) fun q w F2 H2 hk2 u2 b => ?_
  exact rule F2 H2 v w p q r Q u2.fh (up _ _ _ _ _ _ u2 a) b hk2 (P.later (u.trans u2))
noncomputable def R2O (K : PySem.W.Frag) (C : Cg) (A : Rel α) (B : Rel β) (r : R2) (op : α → β → Option (Res PV)) : Prop :=
  ∀ F H x y a b res Q, Same F H → A F H x a → B F H y b → op a b = some res → Pr C F (fun p => ∀ a F' H', Up F H F' H' → H a = none → F' a = none → Own K F' H' a p → Q (.ref a) H') res → r x y H Q
theorem mo_op {op : α → β → Option (Res PV)} {r2 : R2} (up : UpM A) (rule : R2O K C A B r2 op) (ha : MJ K C A ta f) (hb : MJ K C B tb g) : MO K C (tOp r2 ta tb) (m2 op f g) := by
  intro F H σ ρ Q r R e P
  refine ha.run R e P fun p v F1 H1 hk u a => ?_
  refine hb.run (R.up u) hk (P.laterO u) fun q w F2 H2 hk2 u2 b => ?_
  exact rule F2 H2 v w p q r Q u2.fh (up _ _ _ _ _ _ u2 a) b hk2 (P.laterO (u.trans u2))
noncomputable def m1 {α γ : Type} (op : α → Option (Res γ)) (f : Fn α) : Fn γ := fun ρ => bnd (f ρ) op
noncomputable def mChain (o1 o2 : PV → PV → Option (Res PV)) (f g h : Fn PV) : Fn PV := fun ρ => bnd (f ρ) fun a => bnd (g ρ) fun b => bnd (o1 a b) fun z => match z with
  | .bl true => bnd (h ρ) fun c => o2 b c
  | .bl false => some (.ok (.bl false))
  | _ => none
theorem mj_chain {o1 o2 : PV → PV → Option (Res PV)} {r r' : R2} {tc : TE} {f g h : Fn PV} (r1 : R2M C (aF K) (aF K) (aF K) r o1) (r2 : R2M C (aF K) (aF K) (aF K) r' o2) (ha : MJ K C (aF K) ta f) (hb : MJ K C (aF K) tb g) (hc : MJ K C (aF K) tc h) :
    MJ K C (aF K) (tChain r r' ta tb tc) (mChain o1 o2 f g h) := by
  intro F H σ ρ Q r R e P
  refine ha.run R e P fun p v F1 H1 hk u a => ?_
  refine hb.run (R.up u) hk (P.later u) fun q w F2 H2 hk2 u2 b => ?_
  rcases bnd_inv hk2 with ⟨z, e1, rfl⟩ | ⟨z, e1, hk3⟩
  · exact r1 F2 H2 v w p q _ _ u2.fh (aF.up _ _ _ _ _ _ u2 a) b e1 (PX.up P (u.trans u2).ff)
  · refine r1 F2 H2 v w p q _ _ u2.fh (aF.up _ _ _ _ _ _ u2 a) b e1 fun vz F3 H3 u3 rz => ?_
    match z, hk3 with
    | .bl true, hk3 =>
      cases Rep.inv_bl rz
      refine ⟨true, rfl, ?_⟩
      rw [if_pos rfl]
      have u13 := u.trans (u2.trans u3)
      refine hc.run (R.up u13) hk3 (P.later u13) fun c wc F4 H4 hk4 u4 rc => ?_
      exact r2 F4 H4 w wc q c _ Q u4.fh (Rep.up b (u3.trans u4).ff) rc hk4 (P.later (u13.trans u4))
    | .bl false, hk3 =>
      cases Rep.inv_bl rz
      cases hk3
      refine ⟨false, rfl, ?_⟩
      rw [if_neg (by decide)]
      exact P _ F3 H3 (u.trans (u2.trans u3)) .bl
noncomputable def mAndV (f g : Fn PV) : Fn PV := fun ρ => bnd (f ρ) fun a => match a with
  | .bl true => g ρ
  | .bl false => some (.ok (.bl false))
  | _ => none
noncomputable def opNot : PV → Option (Res PV)
  | .bl b => some (.ok (.bl (!b)))
  | _ => none
theorem mj_and {f g : Fn PV} (ha : MJ K C (aF K) ta f) (hb : MJ K C (aF K) tb g) : MJ K C (aF K) (tAndV ta tb) (mAndV f g) := by
  intro F H σ ρ Q r R e P
  refine ha.run R e P fun p v F1 H1 hk u a => ?_
  match p, hk with
  | .bl true, hk =>
    cases Rep.inv_bl a
    refine ⟨true, rfl, ?_⟩
    rw [if_pos rfl]
    exact hb F1 H1 σ ρ Q r (R.up u) hk (P.later u)
  | .bl false, hk =>
    cases Rep.inv_bl a
    cases hk
    refine ⟨false, rfl, ?_⟩
    rw [if_neg (by decide)]
    exact P _ F1 H1 u .bl
theorem mj_not {f : Fn PV} (ha : MJ K C (aF K) ta f) : MJ K C (aF K) (tNotV ta) (m1 opNot f) := by
  intro F H σ ρ Q r R e P
  refine ha.run R e P fun p v F1 H1 hk u a => ?_
  match p, hk with
  | .bl b, hk =>
    cases Rep.inv_bl a
    cases hk
    exact ⟨b, rfl, P _ F1 H1 u .bl⟩
noncomputable def asBl : PV → Option (Res Bool)
  | .bl b => some (.ok b)
  | _ => none
theorem mt_test {f : Fn PV} (ha : MJ K C (aF K) ta f) : MT K C (tTest ta) (m1 asBl f) := by
  intro F H σ ρ Q r R e P
  refine ha.run R e P fun p v F1 H1 hk u a => ?_
  match p, hk with
  | .bl b, hk =>
    cases Rep.inv_bl a
    cases hk
    exact ⟨b, rfl, P F1 H1 u⟩
theorem mt_val {f : Fn PV} (ha : MJ K C (aF K) ta f) : MT K C (tB ta) (m1 asBl f) := mt_test ha
noncomputable def mAnd (f g : Fn Bool) : Fn Bool := fun ρ => bnd (f ρ) fun a => if a = true then g ρ else some (.ok false)
noncomputable def mOr (f g : Fn Bool) : Fn Bool := fun ρ => bnd (f ρ) fun a => if a = true then some (.ok true) else g ρ
noncomputable def mNot (f : Fn Bool) : Fn Bool := fun ρ => bnd (f ρ) fun a => some (.ok (!a))
variable {c d : TT} {fc gc : Fn Bool}
theorem mt_and (ha : MT K C c fc) (hb : MT K C d gc) : MT K C (tAnd c d) (mAnd fc gc) := by
  intro F H σ ρ Q r R e P
  refine ha.run R e P fun b F1 H1 hk u => ?_
  cases b with
  | true => rw [if_pos rfl] at hk ⊢; exact hb F1 H1 σ ρ Q r (R.up u) hk (P.laterT u)
  | false => rw [if_neg (by decide)] at hk ⊢; cases hk; exact P F1 H1 u
theorem mt_or (ha : MT K C c fc) (hb : MT K C d gc) : MT K C (tOr c d) (mOr fc gc) := by
  intro F H σ ρ Q r R e P
  refine ha.run R e P fun b F1 H1 hk u => ?_
  cases b with
  | true => rw [if_pos rfl] at hk ⊢; cases hk; exact P F1 H1 u
  | false => rw [if_neg (by decide)] at hk ⊢; exact hb F1 H1 σ ρ Q r (R.up u) hk (P.laterT u)
theorem mt_not (ha : MT K C c fc) : MT K C (tNot c) (mNot fc) := by
  intro F H σ ρ Q r R e P
  refine ha.run R e P fun b F1 H1 hk u => ?_
  cases hk
  exact P F1 H1 u
noncomputable def mIf {γ : Type} (f : Fn Bool) (g h : Fn γ) : Fn γ := fun ρ => bnd (f ρ) fun a => if a = true then g ρ else h ρ
theorem mj_if {f g : Fn γ} (hc : MT K C c fc) (ha : MJ K C D ta f) (hb : MJ K C D tb g) : MJ K C D (tIf c ta tb) (mIf fc f g) := by
  intro F H σ ρ Q r R e P
  refine hc.run R e P fun b F1 H1 hk u => ?_
  cases b with
  | true => rw [if_pos rfl] at hk ⊢; exact ha F1 H1 σ ρ Q r (R.up u) hk (P.later u)
  | false => rw [if_neg (by decide)] at hk ⊢; exact hb F1 H1 σ ρ Q r (R.up u) hk (P.later u)
noncomputable def mNil : Fn (List PV) := fun _ => some (.ok [])
noncomputable def mCons (f : Fn PV) (g : Fn (List PV)) : Fn (List PV) := fun ρ => bnd (f ρ) fun a => bnd (g ρ) fun l => some (.ok (a :: l))
theorem ma_nil : MA K C tNil mNil := fun F H σ ρ Q r R e P => by
  cases e
  exact P [] F H (Up.refl R.rb.sub) .nil
theorem ma_cons {f : Fn PV} {g : Fn (List PV)} {t : TA} (ha : MJ K C (aF K) ta f) (hb : MA K C t g) : MA K C (tCons ta t) (mCons f g) := by
  intro F H σ ρ Q r R e P
  refine ha.run R e P fun p v F1 H1 hk u a => ?_
  refine hb.run (R.up u) hk (P.laterA u) fun l xs F2 H2 hk2 u2 b => ?_
  cases hk2
  exact P _ F2 H2 (u.trans u2) (b.cons (Rep.up a u2.ff))
theorem Up.newU {F H : Hp} {a : Addr} {o : HO} (s : Same F H) (h : H a = none) : Up F H F (upd H a o) := ⟨Same.refl _, same_upd h, fun _ _ q => .inl q, s.trans (same_upd h)⟩
theorem Up.new {F H : Hp} {a : Addr} {o : HO} (s : Same F H) (h : H a = none) : Up F H (upd F a o) (upd H a o) := by
  have hf : F a = none := s.free h
  refine ⟨same_upd hf, same_upd h, fun b u q => ?_, fun b u q => ?_⟩
  · by_cases hb : b = a
    · subst hb; exact .inr (.inl h)
    · rw [upd_ne hb] at q; exact .inl q
  · by_cases hb : b = a
    · subst hb; rw [upd_same] at q ⊢; exact q
    · rw [upd_ne hb] at q ⊢; exact s b u q
noncomputable def mTup (f : Fn (List PV)) : Fn PV := fun ρ => bnd (f ρ) fun l => if l.length ≤ sizeLine then some (.ok (.tup l)) else none
noncomputable def mLst (f : Fn (List PV)) : Fn PV := fun ρ => bnd (f ρ) fun l => if l.length ≤ sizeLine then some (.ok (.lst l)) else none
theorem mj_tup {t : TA} {f : Fn (List PV)} (h : MA K C t f) : MJ K C (aF K) (tTup t) (mTup f) := by
  intro F H σ ρ Q r R e P
  refine h.run R e P fun l xs F1 H1 hk u a => ?_
  split at hk
  · rename_i hl
    cases hk
    refine ⟨by rw [a.1]; exact hl, fun p hp => ?_⟩
    have un := Up.new (o := .tup xs) u.fh hp
    exact P _ _ _ (u.trans un) (.tup upd_same a.1 (a.up un.ff).2)
  · cases hk
theorem mo_lst {t : TA} {f : Fn (List PV)} (h : MA K C t f) : MO K C (tLst t) (mLst f) := by
  intro F H σ ρ Q r R e P
  refine h.run R e P fun l xs F1 H1 hk u a => ?_
  split at hk
  · rename_i hl
    cases hk
    refine ⟨by rw [a.1]; exact hl, fun p hp => ?_⟩
    exact P _ _ _ (u.trans (Up.newU u.fh hp)) (u.hh.free hp) (u.fh.free hp) ⟨xs, upd_same, a⟩
  · cases hk
noncomputable def spM (K : PySem.W.Frag) (XR : Hp → Value → Option Addr → PV → Prop) (m : List PV → Option (Res PV)) : Sp := fun vs H Q E => ∃ ps F r, Same F H ∧ Reps K F vs ps ∧ m ps = some r ∧ match r with
  | .ok p => ∀ v F' H', Up F H F' H' → Rep K F' v p → Q v H'
  | .ex z => ∀ e d F' H', Up F H F' H' → XR F' e d z → E e d H'
noncomputable def spO (K : PySem.W.Frag) (XR : Hp → Value → Option Addr → PV → Prop) (m : List PV → Option (Res PV)) : Sp := fun vs H Q E => ∃ ps F r, Same F H ∧ Reps K F vs ps ∧ m ps = some r ∧ match r with
  | .ok p => ∀ a F' H', Up F H F' H' → H a = none → F' a = none → Own K F' H' a p → Q (.ref a) H'
  | .ex z => ∀ e d F' H', Up F H F' H' → XR F' e d z → E e d H'
noncomputable def mCall (m : List PV → Option (Res PV)) (f : Fn (List PV)) : Fn PV := fun ρ => bnd (f ρ) m
theorem mj_call {t : TA} {f : Fn (List PV)} {m : List PV → Option (Res PV)} (h : MA K C t f) : MJ K C (aF K) (tCall (spM K C.XR m) [] C.E t) (mCall m f) := by
  intro F H σ ρ Q r R e P
  refine h.run R e P fun l xs F1 H1 hk u a => ?_
  refine ⟨l, F1, r, u.fh, by rw [List.append_nil]; exact a, hk, ?_⟩
  cases r with
  | ok p => exact fun v F' H' u' rv => P v F' H' (u.trans u') rv
  | ex z => exact fun e d F' H' u' x => P e d F' H' (u.trans u').ff (R.rb.up (u.trans u')) x
theorem mo_call {t : TA} {f : Fn (List PV)} {m : List PV → Option (Res PV)} (h : MA K C t f) : MO K C (tCall (spO K C.XR m) [] C.E t) (mCall m f) := by
  intro F H σ ρ Q r R e P
  refine h.run R e P fun l xs F1 H1 hk u a => ?_
  refine ⟨l, F1, r, u.fh, by rw [List.append_nil]; exact a, hk, ?_⟩
  cases r with
  | ok p => exact fun v F' H' u' n1 n2 rv => P v F' H' (u.trans u') (u.hh.free n1) n2 rv
  | ex z => exact fun e d F' H' u' x => P e d F' H' (u.trans u').ff (R.rb.up (u.trans u')) x
end
end L2.MP

namespace L2.MP
open PySem PySem.Spec PyProof.Rows
inductive Out where
  | nx (ρ : Rho) | rt (p : PV) | ro (p : PV) | rd (p : PV) | bk (ρ : Rho) | ct (ρ : Rho) | ex (z : PV)
noncomputable abbrev Sn := Rho → Option Out
noncomputable def PO' (K : PySem.W.Frag) (C : Cg) (F : Hp) (D : Ends) : Out → Prop
  | .nx ρ => ∀ F' H' σ, Same F F' → RE K C.toCf F' H' σ ρ → D.nx σ H'
  | .bk ρ => ∀ F' H' σ, Same F F' → RE K C.toCf F' H' σ ρ → D.bk σ H'
  | .ct ρ => ∀ F' H' σ, Same F F' → RE K C.toCf F' H' σ ρ → D.ct σ H'
  | .rt p => ∀ v F' H', Same F F' → RB C.toCf F' H' → Rep K F' v p → D.rt v H'
  | .ro p => ∀ a F' H', Same F F' → RB C.toCf F' H' → Own K F' H' a p → F' a = none → C.H0 a = none → D.rt (.ref a) H'
  | .rd p => ∀ v F' H' S, Same F F' → RB C.toCf F' H' → Dp K F' H' S v p → (∀ b, S b → F' b = none ∧ (∃ o, H' b = some o ∧ ∀ ys, o ≠ .tup ys) ∧ C.H0 b = none) → D.rt v H'
  | .ex z => PX C F z
noncomputable def MS (K : PySem.W.Frag) (C : Cg) (t : TS) (f : Sn) : Prop := ∀ F H σ ρ D o, RE K C.toCf F H σ ρ → f ρ = some o → PO' K C F D o → t D σ H
noncomputable def bndS {α : Type} (x : Option (Res α)) (k : α → Option Out) : Option Out := match x with
  | some (.ok a) => k a
  | some (.ex z) => some (.ex z)
  | none => none
theorem bndS_inv {α : Type} {x : Option (Res α)} {k : α → Option Out} {o : Out} (h : bndS x k = some o) : (∃ z, x = some (.ex z) ∧ o = .ex z) ∨ ∃ a, x = some (.ok a) ∧ k a = some o := by
  match x, h with
  | some (.ok a), h => exact .inr ⟨a, rfl, h⟩
  | some (.ex z), h => exact .inl ⟨z, rfl, (Option.some.inj h).symm⟩
section
variable {K : PySem.W.Frag} {C : Cg} {α β γ : Type} {A : Rel α} {ta tb te : TE} {F H : Hp} {σ : St} {ρ : Rho} {D : Ends} {t u : TS} {f g : Sn} {o : Out}
theorem PO'.up {F1 : Hp} (h : PO' K C F D o) (s : Same F F1) : PO' K C F1 D o := by
  cases o with
  | nx ρ => exact fun F' H' σ a => h F' H' σ (s.trans a)
  | bk ρ => exact fun F' H' σ a => h F' H' σ (s.trans a)
  | ct ρ => exact fun F' H' σ a => h F' H' σ (s.trans a)
  | rt p => exact fun v F' H' a => h v F' H' (s.trans a)
  | ro p => exact fun v F' H' a => h v F' H' (s.trans a)
  | rd p => exact fun v F' H' S a => h v F' H' S (s.trans a)
  | ex z => exact PX.up h s
theorem MJ.runS {fe : Fn α} {Q : VK} {k : α → Option Out} (h : MJ K C A ta fe) (R : RE K C.toCf F H σ ρ) (hb : bndS (fe ρ) k = some o) (P : PO' K C F D o)
    (go : ∀ p v F1 H1, k p = some o → Up F H F1 H1 → A F1 H1 v p → Q v H1) : ta σ H Q := by
  rcases bndS_inv hb with ⟨z, e, rfl⟩ | ⟨p, e, hk⟩
  · exact h F H σ ρ Q _ R e P
  · exact h F H σ ρ Q _ R e fun v F1 H1 u a => go p v F1 H1 hk u a
theorem MO.runS {fe : Fn PV} {Q : VK} {k : PV → Option Out} (h : MO K C ta fe) (R : RE K C.toCf F H σ ρ) (hb : bndS (fe ρ) k = some o) (P : PO' K C F D o)
    (go : ∀ p a F1 H1, k p = some o → Up F H F1 H1 → H a = none → F1 a = none → Own K F1 H1 a p → Q (.ref a) H1) : ta σ H Q := by
  rcases bndS_inv hb with ⟨z, e, rfl⟩ | ⟨p, e, hk⟩
  · exact h F H σ ρ Q _ R e P
  · exact h F H σ ρ Q _ R e fun a F1 H1 u n1 n2 w => go p a F1 H1 hk u n1 n2 w
theorem MT.runS {tt : TT} {fe : Fn Bool} {Q : Bool → Hp → Prop} {k : Bool → Option Out} (h : MT K C tt fe) (R : RE K C.toCf F H σ ρ) (hb : bndS (fe ρ) k = some o) (P : PO' K C F D o)
    (go : ∀ b F1 H1, k b = some o → Up F H F1 H1 → Q b H1) : tt σ H Q := by
  rcases bndS_inv hb with ⟨z, e, rfl⟩ | ⟨p, e, hk⟩
  · exact h F H σ ρ Q _ R e P
  · exact h F H σ ρ Q _ R e fun F1 H1 u => go p F1 H1 hk u
noncomputable def mNext : Sn := fun ρ => some (.nx ρ)
noncomputable def mSeq (f g : Sn) : Sn := fun ρ => match f ρ with
  | some (.nx ρ') => g ρ'
  | x => x
theorem ms_next : MS K C tNext mNext := fun F H σ ρ D o R e P => by
  cases e
  exact P F H σ (Same.refl _) R
theorem ms_seq (h1 : MS K C t f) (h2 : MS K C u g) : MS K C (tSeq t u) (mSeq f g) := by
  intro F H σ ρ D o R e P
  unfold mSeq at e
  split at e
  · rename_i ρ' h
    refine h1 F H σ ρ _ _ R h ?_
    exact fun F' H' σ' s R' => h2 F' H' σ' ρ' D o R' e (P.up s)
  · rename_i x hx
    cases o with
    | nx ρ' => exact absurd e (hx ρ')
    | bk ρ => exact h1 F H σ _ _ _ R e P
    | ct ρ => exact h1 F H σ _ _ _ R e P
    | rt p => exact h1 F H σ _ _ _ R e P
    | ro p => exact h1 F H σ _ _ _ R e P
    | rd p => exact h1 F H σ _ _ _ R e P
    | ex z => exact h1 F H σ _ _ _ R e P
noncomputable def MG (K : PySem.W.Frag) (C : Cg) (g : TG) (tg : PV → Rho → Option Rho) : Prop :=
  ∀ F H σ ρ v p ρ' Q, RE K C.toCf F H σ ρ → Rep K F v p → tg p ρ = some ρ' → (∀ σ', RE K C.toCf F H σ' ρ' → Q σ' H) → g v σ H Q
noncomputable def MGs (K : PySem.W.Frag) (C : Cg) (g : TGs) (tg : List PV → Rho → Option Rho) : Prop :=
  ∀ F H σ ρ vs ps ρ' Q, RE K C.toCf F H σ ρ → Reps K F vs ps → tg ps ρ = some ρ' → (∀ σ', RE K C.toCf F H σ' ρ' → Q σ' H) → g vs σ H Q
noncomputable def gN (i : Nat) : PV → Rho → Option Rho := fun p ρ => some (ρ.set i (some (.sh p)))
theorem mg_name (i : Nat) : MG K C (gName i) (gN i) := fun F H σ ρ v p ρ' Q R r e k => by
  cases e
  exact k _ (R.set i r)
noncomputable def gsNil : List PV → Rho → Option Rho
  | [], ρ => some ρ
  | _ :: _, _ => none
noncomputable def gsCons (t : PV → Rho → Option Rho) (u : List PV → Rho → Option Rho) : List PV → Rho → Option Rho
  | [], _ => none
  | p :: l, ρ => match t p ρ with
    | some ρ' => u l ρ'
    | none => none
theorem mgs_nil : MGs K C gNil gsNil := fun F H σ ρ vs ps ρ' Q R r e k => by
  cases ps with
  | nil => cases e; exact ⟨r.inv_nil, k σ R⟩
  | cons p l => cases e
theorem mgs_cons {g : TG} {gs : TGs} {tg : PV → Rho → Option Rho} {tgs : List PV → Rho → Option Rho} (h : MG K C g tg) (hs : MGs K C gs tgs) : MGs K C (gCons g gs) (gsCons tg tgs) := fun F H σ ρ vs ps ρ' Q R r e k => by
  cases ps with
  | nil => cases e
  | cons p l =>
    obtain ⟨v, ys, rfl, r1, r2⟩ := r.inv_cons
    have e' : (match tg p ρ with
      | some ρ' => tgs l ρ'
      | none => none) = some ρ' := e
    split at e'
    · rename_i ρ1 h1
      exact ⟨v, ys, rfl, h F H σ ρ v p ρ1 _ R r1 h1 fun σ' R' => hs F H σ' ρ1 ys l ρ' Q R' r2 e' k⟩
    · cases e'
noncomputable def gT (n : Nat) (t : List PV → Rho → Option Rho) : PV → Rho → Option Rho := fun p ρ => match p with
  | .tup l => if l.length = n then t l ρ else none
  | _ => none
theorem mg_tup {n : Nat} {gs : TGs} {tgs : List PV → Rho → Option Rho} (hs : MGs K C gs tgs) : MG K C (gTup K n gs) (gT n tgs) := fun F H σ ρ v p ρ' Q R r e k => by
  unfold gT at e
  split at e
  · rename_i l
    split at e
    · rename_i hn
      obtain ⟨a, xs, rfl, hq, rr⟩ := r.inv_tup
      exact ⟨a, xs, rfl, R.rb.sub.tup hq, by rw [rr.1]; exact hn, hs F H σ ρ xs l ρ' Q R rr e k⟩
    · cases e
  · cases e
noncomputable def mAsg (fe : Fn PV) (tg : PV → Rho → Option Rho) : Sn := fun ρ => bndS (fe ρ) fun p => match tg p ρ with
  | some ρ' => some (.nx ρ')
  | none => none
theorem ms_asg {fe : Fn PV} {gt : TG} {tg : PV → Rho → Option Rho} (h : MJ K C (aF K) te fe) (hg : MG K C gt tg) : MS K C (tAsg te gt) (mAsg fe tg) := by
  intro F H σ ρ D o R e P
  refine h.runS R e P fun p v F1 H1 hk u a => ?_
  split at hk
  · rename_i ρ' h1
    cases hk
    exact hg F1 H1 σ ρ v p ρ' _ (R.up u) a h1 fun σ' R' => P F1 H1 σ' u.ff R'
  · cases hk
noncomputable def mSetO (i : Nat) (fe : Fn PV) : Sn := fun ρ => bndS (fe ρ) fun p => some (.nx (ρ.set i (some (.ow p))))
theorem ms_setO {i : Nat} {fe : Fn PV} (nw : C.nw) (h : MO K C te fe) : MS K C (tAsg te (gName i)) (mSetO i fe) := by
  intro F H σ ρ D o R e P
  refine h.runS R e P fun p a F1 H1 hk u n1 n2 w => ?_
  cases hk
  exact P F1 H1 _ u.ff ((R.up u).setO i w n2 nw (R.rb.free0 n1) (fun j q hj _ => R.apart n1 j q hj) (R.apartD n1 u))
noncomputable def mRet (fe : Fn PV) : Sn := fun ρ => bndS (fe ρ) fun p => some (.rt p)
theorem ms_ret {fe : Fn PV} (h : MJ K C (aF K) te fe) : MS K C (tRet te) (mRet fe) := by
  intro F H σ ρ D o R e P
  refine h.runS R e P fun p v F1 H1 hk u a => ?_
  cases hk
  exact P v F1 H1 u.ff (R.rb.up u) a
noncomputable def mRetO (fe : Fn PV) : Sn := fun ρ => bndS (fe ρ) fun p => some (.ro p)
theorem ms_retO {fe : Fn PV} (h : MO K C te fe) : MS K C (tRet te) (mRetO fe) := by
  intro F H σ ρ D o R e P
  refine h.runS R e P fun p a F1 H1 hk u n1 n2 w => ?_
  cases hk
  exact P a F1 H1 u.ff (R.rb.up u) w n2 (R.rb.free0 n1)
noncomputable def ownAt (i : Nat) (ρ : Rho) : Option PV := match ρ[i]? with
  | some (some (.ow p)) => some p
  | _ => none
theorem ownAt_eq {i : Nat} {p : PV} (h : ownAt i ρ = some p) : ρ[i]? = some (some (.ow p)) := by
  unfold ownAt at h
  split at h
  · rename_i q hq; cases h; exact hq
  · cases h
noncomputable def mRetOw (i : Nat) : Sn := fun ρ => match ownAt i ρ with
  | some p => some (.ro p)
  | none => none
theorem ms_retOw (i : Nat) (hio : ∀ a, ¬ C.io a) : MS K C (tRet (tVar i)) (mRetOw i) := by
  intro F H σ ρ D o R e P
  unfold mRetOw at e
  split at e
  · rename_i p hp
    cases e
    obtain ⟨a, e1, e2, e3, e4⟩ := R.ow i p (ownAt_eq hp)
    exact ⟨_, e1, P a F H (Same.refl _) R.rb e2 e3 (e4.resolve_left (hio a)).2⟩
  · cases e
noncomputable def frzR (i : Nat) (ρ : Rho) : Rho := match ownAt i ρ with
  | some p => ρ.set i (some (.sh p))
  | none => ρ
theorem ms_frz (i : Nat) (hio : ∀ a, ¬ C.io a) (h : MS K C t f) : MS K C t (fun ρ => f (frzR i ρ)) := by
  intro F H σ ρ D o R e P
  have e : f (frzR i ρ) = some o := e
  unfold frzR at e
  cases hp : ownAt i ρ with
  | none => rw [hp] at e; exact h F H σ ρ D o R e P
  | some p =>
    rw [hp] at e
    obtain ⟨F', s, R'⟩ := R.frz (ownAt_eq hp) fun a _ => hio a
    exact h F' H σ _ D o R' e (P.up s)
noncomputable def mApp (i : Nat) (fe : Fn PV) : Sn := fun ρ => match ownAt i ρ with
  | some (.lst l) => bndS (fe ρ) fun p => if l.length < sizeLine then some (.nx (ρ.set i (some (.ow (.lst (l ++ [p])))))) else none
  | _ => none
theorem ms_app {i : Nat} {fe : Fn PV} (h : MJ K C (aF K) te fe) : MS K C (tDrop (tBM K "list" rAppend (tVar i) (tCons te tNil))) (mApp i fe) := by
  intro F H σ ρ D o R e P
  unfold mApp at e
  split at e
  · rename_i l hl
    obtain ⟨a, g1, ⟨xs, g2, g3⟩, g4, g5⟩ := R.ow i _ (ownAt_eq hl)
    refine ⟨_, g1, tyL g2, h.runS R e P fun p v F1 H1 hk u w => ?_⟩
    split at hk
    · rename_i hlen
      cases hk
      obtain ⟨a', k1, ⟨ys, k2, k3⟩, k4, k5⟩ := (R.up u).ow i _ (ownAt_eq hl)
      rw [g1] at k1
      cases k1
      refine ⟨a, ys, v, rfl, rfl, k2, by rw [k3.1]; exact hlen, ?_⟩
      exact P F1 _ σ u.ff ((R.up u).write (ownAt_eq hl) g1 ⟨_, upd_same, k3.snoc w⟩)
    · cases hk
  · cases e
noncomputable def mPut (i : Nat) (fe fi : Fn PV) : Sn := fun ρ => bndS (fe ρ) fun p => match ownAt i ρ with
  | some (.lst l) => bndS (fi ρ) fun k => match k with
    | .int k => match ixN l.length k with
      | some j => some (.nx (ρ.set i (some (.ow (.lst (l.set j p))))))
      | none => none
    | _ => none
  | _ => none
theorem ms_put {i : Nat} {fe fi : Fn PV} (h : MJ K C (aF K) te fe) (hi : MJ K C (aF K) tb fi) : MS K C (tAsg te (gSub (tVar i) tb rSetL)) (mPut i fe fi) := by
  intro F H σ ρ D o R e P
  refine h.runS R e P fun p v F1 H1 hk u a => ?_
  split at hk
  · rename_i l hl
    obtain ⟨b, g1, _⟩ := R.ow i _ (ownAt_eq hl)
    refine ⟨_, g1, hi.runS (R.up u) hk (P.up u.ff) fun q w F2 H2 hk2 u2 rw' => ?_⟩
    split at hk2
    · rename_i k
      split at hk2
      · rename_i j hj
        cases hk2
        cases Rep.inv_int rw'
        obtain ⟨a', k1, ⟨ys, k2, k3⟩, k4, k5⟩ := (R.up (u.trans u2)).ow i _ (ownAt_eq hl)
        rw [g1] at k1
        cases k1
        refine ⟨b, ys, k, j, rfl, rfl, k2, by rw [k3.1]; exact hj, ?_⟩
        exact P F2 _ σ (u.trans u2).ff ((R.up (u.trans u2)).write (ownAt_eq hl) g1 ⟨_, upd_same, k3.set (Rep.up a u2.ff) j⟩)
      · cases hk2
    · cases hk2
  · cases hk
noncomputable def mIfS (fc : Fn Bool) (f g : Sn) : Sn := fun ρ => bndS (fc ρ) fun b => if b = true then f ρ else g ρ
theorem ms_if {c : TT} {fc : Fn Bool} (hc : MT K C c fc) (h1 : MS K C t f) (h2 : MS K C u g) : MS K C (tIfS c t u) (mIfS fc f g) := by
  intro F H σ ρ D o R e P
  refine hc.runS R e P fun b F1 H1 hk uu => ?_
  cases b with
  | true => rw [if_pos rfl] at hk ⊢; exact h1 F1 H1 σ ρ D o (R.up uu) hk (P.up uu.ff)
  | false => rw [if_neg (by decide)] at hk ⊢; exact h2 F1 H1 σ ρ D o (R.up uu) hk (P.up uu.ff)
structure ItR (K : PySem.W.Frag) (J : It) (F : Hp) (l : List PV) : Prop where
  stop : ∀ F' H', Same F F' → Same F' H' → J.stop l.length H'
  go : ∀ i F' H', i < l.length → Same F F' → Same F' H' → J.go i H'
  yld : ∀ i F' H' x H'', i < l.length → Same F F' → Same F' H' → J.yld i H' x H'' → ∃ F'' p, Up F' H' F'' H'' ∧ l[i]? = some p ∧ Rep K F'' x p
noncomputable def MI (K : PySem.W.Frag) (C : Cg) (wi : TI) (f : Fn (List PV)) : Prop :=
  ∀ F H σ ρ R' r, RE K C.toCf F H σ ρ → f ρ = some r → Pr C F (fun l => ∀ J F' H', Up F H F' H' → ItR K J F' l → R' J H') r → wi σ H R'
noncomputable def loop (tg : PV → Rho → Option Rho) (body : Sn) : List PV → Rho → Option Out
  | [], ρ => some (.nx ρ)
  | x :: xs, ρ => match tg x ρ with
    | none => none
    | some ρ1 => match body ρ1 with
      | some (.nx ρ2) => loop tg body xs ρ2
      | some (.ct ρ2) => loop tg body xs ρ2
      | some (.bk ρ2) => some (.nx ρ2)
      | x => x
noncomputable def mFor (it : Fn (List PV)) (tg : PV → Rho → Option Rho) (body : Sn) : Sn := fun ρ => bndS (it ρ) fun l => loop tg body l ρ
theorem forJ_loop {J : It} {gt : TG} {tg : PV → Rho → Option Rho} {l : List PV} (hg : MG K C gt tg) (hb : MS K C t f) (hJ : ItR K J F l) (R : RE K C.toCf F H σ ρ) (e : loop tg f l ρ = some o) (P : PO' K C F D o) : ForJ J gt t D σ H := by
  refine ⟨fun i m σ' H' => ∃ F' ρ', m = l.length - i ∧ i ≤ l.length ∧ Same F F' ∧ RE K C.toCf F' H' σ' ρ' ∧ loop tg f (l.drop i) ρ' = some o, ⟨l.length, F, ρ, by simp, Nat.zero_le _, Same.refl _, R, by rw [List.drop_zero]; exact e⟩, ?_⟩
  rintro i m σ' H' ⟨F', ρ', rfl, hi, s, R', e'⟩
  by_cases hlt : i < l.length
  · refine .inr ⟨hJ.go i F' H' hlt s R'.rb.sub, fun σ2 H2 => ∃ F2 ρ2, Same F F2 ∧ RE K C.toCf F2 H2 σ2 ρ2 ∧ loop tg f (l.drop (i + 1)) ρ2 = some o, fun σ2 H2 ⟨F2, ρ2, s2, R2, e2⟩ => ⟨l.length - (i + 1), by omega, F2, ρ2, rfl, hlt, s2, R2, e2⟩, fun x H'' y => ?_⟩
    obtain ⟨F'', p, u, ep, rx⟩ := hJ.yld i F' H' x H'' hlt s R'.rb.sub y
    have ed : l.drop i = p :: l.drop (i + 1) := by
      rw [List.drop_eq_getElem_cons hlt]
      rw [List.getElem?_eq_getElem hlt] at ep
      rw [Option.some.inj ep]
    rw [ed, loop] at e'
    split at e'
    · cases e'
    · rename_i ρ1 h1
      refine hg F'' H'' σ' ρ' x p ρ1 _ (R'.up u) rx h1 fun σ1 R1 => ?_
      have sF : Same F F'' := s.trans u.ff
      split at e'
      · rename_i ρ2 h2
        exact hb F'' H'' σ1 ρ1 _ _ R1 h2 fun F3 H3 σ3 s3 R3 => ⟨F3, ρ2, sF.trans s3, R3, e'⟩
      · rename_i ρ2 h2
        exact hb F'' H'' σ1 ρ1 _ _ R1 h2 fun F3 H3 σ3 s3 R3 => ⟨F3, ρ2, sF.trans s3, R3, e'⟩
      · rename_i ρ2 h2
        cases e'
        exact hb F'' H'' σ1 ρ1 _ _ R1 h2 fun F3 H3 σ3 s3 R3 => P F3 H3 σ3 (sF.trans s3) R3
      · rename_i n1 n2 n3
        cases o with
        | nx ρ2 => exact absurd e' (n1 ρ2)
        | ct ρ2 => exact absurd e' (n2 ρ2)
        | bk ρ2 => exact absurd e' (n3 ρ2)
        | rt p => exact hb F'' H'' σ1 ρ1 _ _ R1 e' (PO'.up (D := D) P sF)
        | ro p => exact hb F'' H'' σ1 ρ1 _ _ R1 e' (PO'.up (D := D) P sF)
        | rd p => exact hb F'' H'' σ1 ρ1 _ _ R1 e' (PO'.up (D := D) P sF)
        | ex z => exact hb F'' H'' σ1 ρ1 _ _ R1 e' (PX.up P sF)
  · have ei : i = l.length := by omega
    subst ei
    rw [List.drop_length] at e'
    cases e'
    exact .inl ⟨hJ.stop F' H' s R'.rb.sub, P F' H' σ' s R'⟩
theorem ms_for {wi : TI} {it : Fn (List PV)} {gt : TG} {tg : PV → Rho → Option Rho} (hi : MI K C wi it) (hg : MG K C gt tg) (hb : MS K C t f) : MS K C (tFor wi gt t) (mFor it tg f) := by
  intro F H σ ρ D o R e P
  rcases bndS_inv e with ⟨z, e1, rfl⟩ | ⟨l, e1, hk⟩
  · exact hi F H σ ρ _ _ R e1 P
  · exact hi F H σ ρ _ _ R e1 fun J F' H' u hJ => forJ_loop hg hb hJ (R.up u) hk (P.up u.ff)
end
end L2.MP

namespace L2.MP
open PySem PySem.Spec PyProof.Rows
noncomputable def eqL (f : PV → PV → Option Bool) : List PV → List PV → Option Bool
  | [], [] => some true
  | [], _ :: _ => some false
  | _ :: _, [] => some false
  | x :: xs, y :: ys => match f x y, eqL f xs ys with
    | some a, some b => some (a && b)
    | _, _ => none
noncomputable def eqF : Nat → PV → PV → Option Bool
  | _, .non, .non => some true
  | _, .non, .bl _ => some false
  | _, .non, .int _ => some false
  | _, .non, .str _ => some false
  | _, .bl _, .non => some false
  | _, .bl a, .bl b => some (decide (a = b))
  | _, .bl _, .str _ => some false
  | _, .int _, .non => some false
  | _, .int a, .int b => some (decide (a = b))
  | _, .int _, .str _ => some false
  | _, .str _, .non => some false
  | _, .str _, .bl _ => some false
  | _, .str _, .int _ => some false
  | _, .str a, .str b => some (decide (a = b))
  | _, .non, .tup _ => some false
  | _, .tup _, .non => some false
  | _, .non, .lst _ => some false
  | _, .lst _, .non => some false
  | _, .int _, .tup _ => some false
  | _, .tup _, .int _ => some false
  | _, .str _, .tup _ => some false
  | _, .tup _, .str _ => some false
  | _, .int _, .lst _ => some false
  | _, .lst _, .int _ => some false
  | _, .str _, .lst _ => some false
  | _, .lst _, .str _ => some false
  | _, .lst _, .tup _ => some false
  | _, .tup _, .lst _ => some false
  | n + 1, .tup l, .tup m => eqL (eqF n) l m
  | n + 1, .lst l, .lst m => if l.length = m.length then eqL (eqF n) l m else some false
  | _, _, _ => none
theorem eqL_refl {f : PV → PV → Option Bool} (h : ∀ p r, f p p = some r → r = true) : ∀ {l : List PV} {r : Bool}, eqL f l l = some r → r = true
  | [], r, e => by cases e; rfl
  | x :: xs, r, e => by
    rw [eqL] at e
    split at e
    · rename_i a b h1 h2
      cases e
      rw [h x a h1, eqL_refl h h2]; rfl
    · cases e
theorem eqF_refl : ∀ (n : Nat) (p : PV) (r : Bool), eqF n p p = some r → r = true
  | n, p, r, e => by
    induction n generalizing p r with
    | zero => cases p <;> first | (cases (show some true = some r from e); rfl) | (cases (show some (decide _) = some r from e); exact decide_eq_true rfl) | cases (show none = some r from e)
    | succ n ih =>
      cases p with
      | tup l => exact eqL_refl ih e
      | lst l =>
        have e : (if l.length = l.length then eqL (eqF n) l l else some false) = some r := e
        rw [if_pos rfl] at e; exact eqL_refl ih e
      | _ => first | (cases (show some true = some r from e); rfl) | (cases (show some (decide _) = some r from e); exact decide_eq_true rfl) | cases (show none = some r from e)
theorem eqL_get {f : PV → PV → Option Bool} : ∀ {l m : List PV} {r : Bool}, eqL f l m = some r → ∃ e : Nat → Bool, (∀ (j : Nat) x y, l[j]? = some x → m[j]? = some y → f x y = some (e j)) ∧ r = ((List.range (min l.length m.length)).all e && l.length == m.length)
  | [], [], r, h => ⟨fun _ => true, fun j x y a => by simp at a, by cases h; rfl⟩
  | [], _ :: _, r, h => ⟨fun _ => true, fun j x y a => by simp at a, by cases h; simp⟩
  | _ :: _, [], r, h => ⟨fun _ => true, fun j x y _ a => by simp at a, by cases h; simp⟩
  | x :: xs, y :: ys, r, h => by
    rw [eqL] at h
    split at h
    · rename_i a b h1 h2
      cases h
      obtain ⟨e, e1, e2⟩ := eqL_get h2
      refine ⟨fun j => match j with | 0 => a | j + 1 => e j, fun j x' y' a' b' => ?_, ?_⟩
      · cases j with
        | zero => simp at a' b'; subst a' b'; exact h1
        | succ j => exact e1 j x' y' (by simpa using a') (by simpa using b')
      · rw [e2, List.length_cons, List.length_cons, Nat.succ_min_succ, List.range_succ_eq_map, List.all_cons, List.all_map]
        have : ((xs.length + 1 == ys.length + 1) : Bool) = (xs.length == ys.length) := by
          rw [Bool.eq_iff_iff]; simp
        rw [this]
        cases a <;> simp [Function.comp_def]
    · cases h
section
variable {X : Cx} {pins : List (Addr × Obj)} {σ : St} {H : Hp} {s : Shared}
theorem Rep.kinds (I : Inv X pins σ H s) {a : Addr} {xs ys : List V} (h1 : SqL X.K H a xs) (h2 : SqT X.K H a ys) : False := by
  obtain ⟨_, _, p1, _⟩ := I.list h1
  obtain ⟨_, _, p2, _⟩ := I.tuple h2
  obtain ⟨o, n, e, c, _⟩ := p1
  obtain ⟨o', e', c', _⟩ := p2
  rw [e] at e'; cases e'
  rw [c] at c'; exact absurd c' (by decide)
theorem reps_inj {xs : List V} {l m : List PV} (h1 : xs.length = l.length) (h2 : xs.length = m.length) (h : ∀ (j : Nat) x p q, xs[j]? = some x → l[j]? = some p → m[j]? = some q → p = q) : l = m := by
  apply List.ext_getElem?
  intro j
  by_cases hj : j < xs.length
  · have hl : j < l.length := by omega
    have hm : j < m.length := by omega
    rw [List.getElem?_eq_getElem hl, List.getElem?_eq_getElem hm, h j xs[j] l[j] m[j] (by simp [hj]) (by simp [hl]) (by simp [hm])]
  · rw [List.getElem?_eq_none (by omega), List.getElem?_eq_none (by omega)]
noncomputable def HO.isDict : HO → Bool
  | .dK _ => true
  | .dT _ => true
  | _ => false
theorem rd_inj0 {H : Hp} {a : Addr} {u v : HO} (hu : HO.isDict u = true) (hv : HO.isDict v = true) (h : Rd H a u) (h' : Rd H a v) : u = v := by
  rcases h with h | ⟨o, h⟩ <;> rcases h' with h' | ⟨o', h'⟩ <;> rw [h] at h' <;> cases h'
  · rfl
  · cases hu
  · cases hv
  · rfl
theorem rd_inj {H : Hp} {a : Addr} {u v : HO} (h : Rd H a u) (h' : Rd H a v) (hu : HO.isDict u = true := by rfl) (hv : HO.isDict v = true := by rfl) : u = v := rd_inj0 hu hv h h'
theorem Rep.noDict (I : Inv X pins σ H s) {a : Addr} {ks : List (Key × V)} {ts : List (List Key × V)} (h1 : Rd H a (.dK ks) ∨ Rd H a (.dT ts)) (h2 : (∃ xs, SqL X.K H a xs) ∨ ∃ xs, SqT X.K H a xs) : False := by
  have d : ∃ o es ep, s.heap.get? a = some o ∧ o.data = .dict es ep := by
    rcases h1 with h1 | h1
    · obtain ⟨_, _, _, _, o, es, ep, e, x, d, _⟩ := h1.ok I.hok
      exact ⟨o, es, ep, e, d⟩
    · obtain ⟨_, _, _, _, o, es, ep, e, x, d, _⟩ := h1.ok I.hok
      exact ⟨o, es, ep, e, d⟩
  obtain ⟨o, es, ep, e, d⟩ := d
  rcases h2 with ⟨xs, h2⟩ | ⟨xs, h2⟩
  · obtain ⟨_, _, p1, _⟩ := I.list h2
    obtain ⟨o', n, e', _, _, d'⟩ := p1
    rw [e] at e'; cases e'
    rw [d] at d'; cases d'
  · obtain ⟨_, _, p1, _⟩ := I.tuple h2
    obtain ⟨o', e', _, n, d'⟩ := p1
    rw [e] at e'; cases e'
    rw [d] at d'; cases d'
theorem XO.at (I : Inv X pins σ H s) {a C : Addr} {d : Option Addr} (h : H a = some (XO a C d)) : ∃ vs : Array Value, s.heap.get? a = some { cls := .ref C, dict := d, data := .fields vs } := (I.hok _ _ h).1
theorem XO.inj (I : Inv X pins σ H s) {a C C' : Addr} {d d' : Option Addr} (h : H a = some (XO a C d)) (h' : H a = some (XO a C' d')) : C = C' ∧ d = d' := by
  obtain ⟨vs, e⟩ := XO.at I h
  obtain ⟨vs', e'⟩ := XO.at I h'
  rw [e] at e'
  cases e'
  exact ⟨rfl, rfl⟩
theorem XO.noSeq (I : Inv X pins σ H s) {a C : Addr} {d : Option Addr} (h : H a = some (XO a C d)) (h2 : (∃ xs, SqL X.K H a xs) ∨ ∃ xs, SqT X.K H a xs) : False := by
  obtain ⟨vs, e⟩ := XO.at I h
  rcases h2 with ⟨xs, h2⟩ | ⟨xs, h2⟩
  · obtain ⟨_, _, p1, _⟩ := I.list h2
    obtain ⟨o', n, e', _, _, d'⟩ := p1
    rw [e] at e'; cases e'
    cases d'
  · obtain ⟨_, _, p1, _⟩ := I.tuple h2
    obtain ⟨o', e', _, n, d'⟩ := p1
    rw [e] at e'; cases e'
    cases d'
theorem XNm.inj {K : PySem.W.Frag} {C : Addr} {c c' : Str} (a : XNm K C c) (b : XNm K C c') : c = c' := by
  obtain ⟨cd, h1, h2⟩ := a.cl
  obtain ⟨cd', h1', h2'⟩ := b.cl
  rw [h1] at h1'; cases h1'
  exact h2.symm.trans h2'
theorem Rep.inj (I : Inv X pins σ H s) {x : V} {p : PV} (h : Rep X.K H x p) : ∀ {q : PV}, Rep X.K H x q → p = q := by
  have pairs : ∀ {κ : Type} {xs : List (κ × V)} {l m : List (κ × PV)}, xs.map (·.1) = l.map (·.1) → xs.map (·.1) = m.map (·.1) → (∀ (j : Nat) x p q, xs[j]? = some x → l[j]? = some p → m[j]? = some q → p.2 = q.2) → l = m := by
    intro κ xs l m h1 h2 h3
    have l1 : xs.length = l.length := by simpa using congrArg List.length h1
    have l2 : xs.length = m.length := by simpa using congrArg List.length h2
    apply List.ext_getElem?
    intro j
    by_cases hj : j < xs.length
    · have hl : j < l.length := by omega
      have hm : j < m.length := by omega
      rw [List.getElem?_eq_getElem hl, List.getElem?_eq_getElem hm]
      have k := congrArg (·[j]?) (h1.symm.trans h2)
      simp [hl, hm] at k
      have v := h3 j xs[j] l[j] m[j] (by simp [hj]) (by simp [hl]) (by simp [hm])
      rw [Prod.ext k v]
    · rw [List.getElem?_eq_none (by omega), List.getElem?_eq_none (by omega)]
  induction h with
  | non => intro q h'; cases h'; rfl
  | bl => intro q h'; cases h'; rfl
  | int => intro q h'; cases h'; rfl
  | str => intro q h'; cases h'; rfl
  | ty => intro q h'; cases h'; rfl
  | @tup a xs l h hl _ ih =>
    intro q h'
    have h := SqT.of (K := X.K) h
    cases h' with
    | tup h2 hl2 hr2 =>
      cases I.tuple_inj h (SqT.of (K := X.K) h2)
      rw [reps_inj hl hl2 fun j x p q e1 e2 e3 => ih j x p e1 e2 (hr2 j x q e1 e3)]
    | lst h2 => exact (Rep.kinds I h2 h).elim
    | dk h2 => exact (Rep.noDict I (ts := []) (.inl h2) (.inr ⟨_, h⟩)).elim
    | dt h2 => exact (Rep.noDict I (ks := []) (.inr h2) (.inr ⟨_, h⟩)).elim
    | exc _ h2 => exact (XO.noSeq I h2 (.inr ⟨_, h⟩)).elim
    | exc0 _ h2 => exact (XO.noSeq I h2 (.inr ⟨_, h⟩)).elim
  | @lst a xs l h hl _ ih =>
    intro q h'
    cases h' with
    | tup h2 => exact (Rep.kinds I h (SqT.of h2)).elim
    | lst h2 hl2 hr2 =>
      cases I.list_inj h h2
      rw [reps_inj hl hl2 fun j x p q e1 e2 e3 => ih j x p e1 e2 (hr2 j x q e1 e3)]
    | dk h2 => exact (Rep.noDict I (ts := []) (.inl h2) (.inl ⟨_, h⟩)).elim
    | dt h2 => exact (Rep.noDict I (ks := []) (.inr h2) (.inl ⟨_, h⟩)).elim
    | exc _ h2 => exact (XO.noSeq I h2 (.inl ⟨_, h⟩)).elim
    | exc0 _ h2 => exact (XO.noSeq I h2 (.inl ⟨_, h⟩)).elim
  | @dk a xs l h hl _ ih =>
    intro q h'
    cases h' with
    | tup h2 => exact (Rep.noDict I (ts := []) (.inl h) (.inr ⟨_, SqT.of h2⟩)).elim
    | lst h2 => exact (Rep.noDict I (ts := []) (.inl h) (.inl ⟨_, h2⟩)).elim
    | dk h2 hl2 hr2 =>
      cases (rd_inj h h2)
      rw [pairs hl hl2 fun j x p q e1 e2 e3 => ih j x p e1 e2 (hr2 j x q e1 e3)]
    | dt h2 => cases rd_inj h h2
    | exc _ h2 => rcases h with h | ⟨o, h⟩ <;> rw [h] at h2 <;> cases h2
    | exc0 _ h2 => rcases h with h | ⟨o, h⟩ <;> rw [h] at h2 <;> cases h2
  | @dt a xs l h hl _ ih =>
    intro q h'
    cases h' with
    | tup h2 => exact (Rep.noDict I (ks := []) (.inr h) (.inr ⟨_, SqT.of h2⟩)).elim
    | lst h2 => exact (Rep.noDict I (ks := []) (.inr h) (.inl ⟨_, h2⟩)).elim
    | dk h2 => cases rd_inj h h2
    | dt h2 hl2 hr2 =>
      cases (rd_inj h h2)
      rw [pairs hl hl2 fun j x p q e1 e2 e3 => ih j x p e1 e2 (hr2 j x q e1 e3)]
    | exc _ h2 => rcases h with h | ⟨o, h⟩ <;> rw [h] at h2 <;> cases h2
    | exc0 _ h2 => rcases h with h | ⟨o, h⟩ <;> rw [h] at h2 <;> cases h2
  | @exc a C dx c xs l nm h hd hl _ ih =>
    intro q h'
    cases h' with
    | tup h2 => exact (XO.noSeq I h (.inr ⟨_, SqT.of h2⟩)).elim
    | lst h2 => exact (XO.noSeq I h (.inl ⟨_, h2⟩)).elim
    | dk h2 => rcases h2 with h2 | ⟨o, h2⟩ <;> rw [h] at h2 <;> cases h2
    | dt h2 => rcases h2 with h2 | ⟨o, h2⟩ <;> rw [h] at h2 <;> cases h2
    | exc nm2 h2 hd2 hl2 hr2 =>
      obtain ⟨rfl, e⟩ := XO.inj I h h2
      cases e
      rw [hd] at hd2; cases hd2
      cases XNm.inj nm nm2
      rw [pairs hl hl2 fun j x p q e1 e2 e3 => ih j x p e1 e2 (hr2 j x q e1 e3)]
    | exc0 nm2 h2 => cases (XO.inj I h h2).2
  | @exc0 a C c nm h =>
    intro q h'
    cases h' with
    | tup h2 => exact (XO.noSeq I h (.inr ⟨_, SqT.of h2⟩)).elim
    | lst h2 => exact (XO.noSeq I h (.inl ⟨_, h2⟩)).elim
    | dk h2 => rcases h2 with h2 | ⟨o, h2⟩ <;> rw [h] at h2 <;> cases h2
    | dt h2 => rcases h2 with h2 | ⟨o, h2⟩ <;> rw [h] at h2 <;> cases h2
    | exc nm2 h2 => cases (XO.inj I h h2).2
    | exc0 nm2 h2 =>
      obtain ⟨rfl, _⟩ := XO.inj I h h2
      cases XNm.inj nm nm2
      rfl
theorem eq_at0 (I : Inv X pins σ H s) : ∀ {A : Around} {x y : V} {p q : PV} {r : Bool} {u v : Value}, A.units < cLine → eqF 0 p q = some r → Rep X.K H x p → Rep X.K H y q → RelV x u → RelV y v →
    SeqAt.RcAt A s u v r ∧ SeqAt.EqAt A s u v r ∧ SeqAt.RcNeAt A s u v (!r) := by
  intro A x y p q r u v hu e rx ry ru rv
  have hu0 : A.units < cLine := hu
  match p, q, e with
  | .non, .non, e =>
    have e := Option.some.inj e
    subst e
    cases Rep.inv_non rx
    cases Rep.inv_non ry
    cases ru
    cases rv
    exact ⟨SeqAt.RcAt.none_none, SeqAt.EqAt.same _, SeqAt.RcNeAt.none_none⟩
  | .non, .bl b, e =>
    have e := Option.some.inj e
    subst e
    cases Rep.inv_non rx
    cases Rep.inv_bl ry
    cases ru
    cases rv
    exact ⟨SeqAt.RcAt.none_bool _, SeqAt.EqAt.none_bool _, SeqAt.RcNeAt.none_bool _⟩
  | .non, .int b, e =>
    have e := Option.some.inj e
    subst e
    cases Rep.inv_non rx
    cases Rep.inv_int ry
    cases ru
    obtain ⟨tb, rfl⟩ := rv
    exact ⟨SeqAt.RcAt.none_int _ _, SeqAt.EqAt.none_int _ _, SeqAt.RcNeAt.none_int _ _⟩
  | .non, .str b, e =>
    have e := Option.some.inj e
    subst e
    cases Rep.inv_non rx
    cases Rep.inv_str ry
    cases ru
    obtain ⟨tb, rfl⟩ := rv
    exact ⟨SeqAt.RcAt.none_str _ _, SeqAt.EqAt.none_str _ _, SeqAt.RcNeAt.none_str _ _⟩
  | .bl a, .non, e =>
    have e := Option.some.inj e
    subst e
    cases Rep.inv_bl rx
    cases Rep.inv_non ry
    cases ru
    cases rv
    exact ⟨SeqAt.RcAt.bool_none _, SeqAt.EqAt.bool_none _, SeqAt.RcNeAt.bool_none _⟩
  | .bl a, .bl b, e =>
    have e := Option.some.inj e
    subst e
    cases Rep.inv_bl rx
    cases Rep.inv_bl ry
    cases ru
    cases rv
    rw [← Bool.beq_eq_decide_eq]
    exact ⟨SeqAt.RcAt.bool_bool _ _, SeqAt.EqAt.bool_bool _ _, SeqAt.RcNeAt.bool_bool _ _⟩
  | .bl a, .str b, e =>
    have e := Option.some.inj e
    subst e
    cases Rep.inv_bl rx
    cases Rep.inv_str ry
    cases ru
    obtain ⟨tb, rfl⟩ := rv
    exact ⟨SeqAt.RcAt.bool_str _ _ _, SeqAt.EqAt.bool_str _ _ _, SeqAt.RcNeAt.bool_str _ _ _⟩
  | .int a, .non, e =>
    have e := Option.some.inj e
    subst e
    cases Rep.inv_int rx
    cases Rep.inv_non ry
    obtain ⟨ta, rfl⟩ := ru
    cases rv
    exact ⟨SeqAt.RcAt.int_none _ _, SeqAt.EqAt.int_none _ _, SeqAt.RcNeAt.int_none _ _⟩
  | .int a, .int b, e =>
    have e := Option.some.inj e
    subst e
    cases Rep.inv_int rx
    cases Rep.inv_int ry
    obtain ⟨ta, rfl⟩ := ru
    obtain ⟨tb, rfl⟩ := rv
    rw [← Bool.beq_eq_decide_eq]
    exact ⟨SeqAt.RcAt.int_int _ _ _ _, SeqAt.EqAt.int_int _ _ _ _, SeqAt.RcNeAt.int_int _ _ _ _⟩
  | .int a, .str b, e =>
    have e := Option.some.inj e
    subst e
    cases Rep.inv_int rx
    cases Rep.inv_str ry
    obtain ⟨ta, rfl⟩ := ru
    obtain ⟨tb, rfl⟩ := rv
    exact ⟨SeqAt.RcAt.int_str _ _ _ _, SeqAt.EqAt.int_str _ _ _ _, SeqAt.RcNeAt.int_str _ _ _ _⟩
  | .str a, .non, e =>
    have e := Option.some.inj e
    subst e
    cases Rep.inv_str rx
    cases Rep.inv_non ry
    obtain ⟨ta, rfl⟩ := ru
    cases rv
    exact ⟨SeqAt.RcAt.str_none _ _, SeqAt.EqAt.str_none _ _, SeqAt.RcNeAt.str_none _ _⟩
  | .str a, .bl b, e =>
    have e := Option.some.inj e
    subst e
    cases Rep.inv_str rx
    cases Rep.inv_bl ry
    obtain ⟨ta, rfl⟩ := ru
    cases rv
    exact ⟨SeqAt.RcAt.str_bool _ _ _, SeqAt.EqAt.str_bool _ _ _, SeqAt.RcNeAt.str_bool _ _ _⟩
  | .str a, .int b, e =>
    have e := Option.some.inj e
    subst e
    cases Rep.inv_str rx
    cases Rep.inv_int ry
    obtain ⟨ta, rfl⟩ := ru
    obtain ⟨tb, rfl⟩ := rv
    exact ⟨SeqAt.RcAt.str_int _ _ _ _, SeqAt.EqAt.str_int _ _ _ _, SeqAt.RcNeAt.str_int _ _ _ _⟩
  | .str a, .str b, e =>
    have e := Option.some.inj e
    subst e
    cases Rep.inv_str rx
    cases Rep.inv_str ry
    obtain ⟨ta, rfl⟩ := ru
    obtain ⟨tb, rfl⟩ := rv
    rw [← Bool.beq_eq_decide_eq]
    exact ⟨SeqAt.RcAt.str_str _ _ _ _, SeqAt.EqAt.str_str _ _ _ _, SeqAt.RcNeAt.str_str _ _ _ _⟩
  | .tup a, .non, e =>
    have e := Option.some.inj e
    subst e
    obtain ⟨aa, xsa, rfl, ha, _⟩ := rx.inv_tup
    cases ru
    obtain ⟨_, _, pa, _⟩ := I.tuple ha
    cases Rep.inv_non ry
    cases rv
    exact ⟨SeqAt.RcAt.tuple_none pa hu0, SeqAt.EqAt.tuple_none pa hu0, SeqAt.RcNeAt.tuple_none pa hu0⟩
  | .non, .tup b, e =>
    have e := Option.some.inj e
    subst e
    cases Rep.inv_non rx
    cases ru
    obtain ⟨ab, xsb, rfl, hb, _⟩ := ry.inv_tup
    cases rv
    obtain ⟨_, _, pb, _⟩ := I.tuple hb
    exact ⟨SeqAt.RcAt.none_tuple pb hu0, SeqAt.EqAt.none_tuple pb hu0, SeqAt.RcNeAt.none_tuple pb hu0⟩
  | .tup a, .int b, e =>
    have e := Option.some.inj e
    subst e
    obtain ⟨aa, xsa, rfl, ha, _⟩ := rx.inv_tup
    cases ru
    obtain ⟨_, _, pa, _⟩ := I.tuple ha
    cases Rep.inv_int ry
    obtain ⟨tb, rfl⟩ := rv
    exact ⟨SeqAt.RcAt.tuple_int _ _ pa hu0, SeqAt.EqAt.tuple_int _ _ pa hu0, SeqAt.RcNeAt.tuple_int _ _ pa hu0⟩
  | .int a, .tup b, e =>
    have e := Option.some.inj e
    subst e
    cases Rep.inv_int rx
    obtain ⟨ta, rfl⟩ := ru
    obtain ⟨ab, xsb, rfl, hb, _⟩ := ry.inv_tup
    cases rv
    obtain ⟨_, _, pb, _⟩ := I.tuple hb
    exact ⟨SeqAt.RcAt.int_tuple _ _ pb hu0, SeqAt.EqAt.int_tuple _ _ pb hu0, SeqAt.RcNeAt.int_tuple _ _ pb hu0⟩
  | .tup a, .str b, e =>
    have e := Option.some.inj e
    subst e
    obtain ⟨aa, xsa, rfl, ha, _⟩ := rx.inv_tup
    cases ru
    obtain ⟨_, _, pa, _⟩ := I.tuple ha
    cases Rep.inv_str ry
    obtain ⟨tb, rfl⟩ := rv
    exact ⟨SeqAt.RcAt.tuple_str _ _ pa hu0, SeqAt.EqAt.tuple_str _ _ pa hu0, SeqAt.RcNeAt.tuple_str _ _ pa hu0⟩
  | .str a, .tup b, e =>
    have e := Option.some.inj e
    subst e
    cases Rep.inv_str rx
    obtain ⟨ta, rfl⟩ := ru
    obtain ⟨ab, xsb, rfl, hb, _⟩ := ry.inv_tup
    cases rv
    obtain ⟨_, _, pb, _⟩ := I.tuple hb
    exact ⟨SeqAt.RcAt.str_tuple _ _ pb hu0, SeqAt.EqAt.str_tuple _ _ pb hu0, SeqAt.RcNeAt.str_tuple _ _ pb hu0⟩
  | .lst a, .non, e =>
    have e := Option.some.inj e
    subst e
    obtain ⟨aa, xsa, rfl, ha, _⟩ := rx.inv_lst
    cases ru
    obtain ⟨_, _, pa, _⟩ := I.list ha
    cases Rep.inv_non ry
    cases rv
    exact ⟨SeqAt.RcAt.list_none pa.isList hu0, SeqAt.EqAt.list_none pa.isList hu0, SeqAt.RcNeAt.list_none pa.isList hu0⟩
  | .non, .lst b, e =>
    have e := Option.some.inj e
    subst e
    cases Rep.inv_non rx
    cases ru
    obtain ⟨ab, xsb, rfl, hb, _⟩ := ry.inv_lst
    cases rv
    obtain ⟨_, _, pb, _⟩ := I.list hb
    exact ⟨SeqAt.RcAt.none_list pb.isList hu0, SeqAt.EqAt.none_list pb.isList hu0, SeqAt.RcNeAt.none_list pb.isList hu0⟩
  | .lst a, .int b, e =>
    have e := Option.some.inj e
    subst e
    obtain ⟨aa, xsa, rfl, ha, _⟩ := rx.inv_lst
    cases ru
    obtain ⟨_, _, pa, _⟩ := I.list ha
    cases Rep.inv_int ry
    obtain ⟨tb, rfl⟩ := rv
    exact ⟨SeqAt.RcAt.list_int _ _ pa.isList hu0, SeqAt.EqAt.list_int _ _ pa.isList hu0, SeqAt.RcNeAt.list_int _ _ pa.isList hu0⟩
  | .int a, .lst b, e =>
    have e := Option.some.inj e
    subst e
    cases Rep.inv_int rx
    obtain ⟨ta, rfl⟩ := ru
    obtain ⟨ab, xsb, rfl, hb, _⟩ := ry.inv_lst
    cases rv
    obtain ⟨_, _, pb, _⟩ := I.list hb
    exact ⟨SeqAt.RcAt.int_list _ _ pb.isList hu0, SeqAt.EqAt.int_list _ _ pb.isList hu0, SeqAt.RcNeAt.int_list _ _ pb.isList hu0⟩
  | .lst a, .str b, e =>
    have e := Option.some.inj e
    subst e
    obtain ⟨aa, xsa, rfl, ha, _⟩ := rx.inv_lst
    cases ru
    obtain ⟨_, _, pa, _⟩ := I.list ha
    cases Rep.inv_str ry
    obtain ⟨tb, rfl⟩ := rv
    exact ⟨SeqAt.RcAt.list_str _ _ pa.isList hu0, SeqAt.EqAt.list_str _ _ pa.isList hu0, SeqAt.RcNeAt.list_str _ _ pa.isList hu0⟩
  | .str a, .lst b, e =>
    have e := Option.some.inj e
    subst e
    cases Rep.inv_str rx
    obtain ⟨ta, rfl⟩ := ru
    obtain ⟨ab, xsb, rfl, hb, _⟩ := ry.inv_lst
    cases rv
    obtain ⟨_, _, pb, _⟩ := I.list hb
    exact ⟨SeqAt.RcAt.str_list _ _ pb.isList hu0, SeqAt.EqAt.str_list _ _ pb.isList hu0, SeqAt.RcNeAt.str_list _ _ pb.isList hu0⟩
  | .lst a, .tup b, e =>
    have e := Option.some.inj e
    subst e
    obtain ⟨aa, xsa, rfl, ha, _⟩ := rx.inv_lst
    cases ru
    obtain ⟨_, _, pa, _⟩ := I.list ha
    obtain ⟨ab, xsb, rfl, hb, _⟩ := ry.inv_tup
    cases rv
    obtain ⟨_, _, pb, _⟩ := I.tuple hb
    exact ⟨SeqAt.RcAt.list_tuple pa.isList pb hu0, SeqAt.EqAt.list_tuple pa.isList pb hu0, SeqAt.RcNeAt.list_tuple pa.isList pb hu0⟩
  | .tup a, .lst b, e =>
    have e := Option.some.inj e
    subst e
    obtain ⟨aa, xsa, rfl, ha, _⟩ := rx.inv_tup
    cases ru
    obtain ⟨_, _, pa, _⟩ := I.tuple ha
    obtain ⟨ab, xsb, rfl, hb, _⟩ := ry.inv_lst
    cases rv
    obtain ⟨_, _, pb, _⟩ := I.list hb
    exact ⟨SeqAt.RcAt.tuple_list pa pb.isList hu0, SeqAt.EqAt.tuple_list pa pb.isList hu0, SeqAt.RcNeAt.tuple_list pa pb.isList hu0⟩
noncomputable def isRec : PV → PV → Bool
  | .tup _, .tup _ => true
  | .lst _, .lst _ => true
  | _, _ => false
theorem eqF_flat {n : Nat} {p q : PV} (h : isRec p q = false) : eqF (n + 1) p q = eqF 0 p q := by
  cases p <;> cases q <;> first | rfl | cases h
theorem isRec_inv : ∀ {p q : PV}, isRec p q = true → (∃ l m, p = .tup l ∧ q = .tup m) ∨ ∃ l m, p = .lst l ∧ q = .lst m
  | .tup l, q, h => by
    cases q with
    | tup m => exact .inl ⟨l, m, rfl, rfl⟩
    | _ => cases h
  | .lst l, q, h => by
    cases q with
    | lst m => exact .inr ⟨l, m, rfl, rfl⟩
    | _ => cases h
theorem eq_at (I : Inv X pins σ H s) : ∀ (n : Nat) {A : Around} {x y : V} {p q : PV} {r : Bool} {u v : Value}, A.units + n < cLine → eqF n p q = some r → Rep X.K H x p → Rep X.K H y q → RelV x u → RelV y v →
    SeqAt.RcAt A s u v r ∧ SeqAt.EqAt A s u v r ∧ SeqAt.RcNeAt A s u v (!r) := by
  intro n
  induction n with
  | zero => exact fun hu e => eq_at0 I (by omega) e
  | succ n ih =>
    intro A x y p q r u v hu e rx ry ru rv
    have hu0 : A.units < cLine := by omega
    cases hr : isRec p q with
    | false => exact eq_at0 I hu0 (by rw [← eqF_flat hr]; exact e) rx ry ru rv
    | true =>
    rcases isRec_inv hr with ⟨l, m, rfl, rfl⟩ | ⟨l, m, rfl, rfl⟩
    · have e : eqL (eqF n) l m = some r := e
      obtain ⟨a, xs, rfl, ha, r1⟩ := rx.inv_tup
      obtain ⟨b, ys, rfl, hb, r2⟩ := ry.inv_tup
      cases ru
      cases rv
      obtain ⟨i1, v1, t1, _⟩ := I.tuple ha
      obtain ⟨i2, v2, t2, _⟩ := I.tuple hb
      obtain ⟨g, g1, g2⟩ := eqL_get e
      have hj : ∀ j (h1 : j < i1.toArray.size) (h2 : j < i2.toArray.size), SeqAt.EqAt A.in1 s i1.toArray[j] i2.toArray[j] (g j) := fun j h1 h2 => by
        obtain ⟨x, hx, rx'⟩ := vals_at v1 h1
        obtain ⟨y, hy, ry'⟩ := vals_at v2 h2
        obtain ⟨p', hp, rp⟩ := r1.got hx
        obtain ⟨q', hq, rq⟩ := r2.got hy
        exact (ih (A := A.in1) (show A.units + 1 + n < cLine by omega) (g1 j p' q' hp hq) rp rq rx' ry').2.1
      have rc := SeqAt.RcAt.tuples (A := A) (e := g) t1 t2 hu0 hj
      have rn := SeqAt.RcNeAt.tuples (A := A) (e := g) t1 t2 hu0 hj
      rw [List.size_toArray, List.size_toArray, ← v1.length, ← v2.length, r1.1, r2.1, ← g2] at rc rn
      refine ⟨rc, ?_, rn⟩
      by_cases hab : a = b
      · subst hab
        have epq : PV.tup l = PV.tup m := Rep.inj I rx ry
        cases epq
        have er := eqL_refl (eqF_refl n) e
        subst er
        exact SeqAt.EqAt.same _
      · exact .of_refs hab rc
    · obtain ⟨a, xs, rfl, ha, r1⟩ := rx.inv_lst
      obtain ⟨b, ys, rfl, hb, r2⟩ := ry.inv_lst
      cases ru
      cases rv
      obtain ⟨i1, v1, t1, _⟩ := I.list ha
      obtain ⟨i2, v2, t2, _⟩ := I.list hb
      have e : (if l.length = m.length then eqL (eqF n) l m else some false) = some r := e
      split at e
      · rename_i hlm
        obtain ⟨g, g1, g2⟩ := eqL_get e
        have hz : i1.toArray.size = i2.toArray.size := by rw [List.size_toArray, List.size_toArray, ← v1.length, ← v2.length, r1.1, r2.1]; exact hlm
        have hj : ∀ j (h1 : j < i1.toArray.size) (h2 : j < i2.toArray.size), SeqAt.EqAt A.in1 s i1.toArray[j] i2.toArray[j] (g j) := fun j h1 h2 => by
          obtain ⟨x, hx, rx'⟩ := vals_at v1 h1
          obtain ⟨y, hy, ry'⟩ := vals_at v2 h2
          obtain ⟨p', hp, rp⟩ := r1.got hx
          obtain ⟨q', hq, rq⟩ := r2.got hy
          exact (ih (A := A.in1) (show A.units + 1 + n < cLine by omega) (g1 j p' q' hp hq) rp rq rx' ry').2.1
        have rc := SeqAt.RcAt.lists (A := A) (e := g) t1.isList t2.isList hz hu0 hj
        have e2 : r = (List.range l.length).all g := by rw [g2, ← hlm, Nat.min_self, beq_self_eq_true, Bool.and_true]
        have rn := SeqAt.RcNeAt.lists (A := A) (e := g) t1.isList t2.isList hz hu0 hj
        rw [List.size_toArray, ← v1.length, r1.1, ← e2] at rc rn
        refine ⟨rc, ?_, rn⟩
        by_cases hab : a = b
        · subst hab
          have epq : PV.lst l = PV.lst m := Rep.inj I rx ry
          cases epq
          have er := eqL_refl (eqF_refl n) e
          subst er
          exact SeqAt.EqAt.same _
        · exact .of_refs hab rc
      · rename_i hlm
        cases e
        have hz : (i1.toArray.size != i2.toArray.size) = true := by rw [List.size_toArray, List.size_toArray, ← v1.length, ← v2.length, r1.1, r2.1]; simpa using hlm
        have rc := SeqAt.RcAt.lists_lengths (A := A) t1.isList t2.isList hz hu0
        have hab : a ≠ b := fun z => by
          subst z
          have epq : PV.lst l = PV.lst m := Rep.inj I rx ry
          cases epq
          exact hlm rfl
        exact ⟨rc, .of_refs hab rc, SeqAt.RcNeAt.lists_lengths (A := A) t1.isList t2.isList hz hu0⟩
end
end L2.MP

namespace L2.MP
open PySem PySem.Spec PyProof.Rows
section
variable {X : Cx} {k : Nat}
theorem OpR.or {f : Value → Value → Sem Value} {r r' : R2} (h : OpR X f r) (h' : OpR X f r') : OpR X f (fun x y H Q => r x y H Q ∨ r' x y H Q) := by
  intro pins s σ H x y v u Q I rx ry q
  rcases q with q | q
  · exact h pins s σ H x y v u Q I rx ry q
  · exact h' pins s σ H x y v u Q I rx ry q
noncomputable def rEqM (K : PySem.W.Frag) : R2 := fun x y H Q => ∃ p q r, Rep K H x p ∧ Rep K H y q ∧ eqF 32 p q = some r ∧ Q (.bl r) H
noncomputable def rNeM (K : PySem.W.Frag) : R2 := fun x y H Q => ∃ p q r, Rep K H x p ∧ Rep K H y q ∧ eqF 32 p q = some r ∧ Q (.bl (!r)) H
theorem op_eqM (hr : Room k X.A) : OpR X (compareOp .Eq) (rEqM X.K) := by
  intro pins s σ H x y v u Q I rx ry h
  obtain ⟨p, q, r, h1, h2, e, h3⟩ := h
  exact (eq_at I 32 (room32 hr) e h1 h2 rx ry).1 X.prog X.w X.xe _ ⟨.bl r, H, I, rfl, h3⟩
theorem op_neM (hr : Room k X.A) : OpR X (compareOp .NotEq) (rNeM X.K) := by
  intro pins s σ H x y v u Q I rx ry h
  obtain ⟨p, q, r, h1, h2, e, h3⟩ := h
  exact (eq_at I 32 (room32 hr) e h1 h2 rx ry).2.2 X.prog X.w X.xe _ ⟨.bl (!r), H, I, rfl, h3⟩
noncomputable def inF (p : PV) : List PV → Option Bool
  | [] => some false
  | x :: xs => match eqF 31 x p, inF p xs with
    | some a, some b => some (a || b)
    | _, _ => none
theorem inF_get {p : PV} : ∀ {l : List PV} {r : Bool}, inF p l = some r → ∃ e : Nat → Bool, (∀ (j : Nat) x, l[j]? = some x → eqF 31 x p = some (e j)) ∧ r = (List.range l.length).any e
  | [], r, h => ⟨fun _ => true, fun j x a => by simp at a, by cases h; rfl⟩
  | x :: xs, r, h => by
    rw [inF] at h
    split at h
    · rename_i a b h1 h2
      cases h
      obtain ⟨e, e1, e2⟩ := inF_get h2
      refine ⟨fun j => match j with | 0 => a | j + 1 => e j, fun j x' a' => ?_, ?_⟩
      · cases j with
        | zero => simp at a'; subst a'; exact h1
        | succ j => exact e1 j x' (by simpa using a')
      · rw [e2, List.length_cons, List.range_succ_eq_map, List.any_cons, List.any_map]
        rfl
    · cases h
noncomputable def rInM (K : PySem.W.Frag) (neg : Bool) : R2 := fun x y H Q => ∃ p l r, Rep K H x p ∧ (Rep K H y (.lst l) ∨ Rep K H y (.tup l)) ∧ inF p l = some r ∧ Q (.bl (if neg = true then !r else r)) H
theorem items_at {pins : List (Addr × Obj)} {σ : St} {H : Hp} {s : Shared} (I : Inv X pins σ H s) (hr : Room k X.A) {x : V} {v : Value} {p : PV} {xs : List V} {its : List Value} {l : List PV} {r : Bool} (rx : RelV x v) (h1 : Rep X.K H x p) (rv : Vals xs its) (hl : Reps X.K H xs l) (e : inF p l = some r) :
    ∃ f : Value → Bool, (∀ y, y ∈ its.toArray → SeqAt.EqAt X.A.in1 s y v (f y)) ∧ its.toArray.any f = r := by
  obtain ⟨g, g1, g2⟩ := inF_get e
  have key : ∀ w' ∈ its, ∃ j, ∃ hj : j < its.length, its[j] = w' := fun w' hw => by
    obtain ⟨j, hj, e⟩ := List.mem_iff_getElem.mp hw
    exact ⟨j, hj, e⟩
  have look : ∀ (j : Nat) (hj : j < its.length), ∃ z q, l[j]? = some q ∧ RelV z its[j] ∧ Rep X.K H z q ∧ eqF 31 q p = some (g j) := fun j hj => by
    obtain ⟨z, hz, rz⟩ := vals_at rv (j := j) (by simpa using hj)
    obtain ⟨q, hq, rq⟩ := hl.got hz
    exact ⟨z, q, hq, by simpa using rz, rq, g1 j q hq⟩
  classical
  let f : Value → Bool := fun w' => if h : ∃ j, ∃ hj : j < its.length, its[j] = w' then g (Classical.choose h) else false
  have fe : ∀ (j : Nat) (hj : j < its.length), f its[j] = g j := fun j hj => by
    have hx : ∃ i, ∃ hi : i < its.length, its[i] = its[j] := ⟨j, hj, rfl⟩
    show (if h : ∃ i, ∃ hi : i < its.length, its[i] = its[j] then g (Classical.choose h) else false) = g j
    rw [dif_pos hx]
    obtain ⟨h1', h2'⟩ := Classical.choose_spec hx
    generalize Classical.choose hx = i at h1' h2' ⊢
    obtain ⟨z, q, _, rz, rq, eq1⟩ := look i h1'
    obtain ⟨z', q', _, rz', rq', eq2⟩ := look j hj
    rw [h2'] at rz
    cases rz.inj rz'
    cases Rep.inj I rq rq'
    rw [eq1] at eq2
    exact Option.some.inj eq2
  refine ⟨f, fun y hy => ?_, ?_⟩
  · obtain ⟨j, hj, e1⟩ := key y (by simpa using hy)
    obtain ⟨z, q, _, rz, rq, eq1⟩ := look j hj
    rw [← e1, fe j hj]
    exact (eq_at I 31 (A := X.A.in1) (show X.A.units + 1 + 31 < cLine by have := room32 hr; omega) eq1 rq h1 rz rx).2.1
  · have hlen : its.length = l.length := by rw [← rv.length, hl.1]
    rw [g2, show its.toArray.any f = its.any f by simp, Bool.eq_iff_iff, List.any_eq_true, List.any_eq_true]
    constructor
    · rintro ⟨w', hw, hf⟩
      obtain ⟨j, hj, e1⟩ := key w' hw
      exact ⟨j, List.mem_range.mpr (by omega), by rw [← fe j hj, e1]; exact hf⟩
    · rintro ⟨j, hj, hf⟩
      have hj' : j < its.length := by rw [hlen]; exact List.mem_range.mp hj
      exact ⟨its[j], List.getElem_mem hj', by rw [fe j hj']; exact hf⟩
theorem op_inM (hr : Room k X.A) : OpR X (compareOp .In) (rInM X.K false) := by
  intro pins s σ H x y v u Q I rx ry h
  obtain ⟨p, l, r, h1, h2, e, q⟩ := h
  rcases h2 with h2 | h2
  · obtain ⟨a, xs, rfl, hq, rr⟩ := h2.inv_lst
    cases ry
    obtain ⟨its, rv, pl, _⟩ := I.list hq
    obtain ⟨f, f1, f2⟩ := items_at I hr rx h1 rv rr e
    exact SeqAt.in_listAt f pl.isList f1 (by rw [f2]; exact ⟨.bl _, H, I, rfl, q⟩)
  · obtain ⟨a, xs, rfl, hq, rr⟩ := h2.inv_tup
    cases ry
    obtain ⟨its, rv, pl, _⟩ := I.tuple hq
    obtain ⟨f, f1, f2⟩ := items_at I hr rx h1 rv rr e
    exact SeqAt.in_tupleAt f pl f1 (by rw [f2]; exact ⟨.bl _, H, I, rfl, q⟩)
theorem op_notinM (hr : Room k X.A) : OpR X (compareOp .NotIn) (rInM X.K true) := by
  intro pins s σ H x y v u Q I rx ry h
  obtain ⟨p, l, r, h1, h2, e, q⟩ := h
  rcases h2 with h2 | h2
  · obtain ⟨a, xs, rfl, hq, rr⟩ := h2.inv_lst
    cases ry
    obtain ⟨its, rv, pl, _⟩ := I.list hq
    obtain ⟨f, f1, f2⟩ := items_at I hr rx h1 rv rr e
    exact SeqAt.notIn_listAt f pl.isList f1 (by rw [f2]; exact ⟨.bl _, H, I, rfl, q⟩)
  · obtain ⟨a, xs, rfl, hq, rr⟩ := h2.inv_tup
    cases ry
    obtain ⟨its, rv, pl, _⟩ := I.tuple hq
    obtain ⟨f, f1, f2⟩ := items_at I hr rx h1 rv rr e
    exact SeqAt.notIn_tupleAt f pl f1 (by rw [f2]; exact ⟨.bl _, H, I, rfl, q⟩)
noncomputable def rInU (K : PySem.W.Frag) : R2 := fun x y H Q => rInM K false x y H Q ∨ ∃ i j, x = .str i ∧ y = .str j ∧ Q (.bl (!(Builtin.Str.occurrences j i 0 j.length 1).isEmpty)) H
noncomputable def rNotinU (K : PySem.W.Frag) : R2 := fun x y H Q => rInM K true x y H Q ∨ ∃ i j, x = .str i ∧ y = .str j ∧ Q (.bl (!(!(Builtin.Str.occurrences j i 0 j.length 1).isEmpty))) H
theorem op_inU (hr : Room k X.A) : OpR X (compareOp .In) (rInU X.K) := OpR.or (op_inM hr) op_in_str
theorem op_notinU (hr : Room k X.A) : OpR X (compareOp .NotIn) (rNotinU X.K) := OpR.or (op_notinM hr) op_notin_str
noncomputable def rAddU (K : PySem.W.Frag) : R2 := fun x y H Q => rI0 (fun i j => .int (i + j)) x y H Q ∨ (∃ i j, x = .str i ∧ y = .str j ∧ i.length + j.length ≤ sizeLine ∧ Q (.str (i ++ j)) H) ∨ rCatT K x y H Q
theorem op_addU : OpR X (binaryOp .Add) (rAddU X.K) := OpR.or op_add (OpR.or op_add_str op_catT)
noncomputable def rMulU : R2 := fun x y H Q => rI CMul (fun i j => .int (i * j)) x y H Q ∨ ∃ z n, x = .str z ∧ y = .int n ∧ -(2 ^ 63) ≤ n ∧ n < 2 ^ 63 ∧ z.length * n.toNat ≤ sizeLine ∧ Q (.str ⟨(List.replicate n.toNat z.cps).foldl (· ++ ·) #[]⟩) H
theorem op_mulU : OpR X (binaryOp .Mult) rMulU := by
  refine OpR.or op_mul ?_
  intro pins s σ H x y v u Q I rx ry h
  obtain ⟨z, n, rfl, rfl, h1, h2, h3, q⟩ := h
  obtain ⟨t, rfl⟩ := rx
  obtain ⟨t', rfl⟩ := ry
  have fin : ∀ t k, EP X pins σ Q (.str ⟨(List.replicate n.toNat z.cps).foldl (· ++ ·) #[]⟩ t) { s with toks := k } := fun t k => ⟨.str _, H, I.tok _, ⟨t, rfl⟩, q⟩
  have hr : (decide (n < -(2 ^ 63 : Int)) || decide (n ≥ 2 ^ 63)) = false := by
    rw [decide_eq_false (by omega), decide_eq_false (by omega)]; rfl
  refine PySem.P.mul_str hr (fun h4 h5 => ?_) (fun h4 h5 => ?_) ?_
  · have hn : 1 ≤ n := by omega
    have h6 : z.length ≤ sizeLine := by
      have : z.length * 1 ≤ z.length * n.toNat := Nat.mul_le_mul_left _ (by omega)
      omega
    have h7 : n ≠ 1 := fun e => by subst e; simp at h5
    have h8 : (z.length : Int) * n ≤ 16777216 := by
      have e : (z.length : Int) * n = ((z.length * n.toNat : Nat) : Int) := by
        rw [Int.natCast_mul, Int.toNat_of_nonneg (by omega)]
      rw [e]
      have : z.length * n.toNat ≤ 16777216 := h3
      omega
    have h9 : (z.length : Int) ≤ (2 ^ 63 - 1) / n := by
      apply (Int.le_ediv_iff_mul_le (by omega)).mpr
      omega
    omega
  · unfold Builtin.Str.tooLong
    exact decide_eq_false (by omega)
  · by_cases h4 : n < 1
    · rw [if_pos h4]
      have e : n.toNat = 0 := by omega
      rw [e] at fin
      exact ⟨Nat.zero_le _, fin _ _⟩
    · rw [if_neg h4]
      refine post_val_or_str ⟨?_, fun t' k => ?_⟩
      · have e1 : ∀ (m : Nat) (acc : Array Nat), ((List.replicate m z.cps).foldl (· ++ ·) acc).size = acc.size + m * z.cps.size := fun m => by
          induction m with
          | zero => intro acc; simp
          | succ m ih => intro acc; rw [List.replicate_succ, List.foldl_cons, ih, Array.size_append, Nat.succ_mul]; omega
        have h6 : z.length ≤ sizeLine := by
          have : z.length * 1 ≤ z.length * n.toNat := Nat.mul_le_mul_left _ (by omega)
          omega
        split
        · exact h6
        · show ((List.replicate n.toNat z.cps).foldl (· ++ ·) #[]).size ≤ sizeLine
          rw [e1, Nat.mul_comm]
          show 0 + z.length * n.toNat ≤ _
          omega
      · have fz := fin t' k
        split
        · rename_i h5
          have e : (⟨(List.replicate n.toNat z.cps).foldl (· ++ ·) #[]⟩ : Str) = z := by
            rcases Bool.or_eq_true _ _ ▸ h5 with h | h
            · have : n = 1 := by simpa using h
              subst this
              show (⟨#[] ++ z.cps⟩ : Str) = z
              rw [Array.empty_append]
            · have h1 : z.length = 0 := by simpa using h
              have h0 : z.cps = #[] := Array.eq_empty_of_size_eq_zero h1
              have e2 : ∀ m : Nat, (List.replicate m (#[] : Array Nat)).foldl (· ++ ·) #[] = #[] := fun m => by
                induction m with
                | zero => rfl
                | succ m ih => rw [List.replicate_succ, List.foldl_cons]; exact ih
              cases z with
              | mk c => cases h0; rw [e2]
          rw [e] at fz
          exact fz
        · exact fz
noncomputable def rLtU : R2 := fun x y H Q => rI0 (fun i j => .bl (decide (i < j))) x y H Q ∨ ∃ i j, x = .str i ∧ y = .str j ∧ Q (.bl (decide (i.cps.toList < j.cps.toList))) H
theorem op_ltU : OpR X (compareOp .Lt) rLtU := OpR.or op_lt op_lt_str
noncomputable def rLeU : R2 := fun x y H Q => rI0 (fun i j => .bl (decide (i ≤ j))) x y H Q ∨ ∃ i j, x = .str i ∧ y = .str j ∧ Q (.bl (!(decide (j.cps.toList < i.cps.toList)))) H
theorem op_leU : OpR X (compareOp .LtE) rLeU := OpR.or op_le op_le_str
theorem meets_cat (l b : Addr) (i1 i2 : Array Value) (n1 n2 : Nat) (s1 s2 : Array (Option Value)) (hz : i1.size + i2.size ≤ sizeLine) :
    Meets (Builtin.«list.__add__» ⟨[.ref l, .ref b], []⟩) (fun _ R s => s.heap.get? l = some ⟨.type "list", none, .seq i1 n1, s1⟩ ∧ s.heap.get? b = some ⟨.type "list", none, .seq i2 n2, s2⟩ ∧
      R (.ok (.ret (Value.ref s.heap.objs.size))) { s with heap := s.heap.push { cls := Value.type "list", data := Data.seq (i1 ++ i2) } }) := by
  refine .of_wp fun prog w A R s h => ?_
  obtain ⟨hp, g, d, tk, os⟩ := s
  obtain ⟨h1, h2, h⟩ := h
  have f1 := AutoSeq1.idx_int
  have f2 := AutoSeq1.sub_tuple_tuple
  have f3 := AutoSeq1.sub_list_list
  have f4 := AutoSeq1.sub_tuple_list
  have f5 := AutoSeq1.sub_list_tuple
  wp_walk using AutoSeq1.wpAny_loadPart' h1, AutoSeq1.wpAny_loadPart' h2
  exact ⟨_, rfl, h⟩
theorem op_catS : OpR X (binaryOp .Add) (fun x y H Q => ∃ l b xs zs, x = .ref l ∧ y = .ref b ∧ SqL X.K H l xs ∧ SqL X.K H b zs ∧ xs.length + zs.length ≤ sizeLine ∧ ∀ p, H p = none → Q (.ref p) (upd H p (.lst (xs ++ zs)))) := by
  intro pins s σ H x y v u Q I rx ry h
  obtain ⟨l, b, xs, zs, rfl, rfl, hH, hB, hz, q⟩ := h
  cases rx
  cases ry
  obtain ⟨its, r, ⟨⟨cl1, dd1, da1, sl1⟩, n1, g1, c1, d1, e1⟩, z1⟩ := I.list hH
  obtain ⟨its2, r2, ⟨⟨cl2, dd2, da2, sl2⟩, n2, g2, c2, d2, e2⟩, z2⟩ := I.list hB
  simp only at c1 d1 e1 c2 d2 e2
  subst c1 d1 e1 c2 d2 e2
  have hs : its.toArray.size + its2.toArray.size ≤ sizeLine := by rw [List.size_toArray, List.size_toArray, ← r.length, ← r2.length]; exact hz
  refine concat_meets ⟨_, g1, rfl⟩ ⟨_, g2, rfl⟩ noFill_list_add seq_list_add F.slot_list_add F.entry_list_add (F.args_list_add_2 _ _) (meets_cat l b its.toArray its2.toArray n1 n2 sl1 sl2 hs) ⟨g1, g2, ?_⟩
  have ea : its.toArray ++ its2.toArray = (its ++ its2).toArray := by simp
  rw [ea]
  exact ⟨.ref _, _, I.lnew (t' := s.toks) (r.append r2) (by rw [List.length_append]; omega), rfl, q _ I.fresh⟩
end
end L2.MP

namespace L2.MP
open PySem PySem.Spec PyProof.Rows
theorem noS {α : Type} {r : α} {C : Prop} (e : (none : Option α) = some r) : C := by cases e
noncomputable def opI (c : Int → Int → Bool) (f : Int → Int → PV) : PV → PV → Option (Res PV)
  | .int i, .int j => if c i j = true then some (.ok (f i j)) else none
  | _, _ => none
noncomputable def cT : Int → Int → Bool := fun _ _ => true
noncomputable def cMul : Int → Int → Bool := fun i j => decide ((-(2 ^ 64) < i ∧ i < 2 ^ 64) ∨ (-(2 ^ 64) < j ∧ j < 2 ^ 64))
noncomputable def cDiv : Int → Int → Bool := fun _ j => decide (0 < j ∧ j < 1073741824)
noncomputable def cMod : Int → Int → Bool := fun _ j => decide (0 < j)
noncomputable def cPow : Int → Int → Bool := fun i j => decide (0 ≤ j ∧ j ≤ 1000000 ∧ i.natAbs < 2 ^ 64)
noncomputable def opSub := opI cT fun i j => .int (i - j)
noncomputable def opDiv := opI cDiv fun i j => .int (i / j)
noncomputable def opMod := opI cMod fun i j => .int (i % j)
noncomputable def opPow := opI cPow fun i j => .int (i ^ j.toNat)
noncomputable def opGt := opI cT fun i j => .bl (decide (j < i))
noncomputable def opGe := opI cT fun i j => .bl (decide (j ≤ i))
noncomputable def opAdd : PV → PV → Option (Res PV)
  | .int i, .int j => some (.ok (.int (i + j)))
  | .str i, .str j => if i.length + j.length ≤ sizeLine then some (.ok (.str (i ++ j))) else none
  | .tup l, .tup m => if l ≠ [] ∧ l.length + m.length ≤ sizeLine then some (.ok (.tup (l ++ m))) else none
  | _, _ => none
noncomputable def repS (z : Str) (n : Nat) : Str := ⟨(List.replicate n z.cps).foldl (· ++ ·) #[]⟩
noncomputable def opMul : PV → PV → Option (Res PV)
  | .int i, .int j => if cMul i j = true then some (.ok (.int (i * j))) else none
  | .str z, .int n => if -(2 ^ 63) ≤ n ∧ n < 2 ^ 63 ∧ z.length * n.toNat ≤ sizeLine then some (.ok (.str (repS z n.toNat))) else none
  | _, _ => none
noncomputable def opLt : PV → PV → Option (Res PV)
  | .int i, .int j => some (.ok (.bl (decide (i < j))))
  | .str i, .str j => some (.ok (.bl (decide (i.cps.toList < j.cps.toList))))
  | _, _ => none
noncomputable def opLe : PV → PV → Option (Res PV)
  | .int i, .int j => some (.ok (.bl (decide (i ≤ j))))
  | .str i, .str j => some (.ok (.bl (!(decide (j.cps.toList < i.cps.toList)))))
  | _, _ => none
noncomputable def opEq (p q : PV) : Option (Res PV) := match eqF 32 p q with
  | some r => some (.ok (.bl r))
  | none => none
noncomputable def opNe (p q : PV) : Option (Res PV) := match eqF 32 p q with
  | some r => some (.ok (.bl (!r)))
  | none => none
noncomputable def inU (p : PV) : PV → Option Bool
  | .lst l => inF p l
  | .tup l => inF p l
  | .str j => match p with
    | .str i => some (!(Builtin.Str.occurrences j i 0 j.length 1).isEmpty)
    | _ => none
  | _ => none
noncomputable def opIn (p q : PV) : Option (Res PV) := match inU p q with
  | some r => some (.ok (.bl r))
  | none => none
noncomputable def opNotin (p q : PV) : Option (Res PV) := match inU p q with
  | some r => some (.ok (.bl (!r)))
  | none => none
noncomputable def PV.isNon : PV → Bool
  | .non => true
  | _ => false
noncomputable def opIsN (p q : PV) : Option (Res PV) := match q with
  | .non => some (.ok (.bl p.isNon))
  | _ => none
noncomputable def opNotN (p q : PV) : Option (Res PV) := match q with
  | .non => some (.ok (.bl (!p.isNon)))
  | _ => none
noncomputable def ofO (x : Option PV) : Option (Res PV) := match x with
  | some p => some (.ok p)
  | none => none
noncomputable def opIx : PV → PV → Option (Res PV)
  | .lst l, .int i => ofO (atI l i)
  | .tup l, .int i => ofO (atI l i)
  | .str z, .int i => if z.length ≤ sizeLine then ofO ((atI z.cps.toList i).map fun c => .str ⟨#[c]⟩) else none
  | _, _ => none
noncomputable def opIxV : List PV → PV → Option (Res PV)
  | l, .int i => ofO (atI l i)
  | _, _ => none
section
variable {K : PySem.W.Frag} {C : Cg} {F H : Hp}
theorem c_div {i j : Int} (h : cDiv i j = true) : CDiv i j := of_decide_eq_true (p := 0 < j ∧ j < 1073741824) h
theorem c_pow {i j : Int} (h : cPow i j = true) : CPow i j := of_decide_eq_true (p := 0 ≤ j ∧ j ≤ 1000000 ∧ i.natAbs < 2 ^ 64) h
theorem c_mul {i j : Int} (h : cMul i j = true) : CMul i j := of_decide_eq_true (p := (-(2 ^ 64) < i ∧ i < 2 ^ 64) ∨ (-(2 ^ 64) < j ∧ j < 2 ^ 64)) h
theorem r_int {c : Int → Int → Bool} {f : Int → Int → PV} {cond : Int → Int → Prop} {fv : Int → Int → V} (hc : ∀ i j, c i j = true → cond i j) (hf : ∀ i j F, Rep K F (fv i j) (f i j)) : R2M C (aF K) (aF K) (aF K) (rI cond fv) (opI c f) := by
  intro F H x y a b res Q s ha hb e P
  have inv : (∃ i j, a = .int i ∧ b = .int j) := by
    clear P ha hb
    cases a <;> first | exact noS e | (cases b <;> first | exact noS e | exact ⟨_, _, rfl, rfl⟩)
  obtain ⟨i, j, rfl, rfl⟩ := inv
  cases Rep.inv_int ha
  cases Rep.inv_int hb
  have e : (if c i j = true then some (Res.ok (f i j)) else none) = some res := e
  split at e
  · rename_i h
    cases e
    exact ⟨i, j, rfl, rfl, hc i j h, P _ F H (Up.refl s) (hf i j F)⟩
  · cases e
theorem r_int0 {f : Int → Int → PV} {fv : Int → Int → V} (hf : ∀ i j F, Rep K F (fv i j) (f i j)) : R2M C (aF K) (aF K) (aF K) (rI0 fv) (opI cT f) := by
  intro F H x y a b res Q s ha hb e P
  have inv : (∃ i j, a = .int i ∧ b = .int j) := by
    clear P ha hb
    cases a <;> first | exact noS e | (cases b <;> first | exact noS e | exact ⟨_, _, rfl, rfl⟩)
  obtain ⟨i, j, rfl, rfl⟩ := inv
  cases Rep.inv_int ha
  cases Rep.inv_int hb
  cases e
  exact ⟨i, j, rfl, rfl, P _ F H (Up.refl s) (hf i j F)⟩
theorem r_sub : R2M C (aF K) (aF K) (aF K) (rI0 fun i j => .int (i - j)) opSub := r_int0 fun _ _ _ => .int
theorem r_div : R2M C (aF K) (aF K) (aF K) (rI CDiv fun i j => .int (i / j)) opDiv := r_int (fun _ _ h => c_div h) fun _ _ _ => .int
theorem r_mod : R2M C (aF K) (aF K) (aF K) (rI (fun _ j => 0 < j) fun i j => .int (i % j)) opMod := r_int (fun _ _ h => of_decide_eq_true h) fun _ _ _ => .int
theorem r_pow : R2M C (aF K) (aF K) (aF K) (rI CPow fun i j => .int (i ^ j.toNat)) opPow := r_int (fun _ _ h => c_pow h) fun _ _ _ => .int
theorem r_gt : R2M C (aF K) (aF K) (aF K) (rI0 fun i j => .bl (decide (j < i))) opGt := r_int0 fun _ _ _ => .bl
theorem r_ge : R2M C (aF K) (aF K) (aF K) (rI0 fun i j => .bl (decide (j ≤ i))) opGe := r_int0 fun _ _ _ => .bl
theorem r_add : R2M C (aF K) (aF K) (aF K) (rAddU K) opAdd := by
  intro F H x y a b res Q s ha hb e P
  have inv : (∃ i j, a = .int i ∧ b = .int j) ∨ (∃ i j, a = .str i ∧ b = .str j) ∨ (∃ l m, a = .tup l ∧ b = .tup m) := by
    clear P ha hb
    cases a <;> first | exact noS e | (cases b <;> first | exact noS e | exact .inl ⟨_, _, rfl, rfl⟩ | exact .inr (.inl ⟨_, _, rfl, rfl⟩) | exact .inr (.inr ⟨_, _, rfl, rfl⟩))
  rcases inv with ⟨i, j, rfl, rfl⟩ | ⟨i, j, rfl, rfl⟩ | ⟨l, m, rfl, rfl⟩
  · cases Rep.inv_int ha
    cases Rep.inv_int hb
    cases e
    exact .inl ⟨i, j, rfl, rfl, P _ F H (Up.refl s) .int⟩
  · cases Rep.inv_str ha
    cases Rep.inv_str hb
    have e : (if i.length + j.length ≤ sizeLine then some (Res.ok (PV.str (i ++ j))) else none) = some res := e
    split at e
    · rename_i h
      cases e
      exact .inr (.inl ⟨i, j, rfl, rfl, h, P _ F H (Up.refl s) .str⟩)
    · cases e
  · have e : (if l ≠ [] ∧ l.length + m.length ≤ sizeLine then some (Res.ok (PV.tup (l ++ m))) else none) = some res := e
    split at e
    · rename_i h
      cases e
      obtain ⟨a1, xs, rfl, h1, r1⟩ := Rep.inv_tup ha
      obtain ⟨a2, ys, rfl, h2, r2⟩ := Rep.inv_tup hb
      have hx : xs ≠ [] := fun z => h.1 (by have := r1.1; rw [z] at this; simpa using this.symm)
      refine .inr (.inr ⟨a1, a2, xs, ys, rfl, rfl, s.tup h1, s.tup h2, hx, by rw [r1.1, r2.1]; exact h.2, fun z => ?_, fun _ p hp => ?_⟩)
      · subst z
        have hm : m = [] := by have := r2.1; simpa using this.symm
        subst hm
        rw [List.append_nil] at P
        exact P _ F H (Up.refl s) ha
      · have un := Up.new (o := .tup (xs ++ ys)) s hp
        exact P _ _ _ un (.tup upd_same (r1.append r2).1 ((r1.append r2).up un.ff).2)
    · cases e
theorem r_mul : R2M C (aF K) (aF K) (aF K) rMulU opMul := by
  intro F H x y a b res Q s ha hb e P
  have inv : (∃ i j, a = .int i ∧ b = .int j) ∨ (∃ z n, a = .str z ∧ b = .int n) := by
    clear P ha hb
    cases a <;> first | exact noS e | (cases b <;> first | exact noS e | exact .inl ⟨_, _, rfl, rfl⟩ | exact .inr ⟨_, _, rfl, rfl⟩)
  rcases inv with ⟨i, j, rfl, rfl⟩ | ⟨z, n, rfl, rfl⟩
  · cases Rep.inv_int ha
    cases Rep.inv_int hb
    have e : (if cMul i j = true then some (Res.ok (PV.int (i * j))) else none) = some res := e
    split at e
    · rename_i h
      cases e
      exact .inl ⟨i, j, rfl, rfl, c_mul h, P _ F H (Up.refl s) .int⟩
    · cases e
  · cases Rep.inv_str ha
    cases Rep.inv_int hb
    have e : (if -(2 ^ 63) ≤ n ∧ n < 2 ^ 63 ∧ z.length * n.toNat ≤ sizeLine then some (Res.ok (PV.str (repS z n.toNat))) else none) = some res := e
    split at e
    · rename_i h
      cases e
      exact .inr ⟨z, n, rfl, rfl, h.1, h.2.1, h.2.2, P _ F H (Up.refl s) .str⟩
    · cases e
theorem r_lt : R2M C (aF K) (aF K) (aF K) rLtU opLt := by
  intro F H x y a b res Q s ha hb e P
  have inv : (∃ i j, a = .int i ∧ b = .int j) ∨ (∃ i j, a = .str i ∧ b = .str j) := by
    clear P ha hb
    cases a <;> first | exact noS e | (cases b <;> first | exact noS e | exact .inl ⟨_, _, rfl, rfl⟩ | exact .inr ⟨_, _, rfl, rfl⟩)
  rcases inv with ⟨i, j, rfl, rfl⟩ | ⟨i, j, rfl, rfl⟩
  · cases Rep.inv_int ha
    cases Rep.inv_int hb
    cases e
    exact .inl ⟨i, j, rfl, rfl, P _ F H (Up.refl s) .bl⟩
  · cases Rep.inv_str ha
    cases Rep.inv_str hb
    cases e
    exact .inr ⟨i, j, rfl, rfl, P _ F H (Up.refl s) .bl⟩
theorem r_le : R2M C (aF K) (aF K) (aF K) rLeU opLe := by
  intro F H x y a b res Q s ha hb e P
  have inv : (∃ i j, a = .int i ∧ b = .int j) ∨ (∃ i j, a = .str i ∧ b = .str j) := by
    clear P ha hb
    cases a <;> first | exact noS e | (cases b <;> first | exact noS e | exact .inl ⟨_, _, rfl, rfl⟩ | exact .inr ⟨_, _, rfl, rfl⟩)
  rcases inv with ⟨i, j, rfl, rfl⟩ | ⟨i, j, rfl, rfl⟩
  · cases Rep.inv_int ha
    cases Rep.inv_int hb
    cases e
    exact .inl ⟨i, j, rfl, rfl, P _ F H (Up.refl s) .bl⟩
  · cases Rep.inv_str ha
    cases Rep.inv_str hb
    cases e
    exact .inr ⟨i, j, rfl, rfl, P _ F H (Up.refl s) .bl⟩
theorem r_eq : R2M C (aH K) (aH K) (aF K) (rEqM K) opEq := by
  intro F H x y a b res Q s ha hb e P
  unfold opEq at e
  split at e
  · rename_i r h
    cases e
    exact ⟨a, b, r, ha, hb, h, P _ F H (Up.refl s) .bl⟩
  · cases e
theorem r_ne : R2M C (aH K) (aH K) (aF K) (rNeM K) opNe := by
  intro F H x y a b res Q s ha hb e P
  unfold opNe at e
  split at e
  · rename_i r h
    cases e
    exact ⟨a, b, r, ha, hb, h, P _ F H (Up.refl s) .bl⟩
  · cases e
theorem r_in : R2M C (aH K) (aH K) (aF K) (rInU K) opIn := by
  intro F H x y a b res Q s ha hb e P
  unfold opIn at e
  split at e
  · rename_i r h
    cases e
    match b, h with
    | .lst l, h => exact .inl ⟨a, l, r, ha, .inl hb, h, P _ F H (Up.refl s) .bl⟩
    | .tup l, h => exact .inl ⟨a, l, r, ha, .inr hb, h, P _ F H (Up.refl s) .bl⟩
    | .str j, h =>
      match a, h with
      | .str i, h =>
        cases h
        exact .inr ⟨i, j, Rep.inv_str ha, Rep.inv_str hb, P _ F H (Up.refl s) .bl⟩
  · cases e
theorem r_notin : R2M C (aH K) (aH K) (aF K) (rNotinU K) opNotin := by
  intro F H x y a b res Q s ha hb e P
  unfold opNotin at e
  split at e
  · rename_i r h
    cases e
    match b, h with
    | .lst l, h => exact .inl ⟨a, l, r, ha, .inl hb, h, P _ F H (Up.refl s) .bl⟩
    | .tup l, h => exact .inl ⟨a, l, r, ha, .inr hb, h, P _ F H (Up.refl s) .bl⟩
    | .str j, h =>
      match a, h with
      | .str i, h =>
        cases h
        exact .inr ⟨i, j, Rep.inv_str ha, Rep.inv_str hb, P _ F H (Up.refl s) .bl⟩
  · cases e
theorem isNon_eq {v : V} {p : PV} (h : Rep K F v p) : decide (v = .non) = p.isNon := by
  cases h <;> first | rfl | exact decide_eq_false (by intro z; cases z)
theorem r_isN : R2M C (aH K) (aF K) (aF K) (fun x y H Q => y = .non ∧ Q (.bl (decide (x = .non))) H) opIsN := by
  intro F H x y a b res Q s ha hb e P
  match b, e with
  | .non, e =>
    cases e
    rw [isNon_eq ha]
    exact ⟨Rep.inv_non hb, P _ F H (Up.refl s) .bl⟩
theorem r_notN : R2M C (aH K) (aF K) (aF K) (fun x y H Q => y = .non ∧ Q (.bl (!decide (x = .non))) H) opNotN := by
  intro F H x y a b res Q s ha hb e P
  match b, e with
  | .non, e =>
    cases e
    rw [isNon_eq ha]
    exact ⟨Rep.inv_non hb, P _ F H (Up.refl s) .bl⟩
theorem atI_rep {xs : List V} {l : List PV} {i : Int} {p : PV} (r : Reps K F xs l) (h : atI l i = some p) : ∃ v, atI xs i = some v ∧ Rep K F v p := by
  unfold atI at h ⊢
  rw [r.1]
  cases e : ixN l.length i with
  | none => rw [e] at h; cases h
  | some j =>
    rw [e] at h
    exact r.get h
theorem ofO_inv {x : Option PV} {res : Res PV} (h : ofO x = some res) : ∃ p, x = some p ∧ res = .ok p := by
  cases x with
  | none => cases h
  | some p => cases h; exact ⟨p, rfl, rfl⟩
theorem r_ix : R2M C (aF K) (aF K) (aF K) (rIx K) opIx := by
  intro F H x y a b res Q s ha hb e P
  have inv : (∃ l i, a = .lst l ∧ b = .int i) ∨ (∃ l i, a = .tup l ∧ b = .int i) ∨ (∃ z i, a = .str z ∧ b = .int i) := by
    clear P ha hb
    cases a <;> first | exact noS e | (cases b <;> first | exact noS e | exact .inl ⟨_, _, rfl, rfl⟩ | exact .inr (.inl ⟨_, _, rfl, rfl⟩) | exact .inr (.inr ⟨_, _, rfl, rfl⟩))
  rcases inv with ⟨l, i, rfl, rfl⟩ | ⟨l, i, rfl, rfl⟩ | ⟨z, i, rfl, rfl⟩
  · cases Rep.inv_int hb
    obtain ⟨p, e1, rfl⟩ := ofO_inv e
    obtain ⟨a1, xs, rfl, h1, r1⟩ := Rep.inv_lst ha
    obtain ⟨v, e2, rv⟩ := atI_rep r1 e1
    exact .inl ⟨a1, xs, i, v, rfl, rfl, s.seq h1, e2, P _ F H (Up.refl s) rv⟩
  · cases Rep.inv_int hb
    obtain ⟨p, e1, rfl⟩ := ofO_inv e
    obtain ⟨a1, xs, rfl, h1, r1⟩ := Rep.inv_tup ha
    obtain ⟨v, e2, rv⟩ := atI_rep r1 e1
    exact .inr (.inl ⟨a1, xs, i, v, rfl, rfl, s.tup h1, e2, P _ F H (Up.refl s) rv⟩)
  · cases Rep.inv_int hb
    cases Rep.inv_str ha
    have e : (if z.length ≤ sizeLine then ofO ((atI z.cps.toList i).map fun c => PV.str ⟨#[c]⟩) else none) = some res := e
    split at e
    · rename_i hz
      obtain ⟨p, e1, rfl⟩ := ofO_inv e
      cases e2 : atI z.cps.toList i with
      | none => rw [e2] at e1; cases e1
      | some c =>
        rw [e2] at e1
        cases e1
        exact .inr (.inr ⟨z, i, c, rfl, rfl, hz, e2, P _ F H (Up.refl s) .str⟩)
    · cases e
theorem r_ixV : R2M C (aV K) (aF K) (aF K) (rIx K) opIxV := by
  intro F H x y a b res Q s ha hb e P
  match b, e with
  | .int i, e =>
    cases Rep.inv_int hb
    obtain ⟨p, e1, rfl⟩ := ofO_inv e
    obtain ⟨a1, xs, rfl, h1, r1⟩ := ha
    obtain ⟨v, e2, rv⟩ := atI_rep r1 e1
    exact .inl ⟨a1, xs, i, v, rfl, rfl, h1, e2, P _ F H (Up.refl s) rv⟩
noncomputable def opCat (l m : List PV) : Option (Res PV) := if l.length + m.length ≤ sizeLine then some (.ok (.lst (l ++ m))) else none
noncomputable def rCatS (K : PySem.W.Frag) : R2 := fun x y H Q => ∃ l b xs zs, x = .ref l ∧ y = .ref b ∧ SqL K H l xs ∧ SqL K H b zs ∧ xs.length + zs.length ≤ sizeLine ∧ ∀ p, H p = none → Q (.ref p) (upd H p (.lst (xs ++ zs)))
theorem r_cat : R2O K C (aV K) (aV K) (rCatS K) opCat := by
  intro F H x y a b res Q s ha hb e P
  unfold opCat at e
  split at e
  · rename_i h
    cases e
    obtain ⟨a1, xs, rfl, h1, r1⟩ := ha
    obtain ⟨a2, ys, rfl, h2, r2⟩ := hb
    refine ⟨a1, a2, xs, ys, rfl, rfl, h1, h2, by rw [r1.1, r2.1]; exact h, fun p hp => ?_⟩
    exact P p F _ (Up.newU s hp) hp (s.free hp) ⟨_, upd_same, r1.append r2⟩
  · cases e
variable {ta tb te : TE}
theorem Reps.rep {xs : List V} {l : List PV} (h : Reps K F xs l) : ∀ n : Nat, Reps K F (List.replicate n xs).flatten (List.replicate n l).flatten
  | 0 => .nil
  | n + 1 => by
    rw [List.replicate_succ, List.flatten_cons, List.replicate_succ, List.flatten_cons]
    exact h.append (Reps.rep h n)
noncomputable def MP' (K : PySem.W.Frag) (C : Cg) (t : TO) (f : Fn (Option Int)) : Prop :=
  ∀ F H σ ρ Q r, RE K C.toCf F H σ ρ → f ρ = some r → Pr C F (fun o => ∀ F' H', Up F H F' H' → Q o H') r → t σ H Q
noncomputable def mPn : Fn (Option Int) := fun _ => some (.ok none)
noncomputable def asInt : PV → Option (Res (Option Int))
  | .int i => some (.ok (some i))
  | _ => none
theorem mp_none : MP' K C tNoPart mPn := fun F H σ ρ Q r R e P => by
  cases e
  exact P F H (Up.refl R.rb.sub)
theorem mp_some {f : Fn PV} (h : MJ K C (aF K) te f) : MP' K C (tPart te) (m1 asInt f) := by
  intro F H σ ρ Q r R e P
  refine h.run R e P fun p v F1 H1 hk u a => ?_
  match p, hk with
  | .int i, hk =>
    cases Rep.inv_int a
    cases hk
    exact ⟨i, rfl, P F1 H1 u⟩
theorem MP'.run {β : Type} {t : TO} {f : Fn (Option Int)} {σ : St} {ρ : Rho} {Q : Option Int → Hp → Prop} {ok : β → Prop} {k : Option Int → Option (Res β)} {r : Res β} (h : MP' K C t f) (R : RE K C.toCf F H σ ρ) (hb : bnd (f ρ) k = some r) (P : Pr C F ok r)
    (go : ∀ o F1 H1, k o = some r → Up F H F1 H1 → Q o H1) : t σ H Q := by
  rcases bnd_inv hb with ⟨z, e, rfl⟩ | ⟨p, e, hk⟩
  · exact h F H σ ρ Q _ R e P
  · exact h F H σ ρ Q _ R e fun F1 H1 u => go p F1 H1 hk u
noncomputable def cutP (l : List PV) (lo hi : Option Int) : List PV := (l.drop (HT.sIx l.length 0 lo)).take (HT.sIx l.length l.length hi - HT.sIx l.length 0 lo)
theorem Reps.cut {xs : List V} {l : List PV} (h : Reps K F xs l) (lo hi : Option Int) : Reps K F (cutV xs lo hi) (cutP l lo hi) := by
  unfold cutV cutP
  rw [h.1]
  exact (h.drop _).take _
noncomputable def mSlL (f : Fn (List PV)) (lo hi : Fn (Option Int)) : Fn PV := fun ρ => bnd (f ρ) fun l => bnd (lo ρ) fun a => bnd (hi ρ) fun b => some (.ok (.lst (cutP l a b)))
theorem mo_slL {f : Fn (List PV)} {lo hi : Fn (Option Int)} {tl th : TO} (h : MJ K C (aV K) te f) (hl : MP' K C tl lo) (hh : MP' K C th hi) : MO K C (tSl (rSlL K) te tl th) (mSlL f lo hi) := by
  intro F H σ ρ Q r R e P
  refine h.run R e P fun l v F1 H1 hk u a => ?_
  refine hl.run (R.up u) hk (P.laterO u) fun o F2 H2 hk2 u2 => ?_
  refine hh.run (R.up (u.trans u2)) hk2 (P.laterO (u.trans u2)) fun o2 F3 H3 hk3 u3 => ?_
  cases hk3
  obtain ⟨b, xs, rfl, h1, r1⟩ := a
  have u23 := u2.trans u3
  refine ⟨b, xs, rfl, u23.hh.seq h1, fun p hp => ?_⟩
  exact P p F3 _ (u.trans (u23.trans (Up.newU u3.fh hp))) ((u.hh.trans u23.hh).free hp) (u3.fh.free hp) ⟨_, upd_same, (r1.up u23.ff).cut _ _⟩
noncomputable def opSlT (a b : Option Int) : PV → Option (Res PV)
  | .tup l => if ¬ (HT.sIx l.length 0 a = 0 ∧ HT.sIx l.length l.length b = l.length) then some (.ok (.tup (cutP l a b))) else none
  | _ => none
noncomputable def mSlT (f : Fn PV) (lo hi : Fn (Option Int)) : Fn PV := fun ρ => bnd (f ρ) fun z => bnd (lo ρ) fun a => bnd (hi ρ) fun b => opSlT a b z
theorem mj_slT {f : Fn PV} {lo hi : Fn (Option Int)} {tl th : TO} (h : MJ K C (aF K) te f) (hl : MP' K C tl lo) (hh : MP' K C th hi) : MJ K C (aF K) (tSl (rSlT K) te tl th) (mSlT f lo hi) := by
  intro F H σ ρ Q r R e P
  refine h.run R e P fun l v F1 H1 hk u a => ?_
  refine hl.run (R.up u) hk (P.later u) fun o F2 H2 hk2 u2 => ?_
  refine hh.run (R.up (u.trans u2)) hk2 (P.later (u.trans u2)) fun o2 F3 H3 hk3 u3 => ?_
  match l, hk3 with
  | .tup l, hk3 =>
    have hk3 : (if ¬ (HT.sIx l.length 0 o = 0 ∧ HT.sIx l.length l.length o2 = l.length) then some (Res.ok (PV.tup (cutP l o o2))) else none) = some r := hk3
    split at hk3
    · rename_i hz
      cases hk3
      obtain ⟨b, xs, rfl, h1, r1⟩ := Rep.inv_tup a
      have u23 := u2.trans u3
      refine ⟨b, xs, rfl, (u23.ff.trans u3.fh).tup h1, by rw [r1.1]; exact hz, fun p hp => ?_⟩
      have un := Up.new (o := .tup (cutV xs o o2)) u3.fh hp
      have rc := (r1.up u23.ff).cut o o2
      exact P _ _ _ (u.trans (u23.trans un)) (.tup upd_same rc.1 (rc.up un.ff).2)
    · cases hk3
end
end L2.MP

namespace L2.MP
open PySem PySem.Spec PyProof.Rows
noncomputable def iSeqU (K : PySem.W.Frag) (tl : TE) : TI := fun σ H R => tl σ H fun x H1 => (∃ a, x = .ref a ∧ (∃ xs, SqL K H1 a xs) ∧ R (Itl K a) H1) ∨ (∃ a, x = .ref a ∧ (∃ xs, SqT K H1 a xs) ∧ R (Itt K a) H1) ∨ ∃ z, x = .str z ∧ R (Itf (sgn z) z.cps.size) H1
theorem pi_seqU {X : Cx} {tg l : Expr} {tl : TE} (hl : PE X l tl) : PI X tg l (iSeqU X.K tl) := by
  intro pins s σ H R I h
  refine thn (hl pins s σ H _ I h) fun v s1 ⟨x, H1, I1, r1, q1⟩ => ?_
  have keep : ∀ (o : Obj), Inv X pins σ H1 { s1 with heap := s1.heap.push o } := fun o => I1.kept (t' := s1.toks) fun b ob e => Heap.get?_push_of_some _ e
  have fp : ∀ b ∈ [s1.heap.objs.size], FpOk X pins H1 b := fun b hb => by
    have e : b = s1.heap.objs.size := by simpa using hb
    subst e
    exact I1.fpOk (Nat.le_refl _) (I1.hok.fresh (Nat.le_refl _))
  rcases q1 with ⟨a, rfl, ⟨xs, hq⟩, q⟩ | ⟨a, rfl, ⟨xs, hq⟩, q⟩ | ⟨z, rfl, q⟩
  · cases r1
    obtain ⟨its, rv, p, hz⟩ := I1.list hq
    exact wpAny_pyIter_list p.isList ⟨_, [_], _, _, H1, rfl, keep _, turn_list a _, ⟨_, Heap.get?_push_size _ rfl, rfl, rfl⟩, fp, q⟩
  · cases r1
    obtain ⟨its, rv, p, hz⟩ := I1.tuple hq
    exact wpAny_pyIter_tuple (show s1.heap.IsTuple a its.toArray from p) ⟨_, [_], _, _, H1, rfl, keep _, turn_tuple a _, ⟨_, Heap.get?_push_size _ rfl, rfl, rfl⟩, fp, q⟩
  · obtain ⟨t, rfl⟩ := r1
    exact wpAny_pyIter_strU ⟨_, [_], _, _, H1, rfl, keep _, turn_str _ z t, ⟨_, Heap.get?_push_size _ rfl, rfl, rfl⟩, fp, q⟩
section
variable {K : PySem.W.Frag} {C : Cg} {F H : Hp} {σ : St} {ρ : Rho} {te ta tb : TE} {tA : TA} {a : Addr} {xs : List V} {l : List PV}
noncomputable def signs (z : Str) : List PV := z.cps.toList.map fun c => .str ⟨#[c]⟩
noncomputable def asSeq : PV → Option (Res (List PV))
  | .lst l => some (.ok l)
  | .tup l => some (.ok l)
  | .str z => some (.ok (signs z))
  | _ => none
theorem itr_list (h : SqL K F a xs) (r : Reps K F xs l) : ItR K (Itl K a) F l where
  stop := fun F' H' s s' => ⟨xs, (s.trans s').seq h, by rw [r.1]; exact Nat.le_refl _⟩
  go := fun i F' H' hi s s' => ⟨xs, xs[i]'(by rw [r.1]; exact hi), (s.trans s').seq h, by simp⟩
  yld := fun i F' H' x H'' hi s s' y => by
    obtain ⟨rfl, y⟩ := y
    have e := y xs ((s.trans s').seq h)
    obtain ⟨p, e2, rp⟩ := r.got e
    exact ⟨F', p, Up.refl s', e2, rp.up s⟩
theorem itr_tup (h : SqT K F a xs) (r : Reps K F xs l) : ItR K (Itt K a) F l where
  stop := fun F' H' s s' => ⟨xs, (s.trans s').tup h, by rw [r.1]; exact Nat.le_refl _⟩
  go := fun i F' H' hi s s' => ⟨xs, xs[i]'(by rw [r.1]; exact hi), (s.trans s').tup h, by simp⟩
  yld := fun i F' H' x H'' hi s s' y => by
    obtain ⟨rfl, y⟩ := y
    have e := y xs ((s.trans s').tup h)
    obtain ⟨p, e2, rp⟩ := r.got e
    exact ⟨F', p, Up.refl s', e2, rp.up s⟩
theorem itr_str (z : Str) : ItR K (Itf (sgn z) z.cps.size) F (signs z) where
  stop := fun F' H' s s' => by simp [signs, Itf]
  go := fun i F' H' hi s s' => by simpa [signs, Itf] using hi
  yld := fun i F' H' x H'' hi s s' y => by
    obtain ⟨rfl, rfl⟩ := y
    have hi' : i < z.cps.size := by simpa [signs] using hi
    refine ⟨F', .str ⟨#[z.cps.getD i 0]⟩, Up.refl s', ?_, .str⟩
    unfold signs
    rw [List.getElem?_map, Array.getElem?_toList, Array.getD_eq_getD_getElem?, Array.getElem?_eq_getElem hi']
    rfl
theorem mi_seqU {f : Fn PV} (h : MJ K C (aF K) te f) : MI K C (iSeqU K te) (m1 asSeq f) := by
  intro F H σ ρ R' r R e P
  refine h.run R e P fun p v F1 H1 hk u a => ?_
  match p, hk with
  | .lst l, hk =>
    cases hk
    obtain ⟨b, xs, rfl, h1, r1⟩ := Rep.inv_lst a
    exact .inl ⟨b, rfl, ⟨xs, u.fh.seq h1⟩, P _ F1 H1 u (itr_list h1 r1)⟩
  | .tup l, hk =>
    cases hk
    obtain ⟨b, xs, rfl, h1, r1⟩ := Rep.inv_tup a
    exact .inr (.inl ⟨b, rfl, ⟨xs, u.fh.tup h1⟩, P _ F1 H1 u (itr_tup h1 r1)⟩)
  | .str z, hk =>
    cases hk
    cases Rep.inv_str a
    exact .inr (.inr ⟨z, rfl, P _ F1 H1 u (itr_str z)⟩)
noncomputable def rngP (lo : Int) (n : Nat) : List PV := (List.range n).map fun (i : Nat) => .int (lo + (i : Int))
theorem rngP_length (lo : Int) (n : Nat) : (rngP lo n).length = n := by simp [rngP]
theorem itr_rng (lo : Int) (n : Nat) : ItR K (Itr lo n) F (rngP lo n) where
  stop := fun F' H' s s' => by rw [rngP_length]; exact Nat.le_refl _
  go := fun i F' H' hi s s' => by rw [rngP_length] at hi; exact hi
  yld := fun i F' H' x H'' hi s s' y => by
    obtain ⟨rfl, rfl⟩ := y
    rw [rngP_length] at hi
    refine ⟨F', .int (lo + i), Up.refl s', ?_, .int⟩
    unfold rngP
    rw [List.getElem?_map, List.getElem?_range hi]
    rfl
noncomputable def asRng1 : List PV → Option (Res (List PV))
  | [.int j] => if -(2 ^ 62) ≤ j ∧ j < 2 ^ 62 then some (.ok (rngP 0 j.toNat)) else none
  | _ => none
theorem mi_rng1 {f : Fn (List PV)} (h : MA K C tA f) : MI K C (iRng1 tA) (m1 asRng1 f) := by
  intro F H σ ρ R' r R e P
  refine h.run R e P fun l xs F1 H1 hk u a => ?_
  have inv : ∃ j, l = [.int j] := by
    clear P u a
    rcases l with _ | ⟨x, _ | ⟨y, l⟩⟩ <;> first | exact noS hk | (cases x <;> first | exact noS hk | exact ⟨_, rfl⟩)
  obtain ⟨j, rfl⟩ := inv
  have hk : (if -(2 ^ 62) ≤ j ∧ j < 2 ^ 62 then some (Res.ok (rngP 0 j.toNat)) else none) = some r := hk
  split at hk
  · rename_i hj
    cases hk
    obtain ⟨v, ys, rfl, r1, r2⟩ := a.inv_cons
    cases r2.inv_nil
    cases Rep.inv_int r1
    exact ⟨j, rfl, hj.1, hj.2, P _ F1 H1 u (itr_rng 0 j.toNat)⟩
  · cases hk
noncomputable def enumP (l : List PV) : List PV := l.mapIdx fun (i : Nat) x => .tup [.int i, x]
noncomputable def asEnum : List PV → Option (Res (List PV))
  | [.lst l] => some (.ok (enumP l))
  | _ => none
theorem mi_enum {f : Fn (List PV)} (h : MA K C tA f) : MI K C (iEnum K tA) (m1 asEnum f) := by
  intro F H σ ρ R' r R e P
  refine h.run R e P fun l xs F1 H1 hk u a => ?_
  have inv : ∃ m, l = [.lst m] := by
    clear P u a
    rcases l with _ | ⟨x, _ | ⟨y, l⟩⟩ <;> first | exact noS hk | (cases x <;> first | exact noS hk | exact ⟨_, rfl⟩)
  obtain ⟨l, rfl⟩ := inv
  cases hk
  obtain ⟨v, ys, rfl, r1, r2⟩ := a.inv_cons
  cases r2.inv_nil
  obtain ⟨b, xs, rfl, h1, r1⟩ := Rep.inv_lst r1
  have hl : (enumP l).length = l.length := by simp [enumP]
  refine ⟨b, rfl, ⟨xs, u.fh.seq h1⟩, P _ F1 H1 u ⟨fun F' H' s s' => ?_, fun i F' H' hi s s' => ?_, fun i F' H' x H'' hi s s' y => ?_⟩⟩
  · exact ⟨xs, (s.trans s').seq h1, by rw [hl, r1.1]; exact Nat.le_refl _⟩
  · rw [hl] at hi
    exact ⟨xs, xs[i]'(by rw [r1.1]; exact hi), (s.trans s').seq h1, by simp⟩
  · obtain ⟨p, y, hp, rfl, rfl, hy⟩ := y
    have e := hy xs ((s.trans s').seq h1)
    obtain ⟨q, e2, rq⟩ := r1.got e
    have un := Up.new (o := .tup [.int i, y]) s' hp
    refine ⟨_, .tup [.int i, q], un, ?_, .tup upd_same rfl fun j x p hx hp' => ?_⟩
    · unfold enumP
      rw [List.getElem?_mapIdx, e2]
      rfl
    · match j with
      | 0 => simp at hx hp'; subst hx hp'; exact .int
      | 1 => simp at hx hp'; subst hx hp'; exact rq.up (s.trans un.ff)
      | j + 2 => simp at hx
noncomputable def NoO (ρ : Rho) : Prop := ∀ (j : Nat) q, ρ[j]? ≠ some (some (.ow q)) ∧ ρ[j]? ≠ some (some (.dp q))
noncomputable def Wr (T : List Nat) (tg : PV → Rho → Option Rho) : Prop := ∀ x ρ ρ', tg x ρ = some ρ' → ρ'.length = ρ.length ∧ (∀ j, j ∉ T → ρ'[j]? = ρ[j]?) ∧ (NoO ρ → NoO ρ')
noncomputable def WrS (T : List Nat) (tg : List PV → Rho → Option Rho) : Prop := ∀ x ρ ρ', tg x ρ = some ρ' → ρ'.length = ρ.length ∧ (∀ j, j ∉ T → ρ'[j]? = ρ[j]?) ∧ (NoO ρ → NoO ρ')
theorem wr_name (i : Nat) : Wr [i] (gN i) := fun x ρ ρ' e => by
  cases e
  refine ⟨by simp, fun j hj => ?_, fun h j q => ⟨fun e => ?_, fun e => ?_⟩⟩
  · rw [List.getElem?_set_ne (by simpa using Ne.symm (by simpa using hj))]
  · rcases get_set e with ⟨_, e2⟩ | ⟨_, e2⟩
    · cases e2
    · exact (h j q).1 e2
  · rcases get_set e with ⟨_, e2⟩ | ⟨_, e2⟩
    · cases e2
    · exact (h j q).2 e2
theorem wrs_nil : WrS [] gsNil := fun x ρ ρ' e => by
  cases x with
  | nil => cases e; exact ⟨rfl, fun _ _ => rfl, fun h => h⟩
  | cons p l => cases e
theorem wrs_cons {T U : List Nat} {t : PV → Rho → Option Rho} {u : List PV → Rho → Option Rho} (h : Wr T t) (hs : WrS U u) : WrS (T ++ U) (gsCons t u) := fun x ρ ρ' e => by
  cases x with
  | nil => cases e
  | cons p l =>
    have e : (match t p ρ with
      | some ρ' => u l ρ'
      | none => none) = some ρ' := e
    split at e
    · rename_i ρ1 h1
      obtain ⟨a1, a2, a3⟩ := h p ρ ρ1 h1
      obtain ⟨b1, b2, b3⟩ := hs l ρ1 ρ' e
      exact ⟨b1.trans a1, fun j hj => (b2 j fun z => hj (List.mem_append_right _ z)).trans (a2 j fun z => hj (List.mem_append_left _ z)), fun z => b3 (a3 z)⟩
    · cases e
theorem wr_tup {n : Nat} {U : List Nat} {u : List PV → Rho → Option Rho} (hs : WrS U u) : Wr U (gT n u) := fun x ρ ρ' e => by
  unfold gT at e
  split at e
  · split at e
    · exact hs _ ρ ρ' e
    · cases e
  · cases e
noncomputable def shOnly : Option Sl → Option Sl
  | some (.sh p) => some (.sh p)
  | _ => none
noncomputable def frR (fr : List (Option Nat)) (ρ : Rho) : Rho := fr.map fun o => match o with
  | some i => match ρ[i]? with
    | some v => shOnly v
    | none => none
  | none => none
noncomputable def compL (tg : PV → Rho → Option Rho) (tst : Fn Bool) (el : Fn PV) (ρb : Rho) : List PV → Option (Res (List PV))
  | [] => some (.ok [])
  | x :: xs => match tg x ρb with
    | none => none
    | some ρ1 => bnd (tst ρ1) fun b => if b = true then bnd (el ρ1) fun p => bnd (compL tg tst el ρb xs) fun r => some (.ok (p :: r)) else compL tg tst el ρb xs
noncomputable def mComp (it : Fn (List PV)) (fr : List (Option Nat)) (tg : PV → Rho → Option Rho) (tst : Fn Bool) (el : Fn PV) : Fn PV := fun ρ => bnd (it ρ) fun l =>
  if l.length ≤ sizeLine then bnd (compL tg tst el (frR fr ρ) l) fun r => some (.ok (.lst r)) else none
noncomputable def mYes : Fn Bool := fun _ => some (.ok true)
theorem mt_yes : MT K C tYes mYes := fun F H σ ρ Q r R e P => by
  cases e
  exact P F H (Up.refl R.rb.sub)
theorem RE.block (R : RE K C.toCf F H σ ρ) (fr : List (Option Nat)) : RE K C.toCf F H (frσ fr σ) (frR fr ρ) ∧ NoO (frR fr ρ) := by
  have nd : ∀ (j : Nat) q, (frR fr ρ)[j]? ≠ some (some (.dp q)) := fun j q e => by
    unfold frR at e
    rw [List.getElem?_map] at e
    cases e1 : fr[j]? with
    | none => rw [e1] at e; cases e
    | some o =>
      rw [e1] at e
      cases o with
      | none => cases e
      | some i =>
        simp only [Option.map_some, Option.some.injEq] at e
        split at e
        · rename_i v hv
          unfold shOnly at e
          split at e <;> cases e
        · cases e
  have no : ∀ (j : Nat) q, (frR fr ρ)[j]? ≠ some (some (.ow q)) := fun j q e => by
    unfold frR at e
    rw [List.getElem?_map] at e
    cases e1 : fr[j]? with
    | none => rw [e1] at e; cases e
    | some o =>
      rw [e1] at e
      cases o with
      | none => cases e
      | some i =>
        simp only [Option.map_some, Option.some.injEq] at e
        split at e
        · rename_i v hv
          unfold shOnly at e
          split at e <;> cases e
        · cases e
  refine ⟨⟨R.rb, by unfold frσ frR; simp, fun j p e => ?_, fun j p e => absurd e (no j p), fun i j p q a e => absurd e (no i p), _, RD.no nd⟩, fun j q => ⟨no j q, nd j q⟩⟩
  unfold frR at e
  rw [List.getElem?_map] at e
  unfold frσ
  rw [List.getElem?_map]
  cases e1 : fr[j]? with
  | none => rw [e1] at e; cases e
  | some o =>
    rw [e1] at e
    cases o with
    | none => cases e
    | some i =>
      simp only [Option.map_some, Option.some.injEq] at e ⊢
      split at e
      · rename_i v hv
        unfold shOnly at e
        split at e
        · cases e
          obtain ⟨w, e2, e3⟩ := R.sh i _ hv
          exact ⟨w, by rw [e2], e3⟩
        · cases e
      · cases e
theorem RE.other (R : RE K C.toCf F H σ ρ) {D : Addr} {o : HO} (hf : F D = none) (h0 : C.H0 D = none) (no : NoO ρ) : RE K C.toCf F (upd H D o) σ ρ where
  rb := ⟨fun b u q => by rw [upd_ne (ne_of_none q hf)]; exact R.rb.sub b u q, fun b u q n => by rw [upd_ne (ne_of_none q h0)]; exact R.rb.keep b u q n, R.rb.new, fun b hb => ⟨by
    have := (R.rb.ios b hb)
    by_cases hbD : b = D
    · subst hbD; exact absurd h0 this.2
    · rw [upd_ne hbD]; exact this.1, (R.rb.ios b hb).2⟩⟩
  len := R.len
  sh := R.sh
  ow := fun i p e => absurd e (no i p).1
  dis := fun i j p q a e => absurd e (no i p).1
  dd := ⟨_, RD.no fun i p => (no i p).2⟩
theorem RE.weak {ρ' : Rho} (R : RE K C.toCf F H σ ρ') (hl : ρ.length = ρ'.length) (h : ∀ (j : Nat) s, ρ[j]? = some (some s) → ρ'[j]? = some (some s)) : RE K C.toCf F H σ ρ where
  rb := R.rb
  len := by rw [R.len, hl]
  sh := fun i p e => R.sh i p (h i _ e)
  ow := fun i p e => R.ow i p (h i _ e)
  dis := fun i j p q a e e' => R.dis i j p q a (h i _ e) (h j _ e')
  dd := let ⟨P, d⟩ := R.dd; ⟨P, d.own, d.dis, fun i j q b z e => d.ow i j q b z (h j _ e), fun i p e => d.dp i p (h i _ e)⟩
structure ItH (K : PySem.W.Frag) (J : It) (F H : Hp) (l : List PV) : Prop where
  stop : ∀ F' H', Same F F' → Same F' H' → Same H H' → J.stop l.length H'
  go : ∀ i F' H', i < l.length → Same F F' → Same F' H' → Same H H' → J.go i H'
  yld : ∀ i F' H' x H'', i < l.length → Same F F' → Same F' H' → Same H H' → J.yld i H' x H'' → ∃ F'' p, Up F' H' F'' H'' ∧ l[i]? = some p ∧ Rep K F'' x p
noncomputable def MIH (K : PySem.W.Frag) (C : Cg) (wi : TI) (f : Fn (List PV)) : Prop :=
  ∀ F H σ ρ R' r, RE K C.toCf F H σ ρ → f ρ = some r → Pr C F (fun l => ∀ J F' H', Up F H F' H' → ItH K J F' H' l → R' J H') r → wi σ H R'
theorem MI.h {wi : TI} {f : Fn (List PV)} (h : MI K C wi f) : MIH K C wi f := fun F H σ ρ R' r R e P =>
  h F H σ ρ R' r R e (Pr.mono P (Same.refl _) fun l q J F' H' u x => q J F' H' u ⟨fun a b c d _ => x.stop a b c d, fun i a b hi c d _ => x.go i a b hi c d, fun i a b y z hi c d _ => x.yld i a b y z hi c d⟩)
theorem bnd_assoc {α β γ : Type} {x : Option (Res α)} {f : α → Option (Res β)} {g : β → Option (Res γ)} : bnd (bnd x f) g = bnd x fun a => bnd (f a) g := by
  match x with
  | some (.ok a) => rfl
  | some (.ex z) => rfl
  | none => rfl
theorem mo_compH {wi : TI} {it : Fn (List PV)} {fr : List (Option Nat)} {gt : TG} {tg : PV → Rho → Option Rho} {T : List Nat} {tc : TT} {tst : Fn Bool} {el : Fn PV} (hi : MIH K C wi it) (hg : MG K C gt tg) (hT : Wr T tg) (ht : MT K C tc tst) (he : MJ K C (aF K) te el)
    (hfr : T.all (fun j => fr[j]? == some none) = true := by rfl) : MO K C (tComp wi fr gt tc te) (mComp it fr tg tst el) := by
  intro F H σ ρ Q r R e P
  rcases bnd_inv e with ⟨z, e1, rfl⟩ | ⟨l, e1, hk⟩
  · exact hi F H σ ρ _ _ R e1 P
  split at hk
  case isFalse => cases hk
  rename_i hlen
  refine hi F H σ ρ _ _ R e1 fun J F1 H1 u hJ D hD => ?_
  have R1 := R.up u
  obtain ⟨Rb, no⟩ := R1.block fr
  have hD0 : C.H0 D = none := R1.rb.free0 hD
  have hFD : F1 D = none := u.fh.free hD
  have hρ : ∀ (j : Nat), j ∈ T → (frR fr ρ)[j]? = some none := fun j hj => by
    have := List.all_eq_true.mp hfr j hj
    unfold frR
    rw [List.getElem?_map, show fr[j]? = some none by simpa using this]
    rfl
  -- between the turns
  refine ⟨fun i m σ' H' => ∃ F' ys acc, m = l.length - i ∧ i ≤ l.length ∧ Same F1 F' ∧ (∀ b o, F' b = some o → F1 b = some o ∨ Frz H1 b o) ∧ Same H1 H' ∧ H' D = some (.lst ys) ∧ F' D = none ∧ Reps K F' ys acc ∧ acc.length ≤ i ∧
      RE K C.toCf F' H' σ' (frR fr ρ) ∧ bnd (compL tg tst el (frR fr ρ) (l.drop i)) (fun r => some (.ok (.lst (acc ++ r)))) = some r,
    ⟨l.length, F1, [], [], by simp, Nat.zero_le _, Same.refl _, fun _ _ q => .inl q, same_upd hD, upd_same, hFD, .nil, Nat.le_refl _, Rb.other hFD hD0 no, by rw [List.drop_zero]; exact hk⟩, ?_⟩
  rintro i m σ' H' ⟨F', ys, acc, rfl, hil, s1, fr1, sH, eD, nD, ra, hacc, R', e'⟩
  by_cases hlt : i < l.length
  case neg =>
    have ei : i = l.length := by omega
    subst ei
    rw [List.drop_length] at e'
    have e' : some (Res.ok (PV.lst (acc ++ []))) = some r := e'
    rw [List.append_nil] at e'
    cases e'
    exact .inl ⟨hJ.stop F' H' s1 R'.rb.sub sH, P D F' H' (u.trans ⟨s1, sH, fr1, R'.rb.sub⟩) (u.hh.free hD) nD ⟨ys, eD, ra⟩⟩
  refine .inr ⟨hJ.go i F' H' hlt s1 R'.rb.sub sH, fun σ2 H2 => ∃ F2 ys acc, Same F1 F2 ∧ (∀ b o, F2 b = some o → F1 b = some o ∨ Frz H1 b o) ∧ Same H1 H2 ∧ H2 D = some (.lst ys) ∧ F2 D = none ∧ Reps K F2 ys acc ∧ acc.length ≤ i + 1 ∧
      RE K C.toCf F2 H2 σ2 (frR fr ρ) ∧ bnd (compL tg tst el (frR fr ρ) (l.drop (i + 1))) (fun r => some (.ok (.lst (acc ++ r)))) = some r,
    fun σ2 H2 ⟨F2, ys, acc, z⟩ => ⟨l.length - (i + 1), by omega, F2, ys, acc, rfl, hlt, z⟩, fun x H'' y => ?_⟩
  obtain ⟨F'', p, u2, ep, rx⟩ := hJ.yld i F' H' x H'' hlt s1 R'.rb.sub sH y
  have ed : l.drop i = p :: l.drop (i + 1) := by
    rw [List.drop_eq_getElem_cons hlt]
    rw [List.getElem?_eq_getElem hlt] at ep
    rw [Option.some.inj ep]
  rw [ed, compL] at e'
  split at e'
  · cases e'
  rename_i ρ1 h1
  obtain ⟨w1, w2, w3⟩ := hT p _ ρ1 h1
  have no1 := w3 no
  have weak : ∀ (j : Nat) s, (frR fr ρ)[j]? = some (some s) → ρ1[j]? = some (some s) := fun j s ej => by
    rw [w2 j fun z => by rw [hρ j z] at ej; cases ej]; exact ej
  refine hg F'' H'' σ' (frR fr ρ) x p ρ1 _ (R'.up u2) rx h1 fun σ1 R1' => ?_
  -- what holds at any heap behind this turn's parts
  have stay : ∀ {F3 H3 : Hp}, Up F' H' F3 H3 → Same F1 F3 ∧ (∀ b o, F3 b = some o → F1 b = some o ∨ Frz H1 b o) ∧ Same H1 H3 ∧ H3 D = some (.lst ys) ∧ F3 D = none ∧ Reps K F3 ys acc := fun {F3 H3} u3 => by
    refine ⟨s1.trans u3.ff, fun b o q => ?_, sH.trans u3.hh, u3.hh _ _ eD, ?_, ra.up u3.ff⟩
    · rcases u3.fr b o q with z | z
      · exact fr1 b o z
      · exact .inr (z.imp (fun z => sH.free z) id)
    · cases q : F3 D with
      | none => rfl
      | some o =>
        rcases u3.fr D o q with z | z | ⟨ys, z⟩
        · rw [nD] at z; cases z
        · rw [eD] at z; cases z
        · subst z
          have w := u3.fh _ _ q
          rw [u3.hh _ _ eD] at w; cases w
  have Pl : ∀ {F3 H3 : Hp}, Up F' H' F3 H3 → ∀ {z : PV}, r = .ex z → PX C F3 z := fun {F3 H3} u3 {z} ez => by
    subst ez
    exact PX.up P (u.ff.trans (s1.trans u3.ff))
  rw [bnd_assoc] at e'
  rcases bnd_inv e' with ⟨z', e4, ez⟩ | ⟨b, e4, e5⟩
  · exact ht F'' H'' σ1 ρ1 _ _ R1' e4 (Pl u2 ez)
  refine ht F'' H'' σ1 ρ1 _ _ R1' e4 fun F3 H3 u3 => ?_
  have u23 := u2.trans u3
  cases b with
  | false =>
    rw [if_neg (by decide)] at e5 ⊢
    obtain ⟨a1, a2, a3, a4, a5, a6⟩ := stay u23
    exact ⟨F3, ys, acc, a1, a2, a3, a4, a5, a6, by omega, (R1'.up u3).weak w1.symm weak, e5⟩
  | true =>
    rw [if_pos rfl] at e5 ⊢
    rw [bnd_assoc] at e5
    rcases bnd_inv e5 with ⟨z', e6, ez⟩ | ⟨q, e6, e7⟩
    · exact he F3 H3 σ1 ρ1 _ _ (R1'.up u3) e6 (Pl u23 ez)
    refine he F3 H3 σ1 ρ1 _ _ (R1'.up u3) e6 fun v F4 H4 u4 rv => ?_
    have u24 := u23.trans u4
    obtain ⟨a1, a2, a3, a4, a5, a6⟩ := stay u24
    refine ⟨ys, a4, by rw [a6.1]; omega, F4, ys ++ [v], acc ++ [q], a1, a2, same_upd2 hD a3, upd_same, a5, a6.snoc rv, by simp; omega, ((R1'.up (u3.trans u4)).other a5 hD0 no1).weak w1.symm weak, ?_⟩
    rw [bnd_assoc] at e7
    rw [← e7]
    congr 1
    funext rr
    show some (Res.ok (PV.lst (acc ++ [q] ++ rr))) = some (Res.ok (PV.lst (acc ++ q :: rr)))
    rw [List.append_assoc]; rfl
theorem mo_comp {wi : TI} {it : Fn (List PV)} {fr : List (Option Nat)} {gt : TG} {tg : PV → Rho → Option Rho} {T : List Nat} {tc : TT} {tst : Fn Bool} {el : Fn PV} (hi : MI K C wi it) (hg : MG K C gt tg) (hT : Wr T tg) (ht : MT K C tc tst) (he : MJ K C (aF K) te el)
    (hfr : T.all (fun j => fr[j]? == some none) = true := by rfl) : MO K C (tComp wi fr gt tc te) (mComp it fr tg tst el) := mo_compH hi.h hg hT ht he hfr
end
end L2.MP

namespace L2.MP
open PySem PySem.Spec PyProof.Rows
noncomputable def tyN : PV → Option String
  | .non => some "NoneType"
  | .bl _ => some "bool"
  | .int _ => some "int"
  | .str _ => some "str"
  | .tup _ => some "tuple"
  | .lst _ => some "list"
  | .dk _ => some "dict"
  | .dt _ => some "dict"
  | _ => none
noncomputable def kitN (t T : String) : Option Bool :=
  if t = T then some true else
  if T = "int" then some (t == "bool") else
  if T = "bool" ∨ T = "str" ∨ T = "tuple" ∨ T = "list" ∨ T = "dict" then some false else none
theorem kitN_ok {K : PySem.W.Frag} {p : PV} {t T : String} {b : Bool} (h : tyN p = some t) (e : kitN t T = some b) : PySem.W.kitOne K (.type t) (.type T) = some b := by
  have ht : t = "NoneType" ∨ t = "bool" ∨ t = "int" ∨ t = "str" ∨ t = "tuple" ∨ t = "list" ∨ t = "dict" := by
    cases p <;> simp [tyN] at h <;> subst h <;> simp
  unfold kitN at e
  split at e
  · rename_i e1
    subst e1
    cases e
    exact kit_same
  · split at e
    · rename_i n1 e1
      subst e1
      cases e
      rcases ht with rfl | rfl | rfl | rfl | rfl | rfl | rfl <;> first | exact absurd rfl n1 | kernel_rfl
    · split at e
      · rename_i n1 n2 e1
        cases e
        rcases e1 with rfl | rfl | rfl | rfl | rfl <;> rcases ht with rfl | rfl | rfl | rfl | rfl | rfl | rfl <;> first | exact absurd rfl n1 | kernel_rfl
      · cases e
noncomputable def isI (p : PV) (T : String) : Option Bool := match tyN p with
  | some t => kitN t T
  | none => none
section
variable {X : Cx}
noncomputable def rIsM (K : PySem.W.Frag) : List V → Hp → VK → Prop := fun xs H Q => ∃ x p T b, xs = [x, .ty T] ∧ Rep K H x p ∧ isI p T = some b ∧ Q (.bl b) H
theorem call_isM : CallR X (.builtin "isinstance") (rIsM X.K) := by
  intro pins s σ H xs us Q I rv h
  obtain ⟨x, p, T, b, rfl, rp, e, q⟩ := h
  obtain ⟨u, v, rfl, ru, rw'⟩ := rv.two
  cases rw'
  have fin : ∀ tk, EP X pins σ Q (.bool b) { s with toks := tk } := fun tk => ⟨.bl b, H, I.tok _, rfl, q⟩
  unfold isI at e
  split at e
  case h_2 => cases e
  rename_i t ht
  have ek := kitN_ok (K := X.K) ht e
  cases rp with
  | non => cases ru; cases ht; exact PySem.W.kia_one PySem.W.kitx_none I.kIn True.intro ek (fun z => nomatch z) fin
  | bl => cases ru; cases ht; exact PySem.W.kia_one PySem.W.kitx_bool I.kIn True.intro ek (fun z => nomatch z) fin
  | int => obtain ⟨t, rfl⟩ := ru; cases ht; exact PySem.W.kia_one PySem.W.kitx_int I.kIn True.intro ek (fun z => nomatch z) fin
  | str => obtain ⟨t, rfl⟩ := ru; cases ht; exact PySem.W.kia_one PySem.W.kitx_str I.kIn True.intro ek (fun z => nomatch z) fin
  | ty => cases ht
  | tup h =>
    cases ru; cases ht
    obtain ⟨_, _, ⟨o, h1, h2, _⟩, _⟩ := I.tuple (SqT.of h)
    exact PySem.W.kia_one PySem.W.kitx_tuple I.kIn ⟨o, h1, h2⟩ ek (fun z => nomatch z) fin
  | lst h =>
    cases ru; cases ht
    obtain ⟨_, _, ⟨o, n, h1, h2, _⟩, _⟩ := I.list h
    exact PySem.W.kia_one PySem.W.kitx_list I.kIn ⟨o, h1, h2⟩ ek (fun z => nomatch z) fin
  | dk h =>
    cases ru; cases ht
    obtain ⟨_, _, vs, _, o, es, ep, h1, h2, _⟩ := h.ok I.hok
    exact PySem.W.kia_one PySem.W.kitx_dict I.kIn ⟨o, h1, h2.1⟩ ek (fun z => nomatch z) fin
  | dt h =>
    cases ru; cases ht
    obtain ⟨_, _, vs, _, o, es, ep, h1, h2, _⟩ := h.ok I.hok
    exact PySem.W.kia_one PySem.W.kitx_dict I.kIn ⟨o, h1, h2.1⟩ ek (fun z => nomatch z) fin
  | exc => cases ht
  | exc0 => cases ht
end
section
variable {K : PySem.W.Frag} {C : Cg} {α β γ : Type} {A : Rel α} {B : Rel β} {D : Rel γ} {ta tb te : TE} {f : Fn α} {g : Fn β} {rr : List V → Hp → VK → Prop}
noncomputable def R1M (C : Cg) (A : Rel α) (D : Rel γ) (rr : List V → Hp → VK → Prop) (op : α → Option (Res γ)) : Prop :=
  ∀ F H x a res Q, Same F H → A F H x a → op a = some res → Pr C F (fun c => ∀ v F' H', Up F H F' H' → D F' H' v c → Q v H') res → rr [x] H Q
theorem mj_cb1 {op : α → Option (Res γ)} (rule : R1M C A D rr op) (ha : MJ K C A ta f) : MJ K C D (tCB rr (tCons ta tNil)) (m1 op f) := by
  intro F H σ ρ Q r R e P
  refine ha.run R e P fun p v F1 H1 hk u a => ?_
  exact rule F1 H1 v p r Q u.fh a hk (P.later u)
noncomputable def R2B (C : Cg) (A : Rel α) (B : Rel β) (D : Rel γ) (rr : List V → Hp → VK → Prop) (op : α → β → Option (Res γ)) : Prop :=
  ∀ F H x y a b res Q, Same F H → A F H x a → B F H y b → op a b = some res → Pr C F (fun c => ∀ v F' H', Up F H F' H' → D F' H' v c → Q v H') res → rr [x, y] H Q
theorem mj_cb2 {op : α → β → Option (Res γ)} (up : UpM A) (rule : R2B C A B D rr op) (ha : MJ K C A ta f) (hb : MJ K C B tb g) : MJ K C D (tCB rr (tCons ta (tCons tb tNil))) (m2 op f g) := by
  intro F H σ ρ Q r R e P
  refine ha.run R e P fun p v F1 H1 hk u a => ?_
  refine hb.run (R.up u) hk (P.later u) fun q w F2 H2 hk2 u2 b => ?_
  exact rule F2 H2 v w p q r Q u2.fh (up _ _ _ _ _ _ u2 a) b hk2 (P.later (u.trans u2))
noncomputable def opLen : PV → Option (Res PV)
  | .str z => if z.length ≤ sizeLine then some (.ok (.int z.length)) else none
  | .lst l => some (.ok (.int l.length))
  | .tup l => some (.ok (.int l.length))
  | _ => none
theorem r_len : R1M C (aH K) (aF K) (fun xs H Q => ∃ x n, xs = [x] ∧ LenV K x H n ∧ Q (.int n) H) opLen := by
  intro F H x a res Q s ha e P
  match a, e with
  | .str z, e =>
    cases Rep.inv_str ha
    have e : (if z.length ≤ sizeLine then some (Res.ok (PV.int z.length)) else none) = some res := e
    split at e
    · rename_i hz
      cases e
      exact ⟨_, _, rfl, ⟨hz, rfl⟩, P _ F H (Up.refl s) .int⟩
    · cases e
  | .lst l, e =>
    cases e
    obtain ⟨b, xs, rfl, h1, r1⟩ := Rep.inv_lst ha
    rw [← r1.1] at P
    exact ⟨_, _, rfl, .inl ⟨xs, h1, rfl⟩, P _ F H (Up.refl s) .int⟩
  | .tup l, e =>
    cases e
    obtain ⟨b, xs, rfl, h1, r1⟩ := Rep.inv_tup ha
    rw [← r1.1] at P
    exact ⟨_, _, rfl, .inr ⟨xs, h1, rfl⟩, P _ F H (Up.refl s) .int⟩
noncomputable def opIs (p q : PV) : Option (Res PV) := match q with
  | .ty T => match isI p T with
    | some b => some (.ok (.bl b))
    | none => none
  | _ => none
theorem r_is : R2B C (aH K) (aF K) (aF K) (rIsM K) opIs := by
  intro F H x y a b res Q s ha hb e P
  match b, e with
  | .ty T, e =>
    cases Rep.inv_ty hb
    have e : (match isI a T with
      | some b => some (Res.ok (PV.bl b))
      | none => none) = some res := e
    split at e
    · rename_i k hk
      cases e
      exact ⟨x, a, T, k, rfl, ha, hk, P _ F H (Up.refl s) .bl⟩
    · cases e
noncomputable def asBools : List PV → Option (List Bool)
  | [] => some []
  | .bl b :: r => (asBools r).map (b :: ·)
  | _ => none
theorem asBools_eq {F : Hp} : ∀ {l : List PV} {bs : List Bool} {xs : List V}, asBools l = some bs → Reps K F xs l → xs = bs.map V.bl
  | [], bs, xs, e, r => by cases e; exact r.inv_nil
  | .bl b :: l, bs, xs, e, r => by
    rw [asBools] at e
    cases h : asBools l with
    | none => rw [h] at e; cases e
    | some cs =>
      rw [h] at e
      cases e
      obtain ⟨v, ys, rfl, r1, r2⟩ := r.inv_cons
      rw [Rep.inv_bl r1, asBools_eq h r2]
      rfl
noncomputable def opAll (l : List PV) : Option (Res PV) := match asBools l with
  | some bs => some (.ok (.bl (bs.all id)))
  | none => none
theorem r_all : R1M C (aV K) (aF K) (fun xs H Q => ∃ (p : Addr) (bs : List Bool), xs = [.ref p] ∧ SqL K H p (bs.map V.bl) ∧ Q (.bl (bs.all id)) H) opAll := by
  intro F H x a res Q s ha e P
  unfold opAll at e
  split at e
  · rename_i bs hb
    cases e
    obtain ⟨b, xs, rfl, h1, r1⟩ := ha
    rw [asBools_eq hb r1] at h1
    exact ⟨b, bs, rfl, h1, P _ F H (Up.refl s) .bl⟩
  · cases e
noncomputable def opStr : PV → Option (Res PV)
  | .int i => if i.natAbs.log2 < 1920 then some (.ok (.str (toString i))) else none
  | _ => none
theorem r_str : R1M C (aF K) (aF K) (fun xs H Q => ∃ i, xs = [.int i] ∧ i.natAbs.log2 < 1920 ∧ Q (.str (toString i)) H) opStr := by
  intro F H x a res Q s ha e P
  match a, e with
  | .int i, e =>
    cases Rep.inv_int ha
    have e : (if i.natAbs.log2 < 1920 then some (Res.ok (PV.str (toString i))) else none) = some res := e
    split at e
    · rename_i h
      cases e
      exact ⟨i, rfl, h, P _ F H (Up.refl s) .str⟩
    · cases e
noncomputable def opTup (l : List PV) : Option (Res PV) := some (.ok (.tup l))
theorem r_tup : R1M C (aV K) (aF K) (fun xs H Q => ∃ p ys, xs = [.ref p] ∧ ((SqL K H p ys ∧ ∀ l, H l = none → Q (.ref l) (upd H l (.tup ys))) ∨ (SqT K H p ys ∧ Q (.ref p) H))) opTup := by
  intro F H x a res Q s ha e P
  cases e
  obtain ⟨b, xs, rfl, h1, r1⟩ := ha
  refine ⟨b, xs, rfl, .inl ⟨h1, fun l hl => ?_⟩⟩
  have un := Up.new (o := .tup xs) s hl
  exact P _ _ _ un (.tup upd_same r1.1 (r1.up un.ff).2)
noncomputable def asStrs : List PV → Option (List Str)
  | [] => some []
  | .str b :: r => (asStrs r).map (b :: ·)
  | _ => none
theorem asStrs_eq {F : Hp} : ∀ {l : List PV} {bs : List Str} {xs : List V}, asStrs l = some bs → Reps K F xs l → xs = bs.map V.str
  | [], bs, xs, e, r => by cases e; exact r.inv_nil
  | .str b :: l, bs, xs, e, r => by
    rw [asStrs] at e
    cases h : asStrs l with
    | none => rw [h] at e; cases e
    | some cs =>
      rw [h] at e
      cases e
      obtain ⟨v, ys, rfl, r1, r2⟩ := r.inv_cons
      rw [Rep.inv_str r1, asStrs_eq h r2]
      rfl
noncomputable def opJoin (z : Str) (l : List PV) : Option (Res PV) := match asStrs l with
  | some ys => if (ys.map (·.length)).sum + ys.length * z.length ≤ 16777216 then some (.ok (.str (Txt.join z ys))) else none
  | none => none
noncomputable def mJoin (f : Fn PV) (g : Fn (List PV)) : Fn PV := fun ρ => bnd (f ρ) fun a => match a with
  | .str z => bnd (g ρ) fun l => opJoin z l
  | _ => none
theorem mj_join {f : Fn PV} {g : Fn (List PV)} (ha : MJ K C (aF K) ta f) (hb : MJ K C (aV K) tb g) :
    MJ K C (aF K) (tBM K "str" (fun x xs H Q => ∃ (z : Str) (p : Addr) (ys : List Str), x = .str z ∧ xs = [.ref p] ∧ SqL K H p (ys.map V.str) ∧ (ys.map (·.length)).sum + ys.length * z.length ≤ 16777216 ∧ Q (.str (Txt.join z ys)) H) ta (tCons tb tNil)) (mJoin f g) := by
  intro F H σ ρ Q r R e P
  refine ha.run R e P fun p v F1 H1 hk u a => ?_
  match p, hk with
  | .str z, hk =>
    cases Rep.inv_str a
    refine ⟨tyS, hb.run (R.up u) hk (P.later u) fun q w F2 H2 hk2 u2 b => ?_⟩
    unfold opJoin at hk2
    split at hk2
    · rename_i ys hys
      split at hk2
      · rename_i hz
        cases hk2
        obtain ⟨b1, xs, rfl, h1, r1⟩ := b
        rw [asStrs_eq hys r1] at h1
        exact ⟨z, b1, ys, rfl, rfl, h1, hz, P _ F2 H2 (u.trans u2) .str⟩
      · cases hk2
    · cases hk2
noncomputable def mView (f : Fn PV) : Fn (List PV) := fun ρ => bnd (f ρ) asLst
noncomputable def mViewN (i : Nat) : Fn (List PV) := fun ρ => bnd (mVL i ρ) asLst
noncomputable def mFrz (i : Nat) (f : Sn) : Sn := fun ρ => f (frzR i ρ)
end
noncomputable abbrev XR0 : Hp → Value → Option Addr → PV → Prop := fun _ _ _ _ => False
noncomputable abbrev C0 (io : Addr → Prop) (H0 F0 : Hp) : Cg := ⟨⟨io, True, H0, F0, E0⟩, XR0⟩
noncomputable def startR (ps : List PV) (k : Nat) : Rho := ps.map (fun p => some (.sh p)) ++ List.replicate k none
noncomputable def fin : Option Out → Option (Res PV)
  | some (.nx _) => some (.ok .non)
  | some (.rt p) => some (.ok p)
  | some (.ex z) => some (.ex z)
  | _ => none
noncomputable def finO : Option Out → Option (Res PV)
  | some (.ro p) => some (.ok p)
  | some (.ex z) => some (.ex z)
  | _ => none
section
variable {K : PySem.W.Frag} {XR : Hp → Value → Option Addr → PV → Prop} {N : List Str} {vs : List V} {H : Hp} {Q : VK} {E : XK} {t : TS} {b : Sn} {m : List PV → Option (Res PV)}
theorem start_re {E : XK} {F : Hp} {ps : List PV} {n : Nat} (s : Same F H) (r : Reps K F vs ps) (hN : N.length = vs.length + n) : RE K ⟨fun _ => False, True, H, F, E⟩ F H (start N vs) (startR ps n) where
  rb := ⟨s, fun _ _ h _ => h, fun _ _ h => .inl h, fun _ h => h.elim⟩
  len := by unfold start startR; rw [List.length_append, List.length_append, List.length_map, List.length_map, List.length_replicate, List.length_replicate, r.1, hN]; have := r.1; omega
  sh := fun i p e => by
    unfold startR at e
    unfold start
    by_cases hi : i < ps.length
    · rw [List.getElem?_append_left (by simpa using hi), List.getElem?_map] at e
      rw [List.getElem?_append_left (by rw [List.length_map, r.1]; exact hi), List.getElem?_map]
      cases h : ps[i]? with
      | none => rw [h] at e; cases e
      | some q =>
        rw [h] at e
        cases e
        obtain ⟨x, hx, rx⟩ := r.get h
        exact ⟨x, by rw [hx]; rfl, rx⟩
    · rw [List.getElem?_append_right (by simpa using hi), List.getElem?_replicate] at e
      split at e <;> cases e
  ow := fun i p e => by
    exfalso
    unfold startR at e
    by_cases hi : i < ps.length
    · rw [List.getElem?_append_left (by simpa using hi), List.getElem?_map] at e
      cases h : ps[i]? with
      | none => rw [h] at e; cases e
      | some q => rw [h] at e; cases e
    · rw [List.getElem?_append_right (by simpa using hi), List.getElem?_replicate] at e
      split at e <;> cases e
  dd := ⟨_, RD.no fun i p e => by
    unfold startR at e
    by_cases hi : i < ps.length
    · rw [List.getElem?_append_left (by simpa using hi), List.getElem?_map] at e
      cases h : ps[i]? with
      | none => rw [h] at e; cases e
      | some q => rw [h] at e; cases e
    · rw [List.getElem?_append_right (by simpa using hi), List.getElem?_replicate] at e
      split at e <;> cases e⟩
  dis := fun i j p q a e => by
    exfalso
    unfold startR at e
    by_cases hi : i < ps.length
    · rw [List.getElem?_append_left (by simpa using hi), List.getElem?_map] at e
      cases h : ps[i]? with
      | none => rw [h] at e; cases e
      | some q => rw [h] at e; cases e
    · rw [List.getElem?_append_right (by simpa using hi), List.getElem?_replicate] at e
      split at e <;> cases e
theorem run_fn0 {k n : Nat} (hk : N.length = k + n) (hm : ∀ ps r, m ps = some r → ps.length = k ∧ fin (b (startR ps n)) = some r) (h : spM K XR0 m vs H Q E) (hS : ∀ (io : Addr → Prop) (H0 F0 : Hp), (∀ a, ¬ io a) → MS K (C0 io H0 F0) t b) :
    t { nx := fun _ H' => Q .non H', rt := Q } (start N vs) H := by
  obtain ⟨ps, F, r, s, rp, e, P⟩ := h
  obtain ⟨hl, e⟩ := hm ps r e
  have R := start_re (E := E0) (N := N) (n := n) s rp (by rw [rp.1, hl]; exact hk)
  have up : ∀ {F' H' : Hp}, Same F F' → RB ⟨fun _ => False, True, H, F, E0⟩ F' H' → Up F H F' H' := fun s' rb => ⟨s', fun c o q => rb.keep c o q id, rb.new, rb.sub⟩
  have M := hS (fun _ => False) H F (fun _ h => h)
  cases ho : b (startR ps n) with
  | none => rw [ho] at e; cases e
  | some o =>
    rw [ho] at e
    refine M F H _ _ _ o R ho ?_
    cases o with
    | nx ρ => cases e; exact fun F' H' σ s' R' => P .non F' H' (up s' R'.rb) .non
    | rt p => cases e; exact fun v F' H' s' rb rv => P v F' H' (up s' rb) rv
    | ex z => exact fun _ _ _ _ _ _ x => x.elim
    | ro p => cases e
    | rd p => cases e
    | bk ρ => cases e
    | ct ρ => cases e
theorem run_fnO {k n : Nat} (hk : N.length = k + n) (hm : ∀ ps r, m ps = some r → ps.length = k ∧ finO (b (startR ps n)) = some r) (h : spO K XR0 m vs H Q E) (hS : ∀ (io : Addr → Prop) (H0 F0 : Hp), (∀ a, ¬ io a) → MS K (C0 io H0 F0) t b) :
    t { nx := fun _ H' => Q .non H', rt := Q } (start N vs) H := by
  obtain ⟨ps, F, r, s, rp, e, P⟩ := h
  obtain ⟨hl, e⟩ := hm ps r e
  have R := start_re (E := E0) (N := N) (n := n) s rp (by rw [rp.1, hl]; exact hk)
  have up : ∀ {F' H' : Hp}, Same F F' → RB ⟨fun _ => False, True, H, F, E0⟩ F' H' → Up F H F' H' := fun s' rb => ⟨s', fun c o q => rb.keep c o q id, rb.new, rb.sub⟩
  have M := hS (fun _ => False) H F (fun _ h => h)
  cases ho : b (startR ps n) with
  | none => rw [ho] at e; cases e
  | some o =>
    rw [ho] at e
    refine M F H _ _ _ o R ho ?_
    cases o with
    | ro p => cases e; exact fun a F' H' s' rb w n1 n2 => P a F' H' (up s' rb) n2 n1 w
    | ex z => exact fun _ _ _ _ _ _ x => x.elim
    | nx ρ => cases e
    | rt p => cases e
    | rd p => cases e
    | bk ρ => cases e
    | ct ρ => cases e
theorem len_spM (h : spM K XR m vs H Q E) {k : Nat} (hm : ∀ ps r, m ps = some r → ps.length = k) : vs.length = k := by
  obtain ⟨ps, F, r, s, rp, e, P⟩ := h
  rw [rp.1]; exact hm ps r e
theorem len_spO (h : spO K XR m vs H Q E) {k : Nat} (hm : ∀ ps r, m ps = some r → ps.length = k) : vs.length = k := by
  obtain ⟨ps, F, r, s, rp, e, P⟩ := h
  rw [rp.1]; exact hm ps r e
end
end L2.MP

namespace L2.MP
open PySem PySem.Spec PyProof.Rows
section
variable {X : Cx} {k : Nat} {N : List Str} {scope : Scope} {cl : List (Str × Addr)} {C : Addr} {s2 : Shared} {H2 : Hp} {fp : List Addr}
theorem op_inUC (hr : Room k X.A) : OpR (X.comp N scope cl C s2 H2 fp) (compareOp .In) (rInU X.K) := op_inU hr
end
section
variable {K : PySem.W.Frag} {C : Cg} {te : TE}
end
end L2.MP

namespace L2.MP
open PySem PySem.Spec PyProof.Rows
structure IoUp (a : Addr) (F H F' H' : Hp) : Prop where
  ff : Same F F'
  hb : SameBut a H H'
  fr : ∀ b o, F' b = some o → F b = some o ∨ Frz H b o
  fh : Same F' H'
noncomputable def finIO (j : Nat) : Option Out → Option (Res PV)
  | some (.nx ρ) => match ownAt j ρ with
    | some p => some (.ok p)
    | none => none
  | _ => none
section
variable {K : PySem.W.Frag} {C : Cg} {N : List Str} {vs : List V} {H F : Hp} {Q : VK} {E : XK} {t : TS} {b : Sn} {m : List PV → Option (Res PV)} {j : Nat} {ps : List PV} {a : Addr} {p : PV} {n : Nat}
end
end L2.MP

namespace L2.MP
open PySem PySem.Spec PyProof.Rows
section
variable {X : Cx}
noncomputable def rSplit : V → List V → Hp → VK → Prop := fun x xs H Q => ∃ (z y : Str), x = .str z ∧ xs = [.str y] ∧ (y.length == 0) = false ∧ z.length ≤ sizeLine ∧ (Txt.split z y).length ≤ sizeLine ∧ ∀ p, H p = none → Q (.ref p) (upd H p (.lst ((Txt.split z y).map V.str)))
theorem vals_strs : ∀ (tk : Nat) (xs : List Str), Vals (xs.map V.str) (strsFrom tk xs)
  | _, [] => .nil
  | tk, _ :: r => .cons ⟨tk, rfl⟩ (vals_strs (tk + 1) r)
theorem mt_split : MtR X "str.split" rSplit := by
  intro pins s σ H x xs v us Q I rx rv h
  obtain ⟨z, y, rfl, rfl, hy, hz, hn, q⟩ := h
  obtain ⟨t, rfl⟩ := rx
  obtain ⟨u, rfl, ru⟩ := rv.one
  obtain ⟨t', rfl⟩ := ru
  have fin : ∀ (its : List Value) (tk : Nat), Vals ((Txt.split z y).map V.str) its → EP X pins σ Q (.ref s.heap.objs.size) { s with heap := s.heap.push { cls := .type "list", data := .seq its.toArray }, toks := tk } := fun its tk r =>
    ⟨.ref s.heap.objs.size, _, I.lnew (t' := tk) r (by rw [List.length_map]; exact hn), rfl, q _ I.fresh⟩
  cases h1 : (decide (z.length < y.length) || decide (Builtin.Str.strKind z < Builtin.Str.strKind y))
  · cases hf : (Builtin.Str.occurrences z y 0 z.length (z.length + 1)).isEmpty
    · have e : Txt.split z y = Builtin.Str.partsBetween z (Builtin.Str.occurrences z y 0 z.length (z.length + 1)) y.length := (if_neg (ne_true_of_eq_false h1)).trans (if_neg (ne_true_of_eq_false hf))
      rw [e] at hn fin
      exact call_meets F.slot_str_split (typeIs_str _ _ _) F.entry_str_split (F.args_str_split_2 _ _) (meets_str_split_sep z y t t' h1 hy hf hz hn) (fin _ _ (vals_strs _ _))
    · have e : Txt.split z y = [z] := (if_neg (ne_true_of_eq_false h1)).trans (if_pos hf)
      rw [e] at fin
      exact call_meets F.slot_str_split (typeIs_str _ _ _) F.entry_str_split (F.args_str_split_2 _ _) (meets_str_split_not_found z y t t' h1 hy hf) (fin [.str z t] s.toks (.cons ⟨t, rfl⟩ .nil))
  · have e : Txt.split z y = [z] := if_pos h1
    rw [e] at fin
    exact call_meets F.slot_str_split (typeIs_str _ _ _) F.entry_str_split (F.args_str_split_2 _ _) (meets_str_split_cannot_occur z y t t' h1) (fin [.str z t] s.toks (.cons ⟨t, rfl⟩ .nil))
end
section
variable {K : PySem.W.Frag} {C : Cg} {ta tb : TE}
noncomputable def opSplit (z y : PV) : Option (Res PV) := match z, y with
  | .str z, .str y => if (y.length == 0) = false ∧ z.length ≤ sizeLine ∧ (Txt.split z y).length ≤ sizeLine then some (.ok (.lst ((Txt.split z y).map PV.str))) else none
  | _, _ => none
noncomputable def mSplit (f g : Fn PV) : Fn PV := fun ρ => bnd (f ρ) fun a => match a with
  | .str z => bnd (g ρ) fun b => opSplit (.str z) b
  | _ => none
theorem reps_strs {F : Hp} : ∀ (xs : List Str), Reps K F (xs.map V.str) (xs.map PV.str)
  | [] => .nil
  | _ :: r => (reps_strs r).cons .str
theorem mo_split {f g : Fn PV} (ha : MJ K C (aF K) ta f) (hb : MJ K C (aF K) tb g) : MO K C (tBM K "str" rSplit ta (tCons tb tNil)) (mSplit f g) := by
  intro F H σ ρ Q r R e P
  refine ha.run R e P fun p v F1 H1 hk u a => ?_
  match p, hk with
  | .str z, hk =>
    cases Rep.inv_str a
    refine ⟨tyS, hb.run (R.up u) hk (P.laterO u) fun q w F2 H2 hk2 u2 b => ?_⟩
    match q, hk2 with
    | .str y, hk2 =>
      cases Rep.inv_str b
      have hk2 : (if (y.length == 0) = false ∧ z.length ≤ sizeLine ∧ (Txt.split z y).length ≤ sizeLine then some (Res.ok (PV.lst ((Txt.split z y).map PV.str))) else none) = some r := hk2
      split at hk2
      · rename_i h
        cases hk2
        refine ⟨z, y, rfl, rfl, h.1, h.2.1, h.2.2, fun p hp => ?_⟩
        exact P p F2 _ (u.trans (u2.trans (Up.newU u2.fh hp))) ((u.hh.trans u2.hh).free hp) (u2.fh.free hp) ⟨_, upd_same, reps_strs _⟩
      · cases hk2
end
end L2.MP

namespace L2.MP
open PySem PySem.Spec PyProof.Rows
section
variable {X : Cx}
noncomputable def rTI (G : Str → Str → Option Int) : V → List V → Hp → VK → Prop := fun x xs H Q => ∃ (z y : Str) (i : Int), x = .str z ∧ xs = [.str y] ∧ G z y = some i ∧ Q (.int i) H
noncomputable def findG (x y : Str) : Option Int := some (match Builtin.Str.occurrences x y 0 x.length 1 with | i :: _ => (i : Int) | [] => -1)
theorem mt_find : MtR X "str.find" (rTI findG) := by
  intro pins s σ H x xs v us Q I rx rv h
  obtain ⟨z, y, i, rfl, rfl, hi, q⟩ := h
  obtain ⟨t, rfl⟩ := rx
  obtain ⟨u, rfl, ru⟩ := rv.one
  obtain ⟨t', rfl⟩ := ru
  cases hi
  exact call_gives F.slot_str_find (typeIs_str _ _ _) F.entry_str_find (F.args_str_find_2 _ _) (gives_str_find z y t t') (show EP X pins σ Q (.int _ s.toks) { s with toks := s.toks + 1 } from ⟨.int _, H, I.tok _, ⟨s.toks, rfl⟩, q⟩)
end
section
variable {K : PySem.W.Frag} {C : Cg} {ta tb : TE}
noncomputable def opTI (G : Str → Str → Option Int) (z : Str) : PV → Option (Res PV)
  | .str y => (G z y).map fun i => .ok (.int i)
  | _ => none
noncomputable def mTI (G : Str → Str → Option Int) (f g : Fn PV) : Fn PV := fun ρ => bnd (f ρ) fun a => match a with
  | .str z => bnd (g ρ) (opTI G z)
  | _ => none
theorem mj_TI {G : Str → Str → Option Int} {f g : Fn PV} (ha : MJ K C (aF K) ta f) (hb : MJ K C (aF K) tb g) : MJ K C (aF K) (tBM K "str" (rTI G) ta (tCons tb tNil)) (mTI G f g) := by
  intro F H σ ρ Q r R e P
  refine ha.run R e P fun p v F1 H1 hk u a => ?_
  match p, hk with
  | .str z, hk =>
    cases Rep.inv_str a
    refine ⟨tyS, hb.run (R.up u) hk (P.later u) fun q w F2 H2 hk2 u2 b => ?_⟩
    match q, hk2 with
    | .str y, hk2 =>
      cases Rep.inv_str b
      have hk2 : (G z y).map (fun i => Res.ok (PV.int i)) = some r := hk2
      cases hg : G z y with
      | none => rw [hg] at hk2; cases hk2
      | some i =>
        rw [hg] at hk2
        cases hk2
        exact ⟨z, y, i, rfl, rfl, hg, P _ F2 H2 (u.trans u2) .int⟩
end
noncomputable def minL : List Int → Int
  | [] => 0
  | [x] => x
  | x :: y :: r => if minL (y :: r) < x then minL (y :: r) else x
noncomputable def maxL : List Int → Int
  | [] => 0
  | [x] => x
  | x :: y :: r => if x < maxL (y :: r) then maxL (y :: r) else x
theorem minL_ok : ∀ {ns : List Int}, ns ≠ [] → minL ns ∈ ns ∧ ∀ a ∈ ns, minL ns ≤ a
  | [], h => absurd rfl h
  | [x], _ => ⟨List.mem_cons_self, fun a ha => by rw [List.mem_singleton.mp ha]; exact Int.le_refl _⟩
  | x :: y :: r, _ => by
    obtain ⟨h1, h2⟩ := minL_ok (ns := y :: r) (by simp)
    unfold minL
    split
    · rename_i h
      refine ⟨List.mem_cons_of_mem _ h1, fun a ha => ?_⟩
      rcases List.mem_cons.mp ha with q | q
      · subst q; omega
      · exact h2 a q
    · rename_i h
      refine ⟨List.mem_cons_self, fun a ha => ?_⟩
      rcases List.mem_cons.mp ha with q | q
      · subst q; omega
      · have := h2 a q; omega
theorem maxL_ok : ∀ {ns : List Int}, ns ≠ [] → maxL ns ∈ ns ∧ ∀ a ∈ ns, a ≤ maxL ns
  | [], h => absurd rfl h
  | [x], _ => ⟨List.mem_cons_self, fun a ha => by rw [List.mem_singleton.mp ha]; exact Int.le_refl _⟩
  | x :: y :: r, _ => by
    obtain ⟨h1, h2⟩ := maxL_ok (ns := y :: r) (by simp)
    unfold maxL
    split
    · rename_i h
      refine ⟨List.mem_cons_of_mem _ h1, fun a ha => ?_⟩
      rcases List.mem_cons.mp ha with q | q
      · subst q; omega
      · exact h2 a q
    · rename_i h
      refine ⟨List.mem_cons_self, fun a ha => ?_⟩
      rcases List.mem_cons.mp ha with q | q
      · subst q; omega
      · have := h2 a q; omega
theorem ints_are : ∀ {ns : List Int} {us : List Value}, Vals (ns.map V.int) us → IntsAre us ns
  | [], us, r => by rw [List.map_nil] at r; cases r; exact .nil
  | n :: ns, us, r => by
    rw [List.map_cons] at r
    cases r with
    | cons r1 r2 =>
      obtain ⟨t, e⟩ := r1
      subst e
      exact .cons n t (ints_are r2)
section
variable {X : Cx}
noncomputable def rLst (G : List Int → Int) (K : PySem.W.Frag) : List V → Hp → VK → Prop := fun xs H Q => ∃ (p : Addr) (ns : List Int), xs = [.ref p] ∧ SqL K H p (ns.map V.int) ∧ ns ≠ [] ∧ Q (.int (G ns)) H
theorem call_minL (hc : X.calm = true) : CallR X (.builtin "min") (rLst minL X.K) := by
  intro pins s σ H xs us Q I rv h
  obtain ⟨p, ns, rfl, hq, hne, q⟩ := h
  obtain ⟨u, rfl, ru⟩ := rv.one
  cases ru
  obtain ⟨its, r, pl, hz⟩ := I.list hq
  have hi := ints_are r
  obtain ⟨ys, e⟩ := hi.allInts.items
  have hns : ns = ys.toList.map (·.1) := by rw [← hi.numsOf, ← nums_intItems, ← e]
  have hl0 : 0 < ns.length := by cases ns with | nil => exact absurd rfl hne | cons => simp
  have hsz : 0 < ys.size := by
    have h3 := hl0; rw [hns, List.length_map, Array.length_toList] at h3; exact h3
  have pl' := pl.isList
  rw [e] at pl'
  refine min_intList (I.ok.hd hc) pl' hsz fun v h' tk hv hk => ?_
  obtain ⟨t, rfl⟩ := intItems_at hv
  obtain ⟨h1, h2⟩ := argBest_lt (numAt ys) (ys.size - 1)
  have hin : numAt ys (argBest (fun i j => decide (numAt ys i < numAt ys j)) (ys.size - 1)) ∈ ns := by
    rw [hns, numAt_eq]; exact getD_mem (by rw [List.length_map, Array.length_toList]; omega)
  have hle : ∀ a, a ∈ ns → numAt ys (argBest (fun i j => decide (numAt ys i < numAt ys j)) (ys.size - 1)) ≤ a := fun a ha => by
    rw [hns] at ha
    obtain ⟨j, hj, rfl⟩ := mem_getD ha
    rw [List.length_map, Array.length_toList] at hj
    rw [← numAt_eq]; exact h2 j (by omega)
  have em : numAt ys (argBest (fun i j => decide (numAt ys i < numAt ys j)) (ys.size - 1)) = minL ns := Int.le_antisymm (hle _ (minL_ok hne).1) ((minL_ok hne).2 _ hin)
  rw [em]
  exact ⟨.int _, H, I.kept hk, ⟨t, rfl⟩, q⟩
theorem call_maxL (hc : X.calm = true) : CallR X (.builtin "max") (rLst maxL X.K) := by
  intro pins s σ H xs us Q I rv h
  obtain ⟨p, ns, rfl, hq, hne, q⟩ := h
  obtain ⟨u, rfl, ru⟩ := rv.one
  cases ru
  obtain ⟨its, r, pl, hz⟩ := I.list hq
  have hi := ints_are r
  obtain ⟨ys, e⟩ := hi.allInts.items
  have hns : ns = ys.toList.map (·.1) := by rw [← hi.numsOf, ← nums_intItems, ← e]
  have hl0 : 0 < ns.length := by cases ns with | nil => exact absurd rfl hne | cons => simp
  have hsz : 0 < ys.size := by
    have h3 := hl0; rw [hns, List.length_map, Array.length_toList] at h3; exact h3
  have pl' := pl.isList
  rw [e] at pl'
  refine max_intList (I.ok.hd hc) pl' hsz fun v h' tk hv hk => ?_
  obtain ⟨t, rfl⟩ := intItems_at hv
  obtain ⟨h1, h2⟩ := argBest_gt (numAt ys) (ys.size - 1)
  have hin : numAt ys (argBest (fun i j => decide (numAt ys i > numAt ys j)) (ys.size - 1)) ∈ ns := by
    rw [hns, numAt_eq]; exact getD_mem (by rw [List.length_map, Array.length_toList]; omega)
  have hle : ∀ a, a ∈ ns → a ≤ numAt ys (argBest (fun i j => decide (numAt ys i > numAt ys j)) (ys.size - 1)) := fun a ha => by
    rw [hns] at ha
    obtain ⟨j, hj, rfl⟩ := mem_getD ha
    rw [List.length_map, Array.length_toList] at hj
    rw [← numAt_eq]; exact h2 j (by omega)
  have em : numAt ys (argBest (fun i j => decide (numAt ys i > numAt ys j)) (ys.size - 1)) = maxL ns := Int.le_antisymm ((maxL_ok hne).2 _ hin) (hle _ (maxL_ok hne).1)
  rw [em]
  exact ⟨.int _, H, I.kept hk, ⟨t, rfl⟩, q⟩
end
noncomputable def asInts : List PV → Option (List Int)
  | [] => some []
  | .int n :: l => (asInts l).map (n :: ·)
  | _ => none
theorem asInts_eq {K : PySem.W.Frag} {F : Hp} : ∀ {l : List PV} {ns : List Int} {xs : List V}, asInts l = some ns → Reps K F xs l → xs = ns.map V.int
  | [], ns, xs, h, r => by
    cases h
    exact List.length_eq_zero_iff.mp (by simpa using r.1)
  | .int n :: l, ns, xs, h, r => by
    cases hl : asInts l with
    | none => simp only [asInts, hl] at h; cases h
    | some ms =>
      simp only [asInts, hl] at h
      cases h
      obtain ⟨v, ys, rfl, r1, r2⟩ := r.inv_cons
      cases Rep.inv_int r1
      rw [asInts_eq hl r2]
      rfl
noncomputable def opLstI (G : List Int → Int) (l : List PV) : Option (Res PV) := match asInts l with
  | some (n :: ns) => some (.ok (.int (G (n :: ns))))
  | _ => none
theorem r_lstI {K : PySem.W.Frag} {C : Cg} {G : List Int → Int} : R1M C (aV K) (aF K) (rLst G K) (opLstI G) := by
  intro F H x a res Q s ha e P
  unfold opLstI at e
  split at e
  · rename_i n ns hb
    cases e
    obtain ⟨b, xs, rfl, h1, r1⟩ := ha
    rw [asInts_eq hb r1] at h1
    exact ⟨b, n :: ns, rfl, h1, by simp, P _ F H (Up.refl s) .int⟩
  · cases e
section
variable {X : Cx} {pos : Pos}
end
section
variable {K : PySem.W.Frag} {C : Cg}
end
section
variable {K : PySem.W.Frag} {C : Cg} {ta tb : TE}
end
end L2.MP

namespace L2.MP
open PySem PySem.Spec PyProof.Rows
section
variable {prog : Program} {w : World} {A : Around} {E : Value → Shared → Prop} {s : Shared} {a : Addr} {o : Obj} {xs : Array Value} {k : Nat} {name : Str} {Q : Option Value → Shared → Prop}
end
section
variable {X : Cx} {pins : List (Addr × Obj)} {σ : St} {H H' : Hp} {s : Shared} {d : Addr} {y v : V} {u r : Value} {A : Around} {E : Value → Shared → Prop}
theorem DPut.other (g : DPut H d y v H') {b : Addr} (hb : b ≠ d) : H' b = H b := by
  rcases g with ⟨kvs, k, e, ey, l, rfl⟩ | ⟨kvs, k, b', e, ey, eb, l, rfl⟩
  · exact upd_ne hb
  · exact upd_ne hb
end
section
variable {X : Cx}
end
end L2.MP

namespace L2.MP
open PySem PySem.Spec PyProof.Rows
section
variable {κ : Type} [DecidableEq κ]
noncomputable def valP : List (κ × PV) → κ → Option PV
  | [], _ => none
  | (a, p) :: l, k => if a = k then some p else valP l k
noncomputable def putP : List (κ × PV) → κ → PV → List (κ × PV)
  | [], k, p => [(k, p)]
  | (a, q) :: l, k, p => if a = k then (a, p) :: (if (l.any fun e => decide (e.1 = k)) = true then putP l k p else l) else (a, q) :: putP l k p
inductive DRep (K : PySem.W.Frag) (F : Hp) : List (κ × V) → List (κ × PV) → Prop
  | nil : DRep K F [] []
  | cons {k : κ} {v : V} {p : PV} {xs : List (κ × V)} {l : List (κ × PV)} (h : Rep K F v p) (t : DRep K F xs l) : DRep K F ((k, v) :: xs) ((k, p) :: l)
variable {K : PySem.W.Frag} {F F' : Hp} {xs : List (κ × V)} {l : List (κ × PV)} {k : κ}
theorem DRep.of : ∀ {xs : List (κ × V)} {l : List (κ × PV)}, xs.map (·.1) = l.map (·.1) → (∀ (j : Nat) x p, xs[j]? = some x → l[j]? = some p → Rep K F x.2 p.2) → DRep K F xs l
  | [], [], _, _ => .nil
  | [], _ :: _, h, _ => by simp at h
  | _ :: _, [], h, _ => by simp at h
  | (a, v) :: xs, (b, p) :: l, h, hr => by
    simp only [List.map_cons, List.cons.injEq] at h
    obtain ⟨h1, h2⟩ := h
    have h1 : a = b := h1
    subst h1
    exact .cons (hr 0 _ _ rfl rfl) (DRep.of h2 fun j x p e1 e2 => hr (j + 1) x p (by simpa using e1) (by simpa using e2))
theorem DRep.keys (h : DRep K F xs l) : xs.map (·.1) = l.map (·.1) := by
  induction h with
  | nil => rfl
  | cons h t ih => simp [ih]
theorem DRep.len (h : DRep K F xs l) : xs.length = l.length := by
  have := congrArg List.length h.keys
  simpa using this
theorem DRep.at (h : DRep K F xs l) : ∀ (j : Nat) x p, xs[j]? = some x → l[j]? = some p → Rep K F x.2 p.2 := by
  induction h with
  | nil => intro j x p e; simp at e
  | cons h t ih =>
    intro j x p e1 e2
    cases j with
    | zero => simp at e1 e2; subst e1 e2; exact h
    | succ j => exact ih j x p (by simpa using e1) (by simpa using e2)
theorem DRep.none (h : DRep K F xs l) (e : valP l k = none) : valV xs k = none := by
  induction h with
  | nil => rfl
  | @cons a v p xs l h t ih =>
    unfold valP at e
    split at e
    · cases e
    · rename_i hk
      rw [valV_neg hk]; exact ih e
theorem DRep.some {p : PV} (h : DRep K F xs l) (e : valP l k = some p) : ∃ v, valV xs k = some v ∧ Rep K F v p := by
  induction h with
  | nil => cases e
  | @cons a v q xs l h t ih =>
    unfold valP at e
    split at e
    · rename_i hk
      cases e
      exact ⟨v, valV_pos hk, h⟩
    · rename_i hk
      obtain ⟨w, h1, h2⟩ := ih e
      exact ⟨w, by rw [valV_neg hk]; exact h1, h2⟩
theorem DRep.any (h : DRep K F xs l) : (xs.any fun e => decide (e.1 = k)) = l.any fun e => decide (e.1 = k) := by
  induction h with
  | nil => rfl
  | cons h t ih => simp only [List.any_cons, ih]
theorem DRep.snoc {v : V} {p : PV} (h : DRep K F xs l) (r : Rep K F v p) : (l.any fun e => decide (e.1 = k)) = false → DRep K F (xs ++ [(k, v)]) (putP l k p) := by
  induction h with
  | nil => intro _; exact .cons r .nil
  | @cons a w q xs l h t ih =>
    intro z
    rw [List.any_cons, Bool.or_eq_false_iff] at z
    have hk : ¬ a = k := by simpa using z.1
    unfold putP
    rw [if_neg hk]
    exact .cons h (ih z.2)
end
noncomputable def asKey : PV → Option Key
  | .int i => some (.inl i)
  | .str x => some (.inr x)
  | _ => none
noncomputable def asKeys : List PV → Option (List Key)
  | [] => some []
  | p :: l => match asKey p, asKeys l with
    | some k, some ks => some (k :: ks)
    | _, _ => none
noncomputable def PV.isD : PV → Bool
  | .dk _ => true
  | .dt _ => true
  | _ => false
noncomputable def DLk (K : PySem.W.Frag) (F H : Hp) (a : Addr) : PV → Prop
  | .dk l => ∃ xs, Rd H a (.dK xs) ∧ xs.map (·.1) = l.map (·.1) ∧ ∀ (j : Nat) x p, xs[j]? = some x → l[j]? = some p → Rep K F x.2 p.2
  | .dt l => ∃ xs, Rd H a (.dT xs) ∧ xs.map (·.1) = l.map (·.1) ∧ ∀ (j : Nat) x p, xs[j]? = some x → l[j]? = some p → Rep K F x.2 p.2
  | _ => False
theorem DLk.up {K : PySem.W.Frag} {F H F' H' : Hp} {a : Addr} {p : PV} (o : DLk K F H a p) (sf : Same F F') (sh : Same H H') : DLk K F' H' a p := by
  cases p with
  | dk l => obtain ⟨xs, e, r, q⟩ := o; exact ⟨xs, e.same sh, r, fun j x p a b => (q j x p a b).up sf⟩
  | dt l => obtain ⟨xs, e, r, q⟩ := o; exact ⟨xs, e.same sh, r, fun j x p a b => (q j x p a b).up sf⟩
  | _ => exact o.elim
theorem Own.look {K : PySem.W.Frag} {F H : Hp} {a : Addr} {p : PV} (o : Own K F H a p) (d : p.isD = true) : DLk K F H a p := by
  cases p with
  | dk l => obtain ⟨xs, e, r⟩ := o; exact ⟨xs, .inl e, r⟩
  | dt l => obtain ⟨xs, e, r⟩ := o; exact ⟨xs, .inl e, r⟩
  | _ => cases d
noncomputable def aD (K : PySem.W.Frag) : Rel PV := fun F H v p => p.isD = true ∧ ∃ a, v = .ref a ∧ DLk K F H a p
theorem aD.up {K : PySem.W.Frag} : UpM (aD K) := fun _ _ _ _ _ _ u ⟨h1, b, e, o⟩ => ⟨h1, b, e, o.up u.ff u.hh⟩
theorem Rep.own {K : PySem.W.Frag} {F H : Hp} {v : V} {p : PV} (r : Rep K F v p) (s : Same F H) (d : p.isD = true) : ∃ a, v = .ref a ∧ DLk K F H a p := by
  cases r with
  | dk h hl hr => exact ⟨_, rfl, _, h.same s, hl, hr⟩
  | dt h hl hr => exact ⟨_, rfl, _, h.same s, hl, hr⟩
  | _ => cases d
section
variable {K : PySem.W.Frag} {C : Cg} {ta tb tc te : TE} {f g h : Fn PV}
noncomputable def dFind : PV → PV → Option (Option PV)
  | .dk l, k => (asKey k).map (valP l)
  | .dt l, .tup ks => (asKeys ks).map (valP l)
  | _, _ => none
theorem DLk.isD {F H : Hp} {a : Addr} {p : PV} (o : DLk K F H a p) (d : p.isD = true) : IsD H a := by
  cases p with
  | dk l => obtain ⟨xs, e, _⟩ := o; exact .inl ⟨xs, e⟩
  | dt l => obtain ⟨xs, e, _⟩ := o; exact .inr ⟨xs, e⟩
  | _ => cases d
end
section
variable {K : PySem.W.Frag} {C : Cg} {ta tb te : TE} {f g : Fn PV}
end
section
variable {X : Cx}
end
section
variable {X : Cx} {k : Nat} {N : List Str} {scope : Scope} {cl : List (Str × Addr)} {C : Addr} {s2 : Shared} {H2 : Hp} {fp : List Addr}
end
end L2.MP

namespace L2.MP
open PySem PySem.Spec PyProof.Rows
noncomputable def rIntS : List V → Hp → VK → Prop := fun xs H Q => ∃ (z : Str) (n : Int), xs = [.str z] ∧ z.length ≤ 640 ∧ PySem.intText? z = some n ∧ Q (.int n) H
theorem call_intS {X : Cx} : CallR X (.type "int") rIntS := by
  intro pins s σ H xs us Q I rv h
  obtain ⟨z, n, rfl, hl, hn, q⟩ := h
  obtain ⟨u, rfl, ru⟩ := rv.one
  obtain ⟨t, rfl⟩ := ru
  exact PySem.W.KIN.call_text hn hl ⟨.int n, H, I.tok _, ⟨_, rfl⟩, q⟩
noncomputable def opIntS : PV → Option (Res PV)
  | .str z => if z.length ≤ 640 then (PySem.intText? z).map fun n => .ok (.int n) else none
  | _ => none
theorem r_intS {K : PySem.W.Frag} {C : Cg} : R1M C (aF K) (aF K) rIntS opIntS := by
  intro F H x a res Q s ha e P
  match a, e with
  | .str z, e =>
    cases Rep.inv_str ha
    have e : (if z.length ≤ 640 then (PySem.intText? z).map fun n => Res.ok (PV.int n) else none) = some res := e
    split at e
    · rename_i hz
      cases hn : PySem.intText? z with
      | none => rw [hn] at e; cases e
      | some n =>
        rw [hn] at e
        cases e
        exact ⟨z, n, rfl, hz, hn, P _ F H (Up.refl s) .int⟩
    · cases e
end L2.MP

namespace L2.MP
open PySem PySem.Spec PyProof.Rows
section
variable {X : Cx} {tg : Expr}
noncomputable def CR (a b c : Int) : Prop := 0 ≤ a ∧ a < 2 ^ 30 ∧ -(2 ^ 30) ≤ b ∧ b < 2 ^ 30 ∧ 0 < c ∧ c < 2 ^ 30
noncomputable instance (a b c : Int) : Decidable (CR a b c) := inferInstanceAs (Decidable (_ ∧ _))
theorem vals_ints {acc : Array Value} {n : Nat} (h : ItemsOf (fun i v => ∃ t, v = .int (0 + (i : Nat) * 1) t) acc n) : Vals ((List.range n).map fun i => V.int (i : Nat)) acc.toList := by
  obtain ⟨hs, hv⟩ := h
  have go : ∀ (l : List Value) (k : Nat), (∀ (i : Nat) v, l[i]? = some v → ∃ t, v = Value.int (((k + i : Nat) : Int)) t) → Vals ((List.range' k l.length).map fun i => V.int (i : Nat)) l := by
    intro l
    induction l with
    | nil => intro k _; exact .nil
    | cons v l ih =>
      intro k h
      rw [List.length_cons, List.range'_succ, List.map_cons]
      obtain ⟨t, e⟩ := h 0 v rfl
      refine .cons ⟨t, by rw [e]; rfl⟩ (ih (k + 1) fun i v hv => ?_)
      obtain ⟨t, e⟩ := h (i + 1) v (by simpa using hv)
      exact ⟨t, by rw [e]; congr 2; omega⟩
  have := go acc.toList 0 fun i v e => by
    obtain ⟨t, e2⟩ := hv i v (by simpa using e)
    exact ⟨t, by rw [e2]; congr 1; omega⟩
  rwa [Array.length_toList, hs, ← List.range_eq_range'] at this
section
variable {prog : Program} {w : World} {A : Around} {E : Value → Shared → Prop} {s : Shared}
end
end
section
variable {K : PySem.W.Frag} {C : Cg} {F : Hp} {te : TE} {tA : TA} {f : Fn PV}
end
end L2.MP

namespace L2.MP
open PySem PySem.Spec PyProof.Rows
section
variable {K : PySem.W.Frag} {C : Cg} {ta : TE} {f : Fn PV}
noncomputable def CDivL (_ j : Int) : Prop := 0 < j ∧ j.natAbs.log2 < 9000
noncomputable def cDivL (_ j : Int) : Bool := decide (0 < j ∧ j.natAbs.log2 < 9000)
theorem op_fdivL {X : Cx} : OpR X (binaryOp .FloorDiv) (rI CDivL fun i j => .int (i / j)) := _root_.L2.opI fun i j _ _ _ _ _ hc q => by
  have h1 : (0 : Int) < j := hc.1
  exact floordiv_int (by omega) (by rw [Int.fdiv_eq_ediv_of_nonneg i (by omega)]; exact q) (.inl (PyProof.noPylong_of_log2 hc.2))
noncomputable def opDivL := MP.opI cDivL fun i j => .int (i / j)
theorem r_divL : R2M C (aF K) (aF K) (aF K) (rI CDivL fun i j => .int (i / j)) opDivL := r_int (fun _ _ h => of_decide_eq_true (p := 0 < _ ∧ _) h) fun _ _ _ => .int
end
section
variable {prog : Program} {w : World} {A : Around} {E : Value → Shared → Prop} {s : Shared}
end
section
variable {X : Cx}
end
section
variable {K : PySem.W.Frag} {C : Cg} {te : TE}
end
section
variable {K : PySem.W.Frag} {C : Cg} {ta : TE} {f : Fn PV}
inductive MPs (K : PySem.W.Frag) (C : Cg) : List (TE × TE) → List (Fn PV × Fn PV) → Prop
  | nil : MPs K C [] []
  | cons {tk tv : TE} {fk fv : Fn PV} {ts : List (TE × TE)} {fs : List (Fn PV × Fn PV)} (hk : MJ K C (aF K) tk fk) (hv : MJ K C (aF K) tv fv) (h : MPs K C ts fs) : MPs K C ((tk, tv) :: ts) ((fk, fv) :: fs)
inductive Reps2 (K : PySem.W.Frag) (F : Hp) : List (V × V) → List (PV × PV) → Prop
  | nil : Reps2 K F [] []
  | cons {x y : V} {p q : PV} {xs : List (V × V)} {l : List (PV × PV)} (h1 : Rep K F x p) (h2 : Rep K F y q) (t : Reps2 K F xs l) : Reps2 K F ((x, y) :: xs) ((p, q) :: l)
theorem Reps2.up {F F' : Hp} {xs : List (V × V)} {l : List (PV × PV)} (h : Reps2 K F xs l) (s : Same F F') : Reps2 K F' xs l := by
  induction h with
  | nil => exact .nil
  | cons h1 h2 _ ih => exact .cons (h1.up s) (h2.up s) ih
end
end L2.MP

namespace L2.MP
open PySem PySem.Spec PyProof.Rows
noncomputable def POk (K : PySem.W.Frag) (C : Cg) (F : Hp) (D : Ends) (i : Nat) (c : Option (Option V)) : Out → Prop
  | .nx ρ => ∀ F' H' σ, Same F F' → RE K C.toCf F' H' σ ρ → σ[i]? = c → D.nx σ H'
  | .bk ρ => ∀ F' H' σ, Same F F' → RE K C.toCf F' H' σ ρ → σ[i]? = c → D.bk σ H'
  | .ct ρ => ∀ F' H' σ, Same F F' → RE K C.toCf F' H' σ ρ → σ[i]? = c → D.ct σ H'
  | o => PO' K C F D o
noncomputable def MSk (K : PySem.W.Frag) (C : Cg) (i : Nat) (t : TS) (f : Sn) : Prop := ∀ F H σ ρ D o, RE K C.toCf F H σ ρ → f ρ = some o → POk K C F D i (σ[i]?) o → t D σ H
noncomputable def MGk (K : PySem.W.Frag) (C : Cg) (i : Nat) (g : TG) (tg : PV → Rho → Option Rho) : Prop :=
  ∀ F H σ ρ v p ρ' Q, RE K C.toCf F H σ ρ → Rep K F v p → tg p ρ = some ρ' → (∀ σ', RE K C.toCf F H σ' ρ' → σ'[i]? = σ[i]? → Q σ' H) → g v σ H Q
noncomputable def MGsk (K : PySem.W.Frag) (C : Cg) (i : Nat) (g : TGs) (tg : List PV → Rho → Option Rho) : Prop :=
  ∀ F H σ ρ vs ps ρ' Q, RE K C.toCf F H σ ρ → Reps K F vs ps → tg ps ρ = some ρ' → (∀ σ', RE K C.toCf F H σ' ρ' → σ'[i]? = σ[i]? → Q σ' H) → g vs σ H Q
section
variable {K : PySem.W.Frag} {C : Cg} {i : Nat} {te : TE} {F H : Hp} {σ : St} {ρ : Rho} {D : Ends} {t u : TS} {f g : Sn} {o : Out} {c : Option (Option V)}
theorem POk.up {F1 : Hp} (h : POk K C F D i c o) (s : Same F F1) : POk K C F1 D i c o := by
  cases o with
  | nx ρ => exact fun F' H' σ a => h F' H' σ (s.trans a)
  | bk ρ => exact fun F' H' σ a => h F' H' σ (s.trans a)
  | ct ρ => exact fun F' H' σ a => h F' H' σ (s.trans a)
  | rt p => exact fun v F' H' a => h v F' H' (s.trans a)
  | ro p => exact fun v F' H' a => h v F' H' (s.trans a)
  | rd p => exact fun v F' H' S a => h v F' H' S (s.trans a)
  | ex z => exact PX.up h s
theorem mgk_name (j : Nat) (h : j ≠ i) : MGk K C i (gName j) (gN j) := fun F H σ ρ v p ρ' Q R r e k => by
  cases e
  exact k _ (R.set j r) (List.getElem?_set_ne h)
theorem mgsk_nil : MGsk K C i gNil gsNil := fun F H σ ρ vs ps ρ' Q R r e k => by
  cases ps with
  | nil => cases e; exact ⟨r.inv_nil, k σ R rfl⟩
  | cons p l => cases e
theorem mgsk_cons {g : TG} {gs : TGs} {tg : PV → Rho → Option Rho} {tgs : List PV → Rho → Option Rho} (h : MGk K C i g tg) (hs : MGsk K C i gs tgs) : MGsk K C i (gCons g gs) (gsCons tg tgs) := fun F H σ ρ vs ps ρ' Q R r e k => by
  cases ps with
  | nil => cases e
  | cons p l =>
    obtain ⟨v, ys, rfl, r1, r2⟩ := r.inv_cons
    have e' : (match tg p ρ with
      | some ρ' => tgs l ρ'
      | none => none) = some ρ' := e
    split at e'
    · rename_i ρ1 h1
      exact ⟨v, ys, rfl, h F H σ ρ v p ρ1 _ R r1 h1 fun σ' R' k' => hs F H σ' ρ1 ys l ρ' Q R' r2 e' fun σ2 R2 k2 => k σ2 R2 (k2.trans k')⟩
    · cases e'
theorem mgk_tup {n : Nat} {gs : TGs} {tgs : List PV → Rho → Option Rho} (hs : MGsk K C i gs tgs) : MGk K C i (gTup K n gs) (gT n tgs) := fun F H σ ρ v p ρ' Q R r e k => by
  unfold gT at e
  split at e
  · rename_i l
    split at e
    · rename_i hn
      obtain ⟨a, xs, rfl, hq, rr⟩ := r.inv_tup
      exact ⟨a, xs, rfl, R.rb.sub.tup hq, by rw [rr.1]; exact hn, hs F H σ ρ xs l ρ' Q R rr e k⟩
    · cases e
  · cases e
theorem msk_next : MSk K C i tNext mNext := fun F H σ ρ D o R e P => by
  cases e
  exact P F H σ (Same.refl _) R rfl
noncomputable def Ends1 (f : Sn) : Prop := ∀ ρ o, f ρ = some o → match o with
  | .nx _ | .bk _ | .ct _ => False
  | _ => True
theorem msk_end (h : MS K C t f) (he : Ends1 f) : MSk K C i t f := fun F H σ ρ D o R e P => by
  have := he ρ o e
  cases o with
  | nx ρ => exact this.elim
  | bk ρ => exact this.elim
  | ct ρ => exact this.elim
  | rt p => exact h F H σ ρ D _ R e P
  | ro p => exact h F H σ ρ D _ R e P
  | rd p => exact h F H σ ρ D _ R e P
  | ex z => exact h F H σ ρ D _ R e P
theorem MT.runK {tt : TT} {fe : Fn Bool} {Q : Bool → Hp → Prop} {k : Bool → Option Out} (h : MT K C tt fe) (R : RE K C.toCf F H σ ρ) (hb : bndS (fe ρ) k = some o) (P : POk K C F D i c o)
    (go : ∀ b F1 H1, k b = some o → Up F H F1 H1 → Q b H1) : tt σ H Q := by
  rcases bndS_inv hb with ⟨z, e, rfl⟩ | ⟨p, e, hk⟩
  · exact h F H σ ρ Q _ R e P
  · exact h F H σ ρ Q _ R e fun F1 H1 u => go p F1 H1 hk u
theorem MJ.runK {α : Type} {A : Rel α} {ta : TE} {fe : Fn α} {Q : VK} {k : α → Option Out} (h : MJ K C A ta fe) (R : RE K C.toCf F H σ ρ) (hb : bndS (fe ρ) k = some o) (P : POk K C F D i c o)
    (go : ∀ p v F1 H1, k p = some o → Up F H F1 H1 → A F1 H1 v p → Q v H1) : ta σ H Q := by
  rcases bndS_inv hb with ⟨z, e, rfl⟩ | ⟨p, e, hk⟩
  · exact h F H σ ρ Q _ R e P
  · exact h F H σ ρ Q _ R e fun v F1 H1 u a => go p v F1 H1 hk u a
theorem msk_if {c : TT} {fc : Fn Bool} (hc : MT K C c fc) (h1 : MSk K C i t f) (h2 : MSk K C i u g) : MSk K C i (tIfS c t u) (mIfS fc f g) := by
  intro F H σ ρ D o R e P
  refine hc.runK R e P fun b F1 H1 hk uu => ?_
  cases b with
  | true => rw [if_pos rfl] at hk ⊢; exact h1 F1 H1 σ ρ D o (R.up uu) hk (P.up uu.ff)
  | false => rw [if_neg (by decide)] at hk ⊢; exact h2 F1 H1 σ ρ D o (R.up uu) hk (P.up uu.ff)
theorem forJ_loopK {J : It} {gt : TG} {tg : PV → Rho → Option Rho} {l : List PV} (hg : MGk K C i gt tg) (hb : MSk K C i t f) (hJ : ItR K J F l) (R : RE K C.toCf F H σ ρ) (hc : σ[i]? = c) (e : loop tg f l ρ = some o) (P : POk K C F D i c o) : ForJ J gt t D σ H := by
  refine ⟨fun k m σ' H' => ∃ F' ρ', m = l.length - k ∧ k ≤ l.length ∧ Same F F' ∧ RE K C.toCf F' H' σ' ρ' ∧ σ'[i]? = c ∧ loop tg f (l.drop k) ρ' = some o, ⟨l.length, F, ρ, by simp, Nat.zero_le _, Same.refl _, R, hc, by rw [List.drop_zero]; exact e⟩, ?_⟩
  rintro k m σ' H' ⟨F', ρ', rfl, hi, s, R', hc', e'⟩
  by_cases hlt : k < l.length
  · refine .inr ⟨hJ.go k F' H' hlt s R'.rb.sub, fun σ2 H2 => ∃ F2 ρ2, Same F F2 ∧ RE K C.toCf F2 H2 σ2 ρ2 ∧ σ2[i]? = c ∧ loop tg f (l.drop (k + 1)) ρ2 = some o, fun σ2 H2 ⟨F2, ρ2, s2, R2, c2, e2⟩ => ⟨l.length - (k + 1), by omega, F2, ρ2, rfl, hlt, s2, R2, c2, e2⟩, fun x H'' y => ?_⟩
    obtain ⟨F'', p, u, ep, rx⟩ := hJ.yld k F' H' x H'' hlt s R'.rb.sub y
    have ed : l.drop k = p :: l.drop (k + 1) := by
      rw [List.drop_eq_getElem_cons hlt]
      rw [List.getElem?_eq_getElem hlt] at ep
      rw [Option.some.inj ep]
    rw [ed, loop] at e'
    split at e'
    · cases e'
    · rename_i ρ1 h1
      refine hg F'' H'' σ' ρ' x p ρ1 _ (R'.up u) rx h1 fun σ1 R1 k1 => ?_
      have sF : Same F F'' := s.trans u.ff
      have c1 : σ1[i]? = c := k1.trans hc'
      split at e'
      · rename_i ρ2 h2
        exact hb F'' H'' σ1 ρ1 _ _ R1 h2 fun F3 H3 σ3 s3 R3 k3 => ⟨F3, ρ2, sF.trans s3, R3, k3.trans c1, e'⟩
      · rename_i ρ2 h2
        exact hb F'' H'' σ1 ρ1 _ _ R1 h2 fun F3 H3 σ3 s3 R3 k3 => ⟨F3, ρ2, sF.trans s3, R3, k3.trans c1, e'⟩
      · rename_i ρ2 h2
        cases e'
        exact hb F'' H'' σ1 ρ1 _ _ R1 h2 fun F3 H3 σ3 s3 R3 k3 => P F3 H3 σ3 (sF.trans s3) R3 (k3.trans c1)
      · rename_i n1 n2 n3
        cases o with
        | nx ρ2 => exact absurd e' (n1 ρ2)
        | ct ρ2 => exact absurd e' (n2 ρ2)
        | bk ρ2 => exact absurd e' (n3 ρ2)
        | rt p => exact hb F'' H'' σ1 ρ1 _ _ R1 e' (POk.up (D := D) P sF)
        | ro p => exact hb F'' H'' σ1 ρ1 _ _ R1 e' (POk.up (D := D) P sF)
        | rd p => exact hb F'' H'' σ1 ρ1 _ _ R1 e' (POk.up (D := D) P sF)
        | ex z => exact hb F'' H'' σ1 ρ1 _ _ R1 e' (PX.up P sF)
  · have ei : k = l.length := by omega
    subst ei
    rw [List.drop_length] at e'
    cases e'
    exact .inl ⟨hJ.stop F' H' s R'.rb.sub, P F' H' σ' s R' hc'⟩
theorem msk_for {wi : TI} {it : Fn (List PV)} {gt : TG} {tg : PV → Rho → Option Rho} (hi : MI K C wi it) (hg : MGk K C i gt tg) (hb : MSk K C i t f) : MSk K C i (tFor wi gt t) (mFor it tg f) := by
  intro F H σ ρ D o R e P
  rcases bndS_inv e with ⟨z, e1, rfl⟩ | ⟨l, e1, hk⟩
  · exact hi F H σ ρ _ _ R e1 P
  · exact hi F H σ ρ _ _ R e1 fun J F' H' u hJ => forJ_loopK hg hb hJ (R.up u) rfl hk (P.up u.ff)
noncomputable def mKeepO (i : Nat) (s : Sn) : Sn := fun ρ => match ownAt i ρ with
  | some (.lst l) => match s (ρ.set i (some (.sh (.lst l)))) with
    | some (.nx _) => some (.ro (.lst l))
    | some (.bk _) => none
    | some (.ct _) => none
    | x => x
  | _ => none
theorem RE.frzA {C : Cf} {p : PV} (h : RE K C F H σ ρ) {i : Nat} (e : ρ[i]? = some (some (.ow p))) (hio : ∀ a, σ[i]? = some (some (.ref a)) → ¬ C.io a) : ∃ a o, σ[i]? = some (some (.ref a)) ∧ H a = some o ∧ F a = none ∧ C.H0 a = none ∧ Own K F H a p ∧ RE K C (upd F a o) H σ (ρ.set i (some (.sh p))) := by
  obtain ⟨a, e1, e2, e3, e4⟩ := h.ow i p e
  obtain ⟨o, eo, r⟩ := e2.frozen e3
  have h0 : C.H0 a = none := (e4.resolve_left (hio a e1)).2
  have sf : Same F (upd F a o) := same_upd e3
  have li := lt_of_get e
  refine ⟨a, o, e1, eo, e3, h0, e2, ⟨⟨fun b u q => ?_, h.rb.keep, fun b u q => ?_, h.rb.ios⟩, by simp [h.len], fun j q f => ?_, fun j q f => ?_, fun j k q q' b f f' g g' => ?_, ?_⟩⟩
  · by_cases hb : b = a
    · subst hb; rw [upd_same] at q; cases q; exact eo
    · rw [upd_ne hb] at q; exact h.rb.sub b u q
  · by_cases hb : b = a
    · subst hb; exact .inr (.inl h0)
    · rw [upd_ne hb] at q; exact h.rb.new b u q
  · rcases get_set f with ⟨f1, f2⟩ | ⟨f1, f2⟩
    · subst f1; cases f2; exact ⟨_, e1, r⟩
    · obtain ⟨v, g1, g2⟩ := h.sh j q f2
      exact ⟨v, g1, g2.up sf⟩
  · rcases get_set f with ⟨f1, f2⟩ | ⟨f1, f2⟩
    · cases f2
    · obtain ⟨b, g1, g2, g3, g4⟩ := h.ow j q f2
      refine ⟨b, g1, g2.up sf fun _ z => z, ?_, g4⟩
      have : b ≠ a := fun z => by subst z; exact f1 (h.dis i j p q b e f2 e1 g1)
      rw [upd_ne this]; exact g3
  · rcases get_set f with ⟨f1, f2⟩ | ⟨f1, f2⟩
    · cases f2
    · rcases get_set f' with ⟨f1', f2'⟩ | ⟨f1', f2'⟩
      · cases f2'
      · exact h.dis j k q q' b f2 f2' g g'
  · obtain ⟨P, d⟩ := h.dd
    have na : ∀ j b, P j b → b ≠ a := fun j b z e' => by subst e'; exact d.ow j i p b z e e1
    refine ⟨P, fun j b z => ?_, d.dis, fun j k q b z f g => ?_, fun j q f => ?_⟩
    · rw [upd_ne (na j b z)]; exact d.own j b z
    · rcases get_set f with ⟨f1, f2⟩ | ⟨f1, f2⟩
      · cases f2
      · exact d.ow j k q b z f2 g
    · rcases get_set f with ⟨f1, f2⟩ | ⟨f1, f2⟩
      · cases f2
      · obtain ⟨w, e3, e5⟩ := d.dp j q f2
        exact ⟨w, e3, e5.up sf (fun _ _ _ q => q) fun _ _ q => q⟩
theorem ms_keepO (i : Nat) (hio : ∀ a, ¬ C.io a) (h : MSk K C i t f) : MS K C (tSeq t (tRet (tVar i))) (mKeepO i f) := by
  intro F H σ ρ D o R e P
  unfold mKeepO at e
  split at e
  · rename_i l hl
    obtain ⟨a, ob, e1, e2, e3, e4, e5, R'⟩ := R.frzA (ownAt_eq hl) fun a _ => hio a
    have sf : Same F (upd F a ob) := same_upd e3
    split at e
    · rename_i ρ' hf
      cases e
      refine h _ H σ _ _ _ R' hf ?_
      intro F1 H1 σ1 s1 R1 k1
      rw [e1] at k1
      refine ⟨_, k1, P a F H1 (Same.refl _) ?_ ?_ e3 e4⟩
      · exact ⟨(sf.trans s1).trans R1.rb.sub, R1.rb.keep, R.rb.new, R1.rb.ios⟩
      · obtain ⟨xs, g1, g2⟩ := e5
        rw [e2] at g1
        cases g1
        exact ⟨xs, R1.rb.sub _ _ (s1 _ _ upd_same), g2⟩
    · cases e
    · cases e
    · rename_i n1 n2 n3
      cases o with
      | nx ρ2 => exact absurd e (n1 ρ2)
      | bk ρ2 => exact absurd e (n2 ρ2)
      | ct ρ2 => exact absurd e (n3 ρ2)
      | rt p => exact h _ H σ _ _ _ R' e (PO'.up (D := D) P sf)
      | ro p => exact h _ H σ _ _ _ R' e (PO'.up (D := D) P sf)
      | rd p => exact h _ H σ _ _ _ R' e (PO'.up (D := D) P sf)
      | ex z => exact h _ H σ _ _ _ R' e (PX.up P sf)
  · cases e
end
end L2.MP

namespace L2.MP
open PySem PySem.Spec PyProof.Rows
noncomputable def New (H F' H' : Hp) (S : Addr → Prop) : Prop := ∀ b, S b → H b = none ∧ F' b = none ∧ ∃ o, H' b = some o ∧ ∀ ys, o ≠ .tup ys
noncomputable def spD (K : PySem.W.Frag) (XR : Hp → Value → Option Addr → PV → Prop) (m : List PV → Option (Res PV)) : Sp := fun vs H Q E => ∃ ps F r, Same F H ∧ Reps K F vs ps ∧ m ps = some r ∧ match r with
  | .ok p => ∀ v F' H' S, Up F H F' H' → Dp K F' H' S v p → New H F' H' S → Q v H'
  | .ex z => ∀ e d F' H', Up F H F' H' → XR F' e d z → E e d H'
section
variable {K : PySem.W.Frag} {C : Cg} {te ta tb : TE} {F F1 F2 H H1 H2 : Hp} {σ : St} {ρ : Rho} {D : Ends} {t u : TS} {f g : Sn} {o : Out} {S : Addr → Prop} {v : V} {p : PV}
theorem New.up (n : New H F1 H1 S) (u : Up F1 H1 F2 H2) : New H F2 H2 S := fun b q => by
  obtain ⟨n0, n1, o, n2, n3⟩ := n b q
  refine ⟨n0, ?_, o, u.hh _ _ n2, n3⟩
  cases e : F2 b with
  | none => rfl
  | some o' =>
    rcases u.fr b o' e with z | z | ⟨ys, z⟩
    · rw [n1] at z; cases z
    · rw [n2] at z; cases z
    · subst z
      have w := u.fh _ _ e
      rw [u.hh _ _ n2] at w
      cases w
      exact absurd rfl (n3 ys)
theorem Dp.stay (d : Dp K F1 H1 S v p) (u : Up F1 H1 F2 H2) : Dp K F2 H2 S v p := d.up u.ff (fun b o _ q => u.hh b o q) fun b ys q => u.hh b _ q
noncomputable def thaw (F H : Hp) (S : Addr → Prop) : Hp := fun b => @ite _ (S b ∨ ∃ ys, H b = some (.tup ys)) (Classical.propDecidable _) (H b) (F b)
theorem thaw_in {b : Addr} (h : S b ∨ ∃ ys, H b = some (.tup ys)) : thaw F H S b = H b := @if_pos _ (Classical.propDecidable _) h _ _ _
theorem thaw_out {b : Addr} (h : ¬ (S b ∨ ∃ ys, H b = some (.tup ys))) : thaw F H S b = F b := @if_neg _ (Classical.propDecidable _) h _ _ _
theorem thaw_same (s : Same F H) : Same F (thaw F H S) := fun b o e => by
  by_cases h : S b ∨ ∃ ys, H b = some (.tup ys)
  · rw [thaw_in h]; exact s b o e
  · rw [thaw_out h]; exact e
theorem thaw_sub (s : Same F H) : Same (thaw F H S) H := fun b o e => by
  by_cases h : S b ∨ ∃ ys, H b = some (.tup ys)
  · rw [thaw_in h] at e; exact e
  · rw [thaw_out h] at e; exact s b o e
noncomputable def Dps (K : PySem.W.Frag) (F H : Hp) (S : Nat → Addr → Prop) (xs : List V) (l : List PV) : Prop :=
  xs.length = l.length ∧ (∀ i j b, S i b → S j b → i = j) ∧ ∀ (j : Nat) x p, xs[j]? = some x → l[j]? = some p → Dp K F H (S j) x p
end
end L2.MP

namespace L2.MP
open PySem PySem.Spec PyProof.Rows
section
variable {K : PySem.W.Frag} {C : Cg} {te ta tb : TE} {F F1 F2 H H1 H2 : Hp} {σ : St} {ρ : Rho} {D : Ends} {t u : TS} {f g : Sn} {o : Out} {S : Addr → Prop} {v : V} {p : PV}
theorem Dp.inv_lst {l : List PV} (d : Dp K F H S v (.lst l)) : ∃ (T : Nat → Addr → Prop) (a : Addr) (xs : List V), v = .ref a ∧ H a = some (.lst xs) ∧ S a ∧ (∀ j b, T j b → S b ∧ b ≠ a) ∧ Dps K F H T xs l := by
  cases d with
  | fr h st => cases st
  | lst h hp hs dj hl hr => exact ⟨_, _, _, rfl, h, hp, hs, hl, dj, hr⟩
end
end L2.MP

namespace L2.MP
open PySem PySem.Spec PyProof.Rows
section
variable {K : PySem.W.Frag} {C : Cg} {te ta tb : TE} {F F1 F2 H H1 H2 : Hp} {σ : St} {ρ : Rho} {D : Ends} {t u : TS} {f g : Sn} {o : Out} {S : Addr → Prop} {v : V} {p : PV}
theorem Dp.inv_tup {l : List PV} (d : Dp K F H S v (.tup l)) (hl : (PV.tup l).still = false) : ∃ (T : Nat → Addr → Prop) (a : Addr) (xs : List V), v = .ref a ∧ H a = some (.tup xs) ∧ (∀ j b, T j b → S b) ∧ Dps K F H T xs l := by
  cases d with
  | fr h st => rw [hl] at st; cases st
  | tup h hs dj hl hr => exact ⟨_, _, _, rfl, h, hs, hl, dj, hr⟩
theorem Dps.len {T : Nat → Addr → Prop} {xs : List V} {l : List PV} (h : Dps K F H T xs l) : xs.length = l.length := h.1
theorem Dp.snoc {b : Addr} {T : Nat → Addr → Prop} {ys : List V} {row : List PV} {q : PV} (e : H b = some (.lst ys)) (sb : S b) (ht : ∀ j c, T j c → S c ∧ c ≠ b) (d : Dps K F H T ys row) (r : Rep K F v q) (st : q.still = true) : Dp K F (upd H b (.lst (ys ++ [v]))) S (.ref b) (.lst (row ++ [q])) := by
  refine .lst (S := fun j c => j < ys.length ∧ T j c) upd_same sb (fun j c z => ht j c z.2) (fun i j c z z' => d.2.1 i j c z.2 z'.2) (by simp [d.1]) fun j x p e1 e2 => ?_
  by_cases hj : j < ys.length
  · rw [List.getElem?_append_left hj] at e1
    rw [List.getElem?_append_left (by rw [← d.1]; exact hj)] at e2
    refine ((d.2.2 j x p e1 e2).up (Same.refl _) (fun c o z e => by rw [upd_ne (ht j c z).2]; exact e) fun c zs e' => ?_).mono fun c z => ⟨hj, z⟩
    rw [upd_ne (fun w => by subst w; rw [e] at e'; cases e')]; exact e'
  · rw [List.getElem?_append_right (by omega)] at e1
    rw [List.getElem?_append_right (by rw [← d.1]; omega)] at e2
    have ej : j = ys.length := by
      have := lt_of_get e1
      simp at this
      omega
    rw [ej, Nat.sub_self] at e1
    rw [ej, d.1, Nat.sub_self] at e2
    cases e1; cases e2
    exact .fr r st
end
noncomputable def finT : Option Out → Option (Res PV)
  | some (.rd p) => some (.ok p)
  | some (.ex z) => some (.ex z)
  | _ => none
section
variable {K : PySem.W.Frag} {XR : Hp → Value → Option Addr → PV → Prop} {N : List Str} {vs : List V} {H : Hp} {Q : VK} {E : XK} {t : TS} {b : Sn} {m : List PV → Option (Res PV)}
end
end L2.MP

namespace L2
open PySem PySem.Spec PyProof PyProof.Rows
namespace MP
section
variable {K : PySem.W.Frag} {C : Cg} {tA : TA}
end
end MP
end L2

namespace L2
open PySem PySem.Spec PyProof PyProof.Rows
noncomputable def isDct : HO → Prop
  | .dK _ => True
  | .dT _ => True
  | _ => False
section
variable {X : Cx} {pins : List (Addr × Obj)} {σ : St} {H : Hp} {s : Shared} {a : Addr} {u : HO} {raw : Obj}
theorem Inv.loose (I : Inv X pins σ H s) (e : H a = some (.frz raw u)) (hu : isDct u) (h0 : ∀ o v, X.H₀ a ≠ some (.frz o v)) : Inv X pins σ (upd H a u) s where
  ok := I.ok
  os := I.os
  bare := I.bare
  base := {
    keep := I.base.keep
    slot := I.base.slot
    free := fun b o q n hx => by
      have := I.base.free b o q n hx
      rw [upd_ne (fun z => by subst z; rw [e] at this; cases this)]; exact this
    there := I.base.there
    tups := fun b xs q => by
      have := I.base.tups b xs q
      rw [upd_ne (fun z => by subst z; rw [e] at this; cases this)]; exact this
    frzs := fun b o v q => by
      rw [upd_ne (fun z => by subst z; exact h0 o v q)]; exact I.base.frzs b o v q
    tbls := fun b ps q => by
      obtain ⟨more, r⟩ := I.base.tbls b ps q
      exact ⟨more, by rw [upd_ne (fun z => by subst z; rw [e] at r; cases r)]; exact r⟩ }
  loc := I.loc
  cell := I.cell
  free := by rw [upd_ne (fun z => by have := I.free; rw [z, e] at this; cases this)]; exact I.free
  freeC := fun x c q => by
    have := I.freeC x c q
    rw [upd_ne (fun z => by subst z; rw [e] at this; cases this)]; exact this
  pin := fun p hp => by
    obtain ⟨p1, p2, p3⟩ := I.pin p hp
    exact ⟨p1, by rw [upd_ne (fun z => by rw [z, e] at p2; cases p2)]; exact p2, p3⟩
  hok := fun b o q => by
    have ho : ∀ c y, H c = some (.own y) → upd H a u c = some (.own y) := fun c y r => by rw [upd_ne (fun z => by subst z; rw [e] at r; cases r)]; exact r
    have ht : ∀ c xs, H c = some (.tup xs) → upd H a u c = some (.tup xs) := fun c xs r => by rw [upd_ne (fun z => by subst z; rw [e] at r; cases r)]; exact r
    by_cases hb : b = a
    · subst hb
      rw [upd_same] at q; cases q
      exact (I.hok b _ e).2.stay (fun _ _ _ q => q) (fun c r => ho c b r) ht
    · rw [upd_ne hb] at q
      exact (I.hok b o q).stay (fun _ _ _ q => q) (fun c r => ho c b r) ht
  len := I.len
noncomputable def Ends.loose (D : Ends) (a : Addr) (raw : Obj) (u : HO) : Ends where
  nx := fun σ H => H a = some (.frz raw u) ∧ D.nx σ (upd H a u)
  bk := fun σ H => H a = some (.frz raw u) ∧ D.bk σ (upd H a u)
  ct := fun σ H => H a = some (.frz raw u) ∧ D.ct σ (upd H a u)
  rt := fun v H => H a = some (.frz raw u) ∧ D.rt v (upd H a u)
end
end L2

namespace L2
open PySem PySem.Spec PyProof PyProof.Rows
end L2

namespace L2.MP
open PySem PySem.Spec PyProof.Rows
structure Sw (F F' : Hp) (a : Addr) (u : HO) : Prop where
  ne : ∀ b, b ≠ a → F' b = F b
  l : Rd F a u
  r : Rd F' a u
  d : isDct u
section
variable {K : PySem.W.Frag} {F F' H H' : Hp} {a : Addr} {u : HO} {v : V} {p : PV}
theorem Sw.symm (w : Sw F F' a u) : Sw F' F a u := ⟨fun b hb => (w.ne b hb).symm, w.r, w.l, w.d⟩
theorem Sw.other (w : Sw F F' a u) {b : Addr} {o : HO} (e : F b = some o) (h1 : ¬ isDct o) (h2 : ∀ raw x, isDct x → o ≠ .frz raw x) : F' b = some o := by
  rw [w.ne b fun z => ?_]
  · exact e
  · subst z
    rcases w.l with q | ⟨raw, q⟩
    · rw [e] at q; cases q; exact h1 w.d
    · rw [e] at q; cases q; exact h2 raw u w.d rfl
theorem Sw.rd (w : Sw F F' a u) {b : Addr} {o : HO} (h : Rd F b o) (ho : isDct o) : Rd F' b o := by
  by_cases hb : b = a
  · subst hb
    have : o = u := by
      rcases h with h | ⟨r, h⟩ <;> rcases w.l with q | ⟨r', q⟩ <;> rw [h] at q <;> cases q
      · rfl
      · exact ho.elim
      · exact w.d.elim
      · rfl
    rw [this]; exact w.r
  · rcases h with h | ⟨r, h⟩
    · exact .inl (by rw [w.ne b hb]; exact h)
    · exact .inr ⟨r, by rw [w.ne b hb]; exact h⟩
end
section
variable {K : PySem.W.Frag} {t : TS} {f : Sn}
end
end L2.MP

namespace L2.MP
open PySem PySem.Spec PyProof.Rows
section
variable {K : PySem.W.Frag} {C : Cg} {te : TE} {t : TS} {f : Sn} {F H : Hp} {σ : St} {ρ : Rho} {D : Ends} {o : Out}
end
end L2.MP

namespace L2.MP
open PySem PySem.Spec PyProof.Rows
structure IoUp2 (a c : Addr) (F H F' H' : Hp) : Prop where
  ff : Same F F'
  hb : ∀ b o, H b = some o → b ≠ a → b ≠ c → H' b = some o
  fr : ∀ b o, F' b = some o → F b = some o ∨ Frz H b o
  fh : Same F' H'
section
variable {K : PySem.W.Frag} {C : Cg} {N : List Str} {vs : List V} {H F : Hp} {Q : VK} {E : XK} {t : TS} {b : Sn} {m : List PV → Option (Res PV)} {ps : List PV} {a c : Addr} {p q : PV} {n : Nat}
end
end L2.MP

namespace L2
open PySem PySem.Spec PyProof PyProof.Rows
section
variable {X : Cx}
end
namespace MP
section
variable {K : PySem.W.Frag} {C : Cg}
end
end MP
end L2

namespace L2
open PySem PySem.Spec PyProof PyProof.Rows
namespace MP
section
variable {K : PySem.W.Frag} {C : Cg}
end
end MP
end L2

namespace L2
open PySem PySem.Spec PyProof PyProof.Rows
section
variable {X : Cx}
end
namespace MP
section
variable {K : PySem.W.Frag} {C : Cg}
end
end MP
end L2

namespace L2.MP
open PySem PySem.Spec PyProof.Rows
section
variable {K : PySem.W.Frag} {C : Cg} {te : TE} {F F' G H H1 H' : Hp} {σ : St} {ρ : Rho} {D : Ends} {t : TS} {f : Sn} {o : Out} {S : Addr → Prop} {v : V} {p : PV}
theorem Rep.stillN : ∀ {n : Nat} {v : V} {p : PV}, Rep K F v p → MP.stillN n p = true → (∀ b ys, F b = some (.tup ys) → G b = some (.tup ys)) → Rep K G v p
  | 0, v, p, h, hs, g => h.free hs
  | n + 1, v, p, h, hs, g => by
    cases h with
    | non => exact .non
    | bl => exact .bl
    | int => exact .int
    | str => exact .str
    | ty => exact .ty
    | tup h hl hr => exact .tup (g _ _ h) hl fun j x p a b => (hr j x p a b).stillN (n := n) (List.all_eq_true.mp hs p (List.mem_of_getElem? b)) g
    | lst => cases hs
    | dk => cases hs
    | dt => cases hs
    | exc => cases hs
    | exc0 => cases hs
noncomputable def PV.shallow : PV → Bool
  | .lst l => l.all PV.still
  | .dk l => l.all fun kv => kv.2.still
  | .dt l => l.all fun kv => kv.2.still
  | _ => false
theorem Own.dp {a : Addr} (w : Own K F H a p) (h : p.shallow = true) : Dp K F H (fun b => b = a) (.ref a) p := by
  cases p with
  | lst l =>
    obtain ⟨xs, e2, e3⟩ := w
    exact .lst (S := fun _ _ => False) e2 rfl (fun j b q => q.elim) (fun i j b q => q.elim) e3.1 fun j x p e4 e5 => .fr (e3.2 j x p e4 e5) (List.all_eq_true.mp h p (List.mem_of_getElem? e5))
  | dk l =>
    obtain ⟨xs, e2, e3, e4⟩ := w
    exact .dk (S := fun _ _ => False) e2 rfl (fun j b q => q.elim) (fun i j b q => q.elim) e3 fun j x p e5 e6 => .fr (e4 j x p e5 e6) (List.all_eq_true.mp h p (List.mem_of_getElem? e6))
  | dt l =>
    obtain ⟨xs, e2, e3, e4⟩ := w
    exact .dt (S := fun _ _ => False) e2 rfl (fun j b q => q.elim) (fun i j b q => q.elim) e3 fun j x p e5 e6 => .fr (e4 j x p e5 e6) (List.all_eq_true.mp h p (List.mem_of_getElem? e6))
  | _ => cases h
end
end L2.MP

namespace L2.MP
open PySem PySem.Spec PyProof PyProof.Rows
section
variable {K : PySem.W.Frag} {C : Cg}
end
end L2.MP

namespace L2.MP
open PySem PySem.Spec PyProof.Rows
section
variable {K : PySem.W.Frag} {C : Cg} {te ta tb : TE} {F F1 F2 H H1 H2 : Hp} {σ : St} {ρ : Rho} {D : Ends} {t u : TS} {f g : Sn} {o : Out} {S : Addr → Prop} {v : V} {p : PV}
theorem Dp.none {b : Addr} (sb : S b) : Dp K F (upd H b (.lst [])) S (.ref b) (.lst []) :=
  .lst (S := fun _ _ => False) upd_same sb (fun _ _ z => z.elim) (fun _ _ _ z => z.elim) rfl fun j x p e1 => by simp at e1
end
end L2.MP

namespace L2
open PySem PySem.Spec PyProof PyProof.Rows
noncomputable def RawD (h : Heap) (d : Addr) (es : Array DictEntry) (ep : Nat) : Prop := ∃ o, h.get? d = some o ∧ o.ExactDict ∧ o.data = .dict es ep
section
variable {prog : Program} {w : World} {A : Around} {E : Value → Shared → Prop} {s : Shared} {h h' : Heap} {d it : Addr} {es : Array DictEntry} {ep i : Nat}
theorem RawD.step (r : RawD h d es ep) (k : ∀ o, h.get? d = some o → h'.get? d = some o) : RawD h' d es ep := by
  obtain ⟨o, e, q⟩ := r; exact ⟨o, k o e, q⟩
theorem RawD.ty (r : RawD s.heap d es ep) : s.TypeIs (.ref d) "dict" := by
  obtain ⟨o, e, c, _⟩ := r; exact ⟨o, e, c.1⟩
end
end L2
namespace L2
open PySem PySem.W PyProof.Rows
noncomputable def kEval {α : Type} (lt : Nat → Nat → Bool) : KasT α → α
  | .ret a => a
  | .ask i j k => kEval lt (k (lt i j))
noncomputable def kIn {α : Type} (n : Nat) (P : α → Prop) : KasT α → Prop
  | .ret a => P a
  | .ask i j k => i < n ∧ j < n ∧ ∀ b, kIn n P (k b)
theorem kIn.then {α β : Type} {n : Nat} {P : α → Prop} {P' : β → Prop} {f : α → KasT β} : ∀ {t : KasT α}, kIn n P t → (∀ a, P a → kIn n P' (f a)) → kIn n P' (t.bind f)
  | .ret a, h, hf => hf a h
  | .ask i j k, h, hf => ⟨h.1, h.2.1, fun b => kIn.then (h.2.2 b) hf⟩
theorem kIn.val {α : Type} {n : Nat} {P : α → Prop} {lt : Nat → Nat → Bool} : ∀ {t : KasT α}, kIn n P t → P (kEval lt t)
  | .ret _, h => h
  | .ask i j k, h => kIn.val (t := k (lt i j)) (h.2.2 (lt i j))
theorem kIn.run {α : Type} {n : Nat} {P : α → Prop} {lt : Nat → Nat → Bool} {cmp : Nat → Nat → (Bool → Shared → Prop) → Shared → Prop} {Q : α → Shared → Prop} {s : Shared} (hc : ∀ i j C, i < n → j < n → C (lt i j) s → cmp i j C s) : ∀ {t : KasT α}, kIn n P t → Q (kEval lt t) s → t.kasWp cmp Q s
  | .ret _, _, q => q
  | .ask i j k, h, q => hc i j _ h.1 h.2.1 (kIn.run hc (h.2.2 (lt i j)) q)
noncomputable def Bd (n : Nat) (p : Array Nat) : Prop := ∀ x ∈ p.toList, x < n
section
variable {n : Nat} {p : Array Nat}
theorem Bd.get (h : Bd n p) (n0 : 0 < n) (i : Nat) : p.getD i 0 < n := by
  by_cases hi : i < p.size
  · have e : p.getD i 0 = p[i] := by simp [Array.getD, hi]
    rw [e]
    exact h _ (Array.getElem_mem_toList hi)
  · have e : p.getD i 0 = 0 := by simp [Array.getD, hi]
    rw [e]; exact n0
theorem Bd.perm {q : Array Nat} (h : Bd n p) (e : q.Perm p) : Bd n q := fun x hx => h x ((Array.perm_iff_toList_perm.mp e).mem_iff.mp hx)
end
end L2
namespace L2
open PySem PySem.Spec PySem.W PyProof PyProof.Rows
noncomputable def PrAt (h : Heap) (v : Value) (p : Str × Int) : Prop := ∃ a o t u n, v = .ref a ∧ h.get? a = some o ∧ o.cls = .type "tuple" ∧ o.data = .seq #[.str p.1 t, .int p.2 u] n
noncomputable def ltP (p q : Str × Int) : Bool := if p.1 = q.1 then (if p.2 = q.2 then false else decide (p.2 < q.2)) else decide (p.1.cps.toList < q.1.cps.toList)
section
variable {prog : Program} {w : World} {A : Around} {E : Value → Shared → Prop} {s : Shared} {u v : Value} {p q : Str × Int}
theorem PrAt.same {h h' : Heap} (x : PrAt h v p) (k : ∀ a o, v = .ref a → h.get? a = some o → h'.get? a = some o) : PrAt h' v p := by
  obtain ⟨a, o, t, t2, n, rfl, e1, e2, e3⟩ := x
  exact ⟨a, o, t, t2, n, rfl, k a o rfl e1, e2, e3⟩
theorem PrAt.lt (hp : PrAt s.heap v p) (hq : PrAt s.heap u q) {Q : Bool → Shared → Prop} (h : Q (ltP p q) s) : wpAny (model prog w) A (keyLt' (tuples' true) v u) Q E s := by
  obtain ⟨a, o, t, t2, n, rfl, e1, e2, e3⟩ := hp
  obtain ⟨b, o', r, r2, n', rfl, f1, f2, f3⟩ := hq
  refine kat_lt e1 e3 f1 f3 (kat_cons (wpAny_eqBool_str ?_))
  by_cases c : p.1 = q.1
  · rw [decide_eq_true c]
    refine kat_yes (kat_cons (wpAny_eqBool_int ?_))
    by_cases d : p.2 = q.2
    · rw [beq_iff_eq.mpr d]
      refine kat_yes (kat_nil ?_)
      rw [show ltP p q = false by unfold ltP; rw [if_pos c, if_pos d]] at h
      exact h
    · rw [beq_eq_false_iff_ne.mpr d]
      refine kat_no ?_
      show wpAny _ _ (oneLt' false _ _) _ _ _
      rw [show ltP p q = decide (p.2 < q.2) by unfold ltP; rw [if_pos c, if_neg d]] at h
      exact kat_one _ _ (lt_int h)
  · rw [decide_eq_false c]
    refine kat_no ?_
    show wpAny _ _ (oneLt' true _ _) _ _ _
    rw [show ltP p q = decide (p.1.cps.toList < q.1.cps.toList) by unfold ltP; rw [if_neg c]] at h
    exact oneLt_str h
end
end L2
namespace L2
open PySem PySem.Spec PySem.W PyProof PyProof.Rows
theorem KT.at {H : Hp} {kvs : List (List Key × V)} {xs : List (List Key × Addr × Value)} (r : KT H kvs xs) : xs.length = kvs.length ∧ ∀ (i : Nat) k, (kvs.map (·.1))[i]? = some k → ∃ b u, xs[i]? = some (k, b, u) ∧ H b = some (.tup (k.map kV)) := by
  induction r with
  | nil => exact ⟨rfl, fun i k h => by simp at h⟩
  | @cons p q ps qs hq t ih =>
    refine ⟨by simp [ih.1], fun i k h => ?_⟩
    cases i with
    | zero =>
      have h : p.1 = k := by simpa using h
      subst h
      obtain ⟨q1, b, u⟩ := q
      exact ⟨b, u, by rw [hq.1]; rfl, hq.2.1⟩
    | succ i => exact ih.2 i k (by simpa using h)
section
variable {X : Cx}
end
namespace MP
section
variable {K : PySem.W.Frag} {C : Cg}
theorem Up.tups {F H : Hp} {l : Addr} {o : HO} (s : Same F H) (hl : H l = none) : Up F H (thaw F H fun _ => False) (upd H l o) := by
  refine ⟨thaw_same s, same_upd hl, fun b o q => ?_, (thaw_sub s).trans (same_upd hl)⟩
  by_cases hb : False ∨ ∃ ys, H b = some (.tup ys)
  · rw [thaw_in hb] at q
    obtain ⟨ys, z⟩ := hb.resolve_left id
    rw [z] at q; cases q
    exact .inr (.inr ⟨ys, rfl⟩)
  · rw [thaw_out hb] at q
    exact .inl q
end
end MP
end L2

namespace L2.MP
open PySem PySem.Spec PyProof.Rows
section
variable {K : PySem.W.Frag} {C : Cg} {te : TE}
end
end L2.MP

namespace L2.MP
open PySem PySem.Spec PyProof.Rows
section
variable {K : PySem.W.Frag} {C : Cg} {te ta tb : TE} {F F1 F2 H H1 H2 : Hp} {σ : St} {ρ : Rho} {D : Ends} {S : Addr → Prop} {v : V} {p : PV}
end
end L2.MP

namespace L2
open PySem PySem.F PySem.Spec PyProof PyProof.Rows
section
variable {prog : Program} {w : World} {A : Around} {E : Value → Shared → Prop} {s : Shared} {t : Tok} {n : Int}
end
end L2

namespace L2
open PySem PySem.F PySem.Spec PyProof PyProof.Rows
section
variable {M : Model} {A : Around} {E : Value → Shared → Prop} {s : Shared}
end
namespace MP
section
variable {K : PySem.W.Frag} {C : Cg} {tA : TA}
end
end MP
end L2

namespace L2
open PySem PySem.Spec PyProof PyProof.Rows
section
variable {K : Type} [DecidableEq K]
variable {prog : Program} {w : World} {knd : HeapKind prog w K} {A : Around} {E : Value → Shared → Prop} {s : Shared} {d a : Addr} {k : K} {xs : List (K × Addr × Value)} {p : Addr × Value}
end
theorem KT.drop {H : Hp} {kvs : List (List Key × V)} {xs : List (List Key × Addr × Value)} (r : KT H kvs xs) (k : List Key) : KT H (dropK kvs k) (xs.filter fun x => decide (x.1 ≠ k)) := by
  unfold KT at r ⊢
  unfold dropK
  induction r with
  | nil => exact .nil
  | @cons p q ps qs h t ih =>
    rw [List.filter_cons, List.filter_cons]
    by_cases e : p.1 = k
    · have a : ¬ decide (p.1 ≠ k) = true := by simp [e]
      have b : ¬ decide (q.1 ≠ k) = true := by simp [h.1.symm.trans e]
      rw [if_neg a, if_neg b]; exact ih
    · have e' : ¬ q.1 = k := fun z => e (h.1.trans z)
      have a : decide (p.1 ≠ k) = true := by simp [e]
      have b : decide (q.1 ≠ k) = true := by simp [e']
      rw [if_pos a, if_pos b]; exact .cons h ih
section
variable {X : Cx} {pins : List (Addr × Obj)} {σ : St} {H : Hp} {s : Shared} {a b : Addr} {kvs : List (List Key × V)} {k : List Key} {A : Around} {E : Value → Shared → Prop}
end
section
variable {X : Cx} {o e : Expr} {apos cpos : Pos} {td ty : TE}
end
namespace MP
section
variable {K : PySem.W.Frag} {C : Cg}
theorem DRep.drop {κ : Type} [DecidableEq κ] {F : Hp} {xs : List (κ × V)} {l : List (κ × PV)} (h : DRep K F xs l) (k : κ) : DRep K F (dropK xs k) (l.filter fun e => decide (e.1 ≠ k)) := by
  unfold dropK
  induction h with
  | nil => exact .nil
  | @cons a v p xs l h t ih =>
    rw [List.filter_cons, List.filter_cons]
    by_cases e : a = k
    · rw [if_neg (by simp [e]), if_neg (by simp [e])]; exact ih
    · rw [if_pos (by simp [e]), if_pos (by simp [e])]; exact .cons h ih
end
end MP
end L2

namespace L2
open PySem PySem.Spec PySem.W PyProof PyProof.Rows
section
variable {X : Cx}
end
namespace MP
section
variable {K : PySem.W.Frag} {C : Cg}
end
end MP
end L2

namespace L2.MP
open PySem PySem.Spec PyProof.Rows
section
variable {K : PySem.W.Frag} {C : Cg} {te ta tb : TE} {F F1 F2 H H1 H2 : Hp} {σ : St} {ρ : Rho} {D : Ends} {S : Addr → Prop} {v : V} {p : PV}
end
end L2.MP

namespace L2
open PySem PySem.Spec PyProof PyProof.Rows
section
variable {X : Cx} {pins : List (Addr × Obj)} {σ : St} {H : Hp} {s : Shared} {a : Addr} {kvs : List (Key × V)} {k : Key} {z : V} {u r : Value} {A : Around} {E : Value → Shared → Prop}
end
section
variable {X : Cx} {o e f : Expr} {apos cpos : Pos} {td ty tz : TE}
end
namespace MP
noncomputable def POks (K : PySem.W.Frag) (C : Cg) (F : Hp) (D : Ends) (ks : List Nat) (σ0 : St) : Out → Prop
  | .nx ρ => ∀ F' H' σ, Same F F' → RE K C.toCf F' H' σ ρ → (∀ k ∈ ks, σ[k]? = σ0[k]?) → D.nx σ H'
  | .bk ρ => ∀ F' H' σ, Same F F' → RE K C.toCf F' H' σ ρ → (∀ k ∈ ks, σ[k]? = σ0[k]?) → D.bk σ H'
  | .ct ρ => ∀ F' H' σ, Same F F' → RE K C.toCf F' H' σ ρ → (∀ k ∈ ks, σ[k]? = σ0[k]?) → D.ct σ H'
  | o => PO' K C F D o
section
variable {K : PySem.W.Frag} {C : Cg} {ks : List Nat} {te tb : TE} {F H : Hp} {σ σ0 : St} {ρ : Rho} {D : Ends} {t u : TS} {f g : Sn} {o : Out}
theorem POks.up {F1 : Hp} (h : POks K C F D ks σ0 o) (s : Same F F1) : POks K C F1 D ks σ0 o := by
  cases o with
  | nx ρ => exact fun F' H' σ a => h F' H' σ (s.trans a)
  | bk ρ => exact fun F' H' σ a => h F' H' σ (s.trans a)
  | ct ρ => exact fun F' H' σ a => h F' H' σ (s.trans a)
  | rt p => exact fun v F' H' a => h v F' H' (s.trans a)
  | ro p => exact fun v F' H' a => h v F' H' (s.trans a)
  | rd p => exact fun v F' H' S a => h v F' H' S (s.trans a)
  | ex z => exact PX.up h s
theorem POks.of {σ1 : St} (h : POks K C F D ks σ0 o) (k : ∀ i ∈ ks, σ1[i]? = σ0[i]?) : POks K C F D ks σ1 o := by
  cases o with
  | nx ρ => exact fun F' H' σ a R q => h F' H' σ a R fun i hi => (q i hi).trans (k i hi)
  | bk ρ => exact fun F' H' σ a R q => h F' H' σ a R fun i hi => (q i hi).trans (k i hi)
  | ct ρ => exact fun F' H' σ a R q => h F' H' σ a R fun i hi => (q i hi).trans (k i hi)
  | rt p => exact h
  | ro p => exact h
  | rd p => exact h
  | ex z => exact h
end
end MP
end L2

namespace L2.MP
open PySem PySem.Spec PyProof.Rows
section
variable {K : PySem.W.Frag} {F F1 F2 H H1 H2 : Hp} {S : Addr → Prop} {v : V} {p : PV}
end
section
variable {κ : Type} [DecidableEq κ]
end
section
variable {K : PySem.W.Frag} {io : Addr → Prop} {H0 F0 F H Hb F2 H2 : Hp} {σ σ2 : St} {ρ ρ2 : Rho} {P : Nat → Addr → Prop} {i g : Nat} {b : Addr} {c : List (List Key × PV)} {p : PV}
end
end L2.MP
namespace L2.MP
open PySem PySem.Spec PyProof.Rows
section
variable {K : PySem.W.Frag} {io : Addr → Prop} {H0 F0 F H F2 H2 : Hp} {σ σ2 : St} {ρ ρ2 : Rho} {i s : Nat} {a : Addr} {xs : List V} {l : List PV}
end
end L2.MP

namespace L2.TS
open PySem PySem.Spec PyProof.Rows
section
variable {prog : Program} {w : World} {A : Around} {E : Value → Shared → Prop} {s : Shared} {κ : SortKind} {D : Keyed → Prop} {r : Keyed → Nat} {st : SortSt} {left : Bool} {key x y : Keyed} {arr : Array Keyed} {base n hint : Nat}
end
end L2.TS

namespace L2.TS
open PySem PySem.Spec PyProof.Rows
section
variable {r : Keyed → Nat} {la lb out : List Keyed} {ia ib : Nat}
noncomputable def Srt (r : Keyed → Nat) (l : List Keyed) : Prop := l.Pairwise fun x y => r x < r y
structure Mg (r : Keyed → Nat) (la lb out : List Keyed) (ia ib : Nat) : Prop where
  so : Srt r out
  lt : ∀ o ∈ out, ∀ z ∈ la.drop ia ++ lb.drop ib, r o < r z
  pm : out.Perm (la.take ia ++ lb.take ib)
theorem Mg.as (h : Mg r la lb out ia ib) (sa : Srt r la) (k : Nat) (hk : ∀ x ∈ (la.drop ia).take k, ∀ y ∈ lb.drop ib, r x < r y) : Mg r la lb (out ++ (la.drop ia).take k) (ia + k) ib := by
  have sd : Srt r (la.drop ia) := List.Pairwise.sublist (List.drop_sublist _ _) sa
  have e : la.drop (ia + k) = (la.drop ia).drop k := by rw [List.drop_drop]
  refine ⟨List.pairwise_append.mpr ⟨h.so, List.Pairwise.sublist (List.take_sublist _ _) sd, fun o ho x hx => h.lt o ho x (List.mem_append.mpr (.inl (List.mem_of_mem_take hx)))⟩, fun o ho z hz => ?_, ?_⟩
  · rw [e] at hz
    rcases List.mem_append.mp ho with q | q
    · refine h.lt o q z ?_
      rcases List.mem_append.mp hz with w | w
      · exact List.mem_append.mpr (.inl (List.mem_of_mem_drop w))
      · exact List.mem_append.mpr (.inr w)
    · rcases List.mem_append.mp hz with w | w
      · have := sd
        rw [← List.take_append_drop k (la.drop ia)] at this
        exact (List.pairwise_append.mp this).2.2 o q z w
      · exact hk o q z w
  · rw [List.take_add]
    refine (h.pm.append_right _).trans ?_
    rw [List.append_assoc, List.append_assoc]
    exact List.Perm.append_left _ List.perm_append_comm
theorem Mg.bs (h : Mg r la lb out ia ib) (sb : Srt r lb) (k : Nat) (hk : ∀ y ∈ (lb.drop ib).take k, ∀ x ∈ la.drop ia, r y < r x) : Mg r la lb (out ++ (lb.drop ib).take k) ia (ib + k) := by
  have sd : Srt r (lb.drop ib) := List.Pairwise.sublist (List.drop_sublist _ _) sb
  have e : lb.drop (ib + k) = (lb.drop ib).drop k := by rw [List.drop_drop]
  refine ⟨List.pairwise_append.mpr ⟨h.so, List.Pairwise.sublist (List.take_sublist _ _) sd, fun o ho x hx => h.lt o ho x (List.mem_append.mpr (.inr (List.mem_of_mem_take hx)))⟩, fun o ho z hz => ?_, ?_⟩
  · rw [e] at hz
    rcases List.mem_append.mp ho with q | q
    · refine h.lt o q z ?_
      rcases List.mem_append.mp hz with w | w
      · exact List.mem_append.mpr (.inl w)
      · exact List.mem_append.mpr (.inr (List.mem_of_mem_drop w))
    · rcases List.mem_append.mp hz with w | w
      · exact hk o q z w
      · have := sd
        rw [← List.take_append_drop k (lb.drop ib)] at this
        exact (List.pairwise_append.mp this).2.2 o q z w
  · rw [List.take_add, ← List.append_assoc]
    exact h.pm.append_right _
theorem Mg.end (h : Mg r la lb out ia ib) (sa : Srt r la) (sb : Srt r lb) (hk : ∀ x ∈ la.drop ia, ∀ y ∈ lb.drop ib, r x < r y) : Srt r (out ++ la.drop ia ++ lb.drop ib) ∧ (out ++ la.drop ia ++ lb.drop ib).Perm (la ++ lb) := by
  refine ⟨?_, ?_⟩
  · rw [List.append_assoc]
    refine List.pairwise_append.mpr ⟨h.so, List.pairwise_append.mpr ⟨List.Pairwise.sublist (List.drop_sublist _ _) sa, List.Pairwise.sublist (List.drop_sublist _ _) sb, hk⟩, h.lt⟩
  · have e : (la ++ lb).Perm (la.take ia ++ lb.take ib ++ (la.drop ia ++ lb.drop ib)) := by
      conv => lhs; rw [← List.take_append_drop ia la, ← List.take_append_drop ib lb]
      simp only [List.append_assoc]
      refine List.Perm.append_left _ ?_
      rw [← List.append_assoc, ← List.append_assoc]
      exact List.Perm.append_right _ List.perm_append_comm
    rw [List.append_assoc]
    exact (h.pm.append_right _).trans e.symm
end
end L2.TS

namespace L2.TS
open PySem PySem.Spec PyProof.Rows
noncomputable abbrev S7 := Option (Array Keyed) × Array Keyed × Nat × Nat × Nat × Nat × Nat
section
variable {prog : Program} {w : World} {A : Around} {E : Value → Shared → Prop} {s : Shared} {κ : SortKind} {D : Keyed → Prop} {r : Keyed → Nat} {st : SortSt} {a b : Array Keyed}
structure LoOk (D : Keyed → Prop) (r : Keyed → Nat) (a b : Array Keyed) : Prop where
  da : ∀ x ∈ a.toList, D x
  db : ∀ x ∈ b.toList, D x
  sa : Srt r a.toList
  sb : Srt r b.toList
  ne : ∀ x ∈ a.toList, ∀ y ∈ b.toList, r x ≠ r y
  la : ∀ x, a.toList[a.size - 1]? = some x → ∀ y ∈ b.toList, r y < r x
noncomputable def Good (r : Keyed → Nat) (a b out : Array Keyed) : Prop := Srt r out.toList ∧ out.toList.Perm (a.toList ++ b.toList)
structure In (r : Keyed → Nat) (a b out : Array Keyed) (ia ib : Nat) : Prop where
  mg : Mg r a.toList b.toList out.toList ia ib
  ha : ia + 1 < a.size
  hb : ib < b.size
noncomputable def P7 (r : Keyed → Nat) (a b : Array Keyed) (n : Nat) : ForInStep S7 → Prop
  | .done (some o, _) => Good r a b o
  | .done (none, out, ia, ib, _) => In r a b out ia ib ∧ n ≤ ia + ib
  | .yield (none, out, ia, ib, _) => In r a b out ia ib ∧ n ≤ ia + ib
  | .yield (some _, _) => False
end
end L2.TS

namespace L2.TS
open PySem PySem.Spec PyProof.Rows
section
variable {prog : Program} {w : World} {A : Around} {E : Value → Shared → Prop} {s : Shared} {κ : SortKind} {D : Keyed → Prop} {r : Keyed → Nat} {st : SortSt} {a b : Array Keyed}
theorem P7.mono {n m : Nat} (h : n ≤ m) : ∀ {c : ForInStep S7}, P7 r a b m c → P7 r a b n c
  | .done (some _, _), p => p
  | .done (none, _, _, _, _), p => ⟨p.1, Nat.le_trans h p.2⟩
  | .yield (none, _, _, _, _), p => ⟨p.1, Nat.le_trans h p.2⟩
  | .yield (some _, _), p => p
end
end L2.TS

namespace L2.TS
open PySem PySem.Spec PyProof.Rows
section
variable {prog : Program} {w : World} {A : Around} {E : Value → Shared → Prop} {s : Shared} {κ : SortKind} {D : Keyed → Prop} {r : Keyed → Nat} {st : SortSt} {a b : Array Keyed}
end
end L2.TS

namespace L2.TS
open PySem PySem.Spec PyProof.Rows
noncomputable abbrev T7 := Option (Array Keyed) × Nat × Nat × Array Keyed × Nat × Nat × Nat
noncomputable abbrev T6 := Option (Array Keyed) × Nat × Nat × Array Keyed × Nat × Nat
noncomputable abbrev T5 := Option (Array Keyed) × Nat × Nat × Array Keyed × Nat
section
variable {r : Keyed → Nat} {la lb out : List Keyed} {na nb : Nat}
structure Mh (r : Keyed → Nat) (la lb out : List Keyed) (na nb : Nat) : Prop where
  so : Srt r out.reverse
  lt : ∀ o ∈ out, ∀ z ∈ la.take na ++ lb.take nb, r z < r o
  pm : out.Perm (la.drop na ++ lb.drop nb)
theorem drop_split (l : List Keyed) {i j : Nat} (h : i ≤ j) : l.drop i = (l.take j).drop i ++ l.drop j := by
  conv => lhs; rw [← List.take_append_drop j l]
  by_cases q : j ≤ l.length
  · rw [List.drop_append_of_le_length (by simp; omega)]
  · rw [show l.drop j = [] from List.drop_of_length_le (by omega), List.append_nil, List.append_nil]
theorem Mh.as (h : Mh r la lb out na nb) (sa : Srt r la) {i : Nat} (hi : i ≤ na) (hk : ∀ x ∈ (la.take na).drop i, ∀ y ∈ lb.take nb, r y < r x) : Mh r la lb (out ++ ((la.take na).drop i).reverse) i nb := by
  have st : Srt r (la.take na) := List.Pairwise.sublist (List.take_sublist _ _) sa
  have e : la.take i = (la.take na).take i := by rw [List.take_take, Nat.min_eq_left hi]
  have sp : Srt r ((la.take na).take i ++ (la.take na).drop i) := by rw [List.take_append_drop]; exact st
  refine ⟨?_, fun o ho z hz => ?_, ?_⟩
  · rw [List.reverse_append, List.reverse_reverse]
    exact List.pairwise_append.mpr ⟨List.Pairwise.sublist (List.drop_sublist _ _) st, h.so, fun x hx o ho => h.lt o (List.mem_reverse.mp ho) x (List.mem_append.mpr (.inl (List.mem_of_mem_drop hx)))⟩
  · rw [e] at hz
    rcases List.mem_append.mp ho with q | q
    · refine h.lt o q z ?_
      rcases List.mem_append.mp hz with w | w
      · exact List.mem_append.mpr (.inl (List.mem_of_mem_take w))
      · exact List.mem_append.mpr (.inr w)
    · have q := List.mem_reverse.mp q
      rcases List.mem_append.mp hz with w | w
      · exact (List.pairwise_append.mp sp).2.2 z w o q
      · exact hk o q z w
  · rw [drop_split la hi, List.append_assoc]
    refine (List.Perm.append h.pm (List.reverse_perm _)).trans ?_
    exact List.perm_append_comm
theorem Mh.bs (h : Mh r la lb out na nb) (sb : Srt r lb) {i : Nat} (hi : i ≤ nb) (hk : ∀ y ∈ (lb.take nb).drop i, ∀ x ∈ la.take na, r x < r y) : Mh r la lb (out ++ ((lb.take nb).drop i).reverse) na i := by
  have st : Srt r (lb.take nb) := List.Pairwise.sublist (List.take_sublist _ _) sb
  have e : lb.take i = (lb.take nb).take i := by rw [List.take_take, Nat.min_eq_left hi]
  have sp : Srt r ((lb.take nb).take i ++ (lb.take nb).drop i) := by rw [List.take_append_drop]; exact st
  refine ⟨?_, fun o ho z hz => ?_, ?_⟩
  · rw [List.reverse_append, List.reverse_reverse]
    exact List.pairwise_append.mpr ⟨List.Pairwise.sublist (List.drop_sublist _ _) st, h.so, fun x hx o ho => h.lt o (List.mem_reverse.mp ho) x (List.mem_append.mpr (.inr (List.mem_of_mem_drop hx)))⟩
  · rw [e] at hz
    rcases List.mem_append.mp ho with q | q
    · refine h.lt o q z ?_
      rcases List.mem_append.mp hz with w | w
      · exact List.mem_append.mpr (.inl w)
      · exact List.mem_append.mpr (.inr (List.mem_of_mem_take w))
    · have q := List.mem_reverse.mp q
      rcases List.mem_append.mp hz with w | w
      · exact hk o q z w
      · exact (List.pairwise_append.mp sp).2.2 z w o q
  · rw [drop_split lb hi]
    refine (List.Perm.append h.pm (List.reverse_perm _)).trans ?_
    rw [List.append_assoc]
    refine List.Perm.append_left _ ?_
    exact List.perm_append_comm
theorem halves (la lb : List Keyed) (na nb : Nat) : (la.take na ++ lb.take nb ++ (la.drop na ++ lb.drop nb)).Perm (la ++ lb) := by
  conv => rhs; rw [← List.take_append_drop na la, ← List.take_append_drop nb lb]
  simp only [List.append_assoc]
  refine List.Perm.append_left _ ?_
  rw [← List.append_assoc, ← List.append_assoc]
  exact List.Perm.append_right _ List.perm_append_comm
theorem Mh.end (h : Mh r la lb out na nb) (sa : Srt r la) (sb : Srt r lb) (hk : ∀ x ∈ la.take na, ∀ y ∈ lb.take nb, r x < r y) : Srt r (la.take na ++ lb.take nb ++ out.reverse) ∧ (la.take na ++ lb.take nb ++ out.reverse).Perm (la ++ lb) := by
  refine ⟨List.pairwise_append.mpr ⟨List.pairwise_append.mpr ⟨List.Pairwise.sublist (List.take_sublist _ _) sa, List.Pairwise.sublist (List.take_sublist _ _) sb, hk⟩, h.so, fun z hz o ho => h.lt o (List.mem_reverse.mp ho) z hz⟩, ?_⟩
  exact (List.Perm.append_left _ ((List.reverse_perm _).trans h.pm)).trans (halves la lb na nb)
end
end L2.TS

namespace L2.TS
open PySem PySem.Spec PyProof.Rows
section
variable {prog : Program} {w : World} {A : Around} {E : Value → Shared → Prop} {s : Shared} {κ : SortKind} {D : Keyed → Prop} {r : Keyed → Nat} {st : SortSt} {a b : Array Keyed}
structure HiOk (D : Keyed → Prop) (r : Keyed → Nat) (a b : Array Keyed) : Prop where
  da : ∀ x ∈ a.toList, D x
  db : ∀ x ∈ b.toList, D x
  sa : Srt r a.toList
  sb : Srt r b.toList
  ne : ∀ x ∈ a.toList, ∀ y ∈ b.toList, r x ≠ r y
  fb : ∀ y, b.toList[0]? = some y → ∀ x ∈ a.toList, r y < r x
structure Ih (r : Keyed → Nat) (a b out : Array Keyed) (na nb : Nat) : Prop where
  mh : Mh r a.toList b.toList out.toList na nb
  a0 : 1 ≤ na
  a1 : na ≤ a.size
  b0 : 2 ≤ nb
  b1 : nb ≤ b.size
noncomputable def H7 (r : Keyed → Nat) (a b : Array Keyed) (n : Nat) : ForInStep T7 → Prop
  | .done (some o, _) => Good r a b o
  | .done (none, na, nb, out, _) => Ih r a b out na nb ∧ na + nb ≤ n
  | .yield (none, na, nb, out, _) => Ih r a b out na nb ∧ na + nb ≤ n
  | .yield (some _, _) => False
theorem H7.mono {n m : Nat} (h : n ≤ m) : ∀ {c : ForInStep T7}, H7 r a b n c → H7 r a b m c
  | .done (some _, _), p => p
  | .done (none, _, _, _, _), p => ⟨p.1, Nat.le_trans p.2 h⟩
  | .yield (none, _, _, _, _), p => ⟨p.1, Nat.le_trans p.2 h⟩
  | .yield (some _, _), p => p
theorem last1 {l : List Keyed} {n : Nat} {x : Keyed} (h0 : 1 ≤ n) (h : l[n - 1]? = some x) : (l.take n).drop (n - 1) = [x] := by
  have hi := (List.getElem?_eq_some_iff.mp h).1
  have e : l.take n = l.take (n - 1) ++ [x] := by
    conv => lhs; rw [show n = n - 1 + 1 by omega]
    rw [List.take_succ, h]; rfl
  rw [e, List.drop_left' (by simp; omega)]
theorem Mh.a1 {out : Array Keyed} {na nb : Nat} {x : Keyed} (m : Mh r a.toList b.toList out.toList na nb) (sa : Srt r a.toList) (h0 : 1 ≤ na) (ex : a.toList[na - 1]? = some x) (hx : ∀ y ∈ b.toList.take nb, r y < r x) : Mh r a.toList b.toList (out.push x).toList (na - 1) nb := by
  have := m.as sa (i := na - 1) (by omega) (by rw [last1 h0 ex]; intro z hz; rw [List.mem_singleton.mp hz]; exact hx)
  rw [last1 h0 ex] at this
  rw [Array.toList_push]; exact this
theorem Mh.b1 {out : Array Keyed} {na nb : Nat} {y : Keyed} (m : Mh r a.toList b.toList out.toList na nb) (sb : Srt r b.toList) (h0 : 1 ≤ nb) (ey : b.toList[nb - 1]? = some y) (hy : ∀ x ∈ a.toList.take na, r x < r y) : Mh r a.toList b.toList (out.push y).toList na (nb - 1) := by
  have := m.bs sb (i := nb - 1) (by omega) (by rw [last1 h0 ey]; intro z hz; rw [List.mem_singleton.mp hz]; exact hy)
  rw [last1 h0 ey] at this
  rw [Array.toList_push]; exact this
noncomputable def H6 (r : Keyed → Nat) (a b : Array Keyed) (n : Nat) : ForInStep T6 → Prop
  | .done (some o, _) => Good r a b o
  | .done (none, na, nb, out, _) => Ih r a b out na nb ∧ na + nb ≤ n
  | .yield (none, na, nb, out, _) => Ih r a b out na nb ∧ na + nb ≤ n
  | .yield (some _, _) => False
noncomputable def H5 (r : Keyed → Nat) (a b : Array Keyed) (n : Nat) : ForInStep T5 → Prop
  | .done (some o, _) => Good r a b o
  | .done (none, _) => False
  | .yield (none, na, nb, out, _) => Ih r a b out na nb ∧ na + nb ≤ n
  | .yield (some _, _) => False
end
end L2.TS

namespace L2.TS
open PySem PySem.Spec PyProof.Rows
section
variable {prog : Program} {w : World} {A : Around} {E : Value → Shared → Prop} {s : Shared} {κ : SortKind} {D : Keyed → Prop} {r : Keyed → Nat} {st : SortSt}
noncomputable def Unl (r : Keyed → Nat) (l : List Keyed) : Prop := l.Pairwise fun x y => r x ≠ r y
end
end L2.TS

namespace L2.TS
open PySem PySem.Spec PyProof.Rows
noncomputable def Rk (r : Keyed → Nat) (a : Array Keyed) (k : Nat) : Nat := match a[k]? with
  | some x => r x
  | none => 0
noncomputable def SrtI (r : Keyed → Nat) (a : Array Keyed) (i j : Nat) : Prop := ∀ p q, i ≤ p → p < q → q < j → Rk r a p < Rk r a q
theorem Rk_of {r : Keyed → Nat} {a b : Array Keyed} {i j : Nat} (h : a[i]? = b[j]?) : Rk r a i = Rk r b j := by unfold Rk; rw [h]
theorem Rk_at {r : Keyed → Nat} {a : Array Keyed} {k : Nat} {x : Keyed} (h : a[k]? = some x) : Rk r a k = r x := by unfold Rk; rw [h]
section
variable {prog : Program} {w : World} {A : Around} {E : Value → Shared → Prop} {s : Shared} {κ : SortKind} {D : Keyed → Prop} {r : Keyed → Nat} {st : SortSt}
structure Bs (D : Keyed → Prop) (r : Keyed → Nat) (a : Array Keyed) : Prop where
  dm : ∀ (k : Nat) x, a[k]? = some x → D x
  un : ∀ p q, p < q → q < a.size → Rk r a p ≠ Rk r a q
theorem Bs.of {a : Array Keyed} (d : ∀ x ∈ a.toList, D x) (u : Unl r a.toList) : Bs D r a := by
  refine ⟨fun k x h => d x (List.mem_of_getElem? (by rw [Array.getElem?_toList]; exact h)), fun p q h1 h2 => ?_⟩
  have := List.pairwise_iff_getElem.mp u p q (by simp; omega) (by simp; omega) h1
  have e : ∀ k (hk : k < a.size), Rk r a k = r (a.toList[k]'(by simpa using hk)) := fun k hk => Rk_at (by rw [Array.getElem?_eq_getElem hk, Array.getElem_toList])
  rw [e p (by omega), e q h2]
  exact this
theorem Unl.perm {l m : List Keyed} (u : Unl r l) (p : m.Perm l) : Unl r m := (p.pairwise_iff (fun h => Ne.symm h)).mpr u
theorem Bs.perm {a b : Array Keyed} (d : ∀ x ∈ a.toList, D x) (u : Unl r a.toList) (p : b.Perm a) : Bs D r b :=
  have p := Array.perm_iff_toList_perm.mp p
  Bs.of (fun x hx => d x (p.mem_iff.mp hx)) (u.perm p)
theorem SrtI.snoc {a : Array Keyed} {i j : Nat} (h : SrtI r a i j) (hij : i < j) (l : Rk r a (j - 1) < Rk r a j) : SrtI r a i (j + 1) := fun p q h1 h2 h3 => by
  by_cases e : q = j
  · subst e
    by_cases e2 : p = q - 1
    · rw [e2]; exact l
    · exact Nat.lt_trans (h p (q - 1) h1 (by omega) (by omega)) l
  · exact h p q h1 h2 (by omega)
end
end L2.TS

namespace L2.TS
open PySem PySem.Spec PyProof.Rows
end L2.TS

namespace L2.TS
open PySem PySem.Spec PyProof.Rows
noncomputable abbrev Pd := Nat × Nat × Nat
noncomputable def Rn (r : Keyed → Nat) (a : Array Keyed) : Nat → List Pd → Nat → Prop
  | s, [], e => s = e
  | s, x :: l, e => x.1 = s ∧ 1 ≤ x.2.1 ∧ SrtI r a s (s + x.2.1) ∧ Rn r a (s + x.2.1) l e
section
variable {r : Keyed → Nat} {a b : Array Keyed}
theorem Rn.le : ∀ {l : List Pd} {s e : Nat}, Rn r a s l e → s + l.length ≤ e
  | [], s, e, h => by cases h; simp
  | x :: l, s, e, h => by
    have := h.2.2.2.le
    have := h.2.1
    simp only [List.length_cons]
    omega
theorem SrtI.congr {i j : Nat} (h : ∀ k, i ≤ k → k < j → b[k]? = a[k]?) (S : SrtI r a i j) : SrtI r b i j := fun p q h1 h2 h3 => by
  rw [Rk_of (h p h1 (by omega)), Rk_of (h q (by omega) h3)]
  exact S p q h1 h2 h3
theorem Rn.congr : ∀ {l : List Pd} {s e : Nat}, (∀ k, s ≤ k → k < e → b[k]? = a[k]?) → Rn r a s l e → Rn r b s l e
  | [], _, _, _, h => h
  | x :: l, s, e, hk, ⟨h1, h2, h3, h4⟩ => by
    have := h4.le
    exact ⟨h1, h2, h3.congr fun k g1 g2 => hk k g1 (by omega), Rn.congr (fun k g1 g2 => hk k (by omega) g2) h4⟩
end
section
variable {prog : Program} {w : World} {A : Around} {E : Value → Shared → Prop} {s : Shared} {κ : SortKind} {D : Keyed → Prop} {r : Keyed → Nat} {st : SortSt} {a0 : Array Keyed}
structure Rs (κ : SortKind) (r : Keyed → Nat) (a0 : Array Keyed) (lo : Nat) (st : SortSt) : Prop where
  kd : kindOf st = κ
  fl : failedOf st = none
  pm : (arrOf st).Perm a0
  rn : Rn r (arrOf st) 0 (pendingOf st).toList lo
  le : lo ≤ a0.size
end
end L2.TS

namespace L2.TS
open PySem PySem.Spec PyProof.Rows
section
variable {prog : Program} {w : World} {A : Around} {E : Value → Shared → Prop} {s : Shared} {κ : SortKind} {D : Keyed → Prop} {r : Keyed → Nat} {st : SortSt} {a0 : Array Keyed}
theorem Rn.mod {a : Array Keyed} {f : Pd → Pd} (hf : ∀ x, (f x).1 = x.1 ∧ (f x).2.1 = x.2.1) : ∀ {l : List Pd} {i s e : Nat}, Rn r a s l e → Rn r a s (l.modify i f) e
  | [], _, _, _, h => by simpa using h
  | x :: l, 0, s, e, ⟨h1, h2, h3, h4⟩ => by
    rw [List.modify_zero_cons]
    exact ⟨(hf x).1.trans h1, by rw [(hf x).2]; exact h2, by rw [(hf x).2]; exact h3, by rw [(hf x).2]; exact h4⟩
  | x :: l, i + 1, s, e, ⟨h1, h2, h3, h4⟩ => by
    rw [List.modify_succ_cons]
    exact ⟨h1, h2, h3, Rn.mod hf h4⟩
end
end L2.TS

namespace L2
open PySem PySem.Spec PyProof PyProof.Rows
section
variable {K : Type} [DecidableEq K] {prog : Program} {w : World} {knd : HeapKind prog w K} {A : Around} {E : Value → Shared → Prop} {s : Shared} {d a : Addr} {k : K} {xs : List (K × Addr × Value)}
end
section
variable {X : Cx} {pins : List (Addr × Obj)} {σ : St} {H : Hp} {s : Shared} {a b : Addr} {kvs : List (List Key × V)} {k : List Key} {z : V} {r : Value} {A : Around} {E : Value → Shared → Prop}
end
section
variable {X : Cx} {o e f : Expr} {apos cpos : Pos} {td ty tz : TE}
end
namespace MP
section
variable {K : PySem.W.Frag} {C : Cg} {te tb : TE} {F F1 F2 H H1 H2 : Hp} {σ : St} {ρ : Rho} {D : Ends} {S : Addr → Prop} {v : V} {p : PV}
end
end MP
end L2

namespace L2
open PySem PySem.Spec PySem.W PyProof PyProof.Rows
noncomputable abbrev Sk := Str × List Int
noncomputable def ltI : List Int → List Int → Bool
  | a :: l, b :: m => if a = b then ltI l m else decide (a < b)
  | _, _ => false
noncomputable def ltSk (p q : Sk) : Bool := if p.1 = q.1 then ltI p.2 q.2 else decide (p.1.cps.toList < q.1.cps.toList)
theorem ltI_irrefl : ∀ l, ltI l l = false
  | [] => rfl
  | a :: l => by unfold ltI; rw [if_pos rfl]; exact ltI_irrefl l
theorem ltI_trans : ∀ {l m n : List Int}, ltI l m = true → ltI m n = true → ltI l n = true
  | a :: l, b :: m, c :: n, h1, h2 => by
    unfold ltI at h1 h2 ⊢
    by_cases e1 : a = b
    · rw [if_pos e1] at h1
      by_cases e2 : b = c
      · rw [if_pos e2] at h2; rw [if_pos (e1.trans e2)]; exact ltI_trans h1 h2
      · rw [if_neg e2] at h2; rw [if_neg (fun z => e2 (e1.symm.trans z)), e1]; exact h2
    · rw [if_neg e1] at h1
      have h1 := of_decide_eq_true h1
      by_cases e2 : b = c
      · rw [if_neg (fun z => e1 (z.trans e2.symm)), ← e2]; exact decide_eq_true h1
      · rw [if_neg e2] at h2
        have h2 := of_decide_eq_true h2
        rw [if_neg (by omega)]
        exact decide_eq_true (by omega)
  | [], _, _, h1, _ => by cases h1
  | _ :: _, [], _, h1, _ => by cases h1
  | _ :: _, _ :: _, [], _, h2 => by cases h2
theorem ltI_total : ∀ {l m : List Int}, l.length = m.length → l ≠ m → ltI l m = true ∨ ltI m l = true
  | [], [], _, h => absurd rfl h
  | a :: l, b :: m, hl, h => by
    unfold ltI
    by_cases e : a = b
    · subst e
      rw [if_pos rfl, if_pos rfl]
      exact ltI_total (by simpa using hl) fun z => h (by rw [z])
    · rw [if_neg e, if_neg (Ne.symm e)]
      rcases Int.lt_or_gt_of_ne e with q | q
      · exact .inl (decide_eq_true q)
      · exact .inr (decide_eq_true q)
theorem str_ne {a b : Str} (h : a ≠ b) : a.cps.toList ≠ b.cps.toList := fun e => h (by
  cases a; cases b
  simp only [Str.mk.injEq]
  exact Array.toList_inj.mp e)
theorem ltSk_irrefl (p : Sk) : ltSk p p = false := by unfold ltSk; rw [if_pos rfl]; exact ltI_irrefl _
theorem ltSk_trans {p q t : Sk} (h1 : ltSk p q = true) (h2 : ltSk q t = true) : ltSk p t = true := by
  unfold ltSk at h1 h2 ⊢
  by_cases e1 : p.1 = q.1
  · rw [if_pos e1] at h1
    by_cases e2 : q.1 = t.1
    · rw [if_pos e2] at h2; rw [if_pos (e1.trans e2)]; exact ltI_trans h1 h2
    · rw [if_neg e2] at h2; rw [if_neg (fun z => e2 (e1.symm.trans z)), e1]; exact h2
  · rw [if_neg e1] at h1
    have h1 := of_decide_eq_true h1
    by_cases e2 : q.1 = t.1
    · rw [if_neg (fun z => e1 (z.trans e2.symm)), ← e2]; exact decide_eq_true h1
    · rw [if_neg e2] at h2
      have h2 := of_decide_eq_true h2
      have h3 := List.lt_trans h1 h2
      rw [if_neg (fun z => by rw [z] at h3; exact List.lt_irrefl _ h3)]
      exact decide_eq_true h3
theorem ltSk_total {p q : Sk} (hl : p.2.length = q.2.length) (h : p ≠ q) : ltSk p q = true ∨ ltSk q p = true := by
  unfold ltSk
  by_cases e : p.1 = q.1
  · rw [if_pos e, if_pos e.symm]
    exact ltI_total hl fun z => h (Prod.ext e z)
  · rw [if_neg e, if_neg (Ne.symm e)]
    by_cases q1 : p.1.cps.toList < q.1.cps.toList
    · exact .inl (decide_eq_true q1)
    · refine .inr (decide_eq_true ?_)
      by_cases q2 : q.1.cps.toList < p.1.cps.toList
      · exact q2
      · exact absurd (List.le_antisymm (List.not_lt.mp q2) (List.not_lt.mp q1)) (str_ne e)
noncomputable def rkS (ps : List Sk) (i : Nat) : Nat := ((List.range ps.length).filter fun j => ltSk (ps.getD j default) (ps.getD i default)).length
structure SkOk (ps : List Sk) (m : Nat) : Prop where
  nd : ps.Nodup
  ln : ∀ p ∈ ps, p.2.length = m
section
variable {ps : List Sk} {m : Nat}
theorem sk_mem {i : Nat} (h : i < ps.length) : ps.getD i default ∈ ps := List.mem_of_getElem? (i := i) (by rw [List.getD_eq_getElem?_getD, List.getElem?_eq_getElem h]; rfl)
theorem SkOk.inj (o : SkOk ps m) {i j : Nat} (hi : i < ps.length) (hj : j < ps.length) (e : ps.getD i default = ps.getD j default) : i = j := by
  have g : ∀ i, i < ps.length → ps[i]? = some (ps.getD i default) := fun i h => by rw [List.getD_eq_getElem?_getD, List.getElem?_eq_getElem h]; rfl
  exact (List.getElem?_inj hi o.nd).mp (by rw [g i hi, g j hj, e])
theorem rk_lt {i j : Nat} (hi : i < ps.length) (h : ltSk (ps.getD i default) (ps.getD j default) = true) : rkS ps i < rkS ps j := by
  unfold rkS
  have sub : ((List.range ps.length).filter fun k => ltSk (ps.getD k default) (ps.getD i default)).Sublist ((List.range ps.length).filter fun k => ltSk (ps.getD k default) (ps.getD j default)) := by
    have e : ((List.range ps.length).filter fun k => ltSk (ps.getD k default) (ps.getD i default)) = ((List.range ps.length).filter fun k => ltSk (ps.getD k default) (ps.getD j default)).filter fun k => ltSk (ps.getD k default) (ps.getD i default) := by
      rw [List.filter_filter]
      refine List.filter_congr fun k _ => ?_
      cases q : ltSk (ps.getD k default) (ps.getD i default) with
      | false => rfl
      | true => rw [ltSk_trans q h]; rfl
    rw [e]; exact List.filter_sublist
  refine Nat.lt_of_le_of_ne sub.length_le fun e => ?_
  have e := sub.eq_of_length e
  have : i ∈ (List.range ps.length).filter fun k => ltSk (ps.getD k default) (ps.getD j default) := List.mem_filter.mpr ⟨List.mem_range.mpr hi, h⟩
  rw [← e] at this
  have := (List.mem_filter.mp this).2
  rw [ltSk_irrefl] at this
  cases this
theorem SkOk.lt (o : SkOk ps m) {i j : Nat} (hi : i < ps.length) (hj : j < ps.length) : ltSk (ps.getD i default) (ps.getD j default) = decide (rkS ps i < rkS ps j) := by
  cases q : ltSk (ps.getD i default) (ps.getD j default) with
  | true => exact (decide_eq_true (rk_lt hi q)).symm
  | false =>
    refine (decide_eq_false fun z => ?_).symm
    by_cases e : ps.getD i default = ps.getD j default
    · rw [o.inj hi hj e] at z; omega
    · rcases ltSk_total (by rw [o.ln _ (sk_mem hi), o.ln _ (sk_mem hj)]) e with w | w
      · rw [q] at w; cases w
      · have := rk_lt hj w; omega
end
end L2

namespace L2
open PySem PySem.Spec PySem.W PyProof PyProof.Rows
noncomputable def SkAt (h : Heap) (v : Value) (p : Sk) : Prop := ∃ a o t ys n, v = .ref a ∧ h.get? a = some o ∧ o.cls = .type "tuple" ∧ o.data = .seq (List.toArray (.str p.1 t :: ys)) n ∧ IntsAre ys p.2
section
variable {prog : Program} {w : World} {A : Around} {E : Value → Shared → Prop} {s : Shared} {v u : Value} {p q : Sk}
theorem SkAt.same {h h' : Heap} (x : SkAt h v p) (k : ∀ a o, v = .ref a → h.get? a = some o → h'.get? a = some o) : SkAt h' v p := by
  obtain ⟨a, o, t, ys, n, e, h1, h2⟩ := x
  exact ⟨a, o, t, ys, n, e, k a o e h1, h2⟩
theorem kat_ints {Q : Bool → Shared → Prop} : ∀ {ys zs : List Value} {ns ms : List Int} (i : Nat), IntsAre ys ns → IntsAre zs ms → ns.length = ms.length → Q (ltI ns ms) s → KatLex prog w A true false Q (ys.zip zs) (i + 1) s
  | _, _, _, _, i, .nil, .nil, _, h => kat_nil h
  | _, _, _, _, i, .cons n t h1, .cons m t' h2, hl, h => by
    refine kat_cons (wpAny_eqBool_int ?_)
    by_cases d : n = m
    · rw [beq_iff_eq.mpr d]
      refine kat_yes (kat_ints (i + 1) h1 h2 (by simpa using hl) ?_)
      unfold ltI at h
      rw [if_pos d] at h
      exact h
    · rw [beq_eq_false_iff_ne.mpr d]
      refine kat_no ?_
      rw [show (true && i + 1 == 0) = false by simp]
      unfold ltI at h
      rw [if_neg d] at h
      exact kat_one _ _ (lt_int h)
  | _, _, _, _, _, .nil, .cons .., hl, _ => by simp at hl
  | _, _, _, _, _, .cons .., .nil, hl, _ => by simp at hl
theorem ints_len : ∀ {ys : List Value} {ns : List Int}, IntsAre ys ns → ys.length = ns.length
  | _, _, .nil => rfl
  | _, _, .cons _ _ h => by simp [ints_len h]
theorem SkAt.lt (hp : SkAt s.heap v p) (hq : SkAt s.heap u q) (hl : p.2.length = q.2.length) {Q : Bool → Shared → Prop} (h : Q (ltSk p q) s) : wpAny (model prog w) A (keyLt' (tuples' true) v u) Q E s := by
  obtain ⟨a, o, t, ys, n, rfl, e1, e2, e3, e4⟩ := hp
  obtain ⟨b, o', t', zs, n', rfl, f1, f2, f3, f4⟩ := hq
  refine kat_lt e1 e3 f1 f3 (kat_cons (wpAny_eqBool_str ?_))
  rw [show decide ((List.toArray (Value.str p.1 t :: ys)).size < (List.toArray (Value.str q.1 t' :: zs)).size) = false by
    refine decide_eq_false ?_
    simp [ints_len e4, ints_len f4, hl]]
  by_cases c : p.1 = q.1
  · rw [decide_eq_true c]
    refine kat_yes (kat_ints 0 e4 f4 hl ?_)
    rw [show ltSk p q = ltI p.2 q.2 by unfold ltSk; rw [if_pos c]] at h
    exact h
  · rw [decide_eq_false c]
    refine kat_no ?_
    show wpAny _ _ (oneLt' true _ _) _ _ _
    rw [show ltSk p q = decide (p.1.cps.toList < q.1.cps.toList) by unfold ltSk; rw [if_neg c]] at h
    exact oneLt_str h
end
end L2

namespace L2
open PySem PySem.Spec PySem.W PyProof PyProof.Rows
section
variable {X : Cx}
end
end L2
namespace L2.MP
open PySem PySem.Spec PySem.W PyProof PyProof.Rows
section
variable {K : PySem.W.Frag} {C : Cg}
end
end L2.MP

namespace L2
open PySem PySem.Spec PyProof PyProof.Rows
namespace MP
section
variable {K : PySem.W.Frag} {C : Cg}
end
end MP
end L2

namespace L2
open PySem PySem.Spec PyProof PyProof.Rows
section
variable {prog : Program} {w : World} {A : Around} {E : Value → Shared → Prop} {s : Shared} {d it : Addr} {es : Array DictEntry} {ep i : Nat}
end
namespace MP
section
variable {K : PySem.W.Frag} {C : Cg}
end
end MP
end L2

namespace L2
open PySem PySem.Spec PyProof PyProof.Rows
section
variable {prog : Program} {w : World} {A : Around} {E : Value → Shared → Prop}
end
section
variable {X : Cx} {pos : Pos}
end
namespace MP
section
variable {K : PySem.W.Frag} {C : Cg}
end
end MP
end L2

namespace L2.MP
section
variable {α : Type} {us : List α}
theorem len0 (h : us.length = 0) : us = [] := List.length_eq_zero_iff.mp h
theorem lenS {n : Nat} (h : us.length = n + 1) : ∃ a vs, us = a :: vs ∧ vs.length = n := by
  cases us with
  | nil => cases h
  | cons a vs => exact ⟨a, vs, rfl, Nat.succ.inj h⟩
theorem len1 (h : us.length = 1) : ∃ a, us = [a] := by
  obtain ⟨a, vs, rfl, h2⟩ := lenS h
  cases len0 h2
  exact ⟨a, rfl⟩
theorem len2 (h : us.length = 2) : ∃ a b, us = [a, b] := by
  obtain ⟨a, vs, rfl, h2⟩ := lenS h
  obtain ⟨b, rfl⟩ := len1 h2
  exact ⟨a, b, rfl⟩
end
end L2.MP

namespace L2
open PySem PySem.Spec PyProof PyProof.Rows
inductive LtK : List Key → List Key → Bool → Prop
  | nn : LtK [] [] false
  | nc (k : Key) (l : List Key) : LtK [] (k :: l) true
  | cn (k : Key) (l : List Key) : LtK (k :: l) [] false
  | eq (k : Key) {l m : List Key} {r : Bool} (h : LtK l m r) : LtK (k :: l) (k :: m) r
  | int {i j : Int} (l m : List Key) (h : i ≠ j) : LtK (.inl i :: l) (.inl j :: m) (decide (i < j))
  | str {i j : Str} (l m : List Key) (h : i ≠ j) : LtK (.inr i :: l) (.inr j :: m) (decide (i.cps.toList < j.cps.toList))
section
open PySem.SeqAt
open PySem.AutoSeq1 (wpAny_loadPart')
open PySem.MeetsSeq PySem.MeetsSeq2 PySem.MeetsSeq3
end
end L2
namespace L2.MP
open PySem PySem.Spec PyProof PyProof.Rows
end L2.MP

namespace L2.SE
open PySem
noncomputable def Inc (xs : Array Nat) : Prop := xs.toList.Pairwise (· < ·)
theorem Inc.lt {xs : Array Nat} (h : Inc xs) {i j d e : Nat} (hij : i < j) (hj : j < xs.size) : xs.getD i d < xs.getD j e := by
  have q := List.pairwise_iff_getElem.mp h i j (by rw [Array.length_toList]; omega) (by rw [Array.length_toList]; exact hj) hij
  rw [Array.getD_eq_getD_getElem?, Array.getD_eq_getD_getElem?, Array.getElem?_eq_getElem (by omega), Array.getElem?_eq_getElem hj]
  simpa using q
structure Good (b : Bool) (t : SetTable) : Prop where
  led : t.led = b
  dum : t.dummies = #[]
  inc : Inc t.place
theorem fresh_good (b : Bool) : Good b (.fresh 0 0 b) := ⟨rfl, rfl, List.Pairwise.nil⟩
end L2.SE

namespace L2.SE
open PySem PySem.Spec PyProof PyProof.Rows
section
variable {prog : Program} {w : World} {K : Type} [DecidableEq K] (knd : KeyKind prog w K)
noncomputable def Apart (l : List (Int × Value)) : Prop := l.Pairwise fun e f => ∀ k, knd.is k e.2 = true → knd.is k f.2 = true → False
structure Els (S : K → Bool) (es : Array (Int × Value)) : Prop where
  el : ElemsOf knd es.toList
  ap : Apart knd es.toList
  mem : ∀ k, S k = true ↔ ∃ e ∈ es.toList, knd.is k e.2 = true
noncomputable def SetG (h : Heap) (a : Addr) (b : Bool) (S : K → Bool) (n : Nat) : Prop :=
  ∃ o es ep t, h.get? a = some o ∧ o.ExactSet ∧ o.data = .set es ep t ∧ Els knd S es ∧ es.size < scanBound ∧ t.fits es.size = true ∧ Good b t ∧ es.size ≤ n
variable {knd} {S : K → Bool} {A : Around} {E : Value → Shared → Prop} {s : Shared} {a : Addr} {b : Bool} {n : Nat}
theorem Els.perm {es es' : Array (Int × Value)} (h : Els knd S es) (p : es'.toList.Perm es.toList) : Els knd S es' :=
  ⟨h.el.perm p, (p.symm.pairwise_iff fun {x y} q k u v => q k v u).mp h.ap, fun k => (h.mem k).trans ⟨fun ⟨e, u, v⟩ => ⟨e, p.mem_iff.mpr u, v⟩, fun ⟨e, u, v⟩ => ⟨e, p.mem_iff.mp u, v⟩⟩⟩
theorem Els.push {es es' : Array (Int × Value)} (h : Els knd S es) {k : K} {x : Value} (hk : knd.is k x = true) (hx : x.scannable = true) (hn : S k = false) (p : es'.toList.Perm (es.toList ++ [(knd.hash k, x)])) : Els knd (fun k' => S k' || decide (k' = k)) es' := by
  refine ⟨(h.el.push hk hx).perm p, (p.symm.pairwise_iff fun {x y} q k u v => q k v u).mp (List.pairwise_append.mpr ⟨h.ap, List.pairwise_singleton _ _, fun e he f hf k' u v => ?_⟩), mem_push_iff hk h.mem p⟩
  rw [List.mem_singleton] at hf
  subst hf
  have e : k' = k := knd.inj x k' k v hk
  subst e
  rw [(h.mem k').mpr ⟨_, he, u⟩] at hn
  cases hn
end
end L2.SE

namespace L2.SE
open PySem PySem.Spec PyProof PyProof.Rows
noncomputable abbrev sObj (b : Bool) : Obj := { cls := .type "set", dict := none, data := .set #[] 0 (.fresh 0 0 b) }
section
variable {prog : Program} {w : World} {K : Type} [DecidableEq K] {knd : KeyKind prog w K} {S : K → Bool} {A : Around} {E : Value → Shared → Prop} {s : Shared} {a : Addr} {b : Bool} {n : Nat}
theorem SetG.at {h h' : Heap} (x : SetG knd h a b S n) (e : ∀ o, h.get? a = some o → h'.get? a = some o) : SetG knd h' a b S n :=
  let ⟨o, es, ep, t, ho, r⟩ := x; ⟨o, es, ep, t, e o ho, r⟩
theorem SetG.fresh {h : Heap} : SetG knd (h.push (sObj b)) h.objs.size b (fun _ => false) 0 :=
  ⟨_, #[], 0, .fresh 0 0 b, Heap.get?_push_size _ rfl, ⟨rfl, rfl, rfl⟩, rfl, ⟨fun e he => by simp at he, List.Pairwise.nil, fun k => by simp⟩, by decide, by rfl, fresh_good b, Nat.le_refl _⟩
noncomputable def seen (key : Nat → K) (i : Nat) : K → Bool := fun k => (List.range i).any fun j => decide (k = key j)
end
section
variable {prog : Program} {w : World} {K : Type} [DecidableEq K] {knd : KeyKind prog w K} {A : Around} {R : Result → Shared → Prop} {I : Addr} {fp wr : List Addr} {G : Array GenState → Array GenState → Prop} {n : Nat} {P : Nat → Value → Prop} {St : Nat → Shared → Prop} {b : Bool}
end
section
variable {prog : Program} {w : World} {K : Type} [DecidableEq K] {knd : KeyKind prog w K} {A : Around} {E : Value → Shared → Prop} {s : Shared}
end
end L2.SE

namespace L2.SE
open PySem PySem.Spec PyProof PyProof.Rows
noncomputable def SetAt (h : Heap) (a : Addr) (es : Array (Int × Value)) (ep : Nat) (t : SetTable) : Prop := ∃ o, h.get? a = some o ∧ o.cls = .type "set" ∧ o.data = .set es ep t
noncomputable def It (h : Heap) (I : Addr) (f : Value) (i : Nat) (a : Addr) (n ep : Nat) : Prop := ∃ o, h.get? I = some o ∧ o.cls = .type "set_iterator" ∧ o.data = .fields #[f, .int i 0, .ref a, .int n 0, .int ep 0]
theorem It.typeIs {s : Shared} {I : Addr} {f : Value} {i : Nat} {a : Addr} {n ep : Nat} (x : It s.heap I f i a n ep) : s.TypeIs (.ref I) "set_iterator" := let ⟨o, h, c, _⟩ := x; ⟨o, h, c⟩
section
variable {prog : Program} {w : World} {A : Around} {E : Value → Shared → Prop} {s : Shared} {I a : Addr} {f : Value} {i ep : Nat} {es : Array (Int × Value)} {t : SetTable}
end
end L2.SE

namespace L2.SE
open PySem PySem.Spec PyProof PyProof.Rows
section
variable {prog : Program} {w : World} {A : Around} {E : Value → Shared → Prop} {s : Shared} {I a : Addr} {i ep : Nat} {es : Array (Int × Value)} {t : SetTable}
end
end L2.SE

namespace L2.SE
open PySem PySem.Spec PyProof PyProof.Rows
theorem It.at {h h' : Heap} {I : Addr} {f : Value} {i : Nat} {a : Addr} {n ep : Nat} (x : It h I f i a n ep) (e : ∀ o, h.get? I = some o → h'.get? I = some o) : It h' I f i a n ep := let ⟨o, q, r⟩ := x; ⟨o, e o q, r⟩
theorem SetAt.at {h h' : Heap} {a : Addr} {es : Array (Int × Value)} {ep : Nat} {t : SetTable} (x : SetAt h a es ep t) (e : ∀ o, h.get? a = some o → h'.get? a = some o) : SetAt h' a es ep t := let ⟨o, q, r⟩ := x; ⟨o, e o q, r⟩
noncomputable def TupAt (h : Heap) (p : Addr) (xs : Array Value) : Prop := ∃ o n, h.get? p = some o ∧ o.data = .seq xs n
theorem TupAt.at {h h' : Heap} {p : Addr} {xs : Array Value} (x : TupAt h p xs) (e : ∀ o, h.get? p = some o → h'.get? p = some o) : TupAt h' p xs := let ⟨o, n, q, r⟩ := x; ⟨o, n, e o q, r⟩
section
variable {prog : Program} {w : World} {A : Around} {E : Value → Shared → Prop} {s : Shared} {I a : Addr} {i ep : Nat} {es : Array (Int × Value)} {t : SetTable}
end
end L2.SE

namespace L2.SE
open PySem PySem.Spec PyProof PyProof.Rows
noncomputable def slots (t : SetTable) : Nat → Nat
  | 0 => 0
  | i + 1 => t.place.getD i 0 + 1
section
variable {prog : Program} {w : World} {K : Type} [DecidableEq K] {knd : KeyKind prog w K} {S : K → Bool} {A : Around} {E : Value → Shared → Prop} {s : Shared} {a : Addr} {n : Nat} {es : Array (Int × Value)} {t : SetTable} {ep : Nat}
end
end L2.SE

namespace L2
open PySem PySem.Spec PyProof PyProof.Rows
noncomputable def dd : List Int → List Int
  | [] => []
  | x :: l => if x ∈ l then dd l else x :: dd l
theorem Inv.drawn {X : Cx} {pins : List (Addr × Obj)} {σ : List (Option V)} {H : Hp} {s : Shared} {d} (I : Inv X pins σ H s) : Inv X pins σ H { s with drawn := d } := ⟨I.ok, I.os, I.bare, I.base, I.loc, I.cell, I.free, I.freeC, I.pin, I.hok, I.len⟩
section
variable {X : Cx}
end
namespace MP
section
variable {K : PySem.W.Frag} {C : Cg} {P : Program} {w : World} {ta : TE} {f : Fn (List PV)}
end
end MP
end L2

namespace L2.MP
open PySem PySem.Spec PyProof.Rows

structure Mine (X : Cx) (pins : List (Addr × Obj)) (b : Addr) : Prop where
  sz : X.s₀.heap.objs.size ≤ b
  loc : b ≠ X.env.locals
  cl : ∀ x c, X.env.cells.lookup x = some c → c ≠ b
  pn : ∀ p ∈ X.pn ++ pins, p.1 ≠ b
structure Fly (X : Cx) (pins : List (Addr × Obj)) (H : Hp) (h : Heap) (e : Addr) (C : Value) (d : Option Addr) : Prop where
  own : Mine X pins e
  nh : H e = none
  ob : ∃ oe vs, h.get? e = some oe ∧ oe.cls = C ∧ oe.dict = d ∧ oe.slots = #[] ∧ oe.data = .fields vs ∧ 1 < vs.size ∧
    (vs[1]? = some .none ∨ ∃ T oT ts, vs[1]? = some (.ref T) ∧ T ≠ e ∧ Mine X pins T ∧ H T = none ∧ h.get? T = some oT ∧ oT.data = .fields ts ∧ 3 < ts.size)
noncomputable def Noted (h : Heap) (e : Addr) : Prop := ∃ oe vs T, h.get? e = some oe ∧ oe.data = .fields vs ∧ vs[1]? = some (.ref T)

section
variable {X : Cx} {pins : List (Addr × Obj)} {σ : St} {H : Hp} {s : Shared} {e : Addr} {C : Value} {d : Option Addr}
theorem mine_new (I : Inv X pins σ H s) {b : Addr} (h : s.heap.objs.size ≤ b) : Mine X pins b where
  sz := Nat.le_trans I.sz h
  loc := fun z => by have := I.lt; rw [← z] at this; exact absurd (Nat.lt_of_lt_of_le this h) (Nat.lt_irrefl _)
  cl := fun x c q z => by
    obtain ⟨v, o, ho, _⟩ := I.cell x c q
    have := Heap.lt_size ho
    rw [z] at this; exact absurd (Nat.lt_of_lt_of_le this h) (Nat.lt_irrefl _)
  pn := fun p hp z => by
    have := Heap.lt_size (I.pin p hp).1
    rw [z] at this; exact absurd (Nat.lt_of_lt_of_le this h) (Nat.lt_irrefl _)
theorem Mine.ch (m : Mine X pins e) : (e ∈ X.ex ∨ X.s₀.heap.objs.size ≤ e) ∧ e ≠ X.env.locals ∧ (∀ x c, X.env.cells.lookup x = some c → c ≠ e) ∧ ∀ p ∈ X.pn ++ pins, p.1 ≠ e := ⟨.inr m.sz, m.loc, m.cl, m.pn⟩
theorem Mine.nofr (I : Inv X pins σ H s) (m : Mine X pins e) : e ∉ frs X.stack := fun hb => by
  rcases List.mem_cons.mp (I.stkSub e hb) with z | z
  · exact m.loc z
  · obtain ⟨_, o, ho, _⟩ := I.ok.funs.mem z
    exact absurd (Nat.lt_of_lt_of_le (Heap.lt_size ho) m.sz) (Nat.lt_irrefl _)

theorem Inv.rec1 (I : Inv X pins σ H s) {h' : Heap} (m : Mine X pins e) (nh : H e = none) (k : ∀ b o, b ≠ e → s.heap.get? b = some o → h'.get? b = some o) : Inv X pins σ H { s with heap := h' } := by
  refine I.call (g' := s.gens) (d' := s.drawn) (t' := s.toks) (ch := [e]) ⟨fun b o q _ _ hc => k b o (fun z => hc (by simp [z])) q, fun b o q _ _ hc => ⟨o.slots, k b o (fun z => hc (by simp [z])) q⟩, fun _ _ _ n _ => n, fun b o q hc => ⟨o, k b o (fun z => hc (by simp [z])) q⟩, fun _ _ q => q, fun _ _ _ q => q, fun b ps q => ⟨#[], by rw [q]; simp⟩⟩ ?_ I.bare fun b hb => ?_
  · intro b u q
    refine (I.hok b u q).stay (fun c v hc z => k c v ?_ z) (fun _ z => z) fun _ _ z => z
    rcases hc with z | z
    · rw [z]; intro y; rw [y, nh] at q; cases q
    · intro y; rw [y, nh] at z; cases z
  · obtain rfl : b = e := by simpa using hb
    exact m.ch

variable {M : Model} {E' : Value → Shared → Prop}
theorem new_entry {Q : Unit → Shared → Prop} {head : Value} {hadNext : Bool} (I : Inv X pins σ H s) (hs : X.stack = X.env :: X.outer) (hf : X.env.frame = some X.env.locals) (m : Mine X pins e) (nh : H e = none)
    {oe : Obj} {vs : Array Value} (he : s.heap.get? e = some oe) (hc : oe.cls = C) (hdd : oe.dict = d) (hsl : oe.slots = #[]) (hd : oe.data = .fields vs) (hsz : 1 < vs.size)
    (k : ∀ s', Inv X pins σ H s' → Fly X pins H s'.heap e C d → Noted s'.heap e → Q () s') :
    wpAny M X.A (do let a ← frameOf X.env; let pl ← entryPlaceOf X.env.locals hadNext; let b ← EntryCells.newEntry head a .none (rawInt X.env.locals) .none pl; setField (.ref e) 1 b) Q E' s := by
  have hfr : X.A.frames = some (X.env :: X.outer) := by rw [← hs]; exact I.ok.frames
  have hl : s.heap.FunFrames X.base (X.env :: X.outer) := by rw [← hs]; exact I.stack
  have hfe : (X.env :: X.outer).filterMap (·.frame) = frs X.stack := by rw [hs]; rfl
  refine wpAny_bind (wpAny_frameOf_fun hfr hl hf fun h₁ hs₁ => ?_)
  rw [hfe] at hs₁
  refine wpAny_bind (wpAny_entryPlaceOf fun pl hpl => ?_)
  unfold EntryCells.newEntry newFields
  refine wpAny_bind (wpAny_newObj_type ?_ (hpl.sizeOk5 _ _ _ _ _))
  have nf := m.nofr I
  have he₁ : h₁.get? e = some oe := (hs₁.2.1 e nf).trans he
  have he₂ := Heap.get?_push_of_some (h := h₁) { cls := .type "traceback", dict := none, data := .fields ([head, .ref X.env.locals, .none, rawInt X.env.locals, .none] ++ (if pl.isEmpty then List.replicate 6 Value.none else pl)).toArray } he₁
  refine wpAny_setField he₂ hd hsz ?_
  have hTe : h₁.objs.size ≠ e := Nat.ne_of_gt (Heap.lt_size he₁)
  have hd₃ := Obj.data_mapFields hd (·.setIfInBounds 1 (Value.ref h₁.objs.size))
  have he₃ := Heap.get?_update_self (Obj.mapFields (·.setIfInBounds 1 (Value.ref h₁.objs.size))) he₂ (Obj.isFreed_of_fields hd₃)
  have hT₃ := (Heap.get?_update_other (h₁.push { cls := .type "traceback", dict := none, data := .fields ([head, .ref X.env.locals, .none, rawInt X.env.locals, .none] ++ (if pl.isEmpty then List.replicate 6 Value.none else pl)).toArray })
    (Obj.mapFields (·.setIfInBounds 1 (Value.ref h₁.objs.size))) (Ne.symm hTe)).trans (Heap.get?_push_size h₁ rfl)
  have keep : ∀ b o, b ≠ e → h₁.get? b = some o → ((h₁.push { cls := .type "traceback", dict := none, data := .fields ([head, .ref X.env.locals, .none, rawInt X.env.locals, .none] ++ (if pl.isEmpty then List.replicate 6 Value.none else pl)).toArray }).update e (Obj.mapFields (·.setIfInBounds 1 (Value.ref h₁.objs.size)))).get? b = some o := fun b o hbe hb => by
    rw [Heap.get?_update_other _ _ (Ne.symm hbe)]
    exact Heap.get?_push_of_some _ hb
  have J : ∀ h' : Heap, (∀ b o, b ≠ e → h₁.get? b = some o → h'.get? b = some o) → Inv X pins σ H { s with heap := h' } := fun h' keep => by
    refine I.call (g' := s.gens) (d' := s.drawn) (t' := s.toks) (ch := [e]) ⟨fun b o q _ hb hc => keep b o (fun z => hc (by simp [z])) ((hs₁.2.1 b hb).trans q), fun b o q _ _ hc => ?_, fun _ _ _ n _ => n, fun b o q hc => ?_, fun _ _ q => q, fun _ _ _ q => q, fun b ps q => ⟨#[], by rw [q]; simp⟩⟩ ?_ I.bare fun b hb => ?_
    · obtain ⟨sl, z⟩ := hs₁.2.2 b o q
      exact ⟨sl, keep b _ (fun z => hc (by simp [z])) z⟩
    · obtain ⟨sl, z⟩ := hs₁.2.2 b o q
      exact ⟨_, keep b _ (fun z => hc (by simp [z])) z⟩
    · intro b u q
      refine (I.hok b u q).stay (fun c v hc z => keep c v ?_ ((hs₁.2.1 c ?_).trans z)) (fun _ z => z) fun _ _ z => z
      · rcases hc with y | y
        · rw [y]; intro y; rw [y, nh] at q; cases q
        · intro z; rw [z, nh] at y; cases y
      · intro hm
        have n := I.stkFree c hm
        rcases hc with y | y
        · rw [← y, n] at q; cases q
        · rw [n] at y; cases y
    · obtain rfl : b = e := by simpa using hb
      exact m.ch
  have mT : Mine X pins h₁.objs.size := mine_new I (by rw [hs₁.1]; exact Nat.le_refl _)
  have nT : H h₁.objs.size = none := I.hok.fresh (by rw [hs₁.1]; exact Nat.le_refl _)
  refine k _ ?_ ⟨m, nh, _, _, he₃, ?_, ?_, ?_, hd₃, by simpa using hsz, .inr ⟨h₁.objs.size, _, _, by simp [hsz], hTe, mT, nT, hT₃, rfl, ?_⟩⟩ ⟨_, _, h₁.objs.size, he₃, hd₃, by simp [hsz]⟩
  · exact J _ keep
  · rw [Obj.cls_mapFields]; exact hc
  · obtain ⟨c, dd, dt, sl⟩ := oe; cases dt <;> first | exact hdd | cases hd
  · obtain ⟨c, dd, dt, sl⟩ := oe; cases dt <;> first | exact hsl | cases hd
  · simp only [List.size_toArray, List.length_append, List.length_cons, List.length_nil]; omega

theorem note_fly {Q : Unit → Shared → Prop} (I : Inv X pins σ H s) (hs : X.stack = X.env :: X.outer) (hf : X.env.frame = some X.env.locals) (fl : Fly X pins H s.heap e C d)
    (k : ∀ s', Inv X pins σ H s' → Fly X pins H s'.heap e C d → Noted s'.heap e → Q () s') : wpAny M X.A (noteFrame (.ref e) X.env) Q E' s := by
  obtain ⟨m, nh, oe, vs, he, hc, hdd, hsl, hd, hsz, h1⟩ := id fl
  unfold noteFrame
  simp only [hf]
  rcases h1 with h1 | ⟨T, oT, ts, h1, hTe, mT, nT, hT, hdT, h3⟩
  · refine wpAny_bind (wpAny_field he hd h1 ?_)
    rw [if_neg (by decide)]
    exact new_entry I hs hf m nh he hc hdd hsl hd hsz k
  · refine wpAny_bind (wpAny_field he hd h1 ?_)
    rw [if_pos (show (Value.ref T != Value.none) = true from by simp)]
    have h3' : ts[3]? = some ts[3] := by simp [h3]
    refine wpAny_bind (wpAny_field hT hdT h3' ?_)
    by_cases hz : (ts[3] == rawInt X.env.locals) = true
    · rw [if_pos hz]
      exact wpAny_pure (k s I fl ⟨oe, vs, T, he, hd, h1⟩)
    · rw [if_neg hz]
      refine wpAny_bind (wpAny_setField hT hdT h3 ?_)
      have other : ∀ b, b ≠ T → (s.heap.update T (Obj.mapFields (·.setIfInBounds 3 Value.none))).get? b = s.heap.get? b := fun b hb => Heap.get?_update_other _ _ (Ne.symm hb)
      have I1 := Inv.rec1 I mT nT (h' := s.heap.update T (Obj.mapFields (·.setIfInBounds 3 Value.none))) fun b o hb q => (other b hb).trans q
      exact new_entry I1 hs hf m nh ((other e (Ne.symm hTe)).trans he) hc hdd hsl hd hsz k

theorem flight_fly {Q : Unit → Shared → Prop} {fr : Option Addr} (I : Inv X pins σ H s) (fl : Fly X pins H s.heap e C d)
    (k : ∀ s', Inv X pins σ H s' → Fly X pins H s'.heap e C d → Q () s') {A : Around} : wpAny M A (setFlight (.ref e) fr) Q E' s := by
  obtain ⟨m, nh, oe, vs, he, hc, hdd, hsl, hd, hsz, h1⟩ := id fl
  unfold setFlight
  rcases h1 with h1 | ⟨T, oT, ts, h1, hTe, mT, nT, hT, hdT, h3⟩
  · refine wpAny_bind (wpAny_field he hd h1 ?_)
    rw [if_neg (by decide)]
    exact wpAny_pure (k s I fl)
  · refine wpAny_bind (wpAny_field he hd h1 ?_)
    rw [if_pos (show (Value.ref T != Value.none) = true from by simp)]
    refine wpAny_setField hT hdT h3 ?_
    have hd₃ := Obj.data_mapFields hdT (·.setIfInBounds 3 (fr.elim Value.none fun f => rawInt f))
    have other : ∀ b, b ≠ T → (s.heap.update T (Obj.mapFields (·.setIfInBounds 3 (fr.elim Value.none fun f => rawInt f)))).get? b = s.heap.get? b := fun b hb => Heap.get?_update_other _ _ (Ne.symm hb)
    refine k _ (Inv.rec1 I mT nT fun b o hb q => (other b hb).trans q) ⟨m, nh, oe, vs, (other e (Ne.symm hTe)).trans he, hc, hdd, hsl, hd, hsz, .inr ⟨T, _, _, h1, hTe, mT, nT, Heap.get?_update_self _ hT (Obj.isFreed_of_fields hd₃), hd₃, by simpa using h3⟩⟩
end
end L2.MP

namespace L2.MP
open PySem PySem.Spec PyProof.Rows
noncomputable def FlS (X : Cx) (pins : List (Addr × Obj)) (σ : St) (E : XK) (ev : Value) (s' : Shared) : Prop := ∃ e C d H', ev = .ref e ∧ Inv X pins σ H' s' ∧ Fly X pins H' s'.heap e C d ∧ E C d H'
noncomputable def FlX (X : Cx) (E : XK) (ev : Value) (s' : Shared) : Prop := ∃ pins σ, FlS X pins σ E ev s'
structure Away (n : Nat) (H : Hp) (h : Heap) (e : Addr) (C : Value) (d : Option Addr) : Prop where
  sz : n ≤ e
  nh : H e = none
  ob : ∃ oe vs, h.get? e = some oe ∧ oe.cls = C ∧ oe.dict = d ∧ oe.slots = #[] ∧ oe.data = .fields vs ∧ 1 < vs.size ∧
    (vs[1]? = some .none ∨ ∃ T oT ts, vs[1]? = some (.ref T) ∧ T ≠ e ∧ n ≤ T ∧ H T = none ∧ h.get? T = some oT ∧ oT.data = .fields ts ∧ 3 < ts.size)
noncomputable def CXS (P : Program) (w : World) : CXT := fun outer H s E ev s' => ∃ e C d H', ev = .ref e ∧ s'.os = s.os ∧ AllBare s'.gens ∧ Un (frs outer) [] H H' s.heap s'.heap ∧ HOk P w H' s'.heap ∧ Away s.heap.objs.size H' s'.heap e C d ∧ E C d H'
theorem CXS.no {P : Program} {w : World} {o : List Env} {H : Hp} {s s' : Shared} {e : Value} (h : CXS P w o H s (fun _ _ _ => False) e s') : False := by
  obtain ⟨_, _, _, _, _, _, _, _, _, _, z⟩ := h
  exact z
section
variable {X : Cx} {pins : List (Addr × Obj)} {σ : St} {H : Hp} {s s' : Shared} {E : XK} {ev : Value}
theorem FlS.of_call (I : Inv X pins σ H s) (h : CXS X.prog X.w X.stack H s E ev s') : FlS X pins σ E ev s' := by
  obtain ⟨e, C, d, H', rfl, os, bare, un, hok, ⟨sz, nh, oe, vs, he, hc, hdd, hsl, hd, hsz, h1⟩, hE⟩ := h
  refine ⟨e, C, d, H', rfl, I.call' (ch := []) os un hok bare (fun b z => absurd z (by simp)), ⟨mine_new I sz, nh, oe, vs, he, hc, hdd, hsl, hd, hsz, ?_⟩, hE⟩
  rcases h1 with h1 | ⟨T, oT, ts, h1, a, b, c⟩
  · exact .inl h1
  · exact .inr ⟨T, oT, ts, h1, a, mine_new I b, c⟩
theorem passOwnX {M : Model} (hs : X.stack = X.env :: X.outer) (hf : X.env.frame = some X.env.locals) : PassesOwn M X.A X.env (FlX X E) := by
  rintro ev s' ⟨pins, σ, e, C, d, H', rfl, I, fl, hE⟩
  refine note_fly I hs hf fl fun s1 I1 f1 n1 => ?_
  obtain ⟨oe, vs, T, he, hd, h1⟩ := n1
  refine wpAny_bind (wpAny_field he hd h1 ?_)
  rw [if_neg (by simp)]
  refine flight_fly I1 f1 fun s2 I2 f2 => ?_
  exact ⟨pins, σ, e, C, d, H', rfl, I2, f2, hE⟩
end
section
variable {P : Program} {w : World} {K : PySem.W.Frag} {mg : Str → Option Value} {base : Heap}
theorem leaves {N : List Str} {q : Str} {sc : Scope} {f : Addr} {cd : Value} {A : Around} {o : List Env} {s : Shared} {H : Hp} {E : XK} {ev : Value} {s' : Shared}
    (h : FlX (cxOf (CXS P w) P w K mg base N q sc f cd A o s H E) E ev s') : (cxOf (CXS P w) P w K mg base N q sc f cd A o s H E).xe ev s' := by
  obtain ⟨pins, σ, e, C, d, H', rfl, I, fl, hE⟩ := h
  show wpAny _ _ (leaving _ _) _ _ _
  unfold leaving
  refine wpAny_bind (note_fly I rfl rfl fl fun s1 I1 f1 n1 => ?_)
  refine flight_fly I1 f1 fun s2 I2 f2 => ?_
  obtain ⟨m, nh, oe, vs, he, hc, hdd, hsl, hd, hsz, h1⟩ := f2
  refine ⟨e, C, d, H', rfl, I2.os, I2.bare, I2.base, I2.hok, ⟨m.sz, nh, oe, vs, he, hc, hdd, hsl, hd, hsz, ?_⟩, hE⟩
  rcases h1 with h1 | ⟨T, oT, ts, h1, a, b, c⟩
  · exact .inl h1
  · exact .inr ⟨T, oT, ts, h1, a, b.sz, c⟩
theorem PSs.ofX {X : Cx} {E : Value → Shared → Prop} {st : List Stmt} {t : TS} (k : ∀ e s', E e s' → X.xe e s') (h : PSs (X.wish E) st t) : PSs X st t := fun pins s σ H D I hw =>
  wpAny_mono (h pins s σ H D (I.wish _) hw) (fun _ _ q => q.unwish) fun e s' z => k e s' z
noncomputable def FnAtX (P : Program) (w : World) (K : PySem.W.Frag) (mg : Str → Option Value) (base : Heap) (x : Str) (k : Nat) (ps : List Str) (sp : Sp) : Prop :=
  ∃ (f : Addr) (fd : FuncData), mg x = some (.ref f) ∧ PySem.W.keepIn K (.ref f) = true ∧ Binds K fd ps [] ∧ FnOk P w K mg base (CXS P w) k f fd ps sp
noncomputable abbrev cxX (P : Program) (w : World) (K : PySem.W.Frag) (mg : Str → Option Value) (base : Heap) (N : List Str) (x : Str) (sc : Scope) (f : Addr) (cdv : Value) (A : Around) (outer : List Env) (s : Shared) (H : Hp) (E : XK) : Cx :=
  (cxOf (CXS P w) P w K mg base N x sc f cdv A outer s H E).wish (FlX (cxOf (CXS P w) P w K mg base N x sc f cdv A outer s H E) E)
theorem own_cxX {M : Model} {N : List Str} {x : Str} {sc : Scope} {f : Addr} {cdv : Value} {A : Around} {outer : List Env} {s : Shared} {H : Hp} {E : XK} :
    PassesOwn M (cxX P w K mg base N x sc f cdv A outer s H E).A (cxX P w K mg base N x sc f cdv A outer s H E).env (cxX P w K mg base N x sc f cdv A outer s H E).xe :=
  passOwnX (X := cxOf (CXS P w) P w K mg base N x sc f cdv A outer s H E) rfl rfl
end
end L2.MP

namespace L2.MP
open PySem PySem.Spec PyProof.Rows PySem.Calls Builtin Builtin.ObjectAttr

noncomputable abbrev xobj (C t : Addr) (dx : Option Addr) : Obj := { cls := .ref C, dict := dx, data := .fields #[.ref t, .none, .none, .none, .bool false, .none] }
section
variable {h : Heap} {g : Array GenState} {d : Drawn} {t : Nat} {os : OsState}
variable {nm q : Str} {C N f : Addr} {bs bm : List Value} {hdct : Bool} {sn : List Str} {sub : List Value} {ab : Bool} {col : Option Bool} {dd : Option Addr} {k0 k1 k2 k3 k5 : Option Value}

theorem check_newX {M : Model} {A : Around} {E : Value → Shared → Prop} (hV : bm.contains (.type "ValueError") = true) {rest : List Value} {Q : Unit → Shared → Prop}
    (hC : h.get? C = some (excClassObj nm q C N bs bm hdct sn sub ab col dd k0 k1 k2 k3 k5 "ValueError.__new__")) (hq : Q () ⟨h, g, d, t, os⟩) :
    wpAny M A (checkBuiltinCall "ValueError.__new__" ⟨.ref C :: rest, []⟩) Q E ⟨h, g, d, t, os⟩ := by
  have Fn := PySem.F.excBase_ValueError
  have hcont : (Value.ref C :: bm).contains (.type "ValueError") = true := by rw [List.contains_cons, hV, Bool.or_true]
  have hstar := Fn.noStar
  simp only [checkBuiltinCall, Fn.newKind, Fn.newSplit, Fn.newRow]
  repeat (first | refine wpAny_loadPart_at hC ?_ | (refine wpAny_isSubtype_exc hC ?_; rw [hcont]) | refine wpAny_staticBase_exc hC ?_ | refine wpAny_madeBy_exc hC ?_ | simp only [bne_self_eq_false, Bool.false_eq_true, if_false] | wp_step)
  exact hq

variable {prog : Program} {w : World} {A : Around} {R : Result → Shared → Prop} {K : PySem.W.Frag}
theorem newX (hV : bm.contains (.type "ValueError") = true) (hA : bm.contains (.type "AttributeError") = false) (hN : bm.contains (.type "NameError") = false) {rest : List Value}
    (hC : h.get? C = some (excClassObj nm q C N bs bm hdct sn sub ab col dd k0 k1 k2 k3 k5 "ValueError.__new__"))
    (hq : R (.ok (.ret (.ref (h.objs.size + 1)))) ⟨(h.push { cls := .type "tuple", data := .seq rest.toArray }).push (xobj C h.objs.size none), g, d, t, os⟩) (hrest : rest.length ≤ sizeLine) :
    codeAny (model prog w) A (.builtin "ValueError.__new__" ⟨.ref C :: rest, []⟩) R ⟨h, g, d, t, os⟩ := by
  have Fn := PySem.F.excBase_ValueError
  have hends := Fn.ends
  have hcB : (Value.ref C :: bm).contains (.type "ValueError") = true := by rw [List.contains_cons, hV, Bool.or_true]
  have hcA : (Value.ref C :: bm).contains (.type "AttributeError") = false := by rw [List.contains_cons, hA]; rfl
  have hcN : (Value.ref C :: bm).contains (.type "NameError") = false := by rw [List.contains_cons, hN]; rfl
  refine codeAny_builtinAt Fn.entry ?_
  unfold Builtin.«BaseException.__new__»
  refine PySem.wpAt_bind ?_
  show PySem.wpAt _ _ _ (stack >>= _) _ _ _
  refine PySem.wpAt_bind (PySem.wpAt_stack fun p below => PySem.wpAt_of_wpAny ?_)
  wp_walk
  refine PySem.wpAt_of_wpAny ?_
  rw [Fn.owner]
  repeat (first | with_reducible refine wpAny_madeHere_exc Fn.canon hC ?_ | with_reducible refine wpAny_loadPart_at hC ?_ | (with_reducible refine wpAny_isSubtype_exc hC ?_; first | rw [hcB] | rw [hcA] | rw [hcN]) | wp_step)
  show R _ _
  rw [Heap.size_push]
  exact hq

theorem make_exc {rest : List Value} (X : K.In h) (hV : bm.contains (.type "ValueError") = true) (hA : bm.contains (.type "AttributeError") = false) (hN : bm.contains (.type "NameError") = false)
    (hC : h.get? C = some (excClassObj nm q C N bs bm hdct sn sub ab col dd k0 k1 k2 k3 k5 "ValueError.__new__"))
    (hi : PySem.W.findIn K (.ref C) "__init__" = some (some (.ref f))) (hf : PySem.W.typeIn K (.ref f) = some (.type "function")) (hrest : rest.length ≤ sizeLine)
    (hq : codeAny (model prog w) (A.under (.builtin "type.__call__" ⟨.ref C :: rest, []⟩)) (.call (.ref f) ⟨.ref (h.objs.size + 1) :: rest, []⟩) (PySem.W.InitBack (h.objs.size + 1) R)
      ⟨(h.push { cls := .type "tuple", data := .seq rest.toArray }).push (xobj C h.objs.size none), g, d, t, os⟩) :
    codeAny (model prog w) A (.call (.ref C) ⟨rest, []⟩) R ⟨h, g, d, t, os⟩ := by
  have f1 := tc_lookup
  have f2 := tc_bind (.ref C)
  have Fn := PySem.F.excBase_ValueError
  have hT : (⟨h, g, d, t, os⟩ : Shared).TypeIs (.ref C) "type" := ⟨_, hC, rfl⟩
  refine codeAny_of_tree ?_
  show wpAny _ _ (callAny (.ref C) _) _ _ _
  repeat (any_goals (first | assumption | with_reducible refine wpAny_loadPart_at hC ?_ | wp_step))
  refine ⟨rfl, ?_⟩
  refine codeAny_call_builtin_at (Code.quiet_builtin _ (by decide +kernel)) entry_typeCall (wpAny_check_type_call_sub hC ?_)
  repeat (first | with_reducible refine wpAny_loadPart_at hC ?_ | with_reducible refine wpAny_madeBy_exc hC ?_ | wp_step)
  refine codeAny_call_builtin_code (Code.quiet_builtin _ Fn.quiet) (check_newX hV hC ?_)
  refine newX hV hA hN hC ?_ hrest
  show wpAny _ _ _ _ _ _
  have k : ∀ b o, h.get? b = some o → ((h.push { cls := .type "tuple", data := .seq rest.toArray }).push (xobj C h.objs.size none)).get? b = some o := fun b o e => Heap.get?_push_of_some _ (Heap.get?_push_of_some _ e)
  have hC₁ := k _ _ hC
  have hget : ((h.push { cls := .type "tuple", data := .seq rest.toArray }).push (xobj C h.objs.size none)).get? (h.objs.size + 1) = some (xobj C h.objs.size none) := by heap_get
  have hcC : (Value.ref C :: bm).contains (.ref C) = true := by simp
  unfold isInstance
  repeat (first | with_reducible refine wpAny_loadPart_at hget ?_ | wp_step)
  show wpAny _ _ (isSubtype (.ref C) (.ref C)) _ _ _
  refine wpAny_isSubtype_exc hC₁ ?_
  rw [hcC]
  repeat wp_step
  show wpAny _ _ (typeLookup (.ref C) _) _ _ _
  refine ((PySem.W.looks_findIn X hi).keeps k).at ?_
  refine wpAny_holding (wpAny_bind (((PySem.W.bind_fn X (.ref (h.objs.size + 1)) hf).keeps k).at ?_))
  refine wpAny_bind (wpAny_call (codeAny_mono hq fun r s' z => ?_))
  rcases r with e | (v | _ | _ | _) <;> first | exact z | exact z.elim | skip
  obtain ⟨rfl, z⟩ := z
  exact wpAny_pure (wpAny_pure z)
end
end L2.MP

namespace L2.MP
open PySem PySem.Spec PyProof.Rows PySem.Calls Builtin Builtin.ObjectAttr

noncomputable abbrev veTail : List Value := [.type "ValueError", .type "Exception", .type "BaseException", .type "object"]
noncomputable def onlyVE : List Value → Bool
  | .ref _ :: r => onlyVE r
  | l => l == veTail
theorem refuse_VE (self : Value) : ∀ (l : List Value), onlyVE l = true → refuseLoop self "__setattr__" l = pure ()
  | l, e => by
    unfold onlyVE at e
    split at e
    · rw [refuseLoop_ref]; exact refuse_VE self _ e
    · rw [beq_iff_eq.mp e]; exact PySem.F.store_ValueError.passes self
termination_by l => l.length
theorem ve_has {x : Value} (hx : veTail.contains x = true) : ∀ (l : List Value), onlyVE l = true → l.contains x = true
  | l, e => by
    unfold onlyVE at e
    split at e
    · rw [List.contains_cons, ve_has hx _ e, Bool.or_true]
    · rw [beq_iff_eq.mp e]; exact hx
termination_by l => l.length
theorem ve_not {n : String} (hx : veTail.contains (.type n) = false) : ∀ (l : List Value), onlyVE l = true → l.contains (.type n) = false
  | l, e => by
    unfold onlyVE at e
    split at e
    · rw [List.contains_cons, ve_not hx _ e]; rfl
    · rw [beq_iff_eq.mp e]; exact hx
termination_by l => l.length
theorem ve_ne {l : List Value} (e : onlyVE l = true) : l.isEmpty = false := by
  cases l with
  | nil => exact absurd e (by decide)
  | cons _ _ => rfl
structure XCls (K : PySem.W.Frag) (C : Addr) (cd : ClassData) : Prop where
  at_ : PySem.W.clsIn K C = some cd
  ve : onlyVE cd.mro = true
  hd : cd.hasDict = true
  sa : PySem.W.findIn K (.ref C) "__setattr__" = some (some (.builtin "object.__setattr__"))

section
variable {prog : Program} {w : World} {A : Around} {K : PySem.W.Frag} {C x : Addr} {s : Shared} {cd : ClassData} {E : Value → Shared → Prop}
theorem osa_exc {R : Result → Shared → Prop} {ox : Obj} {od : Option Obj} {name : Str} {tk : Tok} {v : Value} (X : K.In s.heap) (I : PySem.W.InstAt s.heap x ox C od) (Y : XCls K C cd) (ht : PySem.W.findIn K (.ref C) name = some none)
    (h : ∀ b, wpAny (model prog w) A.in1 (storeInOwnDict (.ref x) (.ref C) (.str name tk) name v b)
      (fun fin s' => match fin with | .done f => R (.ok f) s' | .again c' => c'.quiet = true ∧ codeAny (model prog w) A c' R s') (fun e s' => R (.error e) s') s) :
    codeAny (model prog w) A (.call (.builtin "object.__setattr__") ⟨[.ref x, .str name tk, v], []⟩) R s := by
  have SF := PySem.F.store_object
  have hc := Y.at_
  have ne := ve_ne Y.ve
  have sub : PySem.W.Looks (model prog w) s.heap (isInstance (.ref x) (.type "object")) true := I.type.andThen (PySem.W.looks_mroIn X (by unfold PySem.W.mroIn; rw [hc, Option.bind_some, if_neg (by rw [ne]; decide), ve_has (by decide) _ Y.ve]))
  refine codeAny_call_builtin SF.slot.plain SF.entry (@PySem.W.check_slot (model prog w) _ _ s "object.__setattr__" "object" "__setattr__" (.ref x) [.str name tk, v] [] _ SF.kind SF.split sub (SF.args (.ref x) (.str name tk) v) ?_)
  have hm : PySem.W.Looks (model prog w) s.heap (mroOf (.ref C)) cd.mro := (PySem.W.looks_clsIn X hc).andThen .now
  have L3 : PySem.W.Looks (model prog w) s.heap (storeTaker? none) none := .now
  rw [PySem.W.osa_eq, refuse_eq]
  refine wpAny_bind (wpAny_bind (I.type.here (wpAny_bind (hm.here ?_))))
  rw [refuse_VE _ _ Y.ve]
  refine wpAny_pure (wpAny_bind (I.type.here (wpAny_bind ((PySem.W.looks_findIn X ht).here (wpAny_bind (L3.here ?_))))))
  exact h _
theorem set_excN {name : Str} {v : Value} {Q : Unit → Shared → Prop} {vs : Array Value} (X : K.In s.heap) (Y : XCls K C cd) (ht : PySem.W.findIn K (.ref C) name = some none)
    (hx : s.heap.get? x = some { cls := .ref C, data := .fields vs })
    (h : ∀ h' dx, dx = s.heap.objs.size → h'.get? x = some { cls := .ref C, dict := some dx, data := .fields vs } → h'.Ns1 dx (fun y => if y = name then some v else none) →
      (∀ b o, b ≠ x → s.heap.get? b = some o → h'.get? b = some o) → Q () { s with heap := h', toks := s.toks + 2 }) :
    wpAny (model prog w) A (setAttr (.ref x) name v) Q E s := by
  have I : PySem.W.InstAt s.heap x { cls := .ref C, data := .fields vs } C none := ⟨hx, rfl, rfl, trivial⟩
  refine PySem.W.set_plain X I Y.sa (osa_exc (s := { s with toks := s.toks + 1 }) X I Y ht fun b => ?_)
  refine wpAny_bind (wpAny_pure (wpAny_bind (wpAny_bind (wpAny_loadPart hx (wpAny_bind (PySem.W.Looks.here (s := { s with toks := s.toks + 1 }) (PySem.W.looks_clsIn X Y.at_) ?_))))))
  rw [Y.hd]
  show wpAny (model prog w) A.in1 (alloc { cls := .type "dict", data := .dict #[] } >>= fun dx => update x (fun o => { cls := o.cls, dict := some dx, data := o.data, slots := o.slots }) >>= fun _ => dictMade (.ref C) x dx) _ _ _
  have hx₁ : (s.heap.push { cls := .type "dict", data := .dict #[] }).get? x = some { cls := .ref C, data := .fields vs } := Heap.get?_push_of_some _ hx
  have hxs : x ≠ s.heap.objs.size := Nat.ne_of_lt (Heap.lt_size hx)
  refine wpAny_bind (wpAny_alloc ?_)
  refine wpAny_bind (wpAny_update hx₁ ?_)
  refine wpAny_pure (a := some s.heap.objs.size) ?_
  have hgd : ((s.heap.push { cls := .type "dict", data := .dict #[] }).update x fun o => { cls := o.cls, dict := some s.heap.objs.size, data := o.data, slots := o.slots }).get? s.heap.objs.size
      = some { cls := .type "dict", data := .dict #[] } :=
    (Heap.get?_update_ne _ _ _ _ hxs.symm).trans (Heap.get?_push_at rfl rfl)
  have hnd : ((s.heap.push { cls := .type "dict", data := .dict #[] }).update x fun o => { cls := o.cls, dict := some s.heap.objs.size, data := o.data, slots := o.slots }).Ns s.heap.objs.size (fun _ => none) :=
    ⟨_, #[], _, hgd, rfl, fun e he => absurd he (by simp), fun _ => rfl⟩
  show wpAny _ _ (storeInDict s.heap.objs.size (.str name s.toks) name v) _ _ _
  unfold storeInDict newKeyGuard
  refine wpAny_bind (wpAny_pure (wpAny_bind (wpAny_nsSet1 (s := ⟨_, _, _, _, _⟩) (Heap.Ns1.of_empty hnd) fun h' hn' hs => ?_)))
  obtain ⟨oD, esD, epD, hoD, hdD, hcD⟩ := hn'.count (PySem.Within.cons name v PySem.Within.nil)
  refine wpAny_bind (wpAny_lookBehind hoD (by rw [hdD]; exact pastItsLine_dict (Nat.le_trans hcD (by rw [List.length_cons, List.length_nil, sizeLine_eq]; omega))) ?_)
  refine wpAny_pure (h h' _ rfl ((hs.2 x hxs).trans (Heap.get?_update_self _ hx₁ rfl)) hn' fun b ob hbx hb => ?_)
  exact (hs.2 b (Nat.ne_of_lt (Heap.lt_size hb))).trans ((Heap.get?_update_ne _ _ _ _ hbx).trans (Heap.get?_push_of_some _ hb))
end
end L2.MP

namespace L2.MP
open PySem PySem.Spec PyProof.Rows

noncomputable def XN (e C : Addr) (d : Option Addr) : HO := .ext fun h => ∃ vs : Array Value, h.get? e = some { cls := .ref C, dict := d, data := .fields vs } ∧ 1 < vs.size ∧ vs[1]? = some .none
noncomputable def XD (dx : Addr) (fs : List (Str × V)) : HO := .ext fun h => fs.length ≤ 1000 ∧ ∃ mA, h.Ns1 dx mA ∧ (∀ f, RelO (fs.lookup f) (mA f)) ∧ PySem.Within mA (fs.map (·.1))

section
variable {P : Program} {w : World} {H : Hp} {h : Heap} {e C dx : Addr} {d : Option Addr} {fs : List (Str × V)}
theorem XN.mk {vs : Array Value} (a : h.get? e = some { cls := .ref C, dict := d, data := .fields vs }) (b : 1 < vs.size) (c : vs[1]? = some .none) : ObjOk P w H h e (XN e C d) :=
  ⟨⟨vs, a, b, c⟩, ⟨_, a⟩, fun _ _ ⟨vs, a, b, c⟩ k => ⟨vs, k _ a, b, c⟩⟩
theorem XO.mk {vs : Array Value} (a : h.get? e = some { cls := .ref C, dict := d, data := .fields vs }) : ObjOk P w H h e (XO e C d) :=
  ⟨⟨vs, a⟩, ⟨_, a⟩, fun _ _ ⟨vs, a⟩ k => ⟨vs, k _ a⟩⟩
theorem XD.mk {mA : Str → Option Value} (l : fs.length ≤ 1000) (n : h.Ns1 dx mA) (r : ∀ f, RelO (fs.lookup f) (mA f)) (wi : PySem.Within mA (fs.map (·.1))) : ObjOk P w H h dx (XD dx fs) :=
  ⟨⟨l, mA, n, r, wi⟩, let ⟨o, _, _, e', _⟩ := n; ⟨o, e'⟩, fun _ _ ⟨l, mA, n, r, wi⟩ k => ⟨l, mA, n.at k, r, wi⟩⟩
theorem XN.get (x : ObjOk P w H h e (XN e C d)) : ∃ vs : Array Value, h.get? e = some { cls := .ref C, dict := d, data := .fields vs } ∧ 1 < vs.size ∧ vs[1]? = some .none := x.1
theorem XO.get (x : ObjOk P w H h e (XO e C d)) : ∃ vs : Array Value, h.get? e = some { cls := .ref C, dict := d, data := .fields vs } := x.1
theorem XD.get (x : ObjOk P w H h dx (XD dx fs)) : fs.length ≤ 1000 ∧ ∃ mA, h.Ns1 dx mA ∧ (∀ f, RelO (fs.lookup f) (mA f)) ∧ PySem.Within mA (fs.map (·.1)) := x.1
end

structure XMk (K : PySem.W.Frag) (C f : Addr) (cd : ClassData) : Prop extends XCls K C cd where
  ob : ∃ nm q N bs bm sn sub ab col dd k0 k1 k2 k3 k5, K.lookup C = some (excClassObj nm q C N bs bm true sn sub ab col dd k0 k1 k2 k3 k5 "ValueError.__new__") ∧ cd.mro = .ref C :: bm
  init : PySem.W.findIn K (.ref C) "__init__" = some (some (.ref f))
  fn : PySem.W.typeIn K (.ref f) = some (.type "function")
  kp : PySem.W.keepIn K (.ref C) = true

section
variable {X : Cx} {pins : List (Addr × Obj)} {σ : St} {H : Hp} {s : Shared} {C f : Addr} {cd : ClassData} {fd : FuncData} {ps : List Str} {sp : Sp} {k : Nat} {x : Str} {p pos : Pos} {e : Expr} {es : List Expr} {t : TA} {Q : VK} {us : List Value} {vs : List V}
theorem run_makeXA {QA : Addr → Hp → Prop} (Y : XMk X.K C f cd) (F : FnOk X.prog X.w X.K X.mg X.base CX0 k f fd ps sp) (hr : Room (k + 1) X.A) (hb : Binds X.K fd ps []) (I : Inv X pins σ H s) (r : Vals vs us) (hz : vs.length ≤ sizeLine)
    (h : ∀ a, H a = none → sp (.ref a :: vs) (upd H a (XN a C none)) (fun v H2 => v = .non ∧ QA a H2) E0) :
    wpAny (model X.prog X.w) X.A (call (.ref C) us) (fun u s' => ∃ H', u = .ref (s.heap.objs.size + 1) ∧ Inv X pins σ H' s' ∧ QA (s.heap.objs.size + 1) H') X.xe s := by
  obtain ⟨nm, q, N, bs, bm, sn, sub, ab, col, dd, k0, k1, k2, k3, k5, hC, hm⟩ := Y.ob
  have ve : onlyVE bm = true := by have := Y.ve; rw [hm] at this; exact this
  have hq := h (s.heap.objs.size + 1) (I.hok.fresh (Nat.le_succ _))
  have k1' : ∀ b o, s.heap.get? b = some o → (s.heap.push { cls := .type "tuple", data := .seq us.toArray }).get? b = some o := fun b o e => Heap.get?_push_of_some _ e
  have I1 : Inv X pins σ H { s with heap := s.heap.push { cls := .type "tuple", data := .seq us.toArray } } := I.kept (t' := s.toks) k1'
  have hget : ((s.heap.push { cls := .type "tuple", data := .seq us.toArray }).push (xobj C s.heap.objs.size none)).get? (s.heap.objs.size + 1) = some (xobj C s.heap.objs.size none) := by
    have := Heap.get?_push_size (s.heap.push { cls := .type "tuple", data := .seq us.toArray }) (o := xobj C s.heap.objs.size none) rfl
    rwa [Heap.size_push] at this
  have I2 : Inv X pins σ (upd H (s.heap.objs.size + 1) (XN (s.heap.objs.size + 1) C none)) { s with heap := (s.heap.push { cls := .type "tuple", data := .seq us.toArray }).push (xobj C s.heap.objs.size none) } :=
    I1.laid (t' := s.toks) (fun b o e => Heap.get?_push_of_some _ e) (Nat.le_of_eq (Heap.size_push _ _)) (XN.mk hget (by simp) rfl)
  have r2 : Vals (V.ref (s.heap.objs.size + 1) :: vs) (Value.ref (s.heap.objs.size + 1) :: us) := .cons rfl r
  have hl : (Value.ref (s.heap.objs.size + 1) :: us ++ []).length = ps.length := by
    have e := r2.length
    rw [F.len _ _ _ _ hq] at e
    rw [List.append_nil]; exact e.symm
  have hbs := hb { s with heap := (s.heap.push { cls := .type "tuple", data := .seq us.toArray }).push (xobj C s.heap.objs.size none) } (Value.ref (s.heap.objs.size + 1) :: us) I2.kIn hl
  rw [List.append_nil] at hbs
  obtain ⟨hh, g, d, tk, os⟩ := s
  refine wpAny_call (make_exc (f := f) I.kIn (ve_has (by decide) _ ve) (ve_not (by decide) _ ve) (ve_not (by decide) _ ve) (I.kIn _ _ hC) Y.init Y.fn (by rw [← r.length]; exact hz)
    (codeAny_mono (F.run _ X.stack _ _ ⟨Value.ref (hh.objs.size + 1) :: us, []⟩ (Value.ref (hh.objs.size + 1) :: us) _ _ E0 (hr.make C us []) (I2.env0.make C us []) hbs r2 hq) fun r s' hq' => ?_))
  cases r with
  | error e => exact False.elim hq'
  | ok fl =>
    cases fl with
    | ret u =>
      obtain ⟨v, H', I3, rv, ev, q3⟩ := I2.after hq'
      subst ev
      exact ⟨rv, ⟨H', rfl, I3, q3⟩⟩
    | next => exact False.elim hq'
    | brk => exact False.elim hq'
    | cont => exact False.elim hq'
noncomputable def del (H : Hp) (a : Addr) : Hp := fun b => if b = a then none else H b
theorem del_same {H : Hp} {a : Addr} : del H a a = none := by unfold del; rw [if_pos rfl]
theorem del_ne {H : Hp} {a b : Addr} (h : b ≠ a) : del H a b = H b := by unfold del; rw [if_neg h]
theorem Inv.untrack {a : Addr} {φ : Heap → Prop} (I : Inv X pins σ H s) (h : H a = some (.ext φ)) : Inv X pins σ (del H a) s := by
  have ne : ∀ b o, H b = some o → (∀ ψ, o ≠ .ext ψ) → b ≠ a := fun b o q n z => by subst z; rw [q] at h; exact n φ (Option.some.inj h)
  have nn : ∀ b, H b = none → del H a b = none := fun b q => by unfold del; split <;> first | rfl | exact q
  refine ⟨I.ok, I.os, I.bare, ⟨I.base.keep, I.base.slot, fun b o q n x => nn b (I.base.free b o q n x), I.base.there, fun b xs q => ?_, fun b o u q => ?_, fun b ps q => ?_⟩, I.loc, I.cell, nn _ I.free, fun x c q => nn _ (I.freeC x c q), fun p hp => ?_, fun b o q => ?_, I.len⟩
  · have := I.base.tups b xs q
    rw [del_ne (ne b _ this fun _ z => by cases z)]; exact this
  · have := I.base.frzs b o u q
    rw [del_ne (ne b _ this fun _ z => by cases z)]; exact this
  · obtain ⟨m, this⟩ := I.base.tbls b ps q
    exact ⟨m, by rw [del_ne (ne b _ this fun _ z => by cases z)]; exact this⟩
  · obtain ⟨a1, a2, a3⟩ := I.pin p hp
    exact ⟨a1, nn _ a2, a3⟩
  · unfold del at q
    split at q
    · cases q
    · rename_i hb
      refine (I.hok b o q).stay (fun c u _ z => z) (fun c z => ?_) fun c xs z => ?_
      · rw [del_ne (ne c _ z fun _ y => by cases y)]; exact z
      · rw [del_ne (ne c _ z fun _ y => by cases y)]; exact z
theorem Inv.retag {a : Addr} {fs : List (Str × V)} (I : Inv X pins σ H s) (h : H a = some (XD a fs)) : Inv X pins σ (upd H a (.xd fs)) s := by
  have ne : ∀ b o, H b = some o → (∀ ψ, o ≠ .ext ψ) → b ≠ a := fun b o q n z => by subst z; rw [q] at h; exact n _ (Option.some.inj h)
  have nn : ∀ b, H b = none → upd H a (.xd fs) b = none := fun b q => by
    have : b ≠ a := fun z => by rw [z, h] at q; cases q
    rw [upd_ne this]; exact q
  refine ⟨I.ok, I.os, I.bare, ⟨I.base.keep, I.base.slot, fun b o q n x => nn b (I.base.free b o q n x), I.base.there, fun b xs q => ?_, fun b o u q => ?_, fun b ps q => ?_⟩, I.loc, I.cell, nn _ I.free, fun x c q => nn _ (I.freeC x c q), fun p hp => ?_, fun b o q => ?_, I.len⟩
  · have := I.base.tups b xs q
    rw [upd_ne (ne b _ this fun _ z => by cases z)]; exact this
  · have := I.base.frzs b o u q
    rw [upd_ne (ne b _ this fun _ z => by cases z)]; exact this
  · obtain ⟨m, this⟩ := I.base.tbls b ps q
    exact ⟨m, by rw [upd_ne (ne b _ this fun _ z => by cases z)]; exact this⟩
  · obtain ⟨a1, a2, a3⟩ := I.pin p hp
    exact ⟨a1, nn _ a2, a3⟩
  · by_cases hb : b = a
    · subst hb
      rw [upd_same] at q; cases q
      obtain ⟨_, mA, n, r, _⟩ := XD.get (I.hok _ _ h)
      exact ⟨mA, n, r⟩
    · rw [upd_ne hb] at q
      refine (I.hok b o q).stay (fun c u _ z => z) (fun c z => ?_) fun c xs z => ?_
      · rw [upd_ne (ne c _ z fun _ y => by cases y)]; exact z
      · rw [upd_ne (ne c _ z fun _ y => by cases y)]; exact z
theorem raise_made {M : Model} {A : Around} {E : Value → Shared → Prop} {env : Env} {y : Sem Value} {QF : Flow → Shared → Prop} {nm q : Str} {N : Addr} {bs bm : List Value} {hdct : Bool} {sn : List Str} {sub : List Value} {ab : Bool} {col : Option Bool} {dd : Option Addr} {k0 k1 k2 k3 k5 : Option Value} {newId : String}
    (hbase : bm.contains (.type "BaseException") = true) (hh : A.handled = none)
    (h : wpAny M A y (fun v s₁ => ∃ e d, ∃ vs : Array Value, v = .ref e ∧ s₁.heap.get? C = some (excClassObj nm q C N bs bm hdct sn sub ab col dd k0 k1 k2 k3 k5 newId) ∧
      s₁.heap.get? e = some { cls := .ref C, dict := d, data := .fields vs } ∧ vs[1]? = some .none ∧ E (.ref e) s₁) E s) :
    wpAny M A (raiseStmt env (some y) none) QF E s := by
  have hcB : (Value.ref C :: bm).contains (.type "BaseException") = true := by rw [List.contains_cons, hbase, Bool.or_true]
  unfold raiseStmt
  refine wpAny_bind (wpAny_mono h (fun v s₁ h₁ => ?_) fun _ _ x => x)
  obtain ⟨e, d, vs, rfl, hC, he, hv1, hE⟩ := h₁
  obtain ⟨hp, g, dr, tk, os⟩ := s₁
  repeat (first | with_reducible refine wpAny_loadPart_at he ?_ | with_reducible refine wpAny_loadPart_at hC ?_ | (with_reducible refine wpAny_isSubtype_exc hC ?_; rw [hcB]) | wp_step)
  rw [hv1]
  refine wpAny_pure ?_
  rw [if_neg (by decide)]
  exact wpAny_pure (wpAny_raiseNew_none hh hE)
noncomputable def tRaiseX (C : Addr) (sp : Sp) (E : XK) (t : TA) : TS := fun _ σ H => t σ H fun vs H1 => vs.length ≤ sizeLine ∧ ∀ a, H1 a = none →
  sp (.ref a :: vs) (upd H1 a (XN a C none)) (fun v H2 => v = .non ∧ ∃ dx fs, H2 a = some (XN a C (some dx)) ∧ H2 dx = some (XD dx fs) ∧ dx ≠ a ∧ E (.ref C) (some dx) (upd (del H2 a) dx (.xd fs))) E0
theorem ps_raiseX {E : XK} {rpos : Pos} (Y : XMk X.K C f cd) (F : FnOk X.prog X.w X.K X.mg X.base CX0 k f fd ps sp) (hr : Room (k + 1) X.A) (hg : Gl X x) (hm : X.mg x = some (.ref C)) (hb : Binds X.K fd ps []) (hh : X.A.handled = none)
    (hx : ∀ (pins : List (Addr × Obj)) (σ : St) (H : Hp) (s : Shared) (e : Addr) (C : Value) (d : Option Addr), Inv X pins σ H s → Fly X pins H s.heap e C d → E C d H → X.xe (.ref e) s)
    (ha : PA X (e :: es) t) (hdb : (x == ("__debug__" : Str)) = false := by decide) (he : starEach (e :: es) X.env = (false, eval e X.env) :: starEach es X.env := by rfl) (hpl : (backTo pos (starEach es X.env)).any (·.1) = false := by rfl) :
    PS X (.Raise (some (.Call (.Name x p) (e :: es) [] pos)) none rpos) (tRaiseX C sp E t) := by
  obtain ⟨nm, q, N, bs, bm, sn, sub, ab, col, dd, k0, k1, k2, k3, k5, hC, hmr⟩ := Y.ob
  have ve : onlyVE bm = true := by have := Y.ve; rw [hmr] at this; exact this
  intro pins s σ H D I h
  rw [arm_exec_Raise]
  have key : wpAny (model X.prog X.w) X.A (eval (.Call (.Name x p) (e :: es) [] pos) X.env) (fun v s₁ => ∃ e d, ∃ vs : Array Value, v = .ref e ∧ s₁.heap.get? C = some (excClassObj nm q C N bs bm true sn sub ab col dd k0 k1 k2 k3 k5 "ValueError.__new__") ∧
      s₁.heap.get? e = some { cls := .ref C, dict := d, data := .fields vs } ∧ vs[1]? = some .none ∧ X.xe (.ref e) s₁) X.xe s := by
    refine wpAny_Call_Name_kw (ld_glob I hg hm ?_ hdb)
    refine PySem.W.callWith_K (h₀ := X.base) I.ok.mod.kin Y.kp (thn (ha pos pins s σ H _ I h) fun us s1 ⟨vs, H1, I1, r, hz, q⟩ => ⟨I1.kIn, ?_⟩) he hpl
    refine thn (run_makeXA (QA := fun a H2 => ∃ dx fs, H2 a = some (XN a C (some dx)) ∧ H2 dx = some (XD dx fs) ∧ dx ≠ a ∧ E (.ref C) (some dx) (upd (del H2 a) dx (.xd fs))) Y F hr hb I1 r hz q) fun u s2 ⟨H2, eu, I2, q2⟩ => ?_
    obtain ⟨dx, fs, h2, h3, ne, hE⟩ := q2
    obtain ⟨vs2, hget, hsz, h1⟩ := XN.get (I2.hok _ _ h2)
    have I3 := Inv.retag (Inv.untrack I2 h2) (a := dx) (fs := fs) (by rw [del_ne ne]; exact h3)
    refine ⟨_, some dx, vs2, eu, I2.kIn _ _ hC, hget, h1, hx pins σ _ s2 _ _ (some dx) I3 ⟨mine_new I1 (Nat.le_succ _), by rw [upd_ne (Ne.symm ne)]; exact del_same, _, vs2, hget, rfl, rfl, rfl, rfl, hsz, .inl h1⟩ hE⟩
  exact wpAny_bind (wpAny_standAt (raise_made (C := C) (nm := nm) (q := q) (N := N) (bs := bs) (bm := bm) (hdct := true) (sn := sn) (sub := sub) (ab := ab) (col := col) (dd := dd) (k0 := k0) (k1 := k1) (k2 := k2) (k3 := k3) (k5 := k5) (newId := "ValueError.__new__") (ve_has (by decide) _ ve) hh
    (wpAny_bind (thn key fun v s1 z => wpAny_bind (wpAny_standAt (wpAny_pure z))))))
end

section
variable {X : Cx} {pins : List (Addr × Obj)} {σ : St} {H : Hp} {s : Shared} {o value : Expr} {f : Str} {pos pos' : Pos} {ta tv : TE}
noncomputable def sX0 (K : PySem.W.Frag) (ta tv : TE) (f : Str) : TS := fun D σ H => tv σ H fun y H1 => ta σ H1 fun x H2 => ∃ e C cd, x = .ref e ∧ H2 e = some (XN e C none) ∧ XCls K C cd ∧ PySem.W.findIn K (.ref C) f = some none ∧
  ∀ dx, H2 dx = none → D.nx σ (upd (upd H2 dx (XD dx [(f, y)])) e (XN e C (some dx)))
theorem ps_X0 (ha : PE X o ta) (hv : PE X value tv) (hs : swapsWith value (some (.Attribute o f pos')) pos.line X.env = pure false) : PS X (.Assign [.Attribute o f pos'] value pos) (sX0 X.K ta tv f) := by
  intro pins s σ H D I h
  refine plainObj_wpAny_Assign_Attribute (thn (hv pins s σ H _ I h) fun u s1 ⟨y, H1, I1, ry, q⟩ => thn (ha pins s1 σ H1 _ I1 q) fun ov s2 ⟨x, H2, I2, rx, e, C, cd, ex, ee, c, n, q2⟩ => ?_) hs
  subst ex
  obtain rfl : ov = Value.ref e := rx
  obtain ⟨vs, hget, hsz, h1⟩ := XN.get (I2.hok _ _ ee)
  refine set_excN I2.kIn c n hget fun h' dx hdx hx' hn' keep => ?_
  have nd : H2 dx = none := I2.hok.fresh (by rw [hdx]; exact Nat.le_refl _)
  have ne : dx ≠ e := fun z => by rw [z, ee] at nd; cases nd
  obtain ⟨oD, eD⟩ : ∃ oD, h'.get? dx = some oD := let ⟨o, _, _, e', _⟩ := hn'; ⟨o, e'⟩
  have hfr := (Heap.get?_some_iff.mp eD).2
  have g1 : (s2.heap.push oD).get? dx = some oD := by rw [hdx]; exact Heap.get?_push_size _ hfr
  have I3 : Inv X pins σ (upd H2 dx (XD dx [(f, y)])) { s2 with heap := s2.heap.push oD, toks := s2.toks + 2 } := by
    refine I2.laid (t' := s2.toks + 2) (fun b u z => Heap.get?_push_of_some _ z) (by rw [hdx]; exact Nat.le_refl _) (XD.mk (by simp) (hn'.at fun o z => ?_) (fun g => ?_) fun g hg => ?_)
    · rw [eD] at z; rw [g1]; exact z
    · by_cases hgf : g = f
      · subst hgf; rw [if_pos rfl]; have : ([(g, y)] : List (Str × V)).lookup g = some y := by simp [List.lookup]
        rw [this]; exact ry
      · rw [if_neg hgf]
        have : ([(f, y)] : List (Str × V)).lookup g = none := by
          have hb : (g == f) = false := beq_eq_false_iff_ne.mpr hgf
          simp only [List.lookup, hb]
        rw [this]; exact True.intro
    · by_cases hgf : g = f
      · simp [hgf]
      · exact absurd (if_neg hgf) hg
  have I4 := Inv.write (h' := h') (t' := s2.toks + 2) I3 (x := e) (e := e) (o := XN e C (some dx)) (by rw [upd_ne (Ne.symm ne), ee]; exact True.intro) (.inl rfl) (fun b u hb z => ?_) ⟨_, hx'⟩ (XN.mk hx' hsz h1)
  · exact ⟨σ, _, I4, q2 dx nd⟩
  · rcases Heap.get?_push_cases z with ⟨z1, z2⟩ | z
    · rw [z1, z2, ← hdx]; exact eD
    · exact keep b u hb z
end
end L2.MP

namespace L2.MP
open PySem PySem.Spec PyProof.Rows

noncomputable abbrev Cx.hand (X : Cx) (ev : Value) (E : Value → Shared → Prop) : Cx := { X with A := X.A.mark (some ev), calm := false, xe := E }
section
variable {X : Cx} {pins : List (Addr × Obj)} {σ : St} {H : Hp} {s : Shared} {ev : Value} {E : Value → Shared → Prop} {e C : Addr} {d : Option Addr}
theorem Inv.hand (I : Inv X pins σ H s) (ev : Value) (E : Value → Shared → Prop) : Inv (Cx.hand X ev E) pins σ H s :=
  let ok := I.ok
  ⟨⟨ok.mod, ok.kind, ok.glob, ok.blt, ok.above, ok.inj, ok.has, ok.cab, (fun z => by cases z), ok.frames, ok.stk, ok.exf, ok.bs, ok.bsz, ok.noex, ok.exfs, ok.funs, ok.frf⟩, I.os, I.bare, I.base, I.loc, I.cell, I.free, I.freeC, I.pin, I.hok, I.len⟩
theorem Inv.unhand (ok : X.Ok) (I : Inv (Cx.hand X ev E) pins σ H s) : Inv X pins σ H s :=
  ⟨ok, I.os, I.bare, I.base, I.loc, I.cell, I.free, I.freeC, I.pin, I.hok, I.len⟩
theorem Inv.track (I : Inv X pins σ H s) (fl : Fly X pins H s.heap e (.ref C) d) : Inv X pins σ (upd H e (XO e C d)) s := by
  obtain ⟨m, nh, oe, vs, he, hc, hdd, hsl, hd, hsz, h1⟩ := fl
  have ne : ∀ b o, H b = some o → b ≠ e := fun b o q z => by rw [z, nh] at q; cases q
  have obj : s.heap.get? e = some { cls := .ref C, dict := d, data := .fields vs } := by
    rw [he]
    obtain ⟨c, dd, dt, sl⟩ := oe
    cases hc; cases hdd; cases hsl; cases hd; rfl
  refine ⟨I.ok, I.os, I.bare, ⟨I.base.keep, I.base.slot, fun b o q n x => ?_, I.base.there, fun b xs q => ?_, fun b o u q => ?_, fun b ps q => ?_⟩, I.loc, I.cell, ?_, fun x c q => ?_, fun p hp => ?_, fun b o q => ?_, I.len⟩
  · rw [upd_ne (Nat.ne_of_lt (Nat.lt_of_lt_of_le (Heap.lt_size q) m.sz))]; exact I.base.free b o q n x
  · have := I.base.tups b xs q
    rw [upd_ne (ne b _ this)]; exact this
  · have := I.base.frzs b o u q
    rw [upd_ne (ne b _ this)]; exact this
  · obtain ⟨z, this⟩ := I.base.tbls b ps q
    exact ⟨z, by rw [upd_ne (ne b _ this)]; exact this⟩
  · rw [upd_ne (Ne.symm m.loc)]; exact I.free
  · rw [upd_ne (m.cl x c q)]; exact I.freeC x c q
  · obtain ⟨a1, a2, a3⟩ := I.pin p hp
    exact ⟨a1, by rw [upd_ne (m.pn p hp)]; exact a2, a3⟩
  · by_cases hb : b = e
    · subst hb
      rw [upd_same] at q; cases q
      exact XO.mk obj
    · rw [upd_ne hb] at q
      exact (I.hok b o q).stay (fun c u _ z => z) (fun c z => by rw [upd_ne (ne c _ z)]; exact z) fun c xs z => by rw [upd_ne (ne c _ z)]; exact z
theorem goes {M : Model} {A : Around} {E : Value → Shared → Prop} {i : Nat} {n : Str} {pos : Pos} {Q : Unit → Shared → Prop} (I : Inv X pins σ H s) (hN : X.N.Nodup) (hi : X.N[i]? = some n) (hk : X.env.kindOf n = some .local)
    (h : ∀ s', Inv X pins (σ.set i none) H s' → Q () s') : wpAny M A (do bindName X.env n .none; unbindBehindTheSuite X.env n pos) Q E s := by
  obtain ⟨m, hn, hl⟩ := id I.loc
  have hcls : (X.env.scope.kind == .class || (X.env.scope.kind == .module && X.env.locals != X.env.globals)) = false := by rw [I.ok.kind]; rfl
  have hiσ : i < σ.length := by rw [I.len]; exact (List.getElem?_eq_some_iff.mp hi).1
  have cne := I.cne
  refine wpAny_nameGoes_keeps hk hn hcls fun h' v hn' hs => ?_
  obtain ⟨oL, _, _, hoL, _⟩ := id hn
  have lo : ∀ b o, X.s₀.heap.get? b = some o → b ≠ X.env.locals := fun b o e => Nat.ne_of_lt (Nat.lt_of_lt_of_le (Heap.lt_size e) I.ok.above)
  refine h _ ⟨I.ok, I.os, I.bare, ⟨fun b o e n hb hx => (hs.2 b (lo b o e)).trans (I.base.keep b o e n hb hx), fun b o e n hb hx => ?_, I.base.free, fun b o e hx => ?_, I.base.tups, I.base.frzs, I.base.tbls⟩, ⟨_, hn', fun j y v' e1 e2 e3 => ?_⟩, fun y c e => ?_, I.free, I.freeC, fun p hp => ?_, fun b ob e => ?_, by simpa using I.len⟩
  · obtain ⟨sl, e1⟩ := I.base.slot b o e n hb hx
    exact ⟨sl, (hs.2 b (lo b o e)).trans e1⟩
  · obtain ⟨o', e1⟩ := I.base.there b o e hx
    exact ⟨o', (hs.2 b (lo b o e)).trans e1⟩
  · by_cases hj : j = i
    · subst hj
      rw [List.getElem?_set_self hiσ] at e2
      cases e2
    · rw [List.getElem?_set_ne (Ne.symm hj)] at e2
      obtain ⟨u', r', q⟩ := hl j y v' e1 e2 e3
      refine ⟨u', r', ?_⟩
      rcases q with ⟨k, e⟩ | ⟨k, c, e, z⟩
      · refine .inl ⟨k, ?_⟩
        have : y ≠ n := fun e => hj (nodup_ix hN e1 (e ▸ hi))
        simp [this, e]
      · exact .inr ⟨k, c, e, z.sameBut hs (cne y c e)⟩
  · obtain ⟨w', z⟩ := I.cell y c e
    exact ⟨w', z.sameBut hs (cne y c e)⟩
  · obtain ⟨e, n, ne, nf, dd⟩ := I.pin p hp
    exact ⟨(hs.2 p.1 ne).trans e, n, ne, nf, dd⟩
  · refine (I.hok b ob e).stay (fun c w' hc q => (hs.2 c ?_).trans q) (fun _ q => q) fun _ _ q => q
    rintro rfl
    rcases hc with rfl | hc
    · rw [I.free] at e; cases e
    · rw [I.free] at hc; cases hc
end
structure Catch (K : PySem.W.Frag) (T : Addr) : Prop where
  cls : ∃ oc od cd sl, K.lookup T = some ⟨oc, od, .cls cd, sl⟩
  nt : PySem.W.instIn K (.ref T) (.type "tuple") = some false
  be : PySem.W.subIn K (.ref T) (.type "BaseException") = some true
theorem caught {K : PySem.W.Frag} {M : Model} {A : Around} {E : Value → Shared → Prop} {s : Shared} {e C T : Addr} {oe : Obj} {b : Bool} {Q : Bool → Shared → Prop} (X : K.In s.heap) (Y : Catch K T) (he : s.heap.get? e = some oe) (hc : oe.cls = .ref C)
    (hb : PySem.W.subIn K (.ref C) (.ref T) = some b) (h : Q b s) : wpAny M A (excMatches (.ref e) (.ref T)) Q E s := by
  obtain ⟨oc, od, cd, sl, hT⟩ := Y.cls
  have L1 := PySem.W.looks_instIn (M := M) X Y.nt
  have L2 := PySem.W.looks_subIn (M := M) X Y.be
  have L3 := PySem.W.looks_subIn (M := M) X hb
  have hT' := X _ _ hT
  unfold excMatches
  refine wpAny_bind (L1.here ?_)
  obtain ⟨hp, g, dr, tk, os⟩ := s
  repeat (first | with_reducible refine wpAny_loadPart_at he ?_ | with_reducible refine wpAny_loadPart_at hT' ?_ | with_reducible refine L2.at ?_ | with_reducible refine L3.at ?_ | wp_step)
  rw [hc]
  refine L3.at ?_
  cases b <;> (wp_walk; exact h)

noncomputable abbrev THs := Value → Option Addr → TS
noncomputable def PHs (X : Cx) (hs : List ExceptHandler) (th : THs) : Prop := ∀ (pins : List (Addr × Obj)) (s : Shared) (σ : St) (H : Hp) (D : Ends) (e : Addr) (C : Value) (d : Option Addr), Inv X pins σ H s → Fly X pins H s.heap e C d → th C d D σ H →
  wpAny (model X.prog X.w) X.A (handleBy (.ref e) X.env hs) (SP X pins D) X.xe s
noncomputable def Ends.gone (D : Ends) (i : Nat) : Ends := { nx := fun σ H => D.nx (σ.set i none) H, rt := D.rt, bk := fun σ H => D.bk (σ.set i none) H, ct := fun σ H => D.ct (σ.set i none) H }
noncomputable def hNil : THs := fun _ _ _ _ _ => False
noncomputable def hAs (K : PySem.W.Frag) (T : Addr) (i : Nat) (ts : TS) (rest : THs) : THs := fun C d D σ H => ∃ Ca b, C = .ref Ca ∧ PySem.W.subIn K (.ref Ca) (.ref T) = some b ∧
  if b = true then ∀ a, H a = none → ts (Ends.gone D i) (σ.set i (some (.ref a))) (upd H a (XO a Ca d)) else rest C d D σ H
section
variable {X : Cx} {T : Addr} {x n : Str} {np pos : Pos} {b₀ : Stmt} {suite body : List Stmt} {ts : TS} {rest : List ExceptHandler} {tr : THs} {i : Nat}
theorem ph_nil : PHs X [] hNil := fun _ _ _ _ _ _ _ _ _ _ h => h.elim
theorem ph_as (hg : Gl X x) (hm : X.mg x = some (.ref T)) (Y : Catch X.K T) (hN : X.N.Nodup) (hi : X.N[i]? = some n) (hk : X.env.kindOf n = some .local) (hs : ∀ ev, PSs (Cx.hand X ev fun _ _ => False) (b₀ :: suite) ts) (hr : PHs X rest tr)
    (hd : (x == ("__debug__" : Str)) = false := by decide) : PHs X (.ExceptHandler (some (.Name x np)) (some n) (b₀ :: suite) pos :: rest) (hAs X.K T i ts tr) := by
  intro pins s σ H D e C d I fl h
  obtain ⟨Ca, b, rfl, hb, h⟩ := h
  obtain ⟨m, nh, oe, vs, he, hc, hrest⟩ := id fl
  refine wpAny_handleBy_cons (codeAny_handlers_test (ld_glob (X := Cx.hand X (.ref e) X.xe) (Inv.hand I (.ref e) X.xe) hg hm ?_ hd)) (by intro q; cases q)
  refine caught I.kIn Y he hc hb ?_
  cases b with
  | false => exact hr pins s σ H D e _ d I fl h
  | true =>
    refine codeAny_handlers_suite_as (flight_fly I fl fun s1 I1 f1 => ?_)
    refine store_ok (Inv.track I1 f1) hN hi (.inl hk) (v := .ref e) rfl (fun s2 I2 => ?_) (.inr hk)
    refine wpAny_mono (hs (.ref e) pins s2 _ _ (Ends.gone D i) (Inv.hand I2 (.ref e) fun _ _ => False) (h e nh)) (fun f s3 q => ?_) fun _ _ z => z.elim
    · cases f with
      | next => obtain ⟨σ', H', J, q⟩ := q; exact goes (Inv.unhand I.ok J) hN hi hk fun s4 J4 => ⟨_, H', J4, q⟩
      | brk => obtain ⟨σ', H', J, q⟩ := q; exact goes (Inv.unhand I.ok J) hN hi hk fun s4 J4 => ⟨_, H', J4, q⟩
      | cont => obtain ⟨σ', H', J, q⟩ := q; exact goes (Inv.unhand I.ok J) hN hi hk fun s4 J4 => ⟨_, H', J4, q⟩
      | ret u => obtain ⟨v, σ', H', J, r, q⟩ := q; exact goes (Inv.unhand I.ok J) hN hi hk fun s4 J4 => ⟨v, _, H', J4, r, q⟩
noncomputable def PSsAt (X : Cx) (body : List Stmt) (tb : XK → TS) : Prop := ∀ (pins : List (Addr × Obj)) (σ : St) (E : XK) (xe : Value → Shared → Prop), (∀ (H : Hp) (s : Shared) (ev : Value) (s' : Shared), Inv X pins σ H s → CXS X.prog X.w X.stack H s E ev s' → xe ev s') →
  ∀ (s : Shared) (H : Hp) (D : Ends), Inv X pins σ H s → tb E D σ H → wpAny (model X.prog X.w) X.A (execs body X.env) (SP X pins D) xe s
noncomputable def tTry (tb : XK → TS) (th : THs) : TS := fun D σ H => tb (fun C d H' => th C d D σ H') D σ H
theorem ps_try {h₀ : ExceptHandler} {hs : List ExceptHandler} {tb : XK → TS} {th : THs} (hst : X.stack = X.env :: X.outer) (hf : X.env.frame = some X.env.locals) (hb : PSsAt X body tb) (hh : PHs X (h₀ :: hs) th) : PS X (.Try body (h₀ :: hs) [] [] pos) (tTry tb th) := by
  intro pins s σ H D I h
  refine wpAny_Try_except (wpAny_mono (hb pins σ _ (FlS X pins σ fun C d H' => th C d D σ H') (fun H s ev s' I c => FlS.of_call I c) s H D I h) (fun f s1 q => ?_) fun ev s1 q => ?_)
  · cases f with
    | next => exact wpAny_pure q
    | brk => exact q
    | cont => exact q
    | ret u => exact q
  · obtain ⟨e, C, d, H', rfl, I1, f1, q⟩ := q
    exact note_fly I1 hst hf f1 fun s2 I2 f2 _ => flight_fly I2 f2 fun s3 I3 f3 => hh pins s3 σ H' D e C d I3 f3 q
end
end L2.MP

namespace L2.MP
open PySem PySem.Spec PyProof.Rows

noncomputable def PEAt (X : Cx) (e : Expr) (te : XK → TE) : Prop := ∀ (pins : List (Addr × Obj)) (σ : St) (E : XK) (xe : Value → Shared → Prop), (∀ (H : Hp) (s : Shared) (ev : Value) (s' : Shared), Inv X pins σ H s → CXS X.prog X.w X.stack H s E ev s' → xe ev s') →
  ∀ (s : Shared) (H : Hp) (Q : VK), Inv X pins σ H s → te E σ H Q → wpAny (model X.prog X.w) X.A (eval e X.env) (EP X pins σ Q) xe s
section
variable {X : Cx} {k : Nat} {ps : List Str} {sp : Sp} {x : Str} {p pos : Pos} {e : Expr} {es : List Expr} {t : TA} {te : XK → TE}
theorem peAt_call (G : FnAtX X.prog X.w X.K X.mg X.base x k ps sp) (hr : Room k X.A) (hg : Gl X x) (ha : PA X.nox (e :: es) t) (hdb : (x == ("__debug__" : Str)) = false := by decide)
    (he : starEach (e :: es) X.env = (false, eval e X.env) :: starEach es X.env := by rfl) (hpl : (backTo pos (starEach es X.env)).any (·.1) = false := by rfl) : PEAt X (.Call (.Name x p) (e :: es) [] pos) (fun E => tCall sp [] E t) := by
  obtain ⟨f, fd, hm, hk, hb, F⟩ := G
  intro pins σ E xe hx s H Q I h
  refine wpAny_Call_Name_kw (ld_glob I hg hm ?_ hdb)
  refine PySem.W.callWith_K (h₀ := X.base) I.ok.mod.kin hk (wpAny_mono (ha pos pins s σ H _ (I.wish _) h) (fun us s1 ⟨vs, H1, I1, r, q⟩ => ⟨I1.kIn, ?_⟩) fun _ _ z => z.elim) he hpl
  have I1 := I1.unwish
  have q' : sp (vs ++ []) H1 Q E := q
  rw [List.append_nil] at q'
  have hl : (us ++ []).length = ps.length := by rw [List.append_nil, ← r.length]; exact F.len _ _ _ _ q'
  have hb' := hb s1 us I1.kIn hl
  rw [List.append_nil] at hb'
  refine wpAny_call (codeAny_mono (F.run X.A X.stack s1 H1 ⟨us, []⟩ us vs Q E hr I1.env0 hb' r q') fun r s' hq => ?_)
  cases r with
  | error ev => exact hx H1 s1 ev s' I1 hq
  | ok fl =>
    cases fl with
    | ret u => exact I1.after hq
    | next => exact False.elim hq
    | brk => exact False.elim hq
    | cont => exact False.elim hq
theorem one_at {xe : Value → Shared → Prop} {pins : List (Addr × Obj)} {D : Ends} {st : Stmt} {s : Shared} (h : wpAny (model X.prog X.w) X.A (exec st X.env) (SP X pins D) xe s) : wpAny (model X.prog X.w) X.A (execs [st] X.env) (SP X pins D) xe s := by
  refine wpAny_execs_cons (thn h fun f s1 q => ?_)
  cases f with
  | next => exact wpAny_execs_nil q
  | ret v => exact q
  | brk => exact q
  | cont => exact q
theorem psAt_set {i : Nat} {y : Str} {pos' : Pos} (hN : X.N.Nodup) (hi : X.N[i]? = some y) (hx : Loc X.env.scope y) (he : PEAt X e te) (hs : swapsWith e (some (.Name y pos')) pos.line X.env = pure false := by rfl) (hf : X.fn y = true ∨ X.env.scope.names.lookup y = some .local := by first | exact .inl rfl | exact .inr rfl | assumption) :
    PSsAt X [.Assign [.Name y pos'] e pos] (fun E => tAsg (te E) (gName i)) := by
  intro pins σ E xe hp s H D I h
  refine one_at (wpAny_Assign_Name (thn (he pins σ E xe hp s H _ I h) fun v s1 ⟨y, H1, I1, r1, q1⟩ => ?_) hs)
  exact store_ok I1 hN hi hx r1 (fun s2 I2 => ⟨_, H1, I2, q1⟩) hf
end

noncomputable def XRS (K : PySem.W.Frag) : Hp → Value → Option Addr → PV → Prop := fun F ev d z => ∃ c l Ca dx xs, z = .exc c l ∧ ev = .ref Ca ∧ d = some dx ∧ XNm K Ca c ∧ F dx = some (.xd xs) ∧ xs.map (·.1) = l.map (·.1) ∧ ∀ (j : Nat) x p, xs[j]? = some x → l[j]? = some p → Rep K F x.2 p.2
noncomputable def PrU (K : PySem.W.Frag) {α : Type} (F H : Hp) (E : XK) (ok : α → Prop) : Res α → Prop
  | .ok a => ok a
  | .ex z => ∀ e d F' H', Up F H F' H' → XRS K F' e d z → E e d H'
noncomputable def MJx {α : Type} (K : PySem.W.Frag) (C : Cg) (A : Rel α) (te : XK → TE) (f : Fn α) : Prop :=
  ∀ E F H σ ρ Q r, RE K C.toCf F H σ ρ → f ρ = some r → PrU K F H E (fun a => ∀ v F' H', Up F H F' H' → A F' H' v a → Q v H') r → te E σ H Q
noncomputable def POx (K : PySem.W.Frag) (C : Cg) (F H : Hp) (E : XK) (D : Ends) : Out → Prop
  | .ex z => ∀ e d F' H', Up F H F' H' → XRS K F' e d z → E e d H'
  | o => PO' K C F D o
noncomputable def MSx (K : PySem.W.Frag) (C : Cg) (tb : XK → TS) (b : Sn) : Prop := ∀ E F H σ ρ D o, RE K C.toCf F H σ ρ → b ρ = some o → POx K C F H E D o → tb E D σ H
noncomputable abbrev Cq (C : Cg) : Cg := ⟨C.toCf, XR0⟩
section
variable {K : PySem.W.Frag} {C : Cg} {t : TA} {f : Fn (List PV)} {m : List PV → Option (Res PV)} {te : XK → TE} {fe : Fn PV}
theorem mjx_callO (h : MA K (Cq C) t f) : MJx K C (aF K) (fun E => tCall (spO K (XRS K) m) [] E t) (mCall m f) := by
  intro E F H σ ρ Q r R e P
  rcases bnd_inv e with ⟨z, e1, rfl⟩ | ⟨l, e1, hk⟩
  · exact h F H σ ρ _ _ R e1 fun _ _ _ _ _ _ x => x.elim
  · refine h F H σ ρ _ _ R e1 fun xs F1 H1 u a => ?_
    refine ⟨l, F1, r, u.fh, by rw [List.append_nil]; exact a, hk, ?_⟩
    cases r with
    | ok p =>
      refine fun a F' H' u' n1 n2 o => ?_
      have ut := u.trans u'
      obtain ⟨ob, eo, rr⟩ := o.frozen n2
      refine P _ (upd F' a ob) H' ⟨ut.ff.trans (same_upd n2), ut.hh, fun b x q => ?_, fun b x q => ?_⟩ rr
      · by_cases hb : b = a
        · subst hb; exact .inr (.inl (u.hh.free n1))
        · rw [upd_ne hb] at q; exact ut.fr b x q
      · by_cases hb : b = a
        · subst hb; rw [upd_same] at q; cases q; exact eo
        · rw [upd_ne hb] at q; exact ut.fh b x q
    | ex z => exact fun e d F' H' u' x => P e d F' H' (u.trans u') x
theorem msx_set (i : Nat) (h : MJx K C (aF K) te fe) : MSx K C (fun E => tAsg (te E) (gName i)) (mAsg fe (gN i)) := by
  intro E F H σ ρ D o R e P
  rcases bndS_inv e with ⟨z, e1, rfl⟩ | ⟨p, e1, hk⟩
  · exact h E F H σ ρ _ _ R e1 P
  · cases hk
    exact h E F H σ ρ _ _ R e1 fun v F1 H1 u a => P F1 H1 _ u.ff ((R.up u).set i a)
noncomputable def MHs (K : PySem.W.Frag) (C : Cg) (th : THs) (h : PV → Sn) : Prop := ∀ F H σ ρ D o z ev d, RE K C.toCf F H σ ρ → XRS K F ev d z → h z ρ = some o → PO' K C F D o → th ev d D σ H
noncomputable def mTry (b : Sn) (h : PV → Sn) : Sn := fun ρ => match b ρ with
  | some (.ex z) => h z ρ
  | o => o
theorem ms_try {tb : XK → TS} {th : THs} {b : Sn} {h : PV → Sn} (hb : MSx K C tb b) (hh : MHs K C th h) : MS K C (tTry tb th) (mTry b h) := by
  intro F H σ ρ D o R e P
  unfold mTry at e
  split at e
  · rename_i z hz
    refine hb _ F H σ ρ D (.ex z) R hz fun ev d F' H' u x => ?_
    exact hh F' H' σ ρ D o z ev d (R.up u) x e (P.up u.ff)
  · rename_i hn
    refine hb _ F H σ ρ D o R e ?_
    cases o with
    | ex z => exact absurd e (hn z)
    | nx ρ => exact P
    | bk ρ => exact P
    | ct ρ => exact P
    | rt p => exact P
    | ro p => exact P
    | rd p => exact P
noncomputable def mhNil : PV → Sn := fun _ _ => none
theorem mh_nil : MHs K C hNil mhNil := fun _ _ _ _ _ _ _ _ _ _ _ e => by cases e
noncomputable def SubAt (K : PySem.W.Frag) (c t : Str) (b : Bool) : Prop := ∃ Ca T, PySem.W.nsIn K mainGlobals c = some (some (.ref Ca)) ∧ PySem.W.nsIn K mainGlobals t = some (some (.ref T)) ∧ PySem.W.subIn K (.ref Ca) (.ref T) = some b
noncomputable def goneO (i : Nat) : Option Out → Option Out
  | some (.nx ρ) => some (.nx (ρ.set i none))
  | some (.bk ρ) => some (.bk (ρ.set i none))
  | some (.ct ρ) => some (.ct (ρ.set i none))
  | o => o
noncomputable def mhAs (sub : Str → Option Bool) (i : Nat) (suite : Sn) (rest : PV → Sn) : PV → Sn := fun z ρ => match z with
  | .exc c _ => (match sub c with
    | some true => goneO i (suite (ρ.set i (some (.sh z))))
    | some false => rest z ρ
    | none => none)
  | _ => none
theorem RE.gone {Cc : Cf} {F H : Hp} {σ : St} {ρ : Rho} (h : RE K Cc F H σ ρ) (i : Nat) : RE K Cc F H (σ.set i none) (ρ.set i none) where
  rb := h.rb
  len := by simp [h.len]
  sh := fun j q e => by
    rcases get_set e with ⟨e1, e2⟩ | ⟨e1, e2⟩
    · cases e2
    · obtain ⟨w, e3, e4⟩ := h.sh j q e2
      exact ⟨w, by rw [List.getElem?_set_ne e1]; exact e3, e4⟩
  ow := fun j q e => by
    rcases get_set e with ⟨e1, e2⟩ | ⟨e1, e2⟩
    · cases e2
    · obtain ⟨w, e3, e4⟩ := h.ow j q e2
      exact ⟨w, by rw [List.getElem?_set_ne e1]; exact e3, e4⟩
  dis := fun j k q q' a e e' f f' => by
    rcases get_set e with ⟨e1, e2⟩ | ⟨e1, e2⟩
    · cases e2
    · rcases get_set e' with ⟨e1', e2'⟩ | ⟨e1', e2'⟩
      · cases e2'
      · rw [List.getElem?_set_ne e1] at f
        rw [List.getElem?_set_ne e1'] at f'
        exact h.dis j k q q' a e2 e2' f f'
  dd := let ⟨P, d⟩ := h.dd; ⟨P, d.own, d.dis, fun j k q b z e f => by
      rcases get_set e with ⟨e1, e2⟩ | ⟨e1, e2⟩
      · cases e2
      · rw [List.getElem?_set_ne e1] at f; exact d.ow j k q b z e2 f, fun j q e => by
      rcases get_set e with ⟨e1, e2⟩ | ⟨e1, e2⟩
      · cases e2
      · obtain ⟨w, e3, e4⟩ := d.dp j q e2
        exact ⟨w, by rw [List.getElem?_set_ne e1]; exact e3, e4⟩⟩
theorem mh_as {T : Addr} {tn : Str} {i : Nat} {ts : TS} {tr : THs} {sub : Str → Option Bool} {suite : Sn} {rest : PV → Sn} (hT : PySem.W.nsIn K mainGlobals tn = some (some (.ref T))) (hsub : ∀ c b, sub c = some b → SubAt K c tn b)
    (hs : MS K C ts suite) (hr : MHs K C tr rest) : MHs K C (hAs K T i ts tr) (mhAs sub i suite rest) := by
  intro F H σ ρ D o z ev d R x e P
  obtain ⟨c, l, Ca, dx, xs, rfl, rfl, rfl, nm, hd, hl, hr'⟩ := id x
  unfold mhAs at e
  dsimp only at e
  split at e
  · rename_i hb
    obtain ⟨Ca', T', h1, h2, h3⟩ := hsub c _ hb
    rw [nm.ns] at h1; cases h1
    rw [hT] at h2; cases h2
    refine ⟨Ca, true, rfl, h3, ?_⟩
    rw [if_pos rfl]
    intro a na
    have u : Up F H (upd F a (XO a Ca (some dx))) (upd H a (XO a Ca (some dx))) := Up.new R.rb.sub na
    have rep : Rep K (upd F a (XO a Ca (some dx))) (.ref a) (.exc c l) := .exc nm upd_same (u.ff _ _ hd) hl fun j x p a b => (hr' j x p a b).up u.ff
    cases ho : suite (ρ.set i (some (.sh (.exc c l)))) with
    | none => rw [ho] at e; cases e
    | some oo =>
      rw [ho] at e
      refine hs _ _ _ _ (Ends.gone D i) oo ((R.up u).set i rep) ho ?_
      cases oo with
      | nx ρ' => cases e; exact fun F' H' σ' s' R' => P F' H' _ (u.ff.trans s') (R'.gone i)
      | bk ρ' => cases e; exact fun F' H' σ' s' R' => P F' H' _ (u.ff.trans s') (R'.gone i)
      | ct ρ' => cases e; exact fun F' H' σ' s' R' => P F' H' _ (u.ff.trans s') (R'.gone i)
      | rt p => cases e; exact fun v F' H' s' rb rv => P v F' H' (u.ff.trans s') rb rv
      | ro p => cases e; exact fun v F' H' s' rb rv => P v F' H' (u.ff.trans s') rb rv
      | rd p => cases e; exact fun v F' H' S s' => P v F' H' S (u.ff.trans s')
      | ex z => cases e; exact PX.up P u.ff
  · rename_i hb
    obtain ⟨Ca', T', h1, h2, h3⟩ := hsub c _ hb
    rw [nm.ns] at h1; cases h1
    rw [hT] at h2; cases h2
    refine ⟨Ca, false, rfl, h3, ?_⟩
    rw [if_neg (by decide)]
    exact hr F H σ ρ D o _ _ _ R x e P
  · cases e
end
end L2.MP

namespace L2.MP
open PySem PySem.Spec PyProof.Rows

noncomputable def spI (Ca : Addr) (fs : List Str) : Sp := fun vs H Q _ => ∃ e args, vs = .ref e :: args ∧ args.length = fs.length ∧ H e = some (XN e Ca none) ∧
  ∀ dx H', H dx = none → H' e = some (XN e Ca (some dx)) → H' dx = some (XD dx (fs.zip args)) → (∀ b, b ≠ e → b ≠ dx → H' b = H b) → Q .non H'
theorem len_spI {Ca : Addr} {fs : List Str} {vs : List V} {H : Hp} {Q : VK} {E : XK} (h : spI Ca fs vs H Q E) : vs.length = fs.length + 1 := by
  obtain ⟨e, args, rfl, hl, _⟩ := h
  simp [hl]
section
variable {K : PySem.W.Frag} {Ca : Addr} {cd : ClassData} {vs : List V} {H : Hp} {Q : VK} {E : XK} {N : List Str} {f1 f2 f3 : Str}
theorem start_got {vs : List V} {i : Nat} {v : V} (h : vs[i]? = some v) : (start N vs)[i]? = some (some v) := by
  unfold start
  have hi : i < vs.length := (List.getElem?_eq_some_iff.mp h).1
  rw [List.getElem?_append_left (by simpa using hi), List.getElem?_map, h]; rfl
theorem run_init1 (Y : XCls K Ca cd) (n1 : PySem.W.findIn K (.ref Ca) f1 = some none) (h : spI Ca [f1] vs H Q E) :
    sX0 K (tVar 0) (tVar 1) f1 { nx := fun _ H' => Q .non H', rt := Q } (start N vs) H := by
  obtain ⟨e, args, rfl, hl, he, h⟩ := h
  match args, hl with
  | [v1], _ =>
    refine ⟨v1, start_got rfl, .ref e, start_got rfl, e, Ca, cd, rfl, he, Y, n1, fun dx nd => h dx _ nd upd_same ?_ fun b b1 b2 => ?_⟩
    · rw [upd_ne (fun z => by rw [z, he] at nd; cases nd), upd_same]; rfl
    · rw [upd_ne b1, upd_ne b2]
end

section
variable {K : PySem.W.Frag} {C : Cg} {t : TA} {f : Fn (List PV)} {Ca : Addr} {c : Str} {fs : List Str}
noncomputable def mRaise (c : Str) (fs : List Str) (f : Fn (List PV)) : Sn := fun ρ => bndS (f ρ) fun l => if l.length = fs.length then some (.ex (.exc c (fs.zip l))) else none
theorem MA.runS {ta : TA} {F H : Hp} {σ : St} {ρ : Rho} {D : Ends} {o : Out} {Q : List V → Hp → Prop} {k : List PV → Option Out} (h : MA K C ta f) (R : RE K C.toCf F H σ ρ) (hb : bndS (f ρ) k = some o) (P : PO' K C F D o)
    (go : ∀ l xs F1 H1, k l = some o → Up F H F1 H1 → Reps K F1 xs l → Q xs H1) : ta σ H Q := by
  rcases bndS_inv hb with ⟨z, e, rfl⟩ | ⟨p, e, hk⟩
  · exact h F H σ ρ Q _ R e P
  · exact h F H σ ρ Q _ R e fun xs F1 H1 u a => go p xs F1 H1 hk u a
theorem zip_fst {α β : Type} : ∀ {fs : List α} {l : List β}, l.length = fs.length → (fs.zip l).map (·.1) = fs
  | [], [], _ => rfl
  | f :: fs, x :: l, h => by simp only [List.zip_cons_cons, List.map_cons]; rw [zip_fst (by simpa using h)]
theorem ms_raise (hX : C.XR = XRS K) (nm : XNm K Ca c) (hz : fs.length ≤ sizeLine) (h : MA K C t f) : MS K C (tRaiseX Ca (spI Ca fs) C.E t) (mRaise c fs f) := by
  intro F H σ ρ D o R e P
  refine h.runS R e P fun l xs F1 H1 hk u a => ?_
  split at hk
  · rename_i hl
    cases hk
    refine ⟨by rw [a.1, hl]; exact hz, fun b nb => ⟨b, xs, rfl, by rw [a.1, hl], upd_same, fun dx H' nd h1 h2 h3 => ⟨rfl, dx, fs.zip xs, h1, h2, ?_, ?_⟩⟩⟩
    · intro z; subst z; rw [upd_same] at nd; cases nd
    · have ne : dx ≠ b := fun z => by subst z; rw [upd_same] at nd; cases nd
      have nd1 : H1 dx = none := by rw [upd_ne ne] at nd; exact nd
      have eq : upd (del H' b) dx (.xd (fs.zip xs)) = upd H1 dx (.xd (fs.zip xs)) := by
        funext g
        by_cases g1 : g = dx
        · subst g1; rw [upd_same, upd_same]
        · rw [upd_ne g1, upd_ne g1]
          by_cases g2 : g = b
          · subst g2; rw [del_same, nb]
          · rw [del_ne g2, h3 g g2 g1, upd_ne g2]
      rw [eq]
      have u2 : Up F1 H1 (upd F1 dx (.xd (fs.zip xs))) (upd H1 dx (.xd (fs.zip xs))) := Up.new u.fh nd1
      have ut := u.trans u2
      refine P (.ref Ca) (some dx) _ _ ut.ff (R.rb.up ut) ?_
      rw [hX]
      refine ⟨c, fs.zip l, Ca, dx, fs.zip xs, rfl, rfl, rfl, nm, upd_same, ?_, fun j x p e1 e2 => ?_⟩
      · rw [zip_fst (by rw [a.1, hl]), zip_fst hl]
      · have z1 := List.getElem?_zip_eq_some.mp e1
        have z2 := List.getElem?_zip_eq_some.mp e2
        exact (a.2 j _ _ z1.2 z2.2).up u2.ff
  · cases hk
end

noncomputable abbrev CE (K : PySem.W.Frag) (E : XK) (io : Addr → Prop) (H0 F0 : Hp) : Cg := ⟨⟨io, True, H0, F0, E⟩, XRS K⟩
section
variable {K : PySem.W.Frag} {N : List Str} {vs : List V} {H : Hp} {Q : VK} {E : XK} {t : TS} {b : Sn} {m : List PV → Option (Res PV)}
theorem run_fnXO {k n : Nat} (hk : N.length = k + n) (hm : ∀ ps r, m ps = some r → ps.length = k ∧ finO (b (startR ps n)) = some r) (h : spO K (XRS K) m vs H Q E) (hS : ∀ (io : Addr → Prop) (H0 F0 : Hp), (∀ a, ¬ io a) → MS K (CE K E io H0 F0) t b) :
    t { nx := fun _ H' => Q .non H', rt := Q } (start N vs) H := by
  obtain ⟨ps, F, r, s, rp, e, P⟩ := h
  obtain ⟨hl, e⟩ := hm ps r e
  have R := start_re (E := E) (N := N) (n := n) s rp (by rw [rp.1, hl]; exact hk)
  have up : ∀ {F' H' : Hp}, Same F F' → RB ⟨fun _ => False, True, H, F, E⟩ F' H' → Up F H F' H' := fun s' rb => ⟨s', fun c o q => rb.keep c o q id, rb.new, rb.sub⟩
  have M := hS (fun _ => False) H F (fun _ h => h)
  cases ho : b (startR ps n) with
  | none => rw [ho] at e; cases e
  | some o =>
    rw [ho] at e
    refine M F H _ _ _ o R ho ?_
    cases o with
    | ro p => cases e; exact fun a F' H' s' rb w n1 n2 => P a F' H' (up s' rb) n2 n1 w
    | rd p => cases e
    | ex z => cases e; exact fun ev d F' H' s' rb x => P ev d F' H' (up s' rb) x
    | nx ρ => cases e
    | rt p => cases e
    | bk ρ => cases e
    | ct ρ => cases e
variable {C : Cg} {ta : TA} {f : Fn (List PV)}
theorem mj_call0 (h : MA K C ta f) : MJ K C (aF K) (tCall (spM K XR0 m) [] E0 ta) (mCall m f) := by
  intro F H σ ρ Q r R e P
  refine h.run R e P fun l xs F1 H1 hk u a => ?_
  refine ⟨l, F1, r, u.fh, by rw [List.append_nil]; exact a, hk, ?_⟩
  cases r with
  | ok p => exact fun v F' H' u' rv => P v F' H' (u.trans u') rv
  | ex z => exact fun e d F' H' u' x => x.elim
end
section
variable {P : Program} {w : World} {K : PySem.W.Frag} {mg : Str → Option Value} {base : Heap}
theorem DefAt.okX {x : Str} {st : Stmt} {ps N : List Str} {k : Nat} {sp : Sp} (D : DefAt K mg x st ps) (S : FnScope N ps (defScope st)) (len : ∀ vs H Q E, sp vs H Q E → vs.length = ps.length)
    (hbody : ∀ (f : Addr) (cdv : Value) (A : Around) (outer : List Env) (s : Shared) (H : Hp) (vs : List V) (Q : VK) (E : XK), Room k (A.deeper (envOfC x (defScope st) s.heap.objs.size f cdv)) → sp vs H Q E →
      ∃ t, PSs (cxX P w K mg base N x (defScope st) f cdv A outer s H E) (defBody st) t ∧ t { nx := fun _ H' => Q .non H', rt := Q } (start N vs) H) : FnAtX P w K mg base x (k + 1) ps sp := by
  obtain ⟨f, fd, e, F, b⟩ := D.ex
  obtain ⟨oc, od, kV, doc, pm, an, cdv, ct, osl, rfl, lk, hcd⟩ := F.ex
  refine ⟨f, _, e, F.kp, b, fn_of lk hcd S len fun A outer s H vs Q E hr hsp => ?_⟩
  obtain ⟨t, h, q⟩ := hbody f cdv A outer s H vs Q E hr hsp
  exact ⟨t, PSs.ofX (fun e s' z => leaves z) h, q⟩
end
section
variable {X : Cx} {k : Nat} {ps : List Str} {sp : Sp} {x : Str} {p pos : Pos} {e : Expr} {es : List Expr} {t : TA} {E : XK}
end
end L2.MP

namespace L2.MP
open PySem PySem.Spec PyProof.Rows PySem.Calls PySem.W Builtin Builtin.ObjectAttr
theorem get_excB {prog : Program} {w : World} {A : Around} {E : Value → Shared → Prop} {s : Shared} {K : Frag} {x C : Addr} {ox : Obj} {od : Option Obj} {name : Str} {expr : Bool} {Q : Value → Shared → Prop} {v : Value} (X : K.In s.heap) (I : InstAt s.heap x ox C od) (hga : findIn K (.ref C) "__getattribute__" = some (some (.builtin "BaseException.__getattribute__")))
    (hgn : findIn K (.ref C) "__getattr__" = some none) (hb : subIn K (.ref C) (.type "BaseException") = some true)
    (hf : findObj K C od name = some (.value v)) (hh : handedIn v = true) (h : Q v { s with toks := s.toks + 1 }) : wpAny (model prog w) A (getAttr (.ref x) name expr) Q E s := by
  obtain ⟨hp, g, d, t, os⟩ := s
  have L0 := I.type (M := model prog w)
  have L1 := looks_findIn (M := model prog w) X hga
  have L2 := looks_findIn (M := model prog w) X hgn
  have L3 := looks_find (M := model prog w) X I hf
  have LB : Looks (model prog w) hp (isInstance (.ref x) (.type "BaseException")) true := L0.andThen (looks_subIn X hb)
  have f3 := PySem.F.attr_ValueError.ga.bind (.ref x)
  have hx0 : (expr && onTheHeap (Value.builtin "BaseException.__getattribute__")) = false := by cases expr <;> rfl
  have hx2 : (Value.builtin "BaseException.__getattribute__" == Value.builtin "object.__getattribute__") = false := by decide +kernel
  have hx1 : (onTheHeap (Value.ref C) && Value.builtin "BaseException.__getattribute__" == Value.builtin "object.__getattribute__") = false := by rw [hx2]; rfl
  unfold getAttr getAttrBy
  refine wpAny_bind (wpAny_mkText (wpAny_holding (wpAny_bind (L0.at (wpAny_bind (L1.at ?_))))))
  dsimp only
  repeat (any_goals (first | assumption | with_reducible refine L2.at ?_ | wp_step))
  have ha : argsOk "BaseException.__getattribute__" ⟨[.ref x, .str name t], []⟩ := by unfold argsOk; kernel_rfl
  refine codeAny_call_builtin PySem.F.attr_ValueError.ga.plain PySem.F.entry_bexc_ga (check_slot (i := "BaseException.__getattribute__") (owner := "BaseException") (n := "__getattribute__") (by decide +kernel) (by decide +kernel) LB ha ?_)
  unfold Builtin.«object.__getattribute__»
  repeat (any_goals (first | assumption | with_reducible refine L0.at ?_ | with_reducible refine L3.at ?_ | wp_step))
  show wpAny _ _ (handedOut v) _ _ _
  rw [handedOut_of hh]
  exact wpAny_pure h

theorem class_excB {prog : Program} {w : World} {A : Around} {E : Value → Shared → Prop} {s : Shared} {K : Frag} {x C : Addr} {ox : Obj} {od : Option Obj} {Q : Option Value → Shared → Prop} (X : K.In s.heap) (I : InstAt s.heap x ox C od) (hga : findIn K (.ref C) "__getattribute__" = some (some (.builtin "BaseException.__getattribute__")))
    (hgn : findIn K (.ref C) "__getattr__" = some none) (hb : subIn K (.ref C) (.type "BaseException") = some true)
    (hf : findObj K C od "__class__" = some (.bind (.builtin "getset_descriptor.__get__") (.builtin "object.__class__"))) (hm : mroIn K C (.type "object") = some true)
    (h : Q (some (.ref C)) { s with toks := s.toks + 1 }) : wpAny (model prog w) A (getAttr? (.ref x) "__class__") Q E s := by
  obtain ⟨hp, g, d, t, os⟩ := s
  have L0 := I.type (M := model prog w)
  have L1 := looks_findIn (M := model prog w) X hga
  have L2 := looks_findIn (M := model prog w) X hgn
  have L3 := looks_find (M := model prog w) X I hf
  have LB : Looks (model prog w) hp (isInstance (.ref x) (.type "BaseException")) true := L0.andThen (looks_subIn X hb)
  have f3 := PySem.F.attr_ValueError.ga.bind (.ref x)
  have hx2 : (Value.builtin "BaseException.__getattribute__" == Value.builtin "object.__getattribute__") = false := by decide +kernel
  have hx1 : (onTheHeap (Value.ref C) && Value.builtin "BaseException.__getattribute__" == Value.builtin "object.__getattribute__") = false := by rw [hx2]; rfl
  unfold getAttr? getAttrBy?
  repeat (any_goals (first | assumption | with_reducible refine L0.at ?_ | with_reducible refine L1.at ?_ | with_reducible refine L2.at ?_ | wp_step))
  have ha : argsOk "BaseException.__getattribute__" ⟨[.ref x, .str "__class__" t], []⟩ := by unfold argsOk; kernel_rfl
  refine codeAny_call_builtin PySem.F.attr_ValueError.ga.plain PySem.F.entry_bexc_ga (check_slot (i := "BaseException.__getattribute__") (owner := "BaseException") (n := "__getattribute__") (by decide +kernel) (by decide +kernel) LB ha ?_)
  unfold Builtin.«object.__getattribute__»
  repeat (any_goals (first | assumption | with_reducible refine L0.at ?_ | with_reducible refine L3.at ?_ | wp_step))
  refine class_get (ox := ox) (od := od) X I hm ?_
  repeat (any_goals (first | assumption | wp_step))
structure XI (K : Frag) (C : Addr) : Prop where
  ga : findIn K (.ref C) "__getattribute__" = some (some (.builtin "BaseException.__getattribute__"))
  gn : findIn K (.ref C) "__getattr__" = some none
  be : subIn K (.ref C) (.type "BaseException") = some true
  hd : hasDictIn K C = true
  cl : findIn K (.ref C) "__class__" = some (some (.builtin "object.__class__"))
  sp : specialIn K (.builtin "object.__class__") "__get__" = some (some (.builtin "getset_descriptor.__get__"))
  tk : takesIn K (.builtin "object.__class__") = some true
  ob : mroIn K C (.type "object") = some true
theorem kitx_exc {K : Frag} {x D : Addr} {ox od : Obj} (Y : XI K D) : KitX K (.ref x) (.ref D) (fun h => InstAt h x ox D (some od)) where
  ty := fun _ _ _ I => I.type
  it := fun _ _ X _ => by
    obtain ⟨cdD, hcD, _⟩ := any_some Y.hd
    unfold clsIn at hcD
    split at hcD
    · rename_i c' d' cd' sl' ho
      intro A' Q' E' s' k q
      unfold isType loadHead
      exact wpAny_bind (wpAny_loadPart (k _ _ (X _ _ ho)) (wpAny_pure q))
    · cases hcD
  ne := fun h tp dd its n sl X htp => by
    obtain ⟨cdD, hcD, _⟩ := any_some Y.hd
    refine Bool.eq_false_iff.mpr fun q => ?_
    have e : D = tp := Value.ref.inj (beq_iff_eq.mp q)
    subst e
    unfold clsIn at hcD
    split at hcD
    · rename_i c' d' cd' sl' ho
      have z := (X _ _ ho).symm.trans htp
      cases z
    · cases hcD
  ca := fun X I k => class_excB X I Y.ga Y.gn Y.be (findObj_data (by obtain ⟨cd, hc, _⟩ := any_some Y.hd; rw [hc]; rfl) Y.cl Y.sp Y.tk) Y.ob k
structure KCl (K : Frag) (T : Addr) : Prop where
  cls : ∃ oc od cd sl, K.lookup T = some ⟨oc, od, .cls cd, sl⟩
  ty : typeIn K (.ref T) = some (.type "type")
theorem kitOne_ref {K : Frag} {t : Value} {T : Addr} {b : Bool} (Y : KCl K T) (hs : subIn K t (.ref T) = some b) (hb : t = .ref T → b = true) : kitOne K t (.ref T) = some b := by
  unfold kitOne
  split
  · rename_i e
    rw [hb (beq_iff_eq.mp e)]
  · obtain ⟨oc, od, cd, sl, hl⟩ := Y.cls
    unfold kitCls
    dsimp only
    rw [if_pos (by unfold clsIn; rw [hl, Y.ty]; rfl)]
    exact hs
theorem kitOne_ty {K : Frag} {C : Addr} {T : String} {b : Bool} (hm : kitMeta T = true) (hs : subIn K (.ref C) (.type T) = some b) : kitOne K (.ref C) (.type T) = some b := by
  unfold kitOne
  rw [if_neg (by simp)]
  unfold kitCls
  dsimp only
  rw [if_pos hm]
  exact hs
theorem kitAny_nil {K : Frag} {t : Value} : kitAny K t [] = some false := rfl
theorem kitAny_no {K : Frag} {t c : Value} {r : List Value} {b : Bool} (h : kitOne K t c = some false) (hr : kitAny K t r = some b) : kitAny K t (c :: r) = some b := by
  unfold kitAny; rw [h]; exact hr
end L2.MP

namespace L2.MP
open PySem PySem.Spec PyProof.Rows

noncomputable def rIsX (K : PySem.W.Frag) (T : V) (Tv : Value) : List V → Hp → VK → Prop := fun xs H Q => ∃ x b, xs = [x, T] ∧ ((∃ a C dx fs, x = .ref a ∧ H a = some (XO a C (some dx)) ∧ H dx = some (.xd fs) ∧ XI K C ∧ PySem.W.kitOne K (.ref C) Tv = some b) ∨
  (x = .non ∧ PySem.W.kitOne K (.type "NoneType") Tv = some b)) ∧ Q (.bl b) H
noncomputable def rIsXT (K : PySem.W.Frag) (Ts : List Addr) : List V → Hp → VK → Prop := fun xs H Q => ∃ x tp b, xs = [x, .ref tp] ∧ SqT K H tp (Ts.map V.ref) ∧ ((∃ a C dx fs, x = .ref a ∧ H a = some (XO a C (some dx)) ∧ H dx = some (.xd fs) ∧ XI K C ∧ PySem.W.kitAny K (.ref C) (Ts.map Value.ref) = some b) ∨
  (x = .non ∧ PySem.W.kitAny K (.type "NoneType") (Ts.map Value.ref) = some b)) ∧ Q (.bl b) H
section
variable {X : Cx} {pins : List (Addr × Obj)} {σ : St} {H : Hp} {s : Shared}
theorem XO.inst (I : Inv X pins σ H s) {a C dx : Addr} {fs : List (Str × V)} (h : H a = some (XO a C (some dx))) (hd : H dx = some (.xd fs)) : ∃ ox od mA, PySem.W.InstAt s.heap a ox C (some od) ∧ s.heap.Ns1 dx mA ∧ (∀ f, RelO (fs.lookup f) (mA f)) ∧
    ∃ vs : Array Value, s.heap.get? a = some { cls := .ref C, dict := some dx, data := .fields vs } := by
  obtain ⟨vs, e⟩ := XO.at I h
  obtain ⟨mA, n, r⟩ := I.hok _ _ hd
  obtain ⟨od, ho, hl⟩ := lookIn_ns n
  exact ⟨_, od, mA, ⟨e, rfl, rfl, ho⟩, n, r, vs, e⟩
theorem call_isX {T : V} {Tv : Value} (hT : RelV T Tv) (hu : ∀ u, RelV T u → u = Tv) : CallR X (.builtin "isinstance") (rIsX X.K T Tv) := by
  intro pins s σ H xs us Q I rv h
  obtain ⟨x, b, rfl, h, q⟩ := h
  obtain ⟨u, v, rfl, ru, rv'⟩ := rv.two
  obtain rfl := hu v rv'
  have fin : ∀ tk, EP X pins σ Q (.bool b) { s with toks := tk } := fun tk => ⟨.bl b, H, I.tok _, rfl, q⟩
  rcases h with ⟨a, C, dx, fs, rfl, ha, hd, Y, e⟩ | ⟨rfl, e⟩
  · cases ru
    obtain ⟨ox, od, mA, J, _⟩ := XO.inst I ha hd
    exact PySem.W.kia_one (kitx_exc Y) I.kIn J e (fun z => nomatch z) fin
  · cases ru
    exact PySem.W.kia_one PySem.W.kitx_none I.kIn True.intro e (fun z => nomatch z) fin
theorem refs_vals : ∀ {Ts : List Addr} {us : List Value}, Vals (Ts.map V.ref) us → us = Ts.map Value.ref
  | [], us, h => by cases h; rfl
  | t :: Ts, us, h => by
    cases h with
    | cons r t => cases r; rw [refs_vals t]; rfl
theorem call_isXT {Ts : List Addr} : CallR X (.builtin "isinstance") (rIsXT X.K Ts) := by
  intro pins s σ H xs us Q I rv h
  obtain ⟨x, tp, b, rfl, hs, h, q⟩ := h
  obtain ⟨u, v, rfl, ru, rv'⟩ := rv.two
  cases rv'
  have fin : ∀ tk, EP X pins σ Q (.bool b) { s with toks := tk } := fun tk => ⟨.bl b, H, I.tok _, rfl, q⟩
  obtain ⟨its, r, ⟨⟨oc, dd, dt, sl⟩, e1, e2, n, e3⟩, _⟩ := I.tuple hs
  cases e2
  cases e3
  obtain rfl := refs_vals r
  rcases h with ⟨a, C, dx, fs, rfl, ha, hd, Y, e⟩ | ⟨rfl, e⟩
  · cases ru
    obtain ⟨ox, od, mA, J, _⟩ := XO.inst I ha hd
    exact PySem.W.kia_tup (kitx_exc Y) I.kIn J e1 e (fun z => nomatch z) fin
  · cases ru
    exact PySem.W.kia_tup PySem.W.kitx_none I.kIn True.intro e1 e (fun z => nomatch z) fin
noncomputable def tFldX (K : PySem.W.Frag) (te : TE) (f : Str) : TE := fun σ H Q => te σ H fun x H1 => ∃ a C dx fs v, x = .ref a ∧ H1 a = some (XO a C (some dx)) ∧ H1 dx = some (.xd fs) ∧ XI K C ∧ PySem.W.findIn K (.ref C) f = some none ∧ fs.lookup f = some v ∧ Q v H1
theorem pe_fldX {e : Expr} {te : TE} {f : Str} {pos : Pos} (he : PE X e te) (hb : attributeBase e f X.env (eval e X.env) = eval e X.env) : PE X (.Attribute e f pos) (tFldX X.K te f) := by
  intro pins s σ H Q I h
  refine attr_of hb (thn (he pins s σ H _ I h) fun u s1 ⟨x, H1, I1, rx, a, C, dx, fs, v, ex, ea, ed, Y, n, l, q⟩ => ?_)
  subst ex
  obtain rfl : u = Value.ref a := rx
  obtain ⟨ox, od, mA, J, n1, r, vs, hx⟩ := XO.inst I1 ea ed
  have rf := r f
  rw [l] at rf
  cases hv : mA f with
  | none => rw [hv] at rf; exact rf.elim
  | some u' =>
    rw [hv] at rf
    have rf : RelV v u' := rf
    obtain ⟨od2, ho2, hl2⟩ := lookIn_ns n1
    have J2 : PySem.W.InstAt s1.heap a _ C (some od2) := ⟨hx, rfl, rfl, ho2⟩
    exact get_excB I1.kIn J2 Y.ga Y.gn Y.be (PySem.W.findObj_own Y.hd n rfl (by rw [hl2, hv])) (handed_of rf) ⟨v, H1, I1.tok _, rf, q⟩
end

section
variable {K : PySem.W.Frag} {C : Cg} {te : TE} {f : Fn PV}
noncomputable def mIsX (sub : Str → Option Bool) (no : Bool) (f : Fn PV) : Fn PV := fun ρ => bnd (f ρ) fun p => match p with
  | .exc c (_ :: _) => (sub c).map fun b => .ok (.bl b)
  | .non => some (.ok (.bl no))
  | _ => none
theorem Rep.inv_exc {F : Hp} {v : V} {c : Str} {x : Str × PV} {l : List (Str × PV)} (h : Rep K F v (.exc c (x :: l))) : ∃ a Ca dx xs, v = .ref a ∧ XNm K Ca c ∧ F a = some (XO a Ca (some dx)) ∧ F dx = some (.xd xs) ∧ xs.map (·.1) = (x :: l).map (·.1) ∧ ∀ (j : Nat) y p, xs[j]? = some y → (x :: l)[j]? = some p → Rep K F y.2 p.2 := by
  generalize hq : PV.exc c (x :: l) = q at h
  cases h with
  | exc nm h1 h2 h3 h4 => cases hq; exact ⟨_, _, _, _, rfl, nm, h1, h2, h3, h4⟩
  | exc0 nm h1 => cases hq
  | _ => cases hq
noncomputable def SubX (K : PySem.W.Frag) (c : Str) (Tv : Value) (b : Bool) : Prop := ∃ Ca, PySem.W.nsIn K mainGlobals c = some (some (.ref Ca)) ∧ XI K Ca ∧ PySem.W.kitOne K (.ref Ca) Tv = some b
noncomputable def SubXT (K : PySem.W.Frag) (c : Str) (Ts : List Addr) (b : Bool) : Prop := ∃ Ca, PySem.W.nsIn K mainGlobals c = some (some (.ref Ca)) ∧ XI K Ca ∧ PySem.W.kitAny K (.ref Ca) (Ts.map Value.ref) = some b
theorem mj_isX {T : V} {Tv : Value} {sub : Str → Option Bool} {no : Bool} (hs : ∀ c b, sub c = some b → SubX K c Tv b) (hno : PySem.W.kitOne K (.type "NoneType") Tv = some no) (h : MJ K C (aH K) te f) :
    MJ K C (aF K) (tCB (rIsX K T Tv) (tCons te (tCons (tC T) tNil))) (mIsX sub no f) := by
  intro F H σ ρ Q r R e P
  refine h.run R e P fun p v F1 H1 hk u a => ?_
  show rIsX K T Tv [v, T] H1 Q
  split at hk
  · rename_i c x l
    obtain ⟨b, hb, rfl⟩ := Option.map_eq_some_iff.mp hk
    obtain ⟨Ca, n1, Y, k⟩ := hs c b hb
    obtain ⟨a', Ca', dx, xs, rfl, nm, h1, h2, _, _⟩ := Rep.inv_exc a
    rw [nm.ns] at n1; cases n1
    exact ⟨_, b, rfl, .inl ⟨a', Ca, dx, xs, rfl, h1, h2, Y, k⟩, P _ F1 H1 u .bl⟩
  · cases hk
    cases a
    exact ⟨_, no, rfl, .inr ⟨rfl, hno⟩, P _ F1 H1 u .bl⟩
  · cases hk
theorem mj_isXT {Ts : List Addr} {tt : TA} {sub : Str → Option Bool} {no : Bool} (hs : ∀ c b, sub c = some b → SubXT K c Ts b) (hno : PySem.W.kitAny K (.type "NoneType") (Ts.map Value.ref) = some no) (hz : Ts.length ≤ sizeLine)
    (ht : ∀ σ H QA, QA (Ts.map V.ref) H → tt σ H QA) (h : MJ K C (aH K) te f) :
    MJ K C (aF K) (tCB (rIsXT K Ts) (tCons te (tCons (tTup tt) tNil))) (mIsX sub no f) := by
  intro F H σ ρ Q r R e P
  refine h.run R e P fun p v F1 H1 hk u a => ?_
  refine ht _ _ _ ⟨by simpa using hz, fun tp htp => ?_⟩
  have u2 : Up F1 H1 F1 (upd H1 tp (.tup (Ts.map V.ref))) := Up.newU u.fh htp
  have ut := u.trans u2
  show rIsXT K Ts [v, .ref tp] _ Q
  have hs' : SqT K (upd H1 tp (.tup (Ts.map V.ref))) tp (Ts.map V.ref) := SqT.of upd_same
  split at hk
  · rename_i c x l
    obtain ⟨b, hb, rfl⟩ := Option.map_eq_some_iff.mp hk
    obtain ⟨Ca, n1, Y, k⟩ := hs c b hb
    obtain ⟨a', Ca', dx, xs, rfl, nm, h1, h2, _, _⟩ := Rep.inv_exc a
    rw [nm.ns] at n1; cases n1
    exact ⟨_, tp, b, rfl, hs', .inl ⟨a', Ca, dx, xs, rfl, u2.hh _ _ h1, u2.hh _ _ h2, Y, k⟩, P _ F1 _ ut .bl⟩
  · cases hk
    cases a
    exact ⟨_, tp, no, rfl, hs', .inr ⟨rfl, hno⟩, P _ F1 _ ut .bl⟩
  · cases hk
noncomputable def mFldX (names : Str → Bool) (g : Str) (f : Fn PV) : Fn PV := fun ρ => bnd (f ρ) fun p => match p with
  | .exc c (x :: l) => if names c = true then ((x :: l).lookup g).map .ok else none
  | _ => none
theorem lookup_pairs {K : PySem.W.Frag} {F : Hp} {g : Str} : ∀ {xs : List (Str × V)} {l : List (Str × PV)} {p : PV}, xs.map (·.1) = l.map (·.1) → (∀ (j : Nat) y q, xs[j]? = some y → l[j]? = some q → Rep K F y.2 q.2) → l.lookup g = some p → ∃ v, xs.lookup g = some v ∧ Rep K F v p
  | [], [], _, _, _, h => by simp at h
  | [], _ :: _, _, h, _, _ => by simp at h
  | _ :: _, [], _, h, _, _ => by simp at h
  | (k, v) :: xs, (k', q) :: l, p, h, r, e => by
    simp only [List.map_cons, List.cons.injEq] at h
    obtain ⟨rfl, h⟩ := h
    have r0 := r 0 (k, v) (k, q) rfl rfl
    by_cases hg : (g == k) = true
    · simp only [List.lookup, hg] at e ⊢
      cases e
      exact ⟨v, rfl, r0⟩
    · rw [Bool.not_eq_true] at hg
      simp only [List.lookup, hg] at e ⊢
      exact lookup_pairs h (fun j y q a b => r (j + 1) y q (by simpa using a) (by simpa using b)) e
theorem mj_fldX {names : Str → Bool} {g : Str} (hs : ∀ c, names c = true → ∃ Ca, PySem.W.nsIn K mainGlobals c = some (some (.ref Ca)) ∧ XI K Ca ∧ PySem.W.findIn K (.ref Ca) g = some none) (h : MJ K C (aF K) te f) : MJ K C (aF K) (tFldX K te g) (mFldX names g f) := by
  intro F H σ ρ Q r R e P
  refine h.run R e P fun p v F1 H1 hk u a => ?_
  split at hk
  · rename_i c x l
    split at hk
    · rename_i hc
      obtain ⟨p, hp, rfl⟩ := Option.map_eq_some_iff.mp hk
      obtain ⟨Ca, n1, Y, k⟩ := hs c hc
      obtain ⟨a', Ca', dx, xs, rfl, nm, h1, h2, h3, h4⟩ := Rep.inv_exc a
      rw [nm.ns] at n1; cases n1
      obtain ⟨v, hv, rv⟩ := lookup_pairs h3 h4 hp
      exact ⟨a', Ca, dx, xs, v, rfl, u.fh _ _ h1, u.fh _ _ h2, Y, k, hv, P v F1 H1 u rv⟩
    · cases hk
  · cases hk
end
section
variable {X : Cx} {x : Str} {T : Addr} {pos : Pos}
theorem pe_gR (hg : Gl X x) (h : X.mg x = some (.ref T)) (hd : (x == ("__debug__" : Str)) = false := by decide) : PE X (.Name x pos) (tC (.ref T)) := pe_glob hg h rfl hd
end
end L2.MP

namespace L2.MP
open PySem PySem.Spec PyProof.Rows
theorem xmk_of {K : PySem.W.Frag} {C f : Addr} {dd : Option Addr} {cd : ClassData} {k0 k1 k2 k3 k5 : Option Value} {bm : List Value}
    (l : K.lookup C = some ⟨.type "type", dd, .cls cd, #[k0, k1, k2, k3, some (.builtin "ValueError.__new__"), k5]⟩) (h1 : cd.hasDel = false) (h2 : cd.hasDict = true) (h3 : cd.mro = .ref C :: bm) (h4 : onlyVE bm = true)
    (sa : PySem.W.findIn K (.ref C) "__setattr__" = some (some (.builtin "object.__setattr__"))) (init : PySem.W.findIn K (.ref C) "__init__" = some (some (.ref f))) (fn : PySem.W.typeIn K (.ref f) = some (.type "function")) (kp : PySem.W.keepIn K (.ref C) = true) : XMk K C f cd := by
  refine ⟨⟨?_, by rw [h3]; exact h4, h2, sa⟩, ?_, init, fn, kp⟩
  · unfold PySem.W.clsIn; rw [l]
  · obtain ⟨nm, bs, mro, ns, q, hd, sn, sub, ab, col, hdel⟩ := cd
    dsimp only at h1 h2 h3
    subst h1 h2 h3
    exact ⟨nm, q, ns, bs, bm, sn, sub, ab, col, dd, k0, k1, k2, k3, k5, l, rfl⟩
theorem xnm_of {K : PySem.W.Frag} {C : Addr} {c : Str} {oc : Value} {dd : Option Addr} {cd : ClassData} {sl : Array (Option Value)} (n : PySem.W.nsIn K mainGlobals c = some (some (.ref C))) (l : K.lookup C = some ⟨oc, dd, .cls cd, sl⟩) (h : cd.name = c) : XNm K C c :=
  ⟨n, cd, by unfold PySem.W.clsIn; rw [l], h⟩
section
variable {P : Program} {w : World} {K : PySem.W.Frag} {mg : Str → Option Value} {base : Heap}
theorem raise_cxX {N : List Str} {x : Str} {sc : Scope} {f : Addr} {cdv : Value} {A : Around} {outer : List Env} {s0 : Shared} {H0 : Hp} {E : XK} :
    ∀ (pins : List (Addr × Obj)) (σ : St) (H : Hp) (s : Shared) (e : Addr) (C : Value) (d : Option Addr), Inv (cxX P w K mg base N x sc f cdv A outer s0 H0 E) pins σ H s → Fly (cxX P w K mg base N x sc f cdv A outer s0 H0 E) pins H s.heap e C d → E C d H →
      (cxX P w K mg base N x sc f cdv A outer s0 H0 E).xe (.ref e) s :=
  fun pins σ H s e C d I fl h => ⟨pins, σ, e, C, d, H, rfl, I.unwish, ⟨⟨fl.own.sz, fl.own.loc, fl.own.cl, fl.own.pn⟩, fl.nh, let ⟨oe, vs, a1, a2, a3, a4, a5, a6, a7⟩ := fl.ob; ⟨oe, vs, a1, a2, a3, a4, a5, a6, a7.imp id fun ⟨T, oT, ts, b1, b2, b3, b4⟩ => ⟨T, oT, ts, b1, b2, ⟨b3.sz, b3.loc, b3.cl, b3.pn⟩, b4⟩⟩⟩, h⟩
end
structure XUse (K : PySem.W.Frag) (mg : Str → Option Value) (c : Str) (fs : List Str) (C : Addr) : Prop where
  ex : ∃ f cd fd ps, XMk K C f cd ∧ Binds K fd ps [] ∧ ∀ (P : Program) (w : World) (base : Heap), FnOk P w K mg base CX0 1 f fd ps (spI C fs)
  nm : XNm K C c
  xi : XI K C
  mg : mg c = some (.ref C)
  fl : ∀ f ∈ fs, PySem.W.findIn K (.ref C) f = some none
section
variable {X : Cx} {c : Str} {fs : List Str} {C : Addr} {p pos rpos : Pos} {e : Expr} {es : List Expr} {t : TA} {E : XK} {k : Nat}
theorem ps_raiseU (U : XUse X.K X.mg c fs C) (hr : Room (k + 2) X.A) (hg : Gl X c)
    (hx : ∀ (pins : List (Addr × Obj)) (σ : St) (H : Hp) (s : Shared) (e : Addr) (C : Value) (d : Option Addr), Inv X pins σ H s → Fly X pins H s.heap e C d → E C d H → X.xe (.ref e) s)
    (ha : PA X (e :: es) t) (hdb : (c == ("__debug__" : Str)) = false := by decide) (he : starEach (e :: es) X.env = (false, eval e X.env) :: starEach es X.env := by rfl) (hpl : (backTo pos (starEach es X.env)).any (·.1) = false := by rfl) :
    PS X (.Raise (some (.Call (.Name c p) (e :: es) [] pos)) none rpos) (tRaiseX C (spI C fs) E t) := by
  obtain ⟨f, cd, fd, ps, Y, hb, F⟩ := U.ex
  exact ps_raiseX Y (F _ _ _) (hr.mono (by omega)) hg U.mg hb hr.hd hx ha hdb he hpl
theorem ms_raiseU {K : PySem.W.Frag} {mg : Str → Option Value} {C : Addr} {Cg' : Cg} {f : Fn (List PV)} (hX : Cg'.XR = XRS K) (U : XUse K mg c fs C) (hz : fs.length ≤ 1000) (h : MA K Cg' t f) : MS K Cg' (tRaiseX C (spI C fs) Cg'.E t) (mRaise c fs f) :=
  ms_raise hX U.nm (by rw [sizeLine_eq]; omega) h
theorem pe_fldXK (K : PySem.W.Frag) {f : Str} {te : TE} (hK : X.K = K) (he : PE X e te) (hb : attributeBase e f X.env (eval e X.env) = eval e X.env) : PE X (.Attribute e f pos) (tFldX K te f) := hK ▸ pe_fldX he hb
end
end L2.MP

namespace L2.MP
open PySem PySem.Spec PyProof PyProof.Rows
theorem e1_raise {c : Str} {fs : List Str} {f : Fn (List PV)} : Ends1 (mRaise c fs f) := fun ρ o e => by
  rcases bndS_inv e with ⟨z, _, rfl⟩ | ⟨a, _, h⟩
  · trivial
  · split at h
    · cases h; trivial
    · cases h
end L2.MP

namespace MM
open PySem PySem.Spec PyProof.Rows L2 L2.MP
noncomputable def Tv {α : Type} (x : Option (Res α)) (Q : α → Prop) : Prop := ∃ a, x = some (.ok a) ∧ Q a
noncomputable def Out.calm : Out → Prop
  | .ex _ => False
  | _ => True
noncomputable def To (x : Option Out) (Q : Out → Prop) : Prop := ∃ o, x = some o ∧ Out.calm o ∧ Q o
noncomputable def onNx (k : Rho → Prop) (Q : Out → Prop) : Out → Prop
  | .nx ρ => k ρ
  | o => Q o
section
variable {α β γ : Type} {Q : α → Prop} {QS : Out → Prop} {k : β → Prop} {f : Fn PV} {g h : Fn PV} {ρ : Rho} {a : β} {z p : PV} {i : Nat} {s t : Sn}
theorem onNx_nx {k : Rho → Prop} : onNx k QS (.nx ρ) = k ρ := rfl
theorem onNx_rt {k : Rho → Prop} : onNx k QS (.rt p) = QS (.rt p) := rfl
theorem onNx_ro {k : Rho → Prop} : onNx k QS (.ro p) = QS (.ro p) := rfl
theorem onNx_rd {k : Rho → Prop} : onNx k QS (.rd p) = QS (.rd p) := rfl
theorem onNx_bk {k : Rho → Prop} : onNx k QS (.bk ρ) = QS (.bk ρ) := rfl
theorem onNx_ct {k : Rho → Prop} : onNx k QS (.ct ρ) = QS (.ct ρ) := rfl
theorem tv_some {a : α} : Tv (some (.ok a)) Q = Q a := by
  refine propext ⟨fun ⟨r', e, q⟩ => ?_, fun q => ⟨a, rfl, q⟩⟩
  cases e; exact q
theorem to_nx : To (some (.nx ρ)) QS = QS (.nx ρ) := propext ⟨fun ⟨_, e, _, q⟩ => by cases e; exact q, fun q => ⟨_, rfl, trivial, q⟩⟩
theorem to_rt : To (some (.rt p)) QS = QS (.rt p) := propext ⟨fun ⟨_, e, _, q⟩ => by cases e; exact q, fun q => ⟨_, rfl, trivial, q⟩⟩
theorem to_ro : To (some (.ro p)) QS = QS (.ro p) := propext ⟨fun ⟨_, e, _, q⟩ => by cases e; exact q, fun q => ⟨_, rfl, trivial, q⟩⟩
theorem to_rd : To (some (.rd p)) QS = QS (.rd p) := propext ⟨fun ⟨_, e, _, q⟩ => by cases e; exact q, fun q => ⟨_, rfl, trivial, q⟩⟩
theorem to_bk : To (some (.bk ρ)) QS = QS (.bk ρ) := propext ⟨fun ⟨_, e, _, q⟩ => by cases e; exact q, fun q => ⟨_, rfl, trivial, q⟩⟩
theorem to_ct : To (some (.ct ρ)) QS = QS (.ct ρ) := propext ⟨fun ⟨_, e, _, q⟩ => by cases e; exact q, fun q => ⟨_, rfl, trivial, q⟩⟩
theorem tv_bnd {x : Option (Res β)} {kk : β → Option (Res α)} : Tv (bnd x kk) Q = Tv x (fun b => Tv (kk b) Q) := by
  refine propext ⟨fun ⟨r, e, q⟩ => ?_, fun ⟨b, e, q⟩ => ?_⟩
  · rcases bnd_inv e with ⟨z, e1, e2⟩ | ⟨b, e1, e2⟩
    · cases e2
    · exact ⟨_, e1, r, e2, q⟩
  · subst e; exact q
theorem to_bnd {x : Option (Res β)} {kk : β → Option Out} : To (bndS x kk) QS = Tv x (fun b => To (kk b) QS) := by
  refine propext ⟨fun ⟨r, e, c, q⟩ => ?_, fun ⟨b, e, q⟩ => ?_⟩
  · rcases bndS_inv e with ⟨z, e1, rfl⟩ | ⟨b, e1, e2⟩
    · exact c.elim
    · exact ⟨_, e1, r, e2, c, q⟩
  · subst e; exact q
theorem to_seq : To (mSeq s t ρ) QS = To (s ρ) (onNx (fun ρ' => To (t ρ') QS) QS) := by
  refine propext ⟨fun ⟨r, e, c, q⟩ => ?_, fun ⟨o, e, c, q⟩ => ?_⟩
  · unfold mSeq at e
    split at e
    · rename_i ρ' h
      exact ⟨_, h, trivial, r, e, c, q⟩
    · rename_i x hx
      refine ⟨r, e, c, ?_⟩
      cases r with
      | nx ρ' => exact absurd e (hx ρ')
      | _ => exact q
  · unfold mSeq To
    rw [e]
    cases o with
    | nx ρ' => exact q
    | _ => exact ⟨_, rfl, c, q⟩
theorem tv_none : Tv (none : Option (Res α)) Q = False := propext ⟨fun ⟨_, e, _⟩ => (nomatch e), fun h => h.elim⟩
theorem to_none : To none QS = False := propext ⟨fun ⟨_, e, _⟩ => (nomatch e), fun h => h.elim⟩
theorem tv_m2 {op : β → γ → Option (Res α)} {f : Fn β} {g : Fn γ} : Tv (m2 op f g ρ) Q = Tv (f ρ) (fun a => Tv (g ρ) (fun b => Tv (op a b) Q)) := by
  unfold m2
  simp only [tv_bnd]
theorem tv_m1 {op : β → Option (Res α)} {f : Fn β} : Tv (m1 op f ρ) Q = Tv (f ρ) (fun a => Tv (op a) Q) := by unfold m1; rw [tv_bnd]
theorem tv_var {Q : PV → Prop} : Tv (mV i ρ) Q = ∃ p, ρ[i]? = some (some (.sh p)) ∧ Q p := by
  refine propext ⟨fun ⟨r, e, q⟩ => ?_, fun ⟨p, e, q⟩ => ⟨_, by unfold mV; rw [e], q⟩⟩
  unfold mV at e
  split at e
  · rename_i p hp; cases e; exact ⟨_, hp, q⟩
  · cases e
theorem tv_lend {Q : PV → Prop} : Tv (mVL i ρ) Q = ∃ s, ρ[i]? = some (some s) ∧ (match s with | .sh p => Q p | .ow p => Q p | .dp _ => False) := by
  refine propext ⟨fun ⟨r, e, q⟩ => ?_, fun ⟨s, e, q⟩ => ?_⟩
  · unfold mVL at e
    split at e
    · rename_i p hp; cases e; exact ⟨_, hp, q⟩
    · rename_i p hp; cases e; exact ⟨_, hp, q⟩
    · cases e
  · cases s with
    | sh p => exact ⟨_, by unfold mVL; rw [e], q⟩
    | ow p => exact ⟨_, by unfold mVL; rw [e], q⟩
    | dp p => exact q.elim
theorem tv_c {Q : PV → Prop} : Tv (mC p ρ) Q = Q p := tv_some
theorem tv_view {Q : List PV → Prop} : Tv (mView f ρ) Q = Tv (f ρ) (fun a => Tv (asLst a) Q) := tv_bnd
theorem tv_viewN {Q : List PV → Prop} : Tv (mViewN i ρ) Q = Tv (mVL i ρ) (fun a => Tv (asLst a) Q) := tv_bnd
theorem tv_asLst {l : List PV} {Q : List PV → Prop} : Tv (asLst (.lst l)) Q = Q l := tv_some
theorem tv_nil {Q : List PV → Prop} : Tv (mNil ρ) Q = Q [] := tv_some
theorem tv_cons {g : Fn (List PV)} {Q : List PV → Prop} : Tv (mCons f g ρ) Q = Tv (f ρ) (fun a => Tv (g ρ) (fun l => Q (a :: l))) := by
  unfold mCons
  simp only [tv_bnd, tv_some]
theorem tv_if_some {c : Prop} [Decidable c] {a : α} : Tv (if c then some (.ok a) else none) Q = (c ∧ Q a) := by
  by_cases h : c
  · rw [if_pos h, tv_some]; simp [h]
  · rw [if_neg h, tv_none]; simp [h]
theorem tv_tup {f : Fn (List PV)} {Q : PV → Prop} : Tv (mTup f ρ) Q = Tv (f ρ) (fun l => l.length ≤ sizeLine ∧ Q (.tup l)) := by
  unfold mTup
  simp only [tv_bnd, tv_if_some]
theorem tv_lst {f : Fn (List PV)} {Q : PV → Prop} : Tv (mLst f ρ) Q = Tv (f ρ) (fun l => l.length ≤ sizeLine ∧ Q (.lst l)) := by
  unfold mLst
  simp only [tv_bnd, tv_if_some]
theorem tv_call {m : List PV → Option (Res PV)} {f : Fn (List PV)} {Q : PV → Prop} : Tv (mCall m f ρ) Q = Tv (f ρ) (fun l => Tv (m l) Q) := tv_bnd
theorem tv_ite {c : Prop} [Decidable c] {x y : Option (Res α)} : Tv (if c then x else y) Q = if c then Tv x Q else Tv y Q := by split <;> rfl
theorem to_ite {c : Prop} [Decidable c] {x y : Option Out} : To (if c then x else y) QS = if c then To x QS else To y QS := by split <;> rfl
theorem tv_mIf {c : Fn Bool} {f g : Fn α} : Tv (mIf c f g ρ) Q = Tv (c ρ) (fun b => if b = true then Tv (f ρ) Q else Tv (g ρ) Q) := by
  unfold mIf
  simp only [tv_bnd, tv_ite]
theorem tv_mAnd {c d : Fn Bool} {Q : Bool → Prop} : Tv (mAnd c d ρ) Q = Tv (c ρ) (fun b => if b = true then Tv (d ρ) Q else Q false) := by
  unfold mAnd
  simp only [tv_bnd, tv_ite, tv_some]
theorem tv_mOr {c d : Fn Bool} {Q : Bool → Prop} : Tv (mOr c d ρ) Q = Tv (c ρ) (fun b => if b = true then Q true else Tv (d ρ) Q) := by
  unfold mOr
  simp only [tv_bnd, tv_ite, tv_some]
theorem tv_mNot {c : Fn Bool} {Q : Bool → Prop} : Tv (mNot c ρ) Q = Tv (c ρ) (fun b => Q (!b)) := by
  unfold mNot
  simp only [tv_bnd, tv_some]
theorem tv_and {Q : PV → Prop} : Tv (mAndV f g ρ) Q = Tv (f ρ) (fun a => ∃ b, a = .bl b ∧ if b = true then Tv (g ρ) Q else Q (.bl false)) := by
  unfold mAndV
  rw [tv_bnd]
  congr 1; funext a
  refine propext ⟨fun ⟨r, e, q⟩ => ?_, fun ⟨b, e, q⟩ => ?_⟩
  · split at e
    · exact ⟨true, rfl, by rw [if_pos rfl]; exact ⟨r, e, q⟩⟩
    · cases e; exact ⟨false, rfl, by rw [if_neg (by decide)]; exact q⟩
    · cases e
  · subst e
    cases b with
    | true => rw [if_pos rfl] at q; exact q
    | false => rw [if_neg (by decide)] at q; exact ⟨_, rfl, q⟩
theorem tv_chain {o1 o2 : PV → PV → Option (Res PV)} {Q : PV → Prop} : Tv (mChain o1 o2 f g h ρ) Q = Tv (f ρ) (fun a => Tv (g ρ) (fun b => Tv (o1 a b) (fun z => ∃ t, z = .bl t ∧ if t = true then Tv (h ρ) (fun c => Tv (o2 b c) Q) else Q (.bl false)))) := by
  unfold mChain
  simp only [tv_bnd]
  congr 1; funext a
  congr 1; funext b
  congr 1; funext c
  refine propext ⟨fun ⟨r, e, q⟩ => ?_, fun ⟨t, e, q⟩ => ?_⟩
  · split at e
    · refine ⟨true, rfl, ?_⟩
      rw [if_pos rfl, ← tv_bnd]; exact ⟨r, e, q⟩
    · cases e; exact ⟨false, rfl, by rw [if_neg (by decide)]; exact q⟩
    · cases e
  · subst e
    cases t with
    | true => rw [if_pos rfl, ← tv_bnd] at q; exact q
    | false => rw [if_neg (by decide)] at q; exact ⟨_, rfl, q⟩
theorem tv_comp {it : Fn (List PV)} {fr : List (Option Nat)} {tg : PV → Rho → Option Rho} {tst : Fn Bool} {el : Fn PV} {Q : PV → Prop} : Tv (mComp it fr tg tst el ρ) Q = Tv (it ρ) (fun l => l.length ≤ sizeLine ∧ Tv (compL tg tst el (frR fr ρ) l) (fun r => Q (.lst r))) := by
  unfold mComp
  rw [tv_bnd]
  congr 1; funext l
  by_cases hl : l.length ≤ sizeLine
  · rw [if_pos hl, tv_bnd]
    simp only [tv_some, hl, true_and]
  · rw [if_neg hl, tv_none]; simp [hl]
theorem to_next : To (mNext ρ) QS = QS (.nx ρ) := to_nx
theorem to_ret : To (mRet f ρ) QS = Tv (f ρ) (fun p => QS (.rt p)) := by unfold mRet; simp only [to_bnd, to_rt]
theorem to_retO : To (mRetO f ρ) QS = Tv (f ρ) (fun p => QS (.ro p)) := by unfold mRetO; simp only [to_bnd, to_ro]
theorem to_setO : To (mSetO i f ρ) QS = Tv (f ρ) (fun p => QS (.nx (ρ.set i (some (.ow p))))) := by unfold mSetO; simp only [to_bnd, to_nx]
theorem to_asg {tg : PV → Rho → Option Rho} : To (mAsg f tg ρ) QS = Tv (f ρ) (fun p => ∃ ρ', tg p ρ = some ρ' ∧ QS (.nx ρ')) := by
  unfold mAsg
  rw [to_bnd]
  congr 1; funext a
  cases e : tg a ρ with
  | none => rw [to_none]; exact propext ⟨fun h => h.elim, fun ⟨_, z, _⟩ => nomatch z⟩
  | some ρ' => rw [to_nx]; exact propext ⟨fun q => ⟨ρ', rfl, q⟩, fun ⟨_, z, q⟩ => by cases z; exact q⟩
theorem to_asgN : To (mAsg f (gN i) ρ) QS = Tv (f ρ) (fun p => QS (.nx (ρ.set i (some (.sh p))))) := by
  rw [to_asg]
  congr 1; funext a
  exact propext ⟨fun ⟨ρ', e, q⟩ => by cases e; exact q, fun q => ⟨_, rfl, q⟩⟩
theorem to_if {c : Fn Bool} : To (mIfS c s t ρ) QS = Tv (c ρ) (fun b => if b = true then To (s ρ) QS else To (t ρ) QS) := by
  unfold mIfS
  simp only [to_bnd, to_ite]
theorem to_for {it : Fn (List PV)} {tg : PV → Rho → Option Rho} : To (mFor it tg s ρ) QS = Tv (it ρ) (fun l => To (loop tg s l ρ) QS) := to_bnd
theorem to_retOw : To (mRetOw i ρ) QS = ∃ p, ρ[i]? = some (some (.ow p)) ∧ QS (.ro p) := by
  refine propext ⟨fun ⟨r, e, c, q⟩ => ?_, fun ⟨p, e, q⟩ => ⟨.ro p, by unfold mRetOw ownAt; rw [e], trivial, q⟩⟩
  unfold mRetOw at e
  split at e
  · rename_i p hp; cases e; exact ⟨p, ownAt_eq hp, q⟩
  · cases e
theorem to_app : To (mApp i f ρ) QS = ∃ l, ρ[i]? = some (some (.ow (.lst l))) ∧ Tv (f ρ) (fun p => l.length < sizeLine ∧ QS (.nx (ρ.set i (some (.ow (.lst (l ++ [p]))))))) := by
  refine propext ⟨fun ⟨r, e, c, q⟩ => ?_, fun ⟨l, e, p, e1, h, q⟩ => ?_⟩
  · unfold mApp at e
    split at e
    · rename_i l hl
      refine ⟨l, ownAt_eq hl, ?_⟩
      rcases bndS_inv e with ⟨z, e1, rfl⟩ | ⟨p, e1, e2⟩
      · exact c.elim
      · split at e2
        · rename_i hlen; cases e2; exact ⟨_, e1, hlen, q⟩
        · cases e2
    · cases e
  · have eo : ownAt i ρ = some (.lst l) := by unfold ownAt; rw [e]
    unfold To mApp
    rw [eo]
    exact ⟨.nx _, by simp only [e1, bndS]; exact if_pos h, trivial, q⟩
theorem to_put {fi : Fn PV} : To (mPut i f fi ρ) QS = Tv (f ρ) (fun p => ∃ l, ρ[i]? = some (some (.ow (.lst l))) ∧ Tv (fi ρ) (fun k => ∃ n j, k = .int n ∧ ixN l.length n = some j ∧ QS (.nx (ρ.set i (some (.ow (.lst (l.set j p)))))))) := by
  unfold mPut
  rw [to_bnd]
  congr 1; funext p
  refine propext ⟨fun ⟨r, e, c, q⟩ => ?_, fun ⟨l, e, k, e1, n, j, ek, hj, q⟩ => ?_⟩
  · split at e
    · rename_i l hl
      refine ⟨l, ownAt_eq hl, ?_⟩
      rcases bndS_inv e with ⟨z, e1, rfl⟩ | ⟨k, e1, e2⟩
      · exact c.elim
      · split at e2
        · rename_i n
          split at e2
          · rename_i j hj; cases e2; exact ⟨_, e1, n, j, rfl, hj, q⟩
          · cases e2
        · cases e2
    · cases e
  · subst ek
    have eo : ownAt i ρ = some (.lst l) := by unfold ownAt; rw [e]
    show To (match ownAt i ρ with | some (.lst l) => _ | _ => none) QS
    rw [eo]
    exact ⟨.nx _, by simp only [e1, bndS, hj], trivial, q⟩
theorem to_frz : To (mFrz i s ρ) QS = To (s (frzR i ρ)) QS := rfl
theorem tv_opI {c : Int → Int → Bool} {F : Int → Int → PV} {x y : Int} {Q : PV → Prop} : Tv (MP.opI c F (.int x) (.int y)) Q = (c x y = true ∧ Q (F x y)) := tv_if_some
theorem tv_sub {x y : Int} {Q : PV → Prop} : Tv (opSub (.int x) (.int y)) Q = Q (.int (x - y)) := by unfold opSub; rw [tv_opI]; simp [cT]
theorem tv_gt {x y : Int} {Q : PV → Prop} : Tv (opGt (.int x) (.int y)) Q = Q (.bl (decide (y < x))) := by unfold opGt; rw [tv_opI]; simp [cT]
theorem tv_ge {x y : Int} {Q : PV → Prop} : Tv (opGe (.int x) (.int y)) Q = Q (.bl (decide (y ≤ x))) := by unfold opGe; rw [tv_opI]; simp [cT]
theorem tv_div {x y : Int} {Q : PV → Prop} : Tv (opDiv (.int x) (.int y)) Q = ((0 < y ∧ y < 1073741824) ∧ Q (.int (x / y))) := by unfold opDiv; rw [tv_opI]; simp [cDiv]
theorem tv_mod {x y : Int} {Q : PV → Prop} : Tv (opMod (.int x) (.int y)) Q = (0 < y ∧ Q (.int (x % y))) := by unfold opMod; rw [tv_opI]; simp [cMod]
theorem tv_pow {x y : Int} {Q : PV → Prop} : Tv (opPow (.int x) (.int y)) Q = ((0 ≤ y ∧ y ≤ 1000000 ∧ x.natAbs < 2 ^ 64) ∧ Q (.int (x ^ y.toNat))) := by unfold opPow; rw [tv_opI]; simp [cPow]
theorem tv_add {x y : Int} {Q : PV → Prop} : Tv (opAdd (.int x) (.int y)) Q = Q (.int (x + y)) := tv_some
theorem tv_addS {x y : Str} {Q : PV → Prop} : Tv (opAdd (.str x) (.str y)) Q = (x.length + y.length ≤ sizeLine ∧ Q (.str (x ++ y))) := tv_if_some
theorem tv_addT {x y : List PV} {Q : PV → Prop} : Tv (opAdd (.tup x) (.tup y)) Q = ((x ≠ [] ∧ x.length + y.length ≤ sizeLine) ∧ Q (.tup (x ++ y))) := tv_if_some
theorem tv_mul {x y : Int} {Q : PV → Prop} : Tv (opMul (.int x) (.int y)) Q = (CMul x y ∧ Q (.int (x * y))) := by
  show Tv (if cMul x y = true then _ else none) Q = _
  rw [tv_if_some]
  unfold cMul CMul
  simp
theorem tv_mulS {z : Str} {n : Int} {Q : PV → Prop} : Tv (opMul (.str z) (.int n)) Q = ((-(2 ^ 63) ≤ n ∧ n < 2 ^ 63 ∧ z.length * n.toNat ≤ sizeLine) ∧ Q (.str (repS z n.toNat))) := tv_if_some
theorem tv_lt {x y : Int} {Q : PV → Prop} : Tv (opLt (.int x) (.int y)) Q = Q (.bl (decide (x < y))) := tv_some
theorem tv_ltS {x y : Str} {Q : PV → Prop} : Tv (opLt (.str x) (.str y)) Q = Q (.bl (decide (x.cps.toList < y.cps.toList))) := tv_some
theorem tv_le {x y : Int} {Q : PV → Prop} : Tv (opLe (.int x) (.int y)) Q = Q (.bl (decide (x ≤ y))) := tv_some
theorem tv_leS {x y : Str} {Q : PV → Prop} : Tv (opLe (.str x) (.str y)) Q = Q (.bl (!(decide (y.cps.toList < x.cps.toList)))) := tv_some
theorem tv_eq {p q : PV} {Q : PV → Prop} : Tv (opEq p q) Q = ∃ r, eqF 32 p q = some r ∧ Q (.bl r) := by
  refine propext ⟨fun ⟨r, e, k⟩ => ?_, fun ⟨r, e, k⟩ => ⟨_, by unfold opEq; rw [e], k⟩⟩
  unfold opEq at e
  split at e
  · rename_i b hb; cases e; exact ⟨b, hb, k⟩
  · cases e
theorem tv_ne {p q : PV} {Q : PV → Prop} : Tv (opNe p q) Q = ∃ r, eqF 32 p q = some r ∧ Q (.bl (!r)) := by
  refine propext ⟨fun ⟨r, e, k⟩ => ?_, fun ⟨r, e, k⟩ => ⟨_, by unfold opNe; rw [e], k⟩⟩
  unfold opNe at e
  split at e
  · rename_i b hb; cases e; exact ⟨b, hb, k⟩
  · cases e
theorem eqF_int (n : Nat) (i j : Int) : eqF n (.int i) (.int j) = some (decide (i = j)) := by cases n <;> rfl
theorem eqF_str (n : Nat) (i j : Str) : eqF n (.str i) (.str j) = some (decide (i = j)) := by cases n <;> rfl
theorem eqF_bl (n : Nat) (i j : Bool) : eqF n (.bl i) (.bl j) = some (decide (i = j)) := by cases n <;> rfl
theorem tv_eqI {x y : Int} {Q : PV → Prop} : Tv (opEq (.int x) (.int y)) Q = Q (.bl (decide (x = y))) := by rw [tv_eq, eqF_int]; simp
theorem tv_eqS {x y : Str} {Q : PV → Prop} : Tv (opEq (.str x) (.str y)) Q = Q (.bl (decide (x = y))) := by rw [tv_eq, eqF_str]; simp
theorem tv_neI {x y : Int} {Q : PV → Prop} : Tv (opNe (.int x) (.int y)) Q = Q (.bl (!decide (x = y))) := by rw [tv_ne, eqF_int]; simp
theorem tv_neS {x y : Str} {Q : PV → Prop} : Tv (opNe (.str x) (.str y)) Q = Q (.bl (!decide (x = y))) := by rw [tv_ne, eqF_str]; simp
theorem tv_in {p q : PV} {Q : PV → Prop} : Tv (opIn p q) Q = ∃ r, inU p q = some r ∧ Q (.bl r) := by
  refine propext ⟨fun ⟨r, e, k⟩ => ?_, fun ⟨r, e, k⟩ => ⟨_, by unfold opIn; rw [e], k⟩⟩
  unfold opIn at e
  split at e
  · rename_i b hb; cases e; exact ⟨b, hb, k⟩
  · cases e
theorem tv_notin {p q : PV} {Q : PV → Prop} : Tv (opNotin p q) Q = ∃ r, inU p q = some r ∧ Q (.bl (!r)) := by
  refine propext ⟨fun ⟨r, e, k⟩ => ?_, fun ⟨r, e, k⟩ => ⟨_, by unfold opNotin; rw [e], k⟩⟩
  unfold opNotin at e
  split at e
  · rename_i b hb; cases e; exact ⟨b, hb, k⟩
  · cases e
theorem tv_isN {p : PV} {Q : PV → Prop} : Tv (opIsN p .non) Q = Q (.bl p.isNon) := tv_some
theorem tv_notN {p : PV} {Q : PV → Prop} : Tv (opNotN p .non) Q = Q (.bl (!p.isNon)) := tv_some
theorem tv_ofO {x : Option PV} {Q : PV → Prop} : Tv (ofO x) Q = ∃ p, x = some p ∧ Q p := by
  refine propext ⟨fun ⟨r, e, k⟩ => ?_, fun ⟨p, e, k⟩ => ⟨_, by subst e; rfl, k⟩⟩
  obtain ⟨p, e1, e2⟩ := ofO_inv e
  cases e2
  exact ⟨_, e1, k⟩
theorem tv_ixL {l : List PV} {n : Int} {Q : PV → Prop} : Tv (opIx (.lst l) (.int n)) Q = ∃ p, atI l n = some p ∧ Q p := tv_ofO
theorem tv_ixT {l : List PV} {n : Int} {Q : PV → Prop} : Tv (opIx (.tup l) (.int n)) Q = ∃ p, atI l n = some p ∧ Q p := tv_ofO
theorem tv_ixV {l : List PV} {n : Int} {Q : PV → Prop} : Tv (opIxV l (.int n)) Q = ∃ p, atI l n = some p ∧ Q p := tv_ofO
theorem tv_ixS {z : Str} {n : Int} {Q : PV → Prop} : Tv (opIx (.str z) (.int n)) Q = (z.length ≤ sizeLine ∧ ∃ c, atI z.cps.toList n = some c ∧ Q (.str ⟨#[c]⟩)) := by
  show Tv (if z.length ≤ sizeLine then _ else none) Q = _
  by_cases hz : z.length ≤ sizeLine
  · rw [if_pos hz, tv_ofO]
    simp only [hz, true_and]
    refine propext ⟨fun ⟨p, e, k⟩ => ?_, fun ⟨c, e, k⟩ => ⟨_, by rw [e]; rfl, k⟩⟩
    cases e1 : atI z.cps.toList n with
    | none => rw [e1] at e; cases e
    | some c => rw [e1] at e; cases e; exact ⟨c, rfl, k⟩
  · rw [if_neg hz]
    exact propext ⟨fun ⟨r, e, q⟩ => (nomatch e), fun ⟨z, _⟩ => absurd z hz⟩
theorem tv_lenS {z : Str} {Q : PV → Prop} : Tv (opLen (.str z)) Q = (z.length ≤ sizeLine ∧ Q (.int z.length)) := tv_if_some
theorem tv_lenL {l : List PV} {Q : PV → Prop} : Tv (opLen (.lst l)) Q = Q (.int l.length) := tv_some
theorem tv_lenT {l : List PV} {Q : PV → Prop} : Tv (opLen (.tup l)) Q = Q (.int l.length) := tv_some
theorem tv_is {T : String} {Q : PV → Prop} : Tv (opIs p (.ty T)) Q = ∃ b, isI p T = some b ∧ Q (.bl b) := by
  refine propext ⟨fun ⟨r, e, k⟩ => ?_, fun ⟨r, e, k⟩ => ⟨_, by unfold opIs; simp only [e], k⟩⟩
  unfold opIs at e
  simp only at e
  split at e
  · rename_i b hb; cases e; exact ⟨b, hb, k⟩
  · cases e
theorem tv_asBl {b : Bool} {Q : Bool → Prop} : Tv (asBl (.bl b)) Q = Q b := tv_some
theorem tv_not {b : Bool} {Q : PV → Prop} : Tv (opNot (.bl b)) Q = Q (.bl (!b)) := tv_some
theorem tv_opTup {l : List PV} {Q : PV → Prop} : Tv (opTup l) Q = Q (.tup l) := tv_some
theorem tv_cat {l m : List PV} {Q : PV → Prop} : Tv (opCat l m) Q = (l.length + m.length ≤ sizeLine ∧ Q (.lst (l ++ m))) := tv_if_some
theorem tv_asSeqL {l : List PV} {Q : List PV → Prop} : Tv (asSeq (.lst l)) Q = Q l := tv_some
theorem tv_asSeqT {l : List PV} {Q : List PV → Prop} : Tv (asSeq (.tup l)) Q = Q l := tv_some
theorem tv_asSeqS {z : Str} {Q : List PV → Prop} : Tv (asSeq (.str z)) Q = Q (signs z) := tv_some
theorem tv_rng1 {j : Int} {Q : List PV → Prop} : Tv (asRng1 [.int j]) Q = ((-(2 ^ 62) ≤ j ∧ j < 2 ^ 62) ∧ Q (rngP 0 j.toNat)) := tv_if_some
theorem tv_enum {l : List PV} {Q : List PV → Prop} : Tv (asEnum [.lst l]) Q = Q (enumP l) := tv_some
theorem tv_pn {Q : Option Int → Prop} : Tv (mPn ρ) Q = Q none := tv_some
theorem tv_asInt {x : Int} {Q : Option Int → Prop} : Tv (asInt (.int x)) Q = Q (some x) := tv_some
theorem tv_slL {f : Fn (List PV)} {lo hi : Fn (Option Int)} {Q : PV → Prop} : Tv (mSlL f lo hi ρ) Q = Tv (f ρ) (fun l => Tv (lo ρ) (fun a => Tv (hi ρ) (fun b => Q (.lst (cutP l a b))))) := by
  unfold mSlL
  simp only [tv_bnd, tv_some]
theorem tv_opSlT {l : List PV} {a b : Option Int} {Q : PV → Prop} : Tv (opSlT a b (.tup l)) Q = (¬ (HT.sIx l.length 0 a = 0 ∧ HT.sIx l.length l.length b = l.length) ∧ Q (.tup (cutP l a b))) := tv_if_some
theorem tv_slT {lo hi : Fn (Option Int)} {Q : PV → Prop} : Tv (mSlT f lo hi ρ) Q = Tv (f ρ) (fun z => Tv (lo ρ) (fun a => Tv (hi ρ) (fun b => Tv (opSlT a b z) Q))) := by
  unfold mSlT
  simp only [tv_bnd]
theorem tv_opJoin {z : Str} {l : List PV} {Q : PV → Prop} : Tv (opJoin z l) Q = ∃ ys, asStrs l = some ys ∧ (ys.map (·.length)).sum + ys.length * z.length ≤ 16777216 ∧ Q (.str (Txt.join z ys)) := by
  unfold opJoin
  cases e : asStrs l with
  | none => simp only; rw [tv_none]; exact propext ⟨fun h => h.elim, fun ⟨_, z, _⟩ => nomatch z⟩
  | some ys => simp only; rw [tv_if_some]; exact propext ⟨fun h => ⟨ys, rfl, h⟩, fun ⟨_, z, h⟩ => by cases z; exact h⟩
theorem tv_join {g : Fn (List PV)} {Q : PV → Prop} : Tv (mJoin f g ρ) Q = Tv (f ρ) (fun a => ∃ z, a = .str z ∧ Tv (g ρ) (fun l => Tv (opJoin z l) Q)) := by
  unfold mJoin
  rw [tv_bnd]
  congr 1; funext a
  cases a with
  | str z => simp only; rw [tv_bnd]; exact propext ⟨fun h => ⟨z, rfl, h⟩, fun ⟨_, e, h⟩ => by cases e; exact h⟩
  | _ => simp only; rw [tv_none]; exact propext ⟨fun h => h.elim, fun ⟨_, e, _⟩ => nomatch e⟩
theorem tv_all {l : List PV} {Q : PV → Prop} : Tv (opAll l) Q = ∃ bs, asBools l = some bs ∧ Q (.bl (bs.all id)) := by
  refine propext ⟨fun ⟨r, e, k⟩ => ?_, fun ⟨r, e, k⟩ => ⟨_, by unfold opAll; rw [e], k⟩⟩
  unfold opAll at e
  split at e
  · rename_i b hb; cases e; exact ⟨b, hb, k⟩
  · cases e
end
section
variable {QS : Out → Prop} {Q : PV → Prop} {ρ : Rho} {i j : Nat} {f g : Fn PV} {z y : Str}
theorem tv_split : Tv (mSplit f g ρ) Q = Tv (f ρ) (fun a => ∃ z, a = .str z ∧ Tv (g ρ) (fun b => Tv (opSplit (.str z) b) Q)) := by
  unfold mSplit
  rw [tv_bnd]
  congr 1; funext a
  cases a with
  | str z => simp only; rw [tv_bnd]; exact propext ⟨fun h => ⟨z, rfl, h⟩, fun ⟨_, e, h⟩ => by cases e; exact h⟩
  | _ => simp only; rw [tv_none]; exact propext ⟨fun h => h.elim, fun ⟨_, e, _⟩ => nomatch e⟩
theorem tv_opSplit : Tv (opSplit (.str z) (.str y)) Q = (((y.length == 0) = false ∧ z.length ≤ sizeLine ∧ (Txt.split z y).length ≤ sizeLine) ∧ Q (.lst ((Txt.split z y).map PV.str))) := tv_if_some
theorem finIO_nx {p : PV} : (finIO j (some (.nx ρ)) = some (.ok p)) = (ρ[j]? = some (some (.ow p))) := by
  show ((match ownAt j ρ with | some p => some (Res.ok p) | none => none) = some (.ok p)) = _
  cases h : ownAt j ρ with
  | none => exact propext ⟨fun e => (nomatch e), fun e => by unfold ownAt at h; rw [e] at h; cases h⟩
  | some q => exact propext ⟨fun e => by cases e; exact ownAt_eq h, fun e => by rw [ownAt_eq h] at e; cases e; rfl⟩
end
noncomputable def turn (I : Rho → Prop) (QS : Out → Prop) : Out → Prop
  | .nx ρ => I ρ
  | .ct ρ => I ρ
  | .bk ρ => QS (.nx ρ)
  | o => QS o
theorem turn_nx {I : Rho → Prop} {QS : Out → Prop} {ρ : Rho} : turn I QS (.nx ρ) = I ρ := rfl
theorem turn_ct {I : Rho → Prop} {QS : Out → Prop} {ρ : Rho} : turn I QS (.ct ρ) = I ρ := rfl
theorem turn_bk {I : Rho → Prop} {QS : Out → Prop} {ρ : Rho} : turn I QS (.bk ρ) = QS (.nx ρ) := rfl
theorem turn_rt {I : Rho → Prop} {QS : Out → Prop} {p : PV} : turn I QS (.rt p) = QS (.rt p) := rfl
theorem turn_ro {I : Rho → Prop} {QS : Out → Prop} {p : PV} : turn I QS (.ro p) = QS (.ro p) := rfl
theorem turn_rd {I : Rho → Prop} {QS : Out → Prop} {p : PV} : turn I QS (.rd p) = QS (.rd p) := rfl
theorem to_loop {tg : PV → Rho → Option Rho} {body : Sn} {QS : Out → Prop} (I : Nat → Rho → Prop) : ∀ {l : List PV} {ρ : Rho}, I 0 ρ →
    (∀ (i : Nat) x ρ, l[i]? = some x → I i ρ → ∃ ρ1, tg x ρ = some ρ1 ∧ To (body ρ1) (turn (I (i + 1)) QS)) →
    (∀ ρ', I l.length ρ' → QS (.nx ρ')) → To (loop tg body l ρ) QS := by
  intro l
  induction l generalizing I with
  | nil => exact fun h0 _ hd => ⟨_, rfl, trivial, hd _ h0⟩
  | cons x xs ih =>
    intro ρ h0 hs hd
    obtain ⟨ρ1, e1, o, e2, c, q⟩ := hs 0 x ρ rfl h0
    unfold To
    rw [loop, e1]
    simp only [e2]
    cases o with
    | nx ρ2 => exact ih (fun i => I (i + 1)) q (fun i y ρ e => hs (i + 1) y ρ (by simpa using e)) hd
    | ct ρ2 => exact ih (fun i => I (i + 1)) q (fun i y ρ e => hs (i + 1) y ρ (by simpa using e)) hd
    | bk ρ2 => exact ⟨_, rfl, trivial, q⟩
    | rt p => exact ⟨_, rfl, trivial, q⟩
    | ro p => exact ⟨_, rfl, trivial, q⟩
    | rd p => exact ⟨_, rfl, trivial, q⟩
    | ex z => exact c.elim
theorem hideQ {x : Option Out} {Q : Out → Prop} (h : ∀ QS : Out → Prop, (∀ o, Q o → QS o) → To x QS) : To x Q := h _ fun _ h => h
theorem to_loopN {j : Nat} {body : Sn} {QS : Out → Prop} (I : Nat → Rho → Prop) {l : List PV} {ρ : Rho} (h0 : I 0 ρ)
    (hs : ∀ (i : Nat) x ρ, l[i]? = some x → I i ρ → To (body (ρ.set j (some (.sh x)))) (turn (I (i + 1)) QS)) (hd : ∀ ρ', I l.length ρ' → QS (.nx ρ')) : To (loop (gN j) body l ρ) QS :=
  to_loop I h0 (fun i x ρ e hI => ⟨_, rfl, hs i x ρ e hI⟩) hd
theorem to_loopE {a b : Nat} {body : Sn} {QS : Out → Prop} (I : Nat → Rho → Prop) {l : List PV} {ρ : Rho} (h0 : I 0 ρ)
    (hs : ∀ (i : Nat) x ρ, l[i]? = some x → I i ρ → To (body ((ρ.set a (some (.sh (.int i)))).set b (some (.sh x)))) (turn (I (i + 1)) QS)) (hd : ∀ ρ', I l.length ρ' → QS (.nx ρ')) : To (loop (gT 2 (gsCons (gN a) (gsCons (gN b) gsNil))) body (enumP l) ρ) QS := by
  have hl : (enumP l).length = l.length := by simp [enumP]
  refine to_loop I h0 (fun i x ρ e hI => ?_) fun ρ' => by rw [hl]; exact hd ρ'
  unfold enumP at e
  rw [List.getElem?_mapIdx] at e
  cases h : l[i]? with
  | none => rw [h] at e; cases e
  | some y =>
    rw [h] at e
    cases e
    exact ⟨_, rfl, hs i y ρ h hI⟩
theorem fin_of {x : Option Out} {r : Res PV} (h : To x fun o => fin (some o) = some r) : fin x = some r := by
  obtain ⟨o, e, _, q⟩ := h
  rw [e]; exact q
theorem finO_of {x : Option Out} {r : Res PV} (h : To x fun o => finO (some o) = some r) : finO x = some r := by
  obtain ⟨o, e, _, q⟩ := h
  rw [e]; exact q
theorem ex_fin {x : Option Out} {P : PV → Prop} (h : To x fun o => ∃ p, fin (some o) = some (.ok p) ∧ P p) : ∃ p, fin x = some (.ok p) ∧ P p := by
  obtain ⟨o, e, _, q⟩ := h
  rw [e]; exact q
theorem ex_finO {x : Option Out} {P : PV → Prop} (h : To x fun o => ∃ p, finO (some o) = some (.ok p) ∧ P p) : ∃ p, finO x = some (.ok p) ∧ P p := by
  obtain ⟨o, e, _, q⟩ := h
  rw [e]; exact q
theorem fin_nx {ρ : Rho} : fin (some (.nx ρ)) = some (.ok .non) := rfl
theorem fin_rt {p : PV} : fin (some (.rt p)) = some (.ok p) := rfl
theorem finO_ro {p : PV} : finO (some (.ro p)) = some (.ok p) := rfl
theorem compL_of {tg : PV → Rho → Option Rho} {tst : Fn Bool} {el : Fn PV} {ρb : Rho} (t : PV → Bool) (f : PV → PV) : ∀ (l : List PV),
    (∀ x ∈ l, ∃ ρ1, tg x ρb = some ρ1 ∧ tst ρ1 = some (.ok (t x)) ∧ (t x = true → el ρ1 = some (.ok (f x)))) → compL tg tst el ρb l = some (.ok ((l.filter t).map f))
  | [], _ => rfl
  | x :: xs, h => by
    obtain ⟨ρ1, e1, e2, e3⟩ := h x List.mem_cons_self
    have ih := compL_of t f xs fun y hy => h y (List.mem_cons_of_mem _ hy)
    rw [compL, e1]
    simp only [e2, bnd]
    cases ht : t x with
    | true => rw [if_pos rfl, e3 ht]; simp only [ih, List.filter_cons, ht, if_true, List.map_cons]
    | false => rw [if_neg (by decide)]; simp only [ih, List.filter_cons, ht, Bool.false_eq_true, if_false]
theorem compL_map {tg : PV → Rho → Option Rho} {el : Fn PV} {ρb : Rho} (f : PV → PV) (l : List PV) (h : ∀ x ∈ l, ∃ ρ1, tg x ρb = some ρ1 ∧ el ρ1 = some (.ok (f x))) : compL tg mYes el ρb l = some (.ok (l.map f)) := by
  have := compL_of (tg := tg) (tst := mYes) (el := el) (ρb := ρb) (fun _ => true) f l fun x hx => let ⟨ρ1, a, b⟩ := h x hx; ⟨ρ1, a, rfl, fun _ => b⟩
  rwa [List.filter_eq_self.mpr fun _ _ => rfl] at this
theorem tv_compN {tg : PV → Rho → Option Rho} {tst : Fn Bool} {el : Fn PV} {ρb : Rho} {Q : List PV → Prop} : Tv (compL tg tst el ρb []) Q = Q [] := tv_some
theorem tv_compC {j : Nat} {tst : Fn Bool} {el : Fn PV} {ρb : Rho} {x : PV} {xs : List PV} {Q : List PV → Prop} : Tv (compL (gN j) tst el ρb (x :: xs)) Q =
    Tv (tst (ρb.set j (some (.sh x)))) (fun b => if b = true then Tv (el (ρb.set j (some (.sh x)))) (fun p => Tv (compL (gN j) tst el ρb xs) (fun r => Q (p :: r))) else Tv (compL (gN j) tst el ρb xs) Q) := by
  rw [compL]
  simp only [gN, tv_bnd, tv_ite, tv_some]
theorem tv_yes {ρ : Rho} {Q : Bool → Prop} : Tv (mYes ρ) Q = Q true := tv_some
theorem ok_of {α : Type} {x : Option (Res α)} {q : α} (h : Tv x fun p => p = q) : x = some (.ok q) := by
  obtain ⟨p, e, rfl⟩ := h
  exact e
theorem compM {j : Nat} {el : Fn PV} {ρb : Rho} {l : List PV} (f : PV → PV) (h : ∀ x ∈ l, Tv (el (ρb.set j (some (.sh x)))) fun p => p = f x) : compL (gN j) mYes el ρb l = some (.ok (l.map f)) :=
  compL_map f l fun x hx => ⟨_, rfl, ok_of (h x hx)⟩
noncomputable def szP (w h : Int) : PV := .tup [.int w, .int h]
noncomputable def cellP (c : Int × Int) : PV := .tup [.int c.1, .int c.2]
theorem snocI (l : List Int) (a : Int) : l.map PV.int ++ [PV.int a] = (l ++ [a]).map PV.int := by rw [List.map_append]; rfl
theorem snocS (l : List Str) (a : Str) : l.map PV.str ++ [PV.str a] = (l ++ [a]).map PV.str := by rw [List.map_append]; rfl
theorem snocC (l : List (Int × Int)) (a b : Int) : l.map cellP ++ [PV.tup [.int a, .int b]] = (l ++ [(a, b)]).map cellP := by rw [List.map_append]; rfl
theorem is_non_int : isI .non "int" = some false := rfl
theorem is_non_bool : isI .non "bool" = some false := rfl
theorem is_non_str : isI .non "str" = some false := rfl
theorem is_non_list : isI .non "list" = some false := rfl
theorem is_non_tuple : isI .non "tuple" = some false := rfl
theorem is_non_dict : isI .non "dict" = some false := rfl
theorem is_bl_int {b : Bool} : isI (.bl b) "int" = some true := rfl
theorem is_bl_bool {b : Bool} : isI (.bl b) "bool" = some true := rfl
theorem is_bl_str {b : Bool} : isI (.bl b) "str" = some false := rfl
theorem is_bl_list {b : Bool} : isI (.bl b) "list" = some false := rfl
theorem is_bl_tuple {b : Bool} : isI (.bl b) "tuple" = some false := rfl
theorem is_bl_dict {b : Bool} : isI (.bl b) "dict" = some false := rfl
theorem is_int_int {i : Int} : isI (.int i) "int" = some true := rfl
theorem is_int_bool {i : Int} : isI (.int i) "bool" = some false := rfl
theorem is_int_str {i : Int} : isI (.int i) "str" = some false := rfl
theorem is_int_list {i : Int} : isI (.int i) "list" = some false := rfl
theorem is_int_tuple {i : Int} : isI (.int i) "tuple" = some false := rfl
theorem is_int_dict {i : Int} : isI (.int i) "dict" = some false := rfl
theorem is_str_int {z : Str} : isI (.str z) "int" = some false := rfl
theorem is_str_bool {z : Str} : isI (.str z) "bool" = some false := rfl
theorem is_str_str {z : Str} : isI (.str z) "str" = some true := rfl
theorem is_str_list {z : Str} : isI (.str z) "list" = some false := rfl
theorem is_str_tuple {z : Str} : isI (.str z) "tuple" = some false := rfl
theorem is_str_dict {z : Str} : isI (.str z) "dict" = some false := rfl
theorem is_tup_int {l : List PV} : isI (.tup l) "int" = some false := rfl
theorem is_tup_bool {l : List PV} : isI (.tup l) "bool" = some false := rfl
theorem is_tup_str {l : List PV} : isI (.tup l) "str" = some false := rfl
theorem is_tup_list {l : List PV} : isI (.tup l) "list" = some false := rfl
theorem is_tup_tuple {l : List PV} : isI (.tup l) "tuple" = some true := rfl
theorem is_tup_dict {l : List PV} : isI (.tup l) "dict" = some false := rfl
theorem is_lst_int {l : List PV} : isI (.lst l) "int" = some false := rfl
theorem is_lst_bool {l : List PV} : isI (.lst l) "bool" = some false := rfl
theorem is_lst_str {l : List PV} : isI (.lst l) "str" = some false := rfl
theorem is_lst_list {l : List PV} : isI (.lst l) "list" = some true := rfl
theorem is_lst_tuple {l : List PV} : isI (.lst l) "tuple" = some false := rfl
theorem is_lst_dict {l : List PV} : isI (.lst l) "dict" = some false := rfl
theorem eqL_map {α : Type} {f : PV → PV → Option Bool} {g : α → PV} [DecidableEq α] (h : ∀ a b, f (g a) (g b) = some (decide (a = b))) : ∀ l m : List α, eqL f (l.map g) (m.map g) = some (decide (l = m))
  | [], [] => rfl
  | [], _ :: _ => rfl
  | _ :: _, [] => rfl
  | x :: xs, y :: ys => by
    rw [List.map_cons, List.map_cons, eqL, h x y, eqL_map h xs ys]
    simp only [List.cons.injEq, Bool.decide_and]
theorem eqF_lst {α : Type} {n : Nat} {g : α → PV} [DecidableEq α] (h : ∀ a b, eqF n (g a) (g b) = some (decide (a = b))) (l m : List α) : eqF (n + 1) (.lst (l.map g)) (.lst (m.map g)) = some (decide (l = m)) := by
  show (if (l.map g).length = (m.map g).length then eqL (eqF n) (l.map g) (m.map g) else some false) = _
  by_cases hl : l.length = m.length
  · rw [if_pos (by simpa using hl)]
    exact eqL_map h l m
  · rw [if_neg (by simpa using hl), decide_eq_false fun e => hl (by rw [e])]
theorem inF_map0 {α : Type} {g : α → PV} [DecidableEq α] (h : ∀ a b, eqF 31 (g a) (g b) = some (decide (a = b))) (a : α) : ∀ l : List α, inF (g a) (l.map g) = some (decide (a ∈ l))
  | [] => rfl
  | x :: xs => by
    rw [List.map_cons, inF, h x a, inF_map0 h a xs]
    simp only [List.mem_cons, Bool.decide_or]
    congr 2
    exact decide_eq_decide.mpr ⟨fun e => e.symm, fun e => e.symm⟩
theorem inF_map {α : Type} {g : α → PV} [DecidableEq α] (h : ∀ a b, eqF 31 (g a) (g b) = some (decide (a = b))) (a : α) (l : List α) [Decidable (a ∈ l)] : inF (g a) (l.map g) = some (decide (a ∈ l)) := by
  rw [inF_map0 h a l]
  congr 1
  exact decide_eq_decide.mpr Iff.rfl
theorem atI_map {α β : Type} (f : α → β) (l : List α) (i : Int) : atI (l.map f) i = (atI l i).map f := by
  unfold atI
  rw [List.length_map]
  cases ixN l.length i <;> simp
theorem atI_ints' {ns : List Int} {i : Int} (h0 : 0 ≤ i) (h : i < ns.length) : atI (ns.map PV.int) i = some (.int (ns.getD i.toNat 0)) := by
  obtain ⟨v, e1, e2⟩ := atI_some (xs := ns.map PV.int) h0 (by rw [List.length_map]; exact h)
  rw [e1]
  rw [List.getElem?_map] at e2
  have hl : i.toNat < ns.length := by omega
  rw [List.getElem?_eq_getElem hl] at e2
  rw [List.getD_eq_getElem?_getD, List.getElem?_eq_getElem hl]
  exact e2.symm
theorem atI_0 {p : PV} {l : List PV} : atI (p :: l) 0 = some p := atI_nat (j := 0) rfl
theorem atI_1 {p q : PV} {l : List PV} : atI (p :: q :: l) 1 = some q := atI_nat (j := 1) rfl
theorem atI_2 {p q r : PV} {l : List PV} : atI (p :: q :: r :: l) 2 = some r := atI_nat (j := 2) rfl
theorem atI_3 {p q r s : PV} {l : List PV} : atI (p :: q :: r :: s :: l) 3 = some s := atI_nat (j := 3) rfl
theorem cut_int (ns : List Int) (lo hi : Option Int) : ∃ ms : List Int, cutP (ns.map PV.int) lo hi = ms.map PV.int ∧ ms.length ≤ ns.length := by
  refine ⟨(ns.drop (HT.sIx ns.length 0 lo)).take (HT.sIx ns.length ns.length hi - HT.sIx ns.length 0 lo), ?_, ?_⟩
  · unfold cutP
    rw [List.length_map, List.map_take, List.map_drop]
  · rw [List.length_take, List.length_drop]
    omega
theorem atI_pos {α : Type} {l : List α} {i : Int} {v : α} (h0 : 0 ≤ i) (h : l[i.toNat]? = some v) : atI l i = some v := by
  have := atI_nat h
  rwa [Int.toNat_of_nonneg h0] at this
end MM

namespace MM
open PySem PySem.Spec PyProof.Rows L2 L2.MP
noncomputable def splitC (c : Nat) : List Nat → List (List Nat)
  | [] => [[]]
  | x :: xs => if x = c then [] :: splitC c xs else match splitC c xs with
    | [] => [[x]]
    | h :: t => (x :: h) :: t
theorem splitC_ne (c : Nat) (l : List Nat) : ∃ h t, splitC c l = h :: t := by
  cases l with
  | nil => exact ⟨_, _, rfl⟩
  | cons x xs =>
    rw [splitC]
    split
    · exact ⟨_, _, rfl⟩
    · split <;> exact ⟨_, _, rfl⟩
noncomputable def posC (c : Nat) : Nat → List Nat → List Nat
  | _, [] => []
  | a, x :: xs => if x = c then a :: posC c (a + 1) xs else posC c (a + 1) xs
noncomputable def ofL (l : List Nat) : Str := ⟨l.toArray⟩
theorem ofL_toList (z : Str) : ofL z.cps.toList = z := rfl
theorem ofL_len (l : List Nat) : (ofL l).length = l.length := List.size_toArray ..
theorem subAt_one (z : Str) (c i : Nat) (h : i < z.cps.size) : Builtin.Str.subAt z ⟨#[c]⟩ i = decide (z.cps.toList[i]? = some c) := by
  unfold Builtin.Str.subAt
  show (z.cps.extract i (i + 1) == #[c]) = _
  rw [Bool.eq_iff_iff, beq_iff_eq, decide_eq_true_eq, ← Array.toList_inj, Array.toList_extract]
  have hl : i < z.cps.toList.length := by simpa using h
  rw [List.getElem?_eq_getElem hl]
  have : (z.cps.toList.extract i (i + 1)) = [z.cps.toList[i]] := by
    rw [List.extract_eq_drop_take, List.drop_eq_getElem_cons hl]
    simp
  rw [this]
  simp
theorem occ_go (z : Str) (c : Nat) : ∀ (k lo : Nat) (st : Array Nat × Nat), lo + k = z.length + 1 → st.1.size ≤ lo → st.2 ≤ lo →
    (forIn (List.range' lo k) st (StrLaws.occBody z ⟨#[c]⟩ z.length (z.length + 1)) : Id _).run.1.toList = st.1.toList ++ posC c lo (z.cps.toList.drop lo)
  | 0, lo, st, hk, _, _ => by
    have : z.cps.toList.drop lo = [] := List.drop_eq_nil_of_le (by rw [Array.length_toList]; show z.length ≤ lo; omega)
    rw [this]
    simp [posC]
  | k + 1, lo, st, hk, h1, h2 => by
    rw [List.range'_succ, List.forIn_cons]
    by_cases hlo : lo < z.cps.size
    · have hl : lo < z.cps.toList.length := by simpa using hlo
      have hs : z.length = z.cps.size := rfl
      rw [List.drop_eq_getElem_cons hl, posC]
      unfold StrLaws.occBody
      rw [subAt_one z c lo hlo, List.getElem?_eq_getElem hl]
      by_cases hc : z.cps.toList[lo] = c
      · have e := occ_go z c k (lo + 1) (st.1.push lo, lo + 1) (by omega) (by simp; omega) (Nat.le_refl _)
        rw [if_pos hc]
        simp only [hc, decide_true, and_true]
        rw [if_pos ⟨⟨by omega, h2⟩, by show lo + 1 ≤ _; omega⟩]
        simp only [pure_bind]
        refine e.trans ?_
        simp
      · have e := occ_go z c k (lo + 1) st (by omega) (by omega) (by omega)
        rw [if_neg hc]
        simp only [Option.some.injEq, hc, decide_false, Bool.false_eq_true, and_false, if_false]
        exact e
    · have hd : z.cps.toList.drop lo = [] := List.drop_eq_nil_of_le (by rw [Array.length_toList]; omega)
      have hs : z.length = z.cps.size := rfl
      have e := occ_go z c k (lo + 1) st (by omega) (by omega) (by omega)
      rw [List.drop_eq_nil_of_le (by rw [Array.length_toList]; omega)] at e
      rw [hd]
      unfold StrLaws.occBody
      rw [if_neg (fun h => by have : lo + 1 ≤ z.length := h.1.2; omega)]
      exact e
theorem occ_pos (z : Str) (c : Nat) : Builtin.Str.occurrences z ⟨#[c]⟩ 0 z.length (z.length + 1) = posC c 0 z.cps.toList := by
  rw [StrLaws.occ_eq, occ_go z c (z.length + 1 - 0) 0 (#[], 0) (by omega) (Nat.le_refl _) (Nat.le_refl _)]
  simp
theorem strSub_list (z : Str) (i j : Nat) : Builtin.Str.strSub z i j = ofL ((z.cps.toList.drop i).take (j - i)) := by
  unfold Builtin.Str.strSub ofL
  congr 1
  apply Array.toList_inj.mp
  rw [Array.toList_extract, List.extract_eq_drop_take]
theorem parts_pos (z : Str) (c : Nat) : ∀ (l : List Nat) (s a : Nat), s ≤ a → z.cps.toList.drop a = l →
    StrLaws.partsFrom z 1 s (posC c a l) = match splitC c l with
      | [] => []
      | h :: t => ofL ((z.cps.toList.drop s).take (a - s) ++ h) :: t.map ofL
  | [], s, a, hs, e => by
    have ha : z.length ≤ a := by
      have := congrArg List.length e
      rw [List.length_drop, Array.length_toList] at this
      show z.cps.size ≤ a
      simp at this
      omega
    rw [posC, StrLaws.partsFrom, splitC, strSub_list]
    simp only [List.map_nil, List.append_nil]
    rw [List.take_of_length_le (by rw [List.length_drop, Array.length_toList]; exact Nat.le_refl _), List.take_of_length_le (by rw [List.length_drop, Array.length_toList]; show z.length - s ≤ _; omega)]
  | x :: xs, s, a, hs, e => by
    have e2 : z.cps.toList.drop (a + 1) = xs := by
      rw [← List.drop_drop, e]; rfl
    have ht : (z.cps.toList.drop s).take (a + 1 - s) = (z.cps.toList.drop s).take (a - s) ++ [x] := by
      have : (z.cps.toList.drop s)[a - s]? = some x := by
        rw [List.getElem?_drop, show s + (a - s) = a by omega]
        have := congrArg (·[0]?) e
        simpa using this
      rw [show a + 1 - s = (a - s) + 1 by omega, List.take_succ, this]
      rfl
    rw [posC, splitC]
    split
    · rw [StrLaws.partsFrom, parts_pos z c xs (a + 1) (a + 1) (Nat.le_refl _) e2, strSub_list]
      simp only [List.append_nil]
      obtain ⟨h, t, eh⟩ := splitC_ne c xs
      rw [eh]
      simp
    · rw [parts_pos z c xs s (a + 1) (by omega) e2]
      obtain ⟨h, t, eh⟩ := splitC_ne c xs
      rw [eh]
      simp only
      rw [ht, List.append_assoc]
      rfl
theorem split_one (z : Str) (c : Nat) (hc : c < 256) : Txt.split z ⟨#[c]⟩ = (splitC c z.cps.toList).map ofL := by
  have hk : ¬ (Builtin.Str.strKind z < Builtin.Str.strKind ⟨#[c]⟩) := by
    have : Builtin.Str.strKind ⟨#[c]⟩ = 1 := by
      unfold Builtin.Str.strKind
      rw [if_pos (by simpa using hc)]
    rw [this]
    unfold Builtin.Str.strKind
    split
    · omega
    · split <;> omega
  unfold Txt.split
  by_cases h0 : z.length < (⟨#[c]⟩ : Str).length
  · rw [if_pos (by rw [decide_eq_true h0]; rfl)]
    have : z.cps.toList = [] := by
      have : z.length < 1 := h0
      apply List.eq_nil_of_length_eq_zero
      rw [Array.length_toList]
      show z.length = 0
      omega
    rw [this]
    show [z] = [ofL []]
    rw [← ofL_toList z, this]
  · rw [if_neg (by rw [decide_eq_false h0, decide_eq_false hk]; decide), occ_pos, StrLaws.partsBetween_eq]
    have e := parts_pos z c z.cps.toList 0 0 (Nat.le_refl _) (List.drop_zero ..)
    obtain ⟨h, t, eh⟩ := splitC_ne c z.cps.toList
    rw [eh] at e ⊢
    simp only [Nat.sub_self, List.take_zero, List.nil_append] at e
    split
    · rename_i he
      have : posC c 0 z.cps.toList = [] := by simpa using he
      rw [this, StrLaws.partsFrom, StrLaws.sub_whole] at e
      rw [e]; rfl
    · exact e
noncomputable def joinL (c : Nat) : List (List Nat) → List Nat
  | [] => []
  | [r] => r
  | r :: q :: rs => r ++ c :: joinL c (q :: rs)
theorem splitC_pre (c : Nat) : ∀ (r l : List Nat), c ∉ r → splitC c (r ++ l) = match splitC c l with
      | [] => []
      | h :: t => (r ++ h) :: t
  | [], l, _ => by
    obtain ⟨h, t, eh⟩ := splitC_ne c l
    rw [List.nil_append, eh]
    rfl
  | x :: r, l, hc => by
    rw [List.cons_append, splitC, if_neg (fun e => hc (by simp [e])), splitC_pre c r l (fun h => hc (by simp [h]))]
    obtain ⟨h, t, eh⟩ := splitC_ne c l
    rw [eh]
    rfl
theorem splitC_join (c : Nat) : ∀ (rows : List (List Nat)), rows ≠ [] → (∀ r ∈ rows, c ∉ r) → splitC c (joinL c rows) = rows
  | [], h, _ => absurd rfl h
  | [r], _, hr => by
    have := splitC_pre c r [] (hr r (by simp))
    rw [List.append_nil] at this
    rw [joinL, this]
    simp [splitC]
  | r :: q :: rs, _, hr => by
    rw [joinL, splitC_pre c r _ (hr r (by simp)), splitC, if_pos rfl, splitC_join c (q :: rs) (by simp) fun x hx => hr x (by simp at hx ⊢; right; exact hx)]
    simp
theorem join_go (c : Nat) : ∀ (ys : List Str) (acc : Array Nat), (ys.foldl (fun acc p => acc ++ (⟨#[c]⟩ : Str).cps ++ p.cps) acc).toList = acc.toList ++ (ys.map fun y => c :: y.cps.toList).flatten
  | [], acc => by simp
  | y :: ys, acc => by
    rw [List.foldl_cons, join_go c ys]
    simp
theorem joinL_cons (c : Nat) (r : List Nat) : ∀ (rs : List (List Nat)), joinL c (r :: rs) = r ++ (rs.map fun y => c :: y).flatten
  | [] => by simp [joinL]
  | q :: rs => by
    rw [joinL, joinL_cons c q rs]
    simp
theorem join_list (c : Nat) (ys : List Str) : (Txt.join ⟨#[c]⟩ ys).cps.toList = joinL c (ys.map fun y => y.cps.toList) := by
  cases ys with
  | nil => rfl
  | cons y ys =>
    rw [List.map_cons, joinL_cons, List.map_map]
    show ((ys.foldl (fun acc p => acc ++ (⟨#[c]⟩ : Str).cps ++ p.cps) y.cps)).toList = _
    rw [join_go]
    rfl
theorem split_join (c : Nat) (hc : c < 256) (ys : List Str) (h0 : ys ≠ []) (h : ∀ y ∈ ys, c ∉ y.cps.toList) : Txt.split (Txt.join ⟨#[c]⟩ ys) ⟨#[c]⟩ = ys := by
  rw [split_one _ c hc, join_list, splitC_join c _ (by simpa using h0) (fun r hr => by
    obtain ⟨y, hy, rfl⟩ := List.mem_map.mp hr
    exact h y hy), List.map_map]
  have : (ofL ∘ fun (y : Str) => y.cps.toList) = id := by funext y; rfl
  rw [this, List.map_id]
theorem join_len (c : Nat) (ys : List Str) : (Txt.join ⟨#[c]⟩ ys).length ≤ (ys.map (·.length)).sum + ys.length := by
  have e : (Txt.join ⟨#[c]⟩ ys).length = (joinL c (ys.map fun y => y.cps.toList)).length := by rw [← join_list, Array.length_toList]; rfl
  rw [e]
  clear e
  cases ys with
  | nil => simp [joinL]
  | cons y ys =>
    rw [List.map_cons, joinL_cons, List.length_append, List.map_map, List.map_cons, List.sum_cons, List.length_cons]
    have : ((ys.map ((fun y => c :: y) ∘ fun (y : Str) => y.cps.toList)).flatten).length = (ys.map (·.length)).sum + ys.length := by
      induction ys with
      | nil => rfl
      | cons q qs ih =>
        rw [List.map_cons, List.flatten_cons, List.length_append, ih, List.map_cons, List.sum_cons, List.length_cons]
        show (c :: q.cps.toList).length + _ = q.length + _ + _
        rw [List.length_cons, Array.length_toList]
        show q.length + 1 + _ = _
        omega
    rw [this]
    have e2 : y.cps.toList.length = y.length := by rw [Array.length_toList]; rfl
    rw [e2]
    omega
end MM

namespace MM
open PySem PySem.Spec PyProof.Rows L2 L2.MP
theorem tv_TI {G : Str → Str → Option Int} {f g : Fn PV} {ρ : Rho} {Q : PV → Prop} : Tv (mTI G f g ρ) Q = Tv (f ρ) (fun a => ∃ z, a = .str z ∧ Tv (g ρ) (fun b => ∃ y, b = .str y ∧ ∃ i, G z y = some i ∧ Q (.int i))) := by
  unfold mTI
  rw [tv_bnd]
  congr 1; funext a
  have no : ∀ {P : Str → Prop} {p : PV}, (∀ z, p ≠ .str z) → (Tv (none : Option (Res PV)) Q = ∃ z, p = .str z ∧ P z) := fun {P p} h => by
    rw [tv_none]; exact propext ⟨fun h => h.elim, fun ⟨z, e, _⟩ => (h z e).elim⟩
  cases a with
  | str z =>
    simp only
    rw [tv_bnd]
    have e : (fun b : PV => Tv (opTI G z b) Q) = fun b => ∃ y, b = .str y ∧ ∃ i, G z y = some i ∧ Q (.int i) := by
      funext b
      cases b with
      | str y =>
        refine propext ⟨fun ⟨r, e, q⟩ => ?_, fun ⟨y', e, i, hi, q⟩ => ?_⟩
        · have e : (G z y).map (fun i => Res.ok (PV.int i)) = some (.ok r) := e
          cases h : G z y with
          | none => rw [h] at e; cases e
          | some i => rw [h] at e; cases e; exact ⟨y, rfl, i, h, q⟩
        · cases e; exact ⟨_, by show (G z y).map _ = _; rw [hi]; rfl, q⟩
      | _ => exact no fun z e => by cases e
    exact propext ⟨fun h => ⟨z, rfl, by rw [← e]; exact h⟩, fun ⟨z', e', h⟩ => by cases e'; rw [e]; exact h⟩
  | _ => exact no fun z e => by cases e
theorem tv_str {i : Int} {Q : PV → Prop} : Tv (opStr (.int i)) Q = (i.natAbs.log2 < 1920 ∧ Q (.str (toString i))) := tv_if_some
theorem tv_lstI {G : List Int → Int} {l : List PV} {Q : PV → Prop} : Tv (opLstI G l) Q = ∃ n ns, asInts l = some (n :: ns) ∧ Q (.int (G (n :: ns))) := by
  refine propext ⟨fun ⟨r, e, k⟩ => ?_, fun ⟨n, ns, e, k⟩ => ⟨_, by unfold opLstI; rw [e], k⟩⟩
  unfold opLstI at e
  split at e
  · rename_i n ns h; cases e; exact ⟨n, ns, h, k⟩
  · cases e
theorem is_dk_int {l : List (Key × PV)} : isI (.dk l) "int" = some false := rfl
theorem is_dk_str {l : List (Key × PV)} : isI (.dk l) "str" = some false := rfl
end MM

namespace MM
open PySem PySem.Spec PyProof.Rows L2 L2.MP
section
variable {ρ : Rho} {f g h : Fn PV} {i : Nat} {Q : PV → Prop} {QS : Out → Prop} {d k x p : PV} {l : List PV}
theorem tv_mapO {α : Type} {o : Option α} {F : α → PV} : Tv (o.map fun r => Res.ok (F r)) Q = ∃ r, o = some r ∧ Q (F r) := by
  cases o with
  | none => exact propext ⟨(fun ⟨_, e, _⟩ => by cases e), (fun ⟨_, e, _⟩ => by cases e)⟩
  | some r => exact propext ⟨fun ⟨_, e, q⟩ => by cases e; exact ⟨r, rfl, q⟩, fun ⟨_, e, q⟩ => by cases e; exact ⟨_, rfl, q⟩⟩
theorem tv_intS {z : Str} : Tv (opIntS (.str z)) Q = (z.length ≤ 640 ∧ ∃ n, PySem.intText? z = some n ∧ Q (.int n)) := by
  show Tv (if z.length ≤ 640 then _ else none) Q = _
  by_cases hz : z.length ≤ 640
  · rw [if_pos hz, tv_mapO]; simp only [hz, true_and]
  · rw [if_neg hz, tv_none]; simp [hz]
theorem tv_divL {x y : Int} : Tv (opDivL (.int x) (.int y)) Q = ((0 < y ∧ y.natAbs.log2 < 9000) ∧ Q (.int (x / y))) := by unfold opDivL; rw [tv_opI]; simp [cDivL]
end
section
variable {l : List (Key × PV)} {t : List (List Key × PV)} {ks : List PV} {n : Int} {z : Str} {p : PV}
theorem dF_int : dFind (.dk l) (.int n) = some (valP l (.inl n)) := rfl
theorem dF_str : dFind (.dk l) (.str z) = some (valP l (.inr z)) := rfl
theorem dF_tup : dFind (.dt t) (.tup ks) = (asKeys ks).map (valP t) := rfl
theorem isD_dk : (PV.dk l).isD = true := rfl
theorem isD_dt : (PV.dt t).isD = true := rfl
end
section
variable {κ : Type} [DecidableEq κ]
end
noncomputable def keepQ (l : List PV) (QS : Out → Prop) : Out → Prop
  | .nx _ => QS (.ro (.lst l))
  | .bk _ => False
  | .ct _ => False
  | o => QS o
theorem to_keepO {i : Nat} {s : Sn} {ρ : Rho} {l : List PV} {QS : Out → Prop} (h : ρ[i]? = some (some (.ow (.lst l)))) (hs : To (s (ρ.set i (some (.sh (.lst l))))) (keepQ l QS)) : To (mKeepO i s ρ) QS := by
  obtain ⟨o, e, c, q⟩ := hs
  have ho : ownAt i ρ = some (.lst l) := by unfold ownAt; rw [h]
  unfold mKeepO
  rw [ho]
  simp only [e]
  cases o with
  | nx ρ => exact ⟨_, rfl, trivial, q⟩
  | bk ρ => exact q.elim
  | ct ρ => exact q.elim
  | rt p => exact ⟨_, rfl, c, q⟩
  | ro p => exact ⟨_, rfl, c, q⟩
  | rd p => exact ⟨_, rfl, c, q⟩
  | ex z => exact ⟨_, rfl, c, q⟩
end MM

namespace MM
open PySem PySem.Spec PyProof.Rows L2 L2.MP
section
variable {f g : Fn PV} {ρ : Rho} {Q : PV → Prop} {QS : Out → Prop} {i : Nat} {s : Sn} {p : PV}
theorem finT_rd : finT (some (.rd p)) = some (.ok p) := rfl
end
end MM

namespace MM
open PySem PySem.Spec PyProof.Rows L2 L2.MP
section
variable {f g : Fn PV} {ρ : Rho} {Q : PV → Prop} {QS : Out → Prop} {i j : Nat} {s : Sn} {p : PV} {k : Rho → Prop}
noncomputable def holdQ (QS : Out → Prop) : Out → Prop
  | .rd _ => False
  | o => QS o
theorem holdQ_nx : holdQ QS (.nx ρ) = QS (.nx ρ) := rfl
theorem holdQ_rt : holdQ QS (.rt p) = QS (.rt p) := rfl
theorem holdQ_ro : holdQ QS (.ro p) = QS (.ro p) := rfl
end
end MM

namespace MM
open PySem PySem.Spec PyProof.Rows L2 L2.MP
section
variable {f : Fn PV} {ρ : Rho} {Q : PV → Prop} {QS : Out → Prop} {i : Nat}
end
end MM
namespace MM
open PySem PySem.Spec PyProof.Rows L2 L2.MP
end MM
namespace MM
open PySem PySem.Spec PyProof.Rows L2 L2.MP
end MM
namespace MM
open PySem PySem.Spec PyProof.Rows L2 L2.MP
end MM
namespace MM
open PySem PySem.Spec PyProof.Rows L2 L2.MP
end MM

namespace MM
open PySem PySem.Spec PyProof.Rows L2 L2.MP
section
variable {s t : Sn} {ρ : Rho} {z p : PV} {QS : Out → Prop} {Q : PV → Prop} {f : Fn PV} {i : Nat}
theorem ex_snd (h : To (s ρ) (onNx (fun ρ' => t ρ' = some (.ex z)) fun _ => False)) : mSeq s t ρ = some (.ex z) := by
  obtain ⟨o, e, _, q⟩ := h
  cases o with
  | nx ρ' => unfold mSeq; rw [e]; exact q
  | _ => exact q.elim
theorem ex_for {it : Fn (List PV)} {tg : PV → Rho → Option Rho} (h : Tv (it ρ) fun l => loop tg s l ρ = some (.ex z)) : mFor it tg s ρ = some (.ex z) := by
  obtain ⟨l, e, q⟩ := h
  unfold mFor
  rw [e]
  exact q
theorem ex_if {c : Fn Bool} (h : Tv (c ρ) fun b => if b = true then s ρ = some (.ex z) else t ρ = some (.ex z)) : mIfS c s t ρ = some (.ex z) := by
  obtain ⟨b, e, q⟩ := h
  unfold mIfS
  rw [e]
  cases b <;> exact q
theorem ex_raise {c : Str} {fs : List Str} {g : Fn (List PV)} (h : Tv (g ρ) fun l => l.length = fs.length ∧ .exc c (fs.zip l) = z) : mRaise c fs g ρ = some (.ex z) := by
  obtain ⟨l, e, q, rfl⟩ := h
  unfold mRaise
  rw [e]
  show (if _ then _ else _) = _
  rw [if_pos q]
theorem ex_asg {tg : PV → Rho → Option Rho} (h : f ρ = some (.ex z)) : mAsg f tg ρ = some (.ex z) := by unfold mAsg; rw [h]; rfl
theorem ex_call {m : List PV → Option (Res PV)} {g : Fn (List PV)} (h : Tv (g ρ) fun l => m l = some (.ex z)) : mCall m g ρ = some (.ex z) := by
  obtain ⟨l, e, q⟩ := h
  unfold mCall
  rw [e]
  exact q
theorem ex_loop {tg : PV → Rho → Option Rho} (I : Nat → Rho → Prop) : ∀ {l : List PV} {ρ : Rho} {k : Nat}, k < l.length → I 0 ρ →
    (∀ (i : Nat) x ρ, i < k → l[i]? = some x → I i ρ → ∃ ρ1, tg x ρ = some ρ1 ∧ To (s ρ1) (turn (I (i + 1)) fun _ => False)) →
    (∀ x ρ, l[k]? = some x → I k ρ → ∃ ρ1, tg x ρ = some ρ1 ∧ s ρ1 = some (.ex z)) → loop tg s l ρ = some (.ex z) := by
  intro l
  induction l generalizing I with
  | nil => exact fun h => absurd h (by simp)
  | cons x xs ih =>
    intro ρ k hk h0 hs hx
    cases k with
    | zero =>
      obtain ⟨ρ1, e1, e2⟩ := hx x ρ rfl h0
      rw [loop, e1]
      simp only [e2]
    | succ k =>
      obtain ⟨ρ1, e1, o, e2, c, q⟩ := hs 0 x ρ (by omega) rfl h0
      have go : ∀ ρ2, I 1 ρ2 → loop tg s xs ρ2 = some (.ex z) := fun ρ2 q => ih (fun i => I (i + 1)) (by simpa using hk) q (fun i y ρ hi e => hs (i + 1) y ρ (by omega) (by simpa using e)) fun y ρ e => hx y ρ (by simpa using e)
      rw [loop, e1]
      simp only [e2]
      cases o with
      | nx ρ2 => exact go ρ2 q
      | ct ρ2 => exact go ρ2 q
      | _ => exact q.elim
theorem enumP_get {l : List PV} {i : Nat} {x : PV} (e : (enumP l)[i]? = some x) : ∃ y, l[i]? = some y ∧ x = .tup [.int i, y] := by
  unfold enumP at e
  rw [List.getElem?_mapIdx] at e
  cases h : l[i]? with
  | none => rw [h] at e; cases e
  | some y => rw [h] at e; cases e; exact ⟨y, rfl, rfl⟩
theorem ex_loopE {a b : Nat} (I : Nat → Rho → Prop) {l : List PV} {k : Nat} (hk : k < l.length) (h0 : I 0 ρ)
    (hs : ∀ (i : Nat) x ρ, i < k → l[i]? = some x → I i ρ → To (s ((ρ.set a (some (.sh (.int i)))).set b (some (.sh x)))) (turn (I (i + 1)) fun _ => False))
    (hx : ∀ x ρ, l[k]? = some x → I k ρ → s ((ρ.set a (some (.sh (.int k)))).set b (some (.sh x))) = some (.ex z)) : loop (gT 2 (gsCons (gN a) (gsCons (gN b) gsNil))) s (enumP l) ρ = some (.ex z) := by
  refine ex_loop I (k := k) (by simpa [enumP] using hk) h0 (fun i x ρ hi e hI => ?_) fun x ρ e hI => ?_
  · obtain ⟨y, e2, rfl⟩ := enumP_get e
    exact ⟨_, rfl, hs i y ρ hi e2 hI⟩
  · obtain ⟨y, e2, rfl⟩ := enumP_get e
    exact ⟨_, rfl, hx y ρ e2 hI⟩
theorem try_ok {hh : PV → Sn} (h : To (s ρ) QS) : To (mTry s hh ρ) QS := by
  obtain ⟨o, e, c, q⟩ := h
  refine ⟨o, ?_, c, q⟩
  unfold mTry
  rw [e]
  cases o with
  | ex z => exact c.elim
  | _ => rfl
theorem try_ex {hh : PV → Sn} (h : s ρ = some (.ex z)) (h2 : To (hh z ρ) QS) : To (mTry s hh ρ) QS := by
  unfold mTry
  rw [h]
  exact h2
noncomputable def goneQ (i : Nat) (QS : Out → Prop) : Out → Prop
  | .nx ρ => QS (.nx (ρ.set i none))
  | .bk ρ => QS (.bk (ρ.set i none))
  | .ct ρ => QS (.ct (ρ.set i none))
  | o => QS o
theorem goneQ_nx : goneQ i QS (.nx ρ) = QS (.nx (ρ.set i none)) := rfl
theorem goneQ_bk : goneQ i QS (.bk ρ) = QS (.bk (ρ.set i none)) := rfl
theorem goneQ_ct : goneQ i QS (.ct ρ) = QS (.ct (ρ.set i none)) := rfl
theorem goneQ_rt : goneQ i QS (.rt p) = QS (.rt p) := rfl
theorem goneQ_ro : goneQ i QS (.ro p) = QS (.ro p) := rfl
theorem to_gone {x : Option Out} : To (goneO i x) QS = To x (goneQ i QS) := by
  refine propext ⟨fun ⟨o, e, c, q⟩ => ?_, fun ⟨o, e, c, q⟩ => ?_⟩
  · cases x with
    | none => cases e
    | some y => cases y <;> cases e <;> first | exact ⟨_, rfl, trivial, q⟩ | exact c.elim
  · subst e
    cases o with
    | ex z => exact c.elim
    | _ => exact ⟨_, rfl, trivial, q⟩
theorem to_hAs {sub : Str → Option Bool} {rest : PV → Sn} {c : Str} {l : List (Str × PV)} (h : sub c = some true) : To (mhAs sub i s rest (.exc c l) ρ) QS = To (s (ρ.set i (some (.sh (.exc c l))))) (goneQ i QS) := by
  show To (match sub c with | some true => _ | some false => _ | none => none) QS = _
  rw [h]
  exact to_gone
theorem nn_non : PV.non.isNon = true := rfl
theorem nn_int {i : Int} : (PV.int i).isNon = false := rfl
theorem nn_str {z : Str} : (PV.str z).isNon = false := rfl
theorem nn_bl {b : Bool} : (PV.bl b).isNon = false := rfl
theorem nn_tup {l : List PV} : (PV.tup l).isNon = false := rfl
theorem nn_lst {l : List PV} : (PV.lst l).isNon = false := rfl
theorem nn_exc {c : Str} {l : List (Str × PV)} : (PV.exc c l).isNon = false := rfl
noncomputable def isXo (sub : Str → Option Bool) (no : Bool) : PV → Option Bool
  | .exc c (_ :: _) => sub c
  | .non => some no
  | _ => none
theorem tv_isX {sub : Str → Option Bool} {no : Bool} : Tv (mIsX sub no f ρ) Q = Tv (f ρ) (fun p => ∃ b, isXo sub no p = some b ∧ Q (.bl b)) := by
  unfold mIsX
  rw [tv_bnd]
  congr 1; funext p
  have no' : ∀ {P : Bool → Prop}, Tv (none : Option (Res PV)) Q = ∃ b, (none : Option Bool) = some b ∧ P b := fun {P} => by
    rw [tv_none]; exact propext ⟨fun h => h.elim, fun ⟨_, e, _⟩ => nomatch e⟩
  cases p with
  | non => exact propext ⟨fun ⟨r, e, q⟩ => by cases e; exact ⟨no, rfl, q⟩, fun ⟨b, e, q⟩ => by cases e; exact ⟨_, rfl, q⟩⟩
  | exc c l =>
    cases l with
    | nil => exact no'
    | cons x l =>
      show Tv ((sub c).map fun b => .ok (.bl b)) Q = ∃ b, sub c = some b ∧ _
      cases h : sub c with
      | none => exact no'
      | some b => exact propext ⟨fun ⟨r, e, q⟩ => by cases e; exact ⟨b, rfl, q⟩, fun ⟨b, e, q⟩ => by cases e; exact ⟨_, rfl, q⟩⟩
  | _ => exact no'
noncomputable def fldXo (nm : Str → Bool) (g : Str) : PV → Option PV
  | .exc c (x :: l) => if nm c = true then (x :: l).lookup g else none
  | _ => none
theorem tv_fldX {nm : Str → Bool} {g : Str} : Tv (mFldX nm g f ρ) Q = Tv (f ρ) (fun p => ∃ q, fldXo nm g p = some q ∧ Q q) := by
  unfold mFldX
  rw [tv_bnd]
  congr 1; funext p
  have no' : Tv (none : Option (Res PV)) Q = ∃ b, (none : Option PV) = some b ∧ Q b := by
    rw [tv_none]; exact propext ⟨fun h => h.elim, fun ⟨_, e, _⟩ => nomatch e⟩
  cases p with
  | exc c l =>
    cases l with
    | nil => exact no'
    | cons x l =>
      show Tv (if nm c = true then ((x :: l).lookup g).map .ok else none) Q = ∃ q, (if nm c = true then (x :: l).lookup g else none) = some q ∧ Q q
      by_cases hn : nm c = true
      · rw [if_pos hn, if_pos hn]
        cases h : (x :: l).lookup g with
        | none => exact no'
        | some b => exact propext ⟨fun ⟨r, e, q⟩ => by cases e; exact ⟨_, rfl, q⟩, fun ⟨b, e, q⟩ => by cases e; exact ⟨_, rfl, q⟩⟩
      · rw [if_neg hn, if_neg hn]
        exact no'
  | _ => exact no'
end
end MM

namespace MM
open PySem PySem.Spec PyProof.Rows L2 L2.MP
noncomputable def su_BlockError : Str → Option Bool := fun c => if c = "NoPlan" then some true else none
noncomputable def ki_NoPlan : Str → Option Bool := fun c => if c = "NoPlan" then some true else none
noncomputable def kb_ValueError : Str → Option Bool := fun c => if c = "NoPlan" then some true else none
noncomputable def kt0 : Str → Option Bool := fun c => if c = "NoPlan" then some false else none
noncomputable def kt1 : Str → Option Bool := fun c => if c = "NoPlan" then some false else none
noncomputable def fx_row : Str → Bool := fun c => (["NoPlan"] : List Str).contains c
/- 0 thing -/
noncomputable def B_is_whole : Sn :=
  (mRet (mAndV (m2 opIs (mVL 0) (mC (.ty "int"))) (m1 opNot (m2 opIs (mVL 0) (mC (.ty "bool"))))))
noncomputable def M_is_whole : List PV → Option (Res PV)
  | [a0] => fin (B_is_whole (startR [a0] 0))
  | _ => none
/- 0 thing -/
noncomputable def B_is_stroke_1 : Sn :=
  (mRet (mC (.bl false)))
noncomputable def B_is_stroke_2 : Sn :=
  (mRet (mC (.bl false)))
noncomputable def B_is_stroke_3 : Sn :=
  (mRet (mAndV (m1 opAll (mView (mComp (m1 asSeq (mSlT (mV 0) (m1 asInt (mC (.int 1))) mPn)) [none] (gN 0) mYes (mCall M_is_whole (mCons (mV 0) mNil))))) (m2 opLe (m2 opIx (mV 0) (mC (.int 2))) (m2 opIx (mV 0) (mC (.int 3))))))
noncomputable def B_is_stroke_4 : Sn :=
  (mSeq (mIfS (mOr (mNot (m1 asBl (m2 opIs (m2 opIx (mV 0) (mC (.int 0))) (mC (.ty "str"))))) (m1 asBl (m2 opNotin (m2 opIx (mV 0) (mC (.int 0))) (mTup (mCons (mC (.str "row")) (mCons (mC (.str "column")) mNil))))))
        B_is_stroke_2
        mNext)
      B_is_stroke_3)
noncomputable def B_is_stroke : Sn :=
  (mSeq (mIfS (mOr (mNot (m1 asBl (m2 opIs (mVL 0) (mC (.ty "tuple"))))) (m1 asBl (m2 opNe (m1 opLen (mVL 0)) (mC (.int 4)))))
        B_is_stroke_1
        mNext)
      B_is_stroke_4)
noncomputable def M_is_stroke : List PV → Option (Res PV)
  | [a0] => fin (B_is_stroke (startR [a0] 0))
  | _ => none
/- 0 text -/
noncomputable def B_number_of_1 : Sn :=
  (mRet (mC .non))
noncomputable def B_number_of_2 : Sn :=
  (mRet (mC .non))
noncomputable def B_number_of_3 : Sn :=
  (mRet (m1 opIntS (mV 0)))
noncomputable def B_number_of_4 : Sn :=
  (mSeq (mIfS (mAnd (m1 asBl (m2 opGt (m1 opLen (mVL 0)) (mC (.int 1)))) (m1 asBl (m2 opEq (m2 opIx (mV 0) (mC (.int 0))) (mC (.str "0")))))
        B_number_of_2
        mNext)
      B_number_of_3)
noncomputable def B_number_of : Sn :=
  (mSeq (mIfS (mOr (mNot (m1 asBl (mChain opLe opLe (mC (.int 1)) (m1 opLen (mVL 0)) (mC (.int (3)))))) (mNot (m1 asBl (m1 opAll (mView (mComp (m1 asSeq (mV 0)) [none] (gN 0) mYes (m2 opIn (mVL 0) (mC (.str "0123456789")))))))))
        B_number_of_1
        mNext)
      B_number_of_4)
noncomputable def M_number_of : List PV → Option (Res PV)
  | [a0] => fin (B_number_of (startR [a0] 0))
  | _ => none
/- 0 words, 1 stroke -/
noncomputable def B_stroke_of : Sn :=
  (mSeq (mAsg (m1 opTup (mView (m2 opCat (mView (mSlL (mViewN 0) mPn (m1 asInt (mC (.int 1))))) (mView (mComp (m1 asSeq (mSlL (mViewN 0) (m1 asInt (mC (.int 1))) mPn)) [none] (gN 0) mYes (mCall M_number_of (mCons (mV 0) mNil))))))) (gN 1))
      (mRet (mIf (m1 asBl (mCall M_is_stroke (mCons (mV 1) mNil))) (mV 1) (mC .non))))
noncomputable def M_stroke_of : List PV → Option (Res PV)
  | [a0] => fin (B_stroke_of (startR [a0] 1))
  | _ => none
/- 0 row, 1 words, 2 block, 3 told -/
noncomputable def B_deed_of_1 : Sn :=
  (mRet (mC .non))
noncomputable def B_deed_of_2 : Sn :=
  (mAsg (mCall M_stroke_of (mCons (mSlL (mViewN 1) (m1 asInt (mC (.int 2))) mPn) mNil)) (gN 3))
noncomputable def B_deed_of_3 : Sn :=
  (mAsg (mCall M_number_of (mCons (m2 opIx (mV 1) (mC (.int 2))) mNil)) (gN 3))
noncomputable def B_deed_of_4 : Sn :=
  (mIfS (mAnd (m1 asBl (m2 opEq (m2 opIx (mV 1) (mC (.int 0))) (mC (.str "print")))) (m1 asBl (m2 opEq (m1 opLen (mVL 1)) (mC (.int 3)))))
          B_deed_of_3
          mNext)
noncomputable def B_deed_of_5 : Sn :=
  (mRet (mC .non))
noncomputable def B_deed_of_6 : Sn :=
  (mRet (mTup (mCons (m2 opIx (mV 1) (mC (.int 0))) (mCons (mV 2) (mCons (mV 3) mNil)))))
noncomputable def B_deed_of_7 : Sn :=
  (mSeq (mIfS (mOr (m1 asBl (m2 opIsN (mVL 2) (mC .non))) (m1 asBl (m2 opIsN (mVL 3) (mC .non))))
        B_deed_of_5
        mNext)
      B_deed_of_6)
noncomputable def B_deed_of_8 : Sn :=
  (mSeq (mAsg (mCall M_number_of (mCons (m2 opIx (mV 1) (mC (.int 1))) mNil)) (gN 2))
      (mSeq (mAsg (mC .non) (gN 3))
      (mSeq (mIfS (m1 asBl (m2 opEq (m2 opIx (mV 1) (mC (.int 0))) (mC (.str "cut"))))
        B_deed_of_2
        B_deed_of_4)
      B_deed_of_7)))
noncomputable def B_deed_of : Sn :=
  (mSeq (mAsg (mSplit (mV 0) (mC (.str " "))) (gN 1))
      (mSeq (mIfS (m1 asBl (m2 opLt (m1 opLen (mVL 1)) (mC (.int 3))))
        B_deed_of_1
        mNext)
      B_deed_of_8))
noncomputable def M_deed_of : List PV → Option (Res PV)
  | [a0] => fin (B_deed_of (startR [a0] 3))
  | _ => none
/- 0 text, 1 plan, 2 number, 3 deed -/
noncomputable def B_read_plan_1 : Sn :=
  (mRetO (mLst mNil))
noncomputable def B_read_plan_2 : Sn :=
  (mRaise "NoPlan" ["row"] (mCons (mV 2) mNil))
noncomputable def B_read_plan_3 : Sn :=
  (mIfS (m1 asBl (m2 opIsN (mVL 3) (mC .non)))
          B_read_plan_2
          mNext)
noncomputable def B_read_plan_4 : Sn :=
  (mSeq (mSetO 1 (mComp (m1 asSeq (mSplit (mV 0) (mC (.str "\n")))) [none] (gN 0) mYes (mCall M_deed_of (mCons (mV 0) mNil))))
      (mKeepO 1 (mFor (m1 asEnum (mCons (mV 1) mNil)) (gT 2 (gsCons (gN 2) (gsCons (gN 3) gsNil)))
        B_read_plan_3)))
noncomputable def B_read_plan : Sn :=
  (mSeq (mIfS (m1 asBl (m2 opEq (mVL 0) (mC (.str ""))))
        B_read_plan_1
        mNext)
      B_read_plan_4)
noncomputable def M_read_plan : List PV → Option (Res PV)
  | [a0] => finO (B_read_plan (startR [a0] 3))
  | _ => none
/- 0 _law_script, 1 _law_k -/
noncomputable def B__law_cell_at_1 : Sn :=
  (mRet (m2 opIx (mV 0) (mV 1)))
noncomputable def B__law_cell_at_2 : Sn :=
  (mRet (mC (.int 0)))
noncomputable def B__law_cell_at : Sn :=
  (mSeq (mIfS (m1 asBl (m2 opLt (mV 1) (m1 opLen (mVL 0))))
        B__law_cell_at_1
        mNext)
      B__law_cell_at_2)
noncomputable def M__law_cell_at : List PV → Option (Res PV)
  | [a0, a1] => fin (B__law_cell_at (startR [a0, a1] 0))
  | _ => none
/- 0 _law_cell, 1 _law_turn, 2 _law_k -/
noncomputable def B__law_window_1 : Sn :=
  (mRet (mV 0))
noncomputable def B__law_window_2 : Sn :=
  (mAsg (m2 opDivL (mV 0) (m2 opPow (mC (.int 10)) (mC (.int 64)))) (gN 0))
noncomputable def B__law_window_3 : Sn :=
  (mRet (m2 opAdd (m2 opPow (mC (.int 10)) (mC (.int 20))) (mV 0)))
noncomputable def B__law_window_4 : Sn :=
  (mSeq (mFor (m1 asRng1 (mCons (m2 opMul (mC (.int 4)) (mV 1)) mNil)) (gN 2)
        B__law_window_2)
      B__law_window_3)
noncomputable def B__law_window : Sn :=
  (mSeq (mIfS (m1 asBl (m2 opLt (mV 0) (m2 opPow (mC (.int 10)) (mC (.int 20)))))
        B__law_window_1
        mNext)
      B__law_window_4)
noncomputable def M__law_window : List PV → Option (Res PV)
  | [a0, a1] => fin (B__law_window (startR [a0, a1] 1))
  | _ => none
/- 0 _law_cell, 1 _law_many, 2 _law_found, 3 _law_number, 4 _law_k -/
noncomputable def B__law_stream_1 : Sn :=
  (mSeq (mApp 2 (m2 opMod (mV 3) (mC (.int 33554432))))
          (mAsg (m2 opDiv (mV 3) (mC (.int 33554432))) (gN 3)))
noncomputable def B__law_stream_2 : Sn :=
  (mRetOw 2)
noncomputable def B__law_stream_3 : Sn :=
  (mSeq (mAsg (m2 opSub (mV 0) (m2 opPow (mC (.int 10)) (mC (.int 20)))) (gN 3))
        (mSeq (mFor (m1 asRng1 (mCons (mV 1) mNil)) (gN 4)
          B__law_stream_1)
        B__law_stream_2))
noncomputable def B__law_stream_4 : Sn :=
  (mSeq (mAsg (m2 opAdd (m2 opAdd (m2 opAdd (m2 opMul (mV 3) (mV 3)) (m2 opMul (mC (.int 48271)) (mV 3))) (m2 opMul (mC (.int 7)) (mV 4))) (mC (.int 1))) (gN 3))
        (mSeq (mAsg (m2 opMod (mV 3) (mC (.int 2147483647))) (gN 3))
        (mApp 2 (m2 opDiv (mV 3) (mC (.int 64))))))
noncomputable def B__law_stream_5 : Sn :=
  (mRetOw 2)
noncomputable def B__law_stream_6 : Sn :=
  (mSeq (mAsg (m2 opAdd (m2 opMod (mV 0) (mC (.int 2147483647))) (mC (.int 48271))) (gN 3))
      (mSeq (mFor (m1 asRng1 (mCons (mV 1) mNil)) (gN 4)
        B__law_stream_4)
      B__law_stream_5))
noncomputable def B__law_stream : Sn :=
  (mSeq (mSetO 2 (mLst mNil))
      (mSeq (mIfS (m1 asBl (m2 opGe (mV 0) (m2 opPow (mC (.int 10)) (mC (.int 20)))))
        B__law_stream_3
        mNext)
      B__law_stream_6))
noncomputable def M__law_stream : List PV → Option (Res PV)
  | [a0, a1] => finO (B__law_stream (startR [a0, a1] 3))
  | _ => none
/- 0 _law_cell, 1 _law_k, 2 _law_some, 3 _law_most, 4 _law_numbers, 5 _law_way -/
noncomputable def B__law_deed_1 : Sn :=
  (mRet (mTup (mCons (mC (.str "print")) (mCons (m2 opIx (mV 4) (mC (.int 0))) (mCons (m2 opIx (mV 4) (mC (.int 1))) mNil)))))
noncomputable def B__law_deed_2 : Sn :=
  (mSeq (mAsg (m2 opIxV (mView (mLst (mCons (mC (.str "row")) (mCons (mC (.str "column")) mNil)))) (m2 opMod (m2 opIx (mV 2) (mC (.int 6))) (mC (.int 2)))) (gN 5))
      (mRet (mTup (mCons (mC (.str "cut")) (mCons (m2 opIx (mV 4) (mC (.int 0))) (mCons (mTup (mCons (mV 5) (mCons (m2 opIx (mV 4) (mC (.int 1))) (mCons (m1 (opLstI minL) (mView (mSlL (mViewN 4) (m1 asInt (mC (.int 2))) mPn))) (mCons (m1 (opLstI maxL) (mView (mSlL (mViewN 4) (m1 asInt (mC (.int 2))) mPn))) mNil))))) mNil))))))
noncomputable def B__law_deed : Sn :=
  (mSeq (mAsg (mCall M__law_stream (mCons (m2 opAdd (mV 0) (m2 opMul (mC (.int 31)) (mV 1))) (mCons (mC (.int 8)) mNil))) (gN 2))
      (mSeq (mAsg (m2 opIxV (mView (mLst (mCons (mC (.int 3)) (mCons (mC (.int 10)) (mCons (mC (.int 100)) (mCons (mC (.int 1000)) mNil)))))) (m2 opMod (m2 opIx (mV 2) (mC (.int 1))) (mC (.int 4)))) (gN 3))
      (mSeq (mAsg (mLst (mCons (m2 opMod (m2 opIx (mV 2) (mC (.int 2))) (mV 3)) (mCons (m2 opMod (m2 opIx (mV 2) (mC (.int 3))) (mV 3)) (mCons (m2 opMod (m2 opIx (mV 2) (mC (.int 4))) (mV 3)) (mCons (m2 opMod (m2 opIx (mV 2) (mC (.int 5))) (mV 3)) mNil))))) (gN 4))
      (mSeq (mIfS (m1 asBl (m2 opEq (m2 opMod (m2 opIx (mV 2) (mC (.int 0))) (mC (.int 3))) (mC (.int 0))))
        B__law_deed_1
        mNext)
      B__law_deed_2))))
noncomputable def M__law_deed : List PV → Option (Res PV)
  | [a0, a1] => fin (B__law_deed (startR [a0, a1] 4))
  | _ => none
/- 0 _law_script -/
noncomputable def B__law_plan : Sn :=
  (mRetO (mComp (m1 asEnum (mCons (mSlL (mViewN 0) (m1 asInt (mC (.int 1))) (m1 asInt (mC (.int 63)))) mNil)) [none, none] (gT 2 (gsCons (gN 0) (gsCons (gN 1) gsNil))) mYes (mCall M__law_deed (mCons (mV 1) (mCons (mV 0) mNil)))))
noncomputable def M__law_plan : List PV → Option (Res PV)
  | [a0] => finO (B__law_plan (startR [a0] 0))
  | _ => none
/- 0 _law_plan_here, 1 _law_rows_here, 2 _law_deed_here -/
noncomputable def B__law_rows_1 : Sn :=
  (mApp 1 (m2 opAdd (m2 opAdd (m2 opAdd (mC (.str "print ")) (m1 opStr (m2 opIx (mV 2) (mC (.int 1))))) (mC (.str " "))) (m1 opStr (m2 opIx (mV 2) (mC (.int 2))))))
noncomputable def B__law_rows_2 : Sn :=
  (mApp 1 (mJoin (mC (.str " ")) (mView (m2 opCat (mView (mLst (mCons (mC (.str "cut")) (mCons (m1 opStr (m2 opIx (mV 2) (mC (.int 1)))) (mCons (m2 opIx (m2 opIx (mV 2) (mC (.int 2))) (mC (.int 0))) mNil))))) (mView (mComp (m1 asSeq (mSlT (m2 opIx (mV 2) (mC (.int 2))) (m1 asInt (mC (.int 1))) mPn)) [none] (gN 0) mYes (m1 opStr (mV 0))))))))
noncomputable def B__law_rows_3 : Sn :=
  (mIfS (m1 asBl (m2 opEq (m2 opIx (mV 2) (mC (.int 0))) (mC (.str "print"))))
          B__law_rows_1
          B__law_rows_2)
noncomputable def B__law_rows_4 : Sn :=
  (mRetOw 1)
noncomputable def B__law_rows : Sn :=
  (mSeq (mSetO 1 (mLst mNil))
      (mSeq (mFor (m1 asSeq (mV 0)) (gN 2)
        B__law_rows_3)
      B__law_rows_4))
noncomputable def M__law_rows : List PV → Option (Res PV)
  | [a0] => finO (B__law_rows (startR [a0] 2))
  | _ => none
/- 0 _law_rows_here, 1 _law_some, 2 _law_words, 3 _law_odd_here -/
noncomputable def B__law_odd_1 : Sn :=
  (mRet (m2 opIx (mV 2) (m2 opMod (m2 opIx (mV 1) (mC (.int 5))) (m1 opLen (mVL 2)))))
noncomputable def B__law_odd_2 : Sn :=
  (mRet (m1 opStr (m2 opMod (m2 opIx (mV 1) (mC (.int 5))) (mC (.int 100000)))))
noncomputable def B__law_odd_3 : Sn :=
  (mRet (m2 opIx (mV 3) (m2 opMod (m2 opDiv (m2 opIx (mV 1) (mC (.int 6))) (mC (.int 3))) (mC (.int 14)))))
noncomputable def B__law_odd_4 : Sn :=
  (mSeq (mIfS (m1 asBl (m2 opEq (m2 opMod (m2 opIx (mV 1) (mC (.int 6))) (mC (.int 3))) (mC (.int 1))))
        B__law_odd_2
        mNext)
      B__law_odd_3)
noncomputable def B__law_odd : Sn :=
  (mSeq (mAsg (mSplit (m2 opIx (mV 0) (m2 opMod (m2 opIx (mV 1) (mC (.int 4))) (m1 opLen (mVL 0)))) (mC (.str " "))) (gN 2))
      (mSeq (mAsg (mLst (mCons (mC (.str "")) (mCons (mC (.str "0")) (mCons (mC (.str "00")) (mCons (mC (.str "01")) (mCons (mC (.str "-1")) (mCons (mC (.str "999")) (mCons (mC (.str "1000")) (mCons (mC (.str "cut")) (mCons (mC (.str "print")) (mCons (mC (.str "row")) (mCons (mC (.str "column")) (mCons (mC (.str "Row")) (mCons (mC (.str "rows")) (mCons (mC (.str "a\tb")) mNil))))))))))))))) (gN 3))
      (mSeq (mIfS (m1 asBl (m2 opEq (m2 opMod (m2 opIx (mV 1) (mC (.int 6))) (mC (.int 3))) (mC (.int 0))))
        B__law_odd_1
        mNext)
      B__law_odd_4)))
noncomputable def M__law_odd : List PV → Option (Res PV)
  | [a0, a1] => fin (B__law_odd (startR [a0, a1] 2))
  | _ => none
/- 0 _law_rows_here, 1 _law_cell, 2 _law_some, 3 _law_way, 4 _law_at, 5 _law_words, 6 _law_place, 7 _law_made -/
noncomputable def B__law_changed_1 : Sn :=
  (mPut 5 (mCall M__law_odd (mCons (mV 0) (mCons (mV 2) mNil))) (mV 6))
noncomputable def B__law_changed_2 : Sn :=
  (mSetO 5 (m2 opCat (mView (mSlL (mViewN 5) mPn (m1 asInt (mV 6)))) (mView (mSlL (mViewN 5) (m1 asInt (m2 opAdd (mV 6) (mC (.int 1)))) mPn))))
noncomputable def B__law_changed_3 : Sn :=
  (mSetO 5 (m2 opCat (mView (m2 opCat (mView (mSlL (mViewN 5) mPn (m1 asInt (mV 6)))) (mView (mLst (mCons (mCall M__law_odd (mCons (mV 0) (mCons (mV 2) mNil))) mNil))))) (mView (mSlL (mViewN 5) (m1 asInt (mV 6)) mPn))))
noncomputable def B__law_changed_4 : Sn :=
  (mSetO 7 (m2 opCat (mView (m2 opCat (mView (mSlL (mViewN 7) mPn (m1 asInt (mV 4)))) (mView (mLst (mCons (mC (.str "")) mNil))))) (mView (mSlL (mViewN 7) (m1 asInt (mV 4)) mPn))))
noncomputable def B__law_changed_5 : Sn :=
  (mApp 7 (mC (.str "")))
noncomputable def B__law_changed_6 : Sn :=
  (mApp 7 (m2 opIx (mV 0) (mV 4)))
noncomputable def B__law_changed_7 : Sn :=
  (mRetOw 7)
noncomputable def B__law_changed_8 : Sn :=
  (mSeq (mIfS (m1 asBl (m2 opEq (mVL 3) (mC (.int 10))))
        B__law_changed_6
        mNext)
      B__law_changed_7)
noncomputable def B__law_changed_9 : Sn :=
  (mSeq (mIfS (m1 asBl (m2 opEq (mVL 3) (mC (.int 9))))
        B__law_changed_5
        mNext)
      B__law_changed_8)
noncomputable def B__law_changed_10 : Sn :=
  (mSeq (mSetO 7 (m2 opCat (mView (m2 opCat (mView (mSlL (mViewN 0) mPn (m1 asInt (mV 4)))) (mView (mLst (mCons (mJoin (mC (.str " ")) (mViewN 5)) mNil))))) (mView (mSlL (mViewN 0) (m1 asInt (m2 opAdd (mV 4) (mC (.int 1)))) mPn))))
      (mSeq (mIfS (m1 asBl (m2 opEq (mVL 3) (mC (.int 8))))
        B__law_changed_4
        mNext)
      B__law_changed_9))
noncomputable def B__law_changed_11 : Sn :=
  (mSeq (mIfS (m1 asBl (m2 opEq (mVL 3) (mC (.int 7))))
        B__law_changed_3
        mNext)
      B__law_changed_10)
noncomputable def B__law_changed_12 : Sn :=
  (mSeq (mIfS (m1 asBl (m2 opEq (mVL 3) (mC (.int 6))))
        B__law_changed_2
        mNext)
      B__law_changed_11)
noncomputable def B__law_changed : Sn :=
  (mSeq (mAsg (mCall M__law_stream (mCons (m2 opAdd (mV 1) (mC (.int 17))) (mCons (mC (.int 8)) mNil))) (gN 2))
      (mSeq (mAsg (m2 opMod (m2 opIx (mV 2) (mC (.int 0))) (mC (.int 12))) (gN 3))
      (mSeq (mAsg (m2 opMod (m2 opIx (mV 2) (mC (.int 1))) (m1 opLen (mVL 0))) (gN 4))
      (mSeq (mSetO 5 (mSplit (m2 opIx (mV 0) (mV 4)) (mC (.str " "))))
      (mSeq (mAsg (m2 opMod (m2 opIx (mV 2) (mC (.int 3))) (m1 opLen (mVL 5))) (gN 6))
      (mSeq (mIfS (m1 asBl (m2 opLt (mV 3) (mC (.int 6))))
        B__law_changed_1
        mNext)
      B__law_changed_12))))))
noncomputable def M__law_changed : List PV → Option (Res PV)
  | [a0, a1] => finO (B__law_changed (startR [a0, a1] 6))
  | _ => none
/- 0 _law_text, 1 _law_worth_here, 2 _law_sign, 3 _law_at -/
noncomputable def B__law_worth_1 : Sn :=
  (mRet (mC .non))
noncomputable def B__law_worth_2 : Sn :=
  (mAsg (m2 opAdd (m2 opMul (mC (.int 10)) (mV 1)) (mV 3)) (gN 1))
noncomputable def B__law_worth_3 : Sn :=
  (mSeq (mAsg (mTI findG (mC (.str "0123456789")) (mV 2)) (gN 3))
        (mSeq (mIfS (m1 asBl (m2 opLt (mV 3) (mC (.int 0))))
          B__law_worth_1
          mNext)
        B__law_worth_2))
noncomputable def B__law_worth_4 : Sn :=
  (mRet (mC .non))
noncomputable def B__law_worth_5 : Sn :=
  (mRet (mV 1))
noncomputable def B__law_worth_6 : Sn :=
  (mSeq (mIfS (mOr (m1 asBl (m2 opEq (mVL 0) (mC (.str "")))) (mOr (m1 asBl (m2 opGt (m1 opLen (mVL 0)) (mC (.int 3)))) (mAnd (m1 asBl (m2 opEq (m2 opIx (mV 0) (mC (.int 0))) (mC (.str "0")))) (m1 asBl (m2 opNe (mVL 0) (mC (.str "0")))))))
        B__law_worth_4
        mNext)
      B__law_worth_5)
noncomputable def B__law_worth : Sn :=
  (mSeq (mAsg (mC (.int 0)) (gN 1))
      (mSeq (mFor (m1 asSeq (mV 0)) (gN 2)
        B__law_worth_3)
      B__law_worth_6))
noncomputable def M__law_worth : List PV → Option (Res PV)
  | [a0] => fin (B__law_worth (startR [a0] 3))
  | _ => none
/- 0 _law_words, 1 _law_numbers -/
noncomputable def B__law_read_deed_1 : Sn :=
  (mRet (mTup (mCons (mC (.str "print")) (mCons (m2 opIx (mV 1) (mC (.int 0))) (mCons (m2 opIx (mV 1) (mC (.int 1))) mNil)))))
noncomputable def B__law_read_deed_2 : Sn :=
  (mSeq (mAsg (mComp (m1 asSeq (mSlL (mViewN 0) (m1 asInt (mC (.int 1))) mPn)) [none] (gN 0) mYes (mCall M__law_worth (mCons (mV 0) mNil))) (gN 1))
        (mIfS (m1 asBl (m2 opNotin (mC .non) (mVL 1)))
          B__law_read_deed_1
          mNext))
noncomputable def B__law_read_deed_3 : Sn :=
  (mRet (mTup (mCons (mC (.str "cut")) (mCons (m2 opIx (mV 1) (mC (.int 0))) (mCons (mTup (mCons (m2 opIx (mV 0) (mC (.int 2))) (mCons (m2 opIx (mV 1) (mC (.int 1))) (mCons (m2 opIx (mV 1) (mC (.int 2))) (mCons (m2 opIx (mV 1) (mC (.int 3))) mNil))))) mNil)))))
noncomputable def B__law_read_deed_4 : Sn :=
  (mSeq (mAsg (m2 opCat (mView (mLst (mCons (mCall M__law_worth (mCons (m2 opIx (mV 0) (mC (.int 1))) mNil)) mNil))) (mView (mComp (m1 asSeq (mSlL (mViewN 0) (m1 asInt (mC (.int 3))) mPn)) [none] (gN 0) mYes (mCall M__law_worth (mCons (mV 0) mNil))))) (gN 1))
        (mIfS (mAnd (m1 asBl (m2 opNotin (mC .non) (mVL 1))) (m1 asBl (m2 opLe (m2 opIx (mV 1) (mC (.int 2))) (m2 opIx (mV 1) (mC (.int 3))))))
          B__law_read_deed_3
          mNext))
noncomputable def B__law_read_deed_5 : Sn :=
  (mRet (mC .non))
noncomputable def B__law_read_deed_6 : Sn :=
  (mSeq (mIfS (mAnd (m1 asBl (m2 opEq (m1 opLen (mVL 0)) (mC (.int 6)))) (mAnd (m1 asBl (m2 opEq (m2 opIx (mV 0) (mC (.int 0))) (mC (.str "cut")))) (mOr (m1 asBl (m2 opEq (m2 opIx (mV 0) (mC (.int 2))) (mC (.str "row")))) (m1 asBl (m2 opEq (m2 opIx (mV 0) (mC (.int 2))) (mC (.str "column")))))))
        B__law_read_deed_4
        mNext)
      B__law_read_deed_5)
noncomputable def B__law_read_deed : Sn :=
  (mSeq (mIfS (mAnd (m1 asBl (m2 opEq (m1 opLen (mVL 0)) (mC (.int 3)))) (m1 asBl (m2 opEq (m2 opIx (mV 0) (mC (.int 0))) (mC (.str "print")))))
        B__law_read_deed_2
        mNext)
      B__law_read_deed_6)
noncomputable def M__law_read_deed : List PV → Option (Res PV)
  | [a0] => fin (B__law_read_deed (startR [a0] 1))
  | _ => none
/- 0 _law_rows_here, 1 _law_plan_here, 2 _law_k, 3 _law_deed_here -/
noncomputable def B__law_read_1 : Sn :=
  (mRet (mTup (mCons (mLst mNil) (mCons (mC .non) mNil))))
noncomputable def B__law_read_2 : Sn :=
  (mRet (mTup (mCons (mC .non) (mCons (mV 2) mNil))))
noncomputable def B__law_read_3 : Sn :=
  (mApp 1 (mV 3))
noncomputable def B__law_read_4 : Sn :=
  (mSeq (mAsg (mCall M__law_read_deed (mCons (mSplit (m2 opIx (mV 0) (mV 2)) (mC (.str " "))) mNil)) (gN 3))
        (mSeq (mIfS (m1 asBl (m2 opIsN (mVL 3) (mC .non)))
          B__law_read_2
          mNext)
        B__law_read_3))
noncomputable def B__law_read_5 : Sn :=
  (mFrz 1 (mRet (mTup (mCons (mV 1) (mCons (mC .non) mNil)))))
noncomputable def B__law_read_6 : Sn :=
  (mSeq (mSetO 1 (mLst mNil))
      (mSeq (mFor (m1 asRng1 (mCons (m1 opLen (mVL 0)) mNil)) (gN 2)
        B__law_read_4)
      B__law_read_5))
noncomputable def B__law_read : Sn :=
  (mSeq (mIfS (m1 asBl (m2 opEq (mVL 0) (mLst (mCons (mC (.str "")) mNil))))
        B__law_read_1
        mNext)
      B__law_read_6)
noncomputable def M__law_read : List PV → Option (Res PV)
  | [a0] => fin (B__law_read (startR [a0] 3))
  | _ => none
/- 0 _law_error -/
noncomputable def B__law_other_1 : Sn :=
  (mRet (mC (.bl true)))
noncomputable def B__law_other_2 : Sn :=
  (mRet (mIsX kt1 false (mVL 0)))
noncomputable def B__law_other : Sn :=
  (mSeq (mIfS (m1 asBl (mIsX kt0 false (mVL 0)))
        B__law_other_1
        mNext)
      B__law_other_2)
noncomputable def M__law_other : List PV → Option (Res PV)
  | [a0] => fin (B__law_other (startR [a0] 0))
  | _ => none
/- 0 _law_script, 1 _law_rows_here, 2 _law_first, 3 _law_k, 4 _law_cell, 5 _law_due, 6 _law_row, 7 _law_error, 8 _law_found, 9 e -/
noncomputable def B_law_1 : Sn :=
  (mAsg (mLst (mCons (mC (.str "")) mNil)) (gN 1))
noncomputable def B_law_2 : Sn :=
  (mAsg (mCall M__law_window (mCons (mCall M__law_cell_at (mCons (mV 0) (mCons (mC (.int 0)) mNil))) (mCons (m2 opAdd (mC (.int 1)) (mV 3)) mNil))) (gN 4))
noncomputable def B_law_3 : Sn :=
  (mAsg (mCall M__law_changed (mCons (mV 1) (mCons (mV 4) mNil))) (gN 1))
noncomputable def B_law_4 : Sn :=
  (mSeq (mAsg (m2 opIx (mV 2) (m2 opAdd (mC (.int 1)) (mV 3))) (gN 4))
        (mSeq (mIfS (m1 asBl (m2 opGe (mCall M__law_cell_at (mCons (mV 0) (mCons (mC (.int 0)) mNil))) (m2 opPow (mC (.int 10)) (mC (.int 20)))))
          B_law_2
          mNext)
        B_law_3))
noncomputable def B_law_5 : Sn :=
  (mAsg (mV 9) (gN 7))
noncomputable def B_law_6 : Sn :=
  (mRet (mAndV (m2 opIsN (mVL 7) (mC .non)) (mAndV (m2 opIs (mVL 8) (mC (.ty "list"))) (m2 opEq (mVL 8) (mVL 5)))))
noncomputable def B_law_7 : Sn :=
  (mRet (mC (.bl false)))
noncomputable def B_law_8 : Sn :=
  (mRet (mAndV (m2 opIs (mFldX fx_row "row" (mV 7)) (mC (.ty "int"))) (mAndV (m1 opNot (m2 opIs (mFldX fx_row "row" (mV 7)) (mC (.ty "bool")))) (m2 opEq (mFldX fx_row "row" (mV 7)) (mVL 6)))))
noncomputable def B_law_9 : Sn :=
  (mSeq (mIfS (mOr (mNot (m1 asBl (mIsX ki_NoPlan false (mVL 7)))) (mOr (mNot (m1 asBl (mIsX kb_ValueError false (mVL 7)))) (m1 asBl (mCall M__law_other (mCons (mV 7) mNil)))))
        B_law_7
        mNext)
      B_law_8)
noncomputable def B_law_10 : Sn :=
  (mSeq (mIfS (m1 asBl (m2 opNotN (mVL 5) (mC .non)))
        B_law_6
        mNext)
      B_law_9)
noncomputable def B_law_11 : Sn :=
  (mSeq (mAsg (mCall M__law_read (mCons (mV 1) mNil)) (gT 2 (gsCons (gN 5) (gsCons (gN 6) gsNil))))
      (mSeq (mAsg (mC .non) (gN 7))
      (mSeq (mAsg (mC .non) (gN 8))
      (mSeq (mTry (mAsg (mCall M_read_plan (mCons (mJoin (mC (.str "\n")) (mViewN 1)) mNil)) (gN 8))
        (mhAs su_BlockError 9 B_law_5 mhNil))
      B_law_10))))
noncomputable def B_law_12 : Sn :=
  (mSeq (mAsg (mCall M__law_stream (mCons (mCall M__law_cell_at (mCons (mV 0) (mCons (mC (.int 0)) mNil))) (mCons (mC (.int 4)) mNil))) (gN 2))
      (mSeq (mFor (m1 asRng1 (mCons (m2 opAdd (mC (.int 1)) (m2 opMod (m2 opIx (mV 2) (mC (.int 0))) (mC (.int 3)))) mNil)) (gN 3)
        B_law_4)
      B_law_11))
noncomputable def B_law : Sn :=
  (mSeq (mAsg (mCall M__law_rows (mCons (mCall M__law_plan (mCons (mV 0) mNil)) mNil)) (gN 1))
      (mSeq (mIfS (m1 asBl (m2 opEq (mVL 1) (mLst mNil)))
        B_law_1
        mNext)
      B_law_12))
noncomputable def M_law : List PV → Option (Res PV)
  | [a0] => fin (B_law (startR [a0] 9))
  | _ => none
end MM

namespace MM
open PySem PySem.Spec PyProof.Rows L2 L2.MP
local macro_rules | `(tactic| walk_at "rd") => do
  let ids := ("onNx_nx onNx_rt onNx_ro onNx_rd onNx_bk onNx_ct tv_some to_nx to_rt to_ro to_rd to_bk to_ct tv_ite to_ite turn_nx turn_ct turn_bk turn_rt turn_ro turn_rd tv_bnd to_bnd to_seq tv_m2 tv_m1 tv_var tv_lend tv_c tv_view tv_viewN tv_asLst tv_nil tv_cons tv_tup tv_lst tv_call tv_mIf tv_mAnd tv_mOr tv_mNot tv_and tv_chain tv_comp tv_compN tv_compC tv_yes to_next to_ret to_retO holdQ_nx holdQ_rt holdQ_ro to_setO to_asgN to_asg to_if to_for to_retOw to_app to_put to_frz tv_split tv_TI tv_intS tv_divL dF_int dF_str dF_tup isD_dk isD_dt is_dk_int is_dk_str tv_str tv_lstI tv_opSplit finIO_nx tv_isX nn_non nn_int nn_str nn_bl nn_tup nn_lst nn_exc tv_fldX to_gone goneQ_nx goneQ_bk goneQ_ct goneQ_rt goneQ_ro tv_sub tv_gt tv_ge tv_div tv_mod tv_pow tv_add tv_addS tv_addT tv_mul tv_mulS tv_lt tv_ltS tv_le tv_leS tv_eqI tv_eqS tv_neI tv_neS tv_eq tv_ne tv_in tv_notin tv_isN tv_notN tv_ixL tv_ixT tv_ixV tv_ixS tv_lenS tv_lenL tv_lenT tv_is tv_asBl tv_not tv_opTup tv_cat tv_asSeqL tv_asSeqT tv_asSeqS tv_rng1 tv_enum tv_pn tv_asInt tv_slL tv_slT tv_opSlT tv_join tv_opJoin tv_all startR fin_nx fin_rt finO_ro finT_rd gN gT gsCons gsNil szP cellP List.map_cons List.map_nil List.replicate_succ List.replicate_zero List.cons_append List.nil_append List.append_nil List.getElem?_cons_zero List.getElem?_cons_succ List.set_cons_zero List.set_cons_succ List.length_cons List.length_nil Nat.zero_le true_and and_true Option.some.injEq Sl.sh.injEq Sl.ow.injEq Sl.dp.injEq Res.ok.injEq PV.int.injEq PV.str.injEq PV.bl.injEq PV.lst.injEq PV.tup.injEq exists_eq_left' exists_eq_left exists_eq and_assoc exists_and_left if_true if_false not_true_eq_false not_false_eq_true Bool.false_eq_true Bool.not_true Bool.not_false decide_eq_true_eq Bool.not_eq_true' decide_eq_false_iff_not reduceCtorEq is_non_int is_non_bool is_non_str is_non_list is_non_tuple is_non_dict is_bl_int is_bl_bool is_bl_str is_bl_list is_bl_tuple is_bl_dict is_int_int is_int_bool is_int_str is_int_list is_int_tuple is_int_dict is_str_int is_str_bool is_str_str is_str_list is_str_tuple is_str_dict is_tup_int is_tup_bool is_tup_str is_tup_list is_tup_tuple is_tup_dict is_lst_int is_lst_bool is_lst_str is_lst_list is_lst_tuple is_lst_dict Int.reduceAdd Int.reduceSub Int.reduceMul Int.reduceNeg Int.reduceToNat atI_0 atI_1 atI_2 atI_3 snocI snocS snocC eqF_int eqF_str eqF_bl frR shOnly".splitOn " ").toArray.map fun s => Lean.mkIdent s.toName
  `(tactic| simp (maxSteps := 2000000) only [$[$ids:ident],*])
theorem stream_ok (c m : Int) (m0 : 0 ≤ m) (m1 : m ≤ 1000) : ∃ ns : List Int, M__law_stream [.int c, .int m] = some (.ok (.lst (ns.map .int))) ∧ (ns.length : Int) = m ∧ ∀ n ∈ ns, 0 ≤ n ∧ n < 33554432 := by
  have e1 : ((m.toNat : Nat) : Int) = m := Int.toNat_of_nonneg m0
  have b1 : ∀ n : Nat, n < m.toNat → n < sizeLine := fun n h => small1000 (by omega)
  have more : ∀ {ns : List Int} {z : Int}, (∀ n ∈ ns, 0 ≤ n ∧ n < 33554432) → 0 ≤ z → z < 33554432 → ∀ n ∈ ns ++ [z], 0 ≤ n ∧ n < 33554432 := fun {ns z} hb h1 h2 n hn => by
    rcases List.mem_append.mp hn with h | h
    · exact hb n h
    · have e : n = z := by simpa using h
      rw [e]; exact ⟨h1, h2⟩
  suffices h : ∃ p, M__law_stream [.int c, .int m] = some (.ok p) ∧ ∃ ns : List Int, p = .lst (ns.map .int) ∧ (ns.length : Int) = m ∧ ∀ n ∈ ns, 0 ≤ n ∧ n < 33554432 by
    obtain ⟨p, e, ns, rfl, h⟩ := h
    exact ⟨ns, e, h⟩
  refine ex_finO ?_
  unfold B__law_stream
  walk_at "rd"
  refine ⟨by decide, by decide, by decide, ite2 (fun _ => ?_) (fun _ => ?_)⟩
  · unfold B__law_stream_3
    walk_at "rd"
    refine ⟨by decide, by decide, by decide, by omega, by omega, ?_⟩
    refine to_loopN (fun i ρ => ∃ (ns : List Int) (n : Int) (v : Option Sl), ρ = [some (.sh (.int c)), some (.sh (.int m)), some (.ow (.lst (ns.map .int))), some (.sh (.int n)), v] ∧ ns.length = i ∧ ∀ n ∈ ns, 0 ≤ n ∧ n < 33554432) ⟨[], _, none, rfl, rfl, fun _ h => nomatch h⟩ ?_ ?_
    · rintro i x ρ hx ⟨ns, n, v, rfl, hl, hb⟩
      have hi : i < m.toNat := by simpa [rngP] using lt_of_get hx
      unfold B__law_stream_1
      walk_at "rd"
      refine ⟨by decide, by rw [List.length_map, hl]; exact b1 i hi, by decide, by decide, ns ++ [n % 33554432], _, _, rfl, by rw [List.length_append, hl]; rfl, more hb (Int.emod_nonneg _ (by decide)) (Int.emod_lt_of_pos _ (by decide))⟩
    · rintro ρ ⟨ns, n, v, rfl, hl, hb⟩
      unfold B__law_stream_2
      walk_at "rd"
      exact ⟨ns, rfl, by rw [hl, rngP_length]; exact e1, hb⟩
  · unfold B__law_stream_6
    walk_at "rd"
    refine ⟨by decide, by omega, by omega, ?_⟩
    refine to_loopN (fun i ρ => ∃ (ns : List Int) (n : Int) (v : Option Sl), ρ = [some (.sh (.int c)), some (.sh (.int m)), some (.ow (.lst (ns.map .int))), some (.sh (.int n)), v] ∧ ns.length = i ∧ (∀ n ∈ ns, 0 ≤ n ∧ n < 33554432) ∧ 0 ≤ n ∧ n < 4294967296)
      ⟨[], _, none, rfl, rfl, (fun _ h => nomatch h), by omega, by omega⟩ ?_ ?_
    · rintro i x ρ hx ⟨ns, n, v, rfl, hl, hb, n0, n1⟩
      have hi : i < m.toNat := by simpa [rngP] using lt_of_get hx
      have ex : x = .int (0 + (i : Int)) := by
        unfold rngP at hx
        rw [List.getElem?_map, List.getElem?_range hi] at hx
        exact (Option.some.inj hx).symm
      subst ex
      unfold B__law_stream_4
      walk_at "rd"
      refine ⟨.inl ⟨by omega, by omega⟩, .inl ⟨by decide, by decide⟩, .inl ⟨by decide, by decide⟩, by decide, by decide, by decide, by rw [List.length_map, hl]; exact b1 i hi, ?_⟩
      generalize hz : (n * n + 48271 * n + 7 * (0 + (i : Int)) + 1) % 2147483647 = z
      have z0 : 0 ≤ z := by rw [← hz]; exact Int.emod_nonneg _ (by decide)
      have z1 : z < 2147483647 := by rw [← hz]; exact Int.emod_lt_of_pos _ (by decide)
      exact ⟨ns ++ [z / 64], _, _, rfl, by rw [List.length_append, hl]; rfl, more hb (by omega) (by omega), by omega, by omega⟩
    · rintro ρ ⟨ns, n, v, rfl, hl, hb, _⟩
      unfold B__law_stream_5
      walk_at "rd"
      exact ⟨ns, rfl, by rw [hl, rngP_length]; exact e1, hb⟩
theorem cell_at_ok (ns : List Int) (i : Int) (i0 : 0 ≤ i) : ∃ n : Int, M__law_cell_at [.lst (ns.map .int), .int i] = some (.ok (.int n)) := by
  suffices h : ∃ p, M__law_cell_at [.lst (ns.map .int), .int i] = some (.ok p) ∧ ∃ n, p = .int n by
    obtain ⟨p, e, n, rfl⟩ := h
    exact ⟨n, e⟩
  refine ex_fin ?_
  unfold B__law_cell_at
  walk_at "rd"
  refine ite2 (fun h => ?_) (fun h => ?_)
  · unfold B__law_cell_at_1
    walk_at "rd"
    exact ⟨_, atI_ints' i0 (by rw [List.length_map] at h; exact h), _, rfl⟩
  · unfold B__law_cell_at_2
    walk_at "rd"
    exact ⟨_, rfl⟩
structure Sz (w h : Int) : Prop where
  w0 : 1 ≤ w
  w1 : w ≤ 24
  h0 : 1 ≤ h
  h1 : h ≤ 24
theorem Sz.at {w h c r : Int} (_ : Sz w h) (c0 : 0 ≤ c) (c1 : c < w) (r0 : 0 ≤ r) (r1 : r < h) : 0 ≤ r * w + c ∧ r * w + c < w * h := by
  have e1 : 0 ≤ r * w := Int.mul_nonneg r0 (by omega)
  have e2 : (r + 1) * w ≤ h * w := Int.mul_le_mul_of_nonneg_right (by omega) (by omega)
  rw [Int.add_mul, Int.one_mul] at e2
  rw [Int.mul_comm w h]
  omega
structure Cell (w h c r : Int) : Prop where
  c0 : 0 ≤ c
  c1 : c < w
  r0 : 0 ≤ r
  r1 : r < h
theorem Cell.of {w h : Int} {c : Int × Int} (z : Mth.InR w.toNat h.toNat c) : Cell w h c.1 c.2 := ⟨z.c0, by have := z.c1; have := z.c0; omega, z.r0, by have := z.r1; have := z.r0; omega⟩
theorem Cell.pl {w h c r : Int} (z : Cell w h c r) : (r * w + c).toNat = Mth.pl w.toNat (c, r) ∧ 0 ≤ r * w + c := by
  obtain ⟨c0, c1, r0, r1⟩ := z
  obtain ⟨a, rfl⟩ := Int.eq_ofNat_of_zero_le c0
  obtain ⟨b, rfl⟩ := Int.eq_ofNat_of_zero_le r0
  obtain ⟨v, rfl⟩ := Int.eq_ofNat_of_zero_le (show 0 ≤ w by omega)
  unfold Mth.pl
  simp only [Int.toNat_natCast]
  have e : (b : Int) * (v : Int) + (a : Int) = ((b * v + a : Nat) : Int) := by simp
  rw [e, Int.toNat_natCast]
  exact ⟨rfl, Int.natCast_nonneg _⟩
theorem rng_get {lo : Int} {n i : Nat} {x : PV} (h : (rngP lo n)[i]? = some x) : i < n ∧ x = .int (lo + (i : Int)) := by
  have hi : i < n := by simpa [rngP] using lt_of_get h
  unfold rngP at h
  rw [List.getElem?_map, List.getElem?_range hi] at h
  exact ⟨hi, (Option.some.inj h).symm⟩
theorem eqL_self {f : PV → PV → Option Bool} : ∀ {l : List PV}, (∀ x ∈ l, f x x = some true) → eqL f l l = some true
  | [], _ => rfl
  | x :: xs, h => by rw [eqL, h x List.mem_cons_self, eqL_self fun y hy => h y (List.mem_cons_of_mem _ hy)]; rfl
theorem self_tup {n : Nat} {l : List PV} (h : ∀ x ∈ l, eqF n x x = some true) : eqF (n + 1) (.tup l) (.tup l) = some true := by
  exact eqL_self h
theorem self_lst {n : Nat} {l : List PV} (h : ∀ x ∈ l, eqF n x x = some true) : eqF (n + 1) (.lst l) (.lst l) = some true := by
  exact (if_pos rfl).trans (eqL_self h)
theorem self_str (n : Nat) (z : Str) : eqF n (.str z) (.str z) = some true := by rw [eqF_str, decide_eq_true rfl]
theorem self_int (n : Nat) (z : Int) : eqF n (.int z) (.int z) = some true := by rw [eqF_int, decide_eq_true rfl]
theorem compMap {α : Type} {j : Nat} {el : Fn PV} {ρb : Rho} (g f : α → PV) : ∀ (l : List α), (∀ a ∈ l, Tv (el (ρb.set j (some (.sh (g a))))) fun p => p = f a) → compL (gN j) mYes el ρb (l.map g) = some (.ok (l.map f))
  | [], _ => rfl
  | a :: l, h => by
    have e1 := ok_of (h a List.mem_cons_self)
    have ih := compMap g f l fun b hb => h b (List.mem_cons_of_mem _ hb)
    rw [List.map_cons, compL]
    simp only [gN, mYes, bnd, if_true, e1, ih, List.map_cons]
structure On (w h : Int) (row : Bool) (l f t : Int) : Prop where
  l0 : 0 ≤ l
  l1 : l < if row then h else w
  f0 : 0 ≤ f
  ft : f ≤ t
  t1 : t < if row then w else h
noncomputable def cellOn (row : Bool) (l : Int) (p : Int) : Int × Int := if row then (p, l) else (l, p)
noncomputable def cellsOn (row : Bool) (l f t : Int) : List (Int × Int) := (List.range (t + 1 - f).toNat).map fun (i : Nat) => cellOn row l (f + (i : Int))
theorem On.cell {w h : Int} {row : Bool} {l f t : Int} (o : On w h row l f t) {c : Int × Int} (hc : c ∈ cellsOn row l f t) : Cell w h c.1 c.2 := by
  obtain ⟨i, hi, rfl⟩ := List.mem_map.mp hc
  have hi := List.mem_range.mp hi
  obtain ⟨l0, l1, f0, ft, t1⟩ := o
  unfold cellOn
  cases row
  · exact ⟨l0, l1, by show 0 ≤ f + (i : Int); omega, by show f + (i : Int) < h; have t1 : t < h := t1; omega⟩
  · exact ⟨by show 0 ≤ f + (i : Int); omega, by show f + (i : Int) < w; have t1 : t < w := t1; omega, l0, l1⟩
theorem isw_int (i : Int) : M_is_whole [.int i] = some (.ok (.bl true)) := by
  refine fin_of (x := B_is_whole (startR [.int i] 0)) ?_
  unfold B_is_whole
  walk_at "rd"
inductive Deed where
  | prt (block ink : Int)
  | cut (block : Int) (way : Str) (line first last : Int)
noncomputable def deedP : Deed → PV
  | .prt b i => .tup [.str "print", .int b, .int i]
  | .cut b w l f t => .tup [.str "cut", .int b, .tup [.str w, .int l, .int f, .int t]]
noncomputable def N3 (i : Int) : Prop := 0 ≤ i ∧ i < 1000
noncomputable def DeedOk : Deed → Prop
  | .prt b i => N3 b ∧ N3 i
  | .cut b w l f t => N3 b ∧ (w = Str.ofString "row" ∨ w = Str.ofString "column") ∧ N3 l ∧ N3 f ∧ N3 t ∧ f ≤ t
noncomputable def numS (i : Int) : Str := toString i
theorem num3 : ∀ i : Fin 1000, (numS (i.val : Int)).length ≤ 3 := by decide +kernel
theorem numS_len {i : Int} (h : N3 i) : (numS i).length ≤ 3 := by
  have := num3 ⟨i.toNat, by have := h.1; have := h.2; omega⟩
  have e : (((⟨i.toNat, by have := h.1; have := h.2; omega⟩ : Fin 1000).val : Nat) : Int) = i := Int.toNat_of_nonneg h.1
  rwa [e] at this
theorem num_log {i : Int} (h : N3 i) : i.natAbs.log2 < 1920 := by
  by_cases e : i.natAbs = 0
  · rw [e]; decide
  · rw [Nat.log2_lt e]
    have := h.1; have := h.2
    exact Nat.lt_of_lt_of_le (show i.natAbs < 2 ^ 10 by omega) (Nat.pow_le_pow_right (by decide) (by decide))
theorem ldeed_ok (c k : Int) : ∃ d : Deed, M__law_deed [.int c, .int k] = some (.ok (deedP d)) ∧ DeedOk d := by
  suffices h : ∃ p, M__law_deed [.int c, .int k] = some (.ok p) ∧ ∃ d : Deed, p = deedP d ∧ DeedOk d by
    obtain ⟨p, e, z, rfl, h⟩ := h
    exact ⟨z, e, h⟩
  obtain ⟨ns, e, nl, nb⟩ := stream_ok (c + 31 * k) 8 (by decide) (by decide)
  have at1 : ∀ i : Int, 0 ≤ i → i < 8 → atI (ns.map PV.int) i = some (.int (ns.getD i.toNat 0)) := fun i h0 h1 => atI_ints' h0 (by omega)
  refine ex_fin ?_
  unfold B__law_deed
  walk_at "rd"
  refine ⟨.inl ⟨by decide, by decide⟩, ?_⟩
  rw [e]
  walk_at "rd"
  simp only [at1 0 (by decide) (by decide), at1 1 (by decide) (by decide), at1 2 (by decide) (by decide), at1 3 (by decide) (by decide), at1 4 (by decide) (by decide), at1 5 (by decide) (by decide)]
  walk_at "rd"
  obtain ⟨most, em, m0, m1⟩ : ∃ most : Int, atI [PV.int 3, PV.int 10, PV.int 100, PV.int 1000] (ns.getD 1 0 % 4) = some (.int most) ∧ 0 < most ∧ most ≤ 1000 := by
    have := Int.emod_nonneg (ns.getD 1 0) (b := 4) (by decide)
    have := Int.emod_lt_of_pos (ns.getD 1 0) (b := 4) (by decide)
    rcases (show ns.getD 1 0 % 4 = 0 ∨ ns.getD 1 0 % 4 = 1 ∨ ns.getD 1 0 % 4 = 2 ∨ ns.getD 1 0 % 4 = 3 by omega) with q | q | q | q
    · rw [q, atI_0]; exact ⟨_, rfl, by decide, by decide⟩
    · rw [q, atI_1]; exact ⟨_, rfl, by decide, by decide⟩
    · rw [q, atI_2]; exact ⟨_, rfl, by decide, by decide⟩
    · rw [q, atI_3]; exact ⟨_, rfl, by decide, by decide⟩
  have n3 : ∀ x : Int, N3 (x % most) := fun x => ⟨Int.emod_nonneg _ (by omega), by have := Int.emod_lt_of_pos x m0; omega⟩
  refine ⟨by decide, by decide, _, em, ?_⟩
  walk_at "rd"
  refine ⟨m0, m0, m0, m0, by decide, by decide, ite2 (fun _ => ?_) fun _ => ?_⟩
  · unfold B__law_deed_1
    walk_at "rd"
    exact ⟨by decide, .prt _ _, rfl, n3 _, n3 _⟩
  · unfold B__law_deed_2
    walk_at "rd"
    simp only [at1 6 (by decide) (by decide)]
    walk_at "rd"
    obtain ⟨way, ew, hw⟩ : ∃ way : Str, atI [PV.str (Str.ofString "row"), PV.str (Str.ofString "column")] (ns.getD 6 0 % 2) = some (.str way) ∧ (way = Str.ofString "row" ∨ way = Str.ofString "column") := by
      rcases (show ns.getD 6 0 % 2 = 0 ∨ ns.getD 6 0 % 2 = 1 by omega) with q | q
      · rw [q, atI_0]; exact ⟨_, rfl, .inl rfl⟩
      · rw [q, atI_1]; exact ⟨_, rfl, .inr rfl⟩
    have ec : ∀ a b x y : PV, cutP [a, b, x, y] (some 2) none = [x, y] := fun a b x y => rfl
    rw [ec]
    refine ⟨by decide, by decide, _, ew, _, _, rfl, _, _, rfl, by decide, by decide, .cut _ way _ _ _, rfl, n3 _, hw, n3 _, ?_, ?_, ?_⟩
    · rcases List.mem_cons.mp (minL_ok (ns := [ns.getD 4 0 % most, ns.getD 5 0 % most]) (by simp)).1 with q | q
      · rw [q]; exact n3 _
      · rw [List.mem_singleton.mp q]; exact n3 _
    · rcases List.mem_cons.mp (maxL_ok (ns := [ns.getD 4 0 % most, ns.getD 5 0 % most]) (by simp)).1 with q | q
      · rw [q]; exact n3 _
      · rw [List.mem_singleton.mp q]; exact n3 _
    · exact (minL_ok (ns := [ns.getD 4 0 % most, ns.getD 5 0 % most]) (by simp)).2 _ (maxL_ok (by simp)).1
theorem lplan_ok (ns : List Int) (hn : ns.length ≤ 63) : ∃ ds : List Deed, M__law_plan [.lst (ns.map .int)] = some (.ok (.lst (ds.map deedP))) ∧ ds.length ≤ 63 ∧ ∀ d ∈ ds, DeedOk d := by
  suffices h : ∃ p, M__law_plan [.lst (ns.map .int)] = some (.ok p) ∧ ∃ ds : List Deed, p = .lst (ds.map deedP) ∧ ds.length ≤ 63 ∧ ∀ d ∈ ds, DeedOk d by
    obtain ⟨p, e, z, rfl, h⟩ := h
    exact ⟨z, e, h⟩
  obtain ⟨ms, em, hm⟩ := cut_int ns (some 1) (some 63)
  refine ex_finO ?_
  unfold B__law_plan
  walk_at "rd"
  rw [em]
  have el : (enumP (ms.map PV.int)).length = ms.length := by unfold enumP; simp
  refine ⟨by rw [el]; exact Nat.le_of_lt (small1000 (by omega)), ?_⟩
  have go : ∀ (l : List PV), (∀ x ∈ l, ∃ i n : Int, x = .tup [.int i, .int n]) → ∃ ds : List Deed, compL (gT 2 (gsCons (gN 0) (gsCons (gN 1) gsNil))) mYes (mCall M__law_deed (mCons (mV 1) (mCons (mV 0) mNil))) [none, none] l = some (.ok (ds.map deedP)) ∧ ds.length = l.length ∧ ∀ d ∈ ds, DeedOk d := by
    intro l
    induction l with
    | nil => intro _; exact ⟨[], rfl, rfl, fun d h => nomatch h⟩
    | cons x l ih =>
      intro h
      obtain ⟨i, n, rfl⟩ := h _ List.mem_cons_self
      obtain ⟨ds, e, hl, hd⟩ := ih fun y hy => h y (List.mem_cons_of_mem _ hy)
      obtain ⟨d, ed, hdk⟩ := ldeed_ok n i
      refine ⟨d :: ds, ?_, by simp [hl], fun d' h' => ?_⟩
      · have e1 : mCall M__law_deed (mCons (mV 1) (mCons (mV 0) mNil)) [some (.sh (.int i)), some (.sh (.int n))] = some (.ok (deedP d)) := by
          refine ok_of ?_
          walk_at "rd"
          rw [ed]
          walk_at "rd"
        rw [compL, show (gT 2 (gsCons (gN 0) (gsCons (gN 1) gsNil))) (.tup [.int i, .int n]) [none, none] = some [some (.sh (.int i)), some (.sh (.int n))] from rfl]
        simp only [mYes, bnd, if_true, e1, e, List.map_cons]
      · rcases List.mem_cons.mp h' with q | q
        · subst q; exact hdk
        · exact hd d' q
  obtain ⟨ds, e, hl, hd⟩ := go (enumP (ms.map PV.int)) fun x hx => by
    obtain ⟨i, hi, ex⟩ := List.mem_iff_getElem.mp hx
    have e0 : (enumP (ms.map PV.int))[i]? = some x := by rw [List.getElem?_eq_getElem hi, ex]
    unfold enumP at e0
    rw [List.getElem?_mapIdx, List.getElem?_map] at e0
    cases q : ms[i]? with
    | none => rw [q] at e0; cases e0
    | some n => rw [q] at e0; cases e0; exact ⟨_, _, rfl⟩
  rw [e]
  walk_at "rd"
  exact ⟨ds, rfl, by rw [hl, el]; omega, hd⟩
noncomputable def deedW : Deed → List Str
  | .prt b i => [Str.ofString "print", numS b, numS i]
  | .cut b w l f t => [Str.ofString "cut", numS b, w, numS l, numS f, numS t]
noncomputable def deedT (d : Deed) : Str := Txt.join ⟨#[32]⟩ (deedW d)
theorem deedW_len {d : Deed} (h : DeedOk d) : (deedW d).length ≤ 6 ∧ ∀ w ∈ deedW d, w.length ≤ 6 := by
  cases d with
  | prt b i =>
    refine ⟨by simp [deedW], fun w hw => ?_⟩
    have a1 := numS_len h.1; have a2 := numS_len h.2
    simp only [deedW, List.mem_cons, List.not_mem_nil, or_false] at hw
    rcases hw with rfl | rfl | rfl
    · decide +kernel
    · omega
    · omega
  | cut b w l f t =>
    obtain ⟨h1, h2, h3, h4, h5, h6⟩ := h
    refine ⟨by simp [deedW], fun x hx => ?_⟩
    have a1 := numS_len h1; have a2 := numS_len h3; have a3 := numS_len h4; have a4 := numS_len h5
    simp only [deedW, List.mem_cons, List.not_mem_nil, or_false] at hx
    rcases hx with rfl | rfl | rfl | rfl | rfl | rfl
    · decide +kernel
    · omega
    · rcases h2 with rfl | rfl <;> decide +kernel
    · omega
    · omega
    · omega
theorem sum6 {l : List Str} {m : Nat} (h : ∀ w ∈ l, w.length ≤ m) : (l.map (·.length)).sum ≤ m * l.length := by
  induction l with
  | nil => simp
  | cons a l ih =>
    rw [List.map_cons, List.sum_cons, List.length_cons, Nat.mul_succ]
    have := h a List.mem_cons_self
    have := ih fun w hw => h w (List.mem_cons_of_mem _ hw)
    omega
theorem asStrs_all : ∀ ys : List Str, asStrs (ys.map PV.str) = some ys
  | [] => rfl
  | y :: ys => by rw [List.map_cons, asStrs, asStrs_all ys]; rfl
theorem spD : (Str.ofString " ") = ⟨#[32]⟩ := rfl
theorem nlD : (Str.ofString "\n") = ⟨#[10]⟩ := rfl
theorem cut4 (a b x y : PV) : cutP [a, b, x, y] (some 1) none = [b, x, y] := rfl
theorem tS (i : Int) : (toString i : Str) = numS i := rfl
theorem deedT_len {d : Deed} (h : DeedOk d) : (deedT d).length ≤ 42 := by
  have hw := deedW_len h
  have sm := sum6 hw.2
  have := join_len 32 (deedW d)
  unfold deedT
  omega
theorem join3 (s a b c : Str) : Txt.join s [a, b, c] = a ++ s ++ b ++ s ++ c := rfl
theorem lrowsD_ok (ds : List Deed) (hl : ds.length ≤ 63) (h : ∀ d ∈ ds, DeedOk d) : M__law_rows [.lst (ds.map deedP)] = some (.ok (.lst ((ds.map deedT).map PV.str))) := by
  refine finO_of (x := B__law_rows (startR [.lst (ds.map deedP)] 2)) ?_
  have big : ∀ {n : Nat}, n ≤ 1000 → n ≤ sizeLine := fun h => Nat.le_of_lt (small1000 h)
  unfold B__law_rows
  walk_at "rd"
  refine to_loopN (fun i ρ => ∃ v2, ρ = [some (.sh (.lst (ds.map deedP))), some (.ow (.lst (((ds.take i).map deedT).map PV.str))), v2]) ⟨none, rfl⟩ ?_ ?_
  · rintro i x ρ hx ⟨v2, rfl⟩
    rw [List.getElem?_map] at hx
    cases hd : ds[i]? with
    | none => rw [hd] at hx; cases hx
    | some d =>
      rw [hd] at hx
      cases hx
      have hi := lt_of_get hd
      have hok := h d (List.mem_of_getElem? hd)
      have tk : (ds.take (i + 1)).map deedT = (ds.take i).map deedT ++ [deedT d] := by rw [List.take_succ, hd, List.map_append]; rfl
      have sz : (((ds.take i).map deedT).map PV.str).length < sizeLine := by
        rw [List.length_map, List.length_map, List.length_take]; exact small1000 (by omega)
      have hw := deedW_len hok
      have sm := sum6 hw.2
      unfold B__law_rows_3
      cases d with
      | prt b j =>
        unfold deedP
        have a1 := numS_len hok.1; have a2 := numS_len hok.2
        walk_at "rd"
        unfold B__law_rows_1
        walk_at "rd"
        rw [tk]
        have e : Str.ofString "print " ++ numS b ++ Str.ofString " " ++ numS j = deedT (.prt b j) := by
          unfold deedT deedW
          rw [join3, show Str.ofString "print " = Str.ofString "print" ++ (⟨#[32]⟩ : Str) from rfl]
          rfl
        have cl : ∀ x y : Str, (x ++ y).length = x.length + y.length := fun x y => Array.size_append
        have l6 : (Str.ofString "print ").length = 6 := by decide +kernel
        rw [tS, tS, e]
        refine ⟨num_log hok.1, big (by rw [l6]; omega), big (by rw [cl, l6]; show _ + 1 ≤ _; omega), num_log hok.2, big (by rw [cl, cl, l6, show (Str.ofString " ").length = 1 from rfl]; omega), sz, _, rfl⟩
      | cut b w l f t =>
        obtain ⟨h1, h2, h3, h4, h5, h6⟩ := hok
        unfold deedP
        walk_at "rd"
        rw [if_neg (by decide)]
        unfold B__law_rows_2
        walk_at "rd"
        rw [cut4]
        refine ⟨num_log h1, by decide, by decide, Nat.le_of_lt (small1000 (show 3 ≤ 1000 by decide)), ?_⟩
        rw [show ([PV.int l, PV.int f, PV.int t] : List PV) = [l, f, t].map PV.int from rfl, compMap PV.int (fun i => .str (numS i)) _ fun i hi => ?_]
        · walk_at "rd"
          rw [tk]
          refine ⟨by decide, ?_⟩
          have e := asStrs_all (deedW (.cut b w l f t))
          refine ⟨_, e, ?_, sz, ?_⟩
          · show _ + _ * 1 ≤ _
            omega
          · rw [spD]; exact ⟨_, rfl⟩
        · walk_at "rd"
          refine ⟨?_, rfl⟩
          simp only [List.mem_cons, List.not_mem_nil, or_false] at hi
          rcases hi with rfl | rfl | rfl
          · exact num_log h3
          · exact num_log h4
          · exact num_log h5
  · rintro ρ ⟨v2, rfl⟩
    rw [List.length_map, List.take_length]
    unfold B__law_rows_4
    walk_at "rd"
noncomputable def isDg (c : Nat) : Bool := decide (48 ≤ c ∧ c ≤ 57)
noncomputable def numB (z : Str) : Bool := decide (1 ≤ z.length ∧ z.length ≤ 3) && z.cps.toList.all isDg && !(decide (1 < z.length) && (z.cps.toList.head? == some 48))
noncomputable def numV (z : Str) : Int := (PySem.NumText.digitsVal z.cps.toList : Nat)
noncomputable def numP (z : Str) : PV := if numB z = true then .int (numV z) else .non
theorem figures : (Str.ofString "0123456789").cps.toList = List.range' 48 10 := by decide +kernel
theorem occ_figure (c : Nat) : (!(Builtin.Str.occurrences (Str.ofString "0123456789") ⟨#[c]⟩ 0 (Str.ofString "0123456789").length 1).isEmpty) = isDg c := by
  rw [PySem.StrLaws.found_one, figures]
  unfold isDg
  rw [decide_eq_decide, List.mem_range'_1]
  omega
theorem asBools_mapN : ∀ ys : List Bool, asBools (ys.map PV.bl) = some ys
  | [] => rfl
  | y :: ys => by rw [List.map_cons, asBools, asBools_mapN ys]; rfl
theorem number_ok (z : Str) (hz : z.length ≤ sizeLine) : M_number_of [.str z] = some (.ok (numP z)) := by
  refine fin_of (x := B_number_of (startR [.str z] 0)) ?_
  have bad : numB z = false → ∀ {K : Rho → Prop}, To (B_number_of_1 [some (.sh (.str z))]) (onNx K fun o => fin (some o) = some (.ok (numP z))) := fun h {K} => by
    unfold B_number_of_1
    walk_at "rd"
    unfold numP
    rw [if_neg (by rw [h]; decide)]
  unfold B_number_of
  walk_at "rd"
  refine ⟨hz, ite2 (fun h1 => ite2 (fun h2 => bad ?_) fun h2 => ?_) fun h1 => bad ?_⟩
  · unfold numB; rw [decide_eq_false (show ¬ (1 ≤ z.length ∧ z.length ≤ 3) by omega)]; rfl
  · have hl : 1 ≤ z.length ∧ z.length ≤ 3 := by omega
    refine ⟨by unfold MP.signs; rw [List.length_map, Array.length_toList]; exact hz, ?_⟩
    rw [compM (fun x => match x with | .str y => .bl (!(Builtin.Str.occurrences (Str.ofString "0123456789") y 0 (Str.ofString "0123456789").length 1).isEmpty) | _ => .non)]
    · walk_at "rd"
      have e : (MP.signs z).map (fun x => match x with | .str y => PV.bl (!(Builtin.Str.occurrences (Str.ofString "0123456789") y 0 (Str.ofString "0123456789").length 1).isEmpty) | _ => .non) = (z.cps.toList.map isDg).map PV.bl := by
        unfold MP.signs
        rw [List.map_map, List.map_map]
        refine List.map_congr_left fun c _ => ?_
        show PV.bl (!(Builtin.Str.occurrences _ ⟨#[c]⟩ 0 _ 1).isEmpty) = PV.bl (isDg c)
        rw [occ_figure]
      rw [e, asBools_mapN]
      refine ⟨_, rfl, ?_⟩
      have e2 : (z.cps.toList.map isDg).all id = z.cps.toList.all isDg := by rw [List.all_map]; rfl
      rw [e2]
      refine ite2 (fun h3 => bad ?_) fun h3 => ?_
      · unfold numB; rw [decide_eq_true hl, h3]; rfl
      · have h3 : z.cps.toList.all isDg = true := by simpa using h3
        have nb : numB z = !(decide (1 < z.length) && (z.cps.toList.head? == some 48)) := by unfold numB; rw [decide_eq_true hl, h3]; rfl
        obtain ⟨c, cs, ec⟩ : ∃ c cs, z.cps.toList = c :: cs := by
          cases h : z.cps.toList with
          | nil =>
            have : z.cps.toList.length = z.length := Array.length_toList
            rw [h] at this
            simp at this
            omega
          | cons c cs => exact ⟨c, cs, rfl⟩
        have at0 : atI z.cps.toList 0 = some c := by rw [ec]; exact atI_pos (by decide) rfl
        have fin3 : numB z = true → To (B_number_of_3 [some (.sh (.str z))]) fun o => fin (some o) = some (.ok (numP z)) := fun h => by
          unfold B_number_of_3
          walk_at "rd"
          have hd : PySem.NumText.AllDigits z.cps.toList := fun c hc => by
            have := List.all_eq_true.mp h3 c hc
            unfold isDg at this
            simpa using this
          refine ⟨by omega, _, PySem.intText_digits hd (by rw [ec]; simp) (by omega), ?_⟩
          unfold numP
          rw [if_pos h]
          rfl
        unfold B_number_of_4
        walk_at "rd"
        refine ⟨hz, ite2 (fun h4 => ⟨hz, c, at0, ?_⟩) fun h4 => fin3 ?_⟩
        · have lt : decide (1 < z.length) = true := by simp; omega
          refine ite2 (fun h5 => ?_) fun h5 => fin3 ?_
          · unfold B_number_of_2
            walk_at "rd"
            have h5 : c = 48 := by
              have := congrArg (fun s : Str => s.cps.toList) h5
              have e0 : (Str.ofString "0").cps.toList = [48] := by decide +kernel
              have this : [c] = (Str.ofString "0").cps.toList := this
              rw [e0] at this
              simpa using this
            unfold numP
            rw [if_neg (by rw [nb, lt, ec, h5]; simp)]
          · rw [nb, lt, ec]
            have : c ≠ 48 := fun h => by rw [h] at h5; exact h5 (show (⟨#[48]⟩ : Str) = Str.ofString "0" from by decide +kernel)
            simp [this]
        · rw [nb, decide_eq_false (show ¬ 1 < z.length by omega)]; rfl
    · intro x hx
      obtain ⟨c, hc, rfl⟩ := List.mem_map.mp hx
      walk_at "rd"
      exact ⟨_, rfl, rfl⟩
  · unfold numB; rw [decide_eq_false (show ¬ (1 ≤ z.length ∧ z.length ≤ 3) by omega)]; rfl
theorem num_back : ∀ i : Fin 1000, numB (numS (i.val : Int)) = true ∧ numV (numS (i.val : Int)) = (i.val : Int) ∧ (numS (i.val : Int)).cps.toList.all (fun c => c != 32 && c != 10) = true := by decide +kernel
theorem numS_back {i : Int} (h : N3 i) : numP (numS i) = .int i ∧ ∀ c ∈ (numS i).cps.toList, c ≠ 32 ∧ c ≠ 10 := by
  obtain ⟨h0, h1⟩ := h
  obtain ⟨n, rfl⟩ := Int.eq_ofNat_of_zero_le h0
  obtain ⟨e1, e2, e3⟩ := num_back ⟨n, by omega⟩
  refine ⟨by unfold numP; rw [if_pos e1, e2], fun c hc => ?_⟩
  have := List.all_eq_true.mp e3 c hc
  simp at this
  exact this
theorem word_signs : ∀ w ∈ [Str.ofString "print", Str.ofString "cut", Str.ofString "row", Str.ofString "column"], ∀ c ∈ w.cps.toList, c ≠ 32 ∧ c ≠ 10 := by decide +kernel
theorem deedW_signs {d : Deed} (h : DeedOk d) : ∀ w ∈ deedW d, ∀ c ∈ w.cps.toList, c ≠ 32 ∧ c ≠ 10 := by
  cases d with
  | prt b i =>
    intro w hw
    simp only [deedW, List.mem_cons, List.not_mem_nil, or_false] at hw
    rcases hw with rfl | rfl | rfl
    · exact word_signs _ (by simp)
    · exact (numS_back h.1).2
    · exact (numS_back h.2).2
  | cut b w l f t =>
    obtain ⟨h1, h2, h3, h4, h5, _⟩ := h
    intro v hv
    simp only [deedW, List.mem_cons, List.not_mem_nil, or_false] at hv
    rcases hv with rfl | rfl | rfl | rfl | rfl | rfl
    · exact word_signs _ (by simp)
    · exact (numS_back h1).2
    · rcases h2 with rfl | rfl <;> exact word_signs _ (by simp)
    · exact (numS_back h3).2
    · exact (numS_back h4).2
    · exact (numS_back h5).2
theorem joinL_mem {c x : Nat} : ∀ {rs : List (List Nat)}, x ∈ joinL c rs → x = c ∨ ∃ r ∈ rs, x ∈ r
  | [], h => by cases h
  | r :: rs, h => by
    rw [joinL_cons] at h
    rcases List.mem_append.mp h with q | q
    · exact .inr ⟨r, List.mem_cons_self, q⟩
    · obtain ⟨y, hy, hx⟩ := List.mem_flatten.mp q
      obtain ⟨z, hz, rfl⟩ := List.mem_map.mp hy
      rcases List.mem_cons.mp hx with e | e
      · exact .inl e
      · exact .inr ⟨z, List.mem_cons_of_mem _ hz, e⟩
theorem deedT_signs {d : Deed} (h : DeedOk d) : 10 ∉ (deedT d).cps.toList := by
  intro hm
  unfold deedT at hm
  rw [join_list] at hm
  rcases joinL_mem hm with e | ⟨r, hr, hx⟩
  · cases e
  · obtain ⟨w, hw, rfl⟩ := List.mem_map.mp hr
    exact (deedW_signs h w hw 10 hx).2 rfl
theorem splitC_sum (c : Nat) : ∀ l : List Nat, ((splitC c l).map (·.length)).sum + (splitC c l).length = l.length + 1
  | [] => rfl
  | x :: l => by
    have ih := splitC_sum c l
    unfold splitC
    split
    · rw [List.map_cons, List.sum_cons, List.length_cons, List.length_cons, List.length_nil]; omega
    · obtain ⟨h, t, e⟩ := splitC_ne c l
      rw [e] at ih ⊢
      simp only [List.map_cons, List.sum_cons, List.length_cons] at ih ⊢
      omega
theorem splitC_mem (c : Nat) : ∀ (l : List Nat), ∀ r ∈ splitC c l, ∀ x ∈ r, x ∈ l
  | [], r, hr, x, hx => by
    have : r = [] := by simpa [splitC] using hr
    subst this
    cases hx
  | y :: l, r, hr, x, hx => by
    unfold splitC at hr
    split at hr
    · rcases List.mem_cons.mp hr with e | q
      · subst e; cases hx
      · exact List.mem_cons_of_mem _ (splitC_mem c l r q x hx)
    · obtain ⟨h, t, e⟩ := splitC_ne c l
      rw [e] at hr
      rcases List.mem_cons.mp hr with e2 | q
      · subst e2
        rcases List.mem_cons.mp hx with e3 | q
        · rw [e3]; exact List.mem_cons_self
        · exact List.mem_cons_of_mem _ (splitC_mem c l h (by rw [e]; exact List.mem_cons_self) x q)
      · exact List.mem_cons_of_mem _ (splitC_mem c l r (by rw [e]; exact List.mem_cons_of_mem _ q) x hx)
noncomputable def wds (z : Str) : List Str := Txt.split z ⟨#[32]⟩
theorem wds_eq (z : Str) : wds z = (splitC 32 z.cps.toList).map ofL := split_one z 32 (by decide)
theorem len_list (z : Str) : z.cps.toList.length = z.length := Array.length_toList
theorem wds_sum (z : Str) : ((wds z).map (·.length)).sum + (wds z).length = z.length + 1 := by
  have := splitC_sum 32 z.cps.toList
  rw [len_list] at this
  rw [wds_eq, List.map_map, List.length_map]
  rw [show ((fun s : Str => s.length) ∘ ofL) = fun l : List Nat => l.length from funext fun l => ofL_len l]
  exact this
theorem wds_ne (z : Str) : wds z ≠ [] := by
  obtain ⟨h, t, e⟩ := splitC_ne 32 z.cps.toList
  rw [wds_eq, e]; simp
theorem wds_sign {z w : Str} (hw : w ∈ wds z) {x : Nat} (hx : x ∈ w.cps.toList) : x ∈ z.cps.toList := by
  rw [wds_eq] at hw
  obtain ⟨r, hr, rfl⟩ := List.mem_map.mp hw
  exact splitC_mem 32 _ r hr x hx
theorem le_sum {l : List Nat} : ∀ {x : Nat}, x ∈ l → x ≤ l.sum := by
  induction l with
  | nil => intro x hx; cases hx
  | cons a l ih =>
    intro x hx
    rw [List.sum_cons]
    rcases List.mem_cons.mp hx with e | q
    · omega
    · have := ih q; omega
theorem wds_len {z w : Str} (hw : w ∈ wds z) : w.length ≤ z.length := by
  have h1 := le_sum (List.mem_map.mpr ⟨w, hw, rfl⟩ : w.length ∈ (wds z).map (·.length))
  have h2 := wds_sum z
  have h3 : 0 < (wds z).length := List.length_pos_iff.mpr (wds_ne z)
  omega
noncomputable def Okb (n : Nat) (z : Str) : Prop := 10 ∉ z.cps.toList ∧ z.length ≤ n
theorem Okb.mono {n m : Nat} {z : Str} (h : Okb n z) (l : n ≤ m) : Okb m z := ⟨h.1, Nat.le_trans h.2 l⟩
theorem Okb.word {n : Nat} {z w : Str} (h : Okb n z) (hw : w ∈ wds z) : Okb n w := ⟨fun q => h.1 (wds_sign hw q), Nat.le_trans (wds_len hw) h.2⟩
theorem Okb.join {n : Nat} {ws : List Str} (h : ∀ w ∈ ws, 10 ∉ w.cps.toList) (hl : (ws.map (·.length)).sum + ws.length ≤ n) : Okb n (Txt.join ⟨#[32]⟩ ws) := by
  refine ⟨fun q => ?_, Nat.le_trans (join_len 32 ws) hl⟩
  rw [join_list] at q
  rcases joinL_mem q with e | ⟨r, hr, hx⟩
  · cases e
  · obtain ⟨w, hw, rfl⟩ := List.mem_map.mp hr
    exact h w hw hx
theorem find_figure (c : Nat) : findG (Str.ofString "0123456789") ⟨#[c]⟩ = some (if isDg c = true then ((c - 48 : Nat) : Int) else -1) := by
  have yes : ∀ k : Nat, k < 10 → findG (Str.ofString "0123456789") ⟨#[48 + k]⟩ = some (k : Int) := by decide +kernel
  by_cases h : isDg c = true
  · rw [if_pos h]
    unfold isDg at h
    rw [decide_eq_true_eq] at h
    have := yes (c - 48) (by omega)
    rw [show 48 + (c - 48) = c by omega] at this
    exact this
  · rw [if_neg h]
    have e := occ_figure c
    unfold findG
    cases hq : Builtin.Str.occurrences (Str.ofString "0123456789") ⟨#[c]⟩ 0 (Str.ofString "0123456789").length 1 with
    | nil => rfl
    | cons a l =>
      rw [hq] at e
      exact absurd e.symm h
theorem lworth_ok (z : Str) (hz : z.length ≤ 2000) : M__law_worth [.str z] = some (.ok (numP z)) := by
  have big : ∀ {n : Nat}, n ≤ 2000 → n ≤ sizeLine := fun h => Nat.le_trans h (by decide)
  have zl : z.cps.toList.length = z.length := Array.length_toList
  refine fin_of (x := B__law_worth (startR [.str z] 3)) ?_
  unfold B__law_worth
  walk_at "rd"
  refine to_loopN (fun i ρ => (z.cps.toList.take i).all isDg = true ∧ ∃ v2 v3, ρ = [some (.sh (.str z)), some (.sh (.int (PySem.NumText.digitsVal (z.cps.toList.take i) : Nat))), v2, v3]) ⟨rfl, none, none, rfl⟩ ?_ ?_
  · rintro i x ρ hx ⟨ha, v2, v3, rfl⟩
    unfold MP.signs at hx
    rw [List.getElem?_map] at hx
    cases ec : z.cps.toList[i]? with
    | none => rw [ec] at hx; cases hx
    | some c =>
      rw [ec] at hx
      cases hx
      have tk : z.cps.toList.take (i + 1) = z.cps.toList.take i ++ [c] := by rw [List.take_succ, ec]; rfl
      unfold B__law_worth_3
      walk_at "rd"
      refine ⟨_, find_figure c, ?_⟩
      by_cases hd : isDg c = true
      · rw [if_pos hd, if_neg (by omega)]
        unfold B__law_worth_2
        walk_at "rd"
        refine ⟨.inl ⟨by decide, by decide⟩, by rw [tk, List.all_append, ha]; simp [hd], some (.sh (.str ⟨#[c]⟩)), some (.sh (.int ((c - 48 : Nat) : Int))), ?_⟩
        rw [tk, PySem.NumText.digitsVal_snoc]
        have ee : (10 * ((PySem.NumText.digitsVal (z.cps.toList.take i) : Nat) : Int) + ((c - 48 : Nat) : Int)) = ((PySem.NumText.digitsVal (z.cps.toList.take i) * 10 + (c - 48) : Nat) : Int) := by
          generalize PySem.NumText.digitsVal (z.cps.toList.take i) = d
          omega
        rw [ee]
      · rw [if_neg hd, if_pos (by decide)]
        unfold B__law_worth_1
        walk_at "rd"
        unfold numP
        have : numB z = false := by
          unfold numB
          have : z.cps.toList.all isDg = false := by
            rw [Bool.eq_false_iff]
            intro h
            exact hd (List.all_eq_true.mp h c (List.mem_of_getElem? ec))
          rw [this, Bool.and_false, Bool.false_and]
        rw [if_neg (by rw [this]; decide)]
  · rintro ρ ⟨ha, v2, v3, rfl⟩
    have sl : (MP.signs z).length = z.cps.toList.length := by unfold MP.signs; rw [List.length_map]
    rw [sl, List.take_length] at ha ⊢
    have last : numB z = true → To (B__law_worth_5 [some (.sh (.str z)), some (.sh (.int (PySem.NumText.digitsVal z.cps.toList : Nat))), v2, v3]) fun o => fin (some o) = some (.ok (numP z)) := fun h => by
      unfold B__law_worth_5
      walk_at "rd"
      unfold numP
      rw [if_pos h]
      rfl
    have none4 : numB z = false → ∀ {K : Rho → Prop}, To (B__law_worth_4 [some (.sh (.str z)), some (.sh (.int (PySem.NumText.digitsVal z.cps.toList : Nat))), v2, v3]) (onNx K fun o => fin (some o) = some (.ok (numP z))) := fun h {K} => by
      unfold B__law_worth_4
      walk_at "rd"
      unfold numP
      rw [if_neg (by rw [h]; decide)]
    unfold B__law_worth_6
    walk_at "rd"
    refine ite2 (fun h1 => none4 ?_) fun h1 => ⟨big (by omega), ite2 (fun h2 => none4 ?_) fun h2 => ⟨big (by omega), ?_⟩⟩
    · rw [h1]; decide +kernel
    · unfold numB; rw [decide_eq_false (show ¬ (1 ≤ z.length ∧ z.length ≤ 3) by omega)]; rfl
    · obtain ⟨c, cs, ec⟩ : ∃ c cs, z.cps.toList = c :: cs := by
        cases h : z.cps.toList with
        | nil =>
          exfalso
          refine h1 ?_
          have h' : z.cps = #[] := by rw [← Array.toList_inj, h]
          show (⟨z.cps⟩ : Str) = _
          rw [h']
          decide +kernel
        | cons c cs => exact ⟨c, cs, rfl⟩
      have zl2 : z.length = cs.length + 1 := by rw [← zl, ec]; rfl
      have nb : numB z = !(decide (1 < z.length) && (z.cps.toList.head? == some 48)) := by unfold numB; rw [decide_eq_true (show 1 ≤ z.length ∧ z.length ≤ 3 by omega), ha]; rfl
      have e0 : (Str.ofString "0").cps.toList = [48] := by decide +kernel
      refine ⟨c, by rw [ec]; exact atI_pos (by decide) rfl, ite2 (fun h3 => ite2 (fun h4 => none4 ?_) fun h4 => last ?_) fun h3 => last ?_⟩
      · have hc : c = 48 := by
          have := congrArg (fun s : Str => s.cps.toList) h3
          have this : [c] = (Str.ofString "0").cps.toList := this
          rw [e0] at this
          simpa using this
        have : cs ≠ [] := fun e => h4 (by
          show (⟨z.cps⟩ : Str) = _
          have : z.cps = #[48] := by rw [← Array.toList_inj, ec, hc, e]
          rw [this]
          decide +kernel)
        have l0 : 1 < z.length := by
          cases cs with
          | nil => exact absurd rfl this
          | cons a b => rw [zl2]; simp
        rw [nb, decide_eq_true l0, ec, hc]
        simp
      · have h4 : z = Str.ofString "0" := by simpa using h4
        rw [h4]; decide +kernel
      · have : c ≠ 48 := fun h => by rw [h] at h3; exact h3 (show (⟨#[48]⟩ : Str) = Str.ofString "0" from by decide +kernel)
        rw [nb, ec]
        simp [this]
noncomputable def sPr : Str := Str.ofString "print"
noncomputable def sCut : Str := Str.ofString "cut"
noncomputable def sRow : Str := Str.ofString "row"
noncomputable def sCol : Str := Str.ofString "column"
noncomputable def dP (ws : List Str) : PV := match ws with
  | [a, b, c] => if a = sPr ∧ numB b = true ∧ numB c = true then .tup [.str sPr, .int (numV b), .int (numV c)] else .non
  | [a, b, c, d, e, f] => if a = sCut ∧ (c = sRow ∨ c = sCol) ∧ numB b = true ∧ numB d = true ∧ numB e = true ∧ numB f = true ∧ numV e ≤ numV f then .tup [.str sCut, .int (numV b), .tup [.str c, .int (numV d), .int (numV e), .int (numV f)]] else .non
  | _ => .non
theorem dP_non {ws : List Str} (h3 : ws.length ≠ 3) (h6 : ws.length ≠ 6) : dP ws = .non := by
  match ws, h3, h6 with
  | [], _, _ => rfl
  | [_], _, _ => rfl
  | [_, _], _, _ => rfl
  | [_, _, _], h, _ => exact absurd rfl h
  | [_, _, _, _], _, _ => rfl
  | [_, _, _, _, _], _, _ => rfl
  | [_, _, _, _, _, _], _, h => exact absurd rfl h
  | _ :: _ :: _ :: _ :: _ :: _ :: _ :: _, _, _ => rfl
theorem isw_non : M_is_whole [.non] = some (.ok (.bl false)) := by
  refine fin_of (x := B_is_whole (startR [.non] 0)) ?_
  unfold B_is_whole
  walk_at "rd"
theorem isw_num (z : Str) : M_is_whole [numP z] = some (.ok (.bl (numB z))) := by
  unfold numP
  split
  · rename_i h; rw [isw_int, h]
  · rename_i h; rw [isw_non, Bool.not_eq_true] at *; rw [h]
theorem numP_yes {z : Str} (h : numB z = true) : numP z = .int (numV z) := if_pos h
theorem numP_no {z : Str} (h : numB z = false) : numP z = .non := if_neg (by rw [h]; decide)
theorem inNon (l : List Str) : inU .non (.lst (l.map numP)) = some (!l.all numB) := by
  show inF .non (l.map numP) = _
  induction l with
  | nil => rfl
  | cons z l ih =>
    rw [List.map_cons, List.all_cons]
    cases h : numB z with
    | true =>
      rw [numP_yes h, Bool.true_and, inF, show eqF 31 (.int (numV z)) PV.non = some false from rfl, ih]
      rfl
    | false =>
      rw [numP_no h, inF, show eqF 31 PV.non PV.non = some true from rfl, ih]
      rfl
theorem worths {us : List Str} (h : ∀ u ∈ us, u.length ≤ 2000) : compL (gN 0) mYes (mCall M__law_worth (mCons (mV 0) mNil)) [none] (us.map .str) = some (.ok (us.map numP)) := compMap PV.str numP us fun u hu => by
  walk_at "rd"
  rw [lworth_ok u (h u hu)]
  walk_at "rd"
theorem lread_deed_ok (ws : List Str) (h : ∀ w ∈ ws, w.length ≤ 2000) : M__law_read_deed [.lst (ws.map .str)] = some (.ok (dP ws)) := by
  refine fin_of (x := B__law_read_deed (startR [.lst (ws.map .str)] 1)) (hideQ fun QS hQ => ?_)
  have five : ∀ v1, dP ws = .non → To (B__law_read_deed_5 [some (.sh (.lst (ws.map .str))), v1]) QS := fun v1 e => by
    unfold B__law_read_deed_5
    walk_at "rd"
    exact hQ _ (by rw [e]; rfl)
  have six : ∀ v1, ws.length = 6 ∨ dP ws = .non → To (B__law_read_deed_6 [some (.sh (.lst (ws.map .str))), v1]) QS := fun v1 e => by
    by_cases h6 : ws.length = 6
    · match ws, h6 with
      | [a, b, c, d, e, f], _ =>
        rename_i e0 _
        unfold B__law_read_deed_6
        walk_at "rd"
        rw [if_pos (by decide)]
        have no : (¬ (a = sCut ∧ (c = sRow ∨ c = sCol) ∧ numB b = true ∧ numB d = true ∧ numB e = true ∧ numB f = true ∧ numV e ≤ numV f)) → ∀ v1, To (B__law_read_deed_5 [some (.sh (.lst ([a, b, c, d, e, f].map .str))), v1]) QS := fun z v1 => five v1 (if_neg z)
        refine ite2 (fun ha => ?_) fun ha => no (fun z => ha z.1) v1
        have four : (c = sRow ∨ c = sCol) → To (B__law_read_deed_4 [some (.sh (.lst ([a, b, c, d, e, f].map .str))), v1]) (onNx (fun ρ' => To (B__law_read_deed_5 ρ') QS) QS) := fun hc => by
          unfold B__law_read_deed_4
          walk_at "rd"
          rw [lworth_ok b (h b (by simp))]
          walk_at "rd"
          rw [show cutP [PV.str a, PV.str b, PV.str c, PV.str d, PV.str e, PV.str f] (some 3) none = [d, e, f].map PV.str from rfl, worths (us := [d, e, f]) fun u hu => h u (by rcases List.mem_cons.mp hu with rfl | hu <;> simp_all)]
          walk_at "rd"
          refine ⟨by decide, by decide, by decide, _, inNon [b, d, e, f], ?_⟩
          cases hb : numB b <;> cases hd : numB d <;> cases he : numB e <;> cases hf : numB f <;> simp only [List.all_cons, List.all_nil, hb, hd, he, hf, Bool.and_true, Bool.and_false, Bool.false_and, Bool.true_and, Bool.not_true, Bool.not_false] <;> first
            | exact no (fun z => by simp [hb, hd, he, hf] at z) _
            | skip
          rw [if_pos trivial, numP_yes hb, numP_yes hd, numP_yes he, numP_yes hf]
          walk_at "rd"
          refine ite2 (fun hle => ?_) fun hle => no (fun z => hle z.2.2.2.2.2.2) _
          unfold B__law_read_deed_3
          walk_at "rd"
          refine ⟨by decide, by decide, hQ _ ?_⟩
          rw [show dP [a, b, c, d, e, f] = _ from if_pos ⟨ha, hc, hb, hd, he, hf, hle⟩]
          rfl
        refine ite2 (fun hc => four (.inl hc)) fun hc => ite2 (fun hc' => four (.inr hc')) fun hc' => no (fun z => z.2.1.elim hc hc') v1
    · unfold B__law_read_deed_6
      walk_at "rd"
      rw [List.length_map, if_neg (by omega)]
      exact five v1 (e.resolve_left h6)
  by_cases h3 : ws.length = 3
  · match ws, h3 with
    | [a, b, c], _ =>
      unfold B__law_read_deed
      walk_at "rd"
      rw [if_pos (by decide)]
      refine ite2 (fun ha => ?_) fun ha => six none (.inr (if_neg fun z => ha z.1))
      unfold B__law_read_deed_2
      walk_at "rd"
      rw [show cutP [PV.str a, PV.str b, PV.str c] (some 1) none = [b, c].map PV.str from rfl, worths (us := [b, c]) fun u hu => h u (List.mem_cons_of_mem _ hu)]
      walk_at "rd"
      refine ⟨by decide, _, inNon [b, c], ?_⟩
      have no : (¬ (a = sPr ∧ numB b = true ∧ numB c = true)) → ∀ v1, To (B__law_read_deed_6 [some (.sh (.lst ([a, b, c].map .str))), v1]) QS := fun z v1 => six v1 (.inr (if_neg z))
      cases hb : numB b <;> cases hc : numB c <;> simp only [List.all_cons, List.all_nil, hb, hc, Bool.and_true, Bool.and_false, Bool.false_and, Bool.true_and, Bool.not_true, Bool.not_false] <;> first
        | exact no (fun z => by simp [hb, hc] at z) _
        | skip
      rw [if_pos trivial]
      unfold B__law_read_deed_1
      walk_at "rd"
      rw [numP_yes hb, numP_yes hc]
      refine ⟨by decide, hQ _ ?_⟩
      rw [show dP [a, b, c] = _ from if_pos ⟨ha, hb, hc⟩]
      rfl
  · unfold B__law_read_deed
    walk_at "rd"
    rw [List.length_map, if_neg (by omega)]
    by_cases h6 : ws.length = 6
    · exact six none (.inl h6)
    · exact six none (.inr (dP_non h3 h6))
theorem numbers {us : List Str} (h : ∀ u ∈ us, u.length ≤ 2000) : compL (gN 0) mYes (mCall M_number_of (mCons (mV 0) mNil)) [none] (us.map .str) = some (.ok (us.map numP)) := compMap PV.str numP us fun u hu => by
  walk_at "rd"
  rw [number_ok u (Nat.le_trans (h u hu) (by decide))]
  walk_at "rd"
theorem stroke_len {l : List PV} (hl : l.length ≠ 4) : M_is_stroke [.tup l] = some (.ok (.bl false)) := by
  refine fin_of (x := B_is_stroke (startR [.tup l] 0)) ?_
  unfold B_is_stroke
  walk_at "rd"
  rw [if_pos (by omega)]
  unfold B_is_stroke_1
  walk_at "rd"
theorem stroke_num {w x y z : Str} : M_is_stroke [.tup [.str w, numP x, numP y, numP z]] = some (.ok (.bl (decide ((w = sRow ∨ w = sCol) ∧ numB x = true ∧ numB y = true ∧ numB z = true ∧ numV y ≤ numV z)))) := by
  refine fin_of (x := B_is_stroke (startR [.tup [.str w, numP x, numP y, numP z]] 0)) (hideQ fun QS hQ => ?_)
  unfold B_is_stroke
  walk_at "rd"
  rw [if_neg (by decide)]
  unfold B_is_stroke_4
  walk_at "rd"
  refine ⟨by decide, _, inF_map (g := PV.str) (fun a b => eqF_str 31 a b) w [Str.ofString "row", Str.ofString "column"], ?_⟩
  by_cases hw : w = sRow ∨ w = sCol
  · rw [show decide (w ∈ [Str.ofString "row", Str.ofString "column"]) = true from decide_eq_true (by rcases hw with rfl | rfl <;> simp [sRow, sCol])]
    walk_at "rd"
    unfold B_is_stroke_3
    walk_at "rd"
    rw [show cutP [PV.str w, numP x, numP y, numP z] (some 1) none = [x, y, z].map numP from rfl]
    refine ⟨by decide, Nat.le_of_lt (small1000 (show 3 ≤ 1000 by decide)), ?_⟩
    rw [compMap numP (fun u => .bl (numB u)) _ fun i _ => ?_]
    · walk_at "rd"
      refine ⟨[numB x, numB y, numB z], rfl, ?_⟩
      cases hx : numB x <;> cases hy : numB y <;> cases hz : numB z <;> simp only [List.all_cons, List.all_nil, id, hx, hy, hz, Bool.and_true, Bool.and_false, Bool.false_and, Bool.true_and] <;> first
        | (rw [if_neg (by decide)]; exact hQ _ (by rw [decide_eq_false (fun q => by simp [hx, hy, hz] at q)]; rfl))
        | skip
      rw [if_pos trivial, numP_yes hy, numP_yes hz]
      walk_at "rd"
      refine hQ _ ?_
      show some (Res.ok (PV.bl _)) = _
      exact congrArg (fun v => some (Res.ok (PV.bl v))) (decide_eq_decide.mpr ⟨fun q => ⟨hw, hx, hy, hz, q⟩, fun q => q.2.2.2.2⟩)
    · walk_at "rd"
      rw [isw_num]
      walk_at "rd"
  · rw [show decide (w ∈ [Str.ofString "row", Str.ofString "column"]) = false from decide_eq_false fun q => hw (by simpa [sRow, sCol] using q)]
    walk_at "rd"
    unfold B_is_stroke_2
    walk_at "rd"
    exact hQ _ (by rw [decide_eq_false (fun q => hw q.1)]; rfl)
theorem cut_takeS (l : List Str) (k : Nat) (hk : k ≤ l.length) : cutP (l.map PV.str) none (some (k : Int)) = (l.take k).map PV.str := by
  unfold cutP
  rw [HT.sIx_none, HT.sIx_nat, List.length_map, Nat.min_eq_left hk, List.drop_zero, Nat.sub_zero, List.map_take]
theorem cut_dropS (l : List Str) (k : Nat) (hk : k ≤ l.length) : cutP (l.map PV.str) (some (k : Int)) none = (l.drop k).map PV.str := by
  unfold cutP
  rw [HT.sIx_none, HT.sIx_nat, List.length_map, Nat.min_eq_left hk, List.take_of_length_le (by simp), List.map_drop]
noncomputable def stB (w : Str) (us : List Str) : Prop := ∃ x y z, us = [x, y, z] ∧ (w = sRow ∨ w = sCol) ∧ numB x = true ∧ numB y = true ∧ numB z = true ∧ numV y ≤ numV z
theorem stroke_of_no {w : Str} {us : List Str} (h : ∀ u ∈ us, u.length ≤ 2000) (hl : us.length ≤ 5000) (hs : ¬ stB w us) : M_stroke_of [.lst ((w :: us).map .str)] = some (.ok .non) := by
  have big : ∀ {n : Nat}, n ≤ 6000 → n ≤ sizeLine := fun h => Nat.le_trans h (by decide)
  refine fin_of (x := B_stroke_of (startR [.lst ((w :: us).map .str)] 1)) ?_
  have e : M_is_stroke [.tup (.str w :: us.map numP)] = some (.ok (.bl false)) := by
    by_cases h3 : us.length = 3
    · match us, h3 with
      | [x, y, z], _ =>
        show M_is_stroke [.tup [.str w, numP x, numP y, numP z]] = _
        rw [stroke_num, decide_eq_false fun q => hs ⟨x, y, z, rfl, q⟩]
    · exact stroke_len (by rw [List.length_cons, List.length_map]; omega)
  unfold B_stroke_of
  walk_at "rd"
  have c1 : cutP (PV.str w :: us.map .str) (some 1) none = us.map .str := cut_dropS (w :: us) 1 (by simp)
  have c2 : cutP (PV.str w :: us.map .str) none (some 1) = [.str w] := cut_takeS (w :: us) 1 (by simp)
  rw [c1, c2, numbers h]
  walk_at "rd"
  rw [e]
  walk_at "rd"
  rw [List.length_map, List.length_map]
  exact ⟨big (by omega), big (by omega)⟩
theorem stroke_of_yes {w x y z : Str} (h : ∀ u ∈ [x, y, z], u.length ≤ 2000) (hs : (w = sRow ∨ w = sCol) ∧ numB x = true ∧ numB y = true ∧ numB z = true ∧ numV y ≤ numV z) : M_stroke_of [.lst ([w, x, y, z].map .str)] = some (.ok (.tup [.str w, .int (numV x), .int (numV y), .int (numV z)])) := by
  refine fin_of (x := B_stroke_of (startR [.lst ([w, x, y, z].map .str)] 1)) ?_
  have e : M_is_stroke [.tup [.str w, numP x, numP y, numP z]] = some (.ok (.bl true)) := by rw [stroke_num, decide_eq_true hs]
  unfold B_stroke_of
  walk_at "rd"
  rw [show cutP [PV.str w, PV.str x, PV.str y, PV.str z] (some 1) none = [x, y, z].map .str from rfl, show cutP [PV.str w, PV.str x, PV.str y, PV.str z] none (some 1) = [.str w] from rfl, numbers h]
  walk_at "rd"
  rw [e]
  walk_at "rd"
  rw [numP_yes hs.2.1, numP_yes hs.2.2.1, numP_yes hs.2.2.2.1]
  exact ⟨by decide, by decide, rfl⟩
theorem deed_of_any (z : Str) (hz : z.length ≤ 2000) : M_deed_of [.str z] = some (.ok (dP (wds z))) := by
  refine fin_of (x := B_deed_of (startR [.str z] 3)) (hideQ fun QS hQ => ?_)
  have hw : ∀ w ∈ wds z, w.length ≤ 2000 := fun w h => Nat.le_trans (wds_len h) hz
  have hl : (wds z).length ≤ 2001 := by have := wds_sum z; omega
  have one : dP (wds z) = .non → To (B_deed_of_1 [some (.sh (.str z)), some (.sh (.lst ((wds z).map .str))), none, none]) (onNx (fun ρ' => To (B_deed_of_8 ρ') QS) QS) := fun e => by
    unfold B_deed_of_1
    walk_at "rd"
    exact hQ _ (by rw [e]; rfl)
  unfold B_deed_of
  walk_at "rd"
  rw [spD, show Txt.split z ⟨#[32]⟩ = wds z from rfl]
  rw [List.length_map]
  refine ⟨rfl, Nat.le_trans hz (by decide), Nat.le_trans (show _ ≤ 2001 from hl) (by decide), ?_⟩
  by_cases h3 : (wds z).length < 3
  · rw [if_pos (by omega)]
    exact one (dP_non (by omega) (by omega))
  rw [if_neg (by omega)]
  generalize wds z = ws at *
  match ws, h3 with
  | [], h => exact absurd (by simp) h
  | [_], h => exact absurd (by simp) h
  | [_, _], h => exact absurd (by simp) h
  | a :: b :: c :: us, _ =>
    have big : ∀ {n : Nat}, n ≤ 6000 → n ≤ sizeLine := fun h => Nat.le_trans h (by decide)
    have hul : us.length ≤ 2000 := by simp at hl; omega
    have none7 : dP (a :: b :: c :: us) = .non → ∀ p q : PV, p = .non ∨ (∃ i, p = .int i) → q = .non ∨ (∃ i, q = .int i) ∨ (∃ l, q = .tup l) → p = .non ∨ q = .non → To (B_deed_of_7 [some (.sh (.str z)), some (.sh (.lst (.str a :: .str b :: .str c :: us.map .str))), some (.sh p), some (.sh q)]) QS := fun e p q hp hq hn => by
      have e5 : ∀ ρ : Rho, To (B_deed_of_5 ρ) (onNx (fun ρ' => To (B_deed_of_6 ρ') QS) QS) := fun ρ => by
        unfold B_deed_of_5
        walk_at "rd"
        exact hQ _ (by rw [e]; rfl)
      unfold B_deed_of_7
      rcases hp with rfl | ⟨i, rfl⟩
      · walk_at "rd"
        exact e5 _
      · have : q = .non := hn.resolve_left fun z => by cases z
        subst this
        walk_at "rd"
        exact e5 _
    have some7 : ∀ (i : Int) (q : PV), (∃ i, q = .int i) ∨ (∃ l, q = .tup l) → dP (a :: b :: c :: us) = .tup [.str a, .int i, q] → To (B_deed_of_7 [some (.sh (.str z)), some (.sh (.lst (.str a :: .str b :: .str c :: us.map .str))), some (.sh (.int i)), some (.sh q)]) QS := fun i q hq e => by
      unfold B_deed_of_7
      rcases hq with ⟨j, rfl⟩ | ⟨l, rfl⟩ <;>
      · walk_at "rd"
        unfold B_deed_of_6
        walk_at "rd"
        refine ⟨by decide, hQ _ (by rw [e]; rfl)⟩
    have pB : numP b = .non ∨ ∃ i, numP b = .int i := by unfold numP; split; exact .inr ⟨_, rfl⟩; exact .inl rfl
    have nb := number_ok b (Nat.le_trans (hw b (by simp)) (by decide))
    have hwu : ∀ u ∈ us, u.length ≤ 2000 := fun u h => hw u (by simp [h])
    unfold B_deed_of_8
    walk_at "rd"
    rw [nb]
    walk_at "rd"
    refine ite2 (fun ha => ?_) fun ha => ?_
    · unfold B_deed_of_2
      walk_at "rd"
      have c1 : cutP (PV.str a :: PV.str b :: PV.str c :: us.map .str) (some 2) none = (c :: us).map .str := cut_dropS (a :: b :: c :: us) 2 (by simp)
      rw [c1]
      by_cases hs : stB c us
      · obtain ⟨x, y, w, rfl, q⟩ := hs
        rw [stroke_of_yes hwu q]
        walk_at "rd"
        cases hb : numB b with
        | false => exact none7 (if_neg fun z => by simp [hb] at z) _ _ pB (.inr (.inr ⟨_, rfl⟩)) (.inl (numP_no hb))
        | true =>
          rw [numP_yes hb]
          refine some7 _ _ (.inr ⟨_, rfl⟩) ?_
          rw [show dP [a, b, c, x, y, w] = _ from if_pos ⟨ha, q.1, hb, q.2.1, q.2.2.1, q.2.2.2.1, q.2.2.2.2⟩, ha]
          rfl
      · rw [stroke_of_no hwu (by omega) hs]
        walk_at "rd"
        refine none7 ?_ _ _ pB (.inl rfl) (.inr rfl)
        match us, hs with
        | [], _ => exact if_neg fun z => by have := z.1; rw [ha] at this; exact absurd this (by decide +kernel)
        | [_], _ => rfl
        | [_, _], _ => rfl
        | [x, y, w], hs => exact if_neg fun z => hs ⟨x, y, w, rfl, z.2.1, z.2.2.2.1, z.2.2.2.2.1, z.2.2.2.2.2.1, z.2.2.2.2.2.2⟩
        | _ :: _ :: _ :: _ :: _, _ => rfl
    · have nc : us ≠ [] → dP (a :: b :: c :: us) = .non := fun hu => by
        match us, hu with
        | [], h => exact absurd rfl h
        | [_], _ => rfl
        | [_, _], _ => rfl
        | [_, _, _], _ => exact if_neg fun z => ha z.1
        | _ :: _ :: _ :: _ :: _, _ => rfl
      unfold B_deed_of_4
      walk_at "rd"
      rw [List.length_map]
      refine ite2 (fun hp => ?_) fun hp => none7 ?_ _ _ pB (.inl rfl) (.inr rfl)
      · cases us with
        | cons u us =>
          rw [if_neg (by simp; omega)]
          exact none7 (nc (by simp)) _ _ pB (.inl rfl) (.inr rfl)
        | nil =>
          rw [if_pos (by decide)]
          unfold B_deed_of_3
          walk_at "rd"
          rw [number_ok c (Nat.le_trans (hw c (by simp)) (by decide))]
          walk_at "rd"
          cases hc : numB c with
          | false =>
            refine none7 (if_neg fun z => by simp [hc] at z) _ _ pB (by rw [numP_no hc]; exact .inl rfl) (.inr (numP_no hc))
          | true =>
            cases hb : numB b with
            | false => exact none7 (if_neg fun z => by simp [hb] at z) _ _ pB (by rw [numP_yes hc]; exact .inr (.inl ⟨_, rfl⟩)) (.inl (numP_no hb))
            | true =>
              rw [numP_yes hb, numP_yes hc]
              refine some7 _ _ (.inl ⟨_, rfl⟩) ?_
              rw [show dP [a, b, c] = _ from if_pos ⟨hp, hb, hc⟩, hp]
              rfl
      · cases us with
        | cons u us => exact nc (by simp)
        | nil => exact if_neg fun z => hp z.1
noncomputable def dR (z : Str) : PV := dP (wds z)
theorem dP_kind (ws : List Str) : dP ws = .non ∨ ∃ l, dP ws = .tup l := by
  unfold dP
  split
  · split
    · exact .inr ⟨_, rfl⟩
    · exact .inl rfl
  · split
    · exact .inr ⟨_, rfl⟩
    · exact .inl rfl
  · exact .inl rfl
noncomputable def Stops (rs : List Str) (k : Nat) : Prop := k < rs.length ∧ dR (rs.getD k ⟨#[]⟩) = .non ∧ ∀ i, i < k → dR (rs.getD i ⟨#[]⟩) ≠ .non
noncomputable def Whole (rs : List Str) : Prop := ∀ i, i < rs.length → dR (rs.getD i ⟨#[]⟩) ≠ .non
theorem get_strR {zs : List Str} {k : Nat} (hk : k < zs.length) : atI (zs.map PV.str) (k : Int) = some (.str (zs.getD k ⟨#[]⟩)) := by
  rw [atI_map, atI_pos (by omega) (show zs[((k : Int)).toNat]? = some zs[k] from by rw [Int.toNat_natCast]; exact List.getElem?_eq_getElem hk)]
  rw [List.getD_eq_getElem?_getD, List.getElem?_eq_getElem hk]; rfl
theorem get_memR {zs : List Str} {k : Nat} (hk : k < zs.length) : zs.getD k ⟨#[]⟩ ∈ zs := by
  rw [List.getD_eq_getElem?_getD, List.getElem?_eq_getElem hk]; exact List.getElem_mem hk
noncomputable def RdP (rs : List Str) (p : PV) : Prop := (∃ k : Nat, Stops rs k ∧ p = .tup [.non, .int k]) ∨ (Whole rs ∧ p = .tup [.lst (rs.map dR), .non])
theorem lread_ok (rs : List Str) (hl : rs.length ≤ 100) (hz : ∀ y ∈ rs, Okb 1000 y) (hn : rs ≠ [Str.ofString ""]) : ∃ p, M__law_read [.lst (rs.map .str)] = some (.ok p) ∧ RdP rs p := by
  have big : ∀ {n : Nat}, n ≤ 6000 → n ≤ sizeLine := fun h => Nat.le_trans h (by decide)
  refine ex_fin (x := B__law_read (startR [.lst (rs.map .str)] 3)) (hideQ fun QS hQ => ?_)
  unfold B__law_read
  rw [show startR [PV.lst (rs.map .str)] 3 = [some (.sh (.lst (rs.map .str))), none, none, none] from rfl]
  walk_at "rd"
  have e0 : eqF 32 (.lst (rs.map .str)) (.lst [.str (Str.ofString "")]) = some (decide (rs = [Str.ofString ""])) := eqF_lst (g := PV.str) (n := 31) (fun a b => eqF_str 31 a b) rs [Str.ofString ""]
  refine ⟨by decide, _, e0, ?_⟩
  rw [decide_eq_false hn, if_neg (by decide)]
  unfold B__law_read_6
  walk_at "rd"
  rw [List.length_map]
  refine ⟨by omega, by omega, ?_⟩
  refine to_loopN (fun i ρ => ∃ v2 v3, ρ = [some (.sh (.lst (rs.map .str))), some (.ow (.lst ((rs.take i).map dR))), v2, v3] ∧ ∀ j, j < i → dR (rs.getD j ⟨#[]⟩) ≠ .non) ⟨none, none, rfl, fun j h => absurd h (Nat.not_lt_zero _)⟩ ?_ ?_
  · rintro i x ρ hx ⟨v2, v3, rfl, hg⟩
    obtain ⟨hi, rfl⟩ := rng_get hx
    have hi : i < rs.length := by omega
    rw [show (0 : Int) + (i : Int) = (i : Int) by omega]
    have zl := (hz _ (get_memR hi)).2
    have tk : rs.take (i + 1) = rs.take i ++ [rs.getD i ⟨#[]⟩] := by
      rw [List.take_succ, List.getElem?_eq_getElem hi, List.getD_eq_getElem?_getD, List.getElem?_eq_getElem hi]; rfl
    have ez := get_strR hi
    generalize hzz : rs.getD i ⟨#[]⟩ = z at zl tk ez
    unfold B__law_read_4
    walk_at "rd"
    refine ⟨_, ez, ?_⟩
    walk_at "rd"
    rw [spD, show Txt.split z ⟨#[32]⟩ = wds z from rfl]
    have wl := wds_sum z
    rw [lread_deed_ok (wds z) fun w h => Nat.le_trans (wds_len h) (by omega)]
    walk_at "rd"
    refine ⟨rfl, big (by omega), big (by omega), ?_⟩
    rcases dP_kind (wds z) with e | ⟨l, e⟩
    · rw [e]
      walk_at "rd"
      unfold B__law_read_2
      walk_at "rd"
      refine ⟨by decide, hQ _ ⟨_, rfl, .inl ⟨i, ⟨hi, by rw [hzz]; exact e, hg⟩, rfl⟩⟩⟩
    · rw [e]
      walk_at "rd"
      unfold B__law_read_3
      walk_at "rd"
      rw [List.length_map, List.length_take]
      refine ⟨small1000 (by omega), _, _, by rw [tk, List.map_append, ← e]; rfl, fun j hj => ?_⟩
      rcases Nat.lt_or_ge j i with q | q
      · exact hg j q
      · have : j = i := by omega
        subst this
        rw [hzz]
        show dP (wds z) ≠ .non
        rw [e]
        exact fun z => by cases z
  · rintro ρ ⟨v2, v3, rfl, hg⟩
    rw [rngP_length, Int.toNat_natCast, List.take_length] at *
    unfold B__law_read_5
    rw [onNx_nx, to_frz, show frzR 1 [some (Sl.sh (.lst (rs.map .str))), some (.ow (.lst (rs.map dR))), v2, v3] = [some (Sl.sh (.lst (rs.map .str))), some (.sh (.lst (rs.map dR))), v2, v3] from rfl]
    walk_at "rd"
    refine ⟨by decide, hQ _ ⟨_, rfl, .inr ⟨hg, rfl⟩⟩⟩
theorem lread_nil : M__law_read [.lst [.str (Str.ofString "")]] = some (.ok (.tup [.lst [], .non])) := by
  refine fin_of (x := B__law_read (startR [.lst [.str (Str.ofString "")]] 3)) ?_
  unfold B__law_read
  walk_at "rd"
  have e0 : eqF 32 (.lst [.str (Str.ofString "")]) (.lst [.str (Str.ofString "")]) = some true := rfl
  refine ⟨by decide, _, e0, ?_⟩
  rw [if_pos rfl]
  unfold B__law_read_1
  walk_at "rd"
  decide
theorem join_ne {rs : List Str} (h0 : rs ≠ []) (hn : rs ≠ [Str.ofString ""]) : Txt.join ⟨#[10]⟩ rs ≠ Str.ofString "" := by
  intro e
  have e : (Txt.join ⟨#[10]⟩ rs).cps.toList = [] := by rw [e]; rfl
  rw [join_list] at e
  match rs, h0, hn with
  | [], h, _ => exact h rfl
  | [z], _, hn =>
    rw [List.map_cons, List.map_nil, joinL_cons] at e
    have : z.cps.toList = [] := (List.append_eq_nil_iff.mp e).1
    exact hn (by rw [← ofL_toList z, this]; rfl)
  | z :: y :: rs, _, _ =>
    rw [List.map_cons, List.map_cons, joinL_cons, List.map_cons, List.flatten_cons] at e
    have := (List.append_eq_nil_iff.mp e).2
    simp at this
theorem sumb {zs : List Str} (hz : ∀ y ∈ zs, Okb 1000 y) : (zs.map (·.length)).sum ≤ zs.length * 1000 := by
  have := sum6 (l := zs) (m := 1000) fun w hw => (hz w hw).2
  omega
theorem ex_keepO {i : Nat} {s : Sn} {ρ : Rho} {l : List PV} {z : PV} (h : ρ[i]? = some (some (.ow (.lst l)))) (e : s (ρ.set i (some (.sh (.lst l)))) = some (.ex z)) : mKeepO i s ρ = some (.ex z) := by
  have ho : ownAt i ρ = some (.lst l) := by unfold ownAt; rw [h]
  unfold mKeepO
  rw [ho]
  simp only [e]
theorem readp_nil : M_read_plan [.str (Txt.join ⟨#[10]⟩ [Str.ofString ""])] = some (.ok (.lst [])) := by
  refine finO_of (x := B_read_plan (startR [.str (Txt.join ⟨#[10]⟩ [Str.ofString ""])] 3)) ?_
  unfold B_read_plan
  walk_at "rd"
  rw [if_pos (by decide +kernel)]
  unfold B_read_plan_1
  walk_at "rd"
theorem readp_ok {rs : List Str} (h0 : rs ≠ []) (hl : rs.length ≤ 100) (hz : ∀ y ∈ rs, Okb 1000 y) (hn : rs ≠ [Str.ofString ""]) (hw : Whole rs) : M_read_plan [.str (Txt.join ⟨#[10]⟩ rs)] = some (.ok (.lst (rs.map dR))) := by
  have big : ∀ {n : Nat}, n ≤ 1000000 → n ≤ sizeLine := fun h => Nat.le_trans h (by decide)
  have sp := split_join 10 (by decide) rs h0 fun y hy => (hz y hy).1
  have jl := join_len 10 rs
  have sl := sumb hz
  refine finO_of (x := B_read_plan (startR [.str (Txt.join ⟨#[10]⟩ rs)] 3)) (hideQ fun QS hQ => ?_)
  unfold B_read_plan
  walk_at "rd"
  rw [if_neg (join_ne h0 hn)]
  generalize Txt.join ⟨#[10]⟩ rs = T at sp jl ⊢
  unfold B_read_plan_4
  walk_at "rd"
  rw [nlD, sp]
  refine ⟨rfl, big (by omega), big (by omega), by rw [List.length_map]; exact big (by omega), ?_⟩
  rw [compMap PV.str dR _ fun e he => ?_]
  · walk_at "rd"
    refine to_keepO rfl ?_
    walk_at "rd"
    refine to_loopE (fun i ρ => ∃ v2 v3, ρ = [some (.sh (.str T)), some (.sh (.lst (rs.map dR))), v2, v3]) ⟨none, none, rfl⟩ ?_ ?_
    · rintro i x ρ hx ⟨v2, v3, rfl⟩
      rw [List.getElem?_map] at hx
      cases ed : rs[i]? with
      | none => rw [ed] at hx; cases hx
      | some e =>
        rw [ed] at hx
        cases hx
        have hi := (List.getElem?_eq_some_iff.mp ed).1
        have g := hw i hi
        rw [List.getD_eq_getElem?_getD, ed] at g
        obtain ⟨l, el⟩ := (dP_kind (wds e)).resolve_left g
        rw [show dR e = .tup l from el]
        unfold B_read_plan_3
        walk_at "rd"
        exact ⟨_, _, rfl⟩
    · rintro ρ ⟨v2, v3, rfl⟩
      exact hQ _ rfl
  · walk_at "rd"
    rw [deed_of_any e (Nat.le_trans (hz e he).2 (by decide))]
    walk_at "rd"
    rfl
theorem readp_stop {rs : List Str} (h0 : rs ≠ []) (hl : rs.length ≤ 100) (hz : ∀ y ∈ rs, Okb 1000 y) (hn : rs ≠ [Str.ofString ""]) {k : Nat} (hs : Stops rs k) : M_read_plan [.str (Txt.join ⟨#[10]⟩ rs)] = some (.ex (.exc "NoPlan" [("row", .int k)])) := by
  have big : ∀ {n : Nat}, n ≤ 1000000 → n ≤ sizeLine := fun h => Nat.le_trans h (by decide)
  obtain ⟨hk, hb, hg⟩ := hs
  have sp := split_join 10 (by decide) rs h0 fun y hy => (hz y hy).1
  have jl := join_len 10 rs
  have sl := sumb hz
  show finO (B_read_plan (startR [.str (Txt.join ⟨#[10]⟩ rs)] 3)) = _
  rw [show B_read_plan (startR [.str (Txt.join ⟨#[10]⟩ rs)] 3) = some (.ex (.exc "NoPlan" [("row", .int k)])) from ?_]
  · rfl
  unfold B_read_plan
  refine ex_snd ?_
  walk_at "rd"
  rw [if_neg (join_ne h0 hn)]
  generalize Txt.join ⟨#[10]⟩ rs = T at sp jl ⊢
  unfold B_read_plan_4
  refine ex_snd ?_
  walk_at "rd"
  rw [nlD, sp]
  refine ⟨rfl, big (by omega), big (by omega), by rw [List.length_map]; exact big (by omega), ?_⟩
  rw [compMap PV.str dR _ fun e he => ?_]
  · walk_at "rd"
    refine ex_keepO rfl (ex_for ?_)
    walk_at "rd"
    refine ex_loopE (fun i ρ => ∃ v2 v3, ρ = [some (.sh (.str T)), some (.sh (.lst (rs.map dR))), v2, v3]) (k := k) (by rw [List.length_map]; exact hk) ⟨none, none, rfl⟩ ?_ ?_
    · rintro i x ρ hi hx ⟨v2, v3, rfl⟩
      rw [List.getElem?_map] at hx
      cases ed : rs[i]? with
      | none => rw [ed] at hx; cases hx
      | some e =>
        rw [ed] at hx
        cases hx
        have g := hg i hi
        rw [List.getD_eq_getElem?_getD, ed] at g
        obtain ⟨l, el⟩ := (dP_kind (wds e)).resolve_left g
        rw [show dR e = .tup l from el]
        unfold B_read_plan_3
        walk_at "rd"
        exact ⟨_, _, rfl⟩
    · rintro x ρ hx ⟨v2, v3, rfl⟩
      rw [List.getElem?_map, List.getElem?_eq_getElem hk] at hx
      cases hx
      rw [List.getD_eq_getElem?_getD, List.getElem?_eq_getElem hk] at hb
      rw [show dR rs[k] = .non from hb]
      unfold B_read_plan_3
      refine ex_if ?_
      walk_at "rd"
      unfold B_read_plan_2
      refine ex_raise ?_
      walk_at "rd"
      rfl
  · walk_at "rd"
    rw [deed_of_any e (Nat.le_trans (hz e he).2 (by decide))]
    walk_at "rd"
    rfl
theorem modIx (x : Int) {m : Nat} (h : 0 < m) : ∃ k : Nat, x % (m : Int) = (k : Int) ∧ k < m := by
  have h0 := Int.emod_nonneg x (show (m : Int) ≠ 0 by omega)
  have h1 := Int.emod_lt_of_pos x (show (0 : Int) < (m : Int) by omega)
  exact ⟨(x % (m : Int)).toNat, by omega, by omega⟩
theorem numS_okb {i : Int} (h0 : 0 ≤ i) (h1 : i < 100000) : Okb 6 (numS i) := by
  obtain ⟨n, rfl⟩ : ∃ n : Nat, i = (n : Int) := ⟨i.toNat, by omega⟩
  have e : numS (n : Int) = ⟨((Nat.toDigits 10 n).map Char.toNat).toArray⟩ := PySem.W.Fast.ofString_ofList (Nat.toDigits 10 n)
  have hl : (Nat.toDigits 10 n).length ≤ 5 := (Nat.length_toDigits_le_iff (by decide) (by decide)).mpr (by omega)
  refine ⟨fun q => ?_, ?_⟩
  · rw [e] at q
    obtain ⟨c, hc, e10⟩ := List.mem_map.mp (show 10 ∈ (Nat.toDigits 10 n).map Char.toNat from q)
    have d := Nat.isDigit_of_mem_toDigits (by decide) (by decide) hc
    unfold Char.isDigit at d
    simp at d
    have : 48 ≤ c.toNat := d.1
    omega
  · rw [e]
    show (((Nat.toDigits 10 n).map Char.toNat).toArray).size ≤ 6
    rw [List.size_toArray, List.length_map]
    omega
theorem lwindow_ok (c t : Int) (t0 : 0 ≤ t) (t1 : t ≤ 10) : ∃ n : Int, M__law_window [.int c, .int t] = some (.ok (.int n)) := by
  suffices h : ∃ p, M__law_window [.int c, .int t] = some (.ok p) ∧ ∃ n : Int, p = .int n by
    obtain ⟨p, e, n, rfl⟩ := h
    exact ⟨n, e⟩
  refine ex_fin (x := B__law_window (startR [.int c, .int t] 1)) (hideQ fun QS hQ => ?_)
  unfold B__law_window
  rw [show startR [PV.int c, .int t] 1 = [some (.sh (.int c)), some (.sh (.int t)), none] from rfl]
  walk_at "rd"
  refine ⟨by decide, by decide, by decide, ite2 (fun h => ?_) fun h => ?_⟩
  · unfold B__law_window_1
    walk_at "rd"
    exact hQ _ ⟨_, rfl, c, rfl⟩
  · unfold B__law_window_4
    walk_at "rd"
    refine ⟨.inl ⟨by decide, by decide⟩, by omega, by omega, ?_⟩
    refine to_loopN (fun i ρ => ∃ (z : Int) (v2 : Option Sl), ρ = [some (.sh (.int z)), some (.sh (.int t)), v2]) ⟨c, none, rfl⟩ ?_ ?_
    · rintro i x ρ hx ⟨z, v2, rfl⟩
      unfold B__law_window_2
      walk_at "rd"
      exact ⟨by decide, by decide, by decide, by decide, by decide +kernel, _, _, rfl⟩
    · rintro ρ ⟨z, v2, rfl⟩
      unfold B__law_window_3
      walk_at "rd"
      exact ⟨by decide, by decide, by decide, hQ _ ⟨_, rfl, _, rfl⟩⟩
noncomputable def odds : List Str := [Str.ofString "", Str.ofString "0", Str.ofString "00", Str.ofString "01", Str.ofString "-1", Str.ofString "999", Str.ofString "1000", Str.ofString "cut", Str.ofString "print", Str.ofString "row", Str.ofString "column", Str.ofString "Row", Str.ofString "rows", Str.ofString "a\tb"]
theorem odds_ok : ∀ w ∈ odds, 10 ∉ w.cps.toList ∧ w.length ≤ 6 := by decide +kernel
theorem lodd_ok {rs : List Str} {n : Nat} (h0 : rs ≠ []) (hl : rs.length ≤ 1000) (hz : ∀ y ∈ rs, Okb n y) (hn : 6 ≤ n) (hn2 : n ≤ 900) (ns : List Int) (h8 : ns.length = 8) (hp : ∀ x ∈ ns, 0 ≤ x) : ∃ w : Str, M__law_odd [.lst (rs.map .str), .lst (ns.map .int)] = some (.ok (.str w)) ∧ Okb n w := by
  suffices h : ∃ p, M__law_odd [.lst (rs.map .str), .lst (ns.map .int)] = some (.ok p) ∧ ∃ w : Str, p = .str w ∧ Okb n w by
    obtain ⟨p, e, w, rfl, h⟩ := h
    exact ⟨w, e, h⟩
  have at1 : ∀ i : Int, 0 ≤ i → i < 8 → atI (ns.map PV.int) i = some (.int (ns.getD i.toNat 0)) := fun i h0 h1 => atI_ints' h0 (by omega)
  refine ex_fin (x := B__law_odd (startR [.lst (rs.map .str), .lst (ns.map .int)] 2)) (hideQ fun QS hQ => ?_)
  unfold B__law_odd
  rw [show startR [PV.lst (rs.map .str), .lst (ns.map .int)] 2 = [some (.sh (.lst (rs.map .str))), some (.sh (.lst (ns.map .int))), none, none] from rfl]
  walk_at "rd"
  have r0 : 0 < rs.length := List.length_pos_iff.mpr h0
  refine ⟨_, at1 4 (by decide) (by decide), ?_⟩
  walk_at "rd"
  rw [List.length_map]
  obtain ⟨k, ek, hk⟩ := modIx (ns.getD 4 0) r0
  rw [ek]
  refine ⟨by omega, _, get_strR hk, ?_⟩
  have oz := hz _ (get_memR hk)
  generalize rs.getD k ⟨#[]⟩ = z at oz
  walk_at "rd"
  rw [spD, show Txt.split z ⟨#[32]⟩ = wds z from rfl]
  have wl := wds_sum z
  have z2 := oz.2
  have big : ∀ {n : Nat}, n ≤ 6000 → n ≤ sizeLine := fun h => Nat.le_trans h (by decide)
  refine ⟨rfl, big (by omega), big (by omega), by decide, _, at1 6 (by decide) (by decide), ?_⟩
  rw [show [PV.str (Str.ofString ""), PV.str (Str.ofString "0"), PV.str (Str.ofString "00"), PV.str (Str.ofString "01"), PV.str (Str.ofString "-1"), PV.str (Str.ofString "999"), PV.str (Str.ofString "1000"), PV.str (Str.ofString "cut"), PV.str (Str.ofString "print"), PV.str (Str.ofString "row"), PV.str (Str.ofString "column"), PV.str (Str.ofString "Row"), PV.str (Str.ofString "rows"), PV.str (Str.ofString "a\tb")] = odds.map PV.str from rfl]
  generalize hO : odds.map PV.str = O
  walk_at "rd"
  refine ⟨by decide, ite2 (fun h => ?_) fun h => ?_⟩
  · unfold B__law_odd_1
    walk_at "rd"
    refine ⟨_, at1 5 (by decide) (by decide), ?_⟩
    walk_at "rd"
    rw [List.length_map]
    have w0 : 0 < (wds z).length := List.length_pos_iff.mpr (wds_ne z)
    obtain ⟨j, ej, hj⟩ := modIx (ns.getD 5 0) w0
    rw [ej]
    refine ⟨by omega, _, get_strR hj, ?_⟩
    exact hQ _ ⟨_, rfl, _, rfl, oz.word (get_memR hj)⟩
  · unfold B__law_odd_4
    walk_at "rd"
    refine ⟨_, at1 6 (by decide) (by decide), ?_⟩
    walk_at "rd"
    refine ⟨by decide, ite2 (fun h => ?_) fun h => ?_⟩
    · unfold B__law_odd_2
      walk_at "rd"
      refine ⟨_, at1 5 (by decide) (by decide), ?_⟩
      walk_at "rd"
      have h0 := Int.emod_nonneg (ns.getD 5 0) (show (100000 : Int) ≠ 0 by decide)
      have h1 := Int.emod_lt_of_pos (ns.getD 5 0) (show (0 : Int) < 100000 by decide)
      generalize ns.getD 5 0 % 100000 = x at h0 h1
      refine ⟨by decide, ?_, hQ _ ⟨_, rfl, numS x, rfl, (numS_okb h0 h1).mono hn⟩⟩
      rcases Nat.eq_zero_or_pos x.natAbs with e | e
      · rw [e]; decide
      · exact (Nat.log2_lt (Nat.ne_of_gt e)).mpr (Nat.lt_of_lt_of_le (show x.natAbs < 2 ^ 17 by omega) (Nat.pow_le_pow_right (by decide) (by decide)))
    · unfold B__law_odd_3
      walk_at "rd"
      refine ⟨_, at1 6 (by decide) (by decide), ?_⟩
      walk_at "rd"
      obtain ⟨j, ej, hj⟩ := modIx (ns.getD 6 0 / 3) (show 0 < odds.length by decide)
      rw [show (14 : Int) = ((odds.length : Nat) : Int) from rfl, ej, ← hO]
      refine ⟨by decide, by decide, by decide, _, get_strR hj, ?_⟩
      have q := odds_ok _ (get_memR hj)
      exact hQ _ ⟨_, rfl, _, rfl, q.1, by omega⟩
theorem sum_set_le : ∀ (ws : List Str) (k : Nat) (x : Str), ((ws.set k x).map (·.length)).sum ≤ (ws.map (·.length)).sum + x.length
  | [], k, x => by simp
  | w :: ws, 0, x => by simp; omega
  | w :: ws, k + 1, x => by
    have := sum_set_le ws k x
    simp at this ⊢
    omega
theorem sum_cut (ws : List Str) (k : Nat) : ((ws.take k).map (·.length)).sum + ((ws.drop k).map (·.length)).sum = (ws.map (·.length)).sum := by
  rw [← List.sum_append, ← List.map_append, List.take_append_drop]
theorem sum_drop1 (ws : List Str) (k : Nat) : ((ws.drop (k + 1)).map (·.length)).sum ≤ ((ws.drop k).map (·.length)).sum := by
  have := sum_cut (ws.drop k) 1
  rw [List.drop_drop] at this
  omega
structure Ww (n : Nat) (ws : List Str) : Prop where
  no : ∀ w ∈ ws, 10 ∉ w.cps.toList
  le : (ws.map (·.length)).sum + ws.length ≤ 2 * n + 2
theorem lchg_ok {rs : List Str} {n : Nat} (h0 : rs ≠ []) (hl : rs.length ≤ 80) (hz : ∀ y ∈ rs, Okb n y) (hn : 6 ≤ n) (hn2 : n ≤ 400) (c : Int) : ∃ zs : List Str, M__law_changed [.lst (rs.map .str), .int c] = some (.ok (.lst (zs.map .str))) ∧ zs ≠ [] ∧ zs.length ≤ rs.length + 1 ∧ ∀ y ∈ zs, Okb (2 * n + 2) y := by
  suffices h : ∃ p, M__law_changed [.lst (rs.map .str), .int c] = some (.ok p) ∧ ∃ zs : List Str, p = .lst (zs.map .str) ∧ zs ≠ [] ∧ zs.length ≤ rs.length + 1 ∧ ∀ y ∈ zs, Okb (2 * n + 2) y by
    obtain ⟨p, e, w, rfl, h⟩ := h
    exact ⟨w, e, h⟩
  have big : ∀ {n : Nat}, n ≤ 6000 → n ≤ sizeLine := fun h => Nat.le_trans h (by decide)
  obtain ⟨ns, es, h8, hp⟩ := stream_ok (c + 17) 8 (by decide) (by decide)
  have at1 : ∀ i : Int, 0 ≤ i → i < 8 → atI (ns.map PV.int) i = some (.int (ns.getD i.toNat 0)) := fun i h0 h1 => atI_ints' h0 (by omega)
  obtain ⟨od, eo, oo⟩ := lodd_ok h0 (by omega) hz hn (by omega) ns (by omega) fun x hx => (hp x hx).1
  have r0 : 0 < rs.length := List.length_pos_iff.mpr h0
  obtain ⟨a, ea, ha⟩ := modIx (ns.getD 1 0) r0
  have oz := hz _ (get_memR ha)
  have gz := get_strR ha
  generalize hzz : rs.getD a ⟨#[]⟩ = z at oz gz
  have w0 : 0 < (wds z).length := List.length_pos_iff.mpr (wds_ne z)
  have wl := wds_sum z
  have z2 := oz.2
  obtain ⟨pl, ep, hpl⟩ := modIx (ns.getD 3 0) w0
  have mono : ∀ y ∈ rs, Okb (2 * n + 2) y := fun y hy => (hz y hy).mono (by omega)
  refine ex_finO (x := B__law_changed (startR [.lst (rs.map .str), .int c] 6)) (hideQ fun QS hQ => ?_)
  generalize hy : ns.getD 0 0 % 12 = y
  have seven : ∀ (v5 : Option Sl) (zs : List Str), zs ≠ [] → zs.length ≤ rs.length + 1 → (∀ y ∈ zs, Okb (2 * n + 2) y) → To (B__law_changed_7 [some (.sh (.lst (rs.map .str))), some (.sh (.int c)), some (.sh (.lst (ns.map .int))), some (.sh (.int y)), some (.sh (.int (a : Int))), v5, some (.sh (.int (pl : Int))), some (.ow (.lst (zs.map .str)))]) QS := fun v5 zs q1 q2 q3 => by
    unfold B__law_changed_7
    walk_at "rd"
    exact hQ _ ⟨_, rfl, zs, rfl, q1, q2, q3⟩
  have snoc : ∀ {zs : List Str} {w : Str}, (∀ y ∈ zs, Okb (2 * n + 2) y) → Okb (2 * n + 2) w → ∀ y ∈ zs ++ [w], Okb (2 * n + 2) y := fun {zs w} h1 h2 y hy => by
    rcases List.mem_append.mp hy with q | q
    · exact h1 y q
    · rw [List.mem_singleton.mp q]; exact h2
  have nil : Okb (2 * n + 2) (Str.ofString "") := ⟨by decide, Nat.le_trans (by decide) (Nat.zero_le _)⟩
  have eight : ∀ (v5 : Option Sl) (zs : List Str), zs ≠ [] → zs.length ≤ rs.length + 1 → (y = 10 → zs.length ≤ rs.length) → (∀ y ∈ zs, Okb (2 * n + 2) y) → To (B__law_changed_8 [some (.sh (.lst (rs.map .str))), some (.sh (.int c)), some (.sh (.lst (ns.map .int))), some (.sh (.int y)), some (.sh (.int (a : Int))), v5, some (.sh (.int (pl : Int))), some (.ow (.lst (zs.map .str)))]) QS := fun v5 zs q1 q2 q4 q3 => by
    unfold B__law_changed_8
    walk_at "rd"
    refine ite2 (fun e => ?_) fun e => seven v5 zs q1 q2 q3
    have := q4 e
    unfold B__law_changed_6
    walk_at "rd"
    refine ⟨_, gz, ?_⟩
    rw [List.length_map]
    refine ⟨small1000 (by omega), ?_⟩
    have := seven v5 (zs ++ [z]) (by simp) (by rw [List.length_append]; simp; omega) (snoc q3 (oz.mono (by omega)))
    rw [List.map_append] at this
    exact this
  have nine : ∀ (v5 : Option Sl) (zs : List Str), zs ≠ [] → zs.length ≤ rs.length + 1 → (y = 9 ∨ y = 10 → zs.length ≤ rs.length) → (∀ y ∈ zs, Okb (2 * n + 2) y) → To (B__law_changed_9 [some (.sh (.lst (rs.map .str))), some (.sh (.int c)), some (.sh (.lst (ns.map .int))), some (.sh (.int y)), some (.sh (.int (a : Int))), v5, some (.sh (.int (pl : Int))), some (.ow (.lst (zs.map .str)))]) QS := fun v5 zs q1 q2 q4 q3 => by
    unfold B__law_changed_9
    walk_at "rd"
    refine ite2 (fun e => ?_) fun e => eight v5 zs q1 q2 (fun e => q4 (.inr e)) q3
    have := q4 (.inl e)
    unfold B__law_changed_5
    walk_at "rd"
    rw [List.length_map]
    refine ⟨small1000 (by omega), ?_⟩
    exact eight v5 (zs ++ [Str.ofString ""]) (by simp) (by rw [List.length_append]; simp; omega) (fun e' => by omega) (snoc q3 nil)
  have ten : ∀ (ws : List Str), Ww n ws → To (B__law_changed_10 [some (.sh (.lst (rs.map .str))), some (.sh (.int c)), some (.sh (.lst (ns.map .int))), some (.sh (.int y)), some (.sh (.int (a : Int))), some (.ow (.lst (ws.map .str))), some (.sh (.int (pl : Int))), none]) QS := fun ws hw => by
    have jl := Okb.join hw.no hw.le
    have wle := hw.le
    have c1 := cut_takeS rs a (by omega)
    have c2 := cut_dropS rs (a + 1) (by omega)
    rw [show ((a + 1 : Nat) : Int) = (a : Int) + 1 by omega] at c2
    unfold B__law_changed_10
    walk_at "rd"
    rw [c1, c2, asStrs_all]
    refine ⟨_, rfl, ?_⟩
    rw [spD] at *
    generalize hJ : Txt.join ⟨#[32]⟩ ws = J at *
    have em : (rs.take a).map PV.str ++ [PV.str J] ++ (rs.drop (a + 1)).map PV.str = (rs.take a ++ [J] ++ rs.drop (a + 1)).map PV.str := by rw [List.map_append, List.map_append]; rfl
    rw [em]
    have ml : (rs.take a ++ [J] ++ rs.drop (a + 1)).length = rs.length := by
      rw [List.length_append, List.length_append, List.length_take, List.length_drop]; simp; omega
    have mo : ∀ y ∈ rs.take a ++ [J] ++ rs.drop (a + 1), Okb (2 * n + 2) y := fun y hy => by
      rcases List.mem_append.mp hy with q | q
      · exact snoc (fun y hy => mono y (List.mem_of_mem_take hy)) jl y q
      · exact mono y (List.mem_of_mem_drop q)
    generalize rs.take a ++ [J] ++ rs.drop (a + 1) = M at ml mo
    have M0 : M ≠ [] := fun e => by rw [e] at ml; simp at ml; omega
    simp only [List.length_map, List.length_append, List.length_take, List.length_drop, List.length_cons, List.length_nil]
    refine ⟨?_, by decide, big (by omega), big (by omega), ite2 (fun e => ?_) fun e => nine _ M M0 (by omega) (fun _ => by omega) mo⟩
    · show _ + ws.length * 1 ≤ _
      omega
    · unfold B__law_changed_4
      walk_at "rd"
      have c3 := cut_takeS M a (by omega)
      have c4 := cut_dropS M a (by omega)
      rw [c3, c4, show (M.take a).map PV.str ++ [PV.str (Str.ofString "")] ++ (M.drop a).map PV.str = (M.take a ++ [Str.ofString ""] ++ M.drop a).map PV.str from by rw [List.map_append, List.map_append]; rfl]
      simp only [List.length_map, List.length_append, List.length_take, List.length_drop, List.length_cons, List.length_nil]
      refine ⟨by decide, big (by omega), big (by omega), nine _ (M.take a ++ [Str.ofString ""] ++ M.drop a) (by simp) ?_ (fun q => by omega) fun y hy => ?_⟩
      · rw [List.length_append, List.length_append, List.length_take, List.length_drop]; simp; omega
      · rcases List.mem_append.mp hy with q | q
        · exact snoc (fun y hy => mo y (List.mem_of_mem_take hy)) nil y q
        · exact mo y (List.mem_of_mem_drop q)
  have eleven : ∀ (ws : List Str), Ww n ws → (y = 7 → ws = wds z) → To (B__law_changed_11 [some (.sh (.lst (rs.map .str))), some (.sh (.int c)), some (.sh (.lst (ns.map .int))), some (.sh (.int y)), some (.sh (.int (a : Int))), some (.ow (.lst (ws.map .str))), some (.sh (.int (pl : Int))), none]) QS := fun ws hw e7 => by
    unfold B__law_changed_11
    walk_at "rd"
    refine ite2 (fun e => ?_) fun e => ten ws hw
    have e7 := e7 e
    subst e7
    unfold B__law_changed_3
    walk_at "rd"
    rw [eo]
    walk_at "rd"
    have c3 := cut_takeS (wds z) pl (by omega)
    have c4 := cut_dropS (wds z) pl (by omega)
    rw [c3, c4, show ((wds z).take pl).map PV.str ++ [PV.str od] ++ ((wds z).drop pl).map PV.str = ((wds z).take pl ++ [od] ++ (wds z).drop pl).map PV.str from by rw [List.map_append, List.map_append]; rfl]
    simp only [List.length_map, List.length_append, List.length_take, List.length_drop, List.length_cons, List.length_nil]
    refine ⟨by decide, big (by omega), big (by omega), ten _ ⟨fun w hw => ?_, ?_⟩⟩
    · rcases List.mem_append.mp hw with q | q
      · rcases List.mem_append.mp q with q | q
        · exact (oz.word (List.mem_of_mem_take q)).1
        · rw [List.mem_singleton.mp q]; exact oo.1
      · exact (oz.word (List.mem_of_mem_drop q)).1
    · have s := sum_cut (wds z) pl
      have ol := oo.2
      rw [List.map_append, List.map_append, List.sum_append, List.sum_append, List.length_append, List.length_append, List.length_take, List.length_drop]
      simp only [List.map_cons, List.map_nil, List.sum_cons, List.sum_nil, List.length_cons, List.length_nil]
      omega
  have twelve : ∀ (ws : List Str), Ww n ws → (y = 6 ∨ y = 7 → ws = wds z) → To (B__law_changed_12 [some (.sh (.lst (rs.map .str))), some (.sh (.int c)), some (.sh (.lst (ns.map .int))), some (.sh (.int y)), some (.sh (.int (a : Int))), some (.ow (.lst (ws.map .str))), some (.sh (.int (pl : Int))), none]) QS := fun ws hw e7 => by
    unfold B__law_changed_12
    walk_at "rd"
    refine ite2 (fun e => ?_) fun e => eleven ws hw fun e' => e7 (.inr e')
    have e7 := e7 (.inl e)
    subst e7
    unfold B__law_changed_2
    walk_at "rd"
    have c3 := cut_takeS (wds z) pl (by omega)
    have c4 := cut_dropS (wds z) (pl + 1) (by omega)
    rw [show ((pl + 1 : Nat) : Int) = (pl : Int) + 1 by omega] at c4
    rw [c3, c4, show ((wds z).take pl).map PV.str ++ ((wds z).drop (pl + 1)).map PV.str = ((wds z).take pl ++ (wds z).drop (pl + 1)).map PV.str from by rw [List.map_append]]
    simp only [List.length_map, List.length_take, List.length_drop]
    refine ⟨big (by omega), eleven _ ⟨fun w hw => ?_, ?_⟩ fun e' => by omega⟩
    · rcases List.mem_append.mp hw with q | q
      · exact (oz.word (List.mem_of_mem_take q)).1
      · exact (oz.word (List.mem_of_mem_drop q)).1
    · have s := sum_cut (wds z) pl
      have s2 := sum_drop1 (wds z) pl
      rw [List.map_append, List.sum_append, List.length_append, List.length_take, List.length_drop]
      omega
  have ww0 : Ww n (wds z) := ⟨fun w hw => (oz.word hw).1, by omega⟩
  unfold B__law_changed
  rw [show startR [PV.lst (rs.map .str), .int c] 6 = [some (.sh (.lst (rs.map .str))), some (.sh (.int c)), none, none, none, none, none, none] from rfl]
  walk_at "rd"
  rw [es]
  walk_at "rd"
  refine ⟨_, at1 0 (by decide) (by decide), ?_⟩
  walk_at "rd"
  rw [show ns.getD 0 0 % 12 = y from hy]
  refine ⟨by decide, _, at1 1 (by decide) (by decide), ?_⟩
  walk_at "rd"
  rw [List.length_map, ea]
  refine ⟨by omega, _, gz, ?_⟩
  walk_at "rd"
  rw [spD, show Txt.split z ⟨#[32]⟩ = wds z from rfl]
  refine ⟨rfl, big (by omega), big (by omega), _, at1 3 (by decide) (by decide), ?_⟩
  walk_at "rd"
  rw [List.length_map, ep]
  refine ⟨by omega, ite2 (fun e => ?_) fun e => twelve _ ww0 fun _ => rfl⟩
  unfold B__law_changed_1
  walk_at "rd"
  rw [eo]
  walk_at "rd"
  have ix : ixN ((wds z).map PV.str).length (pl : Int) = some pl := by
    have := ixN_in (n := ((wds z).map PV.str).length) (i := (pl : Int)) (by omega) (by rw [List.length_map]; omega)
    simpa using this
  refine ⟨_, ix, ?_⟩
  rw [← List.map_set]
  refine twelve _ ⟨fun w hw => ?_, ?_⟩ fun q => by omega
  · rcases List.mem_or_eq_of_mem_set hw with q | q
    · exact (oz.word q).1
    · rw [q]; exact oo.1
  · have s := sum_set_le (wds z) pl od
    have ol := oo.2
    rw [List.length_set]
    omega
theorem other_ok {k : Int} : M__law_other [.exc "NoPlan" [("row", .int k)]] = some (.ok (.bl false)) := by
  refine fin_of (x := B__law_other (startR [.exc "NoPlan" [("row", .int k)]] 0)) ?_
  unfold B__law_other
  walk_at "rd"
  refine ⟨false, rfl, ?_⟩
  walk_at "rd"
  unfold B__law_other_2
  walk_at "rd"
  exact ⟨false, rfl, rfl⟩
theorem self_dR {n : Nat} (z : Str) : eqF (n + 3) (dR z) (dR z) = some true := by
  have key : ∀ ws, eqF (n + 3) (dP ws) (dP ws) = some true := fun ws => by
    unfold dP
    split
    · split
      · refine self_tup fun x hx => ?_
        simp at hx
        rcases hx with rfl | rfl | rfl
        · exact self_str _ _
        · exact self_int _ _
        · exact self_int _ _
      · rfl
    · split
      · refine self_tup fun x hx => ?_
        simp at hx
        rcases hx with rfl | rfl | rfl
        · exact self_str _ _
        · exact self_int _ _
        · refine self_tup fun x hx => ?_
          simp at hx
          rcases hx with rfl | rfl | rfl | rfl
          · exact self_str _ _
          · exact self_int _ _
          · exact self_int _ _
          · exact self_int _ _
      · rfl
    · rfl
  exact key _
theorem law_main (ns : List Int) (hn : ns.length ≤ 63) : M_law [.lst (ns.map .int)] = some (.ok (.bl true)) := by
  have big : ∀ {n : Nat}, n ≤ 1000000 → n ≤ sizeLine := fun h => Nat.le_trans h (by decide)
  refine fin_of (x := B_law (startR [.lst (ns.map .int)] 9)) (hideQ fun QS hQ => ?_)
  obtain ⟨c0, ec⟩ := cell_at_ok ns 0 (by decide)
  obtain ⟨ds, ep, dl, dk⟩ := lplan_ok ns hn
  obtain ⟨ms, em, ml, mp⟩ := stream_ok c0 4 (by decide) (by decide)
  have at1 : ∀ i : Int, 0 ≤ i → i < 4 → atI (ms.map PV.int) i = some (.int (ms.getD i.toNat 0)) := fun i h0 h1 => atI_ints' h0 (by omega)
  -- what follows, of rows that are some
  have go : ∀ (ys : List Str) (v3 v4 : Option Sl), ys ≠ [] → ys.length ≤ 90 → (∀ y ∈ ys, Okb 1000 y) → To (B_law_11 [some (.sh (.lst (ns.map .int))), some (.sh (.lst (ys.map .str))), some (.sh (.lst (ms.map .int))), v3, v4, none, none, none, none, none]) QS := fun ys v3 v4 y0 yl hy => by
    have sl := sumb hy
    have jn : (ys.map (·.length)).sum + ys.length * 1 ≤ 16777216 := by omega
    have fine : ∀ p : List PV, eqF 32 (.lst p) (.lst p) = some true → M__law_read [.lst (ys.map .str)] = some (.ok (.tup [.lst p, .non])) → M_read_plan [.str (Txt.join ⟨#[10]⟩ ys)] = some (.ok (.lst p)) → To (B_law_11 [some (.sh (.lst (ns.map .int))), some (.sh (.lst (ys.map .str))), some (.sh (.lst (ms.map .int))), v3, v4, none, none, none, none, none]) QS := fun p es e1 e2 => by
      unfold B_law_11
      walk_at "rd"
      rw [e1]
      walk_at "rd"
      refine try_ok ?_
      walk_at "rd"
      rw [asStrs_all]
      refine ⟨_, rfl, jn, ?_⟩
      rw [nlD, e2]
      walk_at "rd"
      unfold B_law_10
      walk_at "rd"
      unfold B_law_6
      walk_at "rd"
      exact ⟨true, es, hQ _ rfl⟩
    by_cases y1 : ys = [Str.ofString ""]
    · subst y1
      exact fine [] rfl lread_nil readp_nil
    obtain ⟨p, er, hp⟩ := lread_ok ys (by omega) hy y1
    rcases hp with ⟨k, hs, rfl⟩ | ⟨hw, rfl⟩
    · have ex := readp_stop y0 (by omega) hy y1 hs
      unfold B_law_11
      walk_at "rd"
      rw [er]
      walk_at "rd"
      refine try_ex (z := .exc "NoPlan" [("row", .int k)]) (ex_asg (ex_call ?_)) ?_
      · walk_at "rd"
        rw [asStrs_all]
        exact ⟨_, rfl, jn, by rw [nlD]; exact ex⟩
      · rw [to_hAs rfl]
        unfold B_law_5
        walk_at "rd"
        unfold B_law_10
        walk_at "rd"
        unfold B_law_9
        walk_at "rd"
        refine ⟨true, rfl, ?_⟩
        walk_at "rd"
        refine ⟨true, rfl, ?_⟩
        walk_at "rd"
        rw [other_ok]
        walk_at "rd"
        unfold B_law_8
        walk_at "rd"
        refine ⟨_, rfl, ?_⟩
        walk_at "rd"
        refine ⟨_, rfl, ?_⟩
        walk_at "rd"
        refine ⟨_, rfl, ?_⟩
        walk_at "rd"
        exact hQ _ (by rw [decide_eq_true trivial]; rfl)
    · exact fine (ys.map dR) (self_lst fun x hx => by obtain ⟨z, _, rfl⟩ := List.mem_map.mp hx; exact self_dR z) er (readp_ok y0 (by omega) hy y1 hw)
  have twelve : ∀ (ys : List Str), ys ≠ [] → ys.length ≤ 63 → (∀ y ∈ ys, Okb 42 y) → To (B_law_12 [some (.sh (.lst (ns.map .int))), some (.sh (.lst (ys.map .str))), none, none, none, none, none, none, none, none]) QS := fun ys y0 yl hy => by
    unfold B_law_12
    walk_at "rd"
    rw [ec]
    walk_at "rd"
    rw [em]
    walk_at "rd"
    refine ⟨_, at1 0 (by decide) (by decide), ?_⟩
    walk_at "rd"
    obtain ⟨m, e3, m3⟩ := modIx (ms.getD 0 0) (show 0 < 3 by decide)
    rw [show ms.getD 0 0 % 3 = (m : Int) from e3]
    refine ⟨by decide, by omega, by omega, ?_⟩
    refine to_loopN (fun i ρ => ∃ (zs : List Str) (v3 v4 : Option Sl), ρ = [some (.sh (.lst (ns.map .int))), some (.sh (.lst (zs.map .str))), some (.sh (.lst (ms.map .int))), v3, v4, none, none, none, none, none] ∧ zs ≠ [] ∧ zs.length ≤ 63 + i ∧ ∀ y ∈ zs, Okb (44 * 2 ^ i - 2) y) ⟨ys, none, none, rfl, y0, yl, hy⟩ ?_ ?_
    · rintro i x ρ hx ⟨zs, v3, v4, rfl, z0, zl, hz⟩
      obtain ⟨hi, rfl⟩ := rng_get hx
      have hi : i < 3 := by omega
      rw [show (0 : Int) + (i : Int) = (i : Int) by omega]
      have b0 : 44 * 2 ^ i - 2 ≤ 174 ∧ 6 ≤ 44 * 2 ^ i - 2 ∧ 2 * (44 * 2 ^ i - 2) + 2 = 44 * 2 ^ (i + 1) - 2 := by
        rcases (show i = 0 ∨ i = 1 ∨ i = 2 by omega) with rfl | rfl | rfl <;> decide
      have three : ∀ (cc : Int) (v3 : Option Sl), To (B_law_3 [some (.sh (.lst (ns.map .int))), some (.sh (.lst (zs.map .str))), some (.sh (.lst (ms.map .int))), v3, some (.sh (.int cc)), none, none, none, none, none]) (turn (fun ρ => ∃ (zs : List Str) (v3 v4 : Option Sl), ρ = [some (.sh (.lst (ns.map .int))), some (.sh (.lst (zs.map .str))), some (.sh (.lst (ms.map .int))), v3, v4, none, none, none, none, none] ∧ zs ≠ [] ∧ zs.length ≤ 63 + (i + 1) ∧ ∀ y ∈ zs, Okb (44 * 2 ^ (i + 1) - 2) y) (onNx (fun ρ' => To (B_law_11 ρ') QS) QS)) := fun cc v3 => by
        obtain ⟨us, eu, u0, ul, hu⟩ := lchg_ok z0 (by omega) hz b0.2.1 (by omega) cc
        unfold B_law_3
        walk_at "rd"
        rw [eu]
        walk_at "rd"
        exact ⟨us, _, _, rfl, u0, by omega, fun y hy => (hu y hy).mono (by omega)⟩
      unfold B_law_4
      walk_at "rd"
      refine ⟨_, at1 (1 + (i : Int)) (by omega) (by omega), ?_⟩
      rw [ec]
      walk_at "rd"
      refine ⟨by decide, by decide, by decide, ite2 (fun h => ?_) fun h => three _ _⟩
      obtain ⟨cc, ew⟩ := lwindow_ok c0 (1 + (i : Int)) (by omega) (by omega)
      unfold B_law_2
      walk_at "rd"
      rw [ec]
      walk_at "rd"
      rw [ew]
      walk_at "rd"
      exact three _ _
    · rintro ρ ⟨zs, v3, v4, rfl, z0, zl, hz⟩
      rw [rngP_length] at zl hz
      have hc : (1 + (m : Int)).toNat ≤ 3 := by omega
      walk_at "rd"
      refine go zs v3 v4 z0 (by omega) fun y hy => (hz y hy).mono ?_
      have := Nat.pow_le_pow_right (show 0 < 2 by decide) hc
      omega
  have lr := lrowsD_ok ds (by omega) dk
  unfold B_law
  rw [show startR [PV.lst (ns.map .int)] 9 = [some (.sh (.lst (ns.map .int))), none, none, none, none, none, none, none, none, none] from rfl]
  walk_at "rd"
  rw [ep]
  walk_at "rd"
  rw [lr]
  walk_at "rd"
  have e : eqF 32 (.lst ((ds.map deedT).map .str)) (.lst []) = some (decide (ds.map deedT = [])) := eqF_lst (g := PV.str) (n := 31) (fun a b => eqF_str 31 a b) (ds.map deedT) []
  refine ⟨_, e, ?_⟩
  walk_at "rd"
  refine ite2 (fun h => ?_) fun h => twelve _ h (by rw [List.length_map]; exact dl) fun y hy => ?_
  · unfold B_law_1
    walk_at "rd"
    exact ⟨by decide, twelve [Str.ofString ""] (by simp) (by simp) fun y hy => by rw [List.mem_singleton.mp hy]; exact ⟨by decide, by decide⟩⟩
  · obtain ⟨d, hd, rfl⟩ := List.mem_map.mp hy
    exact ⟨deedT_signs (dk d hd), deedT_len (dk d hd)⟩
end MM

namespace MM
open PySem PySem.Spec PyProof.Rows L2 L2.MP
noncomputable def top (i : Nat) : Stmt := PySem.Challenge.pw_lostblock_k41_whole_plan_rows_refused.main.body.getD i (.Pass ⟨0, 0, 0, 0⟩)
structure Txt (mg : Str → Option Value) : Prop where
  tt : True
  b_ValueError : mg "ValueError" = none
  b_all : mg "all" = none
  b_bool : mg "bool" = none
  b_enumerate : mg "enumerate" = none
  b_int : mg "int" = none
  b_isinstance : mg "isinstance" = none
  b_len : mg "len" = none
  b_list : mg "list" = none
  b_max : mg "max" = none
  b_min : mg "min" = none
  b_range : mg "range" = none
  b_str : mg "str" = none
  b_tuple : mg "tuple" = none
  c_COLUMN : ∃ t, mg "COLUMN" = some (.str "column" t)
  c_CUT : ∃ t, mg "CUT" = some (.str "cut" t)
  c_FIGURES : ∃ t, mg "FIGURES" = some (.str "0123456789" t)
  c_MOST_FIGURES : ∃ t, mg "MOST_FIGURES" = some (.int 3 t)
  c_PRINT : ∃ t, mg "PRINT" = some (.str "print" t)
  c_ROW : ∃ t, mg "ROW" = some (.str "row" t)
structure Ads where
  (x_NoPlan x_NoSet x_NoBench x_NoPicture x_NoStack x_Kept x_NoDeed x_TooMany x_NoName x_Twice x_Order x_Wrong x_NoStroke x_NoRow x_BlockError : Addr)
structure Xt (K : PySem.W.Frag) (mg : Str → Option Value) (d : Ads) : Prop where
  u_NoPlan : XUse K mg "NoPlan" ["row"] d.x_NoPlan
  n_NoPlan : PySem.W.nsIn K mainGlobals "NoPlan" = some (some (.ref d.x_NoPlan))
  g_NoPlan : mg "NoPlan" = some (.ref d.x_NoPlan)
  n_NoSet : PySem.W.nsIn K mainGlobals "NoSet" = some (some (.ref d.x_NoSet))
  g_NoSet : mg "NoSet" = some (.ref d.x_NoSet)
  n_NoBench : PySem.W.nsIn K mainGlobals "NoBench" = some (some (.ref d.x_NoBench))
  g_NoBench : mg "NoBench" = some (.ref d.x_NoBench)
  n_NoPicture : PySem.W.nsIn K mainGlobals "NoPicture" = some (some (.ref d.x_NoPicture))
  g_NoPicture : mg "NoPicture" = some (.ref d.x_NoPicture)
  n_NoStack : PySem.W.nsIn K mainGlobals "NoStack" = some (some (.ref d.x_NoStack))
  g_NoStack : mg "NoStack" = some (.ref d.x_NoStack)
  n_Kept : PySem.W.nsIn K mainGlobals "Kept" = some (some (.ref d.x_Kept))
  g_Kept : mg "Kept" = some (.ref d.x_Kept)
  n_NoDeed : PySem.W.nsIn K mainGlobals "NoDeed" = some (some (.ref d.x_NoDeed))
  g_NoDeed : mg "NoDeed" = some (.ref d.x_NoDeed)
  n_TooMany : PySem.W.nsIn K mainGlobals "TooMany" = some (some (.ref d.x_TooMany))
  g_TooMany : mg "TooMany" = some (.ref d.x_TooMany)
  n_NoName : PySem.W.nsIn K mainGlobals "NoName" = some (some (.ref d.x_NoName))
  g_NoName : mg "NoName" = some (.ref d.x_NoName)
  n_Twice : PySem.W.nsIn K mainGlobals "Twice" = some (some (.ref d.x_Twice))
  g_Twice : mg "Twice" = some (.ref d.x_Twice)
  n_Order : PySem.W.nsIn K mainGlobals "Order" = some (some (.ref d.x_Order))
  g_Order : mg "Order" = some (.ref d.x_Order)
  n_Wrong : PySem.W.nsIn K mainGlobals "Wrong" = some (some (.ref d.x_Wrong))
  g_Wrong : mg "Wrong" = some (.ref d.x_Wrong)
  n_NoStroke : PySem.W.nsIn K mainGlobals "NoStroke" = some (some (.ref d.x_NoStroke))
  g_NoStroke : mg "NoStroke" = some (.ref d.x_NoStroke)
  n_NoRow : PySem.W.nsIn K mainGlobals "NoRow" = some (some (.ref d.x_NoRow))
  g_NoRow : mg "NoRow" = some (.ref d.x_NoRow)
  n_BlockError : PySem.W.nsIn K mainGlobals "BlockError" = some (some (.ref d.x_BlockError))
  g_BlockError : mg "BlockError" = some (.ref d.x_BlockError)
  ca_BlockError : Catch K d.x_BlockError
  s_NoPlan_BlockError : PySem.W.subIn K (.ref d.x_NoPlan) (.ref d.x_BlockError) = some true
  no_NoPlan : PySem.W.kitOne K (.type "NoneType") (.ref d.x_NoPlan) = some false
  k_NoPlan_NoPlan : PySem.W.kitOne K (.ref d.x_NoPlan) (.ref d.x_NoPlan) = some true
  nob_ValueError : PySem.W.kitOne K (.type "NoneType") (.type "ValueError") = some false
  kb_NoPlan_ValueError : PySem.W.kitOne K (.ref d.x_NoPlan) (.type "ValueError") = some true
  not0 : PySem.W.kitAny K (.type "NoneType") ([d.x_NoSet, d.x_NoBench, d.x_NoPicture, d.x_NoStack, d.x_Kept, d.x_NoDeed, d.x_TooMany].map Value.ref) = some false
  kt0_NoPlan : PySem.W.kitAny K (.ref d.x_NoPlan) ([d.x_NoSet, d.x_NoBench, d.x_NoPicture, d.x_NoStack, d.x_Kept, d.x_NoDeed, d.x_TooMany].map Value.ref) = some false
  not1 : PySem.W.kitAny K (.type "NoneType") ([d.x_NoName, d.x_Twice, d.x_Order, d.x_Wrong, d.x_NoStroke, d.x_NoRow].map Value.ref) = some false
  kt1_NoPlan : PySem.W.kitAny K (.ref d.x_NoPlan) ([d.x_NoName, d.x_Twice, d.x_Order, d.x_Wrong, d.x_NoStroke, d.x_NoRow].map Value.ref) = some false
section
seal PE PA PS PSs PG PGs PI PPs MJ MT MA MAL MO MS MG MGs MI
variable {P : Program} {w : World} {K : PySem.W.Frag} {mg : Str → Option Value} {base : Heap}
theorem su_BlockError_ok {d : Ads} (Z : Xt K mg d) : ∀ c b, su_BlockError c = some b → SubAt K c "BlockError" b := by
  intro c b h
  unfold su_BlockError at h
  by_cases h_NoPlan : c = "NoPlan"
  · subst h_NoPlan
    rw [if_pos rfl] at h
    cases h
    exact ⟨_, _, Z.n_NoPlan, Z.n_BlockError, Z.s_NoPlan_BlockError⟩
  rw [if_neg h_NoPlan] at h
  cases h
theorem ki_NoPlan_ok {d : Ads} (Z : Xt K mg d) : ∀ c b, ki_NoPlan c = some b → SubX K c (.ref d.x_NoPlan) b := by
  intro c b h
  unfold ki_NoPlan at h
  by_cases h_NoPlan : c = "NoPlan"
  · subst h_NoPlan
    rw [if_pos rfl] at h
    cases h
    exact ⟨_, Z.n_NoPlan, Z.u_NoPlan.xi, Z.k_NoPlan_NoPlan⟩
  rw [if_neg h_NoPlan] at h
  cases h
theorem kb_ValueError_ok {d : Ads} (Z : Xt K mg d) : ∀ c b, kb_ValueError c = some b → SubX K c (.type "ValueError") b := by
  intro c b h
  unfold kb_ValueError at h
  by_cases h_NoPlan : c = "NoPlan"
  · subst h_NoPlan
    rw [if_pos rfl] at h
    cases h
    exact ⟨_, Z.n_NoPlan, Z.u_NoPlan.xi, Z.kb_NoPlan_ValueError⟩
  rw [if_neg h_NoPlan] at h
  cases h
theorem kt0_ok {d : Ads} (Z : Xt K mg d) : ∀ c b, kt0 c = some b → SubXT K c [d.x_NoSet, d.x_NoBench, d.x_NoPicture, d.x_NoStack, d.x_Kept, d.x_NoDeed, d.x_TooMany] b := by
  intro c b h
  unfold kt0 at h
  by_cases h_NoPlan : c = "NoPlan"
  · subst h_NoPlan
    rw [if_pos rfl] at h
    cases h
    exact ⟨_, Z.n_NoPlan, Z.u_NoPlan.xi, Z.kt0_NoPlan⟩
  rw [if_neg h_NoPlan] at h
  cases h
theorem kt1_ok {d : Ads} (Z : Xt K mg d) : ∀ c b, kt1 c = some b → SubXT K c [d.x_NoName, d.x_Twice, d.x_Order, d.x_Wrong, d.x_NoStroke, d.x_NoRow] b := by
  intro c b h
  unfold kt1 at h
  by_cases h_NoPlan : c = "NoPlan"
  · subst h_NoPlan
    rw [if_pos rfl] at h
    cases h
    exact ⟨_, Z.n_NoPlan, Z.u_NoPlan.xi, Z.kt1_NoPlan⟩
  rw [if_neg h_NoPlan] at h
  cases h
theorem fx_row_ok {d : Ads} (Z : Xt K mg d) : ∀ c, fx_row c = true → ∃ Ca, PySem.W.nsIn K mainGlobals c = some (some (.ref Ca)) ∧ XI K Ca ∧ PySem.W.findIn K (.ref Ca) "row" = some none := by
  intro c h
  unfold fx_row at h
  by_cases h_NoPlan : c = "NoPlan"
  · subst h_NoPlan
    exact ⟨_, Z.n_NoPlan, Z.u_NoPlan.xi, Z.u_NoPlan.fl _ (by simp)⟩
  simp_all
theorem sc_X_NoPlan : FnScope ["self", "row"] ["self", "row"] (defScope (inClass (top 8) 0)) := ⟨rfl, rfl, rfl, by decide +kernel, rfl, by decide +kernel, by decide +kernel⟩
set_option maxHeartbeats 4000000 in
theorem init_NoPlan {C f : Addr} {cd : ClassData} {fd : FuncData} (F : Fun K "__init__" "NoPlan.__init__" (inClass (top 8) 0) f fd) (Y : XCls K C cd) (n0 : PySem.W.findIn K (.ref C) "row" = some none) : FnOk P w K mg base CX0 1 f fd ["self", "row"] (spI C ["row"]) := by
  refine F.ok sc_X_NoPlan (fun vs H Q E h => len_spI h) (fun cdv A outer s H vs Q E hr h => ?_)
  exact ⟨_, (pss_one (ps_X0 (pv 0) (pv 1) rfl)), run_init1 Y n0 h⟩
theorem sc_is_whole : FnScope ["thing"] ["thing"] (defScope (top 17)) := ⟨rfl, rfl, rfl, by decide +kernel, rfl, by decide +kernel, by decide +kernel⟩
set_option maxHeartbeats 4000000 in
theorem ok_is_whole (T : Txt mg) (D : DefAt K mg "is_whole" (top 17) ["thing"]) {d : Ads} (Z : Xt K mg d) : FnAt P w K mg base "is_whole" 1 ["thing"] (spM K XR0 M_is_whole) := by
  refine D.ok sc_is_whole (fun vs H Q E h => len_spM h fun ps r e => match ps, e with | [_], _ => rfl) (fun f cdv A outer s H vs Q E hr h => ?_)
  refine ⟨_, (pss_one (ps_ret (pe_and (pe_callB call_isM rfl T.b_isinstance (by decide +kernel) (pa_cons (pv 0) (pa_cons (pe_gT rfl T.b_int (n := "int") (by decide +kernel)) pa_nil))) (pe_one (pe_not (pe_callB call_isM rfl T.b_isinstance (by decide +kernel) (pa_cons (pv 0) (pa_cons (pe_gT rfl T.b_bool (n := "bool") (by decide +kernel)) pa_nil)))))))), run_fn0 (b := B_is_whole) (k := 1) (n := 0) rfl (fun ps r e => match ps, e with | [_], e => ⟨rfl, e⟩) h fun io H0 F0 hio => ?_⟩
  exact (ms_ret (mj_and (mj_cb2 aH.up r_is (mj_lend 0) mj_ty) (mj_not (mj_cb2 aH.up r_is (mj_lend 0) mj_ty))))
theorem sc_is_stroke : FnScope ["thing"] ["thing"] (defScope (top 21)) := ⟨rfl, rfl, rfl, by decide +kernel, rfl, by decide +kernel, by decide +kernel⟩
set_option maxHeartbeats 4000000 in
theorem ok_is_stroke (T : Txt mg) (D : DefAt K mg "is_stroke" (top 21) ["thing"]) {d : Ads} (Z : Xt K mg d) (G_is_whole : FnAt P w K mg base "is_whole" 1 ["thing"] (spM K XR0 M_is_whole)) : FnAt P w K mg base "is_stroke" 2 ["thing"] (spM K XR0 M_is_stroke) := by
  refine D.ok sc_is_stroke (fun vs H Q E h => len_spM h fun ps r e => match ps, e with | [_], _ => rfl) (fun f cdv A outer s H vs Q E hr h => ?_)
  refine ⟨_, (pss_cons (ps_if (PW.pt (pw_or (pt_not (pt_val (pe_callB call_isM rfl T.b_isinstance (by decide +kernel) (pa_cons (pv 0) (pa_cons (pe_gT rfl T.b_tuple (n := "tuple") (by decide +kernel)) pa_nil))))) (pw_or1 (pt_cmpR (op_neM hr) (pe_callB call_len rfl T.b_len (by decide +kernel) (pa_cons (pv 0) pa_nil)) pe_int (nomark _)))))
        (pss_one (ps_ret pe_bl))
        pss_nil)
      (pss_cons (ps_if (PW.pt (pw_or (pt_not (pt_val (pe_callB call_isM rfl T.b_isinstance (by decide +kernel) (pa_cons (pe_ix ix_seq (pv 0) pe_int (fun _ _ => rfl)) (pa_cons (pe_gT rfl T.b_str (n := "str") (by decide +kernel)) pa_nil))))) (pw_or1 (pt_cmpR (op_notinU hr) (pe_ix ix_seq (pv 0) pe_int (fun _ _ => rfl)) (pe_tup (pa_cons (pe_gS rfl T.c_ROW) (pa_cons (pe_gS rfl T.c_COLUMN) pa_nil))) (by with_unfolding_all rfl)))))
        (pss_one (ps_ret pe_bl))
        pss_nil)
      (pss_one (ps_ret (pe_and (pe_callB (call_all rfl) rfl T.b_all (by decide +kernel) (pa_cons (pe_comp ["number"] [none] rfl (pi_seqU (pe_slice sl_tup (pv 0) (po_some pe_int) po_none)) (fun _ _ _ _ _ => (pg_nameL (i := 0) (by decide +kernel) rfl rfl)) (fun _ _ _ _ _ => pf_nil) (fun _ _ _ _ _ => (pe_callF G_is_whole (hr.mono (by decide)) (glc rfl) (pa_cons (pvl 0) pa_nil)))) pa_nil)) (pe_one (pe_cmpR op_leU (pe_ix ix_seq (pv 0) pe_int (fun _ _ => rfl)) (pe_ix ix_seq (pv 0) pe_int (fun _ _ => rfl)) (nomark _)))))))), run_fn0 (b := B_is_stroke) (k := 1) (n := 0) rfl (fun ps r e => match ps, e with | [_], e => ⟨rfl, e⟩) h fun io H0 F0 hio => ?_⟩
  exact (ms_seq (ms_if (mt_or (mt_not (mt_val (mj_cb2 aH.up r_is (mj_lend 0) mj_ty))) (mt_test (mj_op aH.up r_ne (mj_low (mj_cb1 r_len (mj_lend 0))) (mj_low mj_int))))
        (ms_ret mj_bl)
        ms_next)
      (ms_seq (ms_if (mt_or (mt_not (mt_val (mj_cb2 aH.up r_is (mj_low (mj_op aF.up r_ix (mj_var 0) mj_int)) mj_ty))) (mt_test (mj_op aH.up r_notin (mj_low (mj_op aF.up r_ix (mj_var 0) mj_int)) (mj_low (mj_tup (ma_cons mj_str (ma_cons mj_str ma_nil)))))))
        (ms_ret mj_bl)
        ms_next)
      (ms_ret (mj_and (mj_cb1 r_all (mj_ownV (mo_comp (mi_seqU (mj_slT (mj_var 0) (mp_some mj_int) mp_none)) (mg_name 0) (wr_name 0) mt_yes (mj_call (ma_cons (mj_var 0) ma_nil))))) (mj_op aF.up r_le (mj_op aF.up r_ix (mj_var 0) mj_int) (mj_op aF.up r_ix (mj_var 0) mj_int))))))
theorem sc_number_of : FnScope ["text"] ["text"] (defScope (top 27)) := ⟨rfl, rfl, rfl, by decide +kernel, rfl, by decide +kernel, by decide +kernel⟩
set_option maxHeartbeats 4000000 in
theorem ok_number_of (T : Txt mg) (D : DefAt K mg "number_of" (top 27) ["text"]) {d : Ads} (Z : Xt K mg d) : FnAt P w K mg base "number_of" 1 ["text"] (spM K XR0 M_number_of) := by
  refine D.ok sc_number_of (fun vs H Q E h => len_spM h fun ps r e => match ps, e with | [_], _ => rfl) (fun f cdv A outer s H vs Q E hr h => ?_)
  refine ⟨_, (pss_cons (ps_if (PW.pt (pw_or (pt_not (pt_chain op_leU op_leU pe_int (pe_callB call_len rfl T.b_len (by decide +kernel) (pa_cons (pv 0) pa_nil)) (pe_gI rfl T.c_MOST_FIGURES))) (pw_or1 (pt_not (pt_val (pe_callB (call_all rfl) rfl T.b_all (by decide +kernel) (pa_cons (pe_comp ["sign"] [none] rfl (pi_seqU (pv 0)) (fun _ _ _ _ _ => (pg_nameL (i := 0) (by decide +kernel) rfl rfl)) (fun _ _ _ _ _ => pf_nil) (fun _ _ _ _ _ => (pe_cmpR (op_inUC hr) (pvl 0) (pe_gS (glc rfl) T.c_FIGURES) (by with_unfolding_all rfl)))) pa_nil)))))))
        (pss_one (ps_ret pe_non))
        pss_nil)
      (pss_cons (ps_if (PW.pt (pw_and (pt_cmpR op_gt (pe_callB call_len rfl T.b_len (by decide +kernel) (pa_cons (pv 0) pa_nil)) pe_int (nomark _)) (pw_and1 (pt_cmpR (op_eqM hr) (pe_ix ix_seq (pv 0) pe_int (fun _ _ => rfl)) pe_str (nomark _)))))
        (pss_one (ps_ret pe_non))
        pss_nil)
      (pss_one (ps_ret (pe_callTy call_intS rfl T.b_int (by decide +kernel) (pa_cons (pv 0) pa_nil)))))), run_fn0 (b := B_number_of) (k := 1) (n := 0) rfl (fun ps r e => match ps, e with | [_], e => ⟨rfl, e⟩) h fun io H0 F0 hio => ?_⟩
  exact (ms_seq (ms_if (mt_or (mt_not (mt_test (mj_chain r_le r_le mj_int (mj_cb1 r_len (mj_lend 0)) mj_int))) (mt_not (mt_val (mj_cb1 r_all (mj_ownV (mo_comp (mi_seqU (mj_var 0)) (mg_name 0) (wr_name 0) mt_yes (mj_op aH.up r_in (mj_lend 0) (mj_low mj_str))))))))
        (ms_ret mj_non)
        ms_next)
      (ms_seq (ms_if (mt_and (mt_test (mj_op aF.up r_gt (mj_cb1 r_len (mj_lend 0)) mj_int)) (mt_test (mj_op aH.up r_eq (mj_low (mj_op aF.up r_ix (mj_var 0) mj_int)) (mj_low mj_str))))
        (ms_ret mj_non)
        ms_next)
      (ms_ret (mj_cb1 r_intS (mj_var 0)))))
theorem sc_stroke_of : FnScope ["words", "stroke"] ["words"] (defScope (top 28)) := ⟨rfl, rfl, rfl, by decide +kernel, rfl, by decide +kernel, by decide +kernel⟩
set_option maxHeartbeats 4000000 in
theorem ok_stroke_of (T : Txt mg) (D : DefAt K mg "stroke_of" (top 28) ["words"]) {d : Ads} (Z : Xt K mg d) (G_number_of : FnAt P w K mg base "number_of" 1 ["text"] (spM K XR0 M_number_of)) (G_is_stroke : FnAt P w K mg base "is_stroke" 2 ["thing"] (spM K XR0 M_is_stroke)) : FnAt P w K mg base "stroke_of" 3 ["words"] (spM K XR0 M_stroke_of) := by
  refine D.ok sc_stroke_of (fun vs H Q E h => len_spM h fun ps r e => match ps, e with | [_], _ => rfl) (fun f cdv A outer s H vs Q E hr h => ?_)
  refine ⟨_, (pss_cons (ps_set (i := 1) sc_stroke_of.nd rfl (Or.inl rfl) (pe_callTy call_tuple_of rfl T.b_tuple (by decide +kernel) (pa_cons (pe_op op_catS (pe_slice sl_list (pv 0) po_none (po_some pe_int)) (pe_comp ["word"] [none] rfl (pi_seqU (pe_slice sl_list (pv 0) (po_some pe_int) po_none)) (fun _ _ _ _ _ => (pg_nameL (i := 0) (by decide +kernel) rfl rfl)) (fun _ _ _ _ _ => pf_nil) (fun _ _ _ _ _ => (pe_callF G_number_of (hr.mono (by decide)) (glc rfl) (pa_cons (pvl 0) pa_nil))))) pa_nil)))
      (pss_one (ps_ret (pe_ifExp (pt_val (pe_callF G_is_stroke (hr.mono (by decide)) rfl (pa_cons (pv 1) pa_nil))) (pv 1) pe_non)))), run_fn0 (b := B_stroke_of) (k := 1) (n := 1) rfl (fun ps r e => match ps, e with | [_], e => ⟨rfl, e⟩) h fun io H0 F0 hio => ?_⟩
  exact (ms_seq (ms_asg (mj_cb1 r_tup (mj_ownV (mo_op aV.up r_cat (mj_ownV (mo_slL (mj_viewN 0) mp_none (mp_some mj_int))) (mj_ownV (mo_comp (mi_seqU (mj_own (mo_slL (mj_viewN 0) (mp_some mj_int) mp_none))) (mg_name 0) (wr_name 0) mt_yes (mj_call (ma_cons (mj_var 0) ma_nil))))))) (mg_name 1))
      (ms_ret (mj_if (mt_val (mj_call (ma_cons (mj_var 1) ma_nil))) (mj_var 1) mj_non)))
theorem sc_deed_of : FnScope ["row", "words", "block", "told"] ["row"] (defScope (top 29)) := ⟨rfl, rfl, rfl, by decide +kernel, rfl, by decide +kernel, by decide +kernel⟩
set_option maxHeartbeats 4000000 in
theorem ok_deed_of (T : Txt mg) (D : DefAt K mg "deed_of" (top 29) ["row"]) {d : Ads} (Z : Xt K mg d) (G_number_of : FnAt P w K mg base "number_of" 1 ["text"] (spM K XR0 M_number_of)) (G_stroke_of : FnAt P w K mg base "stroke_of" 3 ["words"] (spM K XR0 M_stroke_of)) : FnAt P w K mg base "deed_of" 4 ["row"] (spM K XR0 M_deed_of) := by
  refine D.ok sc_deed_of (fun vs H Q E h => len_spM h fun ps r e => match ps, e with | [_], _ => rfl) (fun f cdv A outer s H vs Q E hr h => ?_)
  refine ⟨_, (pss_cons (ps_set (i := 1) sc_deed_of.nd rfl (Or.inl rfl) (pe_bm PySem.F.plainAttrs_str PySem.F.slot_str_split PySem.F.type_str_split mt_split (pv 0) (pa_cons pe_str pa_nil)))
      (pss_cons (ps_if (pt_cmpR op_ltU (pe_callB call_len rfl T.b_len (by decide +kernel) (pa_cons (pv 1) pa_nil)) pe_int (nomark _))
        (pss_one (ps_ret pe_non))
        pss_nil)
      (pss_cons (ps_set (i := 2) sc_deed_of.nd rfl (Or.inl rfl) (pe_callF G_number_of (hr.mono (by decide)) rfl (pa_cons (pe_ix ix_seq (pv 1) pe_int (fun _ _ => rfl)) pa_nil)))
      (pss_cons (ps_set (i := 3) sc_deed_of.nd rfl (Or.inl rfl) pe_non)
      (pss_cons (ps_if (pt_cmpR (op_eqM hr) (pe_ix ix_seq (pv 1) pe_int (fun _ _ => rfl)) (pe_gS rfl T.c_CUT) (nomark _))
        (pss_one (ps_set (i := 3) sc_deed_of.nd rfl (Or.inl rfl) (pe_callF G_stroke_of (hr.mono (by decide)) rfl (pa_cons (pe_slice sl_list (pv 1) (po_some pe_int) po_none) pa_nil))))
        (pss_one (ps_if (PW.pt (pw_and (pt_cmpR (op_eqM hr) (pe_ix ix_seq (pv 1) pe_int (fun _ _ => rfl)) (pe_gS rfl T.c_PRINT) (nomark _)) (pw_and1 (pt_cmpR (op_eqM hr) (pe_callB call_len rfl T.b_len (by decide +kernel) (pa_cons (pv 1) pa_nil)) pe_int (nomark _)))))
          (pss_one (ps_set (i := 3) sc_deed_of.nd rfl (Or.inl rfl) (pe_callF G_number_of (hr.mono (by decide)) rfl (pa_cons (pe_ix ix_seq (pv 1) pe_int (fun _ _ => rfl)) pa_nil))))
          pss_nil)))
      (pss_cons (ps_if (PW.pt (pw_or (pt_cmpR op_isN (pv 2) pe_non (nomark _)) (pw_or1 (pt_cmpR op_isN (pv 3) pe_non (nomark _)))))
        (pss_one (ps_ret pe_non))
        pss_nil)
      (pss_one (ps_ret (pe_tup (pa_cons (pe_ix ix_seq (pv 1) pe_int (fun _ _ => rfl)) (pa_cons (pv 2) (pa_cons (pv 3) pa_nil)))))))))))), run_fn0 (b := B_deed_of) (k := 1) (n := 3) rfl (fun ps r e => match ps, e with | [_], e => ⟨rfl, e⟩) h fun io H0 F0 hio => ?_⟩
  exact (ms_seq (ms_asg (mj_own (mo_split (mj_var 0) mj_str)) (mg_name 1))
      (ms_seq (ms_if (mt_test (mj_op aF.up r_lt (mj_cb1 r_len (mj_lend 1)) mj_int))
        (ms_ret mj_non)
        ms_next)
      (ms_seq (ms_asg (mj_call (ma_cons (mj_op aF.up r_ix (mj_var 1) mj_int) ma_nil)) (mg_name 2))
      (ms_seq (ms_asg mj_non (mg_name 3))
      (ms_seq (ms_if (mt_test (mj_op aH.up r_eq (mj_low (mj_op aF.up r_ix (mj_var 1) mj_int)) (mj_low mj_str)))
        (ms_asg (mj_call (ma_cons (mj_own (mo_slL (mj_viewN 1) (mp_some mj_int) mp_none)) ma_nil)) (mg_name 3))
        (ms_if (mt_and (mt_test (mj_op aH.up r_eq (mj_low (mj_op aF.up r_ix (mj_var 1) mj_int)) (mj_low mj_str))) (mt_test (mj_op aH.up r_eq (mj_low (mj_cb1 r_len (mj_lend 1))) (mj_low mj_int))))
          (ms_asg (mj_call (ma_cons (mj_op aF.up r_ix (mj_var 1) mj_int) ma_nil)) (mg_name 3))
          ms_next))
      (ms_seq (ms_if (mt_or (mt_test (mj_op aH.up r_isN (mj_lend 2) mj_non)) (mt_test (mj_op aH.up r_isN (mj_lend 3) mj_non)))
        (ms_ret mj_non)
        ms_next)
      (ms_ret (mj_tup (ma_cons (mj_op aF.up r_ix (mj_var 1) mj_int) (ma_cons (mj_var 2) (ma_cons (mj_var 3) ma_nil)))))))))))
theorem sc_read_plan : FnScope ["text", "plan", "number", "deed"] ["text"] (defScope (top 30)) := ⟨rfl, rfl, rfl, by decide +kernel, rfl, by decide +kernel, by decide +kernel⟩
set_option maxHeartbeats 4000000 in
theorem ok_read_plan (T : Txt mg) (D : DefAt K mg "read_plan" (top 30) ["text"]) {d : Ads} (Z : Xt K mg d) (G_deed_of : FnAt P w K mg base "deed_of" 4 ["row"] (spM K XR0 M_deed_of)) : FnAtX P w K mg base "read_plan" 5 ["text"] (spO K (XRS K) M_read_plan) := by
  refine DefAt.okX D sc_read_plan (fun vs H Q E h => len_spO h fun ps r e => match ps, e with | [_], _ => rfl) (fun f cdv A outer s H vs Q E hr h => ?_)
  refine ⟨_, (pss_cons (ps_if (pt_cmpR (op_eqM hr) (pv 0) pe_str (nomark _))
        (pss_one (ps_ret (pe_lst pa_nil)))
        pss_nil)
      (pss_cons (ps_setC (i := 1) ["row"] [none] rfl sc_read_plan.nd rfl rfl (pi_seqU (pe_bm PySem.F.plainAttrs_str PySem.F.slot_str_split PySem.F.type_str_split mt_split (pv 0) (pa_cons pe_str pa_nil))) (fun _ _ _ _ _ => (pg_nameL (i := 0) (by decide +kernel) rfl rfl)) (fun _ _ _ _ _ => pf_nil) (fun _ _ _ _ _ => (pe_callF G_deed_of (hr.mono (by decide)) (glc rfl) (pa_cons (pvl 0) pa_nil))))
      (pss_cons (ps_for own_cxX rfl (pi_enum rfl T.b_enumerate (pa_cons (pv 1) pa_nil)) (pg_tup (n := 2) rfl (pgs_cons (pg_name (i := 2) sc_read_plan.nd rfl (Or.inl rfl)) (pgs_cons (pg_name (i := 3) sc_read_plan.nd rfl (Or.inl rfl)) pgs_nil)))
        (pss_one (ps_if (pt_cmpR op_isN (pv 3) pe_non (nomark _))
          (pss_one (ps_raiseU (k := 0) Z.u_NoPlan (hr.mono (by decide)) rfl raise_cxX (pa_cons (pv 2) pa_nil)))
          pss_nil)))
      (pss_one (ps_ret (pv 1)))))), run_fnXO (b := B_read_plan) (k := 1) (n := 3) rfl (fun ps r e => match ps, e with | [_], e => ⟨rfl, e⟩) h fun io H0 F0 hio => ?_⟩
  exact (ms_seq (ms_if (mt_test (mj_op aH.up r_eq (mj_lend 0) (mj_low mj_str)))
        (ms_retO (mo_lst ma_nil))
        ms_next)
      (ms_seq (ms_setO (i := 1) trivial (mo_comp (mi_seqU (mj_own (mo_split (mj_var 0) mj_str))) (mg_name 0) (wr_name 0) mt_yes (mj_call0 (ma_cons (mj_var 0) ma_nil))))
      (ms_keepO 1 hio (msk_for (mi_enum (ma_cons (mj_var 1) ma_nil)) (mgk_tup (mgsk_cons (mgk_name 2 (by decide)) (mgsk_cons (mgk_name 3 (by decide)) mgsk_nil)))
        (msk_if (mt_test (mj_op aH.up r_isN (mj_lend 3) mj_non))
          (msk_end (ms_raiseU rfl Z.u_NoPlan (by decide) (ma_cons (mj_var 2) ma_nil)) e1_raise)
          msk_next)))))
theorem sc_L_cell_at : FnScope ["_law_script", "_law_k"] ["_law_script", "_law_k"] (defScope (top 32)) := ⟨rfl, rfl, rfl, by decide +kernel, rfl, by decide +kernel, by decide +kernel⟩
set_option maxHeartbeats 4000000 in
theorem ok_L_cell_at (T : Txt mg) (D : DefAt K mg "_law_cell_at" (top 32) ["_law_script", "_law_k"]) {d : Ads} (Z : Xt K mg d) : FnAt P w K mg base "_law_cell_at" 1 ["_law_script", "_law_k"] (spM K XR0 M__law_cell_at) := by
  refine D.ok sc_L_cell_at (fun vs H Q E h => len_spM h fun ps r e => match ps, e with | [_, _], _ => rfl) (fun f cdv A outer s H vs Q E hr h => ?_)
  refine ⟨_, (pss_cons (ps_if (pt_cmpR op_ltU (pv 1) (pe_callB call_len rfl T.b_len (by decide +kernel) (pa_cons (pv 0) pa_nil)) (nomark _))
        (pss_one (ps_ret (pe_ix ix_seq (pv 0) (pv 1) (fun _ _ => rfl))))
        pss_nil)
      (pss_one (ps_ret pe_int))), run_fn0 (b := B__law_cell_at) (k := 2) (n := 0) rfl (fun ps r e => match ps, e with | [_, _], e => ⟨rfl, e⟩) h fun io H0 F0 hio => ?_⟩
  exact (ms_seq (ms_if (mt_test (mj_op aF.up r_lt (mj_var 1) (mj_cb1 r_len (mj_lend 0))))
        (ms_ret (mj_op aF.up r_ix (mj_var 0) (mj_var 1)))
        ms_next)
      (ms_ret mj_int))
theorem sc_L_window : FnScope ["_law_cell", "_law_turn", "_law_k"] ["_law_cell", "_law_turn"] (defScope (top 33)) := ⟨rfl, rfl, rfl, by decide +kernel, rfl, by decide +kernel, by decide +kernel⟩
set_option maxHeartbeats 4000000 in
theorem ok_L_window (T : Txt mg) (D : DefAt K mg "_law_window" (top 33) ["_law_cell", "_law_turn"]) {d : Ads} (Z : Xt K mg d) : FnAt P w K mg base "_law_window" 1 ["_law_cell", "_law_turn"] (spM K XR0 M__law_window) := by
  refine D.ok sc_L_window (fun vs H Q E h => len_spM h fun ps r e => match ps, e with | [_, _], _ => rfl) (fun f cdv A outer s H vs Q E hr h => ?_)
  refine ⟨_, (pss_cons (ps_if (pt_cmpR op_ltU (pv 0) (pe_op op_pow pe_int pe_int) (nomark _))
        (pss_one (ps_ret (pv 0)))
        pss_nil)
      (pss_cons (ps_for PassesOwn.never rfl (pi_range1 rfl T.b_range (pa_cons (pe_op op_mulU pe_int (pv 1)) pa_nil)) (pg_name (i := 2) sc_L_window.nd rfl (Or.inl rfl))
        (pss_one (ps_set (i := 0) sc_L_window.nd rfl (Or.inl rfl) (pe_op op_fdivL (pv 0) (pe_op op_pow pe_int pe_int)))))
      (pss_one (ps_ret (pe_op op_addU (pe_op op_pow pe_int pe_int) (pv 0)))))), run_fn0 (b := B__law_window) (k := 2) (n := 1) rfl (fun ps r e => match ps, e with | [_, _], e => ⟨rfl, e⟩) h fun io H0 F0 hio => ?_⟩
  exact (ms_seq (ms_if (mt_test (mj_op aF.up r_lt (mj_var 0) (mj_op aF.up r_pow mj_int mj_int)))
        (ms_ret (mj_var 0))
        ms_next)
      (ms_seq (ms_for (mi_rng1 (ma_cons (mj_op aF.up r_mul mj_int (mj_var 1)) ma_nil)) (mg_name 2)
        (ms_asg (mj_op aF.up r_divL (mj_var 0) (mj_op aF.up r_pow mj_int mj_int)) (mg_name 0)))
      (ms_ret (mj_op aF.up r_add (mj_op aF.up r_pow mj_int mj_int) (mj_var 0)))))
theorem sc_L_stream : FnScope ["_law_cell", "_law_many", "_law_found", "_law_number", "_law_k"] ["_law_cell", "_law_many"] (defScope (top 34)) := ⟨rfl, rfl, rfl, by decide +kernel, rfl, by decide +kernel, by decide +kernel⟩
set_option maxHeartbeats 4000000 in
theorem ok_L_stream (T : Txt mg) (D : DefAt K mg "_law_stream" (top 34) ["_law_cell", "_law_many"]) {d : Ads} (Z : Xt K mg d) : FnAt P w K mg base "_law_stream" 1 ["_law_cell", "_law_many"] (spO K XR0 M__law_stream) := by
  refine D.ok sc_L_stream (fun vs H Q E h => len_spO h fun ps r e => match ps, e with | [_, _], _ => rfl) (fun f cdv A outer s H vs Q E hr h => ?_)
  refine ⟨_, (pss_cons (ps_set (i := 2) sc_L_stream.nd rfl (Or.inl rfl) (pe_lst pa_nil))
      (pss_cons (ps_if (pt_cmpR op_ge (pv 0) (pe_op op_pow pe_int pe_int) (nomark _))
        (pss_cons (ps_set (i := 3) sc_L_stream.nd rfl (Or.inl rfl) (pe_op op_sub (pv 0) (pe_op op_pow pe_int pe_int)))
        (pss_cons (ps_for PassesOwn.never rfl (pi_range1 rfl T.b_range (pa_cons (pv 1) pa_nil)) (pg_name (i := 4) sc_L_stream.nd rfl (Or.inl rfl))
          (pss_cons (ps_expr (pe_bm PySem.F.plainAttrs_list PySem.F.slot_list_append PySem.F.type_list_append mt_append (pv 2) (pa_cons (pe_op op_mod (pv 3) pe_int) pa_nil)))
          (pss_one (ps_set (i := 3) sc_L_stream.nd rfl (Or.inl rfl) (pe_op op_fdiv (pv 3) pe_int)))))
        (pss_one (ps_ret (pv 2)))))
        pss_nil)
      (pss_cons (ps_set (i := 3) sc_L_stream.nd rfl (Or.inl rfl) (pe_op op_addU (pe_op op_mod (pv 0) pe_int) pe_int))
      (pss_cons (ps_for PassesOwn.never rfl (pi_range1 rfl T.b_range (pa_cons (pv 1) pa_nil)) (pg_name (i := 4) sc_L_stream.nd rfl (Or.inl rfl))
        (pss_cons (ps_set (i := 3) sc_L_stream.nd rfl (Or.inl rfl) (pe_op op_addU (pe_op op_addU (pe_op op_addU (pe_op op_mulU (pv 3) (pv 3)) (pe_op op_mulU pe_int (pv 3))) (pe_op op_mulU pe_int (pv 4))) pe_int))
        (pss_cons (ps_set (i := 3) sc_L_stream.nd rfl (Or.inl rfl) (pe_op op_mod (pv 3) pe_int))
        (pss_one (ps_expr (pe_bm PySem.F.plainAttrs_list PySem.F.slot_list_append PySem.F.type_list_append mt_append (pv 2) (pa_cons (pe_op op_fdiv (pv 3) pe_int) pa_nil)))))))
      (pss_one (ps_ret (pv 2))))))), run_fnO (b := B__law_stream) (k := 2) (n := 3) rfl (fun ps r e => match ps, e with | [_, _], e => ⟨rfl, e⟩) h fun io H0 F0 hio => ?_⟩
  exact (ms_seq (ms_setO (i := 2) trivial (mo_lst ma_nil))
      (ms_seq (ms_if (mt_test (mj_op aF.up r_ge (mj_var 0) (mj_op aF.up r_pow mj_int mj_int)))
        (ms_seq (ms_asg (mj_op aF.up r_sub (mj_var 0) (mj_op aF.up r_pow mj_int mj_int)) (mg_name 3))
        (ms_seq (ms_for (mi_rng1 (ma_cons (mj_var 1) ma_nil)) (mg_name 4)
          (ms_seq (ms_app (mj_op aF.up r_mod (mj_var 3) mj_int))
          (ms_asg (mj_op aF.up r_div (mj_var 3) mj_int) (mg_name 3))))
        (ms_retOw 2 hio)))
        ms_next)
      (ms_seq (ms_asg (mj_op aF.up r_add (mj_op aF.up r_mod (mj_var 0) mj_int) mj_int) (mg_name 3))
      (ms_seq (ms_for (mi_rng1 (ma_cons (mj_var 1) ma_nil)) (mg_name 4)
        (ms_seq (ms_asg (mj_op aF.up r_add (mj_op aF.up r_add (mj_op aF.up r_add (mj_op aF.up r_mul (mj_var 3) (mj_var 3)) (mj_op aF.up r_mul mj_int (mj_var 3))) (mj_op aF.up r_mul mj_int (mj_var 4))) mj_int) (mg_name 3))
        (ms_seq (ms_asg (mj_op aF.up r_mod (mj_var 3) mj_int) (mg_name 3))
        (ms_app (mj_op aF.up r_div (mj_var 3) mj_int)))))
      (ms_retOw 2 hio)))))
theorem sc_L_deed : FnScope ["_law_cell", "_law_k", "_law_some", "_law_most", "_law_numbers", "_law_way"] ["_law_cell", "_law_k"] (defScope (top 35)) := ⟨rfl, rfl, rfl, by decide +kernel, rfl, by decide +kernel, by decide +kernel⟩
set_option maxHeartbeats 4000000 in
theorem ok_L_deed (T : Txt mg) (D : DefAt K mg "_law_deed" (top 35) ["_law_cell", "_law_k"]) {d : Ads} (Z : Xt K mg d) (G__law_stream : FnAt P w K mg base "_law_stream" 1 ["_law_cell", "_law_many"] (spO K XR0 M__law_stream)) : FnAt P w K mg base "_law_deed" 2 ["_law_cell", "_law_k"] (spM K XR0 M__law_deed) := by
  refine D.ok sc_L_deed (fun vs H Q E h => len_spM h fun ps r e => match ps, e with | [_, _], _ => rfl) (fun f cdv A outer s H vs Q E hr h => ?_)
  refine ⟨_, (pss_cons (ps_set (i := 2) sc_L_deed.nd rfl (Or.inl rfl) (pe_callF G__law_stream (hr.mono (by decide)) rfl (pa_cons (pe_op op_addU (pv 0) (pe_op op_mulU pe_int (pv 1))) (pa_cons pe_int pa_nil))))
      (pss_cons (ps_set (i := 3) sc_L_deed.nd rfl (Or.inl rfl) (pe_ix ix_seq (pe_lst (pa_cons pe_int (pa_cons pe_int (pa_cons pe_int (pa_cons pe_int pa_nil))))) (pe_op op_mod (pe_ix ix_seq (pv 2) pe_int (fun _ _ => rfl)) pe_int) (fun _ _ => rfl)))
      (pss_cons (ps_set (i := 4) sc_L_deed.nd rfl (Or.inl rfl) (pe_lst (pa_cons (pe_op op_mod (pe_ix ix_seq (pv 2) pe_int (fun _ _ => rfl)) (pv 3)) (pa_cons (pe_op op_mod (pe_ix ix_seq (pv 2) pe_int (fun _ _ => rfl)) (pv 3)) (pa_cons (pe_op op_mod (pe_ix ix_seq (pv 2) pe_int (fun _ _ => rfl)) (pv 3)) (pa_cons (pe_op op_mod (pe_ix ix_seq (pv 2) pe_int (fun _ _ => rfl)) (pv 3)) pa_nil))))))
      (pss_cons (ps_if (pt_cmpR (op_eqM hr) (pe_op op_mod (pe_ix ix_seq (pv 2) pe_int (fun _ _ => rfl)) pe_int) pe_int (nomark _))
        (pss_one (ps_ret (pe_tup (pa_cons pe_str (pa_cons (pe_ix ix_seq (pv 4) pe_int (fun _ _ => rfl)) (pa_cons (pe_ix ix_seq (pv 4) pe_int (fun _ _ => rfl)) pa_nil))))))
        pss_nil)
      (pss_cons (ps_set (i := 5) sc_L_deed.nd rfl (Or.inl rfl) (pe_ix ix_seq (pe_lst (pa_cons pe_str (pa_cons pe_str pa_nil))) (pe_op op_mod (pe_ix ix_seq (pv 2) pe_int (fun _ _ => rfl)) pe_int) (fun _ _ => rfl)))
      (pss_one (ps_ret (pe_tup (pa_cons pe_str (pa_cons (pe_ix ix_seq (pv 4) pe_int (fun _ _ => rfl)) (pa_cons (pe_tup (pa_cons (pv 5) (pa_cons (pe_ix ix_seq (pv 4) pe_int (fun _ _ => rfl)) (pa_cons (pe_callB (call_minL rfl) rfl T.b_min (by decide +kernel) (pa_cons (pe_slice sl_list (pv 4) (po_some pe_int) po_none) pa_nil)) (pa_cons (pe_callB (call_maxL rfl) rfl T.b_max (by decide +kernel) (pa_cons (pe_slice sl_list (pv 4) (po_some pe_int) po_none) pa_nil)) pa_nil))))) pa_nil))))))))))), run_fn0 (b := B__law_deed) (k := 2) (n := 4) rfl (fun ps r e => match ps, e with | [_, _], e => ⟨rfl, e⟩) h fun io H0 F0 hio => ?_⟩
  exact (ms_seq (ms_asg (mj_own (mo_call (ma_cons (mj_op aF.up r_add (mj_var 0) (mj_op aF.up r_mul mj_int (mj_var 1))) (ma_cons mj_int ma_nil)))) (mg_name 2))
      (ms_seq (ms_asg (mj_op aV.up r_ixV (mj_ownV (mo_lst (ma_cons mj_int (ma_cons mj_int (ma_cons mj_int (ma_cons mj_int ma_nil)))))) (mj_op aF.up r_mod (mj_op aF.up r_ix (mj_var 2) mj_int) mj_int)) (mg_name 3))
      (ms_seq (ms_asg (mj_own (mo_lst (ma_cons (mj_op aF.up r_mod (mj_op aF.up r_ix (mj_var 2) mj_int) (mj_var 3)) (ma_cons (mj_op aF.up r_mod (mj_op aF.up r_ix (mj_var 2) mj_int) (mj_var 3)) (ma_cons (mj_op aF.up r_mod (mj_op aF.up r_ix (mj_var 2) mj_int) (mj_var 3)) (ma_cons (mj_op aF.up r_mod (mj_op aF.up r_ix (mj_var 2) mj_int) (mj_var 3)) ma_nil)))))) (mg_name 4))
      (ms_seq (ms_if (mt_test (mj_op aH.up r_eq (mj_low (mj_op aF.up r_mod (mj_op aF.up r_ix (mj_var 2) mj_int) mj_int)) (mj_low mj_int)))
        (ms_ret (mj_tup (ma_cons mj_str (ma_cons (mj_op aF.up r_ix (mj_var 4) mj_int) (ma_cons (mj_op aF.up r_ix (mj_var 4) mj_int) ma_nil)))))
        ms_next)
      (ms_seq (ms_asg (mj_op aV.up r_ixV (mj_ownV (mo_lst (ma_cons mj_str (ma_cons mj_str ma_nil)))) (mj_op aF.up r_mod (mj_op aF.up r_ix (mj_var 2) mj_int) mj_int)) (mg_name 5))
      (ms_ret (mj_tup (ma_cons mj_str (ma_cons (mj_op aF.up r_ix (mj_var 4) mj_int) (ma_cons (mj_tup (ma_cons (mj_var 5) (ma_cons (mj_op aF.up r_ix (mj_var 4) mj_int) (ma_cons (mj_cb1 r_lstI (mj_ownV (mo_slL (mj_viewN 4) (mp_some mj_int) mp_none))) (ma_cons (mj_cb1 r_lstI (mj_ownV (mo_slL (mj_viewN 4) (mp_some mj_int) mp_none))) ma_nil))))) ma_nil))))))))))
theorem sc_L_plan : FnScope ["_law_script"] ["_law_script"] (defScope (top 36)) := ⟨rfl, rfl, rfl, by decide +kernel, rfl, by decide +kernel, by decide +kernel⟩
set_option maxHeartbeats 4000000 in
theorem ok_L_plan (T : Txt mg) (D : DefAt K mg "_law_plan" (top 36) ["_law_script"]) {d : Ads} (Z : Xt K mg d) (G__law_deed : FnAt P w K mg base "_law_deed" 2 ["_law_cell", "_law_k"] (spM K XR0 M__law_deed)) : FnAt P w K mg base "_law_plan" 3 ["_law_script"] (spO K XR0 M__law_plan) := by
  refine D.ok sc_L_plan (fun vs H Q E h => len_spO h fun ps r e => match ps, e with | [_], _ => rfl) (fun f cdv A outer s H vs Q E hr h => ?_)
  refine ⟨_, (pss_one (ps_ret (pe_comp ["_law_k", "_law_cell"] [none, none] rfl (pi_enum rfl T.b_enumerate (pa_cons (pe_slice sl_list (pv 0) (po_some pe_int) (po_some pe_int)) pa_nil)) (fun _ _ _ _ _ => (pg_tupC (n := 2) rfl (pgs_cons (pg_nameL (i := 0) (by decide +kernel) rfl rfl) (pgs_cons (pg_nameL (i := 1) (by decide +kernel) rfl rfl) pgs_nil)))) (fun _ _ _ _ _ => pf_nil) (fun _ _ _ _ _ => (pe_callF G__law_deed (hr.mono (by decide)) (glc rfl) (pa_cons (pvl 1) (pa_cons (pvl 0) pa_nil))))))), run_fnO (b := B__law_plan) (k := 1) (n := 0) rfl (fun ps r e => match ps, e with | [_], e => ⟨rfl, e⟩) h fun io H0 F0 hio => ?_⟩
  exact (ms_retO (mo_comp (mi_enum (ma_cons (mj_own (mo_slL (mj_viewN 0) (mp_some mj_int) (mp_some mj_int))) ma_nil)) (mg_tup (mgs_cons (mg_name 0) (mgs_cons (mg_name 1) mgs_nil))) (wr_tup (wrs_cons (wr_name 0) (wrs_cons (wr_name 1) wrs_nil))) mt_yes (mj_call (ma_cons (mj_var 1) (ma_cons (mj_var 0) ma_nil)))))
theorem sc_L_rows : FnScope ["_law_plan_here", "_law_rows_here", "_law_deed_here"] ["_law_plan_here"] (defScope (top 37)) := ⟨rfl, rfl, rfl, by decide +kernel, rfl, by decide +kernel, by decide +kernel⟩
set_option maxHeartbeats 4000000 in
theorem ok_L_rows (T : Txt mg) (D : DefAt K mg "_law_rows" (top 37) ["_law_plan_here"]) {d : Ads} (Z : Xt K mg d) : FnAt P w K mg base "_law_rows" 1 ["_law_plan_here"] (spO K XR0 M__law_rows) := by
  refine D.ok sc_L_rows (fun vs H Q E h => len_spO h fun ps r e => match ps, e with | [_], _ => rfl) (fun f cdv A outer s H vs Q E hr h => ?_)
  refine ⟨_, (pss_cons (ps_set (i := 1) sc_L_rows.nd rfl (Or.inl rfl) (pe_lst pa_nil))
      (pss_cons (ps_for PassesOwn.never rfl (pi_seqU (pv 0)) (pg_name (i := 2) sc_L_rows.nd rfl (Or.inl rfl))
        (pss_one (ps_if (pt_cmpR (op_eqM hr) (pe_ix ix_seq (pv 2) pe_int (fun _ _ => rfl)) pe_str (nomark _))
          (pss_one (ps_expr (pe_bm PySem.F.plainAttrs_list PySem.F.slot_list_append PySem.F.type_list_append mt_append (pv 1) (pa_cons (pe_op op_addU (pe_op op_addU (pe_op op_addU pe_str (pe_callTy call_str_int rfl T.b_str (by decide +kernel) (pa_cons (pe_ix ix_seq (pv 2) pe_int (fun _ _ => rfl)) pa_nil))) pe_str) (pe_callTy call_str_int rfl T.b_str (by decide +kernel) (pa_cons (pe_ix ix_seq (pv 2) pe_int (fun _ _ => rfl)) pa_nil))) pa_nil))))
          (pss_one (ps_expr (pe_bm PySem.F.plainAttrs_list PySem.F.slot_list_append PySem.F.type_list_append mt_append (pv 1) (pa_cons (pe_bm PySem.F.plainAttrs_str PySem.F.slot_str_join PySem.F.type_str_join mt_join pe_str (pa_cons (pe_op op_catS (pe_lst (pa_cons pe_str (pa_cons (pe_callTy call_str_int rfl T.b_str (by decide +kernel) (pa_cons (pe_ix ix_seq (pv 2) pe_int (fun _ _ => rfl)) pa_nil)) (pa_cons (pe_ix ix_seq (pe_ix ix_seq (pv 2) pe_int (fun _ _ => rfl)) pe_int (fun _ _ => rfl)) pa_nil)))) (pe_comp ["_law_one"] [none] rfl (pi_seqU (pe_slice sl_tup (pe_ix ix_seq (pv 2) pe_int (fun _ _ => rfl)) (po_some pe_int) po_none)) (fun _ _ _ _ _ => (pg_nameL (i := 0) (by decide +kernel) rfl rfl)) (fun _ _ _ _ _ => pf_nil) (fun _ _ _ _ _ => (pe_callTy call_str_int (glc rfl) T.b_str (by decide +kernel) (pa_cons (pvl 0) pa_nil))))) pa_nil)) pa_nil)))))))
      (pss_one (ps_ret (pv 1))))), run_fnO (b := B__law_rows) (k := 1) (n := 2) rfl (fun ps r e => match ps, e with | [_], e => ⟨rfl, e⟩) h fun io H0 F0 hio => ?_⟩
  exact (ms_seq (ms_setO (i := 1) trivial (mo_lst ma_nil))
      (ms_seq (ms_for (mi_seqU (mj_var 0)) (mg_name 2)
        (ms_if (mt_test (mj_op aH.up r_eq (mj_low (mj_op aF.up r_ix (mj_var 2) mj_int)) (mj_low mj_str)))
          (ms_app (mj_op aF.up r_add (mj_op aF.up r_add (mj_op aF.up r_add mj_str (mj_cb1 r_str (mj_op aF.up r_ix (mj_var 2) mj_int))) mj_str) (mj_cb1 r_str (mj_op aF.up r_ix (mj_var 2) mj_int))))
          (ms_app (mj_join mj_str (mj_ownV (mo_op aV.up r_cat (mj_ownV (mo_lst (ma_cons mj_str (ma_cons (mj_cb1 r_str (mj_op aF.up r_ix (mj_var 2) mj_int)) (ma_cons (mj_op aF.up r_ix (mj_op aF.up r_ix (mj_var 2) mj_int) mj_int) ma_nil))))) (mj_ownV (mo_comp (mi_seqU (mj_slT (mj_op aF.up r_ix (mj_var 2) mj_int) (mp_some mj_int) mp_none)) (mg_name 0) (wr_name 0) mt_yes (mj_cb1 r_str (mj_var 0))))))))))
      (ms_retOw 1 hio)))
theorem sc_L_odd : FnScope ["_law_rows_here", "_law_some", "_law_words", "_law_odd_here"] ["_law_rows_here", "_law_some"] (defScope (top 38)) := ⟨rfl, rfl, rfl, by decide +kernel, rfl, by decide +kernel, by decide +kernel⟩
set_option maxHeartbeats 4000000 in
theorem ok_L_odd (T : Txt mg) (D : DefAt K mg "_law_odd" (top 38) ["_law_rows_here", "_law_some"]) {d : Ads} (Z : Xt K mg d) : FnAt P w K mg base "_law_odd" 1 ["_law_rows_here", "_law_some"] (spM K XR0 M__law_odd) := by
  refine D.ok sc_L_odd (fun vs H Q E h => len_spM h fun ps r e => match ps, e with | [_, _], _ => rfl) (fun f cdv A outer s H vs Q E hr h => ?_)
  refine ⟨_, (pss_cons (ps_set (i := 2) sc_L_odd.nd rfl (Or.inl rfl) (pe_bm PySem.F.plainAttrs_str PySem.F.slot_str_split PySem.F.type_str_split mt_split (pe_ix ix_seq (pv 0) (pe_op op_mod (pe_ix ix_seq (pv 1) pe_int (fun _ _ => rfl)) (pe_callB call_len rfl T.b_len (by decide +kernel) (pa_cons (pv 0) pa_nil))) (fun _ _ => rfl)) (pa_cons pe_str pa_nil)))
      (pss_cons (ps_set (i := 3) sc_L_odd.nd rfl (Or.inl rfl) (pe_lst (pa_cons pe_str (pa_cons pe_str (pa_cons pe_str (pa_cons pe_str (pa_cons pe_str (pa_cons pe_str (pa_cons pe_str (pa_cons pe_str (pa_cons pe_str (pa_cons pe_str (pa_cons pe_str (pa_cons pe_str (pa_cons pe_str (pa_cons pe_str pa_nil))))))))))))))))
      (pss_cons (ps_if (pt_cmpR (op_eqM hr) (pe_op op_mod (pe_ix ix_seq (pv 1) pe_int (fun _ _ => rfl)) pe_int) pe_int (nomark _))
        (pss_one (ps_ret (pe_ix ix_seq (pv 2) (pe_op op_mod (pe_ix ix_seq (pv 1) pe_int (fun _ _ => rfl)) (pe_callB call_len rfl T.b_len (by decide +kernel) (pa_cons (pv 2) pa_nil))) (fun _ _ => rfl))))
        pss_nil)
      (pss_cons (ps_if (pt_cmpR (op_eqM hr) (pe_op op_mod (pe_ix ix_seq (pv 1) pe_int (fun _ _ => rfl)) pe_int) pe_int (nomark _))
        (pss_one (ps_ret (pe_callTy call_str_int rfl T.b_str (by decide +kernel) (pa_cons (pe_op op_mod (pe_ix ix_seq (pv 1) pe_int (fun _ _ => rfl)) pe_int) pa_nil))))
        pss_nil)
      (pss_one (ps_ret (pe_ix ix_seq (pv 3) (pe_op op_mod (pe_op op_fdiv (pe_ix ix_seq (pv 1) pe_int (fun _ _ => rfl)) pe_int) pe_int) (fun _ _ => rfl)))))))), run_fn0 (b := B__law_odd) (k := 2) (n := 2) rfl (fun ps r e => match ps, e with | [_, _], e => ⟨rfl, e⟩) h fun io H0 F0 hio => ?_⟩
  exact (ms_seq (ms_asg (mj_own (mo_split (mj_op aF.up r_ix (mj_var 0) (mj_op aF.up r_mod (mj_op aF.up r_ix (mj_var 1) mj_int) (mj_cb1 r_len (mj_lend 0)))) mj_str)) (mg_name 2))
      (ms_seq (ms_asg (mj_own (mo_lst (ma_cons mj_str (ma_cons mj_str (ma_cons mj_str (ma_cons mj_str (ma_cons mj_str (ma_cons mj_str (ma_cons mj_str (ma_cons mj_str (ma_cons mj_str (ma_cons mj_str (ma_cons mj_str (ma_cons mj_str (ma_cons mj_str (ma_cons mj_str ma_nil)))))))))))))))) (mg_name 3))
      (ms_seq (ms_if (mt_test (mj_op aH.up r_eq (mj_low (mj_op aF.up r_mod (mj_op aF.up r_ix (mj_var 1) mj_int) mj_int)) (mj_low mj_int)))
        (ms_ret (mj_op aF.up r_ix (mj_var 2) (mj_op aF.up r_mod (mj_op aF.up r_ix (mj_var 1) mj_int) (mj_cb1 r_len (mj_lend 2)))))
        ms_next)
      (ms_seq (ms_if (mt_test (mj_op aH.up r_eq (mj_low (mj_op aF.up r_mod (mj_op aF.up r_ix (mj_var 1) mj_int) mj_int)) (mj_low mj_int)))
        (ms_ret (mj_cb1 r_str (mj_op aF.up r_mod (mj_op aF.up r_ix (mj_var 1) mj_int) mj_int)))
        ms_next)
      (ms_ret (mj_op aF.up r_ix (mj_var 3) (mj_op aF.up r_mod (mj_op aF.up r_div (mj_op aF.up r_ix (mj_var 1) mj_int) mj_int) mj_int)))))))
theorem sc_L_changed : FnScope ["_law_rows_here", "_law_cell", "_law_some", "_law_way", "_law_at", "_law_words", "_law_place", "_law_made"] ["_law_rows_here", "_law_cell"] (defScope (top 39)) := ⟨rfl, rfl, rfl, by decide +kernel, rfl, by decide +kernel, by decide +kernel⟩
set_option maxHeartbeats 4000000 in
theorem ok_L_changed (T : Txt mg) (D : DefAt K mg "_law_changed" (top 39) ["_law_rows_here", "_law_cell"]) {d : Ads} (Z : Xt K mg d) (G__law_stream : FnAt P w K mg base "_law_stream" 1 ["_law_cell", "_law_many"] (spO K XR0 M__law_stream)) (G__law_odd : FnAt P w K mg base "_law_odd" 1 ["_law_rows_here", "_law_some"] (spM K XR0 M__law_odd)) : FnAt P w K mg base "_law_changed" 2 ["_law_rows_here", "_law_cell"] (spO K XR0 M__law_changed) := by
  refine D.ok sc_L_changed (fun vs H Q E h => len_spO h fun ps r e => match ps, e with | [_, _], _ => rfl) (fun f cdv A outer s H vs Q E hr h => ?_)
  refine ⟨_, (pss_cons (ps_set (i := 2) sc_L_changed.nd rfl (Or.inl rfl) (pe_callF G__law_stream (hr.mono (by decide)) rfl (pa_cons (pe_op op_addU (pv 1) pe_int) (pa_cons pe_int pa_nil))))
      (pss_cons (ps_set (i := 3) sc_L_changed.nd rfl (Or.inl rfl) (pe_op op_mod (pe_ix ix_seq (pv 2) pe_int (fun _ _ => rfl)) pe_int))
      (pss_cons (ps_set (i := 4) sc_L_changed.nd rfl (Or.inl rfl) (pe_op op_mod (pe_ix ix_seq (pv 2) pe_int (fun _ _ => rfl)) (pe_callB call_len rfl T.b_len (by decide +kernel) (pa_cons (pv 0) pa_nil))))
      (pss_cons (ps_set (i := 5) sc_L_changed.nd rfl (Or.inl rfl) (pe_bm PySem.F.plainAttrs_str PySem.F.slot_str_split PySem.F.type_str_split mt_split (pe_ix ix_seq (pv 0) (pv 4) (fun _ _ => rfl)) (pa_cons pe_str pa_nil)))
      (pss_cons (ps_set (i := 6) sc_L_changed.nd rfl (Or.inl rfl) (pe_op op_mod (pe_ix ix_seq (pv 2) pe_int (fun _ _ => rfl)) (pe_callB call_len rfl T.b_len (by decide +kernel) (pa_cons (pv 5) pa_nil))))
      (pss_cons (ps_if (pt_cmpR op_ltU (pv 3) pe_int (nomark _))
        (pss_one (ps_asg (pe_callF G__law_odd (hr.mono (by decide)) rfl (pa_cons (pv 0) (pa_cons (pv 2) pa_nil))) (pg_sub (pv 5) (pv 6) set_list)))
        pss_nil)
      (pss_cons (ps_if (pt_cmpR (op_eqM hr) (pv 3) pe_int (nomark _))
        (pss_one (ps_set (i := 5) sc_L_changed.nd rfl (Or.inl rfl) (pe_op op_catS (pe_slice sl_list (pv 5) po_none (po_some (pv 6))) (pe_slice sl_list (pv 5) (po_some (pe_op op_addU (pv 6) pe_int)) po_none))))
        pss_nil)
      (pss_cons (ps_if (pt_cmpR (op_eqM hr) (pv 3) pe_int (nomark _))
        (pss_one (ps_set (i := 5) sc_L_changed.nd rfl (Or.inl rfl) (pe_op op_catS (pe_op op_catS (pe_slice sl_list (pv 5) po_none (po_some (pv 6))) (pe_lst (pa_cons (pe_callF G__law_odd (hr.mono (by decide)) rfl (pa_cons (pv 0) (pa_cons (pv 2) pa_nil))) pa_nil))) (pe_slice sl_list (pv 5) (po_some (pv 6)) po_none))))
        pss_nil)
      (pss_cons (ps_set (i := 7) sc_L_changed.nd rfl (Or.inl rfl) (pe_op op_catS (pe_op op_catS (pe_slice sl_list (pv 0) po_none (po_some (pv 4))) (pe_lst (pa_cons (pe_bm PySem.F.plainAttrs_str PySem.F.slot_str_join PySem.F.type_str_join mt_join pe_str (pa_cons (pv 5) pa_nil)) pa_nil))) (pe_slice sl_list (pv 0) (po_some (pe_op op_addU (pv 4) pe_int)) po_none)))
      (pss_cons (ps_if (pt_cmpR (op_eqM hr) (pv 3) pe_int (nomark _))
        (pss_one (ps_set (i := 7) sc_L_changed.nd rfl (Or.inl rfl) (pe_op op_catS (pe_op op_catS (pe_slice sl_list (pv 7) po_none (po_some (pv 4))) (pe_lst (pa_cons pe_str pa_nil))) (pe_slice sl_list (pv 7) (po_some (pv 4)) po_none))))
        pss_nil)
      (pss_cons (ps_if (pt_cmpR (op_eqM hr) (pv 3) pe_int (nomark _))
        (pss_one (ps_expr (pe_bm PySem.F.plainAttrs_list PySem.F.slot_list_append PySem.F.type_list_append mt_append (pv 7) (pa_cons pe_str pa_nil))))
        pss_nil)
      (pss_cons (ps_if (pt_cmpR (op_eqM hr) (pv 3) pe_int (nomark _))
        (pss_one (ps_expr (pe_bm PySem.F.plainAttrs_list PySem.F.slot_list_append PySem.F.type_list_append mt_append (pv 7) (pa_cons (pe_ix ix_seq (pv 0) (pv 4) (fun _ _ => rfl)) pa_nil))))
        pss_nil)
      (pss_one (ps_ret (pv 7))))))))))))))), run_fnO (b := B__law_changed) (k := 2) (n := 6) rfl (fun ps r e => match ps, e with | [_, _], e => ⟨rfl, e⟩) h fun io H0 F0 hio => ?_⟩
  exact (ms_seq (ms_asg (mj_own (mo_call (ma_cons (mj_op aF.up r_add (mj_var 1) mj_int) (ma_cons mj_int ma_nil)))) (mg_name 2))
      (ms_seq (ms_asg (mj_op aF.up r_mod (mj_op aF.up r_ix (mj_var 2) mj_int) mj_int) (mg_name 3))
      (ms_seq (ms_asg (mj_op aF.up r_mod (mj_op aF.up r_ix (mj_var 2) mj_int) (mj_cb1 r_len (mj_lend 0))) (mg_name 4))
      (ms_seq (ms_setO (i := 5) trivial (mo_split (mj_op aF.up r_ix (mj_var 0) (mj_var 4)) mj_str))
      (ms_seq (ms_asg (mj_op aF.up r_mod (mj_op aF.up r_ix (mj_var 2) mj_int) (mj_cb1 r_len (mj_lend 5))) (mg_name 6))
      (ms_seq (ms_if (mt_test (mj_op aF.up r_lt (mj_var 3) mj_int))
        (ms_put (mj_call (ma_cons (mj_var 0) (ma_cons (mj_var 2) ma_nil))) (mj_var 6))
        ms_next)
      (ms_seq (ms_if (mt_test (mj_op aH.up r_eq (mj_lend 3) (mj_low mj_int)))
        (ms_setO (i := 5) trivial (mo_op aV.up r_cat (mj_ownV (mo_slL (mj_viewN 5) mp_none (mp_some (mj_var 6)))) (mj_ownV (mo_slL (mj_viewN 5) (mp_some (mj_op aF.up r_add (mj_var 6) mj_int)) mp_none))))
        ms_next)
      (ms_seq (ms_if (mt_test (mj_op aH.up r_eq (mj_lend 3) (mj_low mj_int)))
        (ms_setO (i := 5) trivial (mo_op aV.up r_cat (mj_ownV (mo_op aV.up r_cat (mj_ownV (mo_slL (mj_viewN 5) mp_none (mp_some (mj_var 6)))) (mj_ownV (mo_lst (ma_cons (mj_call (ma_cons (mj_var 0) (ma_cons (mj_var 2) ma_nil))) ma_nil))))) (mj_ownV (mo_slL (mj_viewN 5) (mp_some (mj_var 6)) mp_none))))
        ms_next)
      (ms_seq (ms_setO (i := 7) trivial (mo_op aV.up r_cat (mj_ownV (mo_op aV.up r_cat (mj_ownV (mo_slL (mj_viewN 0) mp_none (mp_some (mj_var 4)))) (mj_ownV (mo_lst (ma_cons (mj_join mj_str (mj_viewN 5)) ma_nil))))) (mj_ownV (mo_slL (mj_viewN 0) (mp_some (mj_op aF.up r_add (mj_var 4) mj_int)) mp_none))))
      (ms_seq (ms_if (mt_test (mj_op aH.up r_eq (mj_lend 3) (mj_low mj_int)))
        (ms_setO (i := 7) trivial (mo_op aV.up r_cat (mj_ownV (mo_op aV.up r_cat (mj_ownV (mo_slL (mj_viewN 7) mp_none (mp_some (mj_var 4)))) (mj_ownV (mo_lst (ma_cons mj_str ma_nil))))) (mj_ownV (mo_slL (mj_viewN 7) (mp_some (mj_var 4)) mp_none))))
        ms_next)
      (ms_seq (ms_if (mt_test (mj_op aH.up r_eq (mj_lend 3) (mj_low mj_int)))
        (ms_app mj_str)
        ms_next)
      (ms_seq (ms_if (mt_test (mj_op aH.up r_eq (mj_lend 3) (mj_low mj_int)))
        (ms_app (mj_op aF.up r_ix (mj_var 0) (mj_var 4)))
        ms_next)
      (ms_retOw 7 hio)))))))))))))
theorem sc_L_worth : FnScope ["_law_text", "_law_worth_here", "_law_sign", "_law_at"] ["_law_text"] (defScope (top 40)) := ⟨rfl, rfl, rfl, by decide +kernel, rfl, by decide +kernel, by decide +kernel⟩
set_option maxHeartbeats 4000000 in
theorem ok_L_worth (T : Txt mg) (D : DefAt K mg "_law_worth" (top 40) ["_law_text"]) {d : Ads} (Z : Xt K mg d) : FnAt P w K mg base "_law_worth" 1 ["_law_text"] (spM K XR0 M__law_worth) := by
  refine D.ok sc_L_worth (fun vs H Q E h => len_spM h fun ps r e => match ps, e with | [_], _ => rfl) (fun f cdv A outer s H vs Q E hr h => ?_)
  refine ⟨_, (pss_cons (ps_set (i := 1) sc_L_worth.nd rfl (Or.inl rfl) pe_int)
      (pss_cons (ps_for PassesOwn.never rfl (pi_seqU (pv 0)) (pg_name (i := 2) sc_L_worth.nd rfl (Or.inl rfl))
        (pss_cons (ps_set (i := 3) sc_L_worth.nd rfl (Or.inl rfl) (pe_bm PySem.F.plainAttrs_str PySem.F.slot_str_find PySem.F.type_str_find mt_find pe_str (pa_cons (pv 2) pa_nil)))
        (pss_cons (ps_if (pt_cmpR op_ltU (pv 3) pe_int (nomark _))
          (pss_one (ps_ret pe_non))
          pss_nil)
        (pss_one (ps_set (i := 1) sc_L_worth.nd rfl (Or.inl rfl) (pe_op op_addU (pe_op op_mulU pe_int (pv 1)) (pv 3)))))))
      (pss_cons (ps_if (PW.pt (pw_or (pt_cmpR (op_eqM hr) (pv 0) pe_str (nomark _)) (pw_or (pt_cmpR op_gt (pe_callB call_len rfl T.b_len (by decide +kernel) (pa_cons (pv 0) pa_nil)) pe_int (nomark _)) (pw_or1 (PW.pt (pw_and (pt_cmpR (op_eqM hr) (pe_ix ix_seq (pv 0) pe_int (fun _ _ => rfl)) pe_str (nomark _)) (pw_and1 (pt_cmpR (op_neM hr) (pv 0) pe_str (nomark _)))))))))
        (pss_one (ps_ret pe_non))
        pss_nil)
      (pss_one (ps_ret (pv 1)))))), run_fn0 (b := B__law_worth) (k := 1) (n := 3) rfl (fun ps r e => match ps, e with | [_], e => ⟨rfl, e⟩) h fun io H0 F0 hio => ?_⟩
  exact (ms_seq (ms_asg mj_int (mg_name 1))
      (ms_seq (ms_for (mi_seqU (mj_var 0)) (mg_name 2)
        (ms_seq (ms_asg (mj_TI mj_str (mj_var 2)) (mg_name 3))
        (ms_seq (ms_if (mt_test (mj_op aF.up r_lt (mj_var 3) mj_int))
          (ms_ret mj_non)
          ms_next)
        (ms_asg (mj_op aF.up r_add (mj_op aF.up r_mul mj_int (mj_var 1)) (mj_var 3)) (mg_name 1)))))
      (ms_seq (ms_if (mt_or (mt_test (mj_op aH.up r_eq (mj_lend 0) (mj_low mj_str))) (mt_or (mt_test (mj_op aF.up r_gt (mj_cb1 r_len (mj_lend 0)) mj_int)) (mt_and (mt_test (mj_op aH.up r_eq (mj_low (mj_op aF.up r_ix (mj_var 0) mj_int)) (mj_low mj_str))) (mt_test (mj_op aH.up r_ne (mj_lend 0) (mj_low mj_str))))))
        (ms_ret mj_non)
        ms_next)
      (ms_ret (mj_var 1)))))
theorem sc_L_read_deed : FnScope ["_law_words", "_law_numbers"] ["_law_words"] (defScope (top 41)) := ⟨rfl, rfl, rfl, by decide +kernel, rfl, by decide +kernel, by decide +kernel⟩
set_option maxHeartbeats 4000000 in
theorem ok_L_read_deed (T : Txt mg) (D : DefAt K mg "_law_read_deed" (top 41) ["_law_words"]) {d : Ads} (Z : Xt K mg d) (G__law_worth : FnAt P w K mg base "_law_worth" 1 ["_law_text"] (spM K XR0 M__law_worth)) : FnAt P w K mg base "_law_read_deed" 2 ["_law_words"] (spM K XR0 M__law_read_deed) := by
  refine D.ok sc_L_read_deed (fun vs H Q E h => len_spM h fun ps r e => match ps, e with | [_], _ => rfl) (fun f cdv A outer s H vs Q E hr h => ?_)
  refine ⟨_, (pss_cons (ps_if (PW.pt (pw_and (pt_cmpR (op_eqM hr) (pe_callB call_len rfl T.b_len (by decide +kernel) (pa_cons (pv 0) pa_nil)) pe_int (nomark _)) (pw_and1 (pt_cmpR (op_eqM hr) (pe_ix ix_seq (pv 0) pe_int (fun _ _ => rfl)) pe_str (nomark _)))))
        (pss_cons (ps_setC (i := 1) ["_law_word"] [none] rfl sc_L_read_deed.nd rfl rfl (pi_seqU (pe_slice sl_list (pv 0) (po_some pe_int) po_none)) (fun _ _ _ _ _ => (pg_nameL (i := 0) (by decide +kernel) rfl rfl)) (fun _ _ _ _ _ => pf_nil) (fun _ _ _ _ _ => (pe_callF G__law_worth (hr.mono (by decide)) (glc rfl) (pa_cons (pvl 0) pa_nil))))
        (pss_one (ps_if (pt_cmpR (op_notinU hr) pe_non (pv 1) (by with_unfolding_all rfl))
          (pss_one (ps_ret (pe_tup (pa_cons pe_str (pa_cons (pe_ix ix_seq (pv 1) pe_int (fun _ _ => rfl)) (pa_cons (pe_ix ix_seq (pv 1) pe_int (fun _ _ => rfl)) pa_nil))))))
          pss_nil)))
        pss_nil)
      (pss_cons (ps_if (PW.pt (pw_and (pt_cmpR (op_eqM hr) (pe_callB call_len rfl T.b_len (by decide +kernel) (pa_cons (pv 0) pa_nil)) pe_int (nomark _)) (pw_and (pt_cmpR (op_eqM hr) (pe_ix ix_seq (pv 0) pe_int (fun _ _ => rfl)) pe_str (nomark _)) (pw_and1 (PW.pt (pw_or (pt_cmpR (op_eqM hr) (pe_ix ix_seq (pv 0) pe_int (fun _ _ => rfl)) pe_str (nomark _)) (pw_or1 (pt_cmpR (op_eqM hr) (pe_ix ix_seq (pv 0) pe_int (fun _ _ => rfl)) pe_str (nomark _)))))))))
        (pss_cons (ps_set (i := 1) sc_L_read_deed.nd rfl (Or.inl rfl) (pe_op op_catS (pe_lst (pa_cons (pe_callF G__law_worth (hr.mono (by decide)) rfl (pa_cons (pe_ix ix_seq (pv 0) pe_int (fun _ _ => rfl)) pa_nil)) pa_nil)) (pe_comp ["_law_word"] [none] rfl (pi_seqU (pe_slice sl_list (pv 0) (po_some pe_int) po_none)) (fun _ _ _ _ _ => (pg_nameL (i := 0) (by decide +kernel) rfl rfl)) (fun _ _ _ _ _ => pf_nil) (fun _ _ _ _ _ => (pe_callF G__law_worth (hr.mono (by decide)) (glc rfl) (pa_cons (pvl 0) pa_nil))))))
        (pss_one (ps_if (PW.pt (pw_and (pt_cmpR (op_notinU hr) pe_non (pv 1) (by with_unfolding_all rfl)) (pw_and1 (pt_cmpR op_leU (pe_ix ix_seq (pv 1) pe_int (fun _ _ => rfl)) (pe_ix ix_seq (pv 1) pe_int (fun _ _ => rfl)) (nomark _)))))
          (pss_one (ps_ret (pe_tup (pa_cons pe_str (pa_cons (pe_ix ix_seq (pv 1) pe_int (fun _ _ => rfl)) (pa_cons (pe_tup (pa_cons (pe_ix ix_seq (pv 0) pe_int (fun _ _ => rfl)) (pa_cons (pe_ix ix_seq (pv 1) pe_int (fun _ _ => rfl)) (pa_cons (pe_ix ix_seq (pv 1) pe_int (fun _ _ => rfl)) (pa_cons (pe_ix ix_seq (pv 1) pe_int (fun _ _ => rfl)) pa_nil))))) pa_nil))))))
          pss_nil)))
        pss_nil)
      (pss_one (ps_ret pe_non)))), run_fn0 (b := B__law_read_deed) (k := 1) (n := 1) rfl (fun ps r e => match ps, e with | [_], e => ⟨rfl, e⟩) h fun io H0 F0 hio => ?_⟩
  exact (ms_seq (ms_if (mt_and (mt_test (mj_op aH.up r_eq (mj_low (mj_cb1 r_len (mj_lend 0))) (mj_low mj_int))) (mt_test (mj_op aH.up r_eq (mj_low (mj_op aF.up r_ix (mj_var 0) mj_int)) (mj_low mj_str))))
        (ms_seq (ms_asg (mj_own (mo_comp (mi_seqU (mj_own (mo_slL (mj_viewN 0) (mp_some mj_int) mp_none))) (mg_name 0) (wr_name 0) mt_yes (mj_call (ma_cons (mj_var 0) ma_nil)))) (mg_name 1))
        (ms_if (mt_test (mj_op aH.up r_notin (mj_low mj_non) (mj_lend 1)))
          (ms_ret (mj_tup (ma_cons mj_str (ma_cons (mj_op aF.up r_ix (mj_var 1) mj_int) (ma_cons (mj_op aF.up r_ix (mj_var 1) mj_int) ma_nil)))))
          ms_next))
        ms_next)
      (ms_seq (ms_if (mt_and (mt_test (mj_op aH.up r_eq (mj_low (mj_cb1 r_len (mj_lend 0))) (mj_low mj_int))) (mt_and (mt_test (mj_op aH.up r_eq (mj_low (mj_op aF.up r_ix (mj_var 0) mj_int)) (mj_low mj_str))) (mt_or (mt_test (mj_op aH.up r_eq (mj_low (mj_op aF.up r_ix (mj_var 0) mj_int)) (mj_low mj_str))) (mt_test (mj_op aH.up r_eq (mj_low (mj_op aF.up r_ix (mj_var 0) mj_int)) (mj_low mj_str))))))
        (ms_seq (ms_asg (mj_own (mo_op aV.up r_cat (mj_ownV (mo_lst (ma_cons (mj_call (ma_cons (mj_op aF.up r_ix (mj_var 0) mj_int) ma_nil)) ma_nil))) (mj_ownV (mo_comp (mi_seqU (mj_own (mo_slL (mj_viewN 0) (mp_some mj_int) mp_none))) (mg_name 0) (wr_name 0) mt_yes (mj_call (ma_cons (mj_var 0) ma_nil)))))) (mg_name 1))
        (ms_if (mt_and (mt_test (mj_op aH.up r_notin (mj_low mj_non) (mj_lend 1))) (mt_test (mj_op aF.up r_le (mj_op aF.up r_ix (mj_var 1) mj_int) (mj_op aF.up r_ix (mj_var 1) mj_int))))
          (ms_ret (mj_tup (ma_cons mj_str (ma_cons (mj_op aF.up r_ix (mj_var 1) mj_int) (ma_cons (mj_tup (ma_cons (mj_op aF.up r_ix (mj_var 0) mj_int) (ma_cons (mj_op aF.up r_ix (mj_var 1) mj_int) (ma_cons (mj_op aF.up r_ix (mj_var 1) mj_int) (ma_cons (mj_op aF.up r_ix (mj_var 1) mj_int) ma_nil))))) ma_nil)))))
          ms_next))
        ms_next)
      (ms_ret mj_non)))
theorem sc_L_read : FnScope ["_law_rows_here", "_law_plan_here", "_law_k", "_law_deed_here"] ["_law_rows_here"] (defScope (top 42)) := ⟨rfl, rfl, rfl, by decide +kernel, rfl, by decide +kernel, by decide +kernel⟩
set_option maxHeartbeats 4000000 in
theorem ok_L_read (T : Txt mg) (D : DefAt K mg "_law_read" (top 42) ["_law_rows_here"]) {d : Ads} (Z : Xt K mg d) (G__law_read_deed : FnAt P w K mg base "_law_read_deed" 2 ["_law_words"] (spM K XR0 M__law_read_deed)) : FnAt P w K mg base "_law_read" 3 ["_law_rows_here"] (spM K XR0 M__law_read) := by
  refine D.ok sc_L_read (fun vs H Q E h => len_spM h fun ps r e => match ps, e with | [_], _ => rfl) (fun f cdv A outer s H vs Q E hr h => ?_)
  refine ⟨_, (pss_cons (ps_if (pt_cmpR (op_eqM hr) (pv 0) (pe_lst (pa_cons pe_str pa_nil)) (nomark _))
        (pss_one (ps_ret (pe_tup (pa_cons (pe_lst pa_nil) (pa_cons pe_non pa_nil)))))
        pss_nil)
      (pss_cons (ps_set (i := 1) sc_L_read.nd rfl (Or.inl rfl) (pe_lst pa_nil))
      (pss_cons (ps_for PassesOwn.never rfl (pi_range1 rfl T.b_range (pa_cons (pe_callB call_len rfl T.b_len (by decide +kernel) (pa_cons (pv 0) pa_nil)) pa_nil)) (pg_name (i := 2) sc_L_read.nd rfl (Or.inl rfl))
        (pss_cons (ps_set (i := 3) sc_L_read.nd rfl (Or.inl rfl) (pe_callF G__law_read_deed (hr.mono (by decide)) rfl (pa_cons (pe_bm PySem.F.plainAttrs_str PySem.F.slot_str_split PySem.F.type_str_split mt_split (pe_ix ix_seq (pv 0) (pv 2) (fun _ _ => rfl)) (pa_cons pe_str pa_nil)) pa_nil)))
        (pss_cons (ps_if (pt_cmpR op_isN (pv 3) pe_non (nomark _))
          (pss_one (ps_ret (pe_tup (pa_cons pe_non (pa_cons (pv 2) pa_nil)))))
          pss_nil)
        (pss_one (ps_expr (pe_bm PySem.F.plainAttrs_list PySem.F.slot_list_append PySem.F.type_list_append mt_append (pv 1) (pa_cons (pv 3) pa_nil)))))))
      (pss_one (ps_ret (pe_tup (pa_cons (pv 1) (pa_cons pe_non pa_nil)))))))), run_fn0 (b := B__law_read) (k := 1) (n := 3) rfl (fun ps r e => match ps, e with | [_], e => ⟨rfl, e⟩) h fun io H0 F0 hio => ?_⟩
  exact (ms_seq (ms_if (mt_test (mj_op aH.up r_eq (mj_lend 0) (mj_low (mj_own (mo_lst (ma_cons mj_str ma_nil))))))
        (ms_ret (mj_tup (ma_cons (mj_own (mo_lst ma_nil)) (ma_cons mj_non ma_nil))))
        ms_next)
      (ms_seq (ms_setO (i := 1) trivial (mo_lst ma_nil))
      (ms_seq (ms_for (mi_rng1 (ma_cons (mj_cb1 r_len (mj_lend 0)) ma_nil)) (mg_name 2)
        (ms_seq (ms_asg (mj_call (ma_cons (mj_own (mo_split (mj_op aF.up r_ix (mj_var 0) (mj_var 2)) mj_str)) ma_nil)) (mg_name 3))
        (ms_seq (ms_if (mt_test (mj_op aH.up r_isN (mj_lend 3) mj_non))
          (ms_ret (mj_tup (ma_cons mj_non (ma_cons (mj_var 2) ma_nil))))
          ms_next)
        (ms_app (mj_var 3)))))
      (ms_frz 1 hio (ms_ret (mj_tup (ma_cons (mj_var 1) (ma_cons mj_non ma_nil))))))))
theorem sc_L_other : FnScope ["_law_error"] ["_law_error"] (defScope (top 43)) := ⟨rfl, rfl, rfl, by decide +kernel, rfl, by decide +kernel, by decide +kernel⟩
set_option maxHeartbeats 4000000 in
theorem ok_L_other (T : Txt mg) (D : DefAt K mg "_law_other" (top 43) ["_law_error"]) {d : Ads} (Z : Xt K mg d) : FnAt P w K mg base "_law_other" 1 ["_law_error"] (spM K XR0 M__law_other) := by
  refine D.ok sc_L_other (fun vs H Q E h => len_spM h fun ps r e => match ps, e with | [_], _ => rfl) (fun f cdv A outer s H vs Q E hr h => ?_)
  refine ⟨_, (pss_cons (ps_if (pt_val (pe_callB (call_isXT (Ts := [d.x_NoSet, d.x_NoBench, d.x_NoPicture, d.x_NoStack, d.x_Kept, d.x_NoDeed, d.x_TooMany])) rfl T.b_isinstance (by decide +kernel) (pa_cons (pv 0) (pa_cons (pe_tup (pa_cons (pe_gR rfl Z.g_NoSet) (pa_cons (pe_gR rfl Z.g_NoBench) (pa_cons (pe_gR rfl Z.g_NoPicture) (pa_cons (pe_gR rfl Z.g_NoStack) (pa_cons (pe_gR rfl Z.g_Kept) (pa_cons (pe_gR rfl Z.g_NoDeed) (pa_cons (pe_gR rfl Z.g_TooMany) pa_nil)))))))) pa_nil))))
        (pss_one (ps_ret pe_bl))
        pss_nil)
      (pss_one (ps_ret (pe_callB (call_isXT (Ts := [d.x_NoName, d.x_Twice, d.x_Order, d.x_Wrong, d.x_NoStroke, d.x_NoRow])) rfl T.b_isinstance (by decide +kernel) (pa_cons (pv 0) (pa_cons (pe_tup (pa_cons (pe_gR rfl Z.g_NoName) (pa_cons (pe_gR rfl Z.g_Twice) (pa_cons (pe_gR rfl Z.g_Order) (pa_cons (pe_gR rfl Z.g_Wrong) (pa_cons (pe_gR rfl Z.g_NoStroke) (pa_cons (pe_gR rfl Z.g_NoRow) pa_nil))))))) pa_nil)))))), run_fn0 (b := B__law_other) (k := 1) (n := 0) rfl (fun ps r e => match ps, e with | [_], e => ⟨rfl, e⟩) h fun io H0 F0 hio => ?_⟩
  exact (ms_seq (ms_if (mt_val (mj_isXT (Ts := [d.x_NoSet, d.x_NoBench, d.x_NoPicture, d.x_NoStack, d.x_Kept, d.x_NoDeed, d.x_TooMany]) (kt0_ok Z) Z.not0 (by rw [sizeLine_eq]; simp) (fun _ _ _ h => h) (mj_lend 0)))
        (ms_ret mj_bl)
        ms_next)
      (ms_ret (mj_isXT (Ts := [d.x_NoName, d.x_Twice, d.x_Order, d.x_Wrong, d.x_NoStroke, d.x_NoRow]) (kt1_ok Z) Z.not1 (by rw [sizeLine_eq]; simp) (fun _ _ _ h => h) (mj_lend 0))))
theorem sc_law : FnScope ["_law_script", "_law_rows_here", "_law_first", "_law_k", "_law_cell", "_law_due", "_law_row", "_law_error", "_law_found", "e"] ["_law_script"] (defScope (top 44)) := ⟨rfl, rfl, rfl, by decide +kernel, rfl, by decide +kernel, by decide +kernel⟩
set_option maxHeartbeats 4000000 in
theorem ok_law (T : Txt mg) {f : Addr} {fd : FuncData} (F : Fun K "law" "law" (top 44) f fd) {d : Ads} (Z : Xt K mg d) (G__law_rows : FnAt P w K mg base "_law_rows" 1 ["_law_plan_here"] (spO K XR0 M__law_rows)) (G__law_plan : FnAt P w K mg base "_law_plan" 3 ["_law_script"] (spO K XR0 M__law_plan)) (G__law_stream : FnAt P w K mg base "_law_stream" 1 ["_law_cell", "_law_many"] (spO K XR0 M__law_stream)) (G__law_cell_at : FnAt P w K mg base "_law_cell_at" 1 ["_law_script", "_law_k"] (spM K XR0 M__law_cell_at)) (G__law_window : FnAt P w K mg base "_law_window" 1 ["_law_cell", "_law_turn"] (spM K XR0 M__law_window)) (G__law_changed : FnAt P w K mg base "_law_changed" 2 ["_law_rows_here", "_law_cell"] (spO K XR0 M__law_changed)) (G__law_read : FnAt P w K mg base "_law_read" 3 ["_law_rows_here"] (spM K XR0 M__law_read)) (G_read_plan : FnAtX P w K mg base "read_plan" 5 ["text"] (spO K (XRS K) M_read_plan)) (G__law_other : FnAt P w K mg base "_law_other" 1 ["_law_error"] (spM K XR0 M__law_other)) : FnOk P w K mg base CX0 6 f fd ["_law_script"] (spM K XR0 M_law) := by
  refine F.ok sc_law (fun vs H Q E h => len_spM h fun ps r e => match ps, e with | [_], _ => rfl) (fun cdv A outer s H vs Q E hr h => ?_)
  refine ⟨_, (pss_cons (ps_set (i := 1) sc_law.nd rfl (Or.inl rfl) (pe_callF G__law_rows (hr.mono (by decide)) rfl (pa_cons (pe_callF G__law_plan (hr.mono (by decide)) rfl (pa_cons (pv 0) pa_nil)) pa_nil)))
      (pss_cons (ps_if (pt_cmpR (op_eqM hr) (pv 1) (pe_lst pa_nil) (nomark _))
        (pss_one (ps_set (i := 1) sc_law.nd rfl (Or.inl rfl) (pe_lst (pa_cons pe_str pa_nil))))
        pss_nil)
      (pss_cons (ps_set (i := 2) sc_law.nd rfl (Or.inl rfl) (pe_callF G__law_stream (hr.mono (by decide)) rfl (pa_cons (pe_callF G__law_cell_at (hr.mono (by decide)) rfl (pa_cons (pv 0) (pa_cons pe_int pa_nil))) (pa_cons pe_int pa_nil))))
      (pss_cons (ps_for PassesOwn.never rfl (pi_range1 rfl T.b_range (pa_cons (pe_op op_addU pe_int (pe_op op_mod (pe_ix ix_seq (pv 2) pe_int (fun _ _ => rfl)) pe_int)) pa_nil)) (pg_name (i := 3) sc_law.nd rfl (Or.inl rfl))
        (pss_cons (ps_set (i := 4) sc_law.nd rfl (Or.inl rfl) (pe_ix ix_seq (pv 2) (pe_op op_addU pe_int (pv 3)) (fun _ _ => rfl)))
        (pss_cons (ps_if (pt_cmpR op_ge (pe_callF G__law_cell_at (hr.mono (by decide)) rfl (pa_cons (pv 0) (pa_cons pe_int pa_nil))) (pe_op op_pow pe_int pe_int) (nomark _))
          (pss_one (ps_set (i := 4) sc_law.nd rfl (Or.inl rfl) (pe_callF G__law_window (hr.mono (by decide)) rfl (pa_cons (pe_callF G__law_cell_at (hr.mono (by decide)) rfl (pa_cons (pv 0) (pa_cons pe_int pa_nil))) (pa_cons (pe_op op_addU pe_int (pv 3)) pa_nil)))))
          pss_nil)
        (pss_one (ps_set (i := 1) sc_law.nd rfl (Or.inl rfl) (pe_callF G__law_changed (hr.mono (by decide)) rfl (pa_cons (pv 1) (pa_cons (pv 4) pa_nil))))))))
      (pss_cons (ps_asg (pe_callF G__law_read (hr.mono (by decide)) rfl (pa_cons (pv 1) pa_nil)) (pg_tup (n := 2) rfl (pgs_cons (pg_name (i := 5) sc_law.nd rfl (Or.inl rfl)) (pgs_cons (pg_name (i := 6) sc_law.nd rfl (Or.inl rfl)) pgs_nil))))
      (pss_cons (ps_set (i := 7) sc_law.nd rfl (Or.inl rfl) pe_non)
      (pss_cons (ps_set (i := 8) sc_law.nd rfl (Or.inl rfl) pe_non)
      (pss_cons (ps_try rfl rfl (psAt_set (i := 8) sc_law.nd rfl (Or.inl rfl) (peAt_call G_read_plan (hr.mono (by decide)) rfl (pa_cons (pe_bm PySem.F.plainAttrs_str PySem.F.slot_str_join PySem.F.type_str_join mt_join pe_str (pa_cons (pv 1) pa_nil)) pa_nil)))
        (ph_as rfl Z.g_BlockError Z.ca_BlockError sc_law.nd (i := 9) rfl rfl (fun _ => (pss_one (ps_set (i := 7) sc_law.nd rfl (Or.inl rfl) (pv 9)))) ph_nil))
      (pss_cons (ps_if (pt_cmpR op_notN (pv 5) pe_non (nomark _))
        (pss_one (ps_ret (pe_and (pe_cmpR op_isN (pv 7) pe_non (nomark _)) (pe_and (pe_callB call_isM rfl T.b_isinstance (by decide +kernel) (pa_cons (pv 8) (pa_cons (pe_gT rfl T.b_list (n := "list") (by decide +kernel)) pa_nil))) (pe_one (pe_cmpR (op_eqM hr) (pv 8) (pv 5) (nomark _)))))))
        pss_nil)
      (pss_cons (ps_if (PW.pt (pw_or (pt_not (pt_val (pe_callB (call_isX (T := .ref d.x_NoPlan) (Tv := .ref d.x_NoPlan) rfl (fun _ h => h)) rfl T.b_isinstance (by decide +kernel) (pa_cons (pv 7) (pa_cons (pe_gR rfl Z.g_NoPlan) pa_nil))))) (pw_or (pt_not (pt_val (pe_callB (call_isX (T := .ty "ValueError") (Tv := .type "ValueError") rfl (fun _ h => h)) rfl T.b_isinstance (by decide +kernel) (pa_cons (pv 7) (pa_cons (pe_gT rfl T.b_ValueError (n := "ValueError") (by decide +kernel)) pa_nil))))) (pw_or1 (pt_val (pe_callF G__law_other (hr.mono (by decide)) rfl (pa_cons (pv 7) pa_nil)))))))
        (pss_one (ps_ret pe_bl))
        pss_nil)
      (pss_one (ps_ret (pe_and (pe_callB call_isM rfl T.b_isinstance (by decide +kernel) (pa_cons (pe_fldXK K rfl (pv 7) rfl) (pa_cons (pe_gT rfl T.b_int (n := "int") (by decide +kernel)) pa_nil))) (pe_and (pe_not (pe_callB call_isM rfl T.b_isinstance (by decide +kernel) (pa_cons (pe_fldXK K rfl (pv 7) rfl) (pa_cons (pe_gT rfl T.b_bool (n := "bool") (by decide +kernel)) pa_nil)))) (pe_one (pe_cmpR (op_eqM hr) (pe_fldXK K rfl (pv 7) rfl) (pv 6) (nomark _))))))))))))))))), run_fn0 (b := B_law) (k := 1) (n := 9) rfl (fun ps r e => match ps, e with | [_], e => ⟨rfl, e⟩) h fun io H0 F0 hio => ?_⟩
  exact (ms_seq (ms_asg (mj_own (mo_call (ma_cons (mj_own (mo_call (ma_cons (mj_var 0) ma_nil))) ma_nil))) (mg_name 1))
      (ms_seq (ms_if (mt_test (mj_op aH.up r_eq (mj_lend 1) (mj_low (mj_own (mo_lst ma_nil)))))
        (ms_asg (mj_own (mo_lst (ma_cons mj_str ma_nil))) (mg_name 1))
        ms_next)
      (ms_seq (ms_asg (mj_own (mo_call (ma_cons (mj_call (ma_cons (mj_var 0) (ma_cons mj_int ma_nil))) (ma_cons mj_int ma_nil)))) (mg_name 2))
      (ms_seq (ms_for (mi_rng1 (ma_cons (mj_op aF.up r_add mj_int (mj_op aF.up r_mod (mj_op aF.up r_ix (mj_var 2) mj_int) mj_int)) ma_nil)) (mg_name 3)
        (ms_seq (ms_asg (mj_op aF.up r_ix (mj_var 2) (mj_op aF.up r_add mj_int (mj_var 3))) (mg_name 4))
        (ms_seq (ms_if (mt_test (mj_op aF.up r_ge (mj_call (ma_cons (mj_var 0) (ma_cons mj_int ma_nil))) (mj_op aF.up r_pow mj_int mj_int)))
          (ms_asg (mj_call (ma_cons (mj_call (ma_cons (mj_var 0) (ma_cons mj_int ma_nil))) (ma_cons (mj_op aF.up r_add mj_int (mj_var 3)) ma_nil))) (mg_name 4))
          ms_next)
        (ms_asg (mj_own (mo_call (ma_cons (mj_var 1) (ma_cons (mj_var 4) ma_nil)))) (mg_name 1)))))
      (ms_seq (ms_asg (mj_call (ma_cons (mj_var 1) ma_nil)) (mg_tup (mgs_cons (mg_name 5) (mgs_cons (mg_name 6) mgs_nil))))
      (ms_seq (ms_asg mj_non (mg_name 7))
      (ms_seq (ms_asg mj_non (mg_name 8))
      (ms_seq (ms_try (msx_set 8 (mjx_callO (ma_cons (mj_join mj_str (mj_viewN 1)) ma_nil)))
        (mh_as Z.n_BlockError (su_BlockError_ok Z) (ms_asg (mj_var 9) (mg_name 7)) mh_nil))
      (ms_seq (ms_if (mt_test (mj_op aH.up r_notN (mj_lend 5) mj_non))
        (ms_ret (mj_and (mj_op aH.up r_isN (mj_lend 7) mj_non) (mj_and (mj_cb2 aH.up r_is (mj_lend 8) mj_ty) (mj_op aH.up r_eq (mj_lend 8) (mj_lend 5)))))
        ms_next)
      (ms_seq (ms_if (mt_or (mt_not (mt_val (mj_isX (T := .ref d.x_NoPlan) (ki_NoPlan_ok Z) Z.no_NoPlan (mj_lend 7)))) (mt_or (mt_not (mt_val (mj_isX (T := .ty "ValueError") (kb_ValueError_ok Z) Z.nob_ValueError (mj_lend 7)))) (mt_val (mj_call (ma_cons (mj_var 7) ma_nil)))))
        (ms_ret mj_bl)
        ms_next)
      (ms_ret (mj_and (mj_cb2 aH.up r_is (mj_low (mj_fldX (fx_row_ok Z) (mj_var 7))) mj_ty) (mj_and (mj_not (mj_cb2 aH.up r_is (mj_low (mj_fldX (fx_row_ok Z) (mj_var 7))) mj_ty)) (mj_op aH.up r_eq (mj_low (mj_fldX (fx_row_ok Z) (mj_var 7))) (mj_lend 6)))))))))))))))
end
theorem all_mk {l : PySem.W.OpenLaw} {w : World} {K : PySem.W.Frag} {h : Heap} {mg : Str → Option Value} {fa f0 f1 f2 f3 f4 f5 f6 f7 f8 f9 f10 f11 f12 f13 f14 f15 f16 f17 f18 : Addr} (X : K.In h) (G : h.Ns mainGlobals mg) (hfa : mg "law" = some (.ref fa))
    {od0 an0 od1 an1 od2 an2 od3 an3 od4 an4 od5 an5 od6 an6 od7 an7 od8 an8 od9 an9 od10 an10 od11 an11 od12 an12 od13 an13 od14 an14 od15 an15 od16 an16 od17 an17 od18 an18 : Option Addr} {sl0 sl1 sl2 sl3 sl4 sl5 sl6 sl7 sl8 sl9 sl10 sl11 sl12 sl13 sl14 sl15 sl16 sl17 sl18 : Array (Option Value)} {oc0 kV0 dc0 pm0 cd0 ct0 oc1 kV1 dc1 pm1 cd1 ct1 oc2 kV2 dc2 pm2 cd2 ct2 oc3 kV3 dc3 pm3 cd3 ct3 oc4 kV4 dc4 pm4 cd4 ct4 oc5 kV5 dc5 pm5 cd5 ct5 oc6 kV6 dc6 pm6 cd6 ct6 oc7 kV7 dc7 pm7 cd7 ct7 oc8 kV8 dc8 pm8 cd8 ct8 oc9 kV9 dc9 pm9 cd9 ct9 oc10 kV10 dc10 pm10 cd10 ct10 oc11 kV11 dc11 pm11 cd11 ct11 oc12 kV12 dc12 pm12 cd12 ct12 oc13 kV13 dc13 pm13 cd13 ct13 oc14 kV14 dc14 pm14 cd14 ct14 oc15 kV15 dc15 pm15 cd15 ct15 oc16 kV16 dc16 pm16 cd16 ct16 oc17 kV17 dc17 pm17 cd17 ct17 oc18 kV18 dc18 pm18 cd18 ct18 : Value} {t_COLUMN t_CUT t_FIGURES t_MOST_FIGURES t_PRINT t_ROW : Tok}
    (a0 : PySem.W.nsIn K mainGlobals "is_whole" = some (some (.ref f0))) (l0 : K.lookup f0 = some ⟨oc0, od0, .func (PySem.W.fnOf "is_whole" "is_whole" (defArgs (top 17)) (defBody (top 17)) (defScope (top 17)) .none kV0 dc0 pm0 an0 cd0 ct0), sl0⟩) (c0 : PySem.W.codeIn K cd0 "is_whole" = true) (k0 : PySem.W.keepIn K (.ref f0) = true)
    (a1 : PySem.W.nsIn K mainGlobals "is_stroke" = some (some (.ref f1))) (l1 : K.lookup f1 = some ⟨oc1, od1, .func (PySem.W.fnOf "is_stroke" "is_stroke" (defArgs (top 21)) (defBody (top 21)) (defScope (top 21)) .none kV1 dc1 pm1 an1 cd1 ct1), sl1⟩) (c1 : PySem.W.codeIn K cd1 "is_stroke" = true) (k1 : PySem.W.keepIn K (.ref f1) = true)
    (a2 : PySem.W.nsIn K mainGlobals "number_of" = some (some (.ref f2))) (l2 : K.lookup f2 = some ⟨oc2, od2, .func (PySem.W.fnOf "number_of" "number_of" (defArgs (top 27)) (defBody (top 27)) (defScope (top 27)) .none kV2 dc2 pm2 an2 cd2 ct2), sl2⟩) (c2 : PySem.W.codeIn K cd2 "number_of" = true) (k2 : PySem.W.keepIn K (.ref f2) = true)
    (a3 : PySem.W.nsIn K mainGlobals "stroke_of" = some (some (.ref f3))) (l3 : K.lookup f3 = some ⟨oc3, od3, .func (PySem.W.fnOf "stroke_of" "stroke_of" (defArgs (top 28)) (defBody (top 28)) (defScope (top 28)) .none kV3 dc3 pm3 an3 cd3 ct3), sl3⟩) (c3 : PySem.W.codeIn K cd3 "stroke_of" = true) (k3 : PySem.W.keepIn K (.ref f3) = true)
    (a4 : PySem.W.nsIn K mainGlobals "deed_of" = some (some (.ref f4))) (l4 : K.lookup f4 = some ⟨oc4, od4, .func (PySem.W.fnOf "deed_of" "deed_of" (defArgs (top 29)) (defBody (top 29)) (defScope (top 29)) .none kV4 dc4 pm4 an4 cd4 ct4), sl4⟩) (c4 : PySem.W.codeIn K cd4 "deed_of" = true) (k4 : PySem.W.keepIn K (.ref f4) = true)
    (a5 : PySem.W.nsIn K mainGlobals "read_plan" = some (some (.ref f5))) (l5 : K.lookup f5 = some ⟨oc5, od5, .func (PySem.W.fnOf "read_plan" "read_plan" (defArgs (top 30)) (defBody (top 30)) (defScope (top 30)) .none kV5 dc5 pm5 an5 cd5 ct5), sl5⟩) (c5 : PySem.W.codeIn K cd5 "read_plan" = true) (k5 : PySem.W.keepIn K (.ref f5) = true)
    (a6 : PySem.W.nsIn K mainGlobals "_law_cell_at" = some (some (.ref f6))) (l6 : K.lookup f6 = some ⟨oc6, od6, .func (PySem.W.fnOf "_law_cell_at" "_law_cell_at" (defArgs (top 32)) (defBody (top 32)) (defScope (top 32)) .none kV6 dc6 pm6 an6 cd6 ct6), sl6⟩) (c6 : PySem.W.codeIn K cd6 "_law_cell_at" = true) (k6 : PySem.W.keepIn K (.ref f6) = true)
    (a7 : PySem.W.nsIn K mainGlobals "_law_window" = some (some (.ref f7))) (l7 : K.lookup f7 = some ⟨oc7, od7, .func (PySem.W.fnOf "_law_window" "_law_window" (defArgs (top 33)) (defBody (top 33)) (defScope (top 33)) .none kV7 dc7 pm7 an7 cd7 ct7), sl7⟩) (c7 : PySem.W.codeIn K cd7 "_law_window" = true) (k7 : PySem.W.keepIn K (.ref f7) = true)
    (a8 : PySem.W.nsIn K mainGlobals "_law_stream" = some (some (.ref f8))) (l8 : K.lookup f8 = some ⟨oc8, od8, .func (PySem.W.fnOf "_law_stream" "_law_stream" (defArgs (top 34)) (defBody (top 34)) (defScope (top 34)) .none kV8 dc8 pm8 an8 cd8 ct8), sl8⟩) (c8 : PySem.W.codeIn K cd8 "_law_stream" = true) (k8 : PySem.W.keepIn K (.ref f8) = true)
    (a9 : PySem.W.nsIn K mainGlobals "_law_deed" = some (some (.ref f9))) (l9 : K.lookup f9 = some ⟨oc9, od9, .func (PySem.W.fnOf "_law_deed" "_law_deed" (defArgs (top 35)) (defBody (top 35)) (defScope (top 35)) .none kV9 dc9 pm9 an9 cd9 ct9), sl9⟩) (c9 : PySem.W.codeIn K cd9 "_law_deed" = true) (k9 : PySem.W.keepIn K (.ref f9) = true)
    (a10 : PySem.W.nsIn K mainGlobals "_law_plan" = some (some (.ref f10))) (l10 : K.lookup f10 = some ⟨oc10, od10, .func (PySem.W.fnOf "_law_plan" "_law_plan" (defArgs (top 36)) (defBody (top 36)) (defScope (top 36)) .none kV10 dc10 pm10 an10 cd10 ct10), sl10⟩) (c10 : PySem.W.codeIn K cd10 "_law_plan" = true) (k10 : PySem.W.keepIn K (.ref f10) = true)
    (a11 : PySem.W.nsIn K mainGlobals "_law_rows" = some (some (.ref f11))) (l11 : K.lookup f11 = some ⟨oc11, od11, .func (PySem.W.fnOf "_law_rows" "_law_rows" (defArgs (top 37)) (defBody (top 37)) (defScope (top 37)) .none kV11 dc11 pm11 an11 cd11 ct11), sl11⟩) (c11 : PySem.W.codeIn K cd11 "_law_rows" = true) (k11 : PySem.W.keepIn K (.ref f11) = true)
    (a12 : PySem.W.nsIn K mainGlobals "_law_odd" = some (some (.ref f12))) (l12 : K.lookup f12 = some ⟨oc12, od12, .func (PySem.W.fnOf "_law_odd" "_law_odd" (defArgs (top 38)) (defBody (top 38)) (defScope (top 38)) .none kV12 dc12 pm12 an12 cd12 ct12), sl12⟩) (c12 : PySem.W.codeIn K cd12 "_law_odd" = true) (k12 : PySem.W.keepIn K (.ref f12) = true)
    (a13 : PySem.W.nsIn K mainGlobals "_law_changed" = some (some (.ref f13))) (l13 : K.lookup f13 = some ⟨oc13, od13, .func (PySem.W.fnOf "_law_changed" "_law_changed" (defArgs (top 39)) (defBody (top 39)) (defScope (top 39)) .none kV13 dc13 pm13 an13 cd13 ct13), sl13⟩) (c13 : PySem.W.codeIn K cd13 "_law_changed" = true) (k13 : PySem.W.keepIn K (.ref f13) = true)
    (a14 : PySem.W.nsIn K mainGlobals "_law_worth" = some (some (.ref f14))) (l14 : K.lookup f14 = some ⟨oc14, od14, .func (PySem.W.fnOf "_law_worth" "_law_worth" (defArgs (top 40)) (defBody (top 40)) (defScope (top 40)) .none kV14 dc14 pm14 an14 cd14 ct14), sl14⟩) (c14 : PySem.W.codeIn K cd14 "_law_worth" = true) (k14 : PySem.W.keepIn K (.ref f14) = true)
    (a15 : PySem.W.nsIn K mainGlobals "_law_read_deed" = some (some (.ref f15))) (l15 : K.lookup f15 = some ⟨oc15, od15, .func (PySem.W.fnOf "_law_read_deed" "_law_read_deed" (defArgs (top 41)) (defBody (top 41)) (defScope (top 41)) .none kV15 dc15 pm15 an15 cd15 ct15), sl15⟩) (c15 : PySem.W.codeIn K cd15 "_law_read_deed" = true) (k15 : PySem.W.keepIn K (.ref f15) = true)
    (a16 : PySem.W.nsIn K mainGlobals "_law_read" = some (some (.ref f16))) (l16 : K.lookup f16 = some ⟨oc16, od16, .func (PySem.W.fnOf "_law_read" "_law_read" (defArgs (top 42)) (defBody (top 42)) (defScope (top 42)) .none kV16 dc16 pm16 an16 cd16 ct16), sl16⟩) (c16 : PySem.W.codeIn K cd16 "_law_read" = true) (k16 : PySem.W.keepIn K (.ref f16) = true)
    (a17 : PySem.W.nsIn K mainGlobals "_law_other" = some (some (.ref f17))) (l17 : K.lookup f17 = some ⟨oc17, od17, .func (PySem.W.fnOf "_law_other" "_law_other" (defArgs (top 43)) (defBody (top 43)) (defScope (top 43)) .none kV17 dc17 pm17 an17 cd17 ct17), sl17⟩) (c17 : PySem.W.codeIn K cd17 "_law_other" = true) (k17 : PySem.W.keepIn K (.ref f17) = true)
    (a18 : PySem.W.nsIn K mainGlobals "law" = some (some (.ref f18))) (l18 : K.lookup f18 = some ⟨oc18, od18, .func (PySem.W.fnOf "law" "law" (defArgs (top 44)) (defBody (top 44)) (defScope (top 44)) .none kV18 dc18 pm18 an18 cd18 ct18), sl18⟩) (c18 : PySem.W.codeIn K cd18 "law" = true) (k18 : PySem.W.keepIn K (.ref f18) = true)
    {x_NoPlan x_NoSet x_NoBench x_NoPicture x_NoStack x_Kept x_NoDeed x_TooMany x_NoName x_Twice x_Order x_Wrong x_NoStroke x_NoRow x_BlockError y_NoPlan : Addr}
    {dd_NoPlan iod_NoPlan ian_NoPlan : Option Addr} {cd_NoPlan : ClassData} {k0_NoPlan k1_NoPlan k2_NoPlan k3_NoPlan k5_NoPlan : Option Value} {bm_NoPlan : List Value} {isl_NoPlan : Array (Option Value)} {ioc_NoPlan ikV_NoPlan idc_NoPlan ipm_NoPlan icd_NoPlan ict_NoPlan : Value}
    {qoc_Kept : Value} {qod_Kept : Option Addr} {qcd_Kept : ClassData} {qsl_Kept : Array (Option Value)}
    {qoc_NoBench : Value} {qod_NoBench : Option Addr} {qcd_NoBench : ClassData} {qsl_NoBench : Array (Option Value)}
    {qoc_NoDeed : Value} {qod_NoDeed : Option Addr} {qcd_NoDeed : ClassData} {qsl_NoDeed : Array (Option Value)}
    {qoc_NoName : Value} {qod_NoName : Option Addr} {qcd_NoName : ClassData} {qsl_NoName : Array (Option Value)}
    {qoc_NoPicture : Value} {qod_NoPicture : Option Addr} {qcd_NoPicture : ClassData} {qsl_NoPicture : Array (Option Value)}
    {qoc_NoPlan : Value} {qod_NoPlan : Option Addr} {qcd_NoPlan : ClassData} {qsl_NoPlan : Array (Option Value)}
    {qoc_NoRow : Value} {qod_NoRow : Option Addr} {qcd_NoRow : ClassData} {qsl_NoRow : Array (Option Value)}
    {qoc_NoSet : Value} {qod_NoSet : Option Addr} {qcd_NoSet : ClassData} {qsl_NoSet : Array (Option Value)}
    {qoc_NoStack : Value} {qod_NoStack : Option Addr} {qcd_NoStack : ClassData} {qsl_NoStack : Array (Option Value)}
    {qoc_NoStroke : Value} {qod_NoStroke : Option Addr} {qcd_NoStroke : ClassData} {qsl_NoStroke : Array (Option Value)}
    {qoc_Order : Value} {qod_Order : Option Addr} {qcd_Order : ClassData} {qsl_Order : Array (Option Value)}
    {qoc_TooMany : Value} {qod_TooMany : Option Addr} {qcd_TooMany : ClassData} {qsl_TooMany : Array (Option Value)}
    {qoc_Twice : Value} {qod_Twice : Option Addr} {qcd_Twice : ClassData} {qsl_Twice : Array (Option Value)}
    {qoc_Wrong : Value} {qod_Wrong : Option Addr} {qcd_Wrong : ClassData} {qsl_Wrong : Array (Option Value)}
    {toc_BlockError : Value} {tod_BlockError : Option Addr} {tcd_BlockError : ClassData} {tsl_BlockError : Array (Option Value)}
    (z_ValueError : PySem.W.nsIn K mainGlobals "ValueError" = some none) (z_all : PySem.W.nsIn K mainGlobals "all" = some none) (z_bool : PySem.W.nsIn K mainGlobals "bool" = some none) (z_enumerate : PySem.W.nsIn K mainGlobals "enumerate" = some none) (z_int : PySem.W.nsIn K mainGlobals "int" = some none) (z_isinstance : PySem.W.nsIn K mainGlobals "isinstance" = some none) (z_len : PySem.W.nsIn K mainGlobals "len" = some none) (z_list : PySem.W.nsIn K mainGlobals "list" = some none) (z_max : PySem.W.nsIn K mainGlobals "max" = some none) (z_min : PySem.W.nsIn K mainGlobals "min" = some none) (z_range : PySem.W.nsIn K mainGlobals "range" = some none) (z_str : PySem.W.nsIn K mainGlobals "str" = some none) (z_tuple : PySem.W.nsIn K mainGlobals "tuple" = some none) (y_COLUMN : PySem.W.nsIn K mainGlobals "COLUMN" = some (some (.str "column" t_COLUMN))) (y_CUT : PySem.W.nsIn K mainGlobals "CUT" = some (some (.str "cut" t_CUT))) (y_FIGURES : PySem.W.nsIn K mainGlobals "FIGURES" = some (some (.str "0123456789" t_FIGURES))) (y_MOST_FIGURES : PySem.W.nsIn K mainGlobals "MOST_FIGURES" = some (some (.int 3 t_MOST_FIGURES))) (y_PRINT : PySem.W.nsIn K mainGlobals "PRINT" = some (some (.str "print" t_PRINT))) (y_ROW : PySem.W.nsIn K mainGlobals "ROW" = some (some (.str "row" t_ROW))) (nx_NoPlan : PySem.W.nsIn K mainGlobals "NoPlan" = some (some (.ref x_NoPlan))) (nx_NoSet : PySem.W.nsIn K mainGlobals "NoSet" = some (some (.ref x_NoSet))) (nx_NoBench : PySem.W.nsIn K mainGlobals "NoBench" = some (some (.ref x_NoBench))) (nx_NoPicture : PySem.W.nsIn K mainGlobals "NoPicture" = some (some (.ref x_NoPicture))) (nx_NoStack : PySem.W.nsIn K mainGlobals "NoStack" = some (some (.ref x_NoStack))) (nx_Kept : PySem.W.nsIn K mainGlobals "Kept" = some (some (.ref x_Kept))) (nx_NoDeed : PySem.W.nsIn K mainGlobals "NoDeed" = some (some (.ref x_NoDeed))) (nx_TooMany : PySem.W.nsIn K mainGlobals "TooMany" = some (some (.ref x_TooMany))) (nx_NoName : PySem.W.nsIn K mainGlobals "NoName" = some (some (.ref x_NoName))) (nx_Twice : PySem.W.nsIn K mainGlobals "Twice" = some (some (.ref x_Twice))) (nx_Order : PySem.W.nsIn K mainGlobals "Order" = some (some (.ref x_Order))) (nx_Wrong : PySem.W.nsIn K mainGlobals "Wrong" = some (some (.ref x_Wrong))) (nx_NoStroke : PySem.W.nsIn K mainGlobals "NoStroke" = some (some (.ref x_NoStroke))) (nx_NoRow : PySem.W.nsIn K mainGlobals "NoRow" = some (some (.ref x_NoRow))) (nx_BlockError : PySem.W.nsIn K mainGlobals "BlockError" = some (some (.ref x_BlockError))) (lx_NoPlan : K.lookup x_NoPlan = some ⟨.type "type", dd_NoPlan, .cls cd_NoPlan, #[k0_NoPlan, k1_NoPlan, k2_NoPlan, k3_NoPlan, some (.builtin "ValueError.__new__"), k5_NoPlan]⟩) (h1_NoPlan : cd_NoPlan.hasDel = false) (h2_NoPlan : cd_NoPlan.hasDict = true) (h3_NoPlan : cd_NoPlan.mro = .ref x_NoPlan :: bm_NoPlan) (h4_NoPlan : onlyVE bm_NoPlan = true) (h5_NoPlan : cd_NoPlan.name = "NoPlan") (sa_NoPlan : PySem.W.findIn K (.ref x_NoPlan) "__setattr__" = some (some (.builtin "object.__setattr__"))) (in_NoPlan : PySem.W.findIn K (.ref x_NoPlan) "__init__" = some (some (.ref y_NoPlan))) (fn_NoPlan : PySem.W.typeIn K (.ref y_NoPlan) = some (.type "function")) (kp_NoPlan : PySem.W.keepIn K (.ref x_NoPlan) = true) (li_NoPlan : K.lookup y_NoPlan = some ⟨ioc_NoPlan, iod_NoPlan, .func (PySem.W.fnOf "__init__" "NoPlan.__init__" (defArgs (inClass (top 8) 0)) (defBody (inClass (top 8) 0)) (defScope (inClass (top 8) 0)) .none ikV_NoPlan idc_NoPlan ipm_NoPlan ian_NoPlan icd_NoPlan ict_NoPlan), isl_NoPlan⟩) (ci_NoPlan : PySem.W.codeIn K icd_NoPlan "NoPlan.__init__" = true) (kj_NoPlan : PySem.W.keepIn K (.ref y_NoPlan) = true) (xa_NoPlan : PySem.W.findIn K (.ref x_NoPlan) "__getattribute__" = some (some (.builtin "BaseException.__getattribute__"))) (xg_NoPlan : PySem.W.findIn K (.ref x_NoPlan) "__getattr__" = some none) (xh_NoPlan : PySem.W.subIn K (.ref x_NoPlan) (.type "BaseException") = some true) (sf_NoPlan : PySem.W.subIn K (.ref x_NoPlan) (.ref x_NoPlan) = some true) (xb_NoPlan : PySem.W.hasDictIn K x_NoPlan = true) (xc_NoPlan : PySem.W.findIn K (.ref x_NoPlan) "__class__" = some (some (.builtin "object.__class__"))) (xd_NoPlan : PySem.W.specialIn K (.builtin "object.__class__") "__get__" = some (some (.builtin "getset_descriptor.__get__"))) (xe_NoPlan : PySem.W.takesIn K (.builtin "object.__class__") = some true) (xf_NoPlan : PySem.W.mroIn K x_NoPlan (.type "object") = some true) (fl_NoPlan_row : PySem.W.findIn K (.ref x_NoPlan) "row" = some none) (tl_BlockError : K.lookup x_BlockError = some ⟨toc_BlockError, tod_BlockError, .cls tcd_BlockError, tsl_BlockError⟩) (tn_BlockError : PySem.W.instIn K (.ref x_BlockError) (.type "tuple") = some false) (tb_BlockError : PySem.W.subIn K (.ref x_BlockError) (.type "BaseException") = some true) (s_NoPlan_BlockError : PySem.W.subIn K (.ref x_NoPlan) (.ref x_BlockError) = some true) (ql_Kept : K.lookup x_Kept = some ⟨qoc_Kept, qod_Kept, .cls qcd_Kept, qsl_Kept⟩) (qt_Kept : PySem.W.typeIn K (.ref x_Kept) = some (.type "type")) (qn_Kept : PySem.W.subIn K (.type "NoneType") (.ref x_Kept) = some false) (qs_NoPlan_Kept : PySem.W.subIn K (.ref x_NoPlan) (.ref x_Kept) = some false) (ql_NoBench : K.lookup x_NoBench = some ⟨qoc_NoBench, qod_NoBench, .cls qcd_NoBench, qsl_NoBench⟩) (qt_NoBench : PySem.W.typeIn K (.ref x_NoBench) = some (.type "type")) (qn_NoBench : PySem.W.subIn K (.type "NoneType") (.ref x_NoBench) = some false) (qs_NoPlan_NoBench : PySem.W.subIn K (.ref x_NoPlan) (.ref x_NoBench) = some false) (ql_NoDeed : K.lookup x_NoDeed = some ⟨qoc_NoDeed, qod_NoDeed, .cls qcd_NoDeed, qsl_NoDeed⟩) (qt_NoDeed : PySem.W.typeIn K (.ref x_NoDeed) = some (.type "type")) (qn_NoDeed : PySem.W.subIn K (.type "NoneType") (.ref x_NoDeed) = some false) (qs_NoPlan_NoDeed : PySem.W.subIn K (.ref x_NoPlan) (.ref x_NoDeed) = some false) (ql_NoName : K.lookup x_NoName = some ⟨qoc_NoName, qod_NoName, .cls qcd_NoName, qsl_NoName⟩) (qt_NoName : PySem.W.typeIn K (.ref x_NoName) = some (.type "type")) (qn_NoName : PySem.W.subIn K (.type "NoneType") (.ref x_NoName) = some false) (qs_NoPlan_NoName : PySem.W.subIn K (.ref x_NoPlan) (.ref x_NoName) = some false) (ql_NoPicture : K.lookup x_NoPicture = some ⟨qoc_NoPicture, qod_NoPicture, .cls qcd_NoPicture, qsl_NoPicture⟩) (qt_NoPicture : PySem.W.typeIn K (.ref x_NoPicture) = some (.type "type")) (qn_NoPicture : PySem.W.subIn K (.type "NoneType") (.ref x_NoPicture) = some false) (qs_NoPlan_NoPicture : PySem.W.subIn K (.ref x_NoPlan) (.ref x_NoPicture) = some false) (ql_NoPlan : K.lookup x_NoPlan = some ⟨qoc_NoPlan, qod_NoPlan, .cls qcd_NoPlan, qsl_NoPlan⟩) (qt_NoPlan : PySem.W.typeIn K (.ref x_NoPlan) = some (.type "type")) (qn_NoPlan : PySem.W.subIn K (.type "NoneType") (.ref x_NoPlan) = some false) (qs_NoPlan_NoPlan : PySem.W.subIn K (.ref x_NoPlan) (.ref x_NoPlan) = some true) (ql_NoRow : K.lookup x_NoRow = some ⟨qoc_NoRow, qod_NoRow, .cls qcd_NoRow, qsl_NoRow⟩) (qt_NoRow : PySem.W.typeIn K (.ref x_NoRow) = some (.type "type")) (qn_NoRow : PySem.W.subIn K (.type "NoneType") (.ref x_NoRow) = some false) (qs_NoPlan_NoRow : PySem.W.subIn K (.ref x_NoPlan) (.ref x_NoRow) = some false) (ql_NoSet : K.lookup x_NoSet = some ⟨qoc_NoSet, qod_NoSet, .cls qcd_NoSet, qsl_NoSet⟩) (qt_NoSet : PySem.W.typeIn K (.ref x_NoSet) = some (.type "type")) (qn_NoSet : PySem.W.subIn K (.type "NoneType") (.ref x_NoSet) = some false) (qs_NoPlan_NoSet : PySem.W.subIn K (.ref x_NoPlan) (.ref x_NoSet) = some false) (ql_NoStack : K.lookup x_NoStack = some ⟨qoc_NoStack, qod_NoStack, .cls qcd_NoStack, qsl_NoStack⟩) (qt_NoStack : PySem.W.typeIn K (.ref x_NoStack) = some (.type "type")) (qn_NoStack : PySem.W.subIn K (.type "NoneType") (.ref x_NoStack) = some false) (qs_NoPlan_NoStack : PySem.W.subIn K (.ref x_NoPlan) (.ref x_NoStack) = some false) (ql_NoStroke : K.lookup x_NoStroke = some ⟨qoc_NoStroke, qod_NoStroke, .cls qcd_NoStroke, qsl_NoStroke⟩) (qt_NoStroke : PySem.W.typeIn K (.ref x_NoStroke) = some (.type "type")) (qn_NoStroke : PySem.W.subIn K (.type "NoneType") (.ref x_NoStroke) = some false) (qs_NoPlan_NoStroke : PySem.W.subIn K (.ref x_NoPlan) (.ref x_NoStroke) = some false) (ql_Order : K.lookup x_Order = some ⟨qoc_Order, qod_Order, .cls qcd_Order, qsl_Order⟩) (qt_Order : PySem.W.typeIn K (.ref x_Order) = some (.type "type")) (qn_Order : PySem.W.subIn K (.type "NoneType") (.ref x_Order) = some false) (qs_NoPlan_Order : PySem.W.subIn K (.ref x_NoPlan) (.ref x_Order) = some false) (ql_TooMany : K.lookup x_TooMany = some ⟨qoc_TooMany, qod_TooMany, .cls qcd_TooMany, qsl_TooMany⟩) (qt_TooMany : PySem.W.typeIn K (.ref x_TooMany) = some (.type "type")) (qn_TooMany : PySem.W.subIn K (.type "NoneType") (.ref x_TooMany) = some false) (qs_NoPlan_TooMany : PySem.W.subIn K (.ref x_NoPlan) (.ref x_TooMany) = some false) (ql_Twice : K.lookup x_Twice = some ⟨qoc_Twice, qod_Twice, .cls qcd_Twice, qsl_Twice⟩) (qt_Twice : PySem.W.typeIn K (.ref x_Twice) = some (.type "type")) (qn_Twice : PySem.W.subIn K (.type "NoneType") (.ref x_Twice) = some false) (qs_NoPlan_Twice : PySem.W.subIn K (.ref x_NoPlan) (.ref x_Twice) = some false) (ql_Wrong : K.lookup x_Wrong = some ⟨qoc_Wrong, qod_Wrong, .cls qcd_Wrong, qsl_Wrong⟩) (qt_Wrong : PySem.W.typeIn K (.ref x_Wrong) = some (.type "type")) (qn_Wrong : PySem.W.subIn K (.type "NoneType") (.ref x_Wrong) = some false) (qs_NoPlan_Wrong : PySem.W.subIn K (.ref x_NoPlan) (.ref x_Wrong) = some false) (qb_NoPlan_ValueError : PySem.W.subIn K (.ref x_NoPlan) (.type "ValueError") = some true) :
    ∃ fd : FuncData, (∀ (s : Shared) (v : Value), BindsTo s fd ⟨[v], []⟩ [("_law_script", v)]) ∧ ∀ base : Heap, K.In base → base.Ns mainGlobals mg → FnOk l.prog w K mg base CX0 6 fa fd ["_law_script"] (spM K XR0 M_law) := by
  have e := hfa.symm.trans (PySem.W.mg_of X G a18)
  cases e
  have T : Txt mg := ⟨trivial, PySem.W.mg_none_of X G z_ValueError, PySem.W.mg_none_of X G z_all, PySem.W.mg_none_of X G z_bool, PySem.W.mg_none_of X G z_enumerate, PySem.W.mg_none_of X G z_int, PySem.W.mg_none_of X G z_isinstance, PySem.W.mg_none_of X G z_len, PySem.W.mg_none_of X G z_list, PySem.W.mg_none_of X G z_max, PySem.W.mg_none_of X G z_min, PySem.W.mg_none_of X G z_range, PySem.W.mg_none_of X G z_str, PySem.W.mg_none_of X G z_tuple, ⟨_, PySem.W.mg_of X G y_COLUMN⟩, ⟨_, PySem.W.mg_of X G y_CUT⟩, ⟨_, PySem.W.mg_of X G y_FIGURES⟩, ⟨_, PySem.W.mg_of X G y_MOST_FIGURES⟩, ⟨_, PySem.W.mg_of X G y_PRINT⟩, ⟨_, PySem.W.mg_of X G y_ROW⟩⟩
  have FX_NoPlan := fun_mk (st := inClass (top 8) 0) li_NoPlan ci_NoPlan kj_NoPlan
  have Y_NoPlan := xmk_of lx_NoPlan h1_NoPlan h2_NoPlan h3_NoPlan h4_NoPlan sa_NoPlan in_NoPlan fn_NoPlan kp_NoPlan
  have U_NoPlan : XUse K mg "NoPlan" ["row"] x_NoPlan := ⟨⟨_, _, _, ["self", "row"], Y_NoPlan, FX_NoPlan.binds (ps := ["self", "row"]) fun _ _ _ _ _ _ us hl => by obtain ⟨_, _, rfl⟩ := len2 hl; rfl, fun P w base => init_NoPlan FX_NoPlan Y_NoPlan.toXCls fl_NoPlan_row⟩, xnm_of nx_NoPlan lx_NoPlan h5_NoPlan, ⟨xa_NoPlan, xg_NoPlan, xh_NoPlan, xb_NoPlan, xc_NoPlan, xd_NoPlan, xe_NoPlan, xf_NoPlan⟩, PySem.W.mg_of X G nx_NoPlan, fun f hf => by
    simp only [List.mem_cons, List.mem_nil_iff, or_false] at hf
    rcases hf with rfl
    · exact fl_NoPlan_row⟩
  have QN_Kept : PySem.W.kitOne K (.type "NoneType") (.ref x_Kept) = some false := kitOne_ref ⟨⟨_, _, _, _, ql_Kept⟩, qt_Kept⟩ qn_Kept (fun h => by cases h)
  have QS_NoPlan_Kept : PySem.W.kitOne K (.ref x_NoPlan) (.ref x_Kept) = some false := kitOne_ref ⟨⟨_, _, _, _, ql_Kept⟩, qt_Kept⟩ qs_NoPlan_Kept (fun h => by rw [← Value.ref.inj h, sf_NoPlan] at qs_NoPlan_Kept; cases qs_NoPlan_Kept)
  have QN_NoBench : PySem.W.kitOne K (.type "NoneType") (.ref x_NoBench) = some false := kitOne_ref ⟨⟨_, _, _, _, ql_NoBench⟩, qt_NoBench⟩ qn_NoBench (fun h => by cases h)
  have QS_NoPlan_NoBench : PySem.W.kitOne K (.ref x_NoPlan) (.ref x_NoBench) = some false := kitOne_ref ⟨⟨_, _, _, _, ql_NoBench⟩, qt_NoBench⟩ qs_NoPlan_NoBench (fun h => by rw [← Value.ref.inj h, sf_NoPlan] at qs_NoPlan_NoBench; cases qs_NoPlan_NoBench)
  have QN_NoDeed : PySem.W.kitOne K (.type "NoneType") (.ref x_NoDeed) = some false := kitOne_ref ⟨⟨_, _, _, _, ql_NoDeed⟩, qt_NoDeed⟩ qn_NoDeed (fun h => by cases h)
  have QS_NoPlan_NoDeed : PySem.W.kitOne K (.ref x_NoPlan) (.ref x_NoDeed) = some false := kitOne_ref ⟨⟨_, _, _, _, ql_NoDeed⟩, qt_NoDeed⟩ qs_NoPlan_NoDeed (fun h => by rw [← Value.ref.inj h, sf_NoPlan] at qs_NoPlan_NoDeed; cases qs_NoPlan_NoDeed)
  have QN_NoName : PySem.W.kitOne K (.type "NoneType") (.ref x_NoName) = some false := kitOne_ref ⟨⟨_, _, _, _, ql_NoName⟩, qt_NoName⟩ qn_NoName (fun h => by cases h)
  have QS_NoPlan_NoName : PySem.W.kitOne K (.ref x_NoPlan) (.ref x_NoName) = some false := kitOne_ref ⟨⟨_, _, _, _, ql_NoName⟩, qt_NoName⟩ qs_NoPlan_NoName (fun h => by rw [← Value.ref.inj h, sf_NoPlan] at qs_NoPlan_NoName; cases qs_NoPlan_NoName)
  have QN_NoPicture : PySem.W.kitOne K (.type "NoneType") (.ref x_NoPicture) = some false := kitOne_ref ⟨⟨_, _, _, _, ql_NoPicture⟩, qt_NoPicture⟩ qn_NoPicture (fun h => by cases h)
  have QS_NoPlan_NoPicture : PySem.W.kitOne K (.ref x_NoPlan) (.ref x_NoPicture) = some false := kitOne_ref ⟨⟨_, _, _, _, ql_NoPicture⟩, qt_NoPicture⟩ qs_NoPlan_NoPicture (fun h => by rw [← Value.ref.inj h, sf_NoPlan] at qs_NoPlan_NoPicture; cases qs_NoPlan_NoPicture)
  have QN_NoPlan : PySem.W.kitOne K (.type "NoneType") (.ref x_NoPlan) = some false := kitOne_ref ⟨⟨_, _, _, _, ql_NoPlan⟩, qt_NoPlan⟩ qn_NoPlan (fun h => by cases h)
  have QS_NoPlan_NoPlan : PySem.W.kitOne K (.ref x_NoPlan) (.ref x_NoPlan) = some true := kitOne_ref ⟨⟨_, _, _, _, ql_NoPlan⟩, qt_NoPlan⟩ qs_NoPlan_NoPlan (fun _ => rfl)
  have QN_NoRow : PySem.W.kitOne K (.type "NoneType") (.ref x_NoRow) = some false := kitOne_ref ⟨⟨_, _, _, _, ql_NoRow⟩, qt_NoRow⟩ qn_NoRow (fun h => by cases h)
  have QS_NoPlan_NoRow : PySem.W.kitOne K (.ref x_NoPlan) (.ref x_NoRow) = some false := kitOne_ref ⟨⟨_, _, _, _, ql_NoRow⟩, qt_NoRow⟩ qs_NoPlan_NoRow (fun h => by rw [← Value.ref.inj h, sf_NoPlan] at qs_NoPlan_NoRow; cases qs_NoPlan_NoRow)
  have QN_NoSet : PySem.W.kitOne K (.type "NoneType") (.ref x_NoSet) = some false := kitOne_ref ⟨⟨_, _, _, _, ql_NoSet⟩, qt_NoSet⟩ qn_NoSet (fun h => by cases h)
  have QS_NoPlan_NoSet : PySem.W.kitOne K (.ref x_NoPlan) (.ref x_NoSet) = some false := kitOne_ref ⟨⟨_, _, _, _, ql_NoSet⟩, qt_NoSet⟩ qs_NoPlan_NoSet (fun h => by rw [← Value.ref.inj h, sf_NoPlan] at qs_NoPlan_NoSet; cases qs_NoPlan_NoSet)
  have QN_NoStack : PySem.W.kitOne K (.type "NoneType") (.ref x_NoStack) = some false := kitOne_ref ⟨⟨_, _, _, _, ql_NoStack⟩, qt_NoStack⟩ qn_NoStack (fun h => by cases h)
  have QS_NoPlan_NoStack : PySem.W.kitOne K (.ref x_NoPlan) (.ref x_NoStack) = some false := kitOne_ref ⟨⟨_, _, _, _, ql_NoStack⟩, qt_NoStack⟩ qs_NoPlan_NoStack (fun h => by rw [← Value.ref.inj h, sf_NoPlan] at qs_NoPlan_NoStack; cases qs_NoPlan_NoStack)
  have QN_NoStroke : PySem.W.kitOne K (.type "NoneType") (.ref x_NoStroke) = some false := kitOne_ref ⟨⟨_, _, _, _, ql_NoStroke⟩, qt_NoStroke⟩ qn_NoStroke (fun h => by cases h)
  have QS_NoPlan_NoStroke : PySem.W.kitOne K (.ref x_NoPlan) (.ref x_NoStroke) = some false := kitOne_ref ⟨⟨_, _, _, _, ql_NoStroke⟩, qt_NoStroke⟩ qs_NoPlan_NoStroke (fun h => by rw [← Value.ref.inj h, sf_NoPlan] at qs_NoPlan_NoStroke; cases qs_NoPlan_NoStroke)
  have QN_Order : PySem.W.kitOne K (.type "NoneType") (.ref x_Order) = some false := kitOne_ref ⟨⟨_, _, _, _, ql_Order⟩, qt_Order⟩ qn_Order (fun h => by cases h)
  have QS_NoPlan_Order : PySem.W.kitOne K (.ref x_NoPlan) (.ref x_Order) = some false := kitOne_ref ⟨⟨_, _, _, _, ql_Order⟩, qt_Order⟩ qs_NoPlan_Order (fun h => by rw [← Value.ref.inj h, sf_NoPlan] at qs_NoPlan_Order; cases qs_NoPlan_Order)
  have QN_TooMany : PySem.W.kitOne K (.type "NoneType") (.ref x_TooMany) = some false := kitOne_ref ⟨⟨_, _, _, _, ql_TooMany⟩, qt_TooMany⟩ qn_TooMany (fun h => by cases h)
  have QS_NoPlan_TooMany : PySem.W.kitOne K (.ref x_NoPlan) (.ref x_TooMany) = some false := kitOne_ref ⟨⟨_, _, _, _, ql_TooMany⟩, qt_TooMany⟩ qs_NoPlan_TooMany (fun h => by rw [← Value.ref.inj h, sf_NoPlan] at qs_NoPlan_TooMany; cases qs_NoPlan_TooMany)
  have QN_Twice : PySem.W.kitOne K (.type "NoneType") (.ref x_Twice) = some false := kitOne_ref ⟨⟨_, _, _, _, ql_Twice⟩, qt_Twice⟩ qn_Twice (fun h => by cases h)
  have QS_NoPlan_Twice : PySem.W.kitOne K (.ref x_NoPlan) (.ref x_Twice) = some false := kitOne_ref ⟨⟨_, _, _, _, ql_Twice⟩, qt_Twice⟩ qs_NoPlan_Twice (fun h => by rw [← Value.ref.inj h, sf_NoPlan] at qs_NoPlan_Twice; cases qs_NoPlan_Twice)
  have QN_Wrong : PySem.W.kitOne K (.type "NoneType") (.ref x_Wrong) = some false := kitOne_ref ⟨⟨_, _, _, _, ql_Wrong⟩, qt_Wrong⟩ qn_Wrong (fun h => by cases h)
  have QS_NoPlan_Wrong : PySem.W.kitOne K (.ref x_NoPlan) (.ref x_Wrong) = some false := kitOne_ref ⟨⟨_, _, _, _, ql_Wrong⟩, qt_Wrong⟩ qs_NoPlan_Wrong (fun h => by rw [← Value.ref.inj h, sf_NoPlan] at qs_NoPlan_Wrong; cases qs_NoPlan_Wrong)
  have Z : Xt K mg ⟨x_NoPlan, x_NoSet, x_NoBench, x_NoPicture, x_NoStack, x_Kept, x_NoDeed, x_TooMany, x_NoName, x_Twice, x_Order, x_Wrong, x_NoStroke, x_NoRow, x_BlockError⟩ := ⟨U_NoPlan, nx_NoPlan, PySem.W.mg_of X G nx_NoPlan, nx_NoSet, PySem.W.mg_of X G nx_NoSet, nx_NoBench, PySem.W.mg_of X G nx_NoBench, nx_NoPicture, PySem.W.mg_of X G nx_NoPicture, nx_NoStack, PySem.W.mg_of X G nx_NoStack, nx_Kept, PySem.W.mg_of X G nx_Kept, nx_NoDeed, PySem.W.mg_of X G nx_NoDeed, nx_TooMany, PySem.W.mg_of X G nx_TooMany, nx_NoName, PySem.W.mg_of X G nx_NoName, nx_Twice, PySem.W.mg_of X G nx_Twice, nx_Order, PySem.W.mg_of X G nx_Order, nx_Wrong, PySem.W.mg_of X G nx_Wrong, nx_NoStroke, PySem.W.mg_of X G nx_NoStroke, nx_NoRow, PySem.W.mg_of X G nx_NoRow, nx_BlockError, PySem.W.mg_of X G nx_BlockError, ⟨⟨_, _, _, _, tl_BlockError⟩, tn_BlockError, tb_BlockError⟩, s_NoPlan_BlockError, QN_NoPlan, QS_NoPlan_NoPlan, (by kernel_rfl), (kitOne_ty (by kernel_rfl) qb_NoPlan_ValueError), (kitAny_no QN_NoSet (kitAny_no QN_NoBench (kitAny_no QN_NoPicture (kitAny_no QN_NoStack (kitAny_no QN_Kept (kitAny_no QN_NoDeed (kitAny_no QN_TooMany kitAny_nil))))))), (kitAny_no QS_NoPlan_NoSet (kitAny_no QS_NoPlan_NoBench (kitAny_no QS_NoPlan_NoPicture (kitAny_no QS_NoPlan_NoStack (kitAny_no QS_NoPlan_Kept (kitAny_no QS_NoPlan_NoDeed (kitAny_no QS_NoPlan_TooMany kitAny_nil))))))), (kitAny_no QN_NoName (kitAny_no QN_Twice (kitAny_no QN_Order (kitAny_no QN_Wrong (kitAny_no QN_NoStroke (kitAny_no QN_NoRow kitAny_nil)))))), (kitAny_no QS_NoPlan_NoName (kitAny_no QS_NoPlan_Twice (kitAny_no QS_NoPlan_Order (kitAny_no QS_NoPlan_Wrong (kitAny_no QS_NoPlan_NoStroke (kitAny_no QS_NoPlan_NoRow kitAny_nil))))))⟩
  have F0 := fun_mk (st := top 17) l0 c0 k0
  have D0 : DefAt K mg "is_whole" (top 17) ["thing"] := ⟨⟨_, _, PySem.W.mg_of X G a0, F0, F0.binds fun _ _ _ _ _ _ us hl => by obtain ⟨_, rfl⟩ := len1 hl; rfl⟩⟩
  have F1 := fun_mk (st := top 21) l1 c1 k1
  have D1 : DefAt K mg "is_stroke" (top 21) ["thing"] := ⟨⟨_, _, PySem.W.mg_of X G a1, F1, F1.binds fun _ _ _ _ _ _ us hl => by obtain ⟨_, rfl⟩ := len1 hl; rfl⟩⟩
  have F2 := fun_mk (st := top 27) l2 c2 k2
  have D2 : DefAt K mg "number_of" (top 27) ["text"] := ⟨⟨_, _, PySem.W.mg_of X G a2, F2, F2.binds fun _ _ _ _ _ _ us hl => by obtain ⟨_, rfl⟩ := len1 hl; rfl⟩⟩
  have F3 := fun_mk (st := top 28) l3 c3 k3
  have D3 : DefAt K mg "stroke_of" (top 28) ["words"] := ⟨⟨_, _, PySem.W.mg_of X G a3, F3, F3.binds fun _ _ _ _ _ _ us hl => by obtain ⟨_, rfl⟩ := len1 hl; rfl⟩⟩
  have F4 := fun_mk (st := top 29) l4 c4 k4
  have D4 : DefAt K mg "deed_of" (top 29) ["row"] := ⟨⟨_, _, PySem.W.mg_of X G a4, F4, F4.binds fun _ _ _ _ _ _ us hl => by obtain ⟨_, rfl⟩ := len1 hl; rfl⟩⟩
  have F5 := fun_mk (st := top 30) l5 c5 k5
  have D5 : DefAt K mg "read_plan" (top 30) ["text"] := ⟨⟨_, _, PySem.W.mg_of X G a5, F5, F5.binds fun _ _ _ _ _ _ us hl => by obtain ⟨_, rfl⟩ := len1 hl; rfl⟩⟩
  have F6 := fun_mk (st := top 32) l6 c6 k6
  have D6 : DefAt K mg "_law_cell_at" (top 32) ["_law_script", "_law_k"] := ⟨⟨_, _, PySem.W.mg_of X G a6, F6, F6.binds fun _ _ _ _ _ _ us hl => by obtain ⟨_, _, rfl⟩ := len2 hl; rfl⟩⟩
  have F7 := fun_mk (st := top 33) l7 c7 k7
  have D7 : DefAt K mg "_law_window" (top 33) ["_law_cell", "_law_turn"] := ⟨⟨_, _, PySem.W.mg_of X G a7, F7, F7.binds fun _ _ _ _ _ _ us hl => by obtain ⟨_, _, rfl⟩ := len2 hl; rfl⟩⟩
  have F8 := fun_mk (st := top 34) l8 c8 k8
  have D8 : DefAt K mg "_law_stream" (top 34) ["_law_cell", "_law_many"] := ⟨⟨_, _, PySem.W.mg_of X G a8, F8, F8.binds fun _ _ _ _ _ _ us hl => by obtain ⟨_, _, rfl⟩ := len2 hl; rfl⟩⟩
  have F9 := fun_mk (st := top 35) l9 c9 k9
  have D9 : DefAt K mg "_law_deed" (top 35) ["_law_cell", "_law_k"] := ⟨⟨_, _, PySem.W.mg_of X G a9, F9, F9.binds fun _ _ _ _ _ _ us hl => by obtain ⟨_, _, rfl⟩ := len2 hl; rfl⟩⟩
  have F10 := fun_mk (st := top 36) l10 c10 k10
  have D10 : DefAt K mg "_law_plan" (top 36) ["_law_script"] := ⟨⟨_, _, PySem.W.mg_of X G a10, F10, F10.binds fun _ _ _ _ _ _ us hl => by obtain ⟨_, rfl⟩ := len1 hl; rfl⟩⟩
  have F11 := fun_mk (st := top 37) l11 c11 k11
  have D11 : DefAt K mg "_law_rows" (top 37) ["_law_plan_here"] := ⟨⟨_, _, PySem.W.mg_of X G a11, F11, F11.binds fun _ _ _ _ _ _ us hl => by obtain ⟨_, rfl⟩ := len1 hl; rfl⟩⟩
  have F12 := fun_mk (st := top 38) l12 c12 k12
  have D12 : DefAt K mg "_law_odd" (top 38) ["_law_rows_here", "_law_some"] := ⟨⟨_, _, PySem.W.mg_of X G a12, F12, F12.binds fun _ _ _ _ _ _ us hl => by obtain ⟨_, _, rfl⟩ := len2 hl; rfl⟩⟩
  have F13 := fun_mk (st := top 39) l13 c13 k13
  have D13 : DefAt K mg "_law_changed" (top 39) ["_law_rows_here", "_law_cell"] := ⟨⟨_, _, PySem.W.mg_of X G a13, F13, F13.binds fun _ _ _ _ _ _ us hl => by obtain ⟨_, _, rfl⟩ := len2 hl; rfl⟩⟩
  have F14 := fun_mk (st := top 40) l14 c14 k14
  have D14 : DefAt K mg "_law_worth" (top 40) ["_law_text"] := ⟨⟨_, _, PySem.W.mg_of X G a14, F14, F14.binds fun _ _ _ _ _ _ us hl => by obtain ⟨_, rfl⟩ := len1 hl; rfl⟩⟩
  have F15 := fun_mk (st := top 41) l15 c15 k15
  have D15 : DefAt K mg "_law_read_deed" (top 41) ["_law_words"] := ⟨⟨_, _, PySem.W.mg_of X G a15, F15, F15.binds fun _ _ _ _ _ _ us hl => by obtain ⟨_, rfl⟩ := len1 hl; rfl⟩⟩
  have F16 := fun_mk (st := top 42) l16 c16 k16
  have D16 : DefAt K mg "_law_read" (top 42) ["_law_rows_here"] := ⟨⟨_, _, PySem.W.mg_of X G a16, F16, F16.binds fun _ _ _ _ _ _ us hl => by obtain ⟨_, rfl⟩ := len1 hl; rfl⟩⟩
  have F17 := fun_mk (st := top 43) l17 c17 k17
  have D17 : DefAt K mg "_law_other" (top 43) ["_law_error"] := ⟨⟨_, _, PySem.W.mg_of X G a17, F17, F17.binds fun _ _ _ _ _ _ us hl => by obtain ⟨_, rfl⟩ := len1 hl; rfl⟩⟩
  have F18 := fun_mk (st := top 44) l18 c18 k18
  refine ⟨PySem.W.fnOf "law" "law" (defArgs (top 44)) (defBody (top 44)) (defScope (top 44)) .none kV18 dc18 pm18 an18 cd18 ct18, fun s v => .of_eq rfl, fun base _ _ => ?_⟩
  have G0 := ok_is_whole (P := l.prog) (w := w) (base := base) T D0 Z
  have G1 := ok_is_stroke (P := l.prog) (w := w) (base := base) T D1 Z G0
  have G2 := ok_number_of (P := l.prog) (w := w) (base := base) T D2 Z
  have G3 := ok_stroke_of (P := l.prog) (w := w) (base := base) T D3 Z G2 G1
  have G4 := ok_deed_of (P := l.prog) (w := w) (base := base) T D4 Z G2 G3
  have G5 := ok_read_plan (P := l.prog) (w := w) (base := base) T D5 Z G4
  have G6 := ok_L_cell_at (P := l.prog) (w := w) (base := base) T D6 Z
  have G7 := ok_L_window (P := l.prog) (w := w) (base := base) T D7 Z
  have G8 := ok_L_stream (P := l.prog) (w := w) (base := base) T D8 Z
  have G9 := ok_L_deed (P := l.prog) (w := w) (base := base) T D9 Z G8
  have G10 := ok_L_plan (P := l.prog) (w := w) (base := base) T D10 Z G9
  have G11 := ok_L_rows (P := l.prog) (w := w) (base := base) T D11 Z
  have G12 := ok_L_odd (P := l.prog) (w := w) (base := base) T D12 Z
  have G13 := ok_L_changed (P := l.prog) (w := w) (base := base) T D13 Z G8 G12
  have G14 := ok_L_worth (P := l.prog) (w := w) (base := base) T D14 Z
  have G15 := ok_L_read_deed (P := l.prog) (w := w) (base := base) T D15 Z G14
  have G16 := ok_L_read (P := l.prog) (w := w) (base := base) T D16 Z G15
  have G17 := ok_L_other (P := l.prog) (w := w) (base := base) T D17 Z
  exact ok_law (P := l.prog) (w := w) (base := base) T F18 Z G11 G10 G8 G6 G7 G13 G16 G5 G17
theorem walk {l : PySem.W.OpenLaw} {q : Program} {loose : List Str} {XP : (Str → Option Value) → Heap → Prop} {YP : World → Heap → Prop} {d : DefRec} {K : Params → PySem.W.Frag} (hn : l.most = some 63) (hdf : d.params.defaults = [])
    (hY : ∀ (w : World) (h : Heap), YP w h → (K w.params).In h)
    (F : ∀ (w : World) (mg : Str → Option Value) (fa : Addr) (h : Heap), (K w.params).In h → h.Ns mainGlobals mg → mg d.name = some (.ref fa) →
      ∃ fd : FuncData, (∀ (s : Shared) (u : Value), BindsTo s fd ⟨[u], []⟩ [("_law_script", u)]) ∧ ∀ base : Heap, (K w.params).In base → base.Ns mainGlobals mg → FnOk l.prog w (K w.params) mg base CX0 6 fa fd ["_law_script"] (spM (K w.params) XR0 M_law))
    (main : ∀ ns : List Int, ns.length ≤ 63 → M_law [.lst (ns.map PV.int)] = some (.ok (.bl true))) :
    PySem.W.WalkO q loose XP YP l.row.toRowW d [] (fun f vs => PySem.call f vs) :=
  L2.walk_of (n := 63) (k := 6) (x := "_law_script") (CX := fun _ => CX0) (sp := fun w => spM (K w.params) XR0 M_law) hn (by decide) hdf ⟨rfl, by decide, by decide⟩ hY F (fun w H a ns hl _ hS => ⟨[.lst (ns.map PV.int)], H, .ok (.bl true), Same.refl _, Reps.nil.cons (.lst hS (Reps.of_ints (K := K w.params) (F := H) ns).1 (Reps.of_ints ns).2), main ns hl, fun v F' H' _ rv => Rep.inv_bl rv⟩) fun _ _ _ _ _ z => z
end MM

open PySem PySem.W PyProof.Rows
set_option maxRecDepth 100000 in
set_option maxHeartbeats 0 in
theorem PySem.Challenge.cw_lostblock_k41_whole_plan_rows_refused_holds : PySem.Challenge.rw_lostblock_k41_whole_plan_rows_refused.Holds := by
  w_on; o_law; k_head; (case hw => w_witness2)
  k_fill
  refine MM.walk (l := PySem.Challenge.rw_lostblock_k41_whole_plan_rows_refused) rfl rfl (fun w h Y => PySem.W.kIn_of Y) ?F MM.law_main
  case F =>
    intro w mg fa h KX G hmg
    refine' MM.all_mk KX G hmg ?a0 ?l0 ?c0 ?k0 ?a1 ?l1 ?c1 ?k1 ?a2 ?l2 ?c2 ?k2 ?a3 ?l3 ?c3 ?k3 ?a4 ?l4 ?c4 ?k4 ?a5 ?l5 ?c5 ?k5 ?a6 ?l6 ?c6 ?k6 ?a7 ?l7 ?c7 ?k7 ?a8 ?l8 ?c8 ?k8 ?a9 ?l9 ?c9 ?k9 ?a10 ?l10 ?c10 ?k10 ?a11 ?l11 ?c11 ?k11 ?a12 ?l12 ?c12 ?k12 ?a13 ?l13 ?c13 ?k13 ?a14 ?l14 ?c14 ?k14 ?a15 ?l15 ?c15 ?k15 ?a16 ?l16 ?c16 ?k16 ?a17 ?l17 ?c17 ?k17 ?a18 ?l18 ?c18 ?k18 ?z_ValueError ?z_all ?z_bool ?z_enumerate ?z_int ?z_isinstance ?z_len ?z_list ?z_max ?z_min ?z_range ?z_str ?z_tuple ?y_COLUMN ?y_CUT ?y_FIGURES ?y_MOST_FIGURES ?y_PRINT ?y_ROW ?nx_NoPlan ?nx_NoSet ?nx_NoBench ?nx_NoPicture ?nx_NoStack ?nx_Kept ?nx_NoDeed ?nx_TooMany ?nx_NoName ?nx_Twice ?nx_Order ?nx_Wrong ?nx_NoStroke ?nx_NoRow ?nx_BlockError ?lx_NoPlan ?h1_NoPlan ?h2_NoPlan ?h3_NoPlan ?h4_NoPlan ?h5_NoPlan ?sa_NoPlan ?in_NoPlan ?fn_NoPlan ?kp_NoPlan ?li_NoPlan ?ci_NoPlan ?kj_NoPlan ?xa_NoPlan ?xg_NoPlan ?xh_NoPlan ?sf_NoPlan ?xb_NoPlan ?xc_NoPlan ?xd_NoPlan ?xe_NoPlan ?xf_NoPlan ?fl_NoPlan_row ?tl_BlockError ?tn_BlockError ?tb_BlockError ?s_NoPlan_BlockError ?ql_Kept ?qt_Kept ?qn_Kept ?qs_NoPlan_Kept ?ql_NoBench ?qt_NoBench ?qn_NoBench ?qs_NoPlan_NoBench ?ql_NoDeed ?qt_NoDeed ?qn_NoDeed ?qs_NoPlan_NoDeed ?ql_NoName ?qt_NoName ?qn_NoName ?qs_NoPlan_NoName ?ql_NoPicture ?qt_NoPicture ?qn_NoPicture ?qs_NoPlan_NoPicture ?ql_NoPlan ?qt_NoPlan ?qn_NoPlan ?qs_NoPlan_NoPlan ?ql_NoRow ?qt_NoRow ?qn_NoRow ?qs_NoPlan_NoRow ?ql_NoSet ?qt_NoSet ?qn_NoSet ?qs_NoPlan_NoSet ?ql_NoStack ?qt_NoStack ?qn_NoStack ?qs_NoPlan_NoStack ?ql_NoStroke ?qt_NoStroke ?qn_NoStroke ?qs_NoPlan_NoStroke ?ql_Order ?qt_Order ?qn_Order ?qs_NoPlan_Order ?ql_TooMany ?qt_TooMany ?qn_TooMany ?qs_NoPlan_TooMany ?ql_Twice ?qt_Twice ?qn_Twice ?qs_NoPlan_Twice ?ql_Wrong ?qt_Wrong ?qn_Wrong ?qs_NoPlan_Wrong ?qb_NoPlan_ValueError
    (case a0 => k_is)
    (case l0 => k_is)
    (case c0 => k_is)
    (case k0 => k_is)
    (case a1 => k_is)
    (case l1 => k_is)
    (case c1 => k_is)
    (case k1 => k_is)
    (case a2 => k_is)
    (case l2 => k_is)
    (case c2 => k_is)
    (case k2 => k_is)
    (case a3 => k_is)
    (case l3 => k_is)
    (case c3 => k_is)
    (case k3 => k_is)
    (case a4 => k_is)
    (case l4 => k_is)
    (case c4 => k_is)
    (case k4 => k_is)
    (case a5 => k_is)
    (case l5 => k_is)
    (case c5 => k_is)
    (case k5 => k_is)
    (case a6 => k_is)
    (case l6 => k_is)
    (case c6 => k_is)
    (case k6 => k_is)
    (case a7 => k_is)
    (case l7 => k_is)
    (case c7 => k_is)
    (case k7 => k_is)
    (case a8 => k_is)
    (case l8 => k_is)
    (case c8 => k_is)
    (case k8 => k_is)
    (case a9 => k_is)
    (case l9 => k_is)
    (case c9 => k_is)
    (case k9 => k_is)
    (case a10 => k_is)
    (case l10 => k_is)
    (case c10 => k_is)
    (case k10 => k_is)
    (case a11 => k_is)
    (case l11 => k_is)
    (case c11 => k_is)
    (case k11 => k_is)
    (case a12 => k_is)
    (case l12 => k_is)
    (case c12 => k_is)
    (case k12 => k_is)
    (case a13 => k_is)
    (case l13 => k_is)
    (case c13 => k_is)
    (case k13 => k_is)
    (case a14 => k_is)
    (case l14 => k_is)
    (case c14 => k_is)
    (case k14 => k_is)
    (case a15 => k_is)
    (case l15 => k_is)
    (case c15 => k_is)
    (case k15 => k_is)
    (case a16 => k_is)
    (case l16 => k_is)
    (case c16 => k_is)
    (case k16 => k_is)
    (case a17 => k_is)
    (case l17 => k_is)
    (case c17 => k_is)
    (case k17 => k_is)
    (case a18 => k_is)
    (case l18 => k_is)
    (case c18 => k_is)
    (case k18 => k_is)
    (case z_ValueError => k_is)
    (case z_all => k_is)
    (case z_bool => k_is)
    (case z_enumerate => k_is)
    (case z_int => k_is)
    (case z_isinstance => k_is)
    (case z_len => k_is)
    (case z_list => k_is)
    (case z_max => k_is)
    (case z_min => k_is)
    (case z_range => k_is)
    (case z_str => k_is)
    (case z_tuple => k_is)
    (case y_COLUMN => k_is)
    (case y_CUT => k_is)
    (case y_FIGURES => k_is)
    (case y_MOST_FIGURES => k_is)
    (case y_PRINT => k_is)
    (case y_ROW => k_is)
    (case nx_NoPlan => k_is)
    (case nx_NoSet => k_is)
    (case nx_NoBench => k_is)
    (case nx_NoPicture => k_is)
    (case nx_NoStack => k_is)
    (case nx_Kept => k_is)
    (case nx_NoDeed => k_is)
    (case nx_TooMany => k_is)
    (case nx_NoName => k_is)
    (case nx_Twice => k_is)
    (case nx_Order => k_is)
    (case nx_Wrong => k_is)
    (case nx_NoStroke => k_is)
    (case nx_NoRow => k_is)
    (case nx_BlockError => k_is)
    (case lx_NoPlan => k_is)
    (case h1_NoPlan => first | rfl | decide +kernel | k_is)
    (case h2_NoPlan => first | rfl | decide +kernel | k_is)
    (case h3_NoPlan => first | rfl | decide +kernel | k_is)
    (case h4_NoPlan => first | rfl | decide +kernel | k_is)
    (case h5_NoPlan => first | rfl | decide +kernel | k_is)
    (case sa_NoPlan => k_is)
    (case in_NoPlan => k_is)
    (case fn_NoPlan => k_is)
    (case kp_NoPlan => k_is)
    (case li_NoPlan => k_is)
    (case ci_NoPlan => k_is)
    (case kj_NoPlan => k_is)
    (case xa_NoPlan => k_is)
    (case xg_NoPlan => k_is)
    (case xh_NoPlan => k_is)
    (case sf_NoPlan => k_is)
    (case xb_NoPlan => k_is)
    (case xc_NoPlan => k_is)
    (case xd_NoPlan => k_is)
    (case xe_NoPlan => k_is)
    (case xf_NoPlan => k_is)
    (case fl_NoPlan_row => k_is)
    (case tl_BlockError => k_is)
    (case tn_BlockError => k_is)
    (case tb_BlockError => k_is)
    (case s_NoPlan_BlockError => k_is)
    (case ql_Kept => k_is)
    (case qt_Kept => k_is)
    (case qn_Kept => k_is)
    (case qs_NoPlan_Kept => k_is)
    (case ql_NoBench => k_is)
    (case qt_NoBench => k_is)
    (case qn_NoBench => k_is)
    (case qs_NoPlan_NoBench => k_is)
    (case ql_NoDeed => k_is)
    (case qt_NoDeed => k_is)
    (case qn_NoDeed => k_is)
    (case qs_NoPlan_NoDeed => k_is)
    (case ql_NoName => k_is)
    (case qt_NoName => k_is)
    (case qn_NoName => k_is)
    (case qs_NoPlan_NoName => k_is)
    (case ql_NoPicture => k_is)
    (case qt_NoPicture => k_is)
    (case qn_NoPicture => k_is)
    (case qs_NoPlan_NoPicture => k_is)
    (case ql_NoPlan => k_is)
    (case qt_NoPlan => k_is)
    (case qn_NoPlan => k_is)
    (case qs_NoPlan_NoPlan => k_is)
    (case ql_NoRow => k_is)
    (case qt_NoRow => k_is)
    (case qn_NoRow => k_is)
    (case qs_NoPlan_NoRow => k_is)
    (case ql_NoSet => k_is)
    (case qt_NoSet => k_is)
    (case qn_NoSet => k_is)
    (case qs_NoPlan_NoSet => k_is)
    (case ql_NoStack => k_is)
    (case qt_NoStack => k_is)
    (case qn_NoStack => k_is)
    (case qs_NoPlan_NoStack => k_is)
    (case ql_NoStroke => k_is)
    (case qt_NoStroke => k_is)
    (case qn_NoStroke => k_is)
    (case qs_NoPlan_NoStroke => k_is)
    (case ql_Order => k_is)
    (case qt_Order => k_is)
    (case qn_Order => k_is)
    (case qs_NoPlan_Order => k_is)
    (case ql_TooMany => k_is)
    (case qt_TooMany => k_is)
    (case qn_TooMany => k_is)
    (case qs_NoPlan_TooMany => k_is)
    (case ql_Twice => k_is)
    (case qt_Twice => k_is)
    (case qn_Twice => k_is)
    (case qs_NoPlan_Twice => k_is)
    (case ql_Wrong => k_is)
    (case qt_Wrong => k_is)
    (case qn_Wrong => k_is)
    (case qs_NoPlan_Wrong => k_is)
    (case qb_NoPlan_ValueError => k_is)
#print axioms PySem.Challenge.cw_lostblock_k41_whole_plan_rows_refused_holds
