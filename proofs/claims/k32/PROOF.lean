import PyProof.Rows.All
import Wide.All
import OpenK.AllK
import Wide.FinOn
import Lean
import PyProof.EqAt
import PyProof.EqKinds
import PyProof.TupleCall
import PySem.Challenge.RW_lostblock_k32_whole_boards_turned
set_option Elab.async false
set_option linter.all false
set_option maxRecDepth 100000
noncomputable def Zaa:=@Option.some.inj
noncomputable def Zab:=@List.getElem?_eq_some_iff
noncomputable def Zac:=@PySem.Heap.get?_push_of_some
noncomputable def Zad:=@List.mem_append
noncomputable def Zae:=@List.mem_map
noncomputable def Zaf:=@List.mem_of_getElem?
noncomputable def Zag:=@List.getElem?_append_left
noncomputable def Zah:=@Nat.le_refl
noncomputable def Zai:=@List.Pairwise.sublist
noncomputable def Zaj:=@PySem.Heap.lt_size
noncomputable def Zak:=@List.map_cons
noncomputable def Zal:=@PySem.Heap.get?_push_size
noncomputable def Zam:=@List.getElem?_set_ne
noncomputable def Zan:=@List.pairwise_append
noncomputable def Zao:=@List.getElem?_append_right
noncomputable def Zap:=@Nat.lt_of_lt_of_le
noncomputable def Zaq:=@List.mem_filter
noncomputable def Zar:=@List.append_assoc
noncomputable def Zas:=@List.mem_cons
noncomputable def Zat:=@Array.getElem?_eq_getElem
noncomputable def Zau:=@List.mem_range
noncomputable def Zav:=@Int.toNat_natCast
noncomputable def Zaw:=@Nat.ne_of_lt
noncomputable def Zax:=@Array.getElem?_toList
noncomputable def Zay:=@PySem.W.mg_of
noncomputable def Zaz:=@Nat.le_trans
noncomputable def ZaA:=@List.mem_append_right
noncomputable def ZaB:=@List.take_append_drop
noncomputable def ZaC:=@List.length_cons
noncomputable def ZaD:=@Int.eq_ofNat_of_zero_le
noncomputable def ZaE:=@List.mem_singleton
noncomputable def ZaF:=@List.getElem?_eq_none
noncomputable def ZaG:=@Nat.le_of_lt
noncomputable def ZaH:=@List.mem_of_mem_take
noncomputable def ZaI:=@List.drop_eq_getElem_cons
noncomputable def ZaJ:=@List.take_sublist
noncomputable def ZaK:=@Array.toList_append
noncomputable def ZaL:=@List.mem_of_mem_drop
noncomputable def ZaM:=@List.drop_sublist
noncomputable def ZaN:=@List.getElem?_set_self
noncomputable def ZaO:=@List.take_of_length_le
noncomputable def ZaP:=@PySem.PassesOwn.never
noncomputable def ZaQ:=@Int.emod_lt_of_pos
noncomputable def ZaR:=@List.length_filter_le
noncomputable def ZaS:=@List.Perm.append_left
noncomputable def ZaT:=@Array.length_toList
noncomputable def ZaU:=@List.map_congr_left
noncomputable def ZaV:=@PySem.F.slot_dict_itemiterator_next
noncomputable def ZaW:=@List.all_eq_true
noncomputable def ZaX:=@PySem.F.slot_dict_keyiterator_next
noncomputable def ZaY:=@List.pairwise_map
noncomputable def ZaZ:=@Nat.zero_le
noncomputable def Za0:=@Bool.false_eq_true
noncomputable def Za1:=@List.map_append
noncomputable def Za2:=@Array.perm_iff_toList_perm
noncomputable def Za3:=@List.drop_of_length_le
noncomputable def Za4:=@List.append_nil
noncomputable def Za5:=@List.drop_zero
noncomputable def Za6:=@Nat.min_eq_left
noncomputable def Za7:=@Int.emod_nonneg
noncomputable def Za8:=@Ne.symm
noncomputable def Za9:=@Int.toNat_of_nonneg
noncomputable def Zba:=@List.getElem?_range
noncomputable def Zbb:=@Bool.false_ne_true
noncomputable def Zbc:=@PyProof.Rows.callWith_type1
noncomputable def Zbd:=@Int.natCast_nonneg
noncomputable def Zbe:=@List.nodup_cons
noncomputable def Zbf:=@List.getElem?_replicate
noncomputable def Zbg:=@PySem.W.mg_none_of
noncomputable def Zbh:=@List.mem_append_left
noncomputable def Zbi:=@List.getElem?_of_mem
noncomputable def Zbj:=@List.take_take
noncomputable def Zbk:=@List.ext_getElem?
noncomputable def Zbl:=@Array.toList_push
noncomputable def Zbm:=@List.nodup_append
noncomputable def Zbn:=@Option.map_some
noncomputable def Zbo:=@List.cons.injEq
noncomputable def Zbp:=@PySem.Heap.SameBut.update
noncomputable def Zbq:=@List.filter_sublist
noncomputable def Zbr:=@Option.map_eq_some_iff
noncomputable def Zbs:=@List.filter_cons
noncomputable def Zbt:=@Classical.choose_spec
noncomputable def Zbu:=@List.pairwise_iff_getElem
noncomputable def Zbv:=@Nat.two_pow_pos
noncomputable def Zbw:=@Nat.testBit_and
noncomputable def Zbx:=@Nat.mul_comm
noncomputable def Zby:=@Nat.lt_irrefl
noncomputable def Zbz:=@PySem.mem_of_lookup
noncomputable def ZbA:=@Nat.add_sub_cancel_left
noncomputable def ZbB:=@List.filter_eq_self
noncomputable def ZbC:=@List.mem_reverse
noncomputable def ZbD:=@List.nodup_range
noncomputable def ZbE:=@Array.getElem?_eq_none
noncomputable def ZbF:=@List.Perm.append_right
noncomputable def ZbG:=@List.find?_cons
noncomputable def ZbH:=@List.any_cons
set_option compiler.extract_closed false
set_option bootstrap.genMatcherCode false
set_option genSizeOf false
local macro_rules | `(tactic| omega)=>`(tactic| first | (grind only) | omega (config:={}))
local macro_rules | `(tactic| lia)=>`(tactic| first | lia -verbose | omega (config:={}))
namespace L2
open PySem PySem.Spec PyProof.Rows
noncomputable abbrev Key:=Sum Int Str
noncomputable def wW:Key->Value->Bool
 | .inl k,v=>Value.isInt k v
 | .inr x,v=>Value.isStrOf x v
noncomputable def T9 (w:World):Key->Int
 | .inl k=>hashInt k
 | .inr x=>hashStr w x
theorem dz:∀ {k:Key}{v:Value},wW k v=true->(∃ i t,k=Sum.inl i∧v=Value.int i t)∨(∃ x t,k=Sum.inr x∧v=Value.str x t)
 | .inl i,v,h=>by
  obtain ⟨t,e⟩:=Value.isInt_shape (k:=i) (v:=v) h
  exact .inl ⟨i,t,rfl,e⟩
 | .inr x,v,h=>by
  obtain ⟨t,e⟩:=Value.isStrOf_shape (x:=x) (v:=v) h
  exact .inr ⟨x,t,rfl,e⟩
theorem Ha (i:Int) (t:Tok):wW (.inl i) (.int i t)=true:=by simp [wW,Value.isInt]
theorem Hc (x:Str) (t:Tok):wW (.inr x) (.str x t)=true:=by simp [wW,Value.isStrOf]
theorem Qk (a b:Int):decide ((Sum.inl a:Key)=Sum.inl b)=(a == b):=by
 by_cases e:a=b
 ·subst e;simp
 ·have h:¬(Sum.inl a:Key)=Sum.inl b:=fun q=>e (Sum.inl.inj q)
  rw [decide_eq_false h]
  exact (beq_eq_false_iff_ne.mpr e).symm
theorem Ql (a b:Str):decide ((Sum.inr a:Key)=Sum.inr b)=decide (a=b):=by
 by_cases e:a=b
 ·subst e;simp
 ·have h:¬(Sum.inr a:Key)=Sum.inr b:=fun q=>e (Sum.inr.inj q)
  rw [decide_eq_false h,decide_eq_false e]
theorem Qm (a:Int) (b:Str):decide ((Sum.inl a:Key)=Sum.inr b)=false:=decide_eq_false (fun q=>nomatch q)
theorem Qn (a:Str) (b:Int):decide ((Sum.inr a:Key)=Sum.inl b)=false:=decide_eq_false (fun q=>nomatch q)
noncomputable def cM (prog:Program) (w:World):PySem.KeyKind prog w Key where
 is:=wW
 hash:=T9 w
 inj:=fun v a b ha hb=>by
  rcases dz ha with ⟨i,t,rfl,rfl⟩ | ⟨x,t,rfl,rfl⟩
  ·rcases dz hb with ⟨j,u,rfl,e⟩ | ⟨y,u,rfl,e⟩
   ·injection e with e1 _;rw [e1]
   ·exact nomatch e
  ·rcases dz hb with ⟨j,u,rfl,e⟩ | ⟨y,u,rfl,e⟩
   ·exact nomatch e
   ·injection e with e1 _;rw [e1]
 byValue:=fun k v h=>by
  rcases dz h with ⟨i,t,rfl,rfl⟩ | ⟨x,t,rfl,rfl⟩ <;> rfl
 pyHash:=fun hv h=>by
  rcases dz hv with ⟨i,t,rfl,rfl⟩ | ⟨x,t,rfl,rfl⟩
  ·exact wpAny_pyHash_int h
  ·exact wpAny_pyHash_str h
 eqBool:=fun hu hv h=>by
  rcases dz hu with ⟨i,t,rfl,rfl⟩ | ⟨x,t,rfl,rfl⟩
  ·rcases dz hv with ⟨j,u,rfl,rfl⟩ | ⟨y,u,rfl,rfl⟩
   ·rw [Qk] at h;exact wpAny_eqBool_int h
   ·rw [Qm] at h;exact SeqAt.EqAt.int_str i t y u _ _ _ _ h
  ·rcases dz hv with ⟨j,u,rfl,rfl⟩ | ⟨y,u,rfl,rfl⟩
   ·rw [Qn] at h;exact SeqAt.EqAt.str_int x t j u _ _ _ _ h
   ·rw [Ql] at h;exact wpAny_eqBool_str h
 «strs»:=fun k x t v h=>by
  rcases dz h with ⟨i,u,rfl,e⟩ | ⟨y,u,rfl,e⟩
  ·exact nomatch e
  ·injection e with e1 _
   subst e1
   cases v <;> rfl
theorem Aa (prog:Program) (w:World) (i:Int) (t:Tok):(cM prog w).is (.inl i) (.int i t)=true:=Ha i t
theorem Ab (prog:Program) (w:World) (x:Str) (t:Tok):(cM prog w).is (.inr x) (.str x t)=true:=Hc x t
inductive V where
 | non | bl (b:Bool) | int (i:Int) | str (x:Str) | byt (b:Array UInt8) | flt (b:UInt64) | ref (a:Addr) | ty (n:String)
 deriving DecidableEq
noncomputable def RelV:V->Value->Prop
 | .non,u=>u=Value.none
 | .bl b,u=>u=Value.bool b
 | .int i,u=>∃ t,u=Value.int i t
 | .str x,u=>∃ t,u=Value.str x t
 | .byt b,u=>∃ t,u=Value.bytes b t
 | .flt b,u=>∃ t,u=Value.float b t
 | .ref a,u=>u=Value.ref a
 | .ty n,u=>u=Value.type n
noncomputable abbrev Vals:List V->List Value->Prop:=Paired RelV
theorem Vals.length {xs:List V}{us:List Value} (r:Vals xs us):xs.length=us.length:=Paired.length r
theorem Vals.get:∀ {xs:List V}{us:List Value}{i:Nat}{x:V},Vals xs us->xs[i]?=some x->∃ u,us[i]?=some u∧RelV x u
 | _,_,_,_,.nil,e=>by simp at e
 | _,_,0,_,.cons r _,e=>by simp at e;subst e;exact ⟨_,rfl,r⟩
 | _,_,i+1,x,.cons _ t,e=>by
  obtain ⟨u,h1,h2⟩:=Vals.get (i:=i) (x:=x) t (by simpa using e)
  exact ⟨u,by simpa using h1,h2⟩
theorem Vals.append:∀ {xs ys:List V}{us ws:List Value},Vals xs us->Vals ys ws->Vals (xs++ys) (us++ws)
 | _,_,_,_,.nil,s=>s
 | _,_,_,_,.cons r t,s=>.cons r (Vals.append t s)
theorem Vals.take:∀ {xs:List V}{us:List Value} (n:Nat),Vals xs us->Vals (xs.take n) (us.take n)
 | _,_,0,_=>.nil
 | _,_,_+1,.nil=>.nil
 | _,_,n+1,.cons r t=>.cons r (Vals.take n t)
theorem Vals.drop:∀ {xs:List V}{us:List Value} (n:Nat),Vals xs us->Vals (xs.drop n) (us.drop n)
 | _,_,0,r=>r
 | _,_,_+1,.nil=>.nil
 | _,_,n+1,.cons _ t=>Vals.drop n t
noncomputable def tV:Option V->Option Value->Prop
 | some v,some u=>RelV v u
 | none,none=>True
 | _,_=>False
noncomputable def KV {κ:Type}:List (κ×V)->List (κ×Value)->Prop:=Paired fun (p:κ×V) (q:κ×Value)=>p.1=q.1∧RelV p.2 q.2
noncomputable def kV:Key->V
 | .inl i=>.int i
 | .inr x=>.str x
inductive HO where
 | lst (xs:List V)
 | tup (xs:List V)
 | dK (kvs:List (Key×V)) | dT (kvs:List (List Key×V))
 | set (S:Int->Bool) (n:Nat)
 | ins (C dx:Addr) (fs:List (Str×V))
 | own (x:Addr)
 | xd (fs:List (Str×V))
 | met (f x:Addr)
 | rng (lo hi:Int)
 | frz (o:Obj) (u:HO)
 | tbl (ps:Array Value)
 | ext (φ:Heap->Prop)
noncomputable abbrev Hp:=Addr->Option HO
noncomputable def upd (H:Hp) (a:Addr) (o:HO):Hp:=fun b=>if b=a then some o else H b
theorem aJ {H:Hp}{a:Addr}{o:HO}:upd H a o a=some o:=by unfold upd;rw [if_pos rfl]
theorem aG {H:Hp}{a b:Addr}{o:HO} (h:b≠a):upd H a o b=H b:=by unfold upd;rw [if_neg h]
theorem Jg {H:Hp}{a b:Addr}{o u:HO} (h:H a=some o) (h':H b=some u) (d:o≠u):a≠b:=by
 intro e;subst e;rw [h] at h';exact d (Zaa h')
theorem bI {H:Hp}{a b:Addr}{o:HO} (h:H a=some o) (h':H b=none):a≠b:=by
 intro e;subst e;rw [h] at h';cases h'
noncomputable def fU (h:Heap) (a:Addr) (items:Array Value):Prop:=IsTup h a items∧∀ o,h.get? a=some o->o.dict=none
theorem fU.new (h:Heap) (items:Array Value):fU (h.push { cls:=.type "tuple",data:=.seq items }) h.objs.size items:=⟨IsTup.new h items,fun o e=>by rw [Zal _ rfl] at e;cases e;rfl⟩
theorem fU.mk {h:Heap}{a:Addr}{items:Array Value}{n:Nat} (e:h.get? a=some { cls:=.type "tuple",data:=.seq items n }):fU h a items:=⟨⟨_,e,rfl,_,rfl⟩,fun o q=>by rw [e] at q;cases q;rfl⟩
theorem fU.lt {h:Heap}{a:Addr}{items:Array Value} (x:fU h a items):a < h.objs.size:=x.1.lt
theorem fU.at' {h h':Heap}{a:Addr}{items:Array Value} (x:fU h a items) (e:∀ o,h.get? a=some o->h'.get? a=some o):fU h' a items:=by
 obtain ⟨⟨o,h1,r⟩,d⟩:=x
 exact ⟨⟨o,e o h1,r⟩,fun u q=>by rw [e o h1] at q;cases q;exact d o h1⟩
section
variable (P:Program) (w:World)
noncomputable def dG (H:Hp) (h:Heap) (a:Addr):HO->Prop
 | .lst xs=>xs.length≤sizeLine∧∃ (its:List Value) (n:Nat),Vals xs its∧h.get? a=some { cls:=.type "list",data:=.seq its.toArray n }
 | .tup xs=>xs.length≤sizeLine∧∃ its:List Value,Vals xs its∧fU h a its.toArray
 | .dK kvs=>kvs.length≤sizeLine∧(a == sysModules)=false∧∃ vs,KV kvs vs∧h.DictOf (cM P w) a vs
 | .dT kvs=>kvs.length≤sizeLine∧(a == sysModules)=false∧∃ xs:List (List Key×Addr×Value),
   Paired (fun (p:List Key×V) (q:List Key×Addr×Value)=>p.1=q.1∧H q.2.1=some (.tup (p.1.map kV))∧RelV p.2 q.2.2) kvs xs ∧
   ∃ o es ep,h.get? a=some o∧o.ExactDict∧o.data=.dict es ep∧es.toList=xs.map (entryOfKey (tupleKind (cM P w)))∧(xs.map (·.1)).Nodup
 | .set S n=>h.SetOf (intKind P w) a S n
 | .ins C dx fs=>H dx=some (.own a)∧fs.length≤1000∧dx≠a∧h.get? a=some (PySem.W.instObj C dx) ∧
   ∃ mA,h.Ns1 dx mA∧(∀ f,tV (fs.lookup f) (mA f))∧PySem.Within mA (fs.map (·.1))
 | .own _=>∃ o,h.get? a=some o
 | .xd fs=>∃ mA,h.Ns1 a mA∧∀ f,tV (fs.lookup f) (mA f)
 | .rng lo hi=>∃ t u v,h.get? a=some { cls:=.type "range",data:=.fields #[.int lo t,.int hi u,.int 1 v] }
 | .frz o u=>h.get? a=some o∧dG H h a u
 | .tbl ps=>h.get? a=some { cls:=.none,data:=.fields ps }
 | .met f x=>h.get? a=some (PySem.W.methodObj (.ref f) (.ref x))
 | .ext φ=>φ h∧(∃ o,h.get? a=some o)∧∀ h1 h2:Heap,φ h1->(∀ o,h1.get? a=some o->h2.get? a=some o)->φ h2
noncomputable def HOk (H:Hp) (h:Heap):Prop:=∀ a o,H a=some o->dG P w H h a o
end
section
variable {P:Program}{w:World}{H H':Hp}{h h':Heap}{a:Addr}{o:HO}
theorem dG.lt (x:dG P w H h a o):a < h.objs.size:=by
 cases o with
 | lst xs=>obtain ⟨_,_,_,_,e⟩:=x;exact Zaj e
 | tup xs=>obtain ⟨_,_,_,p⟩:=x;exact p.lt
 | dK kvs=>obtain ⟨_,_,_,_,o,_,_,e,_⟩:=x;exact Zaj e
 | dT kvs=>obtain ⟨_,_,_,_,o,_,_,e,_⟩:=x;exact Zaj e
 | set S n=>obtain ⟨o,_,_,_,e,_⟩:=x;exact Zaj e
 | ins C dx fs=>obtain ⟨_,_,_,e,_⟩:=x;exact Zaj e
 | own y=>obtain ⟨_,e⟩:=x;exact Zaj e
 | xd fs=>obtain ⟨_,⟨_,_,_,e,_⟩,_⟩:=x;exact Zaj e
 | rng lo hi=>obtain ⟨_,_,_,e⟩:=x;exact Zaj e
 | frz ob u=>obtain ⟨e,_⟩:=x;exact Zaj e
 | tbl ps=>exact Zaj (show h.get? a=some _ from x)
 | met f y=>exact Zaj (show h.get? a=some _ from x)
 | ext φ=>obtain ⟨_,⟨_,e⟩,_⟩:=x;exact Zaj e
theorem Paired.Qo {α β:Type}{F G:α->β->Prop}:∀ {l₁:List α}{l₂:List β},Paired F l₁ l₂->(∀ a b,F a b->G a b)->Paired G l₁ l₂
 | _,_,.nil,_=>.nil
 | _,_,.cons r t,f=>.cons (f _ _ r) (Paired.Qo t f)
theorem dG.stay (x:dG P w H h a o) (k:∀ b u,(b=a∨H b=some (.own a))->h.get? b=some u->h'.get? b=some u)
  (ho:∀ b,H b=some (.own a)->H' b=some (.own a)) (ht:∀ b xs,H b=some (.tup xs)->H' b=some (.tup xs)):dG P w H' h' a o:=by
 induction o with
 | lst xs=>obtain ⟨z,its,n,r,e⟩:=x;exact ⟨z,its,n,r,k _ _ (.inl rfl) e⟩
 | tup xs=>obtain ⟨z,its,r,c⟩:=x;exact ⟨z,its,r,c.at' fun o e=>k _ _ (.inl rfl) e⟩
 | dK kvs=>obtain ⟨z,y,vs,r,ob,es,ep,e,c⟩:=x;exact ⟨z,y,vs,r,ob,es,ep,k _ _ (.inl rfl) e,c⟩
 | dT kvs =>
  obtain ⟨z,y,xs,r,ob,es,ep,e,c⟩:=x
  exact ⟨z,y,xs,Paired.Qo r fun p q z=>⟨z.1,ht _ _ z.2.1,z.2.2⟩,ob,es,ep,k _ _ (.inl rfl) e,c⟩
 | set S n=>obtain ⟨ob,es,ep,t,e,c⟩:=x;exact ⟨ob,es,ep,t,k _ _ (.inl rfl) e,c⟩
 | ins C dx fs =>
  obtain ⟨d,z,ne,e,mA,⟨od,es,ep,e2,c⟩,r⟩:=x
  exact ⟨ho _ d,z,ne,k _ _ (.inl rfl) e,mA,⟨od,es,ep,k _ _ (.inr d) e2,c⟩,r⟩
 | own y=>obtain ⟨ob,e⟩:=x;exact ⟨ob,k _ _ (.inl rfl) e⟩
 | xd fs=>obtain ⟨mA,⟨od,es,ep,e,c⟩,r⟩:=x;exact ⟨mA,⟨od,es,ep,k _ _ (.inl rfl) e,c⟩,r⟩
 | rng lo hi=>obtain ⟨t,u,v,e⟩:=x;exact ⟨t,u,v,k _ _ (.inl rfl) e⟩
 | frz ob u ih=>obtain ⟨e,q⟩:=x;exact ⟨k _ _ (.inl rfl) e,ih q⟩
 | tbl ps =>
  have e:h.get? a=some { cls:=.none,data:=.fields ps }:=x
  show h'.get? a=some { cls:=.none,data:=.fields ps }
  exact k a _ (.inl rfl) e
 | met f y =>
  have e:h.get? a=some (PySem.W.methodObj (.ref f) (.ref y)):=x
  show h'.get? a=some (PySem.W.methodObj (.ref f) (.ref y))
  exact k a _ (.inl rfl) e
 | ext φ=>obtain ⟨p,⟨o,e⟩,st⟩:=x;exact ⟨st _ _ p fun o q=>k _ _ (.inl rfl) q,⟨o,k _ _ (.inl rfl) e⟩,st⟩
theorem HOk.lt (x:HOk P w H h) (e:H a=some o):a < h.objs.size:=(x a o e).lt
theorem HOk.fresh (x:HOk P w H h) (e:h.objs.size≤a):H a=none:=by
 cases q:H a with
 | none=>rfl
 | some u=>exact absurd (Zap (x.lt q) e) (Zby _)
theorem HOk.kept (x:HOk P w H h) (k:∀ b u,h.get? b=some u->h'.get? b=some u):HOk P w H h':=fun a o e =>
 (x a o e).stay (fun b u _ q=>k b u q) (fun _ q=>q) fun _ _ q=>q
theorem HOk.laid (x:HOk P w H h) (k:∀ b u,h.get? b=some u->h'.get? b=some u) (hp:h.objs.size≤a) (new:dG P w (upd H a o) h' a o):HOk P w (upd H a o) h':=fun b u e=>by
 have hn:=x.fresh hp
 by_cases hb:b=a
 ·subst hb;rw [aJ] at e;cases e;exact new
 ·rw [aG hb] at e
  exact (x b u e).stay (fun c v _ q=>k c v q) (fun c q=>by rw [aG (bI q hn)];exact q) fun c xs q=>by rw [aG (bI q hn)];exact q
end
noncomputable def Rd (H:Hp) (a:Addr) (u:HO):Prop:=H a=some u∨∃ o,H a=some (.frz o u)
theorem Rd.ok {P:Program}{w:World}{H:Hp}{h:Heap}{a:Addr}{u:HO} (r:Rd H a u) (x:HOk P w H h):dG P w H h a u:=by
 rcases r with r | ⟨o,r⟩
 ·exact x a u r
 ·obtain ⟨_,q⟩:=x a _ r
  exact q
noncomputable def Mut:Option HO->Prop
 | some (.lst _)=>True
 | some (.dK _)=>True
 | some (.dT _)=>True
 | some (.set _ _)=>True
 | some (.ins _ _ _)=>True
 | some (.ext _)=>True
 | _=>False
section
variable {P:Program}{w:World}{H:Hp}{h h':Heap}{x e:Addr}{o':HO}
theorem HOk.write (ok:HOk P w H h) (mu:Mut (H x)) (he:e=x∨H e=some (.own x)) (k:∀ b u,b≠e->h.get? b=some u->h'.get? b=some u) (heo:∃ u,h'.get? e=some u)
  (new:dG P w (upd H x o') h' x o'):HOk P w (upd H x o') h':=fun b u q=>by
 have nown:∀ c y,H c=some (.own y)->c≠x:=fun c y r z=>by subst z;rw [r] at mu;exact mu
 have ntup:∀ c xs,H c=some (.tup xs)->c≠x:=fun c xs r z=>by subst z;rw [r] at mu;exact mu
 by_cases hb:b=x
 ·subst hb;rw [aJ] at q;cases q;exact new
 ·rw [aG hb] at q
  by_cases hbe:b=e
  ·have q':H b=some (.own x):=by
    rcases he with z | z
    ·exact absurd (hbe.trans z) hb
    ·rw [hbe];exact z
   rw [q] at q';cases q'
   obtain ⟨v,hv⟩:=heo
   exact ⟨v,by rw [hbe];exact hv⟩
  ·refine (ok b u q).stay (fun c v hc r=>k c v ?_ r) (fun c r=>by rw [aG (nown c b r)];exact r) fun c xs r=>by rw [aG (ntup c xs r)];exact r
   rcases hc with rfl | hc
   ·exact hbe
   ·rintro rfl
    rcases he with z | z
    ·exact nown c b hc z
    ·rw [hc] at z;cases z;exact hb rfl
end
structure Un (fs ex:List Addr) (H H':Hp) (h h':Heap):Prop where
 keep:∀ b o,h.get? b=some o->H b=none->b ∉ fs->b ∉ ex->h'.get? b=some o
 slot:∀ b o,h.get? b=some o->H b=none->b∈fs->b ∉ ex->∃ sl,h'.get? b=some { o with slots:=sl }
 free:∀ b o,h.get? b=some o->H b=none->b ∉ ex->H' b=none
 there:∀ b o,h.get? b=some o->b ∉ ex->∃ o',h'.get? b=some o'
 tups:∀ b xs,H b=some (.tup xs)->H' b=some (.tup xs)
 frzs:∀ b o u,H b=some (.frz o u)->H' b=some (.frz o u)
 tbls:∀ b ps,H b=some (.tbl ps)->∃ more,H' b=some (.tbl (ps++more))
section
variable {fs fs' ex ex':List Addr}{H H1 H2:Hp}{h h1 h2 h':Heap}{a x e:Addr}{o:HO}
theorem Un.any (u:Un fs ex H H1 h h1) {b:Addr}{ob:Obj} (q:h.get? b=some ob) (n:H b=none) (hx:b ∉ ex):∃ sl,h1.get? b=some { ob with slots:=sl }:=by
 by_cases hb:b∈fs
 ·exact u.slot b ob q n hb hx
 ·exact ⟨ob.slots,u.keep b ob q n hb hx⟩
theorem Un.kept (k:∀ b u,h.get? b=some u->h'.get? b=some u):Un fs ex H H h h' :=
 ⟨fun b ob q _ _ _=>k b ob q,fun b ob q _ _ _=>⟨ob.slots,k b ob q⟩,fun _ _ _ n _=>n,fun b ob q _=>⟨ob,k b ob q⟩,fun _ _ q=>q,fun _ _ _ q=>q,fun _ ps q=>⟨#[],by rw [q];simp⟩⟩
theorem Un.refl:Un fs ex H H h h:=Un.kept fun _ _ q=>q
theorem Un.laid (k:∀ b u,h.get? b=some u->h'.get? b=some u) (hp:h.objs.size≤a) (hn:H a=none):Un fs ex H (upd H a o) h h' where
 keep:=fun b u q _ _ _=>k b u q
 slot:=fun b u q _ _ _=>⟨u.slots,k b u q⟩
 free:=fun b u q n _=>by rw [aG (Zaw (Zap (Zaj q) hp))];exact n
 there:=fun b u q _=>⟨u,k b u q⟩
 tups:=fun b xs q=>by rw [aG (bI q hn)];exact q
 frzs:=fun b u xs q=>by rw [aG (bI q hn)];exact q
 tbls:=fun b ps q=>⟨#[],by rw [aG (bI q hn),q];simp⟩
theorem Un.write (mu:Mut (H x)) (he:e=x∨H e=some (.own x)) (k:∀ b u,b≠e->h.get? b=some u->h'.get? b=some u) (heo:∃ u,h'.get? e=some u):Un fs ex H (upd H x o) h h':=by
 have hx:∀ b,H b=none->b≠x:=fun b n z=>by subst z;rw [n] at mu;exact mu
 have hb:∀ b,H b=none->b≠e:=fun b n z=>by
  subst z
  rcases he with r | r
  ·exact hx b n r
  ·rw [n] at r;cases r
 have hm:∀ b u,H b=some u->¬Mut (some u)->b≠x:=fun b u q nm z=>by subst z;rw [q] at mu;exact nm mu
 refine ⟨fun b u q n _ _=>k b u (hb b n) q,fun b u q n _ _=>⟨u.slots,k b u (hb b n) q⟩,fun b u q n _=>by rw [aG (hx b n)];exact n,fun b u q _=>?_,
  fun b xs q=>by rw [aG (hm b _ q fun z=>z)];exact q,fun b u xs q=>by rw [aG (hm b _ q fun z=>z)];exact q,fun b ps q=>⟨#[],by rw [aG (hm b _ q fun z=>z),q];simp⟩⟩
 by_cases hbe:b=e
 ·subst hbe;exact heo
 ·exact ⟨u,k b u hbe q⟩
end
noncomputable def trk (h:Heap) (H:Hp):List Addr:=(List.range h.objs.size).filter fun a=>(H a).isSome
noncomputable def yp (h:Heap) (H:Hp):Heap:=PySem.W.hideAll h (trk h H)
theorem Hd (h:Heap) (H:Hp):(yp h H).objs.size=h.objs.size:=PySem.W.hideAll_size _ _
theorem Jh {h:Heap}{H:Hp}{b:Addr}{o:Obj} (e:h.get? b=some o) (n:H b=none):(yp h H).get? b=some o :=
 PySem.W.hideAll_get _ e fun hm=>by
  have q:(H b).isSome=true:=(Zaq.mp hm).2
  rw [n] at q;simp at q
theorem LQ {h:Heap}{H:Hp}{b:Addr}{o:Obj} (e:(yp h H).get? b=some o):h.get? b=some o∧H b=none:=by
 have e':h.get? b=some o:=PySem.W.of_hideAll (trk h H) e
 refine ⟨e',?_⟩
 cases q:H b with
 | none=>rfl
 | some x =>
  have hm:b∈trk h H:=Zaq.mpr ⟨Zau.mpr (Zaj e'),by simp [q]⟩
  have z:(yp h H).get? b=none:=PySem.W.hideAll_none (trk h H) hm
  rw [z] at e;cases e
noncomputable def LR (g h:Heap) (L:Addr):List (Addr×Obj):=(List.range h.objs.size).filterMap fun a=>if a=L∨(g.get? a).isSome=true then none else (h.get? a).map fun o=>(a,o)
noncomputable def rest (g h:Heap) (L d:Addr):List (Addr×Obj):=(LR g h L).filter fun p=>decide (p.1≠d)
structure Mod (K:PySem.W.Frag) (mg:Str->Option Value) (base:Heap):Prop where
 kin:K.In base
 glob:base.Ns mainGlobals mg
 blt:∃ mb,base.Ns builtinsNs mb∧∀ x:Str,x≠"__name__"->mb x=bootBuiltins x
 nolimit:base.NoLimit
structure Cx where
 prog:Program
 w:World
 K:PySem.W.Frag
 mg:Str->Option Value
 base:Heap
 A:Around
 N:List Str
 s₀:Shared
 H₀:Hp
 env:Env
 outer:List Env
 stack:List Env
 ex:List Addr
 fn:Str->Bool
 calm:Bool
 pn:List (Addr×Obj)
 xe:Value->Shared->Prop
noncomputable def frs (l:List Env):List Addr:=l.filterMap (·.frame)
noncomputable abbrev Cx.fs (X:Cx):List Addr:=frs X.outer
noncomputable def Vis (sc:Scope) (x:Str):Prop:=sc.names.lookup x=some .local∨sc.names.lookup x=some .cell∨sc.names.lookup x=some .free
noncomputable def Loc (sc:Scope) (x:Str):Prop:=sc.names.lookup x=some .local∨sc.names.lookup x=some .cell
noncomputable def Look (env:Env) (h:Heap) (m:Str->Option Value) (x:Str) (u:Value):Prop :=
 (env.kindOf x=some .local∧m x=some u)∨((env.kindOf x=some .cell∨env.kindOf x=some .free)∧∃ c,env.cells.lookup x=some c∧h.IsCell c (some u))
structure Cx.Ok (X:Cx):Prop where
 mod:Mod X.K X.mg X.base
 kind:X.env.scope.kind=.function
 glob:X.env.globals=mainGlobals
 blt:X.env.builtins=builtinsNs
 above:X.s₀.heap.objs.size≤X.env.locals
 inj:∀ x y c,X.env.cells.lookup x=some c->X.env.cells.lookup y=some c->x=y
 has:∀ x,(X.env.kindOf x=some .cell∨X.env.kindOf x=some .free)->∃ c,X.env.cells.lookup x=some c
 cab:∀ x c,X.fn x=true->X.env.cells.lookup x=some c->X.s₀.heap.objs.size≤c
 hd:X.calm=true->X.A.handled=none
 frames:X.A.frames=some X.stack
 stk:X.stack=X.outer∨(X.stack=X.env::X.outer∧X.env.frame=some X.env.locals)
 exf:∀ b∈X.ex,b≠X.env.locals∧∀ x c,X.env.cells.lookup x=some c->c≠b
 bs:∀ b o,X.base.get? b=some o->X.s₀.heap.get? b=some o∧X.H₀ b=none
 bsz:X.base.objs.size≤X.s₀.heap.objs.size
 noex:∀ b o,X.base.get? b=some o->b ∉ X.ex
 exfs:∀ b∈X.ex,b ∉ X.fs
 tW:X.s₀.heap.FunFrames X.base X.outer
 frf:∀ b∈X.fs,X.H₀ b=none
structure Inv (X:Cx) (pins:List (Addr×Obj)) (σ:List (Option V)) (H:Hp) (s:Shared):Prop where
 ok:X.Ok
 os:s.os=X.s₀.os
 bare:AllBare s.gens
 base:Un X.fs X.ex X.H₀ H X.s₀.heap s.heap
 loc:∃ m,s.heap.Ns X.env.locals m∧∀ (i:Nat) (x:Str) (v:V),X.N[i]?=some x->σ[i]?=some (some v)->Vis X.env.scope x->∃ u,RelV v u∧Look X.env s.heap m x u
 cell:∀ x c,X.env.cells.lookup x=some c->∃ v,s.heap.IsCell c v
 free:H X.env.locals=none
 freeC:∀ x c,X.env.cells.lookup x=some c->H c=none
 pin:∀ p∈X.pn++pins,s.heap.get? p.1=some p.2∧H p.1=none∧p.1≠X.env.locals∧p.1 ∉ X.fs∧∀ v,p.2.data≠.cell v
 hok:HOk X.prog X.w H s.heap
 len:σ.length=X.N.length
section
variable {X:Cx}{pins:List (Addr×Obj)}{σ:List (Option V)}{H H':Hp}{s:Shared}{h':Heap}
theorem Cx.Ok.Ua (ok:X.Ok) {b:Addr}{o:Obj} (e:X.base.get? b=some o):b ∉ X.fs:=fun hb=>by
 have:=(ok.tW.mem hb).1
 rw [e] at this;cases this
theorem Inv.bs (I:Inv X pins σ H s):∀ b o,X.base.get? b=some o->s.heap.get? b=some o∧H b=none:=fun b o e =>
 ⟨I.base.keep b o (I.ok.bs b o e).1 (I.ok.bs b o e).2 (I.ok.Ua e) (I.ok.noex b o e),I.base.free b o (I.ok.bs b o e).1 (I.ok.bs b o e).2 (I.ok.noex b o e)⟩
theorem Inv.bk (I:Inv X pins σ H s):∀ b o,X.base.get? b=some o->s.heap.get? b=some o:=fun b o e=>(I.bs b o e).1
theorem Inv.mod (I:Inv X pins σ H s):Mod X.K X.mg X.base:=I.ok.mod
theorem Inv.kIn (I:Inv X pins σ H s):X.K.In s.heap:=I.ok.mod.kin.keeps I.bk
theorem Inv.lt (I:Inv X pins σ H s):X.env.locals < s.heap.objs.size:=let ⟨_,hn,_⟩:=I.loc;hn.lt
theorem Inv.sz (I:Inv X pins σ H s):X.s₀.heap.objs.size≤s.heap.objs.size:=Zaz I.ok.above (ZaG I.lt)
theorem Inv.Ub (I:Inv X pins σ H s) {a:Addr} (h:s.heap.objs.size≤a):a ∉ X.fs:=fun hb=>by
 obtain ⟨_,o,ho,_⟩:=I.ok.tW.mem hb
 exact absurd (Zap (Zaj ho) (Zaz I.sz h)) (Zby _)
theorem Inv.cne (I:Inv X pins σ H s):∀ x c,X.env.cells.lookup x=some c->c≠X.env.locals:=fun x c e z=>by
 obtain ⟨v,o,ho,hd⟩:=I.cell x c e
 obtain ⟨m,⟨o',es,ep,ho',hd',_⟩,_⟩:=I.loc
 rw [z,ho'] at ho;cases ho;rw [hd'] at hd;cases hd
theorem Inv.tW (I:Inv X pins σ H s):s.heap.FunFrames X.base X.outer:=by
 have all:∀ (l:List Env),(∀ b∈frs l,b∈X.fs)->X.s₀.heap.FunFrames X.base l->s.heap.FunFrames X.base l:=by
  intro l
  induction l with
  | nil=>intro _ _;trivial
  | cons env r ih =>
   intro hs hl
   obtain ⟨hk,⟨L,o,hf,hn,ho,hd⟩,hr⟩:=hl
   have hL:L∈X.fs:=hs L (by unfold frs;rw [List.filterMap_cons,hf];exact List.mem_cons_self)
   obtain ⟨sl,e⟩:=I.base.slot L o ho (I.ok.frf L hL) hL fun z=>I.ok.exfs L z hL
   exact ⟨hk,⟨L,_,hf,hn,e,hd⟩,ih (fun b hb=>hs b (by unfold frs;rw [List.filterMap_cons,hf];exact List.mem_cons_of_mem _ hb)) hr⟩
 exact all X.outer (fun _ hb=>hb) I.ok.tW
theorem Inv.stack (I:Inv X pins σ H s):s.heap.FunFrames X.base X.stack:=by
 rcases I.ok.stk with e | ⟨e,hf⟩
 ·rw [e];exact I.tW
 ·rw [e]
  obtain ⟨m,hn,_⟩:=I.loc
  refine .cons (by rw [I.ok.kind];decide) hf hn ?_ I.tW
  exact Heap.get?_none_of_le (Zaz I.ok.bsz I.ok.above)
theorem Inv.Dt (I:Inv X pins σ H s):∀ b∈frs X.stack,b∈X.env.locals::X.fs:=fun b hb=>by
 rcases I.ok.stk with e | ⟨e,hf⟩
 ·rw [e] at hb;exact List.mem_cons_of_mem _ hb
 ·rw [e] at hb
  unfold frs at hb
  rw [List.filterMap_cons,hf] at hb
  exact hb
theorem Inv.Fj (I:Inv X pins σ H s):∀ b∈frs X.stack,H b=none:=fun b hb=>by
 rcases Zas.mp (I.Dt b hb) with e | hb
 ·rw [e];exact I.free
 ·obtain ⟨_,o,ho,_⟩:=I.ok.tW.mem hb
  exact I.base.free b o ho (I.ok.frf b hb) fun z=>I.ok.exfs b z hb
theorem Inv.step {g':Array GenState}{t':Nat}{d':Drawn}{ch:List Addr} (I:Inv X pins σ H s)
  (hch:∀ b∈ch,(b∈X.ex∨X.s₀.heap.objs.size≤b)∧b≠X.env.locals∧(∀ x c,X.env.cells.lookup x=some c->c≠b)∧∀ p∈X.pn++pins,p.1≠b)
  (keep:∀ b o,b≠X.env.locals->b ∉ X.fs->b ∉ ch->s.heap.get? b=some o->H b=none->h'.get? b=some o)
  (slot:∀ b o,b≠X.env.locals->b∈X.fs->b ∉ ch->s.heap.get? b=some o->H b=none->∃ sl,h'.get? b=some { o with slots:=sl }) (free:∀ b o,b ∉ ch->s.heap.get? b=some o->H b=none->H' b=none)
  (there:∀ b o,b ∉ ch->s.heap.get? b=some o->∃ o',h'.get? b=some o')
  (tups:∀ b xs,H b=some (.tup xs)->H' b=some (.tup xs)) (frzs:∀ b o u,H b=some (.frz o u)->H' b=some (.frz o u)) (tbls:∀ b ps,H b=some (.tbl ps)->∃ more,H' b=some (.tbl (ps++more)))
  (ns:∀ m,s.heap.Ns X.env.locals m->h'.Ns X.env.locals m) (hok:HOk X.prog X.w H' h') (hg:AllBare g') :
  Inv X pins σ H' { s with heap:=h',gens:=g',drawn:=d',toks:=t' }:=by
 have neL:∀ b o,X.s₀.heap.get? b=some o->b≠X.env.locals:=fun b o e=>Zaw (Zap (Zaj e) I.ok.above)
 have neC:∀ b o,X.s₀.heap.get? b=some o->b ∉ X.ex->b ∉ ch:=fun b o e hx hb=>by
  rcases (hch b hb).1 with z | z
  ·exact hx z
  ·exact absurd (Zap (Zaj e) z) (Zby _)
 have cellK:∀ x c,X.env.cells.lookup x=some c->∀ v,s.heap.IsCell c v->h'.IsCell c v:=fun x c e v ⟨o,ho,hd⟩=>by
  have nch:c ∉ ch:=fun z=>(hch c z).2.2.1 x c e rfl
  by_cases hc:c∈X.fs
  ·obtain ⟨sl,q⟩:=slot c o (I.cne x c e) hc nch ho (I.freeC x c e)
   exact ⟨_,q,hd⟩
  ·exact ⟨o,keep c o (I.cne x c e) hc nch ho (I.freeC x c e),hd⟩
 refine ⟨I.ok,I.os,hg,⟨fun b o e n hb hx=>?_,fun b o e n hb hx=>?_,fun b o e n hx=>?_,fun b o e hx=>?_,fun b xs e=>tups b xs (I.base.tups b xs e),fun b o xs e=>frzs b o xs (I.base.frzs b o xs e),fun b ps e=>?_⟩,?_,fun x c e=>?_,?_,fun x c e=>?_,fun p hp=>?_,hok,I.len⟩
 ·exact keep b o (neL b o e) hb (neC b o e hx) (I.base.keep b o e n hb hx) (I.base.free b o e n hx)
 ·obtain ⟨sl,e1⟩:=I.base.slot b o e n hb hx
  obtain ⟨sl',e2⟩:=slot b _ (neL b o e) hb (neC b o e hx) e1 (I.base.free b o e n hx)
  exact ⟨sl',e2⟩
 ·obtain ⟨o',e1⟩:=I.base.there b o e hx
  exact free b o' (neC b o e hx) e1 (I.base.free b o e n hx)
 ·obtain ⟨o',e1⟩:=I.base.there b o e hx
  exact there b o' (neC b o e hx) e1
 ·obtain ⟨m1,e1⟩:=I.base.tbls b ps e
  obtain ⟨m2,e2⟩:=tbls b _ e1
  exact ⟨m1++m2,by rw [e2,Array.append_assoc]⟩
 ·obtain ⟨m,hn,hl⟩:=I.loc
  refine ⟨m,ns m hn,fun i x v e1 e2 e3=>?_⟩
  obtain ⟨u,r,l⟩:=hl i x v e1 e2 e3
  refine ⟨u,r,?_⟩
  rcases l with l | ⟨k,c,e,z⟩
  ·exact .inl l
  ·exact .inr ⟨k,c,e,cellK x c e _ z⟩
 ·obtain ⟨v,z⟩:=I.cell x c e
  exact ⟨v,cellK x c e v z⟩
 ·obtain ⟨m,⟨o,_,_,ho,_⟩,_⟩:=I.loc
  exact free _ o (fun z=>(hch _ z).2.1 rfl) ho I.free
 ·obtain ⟨v,o,ho,hd⟩:=I.cell x c e
  exact free c o (fun z=>(hch c z).2.2.1 x c e rfl) ho (I.freeC x c e)
 ·obtain ⟨e,n,ne,nf,d⟩:=I.pin p hp
  have nch:p.1 ∉ ch:=fun z=>(hch p.1 z).2.2.2 p hp rfl
  exact ⟨keep p.1 p.2 ne nf nch e n,free p.1 p.2 nch e n,ne,nf,d⟩
theorem Inv.un {t':Nat} (I:Inv X pins σ H s) (u:Un X.fs [] H H' s.heap h') (hok:HOk X.prog X.w H' h'):Inv X pins σ H' { s with heap:=h',toks:=t' }:=by
 obtain ⟨m,⟨o,es,ep,ho,r⟩,_⟩:=id I.loc
 obtain ⟨sl,hL⟩:=u.any ho I.free (by simp)
 exact I.step (g':=s.gens) (d':=s.drawn) (ch:=[]) (fun _ z=>nomatch z) (fun b o _ hb _ e n=>u.keep b o e n hb (by simp)) (fun b o _ hb _ e n=>u.slot b o e n hb (by simp)) (fun b o _ e n=>u.free b o e n (by simp)) (fun b o _ e=>u.there b o e (by simp)) u.tups u.frzs u.tbls (fun m' hm=>by
  obtain ⟨o',es',ep',ho',r'⟩:=hm
  rw [ho] at ho';cases ho'
  exact ⟨_,es',ep',hL,r'⟩) hok I.bare
theorem Inv.call {g':Array GenState}{t':Nat}{d':Drawn}{ch:List Addr} (I:Inv X pins σ H s) (u:Un (frs X.stack) ch H H' s.heap h') (hok:HOk X.prog X.w H' h') (hg:AllBare g')
  (hch:∀ b∈ch,(b∈X.ex∨X.s₀.heap.objs.size≤b)∧b≠X.env.locals∧(∀ x c,X.env.cells.lookup x=some c->c≠b)∧∀ p∈X.pn++pins,p.1≠b) :
  Inv X pins σ H' { s with heap:=h',gens:=g',drawn:=d',toks:=t' }:=by
 obtain ⟨m,⟨o,es,ep,ho,r⟩,_⟩:=id I.loc
 obtain ⟨sl,hL⟩:=u.any ho I.free fun z=>(hch _ z).2.1 rfl
 exact I.step (ch:=ch) hch (fun b o hL hb hc e n=>u.keep b o e n (fun z=>(Zas.mp (I.Dt b z)).elim hL hb) hc) (fun b o _ _ hc e n=>u.any e n hc) (fun b o hc e n=>u.free b o e n hc) (fun b o hc e=>u.there b o e hc) u.tups u.frzs u.tbls (fun m' hm=>by
  obtain ⟨o',es',ep',ho',r'⟩:=hm
  rw [ho] at ho';cases ho'
  exact ⟨_,es',ep',hL,r'⟩) hok hg
theorem Inv.turned {t':Nat}{it:Addr} (I:Inv X pins σ H s) (k:∀ b o,b≠it->s.heap.get? b=some o->h'.get? b=some o) (hn:H it=none) (hL:it≠X.env.locals)
  (h1:it∈X.ex∨X.s₀.heap.objs.size≤it) (h2:∀ x c,X.env.cells.lookup x=some c->c≠it) (h3:∀ p∈X.pn++pins,p.1≠it):Inv X pins σ H { s with heap:=h',toks:=t' }:=by
 have nit:∀ b u,H b=some u->b≠it:=fun b u e z=>by rw [z,hn] at e;cases e
 refine I.step (g':=s.gens) (d':=s.drawn) (ch:=[it]) (fun b hb=>?_) (fun b o _ _ hc e _=>k b o (fun z=>hc (by simp [z])) e) (fun b o _ _ hc e _=>⟨o.slots,k b o (fun z=>hc (by simp [z])) e⟩) (fun _ _ _ _ n=>n)
  (fun b o hc e=>⟨o,k b o (fun z=>hc (by simp [z])) e⟩) (fun _ _ e=>e) (fun _ _ _ e=>e) (fun b ps e=>⟨#[],by rw [e];simp⟩) (fun m hm=>?_) (fun b u e=>?_) I.bare
 ·have e:b=it:=by simpa using hb
  subst e
  exact ⟨h1,hL,h2,h3⟩
 ·obtain ⟨o,es,ep,ho,r⟩:=hm
  exact ⟨o,es,ep,k _ o (Za8 hL) ho,r⟩
 ·refine (I.hok b u e).stay (fun c v hc q=>k c v ?_ q) (fun _ q=>q) fun _ _ q=>q
  rcases hc with z | z
  ·rw [z];exact nit b u e
  ·exact nit c _ z
theorem Inv.tok (I:Inv X pins σ H s) (t:Nat):Inv X pins σ H { s with toks:=t }:=I.un (h':=s.heap) (t':=t) Un.refl I.hok
theorem Inv.kept {t':Nat} (I:Inv X pins σ H s) (k:∀ b u,s.heap.get? b=some u->h'.get? b=some u):Inv X pins σ H { s with heap:=h',toks:=t' }:=I.un (Un.kept k) (I.hok.kept k)
theorem Inv.laid {a:Addr}{o:HO}{t':Nat} (I:Inv X pins σ H s) (k:∀ b u,s.heap.get? b=some u->h'.get? b=some u) (hp:s.heap.objs.size≤a) (new:dG X.prog X.w (upd H a o) h' a o) :
  Inv X pins σ (upd H a o) { s with heap:=h',toks:=t' }:=I.un (Un.laid k hp (I.hok.fresh hp)) (I.hok.laid k hp new)
theorem Inv.write {x e:Addr}{o:HO}{t':Nat} (I:Inv X pins σ H s) (mu:Mut (H x)) (he:e=x∨H e=some (.own x)) (k:∀ b u,b≠e->s.heap.get? b=some u->h'.get? b=some u) (heo:∃ u,h'.get? e=some u)
  (new:dG X.prog X.w (upd H x o) h' x o):Inv X pins σ (upd H x o) { s with heap:=h',toks:=t' }:=I.un (Un.write mu he k heo) (I.hok.write mu he k heo new)
theorem Inv.Fl {pins':List (Addr×Obj)} (I:Inv X pins σ H s) (h:∀ p∈pins',s.heap.get? p.1=some p.2∧H p.1=none∧p.1≠X.env.locals∧p.1 ∉ X.fs∧∀ v,p.2.data≠.cell v):Inv X pins' σ H s :=
 ⟨I.ok,I.os,I.bare,I.base,I.loc,I.cell,I.free,I.freeC,fun p hp=>(Zad.mp hp).elim (fun z=>I.pin p (Zbh _ z)) (h p),I.hok,I.len⟩
theorem Ac {N:List Str} (hN:N.Nodup) {i j:Nat}{x:Str} (a:N[i]?=some x) (b:N[j]?=some x):i=j:=by
 obtain ⟨h1,e1⟩:=Zab.mp a
 obtain ⟨h2,e2⟩:=Zab.mp b
 exact (List.getElem_inj hN).mp (e1.trans e2.symm)
theorem Hf {M:Model}{A:Around}{E:Value->Shared->Prop}{i:Nat}{x:Str}{v:V}{u:Value}{Q:Unit->Shared->Prop} (I:Inv X pins σ H s) (hN:X.N.Nodup) (hi:X.N[i]?=some x) (hx:Loc X.env.scope x) (r:RelV v u)
  (h:∀ s',Inv X pins (σ.set i (some v)) H s'->(∃ a,Heap.SameBut a s.heap s'.heap∧(a=X.env.locals∨X.env.cells.lookup x=some a))->Q () s') (hf:X.fn x=true∨X.env.scope.names.lookup x=some .local:=by first | exact .inl rfl | exact .inr rfl | assumption):wpAny M A (storeName X.env x u) Q E s:=by
 obtain ⟨m,hn,hl⟩:=id I.loc
 have hcls:(X.env.scope.kind == .class || (X.env.scope.kind == .module && X.env.locals != X.env.globals))=false:=by rw [I.ok.kind];rfl
 have hiσ:i < σ.length:=by rw [I.len];exact (Zab.mp hi).1
 have cne:=I.cne
 have tracked:∀ {a:Addr}{h':Heap},(∃ o,s.heap.get? a=some o∧H a=none)->Heap.SameBut a s.heap h'->HOk X.prog X.w H h':=fun {a h'} ha hs b ob e=>by
  obtain ⟨_,_,hfree⟩:=ha
  refine (I.hok b ob e).stay (fun c w' hc q=>(hs.2 c ?_).trans q) (fun _ q=>q) fun _ _ q=>q
  rintro rfl
  rcases hc with rfl | hc
  ·rw [hfree] at e;cases e
  ·rw [hfree] at hc;cases hc
 rcases hx with hk | hk
 ·refine wpAny_storeName_local hk hn (fun h' hn' hs=>?_) hcls
  obtain ⟨oL,_,_,hoL,_⟩:=id hn
  refine h _ ⟨I.ok,I.os,I.bare,⟨fun b o e n hb hx=>?_,fun b o e n hb hx=>?_,I.base.free,fun b o e hx=>?_,I.base.tups,I.base.frzs,I.base.tbls⟩,⟨_,hn',fun j y v' e1 e2 e3=>?_⟩,fun y c e=>?_,I.free,I.freeC,fun p hp=>?_,tracked ⟨oL,hoL,I.free⟩ hs,by simpa using I.len⟩ ⟨_,hs,.inl rfl⟩
  ·exact (hs.2 b (Zaw (Zap (Zaj e) I.ok.above))).trans (I.base.keep b o e n hb hx)
  ·obtain ⟨sl,e1⟩:=I.base.slot b o e n hb hx
   exact ⟨sl,(hs.2 b (Zaw (Zap (Zaj e) I.ok.above))).trans e1⟩
  ·obtain ⟨o',e1⟩:=I.base.there b o e hx
   exact ⟨o',(hs.2 b (Zaw (Zap (Zaj e) I.ok.above))).trans e1⟩
  ·by_cases hj:j=i
   ·subst hj
    rw [hi] at e1;cases e1
    rw [ZaN hiσ] at e2
    cases e2
    exact ⟨u,r,.inl ⟨hk,by simp⟩⟩
   ·rw [Zam (Za8 hj)] at e2
    obtain ⟨u',r',q⟩:=hl j y v' e1 e2 e3
    refine ⟨u',r',?_⟩
    rcases q with ⟨k,e⟩ | ⟨k,c,e,z⟩
    ·refine .inl ⟨k,?_⟩
     have:y≠x:=fun e=>hj (Ac hN e1 (e ▸ hi))
     simp [this,e]
    ·exact .inr ⟨k,c,e,z.sameBut hs (cne y c e)⟩
  ·obtain ⟨w',z⟩:=I.cell y c e
   exact ⟨w',z.sameBut hs (cne y c e)⟩
  ·obtain ⟨e,n,ne,nf,d⟩:=I.pin p hp
   exact ⟨(hs.2 p.1 ne).trans e,n,ne,nf,d⟩
 ·have hfn:X.fn x=true:=by
   rcases hf with z | z
   ·exact z
   ·rw [z] at hk;cases hk
  obtain ⟨c,hc⟩:=I.ok.has x (.inl hk)
  obtain ⟨w',z⟩:=I.cell x c hc
  refine wpAny_storeName_cell I.ok.kind hk hc z (fun h' hc' hs=>?_)
  obtain ⟨oc,hoc,hocd⟩:=id z
  refine h { s with heap:=h' } ⟨I.ok,I.os,I.bare,⟨fun b o e n hb hx=>?_,fun b o e n hb hx=>?_,I.base.free,fun b o e hx=>?_,I.base.tups,I.base.frzs,I.base.tbls⟩,⟨m,hn.sameBut hs (Za8 (cne x c hc)),fun j y v' e1 e2 e3=>?_⟩,fun y c' e=>?_,I.free,I.freeC,fun p hp=>?_,tracked ⟨oc,hoc,I.freeC x c hc⟩ hs,by simpa using I.len⟩ ⟨c,hs,.inr hc⟩
  ·exact (hs.2 b (Zaw (Zap (Zaj e) (I.ok.cab x c hfn hc)))).trans (I.base.keep b o e n hb hx)
  ·obtain ⟨sl,e1⟩:=I.base.slot b o e n hb hx
   exact ⟨sl,(hs.2 b (Zaw (Zap (Zaj e) (I.ok.cab x c hfn hc)))).trans e1⟩
  ·obtain ⟨o',e1⟩:=I.base.there b o e hx
   exact ⟨o',(hs.2 b (Zaw (Zap (Zaj e) (I.ok.cab x c hfn hc)))).trans e1⟩
  ·by_cases hj:j=i
   ·subst hj
    rw [hi] at e1;cases e1
    rw [ZaN hiσ] at e2
    cases e2
    exact ⟨u,r,.inr ⟨.inl hk,c,hc,hc'⟩⟩
   ·rw [Zam (Za8 hj)] at e2
    obtain ⟨u',r',q⟩:=hl j y v' e1 e2 e3
    refine ⟨u',r',?_⟩
    rcases q with q | ⟨k,c',e,z'⟩
    ·exact .inl q
    ·refine .inr ⟨k,c',e,z'.sameBut hs ?_⟩
     rintro rfl
     exact hj (Ac hN e1 (I.ok.inj _ _ _ e hc ▸ hi))
  ·by_cases hcc:c'=c
   ·subst hcc;exact ⟨_,hc'⟩
   ·obtain ⟨w2,z2⟩:=I.cell y c' e
    exact ⟨w2,z2.sameBut hs hcc⟩
  ·obtain ⟨e,n,ne,nf,d⟩:=I.pin p hp
   refine ⟨(hs.2 p.1 ?_).trans e,n,ne,nf,d⟩
   intro q
   rw [q,hoc] at e
   have q':oc=p.2:=Zaa e
   exact d w' (by rw [←q'];exact hocd)
theorem Ad {M:Model}{A:Around}{E:Value->Shared->Prop}{i:Nat}{x:Str}{v:V}{u:Value}{Q:Unit->Shared->Prop} (I:Inv X pins σ H s) (hN:X.N.Nodup) (hi:X.N[i]?=some x) (hx:Loc X.env.scope x) (r:RelV v u)
  (h:∀ s',Inv X pins (σ.set i (some v)) H s'->Q () s') (hf:X.fn x=true∨X.env.scope.names.lookup x=some .local:=by first | exact .inl rfl | exact .inr rfl | assumption):wpAny M A (storeName X.env x u) Q E s :=
 Hf I hN hi hx r (fun s' I' _=>h s' I') hf
theorem Inv.call' {s':Shared}{ch:List Addr} (I:Inv X pins σ H s) (ho:s'.os=s.os) (u:Un (frs X.stack) ch H H' s.heap s'.heap) (hok:HOk X.prog X.w H' s'.heap) (hg:AllBare s'.gens)
  (hch:∀ b∈ch,(b∈X.ex∨X.s₀.heap.objs.size≤b)∧b≠X.env.locals∧(∀ x c,X.env.cells.lookup x=some c->c≠b)∧∀ p∈X.pn++pins,p.1≠b):Inv X pins σ H' s':=by
 obtain ⟨h',g',d',t',o'⟩:=s'
 have e:o'=s.os:=ho
 subst e
 exact I.call (g':=g') (t':=t') (d':=d') u hok hg hch
end
noncomputable abbrev XK:=Value->Option Addr->Hp->Prop
noncomputable abbrev St:=List (Option V)
noncomputable abbrev VK:=V->Hp->Prop
noncomputable abbrev TE:=St->Hp->VK->Prop
noncomputable abbrev TT:=St->Hp->(Bool->Hp->Prop)->Prop
noncomputable abbrev TA:=St->Hp->(List V->Hp->Prop)->Prop
structure Ends where
 nx:St->Hp->Prop
 rt:VK
 bk:St->Hp->Prop:=fun _ _=>False
 ct:St->Hp->Prop:=fun _ _=>False
noncomputable abbrev TS:=Ends->St->Hp->Prop
noncomputable def EP (X:Cx) (pins:List (Addr×Obj)) (σ:St) (Q:VK) (u:Value) (s':Shared):Prop:=∃ v H',Inv X pins σ H' s'∧RelV v u∧Q v H'
noncomputable def TP (X:Cx) (pins:List (Addr×Obj)) (σ:St) (Q:Bool->Hp->Prop) (b:Bool) (s':Shared):Prop:=∃ H',Inv X pins σ H' s'∧Q b H'
noncomputable def AP (X:Cx) (pins:List (Addr×Obj)) (σ:St) (Q:List V->Hp->Prop) (us:List Value) (s':Shared):Prop:=∃ vs H',Inv X pins σ H' s'∧Vals vs us∧Q vs H'
noncomputable def SP (X:Cx) (pins:List (Addr×Obj)) (D:Ends) (f:Flow) (s':Shared):Prop :=
 match f with
 | .next=>∃ σ' H',Inv X pins σ' H' s'∧D.nx σ' H'
 | .brk=>∃ σ' H',Inv X pins σ' H' s'∧D.bk σ' H'
 | .cont=>∃ σ' H',Inv X pins σ' H' s'∧D.ct σ' H'
 | .ret u=>∃ v σ' H',Inv X pins σ' H' s'∧RelV v u∧D.rt v H'
noncomputable def PE (X:Cx) (e:Expr) (t:TE):Prop :=
 ∀ (pins:List (Addr×Obj)) (s:Shared) (σ:St) (H:Hp) (Q:VK),Inv X pins σ H s->t σ H Q->wpAny (model X.prog X.w) X.A (eval e X.env) (EP X pins σ Q) X.xe s
noncomputable def PT (X:Cx) (e:Expr) (t:TT):Prop :=
 ∀ (pins:List (Addr×Obj)) (s:Shared) (σ:St) (H:Hp) (Q:Bool->Hp->Prop),Inv X pins σ H s->t σ H Q->wpAny (model X.prog X.w) X.A (isTrue e X.env (eval e X.env)) (TP X pins σ Q) X.xe s
noncomputable def PW (X:Cx) (e:Expr) (t:TT):Prop :=
 ∀ (whole:Sem Value) (pins:List (Addr×Obj)) (s:Shared) (σ:St) (H:Hp) (Q:Bool->Hp->Prop),Inv X pins σ H s->t σ H Q->wpAny (model X.prog X.w) X.A (isTrue e X.env whole) (TP X pins σ Q) X.xe s
theorem PW.pt {X:Cx}{e:Expr}{t:TT} (h:PW X e t):PT X e t:=h _
noncomputable def PA (X:Cx) (es:List Expr) (t:TA):Prop :=
 ∀ (pos:Pos) (pins:List (Addr×Obj)) (s:Shared) (σ:St) (H:Hp) (Q:List V->Hp->Prop),Inv X pins σ H s->t σ H Q->wpAny (model X.prog X.w) X.A (spliced (backTo pos (starEach es X.env))) (AP X pins σ Q) X.xe s
noncomputable def PS (X:Cx) (st:Stmt) (t:TS):Prop :=
 ∀ (pins:List (Addr×Obj)) (s:Shared) (σ:St) (H:Hp) (D:Ends),Inv X pins σ H s->t D σ H->wpAny (model X.prog X.w) X.A (exec st X.env) (SP X pins D) X.xe s
noncomputable def PSs (X:Cx) (st:List Stmt) (t:TS):Prop :=
 ∀ (pins:List (Addr×Obj)) (s:Shared) (σ:St) (H:Hp) (D:Ends),Inv X pins σ H s->t D σ H->wpAny (model X.prog X.w) X.A (execs st X.env) (SP X pins D) X.xe s
theorem thn {α:Type}{t:Sem α}{Q Q':α->Shared->Prop}{M:Model}{A:Around}{E:Value->Shared->Prop}{s:Shared} (h:wpAny M A t Q E s) (hQ:∀ a s,Q a s->Q' a s):wpAny M A t Q' E s:=wpAny_mono h hQ fun _ _ x=>x
section
variable {X:Cx}
noncomputable def lD (i:Nat):TE:=fun σ H Q=>∃ v,σ[i]?=some (some v)∧Q v H
noncomputable def tC (v:V):TE:=fun _ H Q=>Q v H
theorem Du {i:Nat}{x:Str}{pos:Pos} (hN:X.N[i]?=some x) (hv:Vis X.env.scope x) (hd:(x == ("__debug__":Str))=false:=by decide) (hcd:(x == ("__classdict__":Str))=false:=by decide):PE X (.Name x pos) (lD i):=by
 intro pins s σ H Q I h
 obtain ⟨v,e,h⟩:=h
 obtain ⟨m,hn,hl⟩:=I.loc
 obtain ⟨u,r,l⟩:=hl i x v hN e hv
 have fin:EP X pins σ Q u s:=⟨v,H,I,r,h⟩
 rcases l with ⟨hk,hm⟩ | ⟨hk,c,hc,hcell⟩
 ·exact wpAny_Name (wpAny_loadName_local I.ok.kind hk hn hm fin) hd
 ·rcases hk with hk | hk
  ·exact wpAny_Name (wpAny_loadName_cell I.ok.kind hk hc hcell fin) hd
  ·exact wpAny_Name (wpAny_loadName_free I.ok.kind hk hc hcell fin hcd) hd
theorem aq {i j pos}:PE X (.Constant (.int i) j pos) (tC (.int i)):=fun _ _ _ H _ I h=>wpAny_Constant_int ⟨.int i,H,I.tok _,⟨_,rfl⟩,h⟩
theorem O5 {b j pos}:PE X (.Constant (.bool b) j pos) (tC (.bl b)):=fun _ _ _ H _ I h=>Constant_bool ⟨.bl b,H,I,rfl,h⟩
theorem Ji {j pos}:PE X (.Constant .none j pos) (tC .non):=fun _ _ _ H _ I h=>Constant_none ⟨.non,H,I,rfl,h⟩
noncomputable def Gl (X:Cx) (x:Str):Prop:=X.env.kindOf x=some .globalImplicit
theorem Fo {E:Value->Shared->Prop}{pins:List (Addr×Obj)}{s:Shared}{σ:St}{H:Hp}{x:Str}{u:Value}{pos:Pos}{Q:Value->Shared->Prop} (I:Inv X pins σ H s) (hg:Gl X x) (hm:X.mg x=some u) (h:Q u s)
  (hd:(x == ("__debug__":Str))=false:=by decide):wpAny (model X.prog X.w) X.A (eval (.Name x pos) X.env) Q E s :=
 Calls.Name_function_global I.ok.kind hg (Calls.loadGlobal_global (by rw [I.ok.glob];exact I.mod.glob.keeps I.bk) hm h) hd
theorem rM {E:Value->Shared->Prop}{pins:List (Addr×Obj)}{s:Shared}{σ:St}{H:Hp}{x:Str}{u:Value}{pos:Pos}{Q:Value->Shared->Prop} (I:Inv X pins σ H s) (hg:Gl X x) (hm:X.mg x=none) (hv:bootBuiltins x=some u) (h:Q u s)
  (hn:x≠"__name__":=by decide) (hd:(x == ("__debug__":Str))=false:=by decide):wpAny (model X.prog X.w) X.A (eval (.Name x pos) X.env) Q E s:=by
 obtain ⟨mb,h1,h2⟩:=I.mod.blt
 exact Calls.Name_function_global I.ok.kind hg (Calls.loadGlobal_builtin (by rw [I.ok.glob];exact I.mod.glob.keeps I.bk) hm (by rw [I.ok.blt];exact h1.keeps I.bk) ((h2 x hn).trans hv) h) hd
theorem Ma {x:Str}{v:V}{u:Value}{pos:Pos} (hg:Gl X x) (hm:X.mg x=some u) (r:RelV v u) (hd:(x == ("__debug__":Str))=false:=by decide):PE X (.Name x pos) (tC v) :=
 fun _ _ _ H _ I h=>Fo I hg hm ⟨v,H,I,r,h⟩ hd
variable {a b:Expr}{ta tb:TE}{pos:Pos}
noncomputable def tB (t:TE):TT:=fun σ H Q=>t σ H fun x H1=>∃ c,x=.bl c∧Q c H1
theorem Jj {e:Expr}{t:TE} (h:PE X e t) (he:∀ whole,isTrue e X.env whole=(do let v ←whole;standAt e.pos;holding [v] (truthy v)):=by intro _;rfl):PT X e (tB t):=by
 intro pins s σ H Q I hw
 refine isTrue_plain (thn (h pins s σ H _ I hw) ?_) (he _)
 rintro v s1 ⟨x,H1,I1,r1,q1⟩
 obtain ⟨d,rfl,q⟩:=q1
 cases r1
 exact wpAny_truthy_bool ⟨H1,I1,q⟩
variable {tA tB':TT}{rest:List Expr}
noncomputable def tOr (t u:TT):TT:=fun σ H Q=>t σ H fun c H1=>if c=true then Q true H1 else u σ H1 Q
theorem Qp (ha:PT X a tA):PW X (.BoolOp .Or [a] pos) tA:=by
 intro wh pins s σ H Q I h
 refine isTrue_or (thn (ha pins s σ H Q I h) fun c s1 e=>?_)
 cases c with
 | false=>exact isTrue_or_nil e
 | true=>exact e
theorem R7 (ha:PT X a tA) (hb:PW X (.BoolOp .Or (b::rest) pos) tB'):PW X (.BoolOp .Or (a::b::rest) pos) (tOr tA tB'):=by
 intro wh pins s σ H Q I h
 refine isTrue_or (thn (ha pins s σ H _ I h) ?_)
 rintro c s1 ⟨H1,I1,q1⟩
 cases c with
 | true=>exact ⟨H1,I1,q1⟩
 | false=>exact hb wh pins s1 σ H1 Q I1 q1
noncomputable def tIf (t:TT) (ta tb:TE):TE:=fun σ H Q=>t σ H fun c H1=>if c=true then ta σ H1 Q else tb σ H1 Q
theorem Ae {c:Expr} (hc:PT X c tA) (ha:PE X a ta) (hb:PE X b tb):PE X (.IfExp c a b pos) (tIf tA ta tb):=by
 intro pins s σ H Q I h
 refine wpAny_IfExp (thn (hc pins s σ H _ I h) ?_)
 rintro d s1 ⟨H1,I1,q1⟩
 cases d with
 | true=>exact ha pins s1 σ H1 Q I1 q1
 | false=>exact hb pins s1 σ H1 Q I1 q1
end
noncomputable def SqL (K:PySem.W.Frag) (H:Hp) (a:Addr) (xs:List V):Prop :=
 Rd H a (.lst xs) ∨
  ∃ (o:Obj) (its:Array Value) (n:Nat),K.lookup a=some o∧o.cls=.type "list"∧o.dict=none∧o.data=.seq its n∧its.size≤sizeLine∧Vals xs its.toList
noncomputable def SqT (K:PySem.W.Frag) (H:Hp) (a:Addr) (xs:List V):Prop :=
 Rd H a (.tup xs) ∨
  ∃ (o:Obj) (its:Array Value) (n:Nat),K.lookup a=some o∧o.cls=.type "tuple"∧o.data=.seq its n∧its.size≤sizeLine∧Vals xs its.toList
noncomputable def Uc:Value->Option V
 | .none=>some .non
 | .bool b=>some (.bl b)
 | .int i _=>some (.int i)
 | .str x _=>some (.str x)
 | .bytes b _=>some (.byt b)
 | .float b _=>some (.flt b)
 | .ref a=>some (.ref a)
 | .type n=>some (.ty n)
 | _=>none
theorem RelV.abs {x:V}{u:Value} (r:RelV x u):Uc u=some x:=by
 cases x with
 | non=>cases r;rfl
 | bl _=>cases r;rfl
 | int _=>obtain ⟨t,rfl⟩:=r;rfl
 | str _=>obtain ⟨t,rfl⟩:=r;rfl
 | byt _=>obtain ⟨t,rfl⟩:=r;rfl
 | flt _=>obtain ⟨t,rfl⟩:=r;rfl
 | ref _=>cases r;rfl
 | ty _=>cases r;rfl
theorem RelV.inj {x y:V}{u:Value} (r:RelV x u) (q:RelV y u):x=y:=Zaa (r.abs.symm.trans q.abs)
theorem Vals.inj:∀ {xs ys:List V}{us:List Value},Vals xs us->Vals ys us->xs=ys
 | _,_,_,.nil,.nil=>rfl
 | _,_,_,.cons r t,.cons r' t'=>by rw [r.inj r',Vals.inj t t']
section
variable {X:Cx}{pins:List (Addr×Obj)}{σ:St}{H:Hp}{s:Shared}{a:Addr}{xs ys:List V}
theorem SqL.of {K:PySem.W.Frag} (h:H a=some (.lst xs)):SqL K H a xs:=.inl (.inl h)
theorem SqT.of {K:PySem.W.Frag} (h:H a=some (.tup xs)):SqT K H a xs:=.inl (.inl h)
theorem Inv.list (I:Inv X pins σ H s) (h:SqL X.K H a xs):∃ its:List Value,Vals xs its∧PlainL s.heap a its.toArray∧xs.length≤sizeLine:=by
 rcases h with h | ⟨o,its,n,hk,hc,hd,hs,hz,r⟩
 ·obtain ⟨z,its,n,r,e⟩:=h.ok I.hok
  exact ⟨its,r,⟨_,n,e,rfl,rfl,rfl⟩,z⟩
 ·refine ⟨its.toList,r,⟨o,n,I.kIn a o hk,hc,hd,by simpa using hs⟩,?_⟩
  have e:=r.length
  simp only [ZaT] at e
  lia
theorem Inv.tuple (I:Inv X pins σ H s) (h:SqT X.K H a xs):∃ its:List Value,Vals xs its∧IsTup s.heap a its.toArray∧xs.length≤sizeLine:=by
 rcases h with h | ⟨o,its,n,hk,hc,hs,hz,r⟩
 ·obtain ⟨z,its,r,p⟩:=h.ok I.hok
  exact ⟨its,r,p.1,z⟩
 ·refine ⟨its.toList,r,⟨o,I.kIn a o hk,hc,n,by simpa using hs⟩,?_⟩
  have e:=r.length
  simp only [ZaT] at e
  omega
theorem Inv.mR (I:Inv X pins σ H s) (h:SqL X.K H a xs) (h':SqL X.K H a ys):xs=ys:=by
 obtain ⟨its,r,⟨o,n,e,_,_,d⟩,_⟩:=I.list h
 obtain ⟨its',r',⟨o',n',e',_,_,d'⟩,_⟩:=I.list h'
 rw [e] at e';cases e'
 rw [d] at d'
 injection d' with d1 _
 have:its=its':=by simpa using congrArg Array.toList d1
 subst this
 exact r.inj r'
theorem Inv.wX (I:Inv X pins σ H s) (h:SqT X.K H a xs) (h':SqT X.K H a ys):xs=ys:=by
 obtain ⟨its,r,⟨o,e,_,n,d⟩,_⟩:=I.tuple h
 obtain ⟨its',r',⟨o',e',_,n',d'⟩,_⟩:=I.tuple h'
 rw [e] at e';cases e'
 rw [d] at d'
 injection d' with d1 _
 have:its=its':=by simpa using congrArg Array.toList d1
 subst this
 exact r.inj r'
end
noncomputable abbrev Cx.wish (X:Cx) (E:Value->Shared->Prop):Cx:={ X with xe:=E }
noncomputable abbrev Cx.nox (X:Cx):Cx:=X.wish fun _ _=>False
theorem Cx.Ok.wish {X:Cx} (ok:X.Ok) (E:Value->Shared->Prop):(X.wish E).Ok :=
 ⟨ok.mod,ok.kind,ok.glob,ok.blt,ok.above,ok.inj,ok.has,ok.cab,ok.hd,ok.frames,ok.stk,ok.exf,ok.bs,ok.bsz,ok.noex,ok.exfs,ok.tW,ok.frf⟩
theorem Cx.Ok.mU {X:Cx}{E:Value->Shared->Prop} (ok:(X.wish E).Ok):X.Ok :=
 ⟨ok.mod,ok.kind,ok.glob,ok.blt,ok.above,ok.inj,ok.has,ok.cab,ok.hd,ok.frames,ok.stk,ok.exf,ok.bs,ok.bsz,ok.noex,ok.exfs,ok.tW,ok.frf⟩
section
variable {X:Cx}{pins:List (Addr×Obj)}{σ:St}{H:Hp}{s:Shared}{E:Value->Shared->Prop}
theorem Inv.wish (I:Inv X pins σ H s) (E:Value->Shared->Prop):Inv (X.wish E) pins σ H s:=⟨I.ok.wish E,I.os,I.bare,I.base,I.loc,I.cell,I.free,I.freeC,I.pin,I.hok,I.len⟩
theorem Inv.mU (I:Inv (X.wish E) pins σ H s):Inv X pins σ H s:=⟨I.ok.mU,I.os,I.bare,I.base,I.loc,I.cell,I.free,I.freeC,I.pin,I.hok,I.len⟩
theorem SP.mU {D:Ends}{f:Flow}{s':Shared} (h:SP (X.wish E) pins D f s'):SP X pins D f s':=by
 cases f with
 | next=>obtain ⟨σ',H',I,q⟩:=h;exact ⟨σ',H',I.mU,q⟩
 | brk=>obtain ⟨σ',H',I,q⟩:=h;exact ⟨σ',H',I.mU,q⟩
 | cont=>obtain ⟨σ',H',I,q⟩:=h;exact ⟨σ',H',I.mU,q⟩
 | ret u=>obtain ⟨v,σ',H',I,r,q⟩:=h;exact ⟨v,σ',H',I.mU,r,q⟩
theorem PSs.nox {st:List Stmt}{t:TS} (h:PSs X.nox st t):PSs X st t:=fun pins s σ H D I hw =>
 wpAny_mono (h pins s σ H D (I.wish _) hw) (fun _ _ q=>q.mU) fun _ _ z=>False.elim z
end
section
variable {X:Cx}{st:Stmt}{rest:List Stmt}{t u:TS}{e:Expr}{te:TE}{pos:Pos}
noncomputable def O6:TS:=fun D σ H=>D.nx σ H
noncomputable def Qq (t u:TS):TS:=fun D σ H=>t { D with nx:=u D } σ H
theorem dg:PSs X [] O6:=fun _ _ σ H _ I h=>wpAny_execs_nil ⟨σ,H,I,h⟩
theorem aC (h1:PS X st t) (h2:PSs X rest u):PSs X (st::rest) (Qq t u):=by
 intro pins s σ H D I h
 refine wpAny_execs_cons (thn (h1 pins s σ H { D with nx:=u D } I h) fun f s1 q=>?_)
 cases f with
 | next =>
  obtain ⟨σ',H',I',q⟩:=q
  exact h2 pins s1 σ' H' D I' q
 | ret v=>exact q
 | brk=>exact q
 | cont=>exact q
theorem aU (h1:PS X st t):PSs X [st] t:=by
 intro pins s σ H D I h
 refine wpAny_execs_cons (thn (h1 pins s σ H D I h) fun f s1 q=>?_)
 cases f with
 | next=>exact wpAny_execs_nil q
 | ret v=>exact q
 | brk=>exact q
 | cont=>exact q
noncomputable def O7:TS:=fun D σ H=>D.ct σ H
theorem Af:PS X (.Continue pos) O7:=fun _ _ σ H _ I h=>wpAny_Continue ⟨σ,H,I,h⟩
theorem Inv.quiet {pins:List (Addr×Obj)}{σ:St}{H:Hp}{s:Shared} (I:Inv X pins σ H s):interactive X.env=false:=by simp [interactive,I.ok.kind]
noncomputable def Fp (te:TE):TS:=fun D σ H=>te σ H fun _ H1=>D.nx σ H1
theorem yr (he:PE X e te) (hs:swapsWith e none pos.line X.env=pure false:=by rfl):PS X (.Expr e pos) (Fp te):=by
 intro pins s σ H D I h
 exact wpAny_Expr_any (thn (he pins s σ H _ I h) fun v s1 ⟨x,H1,I1,r1,q1⟩=>⟨σ,H1,I1,q1⟩) I.quiet hs
noncomputable def Hg (te:TE):TS:=fun D σ H=>te σ H D.rt
theorem bM (he:PE X e te):PS X (.Return (some e) pos) (Hg te):=by
 intro pins s σ H D I h
 exact wpAny_Return_some (thn (he pins s σ H _ I h) fun v s1 ⟨x,H1,I1,r1,q1⟩=>⟨x,σ,H1,I1,r1,q1⟩)
noncomputable def R8 (c:TT) (t u:TS):TS:=fun D σ H=>c σ H fun b H1=>if b=true then t D σ H1 else u D σ H1
theorem gO {c:Expr}{a b:List Stmt}{tc:TT} (hc:PT X c tc) (ha:PSs X a t) (hb:PSs X b u):PS X (.If c a b pos) (R8 tc t u):=by
 intro pins s σ H D I h
 refine wpAny_If (thn (hc pins s σ H _ I h) ?_)
 rintro d s1 ⟨H1,I1,q1⟩
 cases d with
 | true=>exact ha pins s1 σ H1 D I1 q1
 | false=>exact hb pins s1 σ H1 D I1 q1
noncomputable def Jk:TS:=fun _ _ _=>False
theorem Jl:PS X st Jk:=fun _ _ _ _ _ _ h=>h.elim
end
noncomputable abbrev TG:=V->St->Hp->(St->Hp->Prop)->Prop
noncomputable abbrev TGs:=List V->St->Hp->(St->Hp->Prop)->Prop
noncomputable def PG (X:Cx) (target:Expr) (t:TG):Prop :=
 ∀ (pins:List (Addr×Obj)) (s:Shared) (σ:St) (H:Hp) (v:V) (u:Value) (Q:St->Hp->Prop),Inv X pins σ H s->RelV v u->t v σ H Q ->
  wpAny (model X.prog X.w) X.A (assign target X.env u) (fun _ s'=>∃ σ' H',Inv X pins σ' H' s'∧Q σ' H') X.xe s
noncomputable def PGs (X:Cx) (ts:List Expr) (t:TGs):Prop :=
 ∀ (pins:List (Addr×Obj)) (s:Shared) (σ:St) (H:Hp) (vs:List V) (us:List Value) (Q:St->Hp->Prop),Inv X pins σ H s->Vals vs us->t vs σ H Q ->
  wpAny (model X.prog X.w) X.A (assignInOrder ((assignEach ts X.env).map (·.2)) us) (fun _ s'=>∃ σ' H',Inv X pins σ' H' s'∧Q σ' H') X.xe s
section
variable {X:Cx}{pos:Pos}
noncomputable def uD (i:Nat):TG:=fun v σ H Q=>Q (σ.set i (some v)) H
theorem dB {i:Nat}{x:Str} (hN:X.N.Nodup) (hi:X.N[i]?=some x) (hx:Loc X.env.scope x) (hf:X.fn x=true∨X.env.scope.names.lookup x=some .local:=by first | exact .inl rfl | exact .inr rfl | assumption):PG X (.Name x pos) (uD i):=by
 intro pins s σ H v u Q I r h
 exact wpAny_assign_Name (Ad I hN hi hx r (fun s' I'=>⟨_,H,I',h⟩) hf)
noncomputable def R9:TGs:=fun vs σ H Q=>vs=[]∧Q σ H
noncomputable def O8 (t:TG) (u:TGs):TGs:=fun vs σ H Q=>∃ v r,vs=v::r∧t v σ H fun σ' H'=>u r σ' H' Q
theorem n6:PGs X [] R9:=by
 intro pins s σ H vs us Q I r h
 obtain ⟨e,h⟩:=h
 subst e
 cases r
 exact assignInOrder_nil ⟨σ,H,I,h⟩
theorem dU {e:Expr}{es:List Expr}{t:TG}{u:TGs} (h1:PG X e t) (h2:PGs X es u)
  (hs:(assignEach (e::es) X.env).map (·.2)=assign e X.env::(assignEach es X.env).map (·.2):=by rfl):PGs X (e::es) (O8 t u):=by
 intro pins s σ H vs us Q I r h
 obtain ⟨v,vr,e1,h⟩:=h
 subst e1
 cases r with
 | cons r rr =>
  rw [hs]
  refine assignInOrder_cons (thn (h1 pins s σ H _ _ _ I r h) ?_)
  rintro _ s1 ⟨σ1,H1,I1,q1⟩
  exact h2 pins s1 σ1 H1 _ _ Q I1 rr q1
noncomputable def Qs (K:PySem.W.Frag) (n:Nat) (t:TGs):TG:=fun v σ H Q=>∃ a xs,v=.ref a∧SqT K H a xs∧xs.length=n∧t xs σ H Q
theorem Qt {es:List Expr}{k:Nat}{t:TGs}{n:Nat} (hc:X.calm=true) (h:PGs X es t)
  (hn:(assignEach es X.env).length=n:=by rfl) (hst:(assignEach es X.env).findIdx? (·.1)=none:=by rfl):PG X (.Tuple es k pos) (Qs X.K n t):=by
 intro pins s σ H v u Q I r hw
 obtain ⟨a,xs,e1,hq,hl,hw⟩:=hw
 subst e1
 cases r
 obtain ⟨its,rv,ht,hz⟩:=I.tuple hq
 refine assign_Tuple_tuple (I.ok.hd hc) ht (by simp [hn,←hl,rv.length]) hst fun h' hx=>?_
 have I1:Inv X pins σ H { s with heap:=h' }:=I.kept (t':=s.toks) fun b o e=>hx b o (Zaw (Zaj e)) e
 exact h pins _ σ H xs _ Q I1 (by simpa using rv) hw
noncomputable def Hh (te:TE) (g:TG):TS:=fun D σ H=>te σ H fun x H1=>g x σ H1 D.nx
theorem Jm {tg e:Expr}{te:TE}{g:TG} (he:PE X e te) (hg:PG X tg g) (hs:swapsWithSole [tg] e pos.line X.env=pure false:=by rfl) (hw:swappedStores [tg] e X.env=pure none:=by rfl)
  (h1:(assignEach [tg] X.env).map (·.2)=[assign tg X.env]:=by rfl):PS X (.Assign [tg] e pos) (Hh te g):=by
 intro pins s σ H D I h
 refine wpAny_Assign_stores (thn (he pins s σ H _ I h) ?_) hs hw
 rintro v s1 ⟨x,H1,I1,r1,q1⟩
 rw [h1]
 exact thn (hg pins s1 σ H1 x v _ I1 r1 q1) fun _ s2 q=>q
theorem aX {i:Nat}{x:Str}{e:Expr}{te:TE}{pos':Pos} (hN:X.N.Nodup) (hi:X.N[i]?=some x) (hx:Loc X.env.scope x) (he:PE X e te) (hs:swapsWith e (some (.Name x pos')) pos.line X.env=pure false:=by rfl) (hf:X.fn x=true∨X.env.scope.names.lookup x=some .local:=by first | exact .inl rfl | exact .inr rfl | assumption) :
  PS X (.Assign [.Name x pos'] e pos) (Hh te (uD i)):=by
 intro pins s σ H D I h
 refine wpAny_Assign_Name (thn (he pins s σ H _ I h) ?_) hs
 rintro v s1 ⟨y,H1,I1,r1,q1⟩
 exact Ad I1 hN hi hx r1 (fun s2 I2=>⟨_,H1,I2,q1⟩) hf
end
section
variable {X:Cx}{pos:Pos}
noncomputable def Dv (c:TT) (tb:TS):TS:=fun D σ H=>∃ W:Nat->St->Hp->Prop,(∃ m,W m σ H)∧∀ m σ H,W m σ H ->
 c σ H fun b H1=>if b=true then ∃ N:St->Hp->Prop,(∀ σ' H',N σ' H'->∃ m',m' < m∧W m' σ' H')∧tb { D with nx:=N,ct:=N,bk:=D.nx } σ H1 else D.nx σ H1
theorem Ag {c:Expr}{body:List Stmt}{tc:TT}{tb:TS} (hp:PassesOwn (model X.prog X.w) X.A X.env X.xe) (hc:PT X c tc) (hb:PSs X body tb):PS X (.While c body [] pos) (Dv tc tb):=by
 intro pins s σ H D I h
 obtain ⟨W,⟨m0,w0⟩,turn⟩:=h
 refine wpAny_While (codeAny_whileLoop (fun n s'=>∃ σ' H',Inv X pins σ' H' s'∧W n σ' H') ?_ m0 ⟨σ,H,I,w0⟩)
 rintro n s1 ⟨σ1,H1,I1,w1⟩
 refine wpAny_passesOwn hp (thn (hc pins s1 σ1 H1 _ I1 (turn n σ1 H1 w1)) ?_)
 rintro b s2 ⟨H2,I2,q2⟩
 cases b with
 | true =>
  obtain ⟨N,hN,q2⟩:=q2
  rw [if_pos rfl]
  refine wpAny_passesOwn hp (thn (hb pins s2 σ1 H2 _ I2 q2) fun f s3 q3=>?_)
  cases f with
  | next =>
   obtain ⟨σ3,H3,I3,n3⟩:=q3
   obtain ⟨m',hm,w3⟩:=hN σ3 H3 n3
   exact ⟨m',hm,σ3,H3,I3,w3⟩
  | cont =>
   obtain ⟨σ3,H3,I3,n3⟩:=q3
   obtain ⟨m',hm,w3⟩:=hN σ3 H3 n3
   exact ⟨m',hm,σ3,H3,I3,w3⟩
  | brk=>exact q3
  | ret v=>exact q3
 | false =>
  rw [if_neg Zbb]
  exact wpAny_execs_nil ⟨σ1,H2,I2,q2⟩
end
structure It where
 go:Nat->Hp->Prop
 yld:Nat->Hp->V->Hp->Prop
 stop:Nat->Hp->Prop
noncomputable def uE (X:Cx) (pins:List (Addr×Obj)) (H:Hp) (b:Addr):Prop :=
 H b=none∧b≠X.env.locals∧b ∉ X.fs∧(b∈X.ex∨X.s₀.heap.objs.size≤b)∧(∀ x c,X.env.cells.lookup x=some c->c≠b)∧∀ p∈X.pn++pins,p.1≠b
theorem Inv.Ah {X:Cx}{pins:List (Addr×Obj)}{σ:St}{H H':Hp}{s:Shared}{b:Addr} (I:Inv X pins σ H s) (hb:s.heap.objs.size≤b) (hn:H' b=none):uE X pins H' b:=by
 refine ⟨hn,Nat.ne_of_gt (Zap I.lt hb),I.Ub hb,.inr (Zaz I.sz hb),fun x c e z=>?_,fun p hp z=>?_⟩
 ·obtain ⟨v,q⟩:=I.cell x c e
  exact absurd (Zap q.lt (by rw [z];exact hb)) (Zby _)
 ·exact absurd (Zap (Zaj (I.pin p hp).1) (by rw [z];exact hb)) (Zby _)
structure Turn (P:Program) (w:World) (K:PySem.W.Frag) (tg:Expr) (J:It) (fp:List Addr) (it:Addr) (tn:Nat->Heap->Prop):Prop where
 mem:it∈fp
 obj:∀ i h,tn i h->∀ b∈fp,∃ o,h.get? b=some o∧∀ v,o.data≠.cell v
 keep:∀ i h h',tn i h->(∀ b∈fp,∀ o,h.get? b=some o->h'.get? b=some o)->tn i h'
 item:∀ (X:Cx),X.prog=P->X.w=w->X.K=K->X.calm=true->∀ (i:Nat) (pins:List (Addr×Obj)) (s:Shared) (σ:St) (H:Hp) (E:Value->Shared->Prop),Inv X pins σ H s->(∀ b∈fp,uE X pins H b)->tn i s.heap->J.go i H ->
  wpAny (model P w) X.A (pyNext (.ref it)) (fun r s1=>∃ u,r=some u ∧
   wpAny (model P w) X.A (letOwnedTupleGo tg (.ref it) u) (fun _ s2=>∃ x H',Inv X pins σ H' s2∧RelV x u∧J.yld i H x H'∧tn (i+1) s2.heap∧∀ b∈fp,H' b=none) E s1) E s
 done:∀ (X:Cx),X.prog=P->X.w=w->X.K=K->X.calm=true->∀ (i:Nat) (pins:List (Addr×Obj)) (s:Shared) (σ:St) (H:Hp) (E:Value->Shared->Prop),Inv X pins σ H s->(∀ b∈fp,uE X pins H b)->tn i s.heap->J.stop i H ->
  wpAny (model P w) X.A (pyNext (.ref it)) (fun r s1=>r=none∧Inv X pins σ H s1) E s
 self:∀ (A:Around) (i:Nat) (s:Shared) (Q:Value->Shared->Prop) (E:Value->Shared->Prop),tn i s.heap->Q (.ref it) s->wpAny (model P w) A (pyIter (.ref it)) Q E s
noncomputable abbrev TI:=St->Hp->(It->Hp->Prop)->Prop
noncomputable def PIE (X:Cx) (pins:List (Addr×Obj)) (σ:St) (tg:Expr) (R:It->Hp->Prop) (itv:Value) (s2:Shared):Prop :=
 ∃ (it:Addr) (fp:List Addr) (tn:Nat->Heap->Prop) (J:It) (H':Hp),itv=.ref it∧Inv X pins σ H' s2∧Turn X.prog X.w X.K tg J fp it tn∧tn 0 s2.heap∧(∀ b∈fp,uE X pins H' b)∧R J H'
noncomputable def PI (X:Cx) (tg iter:Expr) (wi:TI):Prop :=
 ∀ (pins:List (Addr×Obj)) (s:Shared) (σ:St) (H:Hp) (R:It->Hp->Prop),Inv X pins σ H s->wi σ H R ->
  wpAny (model X.prog X.w) X.A (eval iter X.env) (fun v s1=>wpAny (model X.prog X.w) X.A (pyIter v) (PIE X pins σ tg R) X.xe s1) X.xe s
theorem Ai {M:Model}{A:Around}{E:Value->Shared->Prop}{s:Shared}{tg:Expr}{it:Addr}{u:Value}{o:Obj}{n:String}{vs:Array Value}{Q:Unit->Shared->Prop} (ho:s.heap.get? it=some o) (hc:o.cls=.type n) (hd:o.data=.fields vs)
  (hn:["enumerate","zip","dict_itemiterator","dict_reverseitemiterator","odict_iterator","itertools.zip_longest","itertools.pairwise"].contains n=false) (hQ:Q () s):wpAny M A (letOwnedTupleGo tg (.ref it) u) Q E s:=by
 unfold letOwnedTupleGo
 cases tg <;> first
  | exact wpAny_pure hQ
  | (cases u <;> first
    | exact wpAny_pure hQ
    | (refine wpAny_bind (wpAny_load ho ?_)
       rw [hc,hd]
       show wpAny M A (if (["enumerate","zip","dict_itemiterator","dict_reverseitemiterator","odict_iterator","itertools.zip_longest","itertools.pairwise"].contains n && vs[0]? == some (rawInt _))=true then _ else _) Q E s
       rw [if_neg (by intro h;rw [hn,Bool.false_and] at h;cases h)]
       exact wpAny_pure hQ))
noncomputable def Itl (K:PySem.W.Frag) (a:Addr):It :=
 ⟨fun i H=>∃ xs x,SqL K H a xs∧xs[i]?=some x,fun i H x H'=>H'=H∧∀ xs,SqL K H a xs->xs[i]?=some x,fun i H=>∃ xs,SqL K H a xs∧xs.length≤i⟩
noncomputable def Itt (K:PySem.W.Frag) (a:Addr):It :=
 ⟨fun i H=>∃ xs x,SqT K H a xs∧xs[i]?=some x,fun i H x H'=>H'=H∧∀ xs,SqT K H a xs->xs[i]?=some x,fun i H=>∃ xs,SqT K H a xs∧xs.length≤i⟩
noncomputable def Itr (lo:Int) (n:Nat):It:=⟨fun i _=>i < n,fun i H x H'=>H'=H∧x=.int (lo+i),fun i _=>n≤i⟩
theorem Hi {P:Program}{w:World}{K:PySem.W.Frag}{tg:Expr} (a it:Addr):Turn P w K tg (Itl K a) [it] it (fun i h=>h.IsListIter it a i) where
 mem:=by simp
 obj:=fun i h st b hb=>by
  have e:b=it:=by simpa using hb
  subst e
  obtain ⟨o,e,c,d⟩:=st
  exact ⟨o,e,fun v z=>by rw [d] at z;cases z⟩
 keep:=fun i h h' st k=>st.at fun o e=>k it (by simp) o e
 item:=by
  intro X hP hw hK hc i pins s σ H E I hf st hg
  subst hP hw hK
  obtain ⟨xs,x,hq,hx⟩:=hg
  obtain ⟨its,rv,p,hz⟩:=I.list hq
  obtain ⟨u,hu,ru⟩:=rv.get hx
  obtain ⟨f0,f1,f2,f3,f4,f5⟩:=hf it (by simp)
  refine wpAny_pyNext_list_item st p.isList (x:=u) (by simpa using hu) fun h' st' sb=>?_
  have I1:Inv X pins σ H { s with heap:=h' }:=I.turned (t':=s.toks) (fun b o hb e=>(sb.2 b hb).trans e) f0 f1 f3 f4 f5
  obtain ⟨o,e,c,d⟩:=id st'
  exact ⟨u,rfl,Ai (s:={ s with heap:=h' }) e c d (by decide) ⟨x,H,I1,ru,⟨rfl,fun ys hy=>by rw [I.mR hy hq];exact hx⟩,st',fun b hb=>(hf b hb).1⟩⟩
 done:=by
  intro X hP hw hK hc i pins s σ H E I hf st hg
  subst hP hw hK
  obtain ⟨xs,hq,hx⟩:=hg
  obtain ⟨its,rv,p,hz⟩:=I.list hq
  obtain ⟨f0,f1,f2,f3,f4,f5⟩:=hf it (by simp)
  have hl:=rv.length
  exact wpAny_pyNext_list_end (I.ok.hd hc) st p.isList (by simp;lia) fun h' eb=>⟨rfl,I.turned (t':=s.toks) (fun b o hb e=>eb b o hb e) f0 f1 f3 f4 f5⟩
 self:=fun _ _ _ _ _ st h=>wpAny_pyIter_listiter st h
theorem Dw {P:Program}{w:World}{K:PySem.W.Frag}{tg:Expr} (a it:Addr):Turn P w K tg (Itt K a) [it] it (fun i h=>h.IsTupleIter it a i) where
 mem:=by simp
 obj:=fun i h st b hb=>by
  have e:b=it:=by simpa using hb
  subst e
  obtain ⟨o,e,c,d⟩:=st
  exact ⟨o,e,fun v z=>by rw [d] at z;cases z⟩
 keep:=fun i h h' st k=>st.at fun o e=>k it (by simp) o e
 item:=by
  intro X hP hw hK hc i pins s σ H E I hf st hg
  subst hP hw hK
  obtain ⟨xs,x,hq,hx⟩:=hg
  obtain ⟨its,rv,p,hz⟩:=I.tuple hq
  obtain ⟨u,hu,ru⟩:=rv.get hx
  obtain ⟨f0,f1,f2,f3,f4,f5⟩:=hf it (by simp)
  refine wpAny_pyNext_tuple_item st (show s.heap.IsTuple a its.toArray from p) (x:=u) (by simpa using hu) fun h' st' sb=>?_
  have I1:Inv X pins σ H { s with heap:=h' }:=I.turned (t':=s.toks) (fun b o hb e=>(sb.2 b hb).trans e) f0 f1 f3 f4 f5
  obtain ⟨o,e,c,d⟩:=id st'
  exact ⟨u,rfl,Ai (s:={ s with heap:=h' }) e c d (by decide) ⟨x,H,I1,ru,⟨rfl,fun ys hy=>by rw [I.wX hy hq];exact hx⟩,st',fun b hb=>(hf b hb).1⟩⟩
 done:=by
  intro X hP hw hK hc i pins s σ H E I hf st hg
  subst hP hw hK
  obtain ⟨xs,hq,hx⟩:=hg
  obtain ⟨its,rv,p,hz⟩:=I.tuple hq
  obtain ⟨f0,f1,f2,f3,f4,f5⟩:=hf it (by simp)
  have hl:=rv.length
  exact wpAny_pyNext_tuple_end (I.ok.hd hc) st (show s.heap.IsTuple a its.toArray from p) (by simp;omega) fun h' eb=>⟨rfl,I.turned (t':=s.toks) (fun b o hb e=>eb b o hb e) f0 f1 f3 f4 f5⟩
 self:=fun _ _ _ _ _ st h=>wpAny_pyIter_tupleiter st h
theorem Dy {P:Program}{w:World}{K:PySem.W.Frag}{tg:Expr} (it:Addr) (lo:Int) (n:Nat):Turn P w K tg (Itr lo n) [it] it (fun i h=>IsRangeIter h it (lo+(i:Nat) * 1) ((n:Int) - (i:Nat)) 1) where
 mem:=by simp
 obj:=fun i h st b hb=>by
  have e:b=it:=by simpa using hb
  subst e
  exact ⟨_,st,fun v z=>by
   have z':Data.fields _=Data.cell v:=z
   cases z'⟩
 keep:=fun i h h' st k=>k it (by simp) _ st
 item:=by
  intro X hP hw hK hc i pins s σ H E I hf st hg
  subst hP hw hK
  obtain ⟨f0,f1,f2,f3,f4,f5⟩:=hf it (by simp)
  have W:=Walks.range (prog:=X.prog) (w:=X.w) (I.ok.hd hc) it lo 1 n
  refine W.item i s _ _ hg st fun v h' tk hv st' kk=>?_
  obtain ⟨t,rfl⟩:=hv
  have I1:Inv X pins σ H { s with heap:=h',toks:=tk }:=I.turned (fun b o hb e=>kk b o (by simpa using hb) e) f0 f1 f3 f4 f5
  refine ⟨_,rfl,Ai (s:={ s with heap:=h',toks:=tk }) (n:="range_iterator") st' rfl rfl (by decide) ⟨.int (lo+i),H,I1,⟨t,?_⟩,⟨rfl,rfl⟩,st',fun b hb=>(hf b hb).1⟩⟩
  rw [Int.mul_one]
 done:=by
  intro X hP hw hK hc i pins s σ H E I hf st hg
  subst hP hw hK
  obtain ⟨f0,f1,f2,f3,f4,f5⟩:=hf it (by simp)
  exact wpAny_pyNext_range_end (I.ok.hd hc) st (by have:n≤i:=hg;omega) fun h' eb=>⟨rfl,I.turned (t':=s.toks) (fun b o hb e=>eb b o hb e) f0 f1 f3 f4 f5⟩
 self:=fun _ _ _ _ _ st h=>wpAny_pyIter_rangeiter st h
section
variable {X:Cx}{tg:Expr}
theorem Aj {pins:List (Addr×Obj)}{σ:St}{H:Hp}{s:Shared}{R:It->Hp->Prop}{E:Value->Shared->Prop}{lo hi:Int}{t u v:Tok}{tk:Nat} (I:Inv X pins σ H s) (h1:-(2 ^ 62)≤lo) (h2:lo < 2 ^ 62) (h3:-(2 ^ 62)≤hi) (h4:hi < 2 ^ 62)
  (q:R (Itr lo (hi - lo).toNat) H):wpAny (model X.prog X.w) X.A (pyIter (.ref s.heap.objs.size)) (PIE X pins σ tg R) E { s with heap:=s.heap.push { cls:=.type "range",data:=.fields #[.int lo t,.int hi u,.int 1 v] },toks:=tk }:=by
 refine wpAny_pyIter_range (IsRange.new ..) (small_one h1 h2 h3 h4) ?_
 have I1:Inv X pins σ H { s with heap:=s.heap.push { cls:=.type "range",data:=.fields #[.int lo t,.int hi u,.int 1 v] },toks:=tk }:=I.kept fun b o e=>Zac _ e
 refine ⟨(s.heap.push { cls:=.type "range",data:=.fields #[.int lo t,.int hi u,.int 1 v] }).objs.size,[(s.heap.push { cls:=.type "range",data:=.fields #[.int lo t,.int hi u,.int 1 v] }).objs.size],_,_,H,rfl,
  I1.kept (t':=tk) fun b o e=>Zac _ e,Dy _ lo (hi - lo).toNat,?_,fun b hb=>?_,q⟩
 ·have e1:lo+((0:Nat):Int) * 1=lo:=by simp
  have e2:(((hi - lo).toNat:Nat):Int) - ((0:Nat):Int)=Builtin.Range.rangeSize lo hi 1:=by rw [rangeSize_one];split <;> omega
  show IsRangeIter _ _ (lo+((0:Nat):Int) * 1) ((((hi - lo).toNat:Nat):Int) - ((0:Nat):Int)) 1
  rw [e1,e2]
  exact Zal _ rfl
 ·have e:b=(s.heap.push { cls:=.type "range",data:=.fields #[.int lo t,.int hi u,.int 1 v] }).objs.size:=by simpa using hb
  subst e
  exact I1.Ah (Zah _) (I1.hok.fresh (Zah _))
noncomputable def O9 (ta:TA):TI:=fun σ H R=>ta σ H fun vs H1=>∃ j:Int,vs=[.int j]∧-(2 ^ 62)≤j∧j < 2 ^ 62∧R (Itr 0 j.toNat) H1
noncomputable def Pb (ta:TA):TI:=fun σ H R=>ta σ H fun vs H1=>∃ i j:Int,vs=[.int i,.int j]∧(-(2 ^ 62)≤i∧i < 2 ^ 62∧-(2 ^ 62)≤j∧j < 2 ^ 62)∧R (Itr i (j - i).toNat) H1
theorem gR {a:Expr}{ta:TA}{p pos:Pos} (hg:Gl X "range") (hm:X.mg "range"=none) (ha:PA X [a] ta) (hs:starEach [a] X.env=[(false,eval a X.env)]:=by rfl):PI X tg (.Call (.Name "range" p) [a] [] pos) (O9 ta):=by
 intro pins s σ H R I h
 refine Call_ (rM I hg hm boot_range (Zbc (thn (ha pos pins s σ H _ I h) ?_) hs rfl))
 rintro us s1 ⟨vs,H1,I1,r1,q1⟩
 obtain ⟨j,e,q1,q2,q⟩:=q1
 subst e
 cases r1 with
 | cons r rr =>
  cases rr
  obtain ⟨t,rfl⟩:=r
  exact call_range_1 (Aj I1 (by omega) (by omega) q1 q2 (by simpa using q))
theorem wY {a b:Expr}{ta:TA}{p pos:Pos} (hg:Gl X "range") (hm:X.mg "range"=none) (ha:PA X [a,b] ta) (hs:starEach [a,b] X.env=[(false,eval a X.env),(false,eval b X.env)]:=by rfl) (hs2:starEach [b] X.env=[(false,eval b X.env)]:=by rfl) :
  PI X tg (.Call (.Name "range" p) [a,b] [] pos) (Pb ta):=by
 intro pins s σ H R I h
 refine Call_ (rM I hg hm boot_range (Zbc (thn (ha pos pins s σ H _ I h) ?_) (by rw [hs,hs2]) (by rw [hs2];rfl)))
 rintro us s1 ⟨vs,H1,I1,r1,q1⟩
 obtain ⟨i,j,e,⟨q1,q2,q3,q4⟩,q⟩:=q1
 subst e
 cases r1 with
 | cons r rr =>
  cases rr with
  | cons r' rr =>
   cases rr
   obtain ⟨t,rfl⟩:=r
   obtain ⟨t',rfl⟩:=r'
   exact call_range_2 (Aj I1 q1 q2 q3 q4 q)
noncomputable def Qu (wi:TI) (g:TG) (tb:TS):TS:=fun D σ H=>wi σ H fun J H1=>∃ W:Nat->Nat->St->Hp->Prop,(∃ m,W 0 m σ H1)∧∀ i m σ H,W i m σ H ->
 (J.stop i H∧D.nx σ H)∨(J.go i H∧∃ N:St->Hp->Prop,(∀ σ' H',N σ' H'->∃ m',m' < m∧W (i+1) m' σ' H')∧∀ x H',J.yld i H x H'->g x σ H' fun σ2 H2=>tb { D with nx:=N,ct:=N,bk:=D.nx } σ2 H2)
noncomputable def uF (fp:List Addr) (h:Heap):List (Addr×Obj):=fp.filterMap fun b=>(h.get? b).map fun o=>(b,o)
theorem lE {fp:List Addr}{h:Heap}{b:Addr}{o:Obj} (hb:b∈fp) (e:h.get? b=some o):(b,o)∈uF fp h:=List.mem_filterMap.mpr ⟨b,hb,by rw [e];rfl⟩
theorem Hj {fp:List Addr}{h:Heap}{p:Addr×Obj} (hp:p∈uF fp h):p.1∈fp∧h.get? p.1=some p.2:=by
 obtain ⟨b,hb,e⟩:=List.mem_filterMap.mp hp
 cases q:h.get? b with
 | none=>rw [q] at e;cases e
 | some o =>
  rw [q] at e
  have e':(b,o)=p:=Zaa e
  subst e'
  exact ⟨hb,q⟩
theorem Inv.pinned {pins:List (Addr×Obj)}{σ:St}{H:Hp}{s:Shared}{fp:List Addr} (I:Inv X pins σ H s) (hf:∀ b∈fp,uE X pins H b) (ho:∀ b∈fp,∃ o,s.heap.get? b=some o∧∀ v,o.data≠.cell v):Inv X (pins++uF fp s.heap) σ H s :=
 I.Fl fun p hp=>(Zad.mp hp).elim (fun z=>I.pin p (ZaA _ z)) fun z=>by
  obtain ⟨hb,e⟩:=Hj z
  obtain ⟨f0,f1,f2,_⟩:=hf p.1 hb
  obtain ⟨o,e',d⟩:=ho p.1 hb
  rw [e] at e';cases e'
  exact ⟨e,f0,f1,f2,d⟩
theorem Inv.qj {pins pl:List (Addr×Obj)}{σ:St}{H:Hp}{s:Shared} (I:Inv X (pins++pl) σ H s):Inv X pins σ H s:=I.Fl fun p hp=>I.pin p (ZaA _ (Zbh _ hp))
theorem iQ {iter:Expr}{body:List Stmt}{wi:TI}{g:TG}{tb:TS}{pos:Pos} (hp:PassesOwn (model X.prog X.w) X.A X.env X.xe) (hc:X.calm=true) (hi:PI X tg iter wi) (hg:PG X tg g) (hb:PSs X body tb)
  (hs:∀ x,foldedSetIterable iter X.env x=pure x:=by intro _;rfl):PS X (.For tg iter body [] pos) (Qu wi g tb):=by
 intro pins s σ H D I h
 refine wpAny_For (thn (hi pins s σ H _ I h) fun v s1 h1=>thn h1 fun itv s2 h2=>?_) hs
 obtain ⟨it,fp,tn,J,H2,e,I2,T,st2,f2,W,⟨m0,w0⟩,turn⟩:=h2
 subst e
 have stat:∀ {H':Hp},(∀ b∈fp,H' b=none)->∀ b∈fp,uE X pins H' b:=fun hn b hb=>⟨hn b hb,(f2 b hb).2⟩
 refine codeAny_forLoop_any (fun n s'=>∃ i σ' H',Inv X pins σ' H' s'∧tn i s'.heap∧(∀ b∈fp,H' b=none)∧W i n σ' H') ?_ m0 ⟨0,σ,H2,I2,st2,fun b hb=>(f2 b hb).1,w0⟩
 rintro n s3 ⟨i,σ3,H3,I3,st3,fr3,w3⟩
 rcases turn i n σ3 H3 w3 with ⟨stop,qn⟩ | ⟨go,N,hN,step⟩
 ·refine wpAny_passesOwn hp (thn (T.done X rfl rfl rfl hc i pins s3 σ3 H3 X.xe I3 (stat fr3) st3 stop) ?_)
  rintro r s4 ⟨hr,I4⟩
  subst hr
  exact wpAny_execs_nil ⟨σ3,H3,I4,qn⟩
 ·refine wpAny_passesOwn hp (thn (T.item X rfl rfl rfl hc i pins s3 σ3 H3 X.xe I3 (stat fr3) st3 go) ?_)
  rintro r s4 ⟨u,hr,h4⟩
  subst hr
  refine wpAny_passesOwn hp (thn h4 ?_)
  rintro _ s5 ⟨x,H5,I5,r5,y5,st5,fr5⟩
  have I5':=I5.pinned (stat fr5) (T.obj _ _ st5)
  refine wpAny_passesOwn hp (thn (hg _ s5 σ3 H5 x u _ I5' r5 (step x H5 y5)) ?_)
  rintro _ s6 ⟨σ6,H6,I6,q6⟩
  refine wpAny_passesOwn hp (thn (hb _ s6 σ6 H6 _ I6 q6) fun f s7 q7=>?_)
  have again:∀ {σ7:St}{H7:Hp},Inv X (pins++uF fp s5.heap) σ7 H7 s7->N σ7 H7->∃ m,m < n∧∃ i σ' H',Inv X pins σ' H' s7∧tn i s7.heap∧(∀ b∈fp,H' b=none)∧W i m σ' H':=fun {σ7 H7} I7 n7=>by
   obtain ⟨m',hm,w7⟩:=hN σ7 H7 n7
   refine ⟨m',hm,i+1,σ7,H7,I7.qj,T.keep _ _ _ st5 fun b hb o e=>(I7.pin (b,o) (ZaA _ (ZaA _ (lE hb e)))).1,fun b hb=>?_,w7⟩
   obtain ⟨o,e,d⟩:=T.obj _ _ st5 b hb
   exact (I7.pin (b,o) (ZaA _ (ZaA _ (lE hb e)))).2.1
  cases f with
  | next=>obtain ⟨σ7,H7,I7,n7⟩:=q7;exact again I7 n7
  | cont=>obtain ⟨σ7,H7,I7,n7⟩:=q7;exact again I7 n7
  | brk=>obtain ⟨σ7,H7,I7,q7⟩:=q7;exact ⟨σ7,H7,I7.qj,q7⟩
  | ret v=>obtain ⟨x7,σ7,H7,I7,r7,q7⟩:=q7;exact ⟨x7,σ7,H7,I7.qj,r7,q7⟩
end
noncomputable abbrev R2:=V->V->Hp->VK->Prop
noncomputable def OpR (X:Cx) (f:Value->Value->Sem Value) (r:R2):Prop :=
 ∀ (pins:List (Addr×Obj)) (s:Shared) (σ:St) (H:Hp) (x y:V) (v u:Value) (Q:VK),Inv X pins σ H s->RelV x v->RelV y u->r x y H Q ->
  wpAny (model X.prog X.w) X.A (f v u) (EP X pins σ Q) X.xe s
noncomputable def UnR (X:Cx) (f:Value->Sem Value) (r:V->Hp->VK->Prop):Prop :=
 ∀ (pins:List (Addr×Obj)) (s:Shared) (σ:St) (H:Hp) (x:V) (v:Value) (Q:VK),Inv X pins σ H s->RelV x v->r x H Q ->
  wpAny (model X.prog X.w) X.A (f v) (EP X pins σ Q) X.xe s
noncomputable def sY (X:Cx) (f:Value) (r:List V->Hp->VK->Prop):Prop :=
 ∀ (pins:List (Addr×Obj)) (s:Shared) (σ:St) (H:Hp) (xs:List V) (us:List Value) (Q:VK),Inv X pins σ H s->Vals xs us->r xs H Q ->
  wpAny (model X.prog X.w) X.A (call f us) (EP X pins σ Q) X.xe s
noncomputable def tOp (r:R2) (ta tb:TE):TE:=fun σ H Q=>ta σ H fun x H1=>tb σ H1 fun y H2=>r x y H2 Q
noncomputable def tUn (r:V->Hp->VK->Prop) (ta:TE):TE:=fun σ H Q=>ta σ H fun x H1=>r x H1 Q
noncomputable def rI (C:Int->Int->Prop) (g:Int->Int->V):R2:=fun x y H Q=>∃ i j,x=.int i∧y=.int j∧C i j∧Q (g i j) H
noncomputable def rI0 (g:Int->Int->V):R2:=fun x y H Q=>∃ i j,x=.int i∧y=.int j∧Q (g i j) H
noncomputable def rU (g:Int->V):V->Hp->VK->Prop:=fun x H Q=>∃ i,x=.int i∧Q (g i) H
section
variable {X:Cx}{a b c:Expr}{ta tb tc:TE}{pos:Pos}
theorem Qv (ha:PE X a ta) (hb:PE X b tb) {pins:List (Addr×Obj)}{s:Shared}{σ:St}{H:Hp}{R:V->V->Hp->Prop} (I:Inv X pins σ H s)
  (h:ta σ H fun x H1=>tb σ H1 fun y H2=>R x y H2) {Q:Value->Shared->Prop}{f:Value->Value->Sem Value}
  (hf:∀ v u s2 x y H2,Inv X pins σ H2 s2->RelV x v->RelV y u->R x y H2->wpAny (model X.prog X.w) X.A (f v u) Q X.xe s2) :
  wpAny (model X.prog X.w) X.A (eval a X.env) (fun v s₁=>wpAny (model X.prog X.w) X.A (eval b X.env) (fun u s₂=>wpAny (model X.prog X.w) X.A (f v u) Q X.xe s₂) X.xe s₁) X.xe s:=by
 refine thn (ha pins s σ H _ I h) ?_
 rintro v s1 ⟨x,H1,I1,r1,q1⟩
 refine thn (hb pins s1 σ H1 _ I1 q1) ?_
 rintro u s2 ⟨y,H2,I2,r2,q2⟩
 exact hf v u s2 x y H2 I2 r1 r2 q2
theorem aM {op:Operator}{r:R2} (ho:OpR X (binaryOp op) r) (ha:PE X a ta) (hb:PE X b tb):PE X (.BinOp a op b pos) (tOp r ta tb):=by
 intro pins s σ H Q I h
 exact wpAny_BinOp (Qv ha hb I h fun v u s2 x y H2 I2 rx ry q=>ho pins s2 σ H2 x y v u Q I2 rx ry q)
theorem Sd {op:UnaryOp}{r:V->Hp->VK->Prop} (ho:UnR X (unaryOp op) r) (ha:PE X a ta):PE X (.UnaryOp op a pos) (tUn r ta):=by
 intro pins s σ H Q I h
 exact UnaryOp_ (thn (ha pins s σ H _ I h) fun v s1 ⟨x,H1,I1,r1,q1⟩=>ho pins s1 σ H1 x v Q I1 r1 q1)
theorem opI {f:Value->Value->Sem Value}{C:Int->Int->Prop}{g:Int->Int->Int}
  (rule:∀ (i j:Int) (t u:Tok) (s:Shared) (Q:Value->Shared->Prop) (E:Value->Shared->Prop),C i j->Q (.int (g i j) s.toks) { s with toks:=s.toks+1 }->wpAny (model X.prog X.w) X.A (f (.int i t) (.int j u)) Q E s) :
  OpR X f (rI C fun i j=>.int (g i j)):=by
 intro pins s σ H x y v u Q I rx ry h
 obtain ⟨i,j,rfl,rfl,hc,q⟩:=h
 obtain ⟨t,rfl⟩:=rx
 obtain ⟨t',rfl⟩:=ry
 exact rule i j t t' s _ _ hc ⟨.int (g i j),H,I.tok _,⟨_,rfl⟩,q⟩
theorem Mf {f:Value->Value->Sem Value}{g:Int->Int->Int}
  (rule:∀ (i j:Int) (t u:Tok) (s:Shared) (Q:Value->Shared->Prop) (E:Value->Shared->Prop),Q (.int (g i j) s.toks) { s with toks:=s.toks+1 }->wpAny (model X.prog X.w) X.A (f (.int i t) (.int j u)) Q E s) :
  OpR X f (rI0 fun i j=>.int (g i j)):=by
 intro pins s σ H x y v u Q I rx ry h
 obtain ⟨i,j,rfl,rfl,q⟩:=h
 obtain ⟨t,rfl⟩:=rx
 obtain ⟨t',rfl⟩:=ry
 exact rule i j t t' s _ _ ⟨.int (g i j),H,I.tok _,⟨_,rfl⟩,q⟩
theorem Qw {f:Value->Value->Sem Value}{g:Int->Int->Bool}
  (rule:∀ (i j:Int) (t u:Tok) (s:Shared) (Q:Value->Shared->Prop) (E:Value->Shared->Prop),Q (.bool (g i j)) s->wpAny (model X.prog X.w) X.A (f (.int i t) (.int j u)) Q E s) :
  OpR X f (rI0 fun i j=>.bl (g i j)):=by
 intro pins s σ H x y v u Q I rx ry h
 obtain ⟨i,j,rfl,rfl,q⟩:=h
 obtain ⟨t,rfl⟩:=rx
 obtain ⟨t',rfl⟩:=ry
 exact rule i j t t' s _ _ ⟨.bl (g i j),H,I,rfl,q⟩
noncomputable def Qx (i j:Int):Prop:=0 < j∧j < 1073741824
noncomputable def Jo (i j:Int):Prop:=0≤j∧j≤1000000∧i.natAbs < 2 ^ 64
noncomputable def Dz (i j:Int):Prop:=(-(2 ^ 64) < i∧i < 2 ^ 64)∨(-(2 ^ 64) < j∧j < 2 ^ 64)
theorem Dz.ok {i j:Int} (h:Dz i j):IntMulOk i j:=by
 rcases h with ⟨h1,h2⟩ | ⟨h1,h2⟩
 ·exact .of_left (intBits_le_64 h1 h2)
 ·exact .of_right (intBits_le_64 h1 h2)
theorem DG (k:Nat):(0:Int)≤2 ^ k:=by
 rw [two_pow_cast]
 exact Zbd _
theorem Qy:OpR X (binaryOp .Add) (rI0 fun i j=>.int (i+j)):=Mf fun _ _ _ _ _ _ _ q=>add_int q
theorem iR:OpR X (binaryOp .Sub) (rI0 fun i j=>.int (i - j)):=Mf fun _ _ _ _ _ _ _ q=>sub_int q
theorem Qz:OpR X (binaryOp .Mult) (rI Dz fun i j=>.int (i * j)):=opI fun _ _ _ _ _ _ _ hc q=>mul_int q hc.ok
theorem ql:OpR X (binaryOp .FloorDiv) (rI Qx fun i j=>.int (i / j)):=opI fun i j _ _ _ _ _ hc q=>by
 have h1:(0:Int) < j:=hc.1
 have h2:j < 1073741824:=hc.2
 exact floordiv_int (by omega) (by rw [Int.fdiv_eq_ediv_of_nonneg i (by omega)];exact q) (.inl (PyProof.noPylong_small (by omega)))
theorem eG:OpR X (binaryOp .Mod) (rI (fun _ j=>0 < j) fun i j=>.int (i % j)):=opI fun i j _ _ _ _ _ hc q=>by
 have h1:(0:Int) < j:=hc
 exact mod_int' (by omega) (by rw [Int.fmod_eq_emod_of_nonneg i (by omega)];exact q)
theorem QC:OpR X (binaryOp .Pow) (rI Jo fun i j=>.int (i ^ j.toNat)):=opI fun _ _ _ _ _ _ _ hc q=>pow_int_small hc.1 hc.2.1 hc.2.2 q
theorem jW:OpR X (binaryOp .LShift) (rI Jo fun i j=>.int (i * 2 ^ j.toNat)):=opI fun _ _ _ _ _ _ _ hc q=>lshift_int_small hc.1 hc.2.1 hc.2.2 q
theorem uG:OpR X (binaryOp .RShift) (rI (fun _ j=>0≤j) fun i j=>.int (i / 2 ^ j.toNat)):=opI fun i j _ _ _ _ _ hc q =>
 rshift_int hc (by rw [Int.fdiv_eq_ediv_of_nonneg i (DG _)];exact q)
theorem mW:OpR X (binaryOp .BitAnd) (rI0 fun i j=>.int (Builtin.bitAnd i j)):=Mf fun _ _ _ _ _ _ _ q=>and_int q
theorem Ak:OpR X (binaryOp .BitOr) (rI0 fun i j=>.int (Builtin.bitOr i j)):=Mf fun _ _ _ _ _ _ _ q=>or_int q
theorem unI {f:Value->Sem Value}{g:Int->Int}
  (rule:∀ (i:Int) (t:Tok) (s:Shared) (Q:Value->Shared->Prop) (E:Value->Shared->Prop),Q (.int (g i) s.toks) { s with toks:=s.toks+1 }->wpAny (model X.prog X.w) X.A (f (.int i t)) Q E s) :
  UnR X f (rU fun i=>.int (g i)):=by
 intro pins s σ H x v Q I rx h
 obtain ⟨i,rfl,q⟩:=h
 obtain ⟨t,rfl⟩:=rx
 exact rule i t s _ _ ⟨.int (g i),H,I.tok _,⟨_,rfl⟩,q⟩
theorem QD:UnR X (unaryOp .USub) (rU fun i=>.int (-i)):=unI fun _ _ _ _ _ q=>neg_int q
end
section
variable {X:Cx}{a b c:Expr}{ta tb tc:TE}{pos:Pos}
theorem DK {pins:List (Addr×Obj)}{σ:St}{H:Hp}{s:Shared}{Q:VK}{k k':Bool} (I:Inv X pins σ H s) (q:Q (.bl k) H) (e:k=k'):EP X pins σ Q (.bool k') s:=by
 subst e
 exact ⟨.bl k,H,I,rfl,q⟩
theorem Sg:OpR X (compareOp .Lt) (rI0 fun i j=>.bl (decide (i < j))):=Qw fun _ _ _ _ _ _ _ q=>lt_int q
theorem Fq:OpR X (compareOp .Gt) (rI0 fun i j=>.bl (decide (j < i))):=Qw fun _ _ _ _ _ _ _ q=>gt_int q
theorem Sh:OpR X (compareOp .GtE) (rI0 fun i j=>.bl (decide (j≤i))):=Qw fun _ _ _ _ _ _ _ q=>ge_int q
theorem Hk:OpR X (compareOp .Lt) (fun x y H Q=>∃ i j,x=.str i∧y=.str j∧Q (.bl (decide (i.cps.toList < j.cps.toList))) H):=by
 intro pins s σ H x y v u Q I rx ry h
 obtain ⟨i,j,rfl,rfl,q⟩:=h
 obtain ⟨t,rfl⟩:=rx
 obtain ⟨t',rfl⟩:=ry
 exact lt_str (DK I q rfl)
theorem Mi:OpR X (compareOp .IsNot) (fun x y H Q=>y=.non∧Q (.bl (!decide (x=.non))) H):=by
 intro pins s σ H x y v u Q I rx ry h
 obtain ⟨rfl,q⟩:=h
 cases ry
 refine isnot_none_gen (DK I q ?_)
 cases x <;> first
  | (cases rx;rfl)
  | (obtain ⟨t,rfl⟩:=rx;rfl)
theorem yt:OpR X (compareOp .NotIn) (fun x y H Q=>∃ i j,x=.str i∧y=.str j∧Q (.bl (!(!(Builtin.Str.occurrences j i 0 j.length 1).isEmpty))) H):=by
 intro pins s σ H x y v u Q I rx ry h
 obtain ⟨i,j,rfl,rfl,q⟩:=h
 obtain ⟨t,rfl⟩:=rx
 obtain ⟨t',rfl⟩:=ry
 exact notIn_str (DK I q rfl)
theorem OpR.or {f:Value->Value->Sem Value}{r r':R2} (h:OpR X f r) (h':OpR X f r'):OpR X f (fun x y H Q=>r x y H Q∨r' x y H Q):=by
 intro pins s σ H x y v u Q I rx ry q
 rcases q with q | q
 ·exact h pins s σ H x y v u Q I rx ry q
 ·exact h' pins s σ H x y v u Q I rx ry q
theorem cN (b:Expr) {op:CmpOp} (h:op≠.In:=by decide) (h2:op≠.NotIn:=by decide):behindInMarks op b=false:=by
 have e1:(op == CmpOp.In)=false:=by cases op <;> first | rfl | exact absurd rfl h
 have e2:(op == CmpOp.NotIn)=false:=by cases op <;> first | rfl | exact absurd rfl h2
 cases b <;> simp [behindInMarks,e1,e2]
theorem Ft {op:CmpOp}{r:R2} (ho:OpR X (compareOp op) r) (ha:PE X a ta) (hb:PE X b tb) (hm:behindInMarks op b=false):PE X (.Compare a [op] [b] pos) (tOp r ta tb):=by
 intro pins s σ H Q I h
 exact wpAny_Compare1 (Qv ha hb I h fun v u s2 x y H2 I2 rx ry q=>ho pins s2 σ H2 x y v u Q I2 rx ry q) hm
noncomputable def Pg (t:TE):TT:=fun σ H Q=>t σ H fun x H'=>∃ k,x=.bl k∧Q k H'
theorem bO {op:CmpOp}{r:R2} (ho:OpR X (compareOp op) r) (ha:PE X a ta) (hb:PE X b tb) (hm:behindInMarks op b=false):PT X (.Compare a [op] [b] pos) (Pg (tOp r ta tb)):=by
 intro pins s σ H Q I h
 refine wpAny_isTrue_Compare1 (thn (ha pins s σ H _ I h) fun v s1 ⟨x,H1,I1,r1,q1⟩=>thn (hb pins s1 σ H1 _ I1 q1) fun u s2 ⟨y,H2,I2,r2,q2⟩ =>
  thn (ho pins s2 σ H2 x y v u _ I2 r1 r2 q2) fun c s3 ⟨z,H3,I3,r3,k,e,q3⟩=>?_) hm
 subst e
 cases r3
 exact wpAny_truthy_bool ⟨H3,I3,q3⟩
theorem yu:(sizeLine:Nat) < 2 ^ 63:=by rw [sizeLine_eq];decide
theorem DN:OpR X (binaryOp .Add) (fun x y H Q=>∃ i j,x=.str i∧y=.str j∧i.length+j.length≤sizeLine∧Q (.str (i++j)) H):=by
 intro pins s σ H x y v u Q I rx ry h
 obtain ⟨i,j,rfl,rfl,hz,q⟩:=h
 obtain ⟨t,rfl⟩:=rx
 obtain ⟨t',rfl⟩:=ry
 exact add_str (fun t' tk=>⟨.str (i++j),H,I.tok _,⟨_,rfl⟩,q⟩) hz
theorem vals1 {x:V}{us:List Value} (r:Vals [x] us):∃ u,us=[u]∧RelV x u:=by
 cases r with
 | cons r1 r2=>cases r2;exact ⟨_,rfl,r1⟩
noncomputable def Sq (K:PySem.W.Frag) (x:V) (H:Hp) (n:Nat):Prop :=
 match x with
 | .str y=>y.length≤sizeLine∧n=y.length
 | .byt y=>y.size≤sizeLine∧n=y.size
 | .ref p=>(∃ xs,SqL K H p xs∧n=xs.length)∨∃ xs,SqT K H p xs∧n=xs.length
 | _=>False
theorem j8:sY X (.builtin "len") (fun xs H Q=>∃ x n,xs=[x]∧Sq X.K x H n∧Q (.int n) H):=by
 intro pins s σ H xs us Q I r h
 obtain ⟨x,n,rfl,e,q⟩:=h
 obtain ⟨u,rfl,rx⟩:=vals1 r
 have hl:=yu
 have hs:sizeLine=16777216:=sizeLine_eq
 cases x with
 | str y =>
  obtain ⟨t,rfl⟩:=rx
  obtain ⟨hy,e'⟩:y.length≤sizeLine∧n=y.length:=e
  subst e'
  exact len_str (by lia) ⟨.int _,H,I.tok _,⟨_,rfl⟩,q⟩
 | byt y =>
  obtain ⟨t,rfl⟩:=rx
  obtain ⟨hy,e'⟩:y.size≤sizeLine∧n=y.size:=e
  subst e'
  exact PySem.W.len_bytes (by lia) ⟨.int _,H,I.tok _,⟨_,rfl⟩,q⟩
 | ref p =>
  cases rx
  have e':(∃ xs,SqL X.K H p xs∧n=xs.length)∨∃ xs,SqT X.K H p xs∧n=xs.length:=e
  rcases e' with ⟨xs,hx,e'⟩ | ⟨xs,hx,e'⟩
  ·subst e'
   obtain ⟨its,r',pl,hz⟩:=I.list hx
   have hlen:=r'.length
   exact Calls.call_len_list pl.isList (by simp only [List.size_toArray];lia) ⟨.int xs.length,H,I.tok _,⟨_,by simp only [List.size_toArray];rw [hlen]⟩,q⟩
  ·subst e'
   obtain ⟨its,r',pl,hz⟩:=I.tuple hx
   have hlen:=r'.length
   exact len_tuple pl (by simp only [List.size_toArray];lia) ⟨.int xs.length,H,I.tok _,⟨_,by simp only [List.size_toArray];rw [hlen]⟩,q⟩
 | _=>exact (show False from e).elim
end
structure Ut (h:Heap) (x dx C:Addr) (mA:Str->Option Value):Prop where
 obj:h.get? x=some (PySem.W.instObj C dx)
 ns:h.Ns1 dx mA
 ne:dx≠x
section
variable {prog:Program}{w:World}{A:Around}{E:Value->Shared->Prop}{s:Shared}{K:PySem.W.Frag}{x dx C f:Addr}{mA:Str->Option Value}{name:Str}{v:Value}
end
theorem tV.some_of {v:V}{o:Option Value} (r:tV (some v) o):∃ u,o=some u∧RelV v u:=by
 cases o with
 | none=>exact (show False from r).elim
 | some u=>exact ⟨u,rfl,r⟩
section
variable {P:Program}{w:World}{H H':Hp}{h h':Heap}{a C dx:Addr}{fs fs':List (Str×V)}
end
structure Cls (K:PySem.W.Frag) (C:Addr):Prop where
 pg:PySem.W.plainGet K C Str.empty=true
 hd:PySem.W.hasDictIn K C=true
 po:PySem.W.plainOver K C=true
 sa:PySem.W.findIn K (.ref C) "__setattr__"=some (some (.builtin "object.__setattr__"))
structure Con (K:PySem.W.Frag) (C:Addr) (f:Str) (v:V) (u:Value):Prop where
 at_:PySem.W.findIn K (.ref C) f=some (some u)
 rel:RelV v u
 get:PySem.W.specialIn K u "__get__"=some none
 cp:PySem.W.copiedNames.contains f=false
structure Meth (K:PySem.W.Frag) (C:Addr) (m:Str) (f:Addr):Prop where
 at_:PySem.W.findIn K (.ref C) m=some (some (.ref f))
 fn:PySem.W.isFn K (.ref f)=true
 kp:PySem.W.keepIn K (.ref f)=true
section
variable {X:Cx}{pins:List (Addr×Obj)}{σ:St}{H:Hp}{s:Shared}{a C dx:Addr}{fs:List (Str×V)}{f:Str}{v:V}{A:Around}{E:Value->Shared->Prop}
end
section
variable {X:Cx}{o e value:Expr}{f:Str}{pos pos' tpos:Pos}{ta tv:TE}
end
section
variable {X:Cx}{pins:List (Addr×Obj)}{σ:St}{H:Hp}{s:Shared}{A:Around}{E:Value->Shared->Prop}{Q:Value->Shared->Prop}{c:Value}{b:Bool}
inductive uH (K:PySem.W.Frag) (H:Hp):V->Value->Prop where
 | non:uH K H .non (.type "NoneType")
 | bl (x:Bool):uH K H (.bl x) (.type "bool")
 | int (i:Int):uH K H (.int i) (.type "int")
 | str (x:Str):uH K H (.str x) (.type "str")
 | flt (x:UInt64):uH K H (.flt x) (.type "float")
 | lst {a:Addr}{xs:List V} (e:H a=some (.lst xs)):uH K H (.ref a) (.type "list")
 | frz {a:Addr}{o:Obj}{xs:List V} (e:H a=some (.frz o (.lst xs))):uH K H (.ref a) (.type "list")
 | tup {a:Addr}{xs:List V} (e:H a=some (.tup xs)):uH K H (.ref a) (.type "tuple")
 | dK {a:Addr}{kvs:List (Key×V)} (e:H a=some (.dK kvs)):uH K H (.ref a) (.type "dict")
 | dT {a:Addr}{kvs:List (List Key×V)} (e:H a=some (.dT kvs)):uH K H (.ref a) (.type "dict")
 | ins {a C dx:Addr}{fs:List (Str×V)} (e:H a=some (.ins C dx fs)) (cl:Cls K C) (ha:PySem.W.findIn K (.ref C) "__class__"=some (some (.builtin "object.__class__")))
   (hn:PySem.W.specialIn K (.builtin "object.__class__") "__get__"=some (some (.builtin "getset_descriptor.__get__"))) (htk:PySem.W.takesIn K (.builtin "object.__class__")=some true)
   (hm:PySem.W.mroIn K C (.type "object")=some true):uH K H (.ref a) (.ref C)
end
structure fJ (k:Nat) (A:Around):Prop where
 hd:A.handled=none
 dp:A.depth+3 * k+5 < recursionLimit
 un:A.units+16 * k+200 < cLine
theorem fJ.mono {j k:Nat}{A:Around} (r:fJ k A) (h:j≤k):fJ j A:=⟨r.hd,by have:=r.dp;lia,by have:=r.un;lia⟩
theorem fJ.deeper {k:Nat}{A:Around} (r:fJ (k+1) A) (env:Env):fJ k (A.deeper env) :=
 ⟨r.hd,by have:=r.dp;show A.depth+1+3 * k+5 < _;lia,by have:=r.un;show A.units+3+16 * k+200 < _;lia⟩
theorem fJ.depth {k:Nat}{A:Around} (r:fJ k A):A.depth < recursionLimit:=by have:=r.dp;omega
theorem fJ.units {k:Nat}{A:Around} (r:fJ k A):A.units+64 < cLine:=by have:=r.un;omega
noncomputable def yw:TA:=fun _ H Q=>Q [] H
noncomputable def mX (ta:TE) (tr:TA):TA:=fun σ H Q=>ta σ H fun x H1=>tr σ H1 fun xs H2=>Q (x::xs) H2
section
variable {X:Cx}{e:Expr}{es:List Expr}{te:TE}{t:TA}{pos:Pos}
theorem aO:PA X [] yw:=fun _ _ _ _ H Q I h=>Calls.spliced_nil ⟨[],H,I,.nil,h⟩
theorem ak (ha:PE X e te) (hr:PA X es t) (hs:starEach (e::es) X.env=(false,eval e X.env)::starEach es X.env:=by rfl):PA X (e::es) (mX te t):=by
 intro pos pins s σ H Q I h
 rw [hs]
 show wpAny _ _ (spliced ((false,eval e X.env)::backTo pos (starEach es X.env))) _ _ s
 refine Calls.spliced_cons (thn (ha pins s σ H _ I h) ?_)
 rintro u s1 ⟨x,H1,I1,r1,q1⟩
 exact thn (hr pos pins s1 σ H1 _ I1 q1) fun us s2 ⟨xs,H2,I2,r2,q2⟩=>⟨x::xs,H2,I2,.cons r1 r2,q2⟩
noncomputable def QF (t:TA):TE:=fun σ H Q=>t σ H fun xs H1=>xs.length≤sizeLine∧∀ p,H1 p=none->Q (.ref p) (upd H1 p (.tup xs))
noncomputable def QG (t:TA):TE:=fun σ H Q=>t σ H fun xs H1=>xs.length≤sizeLine∧∀ p,H1 p=none->Q (.ref p) (upd H1 p (.lst xs))
theorem fV {x1} (h:PA X es t):PE X (.Tuple es x1 pos) (QF t):=by
 intro pins s σ H Q I hq
 refine wpAny_Tuple_spliced (thn (h pos pins s σ H _ I hq) fun us s1 ⟨xs,H1,I1,r,z,q⟩=>⟨by rw [←r.length];exact z,?_⟩)
 have hf:H1 s1.heap.objs.size=none:=I1.hok.fresh (Zah _)
 refine ⟨.ref s1.heap.objs.size,upd H1 s1.heap.objs.size (.tup xs),I1.laid (t':=s1.toks) (fun b u e=>Zac _ e) (Zah _) ?_,rfl,q _ hf⟩
 exact ⟨z,us,r,fU.mk (Zal _ rfl)⟩
theorem rN (h:PA X es t):PE X (.List es pos) (QG t):=by
 intro pins s σ H Q I hq
 refine wpAny_List_spliced (thn (h pos pins s σ H _ I hq) fun us s1 ⟨xs,H1,I1,r,z,q⟩=>⟨by rw [←r.length];exact z,?_⟩)
 have hf:H1 s1.heap.objs.size=none:=I1.hok.fresh (Zah _)
 refine ⟨.ref s1.heap.objs.size,upd H1 s1.heap.objs.size (.lst xs),I1.laid (t':=s1.toks) (fun b u e=>Zac _ e) (Zah _) ?_,rfl,q _ hf⟩
 exact ⟨z,us,0,r,Zal _ rfl⟩
end
noncomputable abbrev Sp:=List V->Hp->VK->XK->Prop
noncomputable abbrev CXT:=List Env->Hp->Shared->XK->Value->Shared->Prop
structure Mj (P:Program) (w:World) (K:PySem.W.Frag) (mg:Str->Option Value) (base:Heap) (A:Around) (outer:List Env) (s:Shared) (H:Hp):Prop where
 frames:A.frames=some outer
 mod:Mod K mg base
 bs:∀ b o,base.get? b=some o->s.heap.get? b=some o∧H b=none
 bsz:base.objs.size≤s.heap.objs.size
 tW:s.heap.FunFrames base outer
 frf:∀ b∈frs outer,H b=none
 hok:HOk P w H s.heap
 bare:AllBare s.gens
noncomputable def CE (outer:List Env) (P:Program) (w:World) (H:Hp) (s:Shared) (Q:VK) (u:Value) (s':Shared):Prop :=
 ∃ v H',s'.os=s.os∧AllBare s'.gens∧Un (frs outer) [] H H' s.heap s'.heap∧HOk P w H' s'.heap∧RelV v u∧Q v H'
noncomputable def CR (CX:CXT) (outer:List Env) (P:Program) (w:World) (H:Hp) (s:Shared) (Q:VK) (E:XK) (r:Result) (s':Shared):Prop :=
 match r with
 | .ok (.ret u)=>CE outer P w H s Q u s'
 | .ok _=>False
 | .error e=>CX outer H s E e s'
structure wL (P:Program) (w:World) (K:PySem.W.Frag) (mg:Str->Option Value) (base:Heap) (CX:CXT) (k:Nat) (f:Addr) (fd:FuncData) (ps:List Str) (sp:Sp):Prop where
 len:∀ vs H Q E,sp vs H Q E->vs.length=ps.length
 run:∀ (A:Around) (outer:List Env) (s:Shared) (H:Hp) (args:Args) (us:List Value) (vs:List V) (Q:VK) (E:XK),fJ k A->Mj P w K mg base A outer s H->BindsTo s fd args (ps.zip us)->Vals vs us->sp vs H Q E ->
  codeAny (model P w) A (.call (.ref f) args) (CR CX outer P w H s Q E) s
section
variable {X:Cx}{pins:List (Addr×Obj)}{σ:St}{H:Hp}{s s':Shared}
theorem Inv.env0 (I:Inv X pins σ H s):Mj X.prog X.w X.K X.mg X.base X.A X.stack s H :=
 ⟨I.ok.frames,I.ok.mod,I.bs,Zaz I.ok.bsz I.sz,I.stack,I.Fj,I.hok,I.bare⟩
theorem Inv.after {Q:VK}{u:Value} (I:Inv X pins σ H s) (h:CE X.stack X.prog X.w H s Q u s'):EP X pins σ Q u s':=by
 obtain ⟨v,H',os,bare,un,hok,r,q⟩:=h
 obtain ⟨hh,g,d,t,os'⟩:=s'
 obtain rfl:os'=s.os:=os
 exact ⟨v,H',I.call (h':=hh) (g':=g) (d':=d) (t':=t) (ch:=[]) un hok bare (fun b z=>absurd z (by simp)),r,q⟩
end
noncomputable def uI (sp:Sp) (dvs:List V) (E:XK) (t:TA):TE:=fun σ H Q=>t σ H fun vs H1=>sp (vs++dvs) H1 Q E
noncomputable def Binds (K:PySem.W.Frag) (fd:FuncData) (ps:List Str) (ds:List Value):Prop :=
 ∀ (s:Shared) (us:List Value),K.In s.heap->(us++ds).length=ps.length->BindsTo s fd ⟨us,[]⟩ (ps.zip (us++ds))
theorem Binds.all {K:PySem.W.Frag}{fd:FuncData}{ps:List Str} (h:∀ us:List Value,us.length=ps.length->bindArgs fd ⟨us,[]⟩=pure (ps.zip us)):Binds K fd ps []:=fun s us _ hl=>by
 rw [Za4] at hl ⊢
 exact .of_eq (h us hl)
noncomputable def DP (CX:CXT) (X:Cx) (E:XK):Prop:=∀ (pins:List (Addr×Obj)) (σ:St) (H:Hp) (s:Shared) (e:Value) (s':Shared),Inv X pins σ H s->CX X.stack H s E e s'->X.xe e s'
section
variable {X:Cx}{CX:CXT}{k:Nat}{f C:Addr}{fd:FuncData}{ps:List Str}{sp:Sp}{dvs:List V}{ds:List Value}{E:XK}{x m:Str}{p pos apos:Pos}{e o:Expr}{es:List Expr}{ta:TE}{t:TA}
theorem QH {pins:List (Addr×Obj)}{σ:St}{H:Hp}{s:Shared}{Q:VK}{us:List Value}{vs:List V} (F:wL X.prog X.w X.K X.mg X.base CX k f fd ps sp) (hr:fJ k X.A) (hb:Binds X.K fd ps ds) (hd:Vals dvs ds) (hx:DP CX X E)
  (I:Inv X pins σ H s) (r:Vals vs us) (h:sp (vs++dvs) H Q E):wpAny (model X.prog X.w) X.A (call (.ref f) us) (EP X pins σ Q) X.xe s:=by
 have r2:Vals (vs++dvs) (us++ds):=r.append hd
 have hl:(us++ds).length=ps.length:=by rw [←r2.length];exact F.len _ _ _ _ h
 refine wpAny_call (codeAny_mono (F.run X.A X.stack s H ⟨us,[]⟩ (us++ds) (vs++dvs) Q E hr I.env0 (hb s us I.kIn hl) r2 h) fun r s' hq=>?_)
 cases r with
 | error e=>exact hx pins σ H s e s' I hq
 | ok fl =>
  cases fl with
  | ret u=>exact I.after hq
  | next=>exact False.elim hq
  | brk=>exact False.elim hq
  | cont=>exact False.elim hq
theorem Ml (F:wL X.prog X.w X.K X.mg X.base CX k f fd ps sp) (hr:fJ k X.A) (hg:Gl X x) (hm:X.mg x=some (.ref f)) (hk:PySem.W.keepIn X.K (.ref f)=true) (hb:Binds X.K fd ps ds) (hd:Vals dvs ds) (hx:DP CX X E)
  (ha:PA X (e::es) t) (hdb:(x == ("__debug__":Str))=false:=by decide) (he:starEach (e::es) X.env=(false,eval e X.env)::starEach es X.env:=by rfl) (hpl:(backTo pos (starEach es X.env)).any (·.1)=false:=by rfl) :
  PE X (.Call (.Name x p) (e::es) [] pos) (uI sp dvs E t):=by
 intro pins s σ H Q I h
 refine wpAny_Call_Name_kw (Fo I hg hm ?_ hdb)
 refine PySem.W.callWith_K (h₀:=X.base) I.ok.mod.kin hk (thn (ha pos pins s σ H _ I h) fun us s1 ⟨vs,H1,I1,r,q⟩=>⟨I1.kIn,?_⟩) he hpl
 exact QH F hr hb hd hx I1 r q
structure Mk (K:PySem.W.Frag) (C f:Addr):Prop where
 makes:PySem.W.makesIn K C=true
 init:PySem.W.findIn K (.ref C) "__init__"=some (some (.ref f))
 fn:PySem.W.isFn K (.ref f)=true
 kp:PySem.W.keepIn K (.ref C)=true
end
section
variable {X:Cx}{CX:CXT}{k:Nat}{f C:Addr}{fd:FuncData}{ps ks:List Str}{sp:Sp}{E:XK}{x m:Str}{p pos apos kpos:Pos}{e o:Expr}{es:List Expr}{kws:List Keyword}{te ta:TE}{t tk:TA}{nm:Option Str}
structure Ud (K:PySem.W.Frag) (fd:FuncData) (ps ks:List Str) (g:List Value->List Value->List Value) (gV:List V->List V->List V):Prop where
 to:∀ (s:Shared) (us ws:List Value),K.In s.heap->(g us ws).length=ps.length->BindsTo s fd ⟨us,ks.zip ws⟩ (ps.zip (g us ws))
 rel:∀ {vs:List V}{us:List Value}{zs:List V}{ws:List Value},Vals vs us->Vals zs ws->Vals (gV vs zs) (g us ws)
variable {g:List Value->List Value->List Value}{gV:List V->List V->List V}
end
structure bF (N P:List Str) (sc:Scope):Prop where
 kind:sc.kind=.function
 co:sc.isCoroutine=false
 gen:sc.isGenerator=false
 nd:N.Nodup
 pre:N.take P.length=P
 par:∀ x∈P,sc.names.lookup x=some .local∨sc.names.lookup x=some .cell
 nofree:∀ y∈sc.names,y.2≠.free
theorem wZ {kindOf:Str->Option NameKind}{x:Str}:∀ {binds:List (Str×Value)}{m:Str->Option Value},(∀ v,(x,v) ∉ binds)->bindL kindOf binds m x=m x
 | [],_,_=>rfl
 | (n,v)::r,m,h=>by
  unfold bindL
  rw [wZ fun w hw=>h w (List.mem_cons_of_mem _ hw)]
  split
  ·have:x≠n:=by rintro rfl;exact h v List.mem_cons_self
   simp [this]
  ·rfl
theorem w5 {kindOf:Str->Option NameKind}{x:Str}:∀ {binds:List (Str×Value)}{m:Str->Option Value},(∀ v,(x,v) ∉ binds)->bindC kindOf binds m x=m x
 | [],_,_=>rfl
 | (n,v)::r,m,h=>by
  unfold bindC
  rw [w5 fun w hw=>h w (List.mem_cons_of_mem _ hw)]
  split
  ·rfl
  ·have:x≠n:=by rintro rfl;exact h v List.mem_cons_self
   simp [this]
theorem w6 {kindOf:Str->Option NameKind}{x:Str}{v:Value}:∀ {P:List Str}{vs:List Value}{i:Nat}{m:Str->Option Value},P.Nodup->P[i]?=some x->vs[i]?=some v->kindOf x=some .local ->
  bindL kindOf (P.zip vs) m x=some v
 | [],_,_,_,_,h,_,_=>by simp at h
 | _::_,[],_,_,_,_,h,_=>by simp at h
 | p::P,w::vs,0,m,nd,h1,h2,hk=>by
  simp at h1 h2;subst h1;subst h2
  show bindL kindOf ((p,w)::P.zip vs) m p=_
  unfold bindL
  rw [wZ fun v hv=>(Zbe.mp nd).1 (List.of_mem_zip hv).1,if_pos hk]
  simp
 | p::P,w::vs,i+1,m,nd,h1,h2,hk=>by
  show bindL kindOf ((p,w)::P.zip vs) m x=_
  unfold bindL
  exact w6 (i:=i) (Zbe.mp nd).2 (by simpa using h1) (by simpa using h2) hk
theorem xf {kindOf:Str->Option NameKind}{x:Str}{v:Value}:∀ {P:List Str}{vs:List Value}{i:Nat}{m:Str->Option Value},P.Nodup->P[i]?=some x->vs[i]?=some v->kindOf x≠some .local ->
  bindC kindOf (P.zip vs) m x=some v
 | [],_,_,_,_,h,_,_=>by simp at h
 | _::_,[],_,_,_,_,h,_=>by simp at h
 | p::P,w::vs,0,m,nd,h1,h2,hk=>by
  simp at h1 h2;subst h1;subst h2
  show bindC kindOf ((p,w)::P.zip vs) m p=_
  unfold bindC
  rw [w5 fun v hv=>(Zbe.mp nd).1 (List.of_mem_zip hv).1,if_neg hk]
  simp
 | p::P,w::vs,i+1,m,nd,h1,h2,hk=>by
  show bindC kindOf ((p,w)::P.zip vs) m x=_
  unfold bindC
  exact xf (i:=i) (Zbe.mp nd).2 (by simpa using h1) (by simpa using h2) hk
noncomputable def start (N:List Str) (vs:List V):St:=vs.map some++List.replicate (N.length - vs.length) none
noncomputable def DQ (CX:CXT) (P:Program) (w:World) (K:PySem.W.Frag) (mg:Str->Option Value) (base:Heap) (N:List Str) (qual:Str) (scope:Scope) (f:Addr) (cd:Value) (A:Around) (outer:List Env) (s:Shared) (H:Hp) (E:XK):Cx where
 prog:=P
 w:=w
 K:=K
 mg:=mg
 base:=base
 A:=A.deeper (envOfC qual scope s.heap.objs.size f cd)
 N:=N
 s₀:=s
 H₀:=H
 env:=envOfC qual scope s.heap.objs.size f cd
 outer:=outer
 stack:=envOfC qual scope s.heap.objs.size f cd::outer
 ex:=[]
 calm:=true
 fn:=fun _=>true
 pn:=[]
 xe:=fun e s'=>wpAny (model P w) (A.deeper (envOfC qual scope s.heap.objs.size f cd)) (leaving (envOfC qual scope s.heap.objs.size f cd) e) (fun _ s''=>CX outer H s E e s'') (fun e' s''=>CX outer H s E e' s'') s'
theorem Al {sc:Scope}{n:Nat}{x:Str} (h:sc.names.lookup x=some .cell):∃ c,(cellsFrom n sc.names []).lookup x=some c:=by
 have q:=PySem.W.cellsFrom_some sc.names n [] (.inl h)
 exact Option.isSome_iff_exists.mp q
theorem Hl {CX:CXT}{P:Program}{w:World}{K:PySem.W.Frag}{mg:Str->Option Value}{base:Heap}{N ps:List Str}{qual:Str}{scope:Scope}{f:Addr}{cd:Value}{A:Around}{outer:List Env}{s s1:Shared}{H:Hp}{E:XK}{us:List Value}{vs:List V}
  (S:bF N ps scope) (hd:A.handled=none) (e0:Mj P w K mg base A outer s H) (hl:vs.length=ps.length) (r:Vals vs us)
  (x:InCallC s s.heap.objs.size (bindL (envOfC qual scope s.heap.objs.size f cd).kindOf (ps.zip us) fun _=>none) (cellsFrom (s.heap.objs.size+1) scope.names []) (bindC (envOfC qual scope s.heap.objs.size f cd).kindOf (ps.zip us) fun _=>none) s1) :
  Inv (DQ CX P w K mg base N qual scope f cd A outer s H E) [] (start N vs) H s1:=by
 have hpl:ps.length≤N.length:=by have:=congrArg List.length S.pre;rw [List.length_take] at this;lia
 obtain ⟨h1,tk,rfl,hk⟩:=x.done
 have noA:∀ b:Addr,b ∉ (DQ CX P w K mg base N qual scope f cd A outer s H E).ex:=fun b z=>absurd (show b∈([]:List Addr) from z) (by simp)
 refine ⟨⟨e0.mod,S.kind,rfl,rfl,Zah _,fun y z c h1 h2=>?_,fun y hy=>?_,fun y c _ h=>?_,fun _=>hd,Around.frames_deeper e0.frames,.inr ⟨rfl,rfl⟩,fun b z=>absurd z (noA b),e0.bs,e0.bsz,fun b _ _=>noA b,fun b z=>absurd z (noA b),e0.tW,e0.frf⟩,
  rfl,e0.bare,Un.kept hk,⟨_,x.toInCall.ns,fun i y v h1 h2 h3=>?_⟩,fun y c h=>⟨_,x.cell y c h⟩,e0.hok.fresh (Zah _),fun y c h=>?_,fun p hp=>absurd (show p∈([]:List (Addr×Obj)) from hp) (by simp),e0.hok.kept hk,?_⟩
 ·exact name_of_addr x.apart (Zbz h1) (Zbz h2)
 ·have hy:scope.names.lookup y=some .cell∨scope.names.lookup y=some .free:=hy
  rcases hy with hy | hy
  ·exact Al hy
  ·exact absurd rfl (S.nofree _ (Zbz hy))
 ·exact ZaG (x.above y c (Zbz h))
 ·have hi:i < vs.length:=by
   unfold start at h2
   by_cases hi:i < vs.length
   ·exact hi
   ·rw [Zao (by simpa using hi)] at h2
    rw [Zbf] at h2
    split at h2 <;> cases h2
  have ha:vs[i]?=some v:=by
   unfold start at h2
   rw [Zag (by simpa using hi),List.getElem?_map] at h2
   cases e:vs[i]? with
   | none=>rw [e] at h2;cases h2
   | some a=>rw [e] at h2;cases h2;rfl
  obtain ⟨u,hu,rv⟩:=r.get ha
  have hp:ps[i]?=some y:=by
   rw [←S.pre,List.getElem?_take_of_lt (by lia)];exact h1
  have ndP:ps.Nodup:=by rw [←S.pre];exact S.nd.sublist (ZaJ _ _)
  refine ⟨u,rv,?_⟩
  rcases S.par y (Zaf hp) with k | k
  ·exact .inl ⟨k,w6 ndP hp hu k⟩
  ·obtain ⟨c,e⟩:=Al (n:=s.heap.objs.size+1) k
   refine .inr ⟨.inl k,c,e,?_⟩
   have q:=x.cell y c e
   rw [xf ndP hp hu (by show scope.names.lookup y≠_;rw [k];decide)] at q
   exact q
 ·exact e0.hok.fresh (ZaG (x.above y c (Zbz h)))
 ·unfold start
  show _=N.length
  rw [List.length_append,List.length_map,List.length_replicate]
  lia
theorem Ss {CX:CXT}{P:Program}{w:World}{K:PySem.W.Frag}{mg:Str->Option Value}{base:Heap}{k:Nat}{f:Addr}{name qual:Str}{params:Arguments}{body:List Stmt}{scope:Scope}{dV kV doc pm cdv ct oc:Value}{an od:Option Addr}
  {osl:Array (Option Value)}{N ps:List Str}{sp:Sp} (lk:K.lookup f=some ⟨oc,od,.func (PySem.W.fnOf name qual params body scope dV kV doc pm an cdv ct),osl⟩) (hcd:PySem.W.codeIn K cdv qual=true) (S:bF N ps scope)
  (len:∀ vs H Q E,sp vs H Q E->vs.length=ps.length)
  (hbody:∀ (A:Around) (outer:List Env) (s:Shared) (H:Hp) (vs:List V) (Q:VK) (E:XK),fJ k (A.deeper (envOfC qual scope s.heap.objs.size f cdv))->sp vs H Q E ->
   ∃ t,PSs (DQ CX P w K mg base N qual scope f cdv A outer s H E) body t∧t { nx:=fun _ H'=>Q .non H',rt:=Q } (start N vs) H) :
  wL P w K mg base CX (k+1) f (PySem.W.fnOf name qual params body scope dV kV doc pm an cdv ct) ps sp:=by
 refine ⟨len,fun A outer s H args us vs Q E hr e0 hb r hsp=>?_⟩
 have hl:=len _ _ _ _ hsp
 have KX:K.In s.heap:=e0.mod.kin.keeps fun b o e=>(e0.bs b o e).1
 have lim:s.heap.NoLimit:=e0.mod.nolimit.keeps fun b o e=>(e0.bs b o e).1
 have hkind:∀ y∈ps.zip us,scope.names.lookup y.1=some .local∨(scope.names.lookup y.1=some .cell∧((cellsFrom (s.heap.objs.size+1) scope.names []).lookup y.1).isSome=true):=fun ⟨n,v⟩ hy=>by
  rcases S.par n (List.of_mem_zip hy).1 with q | q
  ·exact .inl q
  ·exact .inr ⟨q,PySem.W.cellsFrom_some _ _ _ (.inl q)⟩
 refine codeAny_call_function hr.depth (KX _ _ lk) rfl S.co S.gen rfl (PySem.W.codeRec_of KX hcd) (hb _ _ _ _ ?_)
 refine wpAny_newFunctionEnv_cells S.kind hkind fun env he s1 x=>?_
 subst he
 refine ⟨lim.keeps x.toInCall.keep,codeAny_func ?_⟩
 obtain ⟨t,ht,hq⟩:=hbody A outer s H vs Q E (hr.deeper _) hsp
 have I:Inv (DQ CX P w K mg base N qual scope f cdv A outer s H E) [] (start N vs) H s1:=Hl S hr.hd e0 hl r x
 refine wpAny_mono (ht [] s1 (start N vs) H _ I hq) (fun fl s' hs=>?_) fun e s' hs=>hs
 have fin:∀ {σ':St}{H':Hp}{v:V}{u:Value},Inv (DQ CX P w K mg base N qual scope f cdv A outer s H E) [] σ' H' s'->RelV v u->Q v H'->CE outer P w H s Q u s' :=
  fun {σ' H' v u} J rv q=>⟨v,H',J.os,J.bare,J.base,J.hok,rv,q⟩
 cases fl with
 | ret u =>
  obtain ⟨v,σ',H',J,rv,q⟩:=hs
  exact fin J rv q
 | next =>
  obtain ⟨σ',H',J,q⟩:=hs
  exact fin (v:=V.non) (u:=Value.none) J rfl q
 | brk =>
  obtain ⟨_,_,_,q⟩:=hs
  exact False.elim q
 | cont =>
  obtain ⟨_,_,_,q⟩:=hs
  exact False.elim q
section
variable {X:Cx}{x:Str}{p pos:Pos}{e:Expr}{es:List Expr}{t:TA}{id T:String}{r:List V->Hp->VK->Prop}
noncomputable def tCB (r:List V->Hp->VK->Prop) (t:TA):TE:=fun σ H Q=>t σ H fun vs H1=>r vs H1 Q
theorem gk (hc:sY X (.builtin id) r) (hg:Gl X x) (hm:X.mg x=none) (hv:bootBuiltins x=some (.builtin id)) (ha:PA X (e::es) t) (hn:x≠"__name__":=by decide) (hdb:(x == ("__debug__":Str))=false:=by decide)
  (he:starEach (e::es) X.env=(false,eval e X.env)::starEach es X.env:=by rfl) (hpl:(backTo pos (starEach es X.env)).any (·.1)=false:=by rfl):PE X (.Call (.Name x p) (e::es) [] pos) (tCB r t):=by
 intro pins s σ H Q I h
 refine wpAny_Call_Name_kw (rM I hg hm hv ?_ hn hdb)
 exact PyProof.Rows.callWith_builtin1 (thn (ha pos pins s σ H _ I h) fun us s1 ⟨vs,H1,I1,r1,q1⟩=>hc pins s1 σ H1 vs us Q I1 r1 q1) he hpl
theorem xg (hc:sY X (.type T) r) (hg:Gl X x) (hm:X.mg x=none) (hv:bootBuiltins x=some (.type T)) (ha:PA X (e::es) t) (hn:x≠"__name__":=by decide) (hdb:(x == ("__debug__":Str))=false:=by decide)
  (he:starEach (e::es) X.env=(false,eval e X.env)::starEach es X.env:=by rfl) (hpl:(backTo pos (starEach es X.env)).any (·.1)=false:=by rfl):PE X (.Call (.Name x p) (e::es) [] pos) (tCB r t):=by
 intro pins s σ H Q I h
 refine wpAny_Call_Name_kw (rM I hg hm hv ?_ hn hdb)
 exact Zbc (thn (ha pos pins s σ H _ I h) fun us s1 ⟨vs,H1,I1,r1,q1⟩=>hc pins s1 σ H1 vs us Q I1 r1 q1) he hpl
end
end L2
namespace HT
open PySem PyProof.Rows
section
open PySem.SeqAt
open PySem.AutoSeq1 (wpAny_loadPart')
open PySem.MeetsSeq PySem.MeetsSeq2 PySem.MeetsSeq3
end
section
variable {prog:Program}{w:World}{A:Around}{E:Value->Shared->Prop}{s:Shared}
theorem Mm {t b:Addr}{vs ws:List Value}{Q:Value->Shared->Prop} (ht:IsTup s.heap t vs.toArray) (hb:IsTup s.heap b ws.toArray) (hv:vs≠[])
  (h1:ws=[]->Q (.ref t) s) (h2:ws≠[]->Q (.ref s.heap.objs.size) { s with heap:=s.heap.push { cls:=.type "tuple",data:=.seq (vs++ws).toArray } })
  (hsz:vs.length+ws.length≤sizeLine):wpAny (model prog w) A (binaryOp .Add (.ref t) (.ref b)) Q E s:=by
 obtain ⟨⟨cls,dd,data,sl⟩,ho,hc,n,hd⟩:=id ht
 obtain ⟨⟨cls2,dd2,data2,sl2⟩,ho2,hc2,n2,hd2⟩:=id hb
 simp only at hc hd hc2 hd2
 subst hc hd hc2 hd2
 have e:vs.toArray++ws.toArray=(vs++ws).toArray:=by simp
 by_cases hw:ws=[]
 ·exact concat_meets ⟨_,ho,rfl⟩ ⟨_,ho2,rfl⟩ noFill_tuple_add seq_tuple_add PySem.F.slot_tuple_add PySem.F.entry_tuple_add (PySem.F.args_tuple_add_2 _ _)
   (tuple_addW1 t b vs.toArray ws.toArray n n2 dd dd2 sl sl2 (by simpa using hv) (by simp [hw])) ⟨ho,ho2,h1 hw⟩
 ·refine concat_meets ⟨_,ho,rfl⟩ ⟨_,ho2,rfl⟩ noFill_tuple_add seq_tuple_add PySem.F.slot_tuple_add PySem.F.entry_tuple_add (PySem.F.args_tuple_add_2 _ _)
   (tuple_addW2 t b vs.toArray ws.toArray n n2 dd dd2 sl sl2 (by simpa using hv) (by simpa using hw) (by rw [List.size_toArray,List.size_toArray];exact hsz)) ⟨ho,ho2,?_⟩
  rw [e]
  exact h2 hw
noncomputable def sIx (n d:Nat):Option Int->Nat
 | none=>d
 | some v=>if v < 0 then (v+(n:Int)).toNat else min v.toNat n
end
end HT
namespace L2
open PySem PySem.Spec PyProof.Rows
noncomputable abbrev TO:=St->Hp->(Option Int->Hp->Prop)->Prop
noncomputable def PO (X:Cx) (e:Option Expr) (t:TO):Prop :=
 ∀ (pins:List (Addr×Obj)) (s:Shared) (σ:St) (H:Hp) (Q:Option Int->Hp->Prop),Inv X pins σ H s->t σ H Q ->
  wpAny (model X.prog X.w) X.A (evalPart e X.env) (fun u s'=>∃ o H',Inv X pins σ H' s'∧IsPart u o∧Q o H') X.xe s
noncomputable def Fv:TO:=fun _ H Q=>Q none H
noncomputable def Ph (t:TE):TO:=fun σ H Q=>t σ H fun x H1=>∃ i,x=.int i∧Q (some i) H1
section
variable {X:Cx}{e:Expr}{te:TE}{lo hi:Option Expr}{tl th:TO}{pos p2:Pos}
theorem Mp:PO X none Fv:=by
 intro pins s σ H Q I h
 rw [evalPart_none]
 exact wpAny_pure ⟨none,H,I,.none,h⟩
theorem Mq (h:PE X e te):PO X (some e) (Ph te):=by
 intro pins s σ H Q I hw
 rw [evalPart_some]
 refine thn (h pins s σ H _ I hw) ?_
 rintro u s1 ⟨x,H1,I1,r1,q1⟩
 obtain ⟨i,rfl,q⟩:=q1
 obtain ⟨t,rfl⟩:=r1
 exact ⟨some i,H1,I1,.int i t,q⟩
noncomputable def SlR (X:Cx) (r:V->Option Int->Option Int->Hp->VK->Prop):Prop :=
 ∀ (pins:List (Addr×Obj)) (s:Shared) (σ:St) (H:Hp) (x:V) (v vl vu:Value) (lo hi:Option Int) (sl:Addr) (Q:VK),Inv X pins σ H s->RelV x v->s.heap.IsSliceOf sl vl vu .none->IsPart vl lo->IsPart vu hi->r x lo hi H Q ->
  ∃ T id,typeLookup (.type T) "__getitem__"=pure (some (.builtin id))∧s.TypeIs v T∧wpAny (model X.prog X.w) X.A (getItem v (.ref sl)) (EP X pins σ Q) X.xe s
noncomputable def tSl (r:V->Option Int->Option Int->Hp->VK->Prop) (te:TE) (tl th:TO):TE:=fun σ H Q=>te σ H fun x H1=>tl σ H1 fun l H2=>th σ H2 fun u H3=>r x l u H3 Q
theorem Jq {r:V->Option Int->Option Int->Hp->VK->Prop} (hr:SlR X r) (he:PE X e te) (hl:PO X lo tl) (hu:PO X hi th):PE X (.Subscript e (.Slice lo hi none p2) pos) (tSl r te tl th):=by
 intro pins s σ H Q I h
 refine Subscript_ (thn (he pins s σ H _ I h) ?_)
 rintro v s1 ⟨x,H1,I1,r1,q1⟩
 refine wpAny_Slice (thn (hl pins s1 σ H1 _ I1 q1) fun vl s2 ⟨l,H2,I2,pl,q2⟩=>thn (hu pins s2 σ H2 _ I2 q2) ?_)
 rintro vu s3 ⟨u,H3,I3,pu,q3⟩
 rw [evalPart_none]
 refine wpAny_pure ?_
 have I4:Inv X pins σ H3 { s3 with heap:=s3.heap.push { cls:=.type "slice",data:=.fields #[vl,vu,.none] } }:=I3.kept (t':=s3.toks) fun b ob q=>Zac _ q
 obtain ⟨T,id,hT,ht,hg⟩:=hr pins { s3 with heap:=s3.heap.push { cls:=.type "slice",data:=.fields #[vl,vu,.none] } } σ H3 x v vl vu l u s3.heap.objs.size Q I4 r1 (Heap.IsSliceOf.new ..) pl pu q3
 show wpAny (model X.prog X.w) X.A (subscriptTail e (.Slice lo hi none p2) v (.ref s3.heap.objs.size)) (EP X pins σ Q) X.xe { s3 with heap:=s3.heap.push { cls:=.type "slice",data:=.fields #[vl,vu,.none] } }
 exact tail_any (ops:=[.ref s3.heap.objs.size,v]) ht hT hg (by with_unfolding_all rfl)
noncomputable def Hm (xs:List V) (lo hi:Option Int):List V:=(xs.drop (HT.sIx xs.length 0 lo)).take (HT.sIx xs.length xs.length hi - HT.sIx xs.length 0 lo)
theorem Am (xs:List V) (lo hi:Option Int):(Hm xs lo hi).length≤xs.length:=by
 unfold Hm
 rw [List.length_take,List.length_drop]
 omega
noncomputable def Pj (K:PySem.W.Frag):R2:=fun x y H Q=>∃ a b xs ys,x=.ref a∧y=.ref b∧SqT K H a xs∧SqT K H b ys∧xs≠[]∧xs.length+ys.length≤sizeLine ∧
 (ys=[]->Q (.ref a) H)∧(ys≠[]->∀ p,H p=none->Q (.ref p) (upd H p (.tup (xs++ys))))
theorem Vals.yx {xs:List V}{us:List Value} (r:Vals xs us):us=[]↔xs=[]:=by
 cases r with
 | nil=>simp
 | cons _ _=>simp
theorem Mr:OpR X (binaryOp .Add) (Pj X.K):=by
 intro pins s σ H x y v u Q I rx ry h
 obtain ⟨a,b,xs,ys,rfl,rfl,ha,hb,hx,hz,q1,q2⟩:=h
 cases rx
 cases ry
 obtain ⟨its,r1,p1,_⟩:=I.tuple ha
 obtain ⟨its2,r2,p2,_⟩:=I.tuple hb
 refine HT.Mm p1 p2 (fun z=>hx (r1.yx.mp z)) (fun z=>⟨.ref a,H,I,rfl,q1 (r2.yx.mp z)⟩) (fun z=>?_) (by rw [←r1.length,←r2.length];exact hz)
 refine ⟨.ref s.heap.objs.size,_,I.laid (t':=s.toks) (o:=.tup (xs++ys)) (fun b ob q=>Zac _ q) (Zah _) ?_,rfl,q2 (fun w=>z (r2.yx.mpr w)) _ (I.hok.fresh (Zah _))⟩
 exact ⟨by rw [List.length_append];exact hz,_,r1.append r2,fU.new _ _⟩
end
noncomputable def ixN (n:Nat) (i:Int):Option Nat:=if 0≤i then (if i < n then some i.toNat else none) else if -(n:Int)≤i then some (i+n).toNat else none
noncomputable def atI {α:Type} (xs:List α) (i:Int):Option α:=(ixN xs.length i).bind fun j=>xs[j]?
theorem Ms {n:Nat}{i:Int}{j:Nat} (h:ixN n i=some j):seqIndex? i n=some j∧j < n∧-(n:Int)≤i∧i < n:=by
 unfold ixN at h
 by_cases h0:0≤i
 ·rw [if_pos h0] at h
  by_cases h1:i < n
  ·rw [if_pos h1] at h
   have e:i.toNat=j:=Zaa h
   exact ⟨by rw [seqIndex_of h0 h1,e],by lia,by lia,h1⟩
  ·rw [if_neg h1] at h;cases h
 ·rw [if_neg h0] at h
  by_cases h1:-(n:Int)≤i
  ·rw [if_pos h1] at h
   have e:(i+n).toNat=j:=Zaa h
   exact ⟨by rw [seqIndex_neg (by lia) h1,e],by lia,h1,by lia⟩
  ·rw [if_neg h1] at h;cases h
theorem yz {α:Type}{xs:List α}{i:Int}{v:α} (h:atI xs i=some v):∃ j,seqIndex? i xs.length=some j∧xs[j]?=some v∧j < xs.length∧-(xs.length:Int)≤i∧i < xs.length:=by
 unfold atI at h
 cases e:ixN xs.length i with
 | none=>rw [e] at h;cases h
 | some j =>
  rw [e] at h
  obtain ⟨h1,h2,h3,h4⟩:=Ms e
  exact ⟨j,h1,h,h2,h3,h4⟩
theorem oh {α:Type}{xs:List α}{j:Nat}{v:α} (h:xs[j]?=some v):atI xs (j:Int)=some v:=by
 have hj:j < xs.length:=(Zab.mp h).1
 have e:ixN xs.length (j:Int)=some j:=by
  unfold ixN
  rw [if_pos (by lia),if_pos (by lia)];simp
 unfold atI;rw [e];exact h
noncomputable def Mu (b:Expr):Prop:=∀ o i,subscripted b false o i=operate [o,i] (getItem o i)
noncomputable def IxR (X:Cx) (r:R2):Prop :=
 ∀ (value slice:Expr) (pins:List (Addr×Obj)) (s:Shared) (σ:St) (H:Hp) (x y:V) (v u:Value) (Q:VK),Inv X pins σ H s->RelV x v->RelV y u->r x y H Q ->
  subscripted slice false v u=operate [v,u] (getItem v u)->wpAny (model X.prog X.w) X.A (subscriptTail value slice v u) (EP X pins σ Q) X.xe s
noncomputable def MtR (X:Cx) (id:String) (r:V->List V->Hp->VK->Prop):Prop :=
 ∀ (pins:List (Addr×Obj)) (s:Shared) (σ:St) (H:Hp) (x:V) (xs:List V) (v:Value) (us:List Value) (Q:VK),Inv X pins σ H s->RelV x v->Vals xs us->r x xs H Q ->
  wpAny (model X.prog X.w) X.A (call (.builtin id) (v::us)) (EP X pins σ Q) X.xe s
section
variable {X:Cx}{a b:Expr}{ta tb:TE}{pos:Pos}
theorem IxR.or {r r':R2} (h:IxR X r) (h':IxR X r'):IxR X (fun x y H Q=>r x y H Q∨r' x y H Q):=by
 intro value slice pins s σ H x y v u Q I rx ry q hs
 rcases q with q | q
 ·exact h value slice pins s σ H x y v u Q I rx ry q hs
 ·exact h' value slice pins s σ H x y v u Q I rx ry q hs
theorem bh {r:R2} (hr:IxR X r) (ha:PE X a ta) (hb:PE X b tb) (hs:Mu b):PE X (.Subscript a b pos) (tOp r ta tb):=by
 intro pins s σ H Q I h
 exact Subscript_ (Qv ha hb I h fun v u s2 x y H2 I2 rx ry q=>hr a b pins s2 σ H2 x y v u Q I2 rx ry q (hs _ _))
noncomputable def Su (K:PySem.W.Frag):R2:=fun x y H Q=>∃ p xs i v,x=.ref p∧y=.int i∧SqL K H p xs∧atI xs i=some v∧Q v H
noncomputable def Sv (K:PySem.W.Frag):R2:=fun x y H Q=>∃ p xs i v,x=.ref p∧y=.int i∧SqT K H p xs∧atI xs i=some v∧Q v H
noncomputable def Sx:R2:=fun x y H Q=>∃ z i c,x=.str z∧y=.int i∧z.length≤sizeLine∧atI z.cps.toList i=some c∧Q (.str ⟨#[c]⟩) H
theorem Mv:IxR X (Su X.K):=by
 intro value slice pins s σ H x y v u Q I rx ry h hs
 obtain ⟨p,xs,i,z,rfl,rfl,hq,he,q⟩:=h
 cases rx
 obtain ⟨t,rfl⟩:=ry
 obtain ⟨its,r,pl,hz⟩:=I.list hq
 obtain ⟨j,h1,h2,h3,h4,h5⟩:=yz he
 obtain ⟨w,ew,rw'⟩:=r.get h2
 have hl:=r.length
 have hn:=yu
 have fin:EP X pins σ Q w s:=⟨z,H,I,rw',q⟩
 by_cases h0:0≤i
 ·have hj:i.toNat=j:=by
   rw [seqIndex_of h0 h5] at h1
   exact Zaa h1
  exact item_listR pl.isList h0 (by lia) (by rw [hj];simpa using ew) fin hs
 ·have hj:(i+(its.toArray.size:Int)).toNat=j:=by
   rw [seqIndex_neg (by lia) h4] at h1
   rw [List.size_toArray,←hl]
   exact Zaa h1
  exact subscriptTail_builtinR (x:=w) pl.isList.typeIs slot_list_getitem.lookup
   (wpAny_getItem_list_neg (Q:=fun r s'=>r=w∧EP X pins σ Q r s') pl.isList (by lia) (by rw [List.size_toArray] <;> lia) (by lia) (by rw [hj];simpa using ew) ⟨rfl,fin⟩) hs
theorem QJ:IxR X (Sv X.K):=by
 intro value slice pins s σ H x y v u Q I rx ry h hs
 obtain ⟨p,xs,i,z,rfl,rfl,hq,he,q⟩:=h
 cases rx
 obtain ⟨t,rfl⟩:=ry
 obtain ⟨its,r,pl,hz⟩:=I.tuple hq
 obtain ⟨j,h1,h2,h3,h4,h5⟩:=yz he
 obtain ⟨w,ew,rw'⟩:=r.get h2
 have hl:=r.length
 have hn:=yu
 have fin:EP X pins σ Q w s:=⟨z,H,I,rw',q⟩
 exact subscriptTail_builtinR (x:=w) pl.typeIs slot_tuple_getitem.lookup
  (getItem_tuple (j:=j) (Q:=fun r s'=>r=w∧EP X pins σ Q r s') pl (by omega) (by omega) (by rw [List.size_toArray,←hl];exact h1) (by simpa using ew) ⟨rfl,fin⟩) hs
theorem QK:IxR X Sx:=by
 intro value slice pins s σ H x y v u Q I rx ry h hs
 obtain ⟨z,i,c,rfl,rfl,hz,he,q⟩:=h
 obtain ⟨t,rfl⟩:=rx
 obtain ⟨t',rfl⟩:=ry
 obtain ⟨j,h1,h2,h3,h4,h5⟩:=yz he
 have hl:z.cps.toList.length=z.length:=by simp [Str.length]
 rw [hl] at h1 h4 h5
 have hn:=yu
 exact tail_any (typeIs_str s z t) slot_str_getitem.lookup (getItem_str (c:=c) (by
  have e1:decide (i < -(2 ^ 63:Int))=false:=decide_eq_false (by lia)
  have e2:decide (i ≥ 2 ^ 63)=false:=decide_eq_false (by lia)
  rw [e1,e2,Bool.or_false]) (by rw [h1];simpa using h2) ⟨.str ⟨#[c]⟩,H,I.tok _,⟨_,rfl⟩,q⟩) hs
noncomputable def rIx (K:PySem.W.Frag):R2:=fun x y H Q=>Su K x y H Q∨Sv K x y H Q∨Sx x y H Q
theorem aY:IxR X (rIx X.K):=Mv.or (QJ.or QK)
theorem yC (lo hi:Option Int) (n:Nat):(sliceBounds lo hi none n).1=((HT.sIx n 0 lo:Nat):Int)∧(sliceBounds lo hi none n).2.1=((HT.sIx n n hi:Nat):Int)∧(sliceBounds lo hi none n).2.2=1:=by
 refine ⟨?_,?_,rfl⟩
 ·cases lo with
  | none=>simp [sliceBounds,HT.sIx]
  | some i =>
   simp only [sliceBounds,HT.sIx,Option.getD_none,show (1:Int) > 0 by decide,if_true]
   by_cases h:i < 0
   ·simp only [h,if_true] <;> lia
   ·simp only [h,if_false] <;> lia
 ·cases hi with
  | none=>simp [sliceBounds,HT.sIx]
  | some i =>
   simp only [sliceBounds,HT.sIx,Option.getD_none,show (1:Int) > 0 by decide,if_true]
   by_cases h:i < 0
   ·simp only [h,if_true] <;> lia
   ·simp only [h,if_false] <;> lia
theorem wM (its:List Value) (lo hi:Option Int):slicePick its.toArray lo hi none=((its.drop (HT.sIx its.length 0 lo)).take (HT.sIx its.length its.length hi - HT.sIx its.length 0 lo)).toArray:=by
 obtain ⟨h1,h2,h3⟩:=yC lo hi its.toArray.size
 unfold slicePick
 rw [h1,h2,h3]
 simp only [sliceRange_one,pick_run,List.size_toArray] <;> rfl
noncomputable def Sy (K:PySem.W.Frag):V->Option Int->Option Int->Hp->VK->Prop:=fun x lo hi H Q=>∃ a xs,x=.ref a∧SqL K H a xs∧∀ p,H p=none->Q (.ref p) (upd H p (.lst (Hm xs lo hi)))
theorem Mw:SlR X (Sy X.K):=by
 intro pins s σ H x v vl vu lo hi sl Q I rx hs pl pu h
 obtain ⟨a,xs,rfl,hx,q⟩:=h
 cases rx
 obtain ⟨its,r,ht,hz⟩:=I.list hx
 have hlen:=r.length
 refine ⟨"list",_,slot_list_getitem.lookup,ht.isList.typeIs,?_⟩
 refine wpAny_getItem_list_slice ht.isList hs pl pu .none (by simp) ?_ (by rw [List.size_toArray] <;> lia)
 rw [wM,←hlen]
 refine ⟨.ref s.heap.objs.size,_,I.laid (t':=s.toks) (o:=.lst (Hm xs lo hi)) (fun b ob q=>Zac _ q) (Zah _) ?_,rfl,q _ (I.hok.fresh (Zah _))⟩
 exact ⟨Zaz (Am xs lo hi) hz,_,0,(r.drop (HT.sIx xs.length 0 lo)).take (HT.sIx xs.length xs.length hi - HT.sIx xs.length 0 lo),Zal _ rfl⟩
noncomputable def Pk:V->Bool
 | .non=>true
 | .bl _=>true
 | .int _=>true
 | .str _=>true
 | _=>false
noncomputable def eqV:V->V->Bool
 | .non,.non=>true
 | .bl a,.bl b=>a == b
 | .bl a,.int b=>(if a then 1 else 0) == b
 | .int a,.bl b=>a == (if b then 1 else 0)
 | .int a,.int b=>a == b
 | .str a,.str b=>a == b
 | _,_=>false
theorem yD:sY X (.type "list") (fun xs H Q=>∃ p ys,xs=[.ref p]∧(SqL X.K H p ys∨SqT X.K H p ys)∧∀ l,H l=none->Q (.ref l) (upd H l (.lst ys))):=by
 intro pins s σ H xs us Q I r h
 obtain ⟨p,ys,rfl,hq,q⟩:=h
 obtain ⟨u,rfl,rx⟩:=vals1 r
 cases rx
 have fin:∀ (its:List Value),Vals ys its->ys.length≤sizeLine->∀ (h':Heap) (c':Nat),(∀ b o',s.heap.get? b=some o'->h'.get? b=some o') ->
   h'.get? s.heap.objs.size=some { cls:=.type "list",dict:=none,data:=.seq its.toArray c',slots:=#[] }->EP X pins σ Q (.ref s.heap.objs.size) { s with heap:=h' }:=fun its r' hz h' c' kp e =>
  ⟨.ref s.heap.objs.size,_,I.laid (t':=s.toks) kp (Zah _) (show dG X.prog X.w _ h' _ (.lst ys) from ⟨hz,its,c',r',e⟩),rfl,q _ (I.hok.fresh (Zah _))⟩
 rcases hq with hq | hq
 ·obtain ⟨its,r',pl,hz⟩:=I.list hq
  have hlen:=r'.length
  obtain ⟨o,ho,hc,n,hd⟩:=pl.isList
  exact call_list_seq p (.inl rfl) ho hc hd (fun h' c' kp e=>fin its r' hz h' c' kp e) (by simp only [List.size_toArray] <;> omega)
 ·obtain ⟨its,r',pl,hz⟩:=I.tuple hq
  have hlen:=r'.length
  obtain ⟨o,ho,hc,n,hd⟩:=pl
  exact call_list_seq p (.inr rfl) ho hc hd (fun h' c' kp e=>fin its r' hz h' c' kp e) (by simp only [List.size_toArray] <;> omega)
noncomputable def tyV (K:PySem.W.Frag) (T:String) (x:V) (H:Hp):Prop:=match x with
 | .str _=>T="str"
 | .int _=>T="int"
 | .ref p=>(T="list"∧∃ xs,SqL K H p xs)∨(T="tuple"∧∃ o,K.lookup p=some o∧o.cls=.type "tuple"∧o.dict=none) ∨
   (T="dict"∧((∃ kvs,H p=some (.dK kvs))∨∃ kvs,H p=some (.dT kvs)))∨(T="set"∧∃ S n,H p=some (.set S n))
 | _=>False
theorem QL {pins:List (Addr×Obj)}{σ:St}{H:Hp}{s:Shared}{T:String}{x:V}{v:Value} (I:Inv X pins σ H s) (r:RelV x v) (ty:tyV X.K T x H) :
  s.TypeIs v T∧∀ a,v=.ref a->∃ ob,s.heap.get? a=some ob∧ob.dict=none:=by
 cases x with
 | str z =>
  obtain ⟨t,rfl⟩:=r
  cases (show T="str" from ty)
  exact ⟨typeIs_str s z t,fun _ e=>nomatch e⟩
 | int i =>
  obtain ⟨t,rfl⟩:=r
  cases (show T="int" from ty)
  exact ⟨typeIs_int s i t,fun _ e=>nomatch e⟩
 | ref p =>
  cases r
  rcases ty with ⟨rfl,xs,hq⟩ | ⟨rfl,o,hk,hc,hd⟩ | ⟨rfl,hk⟩ | ⟨rfl,S,n,hk⟩
  ·obtain ⟨its,_,pl,_⟩:=I.list hq
   refine ⟨pl.isList.typeIs,fun a e=>?_⟩
   cases e
   obtain ⟨o,n,e,c,hd,_⟩:=pl
   exact ⟨o,e,hd⟩
  ·refine ⟨⟨o,I.kIn p o hk,hc⟩,fun a e=>?_⟩
   cases e
   exact ⟨o,I.kIn _ o hk,hd⟩
  ·have z:∃ o,s.heap.get? p=some o∧o.ExactDict:=by
    rcases hk with ⟨kvs,hk⟩ | ⟨kvs,hk⟩
    ·obtain ⟨_,_,_,_,o,_,_,e,ex,_⟩:=I.hok p _ hk
     exact ⟨o,e,ex⟩
    ·obtain ⟨_,_,_,_,o,_,_,e,ex,_⟩:=I.hok p _ hk
     exact ⟨o,e,ex⟩
   obtain ⟨o,e,ex⟩:=z
   refine ⟨⟨o,e,ex.1⟩,fun a e2=>?_⟩
   cases e2
   exact ⟨o,e,ex.2.1⟩
  ·obtain ⟨o,_,_,_,e,ex,_⟩:=I.hok p _ hk
   refine ⟨⟨o,e,ex.1⟩,fun a e2=>?_⟩
   cases e2
   exact ⟨o,e,ex.2.1⟩
 | _=>exact False.elim ty
noncomputable def tBM (K:PySem.W.Frag) (T:String) (r:V->List V->Hp->VK->Prop) (to:TE) (t:TA):TE:=fun σ H Q=>to σ H fun x H1=>tyV K T x H1∧t σ H1 fun xs H2=>r x xs H2 Q
variable {o e:Expr}{es:List Expr}{to:TE}{t:TA}{name:Str}{apos cpos:Pos}{T id:String}{r:V->List V->Hp->VK->Prop}
theorem Pn (pa:PlainAttrs T) (slot:Slot T name id) (hty:typeOf (.builtin id)=pure (.type "method_descriptor")) (hm:MtR X id r) (ho:PE X o to) (ha:PA X (e::es) t)
  (hbase:attributeBase o name X.env (eval o X.env)=eval o X.env:=by rfl)
  (hfew:((backTo cpos (starEach (e::es) X.env)).all (fun x=>!x.1) && (backToKw cpos (keywordEach [] X.env)).all (fun x=>x.1.isSome)
   && decide ((e::es).length+([]:List Keyword).length+(if ([]:List Keyword).isEmpty then 0 else 1) < 30))=true:=by rfl)
  (hline:(apos.endLine == cpos.line)=true:=by rfl) (hs:starEach (e::es) X.env=(false,eval e X.env)::starEach es X.env:=by rfl) (hplain:(backTo cpos (starEach es X.env)).any (·.1)=false:=by rfl) :
  PE X (.Call (.Attribute o name apos) (e::es) [] cpos) (tBM X.K T r to t):=by
 intro pins s σ H Q I h
 refine wpAny_Call_method_late hbase hfew hline rfl (thn (ho pins s σ H _ I h) ?_)
 rintro v s1 ⟨x,H1,I1,r1,ty,q1⟩
 obtain ⟨h1,h2⟩:=QL I1 r1 ty
 refine ⟨T,id,pa,slot,hty,h1,h2,?_⟩
 have hA:=ha cpos pins s1 σ H1 _ I1 q1
 rw [hs] at hA ⊢
 refine Calls.callWith_builtin (by show (false || (backTo cpos (starEach es X.env)).any (·.1))=false;rw [hplain] <;> rfl) (Calls.evalArgs_plain ?_)
 exact thn hA fun us s2 ⟨vs,H2,I2,r2,q2⟩=>hm pins s2 σ H2 x vs v us Q I2 r1 r2 q2
end
noncomputable def MtM (X:Cx) (id:String) (r:V->List V->Hp->VK->Prop):Prop :=
 ∀ (pins:List (Addr×Obj)) (s:Shared) (σ:St) (H:Hp) (x:V) (xs:List V) (v:Value) (us:List Value) (Q:VK),Inv X pins σ H s->RelV x v->Vals xs us->r x xs H Q ->
  wpAny (model X.prog X.w) X.A (call (.builtin id) (v::us)) (EP X pins σ Q) X.xe s
theorem Vals.one:∀ {x:V}{us:List Value},Vals [x] us->∃ u,us=[u]∧RelV x u
 | _,_,.cons r .nil=>⟨_,rfl,r⟩
section
variable {X:Cx}{pins:List (Addr×Obj)}{σ:St}{H:Hp}{s:Shared}{l b:Addr}{xs ys zs:List V}
theorem Inv.Ue {its its':List Value}{n:Nat}{f:Array Value->Array Value}{t':Nat} (I:Inv X pins σ H s) (hH:H l=some (.lst xs))
  (e:s.heap.get? l=some { cls:=.type "list",data:=.seq its.toArray n }) (hf:f its.toArray=its'.toArray) (hv:Vals ys its') (hz:ys.length≤sizeLine) :
  Inv X pins σ (upd H l (.lst ys)) { s with heap:=s.heap.update l (Obj.mapSeq f),toks:=t' }:=by
 have q:=PySem.IsL.update e f
 rw [hf] at q
 refine I.write (x:=l) (e:=l) (by rw [hH];exact trivial) (.inl rfl) (fun b' u hb hu=>(Heap.get?_update_other s.heap (Obj.mapSeq f) (Za8 hb)).trans hu) ⟨_,q⟩ ?_
 exact ⟨hz,its',_,hv,q⟩
theorem Inv.Ug {its:List Value}{t':Nat} (I:Inv X pins σ H s) (hv:Vals ys its) (hz:ys.length≤sizeLine) :
  Inv X pins σ (upd H s.heap.objs.size (.lst ys)) { s with heap:=s.heap.push { cls:=.type "list",data:=.seq its.toArray },toks:=t' } :=
 I.laid (fun _ _ q=>Zac _ q) (Zah _) ⟨hz,its,0,hv,Zal _ rfl⟩
theorem Inv.fresh (I:Inv X pins σ H s):H s.heap.objs.size=none:=I.hok.fresh (Zah _)
theorem Inv.Uh (I:Inv X pins σ H s) (hH:H l=some (.lst xs)):xs.length≤sizeLine∧∃ (its:List Value) (n:Nat),Vals xs its∧xs.length=its.length∧s.heap.get? l=some { cls:=.type "list",data:=.seq its.toArray n }:=by
 obtain ⟨z,its,n,r,e⟩:=I.hok l _ hH
 exact ⟨z,its,n,r,r.length,e⟩
end
section
variable {X:Cx}
noncomputable def yE:V->List V->Hp->VK->Prop:=fun x vs H Q=>∃ l xs y,x=.ref l∧vs=[y]∧H l=some (.lst xs)∧xs.length < sizeLine∧Q .non (upd H l (.lst (xs++[y])))
theorem rO:MtM X "list.append" yE:=by
 intro pins s σ H x vs v us Q I rx rv h
 obtain ⟨l,xs,y,rfl,rfl,hH,hz,q⟩:=h
 cases rx
 obtain ⟨u,rfl,ru⟩:=rv.one
 obtain ⟨z,its,n,r,hl,e⟩:=I.Uh hH
 refine call_meets F.slot_list_append ⟨_,e,rfl⟩ F.entry_list_append (F.args_list_append_2 _ _) (PySem.list_append l its.toArray n u (by rw [List.size_toArray];lia)) ⟨e,?_⟩
 refine ⟨.non,_,I.Ue (its':=its++[u]) hH e (by simp) (r.append (.cons ru .nil)) ?_,rfl,q⟩
 rw [List.length_append,List.length_singleton]
 lia
end
section
variable {prog:Program}{w:World}{A:Around}{E:Value->Shared->Prop}{s:Shared}
end
section
variable {X:Cx}
end
end L2
namespace Att
open PySem PySem.W PySem.Calls PyProof.Rows
theorem tX {P:Params}{h:Heap}:∀ (ns:List Int) (vs:List Value),WellAll P h vs (ns.map WData.int)->IntsAre vs ns:=by
 intro ns
 induction ns with
 | nil =>
  intro vs w
  rw [List.map_nil] at w
  cases w
  exact .nil
 | cons n ns ih =>
  intro vs w
  rw [Zak] at w
  cases w with
  | cons a b =>
   cases a
   exact .cons _ _ (ih _ b)
theorem Hn {l:OpenLaw}{n:Nat} (hn:l.most=some n) {P:Params}{h:Heap}{args:List WData}{vals:List Value}
  (hpre:l.row.toRowW.claim.pre args=true) (hwl:WellAll P h vals args) :
  ∃ a vs ns,vals=[Value.ref a]∧args=[WData.list (ns.map WData.int)]∧h.get? a=some { cls:=.type "list",data:=.seq vs.toArray }∧IntsAre vs ns∧ns.length≤n:=by
 have hsh:WShape.hasAll [] args [.list .int]=true:=(pre_splitW hpre).1
 have hc:l.pre.holds [] { args:=args }=true:=(pre_splitW hpre).2
 obtain ⟨d,r,rfl,h1,h2⟩:=hasAllW_cons hsh
 obtain rfl:=hasAllW_nil h2
 obtain ⟨xs,rfl,h3⟩:=hasW_list h1
 obtain ⟨ns,rfl⟩:=items_int h3
 have hlen:ns.length≤n:=by
  unfold OpenLaw.pre at hc
  have h4:(WTm.not (.lt (.lit (.int (n:Int))) (.len (.arg 0)))).holds [] { args:=[.list (ns.map .int)] }=true:=by
   have h4:=(holds_andW hc).1
   rw [hn] at h4
   exact h4
  have h5:=condW_of h4 (w_not (w_lt w_lit (w_len_list (w_arg rfl))))
  rw [List.length_map] at h5
  refine Nat.le_of_not_lt fun q=>?_
  have q':(n:Int) < ((ns.length:Nat):Int):=by omega
  first
   | (rw [decide_eq_true q'] at h5;exact absurd h5 (by decide))
   | (simp at h5;omega)
 cases hwl with
 | cons w1 w2 =>
  cases w2
  cases w1 with
  | list ho hall=>exact ⟨_,_,ns,rfl,rfl,ho,tX ns _ hall,hlen⟩
theorem Ho (l:OpenLaw) (args:List WData):l.row.toRowW.claim.post args (.bool true) args=true :=
 postW_of (r:=l.row.toRowW) (X:=(true == true))
  (show WShape.has [] (.bool true) .bool=true by first | rfl | decide | simp [WShape.has,WShape.arms,WShape.armsAll])
  (show (WTm.eq .res (.lit (.bool true))).value [] { args:=args,res:=some (.bool true),after:=args }=some (.bool (true == true)) from w_eq_bool (w_res rfl) w_lit) rfl
theorem An {l:OpenLaw}{n:Nat}{q:Program}{loose:List Str}{XP:(Str->Option Value)->Heap->Prop}{YP:World->Heap->Prop}{d:DefRec}
  (hn:l.most=some n) (hdf:d.params.defaults=[])
  (call:∀ (w:World) (s₀ s₁:Shared) (mg mb:Str->Option Value) (fa:Addr) (o:Obj) (pm cd doc:Value) (a:Addr) (vs:List Value) (ns:List Int),
   Ground q loose [] XP w s₀ mg mb s₁.heap->YP w s₁.heap ->
   s₁.heap.get? fa=some o->o.data=.func (docDef d.name d.params d.body d.scope pm cd doc)->s₁.heap.CodeRec cd d.name->mg d.name=some (.ref fa) ->
   s₁.heap.get? a=some { cls:=.type "list",data:=.seq vs.toArray }->IntsAre vs ns->ns.length≤n->s₁.gens=#[] ->
   codeAny (model l.prog w) callerA (.call (.ref fa) ⟨[.ref a],[]⟩) (fun r s'=>r=.ok (.ret (.bool true))∧OldK s₁.heap s'.heap∧s'.os=s₁.os∧AllBare s'.gens) s₁) :
  WalkO q loose XP YP l.row.toRowW d [] (fun f vs=>PySem.call f vs):=by
 intro w s₀ s₁ mg mb G Y fa o pm cd doc dV kV ho hd hcd hD hmg hg args vals as hpre hlay hrd hwl hlo
 obtain rfl:dV=.none:=Dflts.none hD hdf
 obtain rfl:kV=.none:=Dflts.noKw hD
 obtain ⟨a,vs,ns,rfl,rfl,hobj,hints,hlen⟩:=Hn hn hpre hwl
 refine enter_call (codeAny_mono (call w s₀ s₁ mg mb fa o pm cd doc a vs ns G Y ho (fd_plain hd) hcd hmg hobj hints hlen hg) fun r s' hq=>?_)
 obtain ⟨rfl,h2,h3,h4⟩:=hq
 exact ⟨.inl ⟨.bool true,.bool true,[],rfl,fun _=>rfl,.bool true,Ho l _,fun _=>⟨List.Pairwise.nil,fun _ hm=>(nomatch hm)⟩⟩,h2,h3,h4⟩
section
variable {prog:Program}{w:World}{A:Around}{E:Value->Shared->Prop}{s:Shared}{K:Frag}
end
end Att
namespace L2
open PySem PySem.Spec PyProof.Rows
theorem rP:∀ {vs:List Value}{ns:List Int},IntsAre vs ns->Vals (ns.map V.int) vs
 | _,_,.nil=>.nil
 | _,_,.cons n t h=>.cons ⟨t,rfl⟩ (rP h)
noncomputable def Only (H:Hp):Prop:=∀ b,H b=none∨∃ o xs,H b=some (.frz o (.lst xs))
theorem Jr {P:Program}{w:World}{K:PySem.W.Frag}{mg mb:Str->Option Value}{CX:CXT}{k:Nat}{fa a:Addr}{fd:FuncData}{x:Str}{sp:Sp}{s₁:Shared}{vs:List Value}{ns:List Int}
  (KX:K.In s₁.heap) (hns:s₁.heap.Ns mainGlobals mg) (hb:s₁.heap.Ns builtinsNs mb) (hbb:∀ x:Str,x≠"__name__"->mb x=bootBuiltins x) (hlim:s₁.heap.NoLimit) (hg:s₁.gens=#[])
  (ha:s₁.heap.get? a=some { cls:=.type "list",data:=.seq vs.toArray }) (hi:IntsAre vs ns) (hl:ns.length≤sizeLine) (hr:fJ k callerA)
  (F:∀ base:Heap,K.In base->base.Ns mainGlobals mg->wL P w K mg base CX k fa fd [x] sp) (hbind:∀ (s:Shared) (u:Value),BindsTo s fd ⟨[u],[]⟩ [(x,u)])
  (hsp:∀ H:Hp,Only H->SqL K H a (ns.map V.int)->sp [.ref a] H (fun v _=>v=.bl true) fun _ _ _=>False)
  (hCX:∀ H e s',CX [] H s₁ (fun _ _ _=>False) e s'->False) :
  codeAny (model P w) callerA (.call (.ref fa) ⟨[.ref a],[]⟩) (fun r s'=>r=.ok (.ret (.bool true))∧OldK s₁.heap s'.heap∧s'.os=s₁.os∧AllBare s'.gens) s₁:=by
 have rv:=rP hi
 have lenV:=hi.length
 have core:∀ H:Hp,Only H->SqL K H a (ns.map V.int)->HOk P w H s₁.heap->(∀ b,H b≠none->b=a)->(H a≠none->K.lookup a=none) ->
   codeAny (model P w) callerA (.call (.ref fa) ⟨[.ref a],[]⟩) (fun r s'=>r=.ok (.ret (.bool true))∧OldK s₁.heap s'.heap∧s'.os=s₁.os∧AllBare s'.gens) s₁:=by
  intro H hO hS hok hA hK
  have base_of:∀ {b:Addr}{o:Obj},s₁.heap.get? b=some o->H b=none->(yp s₁.heap H).get? b=some o:=fun e n=>Jh e n
  have noA:∀ {b:Addr}{o:Obj}{es:Array DictEntry}{ep:Nat},s₁.heap.get? b=some o->o.data=.dict es ep->H b=none:=fun {b o es ep} e d=>by
   cases q:H b with
   | none=>rfl
   | some u =>
    have e':b=a:=hA b (by rw [q];simp)
    subst e'
    rw [ha] at e;cases e
    have d':Data.seq vs.toArray _=Data.dict es ep:=d
    cases d'
  have nsK:∀ {b:Addr}{m:Str->Option Value},s₁.heap.Ns b m->(yp s₁.heap H).Ns b m:=fun {b m} ⟨o,es,ep,e,d,r⟩=>⟨o,es,ep,base_of e (noA e d),d,r⟩
  have hKb:K.In (yp s₁.heap H):=fun b o e=>base_of (KX b o e) (by
   cases q:H b with
   | none=>rfl
   | some u =>
    have e':b=a:=hA b (by rw [q];simp)
    subst e'
    rw [hK (by rw [q];simp)] at e;cases e)
  have hM:Mod K mg (yp s₁.heap H):=⟨hKb,nsK hns,⟨mb,nsK hb,hbb⟩,let ⟨mc,h1,h2⟩:=hlim;⟨mc,nsK h1,h2⟩⟩
  have e0:Mj P w K mg (yp s₁.heap H) callerA [] s₁ H:=⟨rfl,hM,fun b o e=>LQ e,Nat.le_of_eq (Hd _ _),trivial,fun b hb=>absurd (show b∈([]:List Addr) from hb) (by simp),hok,.of_eq hg⟩
  refine codeAny_mono ((F _ hKb (nsK hns)).run callerA [] s₁ H ⟨[.ref a],[]⟩ [.ref a] [.ref a] _ _ hr e0 (hbind s₁ (.ref a)) (.cons rfl .nil) (hsp H hO hS)) fun r s' h=>?_
  cases r with
  | error e=>exact (hCX H e s' h).elim
  | ok fl =>
   cases fl with
   | next=>exact False.elim h
   | brk=>exact False.elim h
   | cont=>exact False.elim h
   | ret u =>
    obtain ⟨v,H',os,bare,un,hok',r',q⟩:=h
    have q':v=.bl true:=q
    subst q'
    obtain rfl:u=Value.bool true:=r'
    refine ⟨rfl,OldK.of_keep fun b o e=>?_,os,bare⟩
    cases q:H b with
    | none=>exact un.keep b o e q (by intro z;exact absurd (show b∈([]:List Addr) from z) (by simp)) (by simp)
    | some u =>
     rcases hO b with z | ⟨ob,xs,z⟩
     ·rw [q] at z;cases z
     ·have z2:=un.frzs b ob _ z
      obtain ⟨e1,_⟩:=hok b _ z
      obtain ⟨e2,_⟩:=hok' b _ z2
      rw [e] at e1;cases e1
      exact e2
 cases hk:K.lookup a with
 | some o =>
  have e:=KX a o hk
  rw [ha] at e
  cases e
  refine core (fun _=>none) (fun _=>.inl rfl) (.inr ⟨_,vs.toArray,_,hk,rfl,rfl,rfl,by rw [List.size_toArray,lenV];exact hl,by simpa using rv⟩) (fun b u z=>by have z':(none:Option HO)=some u:=z;cases z') (fun b z=>absurd rfl z) fun z=>absurd rfl z
 | none =>
  refine core (fun b=>if b=a then some (.frz { cls:=.type "list",data:=.seq vs.toArray } (.lst (ns.map V.int))) else none) (fun b=>?_) (.inl (.inr ⟨{ cls:=.type "list",data:=.seq vs.toArray },if_pos rfl⟩)) (fun b u z=>?_) (fun b z=>?_) fun _=>hk
  ·by_cases hb:b=a
   ·exact .inr ⟨_,_,if_pos hb⟩
   ·exact .inl (if_neg hb)
  ·by_cases hb:b=a
   ·have z':=(if_pos hb).symm.trans z
    cases z'
    subst hb
    exact ⟨ha,by rw [List.length_map];exact hl,vs,_,rv,ha⟩
   ·have z':=(if_neg hb).symm.trans z
    cases z'
  ·by_cases hb:b=a
   ·exact hb
   ·exact absurd (if_neg hb) z
theorem Mx {l:PySem.W.OpenLaw}{n k:Nat}{q:Program}{loose:List Str}{XP:(Str->Option Value)->Heap->Prop}{YP:World->Heap->Prop}{d:DefRec}{K:Params->PySem.W.Frag}{CX:World->CXT}{sp:World->Sp}{x:Str}
  (hn:l.most=some n) (hn2:n≤sizeLine) (hdf:d.params.defaults=[]) (hr:fJ k callerA)
  (hY:∀ (w:World) (h:Heap),YP w h->(K w.params).In h)
  (F:∀ (w:World) (mg:Str->Option Value) (fa:Addr) (h:Heap),(K w.params).In h->h.Ns mainGlobals mg->mg d.name=some (.ref fa) ->
   ∃ fd:FuncData,(∀ (s:Shared) (u:Value),BindsTo s fd ⟨[u],[]⟩ [(x,u)]) ∧
    ∀ base:Heap,(K w.params).In base->base.Ns mainGlobals mg->wL l.prog w (K w.params) mg base (CX w) k fa fd [x] (sp w))
  (hsp:∀ (w:World) (H:Hp) (a:Addr) (ns:List Int),ns.length≤n->Only H->SqL (K w.params) H a (ns.map V.int)->sp w [.ref a] H (fun v _=>v=.bl true) fun _ _ _=>False)
  (hCX:∀ (w:World) (H:Hp) (s:Shared) (e:Value) (s':Shared),CX w [] H s (fun _ _ _=>False) e s'->False) :
  PySem.W.WalkO q loose XP YP l.row.toRowW d [] (fun f vs=>PySem.call f vs):=by
 refine Att.An hn hdf fun w s₀ s₁ mg mb fa o pm cd doc a vs ns G Y ho hd hcd hmg hobj hints hlen hg=>?_
 have KX:=hY w _ Y
 obtain ⟨fd,hb,hF⟩:=F w mg fa _ KX G.T.g hmg
 exact Jr KX G.T.g G.T.b G.T.builtins G.T.nolimit hg hobj hints (Zaz hlen hn2) hr hF hb (fun H hO hS=>hsp w H a ns hlen hO hS) fun H e s'=>hCX w H s₁ e s'
noncomputable def bx (s:Stmt):Arguments:=match s with
 | .FunctionDef _ a _ _ _ _ _ _ _ _=>a
 | _=>{ posonlyargs:=[],args:=[],vararg:=none,kwonlyargs:=[],kw_defaults:=[],kwarg:=none,defaults:=[] }
noncomputable def bj (s:Stmt):List Stmt:=match s with
 | .FunctionDef _ _ b _ _ _ _ _ _ _=>b
 | _=>[]
noncomputable def aN (s:Stmt):Scope:=match s with
 | .FunctionDef _ _ _ _ _ _ sc _ _ _=>sc
 | _=>{ kind:=.function,names:=[],isGenerator:=false,isCoroutine:=false }
noncomputable abbrev CX0:CXT:=fun _ _ _ _ _ _=>False
noncomputable abbrev E0:XK:=fun _ _ _=>False
theorem SJ {X:Cx}:DP CX0 X E0:=fun _ _ _ _ _ _ _ h=>h.elim
structure Fun (K:PySem.W.Frag) (x qual:Str) (st:Stmt) (f:Addr) (fd:FuncData):Prop where
 ex:∃ (oc:Value) (od:Option Addr) (kV doc pm:Value) (an:Option Addr) (cdv ct:Value) (osl:Array (Option Value)),
  fd=PySem.W.fnOf x qual (bx st) (bj st) (aN st) .none kV doc pm an cdv ct∧K.lookup f=some ⟨oc,od,.func fd,osl⟩∧PySem.W.codeIn K cdv qual=true
 kp:PySem.W.keepIn K (.ref f)=true
section
variable {P:Program}{w:World}{K:PySem.W.Frag}{mg:Str->Option Value}{base:Heap}
theorem Fun.ok {x qual:Str}{st:Stmt}{f:Addr}{fd:FuncData}{N ps:List Str}{k:Nat}{sp:Sp} (F:Fun K x qual st f fd) (S:bF N ps (aN st)) (len:∀ vs H Q E,sp vs H Q E->vs.length=ps.length)
  (hbody:∀ (cdv:Value) (A:Around) (outer:List Env) (s:Shared) (H:Hp) (vs:List V) (Q:VK) (E:XK),fJ k (A.deeper (envOfC qual (aN st) s.heap.objs.size f cdv))->sp vs H Q E ->
   ∃ t,PSs (DQ CX0 P w K mg base N qual (aN st) f cdv A outer s H E).nox (bj st) t∧t { nx:=fun _ H'=>Q .non H',rt:=Q } (start N vs) H):wL P w K mg base CX0 (k+1) f fd ps sp:=by
 obtain ⟨oc,od,kV,doc,pm,an,cdv,ct,osl,rfl,lk,hcd⟩:=F.ex
 refine Ss lk hcd S len fun A outer s H vs Q E hr hsp=>?_
 obtain ⟨t,h,q⟩:=hbody cdv A outer s H vs Q E hr hsp
 exact ⟨t,h.nox,q⟩
theorem Fun.binds {x qual:Str}{st:Stmt}{f:Addr}{fd:FuncData}{ps:List Str} (F:Fun K x qual st f fd)
  (h:∀ (kV doc pm:Value) (an:Option Addr) (cdv ct:Value) (us:List Value),us.length=ps.length->bindArgs (PySem.W.fnOf x qual (bx st) (bj st) (aN st) .none kV doc pm an cdv ct) ⟨us,[]⟩=pure (ps.zip us)):Binds K fd ps []:=by
 obtain ⟨oc,od,kV,doc,pm,an,cdv,ct,osl,rfl,lk,hcd⟩:=F.ex
 exact .all (h kV doc pm an cdv ct)
theorem cI {x qual:Str}{st:Stmt}{f:Addr}{oc:Value}{od an:Option Addr}{osl:Array (Option Value)}{kV doc pm cdv ct:Value} (l:K.lookup f=some ⟨oc,od,.func (PySem.W.fnOf x qual (bx st) (bj st) (aN st) .none kV doc pm an cdv ct),osl⟩)
  (c:PySem.W.codeIn K cdv qual=true) (k:PySem.W.keepIn K (.ref f)=true):Fun K x qual st f (PySem.W.fnOf x qual (bx st) (bj st) (aN st) .none kV doc pm an cdv ct):=⟨⟨oc,od,kV,doc,pm,an,cdv,ct,osl,rfl,l,c⟩,k⟩
end
theorem qm {A:Around}{k:Nat} (hr:fJ k A):A.units+1 < cLine:=Nat.lt_of_le_of_lt (Nat.add_le_add_left (by decide:1≤64) _) hr.units
theorem xm {n:Nat} (h:n≤1000):n < sizeLine:=Nat.lt_of_le_of_lt h (by decide)
section
variable {X:Cx}
theorem pv (i:Nat) {x:Str}{pos:Pos} (hN:X.N[i]?=some x:=by rfl) (hv:Vis X.env.scope x:=by first | exact Or.inl rfl | exact Or.inr (Or.inl rfl) | exact Or.inr (Or.inr rfl)) (hd:(x == ("__debug__":Str))=false:=by decide)
  (hcd:(x == ("__classdict__":Str))=false:=by decide):PE X (.Name x pos) (lD i):=Du hN hv hd hcd
end
theorem qp {c A B:Prop} [Decidable c] (h1:c->A) (h2:¬c->B):if c then A else B:=by
 by_cases h:c
 ·rw [if_pos h]
  exact h1 h
 ·rw [if_neg h]
  exact h2 h
noncomputable def aR (H H':Hp):Prop:=∀ b o,H b=some o->H' b=some o
theorem aR.refl (H:Hp):aR H H:=fun _ _ h=>h
theorem aR.trans {H H1 H2:Hp} (a:aR H H1) (b:aR H1 H2):aR H H2:=fun c o h=>b c o (a c o h)
theorem aR.free {H H':Hp} (e:aR H H') {l:Addr} (h:H' l=Option.none):H l=Option.none:=by
 cases q:H l with
 | none=>rfl
 | some o =>
  rw [e l o q] at h
  cases h
theorem aR.seq {K:PySem.W.Frag}{H H':Hp}{a:Addr}{xs:List V} (e:aR H H') (h:SqL K H a xs):SqL K H' a xs:=by
 rcases h with (h | ⟨o,h⟩) | h
 ·exact .inl (.inl (e _ _ h))
 ·exact .inl (.inr ⟨o,e _ _ h⟩)
 ·exact .inr h
end L2
set_option maxHeartbeats 4000000
namespace Mth
noncomputable def sub (l m:List Bool):Bool:=(List.range l.length).all fun i=>!l.getD i false || m.getD i false
theorem My (n p:Nat):(n / 2 ^ p) &&& 1=(n.testBit p).toNat:=by
 have h:=Nat.testBit_eq_decide_div_mod_eq (x:=n) (i:=p)
 rw [Nat.and_one_is_mod,h]
 by_cases e:n / 2 ^ p % 2=1
 ·simp [e]
 ·have:n / 2 ^ p % 2=0:=by omega
  simp [this]
noncomputable def pl (W:Nat) (c:Int×Int):Nat:=c.2.toNat * W+c.1.toNat
noncomputable def cellOf (W:Nat) (i:Nat):Int×Int:=(((i % W:Nat):Int),((i / W:Nat):Int))
structure InR (W H:Nat) (c:Int×Int):Prop where
 c0:0≤c.1
 c1:c.1 < W
 r0:0≤c.2
 r1:c.2 < H
theorem rQ (W i:Nat):pl W (cellOf W i)=i:=by
 unfold pl cellOf
 simp only [Zav]
 exact Nat.div_add_mod' i W
theorem rR {W H:Nat}{i:Nat} (h:i < W * H):InR W H (cellOf W i):=by
 have hW:0 < W:=by
  rcases Nat.eq_zero_or_pos W with e | e
  ·subst e;simp at h
  ·exact e
 refine ⟨Zbd _,?_,Zbd _,?_⟩
 ·exact Int.ofNat_lt.mpr (Nat.mod_lt _ hW)
 ·exact Int.ofNat_lt.mpr (Nat.div_lt_of_lt_mul h)
theorem rT {W H:Nat}{c:Int×Int} (h:InR W H c):cellOf W (pl W c)=c:=by
 obtain ⟨c0,c1,r0,r1⟩:=h
 obtain ⟨x,y⟩:=c
 simp only at c0 c1 r0 r1
 obtain ⟨a,rfl⟩:=ZaD c0
 obtain ⟨b,rfl⟩:=ZaD r0
 have hW:0 < W:=by omega
 have ha:a < W:=by omega
 unfold cellOf pl
 simp only [Zav]
 rw [Zbx b W,Nat.mul_add_mod,Nat.mod_eq_of_lt ha,Nat.mul_add_div hW,Nat.div_eq_of_lt ha,Nat.add_zero]
theorem SM {W H:Nat}{c:Int×Int} (h:InR W H c):pl W c < W * H:=by
 obtain ⟨c0,c1,r0,r1⟩:=h
 unfold pl
 have h1:c.1.toNat < W:=by omega
 have h2:c.2.toNat+1≤H:=by omega
 have h3:(c.2.toNat+1) * W≤H * W:=Nat.mul_le_mul_right W h2
 rw [Nat.add_mul,Nat.one_mul] at h3
 rw [Zbx W H]
 omega
noncomputable def Hq (W:Nat) (ps:List (Int×Int)):Nat:=ps.foldl (fun n c=>n ||| 2 ^ pl W c) 0
theorem Hr (W:Nat) (ps:List (Int×Int)) (c:Int×Int):Hq W (ps++[c])=Hq W ps ||| 2 ^ pl W c:=by
 unfold Hq
 rw [List.foldl_append]
 rfl
noncomputable def bits (W k:Nat) (ps:List (Int×Int)):List Bool:=(List.range k).map fun i=>decide (cellOf W i∈ps)
noncomputable def pick (W k:Nat) (q:Nat->Bool):List (Int×Int):=((List.range k).filter q).map (cellOf W)
theorem j9 (W k:Nat) (q:Nat->Bool):(pick W k q).length≤k:=by
 unfold pick
 rw [List.length_map]
 exact Zaz (ZaR _ _) (by simp)
end Mth
namespace L2
open PySem PySem.Spec PyProof.Rows
theorem pO {env:Env}:∀ (names:List (Str×NameKind)) (cs:List (Str×Addr)),(∀ x∈names,x.2=.free->∃ c,env.cells.lookup x.1=some c) ->
  (∀ x c,cs.lookup x=some c->env.cells.lookup x=some c) ->
  ∃ cl,(forIn names cs fun x s=>if (x.snd == NameKind.free)=true then do let d ←cellOf env x.fst;pure (ForInStep.yield ((x.fst,d)::s)) else pure (ForInStep.yield s):Sem _)=pure cl ∧
   (∀ x c,cl.lookup x=some c->env.cells.lookup x=some c)∧(∀ x c,cs.lookup x=some c->cl.lookup x=some c)∧∀ x,(x,NameKind.free)∈names->∃ c,cl.lookup x=some c
 | [],cs,_,h2=>⟨cs,rfl,h2,fun _ _ e=>e,fun _ h=>nomatch h⟩
 | (n,k)::r,cs,h1,h2=>by
  rw [List.forIn_cons]
  by_cases hk:k=.free
  ·subst hk
   obtain ⟨c,hc⟩:=h1 (n,.free) List.mem_cons_self rfl
   have ec:cellOf env n=pure c:=by unfold cellOf;simp only [hc]
   obtain ⟨cl,e,p1,p2,p3⟩:=pO r ((n,c)::cs) (fun x hx=>h1 x (List.mem_cons_of_mem _ hx)) (fun x d e=>by
    rw [List.lookup_cons] at e
    by_cases hx:x=n
    ·subst hx;simp at e;subst e;exact hc
    ·have hb:(x == n)=false:=beq_eq_false_iff_ne.mpr hx
     rw [hb] at e;exact h2 x d e)
   refine ⟨cl,?_,p1,fun x d e'=>?_,fun x hx=>?_⟩
   ·simp only [beq_self_eq_true,if_true,ec]
    exact e
   ·by_cases hx:x=n
    ·subst hx
     have:=h2 _ _ e'
     rw [hc] at this;cases this
     exact p2 x c (by simp)
    ·have hb:(x == n)=false:=beq_eq_false_iff_ne.mpr hx
     exact p2 x d (by rw [List.lookup_cons,hb];exact e')
   ·rcases Zas.mp hx with e | hx
    ·cases e;exact ⟨c,p2 n c (by simp)⟩
    ·exact p3 x hx
  ·obtain ⟨cl,e,p1,p2,p3⟩:=pO r cs (fun x hx=>h1 x (List.mem_cons_of_mem _ hx)) h2
   have hb:(k == NameKind.free)=false:=by simpa using hk
   refine ⟨cl,?_,p1,p2,fun x hx=>?_⟩
   ·simp only [hb,Za0,if_false]
    exact e
   ·rcases Zas.mp hx with e | hx
    ·cases e;exact absurd rfl hk
    ·exact p3 x hx
theorem DR {scope:Scope}{env:Env} (h:∀ x∈scope.names,x.2=.free->∃ c,env.cells.lookup x.1=some c):∃ cl,closureFor scope env=pure cl ∧
  (∀ x c,cl.lookup x=some c->env.cells.lookup x=some c)∧∀ x,(x,NameKind.free)∈scope.names->∃ c,cl.lookup x=some c:=by
 obtain ⟨cl,e,p1,_,p3⟩:=pO scope.names [] h (fun _ _ e=>nomatch e)
 refine ⟨cl,?_,p1,p3⟩
 simp only [closureFor]
 rw [e]
 rfl
noncomputable abbrev mH (env:Env) (x:Str×NameKind):Str×NameKind:=if (x.2 == NameKind.free && env.scope.kind == .function && env.kindOf x.1 == some .cell)=true then (x.1,NameKind.cell) else x
theorem Hs (env:Env) (x:Str×NameKind):(mH env x).1=x.1:=by unfold mH;split <;> rfl
theorem qt {env:Env}:∀ (names:List (Str×NameKind)) (x:Str),(names.map (mH env)).lookup x=(names.lookup x).map fun k=>(mH env (x,k)).2
 | [],x=>rfl
 | (n,k)::r,x=>by
  rw [Zak]
  have e1:mH env (n,k)=(n,(mH env (n,k)).2):=by
   have:=Hs env (n,k)
   cases h:mH env (n,k) with
   | mk a b=>rw [h] at this;cases this;rfl
  rw [e1,List.lookup_cons,List.lookup_cons,qt r x]
  by_cases hx:x=n
  ·subst hx;simp
  ·have hb:(x == n)=false:=beq_eq_false_iff_ne.mpr hx
   rw [hb]
theorem wN (scope:Scope) (env:Env):(relabel scope env).names=scope.names.map (mH env):=by
 unfold relabel
 show List.map _ _=_
 refine ZaU fun x _=>?_
 obtain ⟨n,k⟩:=x
 rfl
theorem jm (scope:Scope) (env:Env) (x:Str):(relabel scope env).names.lookup x=(scope.names.lookup x).map fun k=>(mH env (x,k)).2:=by
 rw [wN,qt]
theorem je {scope:Scope}{env:Env}{x:Str}{k:NameKind} (hk:k≠.free) (h:scope.names.lookup x=some k):(relabel scope env).names.lookup x=some k:=by
 rw [jm,h]
 simp [mH,hk]
theorem qu {scope:Scope}{env:Env}{x:Str} (h:scope.names.lookup x=some .free):(relabel scope env).names.lookup x=some .cell∨(relabel scope env).names.lookup x=some .free:=by
 rw [jm,h]
 simp only [Zbn,mH]
 split
 ·exact .inl rfl
 ·exact .inr rfl
theorem DW {scope:Scope}{env:Env}{x:Str} (h0:scope.names.lookup x≠some .cell) (h:(relabel scope env).names.lookup x=some .cell∨(relabel scope env).names.lookup x=some .free):scope.names.lookup x=some .free:=by
 rw [jm] at h
 cases e:scope.names.lookup x with
 | none=>rw [e] at h;simp at h
 | some k =>
  by_cases hk:k=.free
  ·rw [hk]
  ·rw [e] at h
   simp [mH,hk] at h
   subst h
   exact absurd e h0
theorem lookup_mem {β:Type}:∀ {l:List (Str×β)}{x:Str}{v:β},l.lookup x=some v->(x,v)∈l
 | [],_,_,h=>nomatch h
 | (n,k)::r,x,v,h=>by
  rw [List.lookup_cons] at h
  by_cases hx:x=n
  ·subst hx;simp at h;subst h;exact List.mem_cons_self
  ·have hb:(x == n)=false:=beq_eq_false_iff_ne.mpr hx
   rw [hb] at h
   exact List.mem_cons_of_mem _ (lookup_mem h)
noncomputable abbrev Cx.comp (X:Cx) (N:List Str) (scope:Scope) (cl:List (Str×Addr)) (C:Addr) (s2:Shared) (H2:Hp) (fp:List Addr):Cx where
 prog:=X.prog
 w:=X.w
 K:=X.K
 mg:=X.mg
 base:=X.base
 A:=X.A
 N:=N
 s₀:=s2
 H₀:=H2
 env:=compEnvC scope cl C X.env
 outer:=X.stack
 stack:=X.stack
 ex:=fp
 fn:=fun _=>false
 calm:=X.calm
 pn:=[]
 xe:=fun _ _=>False
noncomputable def yF (XN N:List Str) (xs scope:Scope) (fr:List (Option Nat)):Bool :=
 decide (fr.length=N.length) && (scope.kind == .function) && (scope.names.all fun x=>!(x.2 == .cell)) && (scope.names.all fun x=>!(x.2 == .local) || scope.names.lookup x.1 == some .local) &&
 (scope.names.all fun x=>!(x.2 == .free) || (xs.names.lookup x.1 == some .cell || xs.names.lookup x.1 == some .free)) &&
 (List.range N.length).all fun j=>match fr[j]?,N[j]? with
  | some (some i),some x=>decide (XN[i]?=some x) && (scope.names.lookup x == some .free)
  | _,_=>true
theorem Ao {XN N:List Str}{xs scope:Scope}{fr:List (Option Nat)} (h:yF XN N xs scope fr=true) :
  fr.length=N.length∧scope.kind=.function∧(∀ x∈scope.names,x.2≠.cell)∧(∀ x∈scope.names,x.2=.local->scope.names.lookup x.1=some .local) ∧
  (∀ x∈scope.names,x.2=.free->xs.names.lookup x.1=some .cell∨xs.names.lookup x.1=some .free) ∧
  ∀ (j i:Nat) (x:Str),fr[j]?=some (some i)->N[j]?=some x->XN[i]?=some x∧scope.names.lookup x=some .free:=by
 unfold yF at h
 simp only [Bool.and_eq_true,decide_eq_true_eq,ZaW] at h
 obtain ⟨⟨⟨⟨⟨h1,h2⟩,h3⟩,h4⟩,h5⟩,h6⟩:=h
 refine ⟨h1,by simpa using h2,fun x hx=>by simpa using h3 x hx,fun x hx e=>?_,fun x hx e=>?_,fun j i x e1 e2=>?_⟩
 ·have:=h4 x hx
  simp [e] at this
  exact this
 ·have:=h5 x hx
  simp [e] at this
  exact this
 ·have hj:j < N.length:=(Zab.mp e2).1
  have:=h6 j (Zau.mpr hj)
  rw [e1,e2] at this
  simpa using this
noncomputable def frσ (fr:List (Option Nat)) (σ:St):St:=fr.map fun o=>match o with
 | some i=>match σ[i]? with
  | some v=>v
  | none=>none
 | none=>none
theorem Mz {fr:List (Option Nat)}{σ:St}{j:Nat}{v:V} (h:(frσ fr σ)[j]?=some (some v)):∃ i,fr[j]?=some (some i)∧σ[i]?=some (some v):=by
 unfold frσ at h
 rw [List.getElem?_map] at h
 cases e:fr[j]? with
 | none=>rw [e] at h;cases h
 | some o =>
  rw [e] at h
  cases o with
  | none=>cases h
  | some i =>
   simp only [Zbn] at h
   cases e2:σ[i]? with
   | none=>rw [e2] at h;cases h
   | some w=>rw [e2] at h;exact ⟨i,rfl,by simpa [e2] using h⟩
noncomputable def MF (X:Cx) (ifs:List Expr) (t:TT):Prop :=
 ∀ (pins:List (Addr×Obj)) (s:Shared) (σ:St) (H:Hp) (Q:Bool->Hp->Prop),Inv X pins σ H s->t σ H Q ->
  wpAny (model X.prog X.w) X.A (forIn ifs true fun c r=>if r=true then do let ok ←isTrue c X.env (eval c X.env);pure (ForInStep.yield ok) else pure (ForInStep.yield r)) (TP X pins σ Q) X.xe s
noncomputable def SN:TT:=fun _ H Q=>Q true H
theorem uJ {X:Cx}:MF X [] SN:=fun _ _ _ H _ I h=>wpAny_tests_nil ⟨H,I,h⟩
theorem uK {X:Cx}{c:Expr}{t:TT} (h:PT X c t):MF X [c] t:=fun pins s σ H Q I hw=>wpAny_tests_one (h pins s σ H Q I hw)
noncomputable def SQ (D:Addr) (tc:TT) (te:TE):TS:=fun E σ H=>tc σ H fun b H1=>if b=true then te σ H1 fun v H2=>∃ ys,H2 D=some (.lst ys)∧ys.length < sizeLine∧E.nx σ (upd H2 D (.lst (ys++[v]))) else E.nx σ H1
noncomputable def endC (Q:VK) (D:Addr):Ends:={ nx:=fun _ H=>Q (.ref D) H,rt:=fun _ _=>False }
noncomputable def Aq (wi:TI) (fr:List (Option Nat)) (g:TG) (tc:TT) (te:TE):TE:=fun σ H Q=>wi σ H fun J H1=>∀ D,H1 D=none->∃ W:Nat->Nat->St->Hp->Prop,(∃ m,W 0 m (frσ fr σ) (upd H1 D (.lst [])))∧∀ i m σ H,W i m σ H ->
 (J.stop i H∧(endC Q D).nx σ H)∨(J.go i H∧∃ N:St->Hp->Prop,(∀ σ' H',N σ' H'->∃ m',m' < m∧W (i+1) m' σ' H')∧∀ x H',J.yld i H x H'->g x σ H' fun σ2 H2=>SQ D tc te { endC Q D with nx:=N,ct:=N,bk:=(endC Q D).nx } σ2 H2)
section
variable {prog:Program}{w:World}{A:Around}{R:Result->Shared->Prop}{s:Shared}
theorem Ht {elt target iter:Expr}{ifs:List Expr}{scope:Scope}{pos:Pos}{it acc:Value}{env:Env} (I:Nat->Shared->Prop)
  (turn:∀ n s,I n s->wpAny (model prog w) A (pyNext it) (fun r s₁=>match r with
   | none=>R (.ok .next) s₁
   | some v=>wpAny (model prog w) A (letOwnedTupleGo target it v) (fun _ s₁=>wpAny (model prog w) A (assign target env v) (fun _ s₂ =>
     wpAny (model prog w) A (forIn ifs true fun c r=>if r=true then do let ok ←isTrue c env (eval c env);pure (ForInStep.yield ok) else pure (ForInStep.yield r)) (fun ok s₃ =>
      if ok=true then wpAny (model prog w) A (eval elt env) (fun x s₄ =>
       wpAny (model prog w) A (call (.builtin "list.append") [acc,x]) (fun _ s₅=>∃ m,m < n∧I m s₅) (notedBy (model prog w) A env fun e s'=>R (.error e) s') s₄) (notedBy (model prog w) A env fun e s'=>R (.error e) s') s₃
      else ∃ m,m < n∧I m s₃) (notedBy (model prog w) A env fun e s'=>R (.error e) s') s₂) (notedBy (model prog w) A env fun e s'=>R (.error e) s') s₁) (notedBy (model prog w) A env fun e s'=>R (.error e) s') s₁) (notedBy (model prog w) A env fun e s'=>R (.error e) s') s)
  (n:Nat) (h:I n s) :
  codeAny (model prog w) A (.compLoop (.ListComp elt [⟨target,iter,ifs,0⟩] scope pos) 0 it acc env) R s:=by
 refine codeAny_loop rfl I (fun n s hI=>?_) n h
 show wpAny _ A ((compTurn (.ListComp elt [⟨target,iter,ifs,0⟩] scope pos) 0 it acc env).onRaise (fun x=>do noteFrame x env;theTreesLotGoes x)) _ _ s
 refine wpAny_noted ?_
 rw [compTurn_list]
 refine wpAny_bind (wpAny_standAt (wpAny_bind (wpAny_mono (turn n s hI) (fun r s₁ h₁=>?_) fun _ _ h'=>h')))
 cases r with
 | none=>exact wpAny_pure h₁
 | some v =>
  refine wpAny_bind (wpAny_mono h₁ (fun _ s₁' h₁'=>?_) fun _ _ h'=>h')
  refine wpAny_bind (wpAny_mono h₁' (fun _ s₂ h₂=>wpAny_bind (wpAny_mono h₂ (fun ok s₃ h₃=>?_) fun _ _ h'=>h')) fun _ _ h'=>h')
  cases ok with
  | false=>exact wpAny_pure ⟨rfl,h₃⟩
  | true =>
   exact wpAny_bind (wpAny_bind (wpAny_mono h₃ (fun x s₄ h₄=>wpAny_bind (wpAny_mono h₄ (fun _ s₅ h₅=>wpAny_pure (wpAny_pure ⟨rfl,h₅⟩)) fun _ _ h'=>h')) fun _ _ h'=>h'))
end
structure Apart (X:Cx) (pins:List (Addr×Obj)) (C:Addr):Prop where
 ne:C≠X.env.locals
 ab:X.s₀.heap.objs.size≤C
 cells:∀ x c,X.env.cells.lookup x=some c->c≠C
 pins:∀ p∈X.pn++pins,p.1≠C
section
variable {X:Cx}{elt tg iter:Expr}{ifs:List Expr}{scope:Scope}{pos pos':Pos}{wi:TI}{g:TG}{tc:TT}{te:TE}{pins:List (Addr×Obj)}{σ:St}{H:Hp}{s:Shared}
theorem Js (N:List Str) (fr:List (Option Nat)) (hc:X.calm=true) (hi:PI X tg iter wi) (hg:∀ cl C s2 H2 fp,PG (X.comp N scope cl C s2 H2 fp) tg g)
  (ht:∀ cl C s2 H2 fp,MF (X.comp N scope cl C s2 H2 fp) ifs tc) (he:∀ cl C s2 H2 fp,PE (X.comp N scope cl C s2 H2 fp) elt te)
  (ok:yF X.N N X.env.scope scope fr=true) (hs:∀ x,foldedSetIterable iter X.env x=pure x) {Q:VK}{Q':Value->Shared->Prop}{use:Option (Value->Sem Unit)}
  (I:Inv X pins σ H s) (h:Aq wi fr g tc te σ H Q)
  (fin:∀ D C s' H',Inv X pins σ H' s'->H' C=none->Apart X pins C->(∃ m,s'.heap.Ns C m)->Q (.ref D) H'->compPost (model X.prog X.w) X.A X.xe use Q' (.ref D) C (.ok .next) s') :
  wpAny (model X.prog X.w) X.A (comprehension (.ListComp elt [⟨tg,iter,ifs,0⟩] scope pos) scope X.env pos' (newList []) false (eval iter X.env) use) Q' X.xe s:=by
 obtain ⟨o1,o2,o3,o4,o5,o6⟩:=Ao ok
 obtain ⟨cl,hclos,c1,c2⟩:=DR (scope:=scope) (env:=X.env) (fun x hx hf=>I.ok.has x.1 (o5 x hx hf))
 refine wpAny_comprehension_free (use:=use) rfl hs hclos o2 o4 (thn (hi pins s σ H _ I h) fun xv s1 h1=>thn h1 fun itv s2 h2=>?_)
 obtain ⟨it,fp,tn,J,H2,rfl,I2,T,st2,f2,hW⟩:=h2
 refine wpAny_newObj_type (wpAny_newFunctionEnv o3 (by intro y hy;simp at hy) (fun h₁ hns₁ hsb₁=>?_) o2)
 dsimp only at hns₁ hsb₁ ⊢
 generalize hHH:s2.heap.push { cls:=.type "list",dict:=none,data:=.seq ([]:List Value).toArray }=HH at hns₁ hsb₁ ⊢
 have hC:HH.objs.size=s2.heap.objs.size+1:=by rw [←hHH,Heap.size_push]
 have hDC:s2.heap.objs.size≠HH.objs.size:=by rw [hC];exact Zaw (Nat.lt_succ_self _)
 have hCle:s2.heap.objs.size≤HH.objs.size:=by rw [hC];exact Nat.le_succ _
 have neC:∀ b,b < s2.heap.objs.size->b≠HH.objs.size:=fun b hb=>by rw [hC];exact Zaw (Nat.lt_succ_of_lt hb)
 have old:∀ b o,s2.heap.get? b=some o->h₁.get? b=some o:=fun b o e=>hsb₁.extBut b o (neC b (Zaj e)) (Zac _ (hHH ▸ Zac _ e))
 have atD:h₁.get? s2.heap.objs.size=some { cls:=.type "list",data:=.seq ([]:List Value).toArray }:=hsb₁.extBut _ _ hDC (Zac _ (hHH ▸ Zal _ rfl))
 have ltf:∀ b∈fp,b < s2.heap.objs.size:=fun b hb=>let ⟨o,e,_⟩:=T.obj _ _ st2 b hb;Zaj e
 have ltc:∀ x c,X.env.cells.lookup x=some c->c < s2.heap.objs.size:=fun x c e=>let ⟨v,q⟩:=I2.cell x c e;q.lt
 have ltp:∀ p∈X.pn++pins,p.1 < s2.heap.objs.size:=fun p hp=>Zaj (I2.pin p hp).1
 have fresh:H2 s2.heap.objs.size=none:=I2.hok.fresh (Zah _)
 have freshC:H2 HH.objs.size=none:=I2.hok.fresh hCle
 have ap:Apart X pins HH.objs.size:=⟨Nat.ne_of_gt (Zap I2.lt hCle),Zaz I2.sz hCle,fun x c e=>neC c (ltc x c e),fun p hp=>neC _ (ltp p hp)⟩
 have okY:(X.comp N scope cl HH.objs.size s2 H2 fp).Ok:={
  mod:=I2.ok.mod
  kind:=o2
  glob:=I2.ok.glob
  blt:=I2.ok.blt
  above:=hCle
  inj:=fun x y c a b=>I2.ok.inj x y c (c1 _ _ a) (c1 _ _ b)
  has:=fun x hx=>c2 x (lookup_mem (DW (fun z=>o3 _ (lookup_mem z) rfl) hx))
  cab:=fun x c hx _=>by cases hx
  hd:=I2.ok.hd
  frames:=I2.ok.frames
  stk:=.inl rfl
  exf:=fun b hb=>⟨neC b (ltf b hb),fun x c e=>(f2 b hb).2.2.2.2.1 x c (c1 x c e)⟩
  bs:=I2.bs
  bsz:=Zaz I2.ok.bsz I2.sz
  noex:=fun b o e hb=>by
   rcases (f2 b hb).2.2.2.1 with z | z
   ·exact I2.ok.noex b o e z
   ·exact absurd (Zap (Zaj e) (Zaz I2.ok.bsz z)) (Zby _)
  exfs:=fun b hb hf=>by
   rcases Zas.mp (I2.Dt b hf) with z | z
   ·exact (f2 b hb).2.1 z
   ·exact (f2 b hb).2.2.1 z
  tW:=I2.stack
  frf:=I2.Fj }
 have IY:Inv (X.comp N scope cl HH.objs.size s2 H2 fp) [] (frσ fr σ) (upd H2 s2.heap.objs.size (.lst [])) { s2 with heap:=h₁,toks:=s2.toks+([]:List (Str×Value)).length }:={
  ok:=okY
  os:=rfl
  bare:=I2.bare
  base:=Un.laid old (Zah _) fresh
  loc:=by
   refine ⟨_,hns₁,fun j x v e1 e2 e3=>?_⟩
   obtain ⟨i,f1,f2'⟩:=Mz e2
   obtain ⟨g1,g2⟩:=o6 j i x f1 e1
   have k2:=o5 _ (lookup_mem g2) rfl
   obtain ⟨m2,hm2,l2⟩:=I2.loc
   obtain ⟨u,ru,lk⟩:=l2 i x v g1 f2' (.inr k2)
   refine ⟨u,ru,.inr ⟨qu g2,?_⟩⟩
   obtain ⟨c,hcl⟩:=c2 x (lookup_mem g2)
   refine ⟨c,hcl,?_⟩
   rcases lk with ⟨k,_⟩ | ⟨_,c',e',z⟩
   ·rcases k2 with k2 | k2
    ·rw [show X.env.kindOf x=X.env.scope.names.lookup x from rfl,k2] at k;cases k
    ·rw [show X.env.kindOf x=X.env.scope.names.lookup x from rfl,k2] at k;cases k
   ·rw [c1 x c hcl] at e'
    cases e'
    obtain ⟨oc,hoc,hd⟩:=z
    exact ⟨oc,old c oc hoc,hd⟩
  cell:=fun x c e=>by
   obtain ⟨v,oc,hoc,hd⟩:=I2.cell x c (c1 x c e)
   exact ⟨v,oc,old c oc hoc,hd⟩
  free:=(aG (Za8 hDC)).trans freshC
  freeC:=fun x c e=>by
   rw [aG (Zaw (ltc x c (c1 x c e)))]
   exact I2.freeC x c (c1 x c e)
  pin:=fun p hp=>by cases hp
  hok:=I2.hok.laid old (Zah _) ⟨ZaZ _,[],0,.nil,atD⟩
  len:=by unfold frσ;rw [List.length_map];exact o1 }
 have stat:∀ {H':Hp}{pp:List (Addr×Obj)},pp=[]->(∀ b∈fp,H' b=none)->∀ b∈fp,uE (X.comp N scope cl HH.objs.size s2 H2 fp) pp H' b:=fun {H' pp} hp hn b hb=>by
  subst hp
  exact ⟨hn b hb,neC b (ltf b hb),fun z=>okY.exfs b hb z,.inl hb,fun x c e=>(f2 b hb).2.2.2.2.1 x c (c1 x c e),fun p hp=>by cases hp⟩
 have back:∀ {σ':St}{H':Hp}{s':Shared},Inv (X.comp N scope cl HH.objs.size s2 H2 fp) [] σ' H' s'->Inv X pins σ H' s':=fun {σ' H' s'} I' =>
  I2.call' (ch:=fp) I'.os I'.base I'.hok I'.bare fun b hb=>⟨(f2 b hb).2.2.2.1,(f2 b hb).2.1,(f2 b hb).2.2.2.2.1,(f2 b hb).2.2.2.2.2⟩
 have loop:∀ s₃:Shared,s₃={ s2 with heap:=h₁,toks:=s2.toks+([]:List (Str×Value)).length } ->
   codeAny (model X.prog X.w) X.A (.compLoop (.ListComp elt [⟨tg,iter,ifs,0⟩] scope pos) 0 (.ref it) (.ref s2.heap.objs.size) (compEnvC scope cl HH.objs.size X.env))
    (compPost (model X.prog X.w) X.A X.xe use Q' (.ref s2.heap.objs.size) HH.objs.size) s₃:=by
  rintro s₃ rfl
  obtain ⟨W,⟨m0,w0⟩,turn⟩:=hW s2.heap.objs.size fresh
  refine Ht (fun n s'=>∃ i σ' H',Inv (X.comp N scope cl HH.objs.size s2 H2 fp) [] σ' H' s'∧tn i s'.heap∧(∀ b∈fp,H' b=none)∧W i n σ' H') ?_ m0
   ⟨0,_,_,IY,T.keep _ _ _ st2 fun b _ o e=>old b o e,fun b hb=>by rw [aG (Zaw (ltf b hb))];exact (f2 b hb).1,w0⟩
  rintro n s3 ⟨i,σ3,H3,I3,st3,fr3,w3⟩
  rcases turn i n σ3 H3 w3 with ⟨stop,q⟩ | ⟨go,Nx,hN,step⟩
  ·refine thn (T.done (X.comp N scope cl HH.objs.size s2 H2 fp) rfl rfl rfl hc i [] s3 σ3 H3 _ I3 (stat rfl fr3) st3 stop) ?_
   rintro r s4 ⟨hr,I4⟩
   subst hr
   obtain ⟨m4,hm4,_⟩:=I4.loc
   exact fin _ _ s4 H3 (back I4) I4.free ap ⟨m4,hm4⟩ q
  ·refine thn (T.item (X.comp N scope cl HH.objs.size s2 H2 fp) rfl rfl rfl hc i [] s3 σ3 H3 _ I3 (stat rfl fr3) st3 go) ?_
   rintro r s4 ⟨u,hr,h4⟩
   subst hr
   refine thn h4 ?_
   rintro _ s5 ⟨x,H5,I5,r5,y5,st5,fr5⟩
   have I5':=I5.pinned (stat rfl fr5) (T.obj _ _ st5)
   refine wpAny_mono (hg cl HH.objs.size s2 H2 fp _ s5 σ3 H5 x u _ I5' r5 (step x H5 y5)) (?_) fun _ _ f=>f.elim
   rintro _ s6 ⟨σ6,H6,I6,q6⟩
   have again:∀ {s7:Shared}{σ7:St}{H7:Hp},Inv (X.comp N scope cl HH.objs.size s2 H2 fp) ([]++uF fp s5.heap) σ7 H7 s7->Nx σ7 H7 ->
     ∃ m,m < n∧∃ i σ' H',Inv (X.comp N scope cl HH.objs.size s2 H2 fp) [] σ' H' s7∧tn i s7.heap∧(∀ b∈fp,H' b=none)∧W i m σ' H':=fun {s7 σ7 H7} I7 n7=>by
    obtain ⟨m',hm,w7⟩:=hN σ7 H7 n7
    refine ⟨m',hm,i+1,σ7,H7,I7.qj,T.keep _ _ _ st5 fun b hb o e=>(I7.pin (b,o) (ZaA _ (ZaA _ (lE hb e)))).1,fun b hb=>?_,w7⟩
    obtain ⟨o,e,d⟩:=T.obj _ _ st5 b hb
    exact (I7.pin (b,o) (ZaA _ (ZaA _ (lE hb e)))).2.1
   refine wpAny_mono (ht cl HH.objs.size s2 H2 fp _ s6 σ6 H6 _ I6 q6) (?_) fun _ _ f=>f.elim
   rintro b s7 ⟨H7,I7,q7⟩
   cases b with
   | false =>
    rw [if_neg (by decide)] at q7 ⊢
    exact again I7 q7
   | true =>
    rw [if_pos rfl] at q7 ⊢
    refine wpAny_mono (he cl HH.objs.size s2 H2 fp _ s7 σ6 H7 _ I7 q7) (?_) fun _ _ f=>f.elim
    rintro y s8 ⟨v,H8,I8,r8,q8⟩
    obtain ⟨ys,e8,l8,n8⟩:=q8
    refine wpAny_mono (rO (X:=X.comp N scope cl HH.objs.size s2 H2 fp) _ s8 σ6 H8 (.ref s2.heap.objs.size) [v] (.ref s2.heap.objs.size) [y] (fun _ H9=>Nx σ6 H9) I8 rfl (.cons r8 .nil) ⟨_,ys,v,rfl,rfl,e8,l8,n8⟩) (?_) fun _ _ f=>f.elim
    rintro _ s9 ⟨_,H9,I9,_,n9⟩
    exact again I9 n9
 exact codeAny_compStart_list (loop _ rfl) (T.self _ 0 _ _ _ (T.keep _ _ _ st2 fun b _ o e=>old b o e) (loop _ rfl))
theorem ir (N:List Str) (fr:List (Option Nat)) (hc:X.calm=true) (hi:PI X tg iter wi) (hg:∀ cl C s2 H2 fp,PG (X.comp N scope cl C s2 H2 fp) tg g)
  (ht:∀ cl C s2 H2 fp,MF (X.comp N scope cl C s2 H2 fp) ifs tc) (he:∀ cl C s2 H2 fp,PE (X.comp N scope cl C s2 H2 fp) elt te)
  (ok:yF X.N N X.env.scope scope fr=true:=by kernel_rfl) (hs:∀ x,foldedSetIterable iter X.env x=pure x:=by intro _;rfl) :
  PE X (.ListComp elt [⟨tg,iter,ifs,0⟩] scope pos) (Aq wi fr g tc te):=by
 intro pins s σ H Q I h
 rw [eval_ListComp]
 refine Js (use:=none) N fr hc hi hg ht he ok hs I h fun D C s' H' I' hn ap hm q=>?_
 obtain ⟨m,hm⟩:=hm
 exact ⟨m,hm,fun h' sb=>⟨.ref D,H',I'.turned (t':=s'.toks) (fun b o hb e=>(sb.2 b hb).trans e) hn ap.ne (.inr ap.ab) ap.cells ap.pins,rfl,q⟩⟩
end
section
variable {X:Cx}{pins:List (Addr×Obj)}{σ:List (Option V)}{H:Hp}{s:Shared}{h':Heap}
theorem Inv.qw {t':Nat}{ch:List Addr} (I:Inv X pins σ H s) (k:∀ b o,b ∉ ch->s.heap.get? b=some o->h'.get? b=some o) (hf:∀ b∈ch,uE X pins H b):Inv X pins σ H { s with heap:=h',toks:=t' }:=by
 have nit:∀ b u,H b=some u->b ∉ ch:=fun b u e z=>by rw [(hf b z).1] at e;cases e
 refine I.step (g':=s.gens) (d':=s.drawn) (ch:=ch) (fun b hb=>⟨(hf b hb).2.2.2.1,(hf b hb).2.1,(hf b hb).2.2.2.2.1,(hf b hb).2.2.2.2.2⟩) (fun b o _ _ hc e _=>k b o hc e) (fun b o _ _ hc e _=>⟨o.slots,k b o hc e⟩) (fun _ _ _ _ n=>n)
  (fun b o hc e=>⟨o,k b o hc e⟩) (fun _ _ e=>e) (fun _ _ _ e=>e) (fun b ps e=>⟨#[],by rw [e];simp⟩) (fun m hm=>?_) (fun b u e=>?_) I.bare
 ·obtain ⟨o,es,ep,ho,r⟩:=hm
  exact ⟨o,es,ep,k _ o (fun z=>(hf _ z).2.1 rfl) ho,r⟩
 ·refine (I.hok b u e).stay (fun c v hc q=>k c v ?_ q) (fun _ q=>q) fun _ _ q=>q
  rcases hc with z | z
  ·rw [z];exact nit b u e
  ·exact nit c _ z
theorem Inv.rW {t':Nat}{ch:List Addr}{a:Addr}{o:HO} (I:Inv X pins σ H s) (k:∀ b o,b ∉ ch->s.heap.get? b=some o->h'.get? b=some o) (hf:∀ b∈ch,uE X pins H b) (ha:s.heap.objs.size≤a)
  (new:dG X.prog X.w (upd H a o) h' a o):Inv X pins σ (upd H a o) { s with heap:=h',toks:=t' }:=by
 have hn:H a=none:=I.hok.fresh ha
 have nit:∀ b u,H b=some u->b ∉ ch:=fun b u e z=>by rw [(hf b z).1] at e;cases e
 have ne:∀ b ob,s.heap.get? b=some ob->b≠a:=fun b ob e z=>by rw [z] at e;exact absurd (Zap (Zaj e) ha) (Zby _)
 refine I.step (g':=s.gens) (d':=s.drawn) (ch:=ch) (fun b hb=>⟨(hf b hb).2.2.2.1,(hf b hb).2.1,(hf b hb).2.2.2.2.1,(hf b hb).2.2.2.2.2⟩) (fun b o _ _ hc e _=>k b o hc e) (fun b o _ _ hc e _=>⟨o.slots,k b o hc e⟩) (fun b ob _ e n=>by rw [aG (ne b ob e)];exact n)
  (fun b o hc e=>⟨o,k b o hc e⟩) (fun b xs e=>by rw [aG (bI e hn)];exact e) (fun b ob u e=>by rw [aG (bI e hn)];exact e) (fun b ps e=>⟨#[],by rw [aG (bI e hn),e];simp⟩) (fun m hm=>?_) (fun b u e=>?_) I.bare
 ·obtain ⟨o,es,ep,ho,r⟩:=hm
  exact ⟨o,es,ep,k _ o (fun z=>(hf _ z).2.1 rfl) ho,r⟩
 ·by_cases hb:b=a
  ·subst hb;rw [aJ] at e;cases e;exact new
  ·rw [aG hb] at e
   refine (I.hok b u e).stay (fun c v hc q=>k c v ?_ q) (fun c q=>by rw [aG (bI q hn)];exact q) fun c xs q=>by rw [aG (bI q hn)];exact q
   rcases hc with z | z
   ·rw [z];exact nit b u e
   ·exact nit c _ z
end
noncomputable def Itf (f:Nat->V) (n:Nat):It:=⟨fun i _=>i < n,fun i H x H'=>H'=H∧x=f i,fun i _=>i=n⟩
noncomputable def sgn (z:Str) (i:Nat):V:=.str ⟨#[z.cps.getD i 0]⟩
theorem xn {P:Program}{w:World}{A:Around} (hh:A.handled=none) (it:Addr) (z:Str) (t:Tok):Walks P w A it [it] [it] z.cps.size (SignAt z) (fun i h=>h.IsStrIter it (strIterType z) z t i):=by
 unfold strIterType
 split
 ·exact Walks.strAscii hh it z t
 ·exact Walks.strWide hh it z t
theorem Jt {P:Program}{w:World}{K:PySem.W.Frag}{tg:Expr} (it:Addr) (z:Str) (t:Tok):Turn P w K tg (Itf (sgn z) z.cps.size) [it] it (fun i h=>h.IsStrIter it (strIterType z) z t i) where
 mem:=by simp
 obj:=fun i h st b hb=>by
  have e:b=it:=by simpa using hb
  subst e
  obtain ⟨o,e,c,d⟩:=st
  exact ⟨o,e,fun v z=>by rw [d] at z;cases z⟩
 keep:=fun i h h' st k=>let ⟨o,e,r⟩:=st;⟨o,k it (by simp) o e,r⟩
 item:=by
  intro X hP hw hK hc i pins s σ H E I hf st hg
  subst hP hw hK
  obtain ⟨f0,f1,f2,f3,f4,f5⟩:=hf it (by simp)
  have W:=xn (P:=X.prog) (w:=X.w) (I.ok.hd hc) it z t
  refine W.item i s _ _ hg st fun v h' tk hv st' kk=>?_
  obtain ⟨c,u,hx,rfl⟩:=hv
  have I1:Inv X pins σ H { s with heap:=h',toks:=tk }:=I.turned (fun b o hb e=>kk b o (by simpa using hb) e) f0 f1 f3 f4 f5
  obtain ⟨o,e,cc,d⟩:=id st'
  have ec:z.cps.getD i 0=c:=by rw [Array.getD_eq_getD_getElem?,hx];rfl
  refine ⟨_,rfl,Ai (s:={ s with heap:=h',toks:=tk }) e cc d (by unfold strIterType;split <;> decide) ⟨sgn z i,H,I1,⟨u,?_⟩,⟨rfl,rfl⟩,st',fun b hb=>(hf b hb).1⟩⟩
  rw [ec]
 done:=by
  intro X hP hw hK hc i pins s σ H E I hf st hg
  subst hP hw hK
  have hg':i=z.cps.size:=hg
  subst hg'
  obtain ⟨f0,f1,f2,f3,f4,f5⟩:=hf it (by simp)
  have W:=xn (P:=X.prog) (w:=X.w) (I.ok.hd hc) it z t
  exact W.done s _ _ st fun h' tk kk=>⟨rfl,I.turned (fun b o hb e=>kk b o (by simpa using hb) e) f0 f1 f3 f4 f5⟩
 self:=fun A i s Q E st h=>by
  unfold strIterType at st
  split at st
  ·exact wpAny_pyIter_striter_ascii st h
  ·exact wpAny_pyIter_striter_wide st h
noncomputable def Ite (K:PySem.W.Frag) (a:Addr):It :=
 ⟨fun i H=>∃ xs x,SqL K H a xs∧xs[i]?=some x,fun i H x H'=>∃ p y,H p=none∧x=.ref p∧H'=upd H p (.tup [.int i,y])∧∀ xs,SqL K H a xs->xs[i]?=some y,fun i H=>∃ xs,SqL K H a xs∧xs.length≤i⟩
theorem Hu {P:Program}{w:World}{K:PySem.W.Frag}{elts:List Expr}{x1:Nat}{pos:Pos} (a e it:Addr) (hei:e≠it) :
  Turn P w K (.Tuple elts x1 pos) (Ite K a) [e,it] e (fun i h=>(∃ old,IsEnum h e it (i:Int) old)∧h.IsListIter it a i) where
 mem:=by simp
 obj:=fun i h st b hb=>by
  obtain ⟨⟨old,he⟩,o,ho,c,d⟩:=st
  rcases Zas.mp hb with z | z
  ·subst z;exact ⟨_,he,fun v q=>by cases q⟩
  ·have z:b=it:=by simpa using z
   subst z
   exact ⟨o,ho,fun v q=>by rw [d] at q;cases q⟩
 keep:=fun i h h' st k=>by
  obtain ⟨⟨old,he⟩,hit⟩:=st
  exact ⟨⟨old,k e (by simp) _ he⟩,hit.at fun o q=>k it (by simp) o q⟩
 item:=by
  intro X hP hw hK hc i pins s σ H E I hf st hg
  subst hP hw hK
  obtain ⟨xs,x,hq,hx⟩:=hg
  obtain ⟨its,rv,p,hz⟩:=I.list hq
  obtain ⟨u,hu,ru⟩:=rv.get hx
  obtain ⟨⟨old,he⟩,hit⟩:=st
  have hl:=p.isList
  have hai:a≠it:=by
   rintro rfl
   obtain ⟨o1,e1,c1,_⟩:=hl
   obtain ⟨o2,e2,c2,_⟩:=hit
   rw [e1] at e2;cases e2;rw [c1] at c2;exact absurd c2 (by decide)
  have hae:a≠e:=by
   rintro rfl
   obtain ⟨o1,e1,c1,_⟩:=hl
   rw [he] at e1;cases e1;exact absurd (show Value.type "enumerate"=Value.type "list" from c1) (by decide)
  have D:=Draws.list (prog:=X.prog) (w:=X.w) (A:=X.A.in1) (I.ok.hd hc) it a hai its.toArray
  have hlt:i < its.toArray.size:=by
   have:=(Zab.mp hu).1
   simpa using this
  refine wpAny_pyNext_enum_itemD D he ⟨hit,hl⟩ hlt hei (by simp [hei,Za8 hae]) fun v h1 tk hP ho hst hT hsz hk=>?_
  have ev:v=u:=by
   have hP':its.toArray[i]?=some v:=hP
   rw [List.getElem?_toArray,hu] at hP'
   exact (Zaa hP').symm
  subst ev
  refine ⟨_,rfl,wpAny_letOwnedTupleGo_enum ho fun h2 he2 hs2=>?_⟩
  have elt:e < s.heap.objs.size:=Zaj he
  have hT2:h2.get? s.heap.objs.size=some { cls:=.type "tuple",data:=.seq #[.int i tk,v] }:=(hs2.2 _ (Nat.ne_of_gt elt)).trans hT
  refine ⟨.ref s.heap.objs.size,upd H s.heap.objs.size (.tup [.int i,x]),I.rW (ch:=[e,it]) (fun b o hb q=>?_) hf (Zah _) ⟨by show 2≤sizeLine;decide,[.int i tk,v],.cons ⟨tk,rfl⟩ (.cons ru .nil),fU.mk hT2⟩,rfl,⟨_,x,I.hok.fresh (Zah _),rfl,rfl,fun ys hy=>by rw [I.mR hy hq];exact hx⟩,⟨⟨v,by simpa using he2⟩,?_⟩,fun b hb=>?_⟩
  ·have h1':b≠e:=fun z=>hb (by simp [z])
   have h2':b≠it:=fun z=>hb (by simp [z])
   exact (hs2.2 b h1').trans (hk b o h1' h2' q)
  ·exact hst.1.at fun o q=>(hs2.2 it (Za8 hei)).trans q
  ·rw [aG ?_]
   ·exact (hf b hb).1
   ·rcases Zas.mp hb with z | z
    ·rw [z];exact Zaw elt
    ·have z:b=it:=by simpa using z
     rw [z]
     obtain ⟨o2,e2,_⟩:=hit
     exact Zaw (Zaj e2)
 done:=by
  intro X hP hw hK hc i pins s σ H E I hf st hg
  subst hP hw hK
  obtain ⟨xs,hq,hx⟩:=hg
  obtain ⟨its,rv,p,hz⟩:=I.list hq
  obtain ⟨⟨old,he⟩,hit⟩:=st
  have hl:=p.isList
  have ln:=rv.length
  refine wpAny_pyNext_enum_end (I.ok.hd hc) he hit hl (by rw [List.getElem?_toArray];exact List.getElem?_eq_none_iff.mpr (by omega)) fun h1 eb=>⟨rfl,?_⟩
  exact I.qw (t':=s.toks) (ch:=[e,it]) (fun b o hb q=>eb b o (fun z=>hb (by simp [z])) q) hf
 self:=fun A i s Q E st h=>by
  obtain ⟨⟨old,he⟩,_⟩:=st
  exact wpAny_pyIter_enum he h
noncomputable def Pu (K:PySem.W.Frag) (ta:TA):TI:=fun σ H R=>ta σ H fun vs H1=>∃ a,vs=[.ref a]∧(∃ xs,SqL K H1 a xs)∧R (Ite K a) H1
theorem MK {X:Cx}{l:Expr}{ta:TA}{elts:List Expr}{x1:Nat}{tpos p pos:Pos} (hg:Gl X "enumerate") (hm:X.mg "enumerate"=none) (ha:PA X [l] ta) (hs:starEach [l] X.env=[(false,eval l X.env)]:=by rfl) :
  PI X (.Tuple elts x1 tpos) (.Call (.Name "enumerate" p) [l] [] pos) (Pu X.K ta):=by
 intro pins s σ H R I h
 refine Call_ (rM I hg hm boot_enumerate (Zbc (thn (ha pos pins s σ H _ I h) ?_) hs rfl))
 rintro us s1 ⟨vs,H1,I1,r1,q1⟩
 obtain ⟨a,e,⟨xs,hq⟩,q⟩:=q1
 subst e
 cases r1 with
 | cons r rr =>
  cases rr
  cases r
  obtain ⟨its,rv,p,hz⟩:=I1.list hq
  refine call_enumerate_list p.isList fun h1 he hit hsz hk=>?_
  refine wpAny_pyIter_enum he ?_
  have I2:Inv X pins σ H1 { s1 with heap:=h1 }:=I1.kept (t':=s1.toks) hk
  refine ⟨s1.heap.objs.size+1,[s1.heap.objs.size+1,s1.heap.objs.size],_,_,H1,rfl,I2,Hu a _ _ (by simp),⟨⟨_,he⟩,hit⟩,fun b hb=>?_,q⟩
  rcases Zas.mp hb with z | z
  ·subst z;exact I1.Ah (Nat.le_succ _) (I1.hok.fresh (Nat.le_succ _))
  ·have z:b=s1.heap.objs.size:=by simpa using z
   subst z;exact I1.Ah (Zah _) (I1.hok.fresh (Zah _))
section
variable {X:Cx}{a b c e:Expr}{ta tb tc te:TE}{pos p2:Pos}
end
structure bD (K:PySem.W.Frag) (mg:Str->Option Value) (x:Str) (st:Stmt) (ps:List Str):Prop where
 ex:∃ (f:Addr) (fd:FuncData),mg x=some (.ref f)∧Fun K x x st f fd∧Binds K fd ps []
noncomputable def FnAt (P:Program) (w:World) (K:PySem.W.Frag) (mg:Str->Option Value) (base:Heap) (x:Str) (k:Nat) (ps:List Str) (sp:Sp):Prop :=
 ∃ (f:Addr) (fd:FuncData),mg x=some (.ref f)∧PySem.W.keepIn K (.ref f)=true∧Binds K fd ps []∧wL P w K mg base CX0 k f fd ps sp
theorem bD.ok {P:Program}{w:World}{K:PySem.W.Frag}{mg:Str->Option Value}{base:Heap}{x:Str}{st:Stmt}{ps N:List Str}{k:Nat}{sp:Sp} (D:bD K mg x st ps) (S:bF N ps (aN st)) (len:∀ vs H Q E,sp vs H Q E->vs.length=ps.length)
  (hbody:∀ (f:Addr) (cdv:Value) (A:Around) (outer:List Env) (s:Shared) (H:Hp) (vs:List V) (Q:VK) (E:XK),fJ k (A.deeper (envOfC x (aN st) s.heap.objs.size f cdv))->sp vs H Q E ->
   ∃ t,PSs (DQ CX0 P w K mg base N x (aN st) f cdv A outer s H E).nox (bj st) t∧t { nx:=fun _ H'=>Q .non H',rt:=Q } (start N vs) H):FnAt P w K mg base x (k+1) ps sp:=by
 obtain ⟨f,fd,e,F,b⟩:=D.ex
 exact ⟨f,fd,e,F.kp,b,F.ok S len fun cdv A outer s H vs Q E=>hbody f cdv A outer s H vs Q E⟩
section
variable {X:Cx}{k:Nat}{ps:List Str}{sp:Sp}{x:Str}{p pos:Pos}{e:Expr}{es:List Expr}{t:TA}
theorem aW (G:FnAt X.prog X.w X.K X.mg X.base x k ps sp) (hr:fJ k X.A) (hg:Gl X x) (ha:PA X (e::es) t) (hdb:(x == ("__debug__":Str))=false:=by decide)
  (he:starEach (e::es) X.env=(false,eval e X.env)::starEach es X.env:=by rfl) (hpl:(backTo pos (starEach es X.env)).any (·.1)=false:=by rfl):PE X (.Call (.Name x p) (e::es) [] pos) (uI sp [] E0 t):=by
 obtain ⟨f,fd,e1,e2,e3,e4⟩:=G
 exact Ml e4 hr hg e1 e2 e3 .nil SJ ha hdb he hpl
end
section
variable {X:Cx}{N:List Str}{scope:Scope}{cl:List (Str×Addr)}{C:Addr}{s2:Shared}{H2:Hp}{fp:List Addr}{x:Str}{pos:Pos}
theorem pvl (i:Nat) (hN:N[i]?=some x:=by rfl) (hv:scope.names.lookup x=some .local:=by rfl) (hd:(x == ("__debug__":Str))=false:=by decide) (hcd:(x == ("__classdict__":Str))=false:=by decide) :
  PE (X.comp N scope cl C s2 H2 fp) (.Name x pos) (lD i):=Du hN (.inl (je (by decide) hv)) hd hcd
theorem pvf (i:Nat) (hN:N[i]?=some x:=by rfl) (hv:scope.names.lookup x=some .free:=by rfl) (hd:(x == ("__debug__":Str))=false:=by decide) (hcd:(x == ("__classdict__":Str))=false:=by decide) :
  PE (X.comp N scope cl C s2 H2 fp) (.Name x pos) (lD i):=Du hN (.inr (qu hv)) hd hcd
theorem glc (h:scope.names.lookup x=some .globalImplicit):Gl (X.comp N scope cl C s2 H2 fp) x:=je (by decide) h
theorem dC {i:Nat} (hN:N.Nodup) (hi:N[i]?=some x) (hx:scope.names.lookup x=some .local):PG (X.comp N scope cl C s2 H2 fp) (.Name x pos) (uD i) :=
 dB hN hi (.inl (je (by decide) hx)) (.inr (je (by decide) hx))
end
section
variable {X:Cx}{x:Str}{i:Int}{z:Str}{pos:Pos}
theorem Ar (hg:Gl X x) (h:∃ t,X.mg x=some (.str z t)) (hd:(x == ("__debug__":Str))=false:=by decide):PE X (.Name x pos) (tC (.str z)):=by
 obtain ⟨t,h⟩:=h
 exact Ma hg h ⟨t,rfl⟩ hd
end
theorem tyL {K:PySem.W.Frag}{H:Hp}{p:Addr}{xs:List V} (h:H p=some (.lst xs)):tyV K "list" (.ref p) H:=.inl ⟨rfl,xs,SqL.of h⟩
theorem dH {H:Hp}{p:Addr}{o:HO} (h:H p=none):aR H (upd H p o):=fun b u e=>by rw [aG (bI e h)];exact e
theorem xq {H H1:Hp}{p:Addr}{o:HO} (h:H p=none) (s:aR H H1):aR H (upd H1 p o):=fun b u e=>by rw [aG (bI e h)];exact s b u e
theorem aR.tup {K:PySem.W.Frag}{H H':Hp}{a:Addr}{xs:List V} (e:aR H H') (h:SqT K H a xs):SqT K H' a xs:=by
 rcases h with (h | ⟨o,h⟩) | h
 ·exact .inl (.inl (e _ _ h))
 ·exact .inl (.inr ⟨o,e _ _ h⟩)
 ·exact .inr h
theorem Ju {α:Type}{xs:List α}{i:Int} (h0:0≤i) (h:i < xs.length):∃ v,atI xs i=some v∧xs[i.toNat]?=some v:=by
 have hl:i.toNat < xs.length:=by lia
 refine ⟨xs[i.toNat],?_,by simp [hl]⟩
 have:=oh (xs:=xs) (j:=i.toNat) (v:=xs[i.toNat]) (by simp [hl])
 rwa [Za9 h0] at this
noncomputable def Ui (J:It) (g:TG) (tb:TS) (D:Ends) (σ:St) (H:Hp):Prop:=∃ W:Nat->Nat->St->Hp->Prop,(∃ m,W 0 m σ H)∧∀ i m σ H,W i m σ H ->
 (J.stop i H∧D.nx σ H)∨(J.go i H∧∃ N:St->Hp->Prop,(∀ σ' H',N σ' H'->∃ m',m' < m∧W (i+1) m' σ' H')∧∀ x H',J.yld i H x H'->g x σ H' fun σ2 H2=>tb { D with nx:=N,ct:=N,bk:=D.nx } σ2 H2)
section
variable {D:Ends}{σ:St}{H:Hp}{Q:VK}{QB:Bool->Hp->Prop}{QA:List V->Hp->Prop}{QS:St->Hp->Prop}{R:It->Hp->Prop}{t u:TS}{ta tb tc te:TE}{c c2:TT}{tA:TA}{g:TG}{gs:TGs}{wi:TI}{r r':R2}{i n:Nat}{v x y:V}{xs:List V}{sp:Sp}{dvs:List V}{E:XK}{K:PySem.W.Frag}
end
section
variable {X:Cx}{e es:Expr}{te:TE}{lo hi:Option Expr}{tl th ts:TO}{pos p2:Pos}
end
section
variable {σ:St}{H:Hp}{Q:VK}{te:TE}{tl th ts:TO}{K:PySem.W.Frag}{x y:V}
end
noncomputable def SameBut (p:Addr) (H H':Hp):Prop:=∀ b o,H b=some o->b≠p->H' b=some o
section
variable {X:Cx}{N:List Str}{scope:Scope}{cl:List (Str×Addr)}{C:Addr}{s2:Shared}{H2:Hp}{fp:List Addr}
theorem uc {es:List Expr}{k:Nat}{t:TGs}{n:Nat}{pos:Pos} (hc:X.calm=true) (h:PGs (X.comp N scope cl C s2 H2 fp) es t)
  (hn:(assignEach es (X.comp N scope cl C s2 H2 fp).env).length=n:=by rfl) (hst:(assignEach es (X.comp N scope cl C s2 H2 fp).env).findIdx? (·.1)=none:=by rfl):PG (X.comp N scope cl C s2 H2 fp) (.Tuple es k pos) (Qs X.K n t):=Qt hc h hn hst
end
theorem j9 {α β:Type} (f:α->β) (xs:List α):∀ js:List Nat,(js.filterMap ((xs.map f)[·]?)).length=(js.filterMap (xs[·]?)).length
 | []=>rfl
 | j::js=>by
  cases e:xs[j]? with
  | none =>
   have e':(xs.map f)[j]?=none:=by rw [List.getElem?_map,e];rfl
   rw [List.filterMap_cons_none e,List.filterMap_cons_none e',j9 f xs js]
  | some v =>
   have e':(xs.map f)[j]?=some (f v):=by rw [List.getElem?_map,e];rfl
   rw [List.filterMap_cons_some e,List.filterMap_cons_some e',ZaC,ZaC,j9 f xs js]
inductive EqR (K:PySem.W.Frag) (H:Hp):Nat->V->V->Bool->Prop
 | flat {n:Nat}{x y:V}:Pk x=true->Pk y=true->EqR K H n x y (eqV x y)
 | tup {n:Nat}{a b:Addr}{xs ys:List V} (e:Nat->Bool) {r:Bool}:SqT K H a xs->SqT K H b ys->(∀ (j:Nat) x y,xs[j]?=some x->ys[j]?=some y->EqR K H n x y (e j)) ->
   r=((List.range (min xs.length ys.length)).all e && xs.length == ys.length)->(a=b->r=true)->EqR K H (n+1) (.ref a) (.ref b) r
 | lst {n:Nat}{a b:Addr}{xs ys:List V} (e:Nat->Bool) {r:Bool}:SqL K H a xs->SqL K H b ys->xs.length=ys.length->(∀ (j:Nat) x y,xs[j]?=some x->ys[j]?=some y->EqR K H n x y (e j)) ->
   r=(List.range xs.length).all e->(a=b->r=true)->EqR K H (n+1) (.ref a) (.ref b) r
 | lens {n:Nat}{a b:Addr}{xs ys:List V}:SqL K H a xs->SqL K H b ys->xs.length≠ys.length->EqR K H (n+1) (.ref a) (.ref b) false
section
variable {X:Cx}{pins:List (Addr×Obj)}{σ:St}{H:Hp}{s:Shared}
theorem qx {xs:List V}{its:List Value} (r:Vals xs its) {j:Nat} (h:j < its.toArray.size):∃ x,xs[j]?=some x∧RelV x its.toArray[j]:=by
 have hl:j < its.length:=by simpa using h
 have hx:j < xs.length:=by rw [r.length];exact hl
 obtain ⟨u,hu,ru⟩:=r.get (i:=j) (x:=xs[j]) (by simp [hx])
 refine ⟨xs[j],by simp [hx],?_⟩
 have:its.toArray[j]=u:=by
  rw [List.getElem?_eq_getElem hl] at hu
  simpa using hu
 rw [this];exact ru
end
section
variable {X:Cx}{k:Nat}
theorem DX {A:Around} (hr:fJ k A):A.units+32 < cLine:=Nat.lt_of_le_of_lt (Nat.add_le_add_left (by decide:32≤64) _) hr.units
end
noncomputable def yG (H:Hp) (xs:List V) (ps:List (Int×Int)):Prop:=xs.length=ps.length∧∀ (j:Nat) (c:Int×Int),ps[j]?=some c->∃ a,xs[j]?=some (.ref a)∧H a=some (.tup [.int c.1,.int c.2])
section
variable {κ:Type} [DecidableEq κ]
noncomputable def iT (kvs:List (κ×V)) (k:κ):Option V:=(kvs.find? fun kv=>decide (kv.1=k)).map (·.2)
noncomputable def putK (kvs:List (κ×V)) (k:κ) (v:V):List (κ×V) :=
 if (kvs.any fun kv=>decide (kv.1=k))=true then kvs.map (fun kv=>if kv.1=k then (kv.1,v) else kv) else kvs++[(k,v)]
theorem mY {p:κ×V}{r:List (κ×V)}{k:κ} (e:p.1=k):iT (p::r) k=some p.2:=by simp [iT,ZbG,e]
theorem jn {p:κ×V}{r:List (κ×V)}{k:κ} (e:¬p.1=k):iT (p::r) k=iT r k:=by simp [iT,ZbG,e]
theorem uL (k:κ):∀ kvs:List (κ×V),(kvs.any fun kv=>decide (kv.1=k))=(iT kvs k).isSome
 | []=>rfl
 | p::r=>by
  rw [ZbH]
  by_cases e:p.1=k
  ·simp only [mY e,decide_eq_true e,Bool.true_or,Option.isSome_some]
  ·rw [jn e,decide_eq_false e,Bool.false_or];exact uL k r
theorem iB (kvs:List (κ×V)) (k:κ) (v:V):(putK kvs k v).length≤kvs.length+1:=by
 unfold putK
 split
 ·rw [List.length_map];omega
 ·rw [List.length_append,ZaC,List.length_nil];omega
theorem Jv {kvs:List (κ×V)}{k:κ} (v:V) (h:iT kvs k=none):putK kvs k v=kvs++[(k,v)]:=by
 unfold putK
 rw [uL,h]
 exact if_neg (by decide)
theorem tV.kh {o:Option V}{u:Option Value} (r:tV o u):o.isSome=u.isSome:=by
 cases o with
 | none=>cases u with
  | none=>rfl
  | some _=>exact (show False from r).elim
 | some _=>cases u with
  | none=>exact (show False from r).elim
  | some _=>rfl
theorem tV.getD {o:Option V}{u:Option Value}{d:V}{d':Value} (r:tV o u) (rd:RelV d d'):RelV (o.getD d) (u.getD d'):=by
 cases o with
 | none=>cases u with
  | none=>exact rd
  | some _=>exact (show False from r).elim
 | some _=>cases u with
  | none=>exact (show False from r).elim
  | some _=>exact r
theorem KV.val {kvs:List (κ×V)}{vs:List (κ×Value)} (r:KV kvs vs) (k:κ):tV (iT kvs k) (valueAt vs k):=by
 unfold KV at r
 induction r with
 | nil=>exact True.intro
 | @cons p q ps qs h t ih =>
  obtain ⟨h1,h2⟩:=h
  by_cases e:p.1=k
  ·have e':q.1=k:=h1.symm.trans e
   have b:valueAt (q::qs) k=some q.2:=by simp [valueAt,ZbG,e']
   rw [mY e,b];exact h2
  ·have e':¬q.1=k:=fun z=>e (h1.trans z)
   have b:valueAt (q::qs) k=valueAt qs k:=by simp [valueAt,ZbG,e']
   rw [jn e,b];exact ih
theorem KV.any {kvs:List (κ×V)}{vs:List (κ×Value)} (r:KV kvs vs) (k:κ):(kvs.any fun kv=>decide (kv.1=k))=vs.any fun kv=>decide (kv.1=k):=by
 unfold KV at r
 induction r with
 | nil=>rfl
 | cons h t ih=>rw [ZbH,ZbH,ih,h.1]
theorem KV.repl {kvs:List (κ×V)}{vs:List (κ×Value)} (r:KV kvs vs) (k:κ) {y:V}{u:Value} (ry:RelV y u) :
  KV (kvs.map fun kv=>if kv.1=k then (kv.1,y) else kv) (vs.map fun kv=>if kv.1=k then (kv.1,u) else kv):=by
 unfold KV at r ⊢
 induction r with
 | nil=>exact .nil
 | @cons p q ps qs h t ih =>
  rw [Zak,Zak]
  refine .cons ?_ ih
  obtain ⟨h1,h2⟩:=h
  by_cases e:p.1=k
  ·rw [if_pos e,if_pos (h1.symm.trans e)];exact ⟨h1,ry⟩
  ·rw [if_neg e,if_neg (fun z=>e (h1.trans z))];exact ⟨h1,h2⟩
theorem KV.put {kvs:List (κ×V)}{vs:List (κ×Value)} (r:KV kvs vs) (k:κ) {y:V}{u:Value} (ry:RelV y u):KV (putK kvs k y) (stored vs k u):=by
 unfold putK stored
 rw [r.any k]
 by_cases e:(vs.any fun kv=>decide (kv.1=k))=true
 ·rw [if_pos e,if_pos e];exact r.repl k ry
 ·rw [if_neg e,if_neg e];exact Paired.snoc r ⟨rfl,ry⟩
theorem KV.length {kvs:List (κ×V)}{vs:List (κ×Value)} (r:KV kvs vs):kvs.length=vs.length:=Paired.length r
end
theorem uM {P:Program}{w:World}{k:Key}{u:Value} (r:RelV (kV k) u):(cM P w).is k u=true:=by
 cases k with
 | inl i=>obtain ⟨t,e⟩:=(show ∃ t,u=Value.int i t from r);subst e;exact Aa P w i t
 | inr x=>obtain ⟨t,e⟩:=(show ∃ t,u=Value.str x t from r);subst e;exact Ab P w x t
theorem xr {P:Program}{w:World}:∀ {ks:List Key}{us:List Value},Vals (ks.map kV) us->ItemsAre (cM P w) ks us
 | [],_,r=>by rw [List.map_nil] at r;cases r;exact .nil
 | k::ks,_,r=>by
  rw [Zak] at r
  cases r with
  | cons h t=>exact .cons (uM h) (xr t)
noncomputable abbrev KT (H:Hp):List (List Key×V)->List (List Key×Addr×Value)->Prop:=Paired fun p q=>p.1=q.1∧H q.2.1=some (.tup (p.1.map kV))∧RelV p.2 q.2.2
theorem KT.val {H:Hp}{kvs:List (List Key×V)}{xs:List (List Key×Addr×Value)} (r:KT H kvs xs) (k:List Key):tV (iT kvs k) ((atKey xs k).map (·.2)):=by
 induction r with
 | nil=>exact True.intro
 | @cons p q ps qs h t ih =>
  obtain ⟨h1,_,h2⟩:=h
  by_cases e:p.1=k
  ·have e':q.1=k:=h1.symm.trans e
   have b:atKey (q::qs) k=some q.2:=by simp [atKey,ZbG,e']
   rw [mY e,b];exact h2
  ·have e':¬q.1=k:=fun z=>e (h1.trans z)
   have b:atKey (q::qs) k=atKey qs k:=by simp [atKey,ZbG,e']
   rw [jn e,b];exact ih
theorem KT.repl {H:Hp}{kvs:List (List Key×V)}{xs:List (List Key×Addr×Value)} (r:KT H kvs xs) (k:List Key) {y:V}{u:Value} (ry:RelV y u) :
  KT H (kvs.map fun kv=>if kv.1=k then (kv.1,y) else kv) (xs.map (putAt k u)):=by
 induction r with
 | nil=>exact .nil
 | @cons p q ps qs h t ih =>
  rw [Zak,Zak]
  refine .cons ?_ ih
  obtain ⟨h1,h2,h3⟩:=h
  unfold putAt
  by_cases e:p.1=k
  ·rw [if_pos e,if_pos (h1.symm.trans e)];exact ⟨h1,h2,ry⟩
  ·rw [if_neg e,if_neg (fun z=>e (h1.trans z))];exact ⟨h1,h2,h3⟩
theorem KT.put {H:Hp}{kvs:List (List Key×V)}{xs:List (List Key×Addr×Value)} (r:KT H kvs xs) (k:List Key) {b:Addr}{y:V}{u:Value} (hb:H b=some (.tup (k.map kV))) (ry:RelV y u) :
  KT H (putK kvs k y) (storedH xs k b u):=by
 have e:(kvs.any fun kv=>decide (kv.1=k))=(atKey xs k).isSome:=by
  rw [uL,(r.val k).kh,Option.isSome_map]
 unfold putK storedH
 rw [e]
 by_cases q:(atKey xs k).isSome=true
 ·rw [if_pos q,if_pos q];exact r.repl k ry
 ·rw [if_neg q,if_neg q];exact Paired.snoc r ⟨rfl,hb,ry⟩
theorem KT.keeps {H H':Hp}{kvs:List (List Key×V)}{xs:List (List Key×Addr×Value)} (r:KT H kvs xs) (ht:∀ b ys,H b=some (.tup ys)->H' b=some (.tup ys)):KT H' kvs xs :=
 Paired.Qo r fun _ _ z=>⟨z.1,ht _ _ z.2.1,z.2.2⟩
section
variable {P:Program}{w:World}{H:Hp}{h:Heap}{a:Addr}
theorem Px {u:HO} (ok:HOk P w H h) (e:Rd H a u):dG P w H h a u:=e.ok ok
theorem uN {kvs:List (Key×V)} (ok:HOk P w H h) (e:Rd H a (.dK kvs)):kvs.length≤sizeLine∧(a == sysModules)=false∧∃ vs,KV kvs vs∧h.DictOf (cM P w) a vs :=
 show dG P w H h a (.dK kvs) from Px ok e
theorem Py {kvs:List (Key×V)} (ok:HOk P w H h) (e:H a=some (.dK kvs)):kvs.length≤sizeLine∧(a == sysModules)=false∧∃ vs,KV kvs vs∧h.DictOf (cM P w) a vs:=uN ok (.inl e)
theorem mZ {ks:List Key} (ok:HOk P w H h) (e:H a=some (.tup (ks.map kV))):(tupleKind (cM P w)).is h ks a:=by
 obtain ⟨_,its,r,⟨o,h1,h2,n,h3⟩,_⟩:=(show dG P w H h a (.tup (ks.map kV)) from ok a _ e)
 exact ⟨o,its.toArray,n,h1,h2,h3,by simpa using xr r⟩
theorem sZ {kvs:List (List Key×V)} (ok:HOk P w H h) (e:Rd H a (.dT kvs)):kvs.length≤sizeLine∧(a == sysModules)=false ∧
  ∃ xs,KT H kvs xs∧h.DictOfH (tupleKind (cM P w)) a xs:=by
 obtain ⟨z,y,xs,r,o,es,ep,h1,h2,h3,h4,h5⟩:=(show dG P w H h a (.dT kvs) from Px ok e)
 refine ⟨z,y,xs,r,o,es,ep,h1,h2,h3,h4,fun x hx=>?_,h5⟩
 have all:∀ {l:List (List Key×V)}{m:List (List Key×Addr×Value)},KT H l m->∀ x∈m,(tupleKind (cM P w)).is h x.1 x.2.1:=by
  intro l m q
  induction q with
  | nil=>intro x hx;exact nomatch hx
  | @cons p q ps qs hq t ih =>
   intro x hx
   rcases Zas.mp hx with e | hx
   ·subst e
    exact mZ ok (by rw [←hq.1];exact hq.2.1)
   ·exact ih x hx
 exact all r x hx
theorem Jw {kvs:List (List Key×V)} (ok:HOk P w H h) (e:H a=some (.dT kvs)):kvs.length≤sizeLine∧(a == sysModules)=false ∧
  ∃ xs,KT H kvs xs∧h.DictOfH (tupleKind (cM P w)) a xs:=sZ ok (.inl e)
end
noncomputable def qy (H:Hp) (a:Addr) (y:V) (r:Option V):Prop :=
 (∃ kvs k,Rd H a (.dK kvs)∧y=kV k∧r=iT kvs k)∨∃ kvs k b,Rd H a (.dT kvs)∧y=.ref b∧H b=some (.tup (k.map kV))∧r=iT kvs k
noncomputable def qz (H:Hp) (a:Addr) (y v:V) (H':Hp):Prop :=
 (∃ kvs k,H a=some (.dK kvs)∧y=kV k∧kvs.length < sizeLine∧H'=upd H a (.dK (putK kvs k v))) ∨
 ∃ kvs k b,H a=some (.dT kvs)∧y=.ref b∧H b=some (.tup (k.map kV))∧kvs.length < sizeLine∧H'=upd H a (.dT (putK kvs k v))
theorem qz.k {H:Hp}{a:Addr}{kvs:List (Key×V)}{k:Key}{v:V} (e:H a=some (.dK kvs)) (hl:kvs.length < sizeLine):qz H a (kV k) v (upd H a (.dK (putK kvs k v))):=.inl ⟨kvs,k,e,rfl,hl,rfl⟩
theorem qz.t {H:Hp}{a b:Addr}{kvs:List (List Key×V)}{k:List Key}{v:V} (e:H a=some (.dT kvs)) (eb:H b=some (.tup (k.map kV))) (hl:kvs.length < sizeLine) :
  qz H a (.ref b) v (upd H a (.dT (putK kvs k v))):=.inr ⟨kvs,k,b,e,rfl,eb,hl,rfl⟩
section
variable {X:Cx}{pins:List (Addr×Obj)}{σ:St}{H:Hp}{s:Shared}{a:Addr}{y v:V}{u r:Value}{o:Option V}{A:Around}{E:Value->Shared->Prop}
theorem Inv.big (I:Inv X pins σ H s):sysModules < s.heap.objs.size:=by
 have h:mainGlobals < s.heap.objs.size:=(I.mod.glob.keeps I.bk).lt
 exact Nat.lt_trans (by decide) h
theorem Hv {Q:Value->Shared->Prop} (hu:A.units+1 < cLine) (I:Inv X pins σ H s) (g:qy H a y (some v)) (ry:RelV y u) (h:∀ w' s',Inv X pins σ H s'->RelV v w'->Q w' s') :
  wpAny (model X.prog X.w) A (getItem (.ref a) u) Q E s:=by
 rcases g with ⟨kvs,k,e,ey,l⟩ | ⟨kvs,k,b,e,ey,eb,l⟩
 ·subst ey
  obtain ⟨z,hd,vs,rel,dd⟩:=uN I.hok e
  obtain ⟨w',hw,rw'⟩:=tV.some_of (v:=v) (o:=valueAt vs k) (by rw [l];exact rel.val k)
  exact wpAny_getItem_of (uM ry) dd.mapOf hw (h w' _ (I.tok _) rw')
 ·subst ey
  cases (show u=Value.ref b from ry)
  obtain ⟨z,hd,xs,rel,dd⟩:=sZ I.hok e
  obtain ⟨w',hw,rw'⟩:=tV.some_of (v:=v) (o:=(atKey xs k).map (·.2)) (by rw [l];exact rel.val k)
  obtain ⟨p,hp,hp2⟩:=Zbr.mp hw
  refine wpAny_getItem_heap (tupleKind_room_in1 hu) (mZ I.hok eb) dd hp ?_
  rw [hp2]
  exact h w' _ (I.tok _) rw'
theorem Uj {Q:Value->Shared->Prop} (hu:A.units+1 < cLine) (I:Inv X pins σ H s) (g:qy H a y o) (ry:RelV y u) (h:∀ s',Inv X pins σ H s'->Q (.bool o.isSome) s') :
  wpAny (model X.prog X.w) A (compareOp .In u (.ref a)) Q E s:=by
 rcases g with ⟨kvs,k,e,ey,l⟩ | ⟨kvs,k,b,e,ey,eb,l⟩
 ·subst ey
  obtain ⟨z,hd,vs,rel,dd⟩:=uN I.hok e
  refine wpAny_in_of (uM ry) hd dd.mapOf ?_
  rw [←(rel.val k).kh,←l]
  exact h _ (I.tok _)
 ·subst ey
  cases (show u=Value.ref b from ry)
  obtain ⟨z,hd,xs,rel,dd⟩:=sZ I.hok e
  refine wpAny_in_heap (tupleKind_room_in1 hu) (mZ I.hok eb) hd dd ?_
  have q:=(rel.val k).kh
  rw [Option.isSome_map] at q
  rw [←q,←l]
  exact h _ (I.tok _)
theorem MN {Q:Value->Shared->Prop} (hu:A.units+1 < cLine) (I:Inv X pins σ H s) (g:qy H a y o) (ry:RelV y u) (h:∀ s',Inv X pins σ H s'->Q (.bool (!o.isSome)) s') :
  wpAny (model X.prog X.w) A (compareOp .NotIn u (.ref a)) Q E s:=by
 rcases g with ⟨kvs,k,e,ey,l⟩ | ⟨kvs,k,b,e,ey,eb,l⟩
 ·subst ey
  obtain ⟨z,hd,vs,rel,dd⟩:=uN I.hok e
  refine wpAny_notIn_of (uM ry) hd dd.mapOf ?_
  rw [←(rel.val k).kh,←l]
  exact h _ (I.tok _)
 ·subst ey
  cases (show u=Value.ref b from ry)
  obtain ⟨z,hd,xs,rel,dd⟩:=sZ I.hok e
  refine wpAny_notIn_heap (tupleKind_room_in1 hu) (mZ I.hok eb) hd dd ?_
  have q:=(rel.val k).kh
  rw [Option.isSome_map] at q
  rw [←q,←l]
  exact h _ (I.tok _)
theorem qC {h':Heap}{t':Nat}{ob:HO} (I:Inv X pins σ H s) (mu:Mut (H a)) (hs:Heap.SameBut a s.heap h') (he:∃ q,h'.get? a=some q) (new:dG X.prog X.w (upd H a ob) h' a ob) :
  Inv X pins σ (upd H a ob) { s with heap:=h',toks:=t' } :=
 I.write (x:=a) (e:=a) mu (.inl rfl) (fun b q hb z=>(hs.2 b hb).trans z) he new
theorem Jx {P:Program}{w:World}{H':Hp}{h':Heap}{kvs:List (Key×V)}{vs:List (Key×Value)} (z:kvs.length≤sizeLine) (hd:(a == sysModules)=false) (rel:KV kvs vs) (dd:h'.DictOf (cM P w) a vs) :
  dG P w H' h' a (.dK kvs):=⟨z,hd,vs,rel,dd⟩
theorem Hw {H':Hp}{Q:Unit->Shared->Prop} (hu:A.units+1 < cLine) (I:Inv X pins σ H s) (g:qz H a y v H') (ry:RelV y u) (rv:RelV v r) (h:∀ s',Inv X pins σ H' s'->Q () s') :
  wpAny (model X.prog X.w) A (setItem (.ref a) u r) Q E s:=by
 rcases g with ⟨kvs,k,e,ey,l,eH⟩ | ⟨kvs,k,b,e,ey,eb,l,eH⟩
 ·subst ey eH
  obtain ⟨z,hd,vs,rel,dd⟩:=Py I.hok e
  have hz:vs.length≤sizeLine:=by rw [←rel.length];exact z
  have hl:(putK kvs k v).length≤sizeLine:=by have:=iB kvs k v;lia
  refine wpAny_setItem_pairs (hsz:=hz) (uM ry) dd fun h' dd' hs=>h _ ?_
  have he:∃ q,h'.get? a=some q:=let ⟨q,_,_,hq,_⟩:=dd';⟨q,hq⟩
  exact qC I (by rw [e];exact True.intro) hs he (Jx hl hd (rel.put k rv) dd')
 ·subst ey eH
  cases (show u=Value.ref b from ry)
  obtain ⟨z,hd,xs,rel,dd⟩:=Jw I.hok e
  have hz:xs.length≤sizeLine:=by rw [←Paired.length rel];exact z
  have hl:(putK kvs k v).length≤sizeLine:=by have:=iB kvs k v;lia
  refine wpAny_setItem_heap (hsz:=hz) (tupleKind_room_in1 hu) (mZ I.hok eb) dd fun h' dd' hs=>h _ ?_
  obtain ⟨q,es,ep,hq,h2,h3,h4,_,h5⟩:=dd'
  refine qC I (by rw [e];exact True.intro) hs ⟨q,hq⟩ ⟨hl,hd,_,(rel.put k eb rv).keeps fun c ys ec=>?_,q,es,ep,hq,h2,h3,h4,h5⟩
  rw [aG (Jg ec e (fun z=>nomatch z))]
  exact ec
end
section
variable {X:Cx}{pins:List (Addr×Obj)}{σ:St}{H:Hp}{s:Shared}{a:Addr}{kvs:List (Key×V)}{k:Key}{u:Value}{A:Around}{E:Value->Shared->Prop}
end
noncomputable def QM (i:Expr):Prop:=∀ ov iv,subscripted i false ov iv=operate [ov,iv] (getItem ov iv)
theorem M3 {prog:Program}{w:World}{A:Around}{E:Value->Shared->Prop}{s:Shared}{env:Env}{value slice:Expr}{pos:Pos}{T id:String}{Q:Value->Shared->Prop}
  (hl:typeLookup (.type T) "__getitem__"=pure (some (.builtin id))) (hs:QM slice)
  (h:wpAny (model prog w) A (eval value env) (fun o s₁=>wpAny (model prog w) A (eval slice env) (fun i s₂=>s₂.TypeIs o T∧wpAny (model prog w) A (getItem o i) Q E s₂) E s₁) E s) :
  wpAny (model prog w) A (eval (.Subscript value slice pos) env) Q E s:=by
 refine Subscript_ (wpAny_mono h (fun o s₁ h₁=>wpAny_mono h₁ (fun i s₂ h₂=>?_) fun _ _ x=>x) fun _ _ x=>x)
 obtain ⟨hT,h₂⟩:=h₂
 unfold subscriptTail
 refine wpAny_bind ?_
 rw [getitemInPython_of_ne hT.not_modules]
 refine wpAny_bind (wpAny_specialOf hT hl ?_)
 have fin:wpAny (model prog w) A (subscripted slice false o i) (fun r s₃=>wpAny (model prog w) A (letTemporaryGo value o r >>= fun _=>pure r) Q E s₃) E s₂:=by
  rw [hs o i]
  exact wpAny_operating (wpAny_mono h₂ (fun r s₃ h₃=>wpAny_bind (wpAny_letTemporaryGo (wpAny_pure h₃))) fun _ _ x=>x)
 first
  | exact wpAny_pure (wpAny_bind fin)
  | exact wpAny_bind (wpAny_pure (wpAny_bind fin))
  | exact wpAny_bind fin
theorem Av {X:Cx}{pins:List (Addr×Obj)}{σ:St}{H:Hp}{s:Shared}{a:Addr}{y:V}{o:Option V} (I:Inv X pins σ H s) (g:qy H a y o):s.TypeIs (.ref a) "dict":=by
 rcases g with ⟨kvs,k,e,_,_⟩ | ⟨kvs,k,b,e,_,_,_⟩
 ·obtain ⟨_,_,vs,_,dd⟩:=uN I.hok e
  exact dd.typeIs
 ·obtain ⟨_,_,xs,_,dd⟩:=sZ I.hok e
  exact dd.typeIs
noncomputable def Jy (td ty:TE):TE:=fun σ H Q=>td σ H fun x H1=>ty σ H1 fun y H2=>∃ a v,x=.ref a∧qy H2 a y (some v)∧Q v H2
noncomputable def Jz (td ty tv:TE):TS:=fun D σ H=>tv σ H fun v H1=>td σ H1 fun x H2=>ty σ H2 fun y H3=>∃ a H4,x=.ref a∧qz H3 a y v H4∧D.nx σ H4
section
variable {X:Cx}{o i e value:Expr}{pos pos' tpos:Pos}{td ty tv:TE}
theorem M4 (hu:X.A.units+1 < cLine) (ho:PE X o td) (hi:PE X i ty) (hs:QM i):PE X (.Subscript o i pos) (Jy td ty):=by
 intro pins s σ H Q I h
 refine M3 PySem.F.slot_dict_getitem.lookup hs (thn (ho pins s σ H _ I h) fun u s1 ⟨x,H1,I1,rx,q1⟩=>thn (hi pins s1 σ H1 _ I1 q1) ?_)
 rintro iv s2 ⟨y,H2,I2,ry,a,v,ex,g,q2⟩
 subst ex
 obtain rfl:u=Value.ref a:=rx
 exact ⟨Av I2 g,Hv hu I2 g ry fun w' s3 I3 rw'=>⟨v,H2,I3,rw',q2⟩⟩
theorem ud (hu:X.A.units+1 < cLine) (ho:PE X o td) (hi:PE X i ty) (hv:PE X value tv) (hs:swapsWith value (some (.Subscript o i pos')) pos.line X.env=pure false) :
  PS X (.Assign [.Subscript o i pos'] value pos) (Jz td ty tv):=by
 intro pins s σ H D I h
 refine wpAny_Assign_Subscript (thn (hv pins s σ H _ I h) fun r s1 ⟨v,H1,I1,rv,q1⟩=>thn (ho pins s1 σ H1 _ I1 q1) fun u s2 ⟨x,H2,I2,rx,q2⟩=>thn (hi pins s2 σ H2 _ I2 q2) ?_) hs
 rintro iv s3 ⟨y,H3,I3,ry,a,H4,ex,g,q3⟩
 subst ex
 obtain rfl:u=Value.ref a:=rx
 exact Hw hu I3 g ry rv fun s4 I4=>⟨σ,H4,I4,q3⟩
end
theorem JB {P:Program}{w:World}{H:Hp} (h:Heap) (hb:sysModules < h.objs.size):dG P w H (h.push { cls:=.type "dict",data:=.dict #[] }) h.objs.size (.dK []) :=
 ⟨ZaZ _,beq_eq_false_iff_ne.mpr (Za8 (Zaw hb)),[],.nil,Heap.DictOf.new h⟩
theorem Aw {P:Program}{w:World}{H:Hp} (h:Heap) (hb:sysModules < h.objs.size):dG P w H (h.push { cls:=.type "dict",data:=.dict #[] }) h.objs.size (.dT []) :=
 ⟨ZaZ _,beq_eq_false_iff_ne.mpr (Za8 (Zaw hb)),[],.nil,_,#[],0,Zal _ rfl,⟨rfl,rfl,rfl⟩,rfl,rfl,List.nodup_nil⟩
noncomputable def JC:TE:=fun _ H Q=>∀ p,H p=none->Q (.ref p) (upd H p (.dT []))
section
variable {X:Cx}{pos:Pos}
theorem m5:PE X (.Dict [] [] pos) JC:=fun pins s σ H Q I h =>
 wpAny_Dict_empty ⟨.ref s.heap.objs.size,_,I.laid (a:=s.heap.objs.size) (o:=.dT []) (t':=s.toks) (fun _ _ q=>Zac _ q) (Zah _) (Aw s.heap I.big),rfl,h _ (I.hok.fresh (Zah _))⟩
end
noncomputable def JD:List (TE×TE)->St->Hp->(List (V×V)->Hp->Prop)->Prop
 | [],_,H,Q=>Q [] H
 | (tk,tv)::r,σ,H,Q=>tk σ H fun x H1=>tv σ H1 fun y H2=>JD r σ H2 fun ps H3=>Q ((x,y)::ps) H3
noncomputable abbrev VV:List (V×V)->List (Value×Value)->Prop:=Paired fun p q=>RelV p.1 q.1∧RelV p.2 q.2
noncomputable def PPs (X:Cx) (pos:Pos) (keys:List (Option Expr)) (values:List Expr) (trs:List (TE×TE)):Prop :=
 ∀ (pins:List (Addr×Obj)) (s:Shared) (σ:St) (H:Hp) (Q:List (V×V)->Hp->Prop),Inv X pins σ H s->JD trs σ H Q ->
  wpAny (model X.prog X.w) X.A (evalPairs (pairTrees keys values X.env pos)) (fun vs s'=>∃ ps H',Inv X pins σ H' s'∧VV ps vs∧Q ps H') X.xe s
structure M1 (X:Cx) (o:Expr) (m:Str) (apos:Pos) (e:Expr) (cpos:Pos):Prop where
 base:attributeBase o m X.env (eval o X.env)=eval o X.env
 few:((backTo cpos (starEach [e] X.env)).all (fun x=>!x.1) && (backToKw cpos (keywordEach [] X.env)).all (fun x=>x.1.isSome)
  && decide (([e]:List Expr).length+([]:List Keyword).length+(if ([]:List Keyword).isEmpty then 0 else 1) < 30))=true
 line:(apos.endLine == cpos.line)=true
 trees:backTo cpos (starEach [e] X.env)=[(false,eval e X.env)]
structure M2 (X:Cx) (o:Expr) (m:Str) (apos:Pos) (e f:Expr) (cpos:Pos):Prop where
 base:attributeBase o m X.env (eval o X.env)=eval o X.env
 few:((backTo cpos (starEach [e,f] X.env)).all (fun x=>!x.1) && (backToKw cpos (keywordEach [] X.env)).all (fun x=>x.1.isSome)
  && decide (([e,f]:List Expr).length+([]:List Keyword).length+(if ([]:List Keyword).isEmpty then 0 else 1) < 30))=true
 line:(apos.endLine == cpos.line)=true
 trees:backTo cpos (starEach [e,f] X.env)=[(false,eval e X.env),(false,eval f X.env)]
noncomputable def IsD (H:Hp) (a:Addr):Prop:=(∃ kvs,Rd H a (.dK kvs))∨∃ kvs,Rd H a (.dT kvs)
theorem DY {X:Cx}{pins:List (Addr×Obj)}{σ:St}{H:Hp}{s:Shared}{a:Addr} (I:Inv X pins σ H s) (d:IsD H a) :
  s.TypeIs (.ref a) "dict"∧(∀ b,Value.ref a=.ref b->∃ ob,s.heap.get? b=some ob∧ob.dict=none)∧(a == sysModules)=false:=by
 rcases d with ⟨kvs,e⟩ | ⟨kvs,e⟩
 ·obtain ⟨_,hd,vs,_,dd⟩:=uN I.hok e
  refine ⟨dd.typeIs,fun b q=>?_,hd⟩
  cases q
  obtain ⟨ob,_,_,h1,h2,_⟩:=dd
  exact ⟨ob,h1,h2.2.1⟩
 ·obtain ⟨_,hd,xs,_,dd⟩:=sZ I.hok e
  refine ⟨dd.typeIs,fun b q=>?_,hd⟩
  cases q
  obtain ⟨ob,_,_,h1,h2,_⟩:=dd
  exact ⟨ob,h1,h2.2.1⟩
section
variable {X:Cx}{pins:List (Addr×Obj)}{σ:St}{H:Hp}{s:Shared}{a:Addr}{y d:V}{u r:Value}{o:Option V}{A:Around}{E:Value->Shared->Prop}
theorem QQ {Q:Value->Shared->Prop} (hu:A.units+1 < cLine) (I:Inv X pins σ H s) (g:qy H a y o) (ry:RelV y u) (h:∀ w' s',Inv X pins σ H s'->RelV (o.getD .non) w'->Q w' s') :
  wpAny (model X.prog X.w) A (call (.builtin "dict.get") [.ref a,u]) Q E s:=by
 rcases g with ⟨kvs,k,e,ey,l⟩ | ⟨kvs,k,b,e,ey,eb,l⟩
 ·subst ey
  obtain ⟨z,hd,vs,rel,dd⟩:=uN I.hok e
  refine call_meetsIn PySem.F.slot_dict_get dd.typeIs PySem.F.entry_dict_get (PySem.F.args_dict_get_2 _ _) (meets_dict_get (cM X.prog X.w) a (uM ry) hd) ⟨_,dd.mapOf,h _ _ (I.tok _) ?_⟩
  rw [l]
  exact (rel.val k).getD rfl
 ·subst ey
  cases (show u=Value.ref b from ry)
  obtain ⟨z,hd,xs,rel,dd⟩:=sZ I.hok e
  refine call_meetsIn PySem.F.slot_dict_get dd.typeIs PySem.F.entry_dict_get (PySem.F.args_dict_get_2 _ _) (meetsH_dict_get (tupleKind (cM X.prog X.w)) a b hd) ⟨tupleKind_room_in1 hu,k,xs,mZ I.hok eb,dd,h _ _ (I.tok _) ?_⟩
  rw [l]
  exact (rel.val k).getD rfl
end
noncomputable def Ea (td ty:TE):TE:=fun σ H Q=>td σ H fun x H1=>∃ a,x=.ref a∧IsD H1 a∧ty σ H1 fun y H2=>∃ o,qy H2 a y o∧Q (o.getD .non) H2
section
variable {X:Cx}{o e f:Expr}{apos cpos:Pos}{td ty tx:TE}
theorem JF (hu:X.A.units+1 < cLine) (ho:PE X o td) (he:PE X e ty) (m:M1 X o "get" apos e cpos):PE X (.Call (.Attribute o "get" apos) [e] [] cpos) (Ea td ty):=by
 intro pins s σ H Q I h
 refine wpAny_Call_method m.base m.few m.line PySem.F.plainAttrs_dict PySem.F.slot_dict_get PySem.F.type_dict_get (thn (ho pins s σ H _ I h) ?_)
 rintro u s1 ⟨x,H1,I1,rx,a,ex,d,q1⟩
 subst ex
 obtain rfl:u=Value.ref a:=rx
 obtain ⟨t1,t2,_⟩:=DY I1 d
 refine ⟨t1,t2,?_⟩
 rw [m.trees]
 refine Calls.callWith_builtin rfl (Calls.evalArgs_plain (Calls.spliced_cons (thn (he pins s1 σ H1 _ I1 q1) fun iv s2 ⟨y,H2,I2,ry,ov,g,q2⟩=>Calls.spliced_nil ?_)))
 exact QQ hu I2 g ry fun w' s3 I3 rw'=>⟨_,H2,I3,rw',q2⟩
end
section
variable {X:Cx}{pins:List (Addr×Obj)}{σ:St}{H:Hp}{s:Shared}{a:Addr}{kvs:List (Key×V)}{A:Around}{E:Value->Shared->Prop}
end
section
variable {X:Cx}{pins:List (Addr×Obj)}{σ:St}{H:Hp}{s:Shared}{a:Addr}{y:V}{u:Value}{A:Around}{E:Value->Shared->Prop}
end
end L2
namespace L2.MP
open PySem PySem.Spec PyProof.Rows
inductive PV where
 | non | bl (b:Bool) | int (i:Int) | str (x:Str) | ty (n:String)
 | tup (l:List PV) | lst (l:List PV) | dk (l:List (Key×PV)) | dt (l:List (List Key×PV))
 | exc (c:Str) (fs:List (Str×PV))
noncomputable instance:Inhabited PV:=⟨.non⟩
noncomputable def PV.flat:PV->Bool
 | .non | .bl _ | .int _ | .str _ | .ty _=>true
 | _=>false
noncomputable def pP:Nat->PV->Bool
 | 0,p=>p.flat
 | n+1,.tup l=>l.all (pP n)
 | _+1,p=>p.flat
noncomputable def PV.still (p:PV):Bool:=pP 5 p
inductive Res (α:Type) where
 | ok (a:α) | ex (z:PV)
noncomputable def bnd {α β:Type} (x:Option (Res α)) (k:α->Option (Res β)):Option (Res β):=match x with
 | some (.ok a)=>k a
 | some (.ex z)=>some (.ex z)
 | none=>none
noncomputable def XO (e C:Addr) (d:Option Addr):HO:=.ext fun h=>∃ vs:Array Value,h.get? e=some { cls:=.ref C,dict:=d,data:=.fields vs }
structure XNm (K:PySem.W.Frag) (C:Addr) (c:Str):Prop where
 ns:PySem.W.nsIn K mainGlobals c=some (some (.ref C))
 cl:∃ cd,PySem.W.clsIn K C=some cd∧cd.name=c
inductive Rep (K:PySem.W.Frag) (F:Hp):V->PV->Prop
 | non:Rep K F .non .non
 | bl {b:Bool}:Rep K F (.bl b) (.bl b)
 | int {i:Int}:Rep K F (.int i) (.int i)
 | str {x:Str}:Rep K F (.str x) (.str x)
 | ty {n:String}:Rep K F (.ty n) (.ty n)
 | tup {a:Addr}{xs:List V}{l:List PV} (h:F a=some (.tup xs)) (hl:xs.length=l.length) (hr:∀ (j:Nat) x p,xs[j]?=some x->l[j]?=some p->Rep K F x p):Rep K F (.ref a) (.tup l)
 | lst {a:Addr}{xs:List V}{l:List PV} (h:SqL K F a xs) (hl:xs.length=l.length) (hr:∀ (j:Nat) x p,xs[j]?=some x->l[j]?=some p->Rep K F x p):Rep K F (.ref a) (.lst l)
 | dk {a:Addr}{xs:List (Key×V)}{l:List (Key×PV)} (h:Rd F a (.dK xs)) (hl:xs.map (·.1)=l.map (·.1)) (hr:∀ (j:Nat) x p,xs[j]?=some x->l[j]?=some p->Rep K F x.2 p.2):Rep K F (.ref a) (.dk l)
 | dt {a:Addr}{xs:List (List Key×V)}{l:List (List Key×PV)} (h:Rd F a (.dT xs)) (hl:xs.map (·.1)=l.map (·.1)) (hr:∀ (j:Nat) x p,xs[j]?=some x->l[j]?=some p->Rep K F x.2 p.2):Rep K F (.ref a) (.dt l)
 | exc {a C dx:Addr}{c:Str}{xs:List (Str×V)}{l:List (Str×PV)} (nm:XNm K C c) (h:F a=some (XO a C (some dx))) (hd:F dx=some (.xd xs)) (hl:xs.map (·.1)=l.map (·.1)) (hr:∀ (j:Nat) x p,xs[j]?=some x->l[j]?=some p->Rep K F x.2 p.2):Rep K F (.ref a) (.exc c l)
 | exc0 {a C:Addr}{c:Str} (nm:XNm K C c) (h:F a=some (XO a C none)):Rep K F (.ref a) (.exc c [])
noncomputable def bA (K:PySem.W.Frag) (F:Hp) (xs:List V) (l:List PV):Prop:=xs.length=l.length∧∀ (j:Nat) x p,xs[j]?=some x->l[j]?=some p->Rep K F x p
section
variable {K:PySem.W.Frag}{F F' H H':Hp}{v:V}{p:PV}{xs ys:List V}{l m:List PV}
theorem _root_.L2.Rd.same {F F':Hp}{a:Addr}{u:HO} (h:Rd F a u) (s:aR F F'):Rd F' a u:=h.imp (s _ _) fun ⟨o,e⟩=>⟨o,s _ _ e⟩
theorem Rep.up (h:Rep K F v p) (s:aR F F'):Rep K F' v p:=by
 induction h with
 | non=>exact .non
 | bl=>exact .bl
 | int=>exact .int
 | str=>exact .str
 | ty=>exact .ty
 | tup h hl _ ih=>exact .tup (s _ _ h) hl ih
 | lst h hl _ ih=>exact .lst (s.seq h) hl ih
 | dk h hl _ ih=>exact .dk (h.same s) hl ih
 | dt h hl _ ih=>exact .dt (h.same s) hl ih
 | exc nm h hd hl _ ih=>exact .exc nm (s _ _ h) (s _ _ hd) hl ih
 | exc0 nm h=>exact .exc0 nm (s _ _ h)
theorem bA.up (h:bA K F xs l) (s:aR F F'):bA K F' xs l:=⟨h.1,fun j x p a b=>(h.2 j x p a b).up s⟩
theorem Rep.free (h:Rep K F v p) (hf:p.flat=true):Rep K F' v p:=by
 cases h with
 | non=>exact .non
 | bl=>exact .bl
 | int=>exact .int
 | str=>exact .str
 | ty=>exact .ty
 | tup=>cases hf
 | lst=>cases hf
 | dk=>cases hf
 | dt=>cases hf
 | exc=>cases hf
 | exc0=>cases hf
theorem bA.nil:bA K F [] []:=⟨rfl,fun j x p h=>by simp at h⟩
theorem bA.cons (h:Rep K F v p) (t:bA K F xs l):bA K F (v::xs) (p::l):=by
 refine ⟨by simp [t.1],fun j x q a b=>?_⟩
 cases j with
 | zero=>simp at a b;subst a b;exact h
 | succ j=>exact t.2 j x q (by simpa using a) (by simpa using b)
theorem bA.append (h:bA K F xs l) (t:bA K F ys m):bA K F (xs++ys) (l++m):=by
 refine ⟨by rw [List.length_append,List.length_append,h.1,t.1],fun j x p a b=>?_⟩
 by_cases hj:j < xs.length
 ·rw [Zag hj] at a
  rw [Zag (by rw [←h.1];exact hj)] at b
  exact h.2 j x p a b
 ·rw [Zao (by lia)] at a
  rw [Zao (by rw [←h.1];lia),←h.1] at b
  exact t.2 _ x p a b
theorem bA.snoc (h:bA K F xs l) (t:Rep K F v p):bA K F (xs++[v]) (l++[p]):=h.append (bA.nil.cons t)
theorem bA.get (h:bA K F xs l) {j:Nat} (e:l[j]?=some p):∃ x,xs[j]?=some x∧Rep K F x p:=by
 have hj:j < xs.length:=by rw [h.1];exact (Zab.mp e).1
 exact ⟨xs[j],by simp [hj],h.2 j _ p (by simp [hj]) e⟩
theorem bA.got (h:bA K F xs l) {j:Nat} (e:xs[j]?=some v):∃ p,l[j]?=some p∧Rep K F v p:=by
 have hj:j < l.length:=by rw [←h.1];exact (Zab.mp e).1
 exact ⟨l[j],by simp [hj],h.2 j v _ e (by simp [hj])⟩
theorem bA.take (h:bA K F xs l) (n:Nat):bA K F (xs.take n) (l.take n):=by
 refine ⟨by simp [h.1],fun j x p a b=>?_⟩
 rw [List.getElem?_take] at a b
 split at a
 ·rename_i hj
  rw [if_pos hj] at b
  exact h.2 j x p a b
 ·cases a
theorem bA.drop (h:bA K F xs l) (n:Nat):bA K F (xs.drop n) (l.drop n):=by
 refine ⟨by simp [h.1],fun j x p a b=>?_⟩
 rw [List.getElem?_drop] at a b
 exact h.2 _ x p a b
theorem bA.dD (h:bA K F xs (p::l)):∃ v ys,xs=v::ys∧Rep K F v p∧bA K F ys l:=by
 obtain ⟨hl,hr⟩:=h
 match xs,hl,hr with
 | [],hl,_=>simp at hl
 | v::ys,hl,hr=>exact ⟨v,ys,rfl,hr 0 v p rfl rfl,by simpa using hl,fun j x q a b=>hr (j+1) x q (by simpa using a) (by simpa using b)⟩
theorem bA.iu (h:bA K F xs []):xs=[]:=by
 have:=h.1
 simpa using this
theorem bA.yH:∀ (ns:List Int),bA K F (ns.map V.int) (ns.map PV.int)
 | []=>.nil
 | n::ns=>(bA.yH ns).cons .int
theorem Rep.bu {i:Int} (h:Rep K F v (.int i)):v=.int i:=by cases h;rfl
theorem Rep.m6 {b:Bool} (h:Rep K F v (.bl b)):v=.bl b:=by cases h;rfl
theorem Rep.bU {z:Str} (h:Rep K F v (.str z)):v=.str z:=by cases h;rfl
theorem Rep.fj (h:Rep K F v .non):v=.non:=by cases h;rfl
theorem Rep.dh (h:Rep K F v (.tup l)):∃ a xs,v=.ref a∧SqT K F a xs∧bA K F xs l:=by cases h with | tup h hl hr=>exact ⟨_,_,rfl,SqT.of h,hl,hr⟩
theorem Rep.qD (h:Rep K F v (.tup l)):∃ a xs,v=.ref a∧F a=some (.tup xs)∧bA K F xs l:=by cases h with | tup h hl hr=>exact ⟨_,_,rfl,h,hl,hr⟩
theorem Rep.bY (h:Rep K F v (.lst l)):∃ a xs,v=.ref a∧SqL K F a xs∧bA K F xs l:=by cases h with | lst h hl hr=>exact ⟨_,_,rfl,h,hl,hr⟩
end
structure Cf where
 io:Addr->Prop
 nw:Prop
 H0:Hp
 F0:Hp
 E:XK
inductive Sl where
 | sh (p:PV) | ow (p:PV) | dp (p:PV)
noncomputable abbrev Rho:=List (Option Sl)
noncomputable def Own (K:PySem.W.Frag) (F H:Hp) (a:Addr):PV->Prop
 | .lst l=>∃ xs,H a=some (.lst xs)∧bA K F xs l
 | .dk l=>∃ xs,H a=some (.dK xs)∧xs.map (·.1)=l.map (·.1)∧∀ (j:Nat) x p,xs[j]?=some x->l[j]?=some p->Rep K F x.2 p.2
 | .dt l=>∃ xs,H a=some (.dT xs)∧xs.map (·.1)=l.map (·.1)∧∀ (j:Nat) x p,xs[j]?=some x->l[j]?=some p->Rep K F x.2 p.2
 | _=>False
inductive Dp (K:PySem.W.Frag) (F H:Hp):(Addr->Prop)->V->PV->Prop
 | fr {P:Addr->Prop}{v:V}{p:PV} (h:Rep K F v p) (st:p.still=true):Dp K F H P v p
 | lst {P:Addr->Prop}{S:Nat->Addr->Prop}{a:Addr}{xs:List V}{l:List PV} (h:H a=some (.lst xs)) (hp:P a) (hs:∀ j b,S j b->P b∧b≠a) (dj:∀ i j b,S i b->S j b->i=j) (hl:xs.length=l.length)
   (hr:∀ (j:Nat) x p,xs[j]?=some x->l[j]?=some p->Dp K F H (S j) x p):Dp K F H P (.ref a) (.lst l)
 | tup {P:Addr->Prop}{S:Nat->Addr->Prop}{a:Addr}{xs:List V}{l:List PV} (h:H a=some (.tup xs)) (hs:∀ j b,S j b->P b) (dj:∀ i j b,S i b->S j b->i=j) (hl:xs.length=l.length)
   (hr:∀ (j:Nat) x p,xs[j]?=some x->l[j]?=some p->Dp K F H (S j) x p):Dp K F H P (.ref a) (.tup l)
 | dk {P:Addr->Prop}{S:Nat->Addr->Prop}{a:Addr}{xs:List (Key×V)}{l:List (Key×PV)} (h:H a=some (.dK xs)) (hp:P a) (hs:∀ j b,S j b->P b∧b≠a) (dj:∀ i j b,S i b->S j b->i=j) (hl:xs.map (·.1)=l.map (·.1))
   (hr:∀ (j:Nat) x p,xs[j]?=some x->l[j]?=some p->Dp K F H (S j) x.2 p.2):Dp K F H P (.ref a) (.dk l)
 | dt {P:Addr->Prop}{S:Nat->Addr->Prop}{a:Addr}{xs:List (List Key×V)}{l:List (List Key×PV)} (h:H a=some (.dT xs)) (hp:P a) (hs:∀ j b,S j b->P b∧b≠a) (dj:∀ i j b,S i b->S j b->i=j) (hl:xs.map (·.1)=l.map (·.1))
   (hr:∀ (j:Nat) x p,xs[j]?=some x->l[j]?=some p->Dp K F H (S j) x.2 p.2):Dp K F H P (.ref a) (.dt l)
section
variable {K:PySem.W.Frag}{F F' H H':Hp}{v:V}{p:PV}{P P':Addr->Prop}
theorem Dp.mono (h:Dp K F H P v p) (m:∀ b,P b->P' b):Dp K F H P' v p:=by
 cases h with
 | fr h st=>exact .fr h st
 | lst h hp hs dj hl hr=>exact .lst h (m _ hp) (fun j b q=>⟨m _ (hs j b q).1,(hs j b q).2⟩) dj hl hr
 | tup h hs dj hl hr=>exact .tup h (fun j b q=>m _ (hs j b q)) dj hl hr
 | dk h hp hs dj hl hr=>exact .dk h (m _ hp) (fun j b q=>⟨m _ (hs j b q).1,(hs j b q).2⟩) dj hl hr
 | dt h hp hs dj hl hr=>exact .dt h (m _ hp) (fun j b q=>⟨m _ (hs j b q).1,(hs j b q).2⟩) dj hl hr
theorem Dp.up (h:Dp K F H P v p) (sf:aR F F') (sh:∀ b o,P b->H b=some o->H' b=some o) (ht:∀ b ys,H b=some (.tup ys)->H' b=some (.tup ys)):Dp K F' H' P v p:=by
 induction h with
 | fr h st=>exact .fr (h.up sf) st
 | lst h hp hs dj hl _ ih=>exact .lst (sh _ _ hp h) hp hs dj hl fun j x p e1 e2=>ih j x p e1 e2 fun b o q=>sh b o (hs j b q).1
 | tup h hs dj hl _ ih=>exact .tup (ht _ _ h) hs dj hl fun j x p e1 e2=>ih j x p e1 e2 fun b o q=>sh b o (hs j b q)
 | dk h hp hs dj hl _ ih=>exact .dk (sh _ _ hp h) hp hs dj hl fun j x p e1 e2=>ih j x p e1 e2 fun b o q=>sh b o (hs j b q).1
 | dt h hp hs dj hl _ ih=>exact .dt (sh _ _ hp h) hp hs dj hl fun j x p e1 e2=>ih j x p e1 e2 fun b o q=>sh b o (hs j b q).1
theorem Dp.seen (h:Dp K F H P v p) (sf:aR F F') (sh:∀ b o,P b->H b=some o->F' b=some o) (ht:∀ b ys,H b=some (.tup ys)->F' b=some (.tup ys)):Rep K F' v p:=by
 induction h with
 | fr h st=>exact h.up sf
 | lst h hp hs dj hl _ ih=>exact .lst (SqL.of (sh _ _ hp h)) hl fun j x p e1 e2=>ih j x p e1 e2 fun b o q=>sh b o (hs j b q).1
 | tup h hs dj hl _ ih=>exact .tup (ht _ _ h) hl fun j x p e1 e2=>ih j x p e1 e2 fun b o q=>sh b o (hs j b q)
 | dk h hp hs dj hl _ ih=>exact .dk (.inl (sh _ _ hp h)) hl fun j x p e1 e2=>ih j x p e1 e2 fun b o q=>sh b o (hs j b q).1
 | dt h hp hs dj hl _ ih=>exact .dt (.inl (sh _ _ hp h)) hl fun j x p e1 e2=>ih j x p e1 e2 fun b o q=>sh b o (hs j b q).1
end
structure RD (K:PySem.W.Frag) (C:Cf) (F H:Hp) (σ:St) (ρ:Rho) (P:Nat->Addr->Prop):Prop where
 own:∀ i b,P i b->F b=none∧(∃ o,H b=some o∧∀ ys,o≠.tup ys)∧C.nw∧C.H0 b=none
 dis:∀ i j b,P i b->P j b->i=j
 ow:∀ (i j:Nat) q b,P i b->ρ[j]?=some (some (.ow q))->σ[j]?≠some (some (.ref b))
 dp:∀ (i:Nat) p,ρ[i]?=some (some (.dp p))->∃ v,σ[i]?=some (some v)∧Dp K F H (P i) v p
theorem RD.no {K:PySem.W.Frag}{C:Cf}{F H:Hp}{σ:St}{ρ:Rho} (h:∀ (i:Nat) p,ρ[i]?≠some (some (.dp p))):RD K C F H σ ρ (fun _ _=>False) :=
 ⟨fun _ _ q=>q.elim,fun _ _ _ q=>q.elim,fun _ _ _ _ q=>q.elim,fun i p e=>absurd e (h i p)⟩
noncomputable def Frz (H:Hp) (b:Addr) (o:HO):Prop:=H b=none∨∃ ys,o=.tup ys
structure RB (C:Cf) (F H:Hp):Prop where
 sub:aR F H
 keep:∀ b o,C.H0 b=some o->¬C.io b->H b=some o
 new:∀ b o,F b=some o->C.F0 b=some o∨Frz C.H0 b o
 ios:∀ b,C.io b->H b≠none∧C.H0 b≠none
structure RE (K:PySem.W.Frag) (C:Cf) (F H:Hp) (σ:St) (ρ:Rho):Prop where
 rb:RB C F H
 len:σ.length=ρ.length
 sh:∀ (i:Nat) p,ρ[i]?=some (some (.sh p))->∃ v,σ[i]?=some (some v)∧Rep K F v p
 ow:∀ (i:Nat) p,ρ[i]?=some (some (.ow p))->∃ a,σ[i]?=some (some (.ref a))∧Own K F H a p∧F a=none∧(C.io a∨(C.nw∧C.H0 a=none))
 dis:∀ (i j:Nat) p q a,ρ[i]?=some (some (.ow p))->ρ[j]?=some (some (.ow q))->σ[i]?=some (some (.ref a))->σ[j]?=some (some (.ref a))->i=j
 dd:∃ P,RD K C F H σ ρ P
structure Up (F H F' H':Hp):Prop where
 ff:aR F F'
 hh:aR H H'
 fr:∀ b o,F' b=some o->F b=some o∨Frz H b o
 fh:aR F' H'
section
variable {K:PySem.W.Frag}{C:Cf}{F F1 F2 F' H H1 H2 H':Hp}{σ σ':St}{ρ ρ':Rho}{a:Addr}{p:PV}{v:V}
theorem Up.refl (s:aR F H):Up F H F H:=⟨aR.refl _,aR.refl _,fun _ _ h=>.inl h,s⟩
theorem Up.trans (a:Up F H F1 H1) (b:Up F1 H1 F2 H2):Up F H F2 H2 :=
 ⟨a.ff.trans b.ff,a.hh.trans b.hh,fun c o h=>(b.fr c o h).elim (a.fr c o) fun n=>.inr (n.imp (fun n=>a.hh.free n) id),b.fh⟩
theorem Own.ne (h:Own K F H a p):∃ o,H a=some o:=by
 cases p with
 | lst l=>obtain ⟨xs,e,_⟩:=h;exact ⟨_,e⟩
 | dk l=>obtain ⟨xs,e,_⟩:=h;exact ⟨_,e⟩
 | dt l=>obtain ⟨xs,e,_⟩:=h;exact ⟨_,e⟩
 | _=>exact h.elim
theorem Own.tu {ys:List V} (h:Own K F H a p) (e:H a=some (.tup ys)):False:=by
 cases p with
 | lst l=>obtain ⟨xs,e',_⟩:=h;rw [e] at e';cases e'
 | dk l=>obtain ⟨xs,e',_⟩:=h;rw [e] at e';cases e'
 | dt l=>obtain ⟨xs,e',_⟩:=h;rw [e] at e';cases e'
 | _=>exact h.elim
theorem RD.up {P:Nat->Addr->Prop} (d:RD K C F H σ ρ P) (u:Up F H F' H'):RD K C F' H' σ ρ P where
 own:=fun i b q=>by
  obtain ⟨a1,⟨o',a2,a3⟩,a4⟩:=d.own i b q
  refine ⟨?_,⟨o',u.hh _ _ a2,a3⟩,a4⟩
  cases e:F' b with
  | none=>rfl
  | some o =>
   rcases u.fr b o e with z | z | ⟨ys,z⟩
   ·rw [a1] at z;cases z
   ·rw [a2] at z;cases z
   ·subst z
    have w:=u.fh _ _ e
    rw [u.hh _ _ a2] at w
    cases w
    exact absurd rfl (a3 ys)
 dis:=d.dis
 ow:=d.ow
 dp:=fun i p e=>let ⟨v,e1,e2⟩:=d.dp i p e;⟨v,e1,e2.up u.ff (fun b o _ q=>u.hh b o q) fun b ys q=>u.hh b _ q⟩
theorem Own.up (h:Own K F H a p) (sf:aR F F') (sh:∀ o,H a=some o->H' a=some o):Own K F' H' a p:=by
 cases p with
 | lst l=>obtain ⟨xs,e,r⟩:=h;exact ⟨xs,sh _ e,r.up sf⟩
 | dk l=>obtain ⟨xs,e,r,q⟩:=h;exact ⟨xs,sh _ e,r,fun j x p a b=>(q j x p a b).up sf⟩
 | dt l=>obtain ⟨xs,e,r,q⟩:=h;exact ⟨xs,sh _ e,r,fun j x p a b=>(q j x p a b).up sf⟩
 | _=>exact h.elim
theorem Own.frozen (h:Own K F H a p) (hn:F a=none):∃ o,H a=some o∧Rep K (upd F a o) (.ref a) p:=by
 have s:∀ o,aR F (upd F a o):=fun o=>dH hn
 cases p with
 | lst l=>obtain ⟨xs,e,r⟩:=h;exact ⟨_,e,.lst (SqL.of aJ) r.1 (r.up (s _)).2⟩
 | dk l=>obtain ⟨xs,e,r,q⟩:=h;exact ⟨_,e,.dk (.inl aJ) r fun j x p a b=>(q j x p a b).up (s _)⟩
 | dt l=>obtain ⟨xs,e,r,q⟩:=h;exact ⟨_,e,.dt (.inl aJ) r fun j x p a b=>(q j x p a b).up (s _)⟩
 | _=>exact h.elim
theorem Own.lent (h:Own K F H a p) (s:aR F H):Rep K H (.ref a) p:=by
 cases p with
 | lst l=>obtain ⟨xs,e,r⟩:=h;exact .lst (SqL.of e) r.1 (r.up s).2
 | dk l=>obtain ⟨xs,e,r,q⟩:=h;exact .dk (.inl e) r fun j x p a b=>(q j x p a b).up s
 | dt l=>obtain ⟨xs,e,r,q⟩:=h;exact .dt (.inl e) r fun j x p a b=>(q j x p a b).up s
 | _=>exact h.elim
theorem RB.up (h:RB C F H) (u:Up F H F' H'):RB C F' H' where
 sub:=u.fh
 keep:=fun b o e n=>u.hh _ _ (h.keep b o e n)
 new:=fun b o e=>(u.fr b o e).elim (h.new b o) fun n=>.inr (n.imp (fun n=>by
  cases q:C.H0 b with
  | none=>rfl
  | some o' =>
   by_cases hi:C.io b
   ·exact absurd n (h.ios b hi).1
   ·rw [h.keep b o' q hi] at n;cases n) id)
 ios:=fun b hb=>⟨fun n=>(h.ios b hb).1 (u.hh.free n),(h.ios b hb).2⟩
theorem RB.tD (h:RB C F H) {b:Addr} (n:H b=none):C.H0 b=none:=by
 cases q:C.H0 b with
 | none=>rfl
 | some o' =>
  by_cases hi:C.io b
  ·exact absurd n (h.ios b hi).1
  ·rw [h.keep b o' q hi] at n;cases n
theorem RE.up (h:RE K C F H σ ρ) (u:Up F H F' H'):RE K C F' H' σ ρ where
 rb:=h.rb.up u
 len:=h.len
 sh:=fun i p e=>let ⟨v,e1,e2⟩:=h.sh i p e;⟨v,e1,e2.up u.ff⟩
 ow:=fun i p e=>by
  obtain ⟨a,e1,e2,e3,e4⟩:=h.ow i p e
  refine ⟨a,e1,e2.up u.ff fun o q=>u.hh _ _ q,?_,e4⟩
  cases q:F' a with
  | none=>rfl
  | some o =>
   obtain ⟨o',eo⟩:=e2.ne
   rcases u.fr a o q with z | z | ⟨ys,z⟩
   ·rw [e3] at z;cases z
   ·rw [eo] at z;cases z
   ·subst z
    exact absurd (u.fh _ _ q) (fun w=>by rw [u.hh _ _ eo] at w;cases w;exact e2.tu eo)
 dis:=h.dis
 dd:=let ⟨P,d⟩:=h.dd;⟨P,d.up u⟩
theorem get_set {α:Type}{l:List α}{i j:Nat}{x y:α} (h:(l.set i x)[j]?=some y):(i=j∧x=y)∨(i≠j∧l[j]?=some y):=by
 rw [List.getElem?_set] at h
 by_cases e:i=j
 ·subst e
  rw [if_pos rfl] at h
  split at h
  ·exact .inl ⟨rfl,Zaa h⟩
  ·cases h
 ·rw [if_neg e] at h
  exact .inr ⟨e,h⟩
theorem cG {α:Type}{l:List α}{j:Nat}{y:α} (h:l[j]?=some y):j < l.length:=(Zab.mp h).1
theorem RE.set (h:RE K C F H σ ρ) (i:Nat) (r:Rep K F v p):RE K C F H (σ.set i (some v)) (ρ.set i (some (.sh p))) where
 rb:=h.rb
 len:=by simp [h.len]
 sh:=fun j q e=>by
  rcases get_set e with ⟨e1,e2⟩ | ⟨e1,e2⟩
  ·subst e1
   cases e2
   have:=cG e
   exact ⟨v,by rw [ZaN (by rw [h.len];simpa using this)],r⟩
  ·obtain ⟨w,e3,e4⟩:=h.sh j q e2
   exact ⟨w,by rw [Zam e1];exact e3,e4⟩
 ow:=fun j q e=>by
  rcases get_set e with ⟨e1,e2⟩ | ⟨e1,e2⟩
  ·cases e2
  ·obtain ⟨w,e3,e4⟩:=h.ow j q e2
   exact ⟨w,by rw [Zam e1];exact e3,e4⟩
 dis:=fun j k q q' a e e' f f'=>by
  rcases get_set e with ⟨e1,e2⟩ | ⟨e1,e2⟩
  ·cases e2
  ·rcases get_set e' with ⟨e1',e2'⟩ | ⟨e1',e2'⟩
   ·cases e2'
   ·rw [Zam e1] at f
    rw [Zam e1'] at f'
    exact h.dis j k q q' a e2 e2' f f'
 dd:=let ⟨P,d⟩:=h.dd;⟨P,d.own,d.dis,fun j k q b z e f=>by
   rcases get_set e with ⟨e1,e2⟩ | ⟨e1,e2⟩
   ·cases e2
   ·rw [Zam e1] at f;exact d.ow j k q b z e2 f,fun j q e=>by
   rcases get_set e with ⟨e1,e2⟩ | ⟨e1,e2⟩
   ·cases e2
   ·obtain ⟨w,e3,e4⟩:=d.dp j q e2
    exact ⟨w,by rw [Zam e1];exact e3,e4⟩⟩
theorem RE.Uk (h:RE K C F H σ ρ) (i:Nat) (r:Own K F H a p) (hn:F a=none) (nw:C.nw) (h0:C.H0 a=none) (ha:∀ (j:Nat) q,ρ[j]?=some (some (.ow q))->j≠i->σ[j]?≠some (some (.ref a))) (hd:∃ P,RD K C F H σ ρ P∧∀ j,¬P j a) :
  RE K C F H (σ.set i (some (.ref a))) (ρ.set i (some (.ow p))) where
 rb:=h.rb
 len:=by simp [h.len]
 sh:=fun j q e=>by
  rcases get_set e with ⟨e1,e2⟩ | ⟨e1,e2⟩
  ·cases e2
  ·obtain ⟨w,e3,e4⟩:=h.sh j q e2
   exact ⟨w,by rw [Zam e1];exact e3,e4⟩
 ow:=fun j q e=>by
  rcases get_set e with ⟨e1,e2⟩ | ⟨e1,e2⟩
  ·subst e1
   cases e2
   have:=cG e
   exact ⟨a,by rw [ZaN (by rw [h.len];simpa using this)],r,hn,.inr ⟨nw,h0⟩⟩
  ·obtain ⟨w,e3,e4⟩:=h.ow j q e2
   exact ⟨w,by rw [Zam e1];exact e3,e4⟩
 dis:=fun j k q q' b e e' f f'=>by
  rcases get_set e with ⟨e1,e2⟩ | ⟨e1,e2⟩
  ·rcases get_set e' with ⟨e1',e2'⟩ | ⟨e1',e2'⟩
   ·exact e1.symm.trans e1'
   ·subst e1
    have:=cG e
    rw [ZaN (by rw [h.len];simpa using this)] at f
    cases f
    rw [Zam e1'] at f'
    exact absurd f' (ha k q' e2' (Za8 e1'))
  ·rcases get_set e' with ⟨e1',e2'⟩ | ⟨e1',e2'⟩
   ·subst e1'
    have:=cG e'
    rw [ZaN (by rw [h.len];simpa using this)] at f'
    cases f'
    rw [Zam e1] at f
    exact absurd f (ha j q e2 (Za8 e1))
   ·rw [Zam e1] at f
    rw [Zam e1'] at f'
    exact h.dis j k q q' b e2 e2' f f'
 dd:=let ⟨P,d,na⟩:=hd;⟨P,d.own,d.dis,fun j k q b z e f=>by
   rcases get_set e with ⟨e1,e2⟩ | ⟨e1,e2⟩
   ·subst e1
    have:=cG e
    rw [ZaN (by rw [h.len];simpa using this)] at f
    cases f
    exact na j z
   ·rw [Zam e1] at f;exact d.ow j k q b z e2 f,fun j q e=>by
   rcases get_set e with ⟨e1,e2⟩ | ⟨e1,e2⟩
   ·cases e2
   ·obtain ⟨w,e3,e4⟩:=d.dp j q e2
    exact ⟨w,by rw [Zam e1];exact e3,e4⟩⟩
theorem RE.QR (h:RE K C F H σ ρ) (n:H a=none) (u:Up F H F' H'):∃ P,RD K C F' H' σ ρ P∧∀ j,¬P j a:=by
 obtain ⟨P,d⟩:=h.dd
 exact ⟨P,d.up u,fun j z=>by obtain ⟨_,⟨o,e,_⟩,_⟩:=d.own j a z;rw [n] at e;cases e⟩
theorem RE.apart (h:RE K C F H σ ρ) (n:H a=none) (j:Nat) (q:PV) (e:ρ[j]?=some (some (.ow q))):σ[j]?≠some (some (.ref a)):=fun f=>by
 obtain ⟨b,e1,e2,_⟩:=h.ow j q e
 rw [e1] at f
 cases f
 obtain ⟨o,eo⟩:=e2.ne
 rw [eo] at n;cases n
theorem RE.write (h:RE K C F H σ ρ) {i:Nat}{o:HO}{p':PV} (e:ρ[i]?=some (some (.ow p))) (ea:σ[i]?=some (some (.ref a))) (r:Own K F (upd H a o) a p') :
  RE K C F (upd H a o) σ (ρ.set i (some (.ow p'))):=by
 obtain ⟨a',e1,e2,e3,e4⟩:=h.ow i p e
 rw [ea] at e1
 cases e1
 have ne:∀ b u,F b=some u->b≠a:=fun b u q z=>by rw [z,e3] at q;cases q
 refine ⟨⟨fun b u q=>by rw [aG (ne b u q)];exact h.rb.sub b u q,fun b u q n=>?_,h.rb.new,fun b hb=>⟨?_,(h.rb.ios b hb).2⟩⟩,by simp [h.len],fun j q f=>?_,fun j q f=>?_,fun j k q q' b f f' g g'=>?_,?_⟩
 ·have:b≠a:=fun z=>by
   subst z
   rcases e4 with z | z
   ·exact n z
   ·rw [z.2] at q;cases q
  rw [aG this];exact h.rb.keep b u q n
 ·by_cases hba:b=a
  ·subst hba;rw [aJ];simp
  ·rw [aG hba];exact (h.rb.ios b hb).1
 ·rcases get_set f with ⟨e1,f2⟩ | ⟨e1,f2⟩
  ·cases f2
  ·exact h.sh j q f2
 ·rcases get_set f with ⟨e1,f2⟩ | ⟨e1,f2⟩
  ·subst e1
   cases f2
   exact ⟨a,ea,r,e3,e4⟩
  ·obtain ⟨b,g1,g2,g3,g4⟩:=h.ow j q f2
   refine ⟨b,g1,g2.up (aR.refl _) fun u qq=>?_,g3,g4⟩
   have:b≠a:=fun z=>by subst z;exact e1 (h.dis i j p q b e f2 ea g1)
   rw [aG this];exact qq
 ·have key:∀ (j:Nat) q,(ρ.set i (some (Sl.ow p')))[j]?=some (some (.ow q))->∃ q0,ρ[j]?=some (some (.ow q0)):=fun j q f=>by
   rcases get_set f with ⟨e1,f2⟩ | ⟨e1,f2⟩
   ·subst e1;exact ⟨p,e⟩
   ·exact ⟨q,f2⟩
  obtain ⟨q0,k0⟩:=key j q f
  obtain ⟨q1,k1⟩:=key k q' f'
  exact h.dis j k q0 q1 b k0 k1 g g'
 ·obtain ⟨P,d⟩:=h.dd
  have na:∀ j b,P j b->b≠a:=fun j b z e'=>by subst e';exact d.ow j i p b z e ea
  refine ⟨P,fun j b z=>?_,d.dis,fun j k q b z f g=>?_,fun j q f=>?_⟩
  ·rw [aG (na j b z)];exact d.own j b z
  ·rcases get_set f with ⟨f1,f2⟩ | ⟨f1,f2⟩
   ·subst f1;exact d.ow j i p b z e g
   ·exact d.ow j k q b z f2 g
  ·rcases get_set f with ⟨f1,f2⟩ | ⟨f1,f2⟩
   ·cases f2
   ·obtain ⟨w,e3,e5⟩:=d.dp j q f2
    exact ⟨w,e3,e5.up (aR.refl _) (fun b o z q=>by rw [aG (na j b z)];exact q) fun b ys q=>by rw [aG fun z=>by subst z;exact e2.tu q];exact q⟩
end
structure Cg extends Cf where
 XR:Hp->Value->Option Addr->PV->Prop
noncomputable def PX (C:Cg) (F:Hp) (z:PV):Prop:=∀ e d F' H',aR F F'->RB C.toCf F' H'->C.XR F' e d z->C.E e d H'
noncomputable def Pr {α:Type} (C:Cg) (F:Hp) (ok:α->Prop):Res α->Prop
 | .ok a=>ok a
 | .ex z=>PX C F z
noncomputable abbrev Rel (α:Type):=Hp->Hp->V->α->Prop
noncomputable def aF (K:PySem.W.Frag):Rel PV:=fun F _ v p=>Rep K F v p
noncomputable def aH (K:PySem.W.Frag):Rel PV:=fun _ H v p=>Rep K H v p
noncomputable def aV (K:PySem.W.Frag):Rel (List PV):=fun F H v l=>∃ a xs,v=.ref a∧SqL K H a xs∧bA K F xs l
noncomputable def UpM {α:Type} (A:Rel α):Prop:=∀ F H F' H' v a,Up F H F' H'->A F H v a->A F' H' v a
theorem aF.up {K:PySem.W.Frag}:UpM (aF K):=fun _ _ _ _ _ _ u h=>Rep.up h u.ff
theorem aH.up {K:PySem.W.Frag}:UpM (aH K):=fun _ _ _ _ _ _ u h=>Rep.up h u.hh
theorem aV.up {K:PySem.W.Frag}:UpM (aV K):=fun _ _ _ _ _ _ u h=>let ⟨a,xs,e,s,r⟩:=h;⟨a,xs,e,u.hh.seq s,r.up u.ff⟩
noncomputable abbrev Fn (α:Type):=Rho->Option (Res α)
noncomputable def MJ {α:Type} (K:PySem.W.Frag) (C:Cg) (A:Rel α) (te:TE) (f:Fn α):Prop :=
 ∀ F H σ ρ Q r,RE K C.toCf F H σ ρ->f ρ=some r->Pr C F (fun a=>∀ v F' H',Up F H F' H'->A F' H' v a->Q v H') r->te σ H Q
noncomputable def MT (K:PySem.W.Frag) (C:Cg) (tt:TT) (f:Fn Bool):Prop :=
 ∀ F H σ ρ Q r,RE K C.toCf F H σ ρ->f ρ=some r->Pr C F (fun b=>∀ F' H',Up F H F' H'->Q b H') r->tt σ H Q
noncomputable def MA (K:PySem.W.Frag) (C:Cg) (ta:TA) (f:Fn (List PV)):Prop :=
 ∀ F H σ ρ Q r,RE K C.toCf F H σ ρ->f ρ=some r->Pr C F (fun l=>∀ xs F' H',Up F H F' H'->bA K F' xs l->Q xs H') r->ta σ H Q
noncomputable def MAL (K:PySem.W.Frag) (C:Cg) (ta:TA) (f:Fn (List PV)):Prop :=
 ∀ F H σ ρ Q r,RE K C.toCf F H σ ρ->f ρ=some r->Pr C F (fun l=>∀ xs F' H',Up F H F' H'->bA K H' xs l->Q xs H') r->ta σ H Q
noncomputable def MO (K:PySem.W.Frag) (C:Cg) (te:TE) (f:Fn PV):Prop :=
 ∀ F H σ ρ Q r,RE K C.toCf F H σ ρ->f ρ=some r->Pr C F (fun p=>∀ a F' H',Up F H F' H'->H a=none->F' a=none->Own K F' H' a p->Q (.ref a) H') r->te σ H Q
theorem bQ {α β:Type}{x:Option (Res α)}{k:α->Option (Res β)}{r:Res β} (h:bnd x k=some r):(∃ z,x=some (.ex z)∧r=.ex z)∨∃ a,x=some (.ok a)∧k a=some r:=by
 match x,h with
 | some (.ok a),h=>exact .inr ⟨a,rfl,h⟩
 | some (.ex z),h=>exact .inl ⟨z,rfl,(Zaa h).symm⟩
theorem PX.up {C:Cg}{F F1:Hp}{z:PV} (h:PX C F z) (s:aR F F1):PX C F1 z:=fun e d F' H' a b c=>h e d F' H' (s.trans a) b c
theorem Pr.mono {α:Type}{C:Cg}{F F1:Hp}{ok ok':α->Prop}{r:Res α} (h:Pr C F ok r) (s:aR F F1) (k:∀ a,ok a->ok' a):Pr C F1 ok' r:=by
 cases r with
 | ok a=>exact k a h
 | ex z=>exact PX.up h s
section
variable {K:PySem.W.Frag}{C:Cg}{α β γ:Type}{A:Rel α}{B:Rel β}{D:Rel γ}{ta tb te:TE}{f:Fn α}{g:Fn β}{F H:Hp}{σ:St}{ρ:Rho}{Q:VK}
theorem MJ.run {ok:β->Prop}{k:α->Option (Res β)}{r:Res β} (h:MJ K C A ta f) (R:RE K C.toCf F H σ ρ) (hb:bnd (f ρ) k=some r) (P:Pr C F ok r)
  (go:∀ p v F1 H1,k p=some r->Up F H F1 H1->A F1 H1 v p->Q v H1):ta σ H Q:=by
 rcases bQ hb with ⟨z,e,rfl⟩ | ⟨p,e,hk⟩
 ·exact h F H σ ρ Q _ R e P
 ·exact h F H σ ρ Q _ R e fun v F1 H1 u a=>go p v F1 H1 hk u a
theorem MT.run {tt:TT}{f:Fn Bool}{Q:Bool->Hp->Prop}{ok:β->Prop}{k:Bool->Option (Res β)}{r:Res β} (h:MT K C tt f) (R:RE K C.toCf F H σ ρ) (hb:bnd (f ρ) k=some r) (P:Pr C F ok r)
  (go:∀ b F1 H1,k b=some r->Up F H F1 H1->Q b H1):tt σ H Q:=by
 rcases bQ hb with ⟨z,e,rfl⟩ | ⟨p,e,hk⟩
 ·exact h F H σ ρ Q _ R e P
 ·exact h F H σ ρ Q _ R e fun F1 H1 u=>go p F1 H1 hk u
theorem MA.run {t:TA}{f:Fn (List PV)}{Q:List V->Hp->Prop}{ok:β->Prop}{k:List PV->Option (Res β)}{r:Res β} (h:MA K C t f) (R:RE K C.toCf F H σ ρ) (hb:bnd (f ρ) k=some r) (P:Pr C F ok r)
  (go:∀ l xs F1 H1,k l=some r->Up F H F1 H1->bA K F1 xs l->Q xs H1):t σ H Q:=by
 rcases bQ hb with ⟨z,e,rfl⟩ | ⟨p,e,hk⟩
 ·exact h F H σ ρ Q _ R e P
 ·exact h F H σ ρ Q _ R e fun xs F1 H1 u a=>go p xs F1 H1 hk u a
theorem MAL.run {t:TA}{f:Fn (List PV)}{Q:List V->Hp->Prop}{ok:β->Prop}{k:List PV->Option (Res β)}{r:Res β} (h:MAL K C t f) (R:RE K C.toCf F H σ ρ) (hb:bnd (f ρ) k=some r) (P:Pr C F ok r)
  (go:∀ l xs F1 H1,k l=some r->Up F H F1 H1->bA K H1 xs l->Q xs H1):t σ H Q:=by
 rcases bQ hb with ⟨z,e,rfl⟩ | ⟨p,e,hk⟩
 ·exact h F H σ ρ Q _ R e P
 ·exact h F H σ ρ Q _ R e fun xs F1 H1 u a=>go p xs F1 H1 hk u a
theorem Pr.later {D:Rel γ}{r:Res γ}{F1 H1:Hp} (P:Pr C F (fun a=>∀ v F' H',Up F H F' H'->D F' H' v a->Q v H') r) (u:Up F H F1 H1):Pr C F1 (fun a=>∀ v F' H',Up F1 H1 F' H'->D F' H' v a->Q v H') r :=
 P.mono u.ff fun _ h v F' H' u' d=>h v F' H' (u.trans u') d
theorem Pr.QT {Q:Bool->Hp->Prop}{r:Res Bool}{F1 H1:Hp} (P:Pr C F (fun b=>∀ F' H',Up F H F' H'->Q b H') r) (u:Up F H F1 H1):Pr C F1 (fun b=>∀ F' H',Up F1 H1 F' H'->Q b H') r :=
 P.mono u.ff fun _ h F' H' u'=>h F' H' (u.trans u')
theorem Pr.uO {r:Res PV}{F1 H1:Hp} (P:Pr C F (fun p=>∀ a F' H',Up F H F' H'->H a=none->F' a=none->Own K F' H' a p->Q (.ref a) H') r) (u:Up F H F1 H1) :
  Pr C F1 (fun p=>∀ a F' H',Up F1 H1 F' H'->H1 a=none->F' a=none->Own K F' H' a p->Q (.ref a) H') r :=
 P.mono u.ff fun _ h a F' H' u' n1 n2 d=>h a F' H' (u.trans u') (u.hh.free n1) n2 d
theorem Pr.QV {Q:List V->Hp->Prop}{r:Res (List PV)}{F1 H1:Hp} (P:Pr C F (fun l=>∀ xs F' H',Up F H F' H'->bA K F' xs l->Q xs H') r) (u:Up F H F1 H1):Pr C F1 (fun l=>∀ xs F' H',Up F1 H1 F' H'->bA K F' xs l->Q xs H') r :=
 P.mono u.ff fun _ h xs F' H' u' d=>h xs F' H' (u.trans u') d
theorem Pr.QW {Q:List V->Hp->Prop}{r:Res (List PV)}{F1 H1:Hp} (P:Pr C F (fun l=>∀ xs F' H',Up F H F' H'->bA K H' xs l->Q xs H') r) (u:Up F H F1 H1):Pr C F1 (fun l=>∀ xs F' H',Up F1 H1 F' H'->bA K H' xs l->Q xs H') r :=
 P.mono u.ff fun _ h xs F' H' u' d=>h xs F' H' (u.trans u') d
noncomputable def mV (i:Nat):Fn PV:=fun ρ=>match ρ[i]? with
 | some (some (.sh p))=>some (.ok p)
 | _=>none
theorem aj (i:Nat):MJ K C (aF K) (lD i) (mV i):=by
 intro F H σ ρ Q r R e P
 unfold mV at e
 split at e
 ·rename_i p hp
  cases e
  obtain ⟨v,e1,e2⟩:=R.sh i p hp
  exact ⟨v,e1,P v F H (Up.refl R.rb.sub) e2⟩
 ·cases e
noncomputable def mVL (i:Nat):Fn PV:=fun ρ=>match ρ[i]? with
 | some (some (.sh p))=>some (.ok p)
 | some (some (.ow p))=>some (.ok p)
 | _=>none
theorem di (i:Nat):MJ K C (aH K) (lD i) (mVL i):=by
 intro F H σ ρ Q r R e P
 unfold mVL at e
 split at e
 ·rename_i p hp
  cases e
  obtain ⟨v,e1,e2⟩:=R.sh i p hp
  exact ⟨v,e1,P v F H (Up.refl R.rb.sub) (e2.up R.rb.sub)⟩
 ·rename_i p hp
  cases e
  obtain ⟨a,e1,e2,e3,_⟩:=R.ow i p hp
  exact ⟨_,e1,P _ F H (Up.refl R.rb.sub) (e2.lent R.rb.sub)⟩
 ·cases e
noncomputable def tE:PV->Option (Res (List PV))
 | .lst l=>some (.ok l)
 | _=>none
theorem yI {f:Fn PV} (h:MJ K C (aF K) ta f):MJ K C (aV K) ta (fun ρ=>bnd (f ρ) tE):=by
 intro F H σ ρ Q r R e P
 refine h.run R e P fun p v F1 H1 hk u a=>?_
 match p,hk with
 | .lst l,hk =>
  cases hk
  obtain ⟨b,xs,rfl,s,rr⟩:=Rep.bY a
  exact P _ F1 H1 u ⟨b,xs,rfl,u.fh.seq s,rr⟩
theorem qF (i:Nat):MJ K C (aV K) (lD i) (fun ρ=>bnd (mVL i ρ) tE):=by
 intro F H σ ρ Q r R e P
 rcases bQ e with ⟨z,e1,rfl⟩ | ⟨p,e1,hk⟩
 ·unfold mVL at e1
  split at e1 <;> cases e1
 ·unfold mVL at e1
  match p,hk with
  | .lst l,hk =>
   cases hk
   split at e1
   ·rename_i q hq
    cases e1
    obtain ⟨v,e2,e3⟩:=R.sh i _ hq
    obtain ⟨b,xs,rfl,s,rr⟩:=Rep.bY e3
    exact ⟨_,e2,P _ F H (Up.refl R.rb.sub) ⟨b,xs,rfl,R.rb.sub.seq s,rr⟩⟩
   ·rename_i q hq
    cases e1
    obtain ⟨a,e2,⟨xs,e3,rr⟩,_⟩:=R.ow i _ hq
    exact ⟨_,e2,P _ F H (Up.refl R.rb.sub) ⟨a,xs,rfl,SqL.of e3,rr⟩⟩
   ·cases e1
theorem cP {f:Fn PV} (h:MJ K C (aF K) ta f):MJ K C (aH K) ta f:=by
 intro F H σ ρ Q r R e P
 refine h F H σ ρ Q r R e ?_
 exact P.mono (aR.refl _) fun _ k v F' H' u d=>k v F' H' u (Rep.up d u.fh)
noncomputable def mC (p:PV):Fn PV:=fun _=>some (.ok p)
theorem M5 {v:V}{p:PV} (h:∀ F,Rep K F v p):MJ K C (aF K) (tC v) (mC p):=by
 intro F H σ ρ Q r R e P
 cases e
 exact P v F H (Up.refl R.rb.sub) (h F)
theorem au {i:Int}:MJ K C (aF K) (tC (.int i)) (mC (.int i)):=M5 fun _=>.int
theorem Pz {i:Bool}:MJ K C (aF K) (tC (.bl i)) (mC (.bl i)):=M5 fun _=>.bl
theorem uP {i:Str}:MJ K C (aF K) (tC (.str i)) (mC (.str i)):=M5 fun _=>.str
theorem JG:MJ K C (aF K) (tC .non) (mC .non):=M5 fun _=>.non
theorem cY {f:Fn PV} (h:MO K C ta f):MJ K C (aF K) ta f:=by
 intro F H σ ρ Q r R e P
 refine h F H σ ρ Q r R e (P.mono (aR.refl _) fun p k a F' H' u n1 n2 o=>?_)
 obtain ⟨ob,eo,rr⟩:=o.frozen n2
 refine k _ (upd F' a ob) H' ⟨u.ff.trans (dH n2),u.hh,fun b x q=>?_,fun b x q=>?_⟩ rr
 ·by_cases hb:b=a
  ·subst hb;exact .inr (.inl n1)
  ·rw [aG hb] at q;exact u.fr b x q
 ·by_cases hb:b=a
  ·subst hb;rw [aJ] at q;cases q;exact eo
  ·rw [aG hb] at q;exact u.fh b x q
theorem ou {f:Fn PV} (h:MO K C ta f):MJ K C (aV K) ta (fun ρ=>bnd (f ρ) tE):=yI (cY h)
noncomputable def m2 {α β γ:Type} (op:α->β->Option (Res γ)) (f:Fn α) (g:Fn β):Fn γ:=fun ρ=>bnd (f ρ) fun a=>bnd (g ρ) fun b=>op a b
noncomputable def R2M (C:Cg) (A:Rel α) (B:Rel β) (D:Rel γ) (r:R2) (op:α->β->Option (Res γ)):Prop :=
 ∀ F H x y a b res Q,aR F H->A F H x a->B F H y b->op a b=some res->Pr C F (fun c=>∀ v F' H',Up F H F' H'->D F' H' v c->Q v H') res->r x y H Q
theorem aA {op:α->β->Option (Res γ)}{r2:R2} (up:UpM A) (rule:R2M C A B D r2 op) (ha:MJ K C A ta f) (hb:MJ K C B tb g):MJ K C D (tOp r2 ta tb) (m2 op f g):=by
 intro F H σ ρ Q r R e P
 refine ha.run R e P fun p v F1 H1 hk u a=>?_
 refine hb.run (R.up u) hk (P.later u) fun q w F2 H2 hk2 u2 b=>?_
 exact rule F2 H2 v w p q r Q u2.fh (up _ _ _ _ _ _ u2 a) b hk2 (P.later (u.trans u2))
noncomputable def R2O (K:PySem.W.Frag) (C:Cg) (A:Rel α) (B:Rel β) (r:R2) (op:α->β->Option (Res PV)):Prop :=
 ∀ F H x y a b res Q,aR F H->A F H x a->B F H y b->op a b=some res->Pr C F (fun p=>∀ a F' H',Up F H F' H'->H a=none->F' a=none->Own K F' H' a p->Q (.ref a) H') res->r x y H Q
theorem JH {op:α->β->Option (Res PV)}{r2:R2} (up:UpM A) (rule:R2O K C A B r2 op) (ha:MJ K C A ta f) (hb:MJ K C B tb g):MO K C (tOp r2 ta tb) (m2 op f g):=by
 intro F H σ ρ Q r R e P
 refine ha.run R e P fun p v F1 H1 hk u a=>?_
 refine hb.run (R.up u) hk (P.uO u) fun q w F2 H2 hk2 u2 b=>?_
 exact rule F2 H2 v w p q r Q u2.fh (up _ _ _ _ _ _ u2 a) b hk2 (P.uO (u.trans u2))
noncomputable def m1 {α γ:Type} (op:α->Option (Res γ)) (f:Fn α):Fn γ:=fun ρ=>bnd (f ρ) op
noncomputable def fW:PV->Option (Res Bool)
 | .bl b=>some (.ok b)
 | _=>none
theorem bN {f:Fn PV} (ha:MJ K C (aF K) ta f):MT K C (Pg ta) (m1 fW f):=by
 intro F H σ ρ Q r R e P
 refine ha.run R e P fun p v F1 H1 hk u a=>?_
 match p,hk with
 | .bl b,hk =>
  cases Rep.m6 a
  cases hk
  exact ⟨b,rfl,P F1 H1 u⟩
theorem JK {f:Fn PV} (ha:MJ K C (aF K) ta f):MT K C (tB ta) (m1 fW f):=bN ha
noncomputable def mOr (f g:Fn Bool):Fn Bool:=fun ρ=>bnd (f ρ) fun a=>if a=true then some (.ok true) else g ρ
variable {c d:TT}{fc gc:Fn Bool}
theorem SX (ha:MT K C c fc) (hb:MT K C d gc):MT K C (tOr c d) (mOr fc gc):=by
 intro F H σ ρ Q r R e P
 refine ha.run R e P fun b F1 H1 hk u=>?_
 cases b with
 | true=>rw [if_pos rfl] at hk ⊢;cases hk;exact P F1 H1 u
 | false=>rw [if_neg (by decide)] at hk ⊢;exact hb F1 H1 σ ρ Q r (R.up u) hk (P.QT u)
noncomputable def mIf {γ:Type} (f:Fn Bool) (g h:Fn γ):Fn γ:=fun ρ=>bnd (f ρ) fun a=>if a=true then g ρ else h ρ
theorem PB {f g:Fn γ} (hc:MT K C c fc) (ha:MJ K C D ta f) (hb:MJ K C D tb g):MJ K C D (tIf c ta tb) (mIf fc f g):=by
 intro F H σ ρ Q r R e P
 refine hc.run R e P fun b F1 H1 hk u=>?_
 cases b with
 | true=>rw [if_pos rfl] at hk ⊢;exact ha F1 H1 σ ρ Q r (R.up u) hk (P.later u)
 | false=>rw [if_neg (by decide)] at hk ⊢;exact hb F1 H1 σ ρ Q r (R.up u) hk (P.later u)
noncomputable def bw:Fn (List PV):=fun _=>some (.ok [])
noncomputable def aB (f:Fn PV) (g:Fn (List PV)):Fn (List PV):=fun ρ=>bnd (f ρ) fun a=>bnd (g ρ) fun l=>some (.ok (a::l))
theorem aQ:MA K C yw bw:=fun F H σ ρ Q r R e P=>by
 cases e
 exact P [] F H (Up.refl R.rb.sub) .nil
theorem ao {f:Fn PV}{g:Fn (List PV)}{t:TA} (ha:MJ K C (aF K) ta f) (hb:MA K C t g):MA K C (mX ta t) (aB f g):=by
 intro F H σ ρ Q r R e P
 refine ha.run R e P fun p v F1 H1 hk u a=>?_
 refine hb.run (R.up u) hk (P.QV u) fun l xs F2 H2 hk2 u2 b=>?_
 cases hk2
 exact P _ F2 H2 (u.trans u2) (b.cons (Rep.up a u2.ff))
theorem M6:MAL K C yw bw:=fun F H σ ρ Q r R e P=>by
 cases e
 exact P [] F H (Up.refl R.rb.sub) .nil
theorem uQ {f:Fn PV}{g:Fn (List PV)}{t:TA} (ha:MJ K C (aH K) ta f) (hb:MAL K C t g):MAL K C (mX ta t) (aB f g):=by
 intro F H σ ρ Q r R e P
 refine ha.run R e P fun p v F1 H1 hk u a=>?_
 refine hb.run (R.up u) hk (P.QW u) fun l xs F2 H2 hk2 u2 b=>?_
 cases hk2
 exact P _ F2 H2 (u.trans u2) (b.cons (Rep.up a u2.hh))
theorem Up.Eb {F H:Hp}{a:Addr}{o:HO} (s:aR F H) (h:H a=none):Up F H F (upd H a o):=⟨aR.refl _,dH h,fun _ _ q=>.inl q,s.trans (dH h)⟩
theorem Up.new {F H:Hp}{a:Addr}{o:HO} (s:aR F H) (h:H a=none):Up F H (upd F a o) (upd H a o):=by
 have hf:F a=none:=s.free h
 refine ⟨dH hf,dH h,fun b u q=>?_,fun b u q=>?_⟩
 ·by_cases hb:b=a
  ·subst hb;exact .inr (.inl h)
  ·rw [aG hb] at q;exact .inl q
 ·by_cases hb:b=a
  ·subst hb;rw [aJ] at q ⊢;exact q
  ·rw [aG hb] at q ⊢;exact s b u q
noncomputable def oU (f:Fn (List PV)):Fn PV:=fun ρ=>bnd (f ρ) fun l=>if l.length≤sizeLine then some (.ok (.tup l)) else none
noncomputable def Ax (f:Fn (List PV)):Fn PV:=fun ρ=>bnd (f ρ) fun l=>if l.length≤sizeLine then some (.ok (.lst l)) else none
theorem gU {t:TA}{f:Fn (List PV)} (h:MA K C t f):MJ K C (aF K) (QF t) (oU f):=by
 intro F H σ ρ Q r R e P
 refine h.run R e P fun l xs F1 H1 hk u a=>?_
 split at hk
 ·rename_i hl
  cases hk
  refine ⟨by rw [a.1];exact hl,fun p hp=>?_⟩
  have un:=Up.new (o:=.tup xs) u.fh hp
  exact P _ _ _ (u.trans un) (.tup aJ a.1 (a.up un.ff).2)
 ·cases hk
theorem uR {t:TA}{f:Fn (List PV)} (h:MA K C t f):MO K C (QG t) (Ax f):=by
 intro F H σ ρ Q r R e P
 refine h.run R e P fun l xs F1 H1 hk u a=>?_
 split at hk
 ·rename_i hl
  cases hk
  refine ⟨by rw [a.1];exact hl,fun p hp=>?_⟩
  exact P _ _ _ (u.trans (Up.Eb u.fh hp)) (u.hh.free hp) (u.fh.free hp) ⟨xs,aJ,a⟩
 ·cases hk
noncomputable def spM (K:PySem.W.Frag) (XR:Hp->Value->Option Addr->PV->Prop) (m:List PV->Option (Res PV)):Sp:=fun vs H Q E=>∃ ps F r,aR F H∧bA K F vs ps∧m ps=some r∧match r with
 | .ok p=>∀ v F' H',Up F H F' H'->Rep K F' v p->Q v H'
 | .ex z=>∀ e d F' H',Up F H F' H'->XR F' e d z->E e d H'
noncomputable def spO (K:PySem.W.Frag) (XR:Hp->Value->Option Addr->PV->Prop) (m:List PV->Option (Res PV)):Sp:=fun vs H Q E=>∃ ps F r,aR F H∧bA K F vs ps∧m ps=some r∧match r with
 | .ok p=>∀ a F' H',Up F H F' H'->H a=none->F' a=none->Own K F' H' a p->Q (.ref a) H'
 | .ex z=>∀ e d F' H',Up F H F' H'->XR F' e d z->E e d H'
noncomputable def bJ (m:List PV->Option (Res PV)) (f:Fn (List PV)):Fn PV:=fun ρ=>bnd (f ρ) m
theorem bG {t:TA}{f:Fn (List PV)}{m:List PV->Option (Res PV)} (h:MA K C t f):MJ K C (aF K) (uI (spM K C.XR m) [] C.E t) (bJ m f):=by
 intro F H σ ρ Q r R e P
 refine h.run R e P fun l xs F1 H1 hk u a=>?_
 refine ⟨l,F1,r,u.fh,by rw [Za4];exact a,hk,?_⟩
 cases r with
 | ok p=>exact fun v F' H' u' rv=>P v F' H' (u.trans u') rv
 | ex z=>exact fun e d F' H' u' x=>P e d F' H' (u.trans u').ff (R.rb.up (u.trans u')) x
theorem fQ {t:TA}{f:Fn (List PV)}{m:List PV->Option (Res PV)} (h:MA K C t f):MO K C (uI (spO K C.XR m) [] C.E t) (bJ m f):=by
 intro F H σ ρ Q r R e P
 refine h.run R e P fun l xs F1 H1 hk u a=>?_
 refine ⟨l,F1,r,u.fh,by rw [Za4];exact a,hk,?_⟩
 cases r with
 | ok p=>exact fun v F' H' u' n1 n2 rv=>P v F' H' (u.trans u') (u.hh.free n1) n2 rv
 | ex z=>exact fun e d F' H' u' x=>P e d F' H' (u.trans u').ff (R.rb.up (u.trans u')) x
end
inductive Out where
 | nx (ρ:Rho) | rt (p:PV) | ro (p:PV) | rd (p:PV) | bk (ρ:Rho) | ct (ρ:Rho) | ex (z:PV)
noncomputable abbrev Sn:=Rho->Option Out
noncomputable def PO' (K:PySem.W.Frag) (C:Cg) (F:Hp) (D:Ends):Out->Prop
 | .nx ρ=>∀ F' H' σ,aR F F'->RE K C.toCf F' H' σ ρ->D.nx σ H'
 | .bk ρ=>∀ F' H' σ,aR F F'->RE K C.toCf F' H' σ ρ->D.bk σ H'
 | .ct ρ=>∀ F' H' σ,aR F F'->RE K C.toCf F' H' σ ρ->D.ct σ H'
 | .rt p=>∀ v F' H',aR F F'->RB C.toCf F' H'->Rep K F' v p->D.rt v H'
 | .ro p=>∀ a F' H',aR F F'->RB C.toCf F' H'->Own K F' H' a p->F' a=none->C.H0 a=none->D.rt (.ref a) H'
 | .rd p=>∀ v F' H' S,aR F F'->RB C.toCf F' H'->Dp K F' H' S v p->(∀ b,S b->F' b=none∧(∃ o,H' b=some o∧∀ ys,o≠.tup ys)∧C.H0 b=none)->D.rt v H'
 | .ex z=>PX C F z
noncomputable def MS (K:PySem.W.Frag) (C:Cg) (t:TS) (f:Sn):Prop:=∀ F H σ ρ D o,RE K C.toCf F H σ ρ->f ρ=some o->PO' K C F D o->t D σ H
noncomputable def gW {α:Type} (x:Option (Res α)) (k:α->Option Out):Option Out:=match x with
 | some (.ok a)=>k a
 | some (.ex z)=>some (.ex z)
 | none=>none
theorem M7 {α:Type}{a:α}{k:α->Option Out}:gW (some (.ok a)) k=k a:=rfl
theorem cL {α:Type}{x:Option (Res α)}{k:α->Option Out}{o:Out} (h:gW x k=some o):(∃ z,x=some (.ex z)∧o=.ex z)∨∃ a,x=some (.ok a)∧k a=some o:=by
 match x,h with
 | some (.ok a),h=>exact .inr ⟨a,rfl,h⟩
 | some (.ex z),h=>exact .inl ⟨z,rfl,(Zaa h).symm⟩
section
variable {K:PySem.W.Frag}{C:Cg}{α β γ:Type}{A:Rel α}{ta tb te:TE}{F H:Hp}{σ:St}{ρ:Rho}{D:Ends}{t u:TS}{f g:Sn}{o:Out}
theorem PO'.up {F1:Hp} (h:PO' K C F D o) (s:aR F F1):PO' K C F1 D o:=by
 cases o with
 | nx ρ=>exact fun F' H' σ a=>h F' H' σ (s.trans a)
 | bk ρ=>exact fun F' H' σ a=>h F' H' σ (s.trans a)
 | ct ρ=>exact fun F' H' σ a=>h F' H' σ (s.trans a)
 | rt p=>exact fun v F' H' a=>h v F' H' (s.trans a)
 | ro p=>exact fun v F' H' a=>h v F' H' (s.trans a)
 | rd p=>exact fun v F' H' S a=>h v F' H' S (s.trans a)
 | ex z=>exact PX.up h s
theorem MJ.uT {fe:Fn α}{Q:VK}{k:α->Option Out} (h:MJ K C A ta fe) (R:RE K C.toCf F H σ ρ) (hb:gW (fe ρ) k=some o) (P:PO' K C F D o)
  (go:∀ p v F1 H1,k p=some o->Up F H F1 H1->A F1 H1 v p->Q v H1):ta σ H Q:=by
 rcases cL hb with ⟨z,e,rfl⟩ | ⟨p,e,hk⟩
 ·exact h F H σ ρ Q _ R e P
 ·exact h F H σ ρ Q _ R e fun v F1 H1 u a=>go p v F1 H1 hk u a
theorem MO.uT {fe:Fn PV}{Q:VK}{k:PV->Option Out} (h:MO K C ta fe) (R:RE K C.toCf F H σ ρ) (hb:gW (fe ρ) k=some o) (P:PO' K C F D o)
  (go:∀ p a F1 H1,k p=some o->Up F H F1 H1->H a=none->F1 a=none->Own K F1 H1 a p->Q (.ref a) H1):ta σ H Q:=by
 rcases cL hb with ⟨z,e,rfl⟩ | ⟨p,e,hk⟩
 ·exact h F H σ ρ Q _ R e P
 ·exact h F H σ ρ Q _ R e fun a F1 H1 u n1 n2 w=>go p a F1 H1 hk u n1 n2 w
theorem MT.uT {tt:TT}{fe:Fn Bool}{Q:Bool->Hp->Prop}{k:Bool->Option Out} (h:MT K C tt fe) (R:RE K C.toCf F H σ ρ) (hb:gW (fe ρ) k=some o) (P:PO' K C F D o)
  (go:∀ b F1 H1,k b=some o->Up F H F1 H1->Q b H1):tt σ H Q:=by
 rcases cL hb with ⟨z,e,rfl⟩ | ⟨p,e,hk⟩
 ·exact h F H σ ρ Q _ R e P
 ·exact h F H σ ρ Q _ R e fun F1 H1 u=>go p F1 H1 hk u
noncomputable def gh:Sn:=fun ρ=>some (.nx ρ)
noncomputable def bf (f g:Sn):Sn:=fun ρ=>match f ρ with
 | some (.nx ρ')=>g ρ'
 | x=>x
theorem dq:MS K C O6 gh:=fun F H σ ρ D o R e P=>by
 cases e
 exact P F H σ (aR.refl _) R
theorem aP (h1:MS K C t f) (h2:MS K C u g):MS K C (Qq t u) (bf f g):=by
 intro F H σ ρ D o R e P
 unfold bf at e
 split at e
 ·rename_i ρ' h
  refine h1 F H σ ρ _ _ R h ?_
  exact fun F' H' σ' s R'=>h2 F' H' σ' ρ' D o R' e (P.up s)
 ·rename_i x hx
  cases o with
  | nx ρ'=>exact absurd e (hx ρ')
  | bk ρ=>exact h1 F H σ _ _ _ R e P
  | ct ρ=>exact h1 F H σ _ _ _ R e P
  | rt p=>exact h1 F H σ _ _ _ R e P
  | ro p=>exact h1 F H σ _ _ _ R e P
  | rd p=>exact h1 F H σ _ _ _ R e P
  | ex z=>exact h1 F H σ _ _ _ R e P
noncomputable def JL:Sn:=fun ρ=>some (.ct ρ)
theorem M8:MS K C O7 JL:=fun F H σ ρ D o R e P=>by
 cases e
 exact P F H σ (aR.refl _) R
noncomputable def MG (K:PySem.W.Frag) (C:Cg) (g:TG) (tg:PV->Rho->Option Rho):Prop :=
 ∀ F H σ ρ v p ρ' Q,RE K C.toCf F H σ ρ->Rep K F v p->tg p ρ=some ρ'->(∀ σ',RE K C.toCf F H σ' ρ'->Q σ' H)->g v σ H Q
noncomputable def MGs (K:PySem.W.Frag) (C:Cg) (g:TGs) (tg:List PV->Rho->Option Rho):Prop :=
 ∀ F H σ ρ vs ps ρ' Q,RE K C.toCf F H σ ρ->bA K F vs ps->tg ps ρ=some ρ'->(∀ σ',RE K C.toCf F H σ' ρ'->Q σ' H)->g vs σ H Q
noncomputable def gN (i:Nat):PV->Rho->Option Rho:=fun p ρ=>some (ρ.set i (some (.sh p)))
theorem aL (i:Nat):MG K C (uD i) (gN i):=fun F H σ ρ v p ρ' Q R r e k=>by
 cases e
 exact k _ (R.set i r)
noncomputable def gsNil:List PV->Rho->Option Rho
 | [],ρ=>some ρ
 | _::_,_=>none
noncomputable def gsCons (t:PV->Rho->Option Rho) (u:List PV->Rho->Option Rho):List PV->Rho->Option Rho
 | [],_=>none
 | p::l,ρ=>match t p ρ with
  | some ρ'=>u l ρ'
  | none=>none
theorem oA:MGs K C R9 gsNil:=fun F H σ ρ vs ps ρ' Q R r e k=>by
 cases ps with
 | nil=>cases e;exact ⟨r.iu,k σ R⟩
 | cons p l=>cases e
theorem dW {g:TG}{gs:TGs}{tg:PV->Rho->Option Rho}{tgs:List PV->Rho->Option Rho} (h:MG K C g tg) (hs:MGs K C gs tgs):MGs K C (O8 g gs) (gsCons tg tgs):=fun F H σ ρ vs ps ρ' Q R r e k=>by
 cases ps with
 | nil=>cases e
 | cons p l =>
  obtain ⟨v,ys,rfl,r1,r2⟩:=r.dD
  have e':(match tg p ρ with
   | some ρ'=>tgs l ρ'
   | none=>none)=some ρ':=e
  split at e'
  ·rename_i ρ1 h1
   exact ⟨v,ys,rfl,h F H σ ρ v p ρ1 _ R r1 h1 fun σ' R'=>hs F H σ' ρ1 ys l ρ' Q R' r2 e' k⟩
  ·cases e'
noncomputable def gT (n:Nat) (t:List PV->Rho->Option Rho):PV->Rho->Option Rho:=fun p ρ=>match p with
 | .tup l=>if l.length=n then t l ρ else none
 | _=>none
theorem yJ {n:Nat}{gs:TGs}{tgs:List PV->Rho->Option Rho} (hs:MGs K C gs tgs):MG K C (Qs K n gs) (gT n tgs):=fun F H σ ρ v p ρ' Q R r e k=>by
 unfold gT at e
 split at e
 ·rename_i l
  split at e
  ·rename_i hn
   obtain ⟨a,xs,rfl,hq,rr⟩:=r.dh
   exact ⟨a,xs,rfl,R.rb.sub.tup hq,by rw [rr.1];exact hn,hs F H σ ρ xs l ρ' Q R rr e k⟩
  ·cases e
 ·cases e
noncomputable def cj (fe:Fn PV) (tg:PV->Rho->Option Rho):Sn:=fun ρ=>gW (fe ρ) fun p=>match tg p ρ with
 | some ρ'=>some (.nx ρ')
 | none=>none
theorem aZ {fe:Fn PV}{gt:TG}{tg:PV->Rho->Option Rho} (h:MJ K C (aF K) te fe) (hg:MG K C gt tg):MS K C (Hh te gt) (cj fe tg):=by
 intro F H σ ρ D o R e P
 refine h.uT R e P fun p v F1 H1 hk u a=>?_
 split at hk
 ·rename_i ρ' h1
  cases hk
  exact hg F1 H1 σ ρ v p ρ' _ (R.up u) a h1 fun σ' R'=>P F1 H1 σ' u.ff R'
 ·cases hk
noncomputable def tG (i:Nat) (fe:Fn PV):Sn:=fun ρ=>gW (fe ρ) fun p=>some (.nx (ρ.set i (some (.ow p))))
theorem qG {i:Nat}{fe:Fn PV} (nw:C.nw) (h:MO K C te fe):MS K C (Hh te (uD i)) (tG i fe):=by
 intro F H σ ρ D o R e P
 refine h.uT R e P fun p a F1 H1 hk u n1 n2 w=>?_
 cases hk
 exact P F1 H1 _ u.ff ((R.up u).Uk i w n2 nw (R.rb.tD n1) (fun j q hj _=>R.apart n1 j q hj) (R.QR n1 u))
noncomputable def iU (fe:Fn PV):Sn:=fun ρ=>gW (fe ρ) fun p=>some (.rt p)
theorem du {fe:Fn PV} (h:MJ K C (aF K) te fe):MS K C (Hg te) (iU fe):=by
 intro F H σ ρ D o R e P
 refine h.uT R e P fun p v F1 H1 hk u a=>?_
 cases hk
 exact P v F1 H1 u.ff (R.rb.up u) a
noncomputable def oX (fe:Fn PV):Sn:=fun ρ=>gW (fe ρ) fun p=>some (.ro p)
theorem lF {fe:Fn PV} (h:MO K C te fe):MS K C (Hg te) (oX fe):=by
 intro F H σ ρ D o R e P
 refine h.uT R e P fun p a F1 H1 hk u n1 n2 w=>?_
 cases hk
 exact P a F1 H1 u.ff (R.rb.up u) w n2 (R.rb.tD n1)
noncomputable def ownAt (i:Nat) (ρ:Rho):Option PV:=match ρ[i]? with
 | some (some (.ow p))=>some p
 | _=>none
theorem bC {i:Nat}{p:PV} (h:ownAt i ρ=some p):ρ[i]?=some (some (.ow p)):=by
 unfold ownAt at h
 split at h
 ·rename_i q hq;cases h;exact hq
 ·cases h
noncomputable def pQ (i:Nat):Sn:=fun ρ=>match ownAt i ρ with
 | some p=>some (.ro p)
 | none=>none
theorem Ay (i:Nat) (hio:∀ a,¬C.io a):MS K C (Hg (lD i)) (pQ i):=by
 intro F H σ ρ D o R e P
 unfold pQ at e
 split at e
 ·rename_i p hp
  cases e
  obtain ⟨a,e1,e2,e3,e4⟩:=R.ow i p (bC hp)
  exact ⟨_,e1,P a F H (aR.refl _) R.rb e2 e3 (e4.resolve_left (hio a)).2⟩
 ·cases e
noncomputable def Hy (i:Nat) (fe:Fn PV):Sn:=fun ρ=>match ownAt i ρ with
 | some (.lst l)=>gW (fe ρ) fun p=>if l.length < sizeLine then some (.nx (ρ.set i (some (.ow (.lst (l++[p])))))) else none
 | _=>none
theorem QX {i:Nat}{fe:Fn PV} (h:MJ K C (aF K) te fe):MS K C (Fp (tBM K "list" yE (lD i) (mX te yw))) (Hy i fe):=by
 intro F H σ ρ D o R e P
 unfold Hy at e
 split at e
 ·rename_i l hl
  obtain ⟨a,g1,⟨xs,g2,g3⟩,g4,g5⟩:=R.ow i _ (bC hl)
  refine ⟨_,g1,tyL g2,h.uT R e P fun p v F1 H1 hk u w=>?_⟩
  split at hk
  ·rename_i hlen
   cases hk
   obtain ⟨a',k1,⟨ys,k2,k3⟩,k4,k5⟩:=(R.up u).ow i _ (bC hl)
   rw [g1] at k1
   cases k1
   refine ⟨a,ys,v,rfl,rfl,k2,by rw [k3.1];exact hlen,?_⟩
   exact P F1 _ σ u.ff ((R.up u).write (bC hl) g1 ⟨_,aJ,k3.snoc w⟩)
  ·cases hk
 ·cases e
noncomputable def jX (fc:Fn Bool) (f g:Sn):Sn:=fun ρ=>gW (fc ρ) fun b=>if b=true then f ρ else g ρ
theorem gP {c:TT}{fc:Fn Bool} (hc:MT K C c fc) (h1:MS K C t f) (h2:MS K C u g):MS K C (R8 c t u) (jX fc f g):=by
 intro F H σ ρ D o R e P
 refine hc.uT R e P fun b F1 H1 hk uu=>?_
 cases b with
 | true=>rw [if_pos rfl] at hk ⊢;exact h1 F1 H1 σ ρ D o (R.up uu) hk (P.up uu.ff)
 | false=>rw [if_neg (by decide)] at hk ⊢;exact h2 F1 H1 σ ρ D o (R.up uu) hk (P.up uu.ff)
structure ItR (K:PySem.W.Frag) (J:It) (F:Hp) (l:List PV):Prop where
 stop:∀ F' H',aR F F'->aR F' H'->J.stop l.length H'
 go:∀ i F' H',i < l.length->aR F F'->aR F' H'->J.go i H'
 yld:∀ i F' H' x H'',i < l.length->aR F F'->aR F' H'->J.yld i H' x H''->∃ F'' p,Up F' H' F'' H''∧l[i]?=some p∧Rep K F'' x p
noncomputable def MI (K:PySem.W.Frag) (C:Cg) (wi:TI) (f:Fn (List PV)):Prop :=
 ∀ F H σ ρ R' r,RE K C.toCf F H σ ρ->f ρ=some r->Pr C F (fun l=>∀ J F' H',Up F H F' H'->ItR K J F' l->R' J H') r->wi σ H R'
noncomputable def loop (tg:PV->Rho->Option Rho) (body:Sn):List PV->Rho->Option Out
 | [],ρ=>some (.nx ρ)
 | x::xs,ρ=>match tg x ρ with
  | none=>none
  | some ρ1=>match body ρ1 with
   | some (.nx ρ2)=>loop tg body xs ρ2
   | some (.ct ρ2)=>loop tg body xs ρ2
   | some (.bk ρ2)=>some (.nx ρ2)
   | x=>x
noncomputable def pR (it:Fn (List PV)) (tg:PV->Rho->Option Rho) (body:Sn):Sn:=fun ρ=>gW (it ρ) fun l=>loop tg body l ρ
theorem xu {J:It}{gt:TG}{tg:PV->Rho->Option Rho}{l:List PV} (hg:MG K C gt tg) (hb:MS K C t f) (hJ:ItR K J F l) (R:RE K C.toCf F H σ ρ) (e:loop tg f l ρ=some o) (P:PO' K C F D o):Ui J gt t D σ H:=by
 refine ⟨fun i m σ' H'=>∃ F' ρ',m=l.length - i∧i≤l.length∧aR F F'∧RE K C.toCf F' H' σ' ρ'∧loop tg f (l.drop i) ρ'=some o,⟨l.length,F,ρ,by simp,ZaZ _,aR.refl _,R,by rw [Za5];exact e⟩,?_⟩
 rintro i m σ' H' ⟨F',ρ',rfl,hi,s,R',e'⟩
 by_cases hlt:i < l.length
 ·refine .inr ⟨hJ.go i F' H' hlt s R'.rb.sub,fun σ2 H2=>∃ F2 ρ2,aR F F2∧RE K C.toCf F2 H2 σ2 ρ2∧loop tg f (l.drop (i+1)) ρ2=some o,fun σ2 H2 ⟨F2,ρ2,s2,R2,e2⟩=>⟨l.length - (i+1),by omega,F2,ρ2,rfl,hlt,s2,R2,e2⟩,fun x H'' y=>?_⟩
  obtain ⟨F'',p,u,ep,rx⟩:=hJ.yld i F' H' x H'' hlt s R'.rb.sub y
  have ed:l.drop i=p::l.drop (i+1):=by
   rw [ZaI hlt]
   rw [List.getElem?_eq_getElem hlt] at ep
   rw [Zaa ep]
  rw [ed,loop] at e'
  split at e'
  ·cases e'
  ·rename_i ρ1 h1
   refine hg F'' H'' σ' ρ' x p ρ1 _ (R'.up u) rx h1 fun σ1 R1=>?_
   have sF:aR F F'':=s.trans u.ff
   split at e'
   ·rename_i ρ2 h2
    exact hb F'' H'' σ1 ρ1 _ _ R1 h2 fun F3 H3 σ3 s3 R3=>⟨F3,ρ2,sF.trans s3,R3,e'⟩
   ·rename_i ρ2 h2
    exact hb F'' H'' σ1 ρ1 _ _ R1 h2 fun F3 H3 σ3 s3 R3=>⟨F3,ρ2,sF.trans s3,R3,e'⟩
   ·rename_i ρ2 h2
    cases e'
    exact hb F'' H'' σ1 ρ1 _ _ R1 h2 fun F3 H3 σ3 s3 R3=>P F3 H3 σ3 (sF.trans s3) R3
   ·rename_i n1 n2 n3
    cases o with
    | nx ρ2=>exact absurd e' (n1 ρ2)
    | ct ρ2=>exact absurd e' (n2 ρ2)
    | bk ρ2=>exact absurd e' (n3 ρ2)
    | rt p=>exact hb F'' H'' σ1 ρ1 _ _ R1 e' (PO'.up (D:=D) P sF)
    | ro p=>exact hb F'' H'' σ1 ρ1 _ _ R1 e' (PO'.up (D:=D) P sF)
    | rd p=>exact hb F'' H'' σ1 ρ1 _ _ R1 e' (PO'.up (D:=D) P sF)
    | ex z=>exact hb F'' H'' σ1 ρ1 _ _ R1 e' (PX.up P sF)
 ·have ei:i=l.length:=by omega
  subst ei
  rw [List.drop_length] at e'
  cases e'
  exact .inl ⟨hJ.stop F' H' s R'.rb.sub,P F' H' σ' s R'⟩
theorem jo {wi:TI}{it:Fn (List PV)}{gt:TG}{tg:PV->Rho->Option Rho} (hi:MI K C wi it) (hg:MG K C gt tg) (hb:MS K C t f):MS K C (Qu wi gt t) (pR it tg f):=by
 intro F H σ ρ D o R e P
 rcases cL e with ⟨z,e1,rfl⟩ | ⟨l,e1,hk⟩
 ·exact hi F H σ ρ _ _ R e1 P
 ·exact hi F H σ ρ _ _ R e1 fun J F' H' u hJ=>xu hg hb hJ (R.up u) hk (P.up u.ff)
noncomputable def kj (fc:Fn Bool) (body:Sn):Nat->Rho->Option Out
 | 0,_=>none
 | n+1,ρ=>gW (fc ρ) fun b=>if b=true then (match body ρ with
   | some (.nx ρ2)=>kj fc body n ρ2
   | some (.ct ρ2)=>kj fc body n ρ2
   | some (.bk ρ2)=>some (.nx ρ2)
   | x=>x) else some (.nx ρ)
theorem JM {c:TT}{fc:Fn Bool} (n:Nat) (hc:MT K C c fc) (hb:MS K C t f):MS K C (Dv c t) (kj fc f n):=by
 intro F H σ ρ D o R e P
 refine ⟨fun m σ' H'=>∃ F' ρ',aR F F'∧RE K C.toCf F' H' σ' ρ'∧kj fc f m ρ'=some o,⟨n,F,ρ,aR.refl _,R,e⟩,?_⟩
 rintro m σ' H' ⟨F',ρ',s,R',e'⟩
 cases m with
 | zero=>cases e'
 | succ m =>
  refine hc.uT R' e' (P.up s) fun b F1 H1 hk u=>?_
  have sF:aR F F1:=s.trans u.ff
  have R1:=R'.up u
  cases b with
  | false =>
   rw [if_neg (by decide)] at hk ⊢
   cases hk
   exact P F1 H1 σ' sF R1
  | true =>
   rw [if_pos rfl] at hk ⊢
   refine ⟨fun σ2 H2=>∃ F2 ρ2,aR F F2∧RE K C.toCf F2 H2 σ2 ρ2∧kj fc f m ρ2=some o,fun σ2 H2 ⟨F2,ρ2,s2,R2,e2⟩=>⟨m,Nat.lt_succ_self _,F2,ρ2,s2,R2,e2⟩,?_⟩
   split at hk
   ·rename_i ρ2 h2
    exact hb F1 H1 σ' ρ' _ _ R1 h2 fun F3 H3 σ3 s3 R3=>⟨F3,ρ2,sF.trans s3,R3,hk⟩
   ·rename_i ρ2 h2
    exact hb F1 H1 σ' ρ' _ _ R1 h2 fun F3 H3 σ3 s3 R3=>⟨F3,ρ2,sF.trans s3,R3,hk⟩
   ·rename_i ρ2 h2
    cases hk
    exact hb F1 H1 σ' ρ' _ _ R1 h2 fun F3 H3 σ3 s3 R3=>P F3 H3 σ3 (sF.trans s3) R3
   ·rename_i n1 n2 n3
    cases o with
    | nx ρ2=>exact absurd hk (n1 ρ2)
    | ct ρ2=>exact absurd hk (n2 ρ2)
    | bk ρ2=>exact absurd hk (n3 ρ2)
    | rt p=>exact hb F1 H1 σ' ρ' _ _ R1 hk (PO'.up (D:=D) P sF)
    | ro p=>exact hb F1 H1 σ' ρ' _ _ R1 hk (PO'.up (D:=D) P sF)
    | rd p=>exact hb F1 H1 σ' ρ' _ _ R1 hk (PO'.up (D:=D) P sF)
    | ex z=>exact hb F1 H1 σ' ρ' _ _ R1 hk (PX.up P sF)
end
noncomputable def eqL (f:PV->PV->Option Bool):List PV->List PV->Option Bool
 | [],[]=>some true
 | [],_::_=>some false
 | _::_,[]=>some false
 | x::xs,y::ys=>match f x y,eqL f xs ys with
  | some a,some b=>some (a && b)
  | _,_=>none
noncomputable def eqF:Nat->PV->PV->Option Bool
 | _,.non,.non=>some true
 | _,.non,.bl _=>some false
 | _,.non,.int _=>some false
 | _,.non,.str _=>some false
 | _,.bl _,.non=>some false
 | _,.bl a,.bl b=>some (decide (a=b))
 | _,.bl _,.str _=>some false
 | _,.int _,.non=>some false
 | _,.int a,.int b=>some (decide (a=b))
 | _,.int _,.str _=>some false
 | _,.str _,.non=>some false
 | _,.str _,.bl _=>some false
 | _,.str _,.int _=>some false
 | _,.str a,.str b=>some (decide (a=b))
 | _,.non,.tup _=>some false
 | _,.tup _,.non=>some false
 | _,.non,.lst _=>some false
 | _,.lst _,.non=>some false
 | _,.int _,.tup _=>some false
 | _,.tup _,.int _=>some false
 | _,.str _,.tup _=>some false
 | _,.tup _,.str _=>some false
 | _,.int _,.lst _=>some false
 | _,.lst _,.int _=>some false
 | _,.str _,.lst _=>some false
 | _,.lst _,.str _=>some false
 | _,.lst _,.tup _=>some false
 | _,.tup _,.lst _=>some false
 | n+1,.tup l,.tup m=>eqL (eqF n) l m
 | n+1,.lst l,.lst m=>if l.length=m.length then eqL (eqF n) l m else some false
 | _,_,_=>none
theorem m7 {f:PV->PV->Option Bool} (h:∀ p r,f p p=some r->r=true):∀ {l:List PV}{r:Bool},eqL f l l=some r->r=true
 | [],r,e=>by cases e;rfl
 | x::xs,r,e=>by
  rw [eqL] at e
  split at e
  ·rename_i a b h1 h2
   cases e
   rw [h x a h1,m7 h h2];rfl
  ·cases e
theorem Az:∀ (n:Nat) (p:PV) (r:Bool),eqF n p p=some r->r=true
 | n,p,r,e=>by
  induction n generalizing p r with
  | zero=>cases p <;> first | (cases (show some true=some r from e);rfl) | (cases (show some (decide _)=some r from e);exact decide_eq_true rfl) | cases (show none=some r from e)
  | succ n ih =>
   cases p with
   | tup l=>exact m7 ih e
   | lst l =>
    have e:(if l.length=l.length then eqL (eqF n) l l else some false)=some r:=e
    rw [if_pos rfl] at e;exact m7 ih e
   | _=>first | (cases (show some true=some r from e);rfl) | (cases (show some (decide _)=some r from e);exact decide_eq_true rfl) | cases (show none=some r from e)
theorem yK {f:PV->PV->Option Bool}:∀ {l m:List PV}{r:Bool},eqL f l m=some r->∃ e:Nat->Bool,(∀ (j:Nat) x y,l[j]?=some x->m[j]?=some y->f x y=some (e j))∧r=((List.range (min l.length m.length)).all e && l.length == m.length)
 | [],[],r,h=>⟨fun _=>true,fun j x y a=>by simp at a,by cases h;rfl⟩
 | [],_::_,r,h=>⟨fun _=>true,fun j x y a=>by simp at a,by cases h;simp⟩
 | _::_,[],r,h=>⟨fun _=>true,fun j x y _ a=>by simp at a,by cases h;simp⟩
 | x::xs,y::ys,r,h=>by
  rw [eqL] at h
  split at h
  ·rename_i a b h1 h2
   cases h
   obtain ⟨e,e1,e2⟩:=yK h2
   refine ⟨fun j=>match j with | 0=>a | j+1=>e j,fun j x' y' a' b'=>?_,?_⟩
   ·cases j with
    | zero=>simp at a' b';subst a' b';exact h1
    | succ j=>exact e1 j x' y' (by simpa using a') (by simpa using b')
   ·rw [e2,ZaC,ZaC,Nat.succ_min_succ,List.range_succ_eq_map,List.all_cons,List.all_map]
    have:((xs.length+1 == ys.length+1):Bool)=(xs.length == ys.length):=by
     rw [Bool.eq_iff_iff];simp
    rw [this]
    cases a <;> simp [Function.comp_def]
  ·cases h
section
variable {X:Cx}{pins:List (Addr×Obj)}{σ:St}{H:Hp}{s:Shared}
theorem Rep.kinds (I:Inv X pins σ H s) {a:Addr}{xs ys:List V} (h1:SqL X.K H a xs) (h2:SqT X.K H a ys):False:=by
 obtain ⟨_,_,p1,_⟩:=I.list h1
 obtain ⟨_,_,p2,_⟩:=I.tuple h2
 obtain ⟨o,n,e,c,_⟩:=p1
 obtain ⟨o',e',c',_⟩:=p2
 rw [e] at e';cases e'
 rw [c] at c';exact absurd c' (by decide)
theorem Ba {xs:List V}{l m:List PV} (h1:xs.length=l.length) (h2:xs.length=m.length) (h:∀ (j:Nat) x p q,xs[j]?=some x->l[j]?=some p->m[j]?=some q->p=q):l=m:=by
 apply Zbk
 intro j
 by_cases hj:j < xs.length
 ·have hl:j < l.length:=by lia
  have hm:j < m.length:=by lia
  rw [List.getElem?_eq_getElem hl,List.getElem?_eq_getElem hm,h j xs[j] l[j] m[j] (by simp [hj]) (by simp [hl]) (by simp [hm])]
 ·rw [ZaF (by lia),ZaF (by lia)]
noncomputable def HO.isDict:HO->Bool
 | .dK _=>true
 | .dT _=>true
 | _=>false
theorem M9 {H:Hp}{a:Addr}{u v:HO} (hu:HO.isDict u=true) (hv:HO.isDict v=true) (h:Rd H a u) (h':Rd H a v):u=v:=by
 rcases h with h | ⟨o,h⟩ <;> rcases h' with h' | ⟨o',h'⟩ <;> rw [h] at h' <;> cases h'
 ·rfl
 ·cases hu
 ·cases hv
 ·rfl
theorem yL {H:Hp}{a:Addr}{u v:HO} (h:Rd H a u) (h':Rd H a v) (hu:HO.isDict u=true:=by rfl) (hv:HO.isDict v=true:=by rfl):u=v:=M9 hu hv h h'
theorem Rep.noDict (I:Inv X pins σ H s) {a:Addr}{ks:List (Key×V)}{ts:List (List Key×V)} (h1:Rd H a (.dK ks)∨Rd H a (.dT ts)) (h2:(∃ xs,SqL X.K H a xs)∨∃ xs,SqT X.K H a xs):False:=by
 have d:∃ o es ep,s.heap.get? a=some o∧o.data=.dict es ep:=by
  rcases h1 with h1 | h1
  ·obtain ⟨_,_,_,_,o,es,ep,e,x,d,_⟩:=h1.ok I.hok
   exact ⟨o,es,ep,e,d⟩
  ·obtain ⟨_,_,_,_,o,es,ep,e,x,d,_⟩:=h1.ok I.hok
   exact ⟨o,es,ep,e,d⟩
 obtain ⟨o,es,ep,e,d⟩:=d
 rcases h2 with ⟨xs,h2⟩ | ⟨xs,h2⟩
 ·obtain ⟨_,_,p1,_⟩:=I.list h2
  obtain ⟨o',n,e',_,_,d'⟩:=p1
  rw [e] at e';cases e'
  rw [d] at d';cases d'
 ·obtain ⟨_,_,p1,_⟩:=I.tuple h2
  obtain ⟨o',e',_,n,d'⟩:=p1
  rw [e] at e';cases e'
  rw [d] at d';cases d'
theorem XO.at (I:Inv X pins σ H s) {a C:Addr}{d:Option Addr} (h:H a=some (XO a C d)):∃ vs:Array Value,s.heap.get? a=some { cls:=.ref C,dict:=d,data:=.fields vs }:=(I.hok _ _ h).1
theorem XO.inj (I:Inv X pins σ H s) {a C C':Addr}{d d':Option Addr} (h:H a=some (XO a C d)) (h':H a=some (XO a C' d')):C=C'∧d=d':=by
 obtain ⟨vs,e⟩:=XO.at I h
 obtain ⟨vs',e'⟩:=XO.at I h'
 rw [e] at e'
 cases e'
 exact ⟨rfl,rfl⟩
theorem XO.noSeq (I:Inv X pins σ H s) {a C:Addr}{d:Option Addr} (h:H a=some (XO a C d)) (h2:(∃ xs,SqL X.K H a xs)∨∃ xs,SqT X.K H a xs):False:=by
 obtain ⟨vs,e⟩:=XO.at I h
 rcases h2 with ⟨xs,h2⟩ | ⟨xs,h2⟩
 ·obtain ⟨_,_,p1,_⟩:=I.list h2
  obtain ⟨o',n,e',_,_,d'⟩:=p1
  rw [e] at e';cases e'
  cases d'
 ·obtain ⟨_,_,p1,_⟩:=I.tuple h2
  obtain ⟨o',e',_,n,d'⟩:=p1
  rw [e] at e';cases e'
  cases d'
theorem XNm.inj {K:PySem.W.Frag}{C:Addr}{c c':Str} (a:XNm K C c) (b:XNm K C c'):c=c':=by
 obtain ⟨cd,h1,h2⟩:=a.cl
 obtain ⟨cd',h1',h2'⟩:=b.cl
 rw [h1] at h1';cases h1'
 exact h2.symm.trans h2'
theorem Rep.inj (I:Inv X pins σ H s) {x:V}{p:PV} (h:Rep X.K H x p):∀ {q:PV},Rep X.K H x q->p=q:=by
 have pairs:∀ {κ:Type}{xs:List (κ×V)}{l m:List (κ×PV)},xs.map (·.1)=l.map (·.1)->xs.map (·.1)=m.map (·.1)->(∀ (j:Nat) x p q,xs[j]?=some x->l[j]?=some p->m[j]?=some q->p.2=q.2)->l=m:=by
  intro κ xs l m h1 h2 h3
  have l1:xs.length=l.length:=by simpa using congrArg List.length h1
  have l2:xs.length=m.length:=by simpa using congrArg List.length h2
  apply Zbk
  intro j
  by_cases hj:j < xs.length
  ·have hl:j < l.length:=by lia
   have hm:j < m.length:=by lia
   rw [List.getElem?_eq_getElem hl,List.getElem?_eq_getElem hm]
   have k:=congrArg (·[j]?) (h1.symm.trans h2)
   simp [hl,hm] at k
   have v:=h3 j xs[j] l[j] m[j] (by simp [hj]) (by simp [hl]) (by simp [hm])
   rw [Prod.ext k v]
  ·rw [ZaF (by lia),ZaF (by lia)]
 induction h with
 | non=>intro q h';cases h';rfl
 | bl=>intro q h';cases h';rfl
 | int=>intro q h';cases h';rfl
 | str=>intro q h';cases h';rfl
 | ty=>intro q h';cases h';rfl
 | @tup a xs l h hl _ ih =>
  intro q h'
  have h:=SqT.of (K:=X.K) h
  cases h' with
  | tup h2 hl2 hr2 =>
   cases I.wX h (SqT.of (K:=X.K) h2)
   rw [Ba hl hl2 fun j x p q e1 e2 e3=>ih j x p e1 e2 (hr2 j x q e1 e3)]
  | lst h2=>exact (Rep.kinds I h2 h).elim
  | dk h2=>exact (Rep.noDict I (ts:=[]) (.inl h2) (.inr ⟨_,h⟩)).elim
  | dt h2=>exact (Rep.noDict I (ks:=[]) (.inr h2) (.inr ⟨_,h⟩)).elim
  | exc _ h2=>exact (XO.noSeq I h2 (.inr ⟨_,h⟩)).elim
  | exc0 _ h2=>exact (XO.noSeq I h2 (.inr ⟨_,h⟩)).elim
 | @lst a xs l h hl _ ih =>
  intro q h'
  cases h' with
  | tup h2=>exact (Rep.kinds I h (SqT.of h2)).elim
  | lst h2 hl2 hr2 =>
   cases I.mR h h2
   rw [Ba hl hl2 fun j x p q e1 e2 e3=>ih j x p e1 e2 (hr2 j x q e1 e3)]
  | dk h2=>exact (Rep.noDict I (ts:=[]) (.inl h2) (.inl ⟨_,h⟩)).elim
  | dt h2=>exact (Rep.noDict I (ks:=[]) (.inr h2) (.inl ⟨_,h⟩)).elim
  | exc _ h2=>exact (XO.noSeq I h2 (.inl ⟨_,h⟩)).elim
  | exc0 _ h2=>exact (XO.noSeq I h2 (.inl ⟨_,h⟩)).elim
 | @dk a xs l h hl _ ih =>
  intro q h'
  cases h' with
  | tup h2=>exact (Rep.noDict I (ts:=[]) (.inl h) (.inr ⟨_,SqT.of h2⟩)).elim
  | lst h2=>exact (Rep.noDict I (ts:=[]) (.inl h) (.inl ⟨_,h2⟩)).elim
  | dk h2 hl2 hr2 =>
   cases (yL h h2)
   rw [pairs hl hl2 fun j x p q e1 e2 e3=>ih j x p e1 e2 (hr2 j x q e1 e3)]
  | dt h2=>cases yL h h2
  | exc _ h2=>rcases h with h | ⟨o,h⟩ <;> rw [h] at h2 <;> cases h2
  | exc0 _ h2=>rcases h with h | ⟨o,h⟩ <;> rw [h] at h2 <;> cases h2
 | @dt a xs l h hl _ ih =>
  intro q h'
  cases h' with
  | tup h2=>exact (Rep.noDict I (ks:=[]) (.inr h) (.inr ⟨_,SqT.of h2⟩)).elim
  | lst h2=>exact (Rep.noDict I (ks:=[]) (.inr h) (.inl ⟨_,h2⟩)).elim
  | dk h2=>cases yL h h2
  | dt h2 hl2 hr2 =>
   cases (yL h h2)
   rw [pairs hl hl2 fun j x p q e1 e2 e3=>ih j x p e1 e2 (hr2 j x q e1 e3)]
  | exc _ h2=>rcases h with h | ⟨o,h⟩ <;> rw [h] at h2 <;> cases h2
  | exc0 _ h2=>rcases h with h | ⟨o,h⟩ <;> rw [h] at h2 <;> cases h2
 | @exc a C dx c xs l nm h hd hl _ ih =>
  intro q h'
  cases h' with
  | tup h2=>exact (XO.noSeq I h (.inr ⟨_,SqT.of h2⟩)).elim
  | lst h2=>exact (XO.noSeq I h (.inl ⟨_,h2⟩)).elim
  | dk h2=>rcases h2 with h2 | ⟨o,h2⟩ <;> rw [h] at h2 <;> cases h2
  | dt h2=>rcases h2 with h2 | ⟨o,h2⟩ <;> rw [h] at h2 <;> cases h2
  | exc nm2 h2 hd2 hl2 hr2 =>
   obtain ⟨rfl,e⟩:=XO.inj I h h2
   cases e
   rw [hd] at hd2;cases hd2
   cases XNm.inj nm nm2
   rw [pairs hl hl2 fun j x p q e1 e2 e3=>ih j x p e1 e2 (hr2 j x q e1 e3)]
  | exc0 nm2 h2=>cases (XO.inj I h h2).2
 | @exc0 a C c nm h =>
  intro q h'
  cases h' with
  | tup h2=>exact (XO.noSeq I h (.inr ⟨_,SqT.of h2⟩)).elim
  | lst h2=>exact (XO.noSeq I h (.inl ⟨_,h2⟩)).elim
  | dk h2=>rcases h2 with h2 | ⟨o,h2⟩ <;> rw [h] at h2 <;> cases h2
  | dt h2=>rcases h2 with h2 | ⟨o,h2⟩ <;> rw [h] at h2 <;> cases h2
  | exc nm2 h2=>cases (XO.inj I h h2).2
  | exc0 nm2 h2 =>
   obtain ⟨rfl,_⟩:=XO.inj I h h2
   cases XNm.inj nm nm2
   rfl
theorem JN (I:Inv X pins σ H s):∀ {A:Around}{x y:V}{p q:PV}{r:Bool}{u v:Value},A.units < cLine->eqF 0 p q=some r->Rep X.K H x p->Rep X.K H y q->RelV x u->RelV y v ->
  SeqAt.RcAt A s u v r∧SeqAt.EqAt A s u v r∧SeqAt.RcNeAt A s u v (!r):=by
 intro A x y p q r u v hu e rx ry ru rv
 have hu0:A.units < cLine:=hu
 match p,q,e with
 | .non,.non,e =>
  have e:=Zaa e
  subst e
  cases Rep.fj rx
  cases Rep.fj ry
  cases ru
  cases rv
  exact ⟨SeqAt.RcAt.none_none,SeqAt.EqAt.same _,SeqAt.RcNeAt.none_none⟩
 | .non,.bl b,e =>
  have e:=Zaa e
  subst e
  cases Rep.fj rx
  cases Rep.m6 ry
  cases ru
  cases rv
  exact ⟨SeqAt.RcAt.none_bool _,SeqAt.EqAt.none_bool _,SeqAt.RcNeAt.none_bool _⟩
 | .non,.int b,e =>
  have e:=Zaa e
  subst e
  cases Rep.fj rx
  cases Rep.bu ry
  cases ru
  obtain ⟨tb,rfl⟩:=rv
  exact ⟨SeqAt.RcAt.none_int _ _,SeqAt.EqAt.none_int _ _,SeqAt.RcNeAt.none_int _ _⟩
 | .non,.str b,e =>
  have e:=Zaa e
  subst e
  cases Rep.fj rx
  cases Rep.bU ry
  cases ru
  obtain ⟨tb,rfl⟩:=rv
  exact ⟨SeqAt.RcAt.none_str _ _,SeqAt.EqAt.none_str _ _,SeqAt.RcNeAt.none_str _ _⟩
 | .bl a,.non,e =>
  have e:=Zaa e
  subst e
  cases Rep.m6 rx
  cases Rep.fj ry
  cases ru
  cases rv
  exact ⟨SeqAt.RcAt.bool_none _,SeqAt.EqAt.bool_none _,SeqAt.RcNeAt.bool_none _⟩
 | .bl a,.bl b,e =>
  have e:=Zaa e
  subst e
  cases Rep.m6 rx
  cases Rep.m6 ry
  cases ru
  cases rv
  rw [←Bool.beq_eq_decide_eq]
  exact ⟨SeqAt.RcAt.bool_bool _ _,SeqAt.EqAt.bool_bool _ _,SeqAt.RcNeAt.bool_bool _ _⟩
 | .bl a,.str b,e =>
  have e:=Zaa e
  subst e
  cases Rep.m6 rx
  cases Rep.bU ry
  cases ru
  obtain ⟨tb,rfl⟩:=rv
  exact ⟨SeqAt.RcAt.bool_str _ _ _,SeqAt.EqAt.bool_str _ _ _,SeqAt.RcNeAt.bool_str _ _ _⟩
 | .int a,.non,e =>
  have e:=Zaa e
  subst e
  cases Rep.bu rx
  cases Rep.fj ry
  obtain ⟨ta,rfl⟩:=ru
  cases rv
  exact ⟨SeqAt.RcAt.int_none _ _,SeqAt.EqAt.int_none _ _,SeqAt.RcNeAt.int_none _ _⟩
 | .int a,.int b,e =>
  have e:=Zaa e
  subst e
  cases Rep.bu rx
  cases Rep.bu ry
  obtain ⟨ta,rfl⟩:=ru
  obtain ⟨tb,rfl⟩:=rv
  rw [←Bool.beq_eq_decide_eq]
  exact ⟨SeqAt.RcAt.int_int _ _ _ _,SeqAt.EqAt.int_int _ _ _ _,SeqAt.RcNeAt.int_int _ _ _ _⟩
 | .int a,.str b,e =>
  have e:=Zaa e
  subst e
  cases Rep.bu rx
  cases Rep.bU ry
  obtain ⟨ta,rfl⟩:=ru
  obtain ⟨tb,rfl⟩:=rv
  exact ⟨SeqAt.RcAt.int_str _ _ _ _,SeqAt.EqAt.int_str _ _ _ _,SeqAt.RcNeAt.int_str _ _ _ _⟩
 | .str a,.non,e =>
  have e:=Zaa e
  subst e
  cases Rep.bU rx
  cases Rep.fj ry
  obtain ⟨ta,rfl⟩:=ru
  cases rv
  exact ⟨SeqAt.RcAt.str_none _ _,SeqAt.EqAt.str_none _ _,SeqAt.RcNeAt.str_none _ _⟩
 | .str a,.bl b,e =>
  have e:=Zaa e
  subst e
  cases Rep.bU rx
  cases Rep.m6 ry
  obtain ⟨ta,rfl⟩:=ru
  cases rv
  exact ⟨SeqAt.RcAt.str_bool _ _ _,SeqAt.EqAt.str_bool _ _ _,SeqAt.RcNeAt.str_bool _ _ _⟩
 | .str a,.int b,e =>
  have e:=Zaa e
  subst e
  cases Rep.bU rx
  cases Rep.bu ry
  obtain ⟨ta,rfl⟩:=ru
  obtain ⟨tb,rfl⟩:=rv
  exact ⟨SeqAt.RcAt.str_int _ _ _ _,SeqAt.EqAt.str_int _ _ _ _,SeqAt.RcNeAt.str_int _ _ _ _⟩
 | .str a,.str b,e =>
  have e:=Zaa e
  subst e
  cases Rep.bU rx
  cases Rep.bU ry
  obtain ⟨ta,rfl⟩:=ru
  obtain ⟨tb,rfl⟩:=rv
  rw [←Bool.beq_eq_decide_eq]
  exact ⟨SeqAt.RcAt.str_str _ _ _ _,SeqAt.EqAt.str_str _ _ _ _,SeqAt.RcNeAt.str_str _ _ _ _⟩
 | .tup a,.non,e =>
  have e:=Zaa e
  subst e
  obtain ⟨aa,xsa,rfl,ha,_⟩:=rx.dh
  cases ru
  obtain ⟨_,_,pa,_⟩:=I.tuple ha
  cases Rep.fj ry
  cases rv
  exact ⟨SeqAt.RcAt.tuple_none pa hu0,SeqAt.EqAt.tuple_none pa hu0,SeqAt.RcNeAt.tuple_none pa hu0⟩
 | .non,.tup b,e =>
  have e:=Zaa e
  subst e
  cases Rep.fj rx
  cases ru
  obtain ⟨ab,xsb,rfl,hb,_⟩:=ry.dh
  cases rv
  obtain ⟨_,_,pb,_⟩:=I.tuple hb
  exact ⟨SeqAt.RcAt.none_tuple pb hu0,SeqAt.EqAt.none_tuple pb hu0,SeqAt.RcNeAt.none_tuple pb hu0⟩
 | .tup a,.int b,e =>
  have e:=Zaa e
  subst e
  obtain ⟨aa,xsa,rfl,ha,_⟩:=rx.dh
  cases ru
  obtain ⟨_,_,pa,_⟩:=I.tuple ha
  cases Rep.bu ry
  obtain ⟨tb,rfl⟩:=rv
  exact ⟨SeqAt.RcAt.tuple_int _ _ pa hu0,SeqAt.EqAt.tuple_int _ _ pa hu0,SeqAt.RcNeAt.tuple_int _ _ pa hu0⟩
 | .int a,.tup b,e =>
  have e:=Zaa e
  subst e
  cases Rep.bu rx
  obtain ⟨ta,rfl⟩:=ru
  obtain ⟨ab,xsb,rfl,hb,_⟩:=ry.dh
  cases rv
  obtain ⟨_,_,pb,_⟩:=I.tuple hb
  exact ⟨SeqAt.RcAt.int_tuple _ _ pb hu0,SeqAt.EqAt.int_tuple _ _ pb hu0,SeqAt.RcNeAt.int_tuple _ _ pb hu0⟩
 | .tup a,.str b,e =>
  have e:=Zaa e
  subst e
  obtain ⟨aa,xsa,rfl,ha,_⟩:=rx.dh
  cases ru
  obtain ⟨_,_,pa,_⟩:=I.tuple ha
  cases Rep.bU ry
  obtain ⟨tb,rfl⟩:=rv
  exact ⟨SeqAt.RcAt.tuple_str _ _ pa hu0,SeqAt.EqAt.tuple_str _ _ pa hu0,SeqAt.RcNeAt.tuple_str _ _ pa hu0⟩
 | .str a,.tup b,e =>
  have e:=Zaa e
  subst e
  cases Rep.bU rx
  obtain ⟨ta,rfl⟩:=ru
  obtain ⟨ab,xsb,rfl,hb,_⟩:=ry.dh
  cases rv
  obtain ⟨_,_,pb,_⟩:=I.tuple hb
  exact ⟨SeqAt.RcAt.str_tuple _ _ pb hu0,SeqAt.EqAt.str_tuple _ _ pb hu0,SeqAt.RcNeAt.str_tuple _ _ pb hu0⟩
 | .lst a,.non,e =>
  have e:=Zaa e
  subst e
  obtain ⟨aa,xsa,rfl,ha,_⟩:=rx.bY
  cases ru
  obtain ⟨_,_,pa,_⟩:=I.list ha
  cases Rep.fj ry
  cases rv
  exact ⟨SeqAt.RcAt.list_none pa.isList hu0,SeqAt.EqAt.list_none pa.isList hu0,SeqAt.RcNeAt.list_none pa.isList hu0⟩
 | .non,.lst b,e =>
  have e:=Zaa e
  subst e
  cases Rep.fj rx
  cases ru
  obtain ⟨ab,xsb,rfl,hb,_⟩:=ry.bY
  cases rv
  obtain ⟨_,_,pb,_⟩:=I.list hb
  exact ⟨SeqAt.RcAt.none_list pb.isList hu0,SeqAt.EqAt.none_list pb.isList hu0,SeqAt.RcNeAt.none_list pb.isList hu0⟩
 | .lst a,.int b,e =>
  have e:=Zaa e
  subst e
  obtain ⟨aa,xsa,rfl,ha,_⟩:=rx.bY
  cases ru
  obtain ⟨_,_,pa,_⟩:=I.list ha
  cases Rep.bu ry
  obtain ⟨tb,rfl⟩:=rv
  exact ⟨SeqAt.RcAt.list_int _ _ pa.isList hu0,SeqAt.EqAt.list_int _ _ pa.isList hu0,SeqAt.RcNeAt.list_int _ _ pa.isList hu0⟩
 | .int a,.lst b,e =>
  have e:=Zaa e
  subst e
  cases Rep.bu rx
  obtain ⟨ta,rfl⟩:=ru
  obtain ⟨ab,xsb,rfl,hb,_⟩:=ry.bY
  cases rv
  obtain ⟨_,_,pb,_⟩:=I.list hb
  exact ⟨SeqAt.RcAt.int_list _ _ pb.isList hu0,SeqAt.EqAt.int_list _ _ pb.isList hu0,SeqAt.RcNeAt.int_list _ _ pb.isList hu0⟩
 | .lst a,.str b,e =>
  have e:=Zaa e
  subst e
  obtain ⟨aa,xsa,rfl,ha,_⟩:=rx.bY
  cases ru
  obtain ⟨_,_,pa,_⟩:=I.list ha
  cases Rep.bU ry
  obtain ⟨tb,rfl⟩:=rv
  exact ⟨SeqAt.RcAt.list_str _ _ pa.isList hu0,SeqAt.EqAt.list_str _ _ pa.isList hu0,SeqAt.RcNeAt.list_str _ _ pa.isList hu0⟩
 | .str a,.lst b,e =>
  have e:=Zaa e
  subst e
  cases Rep.bU rx
  obtain ⟨ta,rfl⟩:=ru
  obtain ⟨ab,xsb,rfl,hb,_⟩:=ry.bY
  cases rv
  obtain ⟨_,_,pb,_⟩:=I.list hb
  exact ⟨SeqAt.RcAt.str_list _ _ pb.isList hu0,SeqAt.EqAt.str_list _ _ pb.isList hu0,SeqAt.RcNeAt.str_list _ _ pb.isList hu0⟩
 | .lst a,.tup b,e =>
  have e:=Zaa e
  subst e
  obtain ⟨aa,xsa,rfl,ha,_⟩:=rx.bY
  cases ru
  obtain ⟨_,_,pa,_⟩:=I.list ha
  obtain ⟨ab,xsb,rfl,hb,_⟩:=ry.dh
  cases rv
  obtain ⟨_,_,pb,_⟩:=I.tuple hb
  exact ⟨SeqAt.RcAt.list_tuple pa.isList pb hu0,SeqAt.EqAt.list_tuple pa.isList pb hu0,SeqAt.RcNeAt.list_tuple pa.isList pb hu0⟩
 | .tup a,.lst b,e =>
  have e:=Zaa e
  subst e
  obtain ⟨aa,xsa,rfl,ha,_⟩:=rx.dh
  cases ru
  obtain ⟨_,_,pa,_⟩:=I.tuple ha
  obtain ⟨ab,xsb,rfl,hb,_⟩:=ry.bY
  cases rv
  obtain ⟨_,_,pb,_⟩:=I.list hb
  exact ⟨SeqAt.RcAt.tuple_list pa pb.isList hu0,SeqAt.EqAt.tuple_list pa pb.isList hu0,SeqAt.RcNeAt.tuple_list pa pb.isList hu0⟩
noncomputable def JP:PV->PV->Bool
 | .tup _,.tup _=>true
 | .lst _,.lst _=>true
 | _,_=>false
theorem JQ {n:Nat}{p q:PV} (h:JP p q=false):eqF (n+1) p q=eqF 0 p q:=by
 cases p <;> cases q <;> first | rfl | cases h
theorem Hz:∀ {p q:PV},JP p q=true->(∃ l m,p=.tup l∧q=.tup m)∨∃ l m,p=.lst l∧q=.lst m
 | .tup l,q,h=>by
  cases q with
  | tup m=>exact .inl ⟨l,m,rfl,rfl⟩
  | _=>cases h
 | .lst l,q,h=>by
  cases q with
  | lst m=>exact .inr ⟨l,m,rfl,rfl⟩
  | _=>cases h
theorem JR (I:Inv X pins σ H s):∀ (n:Nat) {A:Around}{x y:V}{p q:PV}{r:Bool}{u v:Value},A.units+n < cLine->eqF n p q=some r->Rep X.K H x p->Rep X.K H y q->RelV x u->RelV y v ->
  SeqAt.RcAt A s u v r∧SeqAt.EqAt A s u v r∧SeqAt.RcNeAt A s u v (!r):=by
 intro n
 induction n with
 | zero=>exact fun hu e=>JN I (by lia) e
 | succ n ih =>
  intro A x y p q r u v hu e rx ry ru rv
  have hu0:A.units < cLine:=by lia
  cases hr:JP p q with
  | false=>exact JN I hu0 (by rw [←JQ hr];exact e) rx ry ru rv
  | true =>
  rcases Hz hr with ⟨l,m,rfl,rfl⟩ | ⟨l,m,rfl,rfl⟩
  ·have e:eqL (eqF n) l m=some r:=e
   obtain ⟨a,xs,rfl,ha,r1⟩:=rx.dh
   obtain ⟨b,ys,rfl,hb,r2⟩:=ry.dh
   cases ru
   cases rv
   obtain ⟨i1,v1,t1,_⟩:=I.tuple ha
   obtain ⟨i2,v2,t2,_⟩:=I.tuple hb
   obtain ⟨g,g1,g2⟩:=yK e
   have hj:∀ j (h1:j < i1.toArray.size) (h2:j < i2.toArray.size),SeqAt.EqAt A.in1 s i1.toArray[j] i2.toArray[j] (g j):=fun j h1 h2=>by
    obtain ⟨x,hx,rx'⟩:=qx v1 h1
    obtain ⟨y,hy,ry'⟩:=qx v2 h2
    obtain ⟨p',hp,rp⟩:=r1.got hx
    obtain ⟨q',hq,rq⟩:=r2.got hy
    exact (ih (A:=A.in1) (show A.units+1+n < cLine by lia) (g1 j p' q' hp hq) rp rq rx' ry').2.1
   have rc:=SeqAt.RcAt.tuples (A:=A) (e:=g) t1 t2 hu0 hj
   have rn:=SeqAt.RcNeAt.tuples (A:=A) (e:=g) t1 t2 hu0 hj
   rw [List.size_toArray,List.size_toArray,←v1.length,←v2.length,r1.1,r2.1,←g2] at rc rn
   refine ⟨rc,?_,rn⟩
   by_cases hab:a=b
   ·subst hab
    have epq:PV.tup l=PV.tup m:=Rep.inj I rx ry
    cases epq
    have er:=m7 (Az n) e
    subst er
    exact SeqAt.EqAt.same _
   ·exact .of_refs hab rc
  ·obtain ⟨a,xs,rfl,ha,r1⟩:=rx.bY
   obtain ⟨b,ys,rfl,hb,r2⟩:=ry.bY
   cases ru
   cases rv
   obtain ⟨i1,v1,t1,_⟩:=I.list ha
   obtain ⟨i2,v2,t2,_⟩:=I.list hb
   have e:(if l.length=m.length then eqL (eqF n) l m else some false)=some r:=e
   split at e
   ·rename_i hlm
    obtain ⟨g,g1,g2⟩:=yK e
    have hz:i1.toArray.size=i2.toArray.size:=by rw [List.size_toArray,List.size_toArray,←v1.length,←v2.length,r1.1,r2.1];exact hlm
    have hj:∀ j (h1:j < i1.toArray.size) (h2:j < i2.toArray.size),SeqAt.EqAt A.in1 s i1.toArray[j] i2.toArray[j] (g j):=fun j h1 h2=>by
     obtain ⟨x,hx,rx'⟩:=qx v1 h1
     obtain ⟨y,hy,ry'⟩:=qx v2 h2
     obtain ⟨p',hp,rp⟩:=r1.got hx
     obtain ⟨q',hq,rq⟩:=r2.got hy
     exact (ih (A:=A.in1) (show A.units+1+n < cLine by lia) (g1 j p' q' hp hq) rp rq rx' ry').2.1
    have rc:=SeqAt.RcAt.lists (A:=A) (e:=g) t1.isList t2.isList hz hu0 hj
    have e2:r=(List.range l.length).all g:=by rw [g2,←hlm,Nat.min_self,beq_self_eq_true,Bool.and_true]
    have rn:=SeqAt.RcNeAt.lists (A:=A) (e:=g) t1.isList t2.isList hz hu0 hj
    rw [List.size_toArray,←v1.length,r1.1,←e2] at rc rn
    refine ⟨rc,?_,rn⟩
    by_cases hab:a=b
    ·subst hab
     have epq:PV.lst l=PV.lst m:=Rep.inj I rx ry
     cases epq
     have er:=m7 (Az n) e
     subst er
     exact SeqAt.EqAt.same _
    ·exact .of_refs hab rc
   ·rename_i hlm
    cases e
    have hz:(i1.toArray.size != i2.toArray.size)=true:=by rw [List.size_toArray,List.size_toArray,←v1.length,←v2.length,r1.1,r2.1];simpa using hlm
    have rc:=SeqAt.RcAt.lists_lengths (A:=A) t1.isList t2.isList hz hu0
    have hab:a≠b:=fun z=>by
     subst z
     have epq:PV.lst l=PV.lst m:=Rep.inj I rx ry
     cases epq
     exact hlm rfl
    exact ⟨rc,.of_refs hab rc,SeqAt.RcNeAt.lists_lengths (A:=A) t1.isList t2.isList hz hu0⟩
end
section
variable {X:Cx}{k:Nat}
theorem OpR.or {f:Value->Value->Sem Value}{r r':R2} (h:OpR X f r) (h':OpR X f r'):OpR X f (fun x y H Q=>r x y H Q∨r' x y H Q):=by
 intro pins s σ H x y v u Q I rx ry q
 rcases q with q | q
 ·exact h pins s σ H x y v u Q I rx ry q
 ·exact h' pins s σ H x y v u Q I rx ry q
noncomputable def S8 (K:PySem.W.Frag):R2:=fun x y H Q=>∃ p q r,Rep K H x p∧Rep K H y q∧eqF 32 p q=some r∧Q (.bl r) H
noncomputable def S9 (K:PySem.W.Frag):R2:=fun x y H Q=>∃ p q r,Rep K H x p∧Rep K H y q∧eqF 32 p q=some r∧Q (.bl (!r)) H
theorem gm (hr:fJ k X.A):OpR X (compareOp .Eq) (S8 X.K):=by
 intro pins s σ H x y v u Q I rx ry h
 obtain ⟨p,q,r,h1,h2,e,h3⟩:=h
 exact (JR I 32 (DX hr) e h1 h2 rx ry).1 X.prog X.w X.xe _ ⟨.bl r,H,I,rfl,h3⟩
theorem QZ (hr:fJ k X.A):OpR X (compareOp .NotEq) (S9 X.K):=by
 intro pins s σ H x y v u Q I rx ry h
 obtain ⟨p,q,r,h1,h2,e,h3⟩:=h
 exact (JR I 32 (DX hr) e h1 h2 rx ry).2.2 X.prog X.w X.xe _ ⟨.bl (!r),H,I,rfl,h3⟩
noncomputable def inF (p:PV):List PV->Option Bool
 | []=>some false
 | x::xs=>match eqF 31 x p,inF p xs with
  | some a,some b=>some (a || b)
  | _,_=>none
theorem Fw {p:PV}:∀ {l:List PV}{r:Bool},inF p l=some r->∃ e:Nat->Bool,(∀ (j:Nat) x,l[j]?=some x->eqF 31 x p=some (e j))∧r=(List.range l.length).any e
 | [],r,h=>⟨fun _=>true,fun j x a=>by simp at a,by cases h;rfl⟩
 | x::xs,r,h=>by
  rw [inF] at h
  split at h
  ·rename_i a b h1 h2
   cases h
   obtain ⟨e,e1,e2⟩:=Fw h2
   refine ⟨fun j=>match j with | 0=>a | j+1=>e j,fun j x' a'=>?_,?_⟩
   ·cases j with
    | zero=>simp at a';subst a';exact h1
    | succ j=>exact e1 j x' (by simpa using a')
   ·rw [e2,ZaC,List.range_succ_eq_map,ZbH,List.any_map]
    rfl
  ·cases h
noncomputable def Tc (K:PySem.W.Frag) (neg:Bool):R2:=fun x y H Q=>∃ p l r,Rep K H x p∧(Rep K H y (.lst l)∨Rep K H y (.tup l))∧inF p l=some r∧Q (.bl (if neg=true then !r else r)) H
theorem Bb {pins:List (Addr×Obj)}{σ:St}{H:Hp}{s:Shared} (I:Inv X pins σ H s) (hr:fJ k X.A) {x:V}{v:Value}{p:PV}{xs:List V}{its:List Value}{l:List PV}{r:Bool} (rx:RelV x v) (h1:Rep X.K H x p) (rv:Vals xs its) (hl:bA X.K H xs l) (e:inF p l=some r) :
  ∃ f:Value->Bool,(∀ y,y∈its.toArray->SeqAt.EqAt X.A.in1 s y v (f y))∧its.toArray.any f=r:=by
 obtain ⟨g,g1,g2⟩:=Fw e
 have key:∀ w'∈its,∃ j,∃ hj:j < its.length,its[j]=w':=fun w' hw=>by
  obtain ⟨j,hj,e⟩:=List.mem_iff_getElem.mp hw
  exact ⟨j,hj,e⟩
 have look:∀ (j:Nat) (hj:j < its.length),∃ z q,l[j]?=some q∧RelV z its[j]∧Rep X.K H z q∧eqF 31 q p=some (g j):=fun j hj=>by
  obtain ⟨z,hz,rz⟩:=qx rv (j:=j) (by simpa using hj)
  obtain ⟨q,hq,rq⟩:=hl.got hz
  exact ⟨z,q,hq,by simpa using rz,rq,g1 j q hq⟩
 classical
 let f:Value->Bool:=fun w'=>if h:∃ j,∃ hj:j < its.length,its[j]=w' then g (Classical.choose h) else false
 have fe:∀ (j:Nat) (hj:j < its.length),f its[j]=g j:=fun j hj=>by
  have hx:∃ i,∃ hi:i < its.length,its[i]=its[j]:=⟨j,hj,rfl⟩
  show (if h:∃ i,∃ hi:i < its.length,its[i]=its[j] then g (Classical.choose h) else false)=g j
  rw [dif_pos hx]
  obtain ⟨h1',h2'⟩:=Zbt hx
  generalize Classical.choose hx=i at h1' h2' ⊢
  obtain ⟨z,q,_,rz,rq,eq1⟩:=look i h1'
  obtain ⟨z',q',_,rz',rq',eq2⟩:=look j hj
  rw [h2'] at rz
  cases rz.inj rz'
  cases Rep.inj I rq rq'
  rw [eq1] at eq2
  exact Zaa eq2
 refine ⟨f,fun y hy=>?_,?_⟩
 ·obtain ⟨j,hj,e1⟩:=key y (by simpa using hy)
  obtain ⟨z,q,_,rz,rq,eq1⟩:=look j hj
  rw [←e1,fe j hj]
  exact (JR I 31 (A:=X.A.in1) (show X.A.units+1+31 < cLine by have:=DX hr;lia) eq1 rq h1 rz rx).2.1
 ·have hlen:its.length=l.length:=by rw [←rv.length,hl.1]
  rw [g2,show its.toArray.any f=its.any f by simp,Bool.eq_iff_iff,List.any_eq_true,List.any_eq_true]
  constructor
  ·rintro ⟨w',hw,hf⟩
   obtain ⟨j,hj,e1⟩:=key w' hw
   exact ⟨j,Zau.mpr (by lia),by rw [←fe j hj,e1];exact hf⟩
  ·rintro ⟨j,hj,hf⟩
   have hj':j < its.length:=by rw [hlen];exact Zau.mp hj
   exact ⟨its[j],List.getElem_mem hj',by rw [fe j hj'];exact hf⟩
theorem HB (hr:fJ k X.A):OpR X (compareOp .NotIn) (Tc X.K true):=by
 intro pins s σ H x y v u Q I rx ry h
 obtain ⟨p,l,r,h1,h2,e,q⟩:=h
 rcases h2 with h2 | h2
 ·obtain ⟨a,xs,rfl,hq,rr⟩:=h2.bY
  cases ry
  obtain ⟨its,rv,pl,_⟩:=I.list hq
  obtain ⟨f,f1,f2⟩:=Bb I hr rx h1 rv rr e
  exact SeqAt.notIn_listAt f pl.isList f1 (by rw [f2];exact ⟨.bl _,H,I,rfl,q⟩)
 ·obtain ⟨a,xs,rfl,hq,rr⟩:=h2.dh
  cases ry
  obtain ⟨its,rv,pl,_⟩:=I.tuple hq
  obtain ⟨f,f1,f2⟩:=Bb I hr rx h1 rv rr e
  exact SeqAt.notIn_tupleAt f pl f1 (by rw [f2];exact ⟨.bl _,H,I,rfl,q⟩)
noncomputable def yM (K:PySem.W.Frag):R2:=fun x y H Q=>Tc K true x y H Q∨∃ i j,x=.str i∧y=.str j∧Q (.bl (!(!(Builtin.Str.occurrences j i 0 j.length 1).isEmpty))) H
theorem HD (hr:fJ k X.A):OpR X (compareOp .NotIn) (yM X.K):=OpR.or (HB hr) yt
noncomputable def JS (K:PySem.W.Frag):R2:=fun x y H Q=>rI0 (fun i j=>.int (i+j)) x y H Q∨(∃ i j,x=.str i∧y=.str j∧i.length+j.length≤sizeLine∧Q (.str (i++j)) H)∨Pj K x y H Q
theorem bB:OpR X (binaryOp .Add) (JS X.K):=OpR.or Qy (OpR.or DN Mr)
noncomputable def PJ:R2:=fun x y H Q=>rI Dz (fun i j=>.int (i * j)) x y H Q∨∃ z n,x=.str z∧y=.int n∧-(2 ^ 63)≤n∧n < 2 ^ 63∧z.length * n.toNat≤sizeLine∧Q (.str ⟨(List.replicate n.toNat z.cps).foldl (·++·) #[]⟩) H
theorem bH:OpR X (binaryOp .Mult) PJ:=by
 refine OpR.or Qz ?_
 intro pins s σ H x y v u Q I rx ry h
 obtain ⟨z,n,rfl,rfl,h1,h2,h3,q⟩:=h
 obtain ⟨t,rfl⟩:=rx
 obtain ⟨t',rfl⟩:=ry
 have fin:∀ t k,EP X pins σ Q (.str ⟨(List.replicate n.toNat z.cps).foldl (·++·) #[]⟩ t) { s with toks:=k }:=fun t k=>⟨.str _,H,I.tok _,⟨t,rfl⟩,q⟩
 have hr:(decide (n < -(2 ^ 63:Int)) || decide (n ≥ 2 ^ 63))=false:=by
  rw [decide_eq_false (by omega),decide_eq_false (by omega)];rfl
 refine PySem.P.mul_str hr (fun h4 h5=>?_) (fun h4 h5=>?_) ?_
 ·have hn:1≤n:=by omega
  have h6:z.length≤sizeLine:=by
   have:z.length * 1≤z.length * n.toNat:=Nat.mul_le_mul_left _ (by omega)
   omega
  have h7:n≠1:=fun e=>by subst e;simp at h5
  have h8:(z.length:Int) * n≤16777216:=by
   have e:(z.length:Int) * n=((z.length * n.toNat:Nat):Int):=by
    rw [Int.natCast_mul,Za9 (by omega)]
   rw [e]
   have:z.length * n.toNat≤16777216:=h3
   omega
  have h9:(z.length:Int)≤(2 ^ 63 - 1) / n:=by
   apply (Int.le_ediv_iff_mul_le (by omega)).mpr
   omega
  omega
 ·unfold Builtin.Str.tooLong
  exact decide_eq_false (by omega)
 ·by_cases h4:n < 1
  ·rw [if_pos h4]
   have e:n.toNat=0:=by omega
   rw [e] at fin
   exact ⟨ZaZ _,fin _ _⟩
  ·rw [if_neg h4]
   refine post_val_or_str ⟨?_,fun t' k=>?_⟩
   ·have e1:∀ (m:Nat) (acc:Array Nat),((List.replicate m z.cps).foldl (·++·) acc).size=acc.size+m * z.cps.size:=fun m=>by
     induction m with
     | zero=>intro acc;simp
     | succ m ih=>intro acc;rw [List.replicate_succ,List.foldl_cons,ih,Array.size_append,Nat.succ_mul];omega
    have h6:z.length≤sizeLine:=by
     have:z.length * 1≤z.length * n.toNat:=Nat.mul_le_mul_left _ (by omega)
     omega
    split
    ·exact h6
    ·show ((List.replicate n.toNat z.cps).foldl (·++·) #[]).size≤sizeLine
     rw [e1,Zbx]
     show 0+z.length * n.toNat≤_
     omega
   ·have fz:=fin t' k
    split
    ·rename_i h5
     have e:(⟨(List.replicate n.toNat z.cps).foldl (·++·) #[]⟩:Str)=z:=by
      rcases Bool.or_eq_true _ _ ▸ h5 with h | h
      ·have:n=1:=by simpa using h
       subst this
       show (⟨#[]++z.cps⟩:Str)=z
       rw [Array.empty_append]
      ·have h1:z.length=0:=by simpa using h
       have h0:z.cps=#[]:=Array.eq_empty_of_size_eq_zero h1
       have e2:∀ m:Nat,(List.replicate m (#[]:Array Nat)).foldl (·++·) #[]=#[]:=fun m=>by
        induction m with
        | zero=>rfl
        | succ m ih=>rw [List.replicate_succ,List.foldl_cons];exact ih
       cases z with
       | mk c=>cases h0;rw [e2]
     rw [e] at fz
     exact fz
    ·exact fz
noncomputable def Td:R2:=fun x y H Q=>rI0 (fun i j=>.bl (decide (i < j))) x y H Q∨∃ i j,x=.str i∧y=.str j∧Q (.bl (decide (i.cps.toList < j.cps.toList))) H
theorem Ec:OpR X (compareOp .Lt) Td:=OpR.or Sg Hk
theorem HF (l b:Addr) (i1 i2:Array Value) (n1 n2:Nat) (s1 s2:Array (Option Value)) (hz:i1.size+i2.size≤sizeLine) :
  Meets (Builtin.«list.__add__» ⟨[.ref l,.ref b],[]⟩) (fun _ R s=>s.heap.get? l=some ⟨.type "list",none,.seq i1 n1,s1⟩∧s.heap.get? b=some ⟨.type "list",none,.seq i2 n2,s2⟩ ∧
   R (.ok (.ret (Value.ref s.heap.objs.size))) { s with heap:=s.heap.push { cls:=Value.type "list",data:=Data.seq (i1++i2) } }):=by
 refine .of_wp fun prog w A R s h=>?_
 obtain ⟨hp,g,d,tk,os⟩:=s
 obtain ⟨h1,h2,h⟩:=h
 have f1:=AutoSeq1.idx_int
 have f2:=AutoSeq1.sub_tuple_tuple
 have f3:=AutoSeq1.sub_list_list
 have f4:=AutoSeq1.sub_tuple_list
 have f5:=AutoSeq1.sub_list_tuple
 wp_walk using AutoSeq1.wpAny_loadPart' h1,AutoSeq1.wpAny_loadPart' h2
 exact ⟨_,rfl,h⟩
theorem yN:OpR X (binaryOp .Add) (fun x y H Q=>∃ l b xs zs,x=.ref l∧y=.ref b∧SqL X.K H l xs∧SqL X.K H b zs∧xs.length+zs.length≤sizeLine∧∀ p,H p=none->Q (.ref p) (upd H p (.lst (xs++zs)))):=by
 intro pins s σ H x y v u Q I rx ry h
 obtain ⟨l,b,xs,zs,rfl,rfl,hH,hB,hz,q⟩:=h
 cases rx
 cases ry
 obtain ⟨its,r,⟨⟨cl1,dd1,da1,sl1⟩,n1,g1,c1,d1,e1⟩,z1⟩:=I.list hH
 obtain ⟨its2,r2,⟨⟨cl2,dd2,da2,sl2⟩,n2,g2,c2,d2,e2⟩,z2⟩:=I.list hB
 simp only at c1 d1 e1 c2 d2 e2
 subst c1 d1 e1 c2 d2 e2
 have hs:its.toArray.size+its2.toArray.size≤sizeLine:=by rw [List.size_toArray,List.size_toArray,←r.length,←r2.length];exact hz
 refine concat_meets ⟨_,g1,rfl⟩ ⟨_,g2,rfl⟩ noFill_list_add seq_list_add F.slot_list_add F.entry_list_add (F.args_list_add_2 _ _) (HF l b its.toArray its2.toArray n1 n2 sl1 sl2 hs) ⟨g1,g2,?_⟩
 have ea:its.toArray++its2.toArray=(its++its2).toArray:=by simp
 rw [ea]
 exact ⟨.ref _,_,I.Ug (t':=s.toks) (r.append r2) (by rw [List.length_append];lia),rfl,q _ I.fresh⟩
end
theorem noS {α:Type}{r:α}{C:Prop} (e:(none:Option α)=some r):C:=by cases e
noncomputable def opI (c:Int->Int->Bool) (f:Int->Int->PV):PV->PV->Option (Res PV)
 | .int i,.int j=>if c i j=true then some (.ok (f i j)) else none
 | _,_=>none
noncomputable def cT:Int->Int->Bool:=fun _ _=>true
noncomputable def JT:Int->Int->Bool:=fun i j=>decide ((-(2 ^ 64) < i∧i < 2 ^ 64)∨(-(2 ^ 64) < j∧j < 2 ^ 64))
noncomputable def Q0:Int->Int->Bool:=fun _ j=>decide (0 < j∧j < 1073741824)
noncomputable def Te:Int->Int->Bool:=fun _ j=>decide (0 < j)
noncomputable def JV:Int->Int->Bool:=fun i j=>decide (0≤j∧j≤1000000∧i.natAbs < 2 ^ 64)
noncomputable def Tf:Int->Int->Bool:=fun _ j=>decide (0≤j)
noncomputable def jq:=opI cT fun i j=>.int (i - j)
noncomputable def tH:=opI Q0 fun i j=>.int (i / j)
noncomputable def gj:=opI Te fun i j=>.int (i % j)
noncomputable def Fx:=opI JV fun i j=>.int (i ^ j.toNat)
noncomputable def kE:=opI JV fun i j=>.int (i * 2 ^ j.toNat)
noncomputable def tK:=opI Tf fun i j=>.int (i / 2 ^ j.toNat)
noncomputable def m8:=opI cT fun i j=>.int (Builtin.bitAnd i j)
noncomputable def Bc:=opI cT fun i j=>.int (Builtin.bitOr i j)
noncomputable def Ed:=opI cT fun i j=>.bl (decide (j < i))
noncomputable def Nb:=opI cT fun i j=>.bl (decide (j≤i))
noncomputable def cB:PV->PV->Option (Res PV)
 | .int i,.int j=>some (.ok (.int (i+j)))
 | .str i,.str j=>if i.length+j.length≤sizeLine then some (.ok (.str (i++j))) else none
 | .tup l,.tup m=>if l≠[]∧l.length+m.length≤sizeLine then some (.ok (.tup (l++m))) else none
 | _,_=>none
noncomputable def Q3 (z:Str) (n:Nat):Str:=⟨(List.replicate n z.cps).foldl (·++·) #[]⟩
noncomputable def cR:PV->PV->Option (Res PV)
 | .int i,.int j=>if JT i j=true then some (.ok (.int (i * j))) else none
 | .str z,.int n=>if -(2 ^ 63)≤n∧n < 2 ^ 63∧z.length * n.toNat≤sizeLine then some (.ok (.str (Q3 z n.toNat))) else none
 | _,_=>none
noncomputable def HJ:PV->PV->Option (Res PV)
 | .int i,.int j=>some (.ok (.bl (decide (i < j))))
 | .str i,.str j=>some (.ok (.bl (decide (i.cps.toList < j.cps.toList))))
 | _,_=>none
noncomputable def jY (p q:PV):Option (Res PV):=match eqF 32 p q with
 | some r=>some (.ok (.bl r))
 | none=>none
noncomputable def Bd (p q:PV):Option (Res PV):=match eqF 32 p q with
 | some r=>some (.ok (.bl (!r)))
 | none=>none
noncomputable def inU (p:PV):PV->Option Bool
 | .lst l=>inF p l
 | .tup l=>inF p l
 | .str j=>match p with
  | .str i=>some (!(Builtin.Str.occurrences j i 0 j.length 1).isEmpty)
  | _=>none
 | _=>none
noncomputable def oE (p q:PV):Option (Res PV):=match inU p q with
 | some r=>some (.ok (.bl (!r)))
 | none=>none
noncomputable def PV.xx:PV->Bool
 | .non=>true
 | _=>false
noncomputable def Ef (p q:PV):Option (Res PV):=match q with
 | .non=>some (.ok (.bl (!p.xx)))
 | _=>none
noncomputable def ofO (x:Option PV):Option (Res PV):=match x with
 | some p=>some (.ok p)
 | none=>none
noncomputable def bV:PV->PV->Option (Res PV)
 | .lst l,.int i=>ofO (atI l i)
 | .tup l,.int i=>ofO (atI l i)
 | .str z,.int i=>if z.length≤sizeLine then ofO ((atI z.cps.toList i).map fun c=>.str ⟨#[c]⟩) else none
 | _,_=>none
noncomputable def JW:List PV->PV->Option (Res PV)
 | l,.int i=>ofO (atI l i)
 | _,_=>none
section
variable {K:PySem.W.Frag}{C:Cg}{F H:Hp}
theorem Tg {i j:Int} (h:Q0 i j=true):Qx i j:=of_decide_eq_true (p:=0 < j∧j < 1073741824) h
theorem PK {i j:Int} (h:JV i j=true):Jo i j:=of_decide_eq_true (p:=0≤j∧j≤1000000∧i.natAbs < 2 ^ 64) h
theorem Th {i j:Int} (h:JT i j=true):Dz i j:=of_decide_eq_true (p:=(-(2 ^ 64) < i∧i < 2 ^ 64)∨(-(2 ^ 64) < j∧j < 2 ^ 64)) h
theorem Be {c:Int->Int->Bool}{f:Int->Int->PV}{cond:Int->Int->Prop}{fv:Int->Int->V} (hc:∀ i j,c i j=true->cond i j) (hf:∀ i j F,Rep K F (fv i j) (f i j)):R2M C (aF K) (aF K) (aF K) (rI cond fv) (opI c f):=by
 intro F H x y a b res Q s ha hb e P
 have inv:(∃ i j,a=.int i∧b=.int j):=by
  clear P ha hb
  cases a <;> first | exact noS e | (cases b <;> first | exact noS e | exact ⟨_,_,rfl,rfl⟩)
 obtain ⟨i,j,rfl,rfl⟩:=inv
 cases Rep.bu ha
 cases Rep.bu hb
 have e:(if c i j=true then some (Res.ok (f i j)) else none)=some res:=e
 split at e
 ·rename_i h
  cases e
  exact ⟨i,j,rfl,rfl,hc i j h,P _ F H (Up.refl s) (hf i j F)⟩
 ·cases e
theorem uU {f:Int->Int->PV}{fv:Int->Int->V} (hf:∀ i j F,Rep K F (fv i j) (f i j)):R2M C (aF K) (aF K) (aF K) (rI0 fv) (opI cT f):=by
 intro F H x y a b res Q s ha hb e P
 have inv:(∃ i j,a=.int i∧b=.int j):=by
  clear P ha hb
  cases a <;> first | exact noS e | (cases b <;> first | exact noS e | exact ⟨_,_,rfl,rfl⟩)
 obtain ⟨i,j,rfl,rfl⟩:=inv
 cases Rep.bu ha
 cases Rep.bu hb
 cases e
 exact ⟨i,j,rfl,rfl,P _ F H (Up.refl s) (hf i j F)⟩
theorem mJ:R2M C (aF K) (aF K) (aF K) (rI0 fun i j=>.int (i - j)) jq:=uU fun _ _ _=>.int
theorem Bf:R2M C (aF K) (aF K) (aF K) (rI Qx fun i j=>.int (i / j)) tH:=Be (fun _ _ h=>Tg h) fun _ _ _=>.int
theorem iC:R2M C (aF K) (aF K) (aF K) (rI (fun _ j=>0 < j) fun i j=>.int (i % j)) gj:=Be (fun _ _ h=>of_decide_eq_true h) fun _ _ _=>.int
theorem Ti:R2M C (aF K) (aF K) (aF K) (rI Jo fun i j=>.int (i ^ j.toNat)) Fx:=Be (fun _ _ h=>PK h) fun _ _ _=>.int
theorem oY:R2M C (aF K) (aF K) (aF K) (rI Jo fun i j=>.int (i * 2 ^ j.toNat)) kE:=Be (fun _ _ h=>PK h) fun _ _ _=>.int
theorem Bg:R2M C (aF K) (aF K) (aF K) (rI (fun _ j=>0≤j) fun i j=>.int (i / 2 ^ j.toNat)) tK:=Be (fun _ _ h=>of_decide_eq_true h) fun _ _ _=>.int
theorem tL:R2M C (aF K) (aF K) (aF K) (rI0 fun i j=>.int (Builtin.bitAnd i j)) m8:=uU fun _ _ _=>.int
theorem JX:R2M C (aF K) (aF K) (aF K) (rI0 fun i j=>.int (Builtin.bitOr i j)) Bc:=uU fun _ _ _=>.int
theorem Nf:R2M C (aF K) (aF K) (aF K) (rI0 fun i j=>.bl (decide (j < i))) Ed:=uU fun _ _ _=>.bl
theorem Ul:R2M C (aF K) (aF K) (aF K) (rI0 fun i j=>.bl (decide (j≤i))) Nb:=uU fun _ _ _=>.bl
theorem cU:R2M C (aF K) (aF K) (aF K) (JS K) cB:=by
 intro F H x y a b res Q s ha hb e P
 have inv:(∃ i j,a=.int i∧b=.int j)∨(∃ i j,a=.str i∧b=.str j)∨(∃ l m,a=.tup l∧b=.tup m):=by
  clear P ha hb
  cases a <;> first | exact noS e | (cases b <;> first | exact noS e | exact .inl ⟨_,_,rfl,rfl⟩ | exact .inr (.inl ⟨_,_,rfl,rfl⟩) | exact .inr (.inr ⟨_,_,rfl,rfl⟩))
 rcases inv with ⟨i,j,rfl,rfl⟩ | ⟨i,j,rfl,rfl⟩ | ⟨l,m,rfl,rfl⟩
 ·cases Rep.bu ha
  cases Rep.bu hb
  cases e
  exact .inl ⟨i,j,rfl,rfl,P _ F H (Up.refl s) .int⟩
 ·cases Rep.bU ha
  cases Rep.bU hb
  have e:(if i.length+j.length≤sizeLine then some (Res.ok (PV.str (i++j))) else none)=some res:=e
  split at e
  ·rename_i h
   cases e
   exact .inr (.inl ⟨i,j,rfl,rfl,h,P _ F H (Up.refl s) .str⟩)
  ·cases e
 ·have e:(if l≠[]∧l.length+m.length≤sizeLine then some (Res.ok (PV.tup (l++m))) else none)=some res:=e
  split at e
  ·rename_i h
   cases e
   obtain ⟨a1,xs,rfl,h1,r1⟩:=Rep.dh ha
   obtain ⟨a2,ys,rfl,h2,r2⟩:=Rep.dh hb
   have hx:xs≠[]:=fun z=>h.1 (by have:=r1.1;rw [z] at this;simpa using this.symm)
   refine .inr (.inr ⟨a1,a2,xs,ys,rfl,rfl,s.tup h1,s.tup h2,hx,by rw [r1.1,r2.1];exact h.2,fun z=>?_,fun _ p hp=>?_⟩)
   ·subst z
    have hm:m=[]:=by have:=r2.1;simpa using this.symm
    subst hm
    rw [Za4] at P
    exact P _ F H (Up.refl s) ha
   ·have un:=Up.new (o:=.tup (xs++ys)) s hp
    exact P _ _ _ un (.tup aJ (r1.append r2).1 ((r1.append r2).up un.ff).2)
  ·cases e
theorem dF:R2M C (aF K) (aF K) (aF K) PJ cR:=by
 intro F H x y a b res Q s ha hb e P
 have inv:(∃ i j,a=.int i∧b=.int j)∨(∃ z n,a=.str z∧b=.int n):=by
  clear P ha hb
  cases a <;> first | exact noS e | (cases b <;> first | exact noS e | exact .inl ⟨_,_,rfl,rfl⟩ | exact .inr ⟨_,_,rfl,rfl⟩)
 rcases inv with ⟨i,j,rfl,rfl⟩ | ⟨z,n,rfl,rfl⟩
 ·cases Rep.bu ha
  cases Rep.bu hb
  have e:(if JT i j=true then some (Res.ok (PV.int (i * j))) else none)=some res:=e
  split at e
  ·rename_i h
   cases e
   exact .inl ⟨i,j,rfl,rfl,Th h,P _ F H (Up.refl s) .int⟩
  ·cases e
 ·cases Rep.bU ha
  cases Rep.bu hb
  have e:(if -(2 ^ 63)≤n∧n < 2 ^ 63∧z.length * n.toNat≤sizeLine then some (Res.ok (PV.str (Q3 z n.toNat))) else none)=some res:=e
  split at e
  ·rename_i h
   cases e
   exact .inr ⟨z,n,rfl,rfl,h.1,h.2.1,h.2.2,P _ F H (Up.refl s) .str⟩
  ·cases e
theorem Q4:R2M C (aF K) (aF K) (aF K) Td HJ:=by
 intro F H x y a b res Q s ha hb e P
 have inv:(∃ i j,a=.int i∧b=.int j)∨(∃ i j,a=.str i∧b=.str j):=by
  clear P ha hb
  cases a <;> first | exact noS e | (cases b <;> first | exact noS e | exact .inl ⟨_,_,rfl,rfl⟩ | exact .inr ⟨_,_,rfl,rfl⟩)
 rcases inv with ⟨i,j,rfl,rfl⟩ | ⟨i,j,rfl,rfl⟩
 ·cases Rep.bu ha
  cases Rep.bu hb
  cases e
  exact .inl ⟨i,j,rfl,rfl,P _ F H (Up.refl s) .bl⟩
 ·cases Rep.bU ha
  cases Rep.bU hb
  cases e
  exact .inr ⟨i,j,rfl,rfl,P _ F H (Up.refl s) .bl⟩
theorem qH:R2M C (aH K) (aH K) (aF K) (S8 K) jY:=by
 intro F H x y a b res Q s ha hb e P
 unfold jY at e
 split at e
 ·rename_i r h
  cases e
  exact ⟨a,b,r,ha,hb,h,P _ F H (Up.refl s) .bl⟩
 ·cases e
theorem Um:R2M C (aH K) (aH K) (aF K) (S9 K) Bd:=by
 intro F H x y a b res Q s ha hb e P
 unfold Bd at e
 split at e
 ·rename_i r h
  cases e
  exact ⟨a,b,r,ha,hb,h,P _ F H (Up.refl s) .bl⟩
 ·cases e
theorem Ng:R2M C (aH K) (aH K) (aF K) (yM K) oE:=by
 intro F H x y a b res Q s ha hb e P
 unfold oE at e
 split at e
 ·rename_i r h
  cases e
  match b,h with
  | .lst l,h=>exact .inl ⟨a,l,r,ha,.inl hb,h,P _ F H (Up.refl s) .bl⟩
  | .tup l,h=>exact .inl ⟨a,l,r,ha,.inr hb,h,P _ F H (Up.refl s) .bl⟩
  | .str j,h =>
   match a,h with
   | .str i,h =>
    cases h
    exact .inr ⟨i,j,Rep.bU ha,Rep.bU hb,P _ F H (Up.refl s) .bl⟩
 ·cases e
theorem JZ {v:V}{p:PV} (h:Rep K F v p):decide (v=.non)=p.xx:=by
 cases h <;> first | rfl | exact decide_eq_false (by intro z;cases z)
theorem Q5:R2M C (aH K) (aF K) (aF K) (fun x y H Q=>y=.non∧Q (.bl (!decide (x=.non))) H) Ef:=by
 intro F H x y a b res Q s ha hb e P
 match b,e with
 | .non,e =>
  cases e
  rw [JZ ha]
  exact ⟨Rep.fj hb,P _ F H (Up.refl s) .bl⟩
theorem yO {xs:List V}{l:List PV}{i:Int}{p:PV} (r:bA K F xs l) (h:atI l i=some p):∃ v,atI xs i=some v∧Rep K F v p:=by
 unfold atI at h ⊢
 rw [r.1]
 cases e:ixN l.length i with
 | none=>rw [e] at h;cases h
 | some j =>
  rw [e] at h
  exact r.get h
theorem qI {x:Option PV}{res:Res PV} (h:ofO x=some res):∃ p,x=some p∧res=.ok p:=by
 cases x with
 | none=>cases h
 | some p=>cases h;exact ⟨p,rfl,rfl⟩
theorem cz:R2M C (aF K) (aF K) (aF K) (rIx K) bV:=by
 intro F H x y a b res Q s ha hb e P
 have inv:(∃ l i,a=.lst l∧b=.int i)∨(∃ l i,a=.tup l∧b=.int i)∨(∃ z i,a=.str z∧b=.int i):=by
  clear P ha hb
  cases a <;> first | exact noS e | (cases b <;> first | exact noS e | exact .inl ⟨_,_,rfl,rfl⟩ | exact .inr (.inl ⟨_,_,rfl,rfl⟩) | exact .inr (.inr ⟨_,_,rfl,rfl⟩))
 rcases inv with ⟨l,i,rfl,rfl⟩ | ⟨l,i,rfl,rfl⟩ | ⟨z,i,rfl,rfl⟩
 ·cases Rep.bu hb
  obtain ⟨p,e1,rfl⟩:=qI e
  obtain ⟨a1,xs,rfl,h1,r1⟩:=Rep.bY ha
  obtain ⟨v,e2,rv⟩:=yO r1 e1
  exact .inl ⟨a1,xs,i,v,rfl,rfl,s.seq h1,e2,P _ F H (Up.refl s) rv⟩
 ·cases Rep.bu hb
  obtain ⟨p,e1,rfl⟩:=qI e
  obtain ⟨a1,xs,rfl,h1,r1⟩:=Rep.dh ha
  obtain ⟨v,e2,rv⟩:=yO r1 e1
  exact .inr (.inl ⟨a1,xs,i,v,rfl,rfl,s.tup h1,e2,P _ F H (Up.refl s) rv⟩)
 ·cases Rep.bu hb
  cases Rep.bU ha
  have e:(if z.length≤sizeLine then ofO ((atI z.cps.toList i).map fun c=>PV.str ⟨#[c]⟩) else none)=some res:=e
  split at e
  ·rename_i hz
   obtain ⟨p,e1,rfl⟩:=qI e
   cases e2:atI z.cps.toList i with
   | none=>rw [e2] at e1;cases e1
   | some c =>
    rw [e2] at e1
    cases e1
    exact .inr (.inr ⟨z,i,c,rfl,rfl,hz,e2,P _ F H (Up.refl s) .str⟩)
  ·cases e
theorem Tj:R2M C (aV K) (aF K) (aF K) (rIx K) JW:=by
 intro F H x y a b res Q s ha hb e P
 match b,e with
 | .int i,e =>
  cases Rep.bu hb
  obtain ⟨p,e1,rfl⟩:=qI e
  obtain ⟨a1,xs,rfl,h1,r1⟩:=ha
  obtain ⟨v,e2,rv⟩:=yO r1 e1
  exact .inl ⟨a1,xs,i,v,rfl,rfl,h1,e2,P _ F H (Up.refl s) rv⟩
noncomputable def xF (l m:List PV):Option (Res PV):=if l.length+m.length≤sizeLine then some (.ok (.lst (l++m))) else none
noncomputable def Tn (K:PySem.W.Frag):R2:=fun x y H Q=>∃ l b xs zs,x=.ref l∧y=.ref b∧SqL K H l xs∧SqL K H b zs∧xs.length+zs.length≤sizeLine∧∀ p,H p=none->Q (.ref p) (upd H p (.lst (xs++zs)))
theorem J0:R2O K C (aV K) (aV K) (Tn K) xF:=by
 intro F H x y a b res Q s ha hb e P
 unfold xF at e
 split at e
 ·rename_i h
  cases e
  obtain ⟨a1,xs,rfl,h1,r1⟩:=ha
  obtain ⟨a2,ys,rfl,h2,r2⟩:=hb
  refine ⟨a1,a2,xs,ys,rfl,rfl,h1,h2,by rw [r1.1,r2.1];exact h,fun p hp=>?_⟩
  exact P p F _ (Up.Eb s hp) hp (s.free hp) ⟨_,aJ,r1.append r2⟩
 ·cases e
variable {ta tb te:TE}
noncomputable def MP' (K:PySem.W.Frag) (C:Cg) (t:TO) (f:Fn (Option Int)):Prop :=
 ∀ F H σ ρ Q r,RE K C.toCf F H σ ρ->f ρ=some r->Pr C F (fun o=>∀ F' H',Up F H F' H'->Q o H') r->t σ H Q
noncomputable def mPn:Fn (Option Int):=fun _=>some (.ok none)
noncomputable def asInt:PV->Option (Res (Option Int))
 | .int i=>some (.ok (some i))
 | _=>none
theorem Nh:MP' K C Fv mPn:=fun F H σ ρ Q r R e P=>by
 cases e
 exact P F H (Up.refl R.rb.sub)
theorem Ni {f:Fn PV} (h:MJ K C (aF K) te f):MP' K C (Ph te) (m1 asInt f):=by
 intro F H σ ρ Q r R e P
 refine h.run R e P fun p v F1 H1 hk u a=>?_
 match p,hk with
 | .int i,hk =>
  cases Rep.bu a
  cases hk
  exact ⟨i,rfl,P F1 H1 u⟩
theorem MP'.run {β:Type}{t:TO}{f:Fn (Option Int)}{σ:St}{ρ:Rho}{Q:Option Int->Hp->Prop}{ok:β->Prop}{k:Option Int->Option (Res β)}{r:Res β} (h:MP' K C t f) (R:RE K C.toCf F H σ ρ) (hb:bnd (f ρ) k=some r) (P:Pr C F ok r)
  (go:∀ o F1 H1,k o=some r->Up F H F1 H1->Q o H1):t σ H Q:=by
 rcases bQ hb with ⟨z,e,rfl⟩ | ⟨p,e,hk⟩
 ·exact h F H σ ρ Q _ R e P
 ·exact h F H σ ρ Q _ R e fun F1 H1 u=>go p F1 H1 hk u
noncomputable def Eg (l:List PV) (lo hi:Option Int):List PV:=(l.drop (HT.sIx l.length 0 lo)).take (HT.sIx l.length l.length hi - HT.sIx l.length 0 lo)
theorem bA.cut {xs:List V}{l:List PV} (h:bA K F xs l) (lo hi:Option Int):bA K F (Hm xs lo hi) (Eg l lo hi):=by
 unfold Hm Eg
 rw [h.1]
 exact (h.drop _).take _
noncomputable def Nj (f:Fn (List PV)) (lo hi:Fn (Option Int)):Fn PV:=fun ρ=>bnd (f ρ) fun l=>bnd (lo ρ) fun a=>bnd (hi ρ) fun b=>some (.ok (.lst (Eg l a b)))
theorem Q6 {f:Fn (List PV)}{lo hi:Fn (Option Int)}{tl th:TO} (h:MJ K C (aV K) te f) (hl:MP' K C tl lo) (hh:MP' K C th hi):MO K C (tSl (Sy K) te tl th) (Nj f lo hi):=by
 intro F H σ ρ Q r R e P
 refine h.run R e P fun l v F1 H1 hk u a=>?_
 refine hl.run (R.up u) hk (P.uO u) fun o F2 H2 hk2 u2=>?_
 refine hh.run (R.up (u.trans u2)) hk2 (P.uO (u.trans u2)) fun o2 F3 H3 hk3 u3=>?_
 cases hk3
 obtain ⟨b,xs,rfl,h1,r1⟩:=a
 have u23:=u2.trans u3
 refine ⟨b,xs,rfl,u23.hh.seq h1,fun p hp=>?_⟩
 exact P p F3 _ (u.trans (u23.trans (Up.Eb u3.fh hp))) ((u.hh.trans u23.hh).free hp) (u3.fh.free hp) ⟨_,aJ,(r1.up u23.ff).cut _ _⟩
end
noncomputable def PL (K:PySem.W.Frag) (tl:TE):TI:=fun σ H R=>tl σ H fun x H1=>(∃ a,x=.ref a∧(∃ xs,SqL K H1 a xs)∧R (Itl K a) H1)∨(∃ a,x=.ref a∧(∃ xs,SqT K H1 a xs)∧R (Itt K a) H1)∨∃ z,x=.str z∧R (Itf (sgn z) z.cps.size) H1
theorem oF {X:Cx}{tg l:Expr}{tl:TE} (hl:PE X l tl):PI X tg l (PL X.K tl):=by
 intro pins s σ H R I h
 refine thn (hl pins s σ H _ I h) ?_
 rintro v s1 ⟨x,H1,I1,r1,q1⟩
 have keep:∀ (o:Obj),Inv X pins σ H1 { s1 with heap:=s1.heap.push o }:=fun o=>I1.kept (t':=s1.toks) fun b ob e=>Zac _ e
 have fp:∀ b∈[s1.heap.objs.size],uE X pins H1 b:=fun b hb=>by
  have e:b=s1.heap.objs.size:=by simpa using hb
  subst e
  exact I1.Ah (Zah _) (I1.hok.fresh (Zah _))
 rcases q1 with ⟨a,rfl,⟨xs,hq⟩,q⟩ | ⟨a,rfl,⟨xs,hq⟩,q⟩ | ⟨z,rfl,q⟩
 ·cases r1
  obtain ⟨its,rv,p,hz⟩:=I1.list hq
  exact wpAny_pyIter_list p.isList ⟨_,[_],_,_,H1,rfl,keep _,Hi a _,⟨_,Zal _ rfl,rfl,rfl⟩,fp,q⟩
 ·cases r1
  obtain ⟨its,rv,p,hz⟩:=I1.tuple hq
  exact wpAny_pyIter_tuple (show s1.heap.IsTuple a its.toArray from p) ⟨_,[_],_,_,H1,rfl,keep _,Dw a _,⟨_,Zal _ rfl,rfl,rfl⟩,fp,q⟩
 ·obtain ⟨t,rfl⟩:=r1
  exact wpAny_pyIter_strU ⟨_,[_],_,_,H1,rfl,keep _,Jt _ z t,⟨_,Zal _ rfl,rfl,rfl⟩,fp,q⟩
section
variable {K:PySem.W.Frag}{C:Cg}{F H:Hp}{σ:St}{ρ:Rho}{te ta tb:TE}{tA:TA}{a:Addr}{xs:List V}{l:List PV}
noncomputable def signs (z:Str):List PV:=z.cps.toList.map fun c=>.str ⟨#[c]⟩
noncomputable def oZ:PV->Option (Res (List PV))
 | .lst l=>some (.ok l)
 | .tup l=>some (.ok l)
 | .str z=>some (.ok (signs z))
 | _=>none
theorem J1 (h:SqL K F a xs) (r:bA K F xs l):ItR K (Itl K a) F l where
 stop:=fun F' H' s s'=>⟨xs,(s.trans s').seq h,by rw [r.1];exact Zah _⟩
 go:=fun i F' H' hi s s'=>⟨xs,xs[i]'(by rw [r.1];exact hi),(s.trans s').seq h,by simp⟩
 yld:=fun i F' H' x H'' hi s s' y=>by
  obtain ⟨rfl,y⟩:=y
  have e:=y xs ((s.trans s').seq h)
  obtain ⟨p,e2,rp⟩:=r.got e
  exact ⟨F',p,Up.refl s',e2,rp.up s⟩
theorem Nk (h:SqT K F a xs) (r:bA K F xs l):ItR K (Itt K a) F l where
 stop:=fun F' H' s s'=>⟨xs,(s.trans s').tup h,by rw [r.1];exact Zah _⟩
 go:=fun i F' H' hi s s'=>⟨xs,xs[i]'(by rw [r.1];exact hi),(s.trans s').tup h,by simp⟩
 yld:=fun i F' H' x H'' hi s s' y=>by
  obtain ⟨rfl,y⟩:=y
  have e:=y xs ((s.trans s').tup h)
  obtain ⟨p,e2,rp⟩:=r.got e
  exact ⟨F',p,Up.refl s',e2,rp.up s⟩
theorem Nm (z:Str):ItR K (Itf (sgn z) z.cps.size) F (signs z) where
 stop:=fun F' H' s s'=>by simp [signs,Itf]
 go:=fun i F' H' hi s s'=>by simpa [signs,Itf] using hi
 yld:=fun i F' H' x H'' hi s s' y=>by
  obtain ⟨rfl,rfl⟩:=y
  have hi':i < z.cps.size:=by simpa [signs] using hi
  refine ⟨F',.str ⟨#[z.cps.getD i 0]⟩,Up.refl s',?_,.str⟩
  unfold signs
  rw [List.getElem?_map,Zax,Array.getD_eq_getD_getElem?,Zat hi']
  rfl
theorem oG {f:Fn PV} (h:MJ K C (aF K) te f):MI K C (PL K te) (m1 oZ f):=by
 intro F H σ ρ R' r R e P
 refine h.run R e P fun p v F1 H1 hk u a=>?_
 match p,hk with
 | .lst l,hk =>
  cases hk
  obtain ⟨b,xs,rfl,h1,r1⟩:=Rep.bY a
  exact .inl ⟨b,rfl,⟨xs,u.fh.seq h1⟩,P _ F1 H1 u (J1 h1 r1)⟩
 | .tup l,hk =>
  cases hk
  obtain ⟨b,xs,rfl,h1,r1⟩:=Rep.dh a
  exact .inr (.inl ⟨b,rfl,⟨xs,u.fh.tup h1⟩,P _ F1 H1 u (Nk h1 r1)⟩)
 | .str z,hk =>
  cases hk
  cases Rep.bU a
  exact .inr (.inr ⟨z,rfl,P _ F1 H1 u (Nm z)⟩)
noncomputable def m9 (lo:Int) (n:Nat):List PV:=(List.range n).map fun (i:Nat)=>.int (lo+(i:Int))
theorem dJ (lo:Int) (n:Nat):(m9 lo n).length=n:=by simp [m9]
theorem Fy (lo:Int) (n:Nat):ItR K (Itr lo n) F (m9 lo n) where
 stop:=fun F' H' s s'=>by rw [dJ];exact Zah _
 go:=fun i F' H' hi s s'=>by rw [dJ] at hi;exact hi
 yld:=fun i F' H' x H'' hi s s' y=>by
  obtain ⟨rfl,rfl⟩:=y
  rw [dJ] at hi
  refine ⟨F',.int (lo+i),Up.refl s',?_,.int⟩
  unfold m9
  rw [List.getElem?_map,Zba hi]
  rfl
noncomputable def lG:List PV->Option (Res (List PV))
 | [.int j]=>if -(2 ^ 62)≤j∧j < 2 ^ 62 then some (.ok (m9 0 j.toNat)) else none
 | _=>none
noncomputable def yP:List PV->Option (Res (List PV))
 | [.int i,.int j]=>if -(2 ^ 62)≤i∧i < 2 ^ 62∧-(2 ^ 62)≤j∧j < 2 ^ 62 then some (.ok (m9 i (j - i).toNat)) else none
 | _=>none
theorem lH {f:Fn (List PV)} (h:MA K C tA f):MI K C (O9 tA) (m1 lG f):=by
 intro F H σ ρ R' r R e P
 refine h.run R e P fun l xs F1 H1 hk u a=>?_
 have inv:∃ j,l=[.int j]:=by
  clear P u a
  rcases l with _ | ⟨x,_ | ⟨y,l⟩⟩ <;> first | exact noS hk | (cases x <;> first | exact noS hk | exact ⟨_,rfl⟩)
 obtain ⟨j,rfl⟩:=inv
 have hk:(if -(2 ^ 62)≤j∧j < 2 ^ 62 then some (Res.ok (m9 0 j.toNat)) else none)=some r:=hk
 split at hk
 ·rename_i hj
  cases hk
  obtain ⟨v,ys,rfl,r1,r2⟩:=a.dD
  cases r2.iu
  cases Rep.bu r1
  exact ⟨j,rfl,hj.1,hj.2,P _ F1 H1 u (Fy 0 j.toNat)⟩
 ·cases hk
theorem Fz {f:Fn (List PV)} (h:MA K C tA f):MI K C (Pb tA) (m1 yP f):=by
 intro F H σ ρ R' r R e P
 refine h.run R e P fun l xs F1 H1 hk u a=>?_
 have inv:∃ i j,l=[.int i,.int j]:=by
  clear P u a
  rcases l with _ | ⟨x,_ | ⟨y,_ | ⟨z,l⟩⟩⟩ <;> first | exact noS hk | (cases x <;> first | exact noS hk | (cases y <;> first | exact noS hk | exact ⟨_,_,rfl⟩))
 obtain ⟨i,j,rfl⟩:=inv
 have hk:(if -(2 ^ 62)≤i∧i < 2 ^ 62∧-(2 ^ 62)≤j∧j < 2 ^ 62 then some (Res.ok (m9 i (j - i).toNat)) else none)=some r:=hk
 split at hk
 ·rename_i hj
  cases hk
  obtain ⟨v,ys,rfl,r1,r2⟩:=a.dD
  obtain ⟨w,zs,rfl,r3,r4⟩:=r2.dD
  cases r4.iu
  cases Rep.bu r1
  cases Rep.bu r3
  exact ⟨i,j,rfl,hj,P _ F1 H1 u (Fy i (j - i).toNat)⟩
 ·cases hk
noncomputable def tM (l:List PV):List PV:=l.mapIdx fun (i:Nat) x=>.tup [.int i,x]
noncomputable def Eh:List PV->Option (Res (List PV))
 | [.lst l]=>some (.ok (tM l))
 | _=>none
theorem Np {f:Fn (List PV)} (h:MA K C tA f):MI K C (Pu K tA) (m1 Eh f):=by
 intro F H σ ρ R' r R e P
 refine h.run R e P fun l xs F1 H1 hk u a=>?_
 have inv:∃ m,l=[.lst m]:=by
  clear P u a
  rcases l with _ | ⟨x,_ | ⟨y,l⟩⟩ <;> first | exact noS hk | (cases x <;> first | exact noS hk | exact ⟨_,rfl⟩)
 obtain ⟨l,rfl⟩:=inv
 cases hk
 obtain ⟨v,ys,rfl,r1,r2⟩:=a.dD
 cases r2.iu
 obtain ⟨b,xs,rfl,h1,r1⟩:=Rep.bY r1
 have hl:(tM l).length=l.length:=by simp [tM]
 refine ⟨b,rfl,⟨xs,u.fh.seq h1⟩,P _ F1 H1 u ⟨fun F' H' s s'=>?_,fun i F' H' hi s s'=>?_,fun i F' H' x H'' hi s s' y=>?_⟩⟩
 ·exact ⟨xs,(s.trans s').seq h1,by rw [hl,r1.1];exact Zah _⟩
 ·rw [hl] at hi
  exact ⟨xs,xs[i]'(by rw [r1.1];exact hi),(s.trans s').seq h1,by simp⟩
 ·obtain ⟨p,y,hp,rfl,rfl,hy⟩:=y
  have e:=hy xs ((s.trans s').seq h1)
  obtain ⟨q,e2,rq⟩:=r1.got e
  have un:=Up.new (o:=.tup [.int i,y]) s' hp
  refine ⟨_,.tup [.int i,q],un,?_,.tup aJ rfl fun j x p hx hp'=>?_⟩
  ·unfold tM
   rw [List.getElem?_mapIdx,e2]
   rfl
  ·match j with
   | 0=>simp at hx hp';subst hx hp';exact .int
   | 1=>simp at hx hp';subst hx hp';exact rq.up (s.trans un.ff)
   | j+2=>simp at hx
noncomputable def NoO (ρ:Rho):Prop:=∀ (j:Nat) q,ρ[j]?≠some (some (.ow q))∧ρ[j]?≠some (some (.dp q))
noncomputable def Wr (T:List Nat) (tg:PV->Rho->Option Rho):Prop:=∀ x ρ ρ',tg x ρ=some ρ'->ρ'.length=ρ.length∧(∀ j,j ∉ T->ρ'[j]?=ρ[j]?)∧(NoO ρ->NoO ρ')
noncomputable def WrS (T:List Nat) (tg:List PV->Rho->Option Rho):Prop:=∀ x ρ ρ',tg x ρ=some ρ'->ρ'.length=ρ.length∧(∀ j,j ∉ T->ρ'[j]?=ρ[j]?)∧(NoO ρ->NoO ρ')
theorem dZ (i:Nat):Wr [i] (gN i):=fun x ρ ρ' e=>by
 cases e
 refine ⟨by simp,fun j hj=>?_,fun h j q=>⟨fun e=>?_,fun e=>?_⟩⟩
 ·rw [Zam (by simpa using Za8 (by simpa using hj))]
 ·rcases get_set e with ⟨_,e2⟩ | ⟨_,e2⟩
  ·cases e2
  ·exact (h j q).1 e2
 ·rcases get_set e with ⟨_,e2⟩ | ⟨_,e2⟩
  ·cases e2
  ·exact (h j q).2 e2
theorem ue:WrS [] gsNil:=fun x ρ ρ' e=>by
 cases x with
 | nil=>cases e;exact ⟨rfl,fun _ _=>rfl,fun h=>h⟩
 | cons p l=>cases e
theorem iD {T U:List Nat}{t:PV->Rho->Option Rho}{u:List PV->Rho->Option Rho} (h:Wr T t) (hs:WrS U u):WrS (T++U) (gsCons t u):=fun x ρ ρ' e=>by
 cases x with
 | nil=>cases e
 | cons p l =>
  have e:(match t p ρ with
   | some ρ'=>u l ρ'
   | none=>none)=some ρ':=e
  split at e
  ·rename_i ρ1 h1
   obtain ⟨a1,a2,a3⟩:=h p ρ ρ1 h1
   obtain ⟨b1,b2,b3⟩:=hs l ρ1 ρ' e
   exact ⟨b1.trans a1,fun j hj=>(b2 j fun z=>hj (ZaA _ z)).trans (a2 j fun z=>hj (Zbh _ z)),fun z=>b3 (a3 z)⟩
  ·cases e
theorem yQ {n:Nat}{U:List Nat}{u:List PV->Rho->Option Rho} (hs:WrS U u):Wr U (gT n u):=fun x ρ ρ' e=>by
 unfold gT at e
 split at e
 ·split at e
  ·exact hs _ ρ ρ' e
  ·cases e
 ·cases e
noncomputable def shOnly:Option Sl->Option Sl
 | some (.sh p)=>some (.sh p)
 | _=>none
noncomputable def frR (fr:List (Option Nat)) (ρ:Rho):Rho:=fr.map fun o=>match o with
 | some i=>match ρ[i]? with
  | some v=>shOnly v
  | none=>none
 | none=>none
noncomputable def d7 (tg:PV->Rho->Option Rho) (tst:Fn Bool) (el:Fn PV) (ρb:Rho):List PV->Option (Res (List PV))
 | []=>some (.ok [])
 | x::xs=>match tg x ρb with
  | none=>none
  | some ρ1=>bnd (tst ρ1) fun b=>if b=true then bnd (el ρ1) fun p=>bnd (d7 tg tst el ρb xs) fun r=>some (.ok (p::r)) else d7 tg tst el ρb xs
noncomputable def jr (it:Fn (List PV)) (fr:List (Option Nat)) (tg:PV->Rho->Option Rho) (tst:Fn Bool) (el:Fn PV):Fn PV:=fun ρ=>bnd (it ρ) fun l =>
 if l.length≤sizeLine then bnd (d7 tg tst el (frR fr ρ) l) fun r=>some (.ok (.lst r)) else none
noncomputable def tY:Fn Bool:=fun _=>some (.ok true)
theorem uV:MT K C SN tY:=fun F H σ ρ Q r R e P=>by
 cases e
 exact P F H (Up.refl R.rb.sub)
theorem RE.block (R:RE K C.toCf F H σ ρ) (fr:List (Option Nat)):RE K C.toCf F H (frσ fr σ) (frR fr ρ)∧NoO (frR fr ρ):=by
 have nd:∀ (j:Nat) q,(frR fr ρ)[j]?≠some (some (.dp q)):=fun j q e=>by
  unfold frR at e
  rw [List.getElem?_map] at e
  cases e1:fr[j]? with
  | none=>rw [e1] at e;cases e
  | some o =>
   rw [e1] at e
   cases o with
   | none=>cases e
   | some i =>
    simp only [Zbn,Option.some.injEq] at e
    split at e
    ·rename_i v hv
     unfold shOnly at e
     split at e <;> cases e
    ·cases e
 have no:∀ (j:Nat) q,(frR fr ρ)[j]?≠some (some (.ow q)):=fun j q e=>by
  unfold frR at e
  rw [List.getElem?_map] at e
  cases e1:fr[j]? with
  | none=>rw [e1] at e;cases e
  | some o =>
   rw [e1] at e
   cases o with
   | none=>cases e
   | some i =>
    simp only [Zbn,Option.some.injEq] at e
    split at e
    ·rename_i v hv
     unfold shOnly at e
     split at e <;> cases e
    ·cases e
 refine ⟨⟨R.rb,by unfold frσ frR;simp,fun j p e=>?_,fun j p e=>absurd e (no j p),fun i j p q a e=>absurd e (no i p),_,RD.no nd⟩,fun j q=>⟨no j q,nd j q⟩⟩
 unfold frR at e
 rw [List.getElem?_map] at e
 unfold frσ
 rw [List.getElem?_map]
 cases e1:fr[j]? with
 | none=>rw [e1] at e;cases e
 | some o =>
  rw [e1] at e
  cases o with
  | none=>cases e
  | some i =>
   simp only [Zbn,Option.some.injEq] at e ⊢
   split at e
   ·rename_i v hv
    unfold shOnly at e
    split at e
    ·cases e
     obtain ⟨w,e2,e3⟩:=R.sh i _ hv
     exact ⟨w,by rw [e2],e3⟩
    ·cases e
   ·cases e
theorem RE.other (R:RE K C.toCf F H σ ρ) {D:Addr}{o:HO} (hf:F D=none) (h0:C.H0 D=none) (no:NoO ρ):RE K C.toCf F (upd H D o) σ ρ where
 rb:=⟨fun b u q=>by rw [aG (bI q hf)];exact R.rb.sub b u q,fun b u q n=>by rw [aG (bI q h0)];exact R.rb.keep b u q n,R.rb.new,fun b hb=>⟨by
  have:=(R.rb.ios b hb)
  by_cases hbD:b=D
  ·subst hbD;exact absurd h0 this.2
  ·rw [aG hbD];exact this.1,(R.rb.ios b hb).2⟩⟩
 len:=R.len
 sh:=R.sh
 ow:=fun i p e=>absurd e (no i p).1
 dis:=fun i j p q a e=>absurd e (no i p).1
 dd:=⟨_,RD.no fun i p=>(no i p).2⟩
theorem RE.weak {ρ':Rho} (R:RE K C.toCf F H σ ρ') (hl:ρ.length=ρ'.length) (h:∀ (j:Nat) s,ρ[j]?=some (some s)->ρ'[j]?=some (some s)):RE K C.toCf F H σ ρ where
 rb:=R.rb
 len:=by rw [R.len,hl]
 sh:=fun i p e=>R.sh i p (h i _ e)
 ow:=fun i p e=>R.ow i p (h i _ e)
 dis:=fun i j p q a e e'=>R.dis i j p q a (h i _ e) (h j _ e')
 dd:=let ⟨P,d⟩:=R.dd;⟨P,d.own,d.dis,fun i j q b z e=>d.ow i j q b z (h j _ e),fun i p e=>d.dp i p (h i _ e)⟩
structure ItH (K:PySem.W.Frag) (J:It) (F H:Hp) (l:List PV):Prop where
 stop:∀ F' H',aR F F'->aR F' H'->aR H H'->J.stop l.length H'
 go:∀ i F' H',i < l.length->aR F F'->aR F' H'->aR H H'->J.go i H'
 yld:∀ i F' H' x H'',i < l.length->aR F F'->aR F' H'->aR H H'->J.yld i H' x H''->∃ F'' p,Up F' H' F'' H''∧l[i]?=some p∧Rep K F'' x p
noncomputable def MIH (K:PySem.W.Frag) (C:Cg) (wi:TI) (f:Fn (List PV)):Prop :=
 ∀ F H σ ρ R' r,RE K C.toCf F H σ ρ->f ρ=some r->Pr C F (fun l=>∀ J F' H',Up F H F' H'->ItH K J F' H' l->R' J H') r->wi σ H R'
theorem MI.h {wi:TI}{f:Fn (List PV)} (h:MI K C wi f):MIH K C wi f:=fun F H σ ρ R' r R e P =>
 h F H σ ρ R' r R e (Pr.mono P (aR.refl _) fun l q J F' H' u x=>q J F' H' u ⟨fun a b c d _=>x.stop a b c d,fun i a b hi c d _=>x.go i a b hi c d,fun i a b y z hi c d _=>x.yld i a b y z hi c d⟩)
theorem ji {α β γ:Type}{x:Option (Res α)}{f:α->Option (Res β)}{g:β->Option (Res γ)}:bnd (bnd x f) g=bnd x fun a=>bnd (f a) g:=by
 match x with
 | some (.ok a)=>rfl
 | some (.ex z)=>rfl
 | none=>rfl
theorem J2 {wi:TI}{it:Fn (List PV)}{fr:List (Option Nat)}{gt:TG}{tg:PV->Rho->Option Rho}{T:List Nat}{tc:TT}{tst:Fn Bool}{el:Fn PV} (hi:MIH K C wi it) (hg:MG K C gt tg) (hT:Wr T tg) (ht:MT K C tc tst) (he:MJ K C (aF K) te el)
  (hfr:T.all (fun j=>fr[j]? == some none)=true:=by rfl):MO K C (Aq wi fr gt tc te) (jr it fr tg tst el):=by
 intro F H σ ρ Q r R e P
 rcases bQ e with ⟨z,e1,rfl⟩ | ⟨l,e1,hk⟩
 ·exact hi F H σ ρ _ _ R e1 P
 split at hk
 case isFalse=>cases hk
 rename_i hlen
 refine hi F H σ ρ _ _ R e1 fun J F1 H1 u hJ D hD=>?_
 have R1:=R.up u
 obtain ⟨Rb,no⟩:=R1.block fr
 have hD0:C.H0 D=none:=R1.rb.tD hD
 have hFD:F1 D=none:=u.fh.free hD
 have hρ:∀ (j:Nat),j∈T->(frR fr ρ)[j]?=some none:=fun j hj=>by
  have:=ZaW.mp hfr j hj
  unfold frR
  rw [List.getElem?_map,show fr[j]?=some none by simpa using this]
  rfl
 refine ⟨fun i m σ' H'=>∃ F' ys acc,m=l.length - i∧i≤l.length∧aR F1 F'∧(∀ b o,F' b=some o->F1 b=some o∨Frz H1 b o)∧aR H1 H'∧H' D=some (.lst ys)∧F' D=none∧bA K F' ys acc∧acc.length≤i ∧
   RE K C.toCf F' H' σ' (frR fr ρ)∧bnd (d7 tg tst el (frR fr ρ) (l.drop i)) (fun r=>some (.ok (.lst (acc++r))))=some r,
  ⟨l.length,F1,[],[],by simp,ZaZ _,aR.refl _,fun _ _ q=>.inl q,dH hD,aJ,hFD,.nil,Zah _,Rb.other hFD hD0 no,by rw [Za5];exact hk⟩,?_⟩
 rintro i m σ' H' ⟨F',ys,acc,rfl,hil,s1,fr1,sH,eD,nD,ra,hacc,R',e'⟩
 by_cases hlt:i < l.length
 case neg =>
  have ei:i=l.length:=by omega
  subst ei
  rw [List.drop_length] at e'
  have e':some (Res.ok (PV.lst (acc++[])))=some r:=e'
  rw [Za4] at e'
  cases e'
  exact .inl ⟨hJ.stop F' H' s1 R'.rb.sub sH,P D F' H' (u.trans ⟨s1,sH,fr1,R'.rb.sub⟩) (u.hh.free hD) nD ⟨ys,eD,ra⟩⟩
 refine .inr ⟨hJ.go i F' H' hlt s1 R'.rb.sub sH,fun σ2 H2=>∃ F2 ys acc,aR F1 F2∧(∀ b o,F2 b=some o->F1 b=some o∨Frz H1 b o)∧aR H1 H2∧H2 D=some (.lst ys)∧F2 D=none∧bA K F2 ys acc∧acc.length≤i+1 ∧
   RE K C.toCf F2 H2 σ2 (frR fr ρ)∧bnd (d7 tg tst el (frR fr ρ) (l.drop (i+1))) (fun r=>some (.ok (.lst (acc++r))))=some r,
  fun σ2 H2 ⟨F2,ys,acc,z⟩=>⟨l.length - (i+1),by omega,F2,ys,acc,rfl,hlt,z⟩,fun x H'' y=>?_⟩
 obtain ⟨F'',p,u2,ep,rx⟩:=hJ.yld i F' H' x H'' hlt s1 R'.rb.sub sH y
 have ed:l.drop i=p::l.drop (i+1):=by
  rw [ZaI hlt]
  rw [List.getElem?_eq_getElem hlt] at ep
  rw [Zaa ep]
 rw [ed,d7] at e'
 split at e'
 ·cases e'
 rename_i ρ1 h1
 obtain ⟨w1,w2,w3⟩:=hT p _ ρ1 h1
 have no1:=w3 no
 have weak:∀ (j:Nat) s,(frR fr ρ)[j]?=some (some s)->ρ1[j]?=some (some s):=fun j s ej=>by
  rw [w2 j fun z=>by rw [hρ j z] at ej;cases ej];exact ej
 refine hg F'' H'' σ' (frR fr ρ) x p ρ1 _ (R'.up u2) rx h1 fun σ1 R1'=>?_
 have stay:∀ {F3 H3:Hp},Up F' H' F3 H3->aR F1 F3∧(∀ b o,F3 b=some o->F1 b=some o∨Frz H1 b o)∧aR H1 H3∧H3 D=some (.lst ys)∧F3 D=none∧bA K F3 ys acc:=fun {F3 H3} u3=>by
  refine ⟨s1.trans u3.ff,fun b o q=>?_,sH.trans u3.hh,u3.hh _ _ eD,?_,ra.up u3.ff⟩
  ·rcases u3.fr b o q with z | z
   ·exact fr1 b o z
   ·exact .inr (z.imp (fun z=>sH.free z) id)
  ·cases q:F3 D with
   | none=>rfl
   | some o =>
    rcases u3.fr D o q with z | z | ⟨ys,z⟩
    ·rw [nD] at z;cases z
    ·rw [eD] at z;cases z
    ·subst z
     have w:=u3.fh _ _ q
     rw [u3.hh _ _ eD] at w;cases w
 have Pl:∀ {F3 H3:Hp},Up F' H' F3 H3->∀ {z:PV},r=.ex z->PX C F3 z:=fun {F3 H3} u3 {z} ez=>by
  subst ez
  exact PX.up P (u.ff.trans (s1.trans u3.ff))
 rw [ji] at e'
 rcases bQ e' with ⟨z',e4,ez⟩ | ⟨b,e4,e5⟩
 ·exact ht F'' H'' σ1 ρ1 _ _ R1' e4 (Pl u2 ez)
 refine ht F'' H'' σ1 ρ1 _ _ R1' e4 fun F3 H3 u3=>?_
 have u23:=u2.trans u3
 cases b with
 | false =>
  rw [if_neg (by decide)] at e5 ⊢
  obtain ⟨a1,a2,a3,a4,a5,a6⟩:=stay u23
  exact ⟨F3,ys,acc,a1,a2,a3,a4,a5,a6,by omega,(R1'.up u3).weak w1.symm weak,e5⟩
 | true =>
  rw [if_pos rfl] at e5 ⊢
  rw [ji] at e5
  rcases bQ e5 with ⟨z',e6,ez⟩ | ⟨q,e6,e7⟩
  ·exact he F3 H3 σ1 ρ1 _ _ (R1'.up u3) e6 (Pl u23 ez)
  refine he F3 H3 σ1 ρ1 _ _ (R1'.up u3) e6 fun v F4 H4 u4 rv=>?_
  have u24:=u23.trans u4
  obtain ⟨a1,a2,a3,a4,a5,a6⟩:=stay u24
  refine ⟨ys,a4,by rw [a6.1];omega,F4,ys++[v],acc++[q],a1,a2,xq hD a3,aJ,a5,a6.snoc rv,by simp;omega,((R1'.up (u3.trans u4)).other a5 hD0 no1).weak w1.symm weak,?_⟩
  rw [ji] at e7
  rw [←e7]
  congr 1
  funext rr
  show some (Res.ok (PV.lst (acc++[q]++rr)))=some (Res.ok (PV.lst (acc++q::rr)))
  rw [Zar];rfl
theorem oH {wi:TI}{it:Fn (List PV)}{fr:List (Option Nat)}{gt:TG}{tg:PV->Rho->Option Rho}{T:List Nat}{tc:TT}{tst:Fn Bool}{el:Fn PV} (hi:MI K C wi it) (hg:MG K C gt tg) (hT:Wr T tg) (ht:MT K C tc tst) (he:MJ K C (aF K) te el)
  (hfr:T.all (fun j=>fr[j]? == some none)=true:=by rfl):MO K C (Aq wi fr gt tc te) (jr it fr tg tst el):=J2 hi.h hg hT ht he hfr
end
noncomputable def tyN:PV->Option String
 | .non=>some "NoneType"
 | .bl _=>some "bool"
 | .int _=>some "int"
 | .str _=>some "str"
 | .tup _=>some "tuple"
 | .lst _=>some "list"
 | .dk _=>some "dict"
 | .dt _=>some "dict"
 | _=>none
noncomputable def Uo (t T:String):Option Bool :=
 if t=T then some true else
 if T="int" then some (t == "bool") else
 if T="bool"∨T="str"∨T="tuple"∨T="list"∨T="dict" then some false else none
noncomputable def isI (p:PV) (T:String):Option Bool:=match tyN p with
 | some t=>Uo t T
 | none=>none
section
variable {X:Cx}
end
section
variable {K:PySem.W.Frag}{C:Cg}{α β γ:Type}{A:Rel α}{B:Rel β}{D:Rel γ}{ta tb te:TE}{f:Fn α}{g:Fn β}{rr:List V->Hp->VK->Prop}
noncomputable def R1M (C:Cg) (A:Rel α) (D:Rel γ) (rr:List V->Hp->VK->Prop) (op:α->Option (Res γ)):Prop :=
 ∀ F H x a res Q,aR F H->A F H x a->op a=some res->Pr C F (fun c=>∀ v F' H',Up F H F' H'->D F' H' v c->Q v H') res->rr [x] H Q
theorem rY {op:α->Option (Res γ)} (rule:R1M C A D rr op) (ha:MJ K C A ta f):MJ K C D (tCB rr (mX ta yw)) (m1 op f):=by
 intro F H σ ρ Q r R e P
 refine ha.run R e P fun p v F1 H1 hk u a=>?_
 exact rule F1 H1 v p r Q u.fh a hk (P.later u)
noncomputable def R1O (K:PySem.W.Frag) (C:Cg) (A:Rel α) (rr:List V->Hp->VK->Prop) (op:α->Option (Res PV)):Prop :=
 ∀ F H x a res Q,aR F H->A F H x a->op a=some res->Pr C F (fun p=>∀ a F' H',Up F H F' H'->H a=none->F' a=none->Own K F' H' a p->Q (.ref a) H') res->rr [x] H Q
theorem uW {op:α->Option (Res PV)} (rule:R1O K C A rr op) (ha:MJ K C A ta f):MO K C (tCB rr (mX ta yw)) (m1 op f):=by
 intro F H σ ρ Q r R e P
 refine ha.run R e P fun p v F1 H1 hk u a=>?_
 exact rule F1 H1 v p r Q u.fh a hk (P.uO u)
noncomputable def o7:PV->Option (Res PV)
 | .str z=>if z.length≤sizeLine then some (.ok (.int z.length)) else none
 | .lst l=>some (.ok (.int l.length))
 | .tup l=>some (.ok (.int l.length))
 | _=>none
theorem xG:R1M C (aH K) (aF K) (fun xs H Q=>∃ x n,xs=[x]∧Sq K x H n∧Q (.int n) H) o7:=by
 intro F H x a res Q s ha e P
 match a,e with
 | .str z,e =>
  cases Rep.bU ha
  have e:(if z.length≤sizeLine then some (Res.ok (PV.int z.length)) else none)=some res:=e
  split at e
  ·rename_i hz
   cases e
   exact ⟨_,_,rfl,⟨hz,rfl⟩,P _ F H (Up.refl s) .int⟩
  ·cases e
 | .lst l,e =>
  cases e
  obtain ⟨b,xs,rfl,h1,r1⟩:=Rep.bY ha
  rw [←r1.1] at P
  exact ⟨_,_,rfl,.inl ⟨xs,h1,rfl⟩,P _ F H (Up.refl s) .int⟩
 | .tup l,e =>
  cases e
  obtain ⟨b,xs,rfl,h1,r1⟩:=Rep.dh ha
  rw [←r1.1] at P
  exact ⟨_,_,rfl,.inr ⟨xs,h1,rfl⟩,P _ F H (Up.refl s) .int⟩
noncomputable def Ei (l:List PV):Option (Res PV):=some (.ok (.lst l))
theorem Q7:R1O K C (aV K) (fun xs H Q=>∃ p ys,xs=[.ref p]∧(SqL K H p ys∨SqT K H p ys)∧∀ l,H l=none->Q (.ref l) (upd H l (.lst ys))) Ei:=by
 intro F H x a res Q s ha e P
 cases e
 obtain ⟨b,xs,rfl,h1,r1⟩:=ha
 exact ⟨b,xs,rfl,.inl h1,fun l hl=>P l F _ (Up.Eb s hl) hl (s.free hl) ⟨_,aJ,r1⟩⟩
noncomputable def qJ (f:Fn PV):Fn (List PV):=fun ρ=>bnd (f ρ) tE
noncomputable def uX (i:Nat):Fn (List PV):=fun ρ=>bnd (mVL i ρ) tE
noncomputable def J3:PV->Option (Res PV)
 | .int i=>some (.ok (.int (-i)))
 | _=>none
theorem Q8 {f:Fn PV} (ha:MJ K C (aF K) ta f):MJ K C (aF K) (tUn (rU fun i=>.int (-i)) ta) (m1 J3 f):=by
 intro F H σ ρ Q r R e P
 refine ha.run R e P fun p v F1 H1 hk u a=>?_
 match p,hk with
 | .int i,hk =>
  cases Rep.bu a
  cases hk
  exact ⟨i,rfl,P _ F1 H1 u .int⟩
end
noncomputable abbrev XR0:Hp->Value->Option Addr->PV->Prop:=fun _ _ _ _=>False
noncomputable abbrev C0 (io:Addr->Prop) (H0 F0:Hp):Cg:=⟨⟨io,True,H0,F0,E0⟩,XR0⟩
noncomputable def startR (ps:List PV) (k:Nat):Rho:=ps.map (fun p=>some (.sh p))++List.replicate k none
noncomputable def fin:Option Out->Option (Res PV)
 | some (.nx _)=>some (.ok .non)
 | some (.rt p)=>some (.ok p)
 | some (.ex z)=>some (.ex z)
 | _=>none
noncomputable def qK:Option Out->Option (Res PV)
 | some (.ro p)=>some (.ok p)
 | some (.ex z)=>some (.ex z)
 | _=>none
section
variable {K:PySem.W.Frag}{XR:Hp->Value->Option Addr->PV->Prop}{N:List Str}{vs:List V}{H:Hp}{Q:VK}{E:XK}{t:TS}{b:Sn}{m:List PV->Option (Res PV)}
theorem uY {E:XK}{F:Hp}{ps:List PV}{n:Nat} (s:aR F H) (r:bA K F vs ps) (hN:N.length=vs.length+n):RE K ⟨fun _=>False,True,H,F,E⟩ F H (start N vs) (startR ps n) where
 rb:=⟨s,fun _ _ h _=>h,fun _ _ h=>.inl h,fun _ h=>h.elim⟩
 len:=by unfold start startR;rw [List.length_append,List.length_append,List.length_map,List.length_map,List.length_replicate,List.length_replicate,r.1,hN];have:=r.1;lia
 sh:=fun i p e=>by
  unfold startR at e
  unfold start
  by_cases hi:i < ps.length
  ·rw [Zag (by simpa using hi),List.getElem?_map] at e
   rw [Zag (by rw [List.length_map,r.1];exact hi),List.getElem?_map]
   cases h:ps[i]? with
   | none=>rw [h] at e;cases e
   | some q =>
    rw [h] at e
    cases e
    obtain ⟨x,hx,rx⟩:=r.get h
    exact ⟨x,by rw [hx];rfl,rx⟩
  ·rw [Zao (by simpa using hi),Zbf] at e
   split at e <;> cases e
 ow:=fun i p e=>by
  exfalso
  unfold startR at e
  by_cases hi:i < ps.length
  ·rw [Zag (by simpa using hi),List.getElem?_map] at e
   cases h:ps[i]? with
   | none=>rw [h] at e;cases e
   | some q=>rw [h] at e;cases e
  ·rw [Zao (by simpa using hi),Zbf] at e
   split at e <;> cases e
 dd:=⟨_,RD.no fun i p e=>by
  unfold startR at e
  by_cases hi:i < ps.length
  ·rw [Zag (by simpa using hi),List.getElem?_map] at e
   cases h:ps[i]? with
   | none=>rw [h] at e;cases e
   | some q=>rw [h] at e;cases e
  ·rw [Zao (by simpa using hi),Zbf] at e
   split at e <;> cases e⟩
 dis:=fun i j p q a e=>by
  exfalso
  unfold startR at e
  by_cases hi:i < ps.length
  ·rw [Zag (by simpa using hi),List.getElem?_map] at e
   cases h:ps[i]? with
   | none=>rw [h] at e;cases e
   | some q=>rw [h] at e;cases e
  ·rw [Zao (by simpa using hi),Zbf] at e
   split at e <;> cases e
theorem dN {k n:Nat} (hk:N.length=k+n) (hm:∀ ps r,m ps=some r->ps.length=k∧fin (b (startR ps n))=some r) (h:spM K XR0 m vs H Q E) (hS:∀ (io:Addr->Prop) (H0 F0:Hp),(∀ a,¬io a)->MS K (C0 io H0 F0) t b) :
  t { nx:=fun _ H'=>Q .non H',rt:=Q } (start N vs) H:=by
 obtain ⟨ps,F,r,s,rp,e,P⟩:=h
 obtain ⟨hl,e⟩:=hm ps r e
 have R:=uY (E:=E0) (N:=N) (n:=n) s rp (by rw [rp.1,hl];exact hk)
 have up:∀ {F' H':Hp},aR F F'->RB ⟨fun _=>False,True,H,F,E0⟩ F' H'->Up F H F' H':=fun s' rb=>⟨s',fun c o q=>rb.keep c o q id,rb.new,rb.sub⟩
 have M:=hS (fun _=>False) H F (fun _ h=>h)
 cases ho:b (startR ps n) with
 | none=>rw [ho] at e;cases e
 | some o =>
  rw [ho] at e
  refine M F H _ _ _ o R ho ?_
  cases o with
  | nx ρ=>cases e;exact fun F' H' σ s' R'=>P .non F' H' (up s' R'.rb) .non
  | rt p=>cases e;exact fun v F' H' s' rb rv=>P v F' H' (up s' rb) rv
  | ex z=>exact fun _ _ _ _ _ _ x=>x.elim
  | ro p=>cases e
  | rd p=>cases e
  | bk ρ=>cases e
  | ct ρ=>cases e
theorem lJ {k n:Nat} (hk:N.length=k+n) (hm:∀ ps r,m ps=some r->ps.length=k∧qK (b (startR ps n))=some r) (h:spO K XR0 m vs H Q E) (hS:∀ (io:Addr->Prop) (H0 F0:Hp),(∀ a,¬io a)->MS K (C0 io H0 F0) t b) :
  t { nx:=fun _ H'=>Q .non H',rt:=Q } (start N vs) H:=by
 obtain ⟨ps,F,r,s,rp,e,P⟩:=h
 obtain ⟨hl,e⟩:=hm ps r e
 have R:=uY (E:=E0) (N:=N) (n:=n) s rp (by rw [rp.1,hl];exact hk)
 have up:∀ {F' H':Hp},aR F F'->RB ⟨fun _=>False,True,H,F,E0⟩ F' H'->Up F H F' H':=fun s' rb=>⟨s',fun c o q=>rb.keep c o q id,rb.new,rb.sub⟩
 have M:=hS (fun _=>False) H F (fun _ h=>h)
 cases ho:b (startR ps n) with
 | none=>rw [ho] at e;cases e
 | some o =>
  rw [ho] at e
  refine M F H _ _ _ o R ho ?_
  cases o with
  | ro p=>cases e;exact fun a F' H' s' rb w n1 n2=>P a F' H' (up s' rb) n2 n1 w
  | ex z=>exact fun _ _ _ _ _ _ x=>x.elim
  | nx ρ=>cases e
  | rt p=>cases e
  | rd p=>cases e
  | bk ρ=>cases e
  | ct ρ=>cases e
theorem dO (h:spM K XR m vs H Q E) {k:Nat} (hm:∀ ps r,m ps=some r->ps.length=k):vs.length=k:=by
 obtain ⟨ps,F,r,s,rp,e,P⟩:=h
 rw [rp.1];exact hm ps r e
theorem lK (h:spO K XR m vs H Q E) {k:Nat} (hm:∀ ps r,m ps=some r->ps.length=k):vs.length=k:=by
 obtain ⟨ps,F,r,s,rp,e,P⟩:=h
 rw [rp.1];exact hm ps r e
end
section
variable {X:Cx}{k:Nat}{N:List Str}{scope:Scope}{cl:List (Str×Addr)}{C:Addr}{s2:Shared}{H2:Hp}{fp:List Addr}
theorem lL:IxR (X.comp N scope cl C s2 H2 fp) (rIx X.K):=aY
theorem Bh:OpR (X.comp N scope cl C s2 H2 fp) (binaryOp .Add) (JS X.K):=bB
theorem Ej (hr:fJ k X.A):OpR (X.comp N scope cl C s2 H2 fp) (compareOp .NotIn) (yM X.K):=HD hr
end
section
variable {K:PySem.W.Frag}{C:Cg}{te:TE}
end
structure Uu (a:Addr) (F H F' H':Hp):Prop where
 ff:aR F F'
 hb:SameBut a H H'
 fr:∀ b o,F' b=some o->F b=some o∨Frz H b o
 fh:aR F' H'
noncomputable def Tp (j:Nat):Option Out->Option (Res PV)
 | some (.nx ρ)=>match ownAt j ρ with
  | some p=>some (.ok p)
  | none=>none
 | _=>none
section
variable {K:PySem.W.Frag}{C:Cg}{N:List Str}{vs:List V}{H F:Hp}{Q:VK}{E:XK}{t:TS}{b:Sn}{m:List PV->Option (Res PV)}{j:Nat}{ps:List PV}{a:Addr}{p:PV}{n:Nat}
theorem iG {i:Nat}{x:V} (h:vs[i]?=some x):(start N vs)[i]?=some (some x):=by
 unfold start
 rw [Zag (by rw [List.length_map];exact cG h),List.getElem?_map,h]
 rfl
noncomputable def Ek:Sn:=fun _=>none
theorem J4:MS K C Jk Ek:=fun _ _ _ _ _ _ _ e _=>nomatch e
end
section
variable {X:Cx}
end
section
variable {K:PySem.W.Frag}{C:Cg}{ta tb:TE}
end
section
variable {X:Cx}
end
section
variable {K:PySem.W.Frag}{C:Cg}{ta tb:TE}
end
theorem Bj:∀ {ns:List Int}{us:List Value},Vals (ns.map V.int) us->IntsAre us ns
 | [],us,r=>by rw [List.map_nil] at r;cases r;exact .nil
 | n::ns,us,r=>by
  rw [Zak] at r
  cases r with
  | cons r1 r2 =>
   obtain ⟨t,e⟩:=r1
   subst e
   exact .cons n t (Bj r2)
section
variable {X:Cx}
end
noncomputable def ni:List PV->Option (List Int)
 | []=>some []
 | .int n::l=>(ni l).map (n::·)
 | _=>none
section
variable {X:Cx}{pos:Pos}
end
section
variable {K:PySem.W.Frag}{C:Cg}
end
section
variable {K:PySem.W.Frag}{C:Cg}{ta tb:TE}
end
theorem uZ:typeLookup (.type "list") "keys"=pure none:=am_miss_of_fast (by decide +kernel)
theorem tZ:typeLookup (.type "tuple") "keys"=pure none:=am_miss_of_fast (by decide +kernel)
theorem gn:entryFor table "dict.update.loop"=some Builtin.«dict.update.loop»:=entryFor_of_tree (by kernel_rfl)
theorem bZ:plainId "dict.update.loop"=true:=by decide +kernel
section
variable {prog:Program}{w:World}{A:Around}{E:Value->Shared->Prop}{s:Shared}{a:Addr}{o:Obj}{xs:Array Value}{k:Nat}{name:Str}{Q:Option Value->Shared->Prop}
theorem pU (hx:s.heap.get? a=some o) (hc:o.cls=.type "list") (hdat:o.data=.seq xs k) (hd:o.dict=none) (hmiss:typeLookup (.type "list") name=pure none) (hname:(["__module__","__name__","__qualname__","__doc__","__annotations__"]:List Str).contains name=false) (hA:A.handled=none)
  (h:∀ h' tk,(∀ b ob,s.heap.get? b=some ob->h'.get? b=some ob)->Q none { s with heap:=h',toks:=tk }) (hsz:name.length+100≤sizeLine:=by size_fits) :
  wpAny (model prog w) A (getAttr? (.ref a) name) Q E s:=by
 obtain ⟨c,dct,dat,sl⟩:=o
 simp only at hc hdat hd
 subst hc hdat hd
 obtain ⟨hp,g,d,tk,os⟩:=s
 have hT:∀ tk',(⟨hp,g,d,tk',os⟩:Shared).TypeIs (.ref a) "list":=fun _=>⟨_,hx,rfl⟩
 have f1:=sub_AttributeError
 have f3:=F.slot_list_getattribute.lookup
 have f4:=F.slot_list_getattribute.bind (.ref a)
 have f5:=am_list_getattr_none
 unfold getAttr? getAttrBy? getAttrBy
 repeat (any_goals (first | assumption | exact hT _ | ((with_reducible show wpAny _ _ (call (Value.builtin "list.__getattribute__") _ _) _ _ _);refine call_meets F.slot_list_getattribute (hT _) am_entry_list_getattribute (F.args_list_getattribute_2 _ _) (meets_getattribute_miss_list a xs k sl name _ hmiss hname hsz) ⟨hx,hA,fun h' tk' e hx'=>?_⟩) | wp_step))
 obtain ⟨t',u',he⟩:=hx'.there
 show wpAny _ _ (getattributeRaised _ _ _ _ _ _ _) _ _ _
 unfold getattributeRaised
 repeat (any_goals (first | assumption | wp_step))
 exact h _ _ hx'.keeps
theorem oV (hx:s.heap.get? a=some o) (hc:o.cls=.type "tuple") (hdat:o.data=.seq xs k) (hd:o.dict=none) (hmiss:typeLookup (.type "tuple") name=pure none) (hname:(["__module__","__name__","__qualname__","__doc__","__annotations__"]:List Str).contains name=false) (hA:A.handled=none)
  (h:∀ h' tk,(∀ b ob,s.heap.get? b=some ob->h'.get? b=some ob)->Q none { s with heap:=h',toks:=tk }) (hsz:name.length+100≤sizeLine:=by size_fits) :
  wpAny (model prog w) A (getAttr? (.ref a) name) Q E s:=by
 obtain ⟨c,dct,dat,sl⟩:=o
 simp only at hc hdat hd
 subst hc hdat hd
 obtain ⟨hp,g,d,tk,os⟩:=s
 have hT:∀ tk',(⟨hp,g,d,tk',os⟩:Shared).TypeIs (.ref a) "tuple":=fun _=>⟨_,hx,rfl⟩
 have f1:=sub_AttributeError
 have f3:=F.slot_tuple_getattribute.lookup
 have f4:=F.slot_tuple_getattribute.bind (.ref a)
 have f5:=am_tuple_getattr_none
 unfold getAttr? getAttrBy? getAttrBy
 repeat (any_goals (first | assumption | exact hT _ | ((with_reducible show wpAny _ _ (call (Value.builtin "tuple.__getattribute__") _ _) _ _ _);refine call_meets F.slot_tuple_getattribute (hT _) am_entry_tuple_getattribute (F.args_tuple_getattribute_2 _ _) (meets_getattribute_miss_tuple a xs k sl name _ hmiss hname hsz) ⟨hx,hA,fun h' tk' e hx'=>?_⟩) | wp_step))
 obtain ⟨t',u',he⟩:=hx'.there
 show wpAny _ _ (getattributeRaised _ _ _ _ _ _ _) _ _ _
 unfold getattributeRaised
 repeat (any_goals (first | assumption | wp_step))
 exact h _ _ hx'.keeps
end
section
variable {X:Cx}{pins:List (Addr×Obj)}{σ:St}{H H':Hp}{s:Shared}{d:Addr}{y v:V}{u r:Value}{A:Around}{E:Value->Shared->Prop}
theorem HN {Q:Unit->Shared->Prop} (hu:A.units < cLine) (I:Inv X pins σ H s) (g:qz H d y v H') (ry:RelV y u) (rv:RelV v r) (h:∀ h' tk,Heap.SameBut d s.heap h'->Inv X pins σ H' { s with heap:=h',toks:=tk }->Q () { s with heap:=h',toks:=tk }) :
  wpAny (model X.prog X.w) A (dictSet d u r) Q E s:=by
 rcases g with ⟨kvs,k,e,ey,l,eH⟩ | ⟨kvs,k,b,e,ey,eb,l,eH⟩
 ·subst ey eH
  obtain ⟨z,hd,vs,rel,dd⟩:=Py I.hok e
  have hz:vs.length≤sizeLine:=by rw [←rel.length];exact z
  have hl:(putK kvs k v).length≤sizeLine:=by have:=iB kvs k v;omega
  refine wpAny_dictSet_pairs (hsz:=hz) (uM ry) dd fun h' dd' hs=>h h' _ hs ?_
  have he:∃ q,h'.get? d=some q:=let ⟨q,_,_,hq,_⟩:=dd';⟨q,hq⟩
  exact qC I (by rw [e];exact True.intro) hs he (Jx hl hd (rel.put k rv) dd')
 ·subst ey eH
  cases (show u=Value.ref b from ry)
  obtain ⟨z,hd,xs,rel,dd⟩:=Jw I.hok e
  have hz:xs.length≤sizeLine:=by rw [←Paired.length rel];exact z
  have hl:(putK kvs k v).length≤sizeLine:=by have:=iB kvs k v;omega
  refine wpAny_dictSet_heap (hsz:=hz) (show (tupleKind (cM X.prog X.w)).room A from hu) (mZ I.hok eb) dd fun h' dd' hs=>h h' _ hs ?_
  obtain ⟨q,es,ep,hq,h2,h3,h4,_,h5⟩:=dd'
  refine qC I (by rw [e];exact True.intro) hs ⟨q,hq⟩ ⟨hl,hd,_,(rel.put k eb rv).keeps fun c ys ec=>?_,q,es,ep,hq,h2,h3,h4,h5⟩
  rw [aG (Jg ec e (fun z=>nomatch z))]
  exact ec
theorem qz.other (g:qz H d y v H') {b:Addr} (hb:b≠d):H' b=H b:=by
 rcases g with ⟨kvs,k,e,ey,l,rfl⟩ | ⟨kvs,k,b',e,ey,eb,l,rfl⟩
 ·exact aG hb
 ·exact aG hb
noncomputable def xH (d:Addr):List (V×V)->Hp->(Hp->Prop)->Prop
 | [],H,Q=>Q H
 | (y,v)::r,H,Q=>∃ H',qz H d y v H'∧xH d r H' Q
noncomputable def yG (K:PySem.W.Frag) (H:Hp) (ys:List V) (ps:List (V×V)):Prop:=ys.length=ps.length∧∀ (j:Nat) x p,ys[j]?=some x->ps[j]?=some p->∃ T,x=.ref T∧SqT K H T [p.1,p.2]
theorem SqT.but {K:PySem.W.Frag}{T:Addr}{xs:List V} (h:SqT K H T xs) (hb:∀ b,b≠d->H' b=H b) (hn:T≠d):SqT K H' T xs:=by
 rcases h with (h | ⟨o,h⟩) | h
 ·exact .inl (.inl (by rw [hb T hn];exact h))
 ·exact .inl (.inr ⟨o,by rw [hb T hn];exact h⟩)
 ·exact .inr h
theorem J5 {it:Addr}{fp:List Addr}{n:Nat}{P:Nat->Value->Prop}{St:Nat->Heap->Prop}{ps:List (V×V)}{R:Result->Shared->Prop}{H0:Hp} (hc:X.calm=true) (W:Walks X.prog X.w A.in1 it fp [it] n P St) (hu:A.in1.units < cLine)
  (hn:ps.length=n) (hd:d ∉ fp) (hit:∀ H,H d≠none->(∀ b,b≠d->H b=H0 b)->uE X pins H it)
  (hp:∀ (i:Nat) v p,P i v->ps[i]?=some p->∃ T,v=.ref T∧T≠d∧SqT X.K H0 T [p.1,p.2]) :
  ∀ (k i:Nat) (s:Shared) (H:Hp),n - i=k->i≤n->St i s.heap->Inv X pins σ H s->H d≠none->(∀ b,b≠d->H b=H0 b)->∀ tk,xH d (ps.drop i) H (fun H'=>∀ s',Inv X pins σ H' s'->R (.ok (.ret .none)) s') ->
   codeAny (model X.prog X.w) A (.builtin "dict.update.loop" ⟨[.ref d,.ref it,.int i tk,.none],[]⟩) R s:=by
 intro k
 induction k with
 | zero =>
  intro i s H hk hi hst I hHd hb tk hR
  have hin:i=n:=by omega
  subst hin
  refine codeAny_builtin gn ?_
  rw [Around.under_plainId bZ _]
  show wpAny _ A.in1 (pyNext (.ref it) >>= _) _ _ s
  refine wpAny_bind (W.done s _ _ hst fun h' tk' hk'=>?_)
  show wpAny _ _ (Builtin.Dict.addKeywords d [] >>= _) _ _ _
  rw [Za3 (by omega)] at hR
  exact wpAny_bind (wpAny_pure (wpAny_pure (hR _ (I.qw hk' fun b hb'=>by rw [ZaE.mp hb'];exact hit H hHd hb))))
 | succ k ih =>
  intro i s H hk hi hst I hHd hb tk hR
  have hlt:i < n:=by omega
  have hlp:i < ps.length:=by omega
  have hdr:ps.drop i=ps[i]::ps.drop (i+1):=ZaI hlp
  rw [hdr] at hR
  refine codeAny_builtin gn ?_
  rw [Around.under_plainId bZ _]
  show wpAny _ A.in1 (pyNext (.ref it) >>= _) _ _ s
  refine wpAny_bind (W.item i s _ _ hlt hst fun v h' tk' hP hst' hk'=>?_)
  obtain ⟨T,rfl,hT,hq⟩:=hp i v ps[i] hP (by simp [hlp])
  have I1:Inv X pins σ H { s with heap:=h',toks:=tk' }:=I.qw hk' fun b hb'=>by rw [ZaE.mp hb'];exact hit H hHd hb
  obtain ⟨its,rv,ht,_⟩:=I1.tuple (SqT.but hq hb hT)
  obtain ⟨u1,u2,rfl,r1,r2⟩:∃ u1 u2,its=[u1,u2]∧RelV ps[i].1 u1∧RelV ps[i].2 u2:=by
   cases rv with
   | cons a t=>cases t with
    | cons b t=>cases t;exact ⟨_,_,rfl,a,b⟩
  obtain ⟨H',g,hR⟩:=hR
  refine wpAny_bind (wpAny_holding (wpAny_bind (wpAny_tryCatch ?_)))
  unfold Builtin.Dict.pairItems
  refine wpAny_bind (wpAny_typeOf ht.typeIs ?_)
  rw [if_pos (by decide)]
  obtain ⟨o,h1,_,m,h2⟩:=ht
  refine wpAny_bind (wpAny_seqItems h1 h2 (wpAny_pure ?_))
  show wpAny _ A.in1 (holding [u1,u2] (dictSet d u1 u2)) _ _ _
  refine wpAny_holding (HN hu I1 g r1 r2 fun h2' tk2 hs2 I2=>?_)
  refine wpAny_pure ⟨plainId_quiet bZ _,?_⟩
  have:=ih (i+1) { s with heap:=h2',toks:=tk2 } H' (by omega) hlt (W.frame _ _ _ hst' fun b hb' o e=>(hs2.2 b fun z=>hd (by rw [←z];exact hb')).trans e) I2
   (by rcases g with ⟨_,_,_,_,_,rfl⟩ | ⟨_,_,_,_,_,_,_,rfl⟩ <;> rw [aJ] <;> simp) (fun b hb'=>(qz.other g hb').trans (hb b hb')) 0 hR
  exact this
end
theorem Bl:∀ {xs:List V}{us:List Value}{i:Nat}{u:Value},Vals xs us->us[i]?=some u->∃ x,xs[i]?=some x∧RelV x u
 | [],_,i,u,r,h=>by cases r;simp at h
 | x::xs,_,i,u,r,h=>by
  cases r with
  | cons a t =>
   cases i with
   | zero=>simp at h;subst h;exact ⟨x,rfl,a⟩
   | succ i=>obtain ⟨y,h1,h2⟩:=Bl (i:=i) t (by simpa using h);exact ⟨y,by simpa using h1,h2⟩
noncomputable def El (K:PySem.W.Frag) (n:HO):List V->Hp->VK->Prop:=fun xs H Q=>∃ p ys ps,xs=[.ref p]∧(SqL K H p ys∨H p=some (.tup ys))∧yG K H ys ps∧∀ d,H d=none->xH d ps (upd H d n) fun H'=>Q (.ref d) H'
section
variable {X:Cx}
theorem Em {n:HO} (hc:X.calm=true) (hu:X.A.units+64 < cLine) (hn:n=.dK []∨n=.dT []):sY X (.type "dict") (El X.K n):=by
 intro pins s σ H xs us Q I rv h
 obtain ⟨p,ys,ps,rfl,hq,hps,q⟩:=h
 obtain ⟨u,rfl,ru⟩:=rv.one
 cases ru
 have hh:X.A.handled=none:=I.ok.hd hc
 refine callType_codes (Q₁:=fun obj s₁=>obj=.ref s.heap.objs.size∧s₁={ s with heap:=s.heap.push { cls:=.type "dict",data:=.dict #[] } }) F.kt_called_dict (F.kt_typeCall_dict_1 _) F.entry_dict_init (kt_code_dict_new _ ⟨rfl,rfl⟩) ?_
 rintro obj s₁ ⟨rfl,rfl⟩
 have ok:dG X.prog X.w (upd H s.heap.objs.size n) (s.heap.push { cls:=.type "dict",data:=.dict #[] }) s.heap.objs.size n:=by
  rcases hn with rfl | rfl
  ·exact JB s.heap I.big
  ·exact Aw s.heap I.big
 have hfree:H s.heap.objs.size=none:=I.hok.fresh (Zah _)
 have I1:Inv X pins σ (upd H s.heap.objs.size n) { s with heap:=s.heap.push { cls:=.type "dict",data:=.dict #[] } }:=I.laid (a:=s.heap.objs.size) (o:=n) (t':=s.toks) (fun _ _ q=>Zac _ q) (Zah _) ok
 have q:=q _ hfree
 have hd1:(s.heap.push { cls:=.type "dict",data:=.dict #[] }).get? s.heap.objs.size=some { cls:=.type "dict",data:=.dict #[] }:=Zal _ rfl
 have tyD:({ s with heap:=s.heap.push { cls:=.type "dict",data:=.dict #[] } }:Shared).TypeIs (.ref s.heap.objs.size) "dict":=⟨_,hd1,rfl⟩
 refine ⟨tyD,F.args_dict_init_2 _ _,?_⟩
 unfold Builtin.«dict.__init__»
 refine wpAny_bind ?_
 unfold Builtin.Dict.selfAndRest
 refine wpAny_bind (wpAny_notOrdered_dict tyD ?_)
 show wpAny _ _ (pure (s.heap.objs.size,[Value.ref p])) _ _ _
 refine wpAny_pure ?_
 show wpAny _ _ (Builtin.Dict.updateFrom "dict.__init__" s.heap.objs.size (.ref p) [] .none) _ _ _
 unfold Builtin.Dict.updateFrom
 have same:aR H (upd H s.heap.objs.size n):=dH hfree
 have hnd:∀ (j:Nat) x pr,ys[j]?=some x->ps[j]?=some pr->∃ T,x=.ref T∧T≠s.heap.objs.size∧SqT X.K (upd H s.heap.objs.size n) T [pr.1,pr.2]:=fun j x pr e1 e2=>by
  obtain ⟨T,rfl,hT⟩:=hps.2 j x pr e1 e2
  obtain ⟨its,_,ht,_⟩:=I.tuple hT
  exact ⟨T,rfl,Zaw ht.lt,same.tup hT⟩
 have fin:∀ (h2:Heap) (tk:Nat) (o:Obj) (St:Nat->Heap->Prop) (its:List Value),(∀ b ob,(s.heap.push { cls:=.type "dict",data:=.dict #[] }).get? b=some ob->h2.get? b=some ob)->Vals ys its ->
   Walks X.prog X.w X.A.in1.in1 h2.objs.size [h2.objs.size,p] [h2.objs.size] its.toArray.size (fun i v=>its.toArray[i]?=some v) St->St 0 (h2.push o)->p≠s.heap.objs.size->(∀ b,o.cls≠.ref b) ->
   codeAny (model X.prog X.w) X.A.in1 (.builtin "dict.update.loop" ⟨[.ref s.heap.objs.size,.ref h2.objs.size,.int (0:Nat) 0,.none],[]⟩) (wants (fun r s₂=>r=.none∧EP X pins σ Q (.ref s.heap.objs.size) s₂) X.xe) { s with heap:=h2.push o,toks:=tk }:=by
  intro h2 tk o St its hk rv W h0 hp _
  have I2:Inv X pins σ (upd H s.heap.objs.size n) { s with heap:=h2,toks:=tk }:=I1.kept hk
  have I3:Inv X pins σ (upd H s.heap.objs.size n) { s with heap:=h2.push o,toks:=tk }:=I2.kept (t':=tk) fun b ob e=>Zac _ e
  have lt1:s.heap.objs.size < h2.objs.size:=Zaj (hk _ _ hd1)
  have hn2:upd H s.heap.objs.size n h2.objs.size=none:=I2.hok.fresh (Zah _)
  refine J5 (A:=X.A.in1) (ps:=ps) (H0:=upd H s.heap.objs.size n) hc W (show X.A.units+2 < cLine by lia) ?_ ?_ (fun Hx hx1 hx2=>?_) (fun i v pr hv hpr=>?_) _ 0 _ _ rfl (ZaZ _) h0 I3 (by rw [aJ];simp) (fun _ _=>rfl) 0 ?_
  ·rw [List.size_toArray,←rv.length];exact hps.1.symm
  ·intro z
   rcases Zas.mp z with z | z
   ·exact absurd z (Zaw lt1)
   ·exact absurd (ZaE.mp z).symm hp
  ·exact I2.Ah (Zah _) (by rw [hx2 _ (Nat.ne_of_gt lt1)];exact hn2)
  ·rw [List.getElem?_toArray] at hv
   obtain ⟨y,hy,ry⟩:=Bl rv hv
   obtain ⟨T,rfl,h1,h2⟩:=hnd i y pr hy hpr
   cases ry
   exact ⟨T,rfl,h1,h2⟩
  ·rw [Za5]
   have mono:∀ (ps:List (V×V)) (Hx:Hp) (P1 P2:Hp->Prop),(∀ H,P1 H->P2 H)->xH s.heap.objs.size ps Hx P1->xH s.heap.objs.size ps Hx P2:=by
    intro ps
    induction ps with
    | nil=>exact fun Hx P1 P2 hP h=>hP _ h
    | cons a r ih=>exact fun Hx P1 P2 hP ⟨H',g,h⟩=>⟨H',g,ih _ _ _ hP h⟩
   exact mono _ _ _ _ (fun Hx hQ s' Is=>⟨rfl,.ref _,Hx,Is,rfl,hQ⟩) q
 rcases hq with hq | hq
 ·obtain ⟨its,rv,pl,hz⟩:=I1.list (same.seq hq)
  have hp:p≠s.heap.objs.size:=fun z=>by
   obtain ⟨o,m,e,c,_⟩:=pl
   rw [z,hd1] at e;cases e;exact absurd (show Value.type "dict"=Value.type "list" from c) (by decide)
  obtain ⟨o,m,e,c,dn,dt⟩:=id pl
  refine wpAny_bind (wpAny_typeOf (show Shared.TypeIs _ (.ref p) "list" from ⟨_,e,c⟩) ?_)
  rw [if_pos (by decide)]
  refine wpAny_bind (pU e c dt dn uZ (by decide +kernel) hh fun h2 tk hk=>?_)
  rw [if_pos (show (none:Option Value).isNone=true from rfl)]
  refine wpAny_bind (wpAny_rule (wpAny_bind (wpAny_pyIter_list ((pl.keeps hk).isList) ?_)))
  refine wpAny_pure ⟨plainId_quiet bZ _,fin h2 tk _ _ its hk rv (Walks.list (A:=X.A.in1.in1) hh _ p (Zaw (pl.keeps hk).lt) its.toArray) ⟨⟨_,Zal _ rfl,rfl,rfl⟩,(pl.keeps fun b ob eb=>Zac _ (hk b ob eb)).isList⟩ hp (fun b z=>nomatch z)⟩
 ·obtain ⟨_,its,rv,tn⟩:=(show dG X.prog X.w _ _ p (.tup ys) from I1.hok p _ (same _ _ hq))
  have hp:p≠s.heap.objs.size:=fun z=>by
   obtain ⟨⟨o,e,c,_⟩,_⟩:=tn
   rw [z,hd1] at e;cases e;exact absurd (show Value.type "dict"=Value.type "tuple" from c) (by decide)
  obtain ⟨⟨o,e,c,m,dt⟩,dn⟩:=id tn
  refine wpAny_bind (wpAny_typeOf (show Shared.TypeIs _ (.ref p) "tuple" from ⟨_,e,c⟩) ?_)
  rw [if_pos (by decide)]
  refine wpAny_bind (oV e c dt (dn o e) tZ (by decide +kernel) hh fun h2 tk hk=>?_)
  rw [if_pos (show (none:Option Value).isNone=true from rfl)]
  have tp:({ s with heap:=h2,toks:=tk }:Shared).heap.IsTuple p its.toArray:=⟨o,hk _ _ e,c,m,dt⟩
  refine wpAny_bind (wpAny_rule (wpAny_bind (wpAny_pyIter_tuple tp ?_)))
  refine wpAny_pure ⟨plainId_quiet bZ _,fin h2 tk _ _ its hk rv (Walks.tuple (A:=X.A.in1.in1) hh _ p (Zaw (Zaj (hk _ _ e))) its.toArray) ⟨⟨_,Zal _ rfl,rfl,rfl⟩,⟨o,Zac _ (hk _ _ e),c,m,dt⟩⟩ hp (fun b z=>nomatch z)⟩
end
section
variable {κ:Type} [DecidableEq κ]
noncomputable def dw:List (κ×PV)->κ->Option PV
 | [],_=>none
 | (a,p)::l,k=>if a=k then some p else dw l k
noncomputable def iH:List (κ×PV)->κ->PV->List (κ×PV)
 | [],k,p=>[(k,p)]
 | (a,q)::l,k,p=>if a=k then (a,p)::(if (l.any fun e=>decide (e.1=k))=true then iH l k p else l) else (a,q)::iH l k p
inductive fX (K:PySem.W.Frag) (F:Hp):List (κ×V)->List (κ×PV)->Prop
 | nil:fX K F [] []
 | cons {k:κ}{v:V}{p:PV}{xs:List (κ×V)}{l:List (κ×PV)} (h:Rep K F v p) (t:fX K F xs l):fX K F ((k,v)::xs) ((k,p)::l)
variable {K:PySem.W.Frag}{F F':Hp}{xs:List (κ×V)}{l:List (κ×PV)}{k:κ}
theorem fX.of:∀ {xs:List (κ×V)}{l:List (κ×PV)},xs.map (·.1)=l.map (·.1)->(∀ (j:Nat) x p,xs[j]?=some x->l[j]?=some p->Rep K F x.2 p.2)->fX K F xs l
 | [],[],_,_=>.nil
 | [],_::_,h,_=>by simp at h
 | _::_,[],h,_=>by simp at h
 | (a,v)::xs,(b,p)::l,h,hr=>by
  simp only [Zak,Zbo] at h
  obtain ⟨h1,h2⟩:=h
  have h1:a=b:=h1
  subst h1
  exact .cons (hr 0 _ _ rfl rfl) (fX.of h2 fun j x p e1 e2=>hr (j+1) x p (by simpa using e1) (by simpa using e2))
theorem fX.keys (h:fX K F xs l):xs.map (·.1)=l.map (·.1):=by
 induction h with
 | nil=>rfl
 | cons h t ih=>simp [ih]
theorem fX.len (h:fX K F xs l):xs.length=l.length:=by
 have:=congrArg List.length h.keys
 simpa using this
theorem fX.at (h:fX K F xs l):∀ (j:Nat) x p,xs[j]?=some x->l[j]?=some p->Rep K F x.2 p.2:=by
 induction h with
 | nil=>intro j x p e;simp at e
 | cons h t ih =>
  intro j x p e1 e2
  cases j with
  | zero=>simp at e1 e2;subst e1 e2;exact h
  | succ j=>exact ih j x p (by simpa using e1) (by simpa using e2)
theorem fX.none (h:fX K F xs l) (e:dw l k=none):iT xs k=none:=by
 induction h with
 | nil=>rfl
 | @cons a v p xs l h t ih =>
  unfold dw at e
  split at e
  ·cases e
  ·rename_i hk
   rw [jn hk];exact ih e
theorem fX.some {p:PV} (h:fX K F xs l) (e:dw l k=some p):∃ v,iT xs k=some v∧Rep K F v p:=by
 induction h with
 | nil=>cases e
 | @cons a v q xs l h t ih =>
  unfold dw at e
  split at e
  ·rename_i hk
   cases e
   exact ⟨v,mY hk,h⟩
  ·rename_i hk
   obtain ⟨w,h1,h2⟩:=ih e
   exact ⟨w,by rw [jn hk];exact h1,h2⟩
theorem fX.any (h:fX K F xs l):(xs.any fun e=>decide (e.1=k))=l.any fun e=>decide (e.1=k):=by
 induction h with
 | nil=>rfl
 | cons h t ih=>simp only [ZbH,ih]
theorem fX.repl {v:V}{p:PV} (h:fX K F xs l) (r:Rep K F v p):(l.any fun e=>decide (e.1=k))=true->fX K F (xs.map fun kv=>if kv.1=k then (kv.1,v) else kv) (iH l k p):=by
 induction h with
 | nil=>intro z;cases z
 | @cons a w q xs l h t ih =>
  intro z
  unfold iH
  rw [Zak]
  by_cases hk:a=k
  ·rw [if_pos hk,if_pos hk]
   refine .cons r ?_
   by_cases hl:(l.any fun e=>decide (e.1=k))=true
   ·rw [if_pos hl];exact ih hl
   ·rw [if_neg hl]
    have hx:∀ e∈xs,¬e.1=k:=fun e he z=>hl (by rw [←t.any];exact List.any_eq_true.mpr ⟨e,he,by simpa using z⟩)
    rw [show xs.map (fun kv=>if kv.1=k then (kv.1,v) else kv)=xs from by
     conv=>rhs;rw [←List.map_id xs]
     exact ZaU fun e he=>by rw [if_neg (hx e he)];rfl]
    exact t
  ·rw [if_neg hk,if_neg hk]
   refine .cons h (ih ?_)
   rw [ZbH] at z
   simpa [hk] using z
theorem fX.snoc {v:V}{p:PV} (h:fX K F xs l) (r:Rep K F v p):(l.any fun e=>decide (e.1=k))=false->fX K F (xs++[(k,v)]) (iH l k p):=by
 induction h with
 | nil=>intro _;exact .cons r .nil
 | @cons a w q xs l h t ih =>
  intro z
  rw [ZbH,Bool.or_eq_false_iff] at z
  have hk:¬a=k:=by simpa using z.1
  unfold iH
  rw [if_neg hk]
  exact .cons h (ih z.2)
theorem fX.put {v:V}{p:PV} (h:fX K F xs l) (r:Rep K F v p):fX K F (putK xs k v) (iH l k p):=by
 unfold putK
 by_cases z:(xs.any fun e=>decide (e.1=k))=true
 ·rw [if_pos z];exact h.repl r (by rw [←h.any];exact z)
 ·rw [if_neg z];exact h.snoc r (by rw [←h.any];exact Bool.not_eq_true _ ▸ z)
end
noncomputable def u5:PV->Option Key
 | .int i=>some (.inl i)
 | .str x=>some (.inr x)
 | _=>none
noncomputable def eO:List PV->Option (List Key)
 | []=>some []
 | p::l=>match u5 p,eO l with
  | some k,some ks=>some (k::ks)
  | _,_=>none
noncomputable def Tq:Key->PV
 | .inl i=>.int i
 | .inr x=>.str x
theorem u6 {K:PySem.W.Frag}{F:Hp}{p:PV}{k:Key}{v:V} (h:u5 p=some k) (r:Rep K F v p):v=kV k:=by
 cases p with
 | int i=>cases h;cases Rep.bu r;rfl
 | str x=>cases h;cases Rep.bU r;rfl
 | _=>cases h
theorem oJ {K:PySem.W.Frag}{F:Hp}:∀ {l:List PV}{ks:List Key}{xs:List V},eO l=some ks->bA K F xs l->xs=ks.map kV
 | [],ks,xs,h,r=>by cases h;exact r.iu
 | p::l,ks,xs,h,r=>by
  unfold eO at h
  split at h
  ·rename_i k ks' h1 h2
   cases h
   obtain ⟨v,ys,rfl,r1,r2⟩:=r.dD
   rw [u6 h1 r1,oJ h2 r2]
   rfl
  ·cases h
noncomputable def PV.isD:PV->Bool
 | .dk _=>true
 | .dt _=>true
 | _=>false
noncomputable def DLk (K:PySem.W.Frag) (F H:Hp) (a:Addr):PV->Prop
 | .dk l=>∃ xs,Rd H a (.dK xs)∧xs.map (·.1)=l.map (·.1)∧∀ (j:Nat) x p,xs[j]?=some x->l[j]?=some p->Rep K F x.2 p.2
 | .dt l=>∃ xs,Rd H a (.dT xs)∧xs.map (·.1)=l.map (·.1)∧∀ (j:Nat) x p,xs[j]?=some x->l[j]?=some p->Rep K F x.2 p.2
 | _=>False
theorem DLk.up {K:PySem.W.Frag}{F H F' H':Hp}{a:Addr}{p:PV} (o:DLk K F H a p) (sf:aR F F') (sh:aR H H'):DLk K F' H' a p:=by
 cases p with
 | dk l=>obtain ⟨xs,e,r,q⟩:=o;exact ⟨xs,e.same sh,r,fun j x p a b=>(q j x p a b).up sf⟩
 | dt l=>obtain ⟨xs,e,r,q⟩:=o;exact ⟨xs,e.same sh,r,fun j x p a b=>(q j x p a b).up sf⟩
 | _=>exact o.elim
theorem Own.look {K:PySem.W.Frag}{F H:Hp}{a:Addr}{p:PV} (o:Own K F H a p) (d:p.isD=true):DLk K F H a p:=by
 cases p with
 | dk l=>obtain ⟨xs,e,r⟩:=o;exact ⟨xs,.inl e,r⟩
 | dt l=>obtain ⟨xs,e,r⟩:=o;exact ⟨xs,.inl e,r⟩
 | _=>cases d
noncomputable def aD (K:PySem.W.Frag):Rel PV:=fun F H v p=>p.isD=true∧∃ a,v=.ref a∧DLk K F H a p
theorem aD.up {K:PySem.W.Frag}:UpM (aD K):=fun _ _ _ _ _ _ u ⟨h1,b,e,o⟩=>⟨h1,b,e,o.up u.ff u.hh⟩
noncomputable def asD (p:PV):Option (Res PV):=if p.isD=true then some (.ok p) else none
theorem Rep.own {K:PySem.W.Frag}{F H:Hp}{v:V}{p:PV} (r:Rep K F v p) (s:aR F H) (d:p.isD=true):∃ a,v=.ref a∧DLk K F H a p:=by
 cases r with
 | dk h hl hr=>exact ⟨_,rfl,_,h.same s,hl,hr⟩
 | dt h hl hr=>exact ⟨_,rfl,_,h.same s,hl,hr⟩
 | _=>cases d
section
variable {K:PySem.W.Frag}{C:Cg}{ta tb tc te:TE}{f g h:Fn PV}
noncomputable def yR (f:Fn PV):Fn PV:=fun ρ=>bnd (f ρ) asD
noncomputable def fu (i:Nat):Fn PV:=fun ρ=>bnd (mVL i ρ) asD
theorem J6 (h:MJ K C (aF K) ta f):MJ K C (aD K) ta (yR f):=by
 intro F H σ ρ Q r R e P
 refine h.run R e P fun p v F1 H1 hk u a=>?_
 unfold asD at hk
 split at hk
 ·rename_i hd
  cases hk
  exact P v F1 H1 u ⟨hd,Rep.own a u.fh hd⟩
 ·cases hk
theorem fB (i:Nat):MJ K C (aD K) (lD i) (fu i):=by
 intro F H σ ρ Q r R e P
 unfold fu at e
 rcases bQ e with ⟨z,e1,rfl⟩ | ⟨p,e1,hk⟩
 ·unfold mVL at e1
  split at e1 <;> cases e1
 ·unfold asD at hk
  split at hk
  case isFalse=>cases hk
  rename_i hd
  cases hk
  unfold mVL at e1
  split at e1
  ·rename_i q hq
   cases e1
   obtain ⟨v,e2,e3⟩:=R.sh i _ hq
   exact ⟨v,e2,P v F H (Up.refl R.rb.sub) ⟨hd,Rep.own e3 R.rb.sub hd⟩⟩
  ·rename_i q hq
   cases e1
   obtain ⟨a,e2,e3,_⟩:=R.ow i _ hq
   exact ⟨_,e2,P _ F H (Up.refl R.rb.sub) ⟨hd,a,rfl,e3.look hd⟩⟩
  ·cases e1
noncomputable def fK:PV->PV->Option (Option PV)
 | .dk l,k=>(u5 k).map (dw l)
 | .dt l,.tup ks=>(eO ks).map (dw l)
 | _,_=>none
theorem qL {F H:Hp}{a:Addr}{d k:PV}{y:V}{r:Option PV} (s:aR F H) (o:DLk K F H a d) (ry:Rep K F y k) (e:fK d k=some r) :
  ∃ o,qy H a y o∧(r=none->o=none)∧∀ p,r=some p->∃ v,o=some v∧Rep K F v p:=by
 have inv:(∃ l,d=.dk l)∨∃ l ks,d=.dt l∧k=.tup ks:=by
  clear o ry
  cases d <;> first | exact noS e | exact .inl ⟨_,rfl⟩ | (cases k <;> first | exact noS e | exact .inr ⟨_,_,rfl,rfl⟩)
 rcases inv with ⟨l,rfl⟩ | ⟨l,ks,rfl,rfl⟩
 ·obtain ⟨xs,h1,h2,h3⟩:=o
  have D:=fX.of (K:=K) (F:=F) h2 h3
  have e:(u5 k).map (dw l)=some r:=e
  cases hk:u5 k with
  | none=>rw [hk] at e;cases e
  | some k' =>
   rw [hk] at e
   cases e
   cases u6 hk ry
   exact ⟨_,.inl ⟨_,_,h1,rfl,rfl⟩,fun n=>D.none n,fun p q=>D.some q⟩
 ·obtain ⟨xs,h1,h2,h3⟩:=o
  have D:=fX.of (K:=K) (F:=F) h2 h3
  have e:(eO ks).map (dw l)=some r:=e
  cases hk:eO ks with
  | none=>rw [hk] at e;cases e
  | some k' =>
   rw [hk] at e
   cases e
   obtain ⟨b,ys,rfl,hb,rr⟩:=Rep.qD ry
   cases oJ hk rr
   exact ⟨_,.inr ⟨_,_,_,h1,rfl,s _ _ hb,rfl⟩,fun n=>D.none n,fun p q=>D.some q⟩
noncomputable def jZ (d k:PV):Option (Res PV):=match fK d k with
 | some (some p)=>some (.ok p)
 | _=>none
noncomputable def PN:R2:=fun x y H Q=>∃ a v,x=.ref a∧qy H a y (some v)∧Q v H
theorem Q9:R2M C (aD K) (aF K) (aF K) PN jZ:=by
 intro F H x y a b res Q s ha hb e P
 obtain ⟨_,ad,rfl,o⟩:=ha
 unfold jZ at e
 split at e
 ·rename_i p hp
  cases e
  obtain ⟨ov,g,_,g2⟩:=qL s o hb hp
  obtain ⟨v,rfl,rv⟩:=g2 p rfl
  exact ⟨ad,v,rfl,g,P v F H (Up.refl s) rv⟩
 ·cases e
noncomputable def Bm (k d:PV):Option (Res PV):=(fK d k).map fun r=>.ok (.bl r.isSome)
noncomputable def kI (k d:PV):Option (Res PV):=(fK d k).map fun r=>.ok (.bl (!r.isSome))
theorem Tr:R2M C (aF K) (aD K) (aF K) (fun y x H Q=>∃ a o,x=.ref a∧qy H a y o∧Q (.bl o.isSome) H) Bm:=by
 intro F H x y a b res Q s ha hb e P
 obtain ⟨_,ad,rfl,o⟩:=hb
 unfold Bm at e
 cases hp:fK b a with
 | none=>rw [hp] at e;cases e
 | some r =>
  rw [hp] at e
  cases e
  obtain ⟨ov,g,g1,g2⟩:=qL s o ha hp
  have es:ov.isSome=r.isSome:=by
   cases r with
   | none=>rw [g1 rfl];rfl
   | some p=>obtain ⟨v,rfl,_⟩:=g2 p rfl;rfl
  exact ⟨ad,ov,rfl,g,by rw [es];exact P _ F H (Up.refl s) .bl⟩
theorem Bo:R2M C (aF K) (aD K) (aF K) (fun y x H Q=>∃ a o,x=.ref a∧qy H a y o∧Q (.bl (!o.isSome)) H) kI:=by
 intro F H x y a b res Q s ha hb e P
 obtain ⟨_,ad,rfl,o⟩:=hb
 unfold kI at e
 cases hp:fK b a with
 | none=>rw [hp] at e;cases e
 | some r =>
  rw [hp] at e
  cases e
  obtain ⟨ov,g,g1,g2⟩:=qL s o ha hp
  have es:ov.isSome=r.isSome:=by
   cases r with
   | none=>rw [g1 rfl];rfl
   | some p=>obtain ⟨v,rfl,_⟩:=g2 p rfl;rfl
  exact ⟨ad,ov,rfl,g,by rw [es];exact P _ F H (Up.refl s) .bl⟩
theorem DLk.isD {F H:Hp}{a:Addr}{p:PV} (o:DLk K F H a p) (d:p.isD=true):IsD H a:=by
 cases p with
 | dk l=>obtain ⟨xs,e,_⟩:=o;exact .inl ⟨xs,e⟩
 | dt l=>obtain ⟨xs,e,_⟩:=o;exact .inr ⟨xs,e⟩
 | _=>cases d
noncomputable def yS (f g:Fn PV):Fn PV:=fun ρ=>bnd (f ρ) fun d=>bnd (g ρ) fun k=>(fK d k).map fun r=>.ok (r.getD .non)
theorem J7 (ha:MJ K C (aD K) ta f) (hb:MJ K C (aF K) tb g):MJ K C (aF K) (Ea ta tb) (yS f g):=by
 intro F H σ ρ Q r R e P
 refine ha.run R e P ?_
 rintro d v F1 H1 hk u ⟨hd,a,ea,o⟩
 subst ea
 refine ⟨a,rfl,o.isD hd,?_⟩
 refine hb.run (R.up u) hk (P.later u) fun k w F2 H2 hk2 u2 b=>?_
 cases hp:fK d k with
 | none=>rw [hp] at hk2;cases hk2
 | some q =>
  rw [hp] at hk2
  cases hk2
  obtain ⟨ov,g,g1,g2⟩:=qL u2.fh (o.up u2.ff u2.hh) b hp
  refine ⟨ov,g,P _ F2 H2 (u.trans u2) ?_⟩
  cases q with
  | none=>rw [g1 rfl];exact .non
  | some p=>obtain ⟨v,rfl,rv⟩:=g2 p rfl;exact rv
noncomputable def En:PV->PV->PV->Option PV
 | .dk l,k,p=>match u5 k with
  | some k=>if l.length < sizeLine then some (.dk (iH l k p)) else none
  | none=>none
 | .dt l,.tup ks,p=>match eO ks with
  | some k=>if l.length < sizeLine then some (.dt (iH l k p)) else none
  | none=>none
 | _,_,_=>none
theorem yU {F H:Hp}{a:Addr}{d k p d':PV}{y v:V} (s:aR F H) (o:Own K F H a d) (ry:Rep K F y k) (rv:Rep K F v p) (e:En d k p=some d') :
  ∃ ob,qz H a y v (upd H a ob)∧Own K F (upd H a ob) a d':=by
 have inv:(∃ l,d=.dk l)∨∃ l ks,d=.dt l∧k=.tup ks:=by
  clear o ry rv
  cases d <;> first | exact noS e | exact .inl ⟨_,rfl⟩ | (cases k <;> first | exact noS e | exact .inr ⟨_,_,rfl,rfl⟩)
 rcases inv with ⟨l,rfl⟩ | ⟨l,ks,rfl,rfl⟩
 ·obtain ⟨xs,h1,h2,h3⟩:=o
  have D:=fX.of (K:=K) (F:=F) h2 h3
  have e:(match u5 k with | some k=>if l.length < sizeLine then some (PV.dk (iH l k p)) else none | none=>none)=some d':=e
  split at e
  case h_2=>cases e
  rename_i k' hk
  split at e
  case isFalse=>cases e
  rename_i hz
  cases e
  cases u6 hk ry
  have D':=D.put (k:=k') rv
  exact ⟨_,qz.k h1 (by rw [D.len];exact hz),_,aJ,D'.keys,D'.at⟩
 ·obtain ⟨xs,h1,h2,h3⟩:=o
  have D:=fX.of (K:=K) (F:=F) h2 h3
  have e:(match eO ks with | some k=>if l.length < sizeLine then some (PV.dt (iH l k p)) else none | none=>none)=some d':=e
  split at e
  case h_2=>cases e
  rename_i k' hk
  split at e
  case isFalse=>cases e
  rename_i hz
  cases e
  obtain ⟨b,ys,rfl,hb,rr⟩:=Rep.qD ry
  cases oJ hk rr
  have D':=D.put (k:=k') rv
  exact ⟨_,qz.t h1 (s _ _ hb) (by rw [D.len];exact hz),_,aJ,D'.keys,D'.at⟩
noncomputable def tO (i:Nat) (fe fk:Fn PV):Sn:=fun ρ=>gW (fe ρ) fun p=>match ownAt i ρ with
 | some d=>gW (fk ρ) fun k=>match En d k p with
  | some d'=>some (.nx (ρ.set i (some (.ow d'))))
  | none=>none
 | none=>none
theorem FJ {i:Nat}{fe fk:Fn PV} (he:MJ K C (aF K) te fe) (hk:MJ K C (aF K) tb fk):MS K C (Jz (lD i) tb te) (tO i fe fk):=by
 intro F H σ ρ D o R e P
 refine he.uT R e P fun p v F1 H1 hk1 u a=>?_
 split at hk1
 case h_2=>cases hk1
 rename_i d hd
 obtain ⟨b,g1,_⟩:=R.ow i _ (bC hd)
 refine ⟨_,g1,hk.uT (R.up u) hk1 (P.up u.ff) fun k w F2 H2 hk2 u2 rk=>?_⟩
 split at hk2
 case h_2=>cases hk2
 rename_i d' hd'
 cases hk2
 have R2:=R.up (u.trans u2)
 obtain ⟨a',k1,k2,_⟩:=R2.ow i _ (bC hd)
 rw [g1] at k1
 cases k1
 obtain ⟨ob,g,w'⟩:=yU u2.fh k2 rk (Rep.up a u2.ff) hd'
 exact ⟨b,_,rfl,g,P F2 _ σ (u.trans u2).ff (R2.write (bC hd) g1 w')⟩
noncomputable def u9:Fn PV:=fun _=>some (.ok (.dt []))
theorem qM:MO K C JC u9:=by
 intro F H σ ρ Q r R e P
 cases e
 intro p hp
 exact P p F _ (Up.Eb R.rb.sub hp) hp (R.rb.sub.free hp) ⟨[],aJ,rfl,fun j x p h=>by simp at h⟩
noncomputable def asPair:PV->Option (PV×PV)
 | .tup [a,b]=>some (a,b)
 | _=>none
noncomputable def lM:List PV->Option (List (PV×PV))
 | []=>some []
 | p::l=>match asPair p,lM l with
  | some a,some r=>some (a::r)
  | _,_=>none
noncomputable def iw (d:PV):List (PV×PV)->Option PV
 | []=>some d
 | (k,p)::r=>match En d k p with
  | some d'=>iw d' r
  | none=>none
theorem vd {F H:Hp} (s:aR F H):∀ {l:List PV}{ps:List (PV×PV)}{xs:List V},lM l=some ps->bA K F xs l ->
  ∃ vs:List (V×V),yG K H xs vs∧vs.length=ps.length∧∀ (j:Nat) x p,vs[j]?=some x->ps[j]?=some p->Rep K F x.1 p.1∧Rep K F x.2 p.2
 | [],ps,xs,h,r=>by
  cases h
  cases r.iu
  exact ⟨[],⟨rfl,fun j x p e=>by simp at e⟩,rfl,fun j x p e=>by simp at e⟩
 | p::l,ps,xs,h,r=>by
  unfold lM at h
  split at h
  ·rename_i a r' h1 h2
   cases h
   obtain ⟨v,ys,rfl,r1,r2⟩:=r.dD
   obtain ⟨vs,g1,g2,g3⟩:=vd s h2 r2
   unfold asPair at h1
   split at h1
   ·rename_i pa pb
    cases h1
    obtain ⟨b,zs,rfl,hb,rr⟩:=Rep.dh r1
    obtain ⟨v1,zs1,rfl,q1,rr⟩:=rr.dD
    obtain ⟨v2,zs2,rfl,q2,rr⟩:=rr.dD
    cases rr.iu
    refine ⟨(v1,v2)::vs,⟨by simp [g1.1],fun j x p e1 e2=>?_⟩,by simp [g2],fun j x p e1 e2=>?_⟩
    ·cases j with
     | zero=>simp at e1 e2;subst e1 e2;exact ⟨b,rfl,s.tup hb⟩
     | succ j=>exact g1.2 j x p (by simpa using e1) (by simpa using e2)
    ·cases j with
     | zero=>simp at e1 e2;subst e1 e2;exact ⟨q1,q2⟩
     | succ j=>exact g3 j x p (by simpa using e1) (by simpa using e2)
   ·cases h1
  ·cases h
theorem vf {F:Hp}{a:Addr}{Q:Hp->Prop}:∀ {ps:List (PV×PV)}{vs:List (V×V)}{H:Hp}{d d':PV},aR F H->F a=none->Own K F H a d->vs.length=ps.length->(∀ (j:Nat) x p,vs[j]?=some x->ps[j]?=some p->Rep K F x.1 p.1∧Rep K F x.2 p.2) ->
  iw d ps=some d'->(∀ H',aR F H'->(∀ b,b≠a->H' b=H b)->Own K F H' a d'->Q H')->xH a vs H Q
 | [],vs,H,d,d',s,hn,o,hl,hr,e,q=>by
  cases vs with
  | nil=>cases e;exact q H s (fun _ _=>rfl) o
  | cons v vs=>simp at hl
 | (k,p)::ps,vs,H,d,d',s,hn,o,hl,hr,e,q=>by
  cases vs with
  | nil=>simp at hl
  | cons v vs =>
   unfold iw at e
   split at e
   case h_2=>cases e
   rename_i d1 h1
   obtain ⟨r1,r2⟩:=hr 0 v (k,p) rfl rfl
   obtain ⟨ob,g,o1⟩:=yU s o r1 r2 h1
   refine ⟨_,g,vf (H:=upd H a ob) (fun b u z=>by rw [aG (bI z hn)];exact s b u z) hn o1 (by simpa using hl) (fun j x p e1 e2=>hr (j+1) x p (by simpa using e1) (by simpa using e2)) e fun H' s' hb o'=>?_⟩
   exact q H' s' (fun b hb'=>(hb b hb').trans (aG hb')) o'
noncomputable def qN (d:PV) (l:List PV):Option (Res PV):=match lM l with
 | some ps=>(iw d ps).map .ok
 | none=>none
theorem Nq {n:HO}{d:PV} (hd:∀ F H a,H a=some n->Own K F H a d):R1O K C (aV K) (El K n) (qN d):=by
 intro F H x l res Q s ha e P
 obtain ⟨b,xs,rfl,h1,r1⟩:=ha
 unfold qN at e
 split at e
 case h_2=>cases e
 rename_i ps hps
 cases hd':iw d ps with
 | none=>rw [hd'] at e;cases e
 | some d' =>
  rw [hd'] at e
  cases e
  obtain ⟨vs,g1,g2,g3⟩:=vd (H:=H) s hps r1
  refine ⟨b,xs,vs,rfl,.inl h1,g1,fun a na=>?_⟩
  refine vf (F:=F) (s.trans (dH na)) (s.free na) (hd _ _ _ aJ) g2 g3 hd' fun H' s' hb o'=>?_
  exact P a F H' ⟨aR.refl _,fun c o q=>by rw [hb c (bI q na),aG (bI q na)];exact q,fun _ _ q=>.inl q,s'⟩ na (s.free na) o'
theorem Nr {F H:Hp}{a:Addr} (h:H a=some (.dT [])):Own K F H a (.dt []):=⟨[],h,rfl,fun j x p e=>by simp at e⟩
end
section
variable {K:PySem.W.Frag}{C:Cg}{ta tb te:TE}{f g:Fn PV}
theorem qO (ha:MJ K C (aD K) ta f) (hb:MJ K C (aF K) tb g):MJ K C (aF K) (Jy ta tb) (m2 jZ f g):=aA (r2:=PN) aD.up Q9 ha hb
end
section
variable {X:Cx}
theorem Ra {k:Nat} (hr:fJ k X.A):OpR X (compareOp .In) (fun y x H Q=>∃ a o,x=.ref a∧qy H a y o∧Q (.bl o.isSome) H):=by
 intro pins s σ H x y v u Q I rx ry h
 obtain ⟨a,o,rfl,g,q⟩:=h
 cases ry
 exact Uj (qm hr) I g rx fun s3 I3=>⟨.bl o.isSome,H,I3,rfl,q⟩
theorem xJ {k:Nat} (hr:fJ k X.A):OpR X (compareOp .NotIn) (fun y x H Q=>∃ a o,x=.ref a∧qy H a y o∧Q (.bl (!o.isSome)) H):=by
 intro pins s σ H x y v u Q I rx ry h
 obtain ⟨a,o,rfl,g,q⟩:=h
 cases ry
 exact MN (qm hr) I g rx fun s3 I3=>⟨.bl (!o.isSome),H,I3,rfl,q⟩
theorem Eo {k:Nat} (hr:fJ k X.A) (hc:X.calm=true):sY X (.type "dict") (El X.K (.dT [])):=Em hc hr.units (.inr rfl)
end
section
variable {X:Cx}{k:Nat}{N:List Str}{scope:Scope}{cl:List (Str×Addr)}{C:Addr}{s2:Shared}{H2:Hp}{fp:List Addr}
theorem Ep (hr:fJ k X.A):OpR (X.comp N scope cl C s2 H2 fp) (compareOp .NotIn) (fun y x H Q=>∃ a o,x=.ref a∧qy H a y o∧Q (.bl (!o.isSome)) H):=xJ hr
theorem nj {X:Cx}{k:Nat}{o i:Expr}{pos:Pos}{td ty:TE} (hr:fJ k X.A) (ho:PE X o td) (hi:PE X i ty) (hs:QM i):PE X (.Subscript o i pos) (Jy td ty):=M4 (qm hr) ho hi hs
theorem HQ {X:Cx}{k:Nat}{o e:Expr}{apos cpos:Pos}{td ty:TE} (hr:fJ k X.A) (ho:PE X o td) (he:PE X e ty) (m:M1 X o "get" apos e cpos):PE X (.Call (.Attribute o "get" apos) [e] [] cpos) (Ea td ty):=JF (qm hr) ho he m
end
section
variable {X:Cx}{tg:Expr}
noncomputable def CR (a b c:Int):Prop:=0≤a∧a < 2 ^ 30∧-(2 ^ 30)≤b∧b < 2 ^ 30∧0 < c∧c < 2 ^ 30
noncomputable instance (a b c:Int):Decidable (CR a b c):=inferInstanceAs (Decidable (_∧_))
theorem rP {acc:Array Value}{n:Nat} (h:ItemsOf (fun i v=>∃ t,v=.int (0+(i:Nat) * 1) t) acc n):Vals ((List.range n).map fun i=>V.int (i:Nat)) acc.toList:=by
 obtain ⟨hs,hv⟩:=h
 have go:∀ (l:List Value) (k:Nat),(∀ (i:Nat) v,l[i]?=some v->∃ t,v=Value.int (((k+i:Nat):Int)) t)->Vals ((List.range' k l.length).map fun i=>V.int (i:Nat)) l:=by
  intro l
  induction l with
  | nil=>intro k _;exact .nil
  | cons v l ih =>
   intro k h
   rw [ZaC,List.range'_succ,Zak]
   obtain ⟨t,e⟩:=h 0 v rfl
   refine .cons ⟨t,by rw [e];rfl⟩ (ih (k+1) fun i v hv=>?_)
   obtain ⟨t,e⟩:=h (i+1) v (by simpa using hv)
   exact ⟨t,by rw [e];congr 2;omega⟩
 have:=go acc.toList 0 fun i v e=>by
  obtain ⟨t,e2⟩:=hv i v (by simpa using e)
  exact ⟨t,by rw [e2];congr 1;omega⟩
 rwa [ZaT,hs,←List.range_eq_range'] at this
section
variable {prog:Program}{w:World}{A:Around}{E:Value->Shared->Prop}{s:Shared}
end
end
section
variable {K:PySem.W.Frag}{C:Cg}{F:Hp}{te:TE}{tA:TA}{f:Fn PV}
end
section
variable {K:PySem.W.Frag}{C:Cg}{ta:TE}{f:Fn PV}
end
section
variable {prog:Program}{w:World}{A:Around}{E:Value->Shared->Prop}{s:Shared}
end
section
variable {X:Cx}
end
section
variable {K:PySem.W.Frag}{C:Cg}{te:TE}
end
section
variable {K:PySem.W.Frag}{C:Cg}{ta:TE}{f:Fn PV}
inductive MPs (K:PySem.W.Frag) (C:Cg):List (TE×TE)->List (Fn PV×Fn PV)->Prop
 | nil:MPs K C [] []
 | cons {tk tv:TE}{fk fv:Fn PV}{ts:List (TE×TE)}{fs:List (Fn PV×Fn PV)} (hk:MJ K C (aF K) tk fk) (hv:MJ K C (aF K) tv fv) (h:MPs K C ts fs):MPs K C ((tk,tv)::ts) ((fk,fv)::fs)
inductive J8 (K:PySem.W.Frag) (F:Hp):List (V×V)->List (PV×PV)->Prop
 | nil:J8 K F [] []
 | cons {x y:V}{p q:PV}{xs:List (V×V)}{l:List (PV×PV)} (h1:Rep K F x p) (h2:Rep K F y q) (t:J8 K F xs l):J8 K F ((x,y)::xs) ((p,q)::l)
end
noncomputable def POk (K:PySem.W.Frag) (C:Cg) (F:Hp) (D:Ends) (i:Nat) (c:Option (Option V)):Out->Prop
 | .nx ρ=>∀ F' H' σ,aR F F'->RE K C.toCf F' H' σ ρ->σ[i]?=c->D.nx σ H'
 | .bk ρ=>∀ F' H' σ,aR F F'->RE K C.toCf F' H' σ ρ->σ[i]?=c->D.bk σ H'
 | .ct ρ=>∀ F' H' σ,aR F F'->RE K C.toCf F' H' σ ρ->σ[i]?=c->D.ct σ H'
 | o=>PO' K C F D o
noncomputable def MSk (K:PySem.W.Frag) (C:Cg) (i:Nat) (t:TS) (f:Sn):Prop:=∀ F H σ ρ D o,RE K C.toCf F H σ ρ->f ρ=some o->POk K C F D i (σ[i]?) o->t D σ H
noncomputable def MGk (K:PySem.W.Frag) (C:Cg) (i:Nat) (g:TG) (tg:PV->Rho->Option Rho):Prop :=
 ∀ F H σ ρ v p ρ' Q,RE K C.toCf F H σ ρ->Rep K F v p->tg p ρ=some ρ'->(∀ σ',RE K C.toCf F H σ' ρ'->σ'[i]?=σ[i]?->Q σ' H)->g v σ H Q
section
variable {K:PySem.W.Frag}{C:Cg}{i:Nat}{te:TE}{F H:Hp}{σ:St}{ρ:Rho}{D:Ends}{t u:TS}{f g:Sn}{o:Out}{c:Option (Option V)}
theorem POk.up {F1:Hp} (h:POk K C F D i c o) (s:aR F F1):POk K C F1 D i c o:=by
 cases o with
 | nx ρ=>exact fun F' H' σ a=>h F' H' σ (s.trans a)
 | bk ρ=>exact fun F' H' σ a=>h F' H' σ (s.trans a)
 | ct ρ=>exact fun F' H' σ a=>h F' H' σ (s.trans a)
 | rt p=>exact fun v F' H' a=>h v F' H' (s.trans a)
 | ro p=>exact fun v F' H' a=>h v F' H' (s.trans a)
 | rd p=>exact fun v F' H' S a=>h v F' H' S (s.trans a)
 | ex z=>exact PX.up h s
theorem qP (j:Nat) (h:j≠i):MGk K C i (uD j) (gN j):=fun F H σ ρ v p ρ' Q R r e k=>by
 cases e
 exact k _ (R.set j r) (Zam h)
theorem MT.J9 {tt:TT}{fe:Fn Bool}{Q:Bool->Hp->Prop}{k:Bool->Option Out} (h:MT K C tt fe) (R:RE K C.toCf F H σ ρ) (hb:gW (fe ρ) k=some o) (P:POk K C F D i c o)
  (go:∀ b F1 H1,k b=some o->Up F H F1 H1->Q b H1):tt σ H Q:=by
 rcases cL hb with ⟨z,e,rfl⟩ | ⟨p,e,hk⟩
 ·exact h F H σ ρ Q _ R e P
 ·exact h F H σ ρ Q _ R e fun F1 H1 u=>go p F1 H1 hk u
theorem MJ.J9 {α:Type}{A:Rel α}{ta:TE}{fe:Fn α}{Q:VK}{k:α->Option Out} (h:MJ K C A ta fe) (R:RE K C.toCf F H σ ρ) (hb:gW (fe ρ) k=some o) (P:POk K C F D i c o)
  (go:∀ p v F1 H1,k p=some o->Up F H F1 H1->A F1 H1 v p->Q v H1):ta σ H Q:=by
 rcases cL hb with ⟨z,e,rfl⟩ | ⟨p,e,hk⟩
 ·exact h F H σ ρ Q _ R e P
 ·exact h F H σ ρ Q _ R e fun v F1 H1 u a=>go p v F1 H1 hk u a
theorem uf {fe:Fn PV}{gt:TG}{tg:PV->Rho->Option Rho} (h:MJ K C (aF K) te fe) (hg:MGk K C i gt tg):MSk K C i (Hh te gt) (cj fe tg):=by
 intro F H σ ρ D o R e P
 refine h.J9 R e P fun p v F1 H1 hk u a=>?_
 split at hk
 ·rename_i ρ' h1
  cases hk
  exact hg F1 H1 σ ρ v p ρ' _ (R.up u) a h1 fun σ' R' k=>P F1 H1 σ' u.ff R' k
 ·cases hk
theorem qQ (h1:MSk K C i t f) (h2:MSk K C i u g):MSk K C i (Qq t u) (bf f g):=by
 intro F H σ ρ D o R e P
 unfold bf at e
 split at e
 ·rename_i ρ' h
  refine h1 F H σ ρ _ _ R h ?_
  exact fun F' H' σ' s R' k=>h2 F' H' σ' ρ' D o R' e (by rw [k];exact P.up s)
 ·rename_i x hx
  cases o with
  | nx ρ'=>exact absurd e (hx ρ')
  | bk ρ=>exact h1 F H σ _ _ _ R e P
  | ct ρ=>exact h1 F H σ _ _ _ R e P
  | rt p=>exact h1 F H σ _ _ _ R e P
  | ro p=>exact h1 F H σ _ _ _ R e P
  | rd p=>exact h1 F H σ _ _ _ R e P
  | ex z=>exact h1 F H σ _ _ _ R e P
end
noncomputable def New (H F' H':Hp) (S:Addr->Prop):Prop:=∀ b,S b->H b=none∧F' b=none∧∃ o,H' b=some o∧∀ ys,o≠.tup ys
noncomputable def MD (K:PySem.W.Frag) (C:Cg) (te:TE) (f:Fn PV):Prop :=
 ∀ F H σ ρ Q r,RE K C.toCf F H σ ρ->f ρ=some r->Pr C F (fun p=>∀ v F' H' S,Up F H F' H'->Dp K F' H' S v p->New H F' H' S->Q v H') r->te σ H Q
noncomputable def spD (K:PySem.W.Frag) (XR:Hp->Value->Option Addr->PV->Prop) (m:List PV->Option (Res PV)):Sp:=fun vs H Q E=>∃ ps F r,aR F H∧bA K F vs ps∧m ps=some r∧match r with
 | .ok p=>∀ v F' H' S,Up F H F' H'->Dp K F' H' S v p->New H F' H' S->Q v H'
 | .ex z=>∀ e d F' H',Up F H F' H'->XR F' e d z->E e d H'
section
variable {K:PySem.W.Frag}{C:Cg}{te ta tb:TE}{F F1 F2 H H1 H2:Hp}{σ:St}{ρ:Rho}{D:Ends}{t u:TS}{f g:Sn}{o:Out}{S:Addr->Prop}{v:V}{p:PV}
theorem New.up (n:New H F1 H1 S) (u:Up F1 H1 F2 H2):New H F2 H2 S:=fun b q=>by
 obtain ⟨n0,n1,o,n2,n3⟩:=n b q
 refine ⟨n0,?_,o,u.hh _ _ n2,n3⟩
 cases e:F2 b with
 | none=>rfl
 | some o' =>
  rcases u.fr b o' e with z | z | ⟨ys,z⟩
  ·rw [n1] at z;cases z
  ·rw [n2] at z;cases z
  ·subst z
   have w:=u.fh _ _ e
   rw [u.hh _ _ n2] at w
   cases w
   exact absurd rfl (n3 ys)
theorem Dp.stay (d:Dp K F1 H1 S v p) (u:Up F1 H1 F2 H2):Dp K F2 H2 S v p:=d.up u.ff (fun b o _ q=>u.hh b o q) fun b ys q=>u.hh b _ q
noncomputable def t6 (F H:Hp) (S:Addr->Prop):Hp:=fun b=>@ite _ (S b∨∃ ys,H b=some (.tup ys)) (Classical.propDecidable _) (H b) (F b)
theorem gq {b:Addr} (h:S b∨∃ ys,H b=some (.tup ys)):t6 F H S b=H b:=@if_pos _ (Classical.propDecidable _) h _ _ _
theorem fL {b:Addr} (h:¬(S b∨∃ ys,H b=some (.tup ys))):t6 F H S b=F b:=@if_neg _ (Classical.propDecidable _) h _ _ _
theorem jj (s:aR F H):aR F (t6 F H S):=fun b o e=>by
 by_cases h:S b∨∃ ys,H b=some (.tup ys)
 ·rw [gq h];exact s b o e
 ·rw [fL h];exact e
theorem qR (s:aR F H):aR (t6 F H S) H:=fun b o e=>by
 by_cases h:S b∨∃ ys,H b=some (.tup ys)
 ·rw [gq h] at e;exact e
 ·rw [fL h] at e;exact s b o e
theorem Ka (d:Dp K F H S v p) (s:aR F H):Rep K (t6 F H S) v p :=
 d.seen (jj s) (fun b o q e=>by rw [gq (.inl q)];exact e) fun b ys e=>by rw [gq (.inr ⟨ys,e⟩)];exact e
noncomputable def vg (fe:Fn PV):Fn PV:=fun ρ=>bnd (fe ρ) fun p=>if p.still=true then some (.ok p) else none
theorem Bp {fe:Fn PV} (h:MJ K C (aF K) te fe):MD K C te (vg fe):=by
 intro F H σ ρ Q r R e P
 rcases bQ e with ⟨z,e1,rfl⟩ | ⟨p,e1,hk⟩
 ·exact h F H σ ρ Q _ R e1 P
 ·split at hk
  ·rename_i hp
   cases hk
   exact h F H σ ρ Q _ R e1 fun v F' H' u w=>P v F' H' (fun _=>False) u (.fr w hp) fun b q=>q.elim
  ·cases hk
theorem FN {t:TA}{fe:Fn (List PV)}{m:List PV->Option (Res PV)} (h:MA K C t fe):MD K C (uI (spD K C.XR m) [] C.E t) (bJ m fe):=by
 intro F H σ ρ Q r R e P
 refine h.run R e P fun l xs F1 H1 hk u a=>?_
 refine ⟨l,F1,r,u.fh,by rw [Za4];exact a,hk,?_⟩
 cases r with
 | ok p=>exact fun v F' H' S u' d n=>P v F' H' S (u.trans u') d fun b q=>⟨u.hh.free (n b q).1,(n b q).2⟩
 | ex z=>exact fun e d F' H' u' x=>P e d F' H' (u.trans u').ff (R.rb.up (u.trans u')) x
noncomputable def Dps (K:PySem.W.Frag) (F H:Hp) (S:Nat->Addr->Prop) (xs:List V) (l:List PV):Prop :=
 xs.length=l.length∧(∀ i j b,S i b->S j b->i=j)∧∀ (j:Nat) x p,xs[j]?=some x->l[j]?=some p->Dp K F H (S j) x p
noncomputable def yV (i:Nat) (ρ:Rho):Option PV:=match ρ[i]? with
 | some (some (.dp p))=>some p
 | _=>none
theorem iy {i:Nat}{p:PV} (h:yV i ρ=some p):ρ[i]?=some (some (.dp p)):=by
 unfold yV at h
 split at h
 ·rename_i q hq;cases h;exact hq
 ·cases h
theorem RE.Uq {C:Cf} (R:RE K C F H σ ρ) (i:Nat) (u:Up F H F1 H1) (d:Dp K F1 H1 S v p) (n:New H F1 H1 S) (nw:C.nw):RE K C F1 H1 (σ.set i (some v)) (ρ.set i (some (.dp p))) where
 rb:=R.rb.up u
 len:=by simp [R.len]
 sh:=fun j q e=>by
  rcases get_set e with ⟨e1,e2⟩ | ⟨e1,e2⟩
  ·cases e2
  ·obtain ⟨w,e3,e4⟩:=(R.up u).sh j q e2
   exact ⟨w,by rw [Zam e1];exact e3,e4⟩
 ow:=fun j q e=>by
  rcases get_set e with ⟨e1,e2⟩ | ⟨e1,e2⟩
  ·cases e2
  ·obtain ⟨w,e3,e4⟩:=(R.up u).ow j q e2
   exact ⟨w,by rw [Zam e1];exact e3,e4⟩
 dis:=fun j k q q' b e e' f f'=>by
  rcases get_set e with ⟨e1,e2⟩ | ⟨e1,e2⟩
  ·cases e2
  ·rcases get_set e' with ⟨e1',e2'⟩ | ⟨e1',e2'⟩
   ·cases e2'
   ·rw [Zam e1] at f
    rw [Zam e1'] at f'
    exact R.dis j k q q' b e2 e2' f f'
 dd:=by
  obtain ⟨P,d0⟩:=R.dd
  have d1:=d0.up u
  refine ⟨fun j b=>if j=i then S b else P j b,fun j b q=>?_,fun j k b a1 a2=>?_,fun j k q b z e f=>?_,fun j q e=>?_⟩
  ·by_cases hj:j=i
   ·simp only [hj,if_true] at q
    obtain ⟨c1,c2,c3⟩:=n b q
    exact ⟨c2,c3,nw,R.rb.tD c1⟩
   ·simp only [hj,if_false] at q
    exact d1.own j b q
  ·by_cases hj:j=i <;> by_cases hk:k=i
   ·rw [hj,hk]
   ·simp only [hj,hk,if_true,if_false] at a1 a2
    obtain ⟨_,⟨o,c,_⟩,_⟩:=d0.own k b a2
    rw [(n b a1).1] at c;cases c
   ·simp only [hj,hk,if_true,if_false] at a1 a2
    obtain ⟨_,⟨o,c,_⟩,_⟩:=d0.own j b a1
    rw [(n b a2).1] at c;cases c
   ·simp only [hj,hk,if_false] at a1 a2
    exact d0.dis j k b a1 a2
  ·rcases get_set e with ⟨e1,e2⟩ | ⟨e1,e2⟩
   ·cases e2
   ·rw [Zam e1] at f
    by_cases hj:j=i
    ·simp only [hj,if_true] at z
     exact R.apart (n b z).1 k q e2 f
    ·simp only [hj,if_false] at z
     exact d0.ow j k q b z e2 f
  ·rcases get_set e with ⟨e1,e2⟩ | ⟨e1,e2⟩
   ·subst e1
    cases e2
    have:=cG e
    refine ⟨v,by rw [ZaN (by rw [R.len];simpa using this)],?_⟩
    simp only [if_true]
    exact d
   ·obtain ⟨w,e3,e4⟩:=d1.dp j q e2
    refine ⟨w,by rw [Zam e1];exact e3,?_⟩
    simp only [Za8 e1,if_false]
    exact e4
noncomputable def vh (i:Nat) (fe:Fn PV):Sn:=fun ρ=>gW (fe ρ) fun p=>some (.nx (ρ.set i (some (.dp p))))
theorem ug {i:Nat}{fe:Fn PV} (nw:C.nw) (h:MD K C te fe):MS K C (Hh te (uD i)) (vh i fe):=by
 intro F H σ ρ D o R e P
 rcases cL e with ⟨z,e1,rfl⟩ | ⟨p,e1,hk⟩
 ·exact h F H σ ρ _ _ R e1 P
 ·cases hk
  exact h F H σ ρ _ _ R e1 fun v F1 H1 S u d n=>P F1 H1 _ u.ff (R.Uq i u d n nw)
theorem RE.Tt {C:Cf} (R:RE K C F H σ ρ) {i:Nat} (e:ρ[i]?=some (some (.dp p))):∃ S v,σ[i]?=some (some v)∧Dp K F H S v p∧(∀ b,S b->F b=none∧(∃ o,H b=some o∧∀ ys,o≠.tup ys)∧C.H0 b=none)∧RE K C (t6 F H S) H σ (ρ.set i (some (.sh p))):=by
 obtain ⟨P,d⟩:=R.dd
 obtain ⟨v,e1,e2⟩:=d.dp i p e
 have li:=cG e
 have sf:aR F (t6 F H (P i)):=jj R.rb.sub
 refine ⟨P i,v,e1,e2,fun b q=>⟨(d.own i b q).1,(d.own i b q).2.1,(d.own i b q).2.2.2⟩,⟨⟨qR R.rb.sub,R.rb.keep,fun b o q=>?_,R.rb.ios⟩,by simp [R.len],fun j q f=>?_,fun j q f=>?_,fun j k q q' b f f' g g'=>?_,?_⟩⟩
 ·by_cases h:P i b∨∃ ys,H b=some (.tup ys)
  ·rw [gq h] at q
   rcases h with h | ⟨ys,h⟩
   ·exact .inr (.inl (d.own i b h).2.2.2)
   ·rw [h] at q;cases q;exact .inr (.inr ⟨ys,rfl⟩)
  ·rw [fL h] at q;exact R.rb.new b o q
 ·rcases get_set f with ⟨f1,f2⟩ | ⟨f1,f2⟩
  ·subst f1;cases f2;exact ⟨v,e1,Ka e2 R.rb.sub⟩
  ·obtain ⟨w,g1,g2⟩:=R.sh j q f2
   exact ⟨w,g1,g2.up sf⟩
 ·rcases get_set f with ⟨f1,f2⟩ | ⟨f1,f2⟩
  ·cases f2
  ·obtain ⟨b,g1,g2,g3,g4⟩:=R.ow j q f2
   refine ⟨b,g1,g2.up sf fun _ z=>z,?_,g4⟩
   rw [fL]
   ·exact g3
   ·rintro (z | ⟨ys,z⟩)
    ·exact d.ow i j q b z f2 g1
    ·exact g2.tu z
 ·rcases get_set f with ⟨f1,f2⟩ | ⟨f1,f2⟩
  ·cases f2
  ·rcases get_set f' with ⟨f1',f2'⟩ | ⟨f1',f2'⟩
   ·cases f2'
   ·exact R.dis j k q q' b f2 f2' g g'
 ·refine ⟨fun j b=>j≠i∧P j b,fun j b z=>?_,fun j k b a1 a2=>d.dis j k b a1.2 a2.2,fun j k q b z f g=>?_,fun j q f=>?_⟩
  ·obtain ⟨c1,c2,c3⟩:=d.own j b z.2
   refine ⟨?_,c2,c3⟩
   rw [fL]
   ·exact c1
   ·rintro (y | ⟨ys,y⟩)
    ·exact z.1 (d.dis j i b z.2 y)
    ·obtain ⟨o,c4,c5⟩:=c2
     rw [y] at c4;cases c4;exact c5 ys rfl
  ·rcases get_set f with ⟨f1,f2⟩ | ⟨f1,f2⟩
   ·cases f2
   ·exact d.ow j k q b z.2 f2 g
  ·rcases get_set f with ⟨f1,f2⟩ | ⟨f1,f2⟩
   ·cases f2
   ·obtain ⟨w,g1,g2⟩:=d.dp j q f2
    refine ⟨w,g1,(g2.up sf (fun _ _ _ q=>q) fun _ _ q=>q).mono fun b z=>⟨Za8 f1,z⟩⟩
noncomputable def rZ (i:Nat):Sn:=fun ρ=>match yV i ρ with
 | some p=>some (.rd p)
 | none=>none
theorem Kc (i:Nat):MS K C (Hg (lD i)) (rZ i):=by
 intro F H σ ρ D o R e P
 unfold rZ at e
 split at e
 ·rename_i p hp
  cases e
  obtain ⟨S,v,e1,e2,e3,_⟩:=R.Tt (iy hp)
  exact ⟨_,e1,P v F H S (aR.refl _) R.rb e2 e3⟩
 ·cases e
end
section
variable {K:PySem.W.Frag}{C:Cg}{te ta tb:TE}{F F1 F2 H H1 H2:Hp}{σ:St}{ρ:Rho}{D:Ends}{t u:TS}{f g:Sn}{o:Out}{S:Addr->Prop}{v:V}{p:PV}
theorem Dp.bY {l:List PV} (d:Dp K F H S v (.lst l)):∃ (T:Nat->Addr->Prop) (a:Addr) (xs:List V),v=.ref a∧H a=some (.lst xs)∧S a∧(∀ j b,T j b->S b∧b≠a)∧Dps K F H T xs l:=by
 cases d with
 | fr h st=>cases st
 | lst h hp hs dj hl hr=>exact ⟨_,_,_,rfl,h,hp,hs,hl,dj,hr⟩
theorem RE.Kd {C:Cf} (R:RE K C F H σ ρ) {P:Nat->Addr->Prop} (d:RD K C F H σ ρ P) {i:Nat} (e:ρ[i]?=some (some (.dp p))) (e1:σ[i]?=some (some v)) {a:Addr}{ob:HO} (ha:P i a) (ho:∀ ys,ob≠.tup ys) {p':PV}{S':Addr->Prop}
  (hd:Dp K F (upd H a ob) S' v p') (hS:∀ b,S' b->P i b∨(F b=none∧(∃ o,H b=some o∧∀ ys,o≠.tup ys)∧C.nw∧C.H0 b=none∧(∀ j,¬P j b)∧∀ (j:Nat) q,ρ[j]?=some (some (.ow q))->σ[j]?≠some (some (.ref b)))) :
  RE K C F (upd H a ob) σ (ρ.set i (some (.dp p'))):=by
 obtain ⟨c1,⟨oa,c2,c3⟩,c4,c5⟩:=d.own i a ha
 have hio:¬C.io a:=fun z=>(R.rb.ios a z).2 c5
 refine ⟨⟨fun b o q=>by rw [aG (fun z=>by subst z;rw [c1] at q;cases q)];exact R.rb.sub b o q,fun b o q z=>by rw [aG (fun y=>by subst y;rw [c5] at q;cases q)];exact R.rb.keep b o q z,R.rb.new,fun b z=>?_⟩,by simp [R.len],fun j q f=>?_,fun j q f=>?_,fun j k q q' b f f' g g'=>?_,?_⟩
 ·refine ⟨?_,(R.rb.ios b z).2⟩
  rw [aG (fun y=>by subst y;exact hio z)];exact (R.rb.ios b z).1
 ·rcases get_set f with ⟨f1,f2⟩ | ⟨f1,f2⟩
  ·cases f2
  ·exact R.sh j q f2
 ·rcases get_set f with ⟨f1,f2⟩ | ⟨f1,f2⟩
  ·cases f2
  ·obtain ⟨b,g1,g2,g3,g4⟩:=R.ow j q f2
   have nb:b≠a:=fun z=>by subst z;exact d.ow i j q b ha f2 g1
   refine ⟨b,g1,?_,g3,g4⟩
   cases q with
   | lst l=>obtain ⟨xs,k1,k2⟩:=g2;exact ⟨xs,by rw [aG nb];exact k1,k2⟩
   | dk l=>obtain ⟨xs,k1,k2⟩:=g2;exact ⟨xs,by rw [aG nb];exact k1,k2⟩
   | dt l=>obtain ⟨xs,k1,k2⟩:=g2;exact ⟨xs,by rw [aG nb];exact k1,k2⟩
   | _=>exact g2.elim
 ·rcases get_set f with ⟨f1,f2⟩ | ⟨f1,f2⟩
  ·cases f2
  ·rcases get_set f' with ⟨f1',f2'⟩ | ⟨f1',f2'⟩
   ·cases f2'
   ·exact R.dis j k q q' b f2 f2' g g'
 ·have up:∀ b o,H b=some o->(∀ ys,o≠.tup ys)->∃ o',upd H a ob b=some o'∧∀ ys,o'≠.tup ys:=fun b o q z=>by
   by_cases h:b=a
   ·subst h;exact ⟨ob,aJ,ho⟩
   ·exact ⟨o,by rw [aG h];exact q,z⟩
  refine ⟨fun j b=>if j=i then S' b else P j b,fun j b z=>?_,fun j k b a1 a2=>?_,fun j k q b z f g=>?_,fun j q f=>?_⟩
  ·by_cases hj:j=i
   ·simp only [hj,if_true] at z
    rcases hS b z with w | ⟨w1,⟨o,w2,w2'⟩,w3,w4,_⟩
    ·obtain ⟨k1,⟨o,k2,k3⟩,k4⟩:=d.own i b w
     exact ⟨k1,up b o k2 k3,k4⟩
    ·exact ⟨w1,up b o w2 w2',w3,w4⟩
   ·simp only [hj,if_false] at z
    obtain ⟨k1,⟨o,k2,k3⟩,k4⟩:=d.own j b z
    exact ⟨k1,up b o k2 k3,k4⟩
  ·by_cases hj:j=i <;> by_cases hk:k=i
   ·rw [hj,hk]
   ·simp only [hj,hk,if_true,if_false] at a1 a2
    rcases hS b a1 with w | ⟨_,_,_,_,w,_⟩
    ·rw [hj];exact d.dis i k b w a2
    ·exact absurd a2 (w k)
   ·simp only [hj,hk,if_true,if_false] at a1 a2
    rcases hS b a2 with w | ⟨_,_,_,_,w,_⟩
    ·rw [hk];exact d.dis j i b a1 w
    ·exact absurd a1 (w j)
   ·simp only [hj,hk,if_false] at a1 a2
    exact d.dis j k b a1 a2
  ·rcases get_set f with ⟨f1,f2⟩ | ⟨f1,f2⟩
   ·cases f2
   ·by_cases hj:j=i
    ·simp only [hj,if_true] at z
     rcases hS b z with w | ⟨_,_,_,_,_,w⟩
     ·exact d.ow i k q b w f2 g
     ·exact w k q f2 g
    ·simp only [hj,if_false] at z
     exact d.ow j k q b z f2 g
  ·rcases get_set f with ⟨f1,f2⟩ | ⟨f1,f2⟩
   ·subst f1
    cases f2
    refine ⟨v,e1,?_⟩
    simp only [if_true]
    exact hd
   ·obtain ⟨w,g1,g2⟩:=d.dp j q f2
    refine ⟨w,g1,?_⟩
    simp only [Za8 f1,if_false]
    refine g2.up (aR.refl _) (fun b o z q=>?_) fun b ys q=>?_
    ·rw [aG (fun y=>by subst y;exact f1 (d.dis i j b ha z))];exact q
    ·rw [aG (fun y=>by subst y;rw [c2] at q;cases q;exact c3 ys rfl)];exact q
end
section
variable {K:PySem.W.Frag}{C:Cg}{te ta tb:TE}{F F1 F2 H H1 H2:Hp}{σ:St}{ρ:Rho}{D:Ends}{t u:TS}{f g:Sn}{o:Out}{S:Addr->Prop}{v:V}{p:PV}
theorem Dp.snoc {b:Addr}{T:Nat->Addr->Prop}{ys:List V}{row:List PV}{q:PV} (e:H b=some (.lst ys)) (sb:S b) (ht:∀ j c,T j c->S c∧c≠b) (d:Dps K F H T ys row) (r:Rep K F v q) (st:q.still=true):Dp K F (upd H b (.lst (ys++[v]))) S (.ref b) (.lst (row++[q])):=by
 refine .lst (S:=fun j c=>j < ys.length∧T j c) aJ sb (fun j c z=>ht j c z.2) (fun i j c z z'=>d.2.1 i j c z.2 z'.2) (by simp [d.1]) fun j x p e1 e2=>?_
 by_cases hj:j < ys.length
 ·rw [Zag hj] at e1
  rw [Zag (by rw [←d.1];exact hj)] at e2
  refine ((d.2.2 j x p e1 e2).up (aR.refl _) (fun c o z e=>by rw [aG (ht j c z).2];exact e) fun c zs e'=>?_).mono fun c z=>⟨hj,z⟩
  rw [aG (fun w=>by subst w;rw [e] at e';cases e')];exact e'
 ·rw [Zao (by omega)] at e1
  rw [Zao (by rw [←d.1];omega)] at e2
  have ej:j=ys.length:=by
   have:=cG e1
   simp at this
   omega
  rw [ej,Nat.sub_self] at e1
  rw [ej,d.1,Nat.sub_self] at e2
  cases e1;cases e2
  exact .fr r st
end
noncomputable def HR:Option Out->Option (Res PV)
 | some (.rd p)=>some (.ok p)
 | some (.ex z)=>some (.ex z)
 | _=>none
section
variable {K:PySem.W.Frag}{XR:Hp->Value->Option Addr->PV->Prop}{N:List Str}{vs:List V}{H:Hp}{Q:VK}{E:XK}{t:TS}{b:Sn}{m:List PV->Option (Res PV)}
theorem FP {k n:Nat} (hk:N.length=k+n) (hm:∀ ps r,m ps=some r->ps.length=k∧HR (b (startR ps n))=some r) (h:spD K XR0 m vs H Q E) (hS:∀ (io:Addr->Prop) (H0 F0:Hp),(∀ a,¬io a)->MS K (C0 io H0 F0) t b) :
  t { nx:=fun _ H'=>Q .non H',rt:=Q } (start N vs) H:=by
 obtain ⟨ps,F,r,s,rp,e,P⟩:=h
 obtain ⟨hl,e⟩:=hm ps r e
 have R:=uY (E:=E0) (N:=N) (n:=n) s rp (by rw [rp.1,hl];exact hk)
 have up:∀ {F' H':Hp},aR F F'->RB ⟨fun _=>False,True,H,F,E0⟩ F' H'->Up F H F' H':=fun s' rb=>⟨s',fun c o q=>rb.keep c o q id,rb.new,rb.sub⟩
 have M:=hS (fun _=>False) H F (fun _ h=>h)
 cases ho:b (startR ps n) with
 | none=>rw [ho] at e;cases e
 | some o =>
  rw [ho] at e
  refine M F H _ _ _ o R ho ?_
  cases o with
  | rd p=>cases e;exact fun v F' H' S s' rb d n=>P v F' H' S (up s' rb) d fun b q=>⟨(n b q).2.2,(n b q).1,(n b q).2.1⟩
  | ex z=>exact fun _ _ _ _ _ _ x=>x.elim
  | nx ρ=>cases e
  | rt p=>cases e
  | ro p=>cases e
  | bk ρ=>cases e
  | ct ρ=>cases e
theorem FQ (h:spD K XR m vs H Q E) {k:Nat} (hm:∀ ps r,m ps=some r->ps.length=k):vs.length=k:=by
 obtain ⟨ps,F,r,s,rp,e,P⟩:=h
 rw [rp.1];exact hm ps r e
end
end L2.MP
namespace L2
open PySem PySem.Spec PyProof PyProof.Rows
noncomputable def Itz (K:PySem.W.Frag) (a b:Addr):It :=
 ⟨fun i H=>∃ xs ys x y,SqL K H a xs∧SqL K H b ys∧xs[i]?=some x∧ys[i]?=some y,
  fun i H x H'=>∃ p u v,H p=none∧x=.ref p∧H'=upd H p (.tup [u,v])∧(∀ xs,SqL K H a xs->xs[i]?=some u)∧∀ ys,SqL K H b ys->ys[i]?=some v,
  fun i H=>∃ xs ys,SqL K H a xs∧SqL K H b ys∧(xs.length≤i∨ys.length≤i)⟩
theorem Ke {P:Program}{w:World}{K:PySem.W.Frag}{elts:List Expr}{x1:Nat}{pos:Pos} (a b z TI TO i1 i2:Addr) (D:ZipApart z TI TO i1 i2 a b) :
  Turn P w K (.Tuple elts x1 pos) (Itz K a b) [z,TO,i1,i2,TI] z (fun i h=>IsZip h z TI TO .none∧IsPair h TI (.ref i1) (.ref i2)∧(∃ c d,IsPair h TO c d)∧h.IsListIter i1 a i∧h.IsListIter i2 b i) where
 mem:=by simp
 obj:=fun i h st c hc=>by
  obtain ⟨hz,hTI,⟨c',d',hTO⟩,⟨o1,e1,_,d1⟩,⟨o2,e2,_,d2⟩⟩:=st
  simp only [Zas,List.not_mem_nil,or_false] at hc
  rcases hc with rfl | rfl | rfl | rfl | rfl
  ·exact ⟨_,hz,fun v q=>by cases q⟩
  ·exact ⟨_,hTO,fun v q=>by cases q⟩
  ·exact ⟨o1,e1,fun v q=>by rw [d1] at q;cases q⟩
  ·exact ⟨o2,e2,fun v q=>by rw [d2] at q;cases q⟩
  ·exact ⟨_,hTI,fun v q=>by cases q⟩
 keep:=fun i h h' st k=>by
  obtain ⟨hz,hTI,⟨c',d',hTO⟩,h1,h2⟩:=st
  exact ⟨k z (by simp) _ hz,k TI (by simp) _ hTI,⟨c',d',k TO (by simp) _ hTO⟩,h1.at fun o q=>k i1 (by simp) o q,h2.at fun o q=>k i2 (by simp) o q⟩
 item:=by
  intro X hP hw hK hc i pins s σ H E I hf st hg
  subst hP hw hK
  obtain ⟨xs,ys,x,y,hq,hq',hx,hy⟩:=hg
  obtain ⟨its,rv,p,_⟩:=I.list hq
  obtain ⟨its',rv',p',_⟩:=I.list hq'
  obtain ⟨u,hu,ru⟩:=rv.get hx
  obtain ⟨u',hu',ru'⟩:=rv'.get hy
  obtain ⟨hz,hTI,⟨c',d',hTO⟩,h1,h2⟩:=st
  refine wpAny_pyNext_zip_item D hz hTI hTO h1 h2 p.isList p'.isList (by rw [List.getElem?_toArray];exact hu) (by rw [List.getElem?_toArray];exact hu') fun h3 z3 t3 i3 j3 n3 sz3 k3=>?_
  refine ⟨_,rfl,wpAny_letOwnedTupleGo_zip z3 fun h4 z4 s4=>?_⟩
  have zlt:z < s.heap.objs.size:=Zaj hz
  have hT2:IsPair h4 s.heap.objs.size u u':=(s4.2 _ (Nat.ne_of_gt zlt)).trans n3
  have flt:∀ b'∈[z,TO,i1,i2,TI],b' < s.heap.objs.size:=fun b' hb=>by
   obtain ⟨o1,e1,_⟩:=h1
   obtain ⟨o2,e2,_⟩:=h2
   simp only [Zas,List.not_mem_nil,or_false] at hb
   rcases hb with rfl | rfl | rfl | rfl | rfl
   ·exact zlt
   ·exact Zaj hTO
   ·exact Zaj e1
   ·exact Zaj e2
   ·exact Zaj hTI
  refine ⟨.ref s.heap.objs.size,upd H s.heap.objs.size (.tup [x,y]),I.rW (ch:=[z,TO,i1,i2,TI]) (fun b' o hb q=>?_) hf (Zah _) ⟨by show 2≤sizeLine;decide,[u,u'],.cons ru (.cons ru' .nil),fU.mk hT2⟩,rfl,⟨_,x,y,I.hok.fresh (Zah _),rfl,rfl,fun zs hz'=>by rw [I.mR hz' hq];exact hx,fun zs hz'=>by rw [I.mR hz' hq'];exact hy⟩,⟨z4,?_,⟨u,u',(s4.2 _ D.TOz).trans t3⟩,i3.at fun o q=>(s4.2 i1 D.i1z).trans q,j3.at fun o q=>(s4.2 i2 D.i2z).trans q⟩,fun b' hb=>?_⟩
  ·have q1:b'≠z:=fun e=>hb (by simp [e])
   have q2:b'≠TO:=fun e=>hb (by simp [e])
   have q3:b'≠i1:=fun e=>hb (by simp [e])
   have q4:b'≠i2:=fun e=>hb (by simp [e])
   exact (s4.2 b' q1).trans (k3 b' o q1 q2 q3 q4 q)
  ·exact (s4.2 _ D.TIz).trans (k3 TI _ D.TIz D.TITO D.TIi1 D.TIi2 hTI)
  ·rw [aG (Zaw (flt b' hb))]
   exact (hf b' hb).1
 done:=by
  intro X hP hw hK hc i pins s σ H E I hf st hg
  subst hP hw hK
  obtain ⟨xs,ys,hq,hq',hx⟩:=hg
  obtain ⟨its,rv,p,_⟩:=I.list hq
  obtain ⟨its',rv',p',_⟩:=I.list hq'
  obtain ⟨hz,hTI,⟨c',d',hTO⟩,h1,h2⟩:=st
  have ln:=rv.length
  have ln':=rv'.length
  refine wpAny_pyNext_zip_end (I.ok.hd hc) D hz hTI hTO h1 h2 p.isList p'.isList (hx.imp (fun q=>by rw [List.getElem?_toArray];exact List.getElem?_eq_none_iff.mpr (by lia)) fun q=>by rw [List.getElem?_toArray];exact List.getElem?_eq_none_iff.mpr (by lia)) fun h' k=>⟨rfl,?_⟩
  exact I.qw (t':=s.toks) (ch:=[z,TO,i1,i2,TI]) (fun b' o hb q=>k b' o (fun e=>hb (by simp [e])) (fun e=>hb (by simp [e])) (fun e=>hb (by simp [e])) (fun e=>hb (by simp [e])) q) hf
 self:=fun A i s Q E st h=>wpAny_pyIter_zip st.1 h
noncomputable def Tu (K:PySem.W.Frag) (ta:TA):TI:=fun σ H R=>ta σ H fun vs H1=>∃ a b,vs=[.ref a,.ref b]∧(∃ xs,SqL K H1 a xs)∧(∃ ys,SqL K H1 b ys)∧R (Itz K a b) H1
theorem Rc {X:Cx}{l m:Expr}{ta:TA}{elts:List Expr}{x1:Nat}{tpos p pos:Pos} (hg:Gl X "zip") (hm:X.mg "zip"=none) (ha:PA X [l,m] ta) (hs:starEach [l,m] X.env=(false,eval l X.env)::starEach [m] X.env:=by rfl) (hs2:starEach [m] X.env=[(false,eval m X.env)]:=by rfl) :
  PI X (.Tuple elts x1 tpos) (.Call (.Name "zip" p) [l,m] [] pos) (Tu X.K ta):=by
 intro pins s σ H R I h
 refine Call_ (rM I hg hm boot_zip (Zbc (thn (ha pos pins s σ H _ I h) ?_) hs (by rw [hs2];rfl)))
 rintro us s1 ⟨vs,H1,I1,r1,q1⟩
 obtain ⟨a,b,e,⟨xs,hq⟩,⟨ys,hq'⟩,q⟩:=q1
 subst e
 cases r1 with
 | cons r rr =>
  cases rr with
  | cons r' rr =>
   cases rr
   cases r
   cases r'
   obtain ⟨its,rv,p,_⟩:=I1.list hq
   obtain ⟨its',rv',p',_⟩:=I1.list hq'
   have la:a < s1.heap.objs.size:=by obtain ⟨o,e,_⟩:=p.isList;exact Zaj e
   have lb:b < s1.heap.objs.size:=by obtain ⟨o,e,_⟩:=p'.isList;exact Zaj e
   refine call_zip_2 p.isList p'.isList fun h1 hz hTI hTO hi1 hi2 hsz hk=>?_
   refine wpAny_pyIter_zip hz ?_
   have I2:Inv X pins σ H1 { s1 with heap:=h1 }:=I1.kept (t':=s1.toks) hk
   refine ⟨_,[s1.heap.objs.size+4,s1.heap.objs.size+3,s1.heap.objs.size,s1.heap.objs.size+1,s1.heap.objs.size+2],_,_,H1,rfl,I2,Ke a b _ _ _ _ _ (zipApart_new la lb),⟨hz,hTI,⟨_,_,hTO⟩,hi1,hi2⟩,fun c hc=>?_,q⟩
   have:s1.heap.objs.size≤c:=by
    simp only [Zas,List.not_mem_nil,or_false] at hc
    rcases hc with rfl | rfl | rfl | rfl | rfl
    ·exact Nat.le_add_right _ 4
    ·exact Nat.le_add_right _ 3
    ·exact Zah _
    ·exact Nat.le_add_right _ 1
    ·exact Nat.le_add_right _ 2
   exact I1.Ah this (I1.hok.fresh this)
namespace MP
noncomputable def Er (l m:List PV):List PV:=(l.zip m).map fun c=>.tup [c.1,c.2]
noncomputable def Kf:List PV->Option (Res (List PV))
 | [.lst l,.lst m]=>some (.ok (Er l m))
 | _=>none
section
variable {K:PySem.W.Frag}{C:Cg}{tA:TA}
theorem Rf {f:Fn (List PV)} (h:MA K C tA f):MI K C (Tu K tA) (m1 Kf f):=by
 intro F H σ ρ R' r R e P
 refine h.run R e P fun l xs F1 H1 hk u a=>?_
 have inv:∃ l' m,l=[.lst l',.lst m]:=by
  clear P u a
  rcases l with _ | ⟨x,_ | ⟨y,_ | ⟨z,l⟩⟩⟩ <;> first | exact noS hk | (cases x <;> first | exact noS hk | (cases y <;> first | exact noS hk | exact ⟨_,_,rfl⟩))
 obtain ⟨l,m,rfl⟩:=inv
 cases hk
 obtain ⟨v,ys,rfl,r1,r2⟩:=a.dD
 obtain ⟨v',ys',rfl,r2',r3⟩:=r2.dD
 cases r3.iu
 obtain ⟨b,xs,rfl,h1,r1⟩:=Rep.bY r1
 obtain ⟨b',xs',rfl,h2,r2⟩:=Rep.bY r2'
 have hl:(Er l m).length=min l.length m.length:=by simp [Er]
 refine ⟨b,b',rfl,⟨xs,u.fh.seq h1⟩,⟨xs',u.fh.seq h2⟩,P _ F1 H1 u ⟨fun F' H' s s'=>?_,fun i F' H' hi s s'=>?_,fun i F' H' x H'' hi s s' y=>?_⟩⟩
 ·refine ⟨xs,xs',(s.trans s').seq h1,(s.trans s').seq h2,?_⟩
  rw [hl,r1.1,r2.1];lia
 ·rw [hl] at hi
  exact ⟨xs,xs',xs[i]'(by rw [r1.1];lia),xs'[i]'(by rw [r2.1];lia),(s.trans s').seq h1,(s.trans s').seq h2,by simp,by simp⟩
 ·obtain ⟨p,y,y',hp,rfl,rfl,hy,hy'⟩:=y
  have e:=hy xs ((s.trans s').seq h1)
  have e':=hy' xs' ((s.trans s').seq h2)
  obtain ⟨q,e2,rq⟩:=r1.got e
  obtain ⟨q',e2',rq'⟩:=r2.got e'
  have un:=Up.new (o:=.tup [y,y']) s' hp
  refine ⟨_,.tup [q,q'],un,?_,.tup aJ rfl fun j x p hx hp'=>?_⟩
  ·unfold Er
   rw [List.getElem?_map,show (l.zip m)[i]?=some (q,q') from List.getElem?_zip_eq_some.mpr ⟨e2,e2'⟩]
   rfl
  ·match j with
   | 0=>simp at hx hp';subst hx hp';exact rq.up (s.trans un.ff)
   | 1=>simp at hx hp';subst hx hp';exact rq'.up (s.trans un.ff)
   | j+2=>simp at hx
end
end MP
noncomputable def jt:HO->Prop
 | .dK _=>True
 | .dT _=>True
 | _=>False
section
variable {X:Cx}{pins:List (Addr×Obj)}{σ:St}{H:Hp}{s:Shared}{a:Addr}{u:HO}{raw:Obj}
theorem jt.mut (hu:jt u) (e:H a=some u):Mut (H a):=by
 rw [e]
 cases u <;> first | trivial | exact hu.elim
theorem Rg (I:Inv X pins σ H s) (e:H a=some u) (hu:jt u):∃ raw,s.heap.get? a=some raw:=by
 have:=I.hok a u e
 cases u with
 | dK kvs=>obtain ⟨_,_,_,_,o,es,ep,h1,_⟩:=this;exact ⟨o,h1⟩
 | dT kvs=>obtain ⟨_,_,_,_,o,es,ep,h1,_⟩:=this;exact ⟨o,h1⟩
 | _=>exact hu.elim
theorem Inv.hold (I:Inv X pins σ H s) (e:H a=some u) (hu:jt u):∃ raw,s.heap.get? a=some raw∧Inv X pins σ (upd H a (.frz raw u)) s:=by
 obtain ⟨raw,hr⟩:=Rg I e hu
 refine ⟨raw,hr,I.write (t':=s.toks) (h':=s.heap) (hu.mut e) (.inl rfl) (fun b o _ q=>q) ⟨raw,hr⟩ ⟨hr,?_⟩⟩
 refine (I.hok a u e).stay (fun b o _ q=>q) (fun b q=>?_) fun b xs q=>?_
 ·rw [aG (fun z=>by subst z;rw [e] at q;cases q;exact hu)];exact q
 ·rw [aG (fun z=>by subst z;rw [e] at q;cases q;exact hu)];exact q
theorem Inv.loose (I:Inv X pins σ H s) (e:H a=some (.frz raw u)) (hu:jt u) (h0:∀ o v,X.H₀ a≠some (.frz o v)):Inv X pins σ (upd H a u) s where
 ok:=I.ok
 os:=I.os
 bare:=I.bare
 base:={
  keep:=I.base.keep
  slot:=I.base.slot
  free:=fun b o q n hx=>by
   have:=I.base.free b o q n hx
   rw [aG (fun z=>by subst z;rw [e] at this;cases this)];exact this
  there:=I.base.there
  tups:=fun b xs q=>by
   have:=I.base.tups b xs q
   rw [aG (fun z=>by subst z;rw [e] at this;cases this)];exact this
  frzs:=fun b o v q=>by
   rw [aG (fun z=>by subst z;exact h0 o v q)];exact I.base.frzs b o v q
  tbls:=fun b ps q=>by
   obtain ⟨more,r⟩:=I.base.tbls b ps q
   exact ⟨more,by rw [aG (fun z=>by subst z;rw [e] at r;cases r)];exact r⟩ }
 loc:=I.loc
 cell:=I.cell
 free:=by rw [aG (fun z=>by have:=I.free;rw [z,e] at this;cases this)];exact I.free
 freeC:=fun x c q=>by
  have:=I.freeC x c q
  rw [aG (fun z=>by subst z;rw [e] at this;cases this)];exact this
 pin:=fun p hp=>by
  obtain ⟨p1,p2,p3⟩:=I.pin p hp
  exact ⟨p1,by rw [aG (fun z=>by rw [z,e] at p2;cases p2)];exact p2,p3⟩
 hok:=fun b o q=>by
  have ho:∀ c y,H c=some (.own y)->upd H a u c=some (.own y):=fun c y r=>by rw [aG (fun z=>by subst z;rw [e] at r;cases r)];exact r
  have ht:∀ c xs,H c=some (.tup xs)->upd H a u c=some (.tup xs):=fun c xs r=>by rw [aG (fun z=>by subst z;rw [e] at r;cases r)];exact r
  by_cases hb:b=a
  ·subst hb
   rw [aJ] at q;cases q
   exact (I.hok b _ e).2.stay (fun _ _ _ q=>q) (fun c r=>ho c b r) ht
  ·rw [aG hb] at q
   exact (I.hok b o q).stay (fun _ _ _ q=>q) (fun c r=>ho c b r) ht
 len:=I.len
noncomputable def Ends.loose (D:Ends) (a:Addr) (raw:Obj) (u:HO):Ends where
 nx:=fun σ H=>H a=some (.frz raw u)∧D.nx σ (upd H a u)
 bk:=fun σ H=>H a=some (.frz raw u)∧D.bk σ (upd H a u)
 ct:=fun σ H=>H a=some (.frz raw u)∧D.ct σ (upd H a u)
 rt:=fun v H=>H a=some (.frz raw u)∧D.rt v (upd H a u)
noncomputable def PP (i:Nat) (t:TS):TS:=fun D σ H=>∃ a u,σ[i]?=some (some (.ref a))∧jt u∧(((∃ raw,H a=some (.frz raw u))∧t D σ H)∨(H a=some u∧∀ raw,t (D.loose a raw u) σ (upd H a (.frz raw u))))
theorem Nt {st:Stmt}{t:TS} (i:Nat) (h:PS X st t):PS X st (PP i t):=by
 intro pins s σ H D I q
 obtain ⟨a,u,_,hu,⟨_,q⟩ | ⟨e,q⟩⟩:=q
 ·exact h pins s σ H D I q
 ·have h0:∀ o v,X.H₀ a≠some (.frz o v):=fun o v z=>by
   have:=I.base.frzs a o v z
   rw [e] at this;cases this
   exact hu
  obtain ⟨raw,_,I2⟩:=I.hold e hu
  refine thn (h pins s σ _ _ I2 (q raw)) fun f s' r=>?_
  cases f with
  | next=>obtain ⟨σ',H',I',e',r⟩:=r;exact ⟨σ',_,I'.loose e' hu h0,r⟩
  | brk=>obtain ⟨σ',H',I',e',r⟩:=r;exact ⟨σ',_,I'.loose e' hu h0,r⟩
  | cont=>obtain ⟨σ',H',I',e',r⟩:=r;exact ⟨σ',_,I'.loose e' hu h0,r⟩
  | ret w=>obtain ⟨v,σ',H',I',rv,e',r⟩:=r;exact ⟨v,σ',_,I'.loose e' hu h0,rv,r⟩
noncomputable def Kg (i:Nat) (t:TE):TE:=fun σ H Q=>∃ a u,σ[i]?=some (some (.ref a))∧jt u∧(((∃ raw,H a=some (.frz raw u))∧t σ H Q)∨(H a=some u∧∀ raw,t σ (upd H a (.frz raw u)) fun v H'=>H' a=some (.frz raw u)∧Q v (upd H' a u)))
theorem uh {e:Expr}{t:TE} (i:Nat) (h:PE X e t):PE X e (Kg i t):=by
 intro pins s σ H Q I q
 obtain ⟨a,u,_,hu,⟨_,q⟩ | ⟨e',q⟩⟩:=q
 ·exact h pins s σ H Q I q
 ·have h0:∀ o v,X.H₀ a≠some (.frz o v):=fun o v z=>by
   have:=I.base.frzs a o v z
   rw [e'] at this;cases this
   exact hu
  obtain ⟨raw,_,I2⟩:=I.hold e' hu
  refine thn (h pins s σ _ _ I2 (q raw)) fun w s' ⟨v,H',I',rv,e2,r⟩=>⟨v,_,I'.loose e2 hu h0,rv,r⟩
end
end L2
namespace L2.MP
open PySem PySem.Spec PyProof.Rows
structure Sw (F F':Hp) (a:Addr) (u:HO):Prop where
 ne:∀ b,b≠a->F' b=F b
 l:Rd F a u
 r:Rd F' a u
 d:jt u
section
variable {K:PySem.W.Frag}{F F' H H':Hp}{a:Addr}{u:HO}{v:V}{p:PV}
theorem Sw.other (w:Sw F F' a u) {b:Addr}{o:HO} (e:F b=some o) (h1:¬jt o) (h2:∀ raw x,jt x->o≠.frz raw x):F' b=some o:=by
 rw [w.ne b fun z=>?_]
 ·exact e
 ·subst z
  rcases w.l with q | ⟨raw,q⟩
  ·rw [e] at q;cases q;exact h1 w.d
  ·rw [e] at q;cases q;exact h2 raw u w.d rfl
theorem Sw.rd (w:Sw F F' a u) {b:Addr}{o:HO} (h:Rd F b o) (ho:jt o):Rd F' b o:=by
 by_cases hb:b=a
 ·subst hb
  have:o=u:=by
   rcases h with h | ⟨r,h⟩ <;> rcases w.l with q | ⟨r',q⟩ <;> rw [h] at q <;> cases q
   ·rfl
   ·exact ho.elim
   ·exact w.d.elim
   ·rfl
  rw [this];exact w.r
 ·rcases h with h | ⟨r,h⟩
  ·exact .inl (by rw [w.ne b hb];exact h)
  ·exact .inr ⟨r,by rw [w.ne b hb];exact h⟩
theorem Sw.sq (w:Sw F F' a u) {b:Addr}{xs:List V} (h:SqL K F b xs):SqL K F' b xs:=by
 rcases h with (h | ⟨o,h⟩) | h
 ·exact .inl (.inl (w.other h (fun z=>z) fun _ _ _ z=>by cases z))
 ·exact .inl (.inr ⟨o,w.other h (fun z=>z) fun _ x hx z=>by cases z;exact hx⟩)
 ·exact .inr h
theorem Rep.sw (w:Sw F F' a u) (h:Rep K F v p):Rep K F' v p:=by
 induction h with
 | non=>exact .non
 | bl=>exact .bl
 | int=>exact .int
 | str=>exact .str
 | ty=>exact .ty
 | tup h hl _ ih=>exact .tup (w.other h (fun z=>z) fun _ _ _ z=>by cases z) hl ih
 | lst h hl _ ih=>exact .lst (w.sq h) hl ih
 | dk h hl _ ih=>exact .dk (w.rd h trivial) hl ih
 | dt h hl _ ih=>exact .dt (w.rd h trivial) hl ih
 | exc nm h hd hl _ ih=>exact .exc nm (w.other h (fun z=>z) fun _ _ _ z=>by cases z) (w.other hd (fun z=>z) fun _ _ _ z=>by cases z) hl ih
 | exc0 nm h=>exact .exc0 nm (w.other h (fun z=>z) fun _ _ _ z=>by cases z)
theorem bA.sw {xs:List V}{l:List PV} (w:Sw F F' a u) (h:bA K F xs l):bA K F' xs l:=⟨h.1,fun j x p a b=>(h.2 j x p a b).sw w⟩
theorem Own.sw {b:Addr} (w:Sw F F' a u) (e:H' b=H b) (h:Own K F H b p):Own K F' H' b p:=by
 cases p with
 | lst l=>obtain ⟨xs,q,r⟩:=h;exact ⟨xs,by rw [e];exact q,r.sw w⟩
 | dk l=>obtain ⟨xs,q,r,s⟩:=h;exact ⟨xs,by rw [e];exact q,r,fun j x p a b=>(s j x p a b).sw w⟩
 | dt l=>obtain ⟨xs,q,r,s⟩:=h;exact ⟨xs,by rw [e];exact q,r,fun j x p a b=>(s j x p a b).sw w⟩
 | _=>exact h.elim
theorem Dp.sw {P:Addr->Prop} (w:Sw F F' a u) (wH:Sw H H' a u) (h:Dp K F H P v p):(∀ b,P b->b≠a)->Dp K F' H' P v p:=by
 induction h with
 | fr h st=>exact fun _=>.fr (h.sw w) st
 | lst h hp hs dj hl _ ih=>exact fun n=>.lst (by rw [wH.ne _ (n _ hp)];exact h) hp hs dj hl fun j x p e1 e2=>ih j x p e1 e2 fun b q=>n b (hs j b q).1
 | tup h hs dj hl _ ih=>exact fun n=>.tup (wH.other h (fun z=>z) fun _ _ _ z=>by cases z) hs dj hl fun j x p e1 e2=>ih j x p e1 e2 fun b q=>n b (hs j b q)
 | dk h hp hs dj hl _ ih=>exact fun n=>.dk (by rw [wH.ne _ (n _ hp)];exact h) hp hs dj hl fun j x p e1 e2=>ih j x p e1 e2 fun b q=>n b (hs j b q).1
 | dt h hp hs dj hl _ ih=>exact fun n=>.dt (by rw [wH.ne _ (n _ hp)];exact h) hp hs dj hl fun j x p e1 e2=>ih j x p e1 e2 fun b q=>n b (hs j b q).1
theorem RE.sw {C C':Cf}{σ:St}{ρ:Rho} (w:Sw F F' a u) (wH:Sw H H' a u) (fa:F a≠none) (hio:C'.io=C.io) (hnw:C'.nw=C.nw) (h0:∀ b,b≠a->C'.H0 b=C.H0 b) (rb:RB C' F' H') (R:RE K C F H σ ρ):RE K C' F' H' σ ρ where
 rb:=rb
 len:=R.len
 sh:=fun i p e=>let ⟨v,e1,r⟩:=R.sh i p e;⟨v,e1,r.sw w⟩
 ow:=fun i p e=>by
  obtain ⟨b,e1,e2,e3,e4⟩:=R.ow i p e
  have nb:b≠a:=fun z=>by subst z;exact fa e3
  exact ⟨b,e1,e2.sw w (wH.ne b nb),by rw [w.ne b nb];exact e3,by rw [hio,hnw,h0 b nb];exact e4⟩
 dis:=R.dis
 dd:=by
  obtain ⟨P,d⟩:=R.dd
  have nb:∀ i b,P i b->b≠a:=fun i b q z=>by subst z;exact fa (d.own i b q).1
  refine ⟨P,fun i b q=>?_,d.dis,d.ow,fun i p e=>?_⟩
  ·obtain ⟨c1,⟨o,c2,c3⟩,c4,c5⟩:=d.own i b q
   exact ⟨by rw [w.ne b (nb i b q)];exact c1,⟨o,by rw [wH.ne b (nb i b q)];exact c2,c3⟩,by rw [hnw];exact c4,by rw [h0 b (nb i b q)];exact c5⟩
  ·obtain ⟨v,e1,e2⟩:=d.dp i p e
   exact ⟨v,e1,e2.sw w wH (nb i)⟩
end
noncomputable def cQ (G:Hp) (a:Addr) (raw:Obj) (u:HO):Hp:=fun b=>@ite _ (b=a∧G a=some u) (Classical.propDecidable _) (some (.frz raw u)) (G b)
theorem dY {G:Hp}{a b:Addr}{raw:Obj}{u:HO} (h:b≠a):cQ G a raw u b=G b:=@if_neg _ (Classical.propDecidable _) (fun z=>h z.1) _ _ _
theorem sr {G:Hp}{a:Addr}{raw:Obj}{u:HO} (h:G a=some u):cQ G a raw u a=some (.frz raw u):=@if_pos _ (Classical.propDecidable _) ⟨rfl,h⟩ _ _ _
theorem pW {G:Hp}{a:Addr}{raw:Obj}{u:HO} (h:G a≠some u):cQ G a raw u a=G a:=@if_neg _ (Classical.propDecidable _) (fun z=>h z.2) _ _ _
noncomputable def Rh (F:Hp) (σ:St) (i:Nat):Prop:=∃ a raw u,σ[i]?=some (some (.ref a))∧F a=some (.frz raw u)∧jt u
noncomputable def MSh (K:PySem.W.Frag) (C:Cg) (i:Nat) (t:TS) (f:Sn):Prop:=∀ F H σ ρ D o,RE K C.toCf F H σ ρ->Rh F σ i->f ρ=some o->PO' K C F D o->t D σ H
noncomputable def MOh (K:PySem.W.Frag) (C:Cg) (i:Nat) (te:TE) (f:Fn PV):Prop :=
 ∀ F H σ ρ Q r,RE K C.toCf F H σ ρ->Rh F σ i->f ρ=some r->Pr C F (fun p=>∀ a F' H',Up F H F' H'->H a=none->F' a=none->Own K F' H' a p->Q (.ref a) H') r->te σ H Q
noncomputable def xK (i:Nat) (f:Sn):Sn:=fun ρ=>match ρ[i]? with
 | some (some (.sh p))=>if p.isD=true then (match f ρ with
  | some (.rd _)=>none
  | x=>x) else none
 | _=>none
section
variable {K:PySem.W.Frag}{t:TS}{f:Sn}
theorem FT {io:Addr->Prop}{H0 F0 F H:Hp}{σ:St}{ρ:Rho}{a:Addr}{u:HO}{raw:Obj} (R:RE K (C0 io H0 F0).toCf F H σ ρ) (fa:F a=some u) (hu:jt u) :
  RE K (C0 io (cQ H0 a raw u) (cQ F0 a raw u)).toCf (upd F a (.frz raw u)) (upd H a (.frz raw u)) σ ρ∧H a=some u:=by
 have ha:=R.rb.sub _ _ fa
 have w:Sw F (upd F a (.frz raw u)) a u:=⟨fun b hb=>aG hb,.inl fa,.inr ⟨raw,aJ⟩,hu⟩
 have wH:Sw H (upd H a (.frz raw u)) a u:=⟨fun b hb=>aG hb,.inl ha,.inr ⟨raw,aJ⟩,hu⟩
 have nt:∀ ys,u≠.tup ys:=fun ys z=>by subst z;exact hu
 have rb2:RB (C0 io (cQ H0 a raw u) (cQ F0 a raw u)).toCf (upd F a (.frz raw u)) (upd H a (.frz raw u)):=by
  refine ⟨fun b o q=>?_,fun b o q n=>?_,fun b o q=>?_,fun b q=>?_⟩
  ·by_cases hb:b=a
   ·subst hb;rw [aJ] at q ⊢;exact q
   ·rw [aG hb] at q ⊢;exact R.rb.sub b o q
  ·by_cases hb:b=a
   ·subst hb
    rw [aJ]
    by_cases hh:H0 b=some u
    ·have q:cQ H0 b raw u b=some o:=q
     rw [sr hh] at q;exact q
    ·have q:cQ H0 b raw u b=some o:=q
     rw [pW hh] at q
     have:=R.rb.keep b o q n
     rw [ha] at this
     exact absurd (q.trans this.symm) hh
   ·have q:cQ H0 a raw u b=some o:=q
    rw [dY hb] at q
    rw [aG hb];exact R.rb.keep b o q n
  ·by_cases hb:b=a
   ·subst hb
    rw [aJ] at q
    cases q
    rcases R.rb.new b u fa with z | z | ⟨ys,z⟩
    ·exact .inl (sr z)
    ·refine .inr (.inl ?_)
     show cQ H0 b raw u b=none
     rw [pW (by rw [show H0 b=none from z];intro y;cases y)];exact z
    ·exact absurd z (nt ys)
   ·rw [aG hb] at q
    rcases R.rb.new b o q with z | z | z
    ·exact .inl ((dY hb).trans z)
    ·exact .inr (.inl ((dY hb).trans z))
    ·exact .inr (.inr z)
  ·obtain ⟨q1,q2⟩:=R.rb.ios b q
   refine ⟨?_,?_⟩
   ·by_cases hb:b=a
    ·subst hb;rw [aJ];intro z;cases z
    ·rw [aG hb];exact q1
   ·show cQ H0 a raw u b≠none
    by_cases hb:b=a
    ·subst hb
     by_cases hh:H0 b=some u
     ·rw [sr hh];intro z;cases z
     ·rw [pW hh];exact q2
    ·rw [dY hb];exact q2
 have R2:RE K (C0 io (cQ H0 a raw u) (cQ F0 a raw u)).toCf (upd F a (.frz raw u)) (upd H a (.frz raw u)) σ ρ:=RE.sw (C:=(C0 io H0 F0).toCf) w wH (by rw [fa];intro z;cases z) rfl rfl (fun b hb=>dY hb) rb2 R
 exact ⟨R2,ha⟩
theorem Nu {io:Addr->Prop}{H0 F0:Hp} (i:Nat) (h:∀ H0 F0,MSh K (C0 io H0 F0) i t f):MS K (C0 io H0 F0) (PP i t) (xK i f):=by
 intro F H σ ρ D o R e P
 unfold xK at e
 split at e
 case h_2=>cases e
 rename_i p hp
 split at e
 case isFalse=>cases e
 rename_i hd
 obtain ⟨e',nrd⟩:f ρ=some o∧∀ q,o≠.rd q:=by
  split at e
  ·cases e
  ·rename_i x hx
   exact ⟨e,fun q z=>by subst z;exact hx q e⟩
 obtain ⟨v,ev,rv⟩:=R.sh i p hp
 obtain ⟨a,u,rfl,rd,hu⟩:∃ a u,v=.ref a∧Rd F a u∧jt u:=by
  cases rv with
  | dk h=>exact ⟨_,_,rfl,h,trivial⟩
  | dt h=>exact ⟨_,_,rfl,h,trivial⟩
  | _=>cases hd
 refine ⟨a,u,ev,hu,?_⟩
 rcases rd with fa | ⟨raw,fa⟩
 case inr=>exact .inl ⟨⟨raw,R.rb.sub _ _ fa⟩,h H0 F0 F H σ ρ D o R ⟨a,raw,u,ev,fa,hu⟩ e' P⟩
 refine .inr ⟨R.rb.sub _ _ fa,fun raw=>?_⟩
 have ha:=R.rb.sub _ _ fa
 have w:Sw F (upd F a (.frz raw u)) a u:=⟨fun b hb=>aG hb,.inl fa,.inr ⟨raw,aJ⟩,hu⟩
 have wH:Sw H (upd H a (.frz raw u)) a u:=⟨fun b hb=>aG hb,.inl ha,.inr ⟨raw,aJ⟩,hu⟩
 have nt:∀ ys,u≠.tup ys:=fun ys z=>by subst z;exact hu
 obtain ⟨R2,_⟩:=FT (raw:=raw) R fa hu
 have back:∀ {F3 H3:Hp},aR (upd F a (.frz raw u)) F3->RB (C0 io (cQ H0 a raw u) (cQ F0 a raw u)).toCf F3 H3->H3 a=some (.frz raw u)∧Sw F3 (upd F3 a u) a u∧Sw H3 (upd H3 a u) a u∧aR F (upd F3 a u)∧RB (C0 io H0 F0).toCf (upd F3 a u) (upd H3 a u):=by
  intro F3 H3 s3 rb3
  have f3:F3 a=some (.frz raw u):=s3 _ _ aJ
  have h3:=rb3.sub _ _ f3
  refine ⟨h3,⟨fun b hb=>aG hb,.inr ⟨raw,f3⟩,.inl aJ,hu⟩,⟨fun b hb=>aG hb,.inr ⟨raw,h3⟩,.inl aJ,hu⟩,fun b o q=>?_,fun b o q=>?_,fun b o q n=>?_,fun b o q=>?_,fun b q=>?_⟩
  ·by_cases hb:b=a
   ·subst hb;rw [aJ,←q,fa]
   ·rw [aG hb];exact s3 b o (by rw [aG hb];exact q)
  ·by_cases hb:b=a
   ·subst hb;rw [aJ] at q ⊢;exact q
   ·rw [aG hb] at q ⊢;exact rb3.sub b o q
  ·by_cases hb:b=a
   ·subst hb
    have:=R.rb.keep b o q n
    rw [ha] at this
    rw [aJ];exact this
   ·rw [aG hb]
    exact rb3.keep b o ((dY hb).trans q) n
  ·by_cases hb:b=a
   ·subst hb
    rw [aJ] at q
    cases q
    exact R.rb.new b u fa
   ·rw [aG hb] at q
    rcases rb3.new b o q with z | z | z
    ·exact .inl ((dY hb).symm.trans z)
    ·exact .inr (.inl ((dY hb).symm.trans z))
    ·exact .inr (.inr z)
  ·refine ⟨?_,(R.rb.ios b q).2⟩
   by_cases hb:b=a
   ·subst hb;rw [aJ];intro z;cases z
   ·rw [aG hb];exact (rb3.ios b q).1
 have backR:∀ {F3 H3:Hp}{σ3:St}{ρ3:Rho},aR (upd F a (.frz raw u)) F3->RE K (C0 io (cQ H0 a raw u) (cQ F0 a raw u)).toCf F3 H3 σ3 ρ3->H3 a=some (.frz raw u)∧aR F (upd F3 a u)∧RE K (C0 io H0 F0).toCf (upd F3 a u) (upd H3 a u) σ3 ρ3:=by
  intro F3 H3 σ3 ρ3 s3 R3
  obtain ⟨b1,b2,b3,b4,b5⟩:=back s3 R3.rb
  have f3:F3 a=some (.frz raw u):=s3 _ _ aJ
  exact ⟨b1,b4,RE.sw (C:=(C0 io (cQ H0 a raw u) (cQ F0 a raw u)).toCf) b2 b3 (by rw [f3];intro z;cases z) rfl rfl (fun b hb=>(dY hb).symm) b5 R3⟩
 refine h (cQ H0 a raw u) (cQ F0 a raw u) _ _ σ ρ _ o R2 ⟨a,raw,u,ev,aJ,hu⟩ e' ?_
 cases o with
 | nx ρ3=>exact fun F3 H3 σ3 s3 R3=>let ⟨b1,b2,b3⟩:=backR s3 R3;⟨b1,P _ _ _ b2 b3⟩
 | bk ρ3=>exact fun F3 H3 σ3 s3 R3=>let ⟨b1,b2,b3⟩:=backR s3 R3;⟨b1,P _ _ _ b2 b3⟩
 | ct ρ3=>exact fun F3 H3 σ3 s3 R3=>let ⟨b1,b2,b3⟩:=backR s3 R3;⟨b1,P _ _ _ b2 b3⟩
 | rt q=>exact fun v F3 H3 s3 rb3 r=>let ⟨b1,b2,b3,b4,b5⟩:=back s3 rb3;⟨b1,P v _ _ b4 b5 (r.sw b2)⟩
 | ro q =>
  intro b F3 H3 s3 rb3 ow nb n0
  obtain ⟨b1,b2,b3,b4,b5⟩:=back s3 rb3
  have f3:F3 a=some (.frz raw u):=s3 _ _ aJ
  have hb:b≠a:=fun z=>by subst z;rw [f3] at nb;cases nb
  exact ⟨b1,P b _ _ b4 b5 (ow.sw b2 (b3.ne b hb)) (by rw [aG hb];exact nb) ((dY hb).symm.trans n0)⟩
 | rd q=>exact absurd rfl (nrd q)
 | ex z=>exact fun _ _ _ _ _ _ x=>x.elim
end
noncomputable def Nv (K:PySem.W.Frag) (C:Cg) (i:Nat) (wi:TI) (f:Fn (List PV)):Prop :=
 ∀ F H σ ρ R' r,RE K C.toCf F H σ ρ->Rh F σ i->f ρ=some r->Pr C F (fun l=>∀ J F' H',Up F H F' H'->ItR K J F' l->R' J H') r->wi σ H R'
section
variable {K:PySem.W.Frag}{C:Cg}{te:TE}{t:TS}{f:Sn}{F H:Hp}{σ:St}{ρ:Rho}{D:Ends}{o:Out}
theorem Ny {k:Key}:Rep K F (kV k) (Tq k):=by
 cases k with
 | inl i=>exact .int
 | inr z=>exact .str
theorem Nz {i:Nat}{wi:TI}{it:Fn (List PV)}{gt:TG}{tg:PV->Rho->Option Rho} (hi:Nv K C i wi it) (hg:MG K C gt tg) (hb:MS K C t f):MSh K C i (Qu wi gt t) (pR it tg f):=by
 intro F H σ ρ D o R hh e P
 rcases cL e with ⟨z,e1,rfl⟩ | ⟨l,e1,hk⟩
 ·exact hi F H σ ρ _ _ R hh e1 P
 ·exact hi F H σ ρ _ _ R hh e1 fun J F' H' u hJ=>xu hg hb hJ (R.up u) hk (P.up u.ff)
theorem jK {wi:TI}{it:Fn (List PV)}{fr:List (Option Nat)}{gt:TG}{tg:PV->Rho->Option Rho}{T:List Nat}{tc:TT}{tst:Fn Bool}{el:Fn PV}{i0:Nat} (hi:Nv K C i0 wi it) (hg:MG K C gt tg) (hT:Wr T tg) (ht:MT K C tc tst) (he:MJ K C (aF K) te el)
  (hfr:T.all (fun j=>fr[j]? == some none)=true:=by rfl):MOh K C i0 (Aq wi fr gt tc te) (jr it fr tg tst el):=by
 intro F H σ ρ Q r R hh e P
 rcases bQ e with ⟨z,e1,rfl⟩ | ⟨l,e1,hk⟩
 ·exact hi F H σ ρ _ _ R hh e1 P
 split at hk
 case isFalse=>cases hk
 rename_i hlen
 refine hi F H σ ρ _ _ R hh e1 fun J F1 H1 u hJ D hD=>?_
 have R1:=R.up u
 obtain ⟨Rb,no⟩:=R1.block fr
 have hD0:C.H0 D=none:=R1.rb.tD hD
 have hFD:F1 D=none:=u.fh.free hD
 have hρ:∀ (j:Nat),j∈T->(frR fr ρ)[j]?=some none:=fun j hj=>by
  have:=ZaW.mp hfr j hj
  unfold frR
  rw [List.getElem?_map,show fr[j]?=some none by simpa using this]
  rfl
 refine ⟨fun i m σ' H'=>∃ F' ys acc,m=l.length - i∧i≤l.length∧aR F1 F'∧(∀ b o,F' b=some o->F1 b=some o∨Frz H1 b o)∧aR H1 H'∧H' D=some (.lst ys)∧F' D=none∧bA K F' ys acc∧acc.length≤i ∧
   RE K C.toCf F' H' σ' (frR fr ρ)∧bnd (d7 tg tst el (frR fr ρ) (l.drop i)) (fun r=>some (.ok (.lst (acc++r))))=some r,
  ⟨l.length,F1,[],[],by simp,ZaZ _,aR.refl _,fun _ _ q=>.inl q,dH hD,aJ,hFD,.nil,Zah _,Rb.other hFD hD0 no,by rw [Za5];exact hk⟩,?_⟩
 rintro i m σ' H' ⟨F',ys,acc,rfl,hil,s1,fr1,sH,eD,nD,ra,hacc,R',e'⟩
 by_cases hlt:i < l.length
 case neg =>
  have ei:i=l.length:=by omega
  subst ei
  rw [List.drop_length] at e'
  have e':some (Res.ok (PV.lst (acc++[])))=some r:=e'
  rw [Za4] at e'
  cases e'
  exact .inl ⟨hJ.stop F' H' s1 R'.rb.sub,P D F' H' (u.trans ⟨s1,sH,fr1,R'.rb.sub⟩) (u.hh.free hD) nD ⟨ys,eD,ra⟩⟩
 refine .inr ⟨hJ.go i F' H' hlt s1 R'.rb.sub,fun σ2 H2=>∃ F2 ys acc,aR F1 F2∧(∀ b o,F2 b=some o->F1 b=some o∨Frz H1 b o)∧aR H1 H2∧H2 D=some (.lst ys)∧F2 D=none∧bA K F2 ys acc∧acc.length≤i+1 ∧
   RE K C.toCf F2 H2 σ2 (frR fr ρ)∧bnd (d7 tg tst el (frR fr ρ) (l.drop (i+1))) (fun r=>some (.ok (.lst (acc++r))))=some r,
  fun σ2 H2 ⟨F2,ys,acc,z⟩=>⟨l.length - (i+1),by omega,F2,ys,acc,rfl,hlt,z⟩,fun x H'' y=>?_⟩
 obtain ⟨F'',p,u2,ep,rx⟩:=hJ.yld i F' H' x H'' hlt s1 R'.rb.sub y
 have ed:l.drop i=p::l.drop (i+1):=by
  rw [ZaI hlt]
  rw [List.getElem?_eq_getElem hlt] at ep
  rw [Zaa ep]
 rw [ed,d7] at e'
 split at e'
 ·cases e'
 rename_i ρ1 h1
 obtain ⟨w1,w2,w3⟩:=hT p _ ρ1 h1
 have no1:=w3 no
 have weak:∀ (j:Nat) s,(frR fr ρ)[j]?=some (some s)->ρ1[j]?=some (some s):=fun j s ej=>by
  rw [w2 j fun z=>by rw [hρ j z] at ej;cases ej];exact ej
 refine hg F'' H'' σ' (frR fr ρ) x p ρ1 _ (R'.up u2) rx h1 fun σ1 R1'=>?_
 have stay:∀ {F3 H3:Hp},Up F' H' F3 H3->aR F1 F3∧(∀ b o,F3 b=some o->F1 b=some o∨Frz H1 b o)∧aR H1 H3∧H3 D=some (.lst ys)∧F3 D=none∧bA K F3 ys acc:=fun {F3 H3} u3=>by
  refine ⟨s1.trans u3.ff,fun b o q=>?_,sH.trans u3.hh,u3.hh _ _ eD,?_,ra.up u3.ff⟩
  ·rcases u3.fr b o q with z | z
   ·exact fr1 b o z
   ·exact .inr (z.imp (fun z=>sH.free z) id)
  ·cases q:F3 D with
   | none=>rfl
   | some o =>
    rcases u3.fr D o q with z | z | ⟨ys,z⟩
    ·rw [nD] at z;cases z
    ·rw [eD] at z;cases z
    ·subst z
     have w:=u3.fh _ _ q
     rw [u3.hh _ _ eD] at w;cases w
 have Pl:∀ {F3 H3:Hp},Up F' H' F3 H3->∀ {z:PV},r=.ex z->PX C F3 z:=fun {F3 H3} u3 {z} ez=>by
  subst ez
  exact PX.up P (u.ff.trans (s1.trans u3.ff))
 rw [ji] at e'
 rcases bQ e' with ⟨z',e4,ez⟩ | ⟨b,e4,e5⟩
 ·exact ht F'' H'' σ1 ρ1 _ _ R1' e4 (Pl u2 ez)
 refine ht F'' H'' σ1 ρ1 _ _ R1' e4 fun F3 H3 u3=>?_
 have u23:=u2.trans u3
 cases b with
 | false =>
  rw [if_neg (by decide)] at e5 ⊢
  obtain ⟨a1,a2,a3,a4,a5,a6⟩:=stay u23
  exact ⟨F3,ys,acc,a1,a2,a3,a4,a5,a6,by omega,(R1'.up u3).weak w1.symm weak,e5⟩
 | true =>
  rw [if_pos rfl] at e5 ⊢
  rw [ji] at e5
  rcases bQ e5 with ⟨z',e6,ez⟩ | ⟨q,e6,e7⟩
  ·exact he F3 H3 σ1 ρ1 _ _ (R1'.up u3) e6 (Pl u23 ez)
  refine he F3 H3 σ1 ρ1 _ _ (R1'.up u3) e6 fun v F4 H4 u4 rv=>?_
  have u24:=u23.trans u4
  obtain ⟨a1,a2,a3,a4,a5,a6⟩:=stay u24
  refine ⟨ys,a4,by rw [a6.1];omega,F4,ys++[v],acc++[q],a1,a2,xq hD a3,aJ,a5,a6.snoc rv,by simp;omega,((R1'.up (u3.trans u4)).other a5 hD0 no1).weak w1.symm weak,?_⟩
  rw [ji] at e7
  rw [←e7]
  congr 1
  funext rr
  show some (Res.ok (PV.lst (acc++[q]++rr)))=some (Res.ok (PV.lst (acc++q::rr)))
  rw [Zar];rfl
noncomputable def lN (i:Nat) (f:Fn PV):Fn PV:=fun ρ=>match ρ[i]? with
 | some (some (.sh p))=>if p.isD=true then f ρ else none
 | _=>none
theorem ul {io:Addr->Prop}{H0 F0:Hp}{fe:Fn PV} (i:Nat) (h:∀ H0 F0,MOh K (C0 io H0 F0) i te fe):MO K (C0 io H0 F0) (Kg i te) (lN i fe):=by
 intro F H σ ρ Q r R e P
 unfold lN at e
 split at e
 case h_2=>cases e
 rename_i p hp
 split at e
 case isFalse=>cases e
 rename_i hd
 obtain ⟨v,ev,rv⟩:=R.sh i p hp
 obtain ⟨a,u,rfl,rd,hu⟩:∃ a u,v=.ref a∧Rd F a u∧jt u:=by
  cases rv with
  | dk h=>exact ⟨_,_,rfl,h,trivial⟩
  | dt h=>exact ⟨_,_,rfl,h,trivial⟩
  | _=>cases hd
 refine ⟨a,u,ev,hu,?_⟩
 rcases rd with fa | ⟨raw,fa⟩
 case inr=>exact .inl ⟨⟨raw,R.rb.sub _ _ fa⟩,h H0 F0 F H σ ρ Q r R ⟨a,raw,u,ev,fa,hu⟩ e P⟩
 refine .inr ⟨R.rb.sub _ _ fa,fun raw=>?_⟩
 have ha:=R.rb.sub _ _ fa
 obtain ⟨R2,_⟩:=FT (raw:=raw) R fa hu
 refine h (cQ H0 a raw u) (cQ F0 a raw u) _ _ σ ρ _ r R2 ⟨a,raw,u,ev,aJ,hu⟩ e ?_
 cases r with
 | ex z=>exact fun _ _ _ _ _ _ x=>x.elim
 | ok q =>
  intro b F3 H3 u3 n1 n2 ow
  have f3:F3 a=some (.frz raw u):=u3.ff _ _ aJ
  have h3:=u3.fh _ _ f3
  have hb:b≠a:=fun z=>by subst z;rw [f3] at n2;cases n2
  refine ⟨h3,P b (upd F3 a u) (upd H3 a u) ⟨fun c o' q=>?_,fun c o' q=>?_,fun c o' q=>?_,fun c o' q=>?_⟩ (by rw [aG hb] at n1;exact n1) (by rw [aG hb];exact n2) (ow.sw ⟨fun c hc=>aG hc,.inr ⟨raw,f3⟩,.inl aJ,hu⟩ (aG hb))⟩
  ·by_cases hc:c=a
   ·subst hc;rw [aJ,←q,fa]
   ·rw [aG hc];exact u3.ff c o' (by rw [aG hc];exact q)
  ·by_cases hc:c=a
   ·subst hc;rw [aJ,←q,ha]
   ·rw [aG hc];exact u3.hh c o' (by rw [aG hc];exact q)
  ·by_cases hc:c=a
   ·subst hc;rw [aJ] at q;cases q;exact .inl fa
   ·rw [aG hc] at q
    rcases u3.fr c o' q with z | z | z
    ·rw [aG hc] at z;exact .inl z
    ·rw [aG hc] at z;exact .inr (.inl z)
    ·exact .inr (.inr z)
  ·by_cases hc:c=a
   ·subst hc;rw [aJ] at q ⊢;exact q
   ·rw [aG hc] at q ⊢;exact u3.fh c o' q
end
structure PQ (a c:Addr) (F H F' H':Hp):Prop where
 ff:aR F F'
 hb:∀ b o,H b=some o->b≠a->b≠c->H' b=some o
 fr:∀ b o,F' b=some o->F b=some o∨Frz H b o
 fh:aR F' H'
noncomputable def Es (K:PySem.W.Frag) (F:Hp) (a c:Addr) (p q:PV) (xs:List V) (l:List PV):Prop :=
 xs.length=l.length∧xs[0]?=some (.ref a)∧l[0]?=some p∧xs[1]?=some (.ref c)∧l[1]?=some q∧∀ (k:Nat) x r,2≤k->xs[k]?=some x->l[k]?=some r->Rep K F x r
noncomputable def Bq (K:PySem.W.Frag) (m:List PV->Option (Res PV)):Sp:=fun vs H Q _=>∃ ps F a c p q p' q',aR F H∧Es K F a c p q vs ps∧a≠c∧Own K F H a p∧F a=none∧Own K F H c q∧F c=none∧m ps=some (.ok (.tup [p',q']))∧∀ F' H',PQ a c F H F' H'->Own K F' H' a p'->F' a=none->Own K F' H' c q'->F' c=none->Q .non H'
noncomputable def eQ (ps:List PV) (n:Nat):Rho:=(ps.mapIdx fun k p=>some (if k < 2 then Sl.ow p else Sl.sh p))++List.replicate n none
noncomputable def vm:Option Out->Option (Res PV)
 | some (.nx ρ)=>match ownAt 0 ρ,ownAt 1 ρ with
  | some p,some q=>some (.ok (.tup [p,q]))
  | _,_=>none
 | _=>none
section
variable {K:PySem.W.Frag}{C:Cg}{N:List Str}{vs:List V}{H F:Hp}{Q:VK}{E:XK}{t:TS}{b:Sn}{m:List PV->Option (Res PV)}{ps:List PV}{a c:Addr}{p q:PV}{n:Nat}
theorem lO {i:Nat}{s:Sl} (e:(eQ ps n)[i]?=some (some s)):∃ q,ps[i]?=some q∧s=if i < 2 then Sl.ow q else Sl.sh q:=by
 unfold eQ at e
 by_cases hi:i < ps.length
 ·rw [Zag (by simpa using hi),List.getElem?_mapIdx] at e
  cases h:ps[i]? with
  | none=>rw [h] at e;cases e
  | some q=>rw [h] at e;exact ⟨q,rfl,(Zaa (Zaa e)).symm⟩
 ·rw [Zao (by simpa using hi),Zbf] at e
  split at e <;> cases e
theorem nq {i:Nat}{x:PV} (r:Es K F a c p q vs ps) (e:(eQ ps n)[i]?=some (some (.ow x))):(i=0∧x=p)∨(i=1∧x=q):=by
 obtain ⟨q',e1,e2⟩:=lO e
 by_cases hij:i < 2
 ·rw [if_pos hij] at e2
  cases e2
  rcases (show i=0∨i=1 by omega) with rfl | rfl
  ·rw [r.2.2.1] at e1;cases e1;exact .inl ⟨rfl,rfl⟩
  ·rw [r.2.2.2.2.1] at e1;cases e1;exact .inr ⟨rfl,rfl⟩
 ·rw [if_neg hij] at e2;cases e2
theorem Br (s:aR F H) (r:Es K F a c p q vs ps) (ac:a≠c) (w:Own K F H a p) (hn:F a=none) (w2:Own K F H c q) (hn2:F c=none) (hN:N.length=vs.length+n):RE K ⟨fun b=>b=a∨b=c,False,H,F,E⟩ F H (start N vs) (eQ ps n) where
 rb:=⟨s,fun _ _ h _=>h,fun _ _ h=>.inl h,fun b hb=>by
  obtain ⟨o,eo⟩:=w.ne
  obtain ⟨o2,eo2⟩:=w2.ne
  have h1:H b≠none:=by
   rcases hb with rfl | rfl
   ·rw [eo];simp
   ·rw [eo2];simp
  exact ⟨h1,h1⟩⟩
 len:=by unfold start eQ;rw [List.length_append,List.length_append,List.length_map,List.length_mapIdx,List.length_replicate,List.length_replicate,r.1,hN];have:=r.1;omega
 sh:=fun i x e=>by
  obtain ⟨q',e1,e2⟩:=lO e
  by_cases hij:i < 2
  ·rw [if_pos hij] at e2;cases e2
  ·rw [if_neg hij] at e2
   cases e2
   have hi:i < vs.length:=by rw [r.1];exact cG e1
   exact ⟨vs[i],iG (by simp [hi]),r.2.2.2.2.2 i _ _ (by omega) (by simp [hi]) e1⟩
 ow:=fun i x e=>by
  rcases nq r e with ⟨rfl,rfl⟩ | ⟨rfl,rfl⟩
  ·exact ⟨a,iG r.2.1,w,hn,.inl (.inl rfl)⟩
  ·exact ⟨c,iG r.2.2.2.1,w2,hn2,.inl (.inr rfl)⟩
 dis:=fun i k x y d e e' f f'=>by
  rcases nq r e with ⟨rfl,_⟩ | ⟨rfl,_⟩ <;> rcases nq r e' with ⟨rfl,_⟩ | ⟨rfl,_⟩
  ·rfl
  ·rw [iG r.2.1] at f;rw [iG r.2.2.2.1] at f';cases f;cases f';exact absurd rfl ac
  ·rw [iG r.2.2.2.1] at f;rw [iG r.2.1] at f';cases f;cases f';exact absurd rfl ac
  ·rfl
 dd:=⟨_,RD.no fun i x e=>by
  obtain ⟨q',e1,e2⟩:=lO e
  by_cases hij:i < 2
  ·rw [if_pos hij] at e2;cases e2
  ·rw [if_neg hij] at e2;cases e2⟩
noncomputable abbrev C2 (a c:Addr) (H0 F0:Hp):Cg:=⟨⟨fun b=>b=a∨b=c,False,H0,F0,E0⟩,XR0⟩
theorem HS {k:Nat} (hk:N.length=k+n) (hm:∀ ps r,m ps=some r->ps.length=k∧vm (b (eQ ps n))=some r) (h:Bq K m vs H Q E) (hS:∀ (a c:Addr) (H0 F0:Hp),MSk K (C2 a c H0 F0) 0 t b) :
  t { nx:=fun _ H'=>Q .non H',rt:=Q } (start N vs) H:=by
 obtain ⟨ps,F,a,c,p,q,p',q',s,rp,ac,w,hn,w2,hn2,e,P⟩:=h
 obtain ⟨hl,e⟩:=hm ps _ e
 have R:=Br (E:=E0) (N:=N) (n:=n) s rp ac w hn w2 hn2 (by rw [rp.1,hl];exact hk)
 cases ho:b (eQ ps n) with
 | none=>rw [ho] at e;cases e
 | some o =>
  rw [ho] at e
  refine hS a c H F F H _ _ _ o R ho ?_
  cases o with
  | nx ρ =>
   intro F' H' σ s' R' kk
   rw [iG rp.2.1] at kk
   have e:(match ownAt 0 ρ,ownAt 1 ρ with | some p,some q=>some (Res.ok (PV.tup [p,q])) | _,_=>none)=some (.ok (.tup [p',q'])):=e
   split at e
   ·rename_i x y h0 h1
    cases e
    obtain ⟨b0,e1,e2,e3,e4⟩:=R'.ow 0 _ (bC h0)
    obtain ⟨b1,f1,f2,f3,f4⟩:=R'.ow 1 _ (bC h1)
    rw [kk] at e1
    cases e1
    have hc:b1=c:=by
     rcases f4 with (z | z) | z
     ·subst z
      exact absurd (R'.dis 0 1 _ _ _ (bC h0) (bC h1) kk f1) (by decide)
     ·exact z
     ·exact z.1.elim
    subst hc
    exact P F' H' ⟨s',fun b o q h1 h2=>R'.rb.keep b o q fun z=>z.elim h1 h2,R'.rb.new,R'.rb.sub⟩ e2 e3 f2 f3
   ·cases e
  | _=>cases e
theorem HW (h:Bq K m vs H Q E) {k:Nat} (hm:∀ ps r,m ps=some r->ps.length=k):vs.length=k:=by
 obtain ⟨ps,F,a,c,p,q,p',q',s,rp,ac,w,hn,w2,hn2,e,P⟩:=h
 rw [rp.1];exact hm ps _ e
theorem RE.Tw {F' H':Hp}{σ:St}{ρ:Rho}{p' q':PV}{i j:Nat} (R:RE K C.toCf F H σ ρ) (ij:i≠j) (e:ρ[i]?=some (some (.ow p))) (ea:σ[i]?=some (some (.ref a))) (f0:ρ[j]?=some (some (.ow q))) (fc:σ[j]?=some (some (.ref c)))
  (u:PQ a c F H F' H') (w:Own K F' H' a p') (hn:F' a=none) (w2:Own K F' H' c q') (hn2:F' c=none):RE K C.toCf F' H' σ ((ρ.set i (some (.ow p'))).set j (some (.ow q'))):=by
 obtain ⟨a1,e1,e2,e3,e4⟩:=R.ow i p e
 rw [ea] at e1
 cases e1
 obtain ⟨c1,g1,g2,g3,g4⟩:=R.ow j q f0
 rw [fc] at g1
 cases g1
 have own:∀ {b:Addr},b≠a->b≠c->∀ {x:PV},Own K F H b x->F b=none->Own K F' H' b x∧F' b=none:=fun {b} ha hc {x} ox fb=>by
  refine ⟨ox.up u.ff fun o q=>u.hb b o q ha hc,?_⟩
  cases hF:F' b with
  | none=>rfl
  | some o =>
   obtain ⟨ob,eob⟩:=ox.ne
   rcases u.fr b o hF with z | z | ⟨ys,z⟩
   ·rw [fb] at z;cases z
   ·rw [eob] at z;cases z
   ·subst z
    have w:=u.fh _ _ hF
    rw [u.hb b _ eob ha hc] at w;cases w
    exact (ox.tu eob).elim
 have key:∀ {k:Nat}{x:PV},((ρ.set i (some (Sl.ow p'))).set j (some (Sl.ow q')))[k]?=some (some (.ow x))->(k=j∧x=q')∨(k=i∧x=p')∨(k≠i∧k≠j∧ρ[k]?=some (some (.ow x))):=fun {k x} f=>by
  rcases get_set f with ⟨h1,h2⟩ | ⟨h1,h2⟩
  ·cases h2;exact .inl ⟨h1.symm,rfl⟩
  ·rcases get_set h2 with ⟨h3,h4⟩ | ⟨h3,h4⟩
   ·cases h4;exact .inr (.inl ⟨h3.symm,rfl⟩)
   ·exact .inr (.inr ⟨Za8 h3,Za8 h1,h4⟩)
 have key':∀ {k:Nat}{x:PV},((ρ.set i (some (Sl.ow p'))).set j (some (Sl.ow q')))[k]?=some (some (.ow x))->∃ y,ρ[k]?=some (some (.ow y)):=fun {k x} f=>by
  rcases key f with ⟨rfl,_⟩ | ⟨rfl,_⟩ | ⟨_,_,h⟩
  ·exact ⟨q,f0⟩
  ·exact ⟨p,e⟩
  ·exact ⟨x,h⟩
 refine ⟨⟨u.fh,fun b o h n=>?_,fun b o h=>?_,fun b hb=>⟨?_,(R.rb.ios b hb).2⟩⟩,by simp [R.len],fun k x f=>?_,fun k x f=>?_,fun k l x y b f f' h h'=>?_,?_⟩
 ·have h1:b≠a:=fun z=>by
   subst z
   rcases e4 with z | z
   ·exact n z
   ·rw [z.2] at h;cases h
  have h2:b≠c:=fun z=>by
   subst z
   rcases g4 with z | z
   ·exact n z
   ·rw [z.2] at h;cases h
  exact u.hb b o (R.rb.keep b o h n) h1 h2
 ·rcases u.fr b o h with z | z
  ·exact R.rb.new b o z
  ·exact .inr (z.imp (fun z=>R.rb.tD z) id)
 ·by_cases hba:b=a
  ·subst hba;obtain ⟨o,eo⟩:=w.ne;rw [eo];simp
  ·by_cases hbc:b=c
   ·subst hbc;obtain ⟨o,eo⟩:=w2.ne;rw [eo];simp
   ·cases hb':H b with
    | none=>exact absurd hb' (R.rb.ios b hb).1
    | some o=>rw [u.hb b o hb' hba hbc];simp
 ·rcases get_set f with ⟨h1,h2⟩ | ⟨h1,h2⟩
  ·cases h2
  ·rcases get_set h2 with ⟨h3,h4⟩ | ⟨h3,h4⟩
   ·cases h4
   ·obtain ⟨v,k1,k2⟩:=R.sh k x h4
    exact ⟨v,k1,k2.up u.ff⟩
 ·rcases key f with ⟨rfl,rfl⟩ | ⟨rfl,rfl⟩ | ⟨k1,k2,h⟩
  ·exact ⟨c,fc,w2,hn2,g4⟩
  ·exact ⟨a,ea,w,hn,e4⟩
  ·obtain ⟨b,h1,h2,h3,h4⟩:=R.ow k x h
   have ha:b≠a:=fun z=>by subst z;exact k1 (R.dis i k p x b e h ea h1).symm
   have hc:b≠c:=fun z=>by subst z;exact k2 (R.dis j k q x b f0 h fc h1).symm
   exact ⟨b,h1,(own ha hc h2 h3).1,(own ha hc h2 h3).2,h4⟩
 ·obtain ⟨y1,k1⟩:=key' f
  obtain ⟨y2,k2⟩:=key' f'
  exact R.dis k l y1 y2 b k1 k2 h h'
 ·obtain ⟨P,d⟩:=R.dd
  have na:∀ k b,P k b->b≠a:=fun k b z e'=>by subst e';exact d.ow k i p b z e ea
  have nc:∀ k b,P k b->b≠c:=fun k b z e'=>by subst e';exact d.ow k j q b z f0 fc
  refine ⟨P,fun k b z=>?_,d.dis,fun k l x b z f h=>?_,fun k x f=>?_⟩
  ·obtain ⟨a1,⟨o',a2,a3⟩,a4⟩:=d.own k b z
   have hb':=u.hb b _ a2 (na k b z) (nc k b z)
   refine ⟨?_,⟨o',hb',a3⟩,a4⟩
   cases hF:F' b with
   | none=>rfl
   | some o =>
    rcases u.fr b o hF with w | w | ⟨ys,w⟩
    ·rw [a1] at w;cases w
    ·rw [a2] at w;cases w
    ·subst w
     have w:=u.fh _ _ hF
     rw [hb'] at w;cases w
     exact absurd rfl (a3 ys)
  ·obtain ⟨y,k1⟩:=key' f
   exact d.ow k l y b z k1 h
  ·rcases get_set f with ⟨h1,h2⟩ | ⟨h1,h2⟩
   ·cases h2
   ·rcases get_set h2 with ⟨h3,h4⟩ | ⟨h3,h4⟩
    ·cases h4
    ·obtain ⟨w',k1,k2⟩:=d.dp k x h4
     exact ⟨w',k1,k2.up u.ff (fun b o z q=>u.hb b o q (na k b z) (nc k b z)) fun b ys q=>u.hb b _ q (fun z=>by subst z;exact e2.tu q) fun z=>by subst z;exact g2.tu q⟩
noncomputable def um (i j:Nat) (g:Fn (List PV)):Fn (List PV):=fun ρ=>match ownAt i ρ,ownAt j ρ with
 | some p,some q=>bnd (g ρ) fun l=>some (.ok (p::q::l))
 | _,_=>none
noncomputable def HX (i j:Nat) (m:List PV->Option (Res PV)) (g:Fn (List PV)):Sn:=fun ρ=>gW (um i j g ρ) fun l=>match m l with
 | some (.ok (.tup [p',q']))=>some (.nx ((ρ.set i (some (.ow p'))).set j (some (.ow q'))))
 | _=>none
theorem Ri {i j:Nat}{ts:TA}{g:Fn (List PV)}{m:List PV->Option (Res PV)} (ij:i≠j) (h:MA K C ts g):MS K C (Fp (uI (Bq K m) [] C.E (mX (lD i) (mX (lD j) ts)))) (HX i j m g):=by
 intro F H σ ρ D o R e P
 unfold HX um at e
 cases hp:ownAt i ρ with
 | none=>rw [hp] at e;cases e
 | some p =>
 cases hq:ownAt j ρ with
 | none=>rw [hp,hq] at e;cases e
 | some q =>
 rw [hp,hq] at e
 have ep:=bC hp
 have eq:=bC hq
 obtain ⟨a,ea,_⟩:=R.ow i p ep
 obtain ⟨c,ec,_⟩:=R.ow j q eq
 refine ⟨_,ea,_,ec,?_⟩
 rcases cL e with ⟨z,e1,rfl⟩ | ⟨l,e1,e2⟩
 ·rcases bQ e1 with ⟨z',e3,ez⟩ | ⟨l,e3,e4⟩
  ·cases ez;exact h F H σ ρ _ _ R e3 P
  ·cases e4
 ·rcases bQ e1 with ⟨z',e3,ez⟩ | ⟨l',e3,e4⟩
  ·cases ez
  cases e4
  refine h F H σ ρ _ _ R e3 fun xs F1 H1 u rr=>?_
  have R1:=R.up u
  obtain ⟨a',ea',w1,n1,_⟩:=R1.ow i p ep
  obtain ⟨c',ec',w2,n2,_⟩:=R1.ow j q eq
  rw [ea] at ea';cases ea'
  rw [ec] at ec';cases ec'
  have ac:a≠c:=fun z=>by subst z;exact ij (R.dis i j p q a ep eq ea ec)
  split at e2
  ·rename_i p' q' hm
   cases e2
   refine ⟨p::q::l',F1,a,c,p,q,p',q',u.fh,⟨by simp [rr.1],rfl,rfl,rfl,rfl,fun k x r hk ex er=>?_⟩,ac,w1,n1,w2,n2,hm,fun F2 H2 u2 o1 m1 o2 m2=>?_⟩
   ·obtain ⟨k,rfl⟩:∃ k',k=k'+2:=⟨k - 2,by omega⟩
    exact rr.2 k x r (by simpa using ex) (by simpa using er)
   ·exact P F2 H2 σ (u.ff.trans u2.ff) (R1.Tw ij ep ea eq ec u2 o1 m1 o2 m2)
  ·cases e2
theorem Bt {k i:Nat}{te tb:TE}{fe fk:Fn PV} (he:MJ K C (aF K) te fe) (hk:MJ K C (aF K) tb fk):MSk K C k (Jz (lD i) tb te) (tO i fe fk):=by
 intro F H σ ρ D o R e P
 refine he.J9 R e P fun p v F1 H1 hk1 u a=>?_
 split at hk1
 case h_2=>cases hk1
 rename_i d hd
 obtain ⟨b,g1,_⟩:=R.ow i _ (bC hd)
 refine ⟨_,g1,hk.J9 (R.up u) hk1 (P.up u.ff) fun kk w F2 H2 hk2 u2 rk=>?_⟩
 split at hk2
 case h_2=>cases hk2
 rename_i d' hd'
 cases hk2
 have R2:=R.up (u.trans u2)
 obtain ⟨a',k1,k2,_⟩:=R2.ow i _ (bC hd)
 rw [g1] at k1
 cases k1
 obtain ⟨ob,g,w'⟩:=yU u2.fh k2 rk (Rep.up a u2.ff) hd'
 exact ⟨b,_,rfl,g,P F2 _ σ (u.trans u2).ff (R2.write (bC hd) g1 w') rfl⟩
theorem HY {k:Nat}{c:TT}{fc:Fn Bool}{f:Sn} (n:Nat) (hc:MT K C c fc) (hb:MSk K C k t f):MSk K C k (Dv c t) (kj fc f n):=by
 intro F H σ ρ D o R e P
 refine ⟨fun m σ' H'=>∃ F' ρ',aR F F'∧RE K C.toCf F' H' σ' ρ'∧σ'[k]?=σ[k]?∧kj fc f m ρ'=some o,⟨n,F,ρ,aR.refl _,R,rfl,e⟩,?_⟩
 rintro m σ' H' ⟨F',ρ',s,R',kk,e'⟩
 cases m with
 | zero=>cases e'
 | succ m =>
  refine hc.J9 R' e' (P.up s) fun b F1 H1 hk u=>?_
  have sF:aR F F1:=s.trans u.ff
  have R1:=R'.up u
  cases b with
  | false =>
   rw [if_neg (by decide)] at hk ⊢
   cases hk
   exact P F1 H1 σ' sF R1 kk
  | true =>
   rw [if_pos rfl] at hk ⊢
   refine ⟨fun σ2 H2=>∃ F2 ρ2,aR F F2∧RE K C.toCf F2 H2 σ2 ρ2∧σ2[k]?=σ[k]?∧kj fc f m ρ2=some o,fun σ2 H2 ⟨F2,ρ2,s2,R2,k2,e2⟩=>⟨m,Nat.lt_succ_self _,F2,ρ2,s2,R2,k2,e2⟩,?_⟩
   split at hk
   ·rename_i ρ2 h2
    exact hb F1 H1 σ' ρ' _ _ R1 h2 fun F3 H3 σ3 s3 R3 k3=>⟨F3,ρ2,sF.trans s3,R3,k3.trans kk,hk⟩
   ·rename_i ρ2 h2
    exact hb F1 H1 σ' ρ' _ _ R1 h2 fun F3 H3 σ3 s3 R3 k3=>⟨F3,ρ2,sF.trans s3,R3,k3.trans kk,hk⟩
   ·rename_i ρ2 h2
    cases hk
    exact hb F1 H1 σ' ρ' _ _ R1 h2 fun F3 H3 σ3 s3 R3 k3=>P F3 H3 σ3 (sF.trans s3) R3 (k3.trans kk)
   ·rename_i n1 n2 n3
    cases o with
    | nx ρ2=>exact absurd hk (n1 ρ2)
    | ct ρ2=>exact absurd hk (n2 ρ2)
    | bk ρ2=>exact absurd hk (n3 ρ2)
    | rt p=>exact hb F1 H1 σ' ρ' _ _ R1 hk (POk.up (D:=D) (c:=σ[k]?) P sF)
    | ro p=>exact hb F1 H1 σ' ρ' _ _ R1 hk (POk.up (D:=D) (c:=σ[k]?) P sF)
    | rd p=>exact hb F1 H1 σ' ρ' _ _ R1 hk (POk.up (D:=D) (c:=σ[k]?) P sF)
    | ex z=>exact hb F1 H1 σ' ρ' _ _ R1 hk (PX.up P sF)
end
end L2.MP
namespace L2
open PySem PySem.Spec PyProof PyProof.Rows
section
variable {X:Cx}
end
namespace MP
section
variable {K:PySem.W.Frag}{C:Cg}
end
end MP
namespace MP
section
variable {K:PySem.W.Frag}{C:Cg}
end
end MP
theorem yW {h:Heap}{vs:List Value}{out:Array Value}{b:Addr}{o:Obj} (hb:h.get? b=some o):(sortedHeap (h.push (seqObj "list" vs.toArray 0)) h.objs.size vs out).get? b=some o:=by
 have hlt:b < h.objs.size:=Zaj hb
 rw [sortedHeap_old (Zaw hlt) (by rw [size_push'];exact Nat.lt_succ_of_lt hlt)]
 exact Zac _ hb
section
variable {X:Cx}
end
namespace MP
section
variable {K:PySem.W.Frag}{C:Cg}
end
end MP
end L2
namespace L2.MP
open PySem PySem.Spec PyProof.Rows
section
variable {K:PySem.W.Frag}{C:Cg}{te:TE}{F F' G H H1 H':Hp}{σ:St}{ρ:Rho}{D:Ends}{t:TS}{f:Sn}{o:Out}{S:Addr->Prop}{v:V}{p:PV}
theorem Rep.pP:∀ {n:Nat}{v:V}{p:PV},Rep K F v p->MP.pP n p=true->(∀ b ys,F b=some (.tup ys)->G b=some (.tup ys))->Rep K G v p
 | 0,v,p,h,hs,g=>h.free hs
 | n+1,v,p,h,hs,g=>by
  cases h with
  | non=>exact .non
  | bl=>exact .bl
  | int=>exact .int
  | str=>exact .str
  | ty=>exact .ty
  | tup h hl hr=>exact .tup (g _ _ h) hl fun j x p a b=>(hr j x p a b).pP (n:=n) (ZaW.mp hs p (Zaf b)) g
  | lst=>cases hs
  | dk=>cases hs
  | dt=>cases hs
  | exc=>cases hs
  | exc0=>cases hs
theorem Dp.toG (d:Dp K F H S v p) (g:∀ b ys,F b=some (.tup ys)->G b=some (.tup ys)):Dp K G H S v p:=by
 induction d with
 | fr h st=>exact .fr (h.pP st g) st
 | lst h hp hs dj hl _ ih=>exact .lst h hp hs dj hl ih
 | tup h hs dj hl _ ih=>exact .tup h hs dj hl ih
 | dk h hp hs dj hl _ ih=>exact .dk h hp hs dj hl ih
 | dt h hp hs dj hl _ ih=>exact .dt h hp hs dj hl ih
noncomputable def yX (m:List PV->Option (Res PV)) (f:Fn (List PV)):Fn PV:=fun ρ=>bnd (f ρ) fun l=>match m l with
 | some (.ok p)=>some (.ok p)
 | _=>none
theorem Kh {t:TA}{f:Fn (List PV)}{m:List PV->Option (Res PV)} (h:MAL K C t f):MD K C (uI (spD K C.XR m) [] C.E t) (yX m f):=by
 intro F H σ ρ Q r R e P
 refine h.run R e P fun l xs F1 H1 hk u a=>?_
 split at hk
 ·rename_i p hp
  cases hk
  refine ⟨l,H1,.ok p,aR.refl _,by rw [Za4];exact a,hp,fun v F' H' S u' d n=>?_⟩
  have s1:aR F1 H':=u.fh.trans u'.hh
  refine P v (t6 F1 H' fun _=>False) H' S ⟨u.ff.trans (jj s1),u.hh.trans u'.hh,fun b o q=>?_,qR s1⟩ (d.toG fun b ys q=>?_) fun b q=>?_
  ·by_cases hb:False∨∃ ys,H' b=some (.tup ys)
   ·rw [gq hb] at q
    obtain ⟨ys,z⟩:=hb.resolve_left id
    rw [z] at q;cases q
    exact .inr (.inr ⟨ys,rfl⟩)
   ·rw [fL hb] at q
    exact u.fr b o q
  ·have:=u'.fh _ _ q
   rw [gq (.inr ⟨ys,this⟩)];exact this
  ·obtain ⟨n1,n2,o,n3,n4⟩:=n b q
   refine ⟨u.hh.free n1,?_,o,n3,n4⟩
   rw [fL]
   ·exact u.fh.free n1
   ·rintro (z | ⟨ys,z⟩)
    ·exact z
    ·rw [n3] at z;cases z;exact n4 ys rfl
 ·cases hk
noncomputable def tQ (i:Nat) (f:Sn):Sn:=fun ρ=>match yV i ρ with
 | some p=>f (ρ.set i (some (.sh p)))
 | none=>none
theorem yZ (i:Nat) (h:MS K C t f):MS K C t (tQ i f):=by
 intro F H σ ρ D o R e P
 unfold tQ at e
 split at e
 ·rename_i p hp
  obtain ⟨S,v,_,_,_,R'⟩:=R.Tt (iy hp)
  exact h _ H σ _ D o R' e (P.up (jj R.rb.sub))
 ·cases e
noncomputable def Ur (C:Cf) (js:List Nat) (ρ:Rho) (σ:St) (H F' H':Hp) (S:Addr->Prop):Prop:=∀ b,S b->(H b=none∨∃ i p,i∈js∧ρ[i]?=some (some (.ow p))∧σ[i]?=some (some (.ref b)))∧F' b=none∧(∃ o,H' b=some o∧∀ ys,o≠.tup ys)∧C.H0 b=none
noncomputable def MDo (K:PySem.W.Frag) (C:Cg) (js:List Nat) (ta:TA) (f:Fn (List PV)):Prop :=
 ∀ F H σ ρ Q r,RE K C.toCf F H σ ρ->f ρ=some r->Pr C F (fun l=>∀ xs F' H' S,Up F H F' H'->Dps K F' H' S xs l->Ur C.toCf js ρ σ H F' H' (fun b=>∃ j,S j b)->Q xs H') r->ta σ H Q
theorem FW:MDo K C [] yw bw:=fun F H σ ρ Q r R e P=>by
 cases e
 exact P [] F H (fun _ _=>False) (Up.refl R.rb.sub) ⟨rfl,fun _ _ _ q=>q.elim,fun j x p e=>by simp at e⟩ fun b ⟨_,q⟩=>q.elim
theorem Bu {js:List Nat}{fe:Fn PV}{fs:Fn (List PV)}{ts:TA} (h:MD K C te fe) (hs:MDo K C js ts fs):MDo K C js (mX te ts) (aB fe fs):=by
 intro F H σ ρ Q r R e P
 rcases bQ e with ⟨z,e1,rfl⟩ | ⟨p,e1,hk⟩
 ·exact h F H σ ρ _ _ R e1 P
 refine h F H σ ρ _ _ R e1 fun v F1 H1 S u d n=>?_
 rcases bQ hk with ⟨z,e2,rfl⟩ | ⟨l,e2,hk2⟩
 ·exact hs F1 H1 σ ρ _ _ (R.up u) e2 (PX.up P u.ff)
 refine hs F1 H1 σ ρ _ _ (R.up u) e2 fun xs F2 H2 S2 u2 d2 n2=>?_
 cases hk2
 have ap:∀ b j,S b->S2 j b->False:=fun b j a1 a2=>by
  obtain ⟨c0,_,o,c1,_⟩:=n b a1
  rcases (n2 b ⟨j,a2⟩).1 with c2 | ⟨i,q,_,c2,c3⟩
  ·rw [c1] at c2;cases c2
  ·exact R.apart c0 i q c2 c3
 refine P (v::xs) F2 H2 (fun j b=>match j with | 0=>S b | j+1=>S2 j b) (u.trans u2) ⟨by simp [d2.1],fun i j b a1 a2=>?_,fun j x q a1 a2=>?_⟩ ?_
 ·match i,j,a1,a2 with
  | 0,0,_,_=>rfl
  | 0,j+1,a1,a2=>exact (ap b j a1 a2).elim
  | i+1,0,a1,a2=>exact (ap b i a2 a1).elim
  | i+1,j+1,a1,a2=>exact congrArg (·+1) (d2.2.1 i j b a1 a2)
 ·match j,a1,a2 with
  | 0,a1,a2=>cases a1;cases a2;exact d.stay u2
  | j+1,a1,a2=>exact d2.2.2 j x q (by simpa using a1) (by simpa using a2)
 ·rintro b ⟨j,q⟩
  match j,q with
  | 0,q =>
   obtain ⟨c0,c1,o,c2,c3⟩:=(n.up u2) b q
   exact ⟨.inl c0,c1,⟨o,c2,c3⟩,R.rb.tD c0⟩
  | j+1,q =>
   obtain ⟨c1,c2⟩:=n2 b ⟨j,q⟩
   exact ⟨c1.imp (fun z=>u.hh.free z) id,c2⟩
noncomputable def PV.lQ:PV->Bool
 | .lst l=>l.all PV.still
 | .dk l=>l.all fun kv=>kv.2.still
 | .dt l=>l.all fun kv=>kv.2.still
 | _=>false
noncomputable def o8 (i:Nat):Fn PV:=fun ρ=>match ownAt i ρ with
 | some p=>if p.lQ=true then some (.ok p) else none
 | none=>none
theorem Own.dp {a:Addr} (w:Own K F H a p) (h:p.lQ=true):Dp K F H (fun b=>b=a) (.ref a) p:=by
 cases p with
 | lst l =>
  obtain ⟨xs,e2,e3⟩:=w
  exact .lst (S:=fun _ _=>False) e2 rfl (fun j b q=>q.elim) (fun i j b q=>q.elim) e3.1 fun j x p e4 e5=>.fr (e3.2 j x p e4 e5) (ZaW.mp h p (Zaf e5))
 | dk l =>
  obtain ⟨xs,e2,e3,e4⟩:=w
  exact .dk (S:=fun _ _=>False) e2 rfl (fun j b q=>q.elim) (fun i j b q=>q.elim) e3 fun j x p e5 e6=>.fr (e4 j x p e5 e6) (ZaW.mp h p (Zaf e6))
 | dt l =>
  obtain ⟨xs,e2,e3,e4⟩:=w
  exact .dt (S:=fun _ _=>False) e2 rfl (fun j b q=>q.elim) (fun i j b q=>q.elim) e3 fun j x p e5 e6=>.fr (e4 j x p e5 e6) (ZaW.mp h p (Zaf e6))
 | _=>cases h
theorem uo {js:List Nat} (i:Nat) {fs:Fn (List PV)}{ts:TA} (hio:∀ a,¬C.io a) (hi:i ∉ js) (hs:MDo K C js ts fs):MDo K C (i::js) (mX (lD i) ts) (aB (o8 i) fs):=by
 intro F H σ ρ Q r R e P
 rcases bQ e with ⟨z,e1,rfl⟩ | ⟨p,e1,hk⟩
 ·unfold o8 at e1
  split at e1
  ·split at e1 <;> cases e1
  ·cases e1
 have hp:ρ[i]?=some (some (.ow p))∧p.lQ=true:=by
  unfold o8 at e1
  split at e1
  ·rename_i q hq
   split at e1
   ·rename_i sh;cases e1;exact ⟨bC hq,sh⟩
   ·cases e1
  ·cases e1
 obtain ⟨a,ea,w,na,e4⟩:=R.ow i p hp.1
 refine ⟨_,ea,?_⟩
 rcases bQ hk with ⟨z,e2,rfl⟩ | ⟨l,e2,hk2⟩
 ·exact hs F H σ ρ _ _ R e2 P
 refine hs F H σ ρ _ _ R e2 fun xs F2 H2 S2 u2 d2 n2=>?_
 cases hk2
 obtain ⟨a',ea',w2,na2,_⟩:=(R.up u2).ow i p hp.1
 rw [ea] at ea';cases ea'
 obtain ⟨ob,eob⟩:=w.ne
 have ap:∀ j,S2 j a->False:=fun j q=>by
  rcases (n2 a ⟨j,q⟩).1 with c | ⟨k,q',hk',c2,c3⟩
  ·rw [eob] at c;cases c
  ·have:=R.dis i k p q' a hp.1 c2 ea c3
   subst this
   exact hi hk'
 refine P (.ref a::xs) F2 H2 (fun j b=>match j with | 0=>b=a | j+1=>S2 j b) u2 ⟨by simp [d2.1],fun i j b a1 a2=>?_,fun j x q a1 a2=>?_⟩ ?_
 ·match i,j,a1,a2 with
  | 0,0,_,_=>rfl
  | 0,j+1,a1,a2=>cases a1;exact (ap j a2).elim
  | i+1,0,a1,a2=>cases a2;exact (ap i a1).elim
  | i+1,j+1,a1,a2=>exact congrArg (·+1) (d2.2.1 i j b a1 a2)
 ·match j,a1,a2 with
  | 0,a1,a2=>cases a1;cases a2;exact w2.dp hp.2
  | j+1,a1,a2=>exact d2.2.2 j x q (by simpa using a1) (by simpa using a2)
 ·rintro b ⟨j,q⟩
  match j,q with
  | 0,q =>
   cases q
   obtain ⟨ob2,eob2⟩:=w2.ne
   exact ⟨.inr ⟨i,p,List.mem_cons_self,hp.1,ea⟩,na2,⟨ob2,eob2,fun ys z=>by subst z;exact w2.tu eob2⟩,(e4.resolve_left (hio a)).2⟩
  | j+1,q =>
   obtain ⟨c1,c2⟩:=n2 b ⟨j,q⟩
   exact ⟨c1.imp id fun ⟨k,q',hk',z⟩=>⟨k,q',List.mem_cons_of_mem _ hk',z⟩,c2⟩
noncomputable def Bv (fs:Fn (List PV)):Sn:=fun ρ=>gW (fs ρ) fun l=>if l.length≤sizeLine then some (.rd (.tup l)) else none
theorem FZ {js:List Nat}{fs:Fn (List PV)}{ts:TA} (h:MDo K C js ts fs):MS K C (Hg (QF ts)) (Bv fs):=by
 intro F H σ ρ D o R e P
 rcases cL e with ⟨z,e1,rfl⟩ | ⟨l,e1,hk⟩
 ·exact h F H σ ρ _ _ R e1 P
 split at hk
 ·rename_i hl
  cases hk
  refine h F H σ ρ _ _ R e1 fun xs F1 H1 S u d n=>⟨by rw [d.1];exact hl,fun a ha=>?_⟩
  have u2:Up F1 H1 F1 (upd H1 a (.tup xs)):=⟨aR.refl _,dH ha,fun _ _ q=>.inl q,fun b o q=>by rw [aG (fun z=>by subst z;have:=u.fh _ _ q;rw [ha] at this;cases this)];exact u.fh b o q⟩
  refine P (.ref a) F1 _ (fun b=>∃ j,S j b) u.ff (R.rb.up (u.trans u2)) (.tup aJ (fun j b q=>⟨j,q⟩) d.2.1 d.1 fun j x p a1 a2=>(d.2.2 j x p a1 a2).stay u2) fun b q=>?_
  obtain ⟨_,c1,⟨o,c2,c3⟩,c4⟩:=n b q
  exact ⟨c1,⟨o,u2.hh _ _ c2,c3⟩,c4⟩
 ·cases hk
end
open PySem PySem.Spec PyProof PyProof.Rows
section
variable {K:PySem.W.Frag}{C:Cg}
end
section
variable {K:PySem.W.Frag}{C:Cg}{te ta tb:TE}{F F1 F2 H H1 H2:Hp}{σ:St}{ρ:Rho}{D:Ends}{t u:TS}{f g:Sn}{o:Out}{S:Addr->Prop}{v:V}{p:PV}
end
end L2.MP
namespace L2
open PySem PySem.Spec PyProof PyProof.Rows
noncomputable def oW (h:Heap) (d:Addr) (es:Array DictEntry) (ep:Nat):Prop:=∃ o,h.get? d=some o∧o.ExactDict∧o.data=.dict es ep
section
variable {prog:Program}{w:World}{A:Around}{E:Value->Shared->Prop}{s:Shared}{h h':Heap}{d it:Addr}{es:Array DictEntry}{ep i:Nat}
theorem oW.step (r:oW h d es ep) (k:∀ o,h.get? d=some o->h'.get? d=some o):oW h' d es ep:=by
 obtain ⟨o,e,q⟩:=r;exact ⟨o,k o e,q⟩
theorem oW.small (r:oW h d es ep):d < h.objs.size:=by obtain ⟨o,e,_⟩:=r;exact Zaj e
theorem oW.ty (r:oW s.heap d es ep):s.TypeIs (.ref d) "dict":=by
 obtain ⟨o,e,c,_⟩:=r;exact ⟨o,e,c.1⟩
theorem Bw {Q:Value->Shared->Prop} (nd:(d == sysModules)=false) (r:oW s.heap d es ep)
  (q:Q (.ref s.heap.objs.size) { s with heap:=s.heap.push { cls:=.type "dict_keyiterator",data:=.fields #[.ref d,.int 0 0,.int es.size 0,.int ep 0] } }):wpAny (model prog w) A (pyIter (.ref d)) Q E s:=by
 obtain ⟨o,e1,e2,e3⟩:=id r
 refine wpAny_pyIter_slot r.ty PySem.F.slot_dict_iter (wpAny_call_entry PySem.F.slot_dict_iter r.ty PySem.F.entry_dict_iter ?_ (PySem.F.args_dict_iter_1 _))
 unfold Builtin.«dict.__iter__»
 refine wpAny_bind (m:=Builtin.Dict.dictSlotNone _ _) ?_
 unfold Builtin.Dict.dictSlotNone
 refine wpAny_bind (wpAny_notOrdered_dict r.ty (wpAny_pure ?_))
 show wpAny _ _ (Builtin.Dict.showsAll d >>= _) _ _ _
 unfold Builtin.Dict.showsAll
 rw [nd,if_neg Zbb]
 refine wpAny_bind (wpAny_pure (wpAny_bind (wpAny_dictEntries e1 e3 (wpAny_bind (wpAny_dictEpoch e1 e3 ?_)))))
 refine wpAny_bind (wpAny_newObj_type (wpAny_pure ⟨_,rfl,"dict_keyiterator",_,⟨_,Zal _ rfl,rfl⟩,ZaX.lookup,?_⟩))
 simpa [rawInt] using q
theorem Kl {Q:Option Value->Shared->Prop}{x:DictEntry} (hi:s.heap.IsKeyIter it d i es.size ep) (r:oW s.heap d es ep) (hx:es[i]?=some x)
  (q:∀ h',h'.IsKeyIter it d (i+1) es.size ep->Heap.SameBut it s.heap h'->Q (some x.key) { s with heap:=h' }):wpAny (model prog w) A (pyNext (.ref it)) Q E s:=by
 obtain ⟨io,i1,i2,i3⟩:=id hi
 obtain ⟨o,e1,e2,e3⟩:=id r
 have lt:i < es.size:=by
  rcases Nat.lt_or_ge i es.size with z | z
  ·exact z
  ·rw [ZbE z] at hx;cases hx
 have ex:es[i]=x:=by rw [Zat lt] at hx;exact Zaa hx
 unfold pyNext
 refine wpAny_bind (wpAny_attempt (wpAny_callSpecial?_slot (name:=Str.ofString "__next__") hi.typeIs ZaX (wpAny_call_entry ZaX hi.typeIs PySem.F.entry_dict_keyiterator_next ?_ (PySem.F.args_dict_keyiterator_next_1 _))))
 refine wpAny_bind (wpAny_pure (wpAny_bind (wpAny_bind ?_)))
 first
  | refine wpAny_bind (wpAny_typeNameOfWhole_keyiter hi.typeIs (wpAny_pure ?_))
  | refine wpAny_bind (wpAny_typeNameOf_keyiter hi.typeIs (wpAny_pure ?_))
 refine wpAny_bind (wpAny_fieldsOf i1 i3 ?_)
 simp only [show Builtin.Dict_items.ownsTuple "dict_keyiterator"=false by decide,Za0,if_false]
 show wpAny _ _ (if (Value.ref d == .none)=true then _ else _) _ _ _
 rw [if_neg (show ¬(Value.ref d == .none)=true from Zbb)]
 refine wpAny_bind (wpAny_pure (wpAny_bind (wpAny_dictEntries e1 e3 ?_)))
 rw [if_neg (by simp)]
 refine wpAny_bind (wpAny_pure (wpAny_bind (wpAny_dictEpoch e1 e3 ?_)))
 rw [if_neg (by simp)]
 refine wpAny_pure ?_
 simp only [show ¬((i:Int) < 0) by lia,if_false,Zav,Zat lt]
 refine wpAny_bind ?_
 first
  | refine wpAny_bind (wpAny_typeNameOfWhole_keyiter hi.typeIs (wpAny_pure ?_))
  | refine wpAny_bind (wpAny_typeNameOf_keyiter hi.typeIs (wpAny_pure ?_))
 refine wpAny_bind (wpAny_isOneOf_keyiter hi.typeIs ?_)
 show wpAny _ _ (setField (.ref it) 1 (rawInt ((i:Int)+1)) >>= _) _ _ _
 refine wpAny_bind (wpAny_setField i1 i3 (by simp) ?_)
 have next:(s.heap.update it (Obj.mapFields (·.setIfInBounds 1 (rawInt ((i:Int)+1))))).IsKeyIter it d (i+1) es.size ep :=
  ⟨_,Heap.get?_update_self _ i1 (Obj.isFreed_of_fields (Obj.data_mapFields i3 _)),(Obj.cls_mapFields ..).trans i2,by rw [Obj.data_mapFields i3];simp [rawInt]⟩
 refine wpAny_bind (wpAny_holding (wpAny_bind (wpAny_isOneOf_keyiter (s:={ s with heap:=s.heap.update it (Obj.mapFields (·.setIfInBounds 1 (rawInt ((i:Int)+1)))) }) next.typeIs ?_)))
 show wpAny _ _ (pure es[i].key) _ _ _
 rw [ex]
 exact wpAny_pure (wpAny_pure ⟨_,rfl,wpAny_pure (q _ next (Zbp ..))⟩)
theorem NB {Q:Option Value->Shared->Prop} (hh:A.handled=none) (hi:s.heap.IsKeyIter it d es.size es.size ep) (r:oW s.heap d es ep)
  (q:∀ h',Heap.ExtBut it s.heap h'->Q none { s with heap:=h' }):wpAny (model prog w) A (pyNext (.ref it)) Q E s:=by
 obtain ⟨io,i1,i2,i3⟩:=id hi
 obtain ⟨o,e1,e2,e3⟩:=id r
 unfold pyNext
 refine wpAny_bind (wpAny_attempt (wpAny_callSpecial?_slot (name:=Str.ofString "__next__") hi.typeIs ZaX (wpAny_call_entry ZaX hi.typeIs PySem.F.entry_dict_keyiterator_next ?_ (PySem.F.args_dict_keyiterator_next_1 _))))
 refine wpAny_bind (wpAny_pure (wpAny_bind (wpAny_bind ?_)))
 first
  | refine wpAny_bind (wpAny_typeNameOfWhole_keyiter hi.typeIs (wpAny_pure ?_))
  | refine wpAny_bind (wpAny_typeNameOf_keyiter hi.typeIs (wpAny_pure ?_))
 refine wpAny_bind (wpAny_fieldsOf i1 i3 ?_)
 simp only [show Builtin.Dict_items.ownsTuple "dict_keyiterator"=false by decide,Za0,if_false]
 show wpAny _ _ (if (Value.ref d == .none)=true then _ else _) _ _ _
 rw [if_neg (show ¬(Value.ref d == .none)=true from Zbb)]
 refine wpAny_bind (wpAny_pure (wpAny_bind (wpAny_dictEntries e1 e3 ?_)))
 rw [if_neg (by simp)]
 refine wpAny_bind (wpAny_pure (wpAny_bind (wpAny_dictEpoch e1 e3 ?_)))
 rw [if_neg (by simp)]
 refine wpAny_pure ?_
 simp only [show ¬((es.size:Int) < 0) by omega,if_false,Zav,ZbE (Zah _)]
 refine wpAny_bind ?_
 first
  | refine wpAny_bind (wpAny_typeNameOfWhole_keyiter hi.typeIs (wpAny_pure ?_))
  | refine wpAny_bind (wpAny_typeNameOf_keyiter hi.typeIs (wpAny_pure ?_))
 show wpAny _ _ (setField (.ref it) 0 .none >>= _) _ _ _
 refine wpAny_bind (wpAny_setField i1 i3 (by simp) ?_)
 show wpAny _ _ (newExc (.type "StopIteration") [] >>= _) _ _ _
 refine wpAny_bind ?_
 simp only [newExc,newTuple]
 refine wpAny_bind (wpAny_newObj_type ?_ (by size_fits))
 refine wpAny_bind (m:=firstArgMember _ _) (wpAny_of_eq (a:=.none) (by first | rfl | (simp only [firstArgMember];rfl)) (wpAny_newObj_type ?_ (by size_fits)))
 simp only [raiseNew]
 refine wpAny_bind (wpAny_handled ?_)
 rw [show A.in1.handled=none from hh]
 refine wpAny_bind (wpAny_pure (wpAny_throw ?_))
 refine wpAny_bind (wpAny_isInstance (T:="StopIteration") (b:=true) ⟨_,Zal _ rfl,rfl⟩ isSubtype_stop ?_)
 exact wpAny_pure (q _ (((Zbp ..).extBut.push _).push _))
theorem su (hh:A.handled=none) (I d:Addr) (ne:d≠I) (es:Array DictEntry) (ep:Nat) :
  Walks prog w A I [I,d] [I] es.size (fun i v=>∃ x,es[i]?=some x∧v=x.key) (fun i h=>h.IsKeyIter I d i es.size ep∧oW h d es ep) where
 sub:=fun b hb=>by simp at hb;simp [hb]
 frame:=fun _ _ _ z k=>⟨z.1.at fun o e=>k I (by simp) o e,z.2.step fun o e=>k d (by simp) o e⟩
 item:=fun i s Q E lt z q=>Kl z.1 z.2 (Zat lt) fun h' a b=>q _ h' s.toks ⟨_,Zat lt,rfl⟩ ⟨a,z.2.step fun o e=>b.extBut d o ne e⟩ fun c o hc e=>b.extBut c o (fun y=>hc (by simp [y])) e
 done:=fun s Q E z q=>NB hh z.1 z.2 fun h' b=>q h' s.toks fun c o hc e=>b c o (fun y=>hc (by simp [y])) e
 self:=fun _ _ _ _ z q=>wpAny_pyIter_keyiter z.1 q
theorem NK (nd:(d == sysModules)=false):PySem.W.KdlSrc prog w "dict" d d es.size (fun i v=>∃ x,es[i]?=some x∧v=x.key) (fun h=>oW h d es ep) where
 type:=fun _ z=>z.ty
 there:=fun _ z=>⟨z.small,z.small⟩
 keep:=fun _ _ z k=>z.step fun o e=>k d (.inl rfl) o e
 notList:=by decide
 notTuple:=by decide
 hint:=fun _ _ _ _ z q=>PySem.W.kdl_hint_dict z.ty q
 iter:=fun _ _ hh z=>⟨_,_,(fun _ _ q=>Bw nd z q),su hh _ d (Zaw z.small) es ep,⟨⟨_,Zal _ rfl,rfl,rfl⟩,z.step fun _ e=>Zac _ e⟩⟩
end
open PySem PySem.W PyProof.Rows
noncomputable def kIn {α:Type} (n:Nat) (P:α->Prop):KasT α->Prop
 | .ret a=>P a
 | .ask i j k=>i < n∧j < n∧∀ b,kIn n P (k b)
section
variable {n:Nat}{p:Array Nat}
end
open PySem PySem.Spec PySem.W PyProof PyProof.Rows
section
variable {prog:Program}{w:World}{A:Around}{E:Value->Shared->Prop}{s:Shared}{u v:Value}{p q:Str×Int}
end
open PySem PySem.Spec PySem.W PyProof PyProof.Rows
theorem KT.at {H:Hp}{kvs:List (List Key×V)}{xs:List (List Key×Addr×Value)} (r:KT H kvs xs):xs.length=kvs.length∧∀ (i:Nat) k,(kvs.map (·.1))[i]?=some k->∃ b u,xs[i]?=some (k,b,u)∧H b=some (.tup (k.map kV)):=by
 induction r with
 | nil=>exact ⟨rfl,fun i k h=>by simp at h⟩
 | @cons p q ps qs hq t ih =>
  refine ⟨by simp [ih.1],fun i k h=>?_⟩
  cases i with
  | zero =>
   have h:p.1=k:=by simpa using h
   subst h
   obtain ⟨q1,b,u⟩:=q
   exact ⟨b,u,by rw [hq.1];rfl,hq.2.1⟩
  | succ i=>exact ih.2 i k (by simpa using h)
theorem vo {α:Type}{f:α->V}{g:α->Value}:∀ {l:List α},(∀ i∈l,RelV (f i) (g i))->Vals (l.map f) (l.map g)
 | [],_=>.nil
 | i::l,h=>.cons (h i List.mem_cons_self) (vo fun j hj=>h j (List.mem_cons_of_mem _ hj))
section
variable {X:Cx}
end
namespace MP
section
variable {K:PySem.W.Frag}{C:Cg}
theorem Up.tups {F H:Hp}{l:Addr}{o:HO} (s:aR F H) (hl:H l=none):Up F H (t6 F H fun _=>False) (upd H l o):=by
 refine ⟨jj s,dH hl,fun b o q=>?_,(qR s).trans (dH hl)⟩
 by_cases hb:False∨∃ ys,H b=some (.tup ys)
 ·rw [gq hb] at q
  obtain ⟨ys,z⟩:=hb.resolve_left id
  rw [z] at q;cases q
  exact .inr (.inr ⟨ys,rfl⟩)
 ·rw [fL hb] at q
  exact .inl q
end
end MP
end L2
namespace L2.MP
open PySem PySem.Spec PyProof.Rows
section
variable {K:PySem.W.Frag}{C:Cg}{te:TE}
end
section
variable {K:PySem.W.Frag}{C:Cg}{te ta tb:TE}{F F1 F2 H H1 H2:Hp}{σ:St}{ρ:Rho}{D:Ends}{S:Addr->Prop}{v:V}{p:PV}
theorem Bx {α:Type}{l:List α}{i:Nat}{x:α} (h:l[i]?=some x):l.set i x=l:=by
 apply Zbk
 intro j
 rw [List.getElem?_set]
 split
 ·rename_i e;subst e;rw [if_pos (cG h),h]
 ·rfl
theorem Km {α:Type} (l:List α) (i:Nat) (x y:α):(l.set i x).set i y=l.set i y:=by simp
end
end L2.MP
namespace L2
open PySem PySem.F PySem.Spec PyProof PyProof.Rows
section
variable {prog:Program}{w:World}{A:Around}{E:Value->Shared->Prop}{s:Shared}{t:Tok}{n:Int}
end
section
variable {M:Model}{A:Around}{E:Value->Shared->Prop}{s:Shared}
end
namespace MP
section
variable {K:PySem.W.Frag}{C:Cg}{tA:TA}
end
end MP
open PySem PySem.Spec PyProof PyProof.Rows
section
variable {K:Type} [DecidableEq K]
variable {prog:Program}{w:World}{knd:HeapKind prog w K}{A:Around}{E:Value->Shared->Prop}{s:Shared}{d a:Addr}{k:K}{xs:List (K×Addr×Value)}{p:Addr×Value}
end
section
variable {X:Cx}{pins:List (Addr×Obj)}{σ:St}{H:Hp}{s:Shared}{a b:Addr}{kvs:List (List Key×V)}{k:List Key}{A:Around}{E:Value->Shared->Prop}
end
section
variable {X:Cx}{o e:Expr}{apos cpos:Pos}{td ty:TE}
end
namespace MP
section
variable {K:PySem.W.Frag}{C:Cg}
end
end MP
open PySem PySem.Spec PySem.W PyProof PyProof.Rows
section
variable {X:Cx}
theorem xM:∀ {bs:List Addr}{its:List Value},Vals (bs.map V.ref) its->its=bs.map Value.ref
 | [],its,r=>by cases r;rfl
 | b::bs,its,r=>by
  cases r with
  | cons r1 r2 =>
   cases r1
   rw [xM r2];rfl
end
namespace MP
section
variable {K:PySem.W.Frag}{C:Cg}
end
end MP
end L2
namespace L2.MP
open PySem PySem.Spec PyProof.Rows
section
variable {K:PySem.W.Frag}{C:Cg}{te ta tb:TE}{F F1 F2 H H1 H2:Hp}{σ:St}{ρ:Rho}{D:Ends}{S:Addr->Prop}{v:V}{p:PV}
end
end L2.MP
namespace L2
open PySem PySem.Spec PyProof PyProof.Rows
section
variable {X:Cx}{pins:List (Addr×Obj)}{σ:St}{H:Hp}{s:Shared}{a:Addr}{kvs:List (Key×V)}{k:Key}{z:V}{u r:Value}{A:Around}{E:Value->Shared->Prop}
end
section
variable {X:Cx}{o e f:Expr}{apos cpos:Pos}{td ty tz:TE}
end
namespace MP
section
variable {K:PySem.W.Frag}{C:Cg}{ks:List Nat}{te tb:TE}{F H:Hp}{σ σ0:St}{ρ:Rho}{D:Ends}{t u:TS}{f g:Sn}{o:Out}
end
end MP
end L2
namespace L2.MP
open PySem PySem.Spec PyProof.Rows
section
variable {K:PySem.W.Frag}{F F1 F2 H H1 H2:Hp}{S:Addr->Prop}{v:V}{p:PV}
end
section
variable {κ:Type} [DecidableEq κ]
noncomputable def bR:List (κ×PV)->κ->PV->List (κ×PV)
 | [],k,p=>[(k,p)]
 | (a,q)::l,k,p=>if a=k then (a,p)::l else (a,q)::bR l k p
theorem oK {k:κ}{q:PV}:∀ {xs:List (κ×V)}{l:List (κ×PV)},xs.map (·.1)=l.map (·.1)->dw l k=some q->∃ (j:Nat) (v:V),l[j]?=some (k,q)∧xs[j]?=some (k,v)∧iT xs k=some v∧∀ p,bR l k p=l.set j (k,p)
 | [],[],_,e=>by cases e
 | [],_::_,h,_=>by simp at h
 | _::_,[],h,_=>by simp at h
 | (a,v)::xs,(b,r)::l,h,e=>by
  simp only [Zak,Zbo] at h
  obtain ⟨h1,h2⟩:=h
  have h1:a=b:=h1
  subst h1
  by_cases hk:a=k
  ·subst hk
   unfold dw at e
   rw [if_pos rfl] at e
   cases e
   exact ⟨0,v,rfl,rfl,mY rfl,fun p=>by unfold bR;rw [if_pos rfl];rfl⟩
  ·unfold dw at e
   rw [if_neg hk] at e
   obtain ⟨j,w,e1,e2,e3,e4⟩:=oK h2 e
   exact ⟨j+1,w,by simpa using e1,by simpa using e2,by rw [jn hk];exact e3,fun p=>by rw [bR,if_neg hk,e4];rfl⟩
theorem vp {k:κ}:∀ {xs:List (κ×V)}{l:List (κ×PV)},xs.map (·.1)=l.map (·.1)->dw l k=none->iT xs k=none∧∀ p,bR l k p=l++[(k,p)]
 | [],[],_,_=>⟨rfl,fun _=>rfl⟩
 | [],_::_,h,_=>by simp at h
 | _::_,[],h,_=>by simp at h
 | (a,v)::xs,(b,r)::l,h,e=>by
  simp only [Zak,Zbo] at h
  obtain ⟨h1,h2⟩:=h
  have h1:a=b:=h1
  subst h1
  by_cases hk:a=k
  ·unfold dw at e
   rw [if_pos hk] at e
   cases e
  ·unfold dw at e
   rw [if_neg hk] at e
   obtain ⟨e1,e2⟩:=vp h2 e
   exact ⟨by rw [jn hk];exact e1,fun p=>by rw [bR,if_neg hk,e2];rfl⟩
end
noncomputable def Qa (fe:Fn PV):Fn PV:=fun ρ=>bnd (fe ρ) fun p=>if p.lQ=true then some (.ok p) else none
theorem Rj {K:PySem.W.Frag}{C:Cg}{te:TE}{fe:Fn PV} (h:MO K C te fe):MD K C te (Qa fe):=by
 intro F H σ ρ Q r R e P
 rcases bQ e with ⟨z,e1,rfl⟩ | ⟨p,e1,hk⟩
 ·exact h F H σ ρ Q _ R e1 P
 ·split at hk
  ·rename_i hp
   cases hk
   refine h F H σ ρ Q _ R e1 fun a F' H' u n1 n2 w=>P _ F' H' (fun b=>b=a) u (w.dp hp) ?_
   rintro b rfl
   obtain ⟨ob,eo⟩:=w.ne
   exact ⟨n1,n2,ob,eo,fun ys q=>by subst q;exact w.tu eo⟩
  ·cases hk
section
variable {K:PySem.W.Frag}{io:Addr->Prop}{H0 F0 F H Hb F2 H2:Hp}{σ σ2:St}{ρ ρ2:Rho}{P:Nat->Addr->Prop}{i g:Nat}{b:Addr}{c:List (List Key×PV)}{p:PV}
theorem Ko {κ:Type}{l:List (κ×PV)}{j:Nat}{k:κ}{q p:PV} (h:l[j]?=some (k,q)):(l.set j (k,p)).map (·.1)=l.map (·.1):=by
 rw [List.map_set]
 exact Bx (by rw [List.getElem?_map,h];rfl)
end
section
variable {K:PySem.W.Frag}{io:Addr->Prop}{H0 F0 F H F2 H2:Hp}{σ σ2:St}{ρ ρ2:Rho}{i s:Nat}{a:Addr}{xs:List V}{l:List PV}
end
end L2.MP
namespace L2.TS
open PySem PySem.Spec PyProof.Rows
noncomputable def jf:Bool->Keyed->Array Keyed->Nat->Nat->Nat->StateT SortSt Sem (Option Nat):=sortPriv% PySem.Builtin.gallop
noncomputable def fM:Nat->StateT SortSt Sem Unit:=sortPriv% PySem.Builtin.setMinGallop
noncomputable def vq:Array Keyed->Array Keyed->StateT SortSt Sem (Array Keyed):=sortPriv% PySem.Builtin.mergeLo
noncomputable def vy:Array Keyed->Array Keyed->StateT SortSt Sem (Array Keyed):=sortPriv% PySem.Builtin.mergeHi
noncomputable abbrev b7 (st:SortSt) (g:Nat):SortSt:=SortSt.mk' (kindOf st) (arrOf st) (pendingOf st) g (failedOf st)
theorem fC (g:Nat):fM g=modify fun s=>b7 s g:=rfl
noncomputable def beyond (left:Bool) (key:Keyed) (arr:Array Keyed) (base i:Nat):StateT SortSt Sem (Option Bool):=do
 let x ←elem' arr (base+i)
 if left then lt' x key else return (←lt' key x).map (!·)
theorem Et (left:Bool) (key:Keyed) (arr:Array Keyed) (base n hint:Nat):jf left key arr base n hint=(do
 let mut lastofs:=0
 let mut ofs:=1
 let mut lo:=0
 let mut hi:=0
 let some right ←beyond left key arr base hint | return none
 if right then
  let maxofs:=n - hint
  for _ in [0:n] do
   if ofs ≥ maxofs then break
   let some more ←beyond left key arr base (hint+ofs) | return none
   if !more then break
   lastofs:=ofs
   ofs:=2 * ofs+1
  lo:=hint+lastofs+1
  hi:=hint+min ofs maxofs
 else
  let maxofs:=hint+1
  for _ in [0:n] do
   if ofs ≥ maxofs then break
   let some found ←beyond left key arr base (hint - ofs) | return none
   if found then break
   lastofs:=ofs
   ofs:=2 * ofs+1
  lo:=hint+1 - min ofs maxofs
  hi:=hint - lastofs
 for _ in [0:n] do
  if lo ≥ hi then break
  let m:=lo+(hi - lo) / 2
  let some more ←beyond left key arr base m | return none
  if more then lo:=m+1 else hi:=m
 return some hi):=rfl
section
variable {prog:Program}{w:World}{A:Around}{E:Value->Shared->Prop}{s:Shared}{κ:SortKind}{D:Keyed->Prop}{r:Keyed->Nat}{st:SortSt}{left:Bool}{key x y:Keyed}{arr:Array Keyed}{base n hint:Nat}
noncomputable def Cmp (prog:Program) (w:World) (A:Around) (s:Shared) (κ:SortKind) (D:Keyed->Prop) (r:Keyed->Nat):Prop :=
 ∀ x y,D x->D y->∀ (E:Value->Shared->Prop) (Q:Bool->Shared->Prop),Q (decide (r x < r y)) s->wpAny (model prog w) A (keyLt' κ x.1 y.1) Q E s
theorem vz (hc:Cmp prog w A s κ D r) (hk:kindOf st=κ) (hx:D x) (hy:D y) {Q:Option Bool->SortSt->Prop} (h:Q (some (decide (r x < r y))) st):wpS (model prog w) A E s (lt' x y) Q st:=by
 rw [lt'_eq]
 refine wpS_bind (wpS_get ?_)
 rw [hk]
 refine wpS_bind (wpS_lift (wpAny_attempt (hc x y hx hy _ _ ⟨rfl,?_⟩)))
 exact wpS_pure h
theorem bK {M:Model}{i:Nat}{Q:Keyed->SortSt->Prop} (e:arr[i]?=some x) (h:Q x st):wpS M A E s (elem' arr i) Q st:=by
 rw [elem'_eq,e];exact wpS_pure h
theorem Eu (hc:Cmp prog w A s κ D r) (hk:kindOf st=κ) {i:Nat} (e:arr[base+i]?=some x) (hx:D x) (hy:D key) (ne:r x≠r key) {Q:Option Bool->SortSt->Prop} (h:Q (some (decide (r x < r key))) st):wpS (model prog w) A E s (beyond left key arr base i) Q st:=by
 unfold beyond
 refine wpS_bind (bK e ?_)
 cases left with
 | true=>exact vz hc hk hx hy h
 | false =>
  refine wpS_bind (vz hc hk hy hx (wpS_pure ?_))
  rw [Zbn,show (!decide (r key < r x))=decide (r x < r key) by
   by_cases q:r key < r x
   ·rw [decide_eq_true q,decide_eq_false (by lia)];rfl
   ·rw [decide_eq_false q,decide_eq_true (by lia)];rfl]
  exact h
theorem qT {M:Model}{f:Nat->Bool} (hb:∀ i,i < n->∀ {Q:Option Bool->SortSt->Prop},Q (some (f i)) st->wpS M A E s (beyond left key arr base i) Q st) {lo hi:Nat} (h1:lo≤hi) (h2:hi≤n) (h3:∀ i,i < lo->f i=true) (h4:∀ i,hi≤i->i < n->f i=false)
  (mono:∀ i j,i≤j->j < n->f j=true->f i=true) {Q:Option Nat->SortSt->Prop} (h:∀ m,m≤n->(∀ i,i < m->f i=true)->(∀ i,m≤i->i < n->f i=false)->Q (some m) st) :
  wpS M A E s (do
   let mut lo:=lo
   let mut hi:=hi
   for _ in [0:n] do
    if lo ≥ hi then break
    let m:=lo+(hi - lo) / 2
    let some more ←beyond left key arr base m | return none
    if more then lo:=m+1 else hi:=m
   return some hi) Q st:=by
 refine wpS_bind (wpS_mono (wpS_forRange (I:=fun k c st'=>st'=st∧∃ lo hi,c=(none,lo,hi)∧lo≤hi∧hi≤n∧(∀ i,i < lo->f i=true)∧(∀ i,hi≤i->i < n->f i=false)∧hi - lo+k≤n)
  (Q:=fun c st'=>st'=st∧∃ m,c=(none,m,m)∧m≤n∧(∀ i,i < m->f i=true)∧(∀ i,m≤i->i < n->f i=false)) ?_ ?_ ⟨rfl,lo,hi,rfl,h1,h2,h3,h4,by omega⟩) ?_)
 ·rintro k c st' _ hk ⟨rfl,lo,hi,rfl,g1,g2,g3,g4,g5⟩
  dsimp only
  by_cases q:lo ≥ hi
  ·rw [if_pos q]
   have:lo=hi:=by omega
   subst this
   exact wpS_pure ⟨rfl,lo,rfl,g2,g3,g4⟩
  ·rw [if_neg q]
   have mlt:lo+(hi - lo) / 2 < hi:=by omega
   refine wpS_bind (hb _ (by omega) ?_)
   dsimp only
   cases e:f (lo+(hi - lo) / 2) with
   | true =>
    rw [if_pos rfl]
    exact wpS_pure ⟨rfl,_,hi,rfl,by omega,g2,fun i hi'=>mono i _ (by omega) (by omega) e,g4,by omega⟩
   | false =>
    rw [if_neg (by decide)]
    refine wpS_pure ⟨rfl,lo,_,rfl,by omega,by omega,g3,fun i h1' h2'=>?_,by omega⟩
    cases ef:f i with
    | false=>rfl
    | true=>rw [mono _ i h1' h2' ef] at e;cases e
 ·rintro c st' ⟨rfl,lo,hi,rfl,g1,g2,g3,g4,g5⟩
  have:lo=hi:=by omega
  subst this
  exact ⟨rfl,lo,rfl,g2,g3,g4⟩
 ·rintro c st' ⟨rfl,m,rfl,g1,g2,g3⟩
  exact wpS_pure (h m g1 g2 g3)
theorem By {M:Model}{f:Nat->Bool} (hb:∀ i,i < n->∀ {Q:Option Bool->SortSt->Prop},Q (some (f i)) st->wpS M A E s (beyond left key arr base i) Q st) (mono:∀ i j,i≤j->j < n->f j=true->f i=true) (hn:hint < n) {Q:Option Nat->SortSt->Prop}
  (h:∀ m,m≤n->(∀ i,i < m->f i=true)->(∀ i,m≤i->i < n->f i=false)->Q (some m) st):wpS M A E s (jf left key arr base n hint) Q st:=by
 have anti:∀ i j,i≤j->j < n->f i=false->f j=false:=fun i j h1 h2 e=>by
  cases ef:f j with
  | false=>rfl
  | true=>rw [mono i j h1 h2 ef] at e;cases e
 rw [Et]
 refine wpS_bind (hb hint hn ?_)
 dsimp only
 cases e:f hint with
 | true =>
  simp only [if_true]
  refine wpS_bind (wpS_mono (wpS_forRange (I:=fun k c st'=>st'=st∧∃ la of,c=(none,la,of)∧la < of∧hint+la < n∧f (hint+la)=true∧k+1≤of)
   (Q:=fun c st'=>st'=st∧∃ la of,c=(none,la,of)∧la < of∧hint+la < n∧f (hint+la)=true∧(n - hint≤of∨(hint+of < n∧f (hint+of)=false))) ?_ ?_ ⟨rfl,0,1,rfl,by omega,hn,e,by omega⟩) ?_)
  ·rintro k c st' _ hk ⟨rfl,la,of,rfl,g1,g2,g3,g4⟩
   dsimp only
   by_cases q:of ≥ n - hint
   ·rw [if_pos q]
    exact wpS_pure ⟨rfl,la,of,rfl,g1,g2,g3,.inl q⟩
   ·rw [if_neg q]
    refine wpS_bind (hb _ (by omega) ?_)
    dsimp only
    cases e2:f (hint+of) with
    | true =>
     rw [if_neg (by decide)]
     exact wpS_pure ⟨rfl,of,_,rfl,by omega,by omega,e2,by omega⟩
    | false =>
     rw [if_pos (by decide)]
     exact wpS_pure ⟨rfl,la,of,rfl,g1,g2,g3,.inr ⟨by omega,e2⟩⟩
  ·rintro c st' ⟨rfl,la,of,rfl,g1,g2,g3,g4⟩
   exact ⟨rfl,la,of,rfl,g1,g2,g3,.inl (by omega)⟩
  ·rintro c st' ⟨rfl,la,of,rfl,g1,g2,g3,g4⟩
   refine qT (lo:=hint+la+1) (hi:=hint+min of (n - hint)) hb (by omega) (by omega) (fun i hi=>mono i (hint+la) (by omega) g2 g3) (fun i h1 h2=>?_) mono h
   rcases g4 with q | ⟨q1,q2⟩
   ·omega
   ·exact anti (hint+of) i (by omega) h2 q2
 | false =>
  simp only [Za0,if_false]
  refine wpS_bind (wpS_mono (wpS_forRange (I:=fun k c st'=>st'=st∧∃ la of,c=(none,la,of)∧la < of∧la≤hint∧f (hint - la)=false∧k+1≤of)
   (Q:=fun c st'=>st'=st∧∃ la of,c=(none,la,of)∧la < of∧la≤hint∧f (hint - la)=false∧(hint+1≤of∨(of≤hint∧f (hint - of)=true))) ?_ ?_ ⟨rfl,0,1,rfl,by omega,by omega,e,by omega⟩) ?_)
  ·rintro k c st' _ hk ⟨rfl,la,of,rfl,g1,g2,g3,g4⟩
   dsimp only
   by_cases q:of ≥ hint+1
   ·rw [if_pos q]
    exact wpS_pure ⟨rfl,la,of,rfl,g1,g2,g3,.inl q⟩
   ·rw [if_neg q]
    refine wpS_bind (hb _ (by omega) ?_)
    dsimp only
    cases e2:f (hint - of) with
    | true =>
     rw [if_pos rfl]
     exact wpS_pure ⟨rfl,la,of,rfl,g1,g2,g3,.inr ⟨by omega,e2⟩⟩
    | false =>
     rw [if_neg (by decide)]
     exact wpS_pure ⟨rfl,of,_,rfl,by omega,by omega,e2,by omega⟩
  ·rintro c st' ⟨rfl,la,of,rfl,g1,g2,g3,g4⟩
   exact ⟨rfl,la,of,rfl,g1,g2,g3,.inl (by omega)⟩
  ·rintro c st' ⟨rfl,la,of,rfl,g1,g2,g3,g4⟩
   refine qT (lo:=hint+1 - min of (hint+1)) (hi:=hint - la) hb (by omega) (by omega) (fun i hi=>?_) (fun i h1 h2=>anti (hint - la) i (by omega) h2 g3) mono h
   rcases g4 with q | ⟨q1,q2⟩
   ·omega
   ·exact mono i (hint - of) (by omega) (by omega) q2
end
theorem BJ (i:Nat):mergeAt' i=(do
 let s ←get
 let (some (sa,na,power),some (sb,nb,_)):=((pendingOf s)[i]?,(pendingOf s)[i+1]?) | unsupported "internal:list.sort.pending"
 set (setPending s (((pendingOf s).setIfInBounds i (sa,na+nb,power)).eraseIdxIfInBounds (i+1)))
 let some k ←jf false (←elem' (arrOf s) sb) (arrOf s) sa na 0 | return false
 let (sa,na):=(sa+k,na - k)
 if na == 0 then return true
 let some nb ←jf true (←elem' (arrOf s) (sa+na - 1)) (arrOf s) sb nb (nb - 1) | return false
 if nb == 0 then return true
 let x:=(arrOf s).extract sa sb
 let y:=(arrOf s).extract sb (sb+nb)
 let merged ←if na≤nb then vq x y else vy x y
 modify fun s=>setArr s (merged.toList.zipIdx.foldl (fun a (p,j)=>a.setIfInBounds (sa+j) p) (arrOf s))
 return (failedOf (←get)).isNone):=rfl
section
variable {r:Keyed->Nat}{la lb out:List Keyed}{ia ib:Nat}
noncomputable def Srt (r:Keyed->Nat) (l:List Keyed):Prop:=l.Pairwise fun x y=>r x < r y
structure Mg (r:Keyed->Nat) (la lb out:List Keyed) (ia ib:Nat):Prop where
 so:Srt r out
 lt:∀ o∈out,∀ z∈la.drop ia++lb.drop ib,r o < r z
 pm:out.Perm (la.take ia++lb.take ib)
theorem Mg.as (h:Mg r la lb out ia ib) (sa:Srt r la) (k:Nat) (hk:∀ x∈(la.drop ia).take k,∀ y∈lb.drop ib,r x < r y):Mg r la lb (out++(la.drop ia).take k) (ia+k) ib:=by
 have sd:Srt r (la.drop ia):=Zai (ZaM _ _) sa
 have e:la.drop (ia+k)=(la.drop ia).drop k:=by rw [List.drop_drop]
 refine ⟨Zan.mpr ⟨h.so,Zai (ZaJ _ _) sd,fun o ho x hx=>h.lt o ho x (Zad.mpr (.inl (ZaH hx)))⟩,fun o ho z hz=>?_,?_⟩
 ·rw [e] at hz
  rcases Zad.mp ho with q | q
  ·refine h.lt o q z ?_
   rcases Zad.mp hz with w | w
   ·exact Zad.mpr (.inl (ZaL w))
   ·exact Zad.mpr (.inr w)
  ·rcases Zad.mp hz with w | w
   ·have:=sd
    rw [←ZaB k (la.drop ia)] at this
    exact (Zan.mp this).2.2 o q z w
   ·exact hk o q z w
 ·rw [List.take_add]
  refine (h.pm.append_right _).trans ?_
  rw [Zar,Zar]
  exact ZaS _ List.perm_append_comm
theorem Mg.bs (h:Mg r la lb out ia ib) (sb:Srt r lb) (k:Nat) (hk:∀ y∈(lb.drop ib).take k,∀ x∈la.drop ia,r y < r x):Mg r la lb (out++(lb.drop ib).take k) ia (ib+k):=by
 have sd:Srt r (lb.drop ib):=Zai (ZaM _ _) sb
 have e:lb.drop (ib+k)=(lb.drop ib).drop k:=by rw [List.drop_drop]
 refine ⟨Zan.mpr ⟨h.so,Zai (ZaJ _ _) sd,fun o ho x hx=>h.lt o ho x (Zad.mpr (.inr (ZaH hx)))⟩,fun o ho z hz=>?_,?_⟩
 ·rw [e] at hz
  rcases Zad.mp ho with q | q
  ·refine h.lt o q z ?_
   rcases Zad.mp hz with w | w
   ·exact Zad.mpr (.inl w)
   ·exact Zad.mpr (.inr (ZaL w))
  ·rcases Zad.mp hz with w | w
   ·exact hk o q z w
   ·have:=sd
    rw [←ZaB k (lb.drop ib)] at this
    exact (Zan.mp this).2.2 o q z w
 ·rw [List.take_add,←Zar]
  exact h.pm.append_right _
theorem Mg.end (h:Mg r la lb out ia ib) (sa:Srt r la) (sb:Srt r lb) (hk:∀ x∈la.drop ia,∀ y∈lb.drop ib,r x < r y):Srt r (out++la.drop ia++lb.drop ib)∧(out++la.drop ia++lb.drop ib).Perm (la++lb):=by
 refine ⟨?_,?_⟩
 ·rw [Zar]
  refine Zan.mpr ⟨h.so,Zan.mpr ⟨Zai (ZaM _ _) sa,Zai (ZaM _ _) sb,hk⟩,h.lt⟩
 ·have e:(la++lb).Perm (la.take ia++lb.take ib++(la.drop ia++lb.drop ib)):=by
   conv=>lhs;rw [←ZaB ia la,←ZaB ib lb]
   simp only [Zar]
   refine ZaS _ ?_
   rw [←Zar,←Zar]
   exact ZbF _ List.perm_append_comm
  rw [Zar]
  exact (h.pm.append_right _).trans e.symm
theorem Mg.Rm (h:Mg r la lb out ia ib) (sa:Srt r la) (sb:Srt r lb) (hk:∀ x∈la.drop ia,∀ y∈lb.drop ib,r y < r x):Srt r (out++lb.drop ib++la.drop ia)∧(out++lb.drop ib++la.drop ia).Perm (la++lb):=by
 refine ⟨?_,?_⟩
 ·rw [Zar]
  exact Zan.mpr ⟨h.so,Zan.mpr ⟨Zai (ZaM _ _) sb,Zai (ZaM _ _) sa,fun y hy x hx=>hk x hx y hy⟩,fun o ho z hz=>h.lt o ho z (by
   rcases Zad.mp hz with q | q
   ·exact Zad.mpr (.inr q)
   ·exact Zad.mpr (.inl q))⟩
 ·have e:(la++lb).Perm (la.take ia++lb.take ib++(lb.drop ib++la.drop ia)):=by
   conv=>lhs;rw [←ZaB ia la,←ZaB ib lb]
   simp only [Zar]
   refine ZaS _ ?_
   refine List.perm_append_comm.trans ?_
   rw [Zar]
  rw [Zar]
  exact (h.pm.append_right _).trans e.symm
end
noncomputable abbrev S7:=Option (Array Keyed)×Array Keyed×Nat×Nat×Nat×Nat×Nat
noncomputable abbrev S6:=Option (Array Keyed)×Array Keyed×Nat×Nat×Nat×Nat
noncomputable abbrev S5:=Option (Array Keyed)×Array Keyed×Nat×Nat×Nat
noncomputable abbrev dnL (a b out:Array Keyed) (ia ib:Nat):Array Keyed:=out++a.extract ia a.size++b.extract ib b.size
noncomputable abbrev laL (a b out:Array Keyed) (ia ib:Nat):Array Keyed:=out++b.extract ib b.size++a.extract ia a.size
noncomputable def Kp (a b out:Array Keyed) (ia ib mg ac bc:Nat):StateT SortSt Sem (ForInStep S7):=do
 let x ←elem' a ia
 if ia+1+1 == a.size then return .done (some (laL a b (out.push x) (ia+1) ib),out.push x,ia+1,ib,mg,ac,bc)
 if ac < 7 && bc < 7 then return .done (none,out.push x,ia+1,ib,mg,ac,bc)
 return .yield (none,out.push x,ia+1,ib,mg,ac,bc)
noncomputable def Kq (a b out:Array Keyed) (ia ib mg ac bc:Nat):StateT SortSt Sem (ForInStep S7):=do
 let y ←elem' b ib
 if ib+1 == b.size then return .done (some (dnL a b (out.push y) ia (ib+1)),out.push y,ia,ib+1,mg,ac,bc)
 let some k ←jf true (←elem' a ia) b (ib+1) (b.size - (ib+1)) 0 | return .done (some (dnL a b (out.push y) ia (ib+1)),out.push y,ia,ib+1,mg,ac,bc)
 if k > 0 then
  if ib+1+k == b.size then return .done (some (dnL a b (out.push y++b.extract (ib+1) (ib+1+k)) ia (ib+1+k)),out.push y++b.extract (ib+1) (ib+1+k),ia,ib+1+k,mg,ac,k)
  Kp a b (out.push y++b.extract (ib+1) (ib+1+k)) ia (ib+1+k) mg ac k
 else Kp a b (out.push y) ia (ib+1) mg ac k
noncomputable def NP (a b out:Array Keyed) (ia ib mg ac bc:Nat):StateT SortSt Sem (ForInStep S7):=do
 fM mg
 let some k ←jf false (←elem' b ib) a ia (a.size - ia) 0 | return .done (some (dnL a b out ia ib),out,ia,ib,mg,ac,bc)
 if k > 0 then
  if ia+k+1 == a.size then return .done (some (laL a b (out++a.extract ia (ia+k)) (ia+k) ib),out++a.extract ia (ia+k),ia+k,ib,mg,k,bc)
  if ia+k == a.size then return .done (some (dnL a b (out++a.extract ia (ia+k)) (ia+k) ib),out++a.extract ia (ia+k),ia+k,ib,mg,k,bc)
  Kq a b (out++a.extract ia (ia+k)) (ia+k) ib mg k bc
 else Kq a b out ia ib mg k bc
noncomputable def Ro (a b:Array Keyed) (c:S7):StateT SortSt Sem (ForInStep S7) :=
 if c.2.2.2.2.1 > 1 then NP a b c.2.1 c.2.2.1 c.2.2.2.1 (c.2.2.2.2.1 - 1) c.2.2.2.2.2.1 c.2.2.2.2.2.2 else NP a b c.2.1 c.2.2.1 c.2.2.2.1 c.2.2.2.2.1 c.2.2.2.2.2.1 c.2.2.2.2.2.2
noncomputable def Rp (a b:Array Keyed) (mg:Nat) (c:S6):StateT SortSt Sem (ForInStep S6):=do
 let some bWins ←lt' (←elem' b c.2.2.2.1) (←elem' a c.2.2.1) | return .done (some (dnL a b c.2.1 c.2.2.1 c.2.2.2.1),c.2.1,c.2.2.1,c.2.2.2.1,c.2.2.2.2.1,c.2.2.2.2.2)
 if bWins then
  let y ←elem' b c.2.2.2.1
  if c.2.2.2.1+1 == b.size then return .done (some (dnL a b (c.2.1.push y) c.2.2.1 (c.2.2.2.1+1)),c.2.1.push y,c.2.2.1,c.2.2.2.1+1,0,c.2.2.2.2.2+1)
  if c.2.2.2.2.2+1 ≥ mg then return .done (none,c.2.1.push y,c.2.2.1,c.2.2.2.1+1,0,c.2.2.2.2.2+1)
  return .yield (none,c.2.1.push y,c.2.2.1,c.2.2.2.1+1,0,c.2.2.2.2.2+1)
 else
  let x ←elem' a c.2.2.1
  if c.2.2.1+1+1 == a.size then return .done (some (laL a b (c.2.1.push x) (c.2.2.1+1) c.2.2.2.1),c.2.1.push x,c.2.2.1+1,c.2.2.2.1,c.2.2.2.2.1+1,0)
  if c.2.2.2.2.1+1 ≥ mg then return .done (none,c.2.1.push x,c.2.2.1+1,c.2.2.2.1,c.2.2.2.2.1+1,0)
  return .yield (none,c.2.1.push x,c.2.2.1+1,c.2.2.2.1,c.2.2.2.2.1+1,0)
noncomputable def Rq (a b:Array Keyed) (c:S5):StateT SortSt Sem (ForInStep S5):=do
 let d ←forIn [0:a.size+b.size] ((none,c.2.1,c.2.2.1,c.2.2.2.1,0,0):S6) fun _ d=>Rp a b c.2.2.2.2 d
 match d.1 with
 | some r=>pure (.done (some r,d.2.1,d.2.2.1,d.2.2.2.1,c.2.2.2.2))
 | none=>do
  rule "list.sort.gallop"
  let e ←forIn [0:a.size+b.size] ((none,d.2.1,d.2.2.1,d.2.2.2.1,c.2.2.2.2+1,d.2.2.2.2.1,d.2.2.2.2.2):S7) fun _ e=>Ro a b e
  match e.1 with
  | some r=>pure (.done (some r,e.2.1,e.2.2.1,e.2.2.2.1,e.2.2.2.2.1))
  | none=>do
   fM (e.2.2.2.2.1+1)
   pure (.yield (none,e.2.1,e.2.2.1,e.2.2.2.1,e.2.2.2.2.1+1))
noncomputable def BK (a b:Array Keyed):StateT SortSt Sem (Array Keyed):=do
 rule "list.sort.merge-lo"
 let y ←elem' b 0
 if 1 == b.size then return dnL a b #[y] 0 1
 if 0+1 == a.size then return laL a b #[y] 0 1
 let s ←get
 let c ←forIn [0:a.size+b.size] ((none,#[y],0,1,gallopOf s):S5) fun _ c=>Rq a b c
 match c.1 with
 | some r=>pure r
 | none=>unsupported "internal:list.sort.merge-bound"
theorem BL (a b:Array Keyed):vq a b=BK a b:=by
 kernel_rfl
section
variable {prog:Program}{w:World}{A:Around}{E:Value->Shared->Prop}{s:Shared}{κ:SortKind}{D:Keyed->Prop}{r:Keyed->Nat}{st:SortSt}{a b:Array Keyed}
theorem kJ {M:Model}{x:String}{Q:Unit->SortSt->Prop} (h:Q () st):wpS M A E s (rule x:StateT SortSt Sem Unit) Q st:=wpS_lift (wpAny_rule ⟨rfl,h⟩)
theorem ext_toList (a:Array Keyed) (i j:Nat) (h:i≤j) (hj:j≤a.size):(a.extract i j).toList=(a.toList.drop i).take (j - i):=by
 simp [Array.toList_extract,List.extract]
theorem uq (a:Array Keyed) (i:Nat):(a.extract i a.size).toList=a.toList.drop i:=by
 rw [Array.toList_extract]
 simp [List.extract]
 exact ZaO (by simp)
structure za (D:Keyed->Prop) (r:Keyed->Nat) (a b:Array Keyed):Prop where
 da:∀ x∈a.toList,D x
 db:∀ x∈b.toList,D x
 sa:Srt r a.toList
 sb:Srt r b.toList
 ne:∀ x∈a.toList,∀ y∈b.toList,r x≠r y
 la:∀ x,a.toList[a.size - 1]?=some x->∀ y∈b.toList,r y < r x
noncomputable def Good (r:Keyed->Nat) (a b out:Array Keyed):Prop:=Srt r out.toList∧out.toList.Perm (a.toList++b.toList)
theorem qU {out:Array Keyed}{ia ib:Nat} (o:za D r a b) (m:Mg r a.toList b.toList out.toList ia ib) (h:ib=b.size∨ia=a.size):Good r a b (dnL a b out ia ib):=by
 have e:=m.end o.sa o.sb (fun x hx y hy=>by
  rcases h with q | q
  ·rw [q,Za3 (by simp)] at hy;cases hy
  ·rw [q,Za3 (by simp)] at hx;cases hx)
 unfold Good dnL
 rw [ZaK,ZaK,uq,uq]
 exact e
theorem ur {out:Array Keyed}{ia ib:Nat} (o:za D r a b) (m:Mg r a.toList b.toList out.toList ia ib) (h:ia+1=a.size):Good r a b (laL a b out ia ib):=by
 have e:=m.Rm o.sa o.sb (fun x hx y hy=>by
  have:a.toList.drop ia=[a.toList[ia]'(by simp;lia)]:=by
   rw [ZaI (by simp;lia),Za3 (by simp;lia)]
  rw [this,ZaE] at hx
  refine o.la x ?_ y (ZaL hy)
  rw [hx,show a.size - 1=ia by lia]
  exact List.getElem?_eq_getElem (by simp;lia))
 unfold Good laL
 rw [ZaK,ZaK,uq,uq]
 exact e
theorem gY {left:Bool}{key:Keyed}{arr:Array Keyed}{base n hint:Nat}{L:List Keyed} (hc:Cmp prog w A s κ D r) (hk:kindOf st=κ) (hn:hint < n) (hb:base+n≤arr.size) (hL:(arr.toList.drop base).take n=L) (dk:D key) (dl:∀ x∈L,D x∧r x≠r key) (sl:Srt r L) {Q:Option Nat->SortSt->Prop}
  (h:∀ k,k≤n->(∀ x∈L.take k,r x < r key)->(∀ x∈L.drop k,r key < r x)->Q (some k) st):wpS (model prog w) A E s (jf left key arr base n hint) Q st:=by
 have ll:L.length=n:=by rw [←hL];simp;lia
 have at_:∀ i (hi:i < n),arr[base+i]?=some (L[i]'(by lia)):=fun i hi=>by
  rw [←Zax]
  have:L[i]?=arr.toList[base+i]?:=by
   rw [←hL,List.getElem?_take,if_pos hi,List.getElem?_drop]
  rw [←this,List.getElem?_eq_getElem]
 have mem:∀ i (hi:i < n),L[i]'(by lia)∈L:=fun i hi=>List.getElem_mem _
 refine By (f:=fun i=>if hi:i < n then decide (r (L[i]'(by lia)) < r key) else false) (fun i hi Q q=>?_) (fun i j hij hj e=>?_) hn fun m hm g1 g2=>?_
 ·rw [dif_pos hi] at q
  exact Eu hc hk (at_ i hi) (dl _ (mem i hi)).1 dk (dl _ (mem i hi)).2 q
 ·rw [dif_pos hj] at e
  rw [dif_pos (by lia)]
  have e:=of_decide_eq_true e
  refine decide_eq_true ?_
  by_cases q:i=j
  ·subst q;exact e
  ·exact Nat.lt_trans (Zbu.mp sl i j (by lia) (by lia) (by lia)) e
 ·refine h m hm (fun x hx=>?_) fun x hx=>?_
  ·obtain ⟨i,hi,rfl⟩:=List.mem_iff_getElem.mp hx
   rw [List.length_take] at hi
   have:=g1 i (by lia)
   rw [dif_pos (by lia)] at this
   rw [List.getElem_take]
   exact of_decide_eq_true this
  ·obtain ⟨i,hi,rfl⟩:=List.mem_iff_getElem.mp hx
   rw [List.length_drop] at hi
   have:=g2 (m+i) (by lia) (by lia)
   rw [dif_pos (by lia)] at this
   rw [List.getElem_drop]
   have t1:=of_decide_eq_false this
   have t2:=(dl _ (mem (m+i) (by lia))).2
   lia
structure In (r:Keyed->Nat) (a b out:Array Keyed) (ia ib:Nat):Prop where
 mg:Mg r a.toList b.toList out.toList ia ib
 ha:ia+1 < a.size
 hb:ib < b.size
noncomputable def P7 (r:Keyed->Nat) (a b:Array Keyed) (n:Nat):ForInStep S7->Prop
 | .done (some o,_)=>Good r a b o
 | .done (none,out,ia,ib,_)=>In r a b out ia ib∧n≤ia+ib
 | .yield (none,out,ia,ib,_)=>In r a b out ia ib∧n≤ia+ib
 | .yield (some _,_)=>False
theorem take1 {l:List Keyed}{i:Nat}{x:Keyed} (h:l[i]?=some x):(l.drop i).take 1=[x]∧l.drop i=x::l.drop (i+1):=by
 have hi:=(Zab.mp h).1
 have e:l.drop i=x::l.drop (i+1):=by
  rw [ZaI hi]
  congr 1
  rw [List.getElem?_eq_getElem hi] at h
  exact Zaa h
 rw [e];exact ⟨rfl,rfl⟩
theorem nu {l:List Keyed}{i:Nat}{x:Keyed} (sl:Srt r l) (h:l[i]?=some x):∀ z∈l.drop i,r x≤r z:=fun z hz=>by
 have:=Zai (ZaM i l) sl
 rw [(take1 h).2] at hz this
 rcases Zas.mp hz with q | q
 ·rw [q];exact Zah _
 ·exact ZaG ((List.pairwise_cons.mp this).1 z q)
theorem NQ {M:Model}{out:Array Keyed}{ia ib mg ac bc:Nat} (o:za D r a b) (i:In r a b out ia ib) (hx:∀ x,a.toList[ia]?=some x->∀ y∈b.toList.drop ib,r x < r y) :
  wpS M A E s (Kp a b out ia ib mg ac bc) (fun c st'=>st'=st∧P7 r a b (ia+ib+1) c) st:=by
 obtain ⟨x,ex⟩:∃ x,a.toList[ia]?=some x:=⟨_,List.getElem?_eq_getElem (by have:=i.ha;simp;lia)⟩
 have t1:=take1 ex
 have m:Mg r a.toList b.toList (out.push x).toList (ia+1) ib:=by
  have:=i.mg.as o.sa 1 (by rw [t1.1];intro z hz;rw [ZaE.mp hz];exact hx x ex)
  rw [t1.1] at this
  rw [Zbl];exact this
 have ha:=i.ha
 have hb:=i.hb
 unfold Kp
 refine wpS_bind (bK (x:=x) (by rw [←Zax];exact ex) ?_)
 by_cases q:ia+1+1=a.size
 ·rw [if_pos (by simpa using q)]
  exact wpS_pure ⟨rfl,ur o m q⟩
 ·rw [if_neg (by simpa using q)]
  have I:In r a b (out.push x) (ia+1) ib:=⟨m,by lia,hb⟩
  split
  ·exact wpS_pure ⟨rfl,I,by lia⟩
  ·exact wpS_pure ⟨rfl,I,by lia⟩
end
section
variable {prog:Program}{w:World}{A:Around}{E:Value->Shared->Prop}{s:Shared}{κ:SortKind}{D:Keyed->Prop}{r:Keyed->Nat}{st:SortSt}{a b:Array Keyed}
theorem P7.mono {n m:Nat} (h:n≤m):∀ {c:ForInStep S7},P7 r a b m c->P7 r a b n c
 | .done (some _,_),p=>p
 | .done (none,_,_,_,_),p=>⟨p.1,Zaz h p.2⟩
 | .yield (none,_,_,_,_),p=>⟨p.1,Zaz h p.2⟩
 | .yield (some _,_),p=>p
theorem getL {l:Array Keyed}{i:Nat} (h:i < l.size):∃ x,l.toList[i]?=some x∧l[i]?=some x:=⟨_,List.getElem?_eq_getElem (by simpa using h),by rw [Zat h,Array.getElem_toList]⟩
theorem mO {l:Array Keyed}{i:Nat}{x:Keyed} (h:l.toList[i]?=some x):x∈l.toList:=Zaf h
theorem xN (l:Array Keyed) (i:Nat) (h:i≤l.size):(l.toList.drop i).take (l.size - i)=l.toList.drop i:=ZaO (by simp)
theorem NT {out:Array Keyed}{ia ib mg ac bc:Nat} (hc:Cmp prog w A s κ D r) (hk:kindOf st=κ) (o:za D r a b) (i:In r a b out ia ib) (hy:∀ y,b.toList[ib]?=some y->∀ x∈a.toList.drop ia,r y < r x) :
  wpS (model prog w) A E s (Kq a b out ia ib mg ac bc) (fun c st'=>st'=st∧P7 r a b (ia+ib+1) c) st:=by
 have ha:=i.ha
 have hb:=i.hb
 obtain ⟨y,ey,ey'⟩:=getL hb
 have t1:=take1 ey
 have m:Mg r a.toList b.toList (out.push y).toList ia (ib+1):=by
  have:=i.mg.bs o.sb 1 (by rw [t1.1];intro z hz;rw [ZaE.mp hz];exact hy y ey)
  rw [t1.1] at this
  rw [Zbl];exact this
 unfold Kq
 refine wpS_bind (bK ey' ?_)
 by_cases q:ib+1=b.size
 ·rw [if_pos (by simpa using q)]
  exact wpS_pure ⟨rfl,qU o m (.inl q)⟩
 ·rw [if_neg (by simpa using q)]
  obtain ⟨x,ex,ex'⟩:=getL (l:=a) (i:=ia) (by omega)
  refine wpS_bind (bK ex' ?_)
  refine wpS_bind (gY hc hk (by omega) (by omega) (xN b (ib+1) (by omega)) (o.da x (mO ex)) (fun z hz=>⟨o.db z (ZaL hz),fun e=>o.ne x (mO ex) z (ZaL hz) e.symm⟩) (Zai (ZaM _ _) o.sb) fun k hk' g1 g2=>?_)
  dsimp only
  rw [List.drop_drop] at g2
  have fin:∀ {o2:Array Keyed}{j:Nat},Mg r a.toList b.toList o2.toList ia j->j=ib+1+k->¬j=b.size->wpS (model prog w) A E s (Kp a b o2 ia j mg ac k) (fun c st'=>st'=st∧P7 r a b (ia+ib+1) c) st:=fun {o2 j} m2 e ne=>by
   refine wpS_mono (NQ o ⟨m2,ha,by omega⟩ fun x' ex2 z hz=>?_) fun c st' p=>⟨p.1,P7.mono (by omega) p.2⟩
   rw [ex] at ex2;cases ex2
   rw [e] at hz
   exact g2 z hz
  by_cases q2:k > 0
  ·rw [if_pos q2]
   have m2:Mg r a.toList b.toList (out.push y++b.extract (ib+1) (ib+1+k)).toList ia (ib+1+k):=by
    have:=m.bs o.sb k fun z hz x' hx'=>Zap (g1 z hz) (nu o.sa ex x' hx')
    rw [ZaK,ext_toList b _ _ (by omega) (by omega),ZbA]
    exact this
   by_cases q3:ib+1+k=b.size
   ·rw [if_pos (by simpa using q3)]
    exact wpS_pure ⟨rfl,qU o m2 (.inl q3)⟩
   ·rw [if_neg (by simpa using q3)]
    exact fin m2 rfl q3
  ·rw [if_neg q2]
   exact fin m (by omega) (by omega)
theorem Ga {out:Array Keyed}{ia ib mg ac bc:Nat} (hc:Cmp prog w A s κ D r) (hk:kindOf st=κ) (o:za D r a b) (i:In r a b out ia ib) :
  wpS (model prog w) A E s (NP a b out ia ib mg ac bc) (fun c st'=>st'=b7 st mg∧P7 r a b (ia+ib+1) c) st:=by
 have ha:=i.ha
 have hb:=i.hb
 obtain ⟨y,ey,ey'⟩:=getL hb
 unfold NP
 rw [fC]
 refine wpS_bind (wpS_modify ?_)
 refine wpS_bind (bK ey' ?_)
 refine wpS_bind (gY hc (show kindOf (b7 st mg)=κ from hk) (by omega) (by omega) (xN a ia (by omega)) (o.db y (mO ey)) (fun z hz=>⟨o.da z (ZaL hz),fun e=>o.ne z (ZaL hz) y (mO ey) e⟩) (Zai (ZaM _ _) o.sa) fun k hk' g1 g2=>?_)
 dsimp only
 rw [List.drop_drop] at g2
 have fin:∀ {o2:Array Keyed}{j:Nat},Mg r a.toList b.toList o2.toList j ib->j=ia+k->j+1 < a.size->wpS (model prog w) A E s (Kq a b o2 j ib mg k bc) (fun c st'=>st'=b7 st mg∧P7 r a b (ia+ib+1) c) (b7 st mg):=fun {o2 j} m2 e ne=>by
  refine wpS_mono (NT hc (show kindOf (b7 st mg)=κ from hk) o ⟨m2,ne,hb⟩ fun y' ey2 z hz=>?_) fun c st' p=>⟨p.1,P7.mono (by omega) p.2⟩
  rw [ey] at ey2;cases ey2
  rw [e] at hz
  exact g2 z hz
 by_cases q2:k > 0
 ·rw [if_pos q2]
  have m2:Mg r a.toList b.toList (out++a.extract ia (ia+k)).toList (ia+k) ib:=by
   have:=i.mg.as o.sa k fun x hx z hz=>Zap (g1 x hx) (nu o.sb ey z hz)
   rw [ZaK,ext_toList a _ _ (by omega) (by omega),ZbA]
   exact this
  by_cases q3:ia+k+1=a.size
  ·rw [if_pos (by simpa using q3)]
   exact wpS_pure ⟨rfl,ur o m2 q3⟩
  ·rw [if_neg (by simpa using q3)]
   by_cases q4:ia+k=a.size
   ·rw [if_pos (by simpa using q4)]
    exact wpS_pure ⟨rfl,qU o m2 (.inr q4)⟩
   ·rw [if_neg (by simpa using q4)]
    exact fin m2 rfl (by omega)
 ·rw [if_neg q2]
  exact fin i.mg (by omega) (by omega)
theorem NZ {c:S7} (hc:Cmp prog w A s κ D r) (hk:kindOf st=κ) (o:za D r a b) (i:In r a b c.2.1 c.2.2.1 c.2.2.2.1) :
  wpS (model prog w) A E s (Ro a b c) (fun c' st'=>(∃ g,st'=b7 st g)∧P7 r a b (c.2.2.1+c.2.2.2.1+1) c') st:=by
 unfold Ro
 split
 ·exact wpS_mono (Ga hc hk o i) fun c' st' p=>⟨⟨_,p.1⟩,p.2⟩
 ·exact wpS_mono (Ga hc hk o i) fun c' st' p=>⟨⟨_,p.1⟩,p.2⟩
noncomputable def P6 (r:Keyed->Nat) (a b:Array Keyed) (n:Nat):ForInStep S6->Prop
 | .done (some o,_)=>Good r a b o
 | .done (none,out,ia,ib,_)=>In r a b out ia ib∧n≤ia+ib
 | .yield (none,out,ia,ib,_)=>In r a b out ia ib∧n≤ia+ib
 | .yield (some _,_)=>False
theorem N5 {c:S6}{mg:Nat} (hc:Cmp prog w A s κ D r) (hk:kindOf st=κ) (o:za D r a b) (i:In r a b c.2.1 c.2.2.1 c.2.2.2.1) :
  wpS (model prog w) A E s (Rp a b mg c) (fun c' st'=>st'=st∧P6 r a b (c.2.2.1+c.2.2.2.1+1) c') st:=by
 obtain ⟨c0,out,ia,ib,ac,bc⟩:=c
 have ha:ia+1 < a.size:=i.ha
 have hb:ib < b.size:=i.hb
 obtain ⟨y,ey,ey'⟩:=getL hb
 obtain ⟨x,ex,ex'⟩:=getL (l:=a) (i:=ia) (by lia)
 unfold Rp
 dsimp only
 refine wpS_bind (bK ey' (wpS_bind (bK ex' (wpS_bind (vz hc hk (o.db y (mO ey)) (o.da x (mO ex)) ?_)))))
 dsimp only
 have nxy:=o.ne x (mO ex) y (mO ey)
 by_cases q:r y < r x
 ·rw [decide_eq_true q,if_pos rfl]
  have t1:=take1 ey
  have m:Mg r a.toList b.toList (out.push y).toList ia (ib+1):=by
   have:=i.mg.bs o.sb 1 (by rw [t1.1];intro z hz x' hx';rw [ZaE.mp hz];exact Zap q (nu o.sa ex x' hx'))
   rw [t1.1] at this
   rw [Zbl];exact this
  refine wpS_bind (bK ey' ?_)
  by_cases q2:ib+1=b.size
  ·rw [if_pos (by simpa using q2)]
   exact wpS_pure ⟨rfl,qU o m (.inl q2)⟩
  ·rw [if_neg (by simpa using q2)]
   have I:In r a b (out.push y) ia (ib+1):=⟨m,ha,by lia⟩
   split
   ·exact wpS_pure ⟨rfl,I,Nat.le_of_eq (by lia)⟩
   ·exact wpS_pure ⟨rfl,I,Nat.le_of_eq (by lia)⟩
 ·rw [decide_eq_false q,if_neg (by decide)]
  have t1:=take1 ex
  have m:Mg r a.toList b.toList (out.push x).toList (ia+1) ib:=by
   have:=i.mg.as o.sa 1 (by rw [t1.1];intro z hz y' hy';rw [ZaE.mp hz];exact Zap (by lia) (nu o.sb ey y' hy'))
   rw [t1.1] at this
   rw [Zbl];exact this
  refine wpS_bind (bK ex' ?_)
  by_cases q2:ia+1+1=a.size
  ·rw [if_pos (by simpa using q2)]
   exact wpS_pure ⟨rfl,ur o m q2⟩
  ·rw [if_neg (by simpa using q2)]
   have I:In r a b (out.push x) (ia+1) ib:=⟨m,by lia,hb⟩
   split
   ·exact wpS_pure ⟨rfl,I,Nat.le_of_eq (by lia)⟩
   ·exact wpS_pure ⟨rfl,I,Nat.le_of_eq (by lia)⟩
end
section
variable {prog:Program}{w:World}{A:Around}{E:Value->Shared->Prop}{s:Shared}{κ:SortKind}{D:Keyed->Prop}{r:Keyed->Nat}{st:SortSt}{a b:Array Keyed}
noncomputable def P5 (r:Keyed->Nat) (a b:Array Keyed) (n:Nat):ForInStep S5->Prop
 | .done (some o,_)=>Good r a b o
 | .done (none,_)=>False
 | .yield (none,out,ia,ib,_)=>In r a b out ia ib∧n≤ia+ib
 | .yield (some _,_)=>False
theorem N6 {c:S5} (hc:Cmp prog w A s κ D r) (hk:kindOf st=κ) (o:za D r a b) (i:In r a b c.2.1 c.2.2.1 c.2.2.2.1) :
  wpS (model prog w) A E s (Rq a b c) (fun c' st'=>(∃ g,st'=b7 st g)∧P5 r a b (c.2.2.1+c.2.2.2.1+1) c') st:=by
 obtain ⟨c0,out,ia,ib,mg⟩:=c
 have ha:ia+1 < a.size:=i.ha
 unfold Rq
 dsimp only
 refine wpS_bind (wpS_mono (wpS_forRange (I:=fun k d st'=>st'=st∧∃ o2 i2 j2 ac bc,d=((none,o2,i2,j2,ac,bc):S6)∧In r a b o2 i2 j2∧ia+ib+k≤i2+j2)
  (Q:=fun d st'=>st'=st∧((∃ o2 x,d=((some o2,x):S6)∧Good r a b o2)∨∃ o2 i2 j2 ac bc,d=((none,o2,i2,j2,ac,bc):S6)∧In r a b o2 i2 j2∧ia+ib+1≤i2+j2)) ?_ ?_ ⟨rfl,out,ia,ib,0,0,rfl,i,Zah _⟩) ?_)
 ·rintro k d st' _ hk' ⟨rfl,o2,i2,j2,ac,bc,rfl,I,hn⟩
  refine wpS_mono (N5 (c:=(none,o2,i2,j2,ac,bc)) hc hk o I) fun e st' p=>?_
  obtain ⟨rfl,p⟩:=p
  match e,p with
  | .done (some o3,x),p=>exact ⟨rfl,.inl ⟨o3,x,rfl,p⟩⟩
  | .done (none,o3,i3,j3,a3,b3),p=>exact ⟨rfl,.inr ⟨o3,i3,j3,a3,b3,rfl,p.1,by have:i2+j2+1≤i3+j3:=p.2;lia⟩⟩
  | .yield (none,o3,i3,j3,a3,b3),p=>exact ⟨rfl,o3,i3,j3,a3,b3,rfl,p.1,by have:i2+j2+1≤i3+j3:=p.2;lia⟩
  | .yield (some _,_),p=>exact p.elim
 ·rintro d st' ⟨rfl,o2,i2,j2,ac,bc,rfl,I,hn⟩
  exact ⟨rfl,.inr ⟨o2,i2,j2,ac,bc,rfl,I,by lia⟩⟩
 ·rintro d st' ⟨rfl,⟨o2,x,rfl,G⟩ | ⟨o2,i2,j2,ac,bc,rfl,I,hn⟩⟩
  ·exact wpS_pure ⟨⟨gallopOf st',rfl⟩,G⟩
  ·dsimp only
   refine wpS_bind (kJ ?_)
   refine wpS_bind (wpS_mono (wpS_forRange (I:=fun k e st2=>(∃ g,st2=b7 st' g)∧∃ o2 i2 j2 mg ac bc,e=((none,o2,i2,j2,mg,ac,bc):S7)∧In r a b o2 i2 j2∧ia+ib+1≤i2+j2)
    (Q:=fun e st2=>(∃ g,st2=b7 st' g)∧((∃ o2 x,e=((some o2,x):S7)∧Good r a b o2)∨∃ o2 i2 j2 mg ac bc,e=((none,o2,i2,j2,mg,ac,bc):S7)∧In r a b o2 i2 j2∧ia+ib+1≤i2+j2)) ?_ ?_ ⟨⟨gallopOf st',rfl⟩,o2,i2,j2,_,ac,bc,rfl,I,hn⟩) ?_)
   ·rintro k e st2 _ _ ⟨⟨g,rfl⟩,o3,i3,j3,m3,a3,b3,rfl,I3,hn3⟩
    refine wpS_mono (NZ (c:=(none,o3,i3,j3,m3,a3,b3)) hc (show kindOf (b7 st' g)=κ from hk) o I3) fun e st3 p=>?_
    obtain ⟨⟨g2,rfl⟩,p⟩:=p
    match e,p with
    | .done (some o4,x),p=>exact ⟨⟨g2,rfl⟩,.inl ⟨o4,x,rfl,p⟩⟩
    | .done (none,o4,i4,j4,m4,a4,b4),p=>exact ⟨⟨g2,rfl⟩,.inr ⟨o4,i4,j4,m4,a4,b4,rfl,p.1,by have:i3+j3+1≤i4+j4:=p.2;lia⟩⟩
    | .yield (none,o4,i4,j4,m4,a4,b4),p=>exact ⟨⟨g2,rfl⟩,o4,i4,j4,m4,a4,b4,rfl,p.1,by have:i3+j3+1≤i4+j4:=p.2;lia⟩
    | .yield (some _,_),p=>exact p.elim
   ·rintro e st2 ⟨G,o3,i3,j3,m3,a3,b3,rfl,I3,hn3⟩
    exact ⟨G,.inr ⟨o3,i3,j3,m3,a3,b3,rfl,I3,hn3⟩⟩
   ·rintro e st2 ⟨⟨g,rfl⟩,⟨o3,x,rfl,G⟩ | ⟨o3,i3,j3,m3,a3,b3,rfl,I3,hn3⟩⟩
    ·exact wpS_pure ⟨⟨g,rfl⟩,G⟩
    ·dsimp only
     rw [fC]
     refine wpS_bind (wpS_modify ?_)
     exact wpS_pure ⟨⟨_,rfl⟩,I3,hn3⟩
theorem BP (hc:Cmp prog w A s κ D r) (hk:kindOf st=κ) (a1:1≤a.size) (b1:1≤b.size) (o:za D r a b) (hf:∀ y,b.toList[0]?=some y->∀ x∈a.toList,r y < r x) {Q:Array Keyed->SortSt->Prop}
  (h:∀ out g,Good r a b out->Q out (b7 st g)):wpS (model prog w) A E s (vq a b) Q st:=by
 rw [BL]
 unfold BK
 refine wpS_bind (kJ ?_)
 obtain ⟨y,ey,ey'⟩:=getL (l:=b) (i:=0) (by lia)
 refine wpS_bind (bK ey' ?_)
 have t1:=take1 ey
 have m:Mg r a.toList b.toList (#[y]:Array Keyed).toList 0 1:=by
  have m0:Mg r a.toList b.toList [] 0 0:=⟨.nil,fun _ h=>(nomatch h),by simp⟩
  have:=m0.bs o.sb 1 (by rw [t1.1];intro z hz x hx;rw [ZaE.mp hz];exact hf y ey x (by simpa using hx))
  rw [t1.1] at this
  exact this
 by_cases q:1=b.size
 ·rw [if_pos (by simpa using q)]
  exact wpS_pure (h _ (gallopOf st) (qU o m (.inl q)))
 ·rw [if_neg (by simpa using q)]
  by_cases q2:0+1=a.size
  ·rw [if_pos (by simpa using q2)]
   exact wpS_pure (h _ (gallopOf st) (ur o m q2))
  ·rw [if_neg (by simpa using q2)]
   refine wpS_bind (wpS_get ?_)
   refine wpS_bind (wpS_mono (wpS_forRange (I:=fun k c st'=>(∃ g,st'=b7 st g)∧∃ out ia ib mg,c=((none,out,ia,ib,mg):S5)∧In r a b out ia ib∧k+1≤ia+ib)
    (Q:=fun c st'=>(∃ g,st'=b7 st g)∧∃ out x,c=((some out,x):S5)∧Good r a b out) ?_ ?_ ⟨⟨gallopOf st,rfl⟩,_,0,1,_,rfl,⟨m,by lia,by lia⟩,by lia⟩) ?_)
   ·rintro k c st' _ hk' ⟨⟨g,rfl⟩,out,ia,ib,mg,rfl,I,hn⟩
    refine wpS_mono (N6 (c:=(none,out,ia,ib,mg)) hc (show kindOf (b7 st g)=κ from hk) o I) fun e st3 p=>?_
    obtain ⟨⟨g2,rfl⟩,p⟩:=p
    match e,p with
    | .done (some o4,x),p=>exact ⟨⟨g2,rfl⟩,o4,x,rfl,p⟩
    | .done (none,_),p=>exact p.elim
    | .yield (none,o4,i4,j4,m4),p=>exact ⟨⟨g2,rfl⟩,o4,i4,j4,m4,rfl,p.1,by have:ia+ib+1≤i4+j4:=p.2;lia⟩
    | .yield (some _,_),p=>exact p.elim
   ·rintro c st' ⟨_,out,ia,ib,mg,rfl,I,hn⟩
    have:=I.ha
    have:=I.hb
    lia
   ·rintro c st' ⟨⟨g,rfl⟩,out,x,rfl,G⟩
    exact wpS_pure (h out g G)
end
noncomputable abbrev T7:=Option (Array Keyed)×Nat×Nat×Array Keyed×Nat×Nat×Nat
noncomputable abbrev T6:=Option (Array Keyed)×Nat×Nat×Array Keyed×Nat×Nat
noncomputable abbrev T5:=Option (Array Keyed)×Nat×Nat×Array Keyed×Nat
noncomputable abbrev dnH (a b out:Array Keyed) (na nb:Nat):Array Keyed:=a.extract 0 na++b.extract 0 nb++out.reverse
noncomputable abbrev fbH (a b out:Array Keyed) (na nb:Nat):Array Keyed:=b.extract 0 nb++a.extract 0 na++out.reverse
noncomputable def Kr (a b out:Array Keyed) (na nb mg ac bc:Nat):StateT SortSt Sem (ForInStep T7):=do
 let x ←elem' a (na - 1)
 if na - 1 == 0 then return .done (some (dnH a b (out.push x) (na - 1) nb),na - 1,nb,out.push x,mg,ac,bc)
 if ac < 7 && bc < 7 then return .done (none,na - 1,nb,out.push x,mg,ac,bc)
 return .yield (none,na - 1,nb,out.push x,mg,ac,bc)
noncomputable def Ks (a b out:Array Keyed) (na nb mg ac bc:Nat):StateT SortSt Sem (ForInStep T7):=do
 let y ←elem' b (nb - 1)
 if nb - 1 == 1 then return .done (some (fbH a b (out.push y) na (nb - 1)),na,nb - 1,out.push y,mg,ac,bc)
 let some at_ ←jf true (←elem' a (na - 1)) b 0 (nb - 1) (nb - 1 - 1) | return .done (some (dnH a b (out.push y) na (nb - 1)),na,nb - 1,out.push y,mg,ac,bc)
 if nb - 1 - at_ > 0 then
  if at_ == 1 then return .done (some (fbH a b (out.push y++(b.extract at_ (nb - 1)).reverse) na at_),na,at_,out.push y++(b.extract at_ (nb - 1)).reverse,mg,ac,nb - 1 - at_)
  if at_ == 0 then return .done (some (dnH a b (out.push y++(b.extract at_ (nb - 1)).reverse) na at_),na,at_,out.push y++(b.extract at_ (nb - 1)).reverse,mg,ac,nb - 1 - at_)
  Kr a b (out.push y++(b.extract at_ (nb - 1)).reverse) na at_ mg ac (nb - 1 - at_)
 else Kr a b (out.push y) na (nb - 1) mg ac (nb - 1 - at_)
noncomputable def N7 (a b out:Array Keyed) (na nb mg ac bc:Nat):StateT SortSt Sem (ForInStep T7):=do
 fM mg
 let some at_ ←jf false (←elem' b (nb - 1)) a 0 na (na - 1) | return .done (some (dnH a b out na nb),na,nb,out,mg,ac,bc)
 if na - at_ > 0 then
  if at_ == 0 then return .done (some (dnH a b (out++(a.extract at_ na).reverse) at_ nb),at_,nb,out++(a.extract at_ na).reverse,mg,na - at_,bc)
  Ks a b (out++(a.extract at_ na).reverse) at_ nb mg (na - at_) bc
 else Ks a b out na nb mg (na - at_) bc
noncomputable def Rr (a b:Array Keyed) (c:T7):StateT SortSt Sem (ForInStep T7) :=
 if c.2.2.2.2.1 > 1 then N7 a b c.2.2.2.1 c.2.1 c.2.2.1 (c.2.2.2.2.1 - 1) c.2.2.2.2.2.1 c.2.2.2.2.2.2 else N7 a b c.2.2.2.1 c.2.1 c.2.2.1 c.2.2.2.2.1 c.2.2.2.2.2.1 c.2.2.2.2.2.2
noncomputable def Rt (a b:Array Keyed) (mg:Nat) (c:T6):StateT SortSt Sem (ForInStep T6):=do
 let some aWins ←lt' (←elem' b (c.2.2.1 - 1)) (←elem' a (c.2.1 - 1)) | return .done (some (dnH a b c.2.2.2.1 c.2.1 c.2.2.1),c.2.1,c.2.2.1,c.2.2.2.1,c.2.2.2.2.1,c.2.2.2.2.2)
 if aWins then
  let x ←elem' a (c.2.1 - 1)
  if c.2.1 - 1 == 0 then return .done (some (dnH a b (c.2.2.2.1.push x) (c.2.1 - 1) c.2.2.1),c.2.1 - 1,c.2.2.1,c.2.2.2.1.push x,c.2.2.2.2.1+1,0)
  if c.2.2.2.2.1+1 ≥ mg then return .done (none,c.2.1 - 1,c.2.2.1,c.2.2.2.1.push x,c.2.2.2.2.1+1,0)
  return .yield (none,c.2.1 - 1,c.2.2.1,c.2.2.2.1.push x,c.2.2.2.2.1+1,0)
 else
  let y ←elem' b (c.2.2.1 - 1)
  if c.2.2.1 - 1 == 1 then return .done (some (fbH a b (c.2.2.2.1.push y) c.2.1 (c.2.2.1 - 1)),c.2.1,c.2.2.1 - 1,c.2.2.2.1.push y,0,c.2.2.2.2.2+1)
  if c.2.2.2.2.2+1 ≥ mg then return .done (none,c.2.1,c.2.2.1 - 1,c.2.2.2.1.push y,0,c.2.2.2.2.2+1)
  return .yield (none,c.2.1,c.2.2.1 - 1,c.2.2.2.1.push y,0,c.2.2.2.2.2+1)
noncomputable def Ru (a b:Array Keyed) (c:T5):StateT SortSt Sem (ForInStep T5):=do
 let d ←forIn [0:a.size+b.size] ((none,c.2.1,c.2.2.1,c.2.2.2.1,0,0):T6) fun _ d=>Rt a b c.2.2.2.2 d
 match d.1 with
 | some r=>pure (.done (some r,d.2.1,d.2.2.1,d.2.2.2.1,c.2.2.2.2))
 | none=>do
  rule "list.sort.gallop"
  let e ←forIn [0:a.size+b.size] ((none,d.2.1,d.2.2.1,d.2.2.2.1,c.2.2.2.2+1,d.2.2.2.2.1,d.2.2.2.2.2):T7) fun _ e=>Rr a b e
  match e.1 with
  | some r=>pure (.done (some r,e.2.1,e.2.2.1,e.2.2.2.1,e.2.2.2.2.1))
  | none=>do
   fM (e.2.2.2.2.1+1)
   pure (.yield (none,e.2.1,e.2.2.1,e.2.2.2.1,e.2.2.2.2.1+1))
noncomputable def BR (a b:Array Keyed):StateT SortSt Sem (Array Keyed):=do
 rule "list.sort.merge-hi"
 let x ←elem' a (a.size - 1)
 if a.size - 1 == 0 then return dnH a b #[x] (a.size - 1) b.size
 if b.size == 1 then return fbH a b #[x] (a.size - 1) b.size
 let s ←get
 let c ←forIn [0:a.size+b.size] ((none,a.size - 1,b.size,#[x],gallopOf s):T5) fun _ c=>Ru a b c
 match c.1 with
 | some r=>pure r
 | none=>unsupported "internal:list.sort.merge-bound"
theorem BV (a b:Array Keyed):vy a b=BR a b:=by
 kernel_rfl
section
variable {r:Keyed->Nat}{la lb out:List Keyed}{na nb:Nat}
structure Mh (r:Keyed->Nat) (la lb out:List Keyed) (na nb:Nat):Prop where
 so:Srt r out.reverse
 lt:∀ o∈out,∀ z∈la.take na++lb.take nb,r z < r o
 pm:out.Perm (la.drop na++lb.drop nb)
theorem lR (l:List Keyed) {i j:Nat} (h:i≤j):l.drop i=(l.take j).drop i++l.drop j:=by
 conv=>lhs;rw [←ZaB j l]
 by_cases q:j≤l.length
 ·rw [List.drop_append_of_le_length (by simp;lia)]
 ·rw [show l.drop j=[] from Za3 (by lia),Za4,Za4]
theorem Mh.as (h:Mh r la lb out na nb) (sa:Srt r la) {i:Nat} (hi:i≤na) (hk:∀ x∈(la.take na).drop i,∀ y∈lb.take nb,r y < r x):Mh r la lb (out++((la.take na).drop i).reverse) i nb:=by
 have st:Srt r (la.take na):=Zai (ZaJ _ _) sa
 have e:la.take i=(la.take na).take i:=by rw [Zbj,Za6 hi]
 have sp:Srt r ((la.take na).take i++(la.take na).drop i):=by rw [ZaB];exact st
 refine ⟨?_,fun o ho z hz=>?_,?_⟩
 ·rw [List.reverse_append,List.reverse_reverse]
  exact Zan.mpr ⟨Zai (ZaM _ _) st,h.so,fun x hx o ho=>h.lt o (ZbC.mp ho) x (Zad.mpr (.inl (ZaL hx)))⟩
 ·rw [e] at hz
  rcases Zad.mp ho with q | q
  ·refine h.lt o q z ?_
   rcases Zad.mp hz with w | w
   ·exact Zad.mpr (.inl (ZaH w))
   ·exact Zad.mpr (.inr w)
  ·have q:=ZbC.mp q
   rcases Zad.mp hz with w | w
   ·exact (Zan.mp sp).2.2 z w o q
   ·exact hk o q z w
 ·rw [lR la hi,Zar]
  refine (List.Perm.append h.pm (List.reverse_perm _)).trans ?_
  exact List.perm_append_comm
theorem Mh.bs (h:Mh r la lb out na nb) (sb:Srt r lb) {i:Nat} (hi:i≤nb) (hk:∀ y∈(lb.take nb).drop i,∀ x∈la.take na,r x < r y):Mh r la lb (out++((lb.take nb).drop i).reverse) na i:=by
 have st:Srt r (lb.take nb):=Zai (ZaJ _ _) sb
 have e:lb.take i=(lb.take nb).take i:=by rw [Zbj,Za6 hi]
 have sp:Srt r ((lb.take nb).take i++(lb.take nb).drop i):=by rw [ZaB];exact st
 refine ⟨?_,fun o ho z hz=>?_,?_⟩
 ·rw [List.reverse_append,List.reverse_reverse]
  exact Zan.mpr ⟨Zai (ZaM _ _) st,h.so,fun x hx o ho=>h.lt o (ZbC.mp ho) x (Zad.mpr (.inr (ZaL hx)))⟩
 ·rw [e] at hz
  rcases Zad.mp ho with q | q
  ·refine h.lt o q z ?_
   rcases Zad.mp hz with w | w
   ·exact Zad.mpr (.inl w)
   ·exact Zad.mpr (.inr (ZaH w))
  ·have q:=ZbC.mp q
   rcases Zad.mp hz with w | w
   ·exact hk o q z w
   ·exact (Zan.mp sp).2.2 z w o q
 ·rw [lR lb hi]
  refine (List.Perm.append h.pm (List.reverse_perm _)).trans ?_
  rw [Zar]
  refine ZaS _ ?_
  exact List.perm_append_comm
theorem Ku (la lb:List Keyed) (na nb:Nat):(la.take na++lb.take nb++(la.drop na++lb.drop nb)).Perm (la++lb):=by
 conv=>rhs;rw [←ZaB na la,←ZaB nb lb]
 simp only [Zar]
 refine ZaS _ ?_
 rw [←Zar,←Zar]
 exact ZbF _ List.perm_append_comm
theorem Mh.end (h:Mh r la lb out na nb) (sa:Srt r la) (sb:Srt r lb) (hk:∀ x∈la.take na,∀ y∈lb.take nb,r x < r y):Srt r (la.take na++lb.take nb++out.reverse)∧(la.take na++lb.take nb++out.reverse).Perm (la++lb):=by
 refine ⟨Zan.mpr ⟨Zan.mpr ⟨Zai (ZaJ _ _) sa,Zai (ZaJ _ _) sb,hk⟩,h.so,fun z hz o ho=>h.lt o (ZbC.mp ho) z hz⟩,?_⟩
 exact (ZaS _ ((List.reverse_perm _).trans h.pm)).trans (Ku la lb na nb)
theorem Mh.Rm (h:Mh r la lb out na nb) (sa:Srt r la) (sb:Srt r lb) (hk:∀ x∈la.take na,∀ y∈lb.take nb,r y < r x):Srt r (lb.take nb++la.take na++out.reverse)∧(lb.take nb++la.take na++out.reverse).Perm (la++lb):=by
 refine ⟨Zan.mpr ⟨Zan.mpr ⟨Zai (ZaJ _ _) sb,Zai (ZaJ _ _) sa,fun y hy x hx=>hk x hx y hy⟩,h.so,fun z hz o ho=>h.lt o (ZbC.mp ho) z (by
  rcases Zad.mp hz with q | q
  ·exact Zad.mpr (.inr q)
  ·exact Zad.mpr (.inl q))⟩,?_⟩
 refine (List.Perm.append List.perm_append_comm ((List.reverse_perm _).trans h.pm)).trans (Ku la lb na nb)
end
section
variable {prog:Program}{w:World}{A:Around}{E:Value->Shared->Prop}{s:Shared}{κ:SortKind}{D:Keyed->Prop}{r:Keyed->Nat}{st:SortSt}{a b:Array Keyed}
structure zc (D:Keyed->Prop) (r:Keyed->Nat) (a b:Array Keyed):Prop where
 da:∀ x∈a.toList,D x
 db:∀ x∈b.toList,D x
 sa:Srt r a.toList
 sb:Srt r b.toList
 ne:∀ x∈a.toList,∀ y∈b.toList,r x≠r y
 fb:∀ y,b.toList[0]?=some y->∀ x∈a.toList,r y < r x
theorem qW (a:Array Keyed) (j:Nat) (h:j≤a.size):(a.extract 0 j).toList=a.toList.take j:=by
 rw [ext_toList a 0 j (ZaZ _) h,Za5,Nat.sub_zero]
theorem Gb (a:Array Keyed) (i j:Nat) (h:i≤j) (hj:j≤a.size):(a.extract i j).reverse.toList=((a.toList.take j).drop i).reverse:=by
 rw [Array.toList_reverse,ext_toList a i j h hj,List.drop_take]
theorem BW {out:Array Keyed}{na nb:Nat} (o:zc D r a b) (m:Mh r a.toList b.toList out.toList na nb) (ha:na≤a.size) (hb:nb≤b.size) (h:na=0∨nb=0):Good r a b (dnH a b out na nb):=by
 have e:=m.end o.sa o.sb (fun x hx y hy=>by
  rcases h with q | q
  ·rw [q] at hx;cases hx
  ·rw [q] at hy;cases hy)
 unfold Good dnH
 rw [ZaK,ZaK,qW a na ha,qW b nb hb,Array.toList_reverse]
 exact e
theorem Gd {out:Array Keyed}{na nb:Nat} (o:zc D r a b) (m:Mh r a.toList b.toList out.toList na nb) (ha:na≤a.size) (hb:nb≤b.size) (h:nb=1):Good r a b (fbH a b out na nb):=by
 have e:=m.Rm o.sa o.sb (fun x hx y hy=>by
  rw [h] at hy
  obtain ⟨y0,e0⟩:∃ y0,b.toList[0]?=some y0:=⟨_,List.getElem?_eq_getElem (by simp;lia)⟩
  have:b.toList.take 1=[y0]:=by
   have:=(take1 e0).1
   rwa [Za5] at this
  rw [this,ZaE] at hy
  rw [hy]
  exact o.fb y0 e0 x (ZaH hx))
 unfold Good fbH
 rw [ZaK,ZaK,qW a na ha,qW b nb hb,Array.toList_reverse]
 exact e
structure Ih (r:Keyed->Nat) (a b out:Array Keyed) (na nb:Nat):Prop where
 mh:Mh r a.toList b.toList out.toList na nb
 a0:1≤na
 a1:na≤a.size
 b0:2≤nb
 b1:nb≤b.size
noncomputable def H7 (r:Keyed->Nat) (a b:Array Keyed) (n:Nat):ForInStep T7->Prop
 | .done (some o,_)=>Good r a b o
 | .done (none,na,nb,out,_)=>Ih r a b out na nb∧na+nb≤n
 | .yield (none,na,nb,out,_)=>Ih r a b out na nb∧na+nb≤n
 | .yield (some _,_)=>False
theorem H7.mono {n m:Nat} (h:n≤m):∀ {c:ForInStep T7},H7 r a b n c->H7 r a b m c
 | .done (some _,_),p=>p
 | .done (none,_,_,_,_),p=>⟨p.1,Zaz p.2 h⟩
 | .yield (none,_,_,_,_),p=>⟨p.1,Zaz p.2 h⟩
 | .yield (some _,_),p=>p
theorem Ge {l:List Keyed}{n:Nat}{x:Keyed} (h0:1≤n) (h:l[n - 1]?=some x):(l.take n).drop (n - 1)=[x]:=by
 have hi:=(Zab.mp h).1
 have e:l.take n=l.take (n - 1)++[x]:=by
  conv=>lhs;rw [show n=n - 1+1 by lia]
  rw [List.take_succ,h];rfl
 rw [e,List.drop_left' (by simp;lia)]
theorem nA {l:List Keyed}{n:Nat}{x:Keyed} (sl:Srt r l) (h0:1≤n) (h:l[n - 1]?=some x):∀ z∈l.take n,r z≤r x:=fun z hz=>by
 have e:l.take n=l.take (n - 1)++[x]:=by
  conv=>lhs;rw [show n=n - 1+1 by omega]
  rw [List.take_succ,h];rfl
 have:=Zai (ZaJ n l) sl
 rw [e] at hz this
 rcases Zad.mp hz with q | q
 ·exact ZaG ((Zan.mp this).2.2 z q x (by simp))
 ·rw [ZaE.mp q];exact Zah _
theorem Mh.a1 {out:Array Keyed}{na nb:Nat}{x:Keyed} (m:Mh r a.toList b.toList out.toList na nb) (sa:Srt r a.toList) (h0:1≤na) (ex:a.toList[na - 1]?=some x) (hx:∀ y∈b.toList.take nb,r y < r x):Mh r a.toList b.toList (out.push x).toList (na - 1) nb:=by
 have:=m.as sa (i:=na - 1) (by omega) (by rw [Ge h0 ex];intro z hz;rw [ZaE.mp hz];exact hx)
 rw [Ge h0 ex] at this
 rw [Zbl];exact this
theorem Mh.b1 {out:Array Keyed}{na nb:Nat}{y:Keyed} (m:Mh r a.toList b.toList out.toList na nb) (sb:Srt r b.toList) (h0:1≤nb) (ey:b.toList[nb - 1]?=some y) (hy:∀ x∈a.toList.take na,r x < r y):Mh r a.toList b.toList (out.push y).toList na (nb - 1):=by
 have:=m.bs sb (i:=nb - 1) (by omega) (by rw [Ge h0 ey];intro z hz;rw [ZaE.mp hz];exact hy)
 rw [Ge h0 ey] at this
 rw [Zbl];exact this
theorem N8 {M:Model}{out:Array Keyed}{na nb mg ac bc:Nat} (o:zc D r a b) (i:Ih r a b out na nb) (hx:∀ x,a.toList[na - 1]?=some x->∀ y∈b.toList.take nb,r y < r x) :
  wpS M A E s (Kr a b out na nb mg ac bc) (fun c st'=>st'=st∧H7 r a b (na+nb - 1) c) st:=by
 obtain ⟨mh,a0,a1,b0,b1⟩:=i
 obtain ⟨x,ex,ex'⟩:=getL (l:=a) (i:=na - 1) (by lia)
 have m:=mh.a1 o.sa a0 ex (hx x ex)
 unfold Kr
 refine wpS_bind (bK ex' ?_)
 by_cases q:na - 1=0
 ·rw [if_pos (by simpa using q)]
  exact wpS_pure ⟨rfl,BW o m (by lia) b1 (.inl q)⟩
 ·rw [if_neg (by simpa using q)]
  have I:Ih r a b (out.push x) (na - 1) nb:=⟨m,by lia,by lia,b0,b1⟩
  split
  ·exact wpS_pure ⟨rfl,I,by lia⟩
  ·exact wpS_pure ⟨rfl,I,by lia⟩
theorem Oa {out:Array Keyed}{na nb mg ac bc:Nat} (hc:Cmp prog w A s κ D r) (hk:kindOf st=κ) (o:zc D r a b) (i:Ih r a b out na nb) (hy:∀ y,b.toList[nb - 1]?=some y->∀ x∈a.toList.take na,r x < r y) :
  wpS (model prog w) A E s (Ks a b out na nb mg ac bc) (fun c st'=>st'=st∧H7 r a b (na+nb - 1) c) st:=by
 obtain ⟨mh,a0,a1,b0,b1⟩:=i
 obtain ⟨y,ey,ey'⟩:=getL (l:=b) (i:=nb - 1) (by omega)
 have m:=mh.b1 o.sb (by omega) ey (hy y ey)
 unfold Ks
 refine wpS_bind (bK ey' ?_)
 by_cases q:nb - 1=1
 ·rw [if_pos (by simpa using q)]
  exact wpS_pure ⟨rfl,Gd o m a1 (by omega) q⟩
 ·rw [if_neg (by simpa using q)]
  obtain ⟨x,ex,ex'⟩:=getL (l:=a) (i:=na - 1) (by omega)
  refine wpS_bind (bK ex' ?_)
  refine wpS_bind (gY (L:=b.toList.take (nb - 1)) hc hk (by omega) (by omega) (by rw [Za5]) (o.da x (mO ex)) (fun z hz=>⟨o.db z (ZaH hz),fun e=>o.ne x (mO ex) z (ZaH hz) e.symm⟩) (Zai (ZaJ _ _) o.sb) fun k hk' g1 g2=>?_)
  dsimp only
  rw [Zbj,Za6 hk'] at g1
  have fin:∀ {o2:Array Keyed}{j:Nat},Mh r a.toList b.toList o2.toList na j->j=k->2≤j->∀ bc,wpS (model prog w) A E s (Kr a b o2 na j mg ac bc) (fun c st'=>st'=st∧H7 r a b (na+nb - 1) c) st:=fun {o2 j} m2 e ne bc=>by
   refine wpS_mono (N8 o ⟨m2,a0,a1,ne,by omega⟩ fun x' ex2 z hz=>?_) fun c st' p=>⟨p.1,H7.mono (by omega) p.2⟩
   rw [ex] at ex2;cases ex2
   rw [e] at hz
   exact g1 z hz
  by_cases q2:nb - 1 - k > 0
  ·rw [if_pos q2]
   have m2:Mh r a.toList b.toList (out.push y++(b.extract k (nb - 1)).reverse).toList na k:=by
    have:=m.bs o.sb (i:=k) (by omega) fun z hz x' hx'=>Nat.lt_of_le_of_lt (nA o.sa a0 ex x' hx') (g2 z hz)
    rw [ZaK,Gb b k (nb - 1) (by omega) (by omega)]
    exact this
   by_cases q3:k=1
   ·rw [if_pos (by simpa using q3)]
    exact wpS_pure ⟨rfl,Gd o m2 a1 (by omega) q3⟩
   ·rw [if_neg (by simpa using q3)]
    by_cases q4:k=0
    ·rw [if_pos (by simpa using q4)]
     exact wpS_pure ⟨rfl,BW o m2 a1 (by omega) (.inr q4)⟩
    ·rw [if_neg (by simpa using q4)]
     exact fin m2 rfl (by omega) _
  ·rw [if_neg q2]
   exact fin m (by omega) (by omega) _
theorem Gf {out:Array Keyed}{na nb mg ac bc:Nat} (hc:Cmp prog w A s κ D r) (hk:kindOf st=κ) (o:zc D r a b) (i:Ih r a b out na nb) :
  wpS (model prog w) A E s (N7 a b out na nb mg ac bc) (fun c st'=>st'=b7 st mg∧H7 r a b (na+nb - 1) c) st:=by
 obtain ⟨mh,a0,a1,b0,b1⟩:=i
 obtain ⟨y,ey,ey'⟩:=getL (l:=b) (i:=nb - 1) (by lia)
 unfold N7
 rw [fC]
 refine wpS_bind (wpS_modify ?_)
 refine wpS_bind (bK ey' ?_)
 refine wpS_bind (gY (L:=a.toList.take na) hc (show kindOf (b7 st mg)=κ from hk) (by lia) (by lia) (by rw [Za5]) (o.db y (mO ey)) (fun z hz=>⟨o.da z (ZaH hz),fun e=>o.ne z (ZaH hz) y (mO ey) e⟩) (Zai (ZaJ _ _) o.sa) fun k hk' g1 g2=>?_)
 dsimp only
 rw [Zbj,Za6 hk'] at g1
 have fin:∀ {o2:Array Keyed}{j:Nat},Mh r a.toList b.toList o2.toList j nb->j=k->1≤j->∀ ac,wpS (model prog w) A E s (Ks a b o2 j nb mg ac bc) (fun c st'=>st'=b7 st mg∧H7 r a b (na+nb - 1) c) (b7 st mg):=fun {o2 j} m2 e ne ac=>by
  refine wpS_mono (Oa hc (show kindOf (b7 st mg)=κ from hk) o ⟨m2,ne,by lia,b0,b1⟩ fun y' ey2 z hz=>?_) fun c st' p=>⟨p.1,H7.mono (by lia) p.2⟩
  rw [ey] at ey2;cases ey2
  rw [e] at hz
  exact g1 z hz
 by_cases q2:na - k > 0
 ·rw [if_pos q2]
  have m2:Mh r a.toList b.toList (out++(a.extract k na).reverse).toList k nb:=by
   have:=mh.as o.sa (i:=k) (by lia) fun x hx z hz=>Nat.lt_of_le_of_lt (nA o.sb (by lia) ey z hz) (g2 x hx)
   rw [ZaK,Gb a k na (by lia) a1]
   exact this
  by_cases q3:k=0
  ·rw [if_pos (by simpa using q3)]
   exact wpS_pure ⟨rfl,BW o m2 (by lia) b1 (.inl q3)⟩
  ·rw [if_neg (by simpa using q3)]
   exact fin m2 rfl (by lia) _
 ·rw [if_neg q2]
  exact fin mh (by lia) a0 _
theorem Ob {c:T7} (hc:Cmp prog w A s κ D r) (hk:kindOf st=κ) (o:zc D r a b) (i:Ih r a b c.2.2.2.1 c.2.1 c.2.2.1) :
  wpS (model prog w) A E s (Rr a b c) (fun c' st'=>(∃ g,st'=b7 st g)∧H7 r a b (c.2.1+c.2.2.1 - 1) c') st:=by
 unfold Rr
 split
 ·exact wpS_mono (Gf hc hk o i) fun c' st' p=>⟨⟨_,p.1⟩,p.2⟩
 ·exact wpS_mono (Gf hc hk o i) fun c' st' p=>⟨⟨_,p.1⟩,p.2⟩
noncomputable def H6 (r:Keyed->Nat) (a b:Array Keyed) (n:Nat):ForInStep T6->Prop
 | .done (some o,_)=>Good r a b o
 | .done (none,na,nb,out,_)=>Ih r a b out na nb∧na+nb≤n
 | .yield (none,na,nb,out,_)=>Ih r a b out na nb∧na+nb≤n
 | .yield (some _,_)=>False
theorem Oc {c:T6}{mg:Nat} (hc:Cmp prog w A s κ D r) (hk:kindOf st=κ) (o:zc D r a b) (i:Ih r a b c.2.2.2.1 c.2.1 c.2.2.1) :
  wpS (model prog w) A E s (Rt a b mg c) (fun c' st'=>st'=st∧H6 r a b (c.2.1+c.2.2.1 - 1) c') st:=by
 obtain ⟨c0,na,nb,out,ac,bc⟩:=c
 obtain ⟨mh,a0,a1,b0,b1⟩:=i
 have a0:1≤na:=a0
 have b0:2≤nb:=b0
 have a1:na≤a.size:=a1
 have b1:nb≤b.size:=b1
 obtain ⟨y,ey,ey'⟩:=getL (l:=b) (i:=nb - 1) (by lia)
 obtain ⟨x,ex,ex'⟩:=getL (l:=a) (i:=na - 1) (by lia)
 unfold Rt
 dsimp only
 refine wpS_bind (bK ey' (wpS_bind (bK ex' (wpS_bind (vz hc hk (o.db y (mO ey)) (o.da x (mO ex)) ?_)))))
 dsimp only
 have nxy:=o.ne x (mO ex) y (mO ey)
 by_cases q:r y < r x
 ·rw [decide_eq_true q,if_pos rfl]
  have m:=mh.a1 o.sa a0 ex fun z hz=>Nat.lt_of_le_of_lt (nA o.sb (by lia) ey z hz) q
  refine wpS_bind (bK ex' ?_)
  by_cases q2:na - 1=0
  ·rw [if_pos (by simpa using q2)]
   exact wpS_pure ⟨rfl,BW o m (by lia) b1 (.inl q2)⟩
  ·rw [if_neg (by simpa using q2)]
   have I:Ih r a b (out.push x) (na - 1) nb:=⟨m,by lia,by lia,b0,b1⟩
   split
   ·exact wpS_pure ⟨rfl,I,by show na - 1+nb≤na+nb - 1;lia⟩
   ·exact wpS_pure ⟨rfl,I,by show na - 1+nb≤na+nb - 1;lia⟩
 ·rw [decide_eq_false q,if_neg (by decide)]
  have m:=mh.b1 o.sb (by lia) ey fun z hz=>Nat.lt_of_le_of_lt (nA o.sa a0 ex z hz) (by lia)
  refine wpS_bind (bK ey' ?_)
  by_cases q2:nb - 1=1
  ·rw [if_pos (by simpa using q2)]
   exact wpS_pure ⟨rfl,Gd o m a1 (by lia) q2⟩
  ·rw [if_neg (by simpa using q2)]
   have I:Ih r a b (out.push y) na (nb - 1):=⟨m,a0,a1,by lia,by lia⟩
   split
   ·exact wpS_pure ⟨rfl,I,by show na+(nb - 1)≤na+nb - 1;lia⟩
   ·exact wpS_pure ⟨rfl,I,by show na+(nb - 1)≤na+nb - 1;lia⟩
noncomputable def H5 (r:Keyed->Nat) (a b:Array Keyed) (n:Nat):ForInStep T5->Prop
 | .done (some o,_)=>Good r a b o
 | .done (none,_)=>False
 | .yield (none,na,nb,out,_)=>Ih r a b out na nb∧na+nb≤n
 | .yield (some _,_)=>False
theorem Od {c:T5} (hc:Cmp prog w A s κ D r) (hk:kindOf st=κ) (o:zc D r a b) (i:Ih r a b c.2.2.2.1 c.2.1 c.2.2.1) :
  wpS (model prog w) A E s (Ru a b c) (fun c' st'=>(∃ g,st'=b7 st g)∧H5 r a b (c.2.1+c.2.2.1 - 1) c') st:=by
 obtain ⟨c0,na,nb,out,mg⟩:=c
 have a0:1≤na:=i.a0
 have a1:na≤a.size:=i.a1
 unfold Ru
 dsimp only
 refine wpS_bind (wpS_mono (wpS_forRange (I:=fun k d st'=>st'=st∧∃ o2 i2 j2 ac bc,d=((none,i2,j2,o2,ac,bc):T6)∧Ih r a b o2 i2 j2∧i2+j2+k≤na+nb)
  (Q:=fun d st'=>st'=st∧((∃ o2 x,d=((some o2,x):T6)∧Good r a b o2)∨∃ o2 i2 j2 ac bc,d=((none,i2,j2,o2,ac,bc):T6)∧Ih r a b o2 i2 j2∧i2+j2≤na+nb - 1)) ?_ ?_ ⟨rfl,out,na,nb,0,0,rfl,i,Zah _⟩) ?_)
 ·rintro k d st' _ hk' ⟨rfl,o2,i2,j2,ac,bc,rfl,I,hn⟩
  have:=I.a0
  refine wpS_mono (Oc (c:=(none,i2,j2,o2,ac,bc)) hc hk o I) fun e st' p=>?_
  obtain ⟨rfl,p⟩:=p
  match e,p with
  | .done (some o3,x),p=>exact ⟨rfl,.inl ⟨o3,x,rfl,p⟩⟩
  | .done (none,i3,j3,o3,a3,b3),p=>exact ⟨rfl,.inr ⟨o3,i3,j3,a3,b3,rfl,p.1,by have:i3+j3≤i2+j2 - 1:=p.2;lia⟩⟩
  | .yield (none,i3,j3,o3,a3,b3),p=>exact ⟨rfl,o3,i3,j3,a3,b3,rfl,p.1,by have:i3+j3≤i2+j2 - 1:=p.2;lia⟩
  | .yield (some _,_),p=>exact p.elim
 ·rintro d st' ⟨rfl,o2,i2,j2,ac,bc,rfl,I,hn⟩
  exact ⟨rfl,.inr ⟨o2,i2,j2,ac,bc,rfl,I,by lia⟩⟩
 ·rintro d st' ⟨rfl,⟨o2,x,rfl,G⟩ | ⟨o2,i2,j2,ac,bc,rfl,I,hn⟩⟩
  ·exact wpS_pure ⟨⟨gallopOf st',rfl⟩,G⟩
  ·dsimp only
   refine wpS_bind (kJ ?_)
   refine wpS_bind (wpS_mono (wpS_forRange (I:=fun k e st2=>(∃ g,st2=b7 st' g)∧∃ o2 i2 j2 mg ac bc,e=((none,i2,j2,o2,mg,ac,bc):T7)∧Ih r a b o2 i2 j2∧i2+j2≤na+nb - 1)
    (Q:=fun e st2=>(∃ g,st2=b7 st' g)∧((∃ o2 x,e=((some o2,x):T7)∧Good r a b o2)∨∃ o2 i2 j2 mg ac bc,e=((none,i2,j2,o2,mg,ac,bc):T7)∧Ih r a b o2 i2 j2∧i2+j2≤na+nb - 1)) ?_ ?_ ⟨⟨gallopOf st',rfl⟩,o2,i2,j2,_,ac,bc,rfl,I,hn⟩) ?_)
   ·rintro k e st2 _ _ ⟨⟨g,rfl⟩,o3,i3,j3,m3,a3,b3,rfl,I3,hn3⟩
    refine wpS_mono (Ob (c:=(none,i3,j3,o3,m3,a3,b3)) hc (show kindOf (b7 st' g)=κ from hk) o I3) fun e st3 p=>?_
    obtain ⟨⟨g2,rfl⟩,p⟩:=p
    match e,p with
    | .done (some o4,x),p=>exact ⟨⟨g2,rfl⟩,.inl ⟨o4,x,rfl,p⟩⟩
    | .done (none,i4,j4,o4,m4,a4,b4),p=>exact ⟨⟨g2,rfl⟩,.inr ⟨o4,i4,j4,m4,a4,b4,rfl,p.1,by have:i4+j4≤i3+j3 - 1:=p.2;lia⟩⟩
    | .yield (none,i4,j4,o4,m4,a4,b4),p=>exact ⟨⟨g2,rfl⟩,o4,i4,j4,m4,a4,b4,rfl,p.1,by have:i4+j4≤i3+j3 - 1:=p.2;lia⟩
    | .yield (some _,_),p=>exact p.elim
   ·rintro e st2 ⟨G,o3,i3,j3,m3,a3,b3,rfl,I3,hn3⟩
    exact ⟨G,.inr ⟨o3,i3,j3,m3,a3,b3,rfl,I3,hn3⟩⟩
   ·rintro e st2 ⟨⟨g,rfl⟩,⟨o3,x,rfl,G⟩ | ⟨o3,i3,j3,m3,a3,b3,rfl,I3,hn3⟩⟩
    ·exact wpS_pure ⟨⟨g,rfl⟩,G⟩
    ·dsimp only
     rw [fC]
     refine wpS_bind (wpS_modify ?_)
     exact wpS_pure ⟨⟨_,rfl⟩,I3,hn3⟩
theorem BX (hc:Cmp prog w A s κ D r) (hk:kindOf st=κ) (a1:1≤a.size) (b1:1≤b.size) (o:zc D r a b) (hf:∀ x,a.toList[a.size - 1]?=some x->∀ y∈b.toList,r y < r x) {Q:Array Keyed->SortSt->Prop}
  (h:∀ out g,Good r a b out->Q out (b7 st g)):wpS (model prog w) A E s (vy a b) Q st:=by
 rw [BV]
 unfold BR
 refine wpS_bind (kJ ?_)
 obtain ⟨x,ex,ex'⟩:=getL (l:=a) (i:=a.size - 1) (by lia)
 refine wpS_bind (bK ex' ?_)
 have m:Mh r a.toList b.toList (#[x]:Array Keyed).toList (a.size - 1) b.size:=by
  have m0:Mh r a.toList b.toList (#[]:Array Keyed).toList a.size b.size:=⟨.nil,fun _ h=>(nomatch h),by simp⟩
  exact m0.a1 o.sa a1 ex fun y hy=>hf x ex y (ZaH hy)
 by_cases q:a.size - 1=0
 ·rw [if_pos (by simpa using q)]
  exact wpS_pure (h _ (gallopOf st) (BW o m (by lia) (Zah _) (.inl q)))
 ·rw [if_neg (by simpa using q)]
  by_cases q2:b.size=1
  ·rw [if_pos (by simpa using q2)]
   exact wpS_pure (h _ (gallopOf st) (Gd o m (by lia) (Zah _) q2))
  ·rw [if_neg (by simpa using q2)]
   refine wpS_bind (wpS_get ?_)
   refine wpS_bind (wpS_mono (wpS_forRange (I:=fun k c st'=>(∃ g,st'=b7 st g)∧∃ out na nb mg,c=((none,na,nb,out,mg):T5)∧Ih r a b out na nb∧na+nb+k+1≤a.size+b.size)
    (Q:=fun c st'=>(∃ g,st'=b7 st g)∧∃ out x,c=((some out,x):T5)∧Good r a b out) ?_ ?_ ⟨⟨gallopOf st,rfl⟩,_,a.size - 1,b.size,_,rfl,⟨m,by lia,by lia,by lia,Zah _⟩,by lia⟩) ?_)
   ·rintro k c st' _ hk' ⟨⟨g,rfl⟩,out,na,nb,mg,rfl,I,hn⟩
    have:=I.a0
    refine wpS_mono (Od (c:=(none,na,nb,out,mg)) hc (show kindOf (b7 st g)=κ from hk) o I) fun e st3 p=>?_
    obtain ⟨⟨g2,rfl⟩,p⟩:=p
    match e,p with
    | .done (some o4,x),p=>exact ⟨⟨g2,rfl⟩,o4,x,rfl,p⟩
    | .done (none,_),p=>exact p.elim
    | .yield (none,i4,j4,o4,m4),p=>exact ⟨⟨g2,rfl⟩,o4,i4,j4,m4,rfl,p.1,by have:i4+j4≤na+nb - 1:=p.2;lia⟩
    | .yield (some _,_),p=>exact p.elim
   ·rintro c st' ⟨_,out,na,nb,mg,rfl,I,hn⟩
    have:=I.a0
    lia
   ·rintro c st' ⟨⟨g,rfl⟩,out,x,rfl,G⟩
    exact wpS_pure (h out g G)
end
theorem xO (i:Nat):∀ (M:List Keyed) (a:Array Keyed) (n:Nat),i+n+M.length≤a.size->((M.zipIdx n).foldl (fun a (p:Keyed×Nat)=>a.setIfInBounds (i+p.2) p.1) a).toList=a.toList.take (i+n)++M++a.toList.drop (i+n+M.length)
 | [],a,n,_=>by simp
 | x::M,a,n,h=>by
  rw [ZaC] at h ⊢
  rw [List.zipIdx_cons,List.foldl_cons,xO i M _ (n+1) (by rw [Array.size_setIfInBounds];lia),Array.toList_setIfInBounds]
  have e1:(a.toList.set (i+n) x).take (i+(n+1))=a.toList.take (i+n)++[x]:=by
   rw [show i+(n+1)=i+n+1 by lia,List.take_succ,List.take_set_of_le (Zah _),ZaN (by simp;lia)]
   rfl
  have e2:(a.toList.set (i+n) x).drop (i+(n+1)+M.length)=a.toList.drop (i+n+(M.length+1)):=by
   rw [List.drop_set_of_lt (by lia),show i+(n+1)+M.length=i+n+(M.length+1) by lia]
  rw [e1,e2]
  simp
theorem Kv (M:List Keyed) (a:Array Keyed) (i:Nat) (h:i+M.length≤a.size):(M.zipIdx.foldl (fun a (p:Keyed×Nat)=>a.setIfInBounds (i+p.2) p.1) a).toList=a.toList.take i++M++a.toList.drop (i+M.length):=xO i M a 0 h
section
variable {prog:Program}{w:World}{A:Around}{E:Value->Shared->Prop}{s:Shared}{κ:SortKind}{D:Keyed->Prop}{r:Keyed->Nat}{st:SortSt}
theorem Oe {M:Model}{st2:SortSt}{Q:PUnit->SortSt->Prop} (h:Q ⟨⟩ st2):wpS M A E s (set st2:StateT SortSt Sem PUnit) Q st:=by
 unfold wpS;rw [StateT.run_set];exact wpAny_pure ⟨rfl,h⟩
noncomputable def bL (l:List Keyed) (i j:Nat):List Keyed:=(l.take j).drop i
theorem ut (l:List Keyed) (i j:Nat):(l.drop i).take (j - i)=bL l i j:=by unfold bL;rw [List.drop_take]
theorem Rv (l:List Keyed) {i j:Nat} (h:i≤j):l=l.take i++bL l i j++l.drop j:=by
 unfold bL
 conv=>lhs;rw [←ZaB j l,←ZaB i (l.take j)]
 rw [Zbj,Za6 h]
theorem iI (l:List Keyed) {i j k:Nat} (h:i≤j) (h2:j≤k):bL l i k=bL l i j++bL l j k:=by
 unfold bL
 rw [lR (l.take k) h,Zbj,Za6 h2]
theorem vA (l:List Keyed) (i j n:Nat):(bL l i j).take n=bL l i (min (i+n) j):=by
 unfold bL
 rw [List.take_drop,Zbj]
theorem vB (l:List Keyed) (i j n:Nat):(bL l i j).drop n=bL l (i+n) j:=by
 unfold bL
 rw [List.drop_drop]
theorem jL (l:List Keyed) {i j:Nat} (h:j≤l.length):(bL l i j).length=j - i:=by
 unfold bL
 rw [List.length_drop,List.length_take,Za6 h]
theorem sE (l:List Keyed) {i j n:Nat} (h:i+n < j):(bL l i j)[n]?=l[i+n]?:=by
 unfold bL
 rw [List.getElem?_drop,List.getElem?_take,if_pos h]
theorem uv {l:List Keyed}{i j:Nat}{x:Keyed} (h:x∈bL l i j):x∈l:=ZaH (ZaL h)
noncomputable def Unl (r:Keyed->Nat) (l:List Keyed):Prop:=l.Pairwise fun x y=>r x≠r y
theorem Unl.parts {l:List Keyed} (u:Unl r l) {i j k:Nat} (h:i≤j) (h2:j≤k):∀ x∈bL l i j,∀ y∈bL l j k,r x≠r y:=fun x hx y hy=>by
 have:Unl r (bL l i k):=Zai ((ZaM _ _).trans (ZaJ _ _)) u
 rw [iI l h h2] at this
 exact (Zan.mp this).2.2 x hx y hy
theorem BZ {i sa na sb nb p1 p2:Nat} (hc:Cmp prog w A s κ D r) (hk:kindOf st=κ) (hf:failedOf st=none) (e1:(pendingOf st)[i]?=some (sa,na,p1)) (e2:(pendingOf st)[i+1]?=some (sb,nb,p2)) (hs:sb=sa+na) (n1:1≤na) (n2:1≤nb) (hz:sb+nb≤(arrOf st).size)
  (dm:∀ x∈(arrOf st).toList,D x) (un:Unl r (arrOf st).toList) (s1:Srt r (bL (arrOf st).toList sa sb)) (s2:Srt r (bL (arrOf st).toList sb (sb+nb))) {Q:Bool->SortSt->Prop}
  (h:∀ (M:List Keyed) arr' g,arr'.toList=(arrOf st).toList.take sa++M++(arrOf st).toList.drop (sb+nb)->M.Perm (bL (arrOf st).toList sa (sb+nb))->Srt r M->Q true (SortSt.mk' κ arr' (((pendingOf st).setIfInBounds i (sa,na+nb,p1)).eraseIdxIfInBounds (i+1)) g none)) :
  wpS (model prog w) A E s (mergeAt' i) Q st:=by
 obtain ⟨kd,arr,pd,gl,fl⟩:=st
 have hk:kd=κ:=hk
 have hf:fl=none:=hf
 subst hk hf
 have ll:arr.toList.length=arr.size:=by simp
 have hz:sb+nb≤arr.size:=hz
 have dm:∀ x∈arr.toList,D x:=dm
 have un:Unl r arr.toList:=un
 have s1:Srt r (bL arr.toList sa sb):=s1
 have s2:Srt r (bL arr.toList sb (sb+nb)):=s2
 rw [BJ]
 refine wpS_bind (wpS_get ?_)
 dsimp only
 rw [e1,e2]
 dsimp only
 refine wpS_bind (Oe ?_)
 obtain ⟨y0,ey,ey'⟩:=getL (l:=arr) (i:=sb) (by omega)
 refine wpS_bind (bK ey' ?_)
 have ne12:=un.parts (i:=sa) (j:=sb) (k:=sb+nb) (by omega) (by omega)
 have my0:y0∈bL arr.toList sb (sb+nb):=Zaf (i:=0) (by rw [sE _ (by omega)];exact ey)
 have y0le:∀ z∈bL arr.toList sb (sb+nb),r y0≤r z:=fun z hz'=>nu (i:=0) s2 (by rw [sE _ (by omega)];exact ey) z (by rw [Za5];exact hz')
 refine wpS_bind (gY (L:=bL arr.toList sa sb) hc rfl (by omega) (by omega) (by rw [←ut,show sb - sa=na by omega]) (dm y0 (mO ey)) (fun z hz'=>⟨dm z (uv hz'),ne12 z hz' y0 my0⟩) s1 fun k hk' g1 g2=>?_)
 dsimp only
 have whole:∀ g,(∀ x∈bL arr.toList sa sb,∀ y∈bL arr.toList sb (sb+nb),r x < r y)->Q true (SortSt.mk' kd arr ((pd.setIfInBounds i (sa,na+nb,p1)).eraseIdxIfInBounds (i+1)) g none):=fun g hlt=>by
  refine h (bL arr.toList sa (sb+nb)) arr g (Rv _ (by omega)) (List.Perm.refl _) ?_
  rw [iI _ (show sa≤sb by omega) (show sb≤sb+nb by omega)]
  exact Zan.mpr ⟨s1,s2,hlt⟩
 by_cases q1:na - k=0
 ·rw [if_pos (by simpa using q1)]
  refine wpS_pure (whole _ fun x hx y hy=>?_)
  have:(bL arr.toList sa sb).take k=bL arr.toList sa sb:=ZaO (by rw [jL _ (by omega)];omega)
  rw [this] at g1
  exact Zap (g1 x hx) (y0le y hy)
 ·rw [if_neg (by simpa using q1)]
  have es:sa+k+(na - k) - 1=sb - 1:=by omega
  rw [es]
  obtain ⟨x1,ex,ex'⟩:=getL (l:=arr) (i:=sb - 1) (by omega)
  refine wpS_bind (bK ex' ?_)
  have exA:(bL arr.toList sa sb)[na - 1]?=some x1:=by rw [sE _ (by omega),show sa+(na - 1)=sb - 1 by omega];exact ex
  have mx1:x1∈bL arr.toList sa sb:=Zaf exA
  have x1le:∀ z∈bL arr.toList sa sb,r z≤r x1:=fun z hz'=>nA (n:=na) s1 n1 exA z (by rw [ZaO (by rw [jL _ (by omega)];omega)];exact hz')
  refine wpS_bind (gY (L:=bL arr.toList sb (sb+nb)) hc rfl (by omega) (by omega) (by rw [←ut,ZbA]) (dm x1 (mO ex)) (fun z hz'=>⟨dm z (uv hz'),fun e=>ne12 x1 mx1 z hz' e.symm⟩) s2 fun m hm f1 f2=>?_)
  dsimp only
  by_cases q2:m=0
  ·rw [if_pos (by simpa using q2)]
   refine wpS_pure (whole _ fun x hx y hy=>?_)
   rw [q2,Za5] at f2
   exact Nat.lt_of_le_of_lt (x1le x hx) (f2 y hy)
  ·rw [if_neg (by simpa using q2)]
   rw [vB] at g2 f2
   rw [vA,Za6 (by omega)] at g1 f1
   have tx:(arr.extract (sa+k) sb).toList=bL arr.toList (sa+k) sb:=by rw [ext_toList arr _ _ (by omega) (by omega),ut]
   have ty:(arr.extract sb (sb+m)).toList=bL arr.toList sb (sb+m):=by rw [ext_toList arr _ _ (by omega) (by omega),ut]
   have zx:(arr.extract (sa+k) sb).size=na - k:=by rw [←ZaT,tx,jL _ (by omega)];omega
   have zy:(arr.extract sb (sb+m)).size=m:=by rw [←ZaT,ty,jL _ (by omega)];omega
   have sx:Srt r (bL arr.toList (sa+k) sb):=by
    rw [←vB];exact Zai (ZaM _ _) s1
   have sy:Srt r (bL arr.toList sb (sb+m)):=by
    have:bL arr.toList sb (sb+m)=(bL arr.toList sb (sb+nb)).take m:=by rw [vA,Za6 (by omega)]
    rw [this];exact Zai (ZaJ _ _) s2
   have inx:∀ z∈bL arr.toList (sa+k) sb,z∈bL arr.toList sa sb:=fun z hz'=>by rw [←vB] at hz';exact ZaL hz'
   have iny:∀ z∈bL arr.toList sb (sb+m),z∈bL arr.toList sb (sb+nb):=fun z hz'=>by
    have:bL arr.toList sb (sb+m)=(bL arr.toList sb (sb+nb)).take m:=by rw [vA,Za6 (by omega)]
    rw [this] at hz';exact ZaH hz'
   have fy:∀ y,(arr.extract sb (sb+m)).toList[0]?=some y->∀ x∈(arr.extract (sa+k) sb).toList,r y < r x:=fun y hy x hx=>by
    rw [ty,sE _ (by omega),Nat.add_zero,ey] at hy
    cases hy
    rw [tx] at hx
    exact g2 x hx
   have lx:∀ x,(arr.extract (sa+k) sb).toList[(arr.extract (sa+k) sb).size - 1]?=some x->∀ y∈(arr.extract sb (sb+m)).toList,r y < r x:=fun x hx y hy=>by
    rw [tx,zx,sE _ (by omega),show sa+k+(na - k - 1)=sb - 1 by omega,ex] at hx
    cases hx
    rw [ty] at hy
    exact f1 y hy
   have fin:∀ (out:Array Keyed) (g:Nat),Good r (arr.extract (sa+k) sb) (arr.extract sb (sb+m)) out->wpS (model prog w) A E s (do
     modify fun s=>setArr s (out.toList.zipIdx.foldl (fun a (p,j)=>a.setIfInBounds (sa+k+j) p) (arrOf s))
     return (failedOf (←get)).isNone) Q (SortSt.mk' kd arr ((pd.setIfInBounds i (sa,na+nb,p1)).eraseIdxIfInBounds (i+1)) g none):=fun out g G=>by
    refine wpS_bind (wpS_modify (wpS_bind (wpS_get (wpS_pure ?_))))
    obtain ⟨G1,G2⟩:=G
    rw [tx,ty] at G2
    have ol:out.toList.length=na - k+m:=by rw [G2.length_eq,List.length_append,jL _ (by omega),jL _ (by omega)];omega
    have fs:=Kv out.toList arr (sa+k) (by rw [ol];omega)
    rw [ol,show sa+k+(na - k+m)=sb+m by omega] at fs
    refine h (bL arr.toList sa (sa+k)++out.toList++bL arr.toList (sb+m) (sb+nb)) _ g ?_ ?_ ?_
    ·refine Eq.trans fs ?_
     have t1:arr.toList.take (sa+k)=arr.toList.take sa++bL arr.toList sa (sa+k):=by
      have:=Rv (arr.toList.take (sa+k)) (i:=sa) (j:=sa+k) (by omega)
      rw [Zbj,Za6 (by omega),show (arr.toList.take (sa+k)).drop (sa+k)=[] from Za3 (by simp;omega),Za4] at this
      unfold bL at this ⊢
      rw [Zbj,Nat.min_self] at this
      exact this
     have t2:arr.toList.drop (sb+m)=bL arr.toList (sb+m) (sb+nb)++arr.toList.drop (sb+nb):=lR _ (by omega)
     rw [t1,t2]
     simp only [Zar]
    ·rw [iI arr.toList (show sa≤sa+k by omega) (show sa+k≤sb+nb by omega),iI arr.toList (show sa+k≤sb by omega) (show sb≤sb+nb by omega),iI arr.toList (show sb≤sb+m by omega) (show sb+m≤sb+nb by omega)]
     simp only [Zar]
     refine ZaS _ ?_
     rw [←Zar]
     exact ZbF _ G2
    ·have mo:∀ z∈out.toList,z∈bL arr.toList (sa+k) sb∨z∈bL arr.toList sb (sb+m):=fun z hz'=>Zad.mp (G2.mem_iff.mp hz')
     have sA:Srt r (bL arr.toList sa (sa+k)++bL arr.toList (sa+k) sb):=by rw [←iI _ (by omega) (by omega)];exact s1
     have sB:Srt r (bL arr.toList sb (sb+m)++bL arr.toList (sb+m) (sb+nb)):=by rw [←iI _ (by omega) (by omega)];exact s2
     have pA:=Zan.mp sA
     have pB:=Zan.mp sB
     refine Zan.mpr ⟨Zan.mpr ⟨pA.1,G1,fun x hx z hz'=>?_⟩,pB.2.1,fun x hx y hy=>?_⟩
     ·rcases mo z hz' with q | q
      ·exact pA.2.2 x hx z q
      ·exact Zap (g1 x hx) (y0le z (iny z q))
     ·rcases Zad.mp hx with q | q
      ·have hy':y∈bL arr.toList sb (sb+nb):=by rw [iI arr.toList (show sb≤sb+m by omega) (show sb+m≤sb+nb by omega)];exact Zad.mpr (.inr hy)
       exact Zap (g1 x q) (y0le y hy')
      ·rcases mo x q with q | q
       ·exact Nat.lt_of_le_of_lt (x1le x (inx x q)) (f2 y hy)
       ·exact pB.2.2 x q y hy
   have nexy:∀ x∈(arr.extract (sa+k) sb).toList,∀ y∈(arr.extract sb (sb+m)).toList,r x≠r y:=fun x hx y hy=>by
    rw [tx] at hx;rw [ty] at hy
    exact ne12 x (inx x hx) y (iny y hy)
   have dax:∀ x∈(arr.extract (sa+k) sb).toList,D x:=fun x hx=>by rw [tx] at hx;exact dm x (uv hx)
   have day:∀ x∈(arr.extract sb (sb+m)).toList,D x:=fun x hx=>by rw [ty] at hx;exact dm x (uv hx)
   by_cases q3:na - k≤m
   ·rw [if_pos q3]
    refine wpS_bind (BP hc rfl (by omega) (by omega) ⟨dax,day,by rw [tx];exact sx,by rw [ty];exact sy,nexy,lx⟩ fy fun out g G=>?_)
    exact fin out g G
   ·rw [if_neg q3]
    refine wpS_bind (BX hc rfl (by omega) (by omega) ⟨dax,day,by rw [tx];exact sx,by rw [ty];exact sy,nexy,fy⟩ lx fun out g G=>?_)
    exact fin out g G
end
noncomputable def Rk (r:Keyed->Nat) (a:Array Keyed) (k:Nat):Nat:=match a[k]? with
 | some x=>r x
 | none=>0
noncomputable def gM (r:Keyed->Nat) (a:Array Keyed) (i j:Nat):Prop:=∀ p q,i≤p->p < q->q < j->Rk r a p < Rk r a q
noncomputable def Tz (r:Keyed->Nat) (a:Array Keyed) (i j:Nat):Prop:=∀ p q,i≤p->p < q->q < j->Rk r a q < Rk r a p
theorem xP {r:Keyed->Nat}{a b:Array Keyed}{i j:Nat} (h:a[i]?=b[j]?):Rk r a i=Rk r b j:=by unfold Rk;rw [h]
theorem Gg {r:Keyed->Nat}{a:Array Keyed}{k:Nat}{x:Keyed} (h:a[k]?=some x):Rk r a k=r x:=by unfold Rk;rw [h]
theorem uw {r:Keyed->Nat}{a:Array Keyed}{i j:Nat} (h:j≤a.size):Srt r (bL a.toList i j)↔gM r a i j:=by
 have ll:a.toList.length=a.size:=by simp
 have cl:=jL a.toList (i:=i) (j:=j) (by lia)
 have at_:∀ p (hp:p < (bL a.toList i j).length),r ((bL a.toList i j)[p])=Rk r a (i+p):=fun p hp=>by
  have e:(bL a.toList i j)[p]?=a[i+p]?:=by rw [sE _ (by lia),Zax]
  rw [List.getElem?_eq_getElem hp] at e
  exact (Gg e.symm).symm
 constructor
 ·intro h1 p q h2 h3 h4
  have:=Zbu.mp h1 (p - i) (q - i) (by lia) (by lia) (by lia)
  rw [at_ _ (by lia),at_ _ (by lia),show i+(p - i)=p by lia,show i+(q - i)=q by lia] at this
  exact this
 ·intro h1
  refine Zbu.mpr fun p q hp hq hpq=>?_
  rw [at_ p hp,at_ q hq]
  exact h1 (i+p) (i+q) (by lia) (by lia) (by lia)
section
variable {prog:Program}{w:World}{A:Around}{E:Value->Shared->Prop}{s:Shared}{κ:SortKind}{D:Keyed->Prop}{r:Keyed->Nat}{st:SortSt}
structure Bs (D:Keyed->Prop) (r:Keyed->Nat) (a:Array Keyed):Prop where
 dm:∀ (k:Nat) x,a[k]?=some x->D x
 un:∀ p q,p < q->q < a.size->Rk r a p≠Rk r a q
theorem Bs.of {a:Array Keyed} (d:∀ x∈a.toList,D x) (u:Unl r a.toList):Bs D r a:=by
 refine ⟨fun k x h=>d x (Zaf (by rw [Zax];exact h)),fun p q h1 h2=>?_⟩
 have:=Zbu.mp u p q (by simp;lia) (by simp;lia) h1
 have e:∀ k (hk:k < a.size),Rk r a k=r (a.toList[k]'(by simpa using hk)):=fun k hk=>Gg (by rw [Zat hk,Array.getElem_toList])
 rw [e p (by lia),e q h2]
 exact this
theorem Unl.perm {l m:List Keyed} (u:Unl r l) (p:m.Perm l):Unl r m:=(p.pairwise_iff (fun h=>Za8 h)).mpr u
theorem Bs.perm {a b:Array Keyed} (d:∀ x∈a.toList,D x) (u:Unl r a.toList) (p:b.Perm a):Bs D r b :=
 have p:=Za2.mp p
 Bs.of (fun x hx=>d x (p.mem_iff.mp hx)) (u.perm p)
theorem jk (hc:Cmp prog w A s κ D r) (hk:kindOf st=κ) (b:Bs D r (arrOf st)) {i j:Nat} (hi:i < (arrOf st).size) (hj:j < (arrOf st).size) {Q:Option Bool->SortSt->Prop} (h:Q (some (decide (Rk r (arrOf st) i < Rk r (arrOf st) j))) st):wpS (model prog w) A E s (ltAt' i j) Q st:=by
 obtain ⟨x,ex⟩:∃ x,(arrOf st)[i]?=some x:=⟨_,Zat hi⟩
 obtain ⟨y,ey⟩:∃ y,(arrOf st)[j]?=some y:=⟨_,Zat hj⟩
 rw [ltAt'_eq]
 refine wpS_bind (wpS_get ?_)
 show wpS _ _ _ _ (do let x ←elem' (arrOf st) i;let y ←elem' (arrOf st) j;lt' x y) Q st
 refine wpS_bind (bK ex (wpS_bind (bK ey (vz hc hk (b.dm i x ex) (b.dm j y ey) ?_))))
 rw [Gg ex,Gg ey] at h
 exact h
theorem gM.snoc {a:Array Keyed}{i j:Nat} (h:gM r a i j) (hij:i < j) (l:Rk r a (j - 1) < Rk r a j):gM r a i (j+1):=fun p q h1 h2 h3=>by
 by_cases e:q=j
 ·subst e
  by_cases e2:p=q - 1
  ·rw [e2];exact l
  ·exact Nat.lt_trans (h p (q - 1) h1 (by lia) (by lia)) l
 ·exact h p q h1 h2 (by lia)
theorem wpS_countRun {lo nrem:Nat} (hc:Cmp prog w A s κ D r) (hk:kindOf st=κ) (dm:∀ x∈(arrOf st).toList,D x) (un:Unl r (arrOf st).toList) (hn:1≤nrem) (hz:lo+nrem=(arrOf st).size) {Q:Option Nat->SortSt->Prop}
  (h:∀ n arr',1≤n->n≤nrem->arr'.Perm (arrOf st)->(∀ k,k < lo->arr'[k]?=(arrOf st)[k]?)->gM r arr' lo (lo+n)->Q (some n) (setArr st arr')):wpS (model prog w) A E s (countRun' lo nrem) Q st:=by
 have b:=Bs.of dm un
 rw [countRun'_eq]
 refine wpS_bind (wpS_mono (wpS_forRange (I:=fun k c st'=>st'=st∧c=(none,k)∧gM r (arrOf st) lo (lo+k))
  (Q:=fun c st'=>st'=st∧∃ n,c=(none,n)∧1≤n∧n≤nrem∧gM r (arrOf st) lo (lo+n)∧(n < nrem->Rk r (arrOf st) (lo+n) < Rk r (arrOf st) (lo+n - 1))) ?_ ?_ ⟨rfl,rfl,fun p q h1 h2 h3=>by lia⟩) ?_)
 ·rintro k c st' h1 h2 ⟨rfl,rfl,S⟩
  dsimp only
  refine wpS_bind (jk hc hk b (by lia) (by lia) ?_)
  dsimp only
  by_cases q:Rk r (arrOf st') (lo+k) < Rk r (arrOf st') (lo+k - 1)
  ·rw [decide_eq_true q,if_pos rfl]
   exact wpS_pure ⟨rfl,k,rfl,h1,by lia,S,fun _=>q⟩
  ·rw [decide_eq_false q,if_neg (by decide)]
   refine wpS_pure ⟨rfl,rfl,?_⟩
   have:=b.un (lo+k - 1) (lo+k) (by lia) (by lia)
   exact S.snoc (by lia) (by lia)
 ·rintro c st' ⟨rfl,rfl,S⟩
  exact ⟨rfl,_,rfl,by lia,by lia,S,fun z=>by lia⟩
 ·rintro c st' ⟨rfl,n,rfl,h1,h2,S,hbr⟩
  dsimp only
  by_cases q1:n=nrem
  ·rw [if_pos (by simpa using q1)]
   exact wpS_pure (h n (arrOf st') h1 h2 (Array.Perm.refl _) (fun _ _=>rfl) S)
  ·rw [if_neg (by simpa using q1)]
   by_cases q2:n > 1
   ·rw [if_pos q2]
    refine wpS_bind (jk hc hk b (by lia) (by lia) ?_)
    dsimp only
    rw [decide_eq_true (S lo (lo+n - 1) (Zah _) (by lia) (by lia)),if_pos rfl]
    exact wpS_pure (h n (arrOf st') h1 h2 (Array.Perm.refl _) (fun _ _=>rfl) S)
   ·rw [if_neg q2]
    have n1:n=1:=by lia
    subst n1
    have hbr:=hbr (by lia)
    refine wpS_bind (kJ ?_)
    refine wpS_bind (wpS_mono (wpS_forRange (I:=fun k c st2=>st2=st'∧c=(none,k,0)∧Tz r (arrOf st') lo (lo+k))
     (Q:=fun c st2=>st2=st'∧∃ n,c=(none,n,0)∧2≤n∧n≤nrem∧Tz r (arrOf st') lo (lo+n)) ?_ ?_ ⟨rfl,rfl,fun p q h1 h2 h3=>by
      have e1:p=lo+1 - 1:=by lia
      have e2:q=lo+1:=by lia
      rw [e1,e2];exact hbr⟩) ?_)
    ·rintro k c st2 g1 g2 ⟨rfl,rfl,S2⟩
     dsimp only
     refine wpS_bind (jk hc hk b (by lia) (by lia) ?_)
     dsimp only
     by_cases q:Rk r (arrOf st2) (lo+k) < Rk r (arrOf st2) (lo+k - 1)
     ·rw [decide_eq_true q,if_pos rfl,if_neg (by lia)]
      refine wpS_pure ⟨rfl,rfl,fun p q' h1 h2 h3=>?_⟩
      by_cases e:q'=lo+k
      ·subst e
       by_cases e2:p=lo+k - 1
       ·rw [e2];exact q
       ·exact Nat.lt_trans q (S2 p (lo+k - 1) h1 (by lia) (by lia))
      ·exact S2 p q' h1 h2 (by lia)
     ·rw [decide_eq_false q,if_neg (by decide)]
      refine wpS_bind (jk hc hk b (by lia) (by lia) ?_)
      dsimp only
      have:=b.un (lo+k - 1) (lo+k) (by lia) (by lia)
      rw [decide_eq_true (show Rk r (arrOf st2) (lo+k - 1) < Rk r (arrOf st2) (lo+k) by lia),if_pos rfl]
      exact wpS_pure ⟨rfl,k,rfl,by lia,by lia,S2⟩
    ·rintro c st2 ⟨rfl,rfl,S2⟩
     exact ⟨rfl,_,rfl,by lia,by lia,S2⟩
    ·rintro c st2 ⟨rfl,n,rfl,g1,g2,S2⟩
     dsimp only
     rw [if_neg (by lia),reverseSlice'_eq]
     refine wpS_bind (wpS_modify ?_)
     have mz:=mirror_size (arrOf st2) lo (lo+n) ((lo+n - lo) / 2)
     have mp:=mirror_perm (arrOf st2) lo (lo+n) ((lo+n - lo) / 2)
     have mg:=getElem?_mirror_all (xs:=arrOf st2) (i:=lo) (j:=lo+n) (by lia)
     generalize mirror (arrOf st2) lo (lo+n) ((lo+n - lo) / 2)=a2 at mz mp mg
     have b2:Bs D r a2:=Bs.perm dm un mp
     have pre:∀ k,k < lo->a2[k]?=(arrOf st2)[k]?:=fun k hk2=>by rw [mg,if_neg (by lia)]
     have S3:gM r a2 lo (lo+n):=fun p q h1 h2 h3=>by
      have rp:∀ p,lo≤p->p < lo+n->Rk r a2 p=Rk r (arrOf st2) (lo+(lo+n) - 1 - p):=fun p g3 g4=>xP (by rw [mg,if_pos ⟨g3,g4⟩])
      rw [rp p h1 (by lia),rp q (by lia) h3]
      exact S2 _ _ (by lia) (by lia) (by lia)
     refine wpS_bind (wpS_mono (wpS_forRange (I:=fun k c st3=>st3=setArr st2 a2∧c=(none,k)∧gM r a2 lo (lo+k))
      (Q:=fun c st3=>st3=setArr st2 a2∧∃ m,c=(none,m)∧n≤m∧m≤nrem∧gM r a2 lo (lo+m)) ?_ ?_ ⟨rfl,rfl,S3⟩) ?_)
     ·rintro k c st3 f1 f2 ⟨rfl,rfl,S⟩
      dsimp only
      refine wpS_bind (jk (st:=setArr st2 a2) hc hk b2 (by show _ < a2.size;lia) (by show _ < a2.size;lia) ?_)
      dsimp only
      by_cases q:Rk r a2 (lo+k) < Rk r a2 (lo+k - 1)
      ·rw [show arrOf (setArr st2 a2)=a2 from rfl,decide_eq_true q,if_pos rfl]
       exact wpS_pure ⟨rfl,k,rfl,f1,by lia,S⟩
      ·rw [show arrOf (setArr st2 a2)=a2 from rfl,decide_eq_false q,if_neg (by decide)]
       refine wpS_pure ⟨rfl,rfl,?_⟩
       have:=b2.un (lo+k - 1) (lo+k) (by lia) (by lia)
       exact S.snoc (by lia) (by lia)
     ·rintro c st3 ⟨rfl,rfl,S⟩
      exact ⟨rfl,_,rfl,by lia,by lia,S⟩
     ·rintro c st3 ⟨rfl,m,rfl,f1,f2,S⟩
      exact wpS_pure (h m a2 (by lia) f2 mp pre S)
theorem wpS_binarySort {lo n ok:Nat} (hc:Cmp prog w A s κ D r) (hk:kindOf st=κ) (dm:∀ x∈(arrOf st).toList,D x) (un:Unl r (arrOf st).toList) (h1:1≤ok) (h2:ok≤n) (hz:lo+n≤(arrOf st).size) (S:gM r (arrOf st) lo (lo+ok)) {Q:Bool->SortSt->Prop}
  (h:∀ arr',arr'.Perm (arrOf st)->(∀ k,k < lo->arr'[k]?=(arrOf st)[k]?)->gM r arr' lo (lo+n)->Q true (setArr st arr')):wpS (model prog w) A E s (binarySort' lo n ok) Q st:=by
 rw [binarySort'_eq]
 refine wpS_bind (wpS_mono (wpS_forRange (I:=fun k c st'=>c=(none,())∧∃ arr',st'=setArr st arr'∧arr'.Perm (arrOf st)∧(∀ k,k < lo->arr'[k]?=(arrOf st)[k]?)∧gM r arr' lo (lo+k))
  (Q:=fun c st'=>c=(none,())∧∃ arr',st'=setArr st arr'∧arr'.Perm (arrOf st)∧(∀ k,k < lo->arr'[k]?=(arrOf st)[k]?)∧gM r arr' lo (lo+n)) ?_ ?_ ⟨rfl,arrOf st,rfl,Array.Perm.refl _,fun _ _=>rfl,by rw [Nat.max_eq_left h1];exact S⟩) ?_)
 ·rintro k c st' g1 g2 ⟨rfl,a2,rfl,p2,pre,S2⟩
  have z2:a2.size=(arrOf st).size:=p2.size_eq
  have b2:Bs D r a2:=Bs.perm dm un p2
  have kl:lo+k < a2.size:=by omega
  refine wpS_bind (wpS_mono (wpS_forRange (I:=fun t c st2=>st2=setArr st a2∧∃ l e,c=((none:Option Bool),l,e)∧l≤e∧e≤k∧(∀ i,i < l->Rk r a2 (lo+i) < Rk r a2 (lo+k))∧(∀ i,e≤i->i < k->Rk r a2 (lo+k) < Rk r a2 (lo+i))∧e - l+t≤k)
   (Q:=fun c st2=>st2=setArr st a2∧∃ l,c=((none:Option Bool),l,l)∧l≤k∧(∀ i,i < l->Rk r a2 (lo+i) < Rk r a2 (lo+k))∧(∀ i,l≤i->i < k->Rk r a2 (lo+k) < Rk r a2 (lo+i))) ?_ ?_ ⟨rfl,0,k,rfl,by omega,Zah _,fun i hi=>by omega,fun i h3 h4=>by omega,by omega⟩) ?_)
  ·rintro t c st2 _ ht ⟨rfl,l,e,rfl,f1,f2,f3,f4,f5⟩
   dsimp only
   by_cases q:l ≥ e
   ·rw [if_pos q]
    have:l=e:=by omega
    subst this
    exact wpS_pure ⟨rfl,l,rfl,f2,f3,f4⟩
   ·rw [if_neg q]
    refine wpS_bind (jk (st:=setArr st a2) hc hk b2 (by show _ < a2.size;omega) (by show _ < a2.size;omega) ?_)
    dsimp only
    rw [show arrOf (setArr st a2)=a2 from rfl]
    by_cases q2:Rk r a2 (lo+k) < Rk r a2 (lo+(l+e) / 2)
    ·rw [decide_eq_true q2,if_pos rfl]
     refine wpS_pure ⟨rfl,l,(l+e) / 2,rfl,by omega,by omega,f3,fun i h3 h4=>?_,by omega⟩
     by_cases q3:i=(l+e) / 2
     ·rw [q3];exact q2
     ·exact Nat.lt_trans q2 (S2 _ _ (by omega) (by omega) (by omega))
    ·rw [decide_eq_false q2,if_neg (by decide)]
     have ne:=b2.un (lo+(l+e) / 2) (lo+k) (by omega) kl
     refine wpS_pure ⟨rfl,(l+e) / 2+1,e,rfl,by omega,f2,fun i hi=>?_,f4,by omega⟩
     by_cases q3:i=(l+e) / 2
     ·rw [q3];omega
     ·exact Nat.lt_trans (S2 (lo+i) (lo+(l+e) / 2) (by omega) (by omega) (by omega)) (by omega)
  ·rintro c st2 ⟨rfl,l,e,rfl,f1,f2,f3,f4,f5⟩
   have:l=e:=by omega
   subst this
   exact ⟨rfl,l,rfl,f2,f3,f4⟩
  ·rintro c st2 ⟨rfl,l,rfl,f1,f2,f3⟩
   dsimp only
   rw [moveDown'_eq]
   refine wpS_bind (wpS_modify (wpS_pure ?_))
   have bz:=bubble_perm a2 (lo+k) (lo+k - (lo+l))
   have bg:=getElem?_bubble (xs:=a2) (src:=lo+k) kl (lo+k - (lo+l)) (by omega)
   refine ⟨rfl,bubble a2 (lo+k) (lo+k - (lo+l)),rfl,bz.trans p2,?_,?_⟩
   ·intro i hi
    rw [bg,if_neg (by omega),if_neg (by omega)]
    exact pre i hi
   ·generalize bubble a2 (lo+k) (lo+k - (lo+l))=a3 at bg
    rw [show lo+k - (lo+k - (lo+l))=lo+l by omega] at bg
    have rk3:∀ i,Rk r a3 i=if i=lo+l then Rk r a2 (lo+k) else if lo+l < i∧i≤lo+k then Rk r a2 (i - 1) else Rk r a2 i:=fun i=>by
     have:=bg i
     split at this
     ·rename_i e;rw [if_pos e];exact xP this
     ·rename_i e;rw [if_neg e]
      split at this
      ·rename_i e2;rw [if_pos e2];exact xP this
      ·rename_i e2;rw [if_neg e2];exact xP this
    intro p q h3 h4 h5
    rw [rk3 p,rk3 q]
    by_cases p1:p=lo+l
    ·rw [if_pos p1,if_neg (by omega),if_pos (by omega)]
     have:=f3 (q - 1 - lo) (by omega) (by omega)
     rw [show lo+(q - 1 - lo)=q - 1 by omega] at this
     exact this
    ·rw [if_neg p1]
     by_cases p2':lo+l < p
     ·rw [if_pos ⟨p2',by omega⟩,if_neg (by omega),if_pos (by omega)]
      exact S2 _ _ (by omega) (by omega) (by omega)
     ·rw [if_neg (by omega)]
      by_cases q1:q=lo+l
      ·rw [if_pos q1]
       have:=f2 (p - lo) (by omega)
       rw [show lo+(p - lo)=p by omega] at this
       exact this
      ·rw [if_neg q1]
       by_cases q2:lo+l < q
       ·rw [if_pos ⟨q2,by omega⟩]
        exact S2 _ _ h3 (by omega) (by omega)
       ·rw [if_neg (by omega)]
        exact S2 _ _ h3 h4 (by omega)
 ·rintro c st' ⟨rfl,a2,rfl,p2,pre,S2⟩
  refine ⟨rfl,a2,rfl,p2,pre,?_⟩
  rw [show max (max ok 1) n=n by omega] at S2
  exact S2
 ·rintro c st' ⟨rfl,a2,rfl,p2,pre,S2⟩
  exact wpS_pure (h a2 p2 pre S2)
end
noncomputable def qX (pw:Nat):StateT SortSt Sem (ForInStep (Option Unit×Unit)):=do
 let s ←get
 match (if (pendingOf s).size > 1 then (pendingOf s)[(pendingOf s).size - 2]? else none) with
 | some x=>if x.2.2≤pw then pure (.done (none,())) else do
  let ok ←mergeAt' ((pendingOf s).size - 2)
  if (!ok)=true then pure (.done (some (),())) else pure (.yield (none,()))
 | none=>pure (.done (none,()))
noncomputable def oM (lo n:Nat):StateT SortSt Sem (ForInStep (Option Unit×Nat)):=do
 modify fun s=>setPending s ((pendingOf s).push (lo,n,0))
 pure (.yield (none,lo+n))
noncomputable def lay (size lo n:Nat):StateT SortSt Sem (ForInStep (Option Unit×Nat)):=do
 let s ←get
 match (pendingOf s).back? with
 | some x=>do
  let c ←forIn [0:size] ((none:Option Unit),()) fun _ _=>qX (power' size (2 * x.1+x.2.1) (2 * x.1+x.2.1+x.2.1+n) size)
  match c.1 with
  | some r=>pure (.done (some r,lo))
  | none=>do
   modify fun s=>setPending s ((pendingOf s).modify ((pendingOf s).size - 1) fun y=>(y.1,y.2.1,power' size (2 * x.1+x.2.1) (2 * x.1+x.2.1+x.2.1+n) size))
   oM lo n
 | none=>oM lo n
noncomputable def Kw (s:SortSt):Nat:=if Option.any (fun x=>decide (x < (pendingOf s)[(pendingOf s).size - 2+1]?.elim 0 fun x=>x.2.1)) (if (pendingOf s).size - 2 > 0 then Option.map (fun x=>x.2.1) (pendingOf s)[(pendingOf s).size - 2 - 1]? else none)=true then (pendingOf s).size - 2 - 1 else (pendingOf s).size - 2
noncomputable def Gh:StateT SortSt Sem (ForInStep (Option Unit×Unit)):=do
 let s ←get
 if (pendingOf s).size≤1 then pure (.done (none,())) else do
  let ok ←mergeAt' (Kw s)
  if (!ok)=true then pure (.done (some (),())) else pure (.yield (none,()))
noncomputable def ux (z:Nat) (c:Option Unit×Nat):StateT SortSt Sem (ForInStep (Option Unit×Nat)):=if c.2 ≥ z then pure (.done (none,c.2)) else (do
 let x ←countRun' c.2 (z - c.2)
 match x with
 | some found=>if found < minRun' z z 0 then (do
   rule "list.sort.binary-insertion"
   let ok ←binarySort' c.2 (min (z - c.2) (minRun' z z 0)) found
   if (!ok)=true then pure (.done (some (),c.2)) else lay z c.2 (min (z - c.2) (minRun' z z 0))) else lay z c.2 found
 | none=>pure (.done (some (),c.2)))
noncomputable def sG:StateT SortSt Sem Unit:=do
 let s ←get
 let c ←forIn [0:(arrOf s).size] ((none:Option Unit),0) fun _ c=>ux (arrOf s).size c
 match c.1 with
 | some r=>pure r
 | none=>do
  let d ←forIn [0:(arrOf s).size] ((none:Option Unit),()) fun _ _=>Gh
  match d.1 with
  | some r=>pure r
  | none=>pure ()
theorem zf:sortRuns'=sG:=by
 rw [sortRuns'_eq]
 unfold sG
 dsimp only
 congr 1;funext s
 congr 1
 ·congr 1
  funext _ c
  obtain ⟨c0,lo⟩:=c
  unfold ux
  dsimp only
  congr 1
  congr 1;funext x
  cases x with
  | none=>rfl
  | some found =>
   dsimp only
   congr 1
   ·congr 1;funext _
    congr 1;funext ok
    congr 1
    unfold lay oM
    congr 1;funext s2
    cases (pendingOf s2).back? with
    | none=>rfl
    | some x =>
     obtain ⟨s1,n1,p⟩:=x
     dsimp only
     congr 1
     ·congr 1
      funext _ d
      unfold qX
      congr 1;funext s3
      cases (if (pendingOf s3).size > 1 then (pendingOf s3)[(pendingOf s3).size - 2]? else none) with
      | none=>rfl
      | some y=>obtain ⟨y1,y2,y3⟩:=y;rfl
     ·funext c
      obtain ⟨c0,_⟩:=c
      cases c0 <;> rfl
   ·unfold lay oM
    congr 1;funext s2
    cases (pendingOf s2).back? with
    | none=>rfl
    | some x =>
     obtain ⟨s1,n1,p⟩:=x
     dsimp only
     congr 1
     ·congr 1
      funext _ d
      unfold qX
      congr 1;funext s3
      cases (if (pendingOf s3).size > 1 then (pendingOf s3)[(pendingOf s3).size - 2]? else none) with
      | none=>rfl
      | some y=>obtain ⟨y1,y2,y3⟩:=y;rfl
     ·funext c
      obtain ⟨c0,_⟩:=c
      cases c0 <;> rfl
 ·funext c
  obtain ⟨c0,lo⟩:=c
  cases c0 with
  | some r=>rfl
  | none =>
   dsimp only
   congr 1
   funext d
   obtain ⟨d0,_⟩:=d
   cases d0 <;> rfl
noncomputable abbrev Pd:=Nat×Nat×Nat
noncomputable def Rn (r:Keyed->Nat) (a:Array Keyed):Nat->List Pd->Nat->Prop
 | s,[],e=>s=e
 | s,x::l,e=>x.1=s∧1≤x.2.1∧gM r a s (s+x.2.1)∧Rn r a (s+x.2.1) l e
section
variable {r:Keyed->Nat}{a b:Array Keyed}
theorem Rn.le:∀ {l:List Pd}{s e:Nat},Rn r a s l e->s+l.length≤e
 | [],s,e,h=>by cases h;simp
 | x::l,s,e,h=>by
  have:=h.2.2.2.le
  have:=h.2.1
  simp only [ZaC]
  omega
theorem Rn.app:∀ {l m:List Pd}{s e:Nat},Rn r a s (l++m) e↔∃ k,Rn r a s l k∧Rn r a k m e
 | [],m,s,e=>⟨fun h=>⟨s,rfl,h⟩,fun ⟨k,h1,h2⟩=>by cases h1;exact h2⟩
 | x::l,m,s,e=>by
  constructor
  ·rintro ⟨h1,h2,h3,h4⟩
   obtain ⟨k,g1,g2⟩:=Rn.app.mp h4
   exact ⟨k,⟨h1,h2,h3,g1⟩,g2⟩
  ·rintro ⟨k,⟨h1,h2,h3,h4⟩,g2⟩
   exact ⟨h1,h2,h3,Rn.app.mpr ⟨k,h4,g2⟩⟩
theorem gM.congr {i j:Nat} (h:∀ k,i≤k->k < j->b[k]?=a[k]?) (S:gM r a i j):gM r b i j:=fun p q h1 h2 h3=>by
 rw [xP (h p h1 (by lia)),xP (h q (by lia) h3)]
 exact S p q h1 h2 h3
theorem Rn.congr:∀ {l:List Pd}{s e:Nat},(∀ k,s≤k->k < e->b[k]?=a[k]?)->Rn r a s l e->Rn r b s l e
 | [],_,_,_,h=>h
 | x::l,s,e,hk,⟨h1,h2,h3,h4⟩=>by
  have:=h4.le
  exact ⟨h1,h2,h3.congr fun k g1 g2=>hk k g1 (by lia),Rn.congr (fun k g1 g2=>hk k (by lia) g2) h4⟩
theorem Ky {l:List Pd}{i:Nat}{x y:Pd} (e1:l[i]?=some x) (e2:l[i+1]?=some y):l=l.take i++x::y::l.drop (i+2):=by
 have h1:=(Zab.mp e1).1
 have h2:=(Zab.mp e2).1
 conv=>lhs;rw [←ZaB i l]
 congr 1
 rw [ZaI h1,ZaI h2]
 rw [List.getElem?_eq_getElem h1] at e1
 rw [List.getElem?_eq_getElem h2] at e2
 rw [Zaa e1,Zaa e2]
theorem Ia {l:List Pd}{i:Nat}{x y z:Pd} (e1:l[i]?=some x) (e2:l[i+1]?=some y):(l.set i z).eraseIdx (i+1)=l.take i++z::l.drop (i+2):=by
 have h2:=(Zab.mp e2).1
 have hl:(l.take i).length=i:=by simp;lia
 conv=>lhs;rw [Ky e1 e2]
 rw [List.set_append_right _ _ (by lia),hl,Nat.sub_self,List.set_cons_zero,List.eraseIdx_append_of_length_le (by lia),hl,ZbA]
 rfl
end
section
variable {prog:Program}{w:World}{A:Around}{E:Value->Shared->Prop}{s:Shared}{κ:SortKind}{D:Keyed->Prop}{r:Keyed->Nat}{st:SortSt}{a0:Array Keyed}
structure Rs (κ:SortKind) (r:Keyed->Nat) (a0:Array Keyed) (lo:Nat) (st:SortSt):Prop where
 kd:kindOf st=κ
 fl:failedOf st=none
 pm:(arrOf st).Perm a0
 rn:Rn r (arrOf st) 0 (pendingOf st).toList lo
 le:lo≤a0.size
theorem Kz {i lo:Nat} (hc:Cmp prog w A s κ D r) (dm:∀ x∈a0.toList,D x) (un:Unl r a0.toList) (R:Rs κ r a0 lo st) (hi:i+1 < (pendingOf st).size) {Q:Bool->SortSt->Prop}
  (h:∀ st',Rs κ r a0 lo st'->(pendingOf st').size+1=(pendingOf st).size->(∀ k,lo≤k->(arrOf st')[k]?=(arrOf st)[k]?)->Q true st'):wpS (model prog w) A E s (mergeAt' i) Q st:=by
 obtain ⟨kd,fl,pm,rn,le⟩:=R
 have sz:(arrOf st).size=a0.size:=pm.size_eq
 have pl:=Za2.mp pm
 obtain ⟨⟨sa,na,p1⟩,e1⟩:∃ x,(pendingOf st)[i]?=some x:=⟨_,Zat (by lia)⟩
 obtain ⟨⟨sb,nb,p2⟩,e2⟩:∃ x,(pendingOf st)[i+1]?=some x:=⟨_,Zat hi⟩
 have f1:(pendingOf st).toList[i]?=some (sa,na,p1):=by rw [Zax];exact e1
 have f2:(pendingOf st).toList[i+1]?=some (sb,nb,p2):=by rw [Zax];exact e2
 rw [Ky f1 f2] at rn
 obtain ⟨k0,r1,q1,q2,q3,q4,q5,q6,r2⟩:=Rn.app.mp rn
 have q1:sa=k0:=q1
 subst q1
 have q4:sb=sa+na:=q4
 have q2:1≤na:=q2
 have q5:1≤nb:=q5
 have q3:gM r (arrOf st) sa (sa+na):=q3
 have q6:gM r (arrOf st) (sa+na) (sa+na+nb):=q6
 have r2:Rn r (arrOf st) (sa+na+nb) ((pendingOf st).toList.drop (i+2)) lo:=r2
 have b1:=r1.le
 have b2:=r2.le
 subst q4
 refine BZ hc kd fl e1 e2 rfl q2 q5 (by lia) (fun x hx=>dm x (pl.mem_iff.mp hx)) (un.perm pl) ((uw (by lia)).mpr q3) ((uw (by lia)).mpr q6) fun M arr' g eq pM sM=>?_
 have ll:(arrOf st).toList.length=(arrOf st).size:=by simp
 have ml:M.length=na+nb:=by rw [pM.length_eq,jL _ (by lia)];lia
 have tl:((arrOf st).toList.take sa).length=sa:=by simp;lia
 have low:∀ k,k < sa->arr'[k]?=(arrOf st)[k]?:=fun k hk=>by
  rw [←Zax,eq,Zar,Zag (by lia),List.getElem?_take,if_pos hk,Zax]
 have high:∀ k,sa+na+nb≤k->arr'[k]?=(arrOf st)[k]?:=fun k hk=>by
  rw [←Zax,eq,Zao (by rw [List.length_append];lia),List.length_append,tl,ml,List.getElem?_drop,show sa+na+nb+(k - (sa+(na+nb)))=k by lia,Zax]
 have ap:arr'.Perm (arrOf st):=by
  rw [Za2,eq]
  conv=>rhs;rw [Rv (arrOf st).toList (show sa≤sa+na+nb by lia)]
  exact ZbF _ (ZaS _ pM)
 have az:arr'.size=(arrOf st).size:=ap.size_eq
 have mid:gM r arr' sa (sa+(na+nb)):=by
  refine (uw (by lia)).mp ?_
  have:bL arr'.toList sa (sa+(na+nb))=M:=by
   unfold bL
   rw [eq,List.take_append_of_le_length (by rw [List.length_append];lia),ZaO (by rw [List.length_append];lia),List.drop_append_of_le_length (by lia),Za3 (by lia),List.nil_append]
  rw [this];exact sM
 have pe:(((pendingOf st).setIfInBounds i (sa,na+nb,p1)).eraseIdxIfInBounds (i+1)).toList=(pendingOf st).toList.take i++(sa,na+nb,p1)::(pendingOf st).toList.drop (i+2):=by
  rw [Array.toList_eraseIdxIfInBounds,Array.toList_setIfInBounds]
  exact Ia f1 f2
 refine h _ ⟨rfl,rfl,ap.trans pm,?_,le⟩ ?_ fun k hk=>high k (by lia)
 ·show Rn r arr' 0 (((pendingOf st).setIfInBounds i (sa,na+nb,p1)).eraseIdxIfInBounds (i+1)).toList lo
  rw [pe]
  refine Rn.app.mpr ⟨sa,r1.congr fun k _ hk=>low k hk,rfl,by show 1≤na+nb;lia,mid,?_⟩
  show Rn r arr' (sa+(na+nb)) _ lo
  rw [show sa+(na+nb)=sa+na+nb by lia]
  exact r2.congr fun k hk _=>high k hk
 ·show (((pendingOf st).setIfInBounds i (sa,na+nb,p1)).eraseIdxIfInBounds (i+1)).size+1=_
  rw [←ZaT,pe]
  have:(pendingOf st).toList.length=(pendingOf st).size:=by simp
  simp
  lia
end
section
variable {prog:Program}{w:World}{A:Around}{E:Value->Shared->Prop}{s:Shared}{κ:SortKind}{D:Keyed->Prop}{r:Keyed->Nat}{st:SortSt}{a0:Array Keyed}
theorem Rn.mod {a:Array Keyed}{f:Pd->Pd} (hf:∀ x,(f x).1=x.1∧(f x).2.1=x.2.1):∀ {l:List Pd}{i s e:Nat},Rn r a s l e->Rn r a s (l.modify i f) e
 | [],_,_,_,h=>by simpa using h
 | x::l,0,s,e,⟨h1,h2,h3,h4⟩=>by
  rw [List.modify_zero_cons]
  exact ⟨(hf x).1.trans h1,by rw [(hf x).2];exact h2,by rw [(hf x).2];exact h3,by rw [(hf x).2];exact h4⟩
 | x::l,i+1,s,e,⟨h1,h2,h3,h4⟩=>by
  rw [List.modify_succ_cons]
  exact ⟨h1,h2,h3,Rn.mod hf h4⟩
theorem vC {M:Model}{lo n:Nat} (R:Rs κ r a0 lo st) (S:gM r (arrOf st) lo (lo+n)) (n1:1≤n) (hz:lo+n≤a0.size) {Q:ForInStep (Option Unit×Nat)->SortSt->Prop} (h:∀ st',Rs κ r a0 (lo+n) st'->Q (.yield (none,lo+n)) st'):wpS M A E s (oM lo n) Q st:=by
 unfold oM
 refine wpS_bind (wpS_modify (wpS_pure (h _ ⟨R.kd,R.fl,R.pm,?_,hz⟩)))
 show Rn r (arrOf st) 0 ((pendingOf st).push (lo,n,0)).toList (lo+n)
 rw [Zbl]
 exact Rn.app.mpr ⟨lo,R.rn,rfl,n1,S,rfl⟩
theorem Ew {pw lo n:Nat} (hc:Cmp prog w A s κ D r) (dm:∀ x∈a0.toList,D x) (un:Unl r a0.toList) (R:Rs κ r a0 lo st) (S:gM r (arrOf st) lo (lo+n)) :
  wpS (model prog w) A E s (qX pw) (fun c st'=>(c=.done (none,())∨c=.yield (none,()))∧Rs κ r a0 lo st'∧gM r (arrOf st') lo (lo+n)) st:=by
 unfold qX
 refine wpS_bind (wpS_get ?_)
 by_cases q:(pendingOf st).size > 1
 ·rw [if_pos q]
  cases (pendingOf st)[(pendingOf st).size - 2]? with
  | none=>exact wpS_pure ⟨.inl rfl,R,S⟩
  | some x =>
   dsimp only
   split
   ·exact wpS_pure ⟨.inl rfl,R,S⟩
   ·refine wpS_bind (Kz hc dm un R (by omega) fun st' R' _ hk=>?_)
    rw [if_neg (by decide)]
    exact wpS_pure ⟨.inr rfl,R',S.congr fun k g1 _=>hk k g1⟩
 ·rw [if_neg q]
  exact wpS_pure ⟨.inl rfl,R,S⟩
theorem KC {z lo n:Nat} (hc:Cmp prog w A s κ D r) (dm:∀ x∈a0.toList,D x) (un:Unl r a0.toList) (R:Rs κ r a0 lo st) (S:gM r (arrOf st) lo (lo+n)) (n1:1≤n) (hz:lo+n≤a0.size) {Q:ForInStep (Option Unit×Nat)->SortSt->Prop} (h:∀ st',Rs κ r a0 (lo+n) st'->Q (.yield (none,lo+n)) st'):wpS (model prog w) A E s (lay z lo n) Q st:=by
 unfold lay
 refine wpS_bind (wpS_get ?_)
 cases (pendingOf st).back? with
 | none=>exact vC R S n1 hz h
 | some x =>
  dsimp only
  refine wpS_bind (wpS_mono (wpS_forRange (I:=fun _ c st'=>c=(none,())∧Rs κ r a0 lo st'∧gM r (arrOf st') lo (lo+n)) (Q:=fun c st'=>c=(none,())∧Rs κ r a0 lo st'∧gM r (arrOf st') lo (lo+n)) ?_ (fun _ _ g=>g) ⟨rfl,R,S⟩) ?_)
  ·rintro k c st' _ _ ⟨rfl,R',S'⟩
   refine wpS_mono (Ew hc dm un R' S') fun c st2 p=>?_
   rcases p.1 with rfl | rfl
   ·exact ⟨rfl,p.2⟩
   ·exact ⟨rfl,p.2⟩
  ·rintro c st' ⟨rfl,R',S'⟩
   dsimp only
   refine wpS_bind (wpS_modify ?_)
   generalize hm:((pendingOf st').modify ((pendingOf st').size - 1) fun y=>(y.1,y.2.1,power' z (2 * x.1+x.2.1) (2 * x.1+x.2.1+x.2.1+n) z))=pm
   refine vC (st:=setPending st' pm) ⟨R'.kd,R'.fl,R'.pm,?_,R'.le⟩ S' n1 hz h
   show Rn r (arrOf st') 0 pm.toList lo
   rw [←hm,Array.toList_modify]
   exact Rn.mod (f:=fun y=>(y.1,y.2.1,power' z (2 * x.1+x.2.1) (2 * x.1+x.2.1+x.2.1+n) z)) (fun y=>⟨rfl,rfl⟩) R'.rn
theorem Ex {z lo:Nat} (hc:Cmp prog w A s κ D r) (dm:∀ x∈a0.toList,D x) (un:Unl r a0.toList) (hz:z=a0.size) (R:Rs κ r a0 lo st) {c0:Option Unit} :
  wpS (model prog w) A E s (ux z (c0,lo)) (fun c st'=>(c=.done (none,lo)∧lo=z∧st'=st)∨∃ lo',c=.yield (none,lo')∧lo < lo'∧Rs κ r a0 lo' st') st:=by
 have sz:(arrOf st).size=a0.size:=R.pm.size_eq
 have le:=R.le
 have pl:=Za2.mp R.pm
 unfold ux
 dsimp only
 by_cases q:lo ≥ z
 ·rw [if_pos q]
  exact wpS_pure (.inl ⟨rfl,by omega,rfl⟩)
 ·rw [if_neg q]
  have low:∀ {a2:Array Keyed},a2.Perm (arrOf st)->(∀ k,k < lo->a2[k]?=(arrOf st)[k]?)->Rs κ r a0 lo (setArr st a2):=fun {a2} p2 pre=>⟨R.kd,R.fl,p2.trans R.pm,R.rn.congr fun k _ hk=>pre k hk,R.le⟩
  refine wpS_bind (wpS_countRun hc R.kd (fun x hx=>dm x (pl.mem_iff.mp hx)) (un.perm pl) (by omega) (by omega) fun n a2 n1 n2 p2 pre S=>?_)
  dsimp only
  have R2:=low p2 pre
  have pl2:=Za2.mp (p2.trans R.pm)
  by_cases q2:n < minRun' z z 0
  ·rw [if_pos q2]
   refine wpS_bind (kJ ?_)
   refine wpS_bind (wpS_binarySort (st:=setArr st a2) hc R.kd (fun x hx=>dm x (pl2.mem_iff.mp hx)) (un.perm pl2) n1 (by omega) (by show _≤a2.size;rw [p2.size_eq];omega) S fun a3 p3 pre3 S3=>?_)
   rw [if_neg (by decide)]
   have R3:Rs κ r a0 lo (setArr (setArr st a2) a3):=⟨R.kd,R.fl,(show a3.Perm a2 from p3).trans (p2.trans R.pm),R.rn.congr fun k _ hk=>(pre3 k hk).trans (pre k hk),R.le⟩
   exact KC hc dm un R3 S3 (by omega) (by omega) fun st' R'=>.inr ⟨_,rfl,by omega,R'⟩
  ·rw [if_neg q2]
   exact KC hc dm un R2 S (by omega) (by omega) fun st' R'=>.inr ⟨_,rfl,by omega,R'⟩
theorem wpS_sortRuns (hc:Cmp prog w A s κ D r) (hk:kindOf st=κ) (hf:failedOf st=none) (hp:pendingOf st=#[]) (dm:∀ x∈(arrOf st).toList,D x) (un:Unl r (arrOf st).toList) {Q:Unit->SortSt->Prop}
  (h:∀ st',(arrOf st').Perm (arrOf st)->failedOf st'=none->Srt r (arrOf st').toList->Q () st'):wpS (model prog w) A E s sortRuns' Q st:=by
 rw [zf]
 unfold sG
 refine wpS_bind (wpS_get ?_)
 have R0:Rs κ r (arrOf st) 0 st:=⟨hk,hf,Array.Perm.refl _,by rw [hp];rfl,ZaZ _⟩
 refine wpS_bind (wpS_mono (wpS_forRange (I:=fun k c st'=>∃ lo,c=(none,lo)∧Rs κ r (arrOf st) lo st'∧k≤lo) (Q:=fun c st'=>c=(none,(arrOf st).size)∧Rs κ r (arrOf st) (arrOf st).size st') ?_ ?_ ⟨0,rfl,R0,Zah _⟩) ?_)
 ·rintro k c st' _ _ ⟨lo,rfl,R,hlo⟩
  refine wpS_mono (Ex hc dm un rfl R) fun c st2 p=>?_
  rcases p with ⟨rfl,rfl,rfl⟩ | ⟨lo',rfl,g,R'⟩
  ·exact ⟨rfl,R⟩
  ·exact ⟨lo',rfl,R',by lia⟩
 ·rintro c st' ⟨lo,rfl,R,hlo⟩
  have:=R.le
  have e:lo=(arrOf st).size:=by lia
  subst e
  exact ⟨rfl,R⟩
 ·rintro c st' ⟨rfl,R⟩
  dsimp only
  have pz:∀ {st2:SortSt},Rs κ r (arrOf st) (arrOf st).size st2->(pendingOf st2).size≤(arrOf st).size:=fun R2=>by
   have:=R2.rn.le
   simp at this
   exact this
  refine wpS_bind (wpS_mono (wpS_forRange (I:=fun k c st2=>c=(none,())∧Rs κ r (arrOf st) (arrOf st).size st2∧((pendingOf st2).size+k≤(arrOf st).size∨(pendingOf st2).size≤1)) (Q:=fun c st2=>c=(none,())∧Rs κ r (arrOf st) (arrOf st).size st2∧(pendingOf st2).size≤1) ?_ ?_ ⟨rfl,R,.inl (by have:=pz R;lia)⟩) ?_)
  ·rintro k c st2 _ _ ⟨rfl,R2,hs⟩
   unfold Gh
   refine wpS_bind (wpS_get ?_)
   by_cases q:(pendingOf st2).size≤1
   ·rw [if_pos q]
    exact wpS_pure ⟨rfl,R2,q⟩
   ·rw [if_neg q]
    refine wpS_bind (Kz hc dm un R2 ?_ fun st3 R3 e3 _=>?_)
    ·have:Kw st2≤(pendingOf st2).size - 2:=by
      unfold Kw
      generalize (if (pendingOf st2).size - 2 > 0 then Option.map (fun x:Pd=>x.2.1) (pendingOf st2)[(pendingOf st2).size - 2 - 1]? else none)=o
      split <;> lia
     lia
    ·rw [if_neg (by decide)]
     exact wpS_pure ⟨rfl,R3,.inl (by lia)⟩
  ·rintro c st2 ⟨rfl,R2,hs⟩
   exact ⟨rfl,R2,by lia⟩
  ·rintro c st2 ⟨rfl,R2,hs⟩
   refine wpS_pure (h st2 R2.pm R2.fl ?_)
   have sz:(arrOf st2).size=(arrOf st).size:=R2.pm.size_eq
   have all:gM r (arrOf st2) 0 (arrOf st2).size:=by
    have rn:=R2.rn
    have pl:(pendingOf st2).toList.length≤1:=by simpa using hs
    match hq:(pendingOf st2).toList,pl with
    | [],_ =>
     rw [hq] at rn
     have rn:0=(arrOf st).size:=rn
     intro p q _ _ h3
     lia
    | [x],_ =>
     rw [hq] at rn
     obtain ⟨_,_,g3,g4⟩:=rn
     have g4:0+x.2.1=(arrOf st).size:=g4
     rw [g4,←sz] at g3
     exact g3
   have:=(uw (r:=r) (a:=arrOf st2) (i:=0) (Zah _)).mpr all
   unfold bL at this
   rw [Za5,ZaO (by simp)] at this
   exact this
end
end L2.TS
namespace L2
open PySem PySem.Spec PyProof PyProof.Rows
section
variable {K:Type} [DecidableEq K] {prog:Program}{w:World}{knd:HeapKind prog w K}{A:Around}{E:Value->Shared->Prop}{s:Shared}{d a:Addr}{k:K}{xs:List (K×Addr×Value)}
theorem Ca {dflt:Value}{Q:Value->Shared->Prop} (hu:knd.room A) (hkey:knd.is s.heap k a) (hm:s.heap.DictOfH knd d xs) (hsz:xs.length≤sizeLine)
  (h1:∀ p,atKey xs k=some p->Q p.2 { s with toks:=s.toks+knd.draws k })
  (h2:atKey xs k=none->∀ h',h'.DictOfH knd d (storedH xs k a dflt)->Heap.SameBut d s.heap h'->Q dflt { s with heap:=h',toks:=s.toks+knd.draws k }) :
  wpAny (model prog w) A (dictSetDefault d (.ref a) dflt) Q E s:=by
 obtain ⟨o,es,ep,ho,hc,hd,he,his,hn⟩:=hm
 unfold dictSetDefault
 try with_reducible refine wpAny_holding ?_
 refine wpAny_bind (knd.pyHash hu hkey ?_)
 refine wpAny_bind (wpAny_dictFind_heap (s:={ s with toks:=s.toks+knd.draws k }) hu hkey ho hd he his hn ?_ ?_)
 ·intro hno
  have hnot:k ∉ xs.map (·.1):=not_mem_keys_of_get hno
  refine wpAny_bind (wpAny_rule (wpAny_bind (wpAny_updateDictKeys (hz:=by have e:=size_of_entries he;lia) (s:={ s with toks:=s.toks+knd.draws k }) ho hd (wpAny_pure (h2 (atKey_none_of_get hno) _ ⟨_,_,ep+1,Heap.get?_update_self _ ho (Obj.isFreed_of_dict (Obj.data_mapDictKeys hd _)),
   hc.mapDictKeys _,Obj.data_mapDictKeys hd _,?_,?_,?_⟩ (Zbp ..))))))
  ·rw [storedH_new (atKey_none_of_get hno)]
   simp [he,entryOfKey]
  ·rw [storedH_new (atKey_none_of_get hno)]
   intro x hx
   rcases Zad.mp hx with hx | hx
   ·exact knd.keeps (his x hx) ho hd (Zbp ..)
   ·simp only [ZaE] at hx
    subst hx
    exact knd.keeps hkey ho hd (Zbp ..)
  ·rw [storedH_new (atKey_none_of_get hno)]
   rw [Za1,Zbm]
   refine ⟨hn,by simp,?_⟩
   intro x hx y hy
   simp only [Zak,List.map_nil,ZaE] at hy
   subst hy
   exact fun e=>hnot (e ▸ hx)
 ·intro j p hj
  refine wpAny_bind (wpAny_dictEntries (s:={ s with toks:=s.toks+knd.draws k }) ho hd ?_)
  rw [entry_at he j,hj]
  exact wpAny_bind (wpAny_rule (wpAny_pure (h1 p (atKey_of_get hn hj))))
theorem lU (hd:(d == sysModules)=false) (dflt:Value):MeetsIn prog w (Builtin.«dict.setdefault» ⟨[.ref d,.ref a,dflt],[]⟩) (fun A R s=>knd.room A.in1∧∃ k xs,knd.is s.heap k a∧s.heap.DictOfH knd d xs∧xs.length≤sizeLine ∧
   (∀ p,atKey xs k=some p->R (.ok (.ret p.2)) { s with toks:=s.toks+knd.draws k }) ∧
   (atKey xs k=none->∀ h',h'.DictOfH knd d (storedH xs k a dflt)->Heap.SameBut d s.heap h'->R (.ok (.ret dflt)) { s with heap:=h',toks:=s.toks+knd.draws k })) :=
 .of_wp fun A R s ⟨hu,k,xs,hkey,hm,hsz,h1,h2⟩=>by
  unfold Builtin.«dict.setdefault»
  refine wpAny_bind ?_
  unfold Builtin.Dict.keyAndDefault
  refine wpAny_bind (wpAny_notOrdered_dict hm.typeIs ?_)
  show wpAny _ _ (pure (d,Value.ref a,some dflt)) _ _ s
  refine wpAny_pure ?_
  show wpAny _ _ (if (d == sysModules)=true then _ else (dictSetDefault d (.ref a) dflt >>= _)) _ _ s
  rw [if_neg (by rw [hd];exact Zbb)]
  exact wpAny_bind (Ca hu hkey hm hsz (fun p hp=>wpAny_pure ⟨p.2,rfl,h1 p hp⟩) fun hn h' hm' hs'=>wpAny_pure ⟨dflt,rfl,h2 hn h' hm' hs'⟩)
end
section
variable {X:Cx}{pins:List (Addr×Obj)}{σ:St}{H:Hp}{s:Shared}{a b:Addr}{kvs:List (List Key×V)}{k:List Key}{z:V}{r:Value}{A:Around}{E:Value->Shared->Prop}
theorem Ib {Q:Value->Shared->Prop} (hu:A.units+1 < cLine) (I:Inv X pins σ H s) (e:H a=some (.dT kvs)) (eb:H b=some (.tup (k.map kV))) (hl:kvs.length < sizeLine) (rz:RelV z r)
  (h1:∀ v,iT kvs k=some v->∀ w' s',Inv X pins σ H s'->RelV v w'->Q w' s')
  (h2:iT kvs k=none->∀ s',Inv X pins σ (upd H a (.dT (putK kvs k z))) s'->Q r s'):wpAny (model X.prog X.w) A (call (.builtin "dict.setdefault") [.ref a,.ref b,r]) Q E s:=by
 obtain ⟨zz,hd,xs,rel,dd⟩:=Jw I.hok e
 have hz:xs.length≤sizeLine:=by rw [←Paired.length rel];exact zz
 have hl2:(putK kvs k z).length≤sizeLine:=by have:=iB kvs k z;lia
 have rv:=rel.val k
 refine call_meetsIn PySem.F.slot_dict_setdefault dd.typeIs PySem.F.entry_dict_setdefault (PySem.F.args_dict_setdefault_3 _ _ _) (lU (knd:=tupleKind (cM X.prog X.w)) hd r)
  ⟨tupleKind_room_in1 hu,k,xs,mZ I.hok eb,dd,hz,fun p hp=>?_,fun hn h' dd' hs=>?_⟩
 ·rw [hp] at rv
  cases e2:iT kvs k with
  | none=>rw [e2] at rv;exact rv.elim
  | some v'=>rw [e2] at rv;exact h1 v' e2 p.2 _ (I.tok _) rv
 ·rw [hn] at rv
  have hn':iT kvs k=none:=by
   cases e2:iT kvs k with
   | none=>rfl
   | some v'=>rw [e2] at rv;exact rv.elim
  obtain ⟨q,es,ep,hq,g2,g3,g4,_,g5⟩:=dd'
  refine h2 hn' _ (qC I (by rw [e];exact True.intro) hs ⟨q,hq⟩ ⟨hl2,hd,_,(rel.put k eb rz).keeps fun c ys ec=>?_,q,es,ep,hq,g2,g3,g4,g5⟩)
  rw [aG (Jg ec e (fun z=>nomatch z))]
  exact ec
end
noncomputable def Cd (td ty tz:TE):TE:=fun σ H Q=>td σ H fun x H1=>∃ a,x=.ref a∧IsD H1 a∧ty σ H1 fun y H2=>tz σ H2 fun z H3=>∃ kvs k b,H3 a=some (.dT kvs)∧y=.ref b∧H3 b=some (.tup (k.map kV))∧kvs.length < sizeLine ∧
 (∀ v,iT kvs k=some v->Q v H3)∧(iT kvs k=none->Q z (upd H3 a (.dT (putK kvs k z))))
section
variable {X:Cx}{o e f:Expr}{apos cpos:Pos}{td ty tz:TE}
theorem Ey (hu:X.A.units+1 < cLine) (ho:PE X o td) (he:PE X e ty) (hf:PE X f tz) (m:M2 X o "setdefault" apos e f cpos):PE X (.Call (.Attribute o "setdefault" apos) [e,f] [] cpos) (Cd td ty tz):=by
 intro pins s σ H Q I h
 refine wpAny_Call_method m.base m.few m.line PySem.F.plainAttrs_dict PySem.F.slot_dict_setdefault PySem.F.type_dict_setdefault (thn (ho pins s σ H _ I h) ?_)
 rintro u s1 ⟨x,H1,I1,rx,a,ex,d,q1⟩
 subst ex
 obtain rfl:u=Value.ref a:=rx
 obtain ⟨t1,t2,_⟩:=DY I1 d
 refine ⟨t1,t2,?_⟩
 rw [m.trees]
 refine Calls.callWith_builtin rfl (Calls.evalArgs_plain (Calls.spliced_cons (thn (he pins s1 σ H1 _ I1 q1) fun iv s2 ⟨y,H2,I2,ry,q2⟩ =>
  Calls.spliced_cons (thn (hf pins s2 σ H2 _ I2 q2) fun fv s3 ⟨z,H3,I3,rz,kvs,k,b,ea,ey,eb,hl,c1,c2⟩=>Calls.spliced_nil ?_))))
 subst ey
 obtain rfl:iv=Value.ref b:=ry
 exact Ib hu I3 ea eb hl rz (fun v hv w' s' I' r'=>⟨v,H3,I',r',c1 v hv⟩) fun hn s' I'=>⟨z,_,I',rz,c2 hn⟩
end
namespace MP
section
variable {K:PySem.W.Frag}{C:Cg}{te tb:TE}{F F1 F2 H H1 H2:Hp}{σ:St}{ρ:Rho}{D:Ends}{S:Addr->Prop}{v:V}{p:PV}
theorem Dp.zg {l:List (List Key×PV)} (d:Dp K F H S v (.dt l)):∃ (T:Nat->Addr->Prop) (a:Addr) (xs:List (List Key×V)),v=.ref a∧H a=some (.dT xs)∧S a∧(∀ j b,T j b->S b∧b≠a)∧(∀ i j b,T i b->T j b->i=j)∧xs.map (·.1)=l.map (·.1)∧∀ (j:Nat) x p,xs[j]?=some x->l[j]?=some p->Dp K F H (T j) x.2 p.2:=by
 cases d with
 | fr r st=>cases st
 | dt h hp hs dj hl hr=>exact ⟨_,_,_,rfl,h,hp,hs,dj,hl,hr⟩
noncomputable def qY (i:Nat) (fk fe:Fn PV):Sn:=fun ρ=>match yV i ρ with
 | some (.dt l)=>if l.length < sizeLine then gW (fk ρ) fun kp=>match kp with
  | .tup ks=>match eO ks with
   | some k=>match (dw l k).getD (.lst []) with
    | .lst row=>gW (fe (ρ.set i (some (.dp (.dt (bR l k (.lst row))))))) fun q=>if q.still=true∧row.length < sizeLine then some (.nx (ρ.set i (some (.dp (.dt (bR l k (.lst (row++[q]))))))))
     else none
    | _=>none
   | none=>none
  | _=>none else none
 | _=>none
theorem Gi {κ:Type} [DecidableEq κ] {k:κ}{p q:PV}:∀ {l:List (κ×PV)},bR (bR l k p) k q=bR l k q
 | []=>by simp [bR]
 | (a,r)::l=>by
  by_cases h:a=k
  ·simp [bR,h]
  ·simp [bR,h,Gi (l:=l)]
theorem KD {κ:Type} [DecidableEq κ] {k:κ}{p:PV}:∀ {l:List (κ×PV)},dw (bR l k p) k=some p
 | []=>by simp [bR,dw]
 | (a,r)::l=>by
  by_cases h:a=k
  ·simp [bR,dw,h]
  ·simp [bR,dw,h,KD (l:=l)]
theorem Ce {κ:Type} [DecidableEq κ] {k:κ}{p:PV}:∀ {l:List (κ×PV)},dw l k=some p->bR l k p=l
 | [],e=>by cases e
 | (a,r)::l,e=>by
  unfold dw at e
  by_cases h:a=k
  ·rw [if_pos h] at e;cases e;simp [bR,h]
  ·rw [if_neg h] at e;simp [bR,h,Ce e]
theorem xQ {i:Nat}{l:List (List Key×PV)}{k:List Key}{row:List PV}{q:PV}{P:Nat->Addr->Prop}{a b:Addr}{xs:List (List Key×V)}{w:V} (R:RE K C.toCf F H σ ρ) (d:RD K C.toCf F H σ ρ P) (ei:ρ[i]?=some (some (.dp (.dt l)))) (es:σ[i]?=some (some (.ref a))) (ha:H a=some (.dT xs)) (hv:iT xs k=some (.ref b)) (hp:dw l k=some (.lst row)) (rep:Rep K F w q) (st:q.still=true) :
  ∃ ys,H b=some (.lst ys)∧ys.length=row.length∧RE K C.toCf F (upd H b (.lst (ys++[w]))) σ (ρ.set i (some (.dp (.dt (bR l k (.lst (row++[q]))))))):=by
 obtain ⟨v,e1,dp⟩:=d.dp i _ ei
 rw [es] at e1;cases e1
 obtain ⟨T,a',xs',ea,ha',Pa,hT,dj,hkeys,hch⟩:=dp.zg
 cases ea
 rw [ha] at ha';cases ha'
 obtain ⟨j,w',lj,xj,hvw,hput⟩:=oK hkeys hp
 rw [hv] at hvw;cases hvw
 obtain ⟨T2,b',ys,eb,hb,sb,ht2,ds2⟩:=(hch j _ _ xj lj).bY
 have eb:V.ref b=.ref b':=eb
 cases eb
 have nab:a≠b:=fun z=>(hT j b sb).2 z.symm
 have nt:∀ c zs,H c=some (.tup zs)->upd H b (.lst (ys++[w])) c=some (.tup zs):=fun c zs z=>by
  rw [aG (fun y=>by subst y;rw [hb] at z;cases z)];exact z
 refine ⟨ys,hb,ds2.1,?_⟩
 refine R.Kd d ei es (hT j b sb).1 (fun zs z=>by cases z) (S':=P i) (.dt (S:=T) (xs:=xs) (by rw [aG nab];exact ha) Pa hT dj (by rw [hput,Ko lj];exact hkeys) fun m x r h1 h2=>?_) fun c z=>.inl z
 rw [hput] at h2
 rcases get_set h2 with ⟨f1,f2⟩ | ⟨f1,f2⟩
 ·subst f1;subst f2
  rw [xj] at h1;cases h1
  exact Dp.snoc hb sb ht2 ds2 rep st
 ·exact (hch m x r h1 f2).up (aR.refl _) (fun c o z y=>by rw [aG (fun e=>by subst e;exact f1 (dj j m c sb z))];exact y) nt
theorem Ie {i:Nat}{fk fe:Fn PV} (hk:MJ K C (aF K) tb fk) (he:MJ K C (aF K) te fe) :
  MS K C (Fp (tBM K "list" yE (Cd (lD i) tb (QG yw)) (mX te yw))) (qY i fk fe):=by
 intro F H σ ρ D o R e Pq
 unfold qY at e
 split at e
 case h_2=>cases e
 rename_i l hl
 split at e
 case isFalse=>cases e
 rename_i hlen
 obtain ⟨P0,d0⟩:=R.dd
 obtain ⟨v0,e0,dp0⟩:=d0.dp i _ (iy hl)
 obtain ⟨_,a,xs0,rfl,ha0,_⟩:=dp0.zg
 refine ⟨_,e0,a,rfl,.inr ⟨xs0,.inl ha0⟩,?_⟩
 rcases cL e with ⟨z,e1,rfl⟩ | ⟨kp,e1,hk1⟩
 ·exact hk F H σ ρ _ _ R e1 Pq
 refine hk F H σ ρ _ _ R e1 fun y F1 H1 u ry=>?_
 split at hk1
 case h_2=>cases hk1
 rename_i ks
 split at hk1
 case h_2=>cases hk1
 rename_i k hkk
 split at hk1
 case h_2=>cases hk1
 rename_i row hrow
 obtain ⟨bk,zs,rfl,hbk,rr⟩:=Rep.qD ry
 cases oJ hkk rr
 refine ⟨ZaZ _,fun n hn=>?_⟩
 have u1:Up F1 H1 F1 (upd H1 n (.lst [])):=Up.Eb u.fh hn
 have RA:=R.up u
 obtain ⟨P1,dA⟩:=RA.dd
 have R1:=RA.up u1
 have d1:=dA.up u1
 obtain ⟨v1,e1',dp1⟩:=d1.dp i _ (iy hl)
 rw [e0] at e1';cases e1'
 obtain ⟨T,a',xs,ea,ha,Pa,hT,dj,hkeys,hch⟩:=dp1.zg
 cases ea
 have lx:xs.length=l.length:=by have:=congrArg List.length hkeys;simpa using this
 have hbk2:=u1.fh _ _ hbk
 refine ⟨xs,k,bk,ha,rfl,hbk2,by rw [lx];exact hlen,fun v hv=>?_,fun hv=>?_⟩
 ·cases hvl:dw l k with
  | none=>rw [(vp hkeys hvl).1] at hv;cases hv
  | some q0 =>
   rw [hvl] at hrow
   have hrow:q0=.lst row:=hrow
   subst hrow
   rw [Ce hvl,Bx (iy hl)] at hk1
   obtain ⟨j,w',lj,xj,hvw,_⟩:=oK hkeys hvl
   rw [hv] at hvw;cases hvw
   obtain ⟨T2,b,ys,eb,hb,sb,_,_⟩:=(hch j _ _ xj lj).bY
   have eb:v=.ref b:=eb
   subst eb
   refine ⟨tyL hb,?_⟩
   rcases cL hk1 with ⟨z,e2,rfl⟩ | ⟨q,e2,hk2⟩
   ·exact he F1 _ σ ρ _ _ R1 e2 (PX.up Pq (u.trans u1).ff)
   split at hk2
   case isFalse=>cases hk2
   rename_i hq
   cases hk2
   refine he F1 _ σ ρ _ _ R1 e2 fun w F2 H2 u2 rep=>?_
   obtain ⟨ys2,hb2,yl,RR⟩:=xQ (R1.up u2) (d1.up u2) (iy hl) e0 (u2.hh _ _ ha) hv hvl rep hq.1
   exact ⟨b,ys2,w,rfl,rfl,hb2,by rw [yl];exact hq.2,Pq F2 _ σ ((u.trans u1).trans u2).ff RR⟩
 ·cases hvl:dw l k with
  | some q0 =>
   obtain ⟨j,w',_,_,hvw,_⟩:=oK hkeys hvl
   rw [hv] at hvw;cases hvw
  | none =>
   rw [hvl] at hrow
   have hrow:row=[]:=by
    have:PV.lst []=.lst row:=hrow
    cases this;rfl
   subst hrow
   have hput:=(vp hkeys hvl).2
   rw [Jv _ hv]
   have hn2:upd H1 n (.lst []) n=some (.lst []):=aJ
   have inP:∀ j x,P1 j x->x≠n:=fun j x z y=>by
    subst y
    obtain ⟨_,⟨o,k2,_⟩,_⟩:=dA.own j x z
    rw [hn] at k2;cases k2
   have nna:n≠a:=fun z=>inP i a Pa z.symm
   have il:=cG (iy hl)
   have R3:RE K C.toCf F1 (upd (upd H1 n (.lst [])) a (.dT (xs++[(k,.ref n)]))) σ (ρ.set i (some (.dp (.dt (bR l k (.lst [])))))):=by
    refine R1.Kd d1 (iy hl) e0 Pa (fun zs z=>by cases z) (S':=fun c=>P1 i c∨c=n) ?_ fun c z=>?_
    ·rw [hput]
     refine .dt (S:=fun m x=>(m < xs.length∧T m x)∨(m=xs.length∧x=n)) (xs:=xs++[(k,.ref n)]) aJ (.inl Pa) (fun m x z=>?_) (fun m m' x z z'=>?_) (by simp [hkeys]) fun m x r h1 h2=>?_
     ·rcases z with ⟨_,z⟩ | ⟨_,z⟩
      ·exact ⟨.inl (hT m x z).1,(hT m x z).2⟩
      ·exact ⟨.inr z,by rw [z];exact nna⟩
     ·rcases z with ⟨q,z⟩ | ⟨q,z⟩ <;> rcases z' with ⟨q',z'⟩ | ⟨q',z'⟩
      ·exact dj m m' x z z'
      ·exact absurd z' (inP i x (hT m x z).1)
      ·exact absurd z (inP i x (hT m' x z').1)
      ·rw [q,q']
     ·by_cases hm:m < xs.length
      ·rw [Zag hm] at h1
       rw [Zag (by lia)] at h2
       exact ((hch m x r h1 h2).up (aR.refl _) (fun c o z y=>by rw [aG (hT m c z).2];exact y) fun c zs z=>by rw [aG (fun y=>by subst y;rw [ha] at z;cases z)];exact z).mono fun c z=>.inl ⟨hm,z⟩
      ·have em:m=xs.length:=by
        have:=cG h1
        simp at this
        lia
       subst em
       rw [Zao (Zah _),Nat.sub_self] at h1
       rw [lx,Zao (Zah _),Nat.sub_self] at h2
       cases h1;cases h2
       exact .lst (S:=fun _ _=>False) (by rw [aG nna];exact hn2) (.inr ⟨rfl,rfl⟩) (fun _ _ q=>q.elim) (fun _ _ _ q=>q.elim) rfl fun j x p e1=>by simp at e1
    ·rcases z with z | z
     ·exact .inl z
     ·subst z
      exact .inr ⟨u.fh.free hn,⟨_,hn2,fun ys q=>by cases q⟩,(d1.own i a Pa).2.2.1,RA.rb.tD hn,fun j z=>inP j c z rfl,fun j q f=>RA.apart hn j q f⟩
   have hn3:upd (upd H1 n (.lst [])) a (.dT (xs++[(k,.ref n)])) n=some (.lst []):=by rw [aG nna];exact hn2
   refine ⟨tyL hn3,?_⟩
   rcases cL hk1 with ⟨z,e2,rfl⟩ | ⟨q,e2,hk2⟩
   ·exact he F1 _ σ _ _ _ R3 e2 (PX.up Pq u.ff)
   split at hk2
   case isFalse=>cases hk2
   rename_i hq
   cases hk2
   refine he F1 _ σ _ _ _ R3 e2 fun w F2 H2 u2 rep=>?_
   obtain ⟨P3,d3⟩:=R3.dd
   have ei:(ρ.set i (some (.dp (.dt (bR l k (.lst []))))))[i]?=some (some (.dp (.dt (bR l k (.lst []))))):=by rw [List.getElem?_set,if_pos rfl,if_pos il]
   have hvn:iT (xs++[(k,V.ref n)]) k=some (.ref n):=by
    unfold iT at hv ⊢
    rw [Option.map_eq_none_iff] at hv
    rw [List.find?_append,hv]
    simp
   obtain ⟨ys2,hb2,yl,RR⟩:=xQ (R3.up u2) (d3.up u2) ei e0 (u2.hh _ _ aJ) hvn KD rep hq.1
   rw [Km,Gi] at RR
   exact ⟨n,ys2,w,rfl,rfl,hb2,by rw [yl];exact hq.2,Pq F2 _ σ (u.ff.trans u2.ff) RR⟩
end
end MP
open PySem PySem.Spec PySem.W PyProof PyProof.Rows
noncomputable abbrev Sk:=Str×List Int
noncomputable def ltI:List Int->List Int->Bool
 | a::l,b::m=>if a=b then ltI l m else decide (a < b)
 | _,_=>false
noncomputable def iV (p q:Sk):Bool:=if p.1=q.1 then ltI p.2 q.2 else decide (p.1.cps.toList < q.1.cps.toList)
theorem vD:∀ l,ltI l l=false
 | []=>rfl
 | a::l=>by unfold ltI;rw [if_pos rfl];exact vD l
theorem xR:∀ {l m n:List Int},ltI l m=true->ltI m n=true->ltI l n=true
 | a::l,b::m,c::n,h1,h2=>by
  unfold ltI at h1 h2 ⊢
  by_cases e1:a=b
  ·rw [if_pos e1] at h1
   by_cases e2:b=c
   ·rw [if_pos e2] at h2;rw [if_pos (e1.trans e2)];exact xR h1 h2
   ·rw [if_neg e2] at h2;rw [if_neg (fun z=>e2 (e1.symm.trans z)),e1];exact h2
  ·rw [if_neg e1] at h1
   have h1:=of_decide_eq_true h1
   by_cases e2:b=c
   ·rw [if_neg (fun z=>e1 (z.trans e2.symm)),←e2];exact decide_eq_true h1
   ·rw [if_neg e2] at h2
    have h2:=of_decide_eq_true h2
    rw [if_neg (by omega)]
    exact decide_eq_true (by omega)
 | [],_,_,h1,_=>by cases h1
 | _::_,[],_,h1,_=>by cases h1
 | _::_,_::_,[],_,h2=>by cases h2
theorem xT:∀ {l m:List Int},l.length=m.length->l≠m->ltI l m=true∨ltI m l=true
 | [],[],_,h=>absurd rfl h
 | a::l,b::m,hl,h=>by
  unfold ltI
  by_cases e:a=b
  ·subst e
   rw [if_pos rfl,if_pos rfl]
   exact xT (by simpa using hl) fun z=>h (by rw [z])
  ·rw [if_neg e,if_neg (Za8 e)]
   rcases Int.lt_or_gt_of_ne e with q | q
   ·exact .inl (decide_eq_true q)
   ·exact .inr (decide_eq_true q)
theorem Rw {a b:Str} (h:a≠b):a.cps.toList≠b.cps.toList:=fun e=>h (by
 cases a;cases b
 simp only [Str.mk.injEq]
 exact Array.toList_inj.mp e)
theorem Ci (p:Sk):iV p p=false:=by unfold iV;rw [if_pos rfl];exact vD _
theorem Ez {p q t:Sk} (h1:iV p q=true) (h2:iV q t=true):iV p t=true:=by
 unfold iV at h1 h2 ⊢
 by_cases e1:p.1=q.1
 ·rw [if_pos e1] at h1
  by_cases e2:q.1=t.1
  ·rw [if_pos e2] at h2;rw [if_pos (e1.trans e2)];exact xR h1 h2
  ·rw [if_neg e2] at h2;rw [if_neg (fun z=>e2 (e1.symm.trans z)),e1];exact h2
 ·rw [if_neg e1] at h1
  have h1:=of_decide_eq_true h1
  by_cases e2:q.1=t.1
  ·rw [if_neg (fun z=>e1 (z.trans e2.symm)),←e2];exact decide_eq_true h1
  ·rw [if_neg e2] at h2
   have h2:=of_decide_eq_true h2
   have h3:=List.lt_trans h1 h2
   rw [if_neg (fun z=>by rw [z] at h3;exact List.lt_irrefl _ h3)]
   exact decide_eq_true h3
theorem vG {p q:Sk} (hl:p.2.length=q.2.length) (h:p≠q):iV p q=true∨iV q p=true:=by
 unfold iV
 by_cases e:p.1=q.1
 ·rw [if_pos e,if_pos e.symm]
  exact xT hl fun z=>h (Prod.ext e z)
 ·rw [if_neg e,if_neg (Za8 e)]
  by_cases q1:p.1.cps.toList < q.1.cps.toList
  ·exact .inl (decide_eq_true q1)
  ·refine .inr (decide_eq_true ?_)
   by_cases q2:q.1.cps.toList < p.1.cps.toList
   ·exact q2
   ·exact absurd (List.le_antisymm (List.not_lt.mp q2) (List.not_lt.mp q1)) (Rw e)
noncomputable def rkS (ps:List Sk) (i:Nat):Nat:=((List.range ps.length).filter fun j=>iV (ps.getD j default) (ps.getD i default)).length
structure pX (ps:List Sk) (m:Nat):Prop where
 nd:ps.Nodup
 ln:∀ p∈ps,p.2.length=m
section
variable {ps:List Sk}{m:Nat}
theorem sI {i:Nat} (h:i < ps.length):ps.getD i default∈ps:=Zaf (i:=i) (by rw [List.getD_eq_getElem?_getD,List.getElem?_eq_getElem h];rfl)
theorem pX.inj (o:pX ps m) {i j:Nat} (hi:i < ps.length) (hj:j < ps.length) (e:ps.getD i default=ps.getD j default):i=j:=by
 have g:∀ i,i < ps.length->ps[i]?=some (ps.getD i default):=fun i h=>by rw [List.getD_eq_getElem?_getD,List.getElem?_eq_getElem h];rfl
 exact (List.getElem?_inj hi o.nd).mp (by rw [g i hi,g j hj,e])
theorem Gj {i j:Nat} (hi:i < ps.length) (h:iV (ps.getD i default) (ps.getD j default)=true):rkS ps i < rkS ps j:=by
 unfold rkS
 have sub:((List.range ps.length).filter fun k=>iV (ps.getD k default) (ps.getD i default)).Sublist ((List.range ps.length).filter fun k=>iV (ps.getD k default) (ps.getD j default)):=by
  have e:((List.range ps.length).filter fun k=>iV (ps.getD k default) (ps.getD i default))=((List.range ps.length).filter fun k=>iV (ps.getD k default) (ps.getD j default)).filter fun k=>iV (ps.getD k default) (ps.getD i default):=by
   rw [List.filter_filter]
   refine List.filter_congr fun k _=>?_
   cases q:iV (ps.getD k default) (ps.getD i default) with
   | false=>rfl
   | true=>rw [Ez q h];rfl
  rw [e];exact Zbq
 refine Nat.lt_of_le_of_ne sub.length_le fun e=>?_
 have e:=sub.eq_of_length e
 have:i∈(List.range ps.length).filter fun k=>iV (ps.getD k default) (ps.getD j default):=Zaq.mpr ⟨Zau.mpr hi,h⟩
 rw [←e] at this
 have:=(Zaq.mp this).2
 rw [Ci] at this
 cases this
theorem pX.lt (o:pX ps m) {i j:Nat} (hi:i < ps.length) (hj:j < ps.length):iV (ps.getD i default) (ps.getD j default)=decide (rkS ps i < rkS ps j):=by
 cases q:iV (ps.getD i default) (ps.getD j default) with
 | true=>exact (decide_eq_true (Gj hi q)).symm
 | false =>
  refine (decide_eq_false fun z=>?_).symm
  by_cases e:ps.getD i default=ps.getD j default
  ·rw [o.inj hi hj e] at z;omega
  ·rcases vG (by rw [o.ln _ (sI hi),o.ln _ (sI hj)]) e with w | w
   ·rw [q] at w;cases w
   ·have:=Gj hj w;omega
theorem pX.TF (o:pX ps m) {i j:Nat} (hi:i < ps.length) (hj:j < ps.length) (e:rkS ps i=rkS ps j):i=j:=by
 refine o.inj hi hj (Classical.byContradiction fun ne=>?_)
 rcases vG (by rw [o.ln _ (sI hi),o.ln _ (sI hj)]) ne with w | w
 ·have:=Gj hi w;omega
 ·have:=Gj hj w;omega
noncomputable def fY (ps:List Sk):List Nat:=(List.range ps.length).mergeSort fun i j=>decide (rkS ps i≤rkS ps j)
theorem kO (ps:List Sk):(fY ps).Perm (List.range ps.length):=List.mergeSort_perm _ _
theorem qZ:∀ i∈fY ps,i < ps.length:=fun i hi=>Zau.mp ((kO ps).mem_iff.mp hi)
theorem KH (ps:List Sk):(fY ps).length=ps.length:=by rw [(kO ps).length_eq,List.length_range]
theorem pX.ord (o:pX ps m):(fY ps).Pairwise fun i j=>rkS ps i < rkS ps j:=by
 have h:=List.pairwise_mergeSort (le:=fun i j=>decide (rkS ps i≤rkS ps j)) (fun a b c h1 h2=>by simp at h1 h2 ⊢;lia) (fun a b=>by simp;lia) (List.range ps.length)
 have nd:(fY ps).Nodup:=(kO ps).nodup_iff.mpr ZbD
 refine (h.and nd).imp_of_mem fun {i j} hi hj q=>?_
 have h1:rkS ps i≤rkS ps j:=by simpa using q.1
 exact Nat.lt_of_le_of_ne h1 fun e=>q.2 (o.TF (qZ i hi) (qZ j hj) e)
theorem pX.Og (o:pX ps m) {l:List Nat} (p:l.Perm (List.range ps.length)) (s:l.Pairwise fun i j=>rkS ps i < rkS ps j):l=fY ps :=
 List.Perm.eq_of_pairwise (le:=fun i j=>rkS ps i < rkS ps j) (fun i j _ _ h1 h2=>by lia) s o.ord (p.trans (kO ps).symm)
end
open PySem PySem.Spec PySem.W PyProof PyProof.Rows
noncomputable def mQ (h:Heap) (v:Value) (p:Sk):Prop:=∃ a o t ys n,v=.ref a∧h.get? a=some o∧o.cls=.type "tuple"∧o.data=.seq (List.toArray (.str p.1 t::ys)) n∧IntsAre ys p.2
theorem xU:∀ {ys:List Value}{ns ms:List Int},IntsAre ys ns->IntsAre ys ms->ns=ms
 | _,_,_,.nil,.nil=>rfl
 | _,_,_,.cons n _ h1,.cons _ _ h2=>by rw [xU h1 h2]
section
variable {prog:Program}{w:World}{A:Around}{E:Value->Shared->Prop}{s:Shared}{v u:Value}{p q:Sk}
theorem mQ.same {h h':Heap} (x:mQ h v p) (k:∀ a o,v=.ref a->h.get? a=some o->h'.get? a=some o):mQ h' v p:=by
 obtain ⟨a,o,t,ys,n,e,h1,h2⟩:=x
 exact ⟨a,o,t,ys,n,e,k a o e h1,h2⟩
theorem mQ.Og {h:Heap} (x:mQ h v p) (y:mQ h v q):p=q:=by
 obtain ⟨a,o,t,ys,n,rfl,h1,_,h3,h4⟩:=x
 obtain ⟨a',o',t',ys',n',e,g1,_,g3,g4⟩:=y
 cases e
 rw [h1] at g1;cases g1
 rw [h3] at g3
 injection g3 with e1 _
 have e1:=congrArg Array.toList e1
 simp only at e1
 injection e1 with e2 e3
 injection e2 with e4 _
 subst e3
 exact Prod.ext e4 (xU h4 g4)
theorem Cj {Q:Bool->Shared->Prop}:∀ {ys zs:List Value}{ns ms:List Int} (i:Nat),IntsAre ys ns->IntsAre zs ms->ns.length=ms.length->Q (ltI ns ms) s->KatLex prog w A true false Q (ys.zip zs) (i+1) s
 | _,_,_,_,i,.nil,.nil,_,h=>kat_nil h
 | _,_,_,_,i,.cons n t h1,.cons m t' h2,hl,h=>by
  refine kat_cons (wpAny_eqBool_int ?_)
  by_cases d:n=m
  ·rw [beq_iff_eq.mpr d]
   refine kat_yes (Cj (i+1) h1 h2 (by simpa using hl) ?_)
   unfold ltI at h
   rw [if_pos d] at h
   exact h
  ·rw [beq_eq_false_iff_ne.mpr d]
   refine kat_no ?_
   rw [show (true && i+1 == 0)=false by simp]
   unfold ltI at h
   rw [if_neg d] at h
   exact kat_one _ _ (lt_int h)
 | _,_,_,_,_,.nil,.cons ..,hl,_=>by simp at hl
 | _,_,_,_,_,.cons ..,.nil,hl,_=>by simp at hl
theorem vH:∀ {ys:List Value}{ns:List Int},IntsAre ys ns->ys.length=ns.length
 | _,_,.nil=>rfl
 | _,_,.cons _ _ h=>by simp [vH h]
theorem mQ.lt (hp:mQ s.heap v p) (hq:mQ s.heap u q) (hl:p.2.length=q.2.length) {Q:Bool->Shared->Prop} (h:Q (iV p q) s):wpAny (model prog w) A (keyLt' (tuples' true) v u) Q E s:=by
 obtain ⟨a,o,t,ys,n,rfl,e1,e2,e3,e4⟩:=hp
 obtain ⟨b,o',t',zs,n',rfl,f1,f2,f3,f4⟩:=hq
 refine kat_lt e1 e3 f1 f3 (kat_cons (wpAny_eqBool_str ?_))
 rw [show decide ((List.toArray (Value.str p.1 t::ys)).size < (List.toArray (Value.str q.1 t'::zs)).size)=false by
  refine decide_eq_false ?_
  simp [vH e4,vH f4,hl]]
 by_cases c:p.1=q.1
 ·rw [decide_eq_true c]
  refine kat_yes (Cj 0 e4 f4 hl ?_)
  rw [show iV p q=ltI p.2 q.2 by unfold iV;rw [if_pos c]] at h
  exact h
 ·rw [decide_eq_false c]
  refine kat_no ?_
  show wpAny _ _ (oneLt' true _ _) _ _ _
  rw [show iV p q=decide (p.1.cps.toList < q.1.cps.toList) by unfold iV;rw [if_neg c]] at h
  exact oneLt_str h
theorem KJ {vs:List Value}{ps:List Sk}{m:Nat} (ok:pX ps m) (hl:vs.length=ps.length) (hp:∀ (i:Nat) v p,vs[i]?=some v->ps[i]?=some p->mQ s.heap v p) :
  wpAny (model prog w) A (sortRuns'.run (SortSt.mk' (tuples' true) (vs.toArray.zip vs.toArray) #[] 7 none)) (fun r s'=>s'=s∧failedOf r.2=none∧(arrOf r.2).map (·.2)=List.toArray ((fY ps).map fun i=>vs.getD i .none)∧(arrOf r.2).size=vs.length) E s:=by
 have gv:∀ i,i < vs.length->vs[i]?=some (vs.getD i .none):=fun i h=>by rw [List.getD_eq_getElem?_getD,List.getElem?_eq_getElem h];rfl
 have gp:∀ i,i < vs.length->ps[i]?=some (ps.getD i default):=fun i h=>by rw [List.getD_eq_getElem?_getD,List.getElem?_eq_getElem (by lia)];rfl
 have at_:∀ i,i < vs.length->mQ s.heap (vs.getD i .none) (ps.getD i default):=fun i h=>hp i _ _ (gv i h) (gp i h)
 have inj:∀ i j,i < vs.length->j < vs.length->vs.getD i .none=vs.getD j .none->i=j:=fun i j hi hj e=>ok.inj (by lia) (by lia) ((at_ i hi).Og (e ▸ at_ j hj))
 let ix:Keyed->Nat:=fun x=>@dite _ (∃ i,i < vs.length∧vs.getD i .none=x.1) (Classical.propDecidable _) (fun h=>Classical.choose h) fun _=>0
 have ixe:∀ i,i < vs.length->ix (vs.getD i .none,vs.getD i .none)=i:=fun i hi=>by
  have hx:∃ j,j < vs.length∧vs.getD j .none=(vs.getD i .none,vs.getD i .none).1:=⟨i,hi,rfl⟩
  show @dite _ _ (Classical.propDecidable _) _ _=i
  rw [@dif_pos _ (Classical.propDecidable _) hx]
  have:=Zbt hx
  exact inj _ i this.1 hi this.2
 have zl:(vs.toArray.zip vs.toArray).toList=(List.range vs.length).map fun i=>(vs.getD i .none,vs.getD i .none):=by
  rw [Array.toList_zip]
  apply Zbk
  intro i
  rw [List.getElem?_map]
  by_cases h:i < vs.length
  ·rw [Zba h,show (vs.toArray.toList.zip vs.toArray.toList)[i]?=some (vs.getD i .none,vs.getD i .none) from List.getElem?_zip_eq_some.mpr ⟨by simpa using gv i h,by simpa using gv i h⟩];rfl
  ·rw [ZaF (by simp;lia),ZaF (by simp;lia)];rfl
 have mz:∀ x∈(vs.toArray.zip vs.toArray).toList,∃ i,i < vs.length∧x=(vs.getD i .none,vs.getD i .none):=fun x hx=>by
  rw [zl] at hx
  obtain ⟨i,hi,e⟩:=Zae.mp hx
  exact ⟨i,Zau.mp hi,e.symm⟩
 have hc:TS.Cmp prog w A s (tuples' true) (fun x=>∃ i,i < vs.length∧x=(vs.getD i .none,vs.getD i .none)) (fun x=>rkS ps (ix x)):=by
  rintro x y ⟨i,hi,rfl⟩ ⟨j,hj,rfl⟩ E Q q
  have q:Q (decide (rkS ps (ix (vs.getD i .none,vs.getD i .none)) < rkS ps (ix (vs.getD j .none,vs.getD j .none)))) s:=q
  rw [ixe i hi,ixe j hj,←ok.lt (by lia) (by lia)] at q
  exact mQ.lt (at_ i hi) (at_ j hj) (by rw [ok.ln _ (sI (by lia)),ok.ln _ (sI (by lia))]) q
 have un:TS.Unl (fun x=>rkS ps (ix x)) (vs.toArray.zip vs.toArray).toList:=by
  rw [zl]
  unfold TS.Unl
  rw [ZaY]
  refine ZbD.imp_of_mem fun {i j} hi hj ne=>?_
  show rkS ps (ix (vs.getD i .none,vs.getD i .none))≠rkS ps (ix (vs.getD j .none,vs.getD j .none))
  rw [ixe i (Zau.mp hi),ixe j (Zau.mp hj)]
  exact fun e=>ne (ok.TF (by have:=Zau.mp hi;lia) (by have:=Zau.mp hj;lia) e)
 have run:=TS.wpS_sortRuns (E:=E) (st:=SortSt.mk' (tuples' true) (vs.toArray.zip vs.toArray) #[] 7 none) hc rfl rfl rfl mz un (Q:=fun _ st'=>failedOf st'=none∧(arrOf st').map (·.2)=List.toArray ((fY ps).map fun i=>vs.getD i .none)∧(arrOf st').size=vs.length) fun st' pm ff ss=>?_
 ·exact run
 ·have pl:=Za2.mp pm
  have pl:(arrOf st').toList.Perm (vs.toArray.zip vs.toArray).toList:=pl
  have back:(arrOf st').toList=((arrOf st').toList.map ix).map fun i=>(vs.getD i .none,vs.getD i .none):=by
   rw [List.map_map]
   refine ((ZaU fun x hx=>?_).trans (List.map_id _)).symm
   obtain ⟨i,hi,rfl⟩:=mz x (pl.mem_iff.mp hx)
   show (vs.getD (ix _) .none,vs.getD (ix _) .none)=_
   rw [ixe i hi];rfl
  have ip:((arrOf st').toList.map ix).Perm (List.range ps.length):=by
   refine (pl.map ix).trans ?_
   rw [zl,List.map_map,←hl]
   exact List.Perm.of_eq ((ZaU fun i hi=>ixe i (Zau.mp hi)).trans (List.map_id _))
  have is:((arrOf st').toList.map ix).Pairwise fun i j=>rkS ps i < rkS ps j:=by
   rw [ZaY];exact ss
  have eo:=ok.Og ip is
  refine ⟨ff,?_,?_⟩
  ·apply Array.toList_inj.mp
   rw [Array.toList_map,back,List.map_map,←eo]
   rfl
  ·rw [←ZaT,pl.length_eq,zl,List.length_map,List.length_range]
theorem vI {h:Heap}:∀ {vs:List Value}{ps:List Sk},ps.length=vs.length->(∀ (i:Nat) v p,vs[i]?=some v->ps[i]?=some p->mQ h v p)->∃ fs:List Value,KatTups h vs fs∧fs.length=vs.length∧∀ f∈fs,∃ x t,f=.str x t
 | [],_,_,_=>⟨[],.nil,rfl,fun _ h=>nomatch h⟩
 | v::vs,[],e,_=>by cases e
 | v::vs,p::ps,e,hp=>by
  obtain ⟨a,o,t,ys,n,rfl,e1,e2,e3,_⟩:=hp 0 v p rfl rfl
  obtain ⟨fs,k,l,z⟩:=vI (vs:=vs) (ps:=ps) (by simpa using e) fun i v p h1 h2=>hp (i+1) v p h1 h2
  refine ⟨_,.cons e1 e2 e3 rfl k,by simp [l],fun f hf=>?_⟩
  rcases Zas.mp hf with y | y
  ·exact ⟨_,_,y⟩
  ·exact z f y
theorem Ig {r:Nat->Nat->Prop}{n:Nat} (h:n < 2):(List.range n).Pairwise r:=by
 rcases (by omega:n=0∨n=1) with rfl | rfl
 ·exact .nil
 ·exact List.pairwise_singleton _ _
theorem Oh {vs:List Value} (h:vs.length < 2):((vs.toArray.zip vs.toArray).map (·.2)).toList=(List.range vs.length).map fun i=>vs.getD i .none:=by
 cases vs with
 | nil=>simp
 | cons v l =>
  cases l with
  | nil=>simp [List.range_succ]
  | cons u l=>simp at h;omega
theorem q9 {a:Addr}{vs:List Value}{ps:List Sk}{m:Nat}{n:Nat}{P:PySem.Fin->Shared->Prop} (ho:s.heap.get? a=some (seqObj "list" vs.toArray n)) (hl:ps.length=vs.length)
  (hp:∀ (i:Nat) v p,vs[i]?=some v->ps[i]?=some p->mQ s.heap v p) (ok:pX ps m) (hz64:vs.length < sizeLine)
  (h:(fY ps).length=vs.length->P (.done (.ret .none)) { s with heap:=sortedHeap s.heap a vs (List.toArray ((fY ps).map fun i=>vs.getD i .none)) }):wpAny (model prog w) A (Builtin.«list.sort» ⟨[.ref a],[]⟩) P E s:=by
 rw [list_sort_plain]
 have ha:a < s.heap.objs.size:=Zaj ho
 obtain ⟨c1,g1⟩:∃ c,(s.heap.update a (Obj.mapSeq fun _=>(#[]:Array Value))).get? a=some (seqObj "list" #[] c):=⟨_,get?_update_seq ho fun _=>#[]⟩
 have old:∀ (b:Addr) (o:Obj),b≠a->s.heap.get? b=some o->(((s.heap.update a (Obj.mapSeq fun _=>(#[]:Array Value))).push (seqObj "tuple" vs.toArray 0)).push (seqObj "list" #[] 0)).get? b=some o:=fun b o ne e =>
  Zac _ (Zac _ ((Heap.get?_update_ne _ _ _ _ ne).trans e))
 have g2:(((s.heap.update a (Obj.mapSeq fun _=>(#[]:Array Value))).push (seqObj "tuple" vs.toArray 0)).push (seqObj "list" #[] 0)).get? a=some (seqObj "list" #[] c1):=Zac _ (Zac _ g1)
 refine wpAny_bind (listItems_at ho rfl (wpAny_bind (listUpdate_at ho rfl ?_ (by rw [List.size_toArray];exact ZaG hz64) (ZaZ _))))
 refine wpAny_bind (seqEpoch_at g1 rfl (wpAny_bind (wpAny_newTuple (wpAny_bind (wpAny_newList (wpAny_holding ?_) (ZaZ _))) (by show vs.length≤_;exact ZaG hz64))))
 show wpAny (model prog w) A _ P E { s with heap:=((s.heap.update a (Obj.mapSeq fun _=>(#[]:Array Value))).push (seqObj "tuple" vs.toArray 0)).push (seqObj "list" #[] 0) }
 dsimp only
 by_cases h2:vs.toArray.size < 2
 ·rw [if_pos h2,if_pos h2]
  refine wpAny_bind (wpAny_pure ?_)
  rw [StateT.run_pure]
  refine wpAny_bind (wpAny_pure ?_)
  dsimp only
  have eo:(arrOf (SortSt.mk' general' (vs.toArray.zip vs.toArray) #[] 7 none)).map (·.2)=List.toArray ((fY ps).map fun i=>vs.getD i .none):=by
   show (vs.toArray.zip vs.toArray).map (·.2)=_
   apply Array.toList_inj.mp
   rw [List.size_toArray] at h2
   have eo:fY ps=List.range vs.length:=by
    exact (ok.Og (by rw [hl]) (Ig h2)).symm
   rw [eo]
   exact Oh h2
  rw [eo]
  refine wpAny_bind (seqEpoch_at g2 rfl (wpAny_bind (listUpdate_at g2 rfl ?_ (ZaZ _) ?_)))
  ·simp only [bne_self_eq_false,Za0,if_false]
   rw [List.size_toArray] at h2
   exact wpAny_pure (h (by rw [KH,hl]))
  ·rw [List.size_toArray] at h2
   rw [←eo]
   refine Zaz (Nat.le_of_eq (Array.size_map ..)) ?_
   show (vs.toArray.zip vs.toArray).size≤_
   rw [Array.size_zip,List.size_toArray,Nat.min_self]
   exact Nat.le_succ_of_le (ZaG hz64)
 ·rw [if_neg h2,if_neg h2]
  rw [List.size_toArray] at h2
  have notA:∀ b o,(∃ v∈vs,v=.ref b)->s.heap.get? b=some o->b≠a:=by
   rintro b o ⟨v,hv,e⟩ hb z
   obtain ⟨i,hi⟩:=Zbi hv
   have il:i < ps.length:=by rw [hl];exact (Zab.mp hi).1
   obtain ⟨b',o',t,ys,n',e',f1,f2,_⟩:=hp i v _ hi (List.getElem?_eq_getElem il)
   rw [e] at e'
   cases e'
   rw [z,ho] at f1
   cases f1
   exact absurd (show Value.type "list"=Value.type "tuple" from f2) (by decide)
  have hp2:∀ (i:Nat) v p,vs[i]?=some v->ps[i]?=some p->mQ (((s.heap.update a (Obj.mapSeq fun _=>(#[]:Array Value))).push (seqObj "tuple" vs.toArray 0)).push (seqObj "list" #[] 0)) v p:=fun i v p h1 h2 =>
   (hp i v p h1 h2).same fun b o e1 e2=>old b o (notA b o ⟨v,Zaf h1,e1⟩ e2) e2
  obtain ⟨fs,k1,k2,k3⟩:=vI hl hp2
  refine wpAny_bind (kat_kind (s:={ s with heap:=_ }) (T:=.type "str") k1 (by omega) (fun f hf=>?_) (by decide) ?_)
  ·obtain ⟨x,t,rfl⟩:=k3 f hf
   exact .now
  show wpAny _ _ _ _ _ _
  rw [show tuples' (Value.type "str" != Value.type "tuple")=tuples' true from rfl]
  have run:=KJ (prog:=prog) (w:=w) (A:=A) (E:=E) (s:={ s with heap:=((s.heap.update a (Obj.mapSeq fun _=>(#[]:Array Value))).push (seqObj "tuple" vs.toArray 0)).push (seqObj "list" #[] 0) }) ok hl.symm hp2
  refine wpAny_bind (wpAny_mono run ?_ fun _ _ e=>e)
  rintro ⟨⟨⟩,st'⟩ s' ⟨rfl,hf,hm,hz⟩
  dsimp only
  rw [hm]
  refine wpAny_bind (seqEpoch_at g2 rfl (wpAny_bind (listUpdate_at g2 rfl ?_ (ZaZ _) ?_)))
  ·rw [hf]
   simp only [bne_self_eq_false,Za0,if_false]
   refine wpAny_pure (h ?_)
   have:=congrArg Array.size hm
   rw [Array.size_map,hz,List.size_toArray,List.length_map] at this
   exact this.symm
  ·rw [←hm]
   refine Zaz (Nat.le_of_eq ((Array.size_map ..).trans hz)) (Nat.le_succ_of_le (ZaG hz64))
end
open PySem PySem.Spec PySem.W PyProof PyProof.Rows
noncomputable def skV (p:Sk):HO:=.tup (.str p.1::p.2.map V.int)
noncomputable def skK (p:Sk):List Key:=.inr p.1::p.2.map .inl
theorem TJ (p:Sk):HO.tup ((skK p).map kV)=skV p:=by unfold skK skV;simp [kV,Function.comp_def]
theorem Qc {h:Heap}{b:Addr}{ob:Obj}{its:List Value}{n:Nat}{p:Sk} (r:Vals (.str p.1::p.2.map V.int) its) (w1:h.get? b=some ob) (w2:ob.cls=.type "tuple") (w3:ob.data=.seq its.toArray n):mQ h (.ref b) p:=by
 cases r with
 | cons r1 r2 =>
  obtain ⟨t1,rfl⟩:=r1
  exact ⟨b,ob,t1,_,n,rfl,w1,w2,w3,MP.Bj r2⟩
noncomputable def Gk (K:PySem.W.Frag):List V->Hp->VK->Prop:=fun xs H Q=>∃ (p:Addr) (bs:List Addr) (ps:List Sk) (m:Nat),xs=[.ref p]∧SqL K H p (bs.map V.ref)∧bs.length=ps.length∧(∀ (j:Nat) b p,bs[j]?=some b->ps[j]?=some p->H b=some (skV p))∧pX ps m∧ps.length < sizeLine ∧
 ∀ l,H l=none->Q (.ref l) (upd H l (.lst ((fY ps).map fun j=>.ref (bs.getD j 0))))
noncomputable def tR:List Key->Option (List Int)
 | []=>some []
 | .inl n::l=>(tR l).map (n::·)
 | _=>none
theorem Ck:∀ {l:List Key}{ns:List Int},tR l=some ns->l=ns.map .inl
 | [],ns,h=>by cases h;rfl
 | .inl n::l,ns,h=>by
  have h:(tR l).map (n::·)=some ns:=h
  obtain ⟨q,e1,rfl⟩:=Zbr.mp h
  rw [Ck e1];rfl
noncomputable def kSk:List Key->Option Sk
 | .inr x::l=>(tR l).map fun ns=>(x,ns)
 | _=>none
theorem Rx:∀ {l:List Key}{p:Sk},kSk l=some p->l=skK p
 | .inr x::l,p,h=>by
  have h:(tR l).map (fun ns=>(x,ns))=some p:=h
  obtain ⟨q,e1,rfl⟩:=Zbr.mp h
  rw [Ck e1];rfl
noncomputable def wO:List (List Key)->Option (List Sk)
 | []=>some []
 | k::ks=>match kSk k,wO ks with
  | some p,some ps=>some (p::ps)
  | _,_=>none
theorem Gm:∀ {ks:List (List Key)}{ps:List Sk},wO ks=some ps->ps.length=ks.length∧∀ (i:Nat) p,ps[i]?=some p->ks[i]?=some (skK p)
 | [],ps,h=>by cases h;exact ⟨rfl,fun i p e=>by simp at e⟩
 | k::ks,ps,h=>by
  unfold wO at h
  split at h
  ·rename_i p qs h1 h2
   cases h
   obtain ⟨g1,g2⟩:=Gm h2
   refine ⟨by simp [g1],fun i q e=>?_⟩
   cases i with
   | zero=>cases e;rw [Rx h1];rfl
   | succ i=>exact g2 i q (by simpa using e)
  ·cases h
noncomputable def Gn:List V->Hp->VK->Prop:=fun xs H Q=>∃ p kvs ps m,xs=[.ref p]∧Rd H p (.dT kvs)∧wO (kvs.map (·.1))=some ps∧pX ps m∧ps.length < sizeLine∧∀ l (ad:Nat->Addr),H l=none->(∀ j∈fY ps,H (ad j)=some (skV (ps.getD j default)))->Q (.ref l) (upd H l (.lst ((fY ps).map fun j=>.ref (ad j))))
section
variable {X:Cx}
theorem o9:sY X (.builtin "sorted") (Gk X.K):=by
 intro pins s σ H xs us Q I rv h
 obtain ⟨p,bs,ps,m,rfl,hq,hl,ht,ok,h64,q⟩:=h
 obtain ⟨u,rfl,ru⟩:=rv.one
 cases ru
 obtain ⟨its,r,pl,hz⟩:=I.list hq
 have ei:=xM r
 subst ei
 have hlen:(bs.map Value.ref).length=ps.length:=by rw [List.length_map,hl]
 have prs:∀ (i:Nat) v p,(bs.map Value.ref)[i]?=some v->ps[i]?=some p->mQ s.heap v p:=fun i v p h1 h2=>by
  rw [List.getElem?_map] at h1
  cases hb:bs[i]? with
  | none=>rw [hb] at h1;cases h1
  | some b =>
   rw [hb] at h1
   cases h1
   obtain ⟨_,its,r,⟨ob,w1,w2,n,w3⟩,_⟩:=(show dG X.prog X.w H s.heap b (skV p) from I.hok b _ (ht i b p hb h2))
   exact Qc r w1 w2 w3
 refine Calls.call_function_entry kind_sorted plain_sorted entry_sorted (args_sorted1 _) ?_
 unfold Builtin.«sorted»
 refine wpAny_bind (m:=checkCount "sorted" 1 1 _) (wpAny_pure ?_)
 refine wpAny_bind (collect_list pl.isList ?_ (by rw [hlen];exact ZaG h64))
 refine wpAny_bind (wpAny_newList ?_ (by rw [hlen];exact ZaG h64))
 have hsz:((s.heap.push (seqObj "list" #[] 0)).update s.heap.objs.size (Obj.mapSeq (·++(bs.map Value.ref).toArray))).objs.size=s.heap.objs.size+1:=by
  rw [Heap.size_update,size_push']
 have hoL:(((s.heap.push (seqObj "list" #[] 0)).update s.heap.objs.size (Obj.mapSeq (·++(bs.map Value.ref).toArray))).push (seqObj "list" (bs.map Value.ref).toArray 0)).get? (s.heap.objs.size+1)=some (seqObj "list" (bs.map Value.ref).toArray 0):=by
  rw [←hsz];exact Zal _ rfl
 have keep:∀ b o,s.heap.get? b=some o->(((s.heap.push (seqObj "list" #[] 0)).update s.heap.objs.size (Obj.mapSeq (·++(bs.map Value.ref).toArray))).push (seqObj "list" (bs.map Value.ref).toArray 0)).get? b=some o:=fun b o q=>by
  have hlt:b < s.heap.objs.size:=Zaj q
  rw [Heap.get?_push_ne _ _ _ (by rw [hsz];exact Zaw (Nat.lt_succ_of_lt hlt)),Heap.get?_update_ne _ _ _ _ (Zaw hlt),Heap.get?_push_ne _ _ _ (Zaw hlt)]
  exact q
 show wpAny _ _ _ _ _ { s with heap:=((s.heap.push (seqObj "list" #[] 0)).update s.heap.objs.size (Obj.mapSeq (·++(bs.map Value.ref).toArray))).push (seqObj "list" (bs.map Value.ref).toArray 0) }
 rw [hsz]
 refine wpAny_bind (wpAny_holding (wpAny_call_entry slot_list_sort ⟨_,hoL,rfl⟩ entry_list_sort (q9 (ps:=ps) hoL hlen.symm (fun i v p h1 h2=>(prs i v p h1 h2).same fun b o _ e=>keep b o e) ok (by rw [hlen];exact h64) fun hn=>⟨_,rfl,?_⟩) (args_list_sort _)))
 refine wpAny_pure ⟨_,rfl,?_⟩
 obtain ⟨e',he⟩:=sortedAll_at s.heap (bs.map Value.ref) (List.toArray ((fY ps).map fun i=>(bs.map Value.ref).getD i .none))
 have fresh:H (s.heap.objs.size+1)=none:=I.hok.fresh (Nat.le_succ _)
 refine ⟨.ref (s.heap.objs.size+1),upd H (s.heap.objs.size+1) (.lst ((fY ps).map fun j=>.ref (bs.getD j 0))),I.laid (t':=s.toks) (fun b o=>sortedAll_old (vs:=bs.map Value.ref)) (Nat.le_succ _) ⟨?_,(fY ps).map fun i=>(bs.map Value.ref).getD i .none,e',vo fun j hj=>?_,he⟩,rfl,q _ fresh⟩
 ·rw [List.length_map,hn,hlen]
  exact ZaG h64
 ·have hj:j < bs.length:=by rw [hl];exact qZ j hj
  rw [List.getD_eq_getElem?_getD (l:=bs.map Value.ref),List.getElem?_map,List.getD_eq_getElem?_getD (l:=bs),List.getElem?_eq_getElem hj]
  rfl
theorem wQ (hc:X.calm=true):sY X (.builtin "sorted") Gn:=by
 intro pins s σ H xs us Q I rv h
 obtain ⟨p,kvs,ps,m,rfl,e,hk,ok,h64,q⟩:=h
 obtain ⟨u,rfl,ru⟩:=rv.one
 cases ru
 obtain ⟨z,hd,ts,rel,o,es,ep,d1,d2,d3,d4,d5,d6⟩:=sZ I.hok e
 obtain ⟨lx,ax⟩:=rel.at
 obtain ⟨lp,ap⟩:=Gm hk
 rw [List.length_map] at lp
 have sz:es.size=ts.length:=by rw [←ZaT,d4,List.length_map]
 have at1:∀ j,j < ps.length->∃ b u,ts[j]?=some (skK (ps.getD j default),b,u)∧H b=some (skV (ps.getD j default))∧es[j]?=some (entryOfKey (tupleKind (cM X.prog X.w)) (skK (ps.getD j default),b,u)):=fun j hj=>by
  have e1:ps[j]?=some (ps.getD j default):=by rw [List.getD_eq_getElem?_getD,List.getElem?_eq_getElem hj];rfl
  obtain ⟨b,u,h1,h2⟩:=ax j _ (ap j _ e1)
  rw [TJ] at h2
  refine ⟨b,u,h1,h2,?_⟩
  rw [←Zax,d4,List.getElem?_map,h1];rfl
 refine Calls.call_function_entry kind_sorted plain_sorted entry_sorted (args_sorted1 _) ?_
 unfold Builtin.«sorted»
 refine wpAny_bind (m:=checkCount "sorted" 1 1 _) (wpAny_pure ?_)
 refine wpAny_bind (PySem.W.kdu_collect (NK (es:=es) (ep:=ep) hd) (I.ok.hd hc) ⟨o,d1,d2,d3⟩ (by lia) fun h' tk acc hold hacc=>?_)
 have hla:acc.toList.length=ps.length:=by rw [ZaT,hacc.1];lia
 have acc_at:∀ (j:Nat) b,(∃ u,ts[j]?=some (skK (ps.getD j default),b,u))->acc.toList[j]?=some (.ref b):=fun j b ⟨u,hu⟩=>by
  have hj:j < acc.toList.length:=by rw [hla];have:=(Zab.mp hu).1;lia
  obtain ⟨x,y1,y2⟩:=hacc.2 j _ (by rw [←Zax];exact List.getElem?_eq_getElem hj)
  rw [←Zax,d4,List.getElem?_map,hu] at y1
  cases y1
  rw [List.getElem?_eq_getElem hj,y2];rfl
 have I1:Inv X pins σ H { s with heap:=h',toks:=tk }:=I.kept hold
 have prs:∀ (i:Nat) v p,acc.toList[i]?=some v->ps[i]?=some p->mQ h' v p:=fun i v p h1 h2=>by
  have hi:i < ps.length:=(Zab.mp h2).1
  have ep':ps.getD i default=p:=by rw [List.getD_eq_getElem?_getD,h2];rfl
  obtain ⟨b,u,y1,y2,_⟩:=at1 i hi
  rw [acc_at i b ⟨u,y1⟩] at h1
  cases h1
  rw [ep'] at y2
  obtain ⟨_,its,r,⟨ob,w1,w2,n,w3⟩,_⟩:=(show dG X.prog X.w H h' b (skV p) from I1.hok b _ y2)
  exact Qc r w1 w2 w3
 refine wpAny_bind (wpAny_newList ?_ (by rw [hla];exact ZaG h64))
 have hoL:(h'.push (seqObj "list" acc.toList.toArray 0)).get? h'.objs.size=some (seqObj "list" acc.toList.toArray 0):=Zal _ rfl
 show wpAny _ _ _ _ _ { s with heap:=h'.push (seqObj "list" acc.toList.toArray 0),toks:=tk }
 refine wpAny_bind (wpAny_holding (wpAny_call_entry slot_list_sort ⟨_,hoL,rfl⟩ entry_list_sort (q9 (ps:=ps) hoL hla.symm (fun i v p h1 h2=>(prs i v p h1 h2).same fun b o _ e=>Zac _ e) ok (by rw [hla];exact h64) fun hn=>⟨_,rfl,?_⟩) (args_list_sort _)))
 refine wpAny_pure ⟨_,rfl,?_⟩
 obtain ⟨e',he⟩:=sortedHeap_at (out:=List.toArray ((fY ps).map fun i=>acc.toList.getD i .none)) hoL
 have fresh:H h'.objs.size=none:=I1.hok.fresh (Zah _)
 have ads:∀ j∈fY ps,∃ b u,ts[j]?=some (skK (ps.getD j default),b,u)∧H b=some (skV (ps.getD j default)):=fun j hj=>by
  obtain ⟨b,u,y1,y2,_⟩:=at1 j (qZ j hj)
  exact ⟨b,u,y1,y2⟩
 refine ⟨.ref h'.objs.size,upd H h'.objs.size (.lst ((fY ps).map fun j=>.ref (ts.getD j ([],0,.none)).2.1)),I1.laid (t':=tk) (fun b o=>yW) (Zah _) ⟨?_,(fY ps).map fun i=>acc.toList.getD i .none,e',vo fun j hj=>?_,he⟩,rfl,q _ (fun j=>(ts.getD j ([],0,.none)).2.1) fresh fun j hj=>?_⟩
 ·rw [List.length_map,hn,hla]
  exact ZaG h64
 ·obtain ⟨b,u,y1,y2⟩:=ads j hj
  rw [List.getD_eq_getElem?_getD (l:=ts),y1,List.getD_eq_getElem?_getD (l:=acc.toList),acc_at j b ⟨u,y1⟩]
  rfl
 ·obtain ⟨b,u,y1,y2⟩:=ads j hj
  rw [List.getD_eq_getElem?_getD (l:=ts),y1]
  exact y2
end
end L2
namespace L2.MP
open PySem PySem.Spec PySem.W PyProof PyProof.Rows
noncomputable def skP (p:Sk):PV:=.tup (.str p.1::p.2.map PV.int)
noncomputable def Ry:PV->Option Sk
 | .tup (.str x::l)=>(ni l).map fun ns=>(x,ns)
 | _=>none
theorem lV {l:List PV}:∀ {ns:List Int},ni l=some ns->l=ns.map PV.int:=by
 induction l with
 | nil=>intro ns h;cases h;rfl
 | cons a l ih =>
  intro ns h
  have inv:∃ n,a=.int n:=by
   clear ih
   cases a <;> first | exact noS h | exact ⟨_,rfl⟩
  obtain ⟨n,rfl⟩:=inv
  have h:(ni l).map (n::·)=some ns:=h
  obtain ⟨q,e1,rfl⟩:=Zbr.mp h
  rw [ih e1];rfl
theorem Oi {p:PV}{q:Sk} (h:Ry p=some q):p=skP q:=by
 have inv:∃ x l,p=.tup (.str x::l):=by
  cases p <;> first | exact noS h | (rename_i l;cases l <;> first | exact noS h | (rename_i a l;cases a <;> first | exact noS h | exact ⟨_,_,rfl⟩))
 obtain ⟨x,l,rfl⟩:=inv
 have h:(ni l).map (fun ns=>(x,ns))=some q:=h
 obtain ⟨ns,e1,rfl⟩:=Zbr.mp h
 rw [lV e1];rfl
noncomputable def vJ:List PV->Option (List Sk)
 | []=>some []
 | p::l=>match Ry p,vJ l with
  | some q,some qs=>some (q::qs)
  | _,_=>none
theorem Cm:∀ {l:List PV}{ps:List Sk},vJ l=some ps->l=ps.map skP
 | [],ps,h=>by cases h;rfl
 | p::l,ps,h=>by
  unfold vJ at h
  split at h
  ·rename_i q qs h1 h2
   cases h
   rw [Oi h1,Cm h2];rfl
  ·cases h
noncomputable def jM (ps:List Sk):Bool:=match ps with
 | []=>true
 | p::l=>l.all fun q=>q.2.length == p.2.length
theorem vK {ps:List Sk} (h:jM ps=true) (nd:ps.Nodup):∃ m,pX ps m:=by
 cases ps with
 | nil=>exact ⟨0,nd,fun p hp=>(nomatch hp)⟩
 | cons p l =>
  refine ⟨p.2.length,nd,fun q hq=>?_⟩
  rcases Zas.mp hq with e | e
  ·rw [e]
  ·exact beq_iff_eq.mp (ZaW.mp h q e)
noncomputable def oN (l:List PV):Option (Res PV):=match vJ l with
 | some ps=>if ps.Nodup∧jM ps=true∧ps.length < sizeLine then some (.ok (.lst ((fY ps).map fun j=>skP (ps.getD j default)))) else none
 | none=>none
noncomputable def vL:PV->Option (Res PV)
 | .dt l=>match wO (l.map (·.1)) with
  | some ps=>if ps.Nodup∧jM ps=true∧ps.length < sizeLine then some (.ok (.lst ((fY ps).map fun j=>skP (ps.getD j default)))) else none
  | none=>none
 | _=>none
section
variable {K:PySem.W.Frag}{C:Cg}
theorem xV {F:Hp}:∀ {ns:List Int}{xs:List V},bA K F xs (ns.map PV.int)->xs=ns.map V.int
 | [],xs,r=>r.iu
 | n::ns,xs,r=>by
  obtain ⟨v,ys,rfl,r1,r2⟩:=bA.dD (show bA K F xs (PV.int n::ns.map PV.int) from r)
  cases Rep.bu r1
  rw [xV r2];rfl
theorem Rz {F:Hp}{v:V}{p:Sk} (r:Rep K F v (skP p)):∃ b,v=.ref b∧F b=some (skV p):=by
 obtain ⟨b,zs,rfl,hb,rr⟩:=Rep.qD (show Rep K F v (.tup (.str p.1::p.2.map PV.int)) from r)
 obtain ⟨v1,ys1,rfl,s1,s2⟩:=rr.dD
 cases Rep.bU s1
 rw [xV s2] at hb
 exact ⟨b,rfl,hb⟩
theorem KN {F:Hp}{b:Addr}{p:Sk} (h:F b=some (skV p)):Rep K F (.ref b) (skP p):=by
 refine .tup h (by simp) fun j x q e1 e2=>?_
 cases j with
 | zero=>cases e1;cases e2;exact .str
 | succ j =>
  rw [List.getElem?_cons_succ,List.getElem?_map] at e1 e2
  cases ej:p.2[j]? with
  | none=>rw [ej] at e1;cases e1
  | some n=>rw [ej] at e1 e2;cases e1;cases e2;exact .int
theorem Cp {F:Hp}:∀ {ps:List Sk}{xs:List V},bA K F xs (ps.map skP)->∃ bs:List Addr,xs=bs.map V.ref∧bs.length=ps.length∧∀ (j:Nat) b p,bs[j]?=some b->ps[j]?=some p->F b=some (skV p)
 | [],xs,r=>⟨[],r.iu,rfl,fun j b p e=>by simp at e⟩
 | p::ps,xs,r=>by
  obtain ⟨v,ys,rfl,r1,r2⟩:=bA.dD (show bA K F xs (skP p::ps.map skP) from r)
  obtain ⟨bs,rfl,h2,h3⟩:=Cp r2
  obtain ⟨b,rfl,hb⟩:=Rz r1
  refine ⟨b::bs,rfl,by simp [h2],fun j b' p' e2 e3=>?_⟩
  cases j with
  | zero=>cases e2;cases e3;exact hb
  | succ j=>exact h3 j b' p' (by simpa using e2) (by simpa using e3)
theorem Gp:R1O K C (aV K) (Gk K) oN:=by
 intro F H x a res Q s ha e P
 unfold oN at e
 cases h:vJ a with
 | none=>rw [h] at e;cases e
 | some ps =>
  rw [h] at e
  have e:(if ps.Nodup∧jM ps=true∧ps.length < sizeLine then some (Res.ok (PV.lst ((fY ps).map fun j=>skP (ps.getD j default)))) else none)=some res:=e
  split at e
  ·rename_i hc
   cases e
   obtain ⟨m,ok⟩:=vK hc.2.1 hc.1
   obtain ⟨b,xs,rfl,h1,r1⟩:=ha
   rw [Cm h] at r1
   obtain ⟨bs,rfl,k1,k2⟩:=Cp r1
   refine ⟨b,bs,ps,m,rfl,h1,k1,fun j b p e1 e2=>s _ _ (k2 j b p e1 e2),ok,hc.2.2,fun l hl=>P l F _ (Up.Eb s hl) hl (s.free hl) ⟨_,aJ,by simp,fun j x p e1 e2=>?_⟩⟩
   rw [List.getElem?_map] at e1 e2
   cases ej:(fY ps)[j]? with
   | none=>rw [ej] at e1;cases e1
   | some i =>
    rw [ej] at e1 e2
    cases e1
    cases e2
    have hi:=qZ i (Zaf ej)
    have g1:bs[i]?=some (bs.getD i 0):=by rw [List.getD_eq_getElem?_getD,List.getElem?_eq_getElem (by omega)];rfl
    have g2:ps[i]?=some (ps.getD i default):=by rw [List.getD_eq_getElem?_getD,List.getElem?_eq_getElem hi];rfl
    exact KN (k2 i _ _ g1 g2)
  ·cases e
theorem KQ:R1O K C (aD K) Gn vL:=by
 intro F H x a res Q s ha e P
 match a,e with
 | .dt l,e =>
  obtain ⟨_,ad,rfl,xs,h1,h2,h3⟩:=ha
  replace e:(match wO (l.map (·.1)) with
   | some ps=>if ps.Nodup∧jM ps=true∧ps.length < sizeLine then some (Res.ok (PV.lst ((fY ps).map fun j=>skP (ps.getD j default)))) else none
   | none=>none)=some res:=e
  cases h:wO (l.map (·.1)) with
  | none=>rw [h] at e;cases e
  | some ps =>
   rw [h] at e
   have e:(if ps.Nodup∧jM ps=true∧ps.length < sizeLine then some (Res.ok (PV.lst ((fY ps).map fun j=>skP (ps.getD j default)))) else none)=some res:=e
   split at e
   ·rename_i hc
    cases e
    obtain ⟨m,ok⟩:=vK hc.2.1 hc.1
    refine ⟨ad,xs,ps,m,rfl,h1,by rw [h2];exact h,ok,hc.2.2,fun l' bs hl hb=>P l' _ _ (Up.tups s hl) hl ?_ ⟨_,aJ,by simp,fun j x p e1 e2=>?_⟩⟩
    ·rw [fL]
     ·exact s.free hl
     ·rintro (z | ⟨ys,z⟩)
      ·exact z
      ·rw [hl] at z;cases z
    ·rw [List.getElem?_map] at e1 e2
     cases ej:(fY ps)[j]? with
     | none=>rw [ej] at e1;cases e1
     | some i =>
      rw [ej] at e1 e2
      cases e1
      cases e2
      have:=hb i (Zaf ej)
      exact KN (by rw [gq (.inr ⟨_,this⟩)];exact this)
   ·cases e
end
end L2.MP
namespace L2
open PySem PySem.Spec PyProof PyProof.Rows
noncomputable def Itk (a:Addr) (raw:Obj) (kvs:List (List Key×V)):It :=
 ⟨fun i H=>H a=some (.frz raw (.dT kvs))∧i < kvs.length,fun i H x H'=>H'=H∧∃ kv b,kvs[i]?=some kv∧x=.ref b∧H b=some (.tup (kv.1.map kV)),fun i H=>H a=some (.frz raw (.dT kvs))∧i=kvs.length⟩
theorem kt_at {H:Hp}{kvs:List (List Key×V)}{xs:List (List Key×Addr×Value)} (rel:Paired (fun (p:List Key×V) (q:List Key×Addr×Value)=>p.1=q.1∧H q.2.1=some (.tup (p.1.map kV))∧RelV p.2 q.2.2) kvs xs) :
  xs.length=kvs.length∧∀ (i:Nat) kv,kvs[i]?=some kv->∃ z,xs[i]?=some z∧kv.1=z.1∧H z.2.1=some (.tup (kv.1.map kV))∧RelV kv.2 z.2.2:=by
 induction rel with
 | nil=>exact ⟨rfl,fun i kv q=>by simp at q⟩
 | @cons p z ps zs hp _ ih =>
  refine ⟨by simp [ih.1],fun i kv q=>?_⟩
  cases i with
  | zero=>simp at q;subst q;exact ⟨z,rfl,hp⟩
  | succ i=>exact ih.2 i kv (by simpa using q)
theorem kW {P:Program}{w:World}{H:Hp}{h:Heap}{a:Addr}{raw:Obj}{kvs:List (List Key×V)} (ok:HOk P w H h) (e:H a=some (.frz raw (.dT kvs))) {es:Array DictEntry}{ep:Nat} (hd:raw.data=.dict es ep) :
  (a == sysModules)=false∧oW h a es ep∧es.size=kvs.length∧∀ (i:Nat) kv,kvs[i]?=some kv->∃ (b:Addr) (u:Value) (x:DictEntry),es[i]?=some x∧x.key=.ref b∧x.val=u∧H b=some (.tup (kv.1.map kV))∧RelV kv.2 u:=by
 obtain ⟨hr,_,hs,xs,rel,o,es',ep',h1,h2,h3,h4,h5⟩:=(show dG P w H h a (.frz raw (.dT kvs)) from ok a _ e)
 rw [hr] at h1
 cases h1
 rw [hd] at h3
 cases h3
 obtain ⟨ln,at_⟩:=kt_at rel
 refine ⟨hs,⟨raw,hr,h2,hd⟩,by rw [←ZaT,h4,List.length_map,ln],fun i kv q=>?_⟩
 obtain ⟨z,e1,e2⟩:=at_ i kv q
 refine ⟨z.2.1,z.2.2,entryOfKey (tupleKind (cM P w)) z,?_,rfl,rfl,e2.2.1,e2.2.2⟩
 rw [←Zax,h4,List.getElem?_map,e1];rfl
theorem Gq {X:Cx}{H:Hp}{h:Heap}{a:Addr}{raw:Obj}{kvs:List (List Key×V)} (ok:HOk X.prog X.w H h) (e:H a=some (.frz raw (.dT kvs))):∃ es ep,raw.data=.dict es ep:=by
 obtain ⟨hr,_,hs,xs,rel,o,es',ep',h1,h2,h3,h4⟩:=(show dG X.prog X.w H h a (.frz raw (.dT kvs)) from ok a _ e)
 rw [hr] at h1
 cases h1
 exact ⟨_,_,h3⟩
theorem EY {P:Program}{w:World}{K:PySem.W.Frag}{tg:Expr} (a it:Addr) (raw:Obj) (kvs:List (List Key×V)) {es:Array DictEntry}{ep:Nat} (hd:raw.data=.dict es ep) :
  Turn P w K tg (Itk a raw kvs) [it] it (fun i h=>h.IsKeyIter it a i kvs.length ep) where
 mem:=by simp
 obj:=fun i h st b hb=>by
  have e:b=it:=by simpa using hb
  subst e
  obtain ⟨o,e,c,d⟩:=st
  exact ⟨o,e,fun v z=>by rw [d] at z;cases z⟩
 keep:=fun i h h' st k=>st.at fun o q=>k it (by simp) o q
 item:=by
  intro X hP hw hK hc i pins s σ H E I hf st hg
  subst hP hw hK
  obtain ⟨e,hi⟩:=hg
  obtain ⟨f0,f1,f2,f3,f4,f5⟩:=hf it (by simp)
  obtain ⟨_,rd,hl,at_⟩:=kW I.hok e hd
  have hne:a≠it:=fun z=>by subst z;rw [e] at f0;cases f0
  have W:=su (prog:=X.prog) (w:=X.w) (A:=X.A) (I.ok.hd hc) it a hne es ep
  refine W.item i s _ _ (by lia) ⟨by rw [hl];exact st,rd⟩ fun v h' tk hv st' kk=>?_
  obtain ⟨x,hx,rfl⟩:=hv
  have I1:Inv X pins σ H { s with heap:=h',toks:=tk }:=I.turned (fun b o hb e=>kk b o (by simpa using hb) e) f0 f1 f3 f4 f5
  obtain ⟨o,eo,cc,dd'⟩:=id st'.1
  obtain ⟨p,hp⟩:∃ p,kvs[i]?=some p:=⟨_,List.getElem?_eq_getElem hi⟩
  obtain ⟨b,u,y,y1,y2,y3,y4,y5⟩:=at_ i p hp
  rw [hx] at y1
  cases y1
  refine ⟨_,rfl,Ai (s:={ s with heap:=h',toks:=tk }) eo cc dd' (by decide) ⟨.ref b,H,I1,y2,⟨rfl,p,b,hp,rfl,y4⟩,by rw [←hl];exact st'.1,fun b hb=>(hf b hb).1⟩⟩
 done:=by
  intro X hP hw hK hc i pins s σ H E I hf st hg
  subst hP hw hK
  obtain ⟨e,hi⟩:=hg
  obtain ⟨f0,f1,f2,f3,f4,f5⟩:=hf it (by simp)
  obtain ⟨_,rd,hl,at_⟩:=kW I.hok e hd
  have hne:a≠it:=fun z=>by subst z;rw [e] at f0;cases f0
  have W:=su (prog:=X.prog) (w:=X.w) (A:=X.A) (I.ok.hd hc) it a hne es ep
  subst hi
  refine W.done s _ _ ⟨by rw [hl];exact st,rd⟩ fun h' tk kk=>⟨rfl,I.turned (fun b o hb e=>kk b o (by simpa using hb) e) f0 f1 f3 f4 f5⟩
 self:=fun A i s Q E st h=>wpAny_pyIter_keyiter st h
noncomputable def KR (tl:TE):TI:=fun σ H R=>tl σ H fun x H1=>∃ a raw kvs,x=.ref a∧H1 a=some (.frz raw (.dT kvs))∧R (Itk a raw kvs) H1
theorem vM {X:Cx}{tg l:Expr}{tl:TE} (hl:PE X l tl):PI X tg l (KR tl):=by
 intro pins s σ H R I h
 refine thn (hl pins s σ H _ I h) ?_
 rintro v s1 ⟨x,H1,I1,r1,q1⟩
 obtain ⟨a,raw,kvs,e,ha,q⟩:=q1
 subst e
 cases r1
 obtain ⟨es,ep,hd⟩:=Gq I1.hok ha
 obtain ⟨hs,rd,hl,at_⟩:=kW I1.hok ha hd
 refine Bw hs rd ?_
 refine ⟨s1.heap.objs.size,[s1.heap.objs.size],_,_,H1,rfl,I1.kept (t':=s1.toks) fun b o e=>Zac _ e,EY a _ raw kvs hd,⟨_,Zal _ rfl,rfl,by rw [hl];rfl⟩,fun b hb=>?_,q⟩
 have e:b=s1.heap.objs.size:=by simpa using hb
 subst e
 exact I1.Ah (Zah _) (I1.hok.fresh (Zah _))
namespace MP
noncomputable def ph (k:List Key):PV:=.tup (k.map Tq)
noncomputable def pY (l:List (List Key×PV)):List PV:=l.map fun kv=>ph kv.1
noncomputable def rm:PV->Option (Res (List PV))
 | .dt l=>some (.ok (pY l))
 | _=>none
section
variable {K:PySem.W.Frag}{C:Cg}
theorem Up.Qd {F H:Hp} (s:aR F H):Up F H (t6 F H fun _=>False) H:=by
 refine ⟨jj s,aR.refl _,fun b o q=>?_,qR s⟩
 by_cases hb:False∨∃ ys,H b=some (.tup ys)
 ·rw [gq hb] at q
  obtain ⟨ys,z⟩:=hb.resolve_left id
  rw [z] at q;cases q
  exact .inr (.inr ⟨ys,rfl⟩)
 ·rw [fL hb] at q
  exact .inl q
theorem Cq {F H:Hp}{b:Addr}{k:List Key} (h:H b=some (.tup (k.map kV))):Rep K (t6 F H fun _=>False) (.ref b) (ph k):=by
 refine .tup (by rw [gq (.inr ⟨_,h⟩)];exact h) (by simp) fun n y r c1 c2=>?_
 rw [List.getElem?_map] at c1 c2
 cases e:k[n]? with
 | none=>rw [e] at c1;cases c1
 | some z=>rw [e] at c1 c2;cases c1;cases c2;exact Ny
theorem sJ (i:Nat):Nv K C i (KR (lD i)) (m1 rm (mV i)):=by
 intro F H σ ρ R' r R hh e P
 rcases bQ e with ⟨z,e1,rfl⟩ | ⟨p,e1,hk⟩
 ·unfold mV at e1
  split at e1
  ·cases e1
  ·cases e1
 obtain ⟨a,raw,u,ev,fa,hu⟩:=hh
 have hp:ρ[i]?=some (some (.sh p)):=by
  unfold mV at e1
  split at e1
  ·rename_i q hq;cases e1;exact hq
  ·cases e1
 match p,hk with
 | .dt l,hk =>
  cases hk
  obtain ⟨v,ev',rv⟩:=R.sh i _ hp
  rw [ev] at ev'
  cases ev'
  cases rv with
  | @dt _ xs _ h hl hr =>
   have hx:u=.dT xs:=by
    rcases h with h | ⟨o,h⟩
    ·rw [fa] at h;cases h
    ·rw [fa] at h;cases h;rfl
   subst hx
   have len:xs.length=l.length:=by have:=congrArg List.length hl;simpa using this
   refine ⟨_,ev,a,raw,xs,rfl,R.rb.sub _ _ fa,P _ F H (Up.refl R.rb.sub) ⟨fun F' H' s s'=>?_,fun j F' H' hj s s'=>?_,fun j F' H' x H'' hj s s' y=>?_⟩⟩
   ·exact ⟨s' _ _ (s _ _ fa),by unfold pY;rw [List.length_map];exact len.symm⟩
   ·refine ⟨s' _ _ (s _ _ fa),?_⟩
    unfold pY at hj
    rw [List.length_map] at hj
    lia
   ·obtain ⟨rfl,kv,b,hkv,rfl,hb⟩:=y
    have hl2:(l.map (·.1))[j]?=some kv.1:=by rw [←hl,List.getElem?_map,hkv];rfl
    refine ⟨t6 F' H'' fun _=>False,ph kv.1,Up.Qd s',?_,Cq hb⟩
    unfold pY
    rw [List.getElem?_map] at hl2 ⊢
    cases q:l[j]? with
    | none=>rw [q] at hl2;cases hl2
    | some w =>
     rw [q] at hl2
     show some (ph w.1)=some (ph kv.1)
     rw [show w.1=kv.1 from Zaa hl2]
end
end MP
section
variable {prog:Program}{w:World}{A:Around}{E:Value->Shared->Prop}{s:Shared}{d it:Addr}{es:Array DictEntry}{ep i:Nat}
theorem Ii (hd:(d == sysModules)=false):MeetsIn prog w (Builtin.«dict.items» ⟨[.ref d],[]⟩) (fun _ R s=>s.TypeIs (.ref d) "dict"∧R (.ok (.ret (.ref s.heap.objs.size))) { s with heap:=s.heap.push { cls:=.type "dict_items",data:=.fields #[.ref d] } }) :=
 .of_wp fun A R s ⟨ty,h⟩=>by
  unfold Builtin.«dict.items»
  refine wpAny_bind ?_
  unfold Builtin.Dict.noArgs
  refine wpAny_bind (wpAny_notOrdered_dict ty (wpAny_pure ?_))
  show wpAny _ _ (Builtin.Dict.showsAll d >>= _) _ _ s
  unfold Builtin.Dict.showsAll
  rw [if_neg (by rw [hd];exact Zbb)]
  exact wpAny_bind (wpAny_pure (wpAny_bind (wpAny_newObj_type (wpAny_pure ⟨_,rfl,h⟩))))
theorem Ij {v:Addr}{Q:Value->Shared->Prop} (hv:s.heap.IsItemsView v d) (r:oW s.heap d es ep)
  (q:Q (.ref s.heap.objs.size) { s with heap:=s.heap.push { cls:=.type "dict_itemiterator",data:=.fields #[.none,.bool false,.ref d,.int 0 0,.int es.size 0,.int ep 0,.none,.none] } }):wpAny (model prog w) A (pyIter (.ref v)) Q E s:=by
 obtain ⟨ov,v1,v2,v3⟩:=id hv
 obtain ⟨o,e1,e2,e3⟩:=id r
 refine wpAny_pyIter_slot hv.typeIs PySem.F.slot_dict_items_iter (wpAny_call_entry PySem.F.slot_dict_items_iter hv.typeIs PySem.F.entry_dict_items_iter ?_ (PySem.F.args_dict_items_iter_1 _))
 unfold Builtin.«dict_items.__iter__»
 refine wpAny_bind (wpAny_pure (wpAny_bind ?_))
 unfold Builtin.Dict_items.dictOf
 refine wpAny_bind (wpAny_field v1 v3 (x:=.ref d) rfl (wpAny_pure (wpAny_bind ?_)))
 unfold Builtin.Dict_items.newIterator
 refine wpAny_bind (wpAny_dictEntries e1 e3 (wpAny_bind (wpAny_dictEpoch e1 e3 ?_)))
 simp only [show Builtin.Dict_items.ownsTuple "dict_itemiterator"=true by decide,if_true]
 refine wpAny_newObj_type (wpAny_pure ⟨_,rfl,"dict_itemiterator",_,⟨_,Zal _ rfl,rfl⟩,ZaV.lookup,?_⟩)
  (by simp only [sizeOk,Builtin.Dict_items.ownedTupleFields,List.size_toArray,List.length_append,ZaC,List.length_nil,sizeLine_eq];omega)
 simpa [rawInt,Builtin.Dict_items.ownedTupleFields] using q
theorem Ik {x:DictEntry}{ok ov:Value}{Q:Option Value->Shared->Prop} (hit:IsItemIter s.heap it d i es.size ep ok ov) (r:oW s.heap d es ep) (hx:es[i]?=some x)
  (q:∀ h',IsItemIterOut h' it d (i+1) es.size ep x.key x.val s.heap.objs.size->h'.get? s.heap.objs.size=some { cls:=.type "tuple",data:=.seq #[x.key,x.val] } ->
   (∀ b o,b≠it->s.heap.get? b=some o->h'.get? b=some o)->Q (some (.ref s.heap.objs.size)) { s with heap:=h' }):wpAny (model prog w) A (pyNext (.ref it)) Q E s:=by
 obtain ⟨hp,g,dr,tk,os⟩:=s
 obtain ⟨o,e1,e2,e3⟩:=id r
 have lt:i < es.size:=by
  rcases Nat.lt_or_ge i es.size with z | z
  ·exact z
  ·rw [ZbE z] at hx;cases hx
 have ex:es[i]=x:=by rw [Zat lt] at hx;exact Zaa hx
 have hT:Shared.TypeIs ⟨hp,g,dr,tk,os⟩ (.ref it) "dict_itemiterator":=⟨_,hit,rfl⟩
 unfold pyNext
 refine wpAny_bind (wpAny_attempt (wpAny_callSpecial?_slot (name:=Str.ofString "__next__") hT ZaV (wpAny_call_entry ZaV hT PySem.F.entry_dict_itemiterator_next ?_ (PySem.F.args_dict_itemiterator_next_1 _))))
 refine wpAny_bind (wpAny_pure (wpAny_bind (wpAny_bind ?_)))
 first
  | refine wpAny_bind (wpAny_typeNameOfWhole_itemiter hT (wpAny_pure ?_))
  | refine wpAny_bind (wpAny_typeNameOf_itemiter hT (wpAny_pure ?_))
 refine wpAny_bind (wpAny_fieldsOf hit rfl ?_)
 simp only [show Builtin.Dict_items.ownsTuple "dict_itemiterator"=true by decide,if_true]
 show wpAny _ _ (if (Value.ref d == .none)=true then _ else _) _ _ _
 rw [if_neg (show ¬(Value.ref d == .none)=true from Zbb)]
 refine wpAny_bind (wpAny_pure (wpAny_bind (wpAny_dictEntries e1 e3 ?_)))
 rw [if_neg (by simp)]
 refine wpAny_bind (wpAny_pure (wpAny_bind (wpAny_dictEpoch e1 e3 ?_)))
 rw [if_neg (by simp)]
 refine wpAny_pure ?_
 simp only [show ¬((i:Int) < 0) by omega,if_false,Zav,Zat lt]
 refine wpAny_bind ?_
 first
  | refine wpAny_bind (wpAny_typeNameOfWhole_itemiter hT (wpAny_pure ?_))
  | refine wpAny_bind (wpAny_typeNameOf_itemiter hT (wpAny_pure ?_))
 refine wpAny_bind (wpAny_isOneOf_itemiter hT ?_)
 show wpAny _ _ (setField (.ref it) 3 (rawInt ((i:Int)+1)) >>= _) _ _ ⟨hp,g,dr,tk,os⟩
 refine wpAny_bind (wpAny_setField_rec hit (by simp) fun h1 f1 s1=>?_)
 replace s1:Heap.SameBut it hp h1:=s1
 replace f1:IsItemIter h1 it d (i+1) es.size ep ok ov:=by
  have e:((i+1:Nat):Int)=(i:Int)+1:=by omega
  unfold IsItemIter;rw [e];simpa [rawInt] using f1
 have hT1:Shared.TypeIs ⟨h1,g,dr,tk,os⟩ (.ref it) "dict_itemiterator":=⟨_,f1,rfl⟩
 refine wpAny_bind (wpAny_holding (wpAny_bind (wpAny_isOneOf_itemiter hT1 (wpAny_bind (wpAny_isOneOf_itemiter hT1 ?_)))))
 show wpAny _ _ (Builtin.Dict_items.pairFromOwner (.ref it) 6 es[i].key es[i].val) _ _ ⟨h1,g,dr,tk,os⟩
 rw [ex]
 unfold Builtin.Dict_items.pairFromOwner
 refine wpAny_bind (wpAny_newTuple ?_)
 have z1:h1.objs.size=hp.objs.size:=s1.1
 have il:it < hp.objs.size:=Zaj hit
 have f2:IsItemIter (h1.push { cls:=.type "tuple",data:=.seq #[x.key,x.val] }) it d (i+1) es.size ep ok ov:=Zac _ f1
 generalize hh:h1.push { cls:=.type "tuple",data:=.seq #[x.key,x.val] }=h2 at f2
 have t2:h2.get? hp.objs.size=some { cls:=.type "tuple",data:=.seq #[x.key,x.val] }:=by rw [←hh,←z1];exact Zal _ rfl
 have k2:∀ b o,b≠it->hp.get? b=some o->h2.get? b=some o:=fun b o hb e=>by rw [←hh];exact Zac _ (s1.extBut b o hb e)
 show wpAny _ _ (Builtin.Dict_items.ownedTupleIsFree (.ref it) >>= _) _ _ ⟨h2,g,dr,tk,os⟩
 rw [z1]
 clear hh f1 s1 hT1 z1 h1
 refine wpAny_bind ?_
 unfold Builtin.Dict_items.ownedTupleIsFree
 refine wpAny_bind (wpAny_field f2 rfl (x:=.none) rfl (wpAny_pure ?_))
 simp only [if_true]
 refine wpAny_bind (wpAny_field f2 rfl (x:=ok) rfl (wpAny_bind (wpAny_field f2 rfl (x:=ov) rfl ?_)))
 refine wpAny_bind (wpAny_setField_rec f2 (by simp) fun h3 f3 s3=>?_)
 replace s3:Heap.SameBut it h2 h3:=s3
 replace f3:IsItemIter h3 it d (i+1) es.size ep x.key ov:=f3
 refine wpAny_bind (wpAny_setField_rec f3 (by simp) fun h4 f4 s4=>?_)
 replace s4:Heap.SameBut it h3 h4:=s4
 replace f4:IsItemIter h4 it d (i+1) es.size ep x.key x.val:=f4
 refine wpAny_bind (wpAny_setField_rec f4 (by simp) fun h5 f5 s5=>?_)
 replace s5:Heap.SameBut it h4 h5:=s5
 replace f5:IsItemIterOut h5 it d (i+1) es.size ep x.key x.val hp.objs.size:=f5
 refine wpAny_bind (wpAny_setField_rec f5 (by simp) fun h6 f6 s6=>?_)
 replace s6:Heap.SameBut it h5 h6:=s6
 replace f6:IsItemIterOut h6 it d (i+1) es.size ep x.key x.val hp.objs.size:=f6
 have old:∀ b o,b≠it->h2.get? b=some o->h6.get? b=some o:=fun b o hb e=>s6.extBut b o hb (s5.extBut b o hb (s4.extBut b o hb (s3.extBut b o hb e)))
 exact wpAny_bind (wpAny_letGo (wpAny_pure (wpAny_pure ⟨_,rfl,wpAny_pure (q h6 f6 (old _ _ (Nat.ne_of_gt il) t2) fun b o hb e=>old b o hb (k2 b o hb e))⟩)))
theorem KY {ok ov:Value}{Q:Option Value->Shared->Prop} (hh:A.handled=none) (hit:IsItemIter s.heap it d es.size es.size ep ok ov) (r:oW s.heap d es ep)
  (q:∀ h',Heap.ExtBut it s.heap h'->Q none { s with heap:=h' }):wpAny (model prog w) A (pyNext (.ref it)) Q E s:=by
 obtain ⟨o,e1,e2,e3⟩:=id r
 have hT:s.TypeIs (.ref it) "dict_itemiterator":=⟨_,hit,rfl⟩
 unfold pyNext
 refine wpAny_bind (wpAny_attempt (wpAny_callSpecial?_slot (name:=Str.ofString "__next__") hT ZaV (wpAny_call_entry ZaV hT PySem.F.entry_dict_itemiterator_next ?_ (PySem.F.args_dict_itemiterator_next_1 _))))
 refine wpAny_bind (wpAny_pure (wpAny_bind (wpAny_bind ?_)))
 first
  | refine wpAny_bind (wpAny_typeNameOfWhole_itemiter hT (wpAny_pure ?_))
  | refine wpAny_bind (wpAny_typeNameOf_itemiter hT (wpAny_pure ?_))
 refine wpAny_bind (wpAny_fieldsOf hit rfl ?_)
 simp only [show Builtin.Dict_items.ownsTuple "dict_itemiterator"=true by decide,if_true]
 show wpAny _ _ (if (Value.ref d == .none)=true then _ else _) _ _ _
 rw [if_neg (show ¬(Value.ref d == .none)=true from Zbb)]
 refine wpAny_bind (wpAny_pure (wpAny_bind (wpAny_dictEntries e1 e3 ?_)))
 rw [if_neg (by simp)]
 refine wpAny_bind (wpAny_pure (wpAny_bind (wpAny_dictEpoch e1 e3 ?_)))
 rw [if_neg (by simp)]
 refine wpAny_pure ?_
 simp only [show ¬((es.size:Int) < 0) by omega,if_false,Zav,ZbE (Zah _)]
 refine wpAny_bind ?_
 first
  | refine wpAny_bind (wpAny_typeNameOfWhole_itemiter hT (wpAny_pure ?_))
  | refine wpAny_bind (wpAny_typeNameOf_itemiter hT (wpAny_pure ?_))
 show wpAny _ _ (setField (.ref it) 2 .none >>= _) _ _ s
 refine wpAny_bind (wpAny_setField hit rfl (by simp) ?_)
 show wpAny _ _ (newExc (.type "StopIteration") [] >>= _) _ _ _
 refine wpAny_bind ?_
 simp only [newExc,newTuple]
 refine wpAny_bind (wpAny_newObj_type ?_ (by size_fits))
 refine wpAny_bind (m:=firstArgMember _ _) (wpAny_of_eq (a:=Value.none) (by first | rfl | (simp only [firstArgMember];rfl)) (wpAny_newObj_type ?_ (by size_fits)))
 simp only [raiseNew]
 refine wpAny_bind (wpAny_handled ?_)
 rw [show A.in1.handled=none from hh]
 refine wpAny_bind (wpAny_pure (wpAny_throw ?_))
 refine wpAny_bind (wpAny_isInstance (T:="StopIteration") (b:=true) ⟨_,Zal _ rfl,rfl⟩ isSubtype_stop ?_)
 exact wpAny_pure (q _ (((Zbp ..).extBut.push _).push _))
end
noncomputable def TQ (a:Addr) (raw:Obj) (kvs:List (List Key×V)):It :=
 ⟨fun i H=>H a=some (.frz raw (.dT kvs))∧i < kvs.length,fun i H x H'=>∃ p kv b,H p=none∧kvs[i]?=some kv∧H b=some (.tup (kv.1.map kV))∧x=.ref p∧H'=upd H p (.tup [.ref b,kv.2]),fun i H=>H a=some (.frz raw (.dT kvs))∧i=kvs.length⟩
theorem Cr {P:Program}{w:World}{K:PySem.W.Frag}{elts:List Expr}{x1:Nat}{pos:Pos} (a it:Addr) (raw:Obj) (kvs:List (List Key×V)) {es:Array DictEntry}{ep:Nat} (hd:raw.data=.dict es ep) :
  Turn P w K (.Tuple elts x1 pos) (TQ a raw kvs) [it] it (fun i h=>∃ ok ov,IsItemIter h it a i kvs.length ep ok ov) where
 mem:=by simp
 obj:=fun i h st b hb=>by
  have e:b=it:=by simpa using hb
  subst e
  obtain ⟨ok,ov,e⟩:=st
  exact ⟨_,e,fun v z=>by cases z⟩
 keep:=fun i h h' st k=>by
  obtain ⟨ok,ov,e⟩:=st
  exact ⟨ok,ov,k it (by simp) _ e⟩
 item:=by
  intro X hP hw hK hc i pins s σ H E I hf st hg
  subst hP hw hK
  obtain ⟨e,hi⟩:=hg
  obtain ⟨ok,ov,ei⟩:=st
  obtain ⟨f0,f1,f2,f3,f4,f5⟩:=hf it (by simp)
  obtain ⟨_,rd,hl,at_⟩:=kW I.hok e hd
  obtain ⟨p,hp⟩:∃ p,kvs[i]?=some p:=⟨_,List.getElem?_eq_getElem hi⟩
  obtain ⟨b,u,y,y1,y2,y3,y4,y5⟩:=at_ i p hp
  refine Ik (by rw [hl];exact ei) rd y1 fun h3 e3 n3 k3=>?_
  refine ⟨_,rfl,wpAny_letOwnedTupleGo_items e3 fun h4 e4 s4=>?_⟩
  have ilt:it < s.heap.objs.size:=Zaj ei
  have hT2:IsPair h4 s.heap.objs.size (.ref b) u:=by rw [←y2,←y3];exact (s4.2 _ (Nat.ne_of_gt ilt)).trans n3
  refine ⟨.ref s.heap.objs.size,upd H s.heap.objs.size (.tup [.ref b,p.2]),I.rW (ch:=[it]) (fun b' o hb q=>?_) hf (Zah _) ⟨by show 2≤sizeLine;decide,[.ref b,u],.cons rfl (.cons y5 .nil),fU.mk hT2⟩,rfl,⟨_,p,b,I.hok.fresh (Zah _),hp,y4,rfl,rfl⟩,⟨y.key,y.val,by rw [←hl];exact e4⟩,fun b' hb=>?_⟩
  ·have q1:b'≠it:=fun e=>hb (by simp [e])
   exact (s4.2 b' q1).trans (k3 b' o q1 q)
  ·have e:b'=it:=by simpa using hb
   subst e
   rw [aG (Zaw ilt)]
   exact f0
 done:=by
  intro X hP hw hK hc i pins s σ H E I hf st hg
  subst hP hw hK
  obtain ⟨e,hi⟩:=hg
  obtain ⟨ok,ov,ei⟩:=st
  obtain ⟨_,rd,hl,at_⟩:=kW I.hok e hd
  subst hi
  refine KY (I.ok.hd hc) (by rw [hl];exact ei) rd fun h' k=>⟨rfl,?_⟩
  exact I.qw (t':=s.toks) (ch:=[it]) (fun b' o hb q=>k b' o (fun e=>hb (by simp [e])) q) hf
 self:=fun A i s Q E st h=>by
  obtain ⟨ok,ov,e⟩:=st
  exact PySem.W.kcp_self e h
noncomputable def Gr (tl:TE):TI:=fun σ H R=>tl σ H fun x H1=>∃ a raw kvs,x=.ref a∧H1 a=some (.frz raw (.dT kvs))∧R (TQ a raw kvs) H1
theorem xW {X:Cx}{o:Expr}{apos cpos tpos:Pos}{elts:List Expr}{x1:Nat}{tl:TE} (hl:PE X o tl) (hbase:attributeBase o "items" X.env (eval o X.env)=eval o X.env:=by rfl) (hline:(apos.endLine == cpos.line)=true:=by rfl) :
  PI X (.Tuple elts x1 tpos) (.Call (.Attribute o "items" apos) [] [] cpos) (Gr tl):=by
 intro pins s σ H R I h
 refine wpAny_Call_method (T:="dict") (id:="dict.items") hbase rfl hline PySem.F.plainAttrs_dict PySem.F.slot_dict_items PySem.F.type_dict_items (thn (hl pins s σ H _ I h) ?_)
 rintro u s1 ⟨x,H1,I1,rx,q1⟩
 obtain ⟨a,raw,kvs,e,ha,q⟩:=q1
 subst e
 obtain rfl:u=Value.ref a:=rx
 obtain ⟨t1,t2,_⟩:=DY I1 (.inr ⟨kvs,.inr ⟨raw,ha⟩⟩)
 refine ⟨t1,t2,?_⟩
 obtain ⟨es,ep,hd⟩:=Gq I1.hok ha
 obtain ⟨hs,rd,hl,at_⟩:=kW I1.hok ha hd
 show wpAny _ _ (callWith cpos (.builtin "dict.items") [.ref a] [] []) _ _ s1
 refine method_meetsIn PySem.F.slot_dict_items PySem.F.entry_dict_items rfl (PySem.evalArgs_none ⟨rfl,t1,PySem.F.args_dict_items_1 _,_,Ii hs,t1,?_⟩)
 have hsz:(s1.heap.push { cls:=.type "dict_items",data:=.fields #[.ref a] }).objs.size=s1.heap.objs.size+1:=Heap.size_push ..
 refine Ij (d:=a) (es:=es) (ep:=ep) ⟨_,Zal _ rfl,rfl,rfl⟩ (rd.step fun o e=>Zac _ e) ?_
 refine ⟨(s1.heap.push { cls:=.type "dict_items",data:=.fields #[.ref a] }).objs.size,[(s1.heap.push { cls:=.type "dict_items",data:=.fields #[.ref a] }).objs.size],_,_,H1,rfl,I1.kept (t':=s1.toks) fun b o e=>Zac _ (Zac _ e),Cr a _ raw kvs hd,⟨.none,.none,?_⟩,fun b hb=>?_,q⟩
 ·rw [←hl]
  exact Zal _ rfl
 ·have e:b=s1.heap.objs.size+1:=by simpa [hsz] using hb
  subst e
  exact I1.Ah (Nat.le_succ _) (I1.hok.fresh (Nat.le_succ _))
namespace MP
noncomputable def lW (l:List (List Key×PV)):List PV:=l.map fun kv=>.tup [ph kv.1,kv.2]
noncomputable def rA:PV->Option (Res (List PV))
 | .dt l=>some (.ok (lW l))
 | _=>none
section
variable {K:PySem.W.Frag}{C:Cg}
theorem vN (i:Nat):Nv K C i (Gr (lD i)) (m1 rA (mV i)):=by
 intro F H σ ρ R' r R hh e P
 rcases bQ e with ⟨z,e1,rfl⟩ | ⟨p,e1,hk⟩
 ·unfold mV at e1
  split at e1
  ·cases e1
  ·cases e1
 obtain ⟨a,raw,u,ev,fa,hu⟩:=hh
 have hp:ρ[i]?=some (some (.sh p)):=by
  unfold mV at e1
  split at e1
  ·rename_i q hq;cases e1;exact hq
  ·cases e1
 match p,hk with
 | .dt l,hk =>
  cases hk
  obtain ⟨v,ev',rv⟩:=R.sh i _ hp
  rw [ev] at ev'
  cases ev'
  cases rv with
  | @dt _ xs _ h hl hr =>
   have hx:u=.dT xs:=by
    rcases h with h | ⟨o,h⟩
    ·rw [fa] at h;cases h
    ·rw [fa] at h;cases h;rfl
   subst hx
   have len:xs.length=l.length:=by have:=congrArg List.length hl;simpa using this
   refine ⟨_,ev,a,raw,xs,rfl,R.rb.sub _ _ fa,P _ F H (Up.refl R.rb.sub) ⟨fun F' H' s s'=>?_,fun j F' H' hj s s'=>?_,fun j F' H' x H'' hj s s' y=>?_⟩⟩
   ·exact ⟨s' _ _ (s _ _ fa),by unfold lW;rw [List.length_map];exact len.symm⟩
   ·refine ⟨s' _ _ (s _ _ fa),?_⟩
    unfold lW at hj
    rw [List.length_map] at hj
    omega
   ·obtain ⟨p,kv,b,hp,hkv,hb,rfl,rfl⟩:=y
    have hl2:(l.map (·.1))[j]?=some kv.1:=by rw [←hl,List.getElem?_map,hkv];rfl
    rw [List.getElem?_map] at hl2
    cases q:l[j]? with
    | none=>rw [q] at hl2;cases hl2
    | some w =>
     rw [q] at hl2
     have ew:w.1=kv.1:=Zaa hl2
     have u0:=Up.Qd s'
     have un:=Up.new (o:=.tup [.ref b,kv.2]) u0.fh hp
     refine ⟨_,.tup [ph w.1,w.2],u0.trans un,?_,.tup aJ rfl fun n x p' hx hp'=>?_⟩
     ·unfold lW
      rw [List.getElem?_map,q]
      rfl
     ·match n with
      | 0=>simp at hx hp';subst hx hp';rw [ew];exact (Cq hb).up un.ff
      | 1=>simp at hx hp';subst hx hp';exact (hr j _ _ hkv q).up (s.trans (u0.ff.trans un.ff))
      | n+2=>simp at hx
end
end MP
section
variable {prog:Program}{w:World}{A:Around}{E:Value->Shared->Prop}
theorem xX (hh:A.handled=none) {I ax:Addr}{items:Array Value} (hne:ax≠I):∀ (n i:Nat) (s:Shared) (Q:List Value->Shared->Prop),s.heap.IsListIter I ax i->s.heap.IsList ax items->i+n≤items.size ->
  (∀ h' tk,h'.IsListIter I ax (i+n)->h'.IsList ax items->(∀ b o,b≠I->s.heap.get? b=some o->h'.get? b=some o)->Q ((items.toList.drop i).take n) { s with heap:=h',toks:=tk })->wpAny (model prog w) A (draw (.ref I) n) Q E s
 | 0,i,s,Q,hit,hl,_,hQ=>by
  show wpAny _ _ (pure []) Q E s
  exact wpAny_pure (by simpa using hQ s.heap s.toks hit hl fun _ _ _ e=>e)
 | n+1,i,s,Q,hit,hl,hle,hQ=>by
  have hlt:i < items.size:=by lia
  have W:=Walks.list (prog:=prog) (w:=w) (A:=A) hh I ax hne items
  show wpAny _ _ (pyNext (.ref I) >>= _) Q E s
  refine wpAny_bind (W.item i s _ _ hlt ⟨hit,hl⟩ fun v h1 tk hv st k1=>?_)
  have ev:items[i]=v:=by rw [Zat hlt] at hv;exact Zaa hv
  refine wpAny_bind (wpAny_holding (xX hh hne n (i+1) { s with heap:=h1,toks:=tk } _ st.1 st.2 (by lia) fun h2 tk2 a1 a2 a3=>wpAny_pure ?_))
  have hd:items.toList.drop i=items[i]::items.toList.drop (i+1):=by simp [ZaI,hlt]
  have:=hQ h2 tk2 (by rw [show i+(n+1)=i+1+n by lia];exact a1) a2 fun b o hb e=>a3 b o hb (k1 b o (by simpa using hb) e)
  rw [hd,List.take_succ_cons,ev] at this
  exact this
theorem Cu {s:Shared}{ax:Addr}{items:Array Value}{targets:List (Bool×(Value->Sem Unit))}{Q:Unit->Shared->Prop} (hh:A.handled=none) (hl:s.heap.IsList ax items) (hn:targets.length=items.size) (hstar:targets.findIdx? (·.1)=none)
  (h:∀ h' tk,(∀ b o,s.heap.get? b=some o->h'.get? b=some o)->wpAny (model prog w) A (assignInOrder (targets.map (·.2)) items.toList) Q E { s with heap:=h',toks:=tk }):wpAny (model prog w) A (unpack (.ref ax) targets) Q E s:=by
 have hlt:ax≠s.heap.objs.size:=by obtain ⟨o,ho,_⟩:=id hl;exact Zaw (Zaj ho)
 unfold unpack
 rw [hn,hstar]
 refine wpAny_bind (wpAny_holding ?_)
 unfold unpackItems
 refine wpAny_bind ?_
 unfold notIterableAtAll
 refine wpAny_bind (wpAny_specialOf hl.typeIs PySem.F.slot_list_iter.lookup (wpAny_pure ?_))
 simp only [Za0,if_false]
 refine wpAny_bind (wpAny_holding (wpAny_pyIter_list hl ?_))
 refine wpAny_bind (wpAny_holding (xX hh hlt items.size 0 _ _ ⟨_,Zal _ rfl,rfl,rfl⟩ (hl.push _) (by omega) fun h1 tk i1 l1 k1=>?_))
 have hall:List.take items.size (List.drop 0 items.toList)=items.toList:=by rw [Za5];exact ZaO (by simp)
 rw [hall,if_neg (by simp)]
 have W:=Walks.list (prog:=prog) (w:=w) (A:=A) hh s.heap.objs.size ax hlt items
 refine wpAny_bind (wpAny_holding (W.done { s with heap:=h1,toks:=tk } _ _ ⟨by rw [Nat.zero_add] at i1;exact i1,l1⟩ fun h2 tk2 k2=>?_))
 simp only [Option.isSome_none,Za0,if_false]
 refine wpAny_pure (h h2 tk2 fun b o e=>?_)
 have hb:b≠s.heap.objs.size:=Zaw (Zaj e)
 exact k2 b o (by simpa using hb) (k1 b o hb (Zac _ e))
end
section
variable {X:Cx}{pos:Pos}
noncomputable def TV (K:PySem.W.Frag) (n:Nat) (t:TGs):TG:=fun v σ H Q=>∃ a xs,v=.ref a∧SqL K H a xs∧xs.length=n∧t xs σ H Q
theorem KZ {es:List Expr}{k:Nat}{t:TGs}{n:Nat} (hc:X.calm=true) (h:PGs X es t)
  (hn:(assignEach es X.env).length=n:=by rfl) (hst:(assignEach es X.env).findIdx? (·.1)=none:=by rfl):PG X (.Tuple es k pos) (TV X.K n t):=by
 intro pins s σ H v u Q I r hw
 obtain ⟨a,xs,e1,hq,hl,hw⟩:=hw
 subst e1
 cases r
 obtain ⟨its,rv,pl,hz⟩:=I.list hq
 rw [arm_assign_Tuple]
 refine wpAny_bind (wpAny_standAt (Cu (I.ok.hd hc) pl.isList (by simp [hn,←hl,rv.length]) hst fun h' tk hx=>?_))
 have I1:Inv X pins σ H { s with heap:=h',toks:=tk }:=I.kept hx
 exact h pins _ σ H xs _ Q I1 (by simpa using rv) hw
end
namespace MP
section
variable {K:PySem.W.Frag}{C:Cg}
noncomputable def gL (n:Nat) (t:List PV->Rho->Option Rho):PV->Rho->Option Rho:=fun p ρ=>match p with
 | .lst l=>if l.length=n then t l ρ else none
 | _=>none
theorem K1 {n:Nat}{gs:TGs}{tgs:List PV->Rho->Option Rho} (hs:MGs K C gs tgs):MG K C (TV K n gs) (gL n tgs):=fun F H σ ρ v p ρ' Q R r e k=>by
 unfold gL at e
 split at e
 ·rename_i l
  split at e
  ·rename_i hn
   obtain ⟨a,xs,rfl,hq,rr⟩:=r.bY
   exact ⟨a,xs,rfl,R.rb.sub.seq hq,by rw [rr.1];exact hn,hs F H σ ρ xs l ρ' Q R rr e k⟩
  ·cases e
 ·cases e
end
end MP
end L2
namespace L2.MP
section
variable {α:Type}{us:List α}
theorem len0 (h:us.length=0):us=[]:=List.length_eq_zero_iff.mp h
theorem Oj {n:Nat} (h:us.length=n+1):∃ a vs,us=a::vs∧vs.length=n:=by
 cases us with
 | nil=>cases h
 | cons a vs=>exact ⟨a,vs,rfl,Nat.succ.inj h⟩
theorem K3 (h:us.length=1):∃ a,us=[a]:=by
 obtain ⟨a,vs,rfl,h2⟩:=Oj h
 cases len0 h2
 exact ⟨a,rfl⟩
theorem zj (h:us.length=2):∃ a b,us=[a,b]:=by
 obtain ⟨a,vs,rfl,h2⟩:=Oj h
 obtain ⟨b,rfl⟩:=K3 h2
 exact ⟨a,b,rfl⟩
theorem wR (h:us.length=3):∃ a b c,us=[a,b,c]:=by
 obtain ⟨a,vs,rfl,h2⟩:=Oj h
 obtain ⟨b,c,rfl⟩:=zj h2
 exact ⟨a,b,c,rfl⟩
theorem RC (h:us.length=4):∃ a b c d,us=[a,b,c,d]:=by
 obtain ⟨a,vs,rfl,h2⟩:=Oj h
 obtain ⟨b,c,d,rfl⟩:=wR h2
 exact ⟨a,b,c,d,rfl⟩
end
end L2.MP
namespace MM
open PySem PySem.Spec PyProof.Rows L2 L2.MP
noncomputable def Tv {α:Type} (x:Option (Res α)) (Q:α->Prop):Prop:=∃ a,x=some (.ok a)∧Q a
noncomputable def Out.calm:Out->Prop
 | .ex _=>False
 | _=>True
noncomputable def To (x:Option Out) (Q:Out->Prop):Prop:=∃ o,x=some o∧Out.calm o∧Q o
noncomputable def Cv (k:Rho->Prop) (Q:Out->Prop):Out->Prop
 | .nx ρ=>k ρ
 | o=>Q o
section
variable {α β γ:Type}{Q:α->Prop}{QS:Out->Prop}{k:β->Prop}{f:Fn PV}{g h:Fn PV}{ρ:Rho}{a:β}{z p:PV}{i:Nat}{s t:Sn}
theorem onNx_nx {k:Rho->Prop}:Cv k QS (.nx ρ)=k ρ:=rfl
theorem onNx_rt {k:Rho->Prop}:Cv k QS (.rt p)=QS (.rt p):=rfl
theorem onNx_ro {k:Rho->Prop}:Cv k QS (.ro p)=QS (.ro p):=rfl
theorem onNx_rd {k:Rho->Prop}:Cv k QS (.rd p)=QS (.rd p):=rfl
theorem onNx_bk {k:Rho->Prop}:Cv k QS (.bk ρ)=QS (.bk ρ):=rfl
theorem onNx_ct {k:Rho->Prop}:Cv k QS (.ct ρ)=QS (.ct ρ):=rfl
theorem tv_some {a:α}:Tv (some (.ok a)) Q=Q a:=by
 refine propext ⟨?_,fun q=>⟨a,rfl,q⟩⟩
 rintro ⟨r',e,q⟩
 cases e;exact q
theorem to_nx:To (some (.nx ρ)) QS=QS (.nx ρ):=propext ⟨fun ⟨_,e,_,q⟩=>by cases e;exact q,fun q=>⟨_,rfl,trivial,q⟩⟩
theorem to_rt:To (some (.rt p)) QS=QS (.rt p):=propext ⟨fun ⟨_,e,_,q⟩=>by cases e;exact q,fun q=>⟨_,rfl,trivial,q⟩⟩
theorem to_ro:To (some (.ro p)) QS=QS (.ro p):=propext ⟨fun ⟨_,e,_,q⟩=>by cases e;exact q,fun q=>⟨_,rfl,trivial,q⟩⟩
theorem to_rd:To (some (.rd p)) QS=QS (.rd p):=propext ⟨fun ⟨_,e,_,q⟩=>by cases e;exact q,fun q=>⟨_,rfl,trivial,q⟩⟩
theorem to_bk:To (some (.bk ρ)) QS=QS (.bk ρ):=propext ⟨fun ⟨_,e,_,q⟩=>by cases e;exact q,fun q=>⟨_,rfl,trivial,q⟩⟩
theorem to_ct:To (some (.ct ρ)) QS=QS (.ct ρ):=propext ⟨fun ⟨_,e,_,q⟩=>by cases e;exact q,fun q=>⟨_,rfl,trivial,q⟩⟩
theorem tv_bnd {x:Option (Res β)}{kk:β->Option (Res α)}:Tv (bnd x kk) Q=Tv x (fun b=>Tv (kk b) Q):=by
 refine propext ⟨?_,?_⟩
 ·rintro ⟨r,e,q⟩
  rcases bQ e with ⟨z,e1,e2⟩ | ⟨b,e1,e2⟩
  ·cases e2
  ·exact ⟨_,e1,r,e2,q⟩
 ·rintro ⟨b,e,q⟩
  subst e;exact q
theorem to_bnd {x:Option (Res β)}{kk:β->Option Out}:To (gW x kk) QS=Tv x (fun b=>To (kk b) QS):=by
 refine propext ⟨?_,?_⟩
 ·rintro ⟨r,e,c,q⟩
  rcases cL e with ⟨z,e1,rfl⟩ | ⟨b,e1,e2⟩
  ·exact c.elim
  ·exact ⟨_,e1,r,e2,c,q⟩
 ·rintro ⟨b,e,q⟩
  subst e;exact q
theorem to_seq:To (bf s t ρ) QS=To (s ρ) (Cv (fun ρ'=>To (t ρ') QS) QS):=by
 refine propext ⟨?_,?_⟩
 ·rintro ⟨r,e,c,q⟩
  unfold bf at e
  split at e
  ·rename_i ρ' h
   exact ⟨_,h,trivial,r,e,c,q⟩
  ·rename_i x hx
   refine ⟨r,e,c,?_⟩
   cases r with
   | nx ρ'=>exact absurd e (hx ρ')
   | _=>exact q
 ·rintro ⟨o,e,c,q⟩
  unfold bf To
  rw [e]
  cases o with
  | nx ρ'=>exact q
  | _=>exact ⟨_,rfl,c,q⟩
theorem uy:Tv (none:Option (Res α)) Q=False:=propext ⟨fun ⟨_,e,_⟩=>(nomatch e),fun h=>h.elim⟩
theorem zm:To none QS=False:=propext ⟨fun ⟨_,e,_⟩=>(nomatch e),fun h=>h.elim⟩
theorem tv_m2 {op:β->γ->Option (Res α)}{f:Fn β}{g:Fn γ}:Tv (m2 op f g ρ) Q=Tv (f ρ) (fun a=>Tv (g ρ) (fun b=>Tv (op a b) Q)):=by
 unfold m2
 simp only [tv_bnd]
theorem tv_m1 {op:β->Option (Res α)}{f:Fn β}:Tv (m1 op f ρ) Q=Tv (f ρ) (fun a=>Tv (op a) Q):=by unfold m1;rw [tv_bnd]
theorem tv_var {Q:PV->Prop}:Tv (mV i ρ) Q=∃ p,ρ[i]?=some (some (.sh p))∧Q p:=by
 refine propext ⟨?_,fun ⟨p,e,q⟩=>⟨_,by unfold mV;rw [e],q⟩⟩
 rintro ⟨r,e,q⟩
 unfold mV at e
 split at e
 ·rename_i p hp;cases e;exact ⟨_,hp,q⟩
 ·cases e
theorem tv_lend {Q:PV->Prop}:Tv (mVL i ρ) Q=∃ s,ρ[i]?=some (some s)∧(match s with | .sh p=>Q p | .ow p=>Q p | .dp _=>False):=by
 refine propext ⟨?_,?_⟩
 ·rintro ⟨r,e,q⟩
  unfold mVL at e
  split at e
  ·rename_i p hp;cases e;exact ⟨_,hp,q⟩
  ·rename_i p hp;cases e;exact ⟨_,hp,q⟩
  ·cases e
 ·rintro ⟨s,e,q⟩
  cases s with
  | sh p=>exact ⟨_,by unfold mVL;rw [e],q⟩
  | ow p=>exact ⟨_,by unfold mVL;rw [e],q⟩
  | dp p=>exact q.elim
theorem tv_c {Q:PV->Prop}:Tv (mC p ρ) Q=Q p:=tv_some
theorem tv_view {Q:List PV->Prop}:Tv (qJ f ρ) Q=Tv (f ρ) (fun a=>Tv (tE a) Q):=tv_bnd
theorem tv_viewN {Q:List PV->Prop}:Tv (uX i ρ) Q=Tv (mVL i ρ) (fun a=>Tv (tE a) Q):=tv_bnd
theorem tv_asLst {l:List PV}{Q:List PV->Prop}:Tv (tE (.lst l)) Q=Q l:=tv_some
theorem tv_nil {Q:List PV->Prop}:Tv (bw ρ) Q=Q []:=tv_some
theorem tv_cons {g:Fn (List PV)}{Q:List PV->Prop}:Tv (aB f g ρ) Q=Tv (f ρ) (fun a=>Tv (g ρ) (fun l=>Q (a::l))):=by
 unfold aB
 simp only [tv_bnd,tv_some]
theorem cA {c:Prop} [Decidable c] {a:α}:Tv (if c then some (.ok a) else none) Q=(c∧Q a):=by
 by_cases h:c
 ·rw [if_pos h,tv_some];simp [h]
 ·rw [if_neg h,uy];simp [h]
theorem tv_tup {f:Fn (List PV)}{Q:PV->Prop}:Tv (oU f ρ) Q=Tv (f ρ) (fun l=>l.length≤sizeLine∧Q (.tup l)):=by
 unfold oU
 simp only [tv_bnd,cA]
theorem tv_lst {f:Fn (List PV)}{Q:PV->Prop}:Tv (Ax f ρ) Q=Tv (f ρ) (fun l=>l.length≤sizeLine∧Q (.lst l)):=by
 unfold Ax
 simp only [tv_bnd,cA]
theorem tv_call {m:List PV->Option (Res PV)}{f:Fn (List PV)}{Q:PV->Prop}:Tv (bJ m f ρ) Q=Tv (f ρ) (fun l=>Tv (m l) Q):=tv_bnd
theorem tv_ite {c:Prop} [Decidable c] {x y:Option (Res α)}:Tv (if c then x else y) Q=if c then Tv x Q else Tv y Q:=by split <;> rfl
theorem to_ite {c:Prop} [Decidable c] {x y:Option Out}:To (if c then x else y) QS=if c then To x QS else To y QS:=by split <;> rfl
theorem tv_mIf {c:Fn Bool}{f g:Fn α}:Tv (mIf c f g ρ) Q=Tv (c ρ) (fun b=>if b=true then Tv (f ρ) Q else Tv (g ρ) Q):=by
 unfold mIf
 simp only [tv_bnd,tv_ite]
theorem tv_mOr {c d:Fn Bool}{Q:Bool->Prop}:Tv (mOr c d ρ) Q=Tv (c ρ) (fun b=>if b=true then Q true else Tv (d ρ) Q):=by
 unfold mOr
 simp only [tv_bnd,tv_ite,tv_some]
theorem tv_comp {it:Fn (List PV)}{fr:List (Option Nat)}{tg:PV->Rho->Option Rho}{tst:Fn Bool}{el:Fn PV}{Q:PV->Prop}:Tv (jr it fr tg tst el ρ) Q=Tv (it ρ) (fun l=>l.length≤sizeLine∧Tv (d7 tg tst el (frR fr ρ) l) (fun r=>Q (.lst r))):=by
 unfold jr
 rw [tv_bnd]
 congr 1;funext l
 by_cases hl:l.length≤sizeLine
 ·rw [if_pos hl,tv_bnd]
  simp only [tv_some,hl,true_and]
 ·rw [if_neg hl,uy];simp [hl]
theorem to_next:To (gh ρ) QS=QS (.nx ρ):=to_nx
theorem to_cont:To (JL ρ) QS=QS (.ct ρ):=to_ct
theorem to_ret:To (iU f ρ) QS=Tv (f ρ) (fun p=>QS (.rt p)):=by unfold iU;simp only [to_bnd,to_rt]
theorem to_retO:To (oX f ρ) QS=Tv (f ρ) (fun p=>QS (.ro p)):=by unfold oX;simp only [to_bnd,to_ro]
theorem to_setO:To (tG i f ρ) QS=Tv (f ρ) (fun p=>QS (.nx (ρ.set i (some (.ow p))))):=by unfold tG;simp only [to_bnd,to_nx]
theorem to_asg {tg:PV->Rho->Option Rho}:To (cj f tg ρ) QS=Tv (f ρ) (fun p=>∃ ρ',tg p ρ=some ρ'∧QS (.nx ρ')):=by
 unfold cj
 rw [to_bnd]
 congr 1;funext a
 cases e:tg a ρ with
 | none=>rw [zm];exact propext ⟨fun h=>h.elim,fun ⟨_,z,_⟩=>nomatch z⟩
 | some ρ'=>rw [to_nx];exact propext ⟨fun q=>⟨ρ',rfl,q⟩,fun ⟨_,z,q⟩=>by cases z;exact q⟩
theorem to_asgN:To (cj f (gN i) ρ) QS=Tv (f ρ) (fun p=>QS (.nx (ρ.set i (some (.sh p))))):=by
 rw [to_asg]
 congr 1;funext a
 exact propext ⟨fun ⟨ρ',e,q⟩=>by cases e;exact q,fun q=>⟨_,rfl,q⟩⟩
theorem to_if {c:Fn Bool}:To (jX c s t ρ) QS=Tv (c ρ) (fun b=>if b=true then To (s ρ) QS else To (t ρ) QS):=by
 unfold jX
 simp only [to_bnd,to_ite]
theorem to_for {it:Fn (List PV)}{tg:PV->Rho->Option Rho}:To (pR it tg s ρ) QS=Tv (it ρ) (fun l=>To (loop tg s l ρ) QS):=to_bnd
theorem to_retOw:To (pQ i ρ) QS=∃ p,ρ[i]?=some (some (.ow p))∧QS (.ro p):=by
 refine propext ⟨?_,fun ⟨p,e,q⟩=>⟨.ro p,by unfold pQ ownAt;rw [e],trivial,q⟩⟩
 rintro ⟨r,e,c,q⟩
 unfold pQ at e
 split at e
 ·rename_i p hp;cases e;exact ⟨p,bC hp,q⟩
 ·cases e
theorem to_app:To (Hy i f ρ) QS=∃ l,ρ[i]?=some (some (.ow (.lst l)))∧Tv (f ρ) (fun p=>l.length < sizeLine∧QS (.nx (ρ.set i (some (.ow (.lst (l++[p]))))))):=by
 refine propext ⟨?_,?_⟩
 ·rintro ⟨r,e,c,q⟩
  unfold Hy at e
  split at e
  ·rename_i l hl
   refine ⟨l,bC hl,?_⟩
   rcases cL e with ⟨z,e1,rfl⟩ | ⟨p,e1,e2⟩
   ·exact c.elim
   ·split at e2
    ·rename_i hlen;cases e2;exact ⟨_,e1,hlen,q⟩
    ·cases e2
  ·cases e
 ·rintro ⟨l,e,p,e1,h,q⟩
  have eo:ownAt i ρ=some (.lst l):=by unfold ownAt;rw [e]
  unfold To Hy
  rw [eo]
  exact ⟨.nx _,by simp only [e1,gW];exact if_pos h,trivial,q⟩
theorem j5 {c:Int->Int->Bool}{F:Int->Int->PV}{x y:Int}{Q:PV->Prop}:Tv (MP.opI c F (.int x) (.int y)) Q=(c x y=true∧Q (F x y)):=cA
theorem tv_sub {x y:Int}{Q:PV->Prop}:Tv (jq (.int x) (.int y)) Q=Q (.int (x - y)):=by unfold jq;rw [j5];simp [cT]
theorem tv_and' {x y:Int}{Q:PV->Prop}:Tv (m8 (.int x) (.int y)) Q=Q (.int (Builtin.bitAnd x y)):=by unfold m8;rw [j5];simp [cT]
theorem tv_or' {x y:Int}{Q:PV->Prop}:Tv (Bc (.int x) (.int y)) Q=Q (.int (Builtin.bitOr x y)):=by unfold Bc;rw [j5];simp [cT]
theorem tv_gt {x y:Int}{Q:PV->Prop}:Tv (Ed (.int x) (.int y)) Q=Q (.bl (decide (y < x))):=by unfold Ed;rw [j5];simp [cT]
theorem tv_ge {x y:Int}{Q:PV->Prop}:Tv (Nb (.int x) (.int y)) Q=Q (.bl (decide (y≤x))):=by unfold Nb;rw [j5];simp [cT]
theorem tv_div {x y:Int}{Q:PV->Prop}:Tv (tH (.int x) (.int y)) Q=((0 < y∧y < 1073741824)∧Q (.int (x / y))):=by unfold tH;rw [j5];simp [Q0]
theorem tv_mod {x y:Int}{Q:PV->Prop}:Tv (gj (.int x) (.int y)) Q=(0 < y∧Q (.int (x % y))):=by unfold gj;rw [j5];simp [Te]
theorem tv_pow {x y:Int}{Q:PV->Prop}:Tv (Fx (.int x) (.int y)) Q=((0≤y∧y≤1000000∧x.natAbs < 2 ^ 64)∧Q (.int (x ^ y.toNat))):=by unfold Fx;rw [j5];simp [JV]
theorem tv_shl {x y:Int}{Q:PV->Prop}:Tv (kE (.int x) (.int y)) Q=((0≤y∧y≤1000000∧x.natAbs < 2 ^ 64)∧Q (.int (x * 2 ^ y.toNat))):=by unfold kE;rw [j5];simp [JV]
theorem tv_shr {x y:Int}{Q:PV->Prop}:Tv (tK (.int x) (.int y)) Q=(0≤y∧Q (.int (x / 2 ^ y.toNat))):=by unfold tK;rw [j5];simp [Tf]
theorem tv_add {x y:Int}{Q:PV->Prop}:Tv (cB (.int x) (.int y)) Q=Q (.int (x+y)):=tv_some
theorem tv_addS {x y:Str}{Q:PV->Prop}:Tv (cB (.str x) (.str y)) Q=(x.length+y.length≤sizeLine∧Q (.str (x++y))):=cA
theorem tv_addT {x y:List PV}{Q:PV->Prop}:Tv (cB (.tup x) (.tup y)) Q=((x≠[]∧x.length+y.length≤sizeLine)∧Q (.tup (x++y))):=cA
theorem tv_mul {x y:Int}{Q:PV->Prop}:Tv (cR (.int x) (.int y)) Q=(Dz x y∧Q (.int (x * y))):=by
 show Tv (if JT x y=true then _ else none) Q=_
 rw [cA]
 unfold JT Dz
 simp
theorem tv_mulS {z:Str}{n:Int}{Q:PV->Prop}:Tv (cR (.str z) (.int n)) Q=((-(2 ^ 63)≤n∧n < 2 ^ 63∧z.length * n.toNat≤sizeLine)∧Q (.str (Q3 z n.toNat))):=cA
theorem tv_lt {x y:Int}{Q:PV->Prop}:Tv (HJ (.int x) (.int y)) Q=Q (.bl (decide (x < y))):=tv_some
theorem tv_ltS {x y:Str}{Q:PV->Prop}:Tv (HJ (.str x) (.str y)) Q=Q (.bl (decide (x.cps.toList < y.cps.toList))):=tv_some
theorem tv_eq {p q:PV}{Q:PV->Prop}:Tv (jY p q) Q=∃ r,eqF 32 p q=some r∧Q (.bl r):=by
 refine propext ⟨?_,fun ⟨r,e,k⟩=>⟨_,by unfold jY;rw [e],k⟩⟩
 rintro ⟨r,e,k⟩
 unfold jY at e
 split at e
 ·rename_i b hb;cases e;exact ⟨b,hb,k⟩
 ·cases e
theorem tv_ne {p q:PV}{Q:PV->Prop}:Tv (Bd p q) Q=∃ r,eqF 32 p q=some r∧Q (.bl (!r)):=by
 refine propext ⟨?_,fun ⟨r,e,k⟩=>⟨_,by unfold Bd;rw [e],k⟩⟩
 rintro ⟨r,e,k⟩
 unfold Bd at e
 split at e
 ·rename_i b hb;cases e;exact ⟨b,hb,k⟩
 ·cases e
theorem eqF_int (n:Nat) (i j:Int):eqF n (.int i) (.int j)=some (decide (i=j)):=by cases n <;> rfl
theorem eqF_str (n:Nat) (i j:Str):eqF n (.str i) (.str j)=some (decide (i=j)):=by cases n <;> rfl
theorem eqF_bl (n:Nat) (i j:Bool):eqF n (.bl i) (.bl j)=some (decide (i=j)):=by cases n <;> rfl
theorem tv_eqI {x y:Int}{Q:PV->Prop}:Tv (jY (.int x) (.int y)) Q=Q (.bl (decide (x=y))):=by rw [tv_eq,eqF_int];simp
theorem tv_eqS {x y:Str}{Q:PV->Prop}:Tv (jY (.str x) (.str y)) Q=Q (.bl (decide (x=y))):=by rw [tv_eq,eqF_str];simp
theorem tv_neI {x y:Int}{Q:PV->Prop}:Tv (Bd (.int x) (.int y)) Q=Q (.bl (!decide (x=y))):=by rw [tv_ne,eqF_int];simp
theorem tv_neS {x y:Str}{Q:PV->Prop}:Tv (Bd (.str x) (.str y)) Q=Q (.bl (!decide (x=y))):=by rw [tv_ne,eqF_str];simp
theorem tv_notin {p q:PV}{Q:PV->Prop}:Tv (oE p q) Q=∃ r,inU p q=some r∧Q (.bl (!r)):=by
 refine propext ⟨?_,fun ⟨r,e,k⟩=>⟨_,by unfold oE;rw [e],k⟩⟩
 rintro ⟨r,e,k⟩
 unfold oE at e
 split at e
 ·rename_i b hb;cases e;exact ⟨b,hb,k⟩
 ·cases e
theorem tv_notN {p:PV}{Q:PV->Prop}:Tv (Ef p .non) Q=Q (.bl (!p.xx)):=tv_some
theorem zq {x:Option PV}{Q:PV->Prop}:Tv (ofO x) Q=∃ p,x=some p∧Q p:=by
 refine propext ⟨?_,fun ⟨p,e,k⟩=>⟨_,by subst e;rfl,k⟩⟩
 rintro ⟨r,e,k⟩
 obtain ⟨p,e1,e2⟩:=qI e
 cases e2
 exact ⟨_,e1,k⟩
theorem tv_ixL {l:List PV}{n:Int}{Q:PV->Prop}:Tv (bV (.lst l) (.int n)) Q=∃ p,atI l n=some p∧Q p:=zq
theorem tv_ixT {l:List PV}{n:Int}{Q:PV->Prop}:Tv (bV (.tup l) (.int n)) Q=∃ p,atI l n=some p∧Q p:=zq
theorem tv_ixV {l:List PV}{n:Int}{Q:PV->Prop}:Tv (JW l (.int n)) Q=∃ p,atI l n=some p∧Q p:=zq
theorem tv_ixS {z:Str}{n:Int}{Q:PV->Prop}:Tv (bV (.str z) (.int n)) Q=(z.length≤sizeLine∧∃ c,atI z.cps.toList n=some c∧Q (.str ⟨#[c]⟩)):=by
 show Tv (if z.length≤sizeLine then _ else none) Q=_
 by_cases hz:z.length≤sizeLine
 ·rw [if_pos hz,zq]
  simp only [hz,true_and]
  refine propext ⟨?_,fun ⟨c,e,k⟩=>⟨_,by rw [e];rfl,k⟩⟩
  rintro ⟨p,e,k⟩
  cases e1:atI z.cps.toList n with
  | none=>rw [e1] at e;cases e
  | some c=>rw [e1] at e;cases e;exact ⟨c,rfl,k⟩
 ·rw [if_neg hz]
  exact propext ⟨fun ⟨r,e,q⟩=>(nomatch e),fun ⟨z,_⟩=>absurd z hz⟩
theorem tv_lenS {z:Str}{Q:PV->Prop}:Tv (o7 (.str z)) Q=(z.length≤sizeLine∧Q (.int z.length)):=cA
theorem tv_lenL {l:List PV}{Q:PV->Prop}:Tv (o7 (.lst l)) Q=Q (.int l.length):=tv_some
theorem tv_lenT {l:List PV}{Q:PV->Prop}:Tv (o7 (.tup l)) Q=Q (.int l.length):=tv_some
theorem tv_asBl {b:Bool}{Q:Bool->Prop}:Tv (fW (.bl b)) Q=Q b:=tv_some
theorem tv_list {l:List PV}{Q:PV->Prop}:Tv (Ei l) Q=Q (.lst l):=tv_some
theorem tv_cat {l m:List PV}{Q:PV->Prop}:Tv (xF l m) Q=(l.length+m.length≤sizeLine∧Q (.lst (l++m))):=cA
theorem tv_asSeqL {l:List PV}{Q:List PV->Prop}:Tv (oZ (.lst l)) Q=Q l:=tv_some
theorem tv_asSeqT {l:List PV}{Q:List PV->Prop}:Tv (oZ (.tup l)) Q=Q l:=tv_some
theorem tv_asSeqS {z:Str}{Q:List PV->Prop}:Tv (oZ (.str z)) Q=Q (signs z):=tv_some
theorem tv_rng1 {j:Int}{Q:List PV->Prop}:Tv (lG [.int j]) Q=((-(2 ^ 62)≤j∧j < 2 ^ 62)∧Q (m9 0 j.toNat)):=cA
theorem tv_rng2 {x y:Int}{Q:List PV->Prop}:Tv (yP [.int x,.int y]) Q=((-(2 ^ 62)≤x∧x < 2 ^ 62∧-(2 ^ 62)≤y∧y < 2 ^ 62)∧Q (m9 x (y - x).toNat)):=cA
theorem tv_enum {l:List PV}{Q:List PV->Prop}:Tv (Eh [.lst l]) Q=Q (tM l):=tv_some
theorem tv_pn {Q:Option Int->Prop}:Tv (mPn ρ) Q=Q none:=tv_some
theorem tv_asInt {x:Int}{Q:Option Int->Prop}:Tv (asInt (.int x)) Q=Q (some x):=tv_some
theorem tv_slL {f:Fn (List PV)}{lo hi:Fn (Option Int)}{Q:PV->Prop}:Tv (Nj f lo hi ρ) Q=Tv (f ρ) (fun l=>Tv (lo ρ) (fun a=>Tv (hi ρ) (fun b=>Q (.lst (Eg l a b))))):=by
 unfold Nj
 simp only [tv_bnd,tv_some]
end
section
variable {QS:Out->Prop}{Q:PV->Prop}{ρ:Rho}{i j:Nat}{f g:Fn PV}{z y:Str}
theorem finIO_nx {p:PV}:(Tp j (some (.nx ρ))=some (.ok p))=(ρ[j]?=some (some (.ow p))):=by
 show ((match ownAt j ρ with | some p=>some (Res.ok p) | none=>none)=some (.ok p))=_
 cases h:ownAt j ρ with
 | none=>exact propext ⟨fun e=>(nomatch e),fun e=>by unfold ownAt at h;rw [e] at h;cases h⟩
 | some q=>exact propext ⟨fun e=>by cases e;exact bC h,fun e=>by rw [bC h] at e;cases e;rfl⟩
theorem to_never:To (Ek ρ) QS=False:=zm
end
noncomputable def turn (I:Rho->Prop) (QS:Out->Prop):Out->Prop
 | .nx ρ=>I ρ
 | .ct ρ=>I ρ
 | .bk ρ=>QS (.nx ρ)
 | o=>QS o
theorem turn_nx {I:Rho->Prop}{QS:Out->Prop}{ρ:Rho}:turn I QS (.nx ρ)=I ρ:=rfl
theorem turn_ct {I:Rho->Prop}{QS:Out->Prop}{ρ:Rho}:turn I QS (.ct ρ)=I ρ:=rfl
theorem turn_bk {I:Rho->Prop}{QS:Out->Prop}{ρ:Rho}:turn I QS (.bk ρ)=QS (.nx ρ):=rfl
theorem turn_rt {I:Rho->Prop}{QS:Out->Prop}{p:PV}:turn I QS (.rt p)=QS (.rt p):=rfl
theorem turn_ro {I:Rho->Prop}{QS:Out->Prop}{p:PV}:turn I QS (.ro p)=QS (.ro p):=rfl
theorem turn_rd {I:Rho->Prop}{QS:Out->Prop}{p:PV}:turn I QS (.rd p)=QS (.rd p):=rfl
theorem Ol {tg:PV->Rho->Option Rho}{body:Sn}{QS:Out->Prop} (I:Nat->Rho->Prop):∀ {l:List PV}{ρ:Rho},I 0 ρ ->
  (∀ (i:Nat) x ρ,l[i]?=some x->I i ρ->∃ ρ1,tg x ρ=some ρ1∧To (body ρ1) (turn (I (i+1)) QS)) ->
  (∀ ρ',I l.length ρ'->QS (.nx ρ'))->To (loop tg body l ρ) QS:=by
 intro l
 induction l generalizing I with
 | nil=>exact fun h0 _ hd=>⟨_,rfl,trivial,hd _ h0⟩
 | cons x xs ih =>
  intro ρ h0 hs hd
  obtain ⟨ρ1,e1,o,e2,c,q⟩:=hs 0 x ρ rfl h0
  unfold To
  rw [loop,e1]
  simp only [e2]
  cases o with
  | nx ρ2=>exact ih (fun i=>I (i+1)) q (fun i y ρ e=>hs (i+1) y ρ (by simpa using e)) hd
  | ct ρ2=>exact ih (fun i=>I (i+1)) q (fun i y ρ e=>hs (i+1) y ρ (by simpa using e)) hd
  | bk ρ2=>exact ⟨_,rfl,trivial,q⟩
  | rt p=>exact ⟨_,rfl,trivial,q⟩
  | ro p=>exact ⟨_,rfl,trivial,q⟩
  | rd p=>exact ⟨_,rfl,trivial,q⟩
  | ex z=>exact c.elim
theorem vO {x:Option Out}{I:Rho->Prop}{Q:Out->Prop} (h:∀ QS:Out->Prop,(∀ ρ,I ρ->QS (.nx ρ))->To x QS):To x (turn I Q):=h _ fun _ h=>h
theorem dX {j:Nat}{body:Sn}{QS:Out->Prop} (I:Nat->Rho->Prop) {l:List PV}{ρ:Rho} (h0:I 0 ρ)
  (hs:∀ (i:Nat) x ρ,l[i]?=some x->I i ρ->To (body (ρ.set j (some (.sh x)))) (turn (I (i+1)) QS)) (hd:∀ ρ',I l.length ρ'->QS (.nx ρ')):To (loop (gN j) body l ρ) QS :=
 Ol I h0 (fun i x ρ e hI=>⟨_,rfl,hs i x ρ e hI⟩) hd
theorem vP {fc:Fn Bool}{body:Sn}{QS:Out->Prop} (I:Nat->Rho->Prop):∀ {n:Nat}{ρ:Rho},I n ρ ->
  (∀ (n:Nat) ρ,I n ρ->Tv (fc ρ) (fun b=>if b=true then 0 < n∧To (body ρ) (turn (I (n - 1)) QS) else QS (.nx ρ)))->To (kj fc body (n+1) ρ) QS:=by
 intro n
 induction n with
 | zero =>
  intro ρ h0 hs
  rw [kj,to_bnd]
  obtain ⟨b,e,q⟩:=hs 0 ρ h0
  refine ⟨b,e,?_⟩
  cases b with
  | true=>exact absurd q.1 (Zby _)
  | false=>exact ⟨_,rfl,trivial,q⟩
 | succ n ih =>
  intro ρ h0 hs
  rw [kj,to_bnd]
  obtain ⟨b,e,q⟩:=hs (n+1) ρ h0
  refine ⟨b,e,?_⟩
  cases b with
  | false=>exact ⟨_,rfl,trivial,q⟩
  | true =>
   obtain ⟨_,o,e2,c,q2⟩:=q
   show To (if true=true then _ else _) QS
   rw [if_pos rfl]
   simp only [e2]
   cases o with
   | nx ρ2=>exact ih q2 hs
   | ct ρ2=>exact ih q2 hs
   | bk ρ2=>exact ⟨_,rfl,trivial,q2⟩
   | rt p=>exact ⟨_,rfl,trivial,q2⟩
   | ro p=>exact ⟨_,rfl,trivial,q2⟩
   | rd p=>exact ⟨_,rfl,trivial,q2⟩
   | ex z=>exact c.elim
theorem lX {x:Option Out}{r:Res PV} (h:To x fun o=>fin (some o)=some r):fin x=some r:=by
 obtain ⟨o,e,_,q⟩:=h
 rw [e];exact q
theorem uz {x:Option Out}{r:Res PV} (h:To x fun o=>qK (some o)=some r):qK x=some r:=by
 obtain ⟨o,e,_,q⟩:=h
 rw [e];exact q
theorem sO {x:Option Out}{P:PV->Prop} (h:To x fun o=>∃ p,fin (some o)=some (.ok p)∧P p):∃ p,fin x=some (.ok p)∧P p:=by
 obtain ⟨o,e,_,q⟩:=h
 rw [e];exact q
theorem zr {x:Option Out}{P:PV->Prop} (h:To x fun o=>∃ p,qK (some o)=some (.ok p)∧P p):∃ p,qK x=some (.ok p)∧P p:=by
 obtain ⟨o,e,_,q⟩:=h
 rw [e];exact q
theorem fin_nx {ρ:Rho}:fin (some (.nx ρ))=some (.ok .non):=rfl
theorem fin_rt {p:PV}:fin (some (.rt p))=some (.ok p):=rfl
theorem finO_ro {p:PV}:qK (some (.ro p))=some (.ok p):=rfl
theorem vQ {tg:PV->Rho->Option Rho}{tst:Fn Bool}{el:Fn PV}{ρb:Rho} (t:PV->Bool) (f:PV->PV):∀ (l:List PV),
  (∀ x∈l,∃ ρ1,tg x ρb=some ρ1∧tst ρ1=some (.ok (t x))∧(t x=true->el ρ1=some (.ok (f x))))->d7 tg tst el ρb l=some (.ok ((l.filter t).map f))
 | [],_=>rfl
 | x::xs,h=>by
  obtain ⟨ρ1,e1,e2,e3⟩:=h x List.mem_cons_self
  have ih:=vQ t f xs fun y hy=>h y (List.mem_cons_of_mem _ hy)
  rw [d7,e1]
  simp only [e2,bnd]
  cases ht:t x with
  | true=>rw [if_pos rfl,e3 ht];simp only [ih,Zbs,ht,if_true,Zak]
  | false=>rw [if_neg (by decide)];simp only [ih,Zbs,ht,Za0,if_false]
theorem Il {tg:PV->Rho->Option Rho}{el:Fn PV}{ρb:Rho} (f:PV->PV) (l:List PV) (h:∀ x∈l,∃ ρ1,tg x ρb=some ρ1∧el ρ1=some (.ok (f x))):d7 tg tY el ρb l=some (.ok (l.map f)):=by
 have:=vQ (tg:=tg) (tst:=tY) (el:=el) (ρb:=ρb) (fun _=>true) f l fun x hx=>let ⟨ρ1,a,b⟩:=h x hx;⟨ρ1,a,rfl,fun _=>b⟩
 rwa [ZbB.mpr fun _ _=>rfl] at this
theorem tv_compN {tg:PV->Rho->Option Rho}{tst:Fn Bool}{el:Fn PV}{ρb:Rho}{Q:List PV->Prop}:Tv (d7 tg tst el ρb []) Q=Q []:=tv_some
theorem tv_compC {j:Nat}{tst:Fn Bool}{el:Fn PV}{ρb:Rho}{x:PV}{xs:List PV}{Q:List PV->Prop}:Tv (d7 (gN j) tst el ρb (x::xs)) Q =
  Tv (tst (ρb.set j (some (.sh x)))) (fun b=>if b=true then Tv (el (ρb.set j (some (.sh x)))) (fun p=>Tv (d7 (gN j) tst el ρb xs) (fun r=>Q (p::r))) else Tv (d7 (gN j) tst el ρb xs) Q):=by
 rw [d7]
 simp only [gN,tv_bnd,tv_ite,tv_some]
theorem tv_yes {ρ:Rho}{Q:Bool->Prop}:Tv (tY ρ) Q=Q true:=tv_some
theorem jN {α:Type}{x:Option (Res α)}{q:α} (h:Tv x fun p=>p=q):x=some (.ok q):=by
 obtain ⟨p,e,rfl⟩:=h
 exact e
theorem TX {j:Nat}{el:Fn PV}{ρb:Rho}{l:List PV} (f:PV->PV) (h:∀ x∈l,Tv (el (ρb.set j (some (.sh x)))) fun p=>p=f x):d7 (gN j) tY el ρb l=some (.ok (l.map f)) :=
 Il f l fun x hx=>⟨_,rfl,jN (h x hx)⟩
theorem TY {j:Nat}{tst:Fn Bool}{el:Fn PV}{ρb:Rho}{l:List PV} (t:PV->Bool) (f:PV->PV) (h:∀ x∈l,Tv (tst (ρb.set j (some (.sh x)))) fun b=>b=t x) (h2:∀ x∈l,t x=true->Tv (el (ρb.set j (some (.sh x)))) fun p=>p=f x) :
  d7 (gN j) tst el ρb l=some (.ok ((l.filter t).map f)) :=
 vQ t f l fun x hx=>⟨_,rfl,jN (h x hx),fun ht=>jN (h2 x hx ht)⟩
noncomputable def szP (w h:Int):PV:=.tup [.int w,.int h]
noncomputable def cellP (c:Int×Int):PV:=.tup [.int c.1,.int c.2]
theorem snocI (l:List Int) (a:Int):l.map PV.int++[PV.int a]=(l++[a]).map PV.int:=by rw [Za1];rfl
theorem snocS (l:List Str) (a:Str):l.map PV.str++[PV.str a]=(l++[a]).map PV.str:=by rw [Za1];rfl
theorem snocC (l:List (Int×Int)) (a b:Int):l.map cellP++[PV.tup [.int a,.int b]]=(l++[(a,b)]).map cellP:=by rw [Za1];rfl
theorem is_non_int:isI .non "int"=some false:=rfl
theorem is_non_bool:isI .non "bool"=some false:=rfl
theorem is_non_str:isI .non "str"=some false:=rfl
theorem is_non_list:isI .non "list"=some false:=rfl
theorem is_non_tuple:isI .non "tuple"=some false:=rfl
theorem is_non_dict:isI .non "dict"=some false:=rfl
theorem is_bl_int {b:Bool}:isI (.bl b) "int"=some true:=rfl
theorem is_bl_bool {b:Bool}:isI (.bl b) "bool"=some true:=rfl
theorem is_bl_str {b:Bool}:isI (.bl b) "str"=some false:=rfl
theorem is_bl_list {b:Bool}:isI (.bl b) "list"=some false:=rfl
theorem is_bl_tuple {b:Bool}:isI (.bl b) "tuple"=some false:=rfl
theorem is_bl_dict {b:Bool}:isI (.bl b) "dict"=some false:=rfl
theorem is_int_int {i:Int}:isI (.int i) "int"=some true:=rfl
theorem is_int_bool {i:Int}:isI (.int i) "bool"=some false:=rfl
theorem is_int_str {i:Int}:isI (.int i) "str"=some false:=rfl
theorem is_int_list {i:Int}:isI (.int i) "list"=some false:=rfl
theorem is_int_tuple {i:Int}:isI (.int i) "tuple"=some false:=rfl
theorem is_int_dict {i:Int}:isI (.int i) "dict"=some false:=rfl
theorem is_str_int {z:Str}:isI (.str z) "int"=some false:=rfl
theorem is_str_bool {z:Str}:isI (.str z) "bool"=some false:=rfl
theorem is_str_str {z:Str}:isI (.str z) "str"=some true:=rfl
theorem is_str_list {z:Str}:isI (.str z) "list"=some false:=rfl
theorem is_str_tuple {z:Str}:isI (.str z) "tuple"=some false:=rfl
theorem is_str_dict {z:Str}:isI (.str z) "dict"=some false:=rfl
theorem is_tup_int {l:List PV}:isI (.tup l) "int"=some false:=rfl
theorem is_tup_bool {l:List PV}:isI (.tup l) "bool"=some false:=rfl
theorem is_tup_str {l:List PV}:isI (.tup l) "str"=some false:=rfl
theorem is_tup_list {l:List PV}:isI (.tup l) "list"=some false:=rfl
theorem is_tup_tuple {l:List PV}:isI (.tup l) "tuple"=some true:=rfl
theorem is_tup_dict {l:List PV}:isI (.tup l) "dict"=some false:=rfl
theorem is_lst_int {l:List PV}:isI (.lst l) "int"=some false:=rfl
theorem is_lst_bool {l:List PV}:isI (.lst l) "bool"=some false:=rfl
theorem is_lst_str {l:List PV}:isI (.lst l) "str"=some false:=rfl
theorem is_lst_list {l:List PV}:isI (.lst l) "list"=some true:=rfl
theorem is_lst_tuple {l:List PV}:isI (.lst l) "tuple"=some false:=rfl
theorem is_lst_dict {l:List PV}:isI (.lst l) "dict"=some false:=rfl
theorem Cw {α:Type}{g:α->PV} [DecidableEq α] (h:∀ a b,eqF 31 (g a) (g b)=some (decide (a=b))) (a:α):∀ l:List α,inF (g a) (l.map g)=some (decide (a∈l))
 | []=>rfl
 | x::xs=>by
  rw [Zak,inF,h x a,Cw h a xs]
  simp only [Zas,Bool.decide_or]
  congr 2
  exact decide_eq_decide.mpr ⟨fun e=>e.symm,fun e=>e.symm⟩
theorem Om {α:Type}{g:α->PV} [DecidableEq α] (h:∀ a b,eqF 31 (g a) (g b)=some (decide (a=b))) (a:α) (l:List α) [Decidable (a∈l)]:inF (g a) (l.map g)=some (decide (a∈l)):=by
 rw [Cw h a l]
 congr 1
 exact decide_eq_decide.mpr Iff.rfl
theorem xY {ns:List Int}{i:Int} (h0:0≤i) (h:i < ns.length):atI (ns.map PV.int) i=some (.int (ns.getD i.toNat 0)):=by
 obtain ⟨v,e1,e2⟩:=Ju (xs:=ns.map PV.int) h0 (by rw [List.length_map];exact h)
 rw [e1]
 rw [List.getElem?_map] at e2
 have hl:i.toNat < ns.length:=by lia
 rw [List.getElem?_eq_getElem hl] at e2
 rw [List.getD_eq_getElem?_getD,List.getElem?_eq_getElem hl]
 exact e2.symm
theorem atI_0 {p:PV}{l:List PV}:atI (p::l) 0=some p:=oh (j:=0) rfl
theorem atI_1 {p q:PV}{l:List PV}:atI (p::q::l) 1=some q:=oh (j:=1) rfl
theorem atI_2 {p q r:PV}{l:List PV}:atI (p::q::r::l) 2=some r:=oh (j:=2) rfl
theorem atI_3 {p q r s:PV}{l:List PV}:atI (p::q::r::s::l) 3=some s:=oh (j:=3) rfl
theorem is_dk_int {l:List (Key×PV)}:isI (.dk l) "int"=some false:=rfl
theorem is_dk_str {l:List (Key×PV)}:isI (.dk l) "str"=some false:=rfl
theorem tv_neg {i:Int}{Q:PV->Prop}:Tv (J3 (.int i)) Q=Q (.int (-i)):=tv_some
section
variable {ρ:Rho}{f g h:Fn PV}{i:Nat}{Q:PV->Prop}{QS:Out->Prop}{d k x p:PV}{l:List PV}
theorem K4:Tv (asD p) Q=(p.isD=true∧Q p):=cA
theorem tv_viewD:Tv (yR f ρ) Q=Tv (f ρ) (fun p=>p.isD=true∧Q p):=by unfold yR;rw [tv_bnd];simp only [K4]
theorem tv_viewDN:Tv (fu i ρ) Q=Tv (mVL i ρ) (fun p=>p.isD=true∧Q p):=by unfold fu;rw [tv_bnd];simp only [K4]
theorem zu {α:Type}{o:Option α}{F:α->PV}:Tv (o.map fun r=>Res.ok (F r)) Q=∃ r,o=some r∧Q (F r):=by
 cases o with
 | none=>exact propext ⟨(fun ⟨_,e,_⟩=>by cases e),(fun ⟨_,e,_⟩=>by cases e)⟩
 | some r=>exact propext ⟨fun ⟨_,e,q⟩=>by cases e;exact ⟨r,rfl,q⟩,fun ⟨_,e,q⟩=>by cases e;exact ⟨_,rfl,q⟩⟩
theorem tv_dget1:Tv (yS f g ρ) Q=Tv (f ρ) (fun d=>Tv (g ρ) (fun k=>∃ r,fK d k=some r∧Q (r.getD .non))):=by
 unfold yS;simp only [tv_bnd,zu]
theorem tv_opDGet:Tv (jZ d k) Q=∃ p,fK d k=some (some p)∧Q p:=by
 unfold jZ
 split
 ·rename_i p h;rw [h,tv_some];exact propext ⟨fun q=>⟨p,rfl,q⟩,fun ⟨_,e,q⟩=>by cases e;exact q⟩
 ·rename_i h;rw [uy];exact propext ⟨fun z=>z.elim,fun ⟨p,e,_⟩=>(h p e).elim⟩
theorem tv_opDIn:Tv (Bm k d) Q=∃ r,fK d k=some r∧Q (.bl r.isSome):=by unfold Bm;rw [zu]
theorem tv_opDNotIn:Tv (kI k d) Q=∃ r,fK d k=some r∧Q (.bl (!r.isSome)):=by unfold kI;rw [zu]
theorem tv_dictP:Tv (qN d l) Q=∃ ps d',lM l=some ps∧iw d ps=some d'∧Q d':=by
 unfold qN
 split
 ·rename_i ps h
  rw [h]
  refine propext ⟨?_,?_⟩
  ·rintro ⟨r,e,q⟩
   cases h2:iw d ps with
   | none=>rw [h2] at e;cases e
   | some d'=>rw [h2] at e;cases e;exact ⟨ps,_,rfl,h2,q⟩
  ·rintro ⟨ps',d',e1,e2,q⟩
   cases e1;exact ⟨d',by rw [e2];rfl,q⟩
 ·rename_i h;rw [uy];exact propext ⟨fun z=>z.elim,fun ⟨ps,_,e,_⟩=>by rw [h] at e;cases e⟩
theorem tv_newT:Tv (u9 ρ) Q=Q (.dt []):=tv_some
theorem to_dput:To (tO i f g ρ) QS=Tv (f ρ) (fun p=>∃ d,ρ[i]?=some (some (.ow d))∧Tv (g ρ) (fun k=>∃ d',En d k p=some d'∧QS (.nx (ρ.set i (some (.ow d')))))):=by
 unfold tO
 rw [to_bnd]
 congr 1;funext p
 refine propext ⟨?_,?_⟩
 ·rintro ⟨r,e,c,q⟩
  split at e
  ·rename_i d hd
   refine ⟨d,bC hd,?_⟩
   rcases cL e with ⟨z,e1,rfl⟩ | ⟨k,e1,e2⟩
   ·exact c.elim
   ·split at e2
    ·rename_i d' h'
     cases e2
     exact ⟨k,e1,d',h',q⟩
    ·cases e2
  ·cases e
 ·rintro ⟨d,e,k,e1,d',h1,q⟩
  refine ⟨.nx (ρ.set i (some (.ow d'))),?_,trivial,q⟩
  have eo:ownAt i ρ=some d:=by unfold ownAt;rw [e]
  rw [eo]
  simp only [e1,M7,h1]
end
section
variable {l:List (Key×PV)}{t:List (List Key×PV)}{ks:List PV}{n:Int}{z:Str}{p:PV}
theorem dF_int:fK (.dk l) (.int n)=some (dw l (.inl n)):=rfl
theorem dF_str:fK (.dk l) (.str z)=some (dw l (.inr z)):=rfl
theorem dF_tup:fK (.dt t) (.tup ks)=(eO ks).map (dw t):=rfl
theorem isD_dk:(PV.dk l).isD=true:=rfl
theorem isD_dt:(PV.dt t).isD=true:=rfl
end
section
variable {κ:Type} [DecidableEq κ]
theorem vR (k j:κ) (p:PV):∀ l:List (κ×PV),dw (iH l k p) j=if j=k then some p else dw l j
 | []=>by
  unfold iH dw
  by_cases h:k=j
  ·rw [if_pos h,if_pos h.symm]
  ·rw [if_neg h,if_neg (Za8 h)];rfl
 | (a,q)::l=>by
  have ih:=vR k j p l
  unfold iH
  by_cases h:a=k
  ·rw [if_pos h]
   subst h
   unfold dw
   by_cases h2:a=j
   ·rw [if_pos h2,if_pos h2.symm]
   ·rw [if_neg h2,if_neg (Za8 h2),if_neg h2]
    split
    ·rw [ih,if_neg (Za8 h2)]
    ·rfl
  ·rw [if_neg h]
   unfold dw
   by_cases h2:a=j
   ·rw [if_pos h2,if_pos h2,if_neg (fun z=>h (h2.trans z))]
   ·rw [if_neg h2,if_neg h2,ih]
theorem Cy (k:κ) (p:PV):∀ l:List (κ×PV),(iH l k p).length≤l.length+1
 | []=>by simp [iH]
 | (a,q)::l=>by
  have ih:=Cy k p l
  unfold iH
  split
  ·split
   ·simp only [ZaC];lia
   ·simp only [ZaC];lia
  ·simp only [ZaC];lia
end
section
variable {f g:Fn PV}{ρ:Rho}{Q:PV->Prop}{QS:Out->Prop}{i:Nat}{s:Sn}{p:PV}
theorem tv_still:Tv (vg f ρ) Q=Tv (f ρ) (fun p=>p.still=true∧Q p):=by
 unfold vg
 rw [tv_bnd]
 congr 1;funext p
 exact cA
theorem to_setD:To (vh i f ρ) QS=Tv (f ρ) (fun p=>QS (.nx (ρ.set i (some (.dp p))))):=by unfold vh;simp only [to_bnd,to_nx]
theorem to_retDp:To (rZ i ρ) QS=∃ p,ρ[i]?=some (some (.dp p))∧QS (.rd p):=by
 refine propext ⟨?_,fun ⟨p,e,q⟩=>⟨.rd p,by unfold rZ yV;rw [e],trivial,q⟩⟩
 rintro ⟨r,e,c,q⟩
 unfold rZ at e
 split at e
 ·rename_i p hp;cases e;exact ⟨p,iy hp,q⟩
 ·cases e
theorem finT_rd:HR (some (.rd p))=some (.ok p):=rfl
theorem Gu {x:Option Out}{P:PV->Prop} (h:To x fun o=>∃ p,HR (some o)=some (.ok p)∧P p):∃ p,HR x=some (.ok p)∧P p:=by
 obtain ⟨o,e,_,q⟩:=h
 rw [e];exact q
theorem tv_zip {l m:List PV}{Q:List PV->Prop}:Tv (Kf [.lst l,.lst m]) Q=Q (Er l m):=tv_some
end
section
variable {f g:Fn PV}{ρ:Rho}{Q:PV->Prop}{QS:Out->Prop}{i j:Nat}{s:Sn}{p:PV}{k:Rho->Prop}
theorem lV:∀ ns:List Int,ni (ns.map .int)=some ns
 | []=>rfl
 | n::ns=>by show (ni (ns.map .int)).map (n::·)=_;rw [lV ns];rfl
theorem tv_holdE:Tv (lN i f ρ) Q=∃ p,ρ[i]?=some (some (.sh p))∧p.isD=true∧Tv (f ρ) Q:=by
 refine propext ⟨?_,fun ⟨p,e,d,r,e2,q⟩=>⟨r,by unfold lN;rw [e];simp only;rw [if_pos d];exact e2,q⟩⟩
 rintro ⟨r,e,q⟩
 unfold lN at e
 split at e
 ·rename_i p hp
  split at e
  ·rename_i d;exact ⟨p,hp,d,r,e,q⟩
  ·cases e
 ·cases e
noncomputable def Gv (QS:Out->Prop):Out->Prop
 | .rd _=>False
 | o=>QS o
theorem holdQ_nx:Gv QS (.nx ρ)=QS (.nx ρ):=rfl
theorem holdQ_rt:Gv QS (.rt p)=QS (.rt p):=rfl
theorem holdQ_ro:Gv QS (.ro p)=QS (.ro p):=rfl
theorem to_hold:To (xK i s ρ) QS=∃ p,ρ[i]?=some (some (.sh p))∧p.isD=true∧To (s ρ) (Gv QS):=by
 refine propext ⟨?_,fun ⟨p,e,d,o,e2,c,q⟩=>⟨o,?_,c,?_⟩⟩
 ·rintro ⟨o,e,c,q⟩
  unfold xK at e
  split at e
  ·rename_i p hp
   split at e
   ·rename_i d
    refine ⟨p,hp,d,o,?_⟩
    split at e
    ·cases e
    ·rename_i x hx
     refine ⟨e,c,?_⟩
     cases o with
     | rd y=>exact (hx y e).elim
     | _=>exact q
   ·cases e
  ·cases e
 ·unfold xK
  rw [e]
  simp only
  rw [if_pos d,e2]
  cases o with
  | rd y=>exact q.elim
  | _=>rfl
 ·cases o with
  | rd y=>exact q.elim
  | _=>exact q
theorem to_io2 {m:List PV->Option (Res PV)}{f:Fn (List PV)}:To (HX i j m f ρ) QS=∃ p q,ρ[i]?=some (some (.ow p))∧ρ[j]?=some (some (.ow q))∧Tv (f ρ) (fun l=>∃ p' q',m (p::q::l)=some (.ok (.tup [p',q']))∧QS (.nx ((ρ.set i (some (.ow p'))).set j (some (.ow q'))))):=by
 refine propext ⟨fun h=>?_,?_⟩
 ·unfold HX at h
  rw [to_bnd] at h
  obtain ⟨l,e,o,e2,c,h⟩:=h
  unfold um at e
  split at e
  ·rename_i p q h1 h2
   rcases bQ e with ⟨z,_,e3⟩ | ⟨l',e3,e4⟩
   ·cases e3
   ·cases e4
    split at e2
    ·rename_i p' q' hm
     cases e2
     exact ⟨p,q,bC h1,bC h2,l',e3,p',q',hm,h⟩
    ·cases e2
  ·cases e
 ·rintro ⟨p,q,e1,e2,l,e3,p',q',e4,h⟩
  have o1:ownAt i ρ=some p:=by unfold ownAt;rw [e1]
  have o2:ownAt j ρ=some q:=by unfold ownAt;rw [e2]
  refine ⟨.nx ((ρ.set i (some (.ow p'))).set j (some (.ow q'))),?_,trivial,h⟩
  unfold HX um
  rw [o1,o2]
  simp only [e3,bnd,gW,e4]
theorem tv_callT {m:List PV->Option (Res PV)}{f:Fn (List PV)}:Tv (yX m f ρ) Q=Tv (f ρ) (fun l=>Tv (m l) Q):=by
 unfold yX
 rw [tv_bnd]
 congr 1;funext l
 refine propext ⟨?_,fun ⟨r,e,q⟩=>⟨r,by rw [e],q⟩⟩
 rintro ⟨r,e,q⟩
 split at e
 ·rename_i p hp;cases e;exact ⟨_,hp,q⟩
 ·cases e
theorem to_frzD:To (tQ i s ρ) QS=∃ p,ρ[i]?=some (some (.dp p))∧To (s (ρ.set i (some (.sh p)))) QS:=by
 refine propext ⟨?_,fun ⟨p,e,r,e2,q⟩=>⟨r,by unfold tQ yV;rw [e];exact e2,q⟩⟩
 rintro ⟨r,e,q⟩
 unfold tQ at e
 split at e
 ·rename_i p hp;exact ⟨p,iy hp,r,e,q⟩
 ·cases e
theorem tv_ownD:Tv (o8 i ρ) Q=∃ p,ρ[i]?=some (some (.ow p))∧p.lQ=true∧Q p:=by
 refine propext ⟨?_,fun ⟨p,e,h,q⟩=>⟨p,by unfold o8 ownAt;rw [e];simp only;rw [if_pos h],q⟩⟩
 rintro ⟨r,e,q⟩
 unfold o8 at e
 split at e
 ·rename_i p hp
  split at e
  ·rename_i h;cases e;exact ⟨_,bC hp,h,q⟩
  ·cases e
 ·cases e
theorem to_retT {f:Fn (List PV)}:To (Bv f ρ) QS=Tv (f ρ) (fun l=>l.length≤sizeLine∧QS (.rd (.tup l))):=by
 unfold Bv
 rw [to_bnd]
 congr 1;funext l
 by_cases h:l.length≤sizeLine
 ·rw [if_pos h,to_rd];simp [h]
 ·rw [if_neg h,zm];simp [h]
theorem xZ {x:Option Out}{P:PV->Prop} (h:To x fun o=>∃ p,vm (some o)=some (.ok p)∧P p):∃ p,vm x=some (.ok p)∧P p:=by
 obtain ⟨o,e,_,q⟩:=h
 rw [e];exact q
end
section
variable {f:Fn PV}{ρ:Rho}{Q:PV->Prop}{QS:Out->Prop}{i:Nat}
end
noncomputable def pZ:Sn :=
 (iU (m2 cB (m2 cR (m2 bV (mV 1) (mC (.int 1))) (m2 bV (mV 0) (mC (.int 0)))) (m2 bV (mV 1) (mC (.int 0)))))
noncomputable def gZ:List PV->Option (Res PV)
 | [a0,a1]=>fin (pZ (startR [a0,a1] 0))
 | _=>none
noncomputable def p6:Sn :=
 (iU (m2 jY (m2 m8 (m2 tK (mV 1) (bJ gZ (aB (mV 0) (aB (mV 2) bw)))) (mC (.int 1))) (mC (.int 1))))
noncomputable def g8:List PV->Option (Res PV)
 | [a0,a1,a2]=>fin (p6 (startR [a0,a1,a2] 0))
 | _=>none
noncomputable def nC:Sn :=
 (oX (jr (m1 lG (aB (m2 cR (m2 bV (mV 0) (mC (.int 0))) (m2 bV (mV 0) (mC (.int 1)))) bw)) [none,some 0] (gN 0) tY (oU (aB (m2 gj (mV 0) (m2 bV (mV 1) (mC (.int 0)))) (aB (m2 tH (mV 0) (m2 bV (mV 1) (mC (.int 0)))) bw)))))
noncomputable def jO:List PV->Option (Res PV)
 | [a0]=>qK (nC (startR [a0] 0))
 | _=>none
noncomputable def vU:Sn :=
 (cj (m2 Bc (mV 2) (m2 kE (mC (.int 1)) (bJ gZ (aB (mV 0) (aB (mV 3) bw))))) (gN 2))
noncomputable def vV:Sn :=
 (iU (mV 2))
noncomputable def vW:Sn :=
 (bf (cj (mC (.int 0)) (gN 2))
   (bf (pR (m1 oZ (mV 1)) (gN 3)
    vU)
   vV))
noncomputable def rB:List PV->Option (Res PV)
 | [a0,a1]=>fin (vW (startR [a0,a1] 2))
 | _=>none
noncomputable def p7:Sn :=
 (oX (jr (m1 oZ (bJ jO (aB (mV 0) bw))) [none,some 0,some 1] (gN 0) (m1 fW (bJ g8 (aB (mV 1) (aB (mV 2) (aB (mV 0) bw))))) (mV 0)))
noncomputable def fZ:List PV->Option (Res PV)
 | [a0,a1]=>qK (p7 (startR [a0,a1] 0))
 | _=>none
noncomputable def vX:Sn :=
 (Bv (aB (vg (mV 7)) (aB (o8 3) (aB (o8 4) bw))))
noncomputable def vY:Sn :=
 (Hy 3 (m2 jZ (fu 1) (mV 7)))
noncomputable def vZ:Sn :=
 (bf (tO 4 (mV 6) (mV 7))
     (bf (jX (m1 fW (m2 kI (mV 7) (fu 1)))
      vX
      gh)
     vY))
noncomputable def v9:Sn :=
 (bf (jX (m1 fW (m2 Bm (mV 7) (fu 4)))
      JL
      gh)
     vZ)
noncomputable def wg:Sn :=
 (cj (m2 cB (mV 5) (mC (.int 1))) (gN 5))
noncomputable def wj:Sn :=
 (bf (cj (m2 JW (uX 3) (mV 5)) (gN 6))
    (bf (pR (m1 oZ (m2 jZ (fu 0) (mV 6))) (gN 7)
     v9)
    wg))
noncomputable def wk:Sn :=
 (Bv (aB (vg (mC .non)) (aB (o8 3) (aB (o8 4) bw))))
noncomputable def wu:Sn :=
 (bf (tG 3 (m1 Ei (uX 2)))
   (bf (tG 4 u9)
   (bf (cj (mC (.int 0)) (gN 5))
   (bf (kj (m1 fW (m2 HJ (mV 5) (m1 o7 (mVL 3))))
    wj 2000)
   wk))))
noncomputable def ju:List PV->Option (Res PV)
 | [a0,a1,a2]=>HR (wu (startR [a0,a1,a2] 5))
 | _=>none
noncomputable def pq:Sn :=
 (bf (cj (m2 jZ (fu 2) (mV 4)) (gN 5))
    (bf (cj (yS (fu 0) (mV 5)) (gN 6))
    (bf (tO 0 (mV 4) (mV 5))
    (bf (tO 1 (mV 5) (mV 4))
    (cj (mV 6) (gN 4))))))
noncomputable def iJ:Sn :=
 (bf (cj (mV 3) (gN 4))
   (kj (m1 fW (m2 Ef (mVL 4) (mC .non)))
    pq 2000))
noncomputable def eU:List PV->Option (Res PV)
 | [a0,a1,a2,a3]=>vm (iJ (eQ [a0,a1,a2,a3] 3))
 | _=>none
noncomputable def nF:Sn :=
 (bf (vh 4 (yX ju (aB (mVL 0) (aB (mVL 2) (aB (Ax (aB (mV 3) bw)) bw)))))
    (tQ 4 (HX 1 2 eU (aB (m2 bV (mV 4) (mC (.int 2))) (aB (m2 bV (mV 4) (mC (.int 0))) bw)))))
noncomputable def nG:Sn :=
 (pQ 1)
noncomputable def lY:Sn :=
 (bf (tG 1 u9)
   (bf (tG 2 u9)
   (bf (xK 0 (pR (m1 rm (mV 0)) (gN 3)
    nF))
   nG)))
noncomputable def gr:List PV->Option (Res PV)
 | [a0]=>qK (lY (startR [a0] 4))
 | _=>none
noncomputable def gw:Sn :=
 (bf (cj (m1 (qN (.dt [])) (qJ (lN 1 (jr (m1 rA (mV 1)) [none,none] (gT 2 (gsCons (gN 0) (gsCons (gN 1) gsNil))) tY (oU (aB (mV 1) (aB (mV 0) bw))))))) (gN 2))
   (bf (vh 3 (bJ ju (aB (mV 0) (aB (mV 2) (aB (lN 0 (jr (m1 rm (mV 0)) [none,some 1] (gN 0) (m1 fW (m2 kI (mV 0) (fu 1))) (mV 0))) bw)))))
   (tQ 3 (iU (oU (aB (m1 oN (qJ (m2 bV (mV 3) (mC (.int 1))))) (aB (m1 vL (yR (m2 bV (mV 3) (mC (.int 2))))) bw)))))))
noncomputable def d8:List PV->Option (Res PV)
 | [a0,a1]=>fin (gw (startR [a0,a1] 2))
 | _=>none
noncomputable def lZ:Sn :=
 (iU (mIf (m1 fW (m2 jY (mVL 1) (mC (.str "row")))) (m2 bV (mV 0) (mC (.int 1))) (m2 bV (mV 0) (mC (.int 0)))))
noncomputable def mj:List PV->Option (Res PV)
 | [a0,a1]=>fin (lZ (startR [a0,a1] 0))
 | _=>none
noncomputable def jP:Sn :=
 (iU (mIf (m1 fW (m2 jY (mVL 1) (mC (.str "row")))) (m2 bV (mV 0) (mC (.int 0))) (m2 bV (mV 0) (mC (.int 1)))))
noncomputable def jQ:List PV->Option (Res PV)
 | [a0,a1]=>fin (jP (startR [a0,a1] 0))
 | _=>none
noncomputable def kY:Sn :=
 (oX (jr (m1 yP (aB (m2 bV (mV 0) (mC (.int 2))) (aB (m2 cB (m2 bV (mV 0) (mC (.int 3))) (mC (.int 1))) bw))) [none,some 0] (gN 0) tY (oU (aB (mV 0) (aB (m2 bV (mV 1) (mC (.int 1))) bw)))))
noncomputable def kZ:Sn :=
 (oX (jr (m1 yP (aB (m2 bV (mV 0) (mC (.int 2))) (aB (m2 cB (m2 bV (mV 0) (mC (.int 3))) (mC (.int 1))) bw))) [none,some 0] (gN 0) tY (oU (aB (m2 bV (mV 1) (mC (.int 1))) (aB (mV 0) bw)))))
noncomputable def gA:Sn :=
 (bf (jX (m1 fW (m2 jY (m2 bV (mV 0) (mC (.int 0))) (mC (.str "row"))))
    kY
    gh)
   kZ)
noncomputable def dI:List PV->Option (Res PV)
 | [a0]=>qK (gA (startR [a0] 0))
 | _=>none
noncomputable def d9:Sn :=
 (bf (cj (m2 jq (bJ jQ (aB (mV 0) (aB (mV 2) bw))) (mC (.int 1))) (gN 4))
   (bf (cj (bJ dI (aB (oU (aB (mV 2) (aB (mV 3) (aB (mC (.int 0)) (aB (mV 4) bw))))) bw)) (gN 5))
   (bf (cj (m2 xF (qJ (m2 xF (qJ (Ax (aB (m1 J3 (mC (.int 1))) bw))) (qJ (jr (m1 Eh (aB (mV 5) bw)) [none,none,some 0,some 1] (gT 2 (gsCons (gN 0) (gsCons (gN 1) gsNil))) (m1 fW (bJ g8 (aB (mV 2) (aB (mV 3) (aB (mV 1) bw))))) (mV 0))))) (qJ (Ax (aB (m2 cB (mV 4) (mC (.int 1))) bw)))) (gN 6))
   (oX (jr (m1 Kf (aB (mV 6) (aB (Nj (uX 6) (m1 asInt (mC (.int 1))) mPn) bw))) [none,none,some 2,some 3] (gT 2 (gsCons (gN 0) (gsCons (gN 1) gsNil))) (m1 fW (m2 HJ (m2 cB (mV 0) (mC (.int 1))) (mV 1))) (oU (aB (mV 2) (aB (mV 3) (aB (m2 cB (mV 0) (mC (.int 1))) (aB (m2 jq (mV 1) (mC (.int 1))) bw))))))))))
noncomputable def eE:List PV->Option (Res PV)
 | [a0,a1,a2,a3]=>qK (d9 (startR [a0,a1,a2,a3] 3))
 | _=>none
noncomputable def iZ:Sn :=
 (tO 3 (mV 5) (mV 6))
noncomputable def jb:Sn :=
 (pR (m1 oZ (bJ dI (aB (mV 5) bw))) (gN 6)
      iZ)
noncomputable def jc:Sn :=
 (pR (m1 oZ (bJ eE (aB (mV 0) (aB (mV 1) (aB (mV 2) (aB (mV 4) bw)))))) (gN 5)
     jb)
noncomputable def jd:Sn :=
 (pQ 3)
noncomputable def gB:Sn :=
 (bf (tG 3 u9)
   (bf (pR (m1 lG (aB (bJ mj (aB (mV 0) (aB (mV 2) bw))) bw)) (gN 4)
    jc)
   jd))
noncomputable def cH:List PV->Option (Res PV)
 | [a0,a1,a2]=>qK (gB (startR [a0,a1,a2] 4))
 | _=>none
noncomputable def pC:Sn :=
 (qY 5 (m2 jZ (fu 3) (mV 6)) (m2 jZ (fu 4) (mV 6)))
noncomputable def pD:Sn :=
 (rZ 5)
noncomputable def nH:Sn :=
 (bf (cj (bJ cH (aB (mV 0) (aB (mV 2) (aB (mC (.str "row")) bw)))) (gN 3))
   (bf (cj (bJ cH (aB (mV 0) (aB (mV 2) (aB (mC (.str "column")) bw)))) (gN 4))
   (bf (vh 5 (Qa u9))
   (bf (pR (m1 oZ (bJ fZ (aB (mV 0) (aB (mV 1) bw)))) (gN 6)
    pC)
   pD))))
noncomputable def iK:List PV->Option (Res PV)
 | [a0,a1,a2]=>HR (nH (startR [a0,a1,a2] 4))
 | _=>none
noncomputable def p8:Sn :=
 Ek
noncomputable def jw:Sn :=
 (bf (vh 4 (bJ iK (aB (mV 0) (aB (mV 1) (aB (mV 2) bw)))))
   (bf (tQ 4 (cj (bJ gr (aB (mV 4) bw)) (gN 5)))
   (bf (cj (bJ d8 (aB (mV 4) (aB (mV 5) bw))) (gN 6))
   (bf (cj (m2 xF (qJ (lN 4 (jr (m1 rm (mV 4)) [none,some 6] (gN 0) (m1 fW (m2 oE (mVL 0) (m2 bV (mV 1) (mC (.int 0))))) (mV 0)))) (qJ (m2 bV (mV 6) (mC (.int 1))))) (gN 7))
   (bf (cj (bJ rB (aB (mV 0) (aB (lN 5 (jr (m1 rA (mV 5)) [none,none] (gT 2 (gsCons (gN 0) (gsCons (gN 1) gsNil))) tY (oU (aB (m2 bV (mV 1) (mC (.int 1))) (aB (m2 bV (mV 0) (mC (.int 1))) bw))))) bw))) (gN 8))
   (iU (oU (aB (m1 oN (uX 7)) (aB (bJ fZ (aB (mV 0) (aB (mV 8) bw))) bw)))))))))
noncomputable def fD:Sn :=
 (bf (cj (bJ fZ (aB (mV 0) (aB (m2 m8 (mV 1) (mV 2)) bw))) (gN 3))
   (bf (jX (m1 fW (m2 Ed (m1 o7 (mVL 3)) (mC (.int 0))))
    p8
    gh)
   jw))
noncomputable def fG:List PV->Option (Res PV)
 | [a0,a1,a2]=>fin (fD (startR [a0,a1,a2] 6))
 | _=>none
noncomputable def pF:Sn :=
 (iU (m2 bV (mV 0) (mV 1)))
noncomputable def pG:Sn :=
 (cj (m2 cB (mV 2) (m2 gj (m2 bV (mV 0) (m2 gj (m2 cR (mV 1) (mC (.int 7))) (m1 o7 (mVL 0)))) (mC (.int 2147483629)))) (gN 2))
noncomputable def j6:Sn :=
 (iU (m2 gj (m2 cR (mV 2) (mV 2)) (mC (.int 2147483629))))
noncomputable def pH:Sn :=
 (bf (cj (m2 cB (m2 cR (mV 1) (mV 1)) (mC (.int 7919))) (gN 2))
   (bf (jX (m1 fW (m2 Ed (m1 o7 (mVL 0)) (mC (.int 0))))
    pG
    gh)
   j6))
noncomputable def nJ:Sn :=
 (bf (jX (m1 fW (m2 HJ (mV 1) (m1 o7 (mVL 0))))
    pF
    gh)
   pH)
noncomputable def cV:List PV->Option (Res PV)
 | [a0,a1]=>fin (nJ (startR [a0,a1] 1))
 | _=>none
noncomputable def nM:Sn :=
 (iU (m2 m8 (m2 tK (mV 0) (m2 cR (mC (.int 31)) (mV 1))) (mC (.int 2147483647))))
noncomputable def nO:Sn :=
 (bf (cj (m2 gj (m2 cR (m2 cB (m2 cB (m2 cB (m2 gj (mV 0) (mC (.int 2147483629))) (m2 cR (m2 cR (mC (.int 7919)) (mV 1)) (mV 1))) (mV 1)) (mC (.int 13))) (mC (.int 48271))) (mC (.int 2147483587))) (gN 2))
   (bf (cj (m2 gj (m2 cR (mV 2) (mV 2)) (mC (.int 2147483629))) (gN 2))
   (iU (m2 gj (m2 cR (m2 cB (mV 2) (mV 1)) (mC (.int 69621))) (mC (.int 2147483563))))))
noncomputable def mq:Sn :=
 (bf (jX (m1 fW (m2 Nb (mV 0) (m2 Fx (mC (.int 10)) (mC (.int 18)))))
    nM
    gh)
   nO)
noncomputable def b8:List PV->Option (Res PV)
 | [a0,a1]=>fin (mq (startR [a0,a1] 1))
 | _=>none
noncomputable def pI:Sn :=
 (iU (oU (aB (m2 cB (mC (.int 1)) (m2 gj (mV 1) (mC (.int 12)))) (aB (m2 cB (mC (.int 1)) (m2 gj (m2 tH (mV 1) (mC (.int 12))) (mC (.int 12)))) bw))))
noncomputable def pJ:Sn :=
 (iU (oU (aB (m2 cB (mC (.int 1)) (m2 gj (mV 1) (mC (.int 6)))) (aB (m2 cB (mC (.int 1)) (m2 gj (m2 tH (mV 1) (mC (.int 6))) (mC (.int 6)))) bw))))
noncomputable def jR:Sn :=
 (bf (cj (bJ b8 (aB (mV 0) (aB (mC (.int 3)) bw))) (gN 1))
   (bf (jX (m1 fW (m2 jY (m2 gj (bJ b8 (aB (mV 0) (aB (mC (.int 4)) bw))) (mC (.int 8))) (mC (.int 3))))
    pI
    gh)
   pJ))
noncomputable def iM:List PV->Option (Res PV)
 | [a0]=>fin (jR (startR [a0] 1))
 | _=>none
noncomputable def rC:Sn :=
 (cj (m2 cB (m2 cR (mV 4) (mC (.int 2147483587))) (bJ b8 (aB (mV 1) (aB (m2 cB (m2 cR (mC (.int 30)) (mV 2)) (mV 5)) bw)))) (gN 4))
noncomputable def rD:Sn :=
 (iU (m2 jq (m2 kE (mC (.int 1)) (mV 3)) (mC (.int 1))))
noncomputable def rE:Sn :=
 (iU (mC (.int 0)))
noncomputable def rF:Sn :=
 (iU (mV 4))
noncomputable def rG:Sn :=
 (bf (jX (m1 fW (m2 jY (mVL 6) (mC (.int 2))))
    rE
    gh)
   rF)
noncomputable def rH:Sn :=
 (bf (cj (m2 gj (mV 4) (m2 kE (mC (.int 1)) (mV 3))) (gN 4))
   (bf (cj (m2 gj (bJ b8 (aB (mV 1) (aB (m2 cB (m2 cR (mC (.int 30)) (mV 2)) (mC (.int 29))) bw))) (mC (.int 8))) (gN 6))
   (bf (jX (m1 fW (m2 jY (mVL 6) (mC (.int 1))))
    rD
    gh)
   rG)))
noncomputable def my:Sn :=
 (bf (cj (m2 cR (m2 bV (mV 0) (mC (.int 0))) (m2 bV (mV 0) (mC (.int 1)))) (gN 3))
   (bf (cj (mC (.int 0)) (gN 4))
   (bf (pR (m1 lG (aB (m2 cB (mC (.int 1)) (m2 tH (mV 3) (mC (.int 30)))) bw)) (gN 5)
    rC)
   rH)))
noncomputable def gb:List PV->Option (Res PV)
 | [a0,a1,a2]=>fin (my (startR [a0,a1,a2] 4))
 | _=>none
noncomputable def lr:Sn :=
 (cj (m2 m8 (mV 3) (bJ gb (aB (mV 0) (aB (m2 cB (mV 1) (mC (.int 1))) (aB (m2 cR (mC (.int 2)) (mV 2)) bw))))) (gN 3))
noncomputable def lw:Sn :=
 (oX (Ax (aB (m2 jq (m2 jq (m2 kE (mC (.int 1)) (m2 cR (m2 bV (mV 0) (mC (.int 0))) (m2 bV (mV 0) (mC (.int 1))))) (mC (.int 1))) (mV 3)) (aB (mV 3) bw))))
noncomputable def lz:Sn :=
 (oX (Ax (aB (m2 jq (mV 4) (m2 m8 (mV 4) (mV 3))) (aB (mV 3) bw))))
noncomputable def ie:Sn :=
 (bf (jX (m1 fW (m2 jY (m2 gj (m2 tH (mV 5) (mC (.int 3))) (mC (.int 3))) (mC (.int 0))))
    lw
    gh)
   lz)
noncomputable def gC:Sn :=
 (bf (cj (bJ gb (aB (mV 0) (aB (mV 1) (aB (m2 cR (mC (.int 2)) (mV 2)) bw)))) (gN 3))
   (bf (cj (bJ gb (aB (mV 0) (aB (mV 1) (aB (m2 cB (m2 cR (mC (.int 2)) (mV 2)) (mC (.int 1))) bw)))) (gN 4))
   (bf (cj (bJ b8 (aB (mV 1) (aB (m2 cB (mC (.int 400)) (mV 2)) bw))) (gN 5))
   (bf (jX (m1 fW (m2 jY (m2 gj (mV 5) (mC (.int 3))) (mC (.int 0))))
    lr
    gh)
   ie))))
noncomputable def cF:List PV->Option (Res PV)
 | [a0,a1,a2]=>qK (gC (startR [a0,a1,a2] 3))
 | _=>none
noncomputable def nP:Sn :=
 (cj (m2 cB (m2 cR (m2 jq (m2 jq (m2 bV (mV 0) (mC (.int 1))) (mC (.int 1))) (mV 4)) (m2 bV (mV 0) (mC (.int 0)))) (mV 5)) (gN 6))
noncomputable def nQ:Sn :=
 (cj (m2 cB (m2 cR (mV 5) (m2 bV (mV 0) (mC (.int 1)))) (mV 4)) (gN 6))
noncomputable def jx:Sn :=
 (cj (m2 Bc (mV 3) (m2 kE (mC (.int 1)) (mV 6))) (gN 3))
noncomputable def jy:Sn :=
 (bf (jX (m1 fW (m2 jY (mVL 2) (mC (.int 2))))
       nQ
       gh)
      jx)
noncomputable def nT:Sn :=
 (bf (cj (m2 jq (m2 jq (m2 cB (m2 cR (mV 4) (m2 bV (mV 0) (mC (.int 0)))) (m2 bV (mV 0) (mC (.int 0)))) (mC (.int 1))) (mV 5)) (gN 6))
      (bf (jX (m1 fW (m2 jY (mVL 2) (mC (.int 1))))
       nP
       gh)
      jy))
noncomputable def jz:Sn :=
 (jX (m1 fW (m2 jY (m2 m8 (m2 tK (mV 1) (m2 cB (m2 cR (mV 4) (m2 bV (mV 0) (mC (.int 0)))) (mV 5))) (mC (.int 1))) (mC (.int 1))))
      nT
      gh)
noncomputable def nU:Sn :=
 (pR (m1 lG (aB (m2 bV (mV 0) (mC (.int 0))) bw)) (gN 5)
     jz)
noncomputable def nW:Sn :=
 (iU (mV 3))
noncomputable def jg:Sn :=
 (bf (cj (mC (.int 0)) (gN 3))
   (bf (pR (m1 lG (aB (m2 bV (mV 0) (mC (.int 1))) bw)) (gN 4)
    nU)
   nW))
noncomputable def cC:List PV->Option (Res PV)
 | [a0,a1,a2]=>fin (jg (startR [a0,a1,a2] 4))
 | _=>none
noncomputable def iW:Sn :=
 (bf (cj (m2 m8 (m2 tK (mV 1) (m2 cR (mV 6) (m2 bV (mV 0) (mC (.int 0))))) (m2 jq (m2 kE (mC (.int 1)) (m2 bV (mV 0) (mC (.int 0)))) (mC (.int 1)))) (gN 7))
    (bf (cj (m2 m8 (m2 tK (mV 2) (m2 cR (mV 6) (m2 bV (mV 0) (mC (.int 0))))) (m2 jq (m2 kE (mC (.int 1)) (m2 bV (mV 0) (mC (.int 0)))) (mC (.int 1)))) (gN 8))
    (bf (cj (m2 Bc (mV 7) (m2 kE (mV 3) (m2 bV (mV 0) (mC (.int 0))))) (gN 7))
    (cj (m2 Bc (mV 4) (m2 kE (m2 Bc (mV 7) (m2 kE (mV 8) (m2 cB (m2 bV (mV 0) (mC (.int 0))) (mC (.int 1))))) (m2 cR (mV 6) (mV 5)))) (gN 4)))))
noncomputable def mK:Sn :=
 (iU (mV 4))
noncomputable def iz:Sn :=
 (bf (cj (mC (.int 0)) (gN 4))
   (bf (cj (m2 cB (m2 cR (mC (.int 2)) (m2 bV (mV 0) (mC (.int 0)))) (mC (.int 1))) (gN 5))
   (bf (pR (m1 lG (aB (m2 bV (mV 0) (mC (.int 1))) bw)) (gN 6)
    iW)
   mK)))
noncomputable def bW:List PV->Option (Res PV)
 | [a0,a1,a2,a3]=>fin (iz (startR [a0,a1,a2,a3] 5))
 | _=>none
noncomputable def jT:Sn :=
 (iU (m1 o7 (m2 bV (bJ fG (aB (mV 0) (aB (mV 1) (aB (mV 2) bw)))) (mC (.int 0)))))
noncomputable def cW:List PV->Option (Res PV)
 | [a0,a1,a2]=>fin (jT (startR [a0,a1,a2] 0))
 | _=>none
noncomputable def Gw:Sn :=
 (cj (oU (aB (m2 bV (mV 1) (mC (.int 1))) (aB (m2 bV (mV 1) (mC (.int 0))) bw))) (gN 6))
noncomputable def Oo:Sn :=
 (iU (mC (.bl false)))
noncomputable def zA:Sn :=
 (jX (m1 fW (m2 Bd (bJ cW (aB (mV 6) (aB (bJ cC (aB (mV 1) (aB (mV 2) (aB (mV 5) bw)))) (aB (bJ cC (aB (mV 1) (aB (mV 3) (aB (mV 5) bw)))) bw)))) (mVL 4)))
     Oo
     gh)
noncomputable def zB:Sn :=
 (bf (cj (mV 1) (gN 6))
    (bf (jX (m1 fW (m2 jY (mVL 5) (mC (.int 2))))
     Gw
     gh)
    zA))
noncomputable def zE:Sn :=
 (iU (mC (.bl true)))
noncomputable def zF:Sn :=
 (bf (cj (bJ cF (aB (mV 1) (aB (bJ cV (aB (mV 0) (aB (mC (.int 3)) bw))) (aB (mC (.int 1)) bw)))) (gL 2 (gsCons (gN 7) (gsCons (gN 8) gsNil))))
   (bf (cj (oU (aB (m2 cB (m2 cR (mC (.int 2)) (m2 bV (mV 1) (mC (.int 0)))) (mC (.int 1))) (aB (m2 bV (mV 1) (mC (.int 1))) bw))) (gN 9))
   (bf (cj (bJ cW (aB (mV 9) (aB (bJ bW (aB (mV 1) (aB (mV 2) (aB (mV 7) (aB (mC (.int 0)) bw))))) (aB (bJ bW (aB (mV 1) (aB (mV 3) (aB (mV 8) (aB (mC (.int 1)) bw))))) bw)))) (gN 10))
   (iU (m2 jY (mVL 10) (m2 cB (mV 4) (bJ cW (aB (mV 1) (aB (mV 7) (aB (mV 8) bw))))))))))
noncomputable def Gx:Sn :=
 (bf (jX (mOr (m1 fW (m2 Ed (m2 bV (mV 1) (mC (.int 0))) (mC (.int 11)))) (m1 fW (m2 Ed (m2 cR (m2 bV (mV 1) (mC (.int 0))) (m2 bV (mV 1) (mC (.int 1)))) (mC (.int 100)))))
    zE
    gh)
   zF)
noncomputable def Gy:Sn :=
 (bf (cj (bJ iM (aB (bJ cV (aB (mV 0) (aB (mC (.int 1)) bw))) bw)) (gN 1))
   (bf (cj (bJ cF (aB (mV 1) (aB (bJ cV (aB (mV 0) (aB (mC (.int 2)) bw))) (aB (mC (.int 0)) bw)))) (gL 2 (gsCons (gN 2) (gsCons (gN 3) gsNil))))
   (bf (cj (bJ cW (aB (mV 1) (aB (mV 2) (aB (mV 3) bw)))) (gN 4))
   (bf (pR (m1 lG (aB (mC (.int 3)) bw)) (gN 5)
    zB)
   Gx))))
noncomputable def yc:List PV->Option (Res PV)
 | [a0]=>fin (Gy (startR [a0] 10))
 | _=>none
local macro_rules | `(tactic| walk_at "rd")=>do
 let ids:=("onNx_nx onNx_rt onNx_ro onNx_rd onNx_bk onNx_ct tv_some to_nx to_rt to_ro to_rd to_bk to_ct tv_ite to_ite turn_nx turn_ct turn_bk turn_rt turn_ro turn_rd tv_bnd to_bnd to_seq tv_m2 tv_m1 tv_var tv_lend tv_c tv_view tv_viewN tv_asLst tv_nil tv_cons tv_tup tv_lst tv_call tv_mIf tv_mOr tv_comp tv_compN tv_compC tv_yes to_next to_cont to_ret to_retO to_hold to_frzD to_retT tv_ownD tv_callT holdQ_nx holdQ_rt holdQ_ro tv_holdE to_io2 to_setO to_setD to_retDp tv_still to_asgN to_asg to_if to_for to_retOw to_app tv_neg tv_viewD tv_viewDN tv_dget1 tv_opDGet tv_opDIn tv_opDNotIn tv_dictP tv_newT to_dput dF_int dF_str dF_tup isD_dk isD_dt is_dk_int is_dk_str finIO_nx to_never tv_sub tv_and' tv_or' tv_gt tv_ge tv_div tv_mod tv_pow tv_shl tv_shr tv_add tv_addS tv_addT tv_mul tv_mulS tv_lt tv_ltS tv_eqI tv_eqS tv_neI tv_neS tv_eq tv_ne tv_notin tv_notN tv_ixL tv_ixT tv_ixV tv_ixS tv_lenS tv_lenL tv_lenT tv_asBl tv_list tv_cat tv_asSeqL tv_asSeqT tv_asSeqS tv_rng1 tv_rng2 tv_enum tv_zip tv_pn tv_asInt tv_slL startR fin_nx fin_rt finO_ro finT_rd gN gT gsCons gsNil szP cellP List.map_cons List.map_nil List.replicate_succ List.replicate_zero List.cons_append List.nil_append List.append_nil List.getElem?_cons_zero List.getElem?_cons_succ List.set_cons_zero List.set_cons_succ List.length_cons List.length_nil Nat.zero_le true_and and_true Option.some.injEq Sl.sh.injEq Sl.ow.injEq Sl.dp.injEq Res.ok.injEq PV.int.injEq PV.str.injEq PV.bl.injEq PV.lst.injEq PV.tup.injEq exists_eq_left' exists_eq_left exists_eq and_assoc exists_and_left if_true if_false not_true_eq_false not_false_eq_true Bool.false_eq_true Bool.not_true Bool.not_false decide_eq_true_eq Bool.not_eq_true' decide_eq_false_iff_not reduceCtorEq is_non_int is_non_bool is_non_str is_non_list is_non_tuple is_non_dict is_bl_int is_bl_bool is_bl_str is_bl_list is_bl_tuple is_bl_dict is_int_int is_int_bool is_int_str is_int_list is_int_tuple is_int_dict is_str_int is_str_bool is_str_str is_str_list is_str_tuple is_str_dict is_tup_int is_tup_bool is_tup_str is_tup_list is_tup_tuple is_tup_dict is_lst_int is_lst_bool is_lst_str is_lst_list is_lst_tuple is_lst_dict Int.reduceAdd Int.reduceSub Int.reduceMul Int.reduceNeg Int.reduceToNat atI_0 atI_1 atI_2 atI_3 snocI snocS snocC eqF_int eqF_str eqF_bl frR shOnly".splitOn " ").toArray.map fun s=>Lean.mkIdent s.toName
 `(tactic| simp (maxSteps:=2000000) only [$[$ids:ident],*])
structure Sz (w h:Int):Prop where
 w0:1≤w
 w1:w≤24
 h0:1≤h
 h1:h≤24
theorem Sz.mul {w h:Int} (s:Sz w h):1≤w * h∧w * h≤576:=by
 obtain ⟨a,b,c,d⟩:=s
 have e1:1 * 1≤w * h:=Int.mul_le_mul a c (by decide) (by lia)
 have e2:w * h≤24 * 24:=Int.mul_le_mul b d (by lia) (by decide)
 lia
theorem Sz.at {w h c r:Int} (_:Sz w h) (c0:0≤c) (c1:c < w) (r0:0≤r) (r1:r < h):0≤r * w+c∧r * w+c < w * h:=by
 have e1:0≤r * w:=Int.mul_nonneg r0 (by lia)
 have e2:(r+1) * w≤h * w:=Int.mul_le_mul_of_nonneg_right (by lia) (by lia)
 rw [Int.add_mul,Int.one_mul] at e2
 rw [Int.mul_comm w h]
 lia
theorem Sz.nat {w h:Int} (s:Sz w h):w.toNat * h.toNat=(w * h).toNat∧w.toNat * h.toNat≤576:=by
 have hm:=s.mul
 obtain ⟨a,b,c,d⟩:=s
 obtain ⟨x,rfl⟩:=ZaD (show 0≤w by omega)
 obtain ⟨y,rfl⟩:=ZaD (show 0≤h by omega)
 have e:(x:Int) * (y:Int)=((x * y:Nat):Int):=by simp
 rw [e] at hm ⊢
 simp only [Zav]
 have h2:((x * y:Nat):Int)≤((576:Nat):Int):=hm.2
 exact ⟨trivial,Int.ofNat_le.mp h2⟩
structure Cell (w h c r:Int):Prop where
 c0:0≤c
 c1:c < w
 r0:0≤r
 r1:r < h
theorem Cell.inR {w h c r:Int} (z:Cell w h c r):Mth.InR w.toNat h.toNat (c,r):=⟨z.c0,by have:=z.c1;show c < (w.toNat:Int);omega,z.r0,by have:=z.r1;show r < (h.toNat:Int);omega⟩
theorem Cell.of {w h:Int}{c:Int×Int} (z:Mth.InR w.toNat h.toNat c):Cell w h c.1 c.2:=⟨z.c0,by have:=z.c1;have:=z.c0;lia,z.r0,by have:=z.r1;have:=z.r0;lia⟩
theorem Cell.pl {w h c r:Int} (z:Cell w h c r):(r * w+c).toNat=Mth.pl w.toNat (c,r)∧0≤r * w+c:=by
 obtain ⟨c0,c1,r0,r1⟩:=z
 obtain ⟨a,rfl⟩:=ZaD c0
 obtain ⟨b,rfl⟩:=ZaD r0
 obtain ⟨v,rfl⟩:=ZaD (show 0≤w by omega)
 unfold Mth.pl
 simp only [Zav]
 have e:(b:Int) * (v:Int)+(a:Int)=((b * v+a:Nat):Int):=by simp
 rw [e,Zav]
 exact ⟨rfl,Zbd _⟩
theorem Fb {w:Int} (hw:1≤w) (i:Nat):Mth.cellOf w.toNat i=((0+(i:Int)) % w,(0+(i:Int)) / w):=by
 obtain ⟨v,rfl⟩:=ZaD (show 0≤w by omega)
 unfold Mth.cellOf
 simp
theorem yd (a b:Nat):Builtin.bitOr (a:Int) (b:Int)=((a ||| b:Nat):Int):=by
 have n1:∀ x:Nat,¬0≤Builtin.bitNot (x:Int):=fun x=>by unfold Builtin.bitNot;omega
 unfold Builtin.bitOr
 rw [bitAnd_nn (n1 a) (n1 b),bitNot_bitNot,bitNot_bitNot,bitNot_bitNot,Zav,Zav]
theorem Gz (n p:Nat):decide (Builtin.bitAnd ((n:Int) / 2 ^ p) 1=1)=n.testBit p:=by
 have e:(n:Int) / 2 ^ p=((n / 2 ^ p:Nat):Int):=by simp
 rw [e,bitAnd_pp (Zbd _) (by decide),Zav,show (1:Int).toNat=1 from rfl,Mth.My]
 cases n.testBit p <;> rfl
theorem oO {lo:Int}{n i:Nat}{x:PV} (h:(m9 lo n)[i]?=some x):i < n∧x=.int (lo+(i:Int)):=by
 have hi:i < n:=by simpa [m9] using cG h
 unfold m9 at h
 rw [List.getElem?_map,Zba hi] at h
 exact ⟨hi,(Zaa h).symm⟩
theorem Oq {lo:Int}{n:Nat}{x:PV} (h:x∈m9 lo n):∃ i:Nat,i < n∧x=.int (lo+(i:Int)):=by
 unfold m9 at h
 obtain ⟨i,hi,e⟩:=Zae.mp h
 exact ⟨i,Zau.mp hi,e.symm⟩
theorem take_snoc {α:Type}{l:List α}{i:Nat}{x:α} (h:l[i]?=some x):l.take (i+1)=l.take i++[x]:=by
 rw [List.take_succ,h]
 rfl
theorem Cz {w h c r:Int} (sz:Sz w h) (cl:Cell w h c r):gZ [.tup [.int w,.int h],.tup [.int c,.int r]]=some (.ok (.int (r * w+c))):=by
 refine lX ?_
 unfold pZ
 walk_at "rd"
 have:=cl.r0;have:=cl.r1;have:=sz.h1
 exact .inl ⟨by lia,by lia⟩
theorem K5 {w h c r:Int} (sz:Sz w h) (cl:Cell w h c r) (n:Nat):g8 [.tup [.int w,.int h],.int n,.tup [.int c,.int r]]=some (.ok (.bl (n.testBit (Mth.pl w.toNat (c,r))))):=by
 refine lX ?_
 unfold p6
 walk_at "rd"
 obtain ⟨e1,e2⟩:=cl.pl
 rw [Cz sz cl]
 walk_at "rd"
 rw [e1,Gz]
 exact ⟨e2,rfl⟩
theorem zG {w h:Int} (sz:Sz w h):jO [.tup [.int w,.int h]]=some (.ok (.lst ((Mth.pick w.toNat (w.toNat * h.toNat) fun _=>true).map cellP))):=by
 refine uz ?_
 unfold nC
 walk_at "rd"
 have hm:=sz.mul
 have hn:=sz.nat
 have w0:=sz.w0
 have w1:=sz.w1
 refine ⟨.inl ⟨by lia,by lia⟩,by lia,by lia,by rw [dJ];exact ZaG (xm (by lia)),?_⟩
 rw [TX (fun x=>match x with | .int i=>cellP (i % w,i / w) | _=>.non)]
 ·walk_at "rd"
  rw [←hn.1]
  unfold m9 Mth.pick
  rw [List.map_map,List.map_map,ZbB.mpr fun _ _=>rfl]
  refine ZaU fun i _=>?_
  show _=cellP (Mth.cellOf w.toNat i)
  rw [Fb w0]
  rfl
 ·intro x hx
  obtain ⟨i,hi,rfl⟩:=Oq hx
  walk_at "rd"
  exact ⟨by lia,by lia,by lia,by decide⟩
theorem Im {w h:Int} (sz:Sz w h) (ps:List (Int×Int)) (hc:∀ c∈ps,Cell w h c.1 c.2):rB [.tup [.int w,.int h],.lst (ps.map cellP)]=some (.ok (.int (Mth.Hq w.toNat ps))):=by
 refine lX ?_
 unfold vW
 walk_at "rd"
 refine dX (fun i ρ=>∃ v,ρ=[some (.sh (.tup [.int w,.int h])),some (.sh (.lst (ps.map cellP))),some (.sh (.int (Mth.Hq w.toNat (ps.take i)))),v]) ⟨none,rfl⟩ ?_ ?_
 ·rintro i x ρ hx ⟨v,rfl⟩
  rw [List.getElem?_map] at hx
  cases hd:ps[i]? with
  | none=>rw [hd] at hx;cases hx
  | some d =>
   rw [hd] at hx
   cases hx
   have cl:=hc d (Zaf hd)
   obtain ⟨e1,e2⟩:=cl.pl
   have hm:=sz.mul
   have ha:=sz.at cl.c0 cl.c1 cl.r0 cl.r1
   unfold vU
   walk_at "rd"
   rw [Cz sz cl]
   walk_at "rd"
   have e3:(1:Int) * 2 ^ Mth.pl w.toNat (d.1,d.2)=((2 ^ Mth.pl w.toNat d:Nat):Int):=by simp
   rw [e1,e3,yd,take_snoc hd,Mth.Hr]
   exact ⟨by lia,by lia,by decide,_,rfl⟩
 ·rintro ρ ⟨v,rfl⟩
  unfold vV
  walk_at "rd"
  rw [ZaO (by simp)]
theorem nY {w h:Int} (sz:Sz w h) (n:Nat):fZ [.tup [.int w,.int h],.int n]=some (.ok (.lst ((Mth.pick w.toNat (w.toNat * h.toNat) fun i=>n.testBit i).map cellP))):=by
 refine uz ?_
 unfold p7
 walk_at "rd"
 rw [zG sz]
 walk_at "rd"
 have hn:=sz.nat
 refine ⟨by rw [List.length_map];exact Zaz (Mth.j9 _ _ _) (ZaG (xm (by lia))),?_⟩
 rw [TY (fun x=>match x with | .tup [.int c,.int r]=>n.testBit (Mth.pl w.toNat (c,r)) | _=>false) id]
 ·walk_at "rd"
  rw [List.map_id]
  unfold Mth.pick
  rw [ZbB.mpr fun _ _=>rfl,List.map_map,List.filter_map,List.map_map]
  congr 1
  refine List.filter_congr fun i hi=>?_
  show n.testBit (Mth.pl w.toNat ((Mth.cellOf w.toNat i).1,(Mth.cellOf w.toNat i).2))=_
  rw [show Mth.pl w.toNat ((Mth.cellOf w.toNat i).1,(Mth.cellOf w.toNat i).2)=i from Mth.rQ _ _]
 ·intro x hx
  obtain ⟨c,hc,rfl⟩:=Zae.mp hx
  unfold Mth.pick at hc
  obtain ⟨i,hi,rfl⟩:=Zae.mp hc
  have hi:i < w.toNat * h.toNat:=by simpa using hi
  have cl:=Cell.of (Mth.rR hi)
  walk_at "rd"
  rw [K5 sz cl]
  walk_at "rd"
 ·intro x hx _
  walk_at "rd"
  rfl
theorem zH {α:Type}{j:Nat}{el:Fn PV}{ρb:Rho} (g f:α->PV):∀ (l:List α),(∀ a∈l,Tv (el (ρb.set j (some (.sh (g a))))) fun p=>p=f a)->d7 (gN j) tY el ρb (l.map g)=some (.ok (l.map f))
 | [],_=>rfl
 | a::l,h=>by
  have e1:=jN (h a List.mem_cons_self)
  have ih:=zH g f l fun b hb=>h b (List.mem_cons_of_mem _ hb)
  rw [Zak,d7]
  simp only [gN,tY,bnd,if_true,e1,ih,Zak]
noncomputable def j7 (row:Bool):Str:=if row then Str.ofString "row" else Str.ofString "column"
noncomputable def CG (row:Bool) (l f t:Int):PV:=.tup [.str (j7 row),.int l,.int f,.int t]
structure On (w h:Int) (row:Bool) (l f t:Int):Prop where
 l0:0≤l
 l1:l < if row then h else w
 f0:0≤f
 ft:f≤t
 t1:t < if row then w else h
noncomputable def cJ (row:Bool) (l:Int) (p:Int):Int×Int:=if row then (p,l) else (l,p)
noncomputable def gD (row:Bool) (l f t:Int):List (Int×Int):=(List.range (t+1 - f).toNat).map fun (i:Nat)=>cJ row l (f+(i:Int))
theorem Ot (row:Bool):decide (j7 row=Str.ofString "row")=row:=by cases row <;> decide +kernel
theorem K6 (w h:Int) (row:Bool):mj [.tup [.int w,.int h],.str (j7 row)]=some (.ok (.int (if row then h else w))):=by
 refine lX (x:=lZ (startR [.tup [.int w,.int h],.str (j7 row)] 0)) ?_
 unfold lZ
 walk_at "rd"
 cases row
 ·rw [if_neg (by decide +kernel)];rfl
 ·rw [if_pos (by rfl)];rfl
theorem Io (w h:Int) (row:Bool):jQ [.tup [.int w,.int h],.str (j7 row)]=some (.ok (.int (if row then w else h))):=by
 refine lX (x:=jP (startR [.tup [.int w,.int h],.str (j7 row)] 0)) ?_
 unfold jP
 walk_at "rd"
 cases row
 ·rw [if_neg (by decide +kernel)];rfl
 ·rw [if_pos (by rfl)];rfl
theorem ye {row:Bool}{l f t:Int} (f0:0≤f) (ft:f≤t) (t1:t≤1000):dI [CG row l f t]=some (.ok (.lst ((gD row l f t).map cellP))):=by
 refine uz (x:=gA (startR [CG row l f t] 0)) ?_
 unfold gA CG
 walk_at "rd"
 have key:m9 f (t+1 - f).toNat=(List.range (t+1 - f).toNat).map fun i=>PV.int (f+((i:Nat):Int)):=rfl
 have len:((List.range (t+1 - f).toNat).map fun i=>PV.int (f+((i:Nat):Int))).length≤sizeLine:=by
  rw [List.length_map,List.length_range];exact Zaz (show _≤1001 by lia) (by decide)
 by_cases hr:row=true
 ·subst hr
  rw [if_pos (by rfl)]
  unfold kY
  walk_at "rd"
  rw [key]
  refine ⟨by lia,by lia,by lia,by lia,len,?_⟩
  rw [zH (fun i=>PV.int (f+((i:Nat):Int))) (fun i=>cellP (cJ true l (f+((i:Nat):Int)))) _ fun i _=>?_]
  ·walk_at "rd"
   unfold gD
   rw [List.map_map]
   rfl
  ·walk_at "rd"
   exact ⟨by decide,rfl⟩
 ·have hr:row=false:=by simpa using hr
  subst hr
  rw [if_neg (by decide +kernel)]
  unfold kZ
  walk_at "rd"
  rw [key]
  refine ⟨by lia,by lia,by lia,by lia,len,?_⟩
  rw [zH (fun i=>PV.int (f+((i:Nat):Int))) (fun i=>cellP (cJ false l (f+((i:Nat):Int)))) _ fun i _=>?_]
  ·walk_at "rd"
   unfold gD
   rw [List.map_map]
   rfl
  ·walk_at "rd"
   exact ⟨by decide,rfl⟩
theorem cX:∀ {l k:List Nat},l.Nodup->(∀ x∈l,x∈k)->l.length≤k.length
 | [],k,_,_=>ZaZ _
 | a::l,k,nd,h=>by
  have ha:a∈k:=h a List.mem_cons_self
  have nd':=Zbe.mp nd
  have:=cX (l:=l) (k:=k.erase a) nd'.2 fun x hx=>(List.mem_erase_of_ne (fun e:x=a=>nd'.1 (by rw [←e];exact hx))).mpr (h x (List.mem_cons_of_mem _ hx))
  rw [List.length_erase_of_mem ha] at this
  have:0 < k.length:=List.length_pos_of_mem ha
  simp only [ZaC];lia
structure Mt (G:Nat->Nat->Prop) (m:Nat->Option Nat):Prop where
 ok:∀ {j i},m j=some i->i < j∧G i j
 inj:∀ {j k i},m j=some i->m k=some i->j=k
inductive Anc (m:Nat->Option Nat):Nat->Nat->Prop
 | one {i j} (h:m j=some i):Anc m i j
 | more {i j k} (h:m j=some k) (a:Anc m i k):Anc m i j
section
variable {G:Nat->Nat->Prop}{m:Nat->Option Nat}
end
noncomputable def lk:List (Nat×Nat)->Nat->Option Nat
 | [],_=>none
 | p::l,k=>if p.1=k then some p.2 else lk l k
noncomputable def ptN:List (Nat×Nat)->Nat->Nat->List (Nat×Nat)
 | [],k,v=>[(k,v)]
 | p::l,k,v=>if p.1=k then (k,v)::l else p::ptN l k v
theorem gQ (k v j:Nat):∀ l,lk (ptN l k v) j=if j=k then some v else lk l j
 | []=>by
  unfold ptN lk lk
  by_cases h:j=k
  ·rw [if_pos h,if_pos h.symm]
  ·rw [if_neg h,if_neg (Za8 h)]
 | p::l=>by
  unfold ptN
  by_cases h:p.1=k
  ·rw [if_pos h]
   unfold lk
   by_cases hj:j=k
   ·rw [if_pos hj,if_pos hj.symm]
   ·rw [if_neg hj,if_neg (Za8 hj),if_neg (fun e=>hj (e.symm.trans h))]
  ·rw [if_neg h]
   unfold lk
   rw [gQ k v j l]
   by_cases hj:j=k
   ·rw [if_pos hj,if_neg (fun e=>h (e.trans hj)),if_pos hj]
   ·simp only [if_neg hj]
theorem K7 (k v:Nat):∀ l,lk l k=none->ptN l k v=l++[(k,v)]
 | [],_=>rfl
 | p::l,h=>by
  unfold lk at h
  split at h
  ·cases h
  ·rename_i hp
   unfold ptN
   rw [if_neg hp,K7 k v l h];rfl
theorem mD {k:Nat}:∀ {l},lk l k=none↔k ∉ l.map (·.1)
 | []=>by simp [lk]
 | p::l=>by
  unfold lk
  by_cases h:p.1=k
  ·simp [h]
  ·rw [if_neg h,mD];simp [Za8 h]
theorem zJ {k v:Nat}:∀ {l},lk l k=some v->(k,v)∈l
 | p::l,h=>by
  unfold lk at h
  split at h
  ·rename_i hp;cases h;subst hp;exact List.mem_cons_self
  ·exact List.mem_cons_of_mem _ (zJ h)
theorem pK {k v:Nat}:∀ {l:List (Nat×Nat)},(l.map (·.1)).Nodup->(k,v)∈l->lk l k=some v
 | p::l,nd,h=>by
  rw [Zak,Zbe] at nd
  unfold lk
  rcases Zas.mp h with e | h
  ·subst e;rw [if_pos rfl]
  ·rw [if_neg fun e=>nd.1 (by rw [e];exact Zae.mpr ⟨_,h,rfl⟩)];exact pK nd.2 h
theorem uA (k v:Nat):∀ l,(ptN l k v).map (·.1)=if lk l k=none then l.map (·.1)++[k] else l.map (·.1)
 | []=>rfl
 | p::l=>by
  unfold ptN lk
  by_cases h:p.1=k
  ·rw [if_pos h,if_pos h];simp [h]
  ·rw [if_neg h,if_neg h,Zak,uA k v l]
   split <;> simp
theorem RG (k v:Nat) (l:List (Nat×Nat)):(ptN l k v).length≤l.length+1:=by
 have:=congrArg List.length (uA k v l)
 rw [List.length_map] at this
 rw [this]
 split <;> simp
noncomputable def kvQ {κ:Type} (fk:Nat->κ) (fv:Nat->PV) (l:List (Nat×Nat)):List (κ×PV):=l.map fun p=>(fk p.1,fv p.2)
theorem ww {κ:Type} [DecidableEq κ] {fk:Nat->κ}{fv:Nat->PV} (inj:∀ a b,fk a=fk b->a=b) (k:Nat):∀ l,dw (kvQ fk fv l) (fk k)=(lk l k).map fv
 | []=>rfl
 | p::l=>by
  show dw ((fk p.1,fv p.2)::kvQ fk fv l) _=_
  unfold dw lk
  by_cases h:p.1=k
  ·subst h;rw [if_pos rfl,if_pos rfl];rfl
  ·rw [if_neg (fun e=>h (inj _ _ e)),if_neg h];exact ww inj k l
theorem wy {κ:Type} [DecidableEq κ] {fk:Nat->κ}{fv:Nat->PV} (inj:∀ a b,fk a=fk b->a=b) (k v:Nat):∀ {l:List (Nat×Nat)},(l.map (·.1)).Nodup->iH (kvQ fk fv l) (fk k) (fv v)=kvQ fk fv (ptN l k v)
 | [],_=>rfl
 | p::l,nd=>by
  rw [Zak,Zbe] at nd
  show iH ((fk p.1,fv p.2)::kvQ fk fv l) _ _=_
  unfold iH ptN
  by_cases h:p.1=k
  ·subst h
   have:((kvQ fk fv l).any fun e=>decide (e.1=fk p.1))=false:=by
    rw [List.any_eq_false]
    intro x hx
    obtain ⟨q,hq,rfl⟩:=Zae.mp hx
    simp only [decide_eq_true_eq]
    exact fun e=>nd.1 (by rw [←inj _ _ e];exact Zae.mpr ⟨q,hq,rfl⟩)
   rw [if_pos rfl,if_pos rfl,this];rfl
  ·rw [if_neg (fun e=>h (inj _ _ e)),if_neg h,wy inj k v nd.2];rfl
theorem GC {κ:Type}{fk:Nat->κ}{fv:Nat->PV} (l:List (Nat×Nat)):(kvQ fk fv l).length=l.length:=by simp [kvQ]
theorem wz {k:Nat} (h:k≤100000):k < sizeLine:=by rw [sizeLine_eq];lia
theorem CJ (ns:List Int):eO (ns.map PV.int)=some (ns.map .inl):=by
 induction ns with
 | nil=>rfl
 | cons n ns ih=>rw [Zak];unfold eO;rw [ih];rfl
theorem sS (p:Sk):eO (.str p.1::p.2.map PV.int)=some (skK p):=by
 unfold eO;rw [CJ];rfl
theorem uB {p q:Sk} (e:skK p=skK q):p=q:=by
 unfold skK at e
 rw [Zbo] at e
 refine Prod.ext (Sum.inr.inj e.1) ((List.map_inj_right fun _ _ h=>Sum.inl.inj h).mp e.2)
theorem wA (p:Sk):(skP p).still=true:=by
 show (PV.str p.1::p.2.map PV.int).all (pP 4)=true
 rw [ZaW]
 intro x hx
 rcases Zas.mp hx with e | hx
 ·rw [e];rfl
 ·obtain ⟨n,_,rfl⟩:=Zae.mp hx;rfl
theorem K8 {l:List (List Key×PV)}{p:Sk}:fK (.dt l) (skP p)=some (dw l (skK p)):=by
 show (eO (.str p.1::p.2.map PV.int)).map (dw l)=_
 rw [sS];rfl
theorem Qe {l:List (List Key×PV)}{p:Sk}{q:PV} (h:l.length < sizeLine):En (.dt l) (skP p) q=some (.dt (iH l (skK p) q)):=by
 show (match eO (.str p.1::p.2.map PV.int) with
  | some k=>if l.length < sizeLine then some (PV.dt (iH l k q)) else none
  | none=>none)=_
 rw [sS]
 exact if_pos h
structure Gs where
 aS:Nat->Sk
 gS:Nat->Sk
 ia:∀ a b,aS a=aS b->a=b
 ig:∀ a b,gS a=gS b->a=b
 la:∀ a,(aS a).2.length=3
 lg:∀ a,(gS a).2.length=3
noncomputable def Gs.av (G:Gs) (a:Nat):PV:=skP (G.aS a)
noncomputable def Gs.gv (G:Gs) (a:Nat):PV:=skP (G.gS a)
noncomputable def Gs.aK (G:Gs) (a:Nat):List Key:=skK (G.aS a)
noncomputable def Gs.gK (G:Gs) (a:Nat):List Key:=skK (G.gS a)
noncomputable def Gs.GA (G:Gs) (l:List (Nat×Nat)):PV:=.dt (kvQ G.aK G.gv l)
noncomputable def Gs.GD (G:Gs) (l:List (Nat×Nat)):PV:=.dt (kvQ G.gK G.av l)
noncomputable def Gs.AL (G:Gs) (l:List Nat):List PV:=l.map G.av
noncomputable def Gs.GL (G:Gs) (l:List Nat):List PV:=l.map G.gv
section
variable (G:Gs)
theorem Gs.aKi (a b:Nat) (e:G.aK a=G.aK b):a=b:=G.ia _ _ (uB e)
theorem Gs.gKi (a b:Nat) (e:G.gK a=G.gK b):a=b:=G.ig _ _ (uB e)
theorem Gs.still (g:Nat):(G.gv g).still=true:=wA _
theorem Gs.K9 (a:Nat):(G.av a).still=true:=wA _
theorem Gs.nn (g:Nat):(G.gv g).xx=false:=rfl
theorem Gs.isD (l:List (Nat×Nat)):(G.GD l).isD=true:=rfl
theorem Gs.sh (l:List (Nat×Nat)):PV.lQ (G.GD l)=true:=ZaW.mpr fun p hp=>by
 obtain ⟨n,_,rfl⟩:=Zae.mp hp;exact G.K9 _
theorem Gs.shA (l:List Nat):PV.lQ (.lst (G.AL l))=true:=ZaW.mpr fun p hp=>by
 obtain ⟨n,_,rfl⟩:=Zae.mp hp;exact G.K9 _
theorem Gs.find (l:List (Nat×Nat)) (g:Nat):fK (G.GD l) (G.gv g)=some ((lk l g).map G.av):=K8.trans (congrArg some (ww G.gKi g l))
theorem Gs.Qf (l:List (Nat×Nat)) (a:Nat):fK (G.GA l) (G.av a)=some ((lk l a).map G.gv):=K8.trans (congrArg some (ww G.aKi a l))
theorem Gs.put (l:List (Nat×Nat)) (g a:Nat) (nd:(l.map (·.1)).Nodup) (h:l.length < sizeLine):En (G.GD l) (G.gv g) (G.av a)=some (G.GD (ptN l g a)) :=
 (Qe (by rw [GC];exact h)).trans (congrArg (fun z=>some (PV.dt z)) (wy G.gKi g a nd))
theorem Gs.Us {l:List (Nat×Nat)}{a g:Nat} (nd:(l.map (·.1)).Nodup) (h:l.length < sizeLine):En (G.GA l) (G.av a) (G.gv g)=some (G.GA (ptN l a g)) :=
 (Qe (by rw [GC];exact h)).trans (congrArg (fun z=>some (PV.dt z)) (wy G.aKi a g nd))
end
noncomputable def wiP (G:Gs) (n:Nat) (W:Nat->List Nat):PV:=.dt ((List.range n).map fun (i:Nat)=>(G.aK i,PV.lst (G.GL (W i))))
theorem wB {G:Gs}{f:Nat->PV}{k:Nat}:∀ {l:List Nat},k∈l->dw (l.map fun (i:Nat)=>(G.aK i,f i)) (G.aK k)=some (f k)
 | i::l,h=>by
  rw [Zak]
  unfold dw
  by_cases e:i=k
  ·subst e;rw [if_pos rfl]
  ·rw [if_neg (fun z=>e (G.aKi _ _ z))]
   exact wB ((Zas.mp h).resolve_left (Za8 e))
theorem T3 {G:Gs}{n k:Nat}{W:Nat->List Nat} (h:k < n):fK (wiP G n W) (G.av k)=some (some (.lst (G.GL (W k)))) :=
 K8.trans (congrArg some (wB (f:=fun i=>.lst (G.GL (W i))) (Zau.mpr h)))
structure Wk (n:Nat) (W:Nat->List Nat) (B:List (Nat×Nat)) (S R:List Nat) (cb:List (Nat×Nat)):Prop where
 eq:R=S++cb.map fun p=>(lk B p.1).getD 0
 pr:∀ p∈cb,lk B p.1≠none
 nd:(cb.map (·.1)).Nodup
 wish:∀ p∈cb,p.1∈W p.2
 back:∀ (k:Nat) p,cb[k]?=some p->∃ i,i < S.length+k∧R[i]?=some p.2
 lt:∀ a∈R,a < n
section
variable {n:Nat}{W:Nat->List Nat}{B:List (Nat×Nat)}{S R:List Nat}{cb:List (Nat×Nat)}
theorem Wk.len (h:Wk n W B S R cb):R.length=S.length+cb.length:=by rw [h.eq];simp
theorem Wk.wC {N:Nat} (h:Wk n W B S R cb) (wl:∀ i g,g∈W i->g < N):cb.length≤N:=by
 have:=cX (l:=cb.map (·.1)) (k:=List.range N) h.nd fun x hx=>by
  obtain ⟨p,hp,rfl⟩:=Zae.mp hx
  exact Zau.mpr (wl _ _ (h.wish p hp))
 simpa using this
theorem Wk.start (h:∀ a∈S,a < n):Wk n W B S S []:=⟨by simp,fun p h=>by simp at h,by simp,fun p h=>by simp at h,fun k p e=>by simp at e,h⟩
theorem Wk.more (h:Wk n W B S R cb) {a g b i:Nat} (ha:R[i]?=some a) (hg:g∈W a) (hn:lk cb g=none) (hb:lk B g=some b) (bl:b < n):Wk n W B S (R++[b]) (cb++[(g,a)]) where
 eq:=by rw [Za1,Zak,List.map_nil,hb,←Zar,←h.eq];rfl
 pr:=fun p hp=>by
  rcases Zad.mp hp with hp | hp
  ·exact h.pr p hp
  ·simp at hp;subst hp;rw [hb];simp
 nd:=by
  rw [Za1,Zbm]
  refine ⟨h.nd,by simp,fun x hx y hy=>?_⟩
  simp at hy
  subst hy
  exact fun e=>mD.mp hn (e ▸ hx)
 wish:=fun p hp=>by
  rcases Zad.mp hp with hp | hp
  ·exact h.wish p hp
  ·simp at hp;subst hp;exact hg
 back:=fun k p e=>by
  have hl:=h.len
  by_cases hk:k < cb.length
  ·rw [Zag hk] at e
   obtain ⟨j,h1,h2⟩:=h.back k p e
   refine ⟨j,h1,?_⟩
   rw [Zag (by omega)];exact h2
  ·rw [Zao (by omega)] at e
   have:k=cb.length:=by
    rcases Nat.lt_or_ge (k - cb.length) 1 with q | q
    ·omega
    ·rw [ZaF (by simpa using q)] at e;cases e
   subst this
   simp at e
   subst e
   have hi:i < R.length:=(Zab.mp ha).1
   exact ⟨i,by omega,by rw [Zag hi];exact ha⟩
 lt:=fun x hx=>by
  rcases Zad.mp hx with hx | hx
  ·exact h.lt x hx
  ·simp at hx;subst hx;exact bl
end
noncomputable def gvP (G:Gs):Option Nat->PV
 | none=>.non
 | some g=>G.gv g
noncomputable def T4 (n:Nat) (W:Nat->List Nat) (B:List (Nat×Nat)) (S:List Nat) (g:Option Nat) (R:List Nat) (cb:List (Nat×Nat)):Prop :=
 match g with
 | none=>Wk n W B S R cb∧∀ a∈R,∀ x∈W a,x∈cb.map (·.1)
 | some g=>∃ (cb':List (Nat×Nat)) (a i:Nat),cb=cb'++[(g,a)]∧Wk n W B S R cb'∧R[i]?=some a∧g∈W a∧lk cb' g=none∧lk B g=none
theorem RJ {G:Gs}{l:List Nat}{i:Nat}{x:PV} (h:(G.AL l)[i]?=some x):∃ g,l[i]?=some g∧x=G.av g:=by
 unfold Gs.AL at h
 rw [List.getElem?_map] at h
 cases e:l[i]? with
 | none=>rw [e] at h;cases h
 | some g=>rw [e] at h;cases h;exact ⟨g,rfl,rfl⟩
theorem RK {G:Gs}{l:List Nat}{i:Nat}{x:PV} (h:(G.GL l)[i]?=some x):∃ g,l[i]?=some g∧x=G.gv g:=by
 unfold Gs.GL at h
 rw [List.getElem?_map] at h
 cases e:l[i]? with
 | none=>rw [e] at h;cases h
 | some g=>rw [e] at h;cases h;exact ⟨g,rfl,rfl⟩
theorem RL {G:Gs} (l:List Nat) (b:Nat):G.AL l++[G.av b]=G.AL (l++[b]):=by simp [Gs.AL]
theorem RM {G:Gs}{l:List Nat}{i a:Nat} (h:l[i]?=some a):atI (G.AL l) (i:Int)=some (G.av a):=by
 exact oh (by unfold Gs.AL;rw [List.getElem?_map,h];rfl)
theorem yf {G:Gs}{n N:Nat}{W:Nat->List Nat}{B:List (Nat×Nat)}{S:List Nat} (hN:N≤600) (hS:S.length≤600) (sl:∀ a∈S,a < n) (wl:∀ i g,g∈W i->g < N) (bl:∀ g b,lk B g=some b->b < n) :
  ∃ g R cb,ju [wiP G n W,G.GD B,.lst (G.AL S)]=some (.ok (.tup [gvP G g,.lst (G.AL R),G.GD cb]))∧T4 n W B S g R cb:=by
 have big:∀ {k:Nat},k≤9000->k < sizeLine:=fun h=>wz (by lia)
 suffices h:∃ p,ju [wiP G n W,G.GD B,.lst (G.AL S)]=some (.ok p)∧∃ g R cb,p=.tup [gvP G g,.lst (G.AL R),G.GD cb]∧T4 n W B S g R cb by
  obtain ⟨p,e,g,R,cb,rfl,h⟩:=h
  exact ⟨g,R,cb,e,h⟩
 refine Gu ?_
 unfold wu
 rw [show startR [wiP G n W,G.GD B,.lst (G.AL S)] 5=[some (.sh (wiP G n W)),some (.sh (G.GD B)),some (.sh (.lst (G.AL S))),none,none,none,none,none] from rfl]
 walk_at "rd"
 refine vP (n:=1999) (I:=fun k ρ=>∃ (R:List Nat) (cb:List (Nat×Nat)) (pl:Nat) (v6 v7:Option Sl),ρ=[some (.sh (wiP G n W)),some (.sh (G.GD B)),some (.sh (.lst (G.AL S))),some (.ow (.lst (G.AL R))),some (.ow (G.GD cb)),some (.sh (.int (pl:Int))),v6,v7]∧k+pl=1999∧pl≤R.length∧Wk n W B S R cb∧∀ i a,i < pl->R[i]?=some a->∀ x∈W a,x∈cb.map (·.1)) ⟨S,[],0,none,none,rfl,rfl,ZaZ _,Wk.start sl,fun i a h=>absurd h (Nat.not_lt_zero _)⟩ ?_
 rintro k ρ ⟨R,cb,pl,v6,v7,rfl,hk,hpl,hw,hc⟩
 have hR:=hw.len
 have hcb:=hw.wC wl
 walk_at "rd"
 by_cases hlt:(pl:Int) < ((G.AL R).length:Int)
 case neg =>
  rw [if_neg hlt]
  have hpl2:pl=R.length:=by simp only [Gs.AL,List.length_map] at hlt;lia
  unfold wk
  walk_at "rd"
  refine ⟨rfl,G.shA R,G.sh cb,ZaG (big (by lia)),none,R,cb,rfl,hw,fun a ha x hx=>?_⟩
  obtain ⟨i,hi⟩:=Zbi ha
  exact hc i a (by rw [hpl2];exact (Zab.mp hi).1) hi x hx
 case pos =>
  rw [if_pos hlt]
  have hp2:pl < R.length:=by simp only [Gs.AL,List.length_map] at hlt;lia
  obtain ⟨a,ha⟩:∃ a,R[pl]?=some a:=⟨_,List.getElem?_eq_getElem hp2⟩
  have al:a < n:=hw.lt a (Zaf ha)
  refine ⟨by lia,?_⟩
  unfold wj
  walk_at "rd"
  refine ⟨(G.av a),RM ha,rfl,_,T3 al,?_⟩
  rw [tv_asSeqL]
  refine dX (I:=fun j ρ=>∃ (R:List Nat) (cb:List (Nat×Nat)) (v7:Option Sl),ρ=[some (.sh (wiP G n W)),some (.sh (G.GD B)),some (.sh (.lst (G.AL S))),some (.ow (.lst (G.AL R))),some (.ow (G.GD cb)),some (.sh (.int (pl:Int))),some (.sh ((G.av a))),v7]∧R[pl]?=some a∧Wk n W B S R cb∧(∀ i a,i < pl->R[i]?=some a->∀ x∈W a,x∈cb.map (·.1))∧∀ i x,i < j->(W a)[i]?=some x->x∈cb.map (·.1)) ⟨R,cb,v7,rfl,ha,hw,hc,fun i x h=>absurd h (Nat.not_lt_zero _)⟩ ?_ ?_
  case refine_2 =>
   rintro ρ ⟨R,cb,v7,rfl,ha,hw,hc,hj⟩
   have hR:=hw.len
   have hcb:=hw.wC wl
   have hp3:pl < R.length:=(Zab.mp ha).1
   walk_at "rd"
   unfold wg
   walk_at "rd"
   refine ⟨R,cb,pl+1,some (.sh (G.av a)),v7,by simp,by lia,hp3,hw,fun i b hi hb x hx=>?_⟩
   by_cases e:i=pl
   ·subst e
    rw [ha] at hb;cases hb
    obtain ⟨i,hi⟩:=Zbi hx
    exact hj i x (by simpa [Gs.GL] using (Zab.mp hi).1) hi
   ·exact hc i b (by lia) hb x hx
  rintro j y ρ ey ⟨R,cb,v7,rfl,ha,hw,hc,hj⟩
  obtain ⟨g,eg,rfl⟩:=RK ey
  have hR:=hw.len
  have hcb:=hw.wC wl
  have hg:g∈W a:=Zaf eg
  unfold v9
  walk_at "rd"
  refine ⟨G.isD _,_,G.find _ _,?_⟩
  cases hk2:lk cb g with
  | some z =>
   rw [Zbn,Option.isSome_some,if_pos rfl]
   refine ⟨R,cb,_,rfl,ha,hw,hc,fun i x hi hx=>?_⟩
   by_cases e:i=j
   ·subst e
    rw [eg] at hx;cases hx
    exact Zae.mpr ⟨_,zJ hk2,rfl⟩
   ·exact hj i x (by lia) hx
  | none =>
   rw [Option.map_none,Option.isSome_none,if_neg (by decide)]
   unfold vZ
   walk_at "rd"
   refine ⟨_,G.put _ _ _ hw.nd (big (by lia)),G.isD _,_,G.find _ _,?_⟩
   rw [K7 _ _ _ hk2]
   cases hb:lk B g with
   | none =>
    rw [Option.map_none,Option.isSome_none,if_pos (by decide)]
    unfold vX
    walk_at "rd"
    exact ⟨G.still g,G.shA R,G.sh _,ZaG (big (by lia)),some g,R,_,rfl,cb,a,pl,rfl,hw,ha,hg,hk2,hb⟩
   | some b =>
    rw [Zbn,Option.isSome_some,if_neg (by decide)]
    unfold vY
    walk_at "rd"
    have hp3:pl < R.length:=(Zab.mp ha).1
    have sub:∀ x,x∈cb.map (·.1)->x∈(cb++[(g,a)]).map (·.1):=fun x hx=>by rw [Za1];exact Zbh _ hx
    refine ⟨G.isD _,(G.av b),by rw [G.find,hb];rfl,by simp only [Gs.AL,List.length_map];exact big (by lia),R++[b],cb++[(g,a)],_,by rw [RL],by rw [Zag hp3];exact ha,hw.more ha hg hk2 hb (bl g b hb),fun i c hi hc' x hx=>?_,fun i x hi hx=>?_⟩
    ·rw [Zag (by lia)] at hc'
     exact sub x (hc i c hi hc' x hx)
    ·by_cases e:i=j
     ·subst e
      rw [eg] at hx;cases hx
      simp
     ·exact sub x (hj i x (by lia) hx)
structure Pm (n:Nat) (W:Nat->List Nat) (A B:List (Nat×Nat)):Prop where
 ndA:(A.map (·.1)).Nodup
 ndB:(B.map (·.1)).Nodup
 iff:∀ a g,lk A a=some g↔lk B g=some a
 ok:∀ {a g},lk A a=some g->g∈W a∧a < n
structure Bk (n:Nat) (W:Nat->List Nat) (B:List (Nat×Nat)) (s:Nat) (cb:List (Nat×Nat)):Prop where
 nd:(cb.map (·.1)).Nodup
 wish:∀ p∈cb,p.1∈W p.2
 back:∀ (k:Nat) p,cb[k]?=some p->p.2=s∨∃ (j:Nat) (q:Nat×Nat),j < k∧cb[j]?=some q∧lk B q.1=some p.2
 lt:∀ p∈cb,p.2 < n
theorem Wk.bk {n:Nat}{W:Nat->List Nat}{B:List (Nat×Nat)}{s:Nat}{R:List Nat}{cb:List (Nat×Nat)} (h:Wk n W B [s] R cb) {g a i:Nat} (ha:R[i]?=some a) (hg:g∈W a) (hn:lk cb g=none):Bk n W B s (cb++[(g,a)]) where
 nd:=by
  rw [Za1,Zbm]
  refine ⟨h.nd,by simp,fun x hx y hy=>?_⟩
  simp at hy
  subst hy
  exact fun e=>mD.mp hn (e ▸ hx)
 wish:=fun p hp=>by
  rcases Zad.mp hp with hp | hp
  ·exact h.wish p hp
  ·simp at hp;subst hp;exact hg
 back:=fun k p e=>by
  have hl:=h.len
  obtain ⟨j,hj,ej⟩:∃ j,j < 1+k∧R[j]?=some p.2:=by
   by_cases hk:k < cb.length
   ·rw [Zag hk] at e
    exact h.back k p e
   ·rw [Zao (by lia)] at e
    have:k=cb.length:=by
     rcases Nat.lt_or_ge (k - cb.length) 1 with q | q
     ·lia
     ·rw [ZaF (by simpa using q)] at e;cases e
    subst this
    simp at e
    subst e
    have hi:i < R.length:=(Zab.mp ha).1
    exact ⟨i,by simp at hl;lia,ha⟩
  have hjR:j < R.length:=(Zab.mp ej).1
  rw [h.eq] at ej
  cases j with
  | zero=>left;simpa using ej.symm
  | succ j =>
   right
   rw [Zao (by simp)] at ej
   simp only [ZaC,List.length_nil,Nat.zero_add,Nat.add_sub_cancel,List.getElem?_map] at ej
   cases q:cb[j]? with
   | none=>rw [q] at ej;cases ej
   | some p' =>
    rw [q] at ej
    have ej:some ((lk B p'.1).getD 0)=some p.2:=ej
    have hp':=h.pr p' (Zaf q)
    have jl:j < cb.length:=(Zab.mp q).1
    refine ⟨j,p',by lia,by rw [Zag jl];exact q,?_⟩
    cases z:lk B p'.1 with
    | none=>exact absurd z hp'
    | some b=>rw [z] at ej;exact congrArg some (Zaa ej)
 lt:=fun p hp=>by
  rcases Zad.mp hp with hp | hp
  ·obtain ⟨k,hk⟩:=Zbi hp
   obtain ⟨j,_,ej⟩:=h.back k p hk
   exact h.lt _ (Zaf ej)
  ·simp at hp;subst hp;exact h.lt _ (Zaf ha)
structure Jp (n N:Nat) (W:Nat->List Nat) (A0 B0:List (Nat×Nat)) (s:Nat) (cb:List (Nat×Nat)) (Dd:Nat->Prop) (k x:Nat) (A B:List (Nat×Nat)):Prop where
 ndA:(A.map (·.1)).Nodup
 ndB:(B.map (·.1)).Nodup
 kA:∀ a∈A.map (·.1),a < n
 kB:∀ a∈B.map (·.1),a < N
 old:∀ (i:Nat) p b,i < k->cb[i]?=some p->lk A0 b=some p.1->lk A b=some p.1
 st:lk A s=none
 iff:∀ a g,g≠x->(lk A a=some g↔lk B g=some a)
 no:∀ a,lk A a≠some x
 ok:∀ {a g},lk A a=some g->g∈W a∧a < n
 xd:∀ d,Dd d->lk B0 x≠some d
 bd:∀ g d,Dd d->lk B0 g=some d->lk B g=some d
 more:∀ b,lk A0 b≠none->lk A b≠none
 less:∀ b,lk A b≠none->lk A0 b≠none
noncomputable def gF (W:Nat->List Nat) (B:List (Nat×Nat)) (Dd:Nat->Prop):Prop:=∀ d,Dd d->∀ g∈W d,∃ d',lk B g=some d'∧Dd d'
section
variable {n N:Nat}{W:Nat->List Nat}{A0 B0 A B:List (Nat×Nat)}{s k x a:Nat}{cb:List (Nat×Nat)}{Dd:Nat->Prop}
theorem CK {l:List (Nat×Nat)} (h:(l.map (·.1)).Nodup) (k v:Nat):((ptN l k v).map (·.1)).Nodup:=by
 rw [uA]
 split
 ·rename_i e
  rw [Zbm]
  refine ⟨h,by simp,fun x hx y hy=>?_⟩
  simp at hy;subst hy
  exact fun z=>mD.mp e (z ▸ hx)
 ·exact h
theorem GF {l:List (Nat×Nat)}{k v n:Nat} (h:∀ a∈l.map (·.1),a < n) (hk:k < n):∀ a∈(ptN l k v).map (·.1),a < n:=by
 rw [uA]
 split
 ·intro a ha
  rcases Zad.mp ha with ha | ha
  ·exact h a ha
  ·simp at ha;subst ha;exact hk
 ·exact h
theorem nZ {l:List (Nat×Nat)}{n:Nat} (nd:(l.map (·.1)).Nodup) (h:∀ a∈l.map (·.1),a < n):l.length≤n:=by
 have:=cX (l:=l.map (·.1)) (k:=List.range n) nd fun x hx=>Zau.mpr (h x hx)
 simpa using this
theorem Jp.last (P:Pm n W A0 B0) (b:Bk n W B0 s cb) (c:gF W B0 Dd) (j:Jp n N W A0 B0 s cb Dd k x A B) (e:cb[k]?=some (x,a)) (hl:lk A a=none):Pm n W (ptN A a x) (ptN B x a)∧lk (ptN A a x) s≠none∧(∀ b,lk A0 b≠none->lk (ptN A a x) b≠none)∧(∀ b,lk (ptN A a x) b≠none->b=s∨lk A0 b≠none)∧gF W (ptN B x a) Dd:=by
 have xa:x∈W a:=b.wish _ (Zaf e)
 have as:a=s:=by
  rcases b.back k _ e with h | ⟨i,q,hi,eq,hq⟩
  ·exact h
  ·exact absurd hl (j.more a (by rw [(P.iff _ _).mpr hq];simp))
 refine ⟨⟨CK j.ndA _ _,CK j.ndB _ _,fun b' g=>?_,fun {b' g} h=>?_⟩,by rw [gQ,if_pos as.symm];simp,fun b' hb=>?_,fun b' hb=>?_,fun d hd g hg=>?_⟩
 ·rw [gQ,gQ]
  by_cases hb:b'=a
  ·subst hb
   rw [if_pos rfl]
   by_cases hx:g=x
   ·subst hx;simp
   ·rw [if_neg hx]
    refine ⟨fun z=>absurd (Zaa z).symm hx,fun z=>?_⟩
    rw [(j.iff _ _ hx).mpr z] at hl;cases hl
  ·rw [if_neg hb]
   by_cases hx:g=x
   ·subst hx
    rw [if_pos rfl]
    exact ⟨fun z=>absurd z (j.no b'),fun z=>absurd (Zaa z).symm hb⟩
   ·rw [if_neg hx];exact j.iff _ _ hx
 ·rw [gQ] at h
  split at h
  ·rename_i hb;cases h;subst hb;exact ⟨xa,b.lt _ (Zaf e)⟩
  ·exact j.ok h
 ·rw [gQ]
  split
  ·simp
  ·exact j.more b' hb
 ·rw [gQ] at hb
  split at hb
  ·rename_i e';exact .inl (e'.trans as)
  ·exact .inr (j.less b' hb)
 ·obtain ⟨d',h1,h2⟩:=c d hd g hg
  refine ⟨d',?_,h2⟩
  rw [gQ,if_neg fun z=>by subst z;exact j.xd d' h2 h1]
  exact j.bd g d' h2 h1
theorem Jp.step (P:Pm n W A0 B0) (wl:∀ i g,g∈W i->g < N) (b:Bk n W B0 s cb) (c:gF W B0 Dd) (j:Jp n N W A0 B0 s cb Dd k x A B) (e:cb[k]?=some (x,a)) {y:Nat} (hl:lk A a=some y):∃ k2 a2,k2 < k∧cb[k2]?=some (y,a2)∧Jp n N W A0 B0 s cb Dd k2 y (ptN A a x) (ptN B x a):=by
 have xa:x∈W a:=b.wish _ (Zaf e)
 have an:a < n:=b.lt _ (Zaf e)
 have sa:s≠a:=fun z=>by subst z;rw [j.st] at hl;cases hl
 obtain ⟨i,q,hi,eq,hq⟩:=(b.back k _ e).resolve_left (Za8 sa)
 have hA0:=(P.iff _ _).mpr hq
 have yq:y=q.1:=by have:=j.old i q a hi eq hA0;rw [hl] at this;exact Zaa this
 subst yq
 have nx:∀ (i':Nat) p,i' < k->cb[i']?=some p->p.1≠x:=fun i' p h1 h2 z=>by
  have e1:(cb.map (·.1))[i']?=some x:=by rw [List.getElem?_map,h2];exact congrArg some z
  have e2:(cb.map (·.1))[k]?=some x:=by rw [List.getElem?_map,e];rfl
  have l1:i' < (cb.map (·.1)).length:=(Zab.mp e1).1
  have:=(List.getElem?_inj l1 b.nd).mp (e1.trans e2.symm)
  lia
 have da:¬Dd a:=fun hd=>by
  obtain ⟨d',h1,h2⟩:=c a hd x xa
  exact j.xd d' h2 h1
 have ny:=nx i q hi eq
 refine ⟨i,q.2,hi,eq,CK j.ndA _ _,CK j.ndB _ _,GF j.kA an,GF j.kB (wl _ _ xa),fun i' p b' h1 h2 h3=>?_,by rw [gQ,if_neg sa];exact j.st,fun b' g hg=>?_,fun b'=>?_,fun {b' g} h=>?_,fun d hd z=>?_,fun g d hd z=>?_,fun b' hb'=>?_,fun b' hb'=>?_⟩
 ·rw [gQ,if_neg fun z=>?_]
  ·exact j.old i' p b' (by lia) h2 h3
  ·subst z
   rw [hA0] at h3
   have z:q.1=p.1:=Zaa h3
   have e1:(cb.map (·.1))[i']?=some q.1:=by rw [List.getElem?_map,h2];exact congrArg some z.symm
   have e2:(cb.map (·.1))[i]?=some q.1:=by rw [List.getElem?_map,eq];rfl
   have l1:i' < (cb.map (·.1)).length:=(Zab.mp e1).1
   have:=(List.getElem?_inj l1 b.nd).mp (e1.trans e2.symm)
   lia
 ·rw [gQ,gQ]
  by_cases hb:b'=a
  ·subst hb
   rw [if_pos rfl]
   by_cases hx:g=x
   ·subst hx;simp
   ·rw [if_neg hx]
    refine ⟨fun z=>absurd (Zaa z).symm hx,fun z=>?_⟩
    rw [(j.iff _ _ hx).mpr z] at hl
    exact absurd (Zaa hl) hg
  ·rw [if_neg hb]
   by_cases hx:g=x
   ·subst hx
    rw [if_pos rfl]
    exact ⟨fun z=>absurd z (j.no b'),fun z=>absurd (Zaa z).symm hb⟩
   ·rw [if_neg hx];exact j.iff _ _ hx
 ·rw [gQ]
  split
  ·exact fun z=>ny (Zaa z).symm
  ·rename_i hb
   exact fun z=>hb (by have h1:=(j.iff _ _ ny).mp z;have h2:=(j.iff _ _ ny).mp hl;rw [h1] at h2;exact Zaa h2)
 ·rw [gQ] at h
  split at h
  ·rename_i hb;cases h;subst hb;exact ⟨xa,an⟩
  ·exact j.ok h
 ·rw [hq] at z
  cases z
  exact da hd
 ·rw [gQ,if_neg fun w=>by subst w;exact j.xd d hd z]
  exact j.bd g d hd z
 ·rw [gQ]
  split
  ·simp
  ·exact j.more b' hb'
 ·rw [gQ] at hb'
  split at hb'
  ·rename_i e';subst e';exact j.less _ (by rw [hl];simp)
  ·exact j.less b' hb'
end
theorem Ip {G:Gs}{A B cb:List (Nat×Nat)}:eU [G.GA A,G.GD B,G.GD cb,.non]=some (.ok (.tup [G.GA A,G.GD B])):=by
 suffices h:∃ p,eU [G.GA A,G.GD B,G.GD cb,.non]=some (.ok p)∧p=.tup [G.GA A,G.GD B] by
  obtain ⟨p,e,rfl⟩:=h;exact e
 show ∃ p,vm (iJ (eQ [G.GA A,G.GD B,G.GD cb,.non] 3))=some (.ok p)∧p=.tup [G.GA A,G.GD B]
 refine xZ ?_
 unfold iJ
 rw [show eQ [G.GA A,G.GD B,G.GD cb,.non] 3=[some (.ow (G.GA A)),some (.ow (G.GD B)),some (.sh (G.GD cb)),some (.sh .non),none,none,none] from rfl]
 walk_at "rd"
 refine vP (n:=1999) (I:=fun _ ρ=>ρ=[some (.ow (G.GA A)),some (.ow (G.GD B)),some (.sh (G.GD cb)),some (.sh .non),some (.sh .non),none,none]) rfl ?_
 rintro k ρ rfl
 walk_at "rd"
 rw [if_neg (show ¬PV.non.xx=false by decide)]
 exact ⟨_,rfl,rfl⟩
theorem Ou {G:Gs}{n N:Nat}{W:Nat->List Nat}{A0 B0 cb:List (Nat×Nat)}{s g a:Nat}{Dd:Nat->Prop} (hn:n≤600) (hN:N≤600) (wl:∀ i g,g∈W i->g < N) (P:Pm n W A0 B0) (b:Bk n W B0 s (cb++[(g,a)])) (c:gF W B0 Dd) (hs:lk A0 s=none) (hg:lk B0 g=none) :
  ∃ A B,eU [G.GA A0,G.GD B0,G.GD (cb++[(g,a)]),G.gv g]=some (.ok (.tup [G.GA A,G.GD B]))∧Pm n W A B∧lk A s≠none∧(∀ b,lk A0 b≠none->lk A b≠none)∧(∀ b,lk A b≠none->b=s∨lk A0 b≠none)∧gF W B Dd:=by
 have big:∀ {k:Nat},k≤9000->k < sizeLine:=fun h=>wz (by lia)
 suffices h:∃ p,eU [G.GA A0,G.GD B0,G.GD (cb++[(g,a)]),G.gv g]=some (.ok p)∧∃ A B,p=.tup [G.GA A,G.GD B]∧Pm n W A B∧lk A s≠none∧(∀ b,lk A0 b≠none->lk A b≠none)∧(∀ b,lk A b≠none->b=s∨lk A0 b≠none)∧gF W B Dd by
  obtain ⟨p,e,A,B,rfl,h⟩:=h;exact ⟨A,B,e,h⟩
 generalize hcb:cb++[(g,a)]=cbx at b ⊢
 have e0:cbx[cb.length]?=some (g,a):=by rw [←hcb];simp
 have hlen:cbx.length≤N:=nZ b.nd fun x hx=>by
  obtain ⟨p,hp,rfl⟩:=Zae.mp hx
  exact wl _ _ (b.wish p hp)
 have kl:∀ {l:List (Nat×Nat)}{k:Nat},k∈l.map (·.1)->∃ v,lk l k=some v:=fun {l k} h=>by
  cases e:lk l k with
  | none=>exact absurd h (mD.mp e)
  | some v=>exact ⟨v,rfl⟩
 have j0:Jp n N W A0 B0 s cbx Dd cb.length g A0 B0:=by
  refine ⟨P.ndA,P.ndB,fun x hx=>?_,fun x hx=>?_,fun i p b' h1 h2 h3=>h3,hs,fun a' g' _=>P.iff a' g',fun a' z=>?_,P.ok,fun d _ z=>?_,fun g' d _ z=>z,fun b' z=>z,fun b' z=>z⟩
  ·obtain ⟨v,hv⟩:=kl hx;exact (P.ok hv).2
  ·obtain ⟨v,hv⟩:=kl hx;exact wl _ _ (P.ok ((P.iff _ _).mpr hv)).1
  ·rw [(P.iff _ _).mp z] at hg;cases hg
  ·rw [hg] at z;cases z
 refine xZ ?_
 unfold iJ
 rw [show eQ [G.GA A0,G.GD B0,G.GD cbx,G.gv g] 3=[some (.ow (G.GA A0)),some (.ow (G.GD B0)),some (.sh (G.GD cbx)),some (.sh (G.gv g)),none,none,none] from rfl]
 walk_at "rd"
 refine vP (n:=1999) (I:=fun m ρ=>∃ (A B:List (Nat×Nat)) (y:Option Nat) (v5 v6:Option Sl),ρ=[some (.ow (G.GA A)),some (.ow (G.GD B)),some (.sh (G.GD cbx)),some (.sh (G.gv g)),some (.sh (gvP G y)),v5,v6] ∧
  match y with
  | none=>Pm n W A B∧lk A s≠none∧(∀ b,lk A0 b≠none->lk A b≠none)∧(∀ b,lk A b≠none->b=s∨lk A0 b≠none)∧gF W B Dd
  | some x=>∃ k a,cbx[k]?=some (x,a)∧k < m∧Jp n N W A0 B0 s cbx Dd k x A B) ⟨A0,B0,some g,none,none,rfl,cb.length,a,e0,by have:=(Zab.mp e0).1;lia,j0⟩ ?_
 rintro m ρ ⟨A,B,y,v5,v6,rfl,hy⟩
 cases y with
 | none =>
  rw [show gvP G none=.non from rfl]
  walk_at "rd"
  rw [if_neg (show ¬PV.non.xx=false by decide)]
  exact ⟨_,rfl,A,B,rfl,hy⟩
 | some x =>
  obtain ⟨k,a',ek,km,j⟩:=hy
  rw [show gvP G (some x)=G.gv x from rfl]
  walk_at "rd"
  rw [if_pos (G.nn x)]
  refine ⟨by lia,?_⟩
  unfold pq
  have lc:lk cbx x=some a':=pK b.nd (Zaf ek)
  have lA:=nZ j.ndA j.kA
  have lB:=nZ j.ndB j.kB
  walk_at "rd"
  refine ⟨G.isD _,(G.av a'),by rw [G.find,lc];rfl,rfl,_,G.Qf _ _,_,G.Us j.ndA (big (by lia)),_,G.put _ _ _ j.ndB (big (by lia)),ptN A a' x,ptN B x a',lk A a',some (.sh ((G.av a'))),some (.sh ((Option.map G.gv (lk A a')).getD PV.non)),?_,?_⟩
  ·cases lk A a' <;> rfl
  ·cases hl:lk A a' with
   | none=>exact j.last P b c ek hl
   | some y =>
    obtain ⟨k2,a2,h1,h2,h3⟩:=j.step P wl b c ek hl
    exact ⟨k2,a2,h2,by lia,h3⟩
theorem CN (p:Sk):ph (skK p)=skP p:=by
 unfold ph skK skP
 rw [Zak,List.map_map];rfl
theorem zK (G:Gs) (n:Nat) (W:Nat->List Nat):pY ((List.range n).map fun (i:Nat)=>(G.aK i,PV.lst (G.GL (W i))))=G.AL (List.range n):=by
 unfold pY Gs.AL
 rw [List.map_map]
 exact ZaU fun i _=>CN _
theorem wD {l:List (List Key×PV)}{Q:List PV->Prop}:Tv (rm (.dt l)) Q=Q (pY l):=tv_some
theorem yg {l:List (List Key×PV)}{Q:List PV->Prop}:Tv (rA (.dt l)) Q=Q (lW l):=tv_some
theorem Ov {G:Gs}{n N:Nat}{W:Nat->List Nat} (hn:n≤600) (hN:N≤600) (wl:∀ i g,g∈W i->g < N) :
  ∃ A B,gr [wiP G n W]=some (.ok (G.GA A))∧Pm n W A B∧∃ Dd,gF W B Dd∧∀ a,a < n->lk A a=none->Dd a:=by
 have big:∀ {k:Nat},k≤9000->k < sizeLine:=fun h=>wz (by omega)
 suffices h:∃ p,gr [wiP G n W]=some (.ok p)∧∃ A B,p=G.GA A∧Pm n W A B∧∃ Dd,gF W B Dd∧∀ a,a < n->lk A a=none->Dd a by
  obtain ⟨p,e,A,B,rfl,h⟩:=h;exact ⟨A,B,e,h⟩
 refine zr ?_
 unfold lY
 rw [show startR [wiP G n W] 4=[some (.sh (wiP G n W)),none,none,none,none] from rfl]
 walk_at "rd"
 refine ⟨rfl,?_⟩
 rw [show wiP G n W=.dt ((List.range n).map fun (i:Nat)=>(G.aK i,PV.lst (G.GL (W i)))) from rfl,wD,zK,←show wiP G n W=.dt ((List.range n).map fun (i:Nat)=>(G.aK i,PV.lst (G.GL (W i)))) from rfl]
 refine dX (I:=fun j ρ=>∃ (A B:List (Nat×Nat)) (v3 v4:Option Sl),ρ=[some (.sh (wiP G n W)),some (.ow (G.GA A)),some (.ow (G.GD B)),v3,v4]∧Pm n W A B∧(∀ a,j≤a->lk A a=none)∧∃ Dd,gF W B Dd∧∀ a,a < j->lk A a=none->Dd a)
  ⟨[],[],none,none,rfl,⟨by simp,by simp,fun a g=>by simp [lk],fun {a g} h=>by simp [lk] at h⟩,fun a _=>rfl,fun _=>False,fun d h=>h.elim,fun a h=>absurd h (Nat.not_lt_zero _)⟩ ?_ ?_
 case refine_2 =>
  rintro ρ ⟨A,B,v3,v4,rfl,P,un,Dd,c,hd⟩
  walk_at "rd"
  unfold nG
  walk_at "rd"
  exact ⟨A,rfl,B,P,Dd,c,fun a ha=>hd a (by simpa [Gs.AL] using ha)⟩
 rintro j y ρ ey ⟨A,B,v3,v4,rfl,P,un,Dd,c,hd⟩
 obtain ⟨s,es,rfl⟩:=RJ ey
 have hs:s=j∧s < n:=by
  have hj:j < n:=by simpa using (Zab.mp es).1
  rw [Zba hj] at es
  cases es;exact ⟨rfl,hj⟩
 obtain ⟨rfl,sn⟩:=hs
 obtain ⟨g,R,cb,ew,he⟩:=yf (G:=G) (B:=B) (S:=[s]) hN (by simp) (fun a ha=>by simp at ha;omega) wl fun g b h=>(P.ok ((P.iff _ _).mpr h)).2
 unfold nF
 walk_at "rd"
 refine ⟨ZaG (big (by omega)),?_⟩
 rw [show [(G.av s)]=G.AL [s] from rfl,ew]
 walk_at "rd"
 cases g with
 | none =>
  obtain ⟨hw,hc⟩:=he
  refine ⟨_,_,Ip,A,B,_,_,rfl,P,fun a ha=>un a (by omega),fun d=>Dd d∨d∈R,fun d hd' g hg=>?_,fun a ha hl=>?_⟩
  ·rcases hd' with h | h
   ·obtain ⟨d',h1,h2⟩:=c d h g hg
    exact ⟨d',h1,.inl h2⟩
   ·obtain ⟨p,hp,rfl⟩:=Zae.mp (hc d h g hg)
    cases e:lk B p.1 with
    | none=>exact absurd e (hw.pr p hp)
    | some b =>
     refine ⟨b,rfl,.inr ?_⟩
     rw [hw.eq]
     exact ZaA _ (Zae.mpr ⟨p,hp,by rw [e];rfl⟩)
  ·by_cases e:a=s
   ·right;subst e;rw [hw.eq];simp
   ·exact .inl (hd a (by omega) hl)
 | some g =>
  obtain ⟨cb',a,i,rfl,hw,ha,hg,hk,hb⟩:=he
  obtain ⟨A',B',e1,P',h1,h2,h3,c'⟩:=Ou (G:=G) hn hN wl P (hw.bk ha hg hk) c (un s (Zah _)) hb
  refine ⟨_,_,e1,A',B',_,_,rfl,P',fun b hb'=>?_,Dd,c',fun b hb' hl=>?_⟩
  ·cases e:lk A' b with
   | none=>rfl
   | some z =>
    rcases h3 b (by rw [e];simp) with h | h
    ·omega
    ·exact absurd (un b (by omega)) h
  ·by_cases e:b=s
   ·subst e;exact absurd hl h1
   ·refine hd b (by omega) ?_
    cases z:lk A b with
    | none=>rfl
    | some z'=>exact absurd hl (h2 b (by rw [z];simp))
theorem jA {α:Type}{tg:PV->Rho->Option Rho}{tst:Fn Bool}{el:Fn PV}{ρb:Rho} (src:α->PV) (t:α->Bool) (f:α->PV):∀ (l:List α),
  (∀ x∈l,∃ ρ1,tg (src x) ρb=some ρ1∧tst ρ1=some (.ok (t x))∧(t x=true->el ρ1=some (.ok (f x))))->d7 tg tst el ρb (l.map src)=some (.ok ((l.filter t).map f))
 | [],_=>rfl
 | x::xs,h=>by
  obtain ⟨ρ1,e1,e2,e3⟩:=h x List.mem_cons_self
  have ih:=jA src t f xs fun y hy=>h y (List.mem_cons_of_mem _ hy)
  rw [Zak,d7,e1]
  simp only [e2,bnd]
  cases ht:t x with
  | true=>simp only [if_true,e3 ht,ih,bnd,Zbs,ht,Zak]
  | false=>simp only [Za0,if_false,ih,Zbs,ht]
noncomputable def wU (l B:List (Nat×Nat)):List (Nat×Nat):=l.foldl (fun B p=>ptN B p.2 p.1) B
theorem GJ {g a:Nat}:∀ (l:List (Nat×Nat)) {B:List (Nat×Nat)},(l.map (·.2)).Nodup->(lk (wU l B) g=some a↔(a,g)∈l∨(lk B g=some a∧g ∉ l.map (·.2)))
 | [],B,_=>by simp [wU]
 | p::l,B,nd=>by
  rw [Zak,Zbe] at nd
  show lk (wU l (ptN B p.2 p.1)) g=some a↔_
  rw [GJ l nd.2,gQ]
  by_cases h:g=p.2
  ·subst h
   rw [if_pos rfl]
   constructor
   ·rintro (h | ⟨h,_⟩)
    ·exact .inl (List.mem_cons_of_mem _ h)
    ·cases h;exact .inl List.mem_cons_self
   ·rintro (h | ⟨_,h⟩)
    ·rcases Zas.mp h with e | h
     ·right;rw [←e];exact ⟨rfl,by rw [show (a,p.2).2=p.2 from rfl];exact nd.1⟩
     ·exact absurd (Zae.mpr ⟨_,h,rfl⟩) nd.1
    ·simp at h
  ·rw [if_neg h]
   constructor
   ·rintro (q | ⟨q1,q2⟩)
    ·exact .inl (List.mem_cons_of_mem _ q)
    ·exact .inr ⟨q1,by simp only [Zak,Zas,not_or];exact ⟨h,q2⟩⟩
   ·rintro (q | ⟨q1,q2⟩)
    ·rcases Zas.mp q with e | q
     ·rw [←e] at h;exact absurd rfl h
     ·exact .inl q
    ·simp only [Zak,Zas,not_or] at q2
     exact .inr ⟨q1,q2.2⟩
theorem GK {G:Gs}:∀ (l:List (Nat×Nat)) {B:List (Nat×Nat)},(B.map (·.1)).Nodup->B.length+l.length≤9000->iw (G.GD B) (l.map fun p=>(G.gv p.2,G.av p.1))=some (G.GD (wU l B))
 | [],_,_,_=>rfl
 | p::l,B,nd,h=>by
  have h1:=G.put B p.2 p.1 nd (wz (by simp at h;lia))
  rw [Zak]
  unfold iw
  rw [h1]
  exact GK l (CK nd _ _) (by have:=RG p.2 p.1 B;simp at h;lia)
theorem CP {G:Gs}:∀ (l:List (Nat×Nat)),lM (l.map fun p=>PV.tup [G.gv p.2,G.av p.1])=some (l.map fun p=>(G.gv p.2,G.av p.1))
 | []=>rfl
 | p::l=>by
  rw [Zak]
  unfold lM
  rw [CP l];rfl
theorem Pm.Qg {n:Nat}{W:Nat->List Nat}{A B:List (Nat×Nat)} (P:Pm n W A B):(A.map (·.2)).Nodup:=by
 have h:=P.ndA
 rw [List.Nodup,ZaY] at h ⊢
 refine h.imp_of_mem fun {p q} hp hq hne e=>hne ?_
 have h1:=(P.iff _ _).mp (pK P.ndA (show (p.1,p.2)∈A from hp))
 have h2:=(P.iff _ _).mp (pK P.ndA (show (q.1,q.2)∈A from hq))
 rw [e,h2] at h1
 exact (Zaa h1).symm
theorem Pm.rev {n:Nat}{W:Nat->List Nat}{A B:List (Nat×Nat)} (P:Pm n W A B) (g a:Nat):lk (wU A []) g=some a↔lk B g=some a:=by
 rw [GJ A P.Qg,←P.iff]
 simp only [lk,reduceCtorEq,false_and,or_false]
 exact ⟨fun h=>pK P.ndA h,fun h=>zJ h⟩
noncomputable def mL (n:Nat) (A:List (Nat×Nat)):List Nat:=(List.range n).filter fun a=>(lk A a).isNone
theorem CQ (G:Gs) (l:List (Nat×Nat)):lW (kvQ G.aK G.gv l)=l.map fun p=>PV.tup [G.av p.1,G.gv p.2]:=by
 unfold lW kvQ
 rw [List.map_map]
 exact ZaU fun p _=>by show PV.tup [ph (skK (G.aS p.1)),G.gv p.2]=_;rw [CN];rfl
noncomputable def sU (ps:List Sk):List Sk:=(fY ps).map fun j=>ps.getD j default
theorem lC (ps:List Sk):(sU ps).Perm ps:=by
 have h:=(kO ps).map fun j=>ps.getD j default
 refine h.trans (List.Perm.of_eq ?_)
 apply Zbk
 intro i
 rw [List.getElem?_map]
 by_cases hi:i < ps.length
 ·rw [Zba hi,List.getElem?_eq_getElem hi]
  show some (ps.getD i default)=_
  rw [List.getD_eq_getElem?_getD,List.getElem?_eq_getElem hi];rfl
 ·rw [ZaF (by simpa using hi),ZaF (by simpa using hi)];rfl
theorem yh:∀ (ps:List Sk),vJ (ps.map skP)=some ps
 | []=>rfl
 | p::ps=>by
  rw [Zak]
  unfold vJ
  rw [yh ps]
  have:Ry (skP p)=some p:=by
   show (ni (p.2.map PV.int)).map _=_
   rw [MM.lV];rfl
  rw [this]
theorem yj:∀ (ns:List Int),tR (ns.map .inl)=some ns
 | []=>rfl
 | n::ns=>by
  show (tR (ns.map .inl)).map (n::·)=_
  rw [yj ns];rfl
theorem CT:∀ (ps:List Sk),wO (ps.map skK)=some ps
 | []=>rfl
 | p::ps=>by
  rw [Zak]
  unfold wO
  rw [CT ps]
  have:kSk (skK p)=some p:=by
   show (tR (p.2.map .inl)).map _=_
   rw [yj];rfl
  rw [this]
theorem CV {ps:List Sk} (h:∀ p∈ps,p.2.length=3):jM ps=true:=by
 cases ps with
 | nil=>rfl
 | cons p l =>
  refine ZaW.mpr fun q hq=>?_
  rw [h q (List.mem_cons_of_mem _ hq),h p List.mem_cons_self];rfl
theorem GP {ps:List Sk} (nd:ps.Nodup) (h:∀ p∈ps,p.2.length=3) (hl:ps.length < sizeLine):oN (ps.map skP)=some (.ok (.lst ((sU ps).map skP))):=by
 unfold oN
 rw [yh]
 show (if _ then _ else _)=_
 rw [if_pos ⟨nd,CV h,hl⟩]
 unfold sU
 rw [List.map_map];rfl
theorem Ow {l:List (List Key×PV)}{ps:List Sk} (e:l.map (·.1)=ps.map skK) (nd:ps.Nodup) (h:∀ p∈ps,p.2.length=3) (hl:ps.length < sizeLine):vL (.dt l)=some (.ok (.lst ((sU ps).map skP))):=by
 show (match wO (l.map (·.1)) with
  | some ps=>if ps.Nodup∧jM ps=true∧ps.length < sizeLine then some (Res.ok (PV.lst ((fY ps).map fun j=>skP (ps.getD j default)))) else none
  | none=>none)=_
 rw [e,CT]
 show (if _ then _ else _)=_
 rw [if_pos ⟨nd,CV h,hl⟩]
 unfold sU
 rw [List.map_map];rfl
theorem Wk.ndR {n:Nat}{W:Nat->List Nat}{A B B':List (Nat×Nat)}{R:List Nat}{cb:List (Nat×Nat)} (P:Pm n W A B) (hB:∀ g a,lk B' g=some a↔lk B g=some a) (hw:Wk n W B' (mL n A) R cb):R.Nodup:=by
 rw [hw.eq,Zbm]
 refine ⟨List.Nodup.sublist Zbq ZbD,?_,fun a ha b hb e=>?_⟩
 ·have h:=hw.nd
  rw [List.Nodup,ZaY] at h ⊢
  refine h.imp_of_mem fun {p q} hp hq hne e=>hne ?_
  cases e1:lk B' p.1 with
  | none=>exact absurd e1 (hw.pr p hp)
  | some a =>
   cases e2:lk B' q.1 with
   | none=>exact absurd e2 (hw.pr q hq)
   | some b =>
    rw [e1,e2] at e
    have e:a=b:=e
    subst e
    have h1:=(P.iff _ _).mpr ((hB _ _).mp e1)
    have h2:=(P.iff _ _).mpr ((hB _ _).mp e2)
    rw [h1] at h2
    exact Zaa h2
 ·subst e
  obtain ⟨p,hp,e1⟩:=Zae.mp hb
  cases e2:lk B' p.1 with
  | none=>exact absurd e2 (hw.pr p hp)
  | some z =>
   rw [e2] at e1
   have e1:z=a:=e1
   subst e1
   have h1:=(P.iff _ _).mpr ((hB _ _).mp e2)
   have:=(Zaq.mp ha).2
   rw [h1] at this;cases this
theorem La {G:Gs}{n N:Nat}{W:Nat->List Nat}{A B:List (Nat×Nat)}{Dd:Nat->Prop} (hn:n≤600) (hN:N≤600) (wl:∀ i g,g∈W i->g < N) (P:Pm n W A B) (c:gF W B Dd) (hd:∀ a,a < n->lk A a=none->Dd a) :
  ∃ B' R cb,d8 [wiP G n W,G.GA A]=some (.ok (.tup [.lst ((sU (R.map G.aS)).map skP),.lst ((sU (cb.map fun p=>G.gS p.1)).map skP)]))∧(∀ g a,lk B' g=some a↔lk B g=some a)∧Wk n W B' (mL n A) R cb∧∀ a∈R,∀ x∈W a,x∈cb.map (·.1):=by
 have big:∀ {k:Nat},k≤9000->k < sizeLine:=fun h=>wz (by lia)
 have kl:∀ {l:List (Nat×Nat)}{k:Nat},k∈l.map (·.1)->∃ v,lk l k=some v:=fun {l k} h=>by
  cases e:lk l k with
  | none=>exact absurd h (mD.mp e)
  | some v=>exact ⟨v,rfl⟩
 have lA:A.length≤n:=nZ P.ndA fun x hx=>by obtain ⟨v,hv⟩:=kl hx;exact (P.ok hv).2
 obtain ⟨g,R,cb,ew,he⟩:=yf (G:=G) (B:=wU A []) (S:=mL n A) hN (by have:(mL n A).length≤(List.range n).length:=ZaR _ _;rw [List.length_range] at this;lia) (fun a ha=>by simpa [mL] using (Zaq.mp ha).1) wl fun g b h=>(P.ok ((P.iff _ _).mpr ((P.rev g b).mp h))).2
 have stay:∀ {R cb},Wk n W (wU A []) (mL n A) R cb->(∀ a∈R,Dd a):=fun {R cb} hw=>by
  intro a ha
  obtain ⟨i,hi⟩:=Zbi ha
  induction i using Nat.strongRecOn generalizing a with
  | _ i ih =>
   rw [hw.eq] at hi
   by_cases hl:i < (mL n A).length
   ·rw [Zag hl] at hi
    have:=Zaq.mp (Zaf hi)
    exact hd a (by simpa using this.1) (by simpa using this.2)
   ·rw [Zao (by lia),List.getElem?_map] at hi
    cases q:cb[i - (mL n A).length]? with
    | none=>rw [q] at hi;cases hi
    | some p =>
     rw [q] at hi
     have hi:some ((lk (wU A []) p.1).getD 0)=some a:=hi
     obtain ⟨j,h1,h2⟩:=hw.back _ p q
     have dj:=ih j (by lia) p.2 (Zaf h2) h2
     obtain ⟨d',e1,e2⟩:=c p.2 dj p.1 (hw.wish p (Zaf q))
     rw [(P.rev _ _).mpr e1] at hi
     cases hi;exact e2
 have hg:g=none:=by
  cases g with
  | none=>rfl
  | some g =>
   obtain ⟨cb',a,i,rfl,hw,ha,hg,hk,hb⟩:=he
   obtain ⟨d',e1,_⟩:=c a (stay hw a (Zaf ha)) g hg
   rw [(P.rev _ _).mpr e1] at hb;cases hb
 subst hg
 obtain ⟨hw,hc⟩:=he
 refine ⟨wU A [],R,cb,?_,P.rev,hw,hc⟩
 refine lX ?_
 unfold gw
 rw [show startR [wiP G n W,G.GA A] 2=[some (.sh (wiP G n W)),some (.sh (G.GA A)),none,none] from rfl]
 walk_at "rd"
 rw [show G.GA A=.dt (kvQ G.aK G.gv A) from rfl,yg,CQ,jA (fun p:Nat×Nat=>PV.tup [G.av p.1,G.gv p.2]) (fun _=>true) (fun p=>PV.tup [G.gv p.2,G.av p.1]) A fun p _=>⟨_,rfl,rfl,fun _=>jN (by walk_at "rd";exact ZaG (big (by lia)))⟩,tv_some,ZbB.mpr (fun _ _=>rfl)]
 have pa:iw (.dt []) (A.map fun p=>(G.gv p.2,G.av p.1))=some (G.GD (wU A [])):=by
  have h:=GK (G:=G) A (B:=[]) (by simp) (by simp;lia)
  exact h
 refine ⟨rfl,by rw [List.length_map];exact ZaG (big (by lia)),_,CP A,_,pa,rfl,?_⟩
 rw [show wiP G n W=.dt ((List.range n).map fun (i:Nat)=>(G.aK i,PV.lst (G.GL (W i)))) from rfl,wD,zK,←show wiP G n W=.dt ((List.range n).map fun (i:Nat)=>(G.aK i,PV.lst (G.GL (W i)))) from rfl]
 refine ⟨by simp only [Gs.AL,List.length_map,List.length_range];exact ZaG (big (by lia)),?_⟩
 rw [show G.AL (List.range n)=(List.range n).map G.av from rfl,jA G.av (fun a=>(lk A a).isNone) G.av (List.range n) fun a _=>⟨_,rfl,jN (by
  walk_at "rd"
  refine ⟨_,G.Qf A a,?_⟩
  cases lk A a <;> rfl),fun _=>jN (by walk_at "rd")⟩,tv_some,show ((List.range n).filter fun a=>(lk A a).isNone).map G.av=G.AL (mL n A) from rfl,ew]
 walk_at "rd"
 have hR:=hw.len
 have hcb:=hw.wC wl
 have hf:(mL n A).length≤(List.range n).length:=ZaR _ _
 rw [List.length_range] at hf
 have nR:R.length≤n:=by
  have:=cX (l:=R) (k:=List.range n) (Wk.ndR P P.rev hw) fun x hx=>Zau.mpr (hw.lt x hx)
  simpa using this
 have ndR:=Wk.ndR P P.rev hw
 have nm:∀ {l:List Nat}{f:Nat->Sk},l.Nodup->(∀ a b,f a=f b->a=b)->(l.map f).Nodup:=fun {l f} nd inj=>by
  rw [List.Nodup,ZaY]
  exact nd.imp fun hne e=>hne (inj _ _ e)
 rw [show G.AL R=(R.map G.aS).map skP by rw [List.map_map];rfl,GP (nm ndR G.ia) (fun p hp=>by obtain ⟨a,_,rfl⟩:=Zae.mp hp;exact G.la a) (by rw [List.length_map];exact big (by lia)),tv_some]
 refine ⟨rfl,?_⟩
 rw [show G.GD cb=.dt (kvQ G.gK G.av cb) from rfl,Ow (ps:=cb.map fun p=>G.gS p.1) (by unfold kvQ;rw [List.map_map,List.map_map];rfl) (by have:=nm (f:=G.gS) hw.nd G.ig;rw [List.map_map] at this;exact this) (fun p hp=>by obtain ⟨a,_,rfl⟩:=Zae.mp hp;exact G.lg _) (by rw [List.length_map];exact big (by lia)),tv_some]
 exact ⟨ZaG (big (by lia)),rfl⟩
noncomputable def qb (l:List Int):List (Int×Int):=l.zip l.tail
theorem zL:∀ {l:List Int},l.Pairwise (· < ·)->∀ p∈qb l,p.1 < p.2∧p.1∈l∧p.2∈l∧∀ y∈l,y≤p.1∨p.2≤y
 | [],_,p,hp=>by simp [qb] at hp
 | [a],_,p,hp=>by simp [qb] at hp
 | a::b::l,pw,p,hp=>by
  have h1:=List.pairwise_cons.mp pw
  have hp:p∈(a,b)::qb (b::l):=hp
  rcases Zas.mp hp with e | hp
  ·subst e
   refine ⟨h1.1 b List.mem_cons_self,List.mem_cons_self,List.mem_cons_of_mem _ List.mem_cons_self,fun y hy=>?_⟩
   rcases Zas.mp hy with e | hy
   ·left;show y≤a;lia
   ·right
    rcases Zas.mp hy with e | hy
    ·show b≤y;lia
    ·have:=(List.pairwise_cons.mp h1.2).1 y hy;show b≤y;lia
  ·obtain ⟨q1,q2,q3,q4⟩:=zL h1.2 p hp
   refine ⟨q1,List.mem_cons_of_mem _ q2,List.mem_cons_of_mem _ q3,fun y hy=>?_⟩
   rcases Zas.mp hy with e | hy
   ·left
    have:=h1.1 p.1 q2
    lia
   ·exact q4 y hy
theorem Lb {x:Int}:∀ {a:Int}{l:List Int},a < x->x ∉ l->(∃ y∈l,x < y)->∃ p∈qb (a::l),p.1 < x∧x < p.2
 | a,[],_,_,h=>by obtain ⟨y,hy,_⟩:=h;cases hy
 | a,b::l,ha,hx,h=>by
  by_cases hb:x < b
  ·exact ⟨(a,b),List.mem_cons_self,ha,hb⟩
  ·have ne:x≠b:=fun e=>hx (by rw [e];exact List.mem_cons_self)
   obtain ⟨y,hy,h2⟩:=h
   have hy:y∈l:=by
    rcases Zas.mp hy with e | hy
    ·subst e;exact absurd h2 hb
    ·exact hy
   obtain ⟨p,hp,q⟩:=Lb (a:=b) (l:=l) (by lia) (fun z=>hx (List.mem_cons_of_mem _ z)) ⟨y,hy,h2⟩
   exact ⟨p,List.mem_cons_of_mem _ hp,q⟩
noncomputable def eV (q:Nat->Bool) (L:Nat):List Int:=(-1)::((((List.range L).filter q).map fun (i:Nat)=>(i:Int))++[(L:Int)])
theorem wF {q:Nat->Bool}{L:Nat}{y:Int}:y∈eV q L↔y=-1∨(∃ i:Nat,i < L∧q i=true∧y=i)∨y=L:=by
 unfold eV
 simp only [Zas,Zad,Zae,Zaq,Zau,List.not_mem_nil,or_false]
 constructor
 ·rintro (h | ⟨i,⟨h1,h2⟩,rfl⟩ | h)
  ·exact .inl h
  ·exact .inr (.inl ⟨i,h1,h2,rfl⟩)
  ·exact .inr (.inr h)
 ·rintro (h | ⟨i,h1,h2,rfl⟩ | h)
  ·exact .inl h
  ·exact .inr (.inl ⟨i,⟨h1,h2⟩,rfl⟩)
  ·exact .inr (.inr h)
theorem zM (q:Nat->Bool) (L:Nat):(eV q L).Pairwise (· < ·):=by
 unfold eV
 rw [List.pairwise_cons]
 refine ⟨fun y hy=>?_,?_⟩
 ·rcases Zad.mp hy with hy | hy
  ·obtain ⟨i,_,rfl⟩:=Zae.mp hy;omega
  ·simp at hy;omega
 ·rw [Zan]
  refine ⟨?_,by simp,fun a ha b hb=>?_⟩
  ·rw [ZaY]
   exact (Zai Zbq List.pairwise_lt_range).imp fun h=>by omega
  ·obtain ⟨i,hi,rfl⟩:=Zae.mp ha
   have:=Zau.mp (Zaq.mp hi).1
   simp at hb;omega
noncomputable def pL (q:Nat->Bool) (L:Nat):List (Int×Int):=((qb (eV q L)).filter fun p=>decide (p.1+1 < p.2)).map fun p=>(p.1+1,p.2 - 1)
noncomputable def pN (q:Nat->Bool) (L:Nat) (x:Int):Int×Int:=(fun p:Int×Int=>(p.1+1,p.2 - 1)) (((qb (eV q L)).find? fun p=>decide (p.1 < x∧x < p.2)).getD (0,0))
structure wG (q:Nat->Bool) (L:Nat) (x:Int):Prop where
 x0:0≤x
 x1:x < L
 no:q x.toNat=false
section
variable {q:Nat->Bool}{L:Nat}{x y:Int}
theorem wG.Qh (f:wG q L x):x ∉ eV q L:=fun h=>by
 rcases wF.mp h with e | ⟨i,h1,h2,e⟩ | e
 ·have:=f.x0;omega
 ·have:=f.no;rw [e,Zav,h2] at this;cases this
 ·have:=f.x1;omega
theorem wG.gap (f:wG q L x):∃ p∈qb (eV q L),p.1 < x∧x < p.2∧pN q L x=(p.1+1,p.2 - 1):=by
 have ex:∃ p∈qb (eV q L),p.1 < x∧x < p.2:=Lb (by have:=f.x0;omega) (fun z=>f.Qh (List.mem_cons_of_mem _ z)) ⟨(L:Int),by simp,f.x1⟩
 cases e:(qb (eV q L)).find? fun p=>decide (p.1 < x∧x < p.2) with
 | none =>
  obtain ⟨p,h1,h2⟩:=ex
  have:=List.find?_eq_none.mp e p h1
  simp only [decide_eq_true_eq] at this
  exact absurd h2 this
 | some p =>
  have h1:=List.find?_some e
  simp only [decide_eq_true_eq] at h1
  refine ⟨p,List.mem_of_find?_eq_some e,h1.1,h1.2,?_⟩
  unfold pN;rw [e];rfl
structure Run (q:Nat->Bool) (L:Nat) (p:Int×Int):Prop where
 a0:0≤p.1
 ab:p.1≤p.2
 b1:p.2 < L
 fr:∀ y,p.1≤y->y≤p.2->wG q L y
theorem zN {p:Int×Int} (hp:p∈qb (eV q L)) (h:p.1+1 < p.2):Run q L (p.1+1,p.2 - 1):=by
 obtain ⟨h1,h2,h3,h4⟩:=zL (zM q L) p hp
 have ge:∀ y∈eV q L,-1≤y∧y≤L:=fun y hy=>by
  rcases wF.mp hy with e | ⟨i,h1,h2,e⟩ | e <;> lia
 have g2:=ge _ h2
 have g3:=ge _ h3
 refine ⟨by show 0≤p.1+1;lia,by show p.1+1≤p.2 - 1;lia,by show p.2 - 1 < L;lia,fun y y1 y2=>?_⟩
 have y1:p.1+1≤y:=y1
 have y2:y≤p.2 - 1:=y2
 refine ⟨by lia,by lia,?_⟩
 cases e:q y.toNat with
 | false=>rfl
 | true =>
  have:=h4 y (wF.mpr (.inr (.inl ⟨y.toNat,by lia,e,by lia⟩)))
  lia
theorem wG.run (f:wG q L x):Run q L (pN q L x)∧(pN q L x).1≤x∧x≤(pN q L x).2∧pN q L x∈pL q L:=by
 obtain ⟨p,h1,h2,h3,e⟩:=f.gap
 rw [e]
 refine ⟨zN h1 (by lia),by show p.1+1≤x;lia,by show x≤p.2 - 1;lia,?_⟩
 exact Zae.mpr ⟨p,Zaq.mpr ⟨h1,by simp only [decide_eq_true_eq];lia⟩,rfl⟩
theorem CW {p r:Int×Int} (hp:p∈qb (eV q L)) (hr:r∈qb (eV q L)) (h1:p.1 < x) (h2:x < p.2) (h3:r.1 < y) (h4:y < r.2) (hf:∀ z,(x≤z∧z≤y)∨(y≤z∧z≤x)->wG q L z):p=r:=by
 obtain ⟨_,a2,a3,a4⟩:=zL (zM q L) p hp
 obtain ⟨_,b2,b3,b4⟩:=zL (zM q L) r hr
 have no:∀ z∈eV q L,¬((x≤z∧z≤y)∨(y≤z∧z≤x)):=fun z hz h=>(hf z h).Qh hz
 have c1:=no _ a2
 have c2:=no _ a3
 have c3:=no _ b2
 have c4:=no _ b3
 have d1:=b4 _ a2
 have d2:=b4 _ a3
 have d3:=a4 _ b2
 have d4:=a4 _ b3
 exact Prod.ext (by omega) (by omega)
theorem RN {p:Int×Int} (hp:p∈pL q L) (h1:p.1≤x) (h2:x≤p.2):pN q L x=p:=by
 obtain ⟨r,hr,rfl⟩:=Zae.mp hp
 obtain ⟨hr,hd⟩:=Zaq.mp hr
 simp only [decide_eq_true_eq] at hd
 have h1:r.1+1≤x:=h1
 have h2:x≤r.2 - 1:=h2
 have f:wG q L x:=(zN hr hd).fr x h1 h2
 obtain ⟨p,k1,k2,k3,e⟩:=f.gap
 rw [e,CW k1 hr k2 k3 (by lia:r.1 < x) (by lia) fun z hz=>by
  have:z=x:=by lia
  rw [this];exact f]
theorem Ox {p:Int×Int} (hp:p∈pL q L):Run q L p:=by
 obtain ⟨r,hr,rfl⟩:=Zae.mp hp
 obtain ⟨hr,hd⟩:=Zaq.mp hr
 simp only [decide_eq_true_eq] at hd
 exact zN hr hd
theorem Ld (hf:∀ z,(x≤z∧z≤y)∨(y≤z∧z≤x)->wG q L z):pN q L x=pN q L y:=by
 obtain ⟨p,k1,k2,k3,e⟩:=(hf x (by lia)).gap
 obtain ⟨r,l1,l2,l3,e'⟩:=(hf y (by lia)).gap
 rw [e,e',CW k1 l1 k2 k3 l2 l3 hf]
end
noncomputable def jU (w h:Int) (row:Bool):Nat:=(if row then w else h).toNat
noncomputable def qOn (w:Int) (keep:Nat) (row:Bool) (l:Int):Nat->Bool:=fun x=>keep.testBit (Mth.pl w.toNat (cJ row l (x:Int)))
theorem Le {l m:List Int}:Er (l.map PV.int) (m.map PV.int)=(l.zip m).map fun p=>PV.tup [.int p.1,.int p.2]:=by
 unfold Er
 rw [List.zip_map,List.map_map]
 rfl
theorem wI {row:Bool}{l t:Int} (t0:0≤t):tM ((gD row l 0 t).map cellP)=(List.range (t+1).toNat).map fun (i:Nat)=>PV.tup [.int (i:Int),cellP (cJ row l (i:Int))]:=by
 unfold gD tM
 apply Zbk
 intro i
 rw [List.getElem?_mapIdx,List.getElem?_map,List.getElem?_map,List.getElem?_map]
 rw [show t+1 - 0=t+1 by omega]
 by_cases hi:i < (t+1).toNat
 ·rw [Zba hi]
  simp
 ·rw [ZaF (by simpa using hi)];rfl
theorem Lf (ns:List Int) (h:ns≠[]):Eg (ns.map PV.int) (some 1) none=ns.tail.map PV.int:=by
 cases ns with
 | nil=>exact absurd rfl h
 | cons n ns =>
  unfold Eg
  have e1:HT.sIx ((n::ns).map PV.int).length 0 (some 1)=1:=by
   unfold HT.sIx
   simp
  have e2:HT.sIx ((n::ns).map PV.int).length ((n::ns).map PV.int).length none=ns.length+1:=by
   unfold HT.sIx
   simp
  rw [e1,e2]
  show ((ns.map PV.int).take (ns.length+1 - 1))=_
  rw [Nat.add_sub_cancel,ZaO (by simp)]
  rfl
theorem CZ {w h:Int} (sz:Sz w h) (keep:Nat) {row:Bool}{l:Int} (l0:0≤l) (l1:l < if row then h else w) :
  eE [.tup [.int w,.int h],.int keep,.str (j7 row),.int l]=some (.ok (.lst ((pL (qOn w keep row l) (jU w h row)).map fun p=>CG row l p.1 p.2))):=by
 have w0:=sz.w0
 have w1:=sz.w1
 have h0:=sz.h0
 have h1:=sz.h1
 obtain ⟨L,eL,L0,L1⟩:∃ L:Int,(if row then w else h)=L∧1≤L∧L≤24:=⟨_,rfl,by split <;> lia,by split <;> lia⟩
 have eN:jU w h row=L.toNat:=by unfold jU;rw [eL]
 have kl:(eV (qOn w keep row l) L.toNat).length≤100:=by
  unfold eV
  simp only [ZaC,List.length_append,List.length_map,List.length_nil]
  have:=ZaR (qOn w keep row l) (List.range L.toNat)
  rw [List.length_range] at this
  lia
 refine uz (x:=d9 (startR [.tup [.int w,.int h],.int keep,.str (j7 row),.int l] 3)) ?_
 unfold d9
 rw [show startR [.tup [.int w,.int h],.int keep,.str (j7 row),.int l] 3=[some (.sh (.tup [.int w,.int h])),some (.sh (.int keep)),some (.sh (.str (j7 row))),some (.sh (.int l)),none,none,none] from rfl]
 walk_at "rd"
 rw [Io,eL]
 walk_at "rd"
 rw [show PV.tup [.str (j7 row),.int l,.int 0,.int (L - 1)]=CG row l 0 (L - 1) from rfl,ye (by lia) (by lia) (by lia)]
 walk_at "rd"
 have eLN:(L - 1+1).toNat=L.toNat:=by congr 1;lia
 have le:(tM ((gD row l 0 (L - 1)).map cellP)).length≤100:=by
  rw [wI (by lia)]
  simp only [List.length_map,List.length_range]
  lia
 have big:∀ {k:Nat},k≤9000->k≤sizeLine:=fun h=>ZaG (wz (by lia))
 refine ⟨by decide,by decide,big (by lia),?_⟩
 rw [wI (by lia),eLN,jA (fun (i:Nat)=>PV.tup [.int (i:Int),cellP (cJ row l (i:Int))]) (qOn w keep row l) (fun (i:Nat)=>PV.int (i:Int)) (List.range L.toNat) fun i hi=>?a,tv_some]
 case a =>
  have hi:i < L.toNat:=Zau.mp hi
  have cl:Cell w h (cJ row l (i:Int)).1 (cJ row l (i:Int)).2:=by
   unfold cJ
   cases row with
   | true=>exact ⟨by show (0:Int)≤i;lia,by have:(if true then w else h)=L:=eL;rw [if_pos rfl] at this;show (i:Int) < w;lia,l0,by simpa using l1⟩
   | false=>exact ⟨l0,by simpa using l1,by show (0:Int)≤i;lia,by have:(if false then w else h)=L:=eL;rw [if_neg (by decide)] at this;show (i:Int) < h;lia⟩
  refine ⟨_,rfl,jN ?_,fun _=>rfl⟩
  walk_at "rd"
  rw [K5 sz cl]
  walk_at "rd"
  rfl
 have ek:PV.int (-1)::(((List.range L.toNat).filter (qOn w keep row l)).map (fun (i:Nat)=>PV.int (i:Int))++[PV.int (L - 1+1)])=(eV (qOn w keep row l) L.toNat).map PV.int:=by
  unfold eV
  rw [Zak,Za1,List.map_map,show L - 1+1=((L.toNat:Nat):Int) by lia]
  rfl
 have lf:((List.range L.toNat).filter (qOn w keep row l)).length≤L.toNat:=by
  have:=ZaR (qOn w keep row l) (List.range L.toNat)
  rwa [List.length_range] at this
 rw [ek]
 have ec:Eg ((eV (qOn w keep row l) L.toNat).map PV.int) (some 1) none=(eV (qOn w keep row l) L.toNat).tail.map PV.int:=by
  exact Lf _ (by unfold eV;simp)
 rw [ec,Le]
 refine ⟨by rw [List.length_map];exact big (by lia),by decide,by rw [List.length_map];exact big (by lia),?_,?_⟩
 ·rw [List.length_map]
  refine big ?_
  rw [List.length_zip]
  lia
 rw [jA (fun p:Int×Int=>PV.tup [.int p.1,.int p.2]) (fun p=>decide (p.1+1 < p.2)) (fun p=>CG row l (p.1+1) (p.2 - 1)) _ fun p _=>⟨_,rfl,jN ?b,fun _=>jN ?c⟩,tv_some]
 case b=>walk_at "rd"
 case c =>
  walk_at "rd"
  exact ⟨by decide,rfl⟩
 rw [eN]
 unfold pL qb
 rw [List.map_map]
 rfl
noncomputable def lnOf (row:Bool) (c:Int×Int):Int:=if row then c.2 else c.1
noncomputable def jG (row:Bool) (c:Int×Int):Int:=if row then c.1 else c.2
noncomputable def runC (w h:Int) (keep:Nat) (row:Bool) (c:Int×Int):Int×Int:=pN (qOn w keep row (lnOf row c)) (jU w h row) (jG row c)
noncomputable def stS (w h:Int) (keep:Nat) (row:Bool) (c:Int×Int):Sk:=(j7 row,[lnOf row c,(runC w h keep row c).1,(runC w h keep row c).2])
noncomputable def ckK (c:Int×Int):List Key:=[.inl c.1,.inl c.2]
theorem Lg (row:Bool) (l x:Int):lnOf row (cJ row l x)=l:=by cases row <;> rfl
theorem GQ (row:Bool) (l x:Int):jG row (cJ row l x)=x:=by cases row <;> rfl
theorem Qi (row:Bool) (c:Int×Int):cJ row (lnOf row c) (jG row c)=c:=by cases row <;> rfl
theorem Oz {c d:Int×Int} (e:ckK c=ckK d):c=d:=by
 unfold ckK at e
 rw [Zbo,Zbo] at e
 exact Prod.ext (Sum.inl.inj e.1) (Sum.inl.inj e.2.1)
noncomputable def Kn (w h:Int) (keep:Nat) (row:Bool) (d:List (List Key×PV)) (c:Int×Int):Prop:=dw d (ckK c)=some (skP (stS w h keep row c))
theorem Kn.put {w h:Int}{keep:Nat}{row:Bool}{d:List (List Key×PV)}{c:Int×Int} (k:Int×Int) (h':Kn w h keep row d c):Kn w h keep row (iH d (ckK k) (skP (stS w h keep row k))) c:=by
 unfold Kn
 rw [vR]
 by_cases e:ckK c=ckK k
 ·rw [if_pos e,Oz e]
 ·rw [if_neg e];exact h'
theorem Kn.new {w h:Int}{keep:Nat}{row:Bool}{d:List (List Key×PV)} (k:Int×Int):Kn w h keep row (iH d (ckK k) (skP (stS w h keep row k))) k:=by
 unfold Kn
 rw [vR,if_pos rfl]
theorem uC {w h:Int}{keep:Nat}{row:Bool}{c:Int×Int} (cl:Cell w h c.1 c.2) (no:keep.testBit (Mth.pl w.toNat c)=false):wG (qOn w keep row (lnOf row c)) (jU w h row) (jG row c):=by
 have c0:=cl.c0
 have c1:=cl.c1
 have r0:=cl.r0
 have r1:=cl.r1
 unfold jU
 cases row with
 | true =>
  refine ⟨c0,by show c.1 < _;simp;lia,?_⟩
  show keep.testBit (Mth.pl w.toNat (((c.1.toNat:Nat):Int),c.2))=false
  rw [Za9 c0];exact no
 | false =>
  refine ⟨r0,by show c.2 < _;simp;lia,?_⟩
  show keep.testBit (Mth.pl w.toNat (c.1,((c.2.toNat:Nat):Int)))=false
  rw [Za9 r0];exact no
theorem ln0 {w h:Int}{c:Int×Int} (cl:Cell w h c.1 c.2) (row:Bool):0≤lnOf row c:=by
 cases row
 ·exact cl.c0
 ·exact cl.r0
theorem Lh {w h:Int} (sz:Sz w h) (keep:Nat) (row:Bool):∃ d,cH [.tup [.int w,.int h],.int keep,.str (j7 row)]=some (.ok (.dt d))∧∀ c:Int×Int,Cell w h c.1 c.2->keep.testBit (Mth.pl w.toNat c)=false->Kn w h keep row d c:=by
 have w0:=sz.w0
 have w1:=sz.w1
 have h0:=sz.h0
 have h1:=sz.h1
 obtain ⟨n,en,n1,n2⟩:∃ n:Int,(if row then h else w)=n∧1≤n∧n≤24:=⟨_,rfl,by split <;> lia,by split <;> lia⟩
 have L24:jU w h row≤24:=by unfold jU;split <;> lia
 suffices hh:∃ p,cH [.tup [.int w,.int h],.int keep,.str (j7 row)]=some (.ok p)∧∃ d,p=.dt d∧∀ c:Int×Int,Cell w h c.1 c.2->keep.testBit (Mth.pl w.toNat c)=false->Kn w h keep row d c by
  obtain ⟨p,e,d,rfl,q⟩:=hh
  exact ⟨d,e,q⟩
 refine zr ?_
 unfold gB
 rw [show startR [.tup [.int w,.int h],.int keep,.str (j7 row)] 4=[some (.sh (.tup [.int w,.int h])),some (.sh (.int keep)),some (.sh (.str (j7 row))),none,none,none,none] from rfl]
 walk_at "rd"
 rw [K6,en]
 walk_at "rd"
 refine ⟨by lia,by lia,?_⟩
 refine dX (I:=fun i ρ=>∃ (d:List (List Key×PV)) (v4 v5 v6:Option Sl),ρ=[some (.sh (.tup [.int w,.int h])),some (.sh (.int keep)),some (.sh (.str (j7 row))),some (.ow (.dt d)),v4,v5,v6]∧d.length≤i * 700∧∀ c:Int×Int,Cell w h c.1 c.2->keep.testBit (Mth.pl w.toNat c)=false->lnOf row c < i->Kn w h keep row d c)
  ⟨[],none,none,none,rfl,ZaZ _,fun c cl _ hl=>absurd hl (by have:=ln0 cl row;lia)⟩ ?_ ?_
 case refine_2 =>
  rintro ρ ⟨d,v4,v5,v6,rfl,_,hd⟩
  walk_at "rd"
  unfold jd
  walk_at "rd"
  refine ⟨d,rfl,fun c cl no=>hd c cl no ?_⟩
  rw [dJ]
  have:lnOf row c < n:=by rw [←en];unfold lnOf;cases row;exact cl.c1;exact cl.r1
  lia
 rintro i x ρ hx ⟨d,v4,v5,v6,rfl,dl,hd⟩
 refine vO fun QS hQ=>?_
 obtain ⟨hi,rfl⟩:=oO hx
 rw [Int.zero_add]
 unfold jc
 walk_at "rd"
 rw [CZ sz keep (by lia) (by rw [en];lia)]
 walk_at "rd"
 have rl:(pL (qOn w keep row (i:Int)) (jU w h row)).length≤26:=by
  unfold pL qb
  rw [List.length_map]
  refine Zaz (ZaR _ _) ?_
  rw [List.length_zip]
  refine Zaz (Nat.min_le_left _ _) ?_
  unfold eV
  have:=ZaR (qOn w keep row (i:Int)) (List.range (jU w h row))
  rw [List.length_range] at this
  simp only [ZaC,List.length_append,List.length_map,List.length_nil]
  lia
 refine dX (I:=fun j ρ=>∃ (d:List (List Key×PV)) (v5 v6:Option Sl),ρ=[some (.sh (.tup [.int w,.int h])),some (.sh (.int keep)),some (.sh (.str (j7 row))),some (.ow (.dt d)),some (.sh (.int (i:Int))),v5,v6]∧d.length≤i * 700+j * 25∧(∀ c:Int×Int,Cell w h c.1 c.2->keep.testBit (Mth.pl w.toNat c)=false->lnOf row c < i->Kn w h keep row d c)∧∀ (m:Nat) p (y:Int),m < j->(pL (qOn w keep row (i:Int)) (jU w h row))[m]?=some p->p.1≤y->y≤p.2->Kn w h keep row d (cJ row i y))
  ⟨d,v5,v6,rfl,by lia,hd,fun m p y hm=>absurd hm (Nat.not_lt_zero _)⟩ ?_ ?_
 case refine_2 =>
  rintro ρ ⟨d,v5,v6,rfl,dl,hd,hr⟩
  rw [List.length_map] at dl hr
  refine hQ _ ⟨d,_,v5,v6,rfl,by lia,fun c cl no hl=>?_⟩
  by_cases e:lnOf row c < i
  ·exact hd c cl no e
  ·have e:lnOf row c=i:=by lia
   have fr:=uC (row:=row) cl no
   obtain ⟨_,f1,f2,f3⟩:=fr.run
   obtain ⟨m,hm⟩:=Zbi f3
   rw [e] at hm f1 f2
   have:=hr m _ (jG row c) (Zab.mp hm).1 hm f1 f2
   rw [←e,Qi] at this
   exact this
 clear hQ
 rintro j x ρ hx ⟨d,v5,v6,rfl,dl,hd,hr⟩
 refine vO fun QS hQ=>?_
 rw [List.getElem?_map] at hx
 cases ep:(pL (qOn w keep row (i:Int)) (jU w h row))[j]? with
 | none=>rw [ep] at hx;cases hx
 | some p =>
  rw [ep] at hx
  cases hx
  have hp:=Zaf ep
  have pr:=Ox hp
  have jl:j < 26:=by have:=(Zab.mp ep).1;lia
  have a0:=pr.a0
  have ab:=pr.ab
  have b1:=pr.b1
  unfold jb
  walk_at "rd"
  rw [ye a0 ab (by lia)]
  walk_at "rd"
  refine dX (I:=fun k ρ=>∃ (d:List (List Key×PV)) (v6:Option Sl),ρ=[some (.sh (.tup [.int w,.int h])),some (.sh (.int keep)),some (.sh (.str (j7 row))),some (.ow (.dt d)),some (.sh (.int (i:Int))),some (.sh (CG row i p.1 p.2)),v6]∧d.length≤i * 700+j * 25+k∧(∀ c:Int×Int,Cell w h c.1 c.2->keep.testBit (Mth.pl w.toNat c)=false->lnOf row c < i->Kn w h keep row d c)∧(∀ (m:Nat) p (y:Int),m < j->(pL (qOn w keep row (i:Int)) (jU w h row))[m]?=some p->p.1≤y->y≤p.2->Kn w h keep row d (cJ row i y))∧∀ y:Int,p.1≤y->y < p.1+k->Kn w h keep row d (cJ row i y))
   ⟨d,v6,rfl,by lia,hd,hr,fun y h1 h2=>by lia⟩ ?_ ?_
  case refine_2 =>
   rintro ρ ⟨d,v6,rfl,dl,hd,hr,hk⟩
   have lc:((gD row (i:Int) p.1 p.2).map cellP).length=(p.2+1 - p.1).toNat:=by unfold gD;simp
   rw [lc] at dl hk
   refine hQ _ ⟨d,_,v6,rfl,by lia,hd,fun m p' y hm e h1 h2=>?_⟩
   by_cases e':m=j
   ·subst e'
    rw [ep] at e;cases e
    exact hk y h1 (by lia)
   ·exact hr m p' y (by lia) e h1 h2
  clear hQ
  rintro k x ρ hx ⟨d,v6,rfl,dl,hd,hr,hk⟩
  refine vO fun QS hQ=>?_
  rw [List.getElem?_map] at hx
  cases ec:(gD row (i:Int) p.1 p.2)[k]? with
  | none=>rw [ec] at hx;cases hx
  | some c =>
   rw [ec] at hx
   cases hx
   have kl:k < (p.2+1 - p.1).toNat:=by have:=(Zab.mp ec).1;simpa [gD] using this
   have hc:c=cJ row i (p.1+(k:Int)):=by
    unfold gD at ec
    rw [List.getElem?_map,Zba kl] at ec
    exact (Zaa ec).symm
   have es:CG row (i:Int) p.1 p.2=skP (stS w h keep row c):=by
    have:=RN hp (x:=p.1+(k:Int)) (by lia) (by lia)
    unfold stS runC
    rw [hc,Lg,GQ,this]
    rfl
   unfold iZ
   walk_at "rd"
   refine ⟨.dt (iH d (ckK c) (skP (stS w h keep row c))),?_,hQ _ ⟨_,_,rfl,?_,fun c' cl no hl=>(hd c' cl no hl).put c,fun m p' y hm e h1 h2=>(hr m p' y hm e h1 h2).put c,fun y h1 h2=>?_⟩⟩
   ·rw [es]
    show (if d.length < sizeLine then some (PV.dt (iH d (ckK c) (skP (stS w h keep row c)))) else none)=_
    exact if_pos (wz (by lia))
   ·have:=Cy (ckK c) (skP (stS w h keep row c)) d
    lia
   ·by_cases e:y < p.1+(k:Int)
    ·exact (hk y h1 e).put c
    ·have:y=p.1+(k:Int):=by lia
     rw [this,←hc]
     exact Kn.new c
noncomputable def jH (l:List Sk) (s:Sk):List Sk:=if s∈l then l else l++[s]
noncomputable def ddp (xs:List Sk):List Sk:=xs.foldl jH []
theorem Li (xs:List Sk) (s:Sk):ddp (xs++[s])=jH (ddp xs) s:=by
 unfold ddp;rw [List.foldl_append];rfl
theorem zO:∀ (xs acc:List Sk),acc.Nodup->(xs.foldl jH acc).Nodup∧(∀ s,s∈xs.foldl jH acc↔s∈acc∨s∈xs)∧(xs.foldl jH acc).length≤acc.length+xs.length
 | [],acc,nd=>⟨nd,fun s=>by simp,by simp⟩
 | x::xs,acc,nd=>by
  have nd2:(jH acc x).Nodup:=by
   unfold jH
   split
   ·exact nd
   ·rename_i h
    rw [Zbm]
    exact ⟨nd,by simp,fun a ha b hb e=>by simp at hb;subst hb;subst e;exact h ha⟩
  have mem:∀ s,s∈jH acc x↔s∈acc∨s=x:=fun s=>by
   unfold jH
   split
   ·rename_i h
    exact ⟨.inl,fun q=>q.elim id fun e=>by rw [e];exact h⟩
   ·rw [Zad,ZaE]
  have len:(jH acc x).length≤acc.length+1:=by unfold jH;split <;> simp
  obtain ⟨h1,h2,h3⟩:=zO xs (jH acc x) nd2
  refine ⟨h1,fun s=>?_,?_⟩
  ·show s∈xs.foldl jH (jH acc x)↔_
   rw [h2,mem,Zas,or_assoc]
  ·show (xs.foldl jH (jH acc x)).length≤_
   rw [ZaC];lia
theorem Lj (xs:List Sk):(ddp xs).Nodup:=(zO xs [] List.nodup_nil).1
theorem fH {xs:List Sk}{s:Sk}:s∈ddp xs↔s∈xs:=by have:=(zO xs [] List.nodup_nil).2.1 s;simpa [ddp] using this
theorem zP (xs:List Sk):(ddp xs).length≤xs.length:=by have:=(zO xs [] List.nodup_nil).2.2;simpa [ddp] using this
theorem Dc {f:Sk->PV}{s:Sk}:∀ {ks:List Sk},dw (ks.map fun t=>(skK t,f t)) (skK s)=if s∈ks then some (f s) else none
 | []=>rfl
 | t::ks=>by
  rw [Zak]
  unfold dw
  by_cases e:t=s
  ·subst e;rw [if_pos rfl,if_pos List.mem_cons_self]
  ·rw [if_neg (fun z=>e (uB z)),Dc]
   by_cases h:s∈ks
   ·rw [if_pos h,if_pos (List.mem_cons_of_mem _ h)]
   ·rw [if_neg h,if_neg (fun z=>h ((Zas.mp z).resolve_left (Za8 e)))]
theorem GR {f:Sk->PV}{s:Sk}{p:PV}:∀ {ks:List Sk},ks.Nodup->bR (ks.map fun t=>(skK t,f t)) (skK s) p=(jH ks s).map fun t=>(skK t,if t=s then p else f t)
 | [],_=>by simp [bR,jH]
 | t::ks,nd=>by
  rw [Zbe] at nd
  have ih:=GR (f:=f) (s:=s) (p:=p) nd.2
  rw [Zak]
  unfold bR
  by_cases e:t=s
  ·subst e
   rw [if_pos rfl,show jH (t::ks) t=t::ks from if_pos List.mem_cons_self,Zak,if_pos rfl]
   congr 1
   exact ZaU fun u hu=>by rw [if_neg (fun z=>nd.1 (by rw [←z];exact hu))]
  ·rw [if_neg (fun z=>e (uB z)),ih]
   have:jH (t::ks) s=t::jH ks s:=by
    unfold jH
    by_cases h:s∈ks
    ·rw [if_pos h,if_pos (List.mem_cons_of_mem _ h)]
    ·rw [if_neg h,if_neg (fun z=>h ((Zas.mp z).resolve_left (Za8 e)))];rfl
   rw [this,Zak,if_neg e]
noncomputable def jB (r c:Int×Int->Sk) (cs:List (Int×Int)) (s:Sk):List PV:=(cs.filter fun x=>decide (r x=s)).map fun x=>skP (c x)
noncomputable def jC (r c:Int×Int->Sk) (cs:List (Int×Int)):List (List Key×PV):=(ddp (cs.map r)).map fun s=>(skK s,.lst (jB r c cs s))
theorem De {r c:Int×Int->Sk}{cs:List (Int×Int)}{s:Sk} (h:s ∉ ddp (cs.map r)):jB r c cs s=[]:=by
 unfold jB
 rw [List.filter_eq_nil_iff.mpr fun x hx=>?_]
 ·rfl
 ·simp only [decide_eq_true_eq]
  exact fun e=>h (fH.mpr (Zae.mpr ⟨x,hx,e⟩))
theorem Ir {r c:Int×Int->Sk}{cs:List (Int×Int)}{s:Sk}:(dw (jC r c cs) (skK s)).getD (.lst [])=.lst (jB r c cs s):=by
 unfold jC
 rw [Dc (f:=fun s=>.lst (jB r c cs s))]
 by_cases h:s∈ddp (cs.map r)
 ·rw [if_pos h];rfl
 ·rw [if_neg h,De h];rfl
theorem Fd {r c:Int×Int->Sk}{cs:List (Int×Int)}{x:Int×Int}:bR (jC r c cs) (skK (r x)) (.lst (jB r c cs (r x)++[skP (c x)]))=jC r c (cs++[x]):=by
 unfold jC
 rw [GR (f:=fun s=>.lst (jB r c cs s)) (Lj _),Za1,Zak,List.map_nil,Li]
 refine ZaU fun t _=>?_
 congr 1
 unfold jB
 rw [List.filter_append,Za1]
 by_cases e:t=r x
 ·rw [if_pos e,e]
  simp
 ·rw [if_neg e]
  rw [show List.filter (fun x=>decide (r x=t)) [x]=[] by simp [Za8 e]]
  simp
theorem Iu {i:Nat}{fk fe:Fn PV}{ρ:Rho}{l:List (List Key×PV)}{s:Sk}{row:List PV}{q:PV}{QS:Out->Prop} (hl:ρ[i]?=some (some (.dp (.dt l)))) (len:l.length < sizeLine) (hk:fk ρ=some (.ok (skP s))) (hr:(dw l (skK s)).getD (.lst [])=.lst row)
  (he:fe (ρ.set i (some (.dp (.dt (bR l (skK s) (.lst row))))))=some (.ok q)) (st:q.still=true) (rl:row.length < sizeLine) (hq:QS (.nx (ρ.set i (some (.dp (.dt (bR l (skK s) (.lst (row++[q])))))))))
  : To (qY i fk fe ρ) QS:=by
 refine ⟨.nx _,?_,trivial,hq⟩
 unfold qY
 rw [show yV i ρ=some (.dt l) by unfold yV;rw [hl]]
 simp only [if_pos len,hk,gW]
 show (match eO (.str s.1::s.2.map PV.int) with
   | some k=>_
   | none=>_)=_
 rw [sS]
 simp only [hr,he,gW]
 rw [if_pos ⟨st,rl⟩]
noncomputable abbrev bT (w h:Int) (away:Nat):List (Int×Int):=Mth.pick w.toNat (w.toNat * h.toNat) fun i=>away.testBit i
theorem jD {w h:Int}{away:Nat}{c:Int×Int} (hc:c∈bT w h away):Cell w h c.1 c.2∧away.testBit (Mth.pl w.toNat c)=true:=by
 unfold bT Mth.pick at hc
 obtain ⟨i,hi,rfl⟩:=Zae.mp hc
 obtain ⟨h1,h2⟩:=Zaq.mp hi
 exact ⟨Cell.of (Mth.rR (Zau.mp h1)),by rw [Mth.rQ];exact h2⟩
theorem Lk {w h:Int} (sz:Sz w h) (away keep:Nat) (dis:∀ c∈bT w h away,keep.testBit (Mth.pl w.toNat c)=false) :
  iK [.tup [.int w,.int h],.int away,.int keep]=some (.ok (.dt (jC (stS w h keep true) (stS w h keep false) (bT w h away)))):=by
 obtain ⟨d1,e1,k1⟩:=Lh sz keep true
 obtain ⟨d2,e2,k2⟩:=Lh sz keep false
 have hn:=sz.nat
 have ln:(bT w h away).length≤576:=Zaz (Mth.j9 _ _ _) hn.2
 suffices hh:∃ p,iK [.tup [.int w,.int h],.int away,.int keep]=some (.ok p)∧p=.dt (jC (stS w h keep true) (stS w h keep false) (bT w h away)) by
  obtain ⟨p,e,rfl⟩:=hh;exact e
 refine Gu ?_
 unfold nH
 rw [show startR [.tup [.int w,.int h],.int away,.int keep] 4=[some (.sh (.tup [.int w,.int h])),some (.sh (.int away)),some (.sh (.int keep)),none,none,none,none] from rfl]
 walk_at "rd"
 rw [show PV.str "row"=.str (j7 true) from rfl,e1]
 walk_at "rd"
 rw [show PV.str "column"=.str (j7 false) from rfl,e2]
 walk_at "rd"
 refine ⟨.dt [],rfl,?_⟩
 rw [nY sz away]
 walk_at "rd"
 refine dX (I:=fun i ρ=>∃ v6:Option Sl,ρ=[some (.sh (.tup [.int w,.int h])),some (.sh (.int away)),some (.sh (.int keep)),some (.sh (.dt d1)),some (.sh (.dt d2)),some (.dp (.dt (jC (stS w h keep true) (stS w h keep false) ((bT w h away).take i)))),v6]) ⟨none,rfl⟩ ?_ ?_
 case refine_2 =>
  rintro ρ ⟨v6,rfl⟩
  walk_at "rd"
  unfold pD
  walk_at "rd"
  rw [List.length_map,List.take_length]
 rintro i x ρ hx ⟨v6,rfl⟩
 rw [List.getElem?_map] at hx
 cases ec:(bT w h away)[i]? with
 | none=>rw [ec] at hx;cases hx
 | some c =>
  rw [ec] at hx
  cases hx
  have hc:=Zaf ec
  obtain ⟨cl,_⟩:=jD hc
  have no:=dis c hc
  have il:i < (bT w h away).length:=(Zab.mp ec).1
  have tl:((bT w h away).take i).length≤576:=by rw [List.length_take];lia
  have f1:fK (.dt d1) (cellP c)=some (some (skP (stS w h keep true c))):=congrArg some (k1 c cl no)
  have f2:fK (.dt d2) (cellP c)=some (some (skP (stS w h keep false c))):=congrArg some (k2 c cl no)
  unfold pC
  refine Iu (s:=stS w h keep true c) (row:=jB (stS w h keep true) (stS w h keep false) ((bT w h away).take i) (stS w h keep true c)) (q:=skP (stS w h keep false c)) rfl (wz ?_) (jN ?_) Ir (jN ?_) (wA _) (wz ?_) ?_
  ·unfold jC
   rw [List.length_map]
   have:=zP (((bT w h away).take i).map (stS w h keep true))
   rw [List.length_map] at this
   lia
  ·walk_at "rd"
   exact ⟨_,f1,rfl⟩
  ·walk_at "rd"
   exact ⟨_,f2,rfl⟩
  ·unfold jB
   rw [List.length_map]
   have:=ZaR (fun x=>decide (stS w h keep true x=stS w h keep true c)) ((bT w h away).take i)
   lia
  ·rw [Fd,←take_snoc ec]
   exact ⟨_,rfl⟩
theorem sub_len {α:Type} [DecidableEq α]:∀ {l k:List α},l.Nodup->(∀ x∈l,x∈k)->l.length≤k.length
 | [],k,_,_=>ZaZ _
 | a::l,k,nd,h=>by
  have ha:a∈k:=h a List.mem_cons_self
  have nd':=Zbe.mp nd
  have:=sub_len (l:=l) (k:=k.erase a) nd'.2 fun x hx=>(List.mem_erase_of_ne (fun e:x=a=>nd'.1 (by rw [←e];exact hx))).mpr (h x (List.mem_cons_of_mem _ hx))
  rw [List.length_erase_of_mem ha] at this
  have:0 < k.length:=List.length_pos_of_mem ha
  simp only [ZaC];lia
structure KOk (ks:List Sk):Prop where
 nd:ks.Nodup
 ln:∀ s∈ks,s.2.length=3
 tx:∀ s∈ks,s.1≠("":Str)
noncomputable def eY (ks:List Sk) (i:Nat):Sk:=if i < ks.length then ks.getD i default else (("":Str),[(i:Int),0,0])
section
variable {ks:List Sk}
theorem mF {i:Nat} (h:i < ks.length):eY ks i∈ks:=by
 unfold eY;rw [if_pos h,List.getD_eq_getElem?_getD,List.getElem?_eq_getElem h];exact List.getElem_mem h
theorem zQ {i:Nat} (h:i < ks.length):ks[i]?=some (eY ks i):=by
 unfold eY;rw [if_pos h,List.getD_eq_getElem?_getD,List.getElem?_eq_getElem h];rfl
theorem KOk.inj (k:KOk ks) (i j:Nat) (e:eY ks i=eY ks j):i=j:=by
 by_cases hi:i < ks.length
 ·by_cases hj:j < ks.length
  ·exact (List.getElem?_inj hi k.nd).mp (by rw [zQ hi,zQ hj,e])
  ·have:=k.tx _ (mF hi)
   rw [e] at this
   unfold eY at this
   rw [if_neg hj] at this
   exact absurd rfl this
 ·by_cases hj:j < ks.length
  ·have:=k.tx _ (mF hj)
   rw [←e] at this
   unfold eY at this
   rw [if_neg hi] at this
   exact absurd rfl this
  ·unfold eY at e
   rw [if_neg hi,if_neg hj] at e
   have e:=(Prod.mk.inj e).2
   rw [Zbo] at e
   omega
theorem KOk.l3 (k:KOk ks) (i:Nat):(eY ks i).2.length=3:=by
 by_cases hi:i < ks.length
 ·exact k.ln _ (mF hi)
 ·unfold eY;rw [if_neg hi];rfl
noncomputable def Df (ks:List Sk) (s:Sk):Nat:=ks.findIdx fun t=>decide (t=s)
theorem sV {s:Sk} (h:s∈ks):Df ks s < ks.length∧eY ks (Df ks s)=s:=by
 have hl:Df ks s < ks.length:=List.findIdx_lt_length_of_exists ⟨s,h,by simp⟩
 refine ⟨hl,?_⟩
 have:=List.findIdx_getElem (w:=hl)
 simp only [decide_eq_true_eq] at this
 unfold eY
 rw [if_pos hl,List.getD_eq_getElem?_getD,List.getElem?_eq_getElem hl]
 exact this
end
noncomputable def Gof {ks ls:List Sk} (h1:KOk ks) (h2:KOk ls):Gs:=⟨eY ks,eY ls,h1.inj,h2.inj,h1.l3,h2.l3⟩
noncomputable def Wof (r c:Int×Int->Sk) (cs:List (Int×Int)) (i:Nat):List Nat:=(cs.filter fun x=>decide (r x=eY (ddp (cs.map r)) i)).map fun x=>Df (ddp (cs.map c)) (c x)
section
variable {r c:Int×Int->Sk}{cs:List (Int×Int)}
theorem RP {i g:Nat} (h:g∈Wof r c cs i):g < (ddp (cs.map c)).length:=by
 obtain ⟨x,hx,rfl⟩:=Zae.mp h
 exact (sV (fH.mpr (Zae.mpr ⟨x,(Zaq.mp hx).1,rfl⟩))).1
theorem Dg {i g:Nat} (h:g∈Wof r c cs i):∃ x∈cs,r x=eY (ddp (cs.map r)) i∧c x=eY (ddp (cs.map c)) g:=by
 obtain ⟨x,hx,rfl⟩:=Zae.mp h
 have h1:=Zaq.mp hx
 exact ⟨x,h1.1,by simpa using h1.2,(sV (fH.mpr (Zae.mpr ⟨x,h1.1,rfl⟩))).2.symm⟩
theorem RQ {x:Int×Int} (h:x∈cs):Df (ddp (cs.map c)) (c x)∈Wof r c cs (Df (ddp (cs.map r)) (r x)):=by
 refine Zae.mpr ⟨x,Zaq.mpr ⟨h,?_⟩,rfl⟩
 simp only [decide_eq_true_eq]
 exact (sV (fH.mpr (Zae.mpr ⟨x,h,rfl⟩))).2.symm
theorem T8 (h1:KOk (ddp (cs.map r))) (h2:KOk (ddp (cs.map c))):PV.dt (jC r c cs)=wiP (Gof h1 h2) (ddp (cs.map r)).length (Wof r c cs):=by
 unfold wiP jC
 congr 1
 apply Zbk
 intro i
 rw [List.getElem?_map,List.getElem?_map]
 by_cases hi:i < (ddp (cs.map r)).length
 ·rw [Zba hi,zQ hi]
  show some (_,_)=some (_,_)
  congr 2
  show PV.lst _=PV.lst _
  congr 1
  unfold jB Gs.GL Wof
  rw [List.map_map]
  refine ZaU fun x hx=>?_
  show skP (c x)=skP (eY (ddp (cs.map c)) (Df (ddp (cs.map c)) (c x)))
  rw [(sV (fH.mpr (Zae.mpr ⟨x,(Zaq.mp hx).1,rfl⟩))).2]
 ·rw [ZaF (by simpa using hi),ZaF (by simpa using hi)];rfl
end
noncomputable abbrev StB:=Bool×Int×Int×Int
structure Cov (w h:Int) (away keep:Nat) (S:List StB):Prop where
 on:∀ s∈S,∀ x,s.2.2.1≤x->x≤s.2.2.2->Cell w h (cJ s.1 s.2.1 x).1 (cJ s.1 s.2.1 x).2∧keep.testBit (Mth.pl w.toNat (cJ s.1 s.2.1 x))=false
 all:∀ c:Int×Int,Cell w h c.1 c.2->away.testBit (Mth.pl w.toNat c)=true->∃ s∈S,lnOf s.1 c=s.2.1∧s.2.2.1≤jG s.1 c∧jG s.1 c≤s.2.2.2
theorem Ln {w h:Int}{keep:Nat}{row:Bool}{l f t:Int} (on:∀ x,f≤x->x≤t->Cell w h (cJ row l x).1 (cJ row l x).2∧keep.testBit (Mth.pl w.toNat (cJ row l x))=false) {c d:Int×Int}
  (c1:lnOf row c=l) (c2:f≤jG row c) (c3:jG row c≤t) (d1:lnOf row d=l) (d2:f≤jG row d) (d3:jG row d≤t):stS w h keep row c=stS w h keep row d:=by
 have e:runC w h keep row c=runC w h keep row d:=by
  unfold runC
  rw [c1,d1]
  refine Ld fun z hz=>?_
  obtain ⟨q1,q2⟩:=on z (by lia) (by lia)
  have:=uC (row:=row) q1 q2
  rw [Lg,GQ] at this
  exact this
 unfold stS
 rw [e,c1,d1]
theorem Lp {w h:Int}{keep:Nat}{row:Bool}{c:Int×Int} (cl:Cell w h c.1 c.2) (no:keep.testBit (Mth.pl w.toNat c)=false) {x:Int} (h1:(runC w h keep row c).1≤x) (h2:x≤(runC w h keep row c).2) :
  Cell w h (cJ row (lnOf row c) x).1 (cJ row (lnOf row c) x).2∧keep.testBit (Mth.pl w.toNat (cJ row (lnOf row c) x))=false:=by
 have fr:=((uC (row:=row) cl no).run).1.fr x h1 h2
 have x0:=fr.x0
 have x1:=fr.x1
 have nb:=fr.no
 unfold qOn at nb
 rw [Za9 x0] at nb
 refine ⟨?_,nb⟩
 unfold jU at x1
 cases row with
 | true=>exact ⟨x0,by have:x < ((if true=true then w else h).toNat:Int):=x1;rw [if_pos rfl] at this;have:=cl.c0;have:=cl.c1;show x < w;omega,cl.r0,cl.r1⟩
 | false=>exact ⟨cl.c0,cl.c1,x0,by have:x < ((if false=true then w else h).toNat:Int):=x1;rw [if_neg (by decide)] at this;have:=cl.r0;have:=cl.r1;show x < h;omega⟩
theorem OD {w h:Int}{away keep:Nat}{S:List StB} (cv:Cov w h away keep S) {A B:List (Nat×Nat)}{n:Nat} (P:Pm n (Wof (stS w h keep true) (stS w h keep false) (bT w h away)) A B)
  (h1:KOk (ddp ((bT w h away).map (stS w h keep true)))) (h2:KOk (ddp ((bT w h away).map (stS w h keep false)))):A.length≤S.length:=by
 have ex:∀ p∈A,∃ s∈S,∃ x:Int×Int,lnOf s.1 x=s.2.1∧s.2.2.1≤jG s.1 x∧jG s.1 x≤s.2.2.2∧stS w h keep true x=eY (ddp ((bT w h away).map (stS w h keep true))) p.1∧stS w h keep false x=eY (ddp ((bT w h away).map (stS w h keep false))) p.2:=fun p hp=>by
  obtain ⟨x,hx,e1,e2⟩:=Dg (P.ok (pK P.ndA (show (p.1,p.2)∈A from hp))).1
  obtain ⟨cl,aw⟩:=jD hx
  obtain ⟨s,hs,q1,q2,q3⟩:=cv.all x cl aw
  exact ⟨s,hs,x,q1,q2,q3,e1,e2⟩
 have nd:(A.map (·.1)).Nodup:=P.ndA
 have nd2:=P.Qg
 let f:Nat×Nat->StB:=fun p=>@dite _ (p∈A) (Classical.propDecidable _) (fun hp=>Classical.choose (ex p hp)) fun _=>(true,0,0,0)
 have fe:∀ p (hp:p∈A),f p=Classical.choose (ex p hp):=fun p hp=>@dif_pos _ (Classical.propDecidable _) hp _ _ _
 have inA:A.Nodup:=by
  have:=nd
  rw [List.Nodup,ZaY] at this
  exact this.imp fun hne e=>hne (by rw [e])
 have key:∀ p∈A,∀ q∈A,f p=f q->p=q:=fun p hp q hq e=>by
  obtain ⟨hs,x,x1,x2,x3,x4,x5⟩:=Zbt (ex p hp)
  obtain ⟨_,y,y1,y2,y3,y4,y5⟩:=Zbt (ex q hq)
  rw [←fe p hp] at hs x1 x2 x3
  rw [←fe q hq,←e] at y1 y2 y3
  have same:=Ln (keep:=keep) (cv.on _ hs) x1 x2 x3 y1 y2 y3
  have lp:=pK P.ndA (show (p.1,p.2)∈A from hp)
  have lq:=pK P.ndA (show (q.1,q.2)∈A from hq)
  cases er:(f p).1 with
  | true =>
   rw [er,x4,y4] at same
   have e1:=h1.inj _ _ same
   rw [e1,lq] at lp
   exact Prod.ext e1 (Zaa lp).symm
  | false =>
   rw [er,x5,y5] at same
   have e2:=h2.inj _ _ same
   have bp:=(P.iff _ _).mp lp
   have bq:=(P.iff _ _).mp lq
   rw [e2,bq] at bp
   exact Prod.ext (Zaa bp).symm e2
 have:=sub_len (l:=A.map f) (k:=S) (by
  rw [List.Nodup,ZaY]
  exact inA.imp_of_mem fun {p q} hp hq hne e=>hne (key p hp q hq e)) fun s hs=>by
  obtain ⟨p,hp,rfl⟩:=Zae.mp hs
  rw [fe p hp]
  exact (Zbt (ex p hp)).1
 simpa using this
theorem jV (a b:Nat):Builtin.bitAnd (a:Int) (b:Int)=((a &&& b:Nat):Int):=by
 rw [bitAnd_pp (Zbd _) (Zbd _),Zav,Zav]
noncomputable def toB (s:Sk):StB:=(decide (s.1=Str.ofString "row"),s.2.getD 0 0,s.2.getD 1 0,s.2.getD 2 0)
theorem zR (w h:Int) (keep:Nat) (row:Bool) (c:Int×Int):toB (stS w h keep row c)=(row,lnOf row c,(runC w h keep row c).1,(runC w h keep row c).2):=by
 unfold toB stS
 rw [Ot];rfl
theorem zT (w h:Int) (keep:Nat) (row:Bool) (cs:List (Int×Int)):KOk (ddp (cs.map (stS w h keep row))) where
 nd:=Lj _
 ln:=fun s hs=>by obtain ⟨x,_,rfl⟩:=Zae.mp (fH.mp hs);rfl
 tx:=fun s hs=>by
  obtain ⟨x,_,rfl⟩:=Zae.mp (fH.mp hs)
  cases row
  ·show Str.ofString "column"≠_;decide
  ·show Str.ofString "row"≠_;decide
section
variable {w h:Int}{away keep:Nat}{A B B':List (Nat×Nat)}{R:List Nat}{cb:List (Nat×Nat)}
noncomputable abbrev ksN (w h:Int) (away keep:Nat) (row:Bool):List Sk:=ddp ((bT w h away).map (stS w h keep row))
noncomputable abbrev WN (w h:Int) (away keep:Nat):Nat->List Nat:=Wof (stS w h keep true) (stS w h keep false) (bT w h away)
noncomputable def zU (w h:Int) (away keep:Nat) (R:List Nat) (cb:List (Nat×Nat)):List Sk:=((List.range (ksN w h away keep true).length).filter fun a=>!R.contains a).map (eY (ksN w h away keep true))++cb.map fun p=>eY (ksN w h away keep false) p.1
theorem GX {s:Sk} (wl:∀ p∈cb,p.1 < (ksN w h away keep false).length) (hs:s∈zU w h away keep R cb):∃ row,∃ x∈bT w h away,s=stS w h keep row x:=by
 rcases Zad.mp hs with hs | hs
 ·obtain ⟨a,ha,rfl⟩:=Zae.mp hs
  obtain ⟨x,hx,e⟩:=Zae.mp (fH.mp (mF (Zau.mp (Zaq.mp ha).1)))
  exact ⟨true,x,hx,e.symm⟩
 ·obtain ⟨p,hp,rfl⟩:=Zae.mp hs
  obtain ⟨x,hx,e⟩:=Zae.mp (fH.mp (mF (wl p hp)))
  exact ⟨false,x,hx,e.symm⟩
theorem OJ (dis:∀ c∈bT w h away,keep.testBit (Mth.pl w.toNat c)=false) (wl:∀ p∈cb,p.1 < (ksN w h away keep false).length) (hc:∀ a∈R,∀ x∈WN w h away keep a,x∈cb.map (·.1)):Cov w h away keep ((zU w h away keep R cb).map toB) where
 on:=fun s hs x h1 h2=>by
  obtain ⟨t,ht,rfl⟩:=Zae.mp hs
  obtain ⟨row,c,hcs,rfl⟩:=GX wl ht
  rw [zR] at h1 h2 ⊢
  exact Lp (jD hcs).1 (dis c hcs) h1 h2
 all:=fun c cl aw=>by
  have hcs:c∈bT w h away:=by
   unfold bT Mth.pick
   refine Zae.mpr ⟨Mth.pl w.toNat c,Zaq.mpr ⟨Zau.mpr (Mth.SM cl.inR),aw⟩,Mth.rT cl.inR⟩
  have no:=dis c hcs
  have in1:stS w h keep true c∈ksN w h away keep true:=fH.mpr (Zae.mpr ⟨c,hcs,rfl⟩)
  have in2:stS w h keep false c∈ksN w h away keep false:=fH.mpr (Zae.mpr ⟨c,hcs,rfl⟩)
  have done:∀ row,stS w h keep row c∈zU w h away keep R cb->∃ s∈(zU w h away keep R cb).map toB,lnOf s.1 c=s.2.1∧s.2.2.1≤jG s.1 c∧jG s.1 c≤s.2.2.2:=fun row hm=>by
   obtain ⟨_,f1,f2,_⟩:=(uC (row:=row) cl no).run
   exact ⟨_,Zae.mpr ⟨_,hm,rfl⟩,by rw [zR],by rw [zR];exact f1,by rw [zR];exact f2⟩
  obtain ⟨i1,i2⟩:=sV in1
  obtain ⟨j1,j2⟩:=sV in2
  by_cases hR:Df (ksN w h away keep true) (stS w h keep true c)∈R
  ·refine done false (ZaA _ ?_)
   obtain ⟨p,hp,e⟩:=Zae.mp (hc _ hR _ (RQ hcs))
   exact Zae.mpr ⟨p,hp,by rw [e];exact j2⟩
  ·refine done true (Zbh _ (Zae.mpr ⟨_,Zaq.mpr ⟨Zau.mpr i1,?_⟩,i2⟩))
   simpa using hR
theorem GZ {n:Nat}{W:Nat->List Nat} (hn:n=(ksN w h away keep true).length) (P:Pm n W A B) (hB:∀ g a,lk B' g=some a↔lk B g=some a) (hw:Wk n W B' (mL n A) R cb):(zU w h away keep R cb).length=A.length:=by
 subst hn
 have nd:=Wk.ndR P hB hw
 have hl:=hw.len
 have two:∀ (t:Nat->Bool) (l:List Nat),(l.filter t).length+(l.filter fun a=>!t a).length=l.length:=fun t l=>by
  induction l with
  | nil=>rfl
  | cons a l ih=>cases ht:t a <;> simp [Zbs,ht] <;> lia
 have t1:=two (fun a=>R.contains a) (List.range (ksN w h away keep true).length)
 have t2:=two (fun a=>(lk A a).isNone) (List.range (ksN w h away keep true).length)
 have e1:((List.range (ksN w h away keep true).length).filter fun a=>R.contains a).length=R.length:=by
  refine Nat.le_antisymm (cX (List.Nodup.sublist Zbq ZbD) fun x hx=>?_) (cX nd fun x hx=>?_)
  ·simpa using (Zaq.mp hx).2
  ·exact Zaq.mpr ⟨Zau.mpr (hw.lt x hx),by simpa using hx⟩
 have e2:((List.range (ksN w h away keep true).length).filter fun a=>!(lk A a).isNone).length=A.length:=by
  have el:(A.map (·.1)).length=A.length:=List.length_map _
  rw [←el]
  refine Nat.le_antisymm (cX (List.Nodup.sublist Zbq ZbD) fun x hx=>?_) (cX P.ndA fun x hx=>?_)
  ·have:=(Zaq.mp hx).2
   cases e:lk A x with
   | none=>rw [e] at this;cases this
   | some g=>exact Zae.mpr ⟨_,zJ e,rfl⟩
  ·cases e:lk A x with
   | none=>exact absurd hx (mD.mp e)
   | some g=>exact Zaq.mpr ⟨Zau.mpr (P.ok e).2,by rw [e];rfl⟩
 unfold zU
 rw [List.length_append,List.length_map,List.length_map]
 unfold mL at hl
 lia
theorem RT (nd:(cb.map (·.1)).Nodup) (wl:∀ p∈cb,p.1 < (ksN w h away keep false).length):(zU w h away keep R cb).Nodup:=by
 unfold zU
 rw [Zbm]
 refine ⟨?_,?_,fun s hs t ht e=>?_⟩
 ·rw [List.Nodup,ZaY]
  exact (List.Nodup.sublist Zbq ZbD).imp fun hne e=>hne ((zT w h keep true _).inj _ _ e)
 ·rw [List.Nodup,ZaY]
  rw [List.Nodup,ZaY] at nd
  exact nd.imp fun hne e=>hne ((zT w h keep false _).inj _ _ e)
 ·obtain ⟨a,ha,rfl⟩:=Zae.mp hs
  obtain ⟨p,hp,rfl⟩:=Zae.mp ht
  obtain ⟨x,hx,e1⟩:=Zae.mp (fH.mp (mF (Zau.mp (Zaq.mp ha).1)))
  obtain ⟨y,hy,e2⟩:=Zae.mp (fH.mp (mF (wl p hp)))
  rw [←e1,←e2] at e
  have e:=(Prod.mk.inj e).1
  exact absurd e (by decide)
end
theorem Lq {s:Sk} (h:s.2.length=3):bV (skP s) (.int 1)=some (.ok (.int (s.2.getD 0 0))):=by
 obtain ⟨t,l⟩:=s
 match l,h with
 | [a,b,c],_=>rfl
theorem Dh (n:Nat):∀ (l m:List Int),eqL (eqF n) (l.map PV.int) (m.map PV.int)=some (decide (l=m))
 | [],[]=>rfl
 | [],b::m=>rfl
 | a::l,[]=>rfl
 | a::l,b::m=>by
  rw [Zak,Zak,eqL,eqF_int,Dh n l m]
  simp only [Zbo]
  by_cases h:a=b <;> simp [h]
theorem RV (n:Nat) (p q:Sk):eqF (n+1) (skP p) (skP q)=some (decide (p=q)):=by
 show eqL (eqF n) (.str p.1::p.2.map PV.int) (.str q.1::q.2.map PV.int)=_
 rw [eqL,eqF_str,Dh]
 have:(p=q)↔(p.1=q.1∧p.2=q.2):=Prod.ext_iff
 by_cases h:p.1=q.1 <;> simp [this,h]
theorem RW {p:Sk}{l:List Sk}:inU (skP p) (.lst (l.map skP))=some (decide (p∈l)):=Om (fun a b=>RV 30 a b) p l
theorem Iv {w h:Int} (sz:Sz w h) {away keep:Nat} (dis:∀ c∈bT w h away,keep.testBit (Mth.pl w.toNat c)=false) (none_:away &&& keep=0) :
  ∃ (S:List Sk) (T:List PV),fG [.tup [.int w,.int h],.int away,.int keep]=some (.ok (.tup [.lst (S.map skP),.lst T]))∧Cov w h away keep (S.map toB)∧∀ S',Cov w h away keep S'->S.length≤S'.length:=by
 have hn:=sz.nat
 have ln:(bT w h away).length≤576:=Zaz (Mth.j9 _ _ _) hn.2
 have k1:=zT w h keep true (bT w h away)
 have k2:=zT w h keep false (bT w h away)
 have n1:(ksN w h away keep true).length≤576:=Zaz (zP _) (by rw [List.length_map];exact ln)
 have n2:(ksN w h away keep false).length≤576:=Zaz (zP _) (by rw [List.length_map];exact ln)
 have wl:∀ i g,g∈WN w h away keep i->g < (ksN w h away keep false).length:=fun i g hg=>RP hg
 obtain ⟨A,B,eM,P,Dd,cD,hd⟩:=Ov (G:=Gof k1 k2) (n:=(ksN w h away keep true).length) (N:=(ksN w h away keep false).length) (W:=WN w h away keep) (by lia) (by lia) wl
 obtain ⟨B',R,cb,eS,hB,hw,hc⟩:=La (G:=Gof k1 k2) (n:=(ksN w h away keep true).length) (N:=(ksN w h away keep false).length) (W:=WN w h away keep) (by lia) (by lia) wl P cD hd
 have wlc:∀ p∈cb,p.1 < (ksN w h away keep false).length:=fun p hp=>wl _ _ (hw.wish p hp)
 have lc:cb.length≤576:=Zaz (hw.wC wl) n2
 have eX:=Lk sz away keep dis
 rw [T8 k1 k2] at eX
 let ps:List (Int×Int):=A.map fun p=>((eY (ksN w h away keep false) p.2).2.getD 0 0,(eY (ksN w h away keep true) p.1).2.getD 0 0)
 have hps:∀ c∈ps,Cell w h c.1 c.2:=fun c hc=>by
  obtain ⟨p,hp,rfl⟩:=Zae.mp hc
  obtain ⟨x,hx,e1,e2⟩:=Dg (P.ok (pK P.ndA (show (p.1,p.2)∈A from hp))).1
  rw [←e1,←e2]
  exact (jD hx).1
 let S0:List Sk:=((List.range (ksN w h away keep true).length).filter fun a=>!R.contains a).map (eY (ksN w h away keep true))++sU (cb.map fun p=>eY (ksN w h away keep false) p.1)
 have pS:S0.Perm (zU w h away keep R cb):=ZaS _ (lC _)
 refine ⟨sU S0,(bT w h (Mth.Hq w.toNat ps)).map cellP,?_,?_,fun S' cv=>?_⟩
 rotate_left
 ·have:=OJ dis wlc hc
  have pm:=((lC S0).trans pS).map toB
  exact ⟨fun s hs=>this.on s (pm.mem_iff.mp hs),fun c cl aw=>by obtain ⟨s,hs,q⟩:=this.all c cl aw;exact ⟨s,pm.mem_iff.mpr hs,q⟩⟩
 ·rw [((lC S0).trans pS).length_eq,GZ rfl P hB hw]
  exact OD cv P k1 k2
 refine lX (x:=fD (startR [.tup [.int w,.int h],.int away,.int keep] 6)) ?_
 unfold fD
 rw [show startR [.tup [.int w,.int h],.int away,.int keep] 6=[some (.sh (.tup [.int w,.int h])),some (.sh (.int away)),some (.sh (.int keep)),none,none,none,none,none,none] from rfl]
 walk_at "rd"
 have eN:bT w h 0=[]:=by
  unfold bT Mth.pick
  rw [List.filter_eq_nil_iff.mpr fun i _=>by simp]
  rfl
 rw [jV,none_,nY sz 0,show Mth.pick w.toNat (w.toNat * h.toNat) (fun i=>(0:Nat).testBit i)=[] from eN]
 walk_at "rd"
 rw [if_neg (by simp)]
 unfold jw
 walk_at "rd"
 rw [eX]
 walk_at "rd"
 rw [eM]
 walk_at "rd"
 rw [eS]
 walk_at "rd"
 rw [show wiP (Gof k1 k2) (ksN w h away keep true).length (WN w h away keep)=.dt ((List.range (ksN w h away keep true).length).map fun (i:Nat)=>((Gof k1 k2).aK i,PV.lst ((Gof k1 k2).GL (WN w h away keep i)))) from rfl,wD,zK]
 have big:∀ {k:Nat},k≤9000->k≤sizeLine:=fun h=>ZaG (wz (by lia))
 refine ⟨rfl,by unfold Gs.AL;rw [List.length_map,List.length_range];exact big (by lia),?_⟩
 rw [show (Gof k1 k2).AL (List.range (ksN w h away keep true).length)=(List.range (ksN w h away keep true).length).map (Gof k1 k2).av from rfl,jA (Gof k1 k2).av (fun a=>!R.contains a) (Gof k1 k2).av (List.range (ksN w h away keep true).length) fun a _=>⟨_,rfl,jN ?t1,fun _=>rfl⟩,tv_some]
 case t1 =>
  walk_at "rd"
  refine ⟨_,RW,?_⟩
  have:eY (ksN w h away keep true) a∈sU (R.map (Gof k1 k2).aS)↔a∈R:=by
   rw [(lC _).mem_iff]
   constructor
   ·intro hm
    obtain ⟨b,hb,e⟩:=Zae.mp hm
    rw [←k1.inj b a e];exact hb
   ·exact fun hm=>Zae.mpr ⟨a,hm,rfl⟩
  show (!decide (eY (ksN w h away keep true) a∈sU (R.map (Gof k1 k2).aS)))=_
  by_cases hm:a∈R
  ·rw [decide_eq_true (this.mpr hm),List.contains_iff_mem.mpr hm]
  ·rw [decide_eq_false (fun z=>hm (this.mp z))]
   have:R.contains a=false:=by simpa using hm
   rw [this]
 have ls:(sU (cb.map fun p=>(Gof k1 k2).gS p.1)).length=cb.length:=by rw [(lC _).length_eq,List.length_map]
 have lf:((List.range (ksN w h away keep true).length).filter fun a=>!R.contains a).length≤576:=Zaz (ZaR _ _) (by rw [List.length_range];exact n1)
 refine ⟨by rw [List.length_map,List.length_map,ls];exact big (by lia),rfl,?_⟩
 rw [show (Gof k1 k2).GA A=.dt (kvQ (Gof k1 k2).aK (Gof k1 k2).gv A) from rfl,yg,CQ]
 have lA:A.length≤576:=Zaz (nZ P.ndA fun x hx=>by
  obtain ⟨p,hp,rfl⟩:=Zae.mp hx
  exact (P.ok (pK P.ndA (show (p.1,p.2)∈A from hp))).2) n1
 refine ⟨by rw [List.length_map];exact big (by lia),?_⟩
 rw [jA (fun p:Nat×Nat=>PV.tup [(Gof k1 k2).av p.1,(Gof k1 k2).gv p.2]) (fun _=>true) (fun p=>cellP ((eY (ksN w h away keep false) p.2).2.getD 0 0,(eY (ksN w h away keep true) p.1).2.getD 0 0)) A fun p _=>⟨_,rfl,rfl,fun _=>jN ?t2⟩,tv_some]
 case t2 =>
  walk_at "rd"
  rw [show (Gof k1 k2).gv p.2=skP (eY (ksN w h away keep false) p.2) from rfl,Lq (k2.l3 _),tv_some,show (Gof k1 k2).av p.1=skP (eY (ksN w h away keep true) p.1) from rfl,Lq (k1.l3 _),tv_some]
  exact ⟨by decide,rfl⟩
 rw [ZbB.mpr fun _ _=>rfl,show (A.map fun p=>cellP ((eY (ksN w h away keep false) p.2).2.getD 0 0,(eY (ksN w h away keep true) p.1).2.getD 0 0))=ps.map cellP by simp only [ps,List.map_map];rfl,Im sz ps hps]
 walk_at "rd"
 have nS:S0.Nodup:=pS.nodup_iff.mpr (RT hw.nd wlc)
 have mS:∀ s∈S0,s.2.length=3:=fun s hs=>by obtain ⟨row,x,_,rfl⟩:=GX wlc (pS.mem_iff.mp hs);rfl
 rw [show List.map (Gof k1 k2).av (List.filter (fun a=>!R.contains a) (List.range (ksN w h away keep true).length))++List.map skP (sU (List.map (fun p=>(Gof k1 k2).gS p.fst) cb))=S0.map skP by simp only [S0,Za1,List.map_map];rfl,GP nS mS (wz (by rw [pS.length_eq,GZ rfl P hB hw];lia)),tv_some,nY sz]
 walk_at "rd"
 first
  | exact ⟨by decide,rfl⟩
  | decide
theorem sW (ns:List Int) (k:Nat) (hk:k≤3000):∃ n:Int,cV [.lst (ns.map .int),.int k]=some (.ok (.int n)):=by
 suffices h:∃ p,cV [.lst (ns.map .int),.int k]=some (.ok p)∧∃ n,p=.int n by
  obtain ⟨p,e,n,rfl⟩:=h
  exact ⟨n,e⟩
 refine sO ?_
 unfold nJ
 walk_at "rd"
 rw [List.length_map]
 refine qp (fun h=>?_) (fun h=>?_)
 ·unfold pF
  walk_at "rd"
  exact ⟨_,xY (by lia) h,_,rfl⟩
 ·unfold pH
  have kk:(k:Int) * k≤3000 * 3000:=Int.mul_le_mul (by lia) (by lia) (by lia) (by decide)
  have kk0:0≤(k:Int) * k:=Int.mul_nonneg (by lia) (by lia)
  walk_at "rd"
  rw [List.length_map]
  refine ⟨.inl ⟨by lia,by lia⟩,qp (fun h0=>?_) (fun h0=>?_)⟩
  ·unfold pG
   walk_at "rd"
   rw [List.length_map]
   refine ⟨.inl ⟨by lia,by lia⟩,by lia,_,xY (Za7 _ (by lia)) (ZaQ _ (by lia)),?_⟩
   walk_at "rd"
   generalize hq:ns.getD ((k:Int) * 7 % ns.length).toNat 0 % 2147483629=q
   have q0:0≤q:=by rw [←hq];exact Za7 _ (by decide)
   have q1:q < 2147483629:=by rw [←hq];exact ZaQ _ (by decide)
   unfold j6
   walk_at "rd"
   exact ⟨by decide,.inl ⟨by lia,by lia⟩,by decide,_,rfl⟩
  ·unfold j6
   walk_at "rd"
   exact ⟨.inl ⟨by lia,by lia⟩,by decide,_,rfl⟩
theorem jE (c:Int) (k:Nat) (hk:k≤3000):∃ n:Int,b8 [.int c,.int k]=some (.ok (.int n))∧0≤n∧n < 2147483648:=by
 suffices h:∃ p,b8 [.int c,.int k]=some (.ok p)∧∃ n,p=.int n∧0≤n∧n < 2147483648 by
  obtain ⟨p,e,n,rfl,h⟩:=h
  exact ⟨n,e,h⟩
 refine sO ?_
 unfold mq
 walk_at "rd"
 refine ⟨by decide,by decide,by decide,qp (fun h=>?_) (fun h=>?_)⟩
 ·unfold nM
  walk_at "rd"
  have c0:0≤c / 2 ^ (31 * (k:Int)).toNat:=Int.ediv_nonneg (Int.le_trans (by decide) h) (Int.le_of_lt (Int.pow_pos (by decide)))
  rw [bitAnd_pp c0 (by decide)]
  refine ⟨.inl ⟨by decide,by decide⟩,by omega,Zbd _,?_⟩
  have:=@Nat.and_le_right (c / 2 ^ (31 * (k:Int)).toNat).toNat (2147483647:Int).toNat
  have e:(2147483647:Int).toNat=2147483647:=rfl
  rw [e] at this ⊢
  omega
 ·unfold nO
  have k1:7919 * (k:Int) * k≤23757000 * 3000:=Int.mul_le_mul (by omega) (by omega) (by omega) (by decide)
  have k0:0≤7919 * (k:Int) * k:=Int.mul_nonneg (by omega) (by omega)
  have m0:0≤c % 2147483629:=Za7 _ (by decide)
  have m1:c % 2147483629 < 2147483629:=ZaQ _ (by decide)
  walk_at "rd"
  generalize hq:(c % 2147483629+7919 * (k:Int) * k+k+13) * 48271 % 2147483587=q
  have q0:0≤q:=by rw [←hq];exact Za7 _ (by decide)
  have q1:q < 2147483587:=by rw [←hq];exact ZaQ _ (by decide)
  generalize hz:q * q % 2147483629=z
  have z0:0≤z:=by rw [←hz];exact Za7 _ (by decide)
  have z1:z < 2147483629:=by rw [←hz];exact ZaQ _ (by decide)
  refine ⟨by decide,.inl ⟨by decide,by decide⟩,.inl ⟨by omega,by omega⟩,.inl ⟨by omega,by omega⟩,by decide,.inl ⟨by omega,by omega⟩,by decide,.inl ⟨by omega,by omega⟩,by decide,Za7 _ (by decide),?_⟩
  have:=ZaQ ((z+(k:Int)) * 69621) (b:=2147483563) (by decide)
  omega
theorem Iw (c:Int):∃ w h:Int,iM [.int c]=some (.ok (.tup [.int w,.int h]))∧Sz w h∧w≤12∧h≤12:=by
 suffices hh:∃ p,iM [.int c]=some (.ok p)∧∃ w h:Int,p=.tup [.int w,.int h]∧Sz w h∧w≤12∧h≤12 by
  obtain ⟨p,e,w,h,rfl,q⟩:=hh;exact ⟨w,h,e,q⟩
 obtain ⟨a,ea,a0,a1⟩:=jE c 3 (by decide)
 obtain ⟨b,eb,b0,b1⟩:=jE c 4 (by decide)
 refine sO (x:=jR (startR [.int c] 1)) ?_
 unfold jR
 rw [show startR [.int c] 1=[some (.sh (.int c)),none] from rfl]
 walk_at "rd"
 rw [show (PV.int 3)=.int ((3:Nat):Int) from rfl,ea]
 walk_at "rd"
 rw [show (PV.int 4)=.int ((4:Nat):Int) from rfl,eb]
 walk_at "rd"
 refine ⟨by decide,qp (fun h=>?_) (fun h=>?_)⟩
 ·unfold pI
  walk_at "rd"
  have x0:=Za7 a (b:=12) (by decide)
  have x1:=ZaQ a (b:=12) (by decide)
  have y0:=Za7 (a / 12) (b:=12) (by decide)
  have y1:=ZaQ (a / 12) (b:=12) (by decide)
  exact ⟨by decide,by decide,by decide,by decide,by decide,_,_,rfl,⟨by omega,by omega,by omega,by omega⟩,by omega,by omega⟩
 ·unfold pJ
  walk_at "rd"
  have x0:=Za7 a (b:=6) (by decide)
  have x1:=ZaQ a (b:=6) (by decide)
  have y0:=Za7 (a / 6) (b:=6) (by decide)
  have y1:=ZaQ (a / 6) (b:=6) (by decide)
  exact ⟨by decide,by decide,by decide,by decide,by decide,_,_,rfl,⟨by omega,by omega,by omega,by omega⟩,by omega,by omega⟩
theorem wJ {w h:Int} (sz:Sz w h) (c:Int) (k:Nat) (hk:k≤90):∃ n:Nat,gb [.tup [.int w,.int h],.int c,.int k]=some (.ok (.int n))∧n < 2 ^ (w.toNat * h.toNat):=by
 suffices hh:∃ p,gb [.tup [.int w,.int h],.int c,.int k]=some (.ok p)∧∃ n:Nat,p=.int n∧n < 2 ^ (w.toNat * h.toNat) by
  obtain ⟨p,e,n,rfl,q⟩:=hh;exact ⟨n,e,q⟩
 have hm:=sz.mul
 have hN:=sz.nat
 have w0:=sz.w0
 have w1:=sz.w1
 have h0:=sz.h0
 have h1:=sz.h1
 refine sO (x:=my (startR [.tup [.int w,.int h],.int c,.int k] 4)) ?_
 unfold my
 rw [show startR [.tup [.int w,.int h],.int c,.int k] 4=[some (.sh (.tup [.int w,.int h])),some (.sh (.int c)),some (.sh (.int k)),none,none,none,none] from rfl]
 walk_at "rd"
 refine ⟨.inl ⟨by lia,by lia⟩,by decide,by decide,by lia,by lia,?_⟩
 have np:((1:Int) * 2 ^ (w * h).toNat)=((2 ^ (w.toNat * h.toNat):Nat):Int):=by rw [hN.1];simp
 refine dX (I:=fun i ρ=>∃ (n:Int) (v5:Option Sl),ρ=[some (.sh (.tup [.int w,.int h])),some (.sh (.int c)),some (.sh (.int k)),some (.sh (.int (w * h))),some (.sh (.int n)),v5,none]∧0≤n) ⟨0,none,rfl,by decide⟩ ?_ ?_
 ·rintro i x ρ hx ⟨n,v5,rfl,n0⟩
  obtain ⟨hi,rfl⟩:=oO hx
  have hi2:i≤20:=by lia
  obtain ⟨q,eq,q0,q1⟩:=jE c (30 * k+i) (by lia)
  unfold rC
  walk_at "rd"
  rw [show (30 * (k:Int)+(0+(i:Int)))=((30 * k+i:Nat):Int) by push_cast;lia,eq]
  walk_at "rd"
  exact ⟨.inr ⟨by decide,by decide⟩,.inl ⟨by decide,by decide⟩,_,_,rfl,by lia⟩
 ·rintro ρ ⟨n,v5,rfl,n0⟩
  obtain ⟨q,eq,q0,q1⟩:=jE c (30 * k+29) (by lia)
  walk_at "rd"
  unfold rH
  walk_at "rd"
  have pp:(0:Int) < 1 * 2 ^ (w * h).toNat:=by rw [np];exact Int.natCast_pos.mpr (Zbv _)
  refine ⟨by lia,by lia,by decide,pp,.inl ⟨by decide,by decide⟩,?_⟩
  rw [show (30 * (k:Int)+29)=((30 * k+29:Nat):Int) by push_cast;lia,eq]
  walk_at "rd"
  have m0:=Za7 n (Int.ne_of_gt pp)
  have m1:=ZaQ n pp
  refine ⟨by decide,qp (fun _=>?_) (fun _=>?_)⟩
  ·unfold rD
   walk_at "rd"
   refine ⟨by lia,by lia,by decide,2 ^ (w.toNat * h.toNat) - 1,?_,by have:=Zbv (w.toNat * h.toNat);lia⟩
   rw [np]
   have:=Zbv (w.toNat * h.toNat)
   congr 1
   lia
  ·unfold rG
   walk_at "rd"
   refine qp (fun _=>?_) (fun _=>?_)
   ·unfold rE
    walk_at "rd"
    exact ⟨0,rfl,Zbv _⟩
   ·unfold rF
    walk_at "rd"
    refine ⟨(n % (1 * 2 ^ (w * h).toNat)).toNat,by rw [Za9 m0],?_⟩
    rw [np] at m1 m0 ⊢
    lia
theorem Lr (a:Nat):∀ b:Nat,a+b=(a ^^^ b)+2 * (a &&& b):=by
 induction a using Nat.strongRecOn with
 | _ a ih =>
  intro b
  by_cases h:a=0
  ·subst h;simp
  ·have this:=ih (a / 2) (by lia) (b / 2)
   have e1:(a ^^^ b) / 2=(a / 2) ^^^ (b / 2):=Nat.xor_div_two
   have e2:(a &&& b) / 2=(a / 2) &&& (b / 2):=Nat.and_div_two
   have t1:=Nat.testBit_xor a b 0
   have t2:=Zbw a b 0
   rw [←e1,←e2] at this
   simp only [Nat.testBit_zero] at t1 t2
   generalize a ^^^ b=x at *
   generalize a &&& b=y at *
   rcases Nat.mod_two_eq_zero_or_one a with p | p <;> rcases Nat.mod_two_eq_zero_or_one b with q | q <;> rw [p,q] at t1 t2 <;> simp at t1 t2 <;> lia
theorem Fe (a s i:Nat):(a - (a &&& s)).testBit i=(a.testBit i && !s.testBit i):=by
 have e:a - (a &&& s)=a ^^^ (a &&& s):=by
  have:=Lr a (a &&& s)
  rw [←Nat.and_assoc,Nat.and_self] at this
  lia
 rw [e,Nat.testBit_xor,Zbw]
 cases a.testBit i <;> cases s.testBit i <;> rfl
theorem tU {w h:Int} (sz:Sz w h) (c:Int) (k:Nat) (hk:k≤10):∃ away keep:Nat,cF [.tup [.int w,.int h],.int c,.int k]=some (.ok (.lst [.int away,.int keep]))∧away < 2 ^ (w.toNat * h.toNat)∧keep < 2 ^ (w.toNat * h.toNat)∧away &&& keep=0:=by
 suffices hh:∃ p,cF [.tup [.int w,.int h],.int c,.int k]=some (.ok p)∧∃ away keep:Nat,p=.lst [.int away,.int keep]∧away < 2 ^ (w.toNat * h.toNat)∧keep < 2 ^ (w.toNat * h.toNat)∧away &&& keep=0 by
  obtain ⟨p,e,a,b,rfl,q⟩:=hh;exact ⟨a,b,e,q⟩
 have hm:=sz.mul
 have hN:=sz.nat
 have w0:=sz.w0
 have w1:=sz.w1
 have h0:=sz.h0
 have h1:=sz.h1
 have pos:=Zbv (w.toNat * h.toNat)
 have np:((1:Int) * 2 ^ (w * h).toNat)=((2 ^ (w.toNat * h.toNat):Nat):Int):=by rw [hN.1];simp
 obtain ⟨k1,e1,l1⟩:=wJ sz c (2 * k) (by omega)
 obtain ⟨a1,e2,l2⟩:=wJ sz c (2 * k+1) (by omega)
 obtain ⟨q,eq,q0,q1⟩:=jE c (400+k) (by omega)
 obtain ⟨k2,e3,l3⟩:=wJ sz (c+1) (2 * k) (by omega)
 have done:∀ (keep:Nat),keep < 2 ^ (w.toNat * h.toNat)->To (ie [some (.sh (.tup [.int w,.int h])),some (.sh (.int c)),some (.sh (.int k)),some (.sh (.int keep)),some (.sh (.int a1)),some (.sh (.int q))]) fun o=>∃ p,qK (some o)=some (.ok p)∧∃ away keep:Nat,p=.lst [.int away,.int keep]∧away < 2 ^ (w.toNat * h.toNat)∧keep < 2 ^ (w.toNat * h.toNat)∧away &&& keep=0:=fun keep kl=>by
  unfold ie
  walk_at "rd"
  refine ⟨by decide,by decide,by decide,qp (fun _=>?_) (fun _=>?_)⟩
  ·unfold lw
   walk_at "rd"
   refine ⟨.inl ⟨by omega,by omega⟩,by omega,by omega,by decide,by decide,2 ^ (w.toNat * h.toNat) - 1 - keep,keep,?_,by omega,kl,?_⟩
   ·rw [np]
    congr 2
    omega
   ·apply Nat.eq_of_testBit_eq
    intro i
    rw [Zbw,show 2 ^ (w.toNat * h.toNat) - 1 - keep=2 ^ (w.toNat * h.toNat) - (keep+1) by omega,Nat.testBit_two_pow_sub_succ kl]
    cases keep.testBit i <;> simp
  ·unfold lz
   walk_at "rd"
   rw [jV]
   refine ⟨by decide,a1 - (a1 &&& keep),keep,?_,Nat.lt_of_le_of_lt (Nat.sub_le _ _) l2,kl,?_⟩
   ·have:a1 &&& keep≤a1:=Nat.and_le_left
    congr 2
    omega
   ·apply Nat.eq_of_testBit_eq
    intro i
    rw [Zbw,Fe]
    cases a1.testBit i <;> cases keep.testBit i <;> simp
 refine zr (x:=gC (startR [.tup [.int w,.int h],.int c,.int k] 3)) ?_
 unfold gC
 rw [show startR [.tup [.int w,.int h],.int c,.int k] 3=[some (.sh (.tup [.int w,.int h])),some (.sh (.int c)),some (.sh (.int k)),none,none,none] from rfl]
 walk_at "rd"
 rw [show (2 * (k:Int))=((2 * k:Nat):Int) by push_cast;rfl,e1]
 walk_at "rd"
 rw [show (((2 * k:Nat):Int)+1)=((2 * k+1:Nat):Int) by push_cast;rfl,e2]
 walk_at "rd"
 rw [show (400+(k:Int))=((400+k:Nat):Int) by push_cast;rfl,eq]
 walk_at "rd"
 refine ⟨.inl ⟨by decide,by decide⟩,.inl ⟨by decide,by decide⟩,by decide,qp (fun _=>?_) (fun _=>done k1 l1)⟩
 unfold lr
 walk_at "rd"
 rw [show (2 * (k:Int))=((2 * k:Nat):Int) by push_cast;rfl,e3]
 walk_at "rd"
 rw [jV]
 exact ⟨.inl ⟨by decide,by decide⟩,done _ (Nat.lt_of_le_of_lt Nat.and_le_left l1)⟩
noncomputable def Few (w h:Int) (away keep n:Nat):Prop:=(∃ S,Cov w h away keep S∧S.length=n)∧∀ S,Cov w h away keep S->n≤S.length
theorem rJ {w h:Int} (sz:Sz w h) {away keep:Nat} (no:away &&& keep=0):∃ n:Nat,cW [.tup [.int w,.int h],.int away,.int keep]=some (.ok (.int n))∧Few w h away keep n:=by
 have bits:∀ i,away.testBit i=true->keep.testBit i=false:=fun i hi=>by
  have:=congrArg (fun n=>n.testBit i) no
  simp only [Zbw,hi,Bool.true_and,Nat.zero_testBit] at this
  exact this
 obtain ⟨S,T,e,cv,low⟩:=Iv sz (fun c hc=>bits _ (jD hc).2) no
 refine ⟨S.length,?_,⟨_,cv,List.length_map _⟩,low⟩
 refine lX (x:=jT (startR [.tup [.int w,.int h],.int away,.int keep] 0)) ?_
 unfold jT
 rw [show startR [.tup [.int w,.int h],.int away,.int keep] 0=[some (.sh (.tup [.int w,.int h])),some (.sh (.int away)),some (.sh (.int keep))] from rfl]
 walk_at "rd"
 rw [e]
 walk_at "rd"
 rw [List.length_map]
theorem jh {s u:Sn}{ρ:Rho}{QS:Out->Prop} (ρ':Rho) (h1:To (s ρ) fun o=>o=.nx ρ') (h2:To (u ρ') QS):To (bf s u ρ) QS:=by
 rw [to_seq]
 obtain ⟨o,e,c,rfl⟩:=h1
 exact ⟨_,e,c,h2⟩
theorem mG (a b:Nat):Builtin.bitOr (a:Int) (b:Int)=((a ||| b:Nat):Int):=yd a b
noncomputable def jJ (s:StB) (c:Int×Int):Prop:=lnOf s.1 c=s.2.1∧s.2.2.1≤jG s.1 c∧jG s.1 c≤s.2.2.2
section
variable {w h w' h':Int}{away keep away' keep' n n':Nat}{S:List StB}
theorem Cov.at (cv:Cov w h away keep S) {s:StB} (hs:s∈S) {c:Int×Int} (hc:jJ s c):Cell w h c.1 c.2∧keep.testBit (Mth.pl w.toNat c)=false:=by
 have:=cv.on s hs _ hc.2.1 hc.2.2
 rw [←hc.1,Qi] at this
 exact this
theorem Cov.of (h1:∀ s∈S,∀ c:Int×Int,jJ s c->Cell w h c.1 c.2∧keep.testBit (Mth.pl w.toNat c)=false) (h2:∀ c:Int×Int,Cell w h c.1 c.2->away.testBit (Mth.pl w.toNat c)=true->∃ s∈S,jJ s c):Cov w h away keep S where
 on:=fun s hs x a b=>h1 s hs _ ⟨Lg _ _ _,by rw [GQ];exact a,by rw [GQ];exact b⟩
 all:=h2
theorem Cov.carry {f:Int×Int->Int×Int}{g:StB->StB} (cv:Cov w h away keep S) (hg:∀ s c,jJ (g s) c↔jJ s (f c)) (hc:∀ c:Int×Int,Cell w' h' c.1 c.2↔Cell w h (f c).1 (f c).2)
  (ha:∀ c:Int×Int,Cell w' h' c.1 c.2->away'.testBit (Mth.pl w'.toNat c)=away.testBit (Mth.pl w.toNat (f c))) (hk:∀ c:Int×Int,Cell w' h' c.1 c.2->keep'.testBit (Mth.pl w'.toNat c)=keep.testBit (Mth.pl w.toNat (f c))):Cov w' h' away' keep' (S.map g):=by
 refine .of (fun s hs c hi=>?_) fun c cl aw=>?_
 ·obtain ⟨t,ht,rfl⟩:=Zae.mp hs
  obtain ⟨q1,q2⟩:=cv.at ht ((hg t c).mp hi)
  have cl:=(hc c).mpr q1
  exact ⟨cl,(hk c cl).trans q2⟩
 ·obtain ⟨s,hs,hi⟩:=cv.all (f c) ((hc c).mp cl) ((ha c cl).symm.trans aw)
  exact ⟨g s,Zae.mpr ⟨s,hs,rfl⟩,(hg s c).mpr hi⟩
theorem Iz {f k:Int×Int->Int×Int}{g r:StB->StB} (F:Few w h away keep n) (F':Few w' h' away' keep' n') (hg:∀ s c,jJ (g s) c↔jJ s (f c)) (hr:∀ s c,jJ (r s) c↔jJ s (k c))
  (hc:∀ c:Int×Int,Cell w' h' c.1 c.2↔Cell w h (f c).1 (f c).2) (fk:∀ c,f (k c)=c)
  (ha:∀ c:Int×Int,Cell w' h' c.1 c.2->away'.testBit (Mth.pl w'.toNat c)=away.testBit (Mth.pl w.toNat (f c))) (hk:∀ c:Int×Int,Cell w' h' c.1 c.2->keep'.testBit (Mth.pl w'.toNat c)=keep.testBit (Mth.pl w.toNat (f c))):n'=n:=by
 obtain ⟨⟨S,c1,e1⟩,l1⟩:=F
 obtain ⟨⟨T,c2,e2⟩,l2⟩:=F'
 have d1:=l2 _ (c1.carry hg hc ha hk)
 have hc':∀ c:Int×Int,Cell w h c.1 c.2↔Cell w' h' (k c).1 (k c).2:=fun c=>by rw [hc (k c),fk]
 have d2:=l1 _ (c2.carry hr hc' (fun c cl=>by rw [ha _ ((hc' c).mp cl),fk]) fun c cl=>by rw [hk _ ((hc' c).mp cl),fk])
 rw [List.length_map] at d1 d2
 lia
end
noncomputable def mvC (w h:Int) (way:Nat) (c:Int×Int):Int×Int:=if way=0 then (w - 1 - c.1,c.2) else if way=1 then (c.1,h - 1 - c.2) else (c.2,c.1)
noncomputable def mvS (w h:Int) (way:Nat) (s:StB):StB:=if way=0 then (if s.1 then (true,s.2.1,w - 1 - s.2.2.2,w - 1 - s.2.2.1) else (false,w - 1 - s.2.1,s.2.2.1,s.2.2.2)) else if way=1 then (if s.1 then (true,h - 1 - s.2.1,s.2.2.1,s.2.2.2) else (false,s.2.1,h - 1 - s.2.2.2,h - 1 - s.2.2.1)) else (!s.1,s.2)
theorem Qj (w h:Int) (way:Nat) (s:StB) (c:Int×Int):jJ (mvS w h way s) c↔jJ s (mvC w h way c):=by
 obtain ⟨row,l,a,b⟩:=s
 unfold jJ mvS mvC
 by_cases h0:way=0
 ·cases row <;> simp [h0,lnOf,jG] <;> lia
 ·by_cases h1:way=1
  ·cases row <;> simp [h1,lnOf,jG] <;> lia
  ·cases row <;> simp [h0,h1,lnOf,jG]
theorem Ls (w h:Int) (way:Nat) (c:Int×Int):mvC w h way (mvC w h way c)=c:=by
 obtain ⟨x,y⟩:=c
 unfold mvC
 by_cases h0:way=0
 ·simp [h0];omega
 ·by_cases h1:way=1
  ·simp [h1];omega
  ·simp [h0,h1]
theorem Ff {w h W:Int}{a1 k1 a2 k2 A K n1 n2 n:Nat} (hW:W=2 * w+1) (F1:Few w h a1 k1 n1) (F2:Few w h a2 k2 n2) (F:Few W h A K n)
  (hA:∀ c:Int×Int,Cell W h c.1 c.2->A.testBit (Mth.pl W.toNat c)=if c.1 < w then a1.testBit (Mth.pl w.toNat c) else if c.1=w then false else a2.testBit (Mth.pl w.toNat (c.1 - w - 1,c.2)))
  (hK:∀ c:Int×Int,Cell W h c.1 c.2->K.testBit (Mth.pl W.toNat c)=if c.1 < w then k1.testBit (Mth.pl w.toNat c) else if c.1=w then true else k2.testBit (Mth.pl w.toNat (c.1 - w - 1,c.2))):n=n1+n2:=by
 obtain ⟨⟨S,c1,e1⟩,l1⟩:=F1
 obtain ⟨⟨T,c2,e2⟩,l2⟩:=F2
 obtain ⟨⟨U,cu,eu⟩,lu⟩:=F
 have up:n≤n1+n2:=by
  let sh:StB->StB:=fun s=>if s.1 then (true,s.2.1,s.2.2.1+w+1,s.2.2.2+w+1) else (false,s.2.1+w+1,s.2.2.1,s.2.2.2)
  have hsh:∀ s c,jJ (sh s) c↔jJ s (c.1 - w - 1,c.2):=fun s c=>by
   obtain ⟨row,l,a,b⟩:=s
   show jJ (if row=true then _ else _) c↔_
   unfold jJ
   cases row <;> simp [lnOf,jG] <;> lia
  have:=lu (S++T.map sh) (.of (fun s hs c hi=>?_) fun c cl aw=>?_)
  ·rw [List.length_append,List.length_map,e1,e2] at this
   exact this
  ·rcases Zad.mp hs with q | q
   ·obtain ⟨z1,z2⟩:=c1.at q hi
    have cl:Cell W h c.1 c.2:=⟨z1.c0,by have:=z1.c1;have:=z1.c0;lia,z1.r0,z1.r1⟩
    refine ⟨cl,?_⟩
    rw [hK c cl,if_pos z1.c1]
    exact z2
   ·obtain ⟨t,ht,rfl⟩:=Zae.mp q
    obtain ⟨z1,z2⟩:=c2.at ht ((hsh t c).mp hi)
    have g1:0≤c.1 - w - 1:=z1.c0
    have g2:c.1 - w - 1 < w:=z1.c1
    have cl:Cell W h c.1 c.2:=⟨by lia,by lia,z1.r0,z1.r1⟩
    refine ⟨cl,?_⟩
    rw [hK c cl,if_neg (by lia),if_neg (by lia)]
    exact z2
  ·rw [hA c cl] at aw
   have b1:=cl.c0
   have b2:=cl.c1
   by_cases q:c.1 < w
   ·rw [if_pos q] at aw
    obtain ⟨s,hs,hi⟩:=c1.all c ⟨cl.c0,q,cl.r0,cl.r1⟩ aw
    exact ⟨s,Zbh _ hs,hi⟩
   ·rw [if_neg q] at aw
    by_cases q2:c.1=w
    ·rw [if_pos q2] at aw;cases aw
    ·rw [if_neg q2] at aw
     obtain ⟨s,hs,hi⟩:=c2.all (c.1 - w - 1,c.2) ⟨by show 0≤c.1 - w - 1;lia,by show c.1 - w - 1 < w;lia,cl.r0,cl.r1⟩ aw
     exact ⟨sh s,ZaA _ (Zae.mpr ⟨s,hs,rfl⟩),(hsh s c).mpr hi⟩
 have low:n1+n2≤n:=by
  let lf:StB->Bool:=fun s=>if s.1 then decide (s.2.2.1 < w) else decide (s.2.1 < w)
  let un:StB->StB:=fun s=>if s.1 then (true,s.2.1,s.2.2.1 - w - 1,s.2.2.2 - w - 1) else (false,s.2.1 - w - 1,s.2.2.1,s.2.2.2)
  have hun:∀ s c,jJ (un s) c↔jJ s (c.1+w+1,c.2):=fun s c=>by
   obtain ⟨row,l,a,b⟩:=s
   show jJ (if row=true then _ else _) c↔_
   unfold jJ
   cases row <;> simp [lnOf,jG] <;> lia
  have stay:∀ s∈U,lf s=true->∀ c,jJ s c->c.1 < w:=fun s hs hl c hi=>by
   refine Classical.byContradiction fun q=>?_
   obtain ⟨row,l,a,b⟩:=s
   cases row with
   | false =>
    have hl:decide (l < w)=true:=hl
    have:c.1=l:=hi.1
    have:=of_decide_eq_true hl
    lia
   | true =>
    have hl:decide (a < w)=true:=hl
    have hl:=of_decide_eq_true hl
    have h1:c.2=l:=hi.1
    have h2:a≤c.1:=hi.2.1
    have h3:c.1≤b:=hi.2.2
    obtain ⟨z1,z2⟩:=cu.at hs (c:=(w,l)) ⟨rfl,by show a≤w;lia,by show w≤b;lia⟩
    rw [hK _ z1,if_neg (by show ¬w < w;lia),if_pos rfl] at z2
    cases z2
  have go:∀ s∈U,lf s=false->∀ c,jJ s c->w < c.1:=fun s hs hl c hi=>by
   have ge:w≤c.1:=by
    obtain ⟨row,l,a,b⟩:=s
    cases row with
    | false =>
     have hl:decide (l < w)=false:=hl
     have:c.1=l:=hi.1
     have:=of_decide_eq_false hl
     lia
    | true =>
     have hl:decide (a < w)=false:=hl
     have:=of_decide_eq_false hl
     have h2:a≤c.1:=hi.2.1
     lia
   refine Classical.byContradiction fun q=>?_
   have e:c.1=w:=by lia
   obtain ⟨z1,z2⟩:=cu.at hs hi
   rw [hK _ z1,if_neg (by lia),if_pos e] at z2
   cases z2
  have p1:=l1 (U.filter lf) (.of (fun s hs c hi=>?_) fun c cl aw=>?_)
  have p2:=l2 ((U.filter fun s=>!lf s).map un) (.of (fun s hs c hi=>?_) fun c cl aw=>?_)
  ·rw [List.length_map] at p2
   have:(U.filter lf).length+(U.filter fun s=>!lf s).length=U.length:=by
    clear p1 p2 stay go cu lu eu
    induction U with
    | nil=>rfl
    | cons s U ih =>
     rw [Zbs,Zbs]
     cases lf s <;> simp <;> lia
   lia
  ·obtain ⟨t,ht,rfl⟩:=Zae.mp hs
   obtain ⟨ht,hl⟩:=Zaq.mp ht
   have hl:lf t=false:=by simpa using hl
   have hi:=(hun t c).mp hi
   obtain ⟨z1,z2⟩:=cu.at ht hi
   have g1:w < c.1+w+1:=go t ht hl _ hi
   have g2:c.1+w+1 < W:=z1.c1
   refine ⟨⟨by lia,by lia,z1.r0,z1.r1⟩,?_⟩
   rw [hK _ z1,if_neg (by show ¬c.1+w+1 < w;lia),if_neg (by show ¬c.1+w+1=w;lia)] at z2
   rw [show (c.1+w+1 - w - 1,c.2)=c by rw [show c.1+w+1 - w - 1=c.1 by lia]] at z2
   exact z2
  ·have k0:=cl.c0
   have k1':=cl.c1
   have cl':Cell W h (c.1+w+1,c.2).1 (c.1+w+1,c.2).2:=⟨by show 0≤c.1+w+1;lia,by show c.1+w+1 < W;lia,cl.r0,cl.r1⟩
   obtain ⟨s,hs,hi⟩:=cu.all (c.1+w+1,c.2) cl' (by
    rw [hA _ cl',if_neg (by show ¬c.1+w+1 < w;lia),if_neg (by show ¬c.1+w+1=w;lia)]
    rw [show (c.1+w+1 - w - 1,c.2)=c by rw [show c.1+w+1 - w - 1=c.1 by lia]]
    exact aw)
   have nl:lf s=false:=by
    cases e:lf s with
    | false=>rfl
    | true=>have:c.1+w+1 < w:=stay s hs e _ hi;lia
   exact ⟨un s,Zae.mpr ⟨s,Zaq.mpr ⟨hs,by rw [nl];rfl⟩,rfl⟩,(hun s c).mpr hi⟩
  ·obtain ⟨hs,hl⟩:=Zaq.mp hs
   have lt:=stay s hs hl c hi
   obtain ⟨z1,z2⟩:=cu.at hs hi
   rw [hK _ z1,if_pos lt] at z2
   exact ⟨⟨z1.c0,lt,z1.r0,z1.r1⟩,z2⟩
  ·have k0:=cl.c0
   have k1':=cl.c1
   have cl':Cell W h c.1 c.2:=⟨k0,by lia,cl.r0,cl.r1⟩
   obtain ⟨s,hs,hi⟩:=cu.all c cl' (by rw [hA _ cl',if_pos k1'];exact aw)
   have yl:lf s=true:=by
    cases e:lf s with
    | true=>rfl
    | false=>have:=go s hs e _ hi;lia
   exact ⟨s,Zaq.mpr ⟨hs,yl⟩,hi⟩
 lia
theorem IK (n p i:Nat):(n ||| 2 ^ p).testBit i=true↔n.testBit i=true∨p=i:=by
 rw [Nat.testBit_or,Nat.testBit_two_pow,Bool.or_eq_true,decide_eq_true_eq]
noncomputable def MvB (w h:Int) (way m W:Nat) (r k:Int) (n:Nat):Prop:=∀ i,n.testBit i=true↔∃ c:Int×Int,Cell w h c.1 c.2∧(c.2 < r∨c.2=r∧c.1 < k)∧m.testBit (Mth.pl w.toNat c)=true∧Mth.pl W (mvC w h way c)=i
section
variable {w h:Int}{way m W:Nat}{r k:Int}{n:Nat}
theorem MvB.zero:MvB w h way m W 0 0 0:=fun i=>by
 rw [Nat.zero_testBit]
 refine ⟨fun z=>(by cases z),?_⟩
 rintro ⟨c,cl,q,_⟩
 have:=cl.c0
 have:=cl.r0
 rcases q with q | q <;> omega
theorem MvB.row (b:MvB w h way m W r w n):MvB w h way m W (r+1) 0 n:=fun i=>by
 rw [b i]
 constructor
 ·rintro ⟨c,cl,q,z⟩
  exact ⟨c,cl,.inl (by rcases q with q | q <;> omega),z⟩
 ·rintro ⟨c,cl,q,z⟩
  have:=cl.c0
  have:=cl.c1
  exact ⟨c,cl,by rcases q with q | q <;> omega,z⟩
theorem MvB.yes (b:MvB w h way m W r k n) (cl:Cell w h k r) (hm:m.testBit (Mth.pl w.toNat (k,r))=true):MvB w h way m W r (k+1) (n ||| 2 ^ Mth.pl W (mvC w h way (k,r))):=fun i=>by
 rw [IK,b i]
 constructor
 ·rintro (⟨c,cl,q,z⟩ | e)
  ·exact ⟨c,cl,by rcases q with q | q <;> lia,z⟩
  ·exact ⟨(k,r),cl,.inr ⟨rfl,by show k < k+1;lia⟩,hm,e⟩
 ·rintro ⟨c,cl',q,z1,z2⟩
  by_cases e:c=(k,r)
  ·subst e;exact .inr z2
  ·refine .inl ⟨c,cl',?_,z1,z2⟩
   rcases q with q | q
   ·exact .inl q
   ·refine .inr ⟨q.1,?_⟩
    have:c.1≠k:=fun y=>e (Prod.ext y q.1)
    lia
theorem MvB.no (b:MvB w h way m W r k n) (hm:m.testBit (Mth.pl w.toNat (k,r))=false):MvB w h way m W r (k+1) n:=fun i=>by
 rw [b i]
 constructor
 ·rintro ⟨c,cl,q,z⟩
  exact ⟨c,cl,by rcases q with q | q <;> lia,z⟩
 ·rintro ⟨c,cl',q,z1,z2⟩
  refine ⟨c,cl',?_,z1,z2⟩
  rcases q with q | q
  ·exact .inl q
  ·refine .inr ⟨q.1,?_⟩
   have:c.1≠k:=fun y=>by
    rw [show c=(k,r) from Prod.ext y q.1,hm] at z1;cases z1
   lia
end
theorem RX {w h:Int}{c d:Int×Int} (hc:Cell w h c.1 c.2) (hd:Cell w h d.1 d.2) (e:Mth.pl w.toNat c=Mth.pl w.toNat d):c=d:=by
 have h1:=Mth.rT hc.inR
 have h2:=Mth.rT hd.inR
 exact h1.symm.trans ((congrArg _ e).trans h2)
theorem MvB.fin {w h w' h':Int}{way m n:Nat} (hc:∀ c:Int×Int,Cell w' h' c.1 c.2↔Cell w h (mvC w h way c).1 (mvC w h way c).2) (inv:∀ c,mvC w h way (mvC w h way c)=c) (b:MvB w h way m w'.toNat h 0 n) (c:Int×Int) (cl:Cell w' h' c.1 c.2) :
  n.testBit (Mth.pl w'.toNat c)=m.testBit (Mth.pl w.toNat (mvC w h way c)):=by
 rw [Bool.eq_iff_iff,b]
 constructor
 ·rintro ⟨d,cd,_,z1,z2⟩
  have:=RX (h:=h') ((hc _).mpr (by rw [inv];exact cd)) cl z2
  rw [←this,inv]
  exact z1
 ·intro z
  have cd:=(hc c).mp cl
  exact ⟨mvC w h way c,cd,.inl cd.r1,z,by rw [inv]⟩
noncomputable def mvW (w h:Int) (way:Nat):Int:=if way=2 then h else w
theorem zV (w h:Int) {way:Nat} (hw:way≤2) (c:Int×Int):Cell (mvW w h way) (mvW h w way) c.1 c.2↔Cell w h (mvC w h way c).1 (mvC w h way c).2:=by
 obtain ⟨x,y⟩:=c
 unfold mvW mvC
 rcases (by lia:way=0∨way=1∨way=2) with rfl | rfl | rfl
 ·exact ⟨fun ⟨a,b,c,d⟩=>⟨by simp at *;lia,by simp at *;lia,c,d⟩,fun ⟨a,b,c,d⟩=>⟨by simp at *;lia,by simp at *;lia,c,d⟩⟩
 ·exact ⟨fun ⟨a,b,c,d⟩=>⟨a,b,by simp at *;lia,by simp at *;lia⟩,fun ⟨a,b,c,d⟩=>⟨a,b,by simp at *;lia,by simp at *;lia⟩⟩
 ·exact ⟨fun ⟨a,b,c,d⟩=>⟨c,d,a,b⟩,fun ⟨a,b,c,d⟩=>⟨c,d,a,b⟩⟩
noncomputable def bsL (w:Nat) (a b z:Nat) (r:Nat):Nat:=(a / 2 ^ (r * w)) % 2 ^ w ||| z * 2 ^ w ||| ((b / 2 ^ (r * w)) % 2 ^ w) * 2 ^ (w+1)
theorem Lw {w a b z r:Nat} (hz:z≤1) (j:Nat):(bsL w a b z r).testBit j=if j < w then a.testBit (r * w+j) else if j=w then decide (z=1) else decide (j < 2 * w+1) && b.testBit (r * w+(j - w - 1)):=by
 unfold bsL
 rw [←Nat.shiftLeft_eq,←Nat.shiftLeft_eq,Nat.testBit_or,Nat.testBit_or,Nat.testBit_shiftLeft,Nat.testBit_shiftLeft,Nat.testBit_mod_two_pow,Nat.testBit_mod_two_pow,Nat.testBit_div_two_pow,Nat.testBit_div_two_pow]
 have zb:∀ i,z.testBit i=(decide (i=0) && decide (z=1)):=fun i=>by
  rcases (by lia:z=0∨z=1) with rfl | rfl
  ·simp
  ·cases i <;> simp [Nat.testBit_succ]
 rw [zb]
 by_cases h1:j < w
 ·simp [h1,Nat.not_le.mpr h1,Nat.add_comm];lia
 ·by_cases h2:j=w
  ·subst h2;simp;lia
  ·have h3:w+1≤j:=by lia
   have h4:¬j - w=0:=by lia
   simp [h1,h2,h3,h4,Nat.add_comm]
   rw [show j - (w+1)=j - w - 1 by lia]
   congr 1
   exact decide_eq_decide.mpr (by lia)
noncomputable def BsB (w:Nat) (a b z:Nat) (k n:Nat):Prop:=∀ i,n.testBit i=true↔i / (2 * w+1) < k∧(bsL w a b z (i / (2 * w+1))).testBit (i % (2 * w+1))=true
theorem Lx {w a b z r:Nat} (hz:z≤1) {j:Nat} (h:2 * w+1≤j):(bsL w a b z r).testBit j=false:=by
 rw [Lw hz,if_neg (by lia),if_neg (by lia),decide_eq_false (by lia)];rfl
theorem BsB.step {w a b z k n:Nat} (hz:z≤1) (B:BsB w a b z k n):BsB w a b z (k+1) (n ||| bsL w a b z k * 2 ^ (k * (2 * w+1))):=fun i=>by
 rw [←Nat.shiftLeft_eq,Nat.testBit_or,Nat.testBit_shiftLeft,Bool.or_eq_true,B i,Bool.and_eq_true,decide_eq_true_eq]
 have hd:=Nat.div_add_mod i (2 * w+1)
 have hm:=Nat.mod_lt i (show 0 < 2 * w+1 by omega)
 constructor
 ·rintro (⟨q1,q2⟩ | ⟨q1,q2⟩)
  ·exact ⟨by omega,q2⟩
  ·have lt:i - k * (2 * w+1) < 2 * w+1:=Nat.lt_of_not_le fun z=>by rw [Lx hz z] at q2;cases q2
   have e1:i / (2 * w+1)=k:=Nat.div_eq_of_lt_le (by omega) (by rw [Nat.add_mul];omega)
   have e2:i % (2 * w+1)=i - k * (2 * w+1):=by rw [e1,Zbx] at hd;omega
   rw [e1,e2]
   exact ⟨by omega,q2⟩
 ·rintro ⟨q1,q2⟩
  by_cases e:i / (2 * w+1)=k
  ·refine .inr ?_
   rw [e] at q2 hd
   have e2:i - k * (2 * w+1)=i % (2 * w+1):=by rw [Zbx] at hd;omega
   rw [e2]
   exact ⟨by rw [Zbx] at hd;omega,q2⟩
  ·exact .inl ⟨by omega,q2⟩
theorem BsB.zero {w a b z:Nat}:BsB w a b z 0 0:=fun i=>by
 rw [Nat.zero_testBit]
 exact ⟨fun z=>(by cases z),fun z=>absurd z.1 (Nat.not_lt_zero _)⟩
theorem BsB.fin {w h:Int} (w0:0≤w) {a b z n:Nat} (hz:z≤1) (B:BsB w.toNat a b z h.toNat n) (c:Int×Int) (cl:Cell (2 * w+1) h c.1 c.2) :
  n.testBit (Mth.pl (2 * w+1).toNat c)=if c.1 < w then a.testBit (Mth.pl w.toNat c) else if c.1=w then decide (z=1) else b.testBit (Mth.pl w.toNat (c.1 - w - 1,c.2)):=by
 obtain ⟨x,y⟩:=c
 obtain ⟨c0,c1,r0,r1⟩:=cl
 simp only at c0 c1 r0 r1 ⊢
 obtain ⟨v,rfl⟩:=ZaD w0
 obtain ⟨p,rfl⟩:=ZaD c0
 obtain ⟨q,rfl⟩:=ZaD r0
 have eW:(2 * (v:Int)+1).toNat=2 * v+1:=by omega
 unfold Mth.pl
 rw [eW]
 simp only [Zav]
 have pl':p < 2 * v+1:=by omega
 have e1:(q * (2 * v+1)+p) / (2 * v+1)=q:=by rw [Zbx,Nat.mul_add_div (by omega),Nat.div_eq_of_lt pl',Nat.add_zero]
 have e2:(q * (2 * v+1)+p) % (2 * v+1)=p:=by rw [Zbx,Nat.mul_add_mod,Nat.mod_eq_of_lt pl']
 have key:n.testBit (q * (2 * v+1)+p)=(bsL v a b z q).testBit p:=by
  rw [Bool.eq_iff_iff]
  have:=B (q * (2 * v+1)+p)
  rw [Zav,e1,e2] at this
  rw [this]
  exact ⟨fun x=>x.2,fun x=>⟨by omega,x⟩⟩
 rw [key,Lw hz]
 by_cases g1:p < v
 ·rw [if_pos g1,if_pos (show (p:Int) < (v:Int) by omega)]
 ·rw [if_neg g1,if_neg (show ¬(p:Int) < (v:Int) by omega)]
  by_cases g2:p=v
  ·rw [if_pos g2,if_pos (show (p:Int)=(v:Int) by omega)]
  ·rw [if_neg g2,if_neg (show ¬(p:Int)=(v:Int) by omega),decide_eq_true pl',Bool.true_and,show ((p:Int) - (v:Int) - 1).toNat=p - v - 1 by omega]
section
variable {w h:Int}{m way n i j:Nat}{z:Int}{QS:Out->Prop}
theorem Ly (z0:0≤z) (z1:z < 1000) (q:QS (.nx [some (.sh (.tup [.int w,.int h])),some (.sh (.int m)),some (.sh (.int way)),some (.sh (.int (((n ||| 2 ^ z.toNat:Nat):Int)))),some (.sh (.int i)),some (.sh (.int j)),some (.sh (.int z))])):To (jx [some (.sh (.tup [.int w,.int h])),some (.sh (.int m)),some (.sh (.int way)),some (.sh (.int ((n:Int)))),some (.sh (.int i)),some (.sh (.int j)),some (.sh (.int z))]) QS:=by
 unfold jx
 walk_at "rd"
 have e:(1:Int) * 2 ^ z.toNat=((2 ^ z.toNat:Nat):Int):=by simp
 rw [e,mG]
 exact ⟨z0,by lia,by decide,q⟩
theorem Lz (sz:Sz w h) (hj:(j:Int) < w) (hi:(i:Int) < h) (z0:0≤z) (z1:z < 1000) (q:way≠2->QS (.nx [some (.sh (.tup [.int w,.int h])),some (.sh (.int m)),some (.sh (.int way)),some (.sh (.int (((n ||| 2 ^ z.toNat:Nat):Int)))),some (.sh (.int i)),some (.sh (.int j)),some (.sh (.int z))])) (q2:way=2->QS (.nx [some (.sh (.tup [.int w,.int h])),some (.sh (.int m)),some (.sh (.int way)),some (.sh (.int (((n ||| 2 ^ ((j:Int) * h+i).toNat:Nat):Int)))),some (.sh (.int i)),some (.sh (.int j)),some (.sh (.int ((j:Int) * h+i)))])):To (jy [some (.sh (.tup [.int w,.int h])),some (.sh (.int m)),some (.sh (.int way)),some (.sh (.int ((n:Int)))),some (.sh (.int i)),some (.sh (.int j)),some (.sh (.int z))]) QS:=by
 unfold jy
 walk_at "rd"
 refine qp (fun g=>?_) (fun g=>Ly z0 z1 (q (by lia)))
 have w1:=sz.w1
 have h1:=sz.h1
 have hm:=sz.mul
 have e1:0≤(j:Int) * h:=Int.mul_nonneg (by lia) (by lia)
 have e2:(j:Int) * h≤24 * 24:=Int.mul_le_mul (by lia) h1 (by lia) (by decide)
 unfold nQ
 walk_at "rd"
 exact ⟨.inl ⟨by lia,by lia⟩,Ly (by lia) (by lia) (q2 (by lia))⟩
end
theorem O1 {w h:Int} (sz:Sz w h) {i j:Nat} (cl:Cell w h (j:Int) (i:Int)):(i * w+w - 1 - j:Int).toNat=Mth.pl w.toNat (mvC w h 0 ((j:Int),(i:Int)))∧((h - 1 - i) * w+j:Int).toNat=Mth.pl w.toNat (mvC w h 1 ((j:Int),(i:Int)))∧(j * h+i:Int).toNat=Mth.pl h.toNat (mvC w h 2 ((j:Int),(i:Int)))∧0≤(i * w+w - 1 - j:Int)∧(i * w+w - 1 - j:Int) < 1000∧0≤((h - 1 - i) * w+j:Int)∧((h - 1 - i) * w+j:Int) < 1000:=by
 have a1:=cl.c0
 have a2:=cl.c1
 have a3:=cl.r0
 have a4:=cl.r1
 have k0:Cell w h (w - 1 - j) i:=⟨by lia,by lia,a3,a4⟩
 have k1:Cell w h j (h - 1 - i):=⟨a1,a2,by lia,by lia⟩
 have k2:Cell h w i j:=⟨a3,a4,a1,a2⟩
 have hm:=sz.mul
 have p0:=sz.at k0.c0 k0.c1 k0.r0 k0.r1
 have p1:=sz.at k1.c0 k1.c1 k1.r0 k1.r1
 refine ⟨?_,k1.pl.1,k2.pl.1,by lia,by lia,p1.1,by lia⟩
 rw [show (i * w+w - 1 - j:Int)=i * w+(w - 1 - j) by lia]
 exact k0.pl.1
theorem RZ {w h:Int} (sz:Sz w h) {way m n i j:Nat} (hw:way≤2) (hi:(i:Int) < h) (hj:(j:Int) < w) {v6:Option Sl} (B:MvB w h way m (mvW w h way).toNat i j n) :
  To (jz [some (.sh (.tup [.int w,.int h])),some (.sh (.int m)),some (.sh (.int way)),some (.sh (.int ((n:Int)))),some (.sh (.int i)),some (.sh (.int j)),v6]) fun o=>∃ (n:Nat) (v5 v6:Option Sl),o=.nx [some (.sh (.tup [.int w,.int h])),some (.sh (.int m)),some (.sh (.int way)),some (.sh (.int n)),some (.sh (.int i)),v5,v6]∧MvB w h way m (mvW w h way).toNat i (j+1:Nat) n:=by
 have cl:Cell w h (j:Int) (i:Int):=⟨by lia,hj,by lia,hi⟩
 obtain ⟨e1,e2⟩:=cl.pl
 obtain ⟨s0,s1,s2,b0,b1,b2,b3⟩:=O1 sz cl
 have w1:=sz.w1
 have h1:=sz.h1
 have hb:=Gz m (Mth.pl w.toNat ((j:Int),(i:Int)))
 unfold jz
 walk_at "rd"
 rw [e1]
 refine ⟨.inl ⟨by lia,by lia⟩,e2,qp (fun q=>?_) (fun q=>?_)⟩
 ·rw [decide_eq_true q] at hb
  have B2:=B.yes cl hb.symm
  unfold nT
  walk_at "rd"
  refine ⟨.inl ⟨by lia,by lia⟩,qp (fun q1=>?_) (fun q1=>?_)⟩
  ·have e:way=1:=by lia
   subst e
   unfold nP
   walk_at "rd"
   refine ⟨.inl ⟨by lia,by lia⟩,Lz sz hj hi b2 b3 (fun _=>⟨_,_,_,rfl,?_⟩) fun z=>by cases z⟩
   rw [s1]
   exact B2
  ·refine Lz sz hj hi b0 b1 (fun z=>⟨_,_,_,rfl,?_⟩) fun z=>⟨_,_,_,rfl,?_⟩
   ·have e:way=0:=by lia
    subst e
    rw [s0]
    exact B2
   ·subst z
    rw [s2]
    exact B2
 ·rw [decide_eq_false q] at hb
  exact ⟨n,_,_,rfl,B.no hb.symm⟩
theorem ym {w h:Int} (sz:Sz w h) {way:Nat} (hw:way≤2) (m:Nat):∃ n:Nat,cC [.tup [.int w,.int h],.int m,.int way]=some (.ok (.int n))∧(∀ c:Int×Int,Cell (mvW w h way) (mvW h w way) c.1 c.2->n.testBit (Mth.pl (mvW w h way).toNat c)=m.testBit (Mth.pl w.toNat (mvC w h way c)))∧∀ i,n.testBit i=true->∃ c:Int×Int,Cell (mvW w h way) (mvW h w way) c.1 c.2∧Mth.pl (mvW w h way).toNat c=i:=by
 suffices hh:∃ p,cC [.tup [.int w,.int h],.int m,.int way]=some (.ok p)∧∃ n:Nat,p=.int n∧MvB w h way m (mvW w h way).toNat h 0 n by
  obtain ⟨p,e,n,rfl,q⟩:=hh
  refine ⟨n,e,fun c cl=>q.fin (fun c=>zV w h hw c) (Ls w h way) c cl,fun i hi=>?_⟩
  obtain ⟨c,cl,_,_,z⟩:=(q i).mp hi
  exact ⟨_,(zV w h hw _).mpr (by rw [Ls];exact cl),z⟩
 have w0:=sz.w0
 have w1:=sz.w1
 have h0:=sz.h0
 have h1:=sz.h1
 refine sO (x:=jg (startR [.tup [.int w,.int h],.int m,.int way] 4)) ?_
 unfold jg
 rw [show startR [.tup [.int w,.int h],.int m,.int way] 4=[some (.sh (.tup [.int w,.int h])),some (.sh (.int m)),some (.sh (.int way)),none,none,none,none] from rfl]
 walk_at "rd"
 refine ⟨by omega,by omega,?_⟩
 refine dX (I:=fun i ρ=>∃ (n:Nat) (v4 v5 v6:Option Sl),ρ=[some (.sh (.tup [.int w,.int h])),some (.sh (.int m)),some (.sh (.int way)),some (.sh (.int n)),v4,v5,v6]∧MvB w h way m (mvW w h way).toNat i 0 n) ⟨0,none,none,none,rfl,.zero⟩ ?_ ?_
 ·rintro i x ρ hx ⟨n,v4,v5,v6,rfl,B⟩
  refine vO fun QS hQ=>?_
  obtain ⟨hi,rfl⟩:=oO hx
  have hi:(i:Int) < h:=by omega
  rw [Int.zero_add]
  unfold nU
  walk_at "rd"
  refine ⟨by omega,by omega,?_⟩
  refine dX (I:=fun j ρ=>∃ (n:Nat) (v5 v6:Option Sl),ρ=[some (.sh (.tup [.int w,.int h])),some (.sh (.int m)),some (.sh (.int way)),some (.sh (.int n)),some (.sh (.int i)),v5,v6]∧MvB w h way m (mvW w h way).toNat i j n) ⟨n,v5,v6,rfl,B⟩ ?_ ?_
  ·clear hQ
   rintro j x ρ hx ⟨n,v5,v6,rfl,B⟩
   refine vO fun QS hQ=>?_
   obtain ⟨hj,rfl⟩:=oO hx
   rw [Int.zero_add]
   obtain ⟨o,eo,co,n2,v52,v62,rfl,B2⟩:=RZ sz hw hi (j:=j) (by omega) (v6:=v6) B
   exact ⟨_,eo,co,hQ _ ⟨n2,v52,v62,rfl,B2⟩⟩
  ·rintro ρ ⟨n,v5,v6,rfl,B⟩
   rw [dJ,Za9 (by omega)] at B
   exact hQ _ ⟨n,_,v5,v6,rfl,B.row⟩
 ·rintro ρ ⟨n,v4,v5,v6,rfl,B⟩
  rw [dJ,Za9 (by omega)] at B
  walk_at "rd"
  unfold nW
  walk_at "rd"
  exact ⟨n,rfl,B⟩
theorem IV {w a b z r:Nat} (hw:w≤11) (hz:z≤1):bsL w a b z r < 2 ^ 63:=by
 refine Zap (Nat.lt_pow_two_of_testBit (n:=2 * w+1) _ fun j hj=>Lx hz hj) (Nat.pow_le_pow_right (by decide) (by omega))
theorem LC (a p q:Nat):Builtin.bitAnd ((a:Int) / 2 ^ p) (1 * 2 ^ q - 1)=((a / 2 ^ p % 2 ^ q:Nat):Int):=by
 have e1:(a:Int) / 2 ^ p=((a / 2 ^ p:Nat):Int):=by simp
 have e2:(1:Int) * 2 ^ q - 1=((2 ^ q - 1:Nat):Int):=by
  have:=Zbv q
  have e:(1:Int) * 2 ^ q=((2 ^ q:Nat):Int):=by simp
  rw [e];lia
 rw [e1,e2,jV,Nat.and_two_pow_sub_one_eq_mod]
theorem O2 {w h:Int} (sz:Sz w h) (w11:w≤11) {a b z n r:Nat} (hz:z≤1) (hr:(r:Int) < h) {v7 v8:Option Sl} :
  To (iW ([some (.sh (.tup [.int w,.int h])),some (.sh (.int a)),some (.sh (.int b)),some (.sh (.int z)),some (.sh (.int n)),some (.sh (.int (2 * w+1))),some (.sh (.int r)),v7,v8])) fun o=>∃ v7 v8:Option Sl,o=.nx [some (.sh (.tup [.int w,.int h])),some (.sh (.int a)),some (.sh (.int b)),some (.sh (.int z)),some (.sh (.int ((n ||| bsL w.toNat a b z r * 2 ^ (r * (2 * w.toNat+1)):Nat):Int))),some (.sh (.int (2 * w+1))),some (.sh (.int r)),v7,v8]:=by
 obtain ⟨v,rfl⟩:=ZaD (show 0≤w by have:=sz.w0;lia)
 have v11:v≤11:=by lia
 have h1:=sz.h1
 have r24:r≤24:=by lia
 have e1:((r:Int) * (v:Int)).toNat=r * v:=by rw [←Int.natCast_mul,Zav]
 have e1':0≤(r:Int) * (v:Int):=Int.mul_nonneg (by lia) (by lia)
 have e2:((r:Int) * (2 * (v:Int)+1))=((r * (2 * v+1):Nat):Int):=by push_cast;rfl
 have l2:r * (2 * v+1)≤24 * 23:=Nat.mul_le_mul r24 (by lia)
 have e3:((v:Int)+1).toNat=v+1:=by lia
 have sm:=IV (a:=a) (b:=b) (r:=r) v11 hz
 have zp:(z:Int) * 2 ^ v=((z * 2 ^ v:Nat):Int):=by simp
 have bp:∀ x:Nat,(x:Int) * 2 ^ (v+1)=((x * 2 ^ (v+1):Nat):Int):=fun x=>by push_cast;rfl
 have mb:b / 2 ^ (r * v) % 2 ^ v < 2 ^ v:=Nat.mod_lt _ (Zbv v)
 have mv:2 ^ v≤2 ^ 11:=Nat.pow_le_pow_right (by decide) v11
 have bl:(bsL v a b z r:Nat)=(a / 2 ^ (r * v) % 2 ^ v ||| z * 2 ^ v) ||| b / 2 ^ (r * v) % 2 ^ v * 2 ^ (v+1):=rfl
 have em:∀ b:Nat,Builtin.bitAnd ((b:Int) / 2 ^ ((r:Int) * (v:Int)).toNat) (1 * 2 ^ (v:Int).toNat - 1)=((b / 2 ^ (r * v) % 2 ^ v:Nat):Int):=fun b=>by rw [e1,Zav,LC]
 have eF:Builtin.bitOr (n:Int) (((bsL v a b z r:Nat):Int) * 2 ^ ((r:Int) * (2 * (v:Int)+1)).toNat)=((n ||| bsL v a b z r * 2 ^ (r * (2 * v+1)):Nat):Int):=by
  rw [e2,Zav,show ((bsL v a b z r:Nat):Int) * 2 ^ (r * (2 * v+1))=((bsL v a b z r * 2 ^ (r * (2 * v+1)):Nat):Int) by push_cast;rfl,mG]
 unfold iW
 refine jh ([some (.sh (.tup [.int (v:Int),.int h])),some (.sh (.int a)),some (.sh (.int b)),some (.sh (.int z)),some (.sh (.int n)),some (.sh (.int (2 * (v:Int)+1))),some (.sh (.int r)),some (.sh (.int ((a / 2 ^ (r * v) % 2 ^ v:Nat):Int))),v8]) ?_ ?_
 ·walk_at "rd"
  exact ⟨.inl ⟨by lia,by lia⟩,e1',by lia,by lia,by decide,by rw [em]⟩
 refine jh ([some (.sh (.tup [.int (v:Int),.int h])),some (.sh (.int a)),some (.sh (.int b)),some (.sh (.int z)),some (.sh (.int n)),some (.sh (.int (2 * (v:Int)+1))),some (.sh (.int r)),some (.sh (.int ((a / 2 ^ (r * v) % 2 ^ v:Nat):Int))),some (.sh (.int ((b / 2 ^ (r * v) % 2 ^ v:Nat):Int)))]) ?_ ?_
 ·walk_at "rd"
  exact ⟨.inl ⟨by lia,by lia⟩,e1',by lia,by lia,by decide,by rw [em]⟩
 refine jh ([some (.sh (.tup [.int (v:Int),.int h])),some (.sh (.int a)),some (.sh (.int b)),some (.sh (.int z)),some (.sh (.int n)),some (.sh (.int (2 * (v:Int)+1))),some (.sh (.int r)),some (.sh (.int ((a / 2 ^ (r * v) % 2 ^ v ||| z * 2 ^ v:Nat):Int))),some (.sh (.int ((b / 2 ^ (r * v) % 2 ^ v:Nat):Int)))]) ?_ ?_
 ·walk_at "rd"
  exact ⟨by lia,by lia,by lia,by rw [Zav,zp,mG]⟩
 walk_at "rd"
 rw [e3,bp,mG,←bl,eF]
 exact ⟨by lia,by lia,by lia,.inl ⟨by lia,by lia⟩,by lia,by lia,by lia,_,_,rfl⟩
theorem wK {w h:Int} (sz:Sz w h) (w11:w≤11) (a b:Nat) {z:Nat} (hz:z≤1):∃ n:Nat,bW [.tup [.int w,.int h],.int a,.int b,.int z]=some (.ok (.int n))∧BsB w.toNat a b z h.toNat n:=by
 suffices hh:∃ p,bW [.tup [.int w,.int h],.int a,.int b,.int z]=some (.ok p)∧∃ n:Nat,p=.int n∧BsB w.toNat a b z h.toNat n by
  obtain ⟨p,e,n,rfl,q⟩:=hh
  exact ⟨n,e,q⟩
 have h0:=sz.h0
 have h1:=sz.h1
 refine sO (x:=iz (startR [.tup [.int w,.int h],.int a,.int b,.int z] 5)) ?_
 unfold iz
 rw [show startR [.tup [.int w,.int h],.int a,.int b,.int z] 5=[some (.sh (.tup [.int w,.int h])),some (.sh (.int a)),some (.sh (.int b)),some (.sh (.int z)),none,none,none,none,none] from rfl]
 walk_at "rd"
 refine ⟨.inl ⟨by omega,by omega⟩,by omega,by omega,?_⟩
 refine dX (I:=fun i ρ=>∃ (n:Nat) (v6 v7 v8:Option Sl),ρ=[some (.sh (.tup [.int w,.int h])),some (.sh (.int a)),some (.sh (.int b)),some (.sh (.int z)),some (.sh (.int n)),some (.sh (.int (2 * w+1))),v6,v7,v8]∧BsB w.toNat a b z i n) ⟨0,none,none,none,rfl,.zero⟩ ?_ ?_
 ·rintro i x ρ hx ⟨n,v6,v7,v8,rfl,B⟩
  refine vO fun QS hQ=>?_
  obtain ⟨hi,rfl⟩:=oO hx
  rw [Int.zero_add]
  obtain ⟨o,eo,co,v72,v82,rfl⟩:=O2 sz w11 (a:=a) (b:=b) (n:=n) (r:=i) hz (by omega) (v7:=v7) (v8:=v8)
  exact ⟨_,eo,co,hQ _ ⟨_,_,v72,v82,rfl,B.step hz⟩⟩
 ·rintro ρ ⟨n,v6,v7,v8,rfl,B⟩
  rw [dJ] at B
  walk_at "rd"
  unfold mK
  walk_at "rd"
  exact ⟨n,rfl,B⟩
theorem Di {a b:Nat} (h:∀ i,a.testBit i=true->b.testBit i=false):a &&& b=0:=by
 apply Nat.eq_of_testBit_eq
 intro i
 rw [Zbw,Nat.zero_testBit]
 cases e:a.testBit i with
 | false=>rfl
 | true=>rw [h i e];rfl
theorem zW {a b:Nat} (h:a &&& b=0) {i:Nat} (hi:a.testBit i=true):b.testBit i=false:=by
 have:=congrArg (fun n=>n.testBit i) h
 simp only [Zbw,hi,Bool.true_and,Nat.zero_testBit] at this
 exact this
theorem R4 {w h:Int} (sz:Sz w h) (way:Nat):Sz (mvW w h way) (mvW h w way):=by
 unfold mvW
 by_cases e:way=2
 ·rw [if_pos e,if_pos e];exact ⟨sz.h0,sz.h1,sz.w0,sz.w1⟩
 ·rw [if_neg e,if_neg e];exact sz
theorem IW {w h:Int} (sz:Sz w h) {away keep n:Nat} (no:away &&& keep=0) (F:Few w h away keep n) {way:Nat} (hw:way≤2):∃ a k:Nat,cC [.tup [.int w,.int h],.int away,.int way]=some (.ok (.int a))∧cC [.tup [.int w,.int h],.int keep,.int way]=some (.ok (.int k)) ∧
  cW [.tup [.int (mvW w h way),.int (mvW h w way)],.int a,.int k]=some (.ok (.int n)):=by
 obtain ⟨a,ea,ba,ca⟩:=ym sz hw away
 obtain ⟨k,ek,bk,_⟩:=ym sz hw keep
 have no2:a &&& k=0:=Di fun i hi=>by
  obtain ⟨c,cl,rfl⟩:=ca i hi
  rw [ba c cl] at hi
  rw [bk c cl]
  exact zW no hi
 obtain ⟨n2,en,F2⟩:=rJ (R4 sz way) no2
 have e:=Iz F F2 (Qj w h way) (Qj w h way) (zV w h hw) (Ls w h way) ba bk
 rw [e] at en
 exact ⟨a,k,ea,ek,en⟩
theorem O3 {w h:Int} (sz:Sz w h) (w11:w≤11) {a1 k1 a2 k2 n1 n2:Nat} (no1:a1 &&& k1=0) (no2:a2 &&& k2=0) (F1:Few w h a1 k1 n1) (F2:Few w h a2 k2 n2):∃ a k:Nat,bW [.tup [.int w,.int h],.int a1,.int a2,.int ((0:Nat):Int)]=some (.ok (.int a))∧bW [.tup [.int w,.int h],.int k1,.int k2,.int ((1:Nat):Int)]=some (.ok (.int k)) ∧
  cW [.tup [.int (2 * w+1),.int h],.int a,.int k]=some (.ok (.int ((n1+n2:Nat):Int))):=by
 have w0:=sz.w0
 obtain ⟨a,ea,ba⟩:=wK sz w11 a1 a2 (z:=0) (by decide)
 obtain ⟨k,ek,bk⟩:=wK sz w11 k1 k2 (z:=1) (by decide)
 have ha:=ba.fin (by lia) (by decide)
 have hk:=bk.fin (by lia) (by decide)
 have sz2:Sz (2 * w+1) h:=⟨by lia,by lia,sz.h0,sz.h1⟩
 have no:a &&& k=0:=Di fun i hi=>by
  have hi2:=(ba i).mp hi
  have cr:Mth.InR (2 * w+1).toNat h.toNat (Mth.cellOf (2 * w+1).toNat i):=by
   refine Mth.rR ?_
   rw [show (2 * w+1).toNat=2 * w.toNat+1 by lia]
   exact (Nat.div_lt_iff_lt_mul (by lia)).mp hi2.1 |> fun z=>by rw [Zbx];exact z
  have cl:=Cell.of cr
  have ep:=Mth.rQ (2 * w+1).toNat i
  generalize Mth.cellOf (2 * w+1).toNat i=c at cl ep
  rw [←ep] at hi ⊢
  rw [ha c cl] at hi
  rw [hk c cl]
  by_cases q1:c.1 < w
  ·rw [if_pos q1] at hi ⊢;exact zW no1 hi
  ·rw [if_neg q1] at hi ⊢
   by_cases q2:c.1=w
   ·rw [if_pos q2] at hi;cases hi
   ·rw [if_neg q2] at hi ⊢;exact zW no2 hi
 obtain ⟨n,en,F⟩:=rJ sz2 no
 have e:=Ff rfl F1 F2 F (fun c cl=>ha c cl) fun c cl=>hk c cl
 rw [e] at en
 exact ⟨a,k,ea,ek,en⟩
theorem O4 {ns:List Int}{w h:Int}{away keep n1 i:Nat} (hi:i < 3) (tk:∀ way:Nat,way≤2->∃ a k:Nat,cC [.tup [.int w,.int h],.int away,.int way]=some (.ok (.int a))∧cC [.tup [.int w,.int h],.int keep,.int way]=some (.ok (.int k)) ∧
  cW [.tup [.int (mvW w h way),.int (mvW h w way)],.int a,.int k]=some (.ok (.int n1))) {v6:Option Sl}:To (zB [some (.sh (.lst (ns.map .int))),some (.sh (.tup [.int w,.int h])),some (.sh (.int away)),some (.sh (.int keep)),some (.sh (.int n1)),some (.sh (.int (i:Int))),v6,none,none,none,none]) fun o=>∃ v6:Option Sl,o=.nx [some (.sh (.lst (ns.map .int))),some (.sh (.tup [.int w,.int h])),some (.sh (.int away)),some (.sh (.int keep)),some (.sh (.int n1)),some (.sh (.int (i:Int))),v6,none,none,none,none]:=by
 obtain ⟨a,k,ea,ek,en⟩:=tk i (by lia)
 have fin:∀ p:PV,p=.tup [.int (mvW w h i),.int (mvW h w i)]->To (zA [some (.sh (.lst (ns.map .int))),some (.sh (.tup [.int w,.int h])),some (.sh (.int away)),some (.sh (.int keep)),some (.sh (.int n1)),some (.sh (.int (i:Int))),some (.sh p),none,none,none,none]) fun o=>∃ v6:Option Sl,o=.nx [some (.sh (.lst (ns.map .int))),some (.sh (.tup [.int w,.int h])),some (.sh (.int away)),some (.sh (.int keep)),some (.sh (.int n1)),some (.sh (.int (i:Int))),v6,none,none,none,none]:=fun p ep=>by
  unfold zA
  walk_at "rd"
  rw [ea,tv_some,ek,tv_some,ep,en]
  walk_at "rd"
  exact ⟨_,rfl⟩
 unfold zB
 walk_at "rd"
 refine qp (fun q=>?_) (fun q=>fin _ ?_)
 ·unfold Gw
  walk_at "rd"
  refine ⟨by decide,fin _ ?_⟩
  unfold mvW
  rw [if_pos (by lia),if_pos (by lia)]
 ·unfold mvW
  rw [if_neg (by lia),if_neg (by lia)]
theorem law_main (ns:List Int) (hn:ns.length≤63):yc [.lst (ns.map .int)]=some (.ok (.bl true)):=by
 obtain ⟨c1,ec1⟩:=sW ns 1 (by decide)
 obtain ⟨c2,ec2⟩:=sW ns 2 (by decide)
 obtain ⟨c3,ec3⟩:=sW ns 3 (by decide)
 obtain ⟨w,h,es,sz,w12,h12⟩:=Iw c1
 obtain ⟨away,keep,f1,al,kl,no⟩:=tU sz c2 0 (by lia)
 obtain ⟨out,stay,f2,ol,sl,no2⟩:=tU sz c3 1 (by lia)
 obtain ⟨n1,g1,F1⟩:=rJ sz no
 obtain ⟨n2,g2,F2⟩:=rJ sz no2
 have w0:=sz.w0
 have h0:=sz.h0
 refine lX (x:=Gy (startR [.lst (ns.map .int)] 10)) ?_
 unfold Gy
 rw [show startR [.lst (ns.map .int)] 10=[some (.sh (.lst (ns.map .int))),none,none,none,none,none,none,none,none,none,none] from rfl]
 refine jh ([some (.sh (.lst (ns.map .int))),some (.sh (.tup [.int w,.int h])),none,none,none,none,none,none,none,none,none]) ?_ ?_
 ·walk_at "rd"
  rw [show cV [.lst (ns.map .int),.int 1]=some (.ok (.int c1)) from ec1,tv_some,es,tv_some]
 refine jh ([some (.sh (.lst (ns.map .int))),some (.sh (.tup [.int w,.int h])),some (.sh (.int away)),some (.sh (.int keep)),none,none,none,none,none,none,none]) ?_ ?_
 ·walk_at "rd"
  rw [show cV [.lst (ns.map .int),.int 2]=some (.ok (.int c2)) from ec2,tv_some,show cF [.tup [.int w,.int h],.int c2,.int 0]=some (.ok (.lst [.int away,.int keep])) from f1,tv_some]
  exact ⟨_,rfl,rfl⟩
 refine jh ([some (.sh (.lst (ns.map .int))),some (.sh (.tup [.int w,.int h])),some (.sh (.int away)),some (.sh (.int keep)),some (.sh (.int n1)),none,none,none,none,none,none]) ?_ ?_
 ·walk_at "rd"
  rw [g1,tv_some]
 walk_at "rd"
 refine ⟨by decide,by decide,?_⟩
 refine dX (I:=fun _ ρ=>∃ v5 v6:Option Sl,ρ=[some (.sh (.lst (ns.map .int))),some (.sh (.tup [.int w,.int h])),some (.sh (.int away)),some (.sh (.int keep)),some (.sh (.int n1)),v5,v6,none,none,none,none]) ⟨none,none,rfl⟩ ?_ ?_
 ·rintro i x ρ hx ⟨v5,v6,rfl⟩
  refine vO fun QS hQ=>?_
  obtain ⟨hi,rfl⟩:=oO hx
  rw [Int.zero_add]
  obtain ⟨o,eo,co,v62,rfl⟩:=O4 (ns:=ns) (w:=w) (h:=h) (away:=away) (keep:=keep) (n1:=n1) hi (fun way hw=>IW sz no F1 hw) (v6:=v6)
  exact ⟨_,eo,co,hQ _ ⟨_,v62,rfl⟩⟩
 ·rintro ρ ⟨v5,v6,rfl⟩
  walk_at "rd"
  unfold Gx
  walk_at "rd"
  have w0:=sz.w0
  have five:∀ ρ:Rho,To (zE ρ) (Cv (fun ρ'=>To (zF ρ') fun o=>fin (some o)=some (Res.ok (PV.bl true))) fun o=>fin (some o)=some (Res.ok (PV.bl true))):=fun ρ=>by
   unfold zE
   walk_at "rd"
  refine qp (fun _=>five _) (fun q=>⟨.inl ⟨by lia,by lia⟩,qp (fun _=>five _) (fun _=>?_)⟩)
  obtain ⟨a,k,ea,ek,en⟩:=O3 sz (by lia) no no2 F1 F2
  unfold zF
  refine jh ([some (.sh (.lst (ns.map .int))),some (.sh (.tup [.int w,.int h])),some (.sh (.int away)),some (.sh (.int keep)),some (.sh (.int n1)),v5,v6,some (.sh (.int out)),some (.sh (.int stay)),none,none]) ?_ ?_
  ·walk_at "rd"
   rw [show cV [.lst (ns.map .int),.int 3]=some (.ok (.int c3)) from ec3,tv_some,show cF [.tup [.int w,.int h],.int c3,.int 1]=some (.ok (.lst [.int out,.int stay])) from f2,tv_some]
   exact ⟨_,rfl,rfl⟩
  refine jh ([some (.sh (.lst (ns.map .int))),some (.sh (.tup [.int w,.int h])),some (.sh (.int away)),some (.sh (.int keep)),some (.sh (.int n1)),v5,v6,some (.sh (.int out)),some (.sh (.int stay)),some (.sh (.tup [.int (2 * w+1),.int h])),none]) ?_ ?_
  ·walk_at "rd"
   exact ⟨.inl ⟨by decide,by lia⟩,by decide⟩
  refine jh ([some (.sh (.lst (ns.map .int))),some (.sh (.tup [.int w,.int h])),some (.sh (.int away)),some (.sh (.int keep)),some (.sh (.int n1)),v5,v6,some (.sh (.int out)),some (.sh (.int stay)),some (.sh (.tup [.int (2 * w+1),.int h])),some (.sh (.int ((n1+n2:Nat):Int)))]) ?_ ?_
  ·walk_at "rd"
   rw [show bW [.tup [.int w,.int h],.int away,.int out,.int 0]=some (.ok (.int a)) from ea,tv_some,show bW [.tup [.int w,.int h],.int keep,.int stay,.int 1]=some (.ok (.int k)) from ek,tv_some,en,tv_some]
  walk_at "rd"
  rw [g2,tv_some]
  walk_at "rd"
  first | exact decide_eq_true (by push_cast;rfl) | (push_cast;rfl)
noncomputable def top (i:Nat):Stmt:=PySem.Challenge.pw_lostblock_k32_whole_boards_turned.main.body.getD i (.Pass ⟨0,0,0,0⟩)
noncomputable def eD (P:Params) (x:Str) (t:Tok) (v:Value):DictEntry:={ hash:=PyData.keyHash P x,key:=.str x t,val:=v }
noncomputable def fO (n:Str) (i:Nat) (pm:Value) (c:Nat):Obj:={ cls:=.type "function",data:=.func (PySem.W.fnOf n n (bx (top i)) (bj (top i)) (aN (top i)) .none .none .none pm none (.ref c) .none) }
noncomputable def cO (n:Str) (t1 t2 t3:Tok) (l k:Int) (a:Nat) (m:Int) (b:Nat) (u v:Value) (c:Nat) (z:Int) (t4:Tok):Obj:={ cls:=.type "code",data:=.fields #[.str n t1,.str n t2,.str "/claim/cut.py" t3,.int l 0,.int k 0,.int 0 0,.int 0 0,.int 3 0,.ref a,.bool true,.int m 0,.ref b,.none,u,v,.ref c,.int z 0,.int l 0,.str "/claim/cut.py" t4] }
noncomputable def KK:Params->PySem.W.Frag:=fun P=>(nat_lit 3,{ cls:=.type "dict",data:=.dict #[eD P "__name__" 165 (.str "law_lostblock_k32_whole_boards_turned" 387),eD P "__doc__" 166 .none,eD P "__package__" 167 .none,eD P "__loader__" 168 (.builtin "__main__.__loader__#opaque"),eD P "__spec__" 169 .none,eD P "__annotations__" 170 (.ref 6),eD P "__builtins__" 171 (.ref 4),eD P "__file__" 173 (.str "/claim/cut.py" 172),eD P "__cached__" 174 .none,eD P "BlockError" 206 (.ref 24),eD P "Kept" 233 (.ref 44),eD P "place_of" 243 (.ref 53),eD P "has_cell" 252 (.ref 60),eD P "all_cells" 258 (.ref 65),eD P "set_of" 268 (.ref 72),eD P "cells_of" 274 (.ref 77),eD P "walked" 290 (.ref 84),eD P "pair_anew" 303 (.ref 91),eD P "most_pairs" 314 (.ref 98),eD P "short_of_givers" 320 (.ref 103),eD P "ROW" 324 (.str "row" 323),eD P "COLUMN" 326 (.str "column" 325),eD P "lines_of" 334 (.ref 110),eD P "length_of" 342 (.ref 117),eD P "stroke_cells" 348 (.ref 122),eD P "longest_strokes" 354 (.ref 127),eD P "longest_by_cell" 367 (.ref 134),eD P "crossings" 380 (.ref 141),eD P "fewest_strokes" 386 (.ref 146),eD P "_law_cell" 397 (.ref 153),eD P "_law_mixed" 406 (.ref 160),eD P "_law_size" 414 (.ref 167),eD P "_law_set" 427 (.ref 174),eD P "_law_carving" 439 (.ref 181),eD P "_law_moved" 452 (.ref 188),eD P "_law_beside" 467 (.ref 195),eD P "_law_many" 476 (.ref 202),eD P "law" 493 (.ref 209)] 38 })::(nat_lit 52,cO "place_of" 236 237 238 10 2 47 181 48 (.ref 49) (.ref 50) 51 241 242)::(nat_lit 53,fO "place_of" 4 (.str "lostblock.boards" 234) 52)::(nat_lit 59,cO "has_cell" 244 245 246 12 3 54 181 55 (.ref 56) (.ref 57) 58 250 251)::(nat_lit 60,fO "has_cell" 5 (.str "lostblock.boards" 234) 59)::(nat_lit 64,cO "all_cells" 253 254 255 14 1 61 181 62 .none .none 63 256 257)::(nat_lit 65,fO "all_cells" 6 (.str "lostblock.boards" 234) 64)::(nat_lit 71,cO "set_of" 259 260 261 16 2 66 181 67 (.ref 68) (.ref 69) 70 266 267)::(nat_lit 72,fO "set_of" 7 (.str "lostblock.boards" 234) 71)::(nat_lit 76,cO "cells_of" 269 270 271 21 2 73 181 74 .none .none 75 272 273)::(nat_lit 77,fO "cells_of" 8 (.str "lostblock.boards" 234) 76)::(nat_lit 83,cO "walked" 277 278 279 24 3 78 181 79 (.ref 80) (.ref 81) 82 288 289)::(nat_lit 84,fO "walked" 10 (.str "lostblock.matching" 275) 83)::(nat_lit 90,cO "pair_anew" 291 292 293 39 4 85 181 86 (.ref 87) (.ref 88) 89 301 302)::(nat_lit 91,fO "pair_anew" 11 (.str "lostblock.matching" 275) 90)::(nat_lit 97,cO "most_pairs" 304 305 306 47 1 92 181 93 (.ref 94) (.ref 95) 96 312 313)::(nat_lit 98,fO "most_pairs" 12 (.str "lostblock.matching" 275) 97)::(nat_lit 102,cO "short_of_givers" 315 316 317 54 2 99 181 100 .none .none 101 318 319)::(nat_lit 103,fO "short_of_givers" 13 (.str "lostblock.matching" 275) 102)::(nat_lit 109,cO "lines_of" 327 328 329 61 2 104 181 105 (.ref 106) (.ref 107) 108 332 333)::(nat_lit 110,fO "lines_of" 17 (.str "lostblock.strokes" 321) 109)::(nat_lit 116,cO "length_of" 335 336 337 63 2 111 181 112 (.ref 113) (.ref 114) 115 340 341)::(nat_lit 117,fO "length_of" 18 (.str "lostblock.strokes" 321) 116)::(nat_lit 121,cO "stroke_cells" 343 344 345 65 1 118 181 119 .none .none 120 346 347)::(nat_lit 122,fO "stroke_cells" 19 (.str "lostblock.strokes" 321) 121)::(nat_lit 126,cO "longest_strokes" 349 350 351 69 4 123 181 124 .none .none 125 352 353)::(nat_lit 127,fO "longest_strokes" 20 (.str "lostblock.strokes" 321) 126)::(nat_lit 133,cO "longest_by_cell" 355 356 357 74 3 128 181 129 (.ref 130) (.ref 131) 132 365 366)::(nat_lit 134,fO "longest_by_cell" 21 (.str "lostblock.strokes" 321) 133)::(nat_lit 140,cO "crossings" 368 369 370 81 3 135 181 136 (.ref 137) (.ref 138) 139 378 379)::(nat_lit 141,fO "crossings" 22 (.str "lostblock.strokes" 321) 140)::(nat_lit 145,cO "fewest_strokes" 381 382 383 88 3 142 181 143 .none .none 144 384 385)::(nat_lit 146,fO "fewest_strokes" 23 (.str "lostblock.strokes" 321) 145)::(nat_lit 152,cO "_law_cell" 389 390 391 99 2 147 181 148 (.ref 149) (.ref 150) 151 395 396)::(nat_lit 153,fO "_law_cell" 25 (.str "law_lostblock_k32_whole_boards_turned" 387) 152)::(nat_lit 159,cO "_law_mixed" 398 399 400 106 2 154 181 155 (.ref 156) (.ref 157) 158 404 405)::(nat_lit 160,fO "_law_mixed" 26 (.str "law_lostblock_k32_whole_boards_turned" 387) 159)::(nat_lit 166,cO "_law_size" 407 408 409 112 1 161 181 162 (.ref 163) (.ref 164) 165 412 413)::(nat_lit 167,fO "_law_size" 27 (.str "law_lostblock_k32_whole_boards_turned" 387) 166)::(nat_lit 173,cO "_law_set" 415 416 417 117 3 168 181 169 (.ref 170) (.ref 171) 172 425 426)::(nat_lit 174,fO "_law_set" 28 (.str "law_lostblock_k32_whole_boards_turned" 387) 173)::(nat_lit 180,cO "_law_carving" 428 429 430 129 3 175 181 176 (.ref 177) (.ref 178) 179 437 438)::(nat_lit 181,fO "_law_carving" 29 (.str "law_lostblock_k32_whole_boards_turned" 387) 180)::(nat_lit 187,cO "_law_moved" 440 441 442 138 3 182 181 183 (.ref 184) (.ref 185) 186 450 451)::(nat_lit 188,fO "_law_moved" 30 (.str "law_lostblock_k32_whole_boards_turned" 387) 187)::(nat_lit 194,cO "_law_beside" 453 454 455 150 4 189 181 190 (.ref 191) (.ref 192) 193 465 466)::(nat_lit 195,fO "_law_beside" 31 (.str "law_lostblock_k32_whole_boards_turned" 387) 194)::(nat_lit 201,cO "_law_many" 468 469 470 159 3 196 181 197 (.ref 198) (.ref 199) 200 474 475)::(nat_lit 202,fO "_law_many" 32 (.str "law_lostblock_k32_whole_boards_turned" 387) 201)::(nat_lit 208,cO "law" 477 478 479 161 1 203 181 204 (.ref 205) (.ref 206) 207 491 492)::(nat_lit 209,fO "law" 33 (.str "law_lostblock_k32_whole_boards_turned" 387) 208)::[]
structure Txt (mg:Str->Option Value):Prop where
 tt:True
 b_dict:mg "dict"=none
 b_enumerate:mg "enumerate"=none
 b_len:mg "len"=none
 b_list:mg "list"=none
 b_range:mg "range"=none
 b_sorted:mg "sorted"=none
 b_zip:mg "zip"=none
 c_COLUMN:∃ t,mg "COLUMN"=some (.str "column" t)
 c_ROW:∃ t,mg "ROW"=some (.str "row" t)
section
seal PE PA PS PSs PG PGs PI PPs MJ MT MA MAL MO MS MG MGs MI
variable {P:Program}{w:World}{K:PySem.W.Frag}{mg:Str->Option Value}{base:Heap}
theorem Dj:bF ["size","cell"] ["size","cell"] (aN (top 4)):=⟨rfl,rfl,rfl,by decide +kernel,rfl,by decide +kernel,by decide +kernel⟩
theorem Dk (T:Txt mg) (D:bD K mg "place_of" (top 4) ["size","cell"]):FnAt P w K mg base "place_of" 1 ["size","cell"] (spM K XR0 gZ):=by
 refine D.ok Dj (fun vs H Q E h=>dO h fun ps r e=>match ps,e with | [_,_],_=>rfl) (fun f cdv A outer s H vs Q E hr h=>?_)
 refine ⟨_,(aU (bM (aM bB (aM bH (bh aY (pv 1) aq (fun _ _=>rfl)) (bh aY (pv 0) aq (fun _ _=>rfl))) (bh aY (pv 1) aq (fun _ _=>rfl))))),dN (b:=pZ) (k:=2) (n:=0) rfl (fun ps r e=>match ps,e with | [_,_],e=>⟨rfl,e⟩) h fun io H0 F0 hio=>?_⟩
 exact (du (aA aF.up cU (aA aF.up dF (aA aF.up cz (aj 1) au) (aA aF.up cz (aj 0) au)) (aA aF.up cz (aj 1) au)))
theorem Dl:bF ["size","some","cell"] ["size","some","cell"] (aN (top 5)):=⟨rfl,rfl,rfl,by decide +kernel,rfl,by decide +kernel,by decide +kernel⟩
theorem Dm (T:Txt mg) (D:bD K mg "has_cell" (top 5) ["size","some","cell"]) (G_place_of:FnAt P w K mg base "place_of" 1 ["size","cell"] (spM K XR0 gZ)):FnAt P w K mg base "has_cell" 2 ["size","some","cell"] (spM K XR0 g8):=by
 refine D.ok Dl (fun vs H Q E h=>dO h fun ps r e=>match ps,e with | [_,_,_],_=>rfl) (fun f cdv A outer s H vs Q E hr h=>?_)
 refine ⟨_,(aU (bM (Ft (gm hr) (aM mW (aM uG (pv 1) (aW G_place_of (hr.mono (by decide)) rfl (ak (pv 0) (ak (pv 2) aO)))) aq) aq (cN _)))),dN (b:=p6) (k:=3) (n:=0) rfl (fun ps r e=>match ps,e with | [_,_,_],e=>⟨rfl,e⟩) h fun io H0 F0 hio=>?_⟩
 exact (du (aA aH.up qH (cP (aA aF.up tL (aA aF.up Bg (aj 1) (bG (ao (aj 0) (ao (aj 2) aQ)))) au)) (cP au)))
theorem zX:bF ["size"] ["size"] (aN (top 6)):=⟨rfl,rfl,rfl,by decide +kernel,rfl,by decide +kernel,by decide +kernel⟩
theorem zY (T:Txt mg) (D:bD K mg "all_cells" (top 6) ["size"]):FnAt P w K mg base "all_cells" 1 ["size"] (spO K XR0 jO):=by
 refine D.ok zX (fun vs H Q E h=>lK h fun ps r e=>match ps,e with | [_],_=>rfl) (fun f cdv A outer s H vs Q E hr h=>?_)
 refine ⟨_,(aU (bM (ir ["place","size"] [none,some 0] rfl (gR rfl T.b_range (ak (aM bH (bh aY (pv 0) aq (fun _ _=>rfl)) (bh aY (pv 0) aq (fun _ _=>rfl))) aO)) (fun _ _ _ _ _=>(dC (i:=0) (by decide +kernel) rfl rfl)) (fun _ _ _ _ _=>uJ) (fun _ _ _ _ _=>(fV (ak (aM eG (pvl 0) (bh lL (pvf 1) aq (fun _ _=>rfl))) (ak (aM ql (pvl 0) (bh lL (pvf 1) aq (fun _ _=>rfl))) aO))))))),lJ (b:=nC) (k:=1) (n:=0) rfl (fun ps r e=>match ps,e with | [_],e=>⟨rfl,e⟩) h fun io H0 F0 hio=>?_⟩
 exact (lF (oH (lH (ao (aA aF.up dF (aA aF.up cz (aj 0) au) (aA aF.up cz (aj 0) au)) aQ)) (aL 0) (dZ 0) uV (gU (ao (aA aF.up iC (aj 0) (aA aF.up cz (aj 1) au)) (ao (aA aF.up Bf (aj 0) (aA aF.up cz (aj 1) au)) aQ)))))
theorem oR:bF ["size","cells","some","cell"] ["size","cells"] (aN (top 7)):=⟨rfl,rfl,rfl,by decide +kernel,rfl,by decide +kernel,by decide +kernel⟩
theorem Ja (T:Txt mg) (D:bD K mg "set_of" (top 7) ["size","cells"]) (G_place_of:FnAt P w K mg base "place_of" 1 ["size","cell"] (spM K XR0 gZ)):FnAt P w K mg base "set_of" 2 ["size","cells"] (spM K XR0 rB):=by
 refine D.ok oR (fun vs H Q E h=>dO h fun ps r e=>match ps,e with | [_,_],_=>rfl) (fun f cdv A outer s H vs Q E hr h=>?_)
 refine ⟨_,(aC (aX (i:=2) oR.nd rfl (Or.inl rfl) aq)
   (aC (iQ ZaP rfl (oF (pv 1)) (dB (i:=3) oR.nd rfl (Or.inl rfl))
    (aU (aX (i:=2) oR.nd rfl (Or.inl rfl) (aM Ak (pv 2) (aM jW aq (aW G_place_of (hr.mono (by decide)) rfl (ak (pv 0) (ak (pv 3) aO))))))))
   (aU (bM (pv 2))))),dN (b:=vW) (k:=2) (n:=2) rfl (fun ps r e=>match ps,e with | [_,_],e=>⟨rfl,e⟩) h fun io H0 F0 hio=>?_⟩
 exact (aP (aZ au (aL 2))
   (aP (jo (oG (aj 1)) (aL 3)
    (aZ (aA aF.up JX (aj 2) (aA aF.up oY au (bG (ao (aj 0) (ao (aj 3) aQ))))) (aL 2)))
   (du (aj 2))))
theorem Dn:bF ["size","some"] ["size","some"] (aN (top 8)):=⟨rfl,rfl,rfl,by decide +kernel,rfl,by decide +kernel,by decide +kernel⟩
theorem Do (T:Txt mg) (D:bD K mg "cells_of" (top 8) ["size","some"]) (G_all_cells:FnAt P w K mg base "all_cells" 1 ["size"] (spO K XR0 jO)) (G_has_cell:FnAt P w K mg base "has_cell" 2 ["size","some","cell"] (spM K XR0 g8)):FnAt P w K mg base "cells_of" 3 ["size","some"] (spO K XR0 fZ):=by
 refine D.ok Dn (fun vs H Q E h=>lK h fun ps r e=>match ps,e with | [_,_],_=>rfl) (fun f cdv A outer s H vs Q E hr h=>?_)
 refine ⟨_,(aU (bM (ir ["cell","size","some"] [none,some 0,some 1] rfl (oF (aW G_all_cells (hr.mono (by decide)) rfl (ak (pv 0) aO))) (fun _ _ _ _ _=>(dC (i:=0) (by decide +kernel) rfl rfl)) (fun _ _ _ _ _=>(uK (Jj (aW G_has_cell (hr.mono (by decide)) (glc rfl) (ak (pvf 1) (ak (pvf 2) (ak (pvl 0) aO))))))) (fun _ _ _ _ _=>(pvl 0))))),lJ (b:=p7) (k:=2) (n:=0) rfl (fun ps r e=>match ps,e with | [_,_],e=>⟨rfl,e⟩) h fun io H0 F0 hio=>?_⟩
 exact (lF (oH (oG (cY (fQ (ao (aj 0) aQ)))) (aL 0) (dZ 0) (JK (bG (ao (aj 1) (ao (aj 2) (ao (aj 0) aQ))))) (aj 0)))
theorem ik:bF ["wishes","asker_of","starts","askers","came_by","place","asker","giver"] ["wishes","asker_of","starts"] (aN (top 10)):=⟨rfl,rfl,rfl,by decide +kernel,rfl,by decide +kernel,by decide +kernel⟩
theorem Jb (T:Txt mg) (D:bD K mg "walked" (top 10) ["wishes","asker_of","starts"]):FnAt P w K mg base "walked" 1 ["wishes","asker_of","starts"] (spD K XR0 ju):=by
 refine D.ok ik (fun vs H Q E h=>FQ h fun ps r e=>match ps,e with | [_,_,_],_=>rfl) (fun f cdv A outer s H vs Q E hr h=>?_)
 refine ⟨_,(aC (aX (i:=3) ik.nd rfl (Or.inl rfl) (xg yD rfl T.b_list (by decide +kernel) (ak (pv 2) aO)))
   (aC (aX (i:=4) ik.nd rfl (Or.inl rfl) m5)
   (aC (aX (i:=5) ik.nd rfl (Or.inl rfl) aq)
   (aC (Ag ZaP (bO Ec (pv 5) (gk j8 rfl T.b_len (by decide +kernel) (ak (pv 3) aO)) (cN _))
    (aC (aX (i:=6) ik.nd rfl (Or.inl rfl) (bh aY (pv 3) (pv 5) (fun _ _=>rfl)))
    (aC (iQ ZaP rfl (oF (nj hr (pv 0) (pv 6) (fun _ _=>rfl))) (dB (i:=7) ik.nd rfl (Or.inl rfl))
     (aC (gO (bO (Ra hr) (pv 7) (pv 4) (by with_unfolding_all rfl))
      (aU Af)
      dg)
     (aC (ud (qm hr) (pv 4) (pv 7) (pv 6) rfl)
     (aC (gO (bO (xJ hr) (pv 7) (pv 1) (by with_unfolding_all rfl))
      (aU (bM (fV (ak (pv 7) (ak (pv 3) (ak (pv 4) aO))))))
      dg)
     (aU (yr (Pn PySem.F.plainAttrs_list PySem.F.slot_list_append PySem.F.type_list_append rO (pv 3) (ak (nj hr (pv 1) (pv 7) (fun _ _=>rfl)) aO))))))))
    (aU (aX (i:=5) ik.nd rfl (Or.inl rfl) (aM bB (pv 5) aq))))))
   (aU (bM (fV (ak Ji (ak (pv 3) (ak (pv 4) aO)))))))))),FP (b:=wu) (k:=3) (n:=5) rfl (fun ps r e=>match ps,e with | [_,_,_],e=>⟨rfl,e⟩) h fun io H0 F0 hio=>?_⟩
 exact (aP (qG (i:=3) trivial (uW Q7 (qF 2)))
   (aP (qG (i:=4) trivial qM)
   (aP (aZ au (aL 5))
   (aP (JM 2000 (bN (aA aF.up Q4 (aj 5) (rY xG (di 3))))
    (aP (aZ (aA aV.up Tj (qF 3) (aj 5)) (aL 6))
    (aP (jo (oG (qO (fB 0) (aj 6))) (aL 7)
     (aP (gP (bN (aA aF.up Tr (aj 7) (fB 4)))
      M8
      dq)
     (aP (FJ (aj 6) (aj 7))
     (aP (gP (bN (aA aF.up Bo (aj 7) (fB 1)))
      (FZ (Bu (Bp (aj 7)) (uo 3 hio (by decide) (uo 4 hio (by decide) FW))))
      dq)
     (QX (qO (fB 1) (aj 7)))))))
    (aZ (aA aF.up cU (aj 5) au) (aL 5)))))
   (FZ (Bu (Bp JG) (uo 3 hio (by decide) (uo 4 hio (by decide) FW))))))))
theorem gG:bF ["giver_of","asker_of","came_by","free","giver","asker","left"] ["giver_of","asker_of","came_by","free"] (aN (top 11)):=⟨rfl,rfl,rfl,by decide +kernel,rfl,by decide +kernel,by decide +kernel⟩
theorem zZ (T:Txt mg) (D:bD K mg "pair_anew" (top 11) ["giver_of","asker_of","came_by","free"]):FnAt P w K mg base "pair_anew" 1 ["giver_of","asker_of","came_by","free"] (Bq K eU):=by
 refine D.ok gG (fun vs H Q E h=>HW h fun ps r e=>match ps,e with | [_,_,_,_],_=>rfl) (fun f cdv A outer s H vs Q E hr h=>?_)
 refine ⟨_,(aC (aX (i:=4) gG.nd rfl (Or.inl rfl) (pv 3))
   (aU (Ag ZaP (bO Mi (pv 4) Ji (cN _))
    (aC (aX (i:=5) gG.nd rfl (Or.inl rfl) (nj hr (pv 2) (pv 4) (fun _ _=>rfl)))
    (aC (aX (i:=6) gG.nd rfl (Or.inl rfl) (HQ hr (pv 0) (pv 5) ⟨rfl,rfl,rfl,rfl⟩))
    (aC (ud (qm hr) (pv 0) (pv 5) (pv 4) rfl)
    (aC (ud (qm hr) (pv 1) (pv 4) (pv 5) rfl)
    (aU (aX (i:=4) gG.nd rfl (Or.inl rfl) (pv 6)))))))))),HS (b:=iJ) (k:=4) (n:=3) rfl (fun ps r e=>match ps,e with | [_,_,_,_],e=>⟨rfl,e⟩) h fun a c H0 F0=>?_⟩
 exact (qQ (uf (aj 3) (qP 4 (by decide)))
   (HY 2000 (bN (aA aH.up Q5 (di 4) JG))
    (qQ (uf (qO (fB 2) (aj 4)) (qP 5 (by decide)))
    (qQ (uf (J7 (fB 0) (aj 5)) (qP 6 (by decide)))
    (qQ (Bt (aj 4) (aj 5))
    (qQ (Bt (aj 5) (aj 4))
    (uf (aj 6) (qP 4 (by decide)))))))))
theorem fP:bF ["wishes","giver_of","asker_of","asker","way"] ["wishes"] (aN (top 12)):=⟨rfl,rfl,rfl,by decide +kernel,rfl,by decide +kernel,by decide +kernel⟩
theorem wV (T:Txt mg) (D:bD K mg "most_pairs" (top 12) ["wishes"]) (G_walked:FnAt P w K mg base "walked" 1 ["wishes","asker_of","starts"] (spD K XR0 ju)) (G_pair_anew:FnAt P w K mg base "pair_anew" 1 ["giver_of","asker_of","came_by","free"] (Bq K eU)):FnAt P w K mg base "most_pairs" 2 ["wishes"] (spO K XR0 gr):=by
 refine D.ok fP (fun vs H Q E h=>lK h fun ps r e=>match ps,e with | [_],_=>rfl) (fun f cdv A outer s H vs Q E hr h=>?_)
 refine ⟨_,(aC (aX (i:=1) fP.nd rfl (Or.inl rfl) m5)
   (aC (aX (i:=2) fP.nd rfl (Or.inl rfl) m5)
   (aC (Nt 0 (iQ ZaP rfl (vM (pv 0)) (dB (i:=3) fP.nd rfl (Or.inl rfl))
    (aC (aX (i:=4) fP.nd rfl (Or.inl rfl) (aW G_walked (hr.mono (by decide)) rfl (ak (pv 0) (ak (pv 2) (ak (rN (ak (pv 3) aO)) aO)))))
    (aU (yr (aW G_pair_anew (hr.mono (by decide)) rfl (ak (pv 1) (ak (pv 2) (ak (bh aY (pv 4) aq (fun _ _=>rfl)) (ak (bh aY (pv 4) aq (fun _ _=>rfl)) aO))))))))))
   (aU (bM (pv 1)))))),lJ (b:=lY) (k:=1) (n:=4) rfl (fun ps r e=>match ps,e with | [_],e=>⟨rfl,e⟩) h fun io H0 F0 hio=>?_⟩
 exact (aP (qG (i:=1) trivial qM)
   (aP (qG (i:=2) trivial qM)
   (aP (Nu 0 (fun _ _=>Nz (sJ 0) (aL 3)
    (aP (ug (i:=4) trivial (Kh (uQ (di 0) (uQ (di 2) (uQ (cP (cY (uR (ao (aj 3) aQ)))) M6)))))
    (yZ 4 (Ri (by decide) (ao (aA aF.up cz (aj 4) au) (ao (aA aF.up cz (aj 4) au) aQ)))))))
   (Ay 1 hio))))
theorem gf:bF ["wishes","giver_of","asker_of","way"] ["wishes","giver_of"] (aN (top 13)):=⟨rfl,rfl,rfl,by decide +kernel,rfl,by decide +kernel,by decide +kernel⟩
theorem qd (T:Txt mg) (D:bD K mg "short_of_givers" (top 13) ["wishes","giver_of"]) (G_walked:FnAt P w K mg base "walked" 1 ["wishes","asker_of","starts"] (spD K XR0 ju)):FnAt P w K mg base "short_of_givers" 2 ["wishes","giver_of"] (spM K XR0 d8):=by
 refine D.ok gf (fun vs H Q E h=>dO h fun ps r e=>match ps,e with | [_,_],_=>rfl) (fun f cdv A outer s H vs Q E hr h=>?_)
 refine ⟨_,(aC (aX (i:=2) gf.nd rfl (Or.inl rfl) (xg (Eo hr rfl) rfl T.b_dict (by decide +kernel) (ak (uh 1 (ir ["asker","giver"] [none,none] rfl (xW (pv 1)) (fun _ _ _ _ _=>(uc (n:=2) rfl (dU (dC (i:=0) (by decide +kernel) rfl rfl) (dU (dC (i:=1) (by decide +kernel) rfl rfl) n6)))) (fun _ _ _ _ _=>uJ) (fun _ _ _ _ _=>(fV (ak (pvl 1) (ak (pvl 0) aO)))))) aO)))
   (aC (aX (i:=3) gf.nd rfl (Or.inl rfl) (aW G_walked (hr.mono (by decide)) rfl (ak (pv 0) (ak (pv 2) (ak (uh 0 (ir ["asker","giver_of"] [none,some 1] rfl (vM (pv 0)) (fun _ _ _ _ _=>(dC (i:=0) (by decide +kernel) rfl rfl)) (fun _ _ _ _ _=>(uK (bO (Ep hr) (pvl 0) (pvf 1) (by with_unfolding_all rfl)))) (fun _ _ _ _ _=>(pvl 0)))) aO)))))
   (aU (bM (fV (ak (gk o9 rfl T.b_sorted (by decide +kernel) (ak (bh aY (pv 3) aq (fun _ _=>rfl)) aO)) (ak (gk (wQ rfl) rfl T.b_sorted (by decide +kernel) (ak (bh aY (pv 3) aq (fun _ _=>rfl)) aO)) aO))))))),dN (b:=gw) (k:=2) (n:=2) rfl (fun ps r e=>match ps,e with | [_,_],e=>⟨rfl,e⟩) h fun io H0 F0 hio=>?_⟩
 exact (aP (aZ (cY (uW (Nq fun _ _ _=>Nr) (ou (ul 1 (fun _ _=>jK (vN 1) (yJ (dW (aL 0) (dW (aL 1) oA))) (yQ (iD (dZ 0) (iD (dZ 1) ue))) uV (gU (ao (aj 1) (ao (aj 0) aQ)))))))) (aL 2))
   (aP (ug (i:=3) trivial (FN (ao (aj 0) (ao (aj 2) (ao (cY (ul 0 (fun _ _=>jK (sJ 0) (aL 0) (dZ 0) (bN (aA aF.up Bo (aj 0) (fB 1))) (aj 0)))) aQ)))))
   (yZ 3 (du (gU (ao (cY (uW Gp (yI (aA aF.up cz (aj 3) au)))) (ao (cY (uW KQ (J6 (aA aF.up cz (aj 3) au)))) aQ)))))))
theorem Dq:bF ["size","kind"] ["size","kind"] (aN (top 17)):=⟨rfl,rfl,rfl,by decide +kernel,rfl,by decide +kernel,by decide +kernel⟩
theorem Dr (T:Txt mg) (D:bD K mg "lines_of" (top 17) ["size","kind"]):FnAt P w K mg base "lines_of" 1 ["size","kind"] (spM K XR0 mj):=by
 refine D.ok Dq (fun vs H Q E h=>dO h fun ps r e=>match ps,e with | [_,_],_=>rfl) (fun f cdv A outer s H vs Q E hr h=>?_)
 refine ⟨_,(aU (bM (Ae (bO (gm hr) (pv 1) (Ar rfl T.c_ROW) (cN _)) (bh aY (pv 0) aq (fun _ _=>rfl)) (bh aY (pv 0) aq (fun _ _=>rfl))))),dN (b:=lZ) (k:=2) (n:=0) rfl (fun ps r e=>match ps,e with | [_,_],e=>⟨rfl,e⟩) h fun io H0 F0 hio=>?_⟩
 exact (du (PB (bN (aA aH.up qH (di 1) (cP uP))) (aA aF.up cz (aj 0) au) (aA aF.up cz (aj 0) au)))
theorem z6:bF ["size","kind"] ["size","kind"] (aN (top 18)):=⟨rfl,rfl,rfl,by decide +kernel,rfl,by decide +kernel,by decide +kernel⟩
theorem z7 (T:Txt mg) (D:bD K mg "length_of" (top 18) ["size","kind"]):FnAt P w K mg base "length_of" 1 ["size","kind"] (spM K XR0 jQ):=by
 refine D.ok z6 (fun vs H Q E h=>dO h fun ps r e=>match ps,e with | [_,_],_=>rfl) (fun f cdv A outer s H vs Q E hr h=>?_)
 refine ⟨_,(aU (bM (Ae (bO (gm hr) (pv 1) (Ar rfl T.c_ROW) (cN _)) (bh aY (pv 0) aq (fun _ _=>rfl)) (bh aY (pv 0) aq (fun _ _=>rfl))))),dN (b:=jP) (k:=2) (n:=0) rfl (fun ps r e=>match ps,e with | [_,_],e=>⟨rfl,e⟩) h fun io H0 F0 hio=>?_⟩
 exact (du (PB (bN (aA aH.up qH (di 1) (cP uP))) (aA aF.up cz (aj 0) au) (aA aF.up cz (aj 0) au)))
theorem t7:bF ["stroke"] ["stroke"] (aN (top 19)):=⟨rfl,rfl,rfl,by decide +kernel,rfl,by decide +kernel,by decide +kernel⟩
theorem t8 (T:Txt mg) (D:bD K mg "stroke_cells" (top 19) ["stroke"]):FnAt P w K mg base "stroke_cells" 1 ["stroke"] (spO K XR0 dI):=by
 refine D.ok t7 (fun vs H Q E h=>lK h fun ps r e=>match ps,e with | [_],_=>rfl) (fun f cdv A outer s H vs Q E hr h=>?_)
 refine ⟨_,(aC (gO (bO (gm hr) (bh aY (pv 0) aq (fun _ _=>rfl)) (Ar rfl T.c_ROW) (cN _))
    (aU (bM (ir ["column","stroke"] [none,some 0] rfl (wY rfl T.b_range (ak (bh aY (pv 0) aq (fun _ _=>rfl)) (ak (aM bB (bh aY (pv 0) aq (fun _ _=>rfl)) aq) aO))) (fun _ _ _ _ _=>(dC (i:=0) (by decide +kernel) rfl rfl)) (fun _ _ _ _ _=>uJ) (fun _ _ _ _ _=>(fV (ak (pvl 0) (ak (bh lL (pvf 1) aq (fun _ _=>rfl)) aO)))))))
    dg)
   (aU (bM (ir ["row","stroke"] [none,some 0] rfl (wY rfl T.b_range (ak (bh aY (pv 0) aq (fun _ _=>rfl)) (ak (aM bB (bh aY (pv 0) aq (fun _ _=>rfl)) aq) aO))) (fun _ _ _ _ _=>(dC (i:=0) (by decide +kernel) rfl rfl)) (fun _ _ _ _ _=>uJ) (fun _ _ _ _ _=>(fV (ak (bh lL (pvf 1) aq (fun _ _=>rfl)) (ak (pvl 0) aO)))))))),lJ (b:=gA) (k:=1) (n:=0) rfl (fun ps r e=>match ps,e with | [_],e=>⟨rfl,e⟩) h fun io H0 F0 hio=>?_⟩
 exact (aP (gP (bN (aA aH.up qH (cP (aA aF.up cz (aj 0) au)) (cP uP)))
    (lF (oH (Fz (ao (aA aF.up cz (aj 0) au) (ao (aA aF.up cU (aA aF.up cz (aj 0) au) au) aQ))) (aL 0) (dZ 0) uV (gU (ao (aj 0) (ao (aA aF.up cz (aj 1) au) aQ)))))
    dq)
   (lF (oH (Fz (ao (aA aF.up cz (aj 0) au) (ao (aA aF.up cU (aA aF.up cz (aj 0) au) au) aQ))) (aL 0) (dZ 0) uV (gU (ao (aA aF.up cz (aj 1) au) (ao (aj 0) aQ))))))
theorem dR:bF ["size","keep","kind","line","last","cells","kept"] ["size","keep","kind","line"] (aN (top 20)):=⟨rfl,rfl,rfl,by decide +kernel,rfl,by decide +kernel,by decide +kernel⟩
theorem qe (T:Txt mg) (D:bD K mg "longest_strokes" (top 20) ["size","keep","kind","line"]) (G_length_of:FnAt P w K mg base "length_of" 1 ["size","kind"] (spM K XR0 jQ)) (G_stroke_cells:FnAt P w K mg base "stroke_cells" 1 ["stroke"] (spO K XR0 dI)) (G_has_cell:FnAt P w K mg base "has_cell" 2 ["size","some","cell"] (spM K XR0 g8)):FnAt P w K mg base "longest_strokes" 3 ["size","keep","kind","line"] (spO K XR0 eE):=by
 refine D.ok dR (fun vs H Q E h=>lK h fun ps r e=>match ps,e with | [_,_,_,_],_=>rfl) (fun f cdv A outer s H vs Q E hr h=>?_)
 refine ⟨_,(aC (aX (i:=4) dR.nd rfl (Or.inl rfl) (aM iR (aW G_length_of (hr.mono (by decide)) rfl (ak (pv 0) (ak (pv 2) aO))) aq))
   (aC (aX (i:=5) dR.nd rfl (Or.inl rfl) (aW G_stroke_cells (hr.mono (by decide)) rfl (ak (fV (ak (pv 2) (ak (pv 3) (ak aq (ak (pv 4) aO))))) aO)))
   (aC (aX (i:=6) dR.nd rfl (Or.inl rfl) (aM yN (aM yN (rN (ak (Sd QD aq) aO)) (ir ["place","cell","size","keep"] [none,none,some 0,some 1] rfl (MK rfl T.b_enumerate (ak (pv 5) aO)) (fun _ _ _ _ _=>(uc (n:=2) rfl (dU (dC (i:=0) (by decide +kernel) rfl rfl) (dU (dC (i:=1) (by decide +kernel) rfl rfl) n6)))) (fun _ _ _ _ _=>(uK (Jj (aW G_has_cell (hr.mono (by decide)) (glc rfl) (ak (pvf 2) (ak (pvf 3) (ak (pvl 1) aO))))))) (fun _ _ _ _ _=>(pvl 0)))) (rN (ak (aM bB (pv 4) aq) aO))))
   (aU (bM (ir ["one","other","kind","line"] [none,none,some 2,some 3] rfl (Rc rfl T.b_zip (ak (pv 6) (ak (Jq Mw (pv 6) (Mq aq) Mp) aO))) (fun _ _ _ _ _=>(uc (n:=2) rfl (dU (dC (i:=0) (by decide +kernel) rfl rfl) (dU (dC (i:=1) (by decide +kernel) rfl rfl) n6)))) (fun _ _ _ _ _=>(uK (bO Ec (aM Bh (pvl 0) aq) (pvl 1) (cN _)))) (fun _ _ _ _ _=>(fV (ak (pvf 2) (ak (pvf 3) (ak (aM Bh (pvl 0) aq) (ak (aM iR (pvl 1) aq) aO)))))))))))),lJ (b:=d9) (k:=4) (n:=3) rfl (fun ps r e=>match ps,e with | [_,_,_,_],e=>⟨rfl,e⟩) h fun io H0 F0 hio=>?_⟩
 exact (aP (aZ (aA aF.up mJ (bG (ao (aj 0) (ao (aj 2) aQ))) au) (aL 4))
   (aP (aZ (cY (fQ (ao (gU (ao (aj 2) (ao (aj 3) (ao au (ao (aj 4) aQ))))) aQ))) (aL 5))
   (aP (aZ (cY (JH aV.up J0 (ou (JH aV.up J0 (ou (uR (ao (Q8 au) aQ))) (ou (oH (Np (ao (aj 5) aQ)) (yJ (dW (aL 0) (dW (aL 1) oA))) (yQ (iD (dZ 0) (iD (dZ 1) ue))) (JK (bG (ao (aj 2) (ao (aj 3) (ao (aj 1) aQ))))) (aj 0))))) (ou (uR (ao (aA aF.up cU (aj 4) au) aQ))))) (aL 6))
   (lF (oH (Rf (ao (aj 6) (ao (cY (Q6 (qF 6) (Ni au) Nh)) aQ))) (yJ (dW (aL 0) (dW (aL 1) oA))) (yQ (iD (dZ 0) (iD (dZ 1) ue))) (bN (aA aF.up Q4 (aA aF.up cU (aj 0) au) (aj 1))) (gU (ao (aj 2) (ao (aj 3) (ao (aA aF.up cU (aj 0) au) (ao (aA aF.up mJ (aj 1) au) aQ))))))))))
theorem cZ:bF ["size","keep","kind","by_cell","line","stroke","cell"] ["size","keep","kind"] (aN (top 21)):=⟨rfl,rfl,rfl,by decide +kernel,rfl,by decide +kernel,by decide +kernel⟩
theorem qg (T:Txt mg) (D:bD K mg "longest_by_cell" (top 21) ["size","keep","kind"]) (G_lines_of:FnAt P w K mg base "lines_of" 1 ["size","kind"] (spM K XR0 mj)) (G_longest_strokes:FnAt P w K mg base "longest_strokes" 3 ["size","keep","kind","line"] (spO K XR0 eE)) (G_stroke_cells:FnAt P w K mg base "stroke_cells" 1 ["stroke"] (spO K XR0 dI)):FnAt P w K mg base "longest_by_cell" 4 ["size","keep","kind"] (spO K XR0 cH):=by
 refine D.ok cZ (fun vs H Q E h=>lK h fun ps r e=>match ps,e with | [_,_,_],_=>rfl) (fun f cdv A outer s H vs Q E hr h=>?_)
 refine ⟨_,(aC (aX (i:=3) cZ.nd rfl (Or.inl rfl) m5)
   (aC (iQ ZaP rfl (gR rfl T.b_range (ak (aW G_lines_of (hr.mono (by decide)) rfl (ak (pv 0) (ak (pv 2) aO))) aO)) (dB (i:=4) cZ.nd rfl (Or.inl rfl))
    (aU (iQ ZaP rfl (oF (aW G_longest_strokes (hr.mono (by decide)) rfl (ak (pv 0) (ak (pv 1) (ak (pv 2) (ak (pv 4) aO)))))) (dB (i:=5) cZ.nd rfl (Or.inl rfl))
     (aU (iQ ZaP rfl (oF (aW G_stroke_cells (hr.mono (by decide)) rfl (ak (pv 5) aO))) (dB (i:=6) cZ.nd rfl (Or.inl rfl))
      (aU (ud (qm hr) (pv 3) (pv 6) (pv 5) rfl)))))))
   (aU (bM (pv 3))))),lJ (b:=gB) (k:=3) (n:=4) rfl (fun ps r e=>match ps,e with | [_,_,_],e=>⟨rfl,e⟩) h fun io H0 F0 hio=>?_⟩
 exact (aP (qG (i:=3) trivial qM)
   (aP (jo (lH (ao (bG (ao (aj 0) (ao (aj 2) aQ))) aQ)) (aL 4)
    (jo (oG (cY (fQ (ao (aj 0) (ao (aj 1) (ao (aj 2) (ao (aj 4) aQ))))))) (aL 5)
     (jo (oG (cY (fQ (ao (aj 5) aQ)))) (aL 6)
      (FJ (aj 5) (aj 6)))))
   (Ay 3 hio)))
theorem gH:bF ["size","away","keep","along_row","along_column","crossed","cell"] ["size","away","keep"] (aN (top 22)):=⟨rfl,rfl,rfl,by decide +kernel,rfl,by decide +kernel,by decide +kernel⟩
theorem z8 (T:Txt mg) (D:bD K mg "crossings" (top 22) ["size","away","keep"]) (G_longest_by_cell:FnAt P w K mg base "longest_by_cell" 4 ["size","keep","kind"] (spO K XR0 cH)) (G_cells_of:FnAt P w K mg base "cells_of" 3 ["size","some"] (spO K XR0 fZ)):FnAt P w K mg base "crossings" 5 ["size","away","keep"] (spD K XR0 iK):=by
 refine D.ok gH (fun vs H Q E h=>FQ h fun ps r e=>match ps,e with | [_,_,_],_=>rfl) (fun f cdv A outer s H vs Q E hr h=>?_)
 refine ⟨_,(aC (aX (i:=3) gH.nd rfl (Or.inl rfl) (aW G_longest_by_cell (hr.mono (by decide)) rfl (ak (pv 0) (ak (pv 2) (ak (Ar rfl T.c_ROW) aO)))))
   (aC (aX (i:=4) gH.nd rfl (Or.inl rfl) (aW G_longest_by_cell (hr.mono (by decide)) rfl (ak (pv 0) (ak (pv 2) (ak (Ar rfl T.c_COLUMN) aO)))))
   (aC (aX (i:=5) gH.nd rfl (Or.inl rfl) m5)
   (aC (iQ ZaP rfl (oF (aW G_cells_of (hr.mono (by decide)) rfl (ak (pv 0) (ak (pv 1) aO)))) (dB (i:=6) gH.nd rfl (Or.inl rfl))
    (aU (yr (Pn PySem.F.plainAttrs_list PySem.F.slot_list_append PySem.F.type_list_append rO (Ey (qm hr) (pv 5) (nj hr (pv 3) (pv 6) (fun _ _=>rfl)) (rN aO) ⟨rfl,rfl,rfl,rfl⟩) (ak (nj hr (pv 4) (pv 6) (fun _ _=>rfl)) aO)))))
   (aU (bM (pv 5))))))),FP (b:=nH) (k:=3) (n:=4) rfl (fun ps r e=>match ps,e with | [_,_,_],e=>⟨rfl,e⟩) h fun io H0 F0 hio=>?_⟩
 exact (aP (aZ (cY (fQ (ao (aj 0) (ao (aj 2) (ao uP aQ))))) (aL 3))
   (aP (aZ (cY (fQ (ao (aj 0) (ao (aj 2) (ao uP aQ))))) (aL 4))
   (aP (ug (i:=5) trivial (Rj qM))
   (aP (jo (oG (cY (fQ (ao (aj 0) (ao (aj 1) aQ))))) (aL 6)
    (Ie (i:=5) (qO (fB 3) (aj 6)) (qO (fB 4) (aj 6))))
   (Kc 5)))))
theorem cg:bF ["size","away","keep","both","crossed","column_of","short","strokes","apart"] ["size","away","keep"] (aN (top 23)):=⟨rfl,rfl,rfl,by decide +kernel,rfl,by decide +kernel,by decide +kernel⟩
theorem rK (T:Txt mg) (D:bD K mg "fewest_strokes" (top 23) ["size","away","keep"]) (G_cells_of:FnAt P w K mg base "cells_of" 3 ["size","some"] (spO K XR0 fZ)) (G_crossings:FnAt P w K mg base "crossings" 5 ["size","away","keep"] (spD K XR0 iK)) (G_most_pairs:FnAt P w K mg base "most_pairs" 2 ["wishes"] (spO K XR0 gr)) (G_short_of_givers:FnAt P w K mg base "short_of_givers" 2 ["wishes","giver_of"] (spM K XR0 d8)) (G_set_of:FnAt P w K mg base "set_of" 2 ["size","cells"] (spM K XR0 rB)):FnAt P w K mg base "fewest_strokes" 6 ["size","away","keep"] (spM K XR0 fG):=by
 refine D.ok cg (fun vs H Q E h=>dO h fun ps r e=>match ps,e with | [_,_,_],_=>rfl) (fun f cdv A outer s H vs Q E hr h=>?_)
 refine ⟨_,(aC (aX (i:=3) cg.nd rfl (Or.inl rfl) (aW G_cells_of (hr.mono (by decide)) rfl (ak (pv 0) (ak (aM mW (pv 1) (pv 2)) aO))))
   (aC (gO (bO Fq (gk j8 rfl T.b_len (by decide +kernel) (ak (pv 3) aO)) aq (cN _))
    (aU Jl)
    dg)
   (aC (aX (i:=4) cg.nd rfl (Or.inl rfl) (aW G_crossings (hr.mono (by decide)) rfl (ak (pv 0) (ak (pv 1) (ak (pv 2) aO)))))
   (aC (aX (i:=5) cg.nd rfl (Or.inl rfl) (aW G_most_pairs (hr.mono (by decide)) rfl (ak (pv 4) aO)))
   (aC (aX (i:=6) cg.nd rfl (Or.inr rfl) (aW G_short_of_givers (hr.mono (by decide)) rfl (ak (pv 4) (ak (pv 5) aO))))
   (aC (aX (i:=7) cg.nd rfl (Or.inl rfl) (aM yN (uh 4 (ir ["stroke","short"] [none,some 6] rfl (vM (pv 4)) (fun _ _ _ _ _=>(dC (i:=0) (by decide +kernel) rfl rfl)) (fun _ _ _ _ _=>(uK (bO (Ej hr) (pvl 0) (bh lL (pvf 1) aq (fun _ _=>rfl)) (by with_unfolding_all rfl)))) (fun _ _ _ _ _=>(pvl 0)))) (bh aY (pv 6) aq (fun _ _=>rfl))))
   (aC (aX (i:=8) cg.nd rfl (Or.inl rfl) (aW G_set_of (hr.mono (by decide)) rfl (ak (pv 0) (ak (uh 5 (ir ["along_row","along_column"] [none,none] rfl (xW (pv 5)) (fun _ _ _ _ _=>(uc (n:=2) rfl (dU (dC (i:=0) (by decide +kernel) rfl rfl) (dU (dC (i:=1) (by decide +kernel) rfl rfl) n6)))) (fun _ _ _ _ _=>uJ) (fun _ _ _ _ _=>(fV (ak (bh lL (pvl 1) aq (fun _ _=>rfl)) (ak (bh lL (pvl 0) aq (fun _ _=>rfl)) aO)))))) aO))))
   (aU (bM (fV (ak (gk o9 rfl T.b_sorted (by decide +kernel) (ak (pv 7) aO)) (ak (aW G_cells_of (hr.mono (by decide)) rfl (ak (pv 0) (ak (pv 8) aO))) aO)))))))))))),dN (b:=fD) (k:=3) (n:=6) rfl (fun ps r e=>match ps,e with | [_,_,_],e=>⟨rfl,e⟩) h fun io H0 F0 hio=>?_⟩
 exact (aP (aZ (cY (fQ (ao (aj 0) (ao (aA aF.up tL (aj 1) (aj 2)) aQ)))) (aL 3))
   (aP (gP (bN (aA aF.up Nf (rY xG (di 3)) au))
    J4
    dq)
   (aP (ug (i:=4) trivial (FN (ao (aj 0) (ao (aj 1) (ao (aj 2) aQ)))))
   (aP (yZ 4 (aZ (cY (fQ (ao (aj 4) aQ))) (aL 5)))
   (aP (aZ (bG (ao (aj 4) (ao (aj 5) aQ))) (aL 6))
   (aP (aZ (cY (JH aV.up J0 (ou (ul 4 (fun _ _=>jK (sJ 4) (aL 0) (dZ 0) (bN (aA aH.up Ng (di 0) (cP (aA aF.up cz (aj 1) au)))) (aj 0)))) (yI (aA aF.up cz (aj 6) au)))) (aL 7))
   (aP (aZ (bG (ao (aj 0) (ao (cY (ul 5 (fun _ _=>jK (vN 5) (yJ (dW (aL 0) (dW (aL 1) oA))) (yQ (iD (dZ 0) (iD (dZ 1) ue))) uV (gU (ao (aA aF.up cz (aj 1) au) (ao (aA aF.up cz (aj 0) au) aQ)))))) aQ))) (aL 8))
   (du (gU (ao (cY (uW Gp (qF 7))) (ao (cY (fQ (ao (aj 0) (ao (aj 8) aQ)))) aQ)))))))))))
theorem sX:bF ["_law_script","_law_k","_law_number"] ["_law_script","_law_k"] (aN (top 25)):=⟨rfl,rfl,rfl,by decide +kernel,rfl,by decide +kernel,by decide +kernel⟩
theorem Jc (T:Txt mg) (D:bD K mg "_law_cell" (top 25) ["_law_script","_law_k"]):FnAt P w K mg base "_law_cell" 1 ["_law_script","_law_k"] (spM K XR0 cV):=by
 refine D.ok sX (fun vs H Q E h=>dO h fun ps r e=>match ps,e with | [_,_],_=>rfl) (fun f cdv A outer s H vs Q E hr h=>?_)
 refine ⟨_,(aC (gO (bO Ec (pv 1) (gk j8 rfl T.b_len (by decide +kernel) (ak (pv 0) aO)) (cN _))
    (aU (bM (bh aY (pv 0) (pv 1) (fun _ _=>rfl))))
    dg)
   (aC (aX (i:=2) sX.nd rfl (Or.inl rfl) (aM bB (aM bH (pv 1) (pv 1)) aq))
   (aC (gO (bO Fq (gk j8 rfl T.b_len (by decide +kernel) (ak (pv 0) aO)) aq (cN _))
    (aU (aX (i:=2) sX.nd rfl (Or.inl rfl) (aM bB (pv 2) (aM eG (bh aY (pv 0) (aM eG (aM bH (pv 1) aq) (gk j8 rfl T.b_len (by decide +kernel) (ak (pv 0) aO))) (fun _ _=>rfl)) aq))))
    dg)
   (aU (bM (aM eG (aM bH (pv 2) (pv 2)) aq)))))),dN (b:=nJ) (k:=2) (n:=1) rfl (fun ps r e=>match ps,e with | [_,_],e=>⟨rfl,e⟩) h fun io H0 F0 hio=>?_⟩
 exact (aP (gP (bN (aA aF.up Q4 (aj 1) (rY xG (di 0))))
    (du (aA aF.up cz (aj 0) (aj 1)))
    dq)
   (aP (aZ (aA aF.up cU (aA aF.up dF (aj 1) (aj 1)) au) (aL 2))
   (aP (gP (bN (aA aF.up Nf (rY xG (di 0)) au))
    (aZ (aA aF.up cU (aj 2) (aA aF.up iC (aA aF.up cz (aj 0) (aA aF.up iC (aA aF.up dF (aj 1) au) (rY xG (di 0)))) au)) (aL 2))
    dq)
   (du (aA aF.up iC (aA aF.up dF (aj 2) (aj 2)) au)))))
theorem qi:bF ["_law_cell_here","_law_k","_law_number"] ["_law_cell_here","_law_k"] (aN (top 26)):=⟨rfl,rfl,rfl,by decide +kernel,rfl,by decide +kernel,by decide +kernel⟩
theorem Fg (T:Txt mg) (D:bD K mg "_law_mixed" (top 26) ["_law_cell_here","_law_k"]):FnAt P w K mg base "_law_mixed" 1 ["_law_cell_here","_law_k"] (spM K XR0 b8):=by
 refine D.ok qi (fun vs H Q E h=>dO h fun ps r e=>match ps,e with | [_,_],_=>rfl) (fun f cdv A outer s H vs Q E hr h=>?_)
 refine ⟨_,(aC (gO (bO Sh (pv 0) (aM QC aq aq) (cN _))
    (aU (bM (aM mW (aM uG (pv 0) (aM bH aq (pv 1))) aq)))
    dg)
   (aC (aX (i:=2) qi.nd rfl (Or.inl rfl) (aM eG (aM bH (aM bB (aM bB (aM bB (aM eG (pv 0) aq) (aM bH (aM bH aq (pv 1)) (pv 1))) (pv 1)) aq) aq) aq))
   (aC (aX (i:=2) qi.nd rfl (Or.inl rfl) (aM eG (aM bH (pv 2) (pv 2)) aq))
   (aU (bM (aM eG (aM bH (aM bB (pv 2) (pv 1)) aq) aq)))))),dN (b:=mq) (k:=2) (n:=1) rfl (fun ps r e=>match ps,e with | [_,_],e=>⟨rfl,e⟩) h fun io H0 F0 hio=>?_⟩
 exact (aP (gP (bN (aA aF.up Ul (aj 0) (aA aF.up Ti au au)))
    (du (aA aF.up tL (aA aF.up Bg (aj 0) (aA aF.up dF au (aj 1))) au))
    dq)
   (aP (aZ (aA aF.up iC (aA aF.up dF (aA aF.up cU (aA aF.up cU (aA aF.up cU (aA aF.up iC (aj 0) au) (aA aF.up dF (aA aF.up dF au (aj 1)) (aj 1))) (aj 1)) au) au) au) (aL 2))
   (aP (aZ (aA aF.up iC (aA aF.up dF (aj 2) (aj 2)) au) (aL 2))
   (du (aA aF.up iC (aA aF.up dF (aA aF.up cU (aj 2) (aj 1)) au) au)))))
theorem yo:bF ["_law_cell_here","_law_number"] ["_law_cell_here"] (aN (top 27)):=⟨rfl,rfl,rfl,by decide +kernel,rfl,by decide +kernel,by decide +kernel⟩
theorem Jd (T:Txt mg) (D:bD K mg "_law_size" (top 27) ["_law_cell_here"]) (G__law_mixed:FnAt P w K mg base "_law_mixed" 1 ["_law_cell_here","_law_k"] (spM K XR0 b8)):FnAt P w K mg base "_law_size" 2 ["_law_cell_here"] (spM K XR0 iM):=by
 refine D.ok yo (fun vs H Q E h=>dO h fun ps r e=>match ps,e with | [_],_=>rfl) (fun f cdv A outer s H vs Q E hr h=>?_)
 refine ⟨_,(aC (aX (i:=1) yo.nd rfl (Or.inl rfl) (aW G__law_mixed (hr.mono (by decide)) rfl (ak (pv 0) (ak aq aO))))
   (aC (gO (bO (gm hr) (aM eG (aW G__law_mixed (hr.mono (by decide)) rfl (ak (pv 0) (ak aq aO))) aq) aq (cN _))
    (aU (bM (fV (ak (aM bB aq (aM eG (pv 1) aq)) (ak (aM bB aq (aM eG (aM ql (pv 1) aq) aq)) aO)))))
    dg)
   (aU (bM (fV (ak (aM bB aq (aM eG (pv 1) aq)) (ak (aM bB aq (aM eG (aM ql (pv 1) aq) aq)) aO))))))),dN (b:=jR) (k:=1) (n:=1) rfl (fun ps r e=>match ps,e with | [_],e=>⟨rfl,e⟩) h fun io H0 F0 hio=>?_⟩
 exact (aP (aZ (bG (ao (aj 0) (ao au aQ))) (aL 1))
   (aP (gP (bN (aA aH.up qH (cP (aA aF.up iC (bG (ao (aj 0) (ao au aQ))) au)) (cP au)))
    (du (gU (ao (aA aF.up cU au (aA aF.up iC (aj 1) au)) (ao (aA aF.up cU au (aA aF.up iC (aA aF.up Bf (aj 1) au) au)) aQ))))
    dq)
   (du (gU (ao (aA aF.up cU au (aA aF.up iC (aj 1) au)) (ao (aA aF.up cU au (aA aF.up iC (aA aF.up Bf (aj 1) au) au)) aQ))))))
theorem jF:bF ["_law_size_here","_law_cell_here","_law_k","_law_many_here","_law_number","_law_j","_law_kind"] ["_law_size_here","_law_cell_here","_law_k"] (aN (top 28)):=⟨rfl,rfl,rfl,by decide +kernel,rfl,by decide +kernel,by decide +kernel⟩
theorem LK (T:Txt mg) (D:bD K mg "_law_set" (top 28) ["_law_size_here","_law_cell_here","_law_k"]) (G__law_mixed:FnAt P w K mg base "_law_mixed" 1 ["_law_cell_here","_law_k"] (spM K XR0 b8)):FnAt P w K mg base "_law_set" 2 ["_law_size_here","_law_cell_here","_law_k"] (spM K XR0 gb):=by
 refine D.ok jF (fun vs H Q E h=>dO h fun ps r e=>match ps,e with | [_,_,_],_=>rfl) (fun f cdv A outer s H vs Q E hr h=>?_)
 refine ⟨_,(aC (aX (i:=3) jF.nd rfl (Or.inl rfl) (aM bH (bh aY (pv 0) aq (fun _ _=>rfl)) (bh aY (pv 0) aq (fun _ _=>rfl))))
   (aC (aX (i:=4) jF.nd rfl (Or.inl rfl) aq)
   (aC (iQ ZaP rfl (gR rfl T.b_range (ak (aM bB aq (aM ql (pv 3) aq)) aO)) (dB (i:=5) jF.nd rfl (Or.inl rfl))
    (aU (aX (i:=4) jF.nd rfl (Or.inl rfl) (aM bB (aM bH (pv 4) aq) (aW G__law_mixed (hr.mono (by decide)) rfl (ak (pv 1) (ak (aM bB (aM bH aq (pv 2)) (pv 5)) aO)))))))
   (aC (aX (i:=4) jF.nd rfl (Or.inl rfl) (aM eG (pv 4) (aM jW aq (pv 3))))
   (aC (aX (i:=6) jF.nd rfl (Or.inl rfl) (aM eG (aW G__law_mixed (hr.mono (by decide)) rfl (ak (pv 1) (ak (aM bB (aM bH aq (pv 2)) aq) aO))) aq))
   (aC (gO (bO (gm hr) (pv 6) aq (cN _))
    (aU (bM (aM iR (aM jW aq (pv 3)) aq)))
    dg)
   (aC (gO (bO (gm hr) (pv 6) aq (cN _))
    (aU (bM aq))
    dg)
   (aU (bM (pv 4)))))))))),dN (b:=my) (k:=3) (n:=4) rfl (fun ps r e=>match ps,e with | [_,_,_],e=>⟨rfl,e⟩) h fun io H0 F0 hio=>?_⟩
 exact (aP (aZ (aA aF.up dF (aA aF.up cz (aj 0) au) (aA aF.up cz (aj 0) au)) (aL 3))
   (aP (aZ au (aL 4))
   (aP (jo (lH (ao (aA aF.up cU au (aA aF.up Bf (aj 3) au)) aQ)) (aL 5)
    (aZ (aA aF.up cU (aA aF.up dF (aj 4) au) (bG (ao (aj 1) (ao (aA aF.up cU (aA aF.up dF au (aj 2)) (aj 5)) aQ)))) (aL 4)))
   (aP (aZ (aA aF.up iC (aj 4) (aA aF.up oY au (aj 3))) (aL 4))
   (aP (aZ (aA aF.up iC (bG (ao (aj 1) (ao (aA aF.up cU (aA aF.up dF au (aj 2)) au) aQ))) au) (aL 6))
   (aP (gP (bN (aA aH.up qH (di 6) (cP au)))
    (du (aA aF.up mJ (aA aF.up oY au (aj 3)) au))
    dq)
   (aP (gP (bN (aA aH.up qH (di 6) (cP au)))
    (du au)
    dq)
   (du (aj 4)))))))))
theorem gJ:bF ["_law_size_here","_law_cell_here","_law_k","_law_keep","_law_away","_law_number"] ["_law_size_here","_law_cell_here","_law_k"] (aN (top 29)):=⟨rfl,rfl,rfl,by decide +kernel,rfl,by decide +kernel,by decide +kernel⟩
theorem z9 (T:Txt mg) (D:bD K mg "_law_carving" (top 29) ["_law_size_here","_law_cell_here","_law_k"]) (G__law_set:FnAt P w K mg base "_law_set" 2 ["_law_size_here","_law_cell_here","_law_k"] (spM K XR0 gb)) (G__law_mixed:FnAt P w K mg base "_law_mixed" 1 ["_law_cell_here","_law_k"] (spM K XR0 b8)):FnAt P w K mg base "_law_carving" 3 ["_law_size_here","_law_cell_here","_law_k"] (spO K XR0 cF):=by
 refine D.ok gJ (fun vs H Q E h=>lK h fun ps r e=>match ps,e with | [_,_,_],_=>rfl) (fun f cdv A outer s H vs Q E hr h=>?_)
 refine ⟨_,(aC (aX (i:=3) gJ.nd rfl (Or.inl rfl) (aW G__law_set (hr.mono (by decide)) rfl (ak (pv 0) (ak (pv 1) (ak (aM bH aq (pv 2)) aO)))))
   (aC (aX (i:=4) gJ.nd rfl (Or.inl rfl) (aW G__law_set (hr.mono (by decide)) rfl (ak (pv 0) (ak (pv 1) (ak (aM bB (aM bH aq (pv 2)) aq) aO)))))
   (aC (aX (i:=5) gJ.nd rfl (Or.inl rfl) (aW G__law_mixed (hr.mono (by decide)) rfl (ak (pv 1) (ak (aM bB aq (pv 2)) aO))))
   (aC (gO (bO (gm hr) (aM eG (pv 5) aq) aq (cN _))
    (aU (aX (i:=3) gJ.nd rfl (Or.inl rfl) (aM mW (pv 3) (aW G__law_set (hr.mono (by decide)) rfl (ak (pv 0) (ak (aM bB (pv 1) aq) (ak (aM bH aq (pv 2)) aO)))))))
    dg)
   (aC (gO (bO (gm hr) (aM eG (aM ql (pv 5) aq) aq) aq (cN _))
    (aU (bM (rN (ak (aM iR (aM iR (aM jW aq (aM bH (bh aY (pv 0) aq (fun _ _=>rfl)) (bh aY (pv 0) aq (fun _ _=>rfl)))) aq) (pv 3)) (ak (pv 3) aO)))))
    dg)
   (aU (bM (rN (ak (aM iR (pv 4) (aM mW (pv 4) (pv 3))) (ak (pv 3) aO)))))))))),lJ (b:=gC) (k:=3) (n:=3) rfl (fun ps r e=>match ps,e with | [_,_,_],e=>⟨rfl,e⟩) h fun io H0 F0 hio=>?_⟩
 exact (aP (aZ (bG (ao (aj 0) (ao (aj 1) (ao (aA aF.up dF au (aj 2)) aQ)))) (aL 3))
   (aP (aZ (bG (ao (aj 0) (ao (aj 1) (ao (aA aF.up cU (aA aF.up dF au (aj 2)) au) aQ)))) (aL 4))
   (aP (aZ (bG (ao (aj 1) (ao (aA aF.up cU au (aj 2)) aQ))) (aL 5))
   (aP (gP (bN (aA aH.up qH (cP (aA aF.up iC (aj 5) au)) (cP au)))
    (aZ (aA aF.up tL (aj 3) (bG (ao (aj 0) (ao (aA aF.up cU (aj 1) au) (ao (aA aF.up dF au (aj 2)) aQ))))) (aL 3))
    dq)
   (aP (gP (bN (aA aH.up qH (cP (aA aF.up iC (aA aF.up Bf (aj 5) au) au)) (cP au)))
    (lF (uR (ao (aA aF.up mJ (aA aF.up mJ (aA aF.up oY au (aA aF.up dF (aA aF.up cz (aj 0) au) (aA aF.up cz (aj 0) au))) au) (aj 3)) (ao (aj 3) aQ))))
    dq)
   (lF (uR (ao (aA aF.up mJ (aj 4) (aA aF.up tL (aj 4) (aj 3))) (ao (aj 3) aQ)))))))))
theorem eZ:bF ["_law_size_here","_law_some","_law_way","_law_found","_law_row","_law_column","_law_spot"] ["_law_size_here","_law_some","_law_way"] (aN (top 30)):=⟨rfl,rfl,rfl,by decide +kernel,rfl,by decide +kernel,by decide +kernel⟩
theorem Fi (T:Txt mg) (D:bD K mg "_law_moved" (top 30) ["_law_size_here","_law_some","_law_way"]):FnAt P w K mg base "_law_moved" 1 ["_law_size_here","_law_some","_law_way"] (spM K XR0 cC):=by
 refine D.ok eZ (fun vs H Q E h=>dO h fun ps r e=>match ps,e with | [_,_,_],_=>rfl) (fun f cdv A outer s H vs Q E hr h=>?_)
 refine ⟨_,(aC (aX (i:=3) eZ.nd rfl (Or.inl rfl) aq)
   (aC (iQ ZaP rfl (gR rfl T.b_range (ak (bh aY (pv 0) aq (fun _ _=>rfl)) aO)) (dB (i:=4) eZ.nd rfl (Or.inl rfl))
    (aU (iQ ZaP rfl (gR rfl T.b_range (ak (bh aY (pv 0) aq (fun _ _=>rfl)) aO)) (dB (i:=5) eZ.nd rfl (Or.inl rfl))
     (aU (gO (bO (gm hr) (aM mW (aM uG (pv 1) (aM bB (aM bH (pv 4) (bh aY (pv 0) aq (fun _ _=>rfl))) (pv 5))) aq) aq (cN _))
      (aC (aX (i:=6) eZ.nd rfl (Or.inl rfl) (aM iR (aM iR (aM bB (aM bH (pv 4) (bh aY (pv 0) aq (fun _ _=>rfl))) (bh aY (pv 0) aq (fun _ _=>rfl))) aq) (pv 5)))
      (aC (gO (bO (gm hr) (pv 2) aq (cN _))
       (aU (aX (i:=6) eZ.nd rfl (Or.inl rfl) (aM bB (aM bH (aM iR (aM iR (bh aY (pv 0) aq (fun _ _=>rfl)) aq) (pv 4)) (bh aY (pv 0) aq (fun _ _=>rfl))) (pv 5))))
       dg)
      (aC (gO (bO (gm hr) (pv 2) aq (cN _))
       (aU (aX (i:=6) eZ.nd rfl (Or.inl rfl) (aM bB (aM bH (pv 5) (bh aY (pv 0) aq (fun _ _=>rfl))) (pv 4))))
       dg)
      (aU (aX (i:=3) eZ.nd rfl (Or.inl rfl) (aM Ak (pv 3) (aM jW aq (pv 6))))))))
      dg)))))
   (aU (bM (pv 3))))),dN (b:=jg) (k:=3) (n:=4) rfl (fun ps r e=>match ps,e with | [_,_,_],e=>⟨rfl,e⟩) h fun io H0 F0 hio=>?_⟩
 exact (aP (aZ au (aL 3))
   (aP (jo (lH (ao (aA aF.up cz (aj 0) au) aQ)) (aL 4)
    (jo (lH (ao (aA aF.up cz (aj 0) au) aQ)) (aL 5)
     (gP (bN (aA aH.up qH (cP (aA aF.up tL (aA aF.up Bg (aj 1) (aA aF.up cU (aA aF.up dF (aj 4) (aA aF.up cz (aj 0) au)) (aj 5))) au)) (cP au)))
      (aP (aZ (aA aF.up mJ (aA aF.up mJ (aA aF.up cU (aA aF.up dF (aj 4) (aA aF.up cz (aj 0) au)) (aA aF.up cz (aj 0) au)) au) (aj 5)) (aL 6))
      (aP (gP (bN (aA aH.up qH (di 2) (cP au)))
       (aZ (aA aF.up cU (aA aF.up dF (aA aF.up mJ (aA aF.up mJ (aA aF.up cz (aj 0) au) au) (aj 4)) (aA aF.up cz (aj 0) au)) (aj 5)) (aL 6))
       dq)
      (aP (gP (bN (aA aH.up qH (di 2) (cP au)))
       (aZ (aA aF.up cU (aA aF.up dF (aj 5) (aA aF.up cz (aj 0) au)) (aj 4)) (aL 6))
       dq)
      (aZ (aA aF.up JX (aj 3) (aA aF.up oY au (aj 6))) (aL 3)))))
      dq)))
   (du (aj 3))))
theorem dM:bF ["_law_size_here","_law_one","_law_other","_law_between","_law_found","_law_wide","_law_row","_law_line","_law_more"] ["_law_size_here","_law_one","_law_other","_law_between"] (aN (top 31)):=⟨rfl,rfl,rfl,by decide +kernel,rfl,by decide +kernel,by decide +kernel⟩
theorem Ds (T:Txt mg) (D:bD K mg "_law_beside" (top 31) ["_law_size_here","_law_one","_law_other","_law_between"]):FnAt P w K mg base "_law_beside" 1 ["_law_size_here","_law_one","_law_other","_law_between"] (spM K XR0 bW):=by
 refine D.ok dM (fun vs H Q E h=>dO h fun ps r e=>match ps,e with | [_,_,_,_],_=>rfl) (fun f cdv A outer s H vs Q E hr h=>?_)
 refine ⟨_,(aC (aX (i:=4) dM.nd rfl (Or.inl rfl) aq)
   (aC (aX (i:=5) dM.nd rfl (Or.inl rfl) (aM bB (aM bH aq (bh aY (pv 0) aq (fun _ _=>rfl))) aq))
   (aC (iQ ZaP rfl (gR rfl T.b_range (ak (bh aY (pv 0) aq (fun _ _=>rfl)) aO)) (dB (i:=6) dM.nd rfl (Or.inl rfl))
    (aC (aX (i:=7) dM.nd rfl (Or.inl rfl) (aM mW (aM uG (pv 1) (aM bH (pv 6) (bh aY (pv 0) aq (fun _ _=>rfl)))) (aM iR (aM jW aq (bh aY (pv 0) aq (fun _ _=>rfl))) aq)))
    (aC (aX (i:=8) dM.nd rfl (Or.inl rfl) (aM mW (aM uG (pv 2) (aM bH (pv 6) (bh aY (pv 0) aq (fun _ _=>rfl)))) (aM iR (aM jW aq (bh aY (pv 0) aq (fun _ _=>rfl))) aq)))
    (aC (aX (i:=7) dM.nd rfl (Or.inl rfl) (aM Ak (pv 7) (aM jW (pv 3) (bh aY (pv 0) aq (fun _ _=>rfl)))))
    (aU (aX (i:=4) dM.nd rfl (Or.inl rfl) (aM Ak (pv 4) (aM jW (aM Ak (pv 7) (aM jW (pv 8) (aM bB (bh aY (pv 0) aq (fun _ _=>rfl)) aq))) (aM bH (pv 6) (pv 5))))))))))
   (aU (bM (pv 4)))))),dN (b:=iz) (k:=4) (n:=5) rfl (fun ps r e=>match ps,e with | [_,_,_,_],e=>⟨rfl,e⟩) h fun io H0 F0 hio=>?_⟩
 exact (aP (aZ au (aL 4))
   (aP (aZ (aA aF.up cU (aA aF.up dF au (aA aF.up cz (aj 0) au)) au) (aL 5))
   (aP (jo (lH (ao (aA aF.up cz (aj 0) au) aQ)) (aL 6)
    (aP (aZ (aA aF.up tL (aA aF.up Bg (aj 1) (aA aF.up dF (aj 6) (aA aF.up cz (aj 0) au))) (aA aF.up mJ (aA aF.up oY au (aA aF.up cz (aj 0) au)) au)) (aL 7))
    (aP (aZ (aA aF.up tL (aA aF.up Bg (aj 2) (aA aF.up dF (aj 6) (aA aF.up cz (aj 0) au))) (aA aF.up mJ (aA aF.up oY au (aA aF.up cz (aj 0) au)) au)) (aL 8))
    (aP (aZ (aA aF.up JX (aj 7) (aA aF.up oY (aj 3) (aA aF.up cz (aj 0) au))) (aL 7))
    (aZ (aA aF.up JX (aj 4) (aA aF.up oY (aA aF.up JX (aj 7) (aA aF.up oY (aj 8) (aA aF.up cU (aA aF.up cz (aj 0) au) au))) (aA aF.up dF (aj 6) (aj 5)))) (aL 4))))))
   (du (aj 4)))))
theorem Je:bF ["_law_size_here","_law_away","_law_keep"] ["_law_size_here","_law_away","_law_keep"] (aN (top 32)):=⟨rfl,rfl,rfl,by decide +kernel,rfl,by decide +kernel,by decide +kernel⟩
theorem Jf (T:Txt mg) (D:bD K mg "_law_many" (top 32) ["_law_size_here","_law_away","_law_keep"]) (G_fewest_strokes:FnAt P w K mg base "fewest_strokes" 6 ["size","away","keep"] (spM K XR0 fG)):FnAt P w K mg base "_law_many" 7 ["_law_size_here","_law_away","_law_keep"] (spM K XR0 cW):=by
 refine D.ok Je (fun vs H Q E h=>dO h fun ps r e=>match ps,e with | [_,_,_],_=>rfl) (fun f cdv A outer s H vs Q E hr h=>?_)
 refine ⟨_,(aU (bM (gk j8 rfl T.b_len (by decide +kernel) (ak (bh aY (aW G_fewest_strokes (hr.mono (by decide)) rfl (ak (pv 0) (ak (pv 1) (ak (pv 2) aO)))) aq (fun _ _=>rfl)) aO)))),dN (b:=jT) (k:=3) (n:=0) rfl (fun ps r e=>match ps,e with | [_,_,_],e=>⟨rfl,e⟩) h fun io H0 F0 hio=>?_⟩
 exact (du (rY xG (cP (aA aF.up cz (bG (ao (aj 0) (ao (aj 1) (ao (aj 2) aQ)))) au))))
theorem iY:bF ["_law_script","_law_size_here","_law_away","_law_keep","_law_many_here","_law_way","_law_turned","_law_out","_law_stay","_law_wide","_law_both"] ["_law_script"] (aN (top 33)):=⟨rfl,rfl,rfl,by decide +kernel,rfl,by decide +kernel,by decide +kernel⟩
theorem R5 (T:Txt mg) {f:Addr}{fd:FuncData} (F:Fun K "law" "law" (top 33) f fd) (G__law_size:FnAt P w K mg base "_law_size" 2 ["_law_cell_here"] (spM K XR0 iM)) (G__law_cell:FnAt P w K mg base "_law_cell" 1 ["_law_script","_law_k"] (spM K XR0 cV)) (G__law_carving:FnAt P w K mg base "_law_carving" 3 ["_law_size_here","_law_cell_here","_law_k"] (spO K XR0 cF)) (G__law_many:FnAt P w K mg base "_law_many" 7 ["_law_size_here","_law_away","_law_keep"] (spM K XR0 cW)) (G__law_moved:FnAt P w K mg base "_law_moved" 1 ["_law_size_here","_law_some","_law_way"] (spM K XR0 cC)) (G__law_beside:FnAt P w K mg base "_law_beside" 1 ["_law_size_here","_law_one","_law_other","_law_between"] (spM K XR0 bW)):wL P w K mg base CX0 8 f fd ["_law_script"] (spM K XR0 yc):=by
 refine F.ok iY (fun vs H Q E h=>dO h fun ps r e=>match ps,e with | [_],_=>rfl) (fun cdv A outer s H vs Q E hr h=>?_)
 refine ⟨_,(aC (aX (i:=1) iY.nd rfl (Or.inl rfl) (aW G__law_size (hr.mono (by decide)) rfl (ak (aW G__law_cell (hr.mono (by decide)) rfl (ak (pv 0) (ak aq aO))) aO)))
   (aC (Jm (aW G__law_carving (hr.mono (by decide)) rfl (ak (pv 1) (ak (aW G__law_cell (hr.mono (by decide)) rfl (ak (pv 0) (ak aq aO))) (ak aq aO)))) (KZ (n:=2) rfl (dU (dB (i:=2) iY.nd rfl (Or.inl rfl)) (dU (dB (i:=3) iY.nd rfl (Or.inl rfl)) n6))))
   (aC (aX (i:=4) iY.nd rfl (Or.inl rfl) (aW G__law_many (hr.mono (by decide)) rfl (ak (pv 1) (ak (pv 2) (ak (pv 3) aO)))))
   (aC (iQ ZaP rfl (gR rfl T.b_range (ak aq aO)) (dB (i:=5) iY.nd rfl (Or.inl rfl))
    (aC (aX (i:=6) iY.nd rfl (Or.inl rfl) (pv 1))
    (aC (gO (bO (gm hr) (pv 5) aq (cN _))
     (aU (aX (i:=6) iY.nd rfl (Or.inl rfl) (fV (ak (bh aY (pv 1) aq (fun _ _=>rfl)) (ak (bh aY (pv 1) aq (fun _ _=>rfl)) aO)))))
     dg)
    (aU (gO (bO (QZ hr) (aW G__law_many (hr.mono (by decide)) rfl (ak (pv 6) (ak (aW G__law_moved (hr.mono (by decide)) rfl (ak (pv 1) (ak (pv 2) (ak (pv 5) aO)))) (ak (aW G__law_moved (hr.mono (by decide)) rfl (ak (pv 1) (ak (pv 3) (ak (pv 5) aO)))) aO)))) (pv 4) (cN _))
     (aU (bM O5))
     dg)))))
   (aC (gO (PW.pt (R7 (bO Fq (bh aY (pv 1) aq (fun _ _=>rfl)) aq (cN _)) (Qp (bO Fq (aM bH (bh aY (pv 1) aq (fun _ _=>rfl)) (bh aY (pv 1) aq (fun _ _=>rfl))) aq (cN _)))))
    (aU (bM O5))
    dg)
   (aC (Jm (aW G__law_carving (hr.mono (by decide)) rfl (ak (pv 1) (ak (aW G__law_cell (hr.mono (by decide)) rfl (ak (pv 0) (ak aq aO))) (ak aq aO)))) (KZ (n:=2) rfl (dU (dB (i:=7) iY.nd rfl (Or.inl rfl)) (dU (dB (i:=8) iY.nd rfl (Or.inl rfl)) n6))))
   (aC (aX (i:=9) iY.nd rfl (Or.inl rfl) (fV (ak (aM bB (aM bH aq (bh aY (pv 1) aq (fun _ _=>rfl))) aq) (ak (bh aY (pv 1) aq (fun _ _=>rfl)) aO))))
   (aC (aX (i:=10) iY.nd rfl (Or.inl rfl) (aW G__law_many (hr.mono (by decide)) rfl (ak (pv 9) (ak (aW G__law_beside (hr.mono (by decide)) rfl (ak (pv 1) (ak (pv 2) (ak (pv 7) (ak aq aO))))) (ak (aW G__law_beside (hr.mono (by decide)) rfl (ak (pv 1) (ak (pv 3) (ak (pv 8) (ak aq aO))))) aO)))))
   (aU (bM (Ft (gm hr) (pv 10) (aM bB (pv 4) (aW G__law_many (hr.mono (by decide)) rfl (ak (pv 1) (ak (pv 7) (ak (pv 8) aO))))) (cN _)))))))))))),dN (b:=Gy) (k:=1) (n:=10) rfl (fun ps r e=>match ps,e with | [_],e=>⟨rfl,e⟩) h fun io H0 F0 hio=>?_⟩
 exact (aP (aZ (bG (ao (bG (ao (aj 0) (ao au aQ))) aQ)) (aL 1))
   (aP (aZ (cY (fQ (ao (aj 1) (ao (bG (ao (aj 0) (ao au aQ))) (ao au aQ))))) (K1 (dW (aL 2) (dW (aL 3) oA))))
   (aP (aZ (bG (ao (aj 1) (ao (aj 2) (ao (aj 3) aQ)))) (aL 4))
   (aP (jo (lH (ao au aQ)) (aL 5)
    (aP (aZ (aj 1) (aL 6))
    (aP (gP (bN (aA aH.up qH (di 5) (cP au)))
     (aZ (gU (ao (aA aF.up cz (aj 1) au) (ao (aA aF.up cz (aj 1) au) aQ))) (aL 6))
     dq)
    (gP (bN (aA aH.up Um (cP (bG (ao (aj 6) (ao (bG (ao (aj 1) (ao (aj 2) (ao (aj 5) aQ)))) (ao (bG (ao (aj 1) (ao (aj 3) (ao (aj 5) aQ)))) aQ))))) (di 4)))
     (du Pz)
     dq))))
   (aP (gP (SX (bN (aA aF.up Nf (aA aF.up cz (aj 1) au) au)) (bN (aA aF.up Nf (aA aF.up dF (aA aF.up cz (aj 1) au) (aA aF.up cz (aj 1) au)) au)))
    (du Pz)
    dq)
   (aP (aZ (cY (fQ (ao (aj 1) (ao (bG (ao (aj 0) (ao au aQ))) (ao au aQ))))) (K1 (dW (aL 7) (dW (aL 8) oA))))
   (aP (aZ (gU (ao (aA aF.up cU (aA aF.up dF au (aA aF.up cz (aj 1) au)) au) (ao (aA aF.up cz (aj 1) au) aQ))) (aL 9))
   (aP (aZ (bG (ao (aj 9) (ao (bG (ao (aj 1) (ao (aj 2) (ao (aj 7) (ao au aQ))))) (ao (bG (ao (aj 1) (ao (aj 3) (ao (aj 8) (ao au aQ))))) aQ)))) (aL 10))
   (du (aA aH.up qH (di 10) (cP (aA aF.up cU (aj 4) (bG (ao (aj 1) (ao (aj 7) (ao (aj 8) aQ))))))))))))))))
end
theorem R6 {l:PySem.W.OpenLaw}{w:World}{K:PySem.W.Frag}{h:Heap}{mg:Str->Option Value}{fa f0 f1 f2 f3 f4 f5 f6 f7 f8 f9 f10 f11 f12 f13 f14 f15 f16 f17 f18 f19 f20 f21 f22 f23 f24:Addr} (X:K.In h) (G:h.Ns mainGlobals mg) (hfa:mg "law"=some (.ref fa))
  {od0 an0 od1 an1 od2 an2 od3 an3 od4 an4 od5 an5 od6 an6 od7 an7 od8 an8 od9 an9 od10 an10 od11 an11 od12 an12 od13 an13 od14 an14 od15 an15 od16 an16 od17 an17 od18 an18 od19 an19 od20 an20 od21 an21 od22 an22 od23 an23 od24 an24:Option Addr}{sl0 sl1 sl2 sl3 sl4 sl5 sl6 sl7 sl8 sl9 sl10 sl11 sl12 sl13 sl14 sl15 sl16 sl17 sl18 sl19 sl20 sl21 sl22 sl23 sl24:Array (Option Value)}{oc0 kV0 dc0 pm0 cd0 ct0 oc1 kV1 dc1 pm1 cd1 ct1 oc2 kV2 dc2 pm2 cd2 ct2 oc3 kV3 dc3 pm3 cd3 ct3 oc4 kV4 dc4 pm4 cd4 ct4 oc5 kV5 dc5 pm5 cd5 ct5 oc6 kV6 dc6 pm6 cd6 ct6 oc7 kV7 dc7 pm7 cd7 ct7 oc8 kV8 dc8 pm8 cd8 ct8 oc9 kV9 dc9 pm9 cd9 ct9 oc10 kV10 dc10 pm10 cd10 ct10 oc11 kV11 dc11 pm11 cd11 ct11 oc12 kV12 dc12 pm12 cd12 ct12 oc13 kV13 dc13 pm13 cd13 ct13 oc14 kV14 dc14 pm14 cd14 ct14 oc15 kV15 dc15 pm15 cd15 ct15 oc16 kV16 dc16 pm16 cd16 ct16 oc17 kV17 dc17 pm17 cd17 ct17 oc18 kV18 dc18 pm18 cd18 ct18 oc19 kV19 dc19 pm19 cd19 ct19 oc20 kV20 dc20 pm20 cd20 ct20 oc21 kV21 dc21 pm21 cd21 ct21 oc22 kV22 dc22 pm22 cd22 ct22 oc23 kV23 dc23 pm23 cd23 ct23 oc24 kV24 dc24 pm24 cd24 ct24:Value}{t_COLUMN t_ROW:Tok}
  (a0:PySem.W.nsIn K mainGlobals "place_of"=some (some (.ref f0))) (l0:K.lookup f0=some ⟨oc0,od0,.func (PySem.W.fnOf "place_of" "place_of" (bx (top 4)) (bj (top 4)) (aN (top 4)) .none kV0 dc0 pm0 an0 cd0 ct0),sl0⟩) (c0:PySem.W.codeIn K cd0 "place_of"=true) (k0:PySem.W.keepIn K (.ref f0)=true)
  (a1:PySem.W.nsIn K mainGlobals "has_cell"=some (some (.ref f1))) (l1:K.lookup f1=some ⟨oc1,od1,.func (PySem.W.fnOf "has_cell" "has_cell" (bx (top 5)) (bj (top 5)) (aN (top 5)) .none kV1 dc1 pm1 an1 cd1 ct1),sl1⟩) (c1:PySem.W.codeIn K cd1 "has_cell"=true) (k1:PySem.W.keepIn K (.ref f1)=true)
  (a2:PySem.W.nsIn K mainGlobals "all_cells"=some (some (.ref f2))) (l2:K.lookup f2=some ⟨oc2,od2,.func (PySem.W.fnOf "all_cells" "all_cells" (bx (top 6)) (bj (top 6)) (aN (top 6)) .none kV2 dc2 pm2 an2 cd2 ct2),sl2⟩) (c2:PySem.W.codeIn K cd2 "all_cells"=true) (k2:PySem.W.keepIn K (.ref f2)=true)
  (a3:PySem.W.nsIn K mainGlobals "set_of"=some (some (.ref f3))) (l3:K.lookup f3=some ⟨oc3,od3,.func (PySem.W.fnOf "set_of" "set_of" (bx (top 7)) (bj (top 7)) (aN (top 7)) .none kV3 dc3 pm3 an3 cd3 ct3),sl3⟩) (c3:PySem.W.codeIn K cd3 "set_of"=true) (k3:PySem.W.keepIn K (.ref f3)=true)
  (a4:PySem.W.nsIn K mainGlobals "cells_of"=some (some (.ref f4))) (l4:K.lookup f4=some ⟨oc4,od4,.func (PySem.W.fnOf "cells_of" "cells_of" (bx (top 8)) (bj (top 8)) (aN (top 8)) .none kV4 dc4 pm4 an4 cd4 ct4),sl4⟩) (c4:PySem.W.codeIn K cd4 "cells_of"=true) (k4:PySem.W.keepIn K (.ref f4)=true)
  (a5:PySem.W.nsIn K mainGlobals "walked"=some (some (.ref f5))) (l5:K.lookup f5=some ⟨oc5,od5,.func (PySem.W.fnOf "walked" "walked" (bx (top 10)) (bj (top 10)) (aN (top 10)) .none kV5 dc5 pm5 an5 cd5 ct5),sl5⟩) (c5:PySem.W.codeIn K cd5 "walked"=true) (k5:PySem.W.keepIn K (.ref f5)=true)
  (a6:PySem.W.nsIn K mainGlobals "pair_anew"=some (some (.ref f6))) (l6:K.lookup f6=some ⟨oc6,od6,.func (PySem.W.fnOf "pair_anew" "pair_anew" (bx (top 11)) (bj (top 11)) (aN (top 11)) .none kV6 dc6 pm6 an6 cd6 ct6),sl6⟩) (c6:PySem.W.codeIn K cd6 "pair_anew"=true) (k6:PySem.W.keepIn K (.ref f6)=true)
  (a7:PySem.W.nsIn K mainGlobals "most_pairs"=some (some (.ref f7))) (l7:K.lookup f7=some ⟨oc7,od7,.func (PySem.W.fnOf "most_pairs" "most_pairs" (bx (top 12)) (bj (top 12)) (aN (top 12)) .none kV7 dc7 pm7 an7 cd7 ct7),sl7⟩) (c7:PySem.W.codeIn K cd7 "most_pairs"=true) (k7:PySem.W.keepIn K (.ref f7)=true)
  (a8:PySem.W.nsIn K mainGlobals "short_of_givers"=some (some (.ref f8))) (l8:K.lookup f8=some ⟨oc8,od8,.func (PySem.W.fnOf "short_of_givers" "short_of_givers" (bx (top 13)) (bj (top 13)) (aN (top 13)) .none kV8 dc8 pm8 an8 cd8 ct8),sl8⟩) (c8:PySem.W.codeIn K cd8 "short_of_givers"=true) (k8:PySem.W.keepIn K (.ref f8)=true)
  (a9:PySem.W.nsIn K mainGlobals "lines_of"=some (some (.ref f9))) (l9:K.lookup f9=some ⟨oc9,od9,.func (PySem.W.fnOf "lines_of" "lines_of" (bx (top 17)) (bj (top 17)) (aN (top 17)) .none kV9 dc9 pm9 an9 cd9 ct9),sl9⟩) (c9:PySem.W.codeIn K cd9 "lines_of"=true) (k9:PySem.W.keepIn K (.ref f9)=true)
  (a10:PySem.W.nsIn K mainGlobals "length_of"=some (some (.ref f10))) (l10:K.lookup f10=some ⟨oc10,od10,.func (PySem.W.fnOf "length_of" "length_of" (bx (top 18)) (bj (top 18)) (aN (top 18)) .none kV10 dc10 pm10 an10 cd10 ct10),sl10⟩) (c10:PySem.W.codeIn K cd10 "length_of"=true) (k10:PySem.W.keepIn K (.ref f10)=true)
  (a11:PySem.W.nsIn K mainGlobals "stroke_cells"=some (some (.ref f11))) (l11:K.lookup f11=some ⟨oc11,od11,.func (PySem.W.fnOf "stroke_cells" "stroke_cells" (bx (top 19)) (bj (top 19)) (aN (top 19)) .none kV11 dc11 pm11 an11 cd11 ct11),sl11⟩) (c11:PySem.W.codeIn K cd11 "stroke_cells"=true) (k11:PySem.W.keepIn K (.ref f11)=true)
  (a12:PySem.W.nsIn K mainGlobals "longest_strokes"=some (some (.ref f12))) (l12:K.lookup f12=some ⟨oc12,od12,.func (PySem.W.fnOf "longest_strokes" "longest_strokes" (bx (top 20)) (bj (top 20)) (aN (top 20)) .none kV12 dc12 pm12 an12 cd12 ct12),sl12⟩) (c12:PySem.W.codeIn K cd12 "longest_strokes"=true) (k12:PySem.W.keepIn K (.ref f12)=true)
  (a13:PySem.W.nsIn K mainGlobals "longest_by_cell"=some (some (.ref f13))) (l13:K.lookup f13=some ⟨oc13,od13,.func (PySem.W.fnOf "longest_by_cell" "longest_by_cell" (bx (top 21)) (bj (top 21)) (aN (top 21)) .none kV13 dc13 pm13 an13 cd13 ct13),sl13⟩) (c13:PySem.W.codeIn K cd13 "longest_by_cell"=true) (k13:PySem.W.keepIn K (.ref f13)=true)
  (a14:PySem.W.nsIn K mainGlobals "crossings"=some (some (.ref f14))) (l14:K.lookup f14=some ⟨oc14,od14,.func (PySem.W.fnOf "crossings" "crossings" (bx (top 22)) (bj (top 22)) (aN (top 22)) .none kV14 dc14 pm14 an14 cd14 ct14),sl14⟩) (c14:PySem.W.codeIn K cd14 "crossings"=true) (k14:PySem.W.keepIn K (.ref f14)=true)
  (a15:PySem.W.nsIn K mainGlobals "fewest_strokes"=some (some (.ref f15))) (l15:K.lookup f15=some ⟨oc15,od15,.func (PySem.W.fnOf "fewest_strokes" "fewest_strokes" (bx (top 23)) (bj (top 23)) (aN (top 23)) .none kV15 dc15 pm15 an15 cd15 ct15),sl15⟩) (c15:PySem.W.codeIn K cd15 "fewest_strokes"=true) (k15:PySem.W.keepIn K (.ref f15)=true)
  (a16:PySem.W.nsIn K mainGlobals "_law_cell"=some (some (.ref f16))) (l16:K.lookup f16=some ⟨oc16,od16,.func (PySem.W.fnOf "_law_cell" "_law_cell" (bx (top 25)) (bj (top 25)) (aN (top 25)) .none kV16 dc16 pm16 an16 cd16 ct16),sl16⟩) (c16:PySem.W.codeIn K cd16 "_law_cell"=true) (k16:PySem.W.keepIn K (.ref f16)=true)
  (a17:PySem.W.nsIn K mainGlobals "_law_mixed"=some (some (.ref f17))) (l17:K.lookup f17=some ⟨oc17,od17,.func (PySem.W.fnOf "_law_mixed" "_law_mixed" (bx (top 26)) (bj (top 26)) (aN (top 26)) .none kV17 dc17 pm17 an17 cd17 ct17),sl17⟩) (c17:PySem.W.codeIn K cd17 "_law_mixed"=true) (k17:PySem.W.keepIn K (.ref f17)=true)
  (a18:PySem.W.nsIn K mainGlobals "_law_size"=some (some (.ref f18))) (l18:K.lookup f18=some ⟨oc18,od18,.func (PySem.W.fnOf "_law_size" "_law_size" (bx (top 27)) (bj (top 27)) (aN (top 27)) .none kV18 dc18 pm18 an18 cd18 ct18),sl18⟩) (c18:PySem.W.codeIn K cd18 "_law_size"=true) (k18:PySem.W.keepIn K (.ref f18)=true)
  (a19:PySem.W.nsIn K mainGlobals "_law_set"=some (some (.ref f19))) (l19:K.lookup f19=some ⟨oc19,od19,.func (PySem.W.fnOf "_law_set" "_law_set" (bx (top 28)) (bj (top 28)) (aN (top 28)) .none kV19 dc19 pm19 an19 cd19 ct19),sl19⟩) (c19:PySem.W.codeIn K cd19 "_law_set"=true) (k19:PySem.W.keepIn K (.ref f19)=true)
  (a20:PySem.W.nsIn K mainGlobals "_law_carving"=some (some (.ref f20))) (l20:K.lookup f20=some ⟨oc20,od20,.func (PySem.W.fnOf "_law_carving" "_law_carving" (bx (top 29)) (bj (top 29)) (aN (top 29)) .none kV20 dc20 pm20 an20 cd20 ct20),sl20⟩) (c20:PySem.W.codeIn K cd20 "_law_carving"=true) (k20:PySem.W.keepIn K (.ref f20)=true)
  (a21:PySem.W.nsIn K mainGlobals "_law_moved"=some (some (.ref f21))) (l21:K.lookup f21=some ⟨oc21,od21,.func (PySem.W.fnOf "_law_moved" "_law_moved" (bx (top 30)) (bj (top 30)) (aN (top 30)) .none kV21 dc21 pm21 an21 cd21 ct21),sl21⟩) (c21:PySem.W.codeIn K cd21 "_law_moved"=true) (k21:PySem.W.keepIn K (.ref f21)=true)
  (a22:PySem.W.nsIn K mainGlobals "_law_beside"=some (some (.ref f22))) (l22:K.lookup f22=some ⟨oc22,od22,.func (PySem.W.fnOf "_law_beside" "_law_beside" (bx (top 31)) (bj (top 31)) (aN (top 31)) .none kV22 dc22 pm22 an22 cd22 ct22),sl22⟩) (c22:PySem.W.codeIn K cd22 "_law_beside"=true) (k22:PySem.W.keepIn K (.ref f22)=true)
  (a23:PySem.W.nsIn K mainGlobals "_law_many"=some (some (.ref f23))) (l23:K.lookup f23=some ⟨oc23,od23,.func (PySem.W.fnOf "_law_many" "_law_many" (bx (top 32)) (bj (top 32)) (aN (top 32)) .none kV23 dc23 pm23 an23 cd23 ct23),sl23⟩) (c23:PySem.W.codeIn K cd23 "_law_many"=true) (k23:PySem.W.keepIn K (.ref f23)=true)
  (a24:PySem.W.nsIn K mainGlobals "law"=some (some (.ref f24))) (l24:K.lookup f24=some ⟨oc24,od24,.func (PySem.W.fnOf "law" "law" (bx (top 33)) (bj (top 33)) (aN (top 33)) .none kV24 dc24 pm24 an24 cd24 ct24),sl24⟩) (c24:PySem.W.codeIn K cd24 "law"=true) (k24:PySem.W.keepIn K (.ref f24)=true)
  (z_dict:PySem.W.nsIn K mainGlobals "dict"=some none) (z_enumerate:PySem.W.nsIn K mainGlobals "enumerate"=some none) (z_len:PySem.W.nsIn K mainGlobals "len"=some none) (z_list:PySem.W.nsIn K mainGlobals "list"=some none) (z_range:PySem.W.nsIn K mainGlobals "range"=some none) (z_sorted:PySem.W.nsIn K mainGlobals "sorted"=some none) (z_zip:PySem.W.nsIn K mainGlobals "zip"=some none) (y_COLUMN:PySem.W.nsIn K mainGlobals "COLUMN"=some (some (.str "column" t_COLUMN))) (y_ROW:PySem.W.nsIn K mainGlobals "ROW"=some (some (.str "row" t_ROW))) :
  ∃ fd:FuncData,(∀ (s:Shared) (v:Value),BindsTo s fd ⟨[v],[]⟩ [("_law_script",v)])∧∀ base:Heap,K.In base->base.Ns mainGlobals mg->wL l.prog w K mg base CX0 8 fa fd ["_law_script"] (spM K XR0 yc):=by
 have e:=hfa.symm.trans (Zay X G a24)
 cases e
 have T:Txt mg:=⟨trivial,Zbg X G z_dict,Zbg X G z_enumerate,Zbg X G z_len,Zbg X G z_list,Zbg X G z_range,Zbg X G z_sorted,Zbg X G z_zip,⟨_,Zay X G y_COLUMN⟩,⟨_,Zay X G y_ROW⟩⟩
 have F0:=cI (st:=top 4) l0 c0 k0
 have D0:bD K mg "place_of" (top 4) ["size","cell"]:=⟨⟨_,_,Zay X G a0,F0,F0.binds fun _ _ _ _ _ _ us hl=>by obtain ⟨_,_,rfl⟩:=zj hl;rfl⟩⟩
 have F1:=cI (st:=top 5) l1 c1 k1
 have D1:bD K mg "has_cell" (top 5) ["size","some","cell"]:=⟨⟨_,_,Zay X G a1,F1,F1.binds fun _ _ _ _ _ _ us hl=>by obtain ⟨_,_,_,rfl⟩:=wR hl;rfl⟩⟩
 have F2:=cI (st:=top 6) l2 c2 k2
 have D2:bD K mg "all_cells" (top 6) ["size"]:=⟨⟨_,_,Zay X G a2,F2,F2.binds fun _ _ _ _ _ _ us hl=>by obtain ⟨_,rfl⟩:=K3 hl;rfl⟩⟩
 have F3:=cI (st:=top 7) l3 c3 k3
 have D3:bD K mg "set_of" (top 7) ["size","cells"]:=⟨⟨_,_,Zay X G a3,F3,F3.binds fun _ _ _ _ _ _ us hl=>by obtain ⟨_,_,rfl⟩:=zj hl;rfl⟩⟩
 have F4:=cI (st:=top 8) l4 c4 k4
 have D4:bD K mg "cells_of" (top 8) ["size","some"]:=⟨⟨_,_,Zay X G a4,F4,F4.binds fun _ _ _ _ _ _ us hl=>by obtain ⟨_,_,rfl⟩:=zj hl;rfl⟩⟩
 have F5:=cI (st:=top 10) l5 c5 k5
 have D5:bD K mg "walked" (top 10) ["wishes","asker_of","starts"]:=⟨⟨_,_,Zay X G a5,F5,F5.binds fun _ _ _ _ _ _ us hl=>by obtain ⟨_,_,_,rfl⟩:=wR hl;rfl⟩⟩
 have F6:=cI (st:=top 11) l6 c6 k6
 have D6:bD K mg "pair_anew" (top 11) ["giver_of","asker_of","came_by","free"]:=⟨⟨_,_,Zay X G a6,F6,F6.binds fun _ _ _ _ _ _ us hl=>by obtain ⟨_,_,_,_,rfl⟩:=RC hl;rfl⟩⟩
 have F7:=cI (st:=top 12) l7 c7 k7
 have D7:bD K mg "most_pairs" (top 12) ["wishes"]:=⟨⟨_,_,Zay X G a7,F7,F7.binds fun _ _ _ _ _ _ us hl=>by obtain ⟨_,rfl⟩:=K3 hl;rfl⟩⟩
 have F8:=cI (st:=top 13) l8 c8 k8
 have D8:bD K mg "short_of_givers" (top 13) ["wishes","giver_of"]:=⟨⟨_,_,Zay X G a8,F8,F8.binds fun _ _ _ _ _ _ us hl=>by obtain ⟨_,_,rfl⟩:=zj hl;rfl⟩⟩
 have F9:=cI (st:=top 17) l9 c9 k9
 have D9:bD K mg "lines_of" (top 17) ["size","kind"]:=⟨⟨_,_,Zay X G a9,F9,F9.binds fun _ _ _ _ _ _ us hl=>by obtain ⟨_,_,rfl⟩:=zj hl;rfl⟩⟩
 have F10:=cI (st:=top 18) l10 c10 k10
 have D10:bD K mg "length_of" (top 18) ["size","kind"]:=⟨⟨_,_,Zay X G a10,F10,F10.binds fun _ _ _ _ _ _ us hl=>by obtain ⟨_,_,rfl⟩:=zj hl;rfl⟩⟩
 have F11:=cI (st:=top 19) l11 c11 k11
 have D11:bD K mg "stroke_cells" (top 19) ["stroke"]:=⟨⟨_,_,Zay X G a11,F11,F11.binds fun _ _ _ _ _ _ us hl=>by obtain ⟨_,rfl⟩:=K3 hl;rfl⟩⟩
 have F12:=cI (st:=top 20) l12 c12 k12
 have D12:bD K mg "longest_strokes" (top 20) ["size","keep","kind","line"]:=⟨⟨_,_,Zay X G a12,F12,F12.binds fun _ _ _ _ _ _ us hl=>by obtain ⟨_,_,_,_,rfl⟩:=RC hl;rfl⟩⟩
 have F13:=cI (st:=top 21) l13 c13 k13
 have D13:bD K mg "longest_by_cell" (top 21) ["size","keep","kind"]:=⟨⟨_,_,Zay X G a13,F13,F13.binds fun _ _ _ _ _ _ us hl=>by obtain ⟨_,_,_,rfl⟩:=wR hl;rfl⟩⟩
 have F14:=cI (st:=top 22) l14 c14 k14
 have D14:bD K mg "crossings" (top 22) ["size","away","keep"]:=⟨⟨_,_,Zay X G a14,F14,F14.binds fun _ _ _ _ _ _ us hl=>by obtain ⟨_,_,_,rfl⟩:=wR hl;rfl⟩⟩
 have F15:=cI (st:=top 23) l15 c15 k15
 have D15:bD K mg "fewest_strokes" (top 23) ["size","away","keep"]:=⟨⟨_,_,Zay X G a15,F15,F15.binds fun _ _ _ _ _ _ us hl=>by obtain ⟨_,_,_,rfl⟩:=wR hl;rfl⟩⟩
 have F16:=cI (st:=top 25) l16 c16 k16
 have D16:bD K mg "_law_cell" (top 25) ["_law_script","_law_k"]:=⟨⟨_,_,Zay X G a16,F16,F16.binds fun _ _ _ _ _ _ us hl=>by obtain ⟨_,_,rfl⟩:=zj hl;rfl⟩⟩
 have F17:=cI (st:=top 26) l17 c17 k17
 have D17:bD K mg "_law_mixed" (top 26) ["_law_cell_here","_law_k"]:=⟨⟨_,_,Zay X G a17,F17,F17.binds fun _ _ _ _ _ _ us hl=>by obtain ⟨_,_,rfl⟩:=zj hl;rfl⟩⟩
 have F18:=cI (st:=top 27) l18 c18 k18
 have D18:bD K mg "_law_size" (top 27) ["_law_cell_here"]:=⟨⟨_,_,Zay X G a18,F18,F18.binds fun _ _ _ _ _ _ us hl=>by obtain ⟨_,rfl⟩:=K3 hl;rfl⟩⟩
 have F19:=cI (st:=top 28) l19 c19 k19
 have D19:bD K mg "_law_set" (top 28) ["_law_size_here","_law_cell_here","_law_k"]:=⟨⟨_,_,Zay X G a19,F19,F19.binds fun _ _ _ _ _ _ us hl=>by obtain ⟨_,_,_,rfl⟩:=wR hl;rfl⟩⟩
 have F20:=cI (st:=top 29) l20 c20 k20
 have D20:bD K mg "_law_carving" (top 29) ["_law_size_here","_law_cell_here","_law_k"]:=⟨⟨_,_,Zay X G a20,F20,F20.binds fun _ _ _ _ _ _ us hl=>by obtain ⟨_,_,_,rfl⟩:=wR hl;rfl⟩⟩
 have F21:=cI (st:=top 30) l21 c21 k21
 have D21:bD K mg "_law_moved" (top 30) ["_law_size_here","_law_some","_law_way"]:=⟨⟨_,_,Zay X G a21,F21,F21.binds fun _ _ _ _ _ _ us hl=>by obtain ⟨_,_,_,rfl⟩:=wR hl;rfl⟩⟩
 have F22:=cI (st:=top 31) l22 c22 k22
 have D22:bD K mg "_law_beside" (top 31) ["_law_size_here","_law_one","_law_other","_law_between"]:=⟨⟨_,_,Zay X G a22,F22,F22.binds fun _ _ _ _ _ _ us hl=>by obtain ⟨_,_,_,_,rfl⟩:=RC hl;rfl⟩⟩
 have F23:=cI (st:=top 32) l23 c23 k23
 have D23:bD K mg "_law_many" (top 32) ["_law_size_here","_law_away","_law_keep"]:=⟨⟨_,_,Zay X G a23,F23,F23.binds fun _ _ _ _ _ _ us hl=>by obtain ⟨_,_,_,rfl⟩:=wR hl;rfl⟩⟩
 have F24:=cI (st:=top 33) l24 c24 k24
 refine ⟨PySem.W.fnOf "law" "law" (bx (top 33)) (bj (top 33)) (aN (top 33)) .none kV24 dc24 pm24 an24 cd24 ct24,fun s v=>.of_eq rfl,fun base _ _=>?_⟩
 have G0:=Dk (P:=l.prog) (w:=w) (base:=base) T D0
 have G1:=Dm (P:=l.prog) (w:=w) (base:=base) T D1 G0
 have G2:=zY (P:=l.prog) (w:=w) (base:=base) T D2
 have G3:=Ja (P:=l.prog) (w:=w) (base:=base) T D3 G0
 have G4:=Do (P:=l.prog) (w:=w) (base:=base) T D4 G2 G1
 have G5:=Jb (P:=l.prog) (w:=w) (base:=base) T D5
 have G6:=zZ (P:=l.prog) (w:=w) (base:=base) T D6
 have G7:=wV (P:=l.prog) (w:=w) (base:=base) T D7 G5 G6
 have G8:=qd (P:=l.prog) (w:=w) (base:=base) T D8 G5
 have G9:=Dr (P:=l.prog) (w:=w) (base:=base) T D9
 have G10:=z7 (P:=l.prog) (w:=w) (base:=base) T D10
 have G11:=t8 (P:=l.prog) (w:=w) (base:=base) T D11
 have G12:=qe (P:=l.prog) (w:=w) (base:=base) T D12 G10 G11 G1
 have G13:=qg (P:=l.prog) (w:=w) (base:=base) T D13 G9 G12 G11
 have G14:=z8 (P:=l.prog) (w:=w) (base:=base) T D14 G13 G4
 have G15:=rK (P:=l.prog) (w:=w) (base:=base) T D15 G4 G14 G7 G8 G3
 have G16:=Jc (P:=l.prog) (w:=w) (base:=base) T D16
 have G17:=Fg (P:=l.prog) (w:=w) (base:=base) T D17
 have G18:=Jd (P:=l.prog) (w:=w) (base:=base) T D18 G17
 have G19:=LK (P:=l.prog) (w:=w) (base:=base) T D19 G17
 have G20:=z9 (P:=l.prog) (w:=w) (base:=base) T D20 G19 G17
 have G21:=Fi (P:=l.prog) (w:=w) (base:=base) T D21
 have G22:=Ds (P:=l.prog) (w:=w) (base:=base) T D22
 have G23:=Jf (P:=l.prog) (w:=w) (base:=base) T D23 G15
 exact R5 (P:=l.prog) (w:=w) (base:=base) T F24 G18 G16 G20 G23 G21 G22
theorem walk {l:PySem.W.OpenLaw}{q:Program}{loose:List Str}{XP:(Str->Option Value)->Heap->Prop}{YP:World->Heap->Prop}{d:DefRec}{K:Params->PySem.W.Frag} (hn:l.most=some 63) (hdf:d.params.defaults=[])
  (hY:∀ (w:World) (h:Heap),YP w h->(K w.params).In h)
  (F:∀ (w:World) (mg:Str->Option Value) (fa:Addr) (h:Heap),(K w.params).In h->h.Ns mainGlobals mg->mg d.name=some (.ref fa) ->
   ∃ fd:FuncData,(∀ (s:Shared) (u:Value),BindsTo s fd ⟨[u],[]⟩ [("_law_script",u)])∧∀ base:Heap,(K w.params).In base->base.Ns mainGlobals mg->wL l.prog w (K w.params) mg base CX0 8 fa fd ["_law_script"] (spM (K w.params) XR0 yc))
  (main:∀ ns:List Int,ns.length≤63->yc [.lst (ns.map PV.int)]=some (.ok (.bl true))) :
  PySem.W.WalkO q loose XP YP l.row.toRowW d [] (fun f vs=>PySem.call f vs) :=
 L2.Mx (n:=63) (k:=8) (x:="_law_script") (CX:=fun _=>CX0) (sp:=fun w=>spM (K w.params) XR0 yc) hn (by decide) hdf ⟨rfl,by decide,by decide⟩ hY F (fun w H a ns hl _ hS=>⟨[.lst (ns.map PV.int)],H,.ok (.bl true),aR.refl _,bA.nil.cons (.lst hS (bA.yH (K:=K w.params) (F:=H) ns).1 (bA.yH ns).2),main ns hl,fun v F' H' _ rv=>Rep.m6 rv⟩) fun _ _ _ _ _ z=>z
end MM
open PySem PySem.W PyProof.Rows
set_option maxRecDepth 100000 in
set_option maxHeartbeats 0 in
theorem PySem.Challenge.cw_lostblock_k32_whole_boards_turned_holds : PySem.Challenge.rw_lostblock_k32_whole_boards_turned.Holds := by
 w_on;o_law;o_head (kHook MM.KK [3,52,53,59,60,64,65,71,72,76,77,83,84,90,91,97,98,102,103,109,110,116,117,121,122,126,127,133,134,140,141,145,146,152,153,159,160,166,167,173,174,180,181,187,188,194,195,201,202,208,209] (fun _=>by kernel_rfl));(case hw=>w_witness2)
 k_fill
 refine MM.walk (l:=PySem.Challenge.rw_lostblock_k32_whole_boards_turned) rfl rfl (fun w h Y=>PySem.W.kIn_of Y) ?F MM.law_main
 case F =>
  intro w mg fa h KX G hmg
  refine' MM.R6 KX G hmg ?a0 ?l0 ?c0 ?k0 ?a1 ?l1 ?c1 ?k1 ?a2 ?l2 ?c2 ?k2 ?a3 ?l3 ?c3 ?k3 ?a4 ?l4 ?c4 ?k4 ?a5 ?l5 ?c5 ?k5 ?a6 ?l6 ?c6 ?k6 ?a7 ?l7 ?c7 ?k7 ?a8 ?l8 ?c8 ?k8 ?a9 ?l9 ?c9 ?k9 ?a10 ?l10 ?c10 ?k10 ?a11 ?l11 ?c11 ?k11 ?a12 ?l12 ?c12 ?k12 ?a13 ?l13 ?c13 ?k13 ?a14 ?l14 ?c14 ?k14 ?a15 ?l15 ?c15 ?k15 ?a16 ?l16 ?c16 ?k16 ?a17 ?l17 ?c17 ?k17 ?a18 ?l18 ?c18 ?k18 ?a19 ?l19 ?c19 ?k19 ?a20 ?l20 ?c20 ?k20 ?a21 ?l21 ?c21 ?k21 ?a22 ?l22 ?c22 ?k22 ?a23 ?l23 ?c23 ?k23 ?a24 ?l24 ?c24 ?k24 ?z_dict ?z_enumerate ?z_len ?z_list ?z_range ?z_sorted ?z_zip ?y_COLUMN ?y_ROW
  (case a0=>k_is)
  (case l0=>k_is)
  (case c0=>k_is)
  (case k0=>k_is)
  (case a1=>k_is)
  (case l1=>k_is)
  (case c1=>k_is)
  (case k1=>k_is)
  (case a2=>k_is)
  (case l2=>k_is)
  (case c2=>k_is)
  (case k2=>k_is)
  (case a3=>k_is)
  (case l3=>k_is)
  (case c3=>k_is)
  (case k3=>k_is)
  (case a4=>k_is)
  (case l4=>k_is)
  (case c4=>k_is)
  (case k4=>k_is)
  (case a5=>k_is)
  (case l5=>k_is)
  (case c5=>k_is)
  (case k5=>k_is)
  (case a6=>k_is)
  (case l6=>k_is)
  (case c6=>k_is)
  (case k6=>k_is)
  (case a7=>k_is)
  (case l7=>k_is)
  (case c7=>k_is)
  (case k7=>k_is)
  (case a8=>k_is)
  (case l8=>k_is)
  (case c8=>k_is)
  (case k8=>k_is)
  (case a9=>k_is)
  (case l9=>k_is)
  (case c9=>k_is)
  (case k9=>k_is)
  (case a10=>k_is)
  (case l10=>k_is)
  (case c10=>k_is)
  (case k10=>k_is)
  (case a11=>k_is)
  (case l11=>k_is)
  (case c11=>k_is)
  (case k11=>k_is)
  (case a12=>k_is)
  (case l12=>k_is)
  (case c12=>k_is)
  (case k12=>k_is)
  (case a13=>k_is)
  (case l13=>k_is)
  (case c13=>k_is)
  (case k13=>k_is)
  (case a14=>k_is)
  (case l14=>k_is)
  (case c14=>k_is)
  (case k14=>k_is)
  (case a15=>k_is)
  (case l15=>k_is)
  (case c15=>k_is)
  (case k15=>k_is)
  (case a16=>k_is)
  (case l16=>k_is)
  (case c16=>k_is)
  (case k16=>k_is)
  (case a17=>k_is)
  (case l17=>k_is)
  (case c17=>k_is)
  (case k17=>k_is)
  (case a18=>k_is)
  (case l18=>k_is)
  (case c18=>k_is)
  (case k18=>k_is)
  (case a19=>k_is)
  (case l19=>k_is)
  (case c19=>k_is)
  (case k19=>k_is)
  (case a20=>k_is)
  (case l20=>k_is)
  (case c20=>k_is)
  (case k20=>k_is)
  (case a21=>k_is)
  (case l21=>k_is)
  (case c21=>k_is)
  (case k21=>k_is)
  (case a22=>k_is)
  (case l22=>k_is)
  (case c22=>k_is)
  (case k22=>k_is)
  (case a23=>k_is)
  (case l23=>k_is)
  (case c23=>k_is)
  (case k23=>k_is)
  (case a24=>k_is)
  (case l24=>k_is)
  (case c24=>k_is)
  (case k24=>k_is)
  (case z_dict=>k_is)
  (case z_enumerate=>k_is)
  (case z_len=>k_is)
  (case z_list=>k_is)
  (case z_range=>k_is)
  (case z_sorted=>k_is)
  (case z_zip=>k_is)
  (case y_COLUMN=>k_is)
  (case y_ROW=>k_is)
#print axioms PySem.Challenge.cw_lostblock_k32_whole_boards_turned_holds
