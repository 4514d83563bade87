import PyProof.Rows.All
import Wide.All
import OpenK.AllK
import Wide.FinOn
import Lean
import PyProof.EqAt
import PyProof.EqKinds
import PyProof.TupleCall
import PySem.Challenge.RW_lostblock_k30_few_strokes_tried
set_option Elab.async false
set_option linter.all false
set_option maxRecDepth 100000
local macro_rules | `(command| def $d:declId $s:optDeclSig $v:declVal)=>`(command| noncomputable def $d:declId $s:optDeclSig $v:declVal)
open PySem.W (keepIn fnOf codeIn nsIn)
def Zaa:=@Option.some.inj
def Zab:=@List.getElem?_eq_some_iff
def Zac:=@PySem.Heap.get?_push_of_some
def Zad:=@List.mem_map
def Zae:=@List.mem_append
def Zaf:=@Nat.le_refl
def Zag:=@List.mem_of_getElem?
def Zah:=@List.getElem?_append_left
def Zai:=@List.map_cons
def Zaj:=@List.Pairwise.sublist
def Zak:=@PySem.Heap.lt_size
def Zal:=@PySem.Heap.get?_push_size
def Zam:=@List.getElem?_set_ne
def Zan:=@List.pairwise_append
def Zao:=@List.getElem?_append_right
def Zap:=@Nat.lt_of_lt_of_le
def Zaq:=@List.mem_cons
def Zar:=@List.append_assoc
def Zas:=@List.mem_filter
def Zat:=@List.mem_range
def Zau:=@Array.getElem?_eq_getElem
def Zav:=@List.length_cons
def Zaw:=@Nat.ne_of_lt
def Zax:=@Array.getElem?_toList
def Zay:=@List.mem_singleton
def Zaz:=@PySem.W.mg_of
def ZaA:=@Nat.le_trans
def ZaB:=@List.mem_append_right
def ZaC:=@List.take_append_drop
def ZaD:=@Nat.le_of_lt
def ZaE:=@List.getElem?_eq_none
def ZaF:=@PySem.PassesOwn.never
def ZaG:=@Int.toNat_natCast
def ZaH:=@List.mem_of_mem_take
def ZaI:=@List.drop_eq_getElem_cons
def ZaJ:=@List.take_sublist
def ZaK:=@Array.toList_append
def ZaL:=@List.take_of_length_le
def ZaM:=@List.mem_of_mem_drop
def ZaN:=@List.drop_sublist
def ZaO:=@Nat.zero_le
def ZaP:=@List.getElem?_set_self
def ZaQ:=@List.length_filter_le
def ZaR:=@List.Perm.append_left
def ZaS:=@Array.length_toList
def ZaT:=@Int.eq_ofNat_of_zero_le
def ZaU:=@List.map_congr_left
def ZaV:=@PySem.F.slot_dict_itemiterator_next
def ZaW:=@List.all_eq_true
def ZaX:=@List.map_append
def ZaY:=@PySem.F.slot_dict_keyiterator_next
def ZaZ:=@List.pairwise_map
def Za0:=@Bool.false_eq_true
def Za1:=@List.getElem?_range
def Za2:=@Array.perm_iff_toList_perm
def Za3:=@Int.natCast_nonneg
def Za4:=@Int.emod_lt_of_pos
def Za5:=@PySem.W.mg_none_of
def Za6:=@List.drop_of_length_le
def Za7:=@Ne.symm
def Za8:=@List.append_nil
def Za9:=@List.nodup_cons
def Zba:=@List.drop_zero
def Zbb:=@Nat.min_eq_left
def Zbc:=@List.filter_sublist
def Zbd:=@Bool.false_ne_true
def Zbe:=@PyProof.Rows.callWith_type1
def Zbf:=@List.getElem?_replicate
def Zbg:=@Int.toNat_of_nonneg
def Zbh:=@List.nodup_append
def Zbi:=@Classical.choose_spec
def Zbj:=@List.cons.injEq
def Zbk:=@Int.emod_nonneg
def Zbl:=@List.mem_append_left
def Zbm:=@List.getElem?_of_mem
def Zbn:=@List.take_take
def Zbo:=@List.ext_getElem?
def Zbp:=@Array.toList_push
def Zbq:=@Option.map_some
def Zbr:=@PySem.Heap.SameBut.update
def Zbs:=@Option.map_eq_some_iff
def Zbt:=@List.pairwise_iff_getElem
def Zbu:=@Nat.lt_irrefl
def Zbv:=@PySem.mem_of_lookup
def Zbw:=@Nat.add_sub_cancel_left
def Zbx:=@List.filter_eq_self
def Zby:=@Bool.and_eq_true
def Zbz:=@List.mem_reverse
def ZbA:=@List.nodup_range
def ZbB:=@Array.getElem?_eq_none
def ZbC:=@List.Perm.append_right
def ZbD:=@List.find?_cons
def ZbE:=@List.any_cons
set_option compiler.extract_closed false
set_option bootstrap.genMatcherCode false
set_option genSizeOf false
local macro_rules | `(tactic| omega)=>`(tactic| first | (grind only) | omega (config:={}))
local macro_rules | `(tactic| lia)=>`(tactic| first | lia -verbose | omega (config:={}))
namespace L2
open PySem PySem.Spec PyProof.Rows
noncomputable abbrev Key:=Sum Int Str
def yj:Key->Value->Bool
 | .inl k,v=>Value.isInt k v
 | .inr x,v=>Value.isStrOf x v
def U9 (w:World):Key->Int
 | .inl k=>hashInt k
 | .inr x=>hashStr w x
theorem dq:∀ {k:Key}{v:Value},yj k v=true->(∃ i t,k=Sum.inl i∧v=Value.int i t)∨(∃ x t,k=Sum.inr x∧v=Value.str x t)
 | .inl i,v,h=>by
  obtain ⟨t,e⟩:=Value.isInt_shape (k:=i) (v:=v) h
  exact .inl ⟨i,t,rfl,e⟩
 | .inr x,v,h=>by
  obtain ⟨t,e⟩:=Value.isStrOf_shape (x:=x) (v:=v) h
  exact .inr ⟨x,t,rfl,e⟩
theorem Io (i:Int) (t:Tok):yj (.inl i) (.int i t)=true:=by simp [yj,Value.isInt]
theorem Ip (x:Str) (t:Tok):yj (.inr x) (.str x t)=true:=by simp [yj,Value.isStrOf]
theorem Q6 (a b:Int):decide ((Sum.inl a:Key)=Sum.inl b)=(a == b):=by
 by_cases e:a=b
 ·subst e;simp
 ·have h:¬(Sum.inl a:Key)=Sum.inl b:=fun q=>e (Sum.inl.inj q)
  rw [decide_eq_false h]
  exact (beq_eq_false_iff_ne.mpr e).symm
theorem Q7 (a b:Str):decide ((Sum.inr a:Key)=Sum.inr b)=decide (a=b):=by
 by_cases e:a=b
 ·subst e;simp
 ·have h:¬(Sum.inr a:Key)=Sum.inr b:=fun q=>e (Sum.inr.inj q)
  rw [decide_eq_false h,decide_eq_false e]
theorem Q8 (a:Int) (b:Str):decide ((Sum.inl a:Key)=Sum.inr b)=false:=decide_eq_false (fun q=>nomatch q)
theorem Q9 (a:Str) (b:Int):decide ((Sum.inr a:Key)=Sum.inl b)=false:=decide_eq_false (fun q=>nomatch q)
def cR (prog:Program) (w:World):PySem.KeyKind prog w Key where
 is:=yj
 hash:=U9 w
 inj:=fun v a b ha hb=>by
  rcases dq ha with ⟨i,t,rfl,rfl⟩ | ⟨x,t,rfl,rfl⟩
  ·rcases dq hb with ⟨j,u,rfl,e⟩ | ⟨y,u,rfl,e⟩
   ·injection e with e1 _;rw [e1]
   ·exact nomatch e
  ·rcases dq hb with ⟨j,u,rfl,e⟩ | ⟨y,u,rfl,e⟩
   ·exact nomatch e
   ·injection e with e1 _;rw [e1]
 byValue:=fun k v h=>by
  rcases dq h with ⟨i,t,rfl,rfl⟩ | ⟨x,t,rfl,rfl⟩ <;> rfl
 pyHash:=fun hv h=>by
  rcases dq hv with ⟨i,t,rfl,rfl⟩ | ⟨x,t,rfl,rfl⟩
  ·exact wpAny_pyHash_int h
  ·exact wpAny_pyHash_str h
 eqBool:=fun hu hv h=>by
  rcases dq hu with ⟨i,t,rfl,rfl⟩ | ⟨x,t,rfl,rfl⟩
  ·rcases dq hv with ⟨j,u,rfl,rfl⟩ | ⟨y,u,rfl,rfl⟩
   ·rw [Q6] at h;exact wpAny_eqBool_int h
   ·rw [Q8] at h;exact SeqAt.EqAt.int_str i t y u _ _ _ _ h
  ·rcases dq hv with ⟨j,u,rfl,rfl⟩ | ⟨y,u,rfl,rfl⟩
   ·rw [Q9] at h;exact SeqAt.EqAt.str_int x t j u _ _ _ _ h
   ·rw [Q7] at h;exact wpAny_eqBool_str h
 «strs»:=fun k x t v h=>by
  rcases dq h with ⟨i,u,rfl,e⟩ | ⟨y,u,rfl,e⟩
  ·exact nomatch e
  ·injection e with e1 _
   subst e1
   cases v <;> rfl
theorem Bw (prog:Program) (w:World) (i:Int) (t:Tok):(cR prog w).is (.inl i) (.int i t)=true:=Io i t
theorem Bx (prog:Program) (w:World) (x:Str) (t:Tok):(cR prog w).is (.inr x) (.str x t)=true:=Ip x t
inductive V where
 | non | bl (b:Bool) | int (i:Int) | str (x:Str) | byt (b:Array UInt8) | flt (b:UInt64) | ref (a:Addr) | ty (n:String)
 deriving DecidableEq
def RelV:V->Value->Prop
 | .non,u=>u=Value.none
 | .bl b,u=>u=Value.bool b
 | .int i,u=>∃ t,u=Value.int i t
 | .str x,u=>∃ t,u=Value.str x t
 | .byt b,u=>∃ t,u=Value.bytes b t
 | .flt b,u=>∃ t,u=Value.float b t
 | .ref a,u=>u=Value.ref a
 | .ty n,u=>u=Value.type n
noncomputable abbrev Vals:List V->List Value->Prop:=Paired RelV
theorem Vals.length {xs:List V}{us:List Value} (r:Vals xs us):xs.length=us.length:=Paired.length r
theorem Vals.get:∀ {xs:List V}{us:List Value}{i:Nat}{x:V},Vals xs us->xs[i]?=some x->∃ u,us[i]?=some u∧RelV x u
 | _,_,_,_,.nil,e=>by simp at e
 | _,_,0,_,.cons r _,e=>by simp at e;subst e;exact ⟨_,rfl,r⟩
 | _,_,i+1,x,.cons _ t,e=>by
  obtain ⟨u,h1,h2⟩:=Vals.get (i:=i) (x:=x) t (by simpa using e)
  exact ⟨u,by simpa using h1,h2⟩
theorem Vals.append:∀ {xs ys:List V}{us ws:List Value},Vals xs us->Vals ys ws->Vals (xs++ys) (us++ws)
 | _,_,_,_,.nil,s=>s
 | _,_,_,_,.cons r t,s=>.cons r (Vals.append t s)
theorem Vals.take:∀ {xs:List V}{us:List Value} (n:Nat),Vals xs us->Vals (xs.take n) (us.take n)
 | _,_,0,_=>.nil
 | _,_,_+1,.nil=>.nil
 | _,_,n+1,.cons r t=>.cons r (Vals.take n t)
theorem Vals.drop:∀ {xs:List V}{us:List Value} (n:Nat),Vals xs us->Vals (xs.drop n) (us.drop n)
 | _,_,0,r=>r
 | _,_,_+1,.nil=>.nil
 | _,_,n+1,.cons _ t=>Vals.drop n t
def uA:Option V->Option Value->Prop
 | some v,some u=>RelV v u
 | none,none=>True
 | _,_=>False
def KV {κ:Type}:List (κ×V)->List (κ×Value)->Prop:=Paired fun (p:κ×V) (q:κ×Value)=>p.1=q.1∧RelV p.2 q.2
def kV:Key->V
 | .inl i=>.int i
 | .inr x=>.str x
inductive HO where
 | lst (xs:List V)
 | tup (xs:List V)
 | dK (kvs:List (Key×V)) | dT (kvs:List (List Key×V))
 | set (S:Int->Bool) (n:Nat)
 | ins (C dx:Addr) (fs:List (Str×V))
 | own (x:Addr)
 | xd (fs:List (Str×V))
 | met (f x:Addr)
 | rng (lo hi:Int)
 | frz (o:Obj) (u:HO)
 | tbl (ps:Array Value)
 | ext (φ:Heap->Prop)
noncomputable abbrev Hp:=Addr->Option HO
def upd (H:Hp) (a:Addr) (o:HO):Hp:=fun b=>if b=a then some o else H b
theorem aL {H:Hp}{a:Addr}{o:HO}:upd H a o a=some o:=by unfold upd;rw [if_pos rfl]
theorem aG {H:Hp}{a b:Addr}{o:HO} (h:b≠a):upd H a o b=H b:=by unfold upd;rw [if_neg h]
theorem JX {H:Hp}{a b:Addr}{o u:HO} (h:H a=some o) (h':H b=some u) (d:o≠u):a≠b:=by
 intro e;subst e;rw [h] at h';exact d (Zaa h')
theorem bI {H:Hp}{a b:Addr}{o:HO} (h:H a=some o) (h':H b=none):a≠b:=by
 intro e;subst e;rw [h] at h';cases h'
def fY (h:Heap) (a:Addr) (items:Array Value):Prop:=IsTup h a items∧∀ o,h.get? a=some o->o.dict=none
theorem fY.new (h:Heap) (items:Array Value):fY (h.push { cls:=.type "tuple",data:=.seq items }) h.objs.size items:=⟨IsTup.new h items,fun o e=>by rw [Zal _ rfl] at e;cases e;rfl⟩
theorem fY.mk {h:Heap}{a:Addr}{items:Array Value}{n:Nat} (e:h.get? a=some { cls:=.type "tuple",data:=.seq items n }):fY h a items:=⟨⟨_,e,rfl,_,rfl⟩,fun o q=>by rw [e] at q;cases q;rfl⟩
theorem fY.lt {h:Heap}{a:Addr}{items:Array Value} (x:fY h a items):a < h.objs.size:=x.1.lt
theorem fY.at' {h h':Heap}{a:Addr}{items:Array Value} (x:fY h a items) (e:∀ o,h.get? a=some o->h'.get? a=some o):fY h' a items:=by
 obtain ⟨⟨o,h1,r⟩,d⟩:=x
 exact ⟨⟨o,e o h1,r⟩,fun u q=>by rw [e o h1] at q;cases q;exact d o h1⟩
section
variable (P:Program) (w:World)
def dG (H:Hp) (h:Heap) (a:Addr):HO->Prop
 | .lst xs=>xs.length≤sizeLine∧∃ (its:List Value) (n:Nat),Vals xs its∧h.get? a=some { cls:=.type "list",data:=.seq its.toArray n }
 | .tup xs=>xs.length≤sizeLine∧∃ its:List Value,Vals xs its∧fY h a its.toArray
 | .dK kvs=>kvs.length≤sizeLine∧(a == sysModules)=false∧∃ vs,KV kvs vs∧h.DictOf (cR P w) a vs
 | .dT kvs=>kvs.length≤sizeLine∧(a == sysModules)=false∧∃ xs:List (List Key×Addr×Value),
   Paired (fun (p:List Key×V) (q:List Key×Addr×Value)=>p.1=q.1∧H q.2.1=some (.tup (p.1.map kV))∧RelV p.2 q.2.2) kvs xs ∧
   ∃ o es ep,h.get? a=some o∧o.ExactDict∧o.data=.dict es ep∧es.toList=xs.map (entryOfKey (tupleKind (cR P w)))∧(xs.map (·.1)).Nodup
 | .set S n=>h.SetOf (intKind P w) a S n
 | .ins C dx fs=>H dx=some (.own a)∧fs.length≤1000∧dx≠a∧h.get? a=some (PySem.W.instObj C dx) ∧
   ∃ mA,h.Ns1 dx mA∧(∀ f,uA (fs.lookup f) (mA f))∧PySem.Within mA (fs.map (·.1))
 | .own _=>∃ o,h.get? a=some o
 | .xd fs=>∃ mA,h.Ns1 a mA∧∀ f,uA (fs.lookup f) (mA f)
 | .rng lo hi=>∃ t u v,h.get? a=some { cls:=.type "range",data:=.fields #[.int lo t,.int hi u,.int 1 v] }
 | .frz o u=>h.get? a=some o∧dG H h a u
 | .tbl ps=>h.get? a=some { cls:=.none,data:=.fields ps }
 | .met f x=>h.get? a=some (PySem.W.methodObj (.ref f) (.ref x))
 | .ext φ=>φ h∧(∃ o,h.get? a=some o)∧∀ h1 h2:Heap,φ h1->(∀ o,h1.get? a=some o->h2.get? a=some o)->φ h2
def HOk (H:Hp) (h:Heap):Prop:=∀ a o,H a=some o->dG P w H h a o
end
section
variable {P:Program}{w:World}{H H':Hp}{h h':Heap}{a:Addr}{o:HO}
theorem dG.lt (x:dG P w H h a o):a < h.objs.size:=by
 cases o with
 | lst xs=>obtain ⟨_,_,_,_,e⟩:=x;exact Zak e
 | tup xs=>obtain ⟨_,_,_,p⟩:=x;exact p.lt
 | dK kvs=>obtain ⟨_,_,_,_,o,_,_,e,_⟩:=x;exact Zak e
 | dT kvs=>obtain ⟨_,_,_,_,o,_,_,e,_⟩:=x;exact Zak e
 | set S n=>obtain ⟨o,_,_,_,e,_⟩:=x;exact Zak e
 | ins C dx fs=>obtain ⟨_,_,_,e,_⟩:=x;exact Zak e
 | own y=>obtain ⟨_,e⟩:=x;exact Zak e
 | xd fs=>obtain ⟨_,⟨_,_,_,e,_⟩,_⟩:=x;exact Zak e
 | rng lo hi=>obtain ⟨_,_,_,e⟩:=x;exact Zak e
 | frz ob u=>obtain ⟨e,_⟩:=x;exact Zak e
 | tbl ps=>exact Zak (show h.get? a=some _ from x)
 | met f y=>exact Zak (show h.get? a=some _ from x)
 | ext φ=>obtain ⟨_,⟨_,e⟩,_⟩:=x;exact Zak e
theorem Paired.Ra {α β:Type}{F G:α->β->Prop}:∀ {l₁:List α}{l₂:List β},Paired F l₁ l₂->(∀ a b,F a b->G a b)->Paired G l₁ l₂
 | _,_,.nil,_=>.nil
 | _,_,.cons r t,f=>.cons (f _ _ r) (Paired.Ra t f)
theorem dG.stay (x:dG P w H h a o) (k:∀ b u,(b=a∨H b=some (.own a))->h.get? b=some u->h'.get? b=some u)
  (ho:∀ b,H b=some (.own a)->H' b=some (.own a)) (ht:∀ b xs,H b=some (.tup xs)->H' b=some (.tup xs)):dG P w H' h' a o:=by
 induction o with
 | lst xs=>obtain ⟨z,its,n,r,e⟩:=x;exact ⟨z,its,n,r,k _ _ (.inl rfl) e⟩
 | tup xs=>obtain ⟨z,its,r,c⟩:=x;exact ⟨z,its,r,c.at' fun o e=>k _ _ (.inl rfl) e⟩
 | dK kvs=>obtain ⟨z,y,vs,r,ob,es,ep,e,c⟩:=x;exact ⟨z,y,vs,r,ob,es,ep,k _ _ (.inl rfl) e,c⟩
 | dT kvs =>
  obtain ⟨z,y,xs,r,ob,es,ep,e,c⟩:=x
  exact ⟨z,y,xs,Paired.Ra r fun p q z=>⟨z.1,ht _ _ z.2.1,z.2.2⟩,ob,es,ep,k _ _ (.inl rfl) e,c⟩
 | set S n=>obtain ⟨ob,es,ep,t,e,c⟩:=x;exact ⟨ob,es,ep,t,k _ _ (.inl rfl) e,c⟩
 | ins C dx fs =>
  obtain ⟨d,z,ne,e,mA,⟨od,es,ep,e2,c⟩,r⟩:=x
  exact ⟨ho _ d,z,ne,k _ _ (.inl rfl) e,mA,⟨od,es,ep,k _ _ (.inr d) e2,c⟩,r⟩
 | own y=>obtain ⟨ob,e⟩:=x;exact ⟨ob,k _ _ (.inl rfl) e⟩
 | xd fs=>obtain ⟨mA,⟨od,es,ep,e,c⟩,r⟩:=x;exact ⟨mA,⟨od,es,ep,k _ _ (.inl rfl) e,c⟩,r⟩
 | rng lo hi=>obtain ⟨t,u,v,e⟩:=x;exact ⟨t,u,v,k _ _ (.inl rfl) e⟩
 | frz ob u ih=>obtain ⟨e,q⟩:=x;exact ⟨k _ _ (.inl rfl) e,ih q⟩
 | tbl ps =>
  have e:h.get? a=some { cls:=.none,data:=.fields ps }:=x
  show h'.get? a=some { cls:=.none,data:=.fields ps }
  exact k a _ (.inl rfl) e
 | met f y =>
  have e:h.get? a=some (PySem.W.methodObj (.ref f) (.ref y)):=x
  show h'.get? a=some (PySem.W.methodObj (.ref f) (.ref y))
  exact k a _ (.inl rfl) e
 | ext φ=>obtain ⟨p,⟨o,e⟩,st⟩:=x;exact ⟨st _ _ p fun o q=>k _ _ (.inl rfl) q,⟨o,k _ _ (.inl rfl) e⟩,st⟩
theorem HOk.lt (x:HOk P w H h) (e:H a=some o):a < h.objs.size:=(x a o e).lt
theorem HOk.fresh (x:HOk P w H h) (e:h.objs.size≤a):H a=none:=by
 cases q:H a with
 | none=>rfl
 | some u=>exact absurd (Zap (x.lt q) e) (Zbu _)
theorem HOk.kept (x:HOk P w H h) (k:∀ b u,h.get? b=some u->h'.get? b=some u):HOk P w H h':=fun a o e =>
 (x a o e).stay (fun b u _ q=>k b u q) (fun _ q=>q) fun _ _ q=>q
theorem HOk.laid (x:HOk P w H h) (k:∀ b u,h.get? b=some u->h'.get? b=some u) (hp:h.objs.size≤a) (new:dG P w (upd H a o) h' a o):HOk P w (upd H a o) h':=fun b u e=>by
 have hn:=x.fresh hp
 by_cases hb:b=a
 ·subst hb;rw [aL] at e;cases e;exact new
 ·rw [aG hb] at e
  exact (x b u e).stay (fun c v _ q=>k c v q) (fun c q=>by rw [aG (bI q hn)];exact q) fun c xs q=>by rw [aG (bI q hn)];exact q
end
def Rd (H:Hp) (a:Addr) (u:HO):Prop:=H a=some u∨∃ o,H a=some (.frz o u)
theorem Rd.ok {P:Program}{w:World}{H:Hp}{h:Heap}{a:Addr}{u:HO} (r:Rd H a u) (x:HOk P w H h):dG P w H h a u:=by
 rcases r with r | ⟨o,r⟩
 ·exact x a u r
 ·obtain ⟨_,q⟩:=x a _ r
  exact q
def Mut:Option HO->Prop
 | some (.lst _)=>True
 | some (.dK _)=>True
 | some (.dT _)=>True
 | some (.set _ _)=>True
 | some (.ins _ _ _)=>True
 | some (.ext _)=>True
 | _=>False
section
variable {P:Program}{w:World}{H:Hp}{h h':Heap}{x e:Addr}{o':HO}
theorem HOk.write (ok:HOk P w H h) (mu:Mut (H x)) (he:e=x∨H e=some (.own x)) (k:∀ b u,b≠e->h.get? b=some u->h'.get? b=some u) (heo:∃ u,h'.get? e=some u)
  (new:dG P w (upd H x o') h' x o'):HOk P w (upd H x o') h':=fun b u q=>by
 have nown:∀ c y,H c=some (.own y)->c≠x:=fun c y r z=>by subst z;rw [r] at mu;exact mu
 have ntup:∀ c xs,H c=some (.tup xs)->c≠x:=fun c xs r z=>by subst z;rw [r] at mu;exact mu
 by_cases hb:b=x
 ·subst hb;rw [aL] at q;cases q;exact new
 ·rw [aG hb] at q
  by_cases hbe:b=e
  ·have q':H b=some (.own x):=by
    rcases he with z | z
    ·exact absurd (hbe.trans z) hb
    ·rw [hbe];exact z
   rw [q] at q';cases q'
   obtain ⟨v,hv⟩:=heo
   exact ⟨v,by rw [hbe];exact hv⟩
  ·refine (ok b u q).stay (fun c v hc r=>k c v ?_ r) (fun c r=>by rw [aG (nown c b r)];exact r) fun c xs r=>by rw [aG (ntup c xs r)];exact r
   rcases hc with rfl | hc
   ·exact hbe
   ·rintro rfl
    rcases he with z | z
    ·exact nown c b hc z
    ·rw [hc] at z;cases z;exact hb rfl
end
structure Un (fs ex:List Addr) (H H':Hp) (h h':Heap):Prop where
 keep:∀ b o,h.get? b=some o->H b=none->b ∉ fs->b ∉ ex->h'.get? b=some o
 slot:∀ b o,h.get? b=some o->H b=none->b∈fs->b ∉ ex->∃ sl,h'.get? b=some { o with slots:=sl }
 free:∀ b o,h.get? b=some o->H b=none->b ∉ ex->H' b=none
 there:∀ b o,h.get? b=some o->b ∉ ex->∃ o',h'.get? b=some o'
 tups:∀ b xs,H b=some (.tup xs)->H' b=some (.tup xs)
 frzs:∀ b o u,H b=some (.frz o u)->H' b=some (.frz o u)
 tbls:∀ b ps,H b=some (.tbl ps)->∃ more,H' b=some (.tbl (ps++more))
section
variable {fs fs' ex ex':List Addr}{H H1 H2:Hp}{h h1 h2 h':Heap}{a x e:Addr}{o:HO}
theorem Un.any (u:Un fs ex H H1 h h1) {b:Addr}{ob:Obj} (q:h.get? b=some ob) (n:H b=none) (hx:b ∉ ex):∃ sl,h1.get? b=some { ob with slots:=sl }:=by
 by_cases hb:b∈fs
 ·exact u.slot b ob q n hb hx
 ·exact ⟨ob.slots,u.keep b ob q n hb hx⟩
theorem Un.kept (k:∀ b u,h.get? b=some u->h'.get? b=some u):Un fs ex H H h h' :=
 ⟨fun b ob q _ _ _=>k b ob q,fun b ob q _ _ _=>⟨ob.slots,k b ob q⟩,fun _ _ _ n _=>n,fun b ob q _=>⟨ob,k b ob q⟩,fun _ _ q=>q,fun _ _ _ q=>q,fun _ ps q=>⟨#[],by rw [q];simp⟩⟩
theorem Un.refl:Un fs ex H H h h:=Un.kept fun _ _ q=>q
theorem Un.laid (k:∀ b u,h.get? b=some u->h'.get? b=some u) (hp:h.objs.size≤a) (hn:H a=none):Un fs ex H (upd H a o) h h' where
 keep:=fun b u q _ _ _=>k b u q
 slot:=fun b u q _ _ _=>⟨u.slots,k b u q⟩
 free:=fun b u q n _=>by rw [aG (Zaw (Zap (Zak q) hp))];exact n
 there:=fun b u q _=>⟨u,k b u q⟩
 tups:=fun b xs q=>by rw [aG (bI q hn)];exact q
 frzs:=fun b u xs q=>by rw [aG (bI q hn)];exact q
 tbls:=fun b ps q=>⟨#[],by rw [aG (bI q hn),q];simp⟩
theorem Un.write (mu:Mut (H x)) (he:e=x∨H e=some (.own x)) (k:∀ b u,b≠e->h.get? b=some u->h'.get? b=some u) (heo:∃ u,h'.get? e=some u):Un fs ex H (upd H x o) h h':=by
 have hx:∀ b,H b=none->b≠x:=fun b n z=>by subst z;rw [n] at mu;exact mu
 have hb:∀ b,H b=none->b≠e:=fun b n z=>by
  subst z
  rcases he with r | r
  ·exact hx b n r
  ·rw [n] at r;cases r
 have hm:∀ b u,H b=some u->¬Mut (some u)->b≠x:=fun b u q nm z=>by subst z;rw [q] at mu;exact nm mu
 refine ⟨fun b u q n _ _=>k b u (hb b n) q,fun b u q n _ _=>⟨u.slots,k b u (hb b n) q⟩,fun b u q n _=>by rw [aG (hx b n)];exact n,fun b u q _=>?_,
  fun b xs q=>by rw [aG (hm b _ q fun z=>z)];exact q,fun b u xs q=>by rw [aG (hm b _ q fun z=>z)];exact q,fun b ps q=>⟨#[],by rw [aG (hm b _ q fun z=>z),q];simp⟩⟩
 by_cases hbe:b=e
 ·subst hbe;exact heo
 ·exact ⟨u,k b u hbe q⟩
end
def trk (h:Heap) (H:Hp):List Addr:=(List.range h.objs.size).filter fun a=>(H a).isSome
def zF (h:Heap) (H:Hp):Heap:=PySem.W.hideAll h (trk h H)
theorem Ir (h:Heap) (H:Hp):(zF h H).objs.size=h.objs.size:=PySem.W.hideAll_size _ _
theorem JZ {h:Heap}{H:Hp}{b:Addr}{o:Obj} (e:h.get? b=some o) (n:H b=none):(zF h H).get? b=some o :=
 PySem.W.hideAll_get _ e fun hm=>by
  have q:(H b).isSome=true:=(Zas.mp hm).2
  rw [n] at q;simp at q
theorem Nu {h:Heap}{H:Hp}{b:Addr}{o:Obj} (e:(zF h H).get? b=some o):h.get? b=some o∧H b=none:=by
 have e':h.get? b=some o:=PySem.W.of_hideAll (trk h H) e
 refine ⟨e',?_⟩
 cases q:H b with
 | none=>rfl
 | some x =>
  have hm:b∈trk h H:=Zas.mpr ⟨Zat.mpr (Zak e'),by simp [q]⟩
  have z:(zF h H).get? b=none:=PySem.W.hideAll_none (trk h H) hm
  rw [z] at e;cases e
def Nv (g h:Heap) (L:Addr):List (Addr×Obj):=(List.range h.objs.size).filterMap fun a=>if a=L∨(g.get? a).isSome=true then none else (h.get? a).map fun o=>(a,o)
def rest (g h:Heap) (L d:Addr):List (Addr×Obj):=(Nv g h L).filter fun p=>decide (p.1≠d)
structure Mod (K:PySem.W.Frag) (mg:Str->Option Value) (base:Heap):Prop where
 kin:K.In base
 glob:base.Ns mainGlobals mg
 blt:∃ mb,base.Ns builtinsNs mb∧∀ x:Str,x≠"__name__"->mb x=bootBuiltins x
 nolimit:base.NoLimit
structure Cx where
 prog:Program
 w:World
 K:PySem.W.Frag
 mg:Str->Option Value
 base:Heap
 A:Around
 N:List Str
 s₀:Shared
 H₀:Hp
 env:Env
 outer:List Env
 stack:List Env
 ex:List Addr
 fn:Str->Bool
 calm:Bool
 pn:List (Addr×Obj)
 xe:Value->Shared->Prop
def frs (l:List Env):List Addr:=l.filterMap (·.frame)
noncomputable abbrev Cx.fs (X:Cx):List Addr:=frs X.outer
def Vis (sc:Scope) (x:Str):Prop:=sc.names.lookup x=some .local∨sc.names.lookup x=some .cell∨sc.names.lookup x=some .free
def Loc (sc:Scope) (x:Str):Prop:=sc.names.lookup x=some .local∨sc.names.lookup x=some .cell
def Look (env:Env) (h:Heap) (m:Str->Option Value) (x:Str) (u:Value):Prop :=
 (env.kindOf x=some .local∧m x=some u)∨((env.kindOf x=some .cell∨env.kindOf x=some .free)∧∃ c,env.cells.lookup x=some c∧h.IsCell c (some u))
structure Cx.Ok (X:Cx):Prop where
 mod:Mod X.K X.mg X.base
 kind:X.env.scope.kind=.function
 glob:X.env.globals=mainGlobals
 blt:X.env.builtins=builtinsNs
 above:X.s₀.heap.objs.size≤X.env.locals
 inj:∀ x y c,X.env.cells.lookup x=some c->X.env.cells.lookup y=some c->x=y
 has:∀ x,(X.env.kindOf x=some .cell∨X.env.kindOf x=some .free)->∃ c,X.env.cells.lookup x=some c
 cab:∀ x c,X.fn x=true->X.env.cells.lookup x=some c->X.s₀.heap.objs.size≤c
 hd:X.calm=true->X.A.handled=none
 frames:X.A.frames=some X.stack
 stk:X.stack=X.outer∨(X.stack=X.env::X.outer∧X.env.frame=some X.env.locals)
 exf:∀ b∈X.ex,b≠X.env.locals∧∀ x c,X.env.cells.lookup x=some c->c≠b
 bs:∀ b o,X.base.get? b=some o->X.s₀.heap.get? b=some o∧X.H₀ b=none
 bsz:X.base.objs.size≤X.s₀.heap.objs.size
 noex:∀ b o,X.base.get? b=some o->b ∉ X.ex
 exfs:∀ b∈X.ex,b ∉ X.fs
 uB:X.s₀.heap.FunFrames X.base X.outer
 frf:∀ b∈X.fs,X.H₀ b=none
structure Inv (X:Cx) (pins:List (Addr×Obj)) (σ:List (Option V)) (H:Hp) (s:Shared):Prop where
 ok:X.Ok
 os:s.os=X.s₀.os
 bare:AllBare s.gens
 base:Un X.fs X.ex X.H₀ H X.s₀.heap s.heap
 loc:∃ m,s.heap.Ns X.env.locals m∧∀ (i:Nat) (x:Str) (v:V),X.N[i]?=some x->σ[i]?=some (some v)->Vis X.env.scope x->∃ u,RelV v u∧Look X.env s.heap m x u
 cell:∀ x c,X.env.cells.lookup x=some c->∃ v,s.heap.IsCell c v
 free:H X.env.locals=none
 freeC:∀ x c,X.env.cells.lookup x=some c->H c=none
 pin:∀ p∈X.pn++pins,s.heap.get? p.1=some p.2∧H p.1=none∧p.1≠X.env.locals∧p.1 ∉ X.fs∧∀ v,p.2.data≠.cell v
 hok:HOk X.prog X.w H s.heap
 len:σ.length=X.N.length
section
variable {X:Cx}{pins:List (Addr×Obj)}{σ:List (Option V)}{H H':Hp}{s:Shared}{h':Heap}
theorem Cx.Ok.Va (ok:X.Ok) {b:Addr}{o:Obj} (e:X.base.get? b=some o):b ∉ X.fs:=fun hb=>by
 have:=(ok.uB.mem hb).1
 rw [e] at this;cases this
theorem Inv.bs (I:Inv X pins σ H s):∀ b o,X.base.get? b=some o->s.heap.get? b=some o∧H b=none:=fun b o e =>
 ⟨I.base.keep b o (I.ok.bs b o e).1 (I.ok.bs b o e).2 (I.ok.Va e) (I.ok.noex b o e),I.base.free b o (I.ok.bs b o e).1 (I.ok.bs b o e).2 (I.ok.noex b o e)⟩
theorem Inv.bk (I:Inv X pins σ H s):∀ b o,X.base.get? b=some o->s.heap.get? b=some o:=fun b o e=>(I.bs b o e).1
theorem Inv.mod (I:Inv X pins σ H s):Mod X.K X.mg X.base:=I.ok.mod
theorem Inv.kIn (I:Inv X pins σ H s):X.K.In s.heap:=I.ok.mod.kin.keeps I.bk
theorem Inv.lt (I:Inv X pins σ H s):X.env.locals < s.heap.objs.size:=let ⟨_,hn,_⟩:=I.loc;hn.lt
theorem Inv.sz (I:Inv X pins σ H s):X.s₀.heap.objs.size≤s.heap.objs.size:=ZaA I.ok.above (ZaD I.lt)
theorem Inv.Vb (I:Inv X pins σ H s) {a:Addr} (h:s.heap.objs.size≤a):a ∉ X.fs:=fun hb=>by
 obtain ⟨_,o,ho,_⟩:=I.ok.uB.mem hb
 exact absurd (Zap (Zak ho) (ZaA I.sz h)) (Zbu _)
theorem Inv.cne (I:Inv X pins σ H s):∀ x c,X.env.cells.lookup x=some c->c≠X.env.locals:=fun x c e z=>by
 obtain ⟨v,o,ho,hd⟩:=I.cell x c e
 obtain ⟨m,⟨o',es,ep,ho',hd',_⟩,_⟩:=I.loc
 rw [z,ho'] at ho;cases ho;rw [hd'] at hd;cases hd
theorem Inv.uB (I:Inv X pins σ H s):s.heap.FunFrames X.base X.outer:=by
 have all:∀ (l:List Env),(∀ b∈frs l,b∈X.fs)->X.s₀.heap.FunFrames X.base l->s.heap.FunFrames X.base l:=by
  intro l
  induction l with
  | nil=>intro _ _;trivial
  | cons env r ih =>
   intro hs hl
   obtain ⟨hk,⟨L,o,hf,hn,ho,hd⟩,hr⟩:=hl
   have hL:L∈X.fs:=hs L (by unfold frs;rw [List.filterMap_cons,hf];exact List.mem_cons_self)
   obtain ⟨sl,e⟩:=I.base.slot L o ho (I.ok.frf L hL) hL fun z=>I.ok.exfs L z hL
   exact ⟨hk,⟨L,_,hf,hn,e,hd⟩,ih (fun b hb=>hs b (by unfold frs;rw [List.filterMap_cons,hf];exact List.mem_cons_of_mem _ hb)) hr⟩
 exact all X.outer (fun _ hb=>hb) I.ok.uB
theorem Inv.stack (I:Inv X pins σ H s):s.heap.FunFrames X.base X.stack:=by
 rcases I.ok.stk with e | ⟨e,hf⟩
 ·rw [e];exact I.uB
 ·rw [e]
  obtain ⟨m,hn,_⟩:=I.loc
  refine .cons (by rw [I.ok.kind];decide) hf hn ?_ I.uB
  exact Heap.get?_none_of_le (ZaA I.ok.bsz I.ok.above)
theorem Inv.Fd (I:Inv X pins σ H s):∀ b∈frs X.stack,b∈X.env.locals::X.fs:=fun b hb=>by
 rcases I.ok.stk with e | ⟨e,hf⟩
 ·rw [e] at hb;exact List.mem_cons_of_mem _ hb
 ·rw [e] at hb
  unfold frs at hb
  rw [List.filterMap_cons,hf] at hb
  exact hb
theorem Inv.Gy (I:Inv X pins σ H s):∀ b∈frs X.stack,H b=none:=fun b hb=>by
 rcases Zaq.mp (I.Fd b hb) with e | hb
 ·rw [e];exact I.free
 ·obtain ⟨_,o,ho,_⟩:=I.ok.uB.mem hb
  exact I.base.free b o ho (I.ok.frf b hb) fun z=>I.ok.exfs b z hb
theorem Inv.step {g':Array GenState}{t':Nat}{d':Drawn}{ch:List Addr} (I:Inv X pins σ H s)
  (hch:∀ b∈ch,(b∈X.ex∨X.s₀.heap.objs.size≤b)∧b≠X.env.locals∧(∀ x c,X.env.cells.lookup x=some c->c≠b)∧∀ p∈X.pn++pins,p.1≠b)
  (keep:∀ b o,b≠X.env.locals->b ∉ X.fs->b ∉ ch->s.heap.get? b=some o->H b=none->h'.get? b=some o)
  (slot:∀ b o,b≠X.env.locals->b∈X.fs->b ∉ ch->s.heap.get? b=some o->H b=none->∃ sl,h'.get? b=some { o with slots:=sl }) (free:∀ b o,b ∉ ch->s.heap.get? b=some o->H b=none->H' b=none)
  (there:∀ b o,b ∉ ch->s.heap.get? b=some o->∃ o',h'.get? b=some o')
  (tups:∀ b xs,H b=some (.tup xs)->H' b=some (.tup xs)) (frzs:∀ b o u,H b=some (.frz o u)->H' b=some (.frz o u)) (tbls:∀ b ps,H b=some (.tbl ps)->∃ more,H' b=some (.tbl (ps++more)))
  (ns:∀ m,s.heap.Ns X.env.locals m->h'.Ns X.env.locals m) (hok:HOk X.prog X.w H' h') (hg:AllBare g') :
  Inv X pins σ H' { s with heap:=h',gens:=g',drawn:=d',toks:=t' }:=by
 have neL:∀ b o,X.s₀.heap.get? b=some o->b≠X.env.locals:=fun b o e=>Zaw (Zap (Zak e) I.ok.above)
 have neC:∀ b o,X.s₀.heap.get? b=some o->b ∉ X.ex->b ∉ ch:=fun b o e hx hb=>by
  rcases (hch b hb).1 with z | z
  ·exact hx z
  ·exact absurd (Zap (Zak e) z) (Zbu _)
 have cellK:∀ x c,X.env.cells.lookup x=some c->∀ v,s.heap.IsCell c v->h'.IsCell c v:=fun x c e v ⟨o,ho,hd⟩=>by
  have nch:c ∉ ch:=fun z=>(hch c z).2.2.1 x c e rfl
  by_cases hc:c∈X.fs
  ·obtain ⟨sl,q⟩:=slot c o (I.cne x c e) hc nch ho (I.freeC x c e)
   exact ⟨_,q,hd⟩
  ·exact ⟨o,keep c o (I.cne x c e) hc nch ho (I.freeC x c e),hd⟩
 refine ⟨I.ok,I.os,hg,⟨fun b o e n hb hx=>?_,fun b o e n hb hx=>?_,fun b o e n hx=>?_,fun b o e hx=>?_,fun b xs e=>tups b xs (I.base.tups b xs e),fun b o xs e=>frzs b o xs (I.base.frzs b o xs e),fun b ps e=>?_⟩,?_,fun x c e=>?_,?_,fun x c e=>?_,fun p hp=>?_,hok,I.len⟩
 ·exact keep b o (neL b o e) hb (neC b o e hx) (I.base.keep b o e n hb hx) (I.base.free b o e n hx)
 ·obtain ⟨sl,e1⟩:=I.base.slot b o e n hb hx
  obtain ⟨sl',e2⟩:=slot b _ (neL b o e) hb (neC b o e hx) e1 (I.base.free b o e n hx)
  exact ⟨sl',e2⟩
 ·obtain ⟨o',e1⟩:=I.base.there b o e hx
  exact free b o' (neC b o e hx) e1 (I.base.free b o e n hx)
 ·obtain ⟨o',e1⟩:=I.base.there b o e hx
  exact there b o' (neC b o e hx) e1
 ·obtain ⟨m1,e1⟩:=I.base.tbls b ps e
  obtain ⟨m2,e2⟩:=tbls b _ e1
  exact ⟨m1++m2,by rw [e2,Array.append_assoc]⟩
 ·obtain ⟨m,hn,hl⟩:=I.loc
  refine ⟨m,ns m hn,fun i x v e1 e2 e3=>?_⟩
  obtain ⟨u,r,l⟩:=hl i x v e1 e2 e3
  refine ⟨u,r,?_⟩
  rcases l with l | ⟨k,c,e,z⟩
  ·exact .inl l
  ·exact .inr ⟨k,c,e,cellK x c e _ z⟩
 ·obtain ⟨v,z⟩:=I.cell x c e
  exact ⟨v,cellK x c e v z⟩
 ·obtain ⟨m,⟨o,_,_,ho,_⟩,_⟩:=I.loc
  exact free _ o (fun z=>(hch _ z).2.1 rfl) ho I.free
 ·obtain ⟨v,o,ho,hd⟩:=I.cell x c e
  exact free c o (fun z=>(hch c z).2.2.1 x c e rfl) ho (I.freeC x c e)
 ·obtain ⟨e,n,ne,nf,d⟩:=I.pin p hp
  have nch:p.1 ∉ ch:=fun z=>(hch p.1 z).2.2.2 p hp rfl
  exact ⟨keep p.1 p.2 ne nf nch e n,free p.1 p.2 nch e n,ne,nf,d⟩
theorem Inv.un {t':Nat} (I:Inv X pins σ H s) (u:Un X.fs [] H H' s.heap h') (hok:HOk X.prog X.w H' h'):Inv X pins σ H' { s with heap:=h',toks:=t' }:=by
 obtain ⟨m,⟨o,es,ep,ho,r⟩,_⟩:=id I.loc
 obtain ⟨sl,hL⟩:=u.any ho I.free (by simp)
 exact I.step (g':=s.gens) (d':=s.drawn) (ch:=[]) (fun _ z=>nomatch z) (fun b o _ hb _ e n=>u.keep b o e n hb (by simp)) (fun b o _ hb _ e n=>u.slot b o e n hb (by simp)) (fun b o _ e n=>u.free b o e n (by simp)) (fun b o _ e=>u.there b o e (by simp)) u.tups u.frzs u.tbls (fun m' hm=>by
  obtain ⟨o',es',ep',ho',r'⟩:=hm
  rw [ho] at ho';cases ho'
  exact ⟨_,es',ep',hL,r'⟩) hok I.bare
theorem Inv.call {g':Array GenState}{t':Nat}{d':Drawn}{ch:List Addr} (I:Inv X pins σ H s) (u:Un (frs X.stack) ch H H' s.heap h') (hok:HOk X.prog X.w H' h') (hg:AllBare g')
  (hch:∀ b∈ch,(b∈X.ex∨X.s₀.heap.objs.size≤b)∧b≠X.env.locals∧(∀ x c,X.env.cells.lookup x=some c->c≠b)∧∀ p∈X.pn++pins,p.1≠b) :
  Inv X pins σ H' { s with heap:=h',gens:=g',drawn:=d',toks:=t' }:=by
 obtain ⟨m,⟨o,es,ep,ho,r⟩,_⟩:=id I.loc
 obtain ⟨sl,hL⟩:=u.any ho I.free fun z=>(hch _ z).2.1 rfl
 exact I.step (ch:=ch) hch (fun b o hL hb hc e n=>u.keep b o e n (fun z=>(Zaq.mp (I.Fd b z)).elim hL hb) hc) (fun b o _ _ hc e n=>u.any e n hc) (fun b o hc e n=>u.free b o e n hc) (fun b o hc e=>u.there b o e hc) u.tups u.frzs u.tbls (fun m' hm=>by
  obtain ⟨o',es',ep',ho',r'⟩:=hm
  rw [ho] at ho';cases ho'
  exact ⟨_,es',ep',hL,r'⟩) hok hg
theorem Inv.turned {t':Nat}{it:Addr} (I:Inv X pins σ H s) (k:∀ b o,b≠it->s.heap.get? b=some o->h'.get? b=some o) (hn:H it=none) (hL:it≠X.env.locals)
  (h1:it∈X.ex∨X.s₀.heap.objs.size≤it) (h2:∀ x c,X.env.cells.lookup x=some c->c≠it) (h3:∀ p∈X.pn++pins,p.1≠it):Inv X pins σ H { s with heap:=h',toks:=t' }:=by
 have nit:∀ b u,H b=some u->b≠it:=fun b u e z=>by rw [z,hn] at e;cases e
 refine I.step (g':=s.gens) (d':=s.drawn) (ch:=[it]) (fun b hb=>?_) (fun b o _ _ hc e _=>k b o (fun z=>hc (by simp [z])) e) (fun b o _ _ hc e _=>⟨o.slots,k b o (fun z=>hc (by simp [z])) e⟩) (fun _ _ _ _ n=>n)
  (fun b o hc e=>⟨o,k b o (fun z=>hc (by simp [z])) e⟩) (fun _ _ e=>e) (fun _ _ _ e=>e) (fun b ps e=>⟨#[],by rw [e];simp⟩) (fun m hm=>?_) (fun b u e=>?_) I.bare
 ·have e:b=it:=by simpa using hb
  subst e
  exact ⟨h1,hL,h2,h3⟩
 ·obtain ⟨o,es,ep,ho,r⟩:=hm
  exact ⟨o,es,ep,k _ o (Za7 hL) ho,r⟩
 ·refine (I.hok b u e).stay (fun c v hc q=>k c v ?_ q) (fun _ q=>q) fun _ _ q=>q
  rcases hc with z | z
  ·rw [z];exact nit b u e
  ·exact nit c _ z
theorem Inv.tok (I:Inv X pins σ H s) (t:Nat):Inv X pins σ H { s with toks:=t }:=I.un (h':=s.heap) (t':=t) Un.refl I.hok
theorem Inv.kept {t':Nat} (I:Inv X pins σ H s) (k:∀ b u,s.heap.get? b=some u->h'.get? b=some u):Inv X pins σ H { s with heap:=h',toks:=t' }:=I.un (Un.kept k) (I.hok.kept k)
theorem Inv.laid {a:Addr}{o:HO}{t':Nat} (I:Inv X pins σ H s) (k:∀ b u,s.heap.get? b=some u->h'.get? b=some u) (hp:s.heap.objs.size≤a) (new:dG X.prog X.w (upd H a o) h' a o) :
  Inv X pins σ (upd H a o) { s with heap:=h',toks:=t' }:=I.un (Un.laid k hp (I.hok.fresh hp)) (I.hok.laid k hp new)
theorem Inv.write {x e:Addr}{o:HO}{t':Nat} (I:Inv X pins σ H s) (mu:Mut (H x)) (he:e=x∨H e=some (.own x)) (k:∀ b u,b≠e->s.heap.get? b=some u->h'.get? b=some u) (heo:∃ u,h'.get? e=some u)
  (new:dG X.prog X.w (upd H x o) h' x o):Inv X pins σ (upd H x o) { s with heap:=h',toks:=t' }:=I.un (Un.write mu he k heo) (I.hok.write mu he k heo new)
theorem Inv.Gz {pins':List (Addr×Obj)} (I:Inv X pins σ H s) (h:∀ p∈pins',s.heap.get? p.1=some p.2∧H p.1=none∧p.1≠X.env.locals∧p.1 ∉ X.fs∧∀ v,p.2.data≠.cell v):Inv X pins' σ H s :=
 ⟨I.ok,I.os,I.bare,I.base,I.loc,I.cell,I.free,I.freeC,fun p hp=>(Zae.mp hp).elim (fun z=>I.pin p (Zbl _ z)) (h p),I.hok,I.len⟩
theorem By {N:List Str} (hN:N.Nodup) {i j:Nat}{x:Str} (a:N[i]?=some x) (b:N[j]?=some x):i=j:=by
 obtain ⟨h1,e1⟩:=Zab.mp a
 obtain ⟨h2,e2⟩:=Zab.mp b
 exact (List.getElem_inj hN).mp (e1.trans e2.symm)
theorem ym {M:Model}{A:Around}{E:Value->Shared->Prop}{i:Nat}{x:Str}{v:V}{u:Value}{Q:Unit->Shared->Prop} (I:Inv X pins σ H s) (hN:X.N.Nodup) (hi:X.N[i]?=some x) (hx:Loc X.env.scope x) (r:RelV v u)
  (h:∀ s',Inv X pins (σ.set i (some v)) H s'->(∃ a,Heap.SameBut a s.heap s'.heap∧(a=X.env.locals∨X.env.cells.lookup x=some a))->Q () s') (hf:X.fn x=true∨X.env.scope.names.lookup x=some .local:=by first | exact .inl rfl | exact .inr rfl | assumption):wpAny M A (storeName X.env x u) Q E s:=by
 obtain ⟨m,hn,hl⟩:=id I.loc
 have hcls:(X.env.scope.kind == .class || (X.env.scope.kind == .module && X.env.locals != X.env.globals))=false:=by rw [I.ok.kind];rfl
 have hiσ:i < σ.length:=by rw [I.len];exact (Zab.mp hi).1
 have cne:=I.cne
 have tracked:∀ {a:Addr}{h':Heap},(∃ o,s.heap.get? a=some o∧H a=none)->Heap.SameBut a s.heap h'->HOk X.prog X.w H h':=fun {a h'} ha hs b ob e=>by
  obtain ⟨_,_,hfree⟩:=ha
  refine (I.hok b ob e).stay (fun c w' hc q=>(hs.2 c ?_).trans q) (fun _ q=>q) fun _ _ q=>q
  rintro rfl
  rcases hc with rfl | hc
  ·rw [hfree] at e;cases e
  ·rw [hfree] at hc;cases hc
 rcases hx with hk | hk
 ·refine wpAny_storeName_local hk hn (fun h' hn' hs=>?_) hcls
  obtain ⟨oL,_,_,hoL,_⟩:=id hn
  refine h _ ⟨I.ok,I.os,I.bare,⟨fun b o e n hb hx=>?_,fun b o e n hb hx=>?_,I.base.free,fun b o e hx=>?_,I.base.tups,I.base.frzs,I.base.tbls⟩,⟨_,hn',fun j y v' e1 e2 e3=>?_⟩,fun y c e=>?_,I.free,I.freeC,fun p hp=>?_,tracked ⟨oL,hoL,I.free⟩ hs,by simpa using I.len⟩ ⟨_,hs,.inl rfl⟩
  ·exact (hs.2 b (Zaw (Zap (Zak e) I.ok.above))).trans (I.base.keep b o e n hb hx)
  ·obtain ⟨sl,e1⟩:=I.base.slot b o e n hb hx
   exact ⟨sl,(hs.2 b (Zaw (Zap (Zak e) I.ok.above))).trans e1⟩
  ·obtain ⟨o',e1⟩:=I.base.there b o e hx
   exact ⟨o',(hs.2 b (Zaw (Zap (Zak e) I.ok.above))).trans e1⟩
  ·by_cases hj:j=i
   ·subst hj
    rw [hi] at e1;cases e1
    rw [ZaP hiσ] at e2
    cases e2
    exact ⟨u,r,.inl ⟨hk,by simp⟩⟩
   ·rw [Zam (Za7 hj)] at e2
    obtain ⟨u',r',q⟩:=hl j y v' e1 e2 e3
    refine ⟨u',r',?_⟩
    rcases q with ⟨k,e⟩ | ⟨k,c,e,z⟩
    ·refine .inl ⟨k,?_⟩
     have:y≠x:=fun e=>hj (By hN e1 (e ▸ hi))
     simp [this,e]
    ·exact .inr ⟨k,c,e,z.sameBut hs (cne y c e)⟩
  ·obtain ⟨w',z⟩:=I.cell y c e
   exact ⟨w',z.sameBut hs (cne y c e)⟩
  ·obtain ⟨e,n,ne,nf,d⟩:=I.pin p hp
   exact ⟨(hs.2 p.1 ne).trans e,n,ne,nf,d⟩
 ·have hfn:X.fn x=true:=by
   rcases hf with z | z
   ·exact z
   ·rw [z] at hk;cases hk
  obtain ⟨c,hc⟩:=I.ok.has x (.inl hk)
  obtain ⟨w',z⟩:=I.cell x c hc
  refine wpAny_storeName_cell I.ok.kind hk hc z (fun h' hc' hs=>?_)
  obtain ⟨oc,hoc,hocd⟩:=id z
  refine h { s with heap:=h' } ⟨I.ok,I.os,I.bare,⟨fun b o e n hb hx=>?_,fun b o e n hb hx=>?_,I.base.free,fun b o e hx=>?_,I.base.tups,I.base.frzs,I.base.tbls⟩,⟨m,hn.sameBut hs (Za7 (cne x c hc)),fun j y v' e1 e2 e3=>?_⟩,fun y c' e=>?_,I.free,I.freeC,fun p hp=>?_,tracked ⟨oc,hoc,I.freeC x c hc⟩ hs,by simpa using I.len⟩ ⟨c,hs,.inr hc⟩
  ·exact (hs.2 b (Zaw (Zap (Zak e) (I.ok.cab x c hfn hc)))).trans (I.base.keep b o e n hb hx)
  ·obtain ⟨sl,e1⟩:=I.base.slot b o e n hb hx
   exact ⟨sl,(hs.2 b (Zaw (Zap (Zak e) (I.ok.cab x c hfn hc)))).trans e1⟩
  ·obtain ⟨o',e1⟩:=I.base.there b o e hx
   exact ⟨o',(hs.2 b (Zaw (Zap (Zak e) (I.ok.cab x c hfn hc)))).trans e1⟩
  ·by_cases hj:j=i
   ·subst hj
    rw [hi] at e1;cases e1
    rw [ZaP hiσ] at e2
    cases e2
    exact ⟨u,r,.inr ⟨.inl hk,c,hc,hc'⟩⟩
   ·rw [Zam (Za7 hj)] at e2
    obtain ⟨u',r',q⟩:=hl j y v' e1 e2 e3
    refine ⟨u',r',?_⟩
    rcases q with q | ⟨k,c',e,z'⟩
    ·exact .inl q
    ·refine .inr ⟨k,c',e,z'.sameBut hs ?_⟩
     rintro rfl
     exact hj (By hN e1 (I.ok.inj _ _ _ e hc ▸ hi))
  ·by_cases hcc:c'=c
   ·subst hcc;exact ⟨_,hc'⟩
   ·obtain ⟨w2,z2⟩:=I.cell y c' e
    exact ⟨w2,z2.sameBut hs hcc⟩
  ·obtain ⟨e,n,ne,nf,d⟩:=I.pin p hp
   refine ⟨(hs.2 p.1 ?_).trans e,n,ne,nf,d⟩
   intro q
   rw [q,hoc] at e
   have q':oc=p.2:=Zaa e
   exact d w' (by rw [←q'];exact hocd)
theorem BJ {M:Model}{A:Around}{E:Value->Shared->Prop}{i:Nat}{x:Str}{v:V}{u:Value}{Q:Unit->Shared->Prop} (I:Inv X pins σ H s) (hN:X.N.Nodup) (hi:X.N[i]?=some x) (hx:Loc X.env.scope x) (r:RelV v u)
  (h:∀ s',Inv X pins (σ.set i (some v)) H s'->Q () s') (hf:X.fn x=true∨X.env.scope.names.lookup x=some .local:=by first | exact .inl rfl | exact .inr rfl | assumption):wpAny M A (storeName X.env x u) Q E s :=
 ym I hN hi hx r (fun s' I' _=>h s' I') hf
theorem Inv.call' {s':Shared}{ch:List Addr} (I:Inv X pins σ H s) (ho:s'.os=s.os) (u:Un (frs X.stack) ch H H' s.heap s'.heap) (hok:HOk X.prog X.w H' s'.heap) (hg:AllBare s'.gens)
  (hch:∀ b∈ch,(b∈X.ex∨X.s₀.heap.objs.size≤b)∧b≠X.env.locals∧(∀ x c,X.env.cells.lookup x=some c->c≠b)∧∀ p∈X.pn++pins,p.1≠b):Inv X pins σ H' s':=by
 obtain ⟨h',g',d',t',o'⟩:=s'
 have e:o'=s.os:=ho
 subst e
 exact I.call (g':=g') (t':=t') (d':=d') u hok hg hch
end
noncomputable abbrev XK:=Value->Option Addr->Hp->Prop
noncomputable abbrev St:=List (Option V)
noncomputable abbrev VK:=V->Hp->Prop
noncomputable abbrev TE:=St->Hp->VK->Prop
noncomputable abbrev TT:=St->Hp->(Bool->Hp->Prop)->Prop
noncomputable abbrev TA:=St->Hp->(List V->Hp->Prop)->Prop
structure Ends where
 nx:St->Hp->Prop
 rt:VK
 bk:St->Hp->Prop:=fun _ _=>False
 ct:St->Hp->Prop:=fun _ _=>False
noncomputable abbrev TS:=Ends->St->Hp->Prop
def EP (X:Cx) (pins:List (Addr×Obj)) (σ:St) (Q:VK) (u:Value) (s':Shared):Prop:=∃ v H',Inv X pins σ H' s'∧RelV v u∧Q v H'
def TP (X:Cx) (pins:List (Addr×Obj)) (σ:St) (Q:Bool->Hp->Prop) (b:Bool) (s':Shared):Prop:=∃ H',Inv X pins σ H' s'∧Q b H'
def AP (X:Cx) (pins:List (Addr×Obj)) (σ:St) (Q:List V->Hp->Prop) (us:List Value) (s':Shared):Prop:=∃ vs H',Inv X pins σ H' s'∧Vals vs us∧Q vs H'
def SP (X:Cx) (pins:List (Addr×Obj)) (D:Ends) (f:Flow) (s':Shared):Prop :=
 match f with
 | .next=>∃ σ' H',Inv X pins σ' H' s'∧D.nx σ' H'
 | .brk=>∃ σ' H',Inv X pins σ' H' s'∧D.bk σ' H'
 | .cont=>∃ σ' H',Inv X pins σ' H' s'∧D.ct σ' H'
 | .ret u=>∃ v σ' H',Inv X pins σ' H' s'∧RelV v u∧D.rt v H'
def PE (X:Cx) (e:Expr) (t:TE):Prop :=
 ∀ (pins:List (Addr×Obj)) (s:Shared) (σ:St) (H:Hp) (Q:VK),Inv X pins σ H s->t σ H Q->wpAny (model X.prog X.w) X.A (eval e X.env) (EP X pins σ Q) X.xe s
def PT (X:Cx) (e:Expr) (t:TT):Prop :=
 ∀ (pins:List (Addr×Obj)) (s:Shared) (σ:St) (H:Hp) (Q:Bool->Hp->Prop),Inv X pins σ H s->t σ H Q->wpAny (model X.prog X.w) X.A (isTrue e X.env (eval e X.env)) (TP X pins σ Q) X.xe s
def PW (X:Cx) (e:Expr) (t:TT):Prop :=
 ∀ (whole:Sem Value) (pins:List (Addr×Obj)) (s:Shared) (σ:St) (H:Hp) (Q:Bool->Hp->Prop),Inv X pins σ H s->t σ H Q->wpAny (model X.prog X.w) X.A (isTrue e X.env whole) (TP X pins σ Q) X.xe s
theorem PW.pt {X:Cx}{e:Expr}{t:TT} (h:PW X e t):PT X e t:=h _
def PA (X:Cx) (es:List Expr) (t:TA):Prop :=
 ∀ (pos:Pos) (pins:List (Addr×Obj)) (s:Shared) (σ:St) (H:Hp) (Q:List V->Hp->Prop),Inv X pins σ H s->t σ H Q->wpAny (model X.prog X.w) X.A (spliced (backTo pos (starEach es X.env))) (AP X pins σ Q) X.xe s
def PS (X:Cx) (st:Stmt) (t:TS):Prop :=
 ∀ (pins:List (Addr×Obj)) (s:Shared) (σ:St) (H:Hp) (D:Ends),Inv X pins σ H s->t D σ H->wpAny (model X.prog X.w) X.A (exec st X.env) (SP X pins D) X.xe s
def PSs (X:Cx) (st:List Stmt) (t:TS):Prop :=
 ∀ (pins:List (Addr×Obj)) (s:Shared) (σ:St) (H:Hp) (D:Ends),Inv X pins σ H s->t D σ H->wpAny (model X.prog X.w) X.A (execs st X.env) (SP X pins D) X.xe s
theorem thn {α:Type}{t:Sem α}{Q Q':α->Shared->Prop}{M:Model}{A:Around}{E:Value->Shared->Prop}{s:Shared} (h:wpAny M A t Q E s) (hQ:∀ a s,Q a s->Q' a s):wpAny M A t Q' E s:=wpAny_mono h hQ fun _ _ x=>x
section
variable {X:Cx}
def lO (i:Nat):TE:=fun σ H Q=>∃ v,σ[i]?=some (some v)∧Q v H
def tC (v:V):TE:=fun _ H Q=>Q v H
theorem Fe {i:Nat}{x:Str}{pos:Pos} (hN:X.N[i]?=some x) (hv:Vis X.env.scope x) (hd:(x == ("__debug__":Str))=false:=by decide) (hcd:(x == ("__classdict__":Str))=false:=by decide):PE X (.Name x pos) (lO i):=by
 intro pins s σ H Q I h
 obtain ⟨v,e,h⟩:=h
 obtain ⟨m,hn,hl⟩:=I.loc
 obtain ⟨u,r,l⟩:=hl i x v hN e hv
 have fin:EP X pins σ Q u s:=⟨v,H,I,r,h⟩
 rcases l with ⟨hk,hm⟩ | ⟨hk,c,hc,hcell⟩
 ·exact wpAny_Name (wpAny_loadName_local I.ok.kind hk hn hm fin) hd
 ·rcases hk with hk | hk
  ·exact wpAny_Name (wpAny_loadName_cell I.ok.kind hk hc hcell fin) hd
  ·exact wpAny_Name (wpAny_loadName_free I.ok.kind hk hc hcell fin hcd) hd
theorem au {i j pos}:PE X (.Constant (.int i) j pos) (tC (.int i)):=fun _ _ _ H _ I h=>wpAny_Constant_int ⟨.int i,H,I.tok _,⟨_,rfl⟩,h⟩
theorem GC {b j pos}:PE X (.Constant (.bool b) j pos) (tC (.bl b)):=fun _ _ _ H _ I h=>Constant_bool ⟨.bl b,H,I,rfl,h⟩
theorem J0 {j pos}:PE X (.Constant .none j pos) (tC .non):=fun _ _ _ H _ I h=>Constant_none ⟨.non,H,I,rfl,h⟩
theorem tG {x j pos}:PE X (.Constant (.str x) j pos) (tC (.str x)):=fun _ _ _ H _ I h=>Calls.Constant_str ⟨.str x,H,I.tok _,⟨_,rfl⟩,h⟩
def Gl (X:Cx) (x:Str):Prop:=X.env.kindOf x=some .globalImplicit
theorem GF {E:Value->Shared->Prop}{pins:List (Addr×Obj)}{s:Shared}{σ:St}{H:Hp}{x:Str}{u:Value}{pos:Pos}{Q:Value->Shared->Prop} (I:Inv X pins σ H s) (hg:Gl X x) (hm:X.mg x=some u) (h:Q u s)
  (hd:(x == ("__debug__":Str))=false:=by decide):wpAny (model X.prog X.w) X.A (eval (.Name x pos) X.env) Q E s :=
 Calls.Name_function_global I.ok.kind hg (Calls.loadGlobal_global (by rw [I.ok.glob];exact I.mod.glob.keeps I.bk) hm h) hd
theorem tH {E:Value->Shared->Prop}{pins:List (Addr×Obj)}{s:Shared}{σ:St}{H:Hp}{x:Str}{u:Value}{pos:Pos}{Q:Value->Shared->Prop} (I:Inv X pins σ H s) (hg:Gl X x) (hm:X.mg x=none) (hv:bootBuiltins x=some u) (h:Q u s)
  (hn:x≠"__name__":=by decide) (hd:(x == ("__debug__":Str))=false:=by decide):wpAny (model X.prog X.w) X.A (eval (.Name x pos) X.env) Q E s:=by
 obtain ⟨mb,h1,h2⟩:=I.mod.blt
 exact Calls.Name_function_global I.ok.kind hg (Calls.loadGlobal_builtin (by rw [I.ok.glob];exact I.mod.glob.keeps I.bk) hm (by rw [I.ok.blt];exact h1.keeps I.bk) ((h2 x hn).trans hv) h) hd
theorem Ny {x:Str}{v:V}{u:Value}{pos:Pos} (hg:Gl X x) (hm:X.mg x=some u) (r:RelV v u) (hd:(x == ("__debug__":Str))=false:=by decide):PE X (.Name x pos) (tC v) :=
 fun _ _ _ H _ I h=>GF I hg hm ⟨v,H,I,r,h⟩ hd
variable {a b:Expr}{ta tb:TE}{pos:Pos}
def tB (t:TE):TT:=fun σ H Q=>t σ H fun x H1=>∃ c,x=.bl c∧Q c H1
theorem zG {e:Expr}{t:TE} (h:PE X e t) (he:∀ whole,isTrue e X.env whole=(do let v ←whole;standAt e.pos;holding [v] (truthy v)):=by intro _;rfl):PT X e (tB t):=by
 intro pins s σ H Q I hw
 refine isTrue_plain (thn (h pins s σ H _ I hw) ?_) (he _)
 rintro v s1 ⟨x,H1,I1,r1,q1⟩
 obtain ⟨d,rfl,q⟩:=q1
 cases r1
 exact wpAny_truthy_bool ⟨H1,I1,q⟩
variable {tA tB':TT}{rest:List Expr}
def Tw (t u:TT):TT:=fun σ H Q=>t σ H fun c H1=>if c=true then u σ H1 Q else Q false H1
def tOr (t u:TT):TT:=fun σ H Q=>t σ H fun c H1=>if c=true then Q true H1 else u σ H1 Q
def Tz (t:TT):TT:=fun σ H Q=>t σ H fun c H1=>Q (!c) H1
theorem qK (ha:PT X a tA):PW X (.BoolOp .And [a] pos) tA:=by
 intro wh pins s σ H Q I h
 refine isTrue_and (thn (ha pins s σ H Q I h) fun c s1 e=>?_)
 cases c with
 | true=>exact isTrue_and_nil e
 | false=>exact e
theorem J1 (ha:PT X a tA):PW X (.BoolOp .Or [a] pos) tA:=by
 intro wh pins s σ H Q I h
 refine isTrue_or (thn (ha pins s σ H Q I h) fun c s1 e=>?_)
 cases c with
 | false=>exact isTrue_or_nil e
 | true=>exact e
theorem vz (ha:PT X a tA) (hb:PW X (.BoolOp .And (b::rest) pos) tB'):PW X (.BoolOp .And (a::b::rest) pos) (Tw tA tB'):=by
 intro wh pins s σ H Q I h
 refine isTrue_and (thn (ha pins s σ H _ I h) ?_)
 rintro c s1 ⟨H1,I1,q1⟩
 cases c with
 | true=>exact hb wh pins s1 σ H1 Q I1 q1
 | false=>exact ⟨H1,I1,q1⟩
theorem Qp (ha:PT X a tA) (hb:PW X (.BoolOp .Or (b::rest) pos) tB'):PW X (.BoolOp .Or (a::b::rest) pos) (tOr tA tB'):=by
 intro wh pins s σ H Q I h
 refine isTrue_or (thn (ha pins s σ H _ I h) ?_)
 rintro c s1 ⟨H1,I1,q1⟩
 cases c with
 | true=>exact ⟨H1,I1,q1⟩
 | false=>exact hb wh pins s1 σ H1 Q I1 q1
theorem Rc (ha:PT X a tA):PT X (.UnaryOp .Not a pos) (Tz tA):=by
 intro pins s σ H Q I h
 exact isTrue_not (ha pins s σ H (fun c H1=>Q (!c) H1) I h)
def TF (ta tb:TE):TE:=fun σ H Q=>ta σ H fun x H1=>∃ c,x=.bl c∧if c=true then Q (.bl true) H1 else tb σ H1 Q
theorem Rf {op}{t:TE} (h:PE X a t):PE X (.BoolOp op [a] pos) t:=fun pins s σ H Q I hw=>BoolOp_one (h pins s σ H Q I hw)
theorem TJ (ha:PE X a ta) (hb:PE X (.BoolOp .Or (b::rest) pos) tb):PE X (.BoolOp .Or (a::b::rest) pos) (TF ta tb):=by
 intro pins s σ H Q I h
 refine BoolOp_or (thn (ha pins s σ H _ I h) ?_)
 rintro v s1 ⟨x,H1,I1,r1,q1⟩
 obtain ⟨c,rfl,q1⟩:=q1
 cases r1
 refine wpAny_truthy_bool ?_
 cases c with
 | false=>exact hb pins s1 σ H1 Q I1 q1
 | true=>exact ⟨.bl true,H1,I1,rfl,q1⟩
def tIf (t:TT) (ta tb:TE):TE:=fun σ H Q=>t σ H fun c H1=>if c=true then ta σ H1 Q else tb σ H1 Q
theorem BK {c:Expr} (hc:PT X c tA) (ha:PE X a ta) (hb:PE X b tb):PE X (.IfExp c a b pos) (tIf tA ta tb):=by
 intro pins s σ H Q I h
 refine wpAny_IfExp (thn (hc pins s σ H _ I h) ?_)
 rintro d s1 ⟨H1,I1,q1⟩
 cases d with
 | true=>exact ha pins s1 σ H1 Q I1 q1
 | false=>exact hb pins s1 σ H1 Q I1 q1
end
def SqL (K:PySem.W.Frag) (H:Hp) (a:Addr) (xs:List V):Prop :=
 Rd H a (.lst xs) ∨
  ∃ (o:Obj) (its:Array Value) (n:Nat),K.lookup a=some o∧o.cls=.type "list"∧o.dict=none∧o.data=.seq its n∧its.size≤sizeLine∧Vals xs its.toList
def SqT (K:PySem.W.Frag) (H:Hp) (a:Addr) (xs:List V):Prop :=
 Rd H a (.tup xs) ∨
  ∃ (o:Obj) (its:Array Value) (n:Nat),K.lookup a=some o∧o.cls=.type "tuple"∧o.data=.seq its n∧its.size≤sizeLine∧Vals xs its.toList
def Vc:Value->Option V
 | .none=>some .non
 | .bool b=>some (.bl b)
 | .int i _=>some (.int i)
 | .str x _=>some (.str x)
 | .bytes b _=>some (.byt b)
 | .float b _=>some (.flt b)
 | .ref a=>some (.ref a)
 | .type n=>some (.ty n)
 | _=>none
theorem RelV.abs {x:V}{u:Value} (r:RelV x u):Vc u=some x:=by
 cases x with
 | non=>cases r;rfl
 | bl _=>cases r;rfl
 | int _=>obtain ⟨t,rfl⟩:=r;rfl
 | str _=>obtain ⟨t,rfl⟩:=r;rfl
 | byt _=>obtain ⟨t,rfl⟩:=r;rfl
 | flt _=>obtain ⟨t,rfl⟩:=r;rfl
 | ref _=>cases r;rfl
 | ty _=>cases r;rfl
theorem RelV.inj {x y:V}{u:Value} (r:RelV x u) (q:RelV y u):x=y:=Zaa (r.abs.symm.trans q.abs)
theorem Vals.inj:∀ {xs ys:List V}{us:List Value},Vals xs us->Vals ys us->xs=ys
 | _,_,_,.nil,.nil=>rfl
 | _,_,_,.cons r t,.cons r' t'=>by rw [r.inj r',Vals.inj t t']
section
variable {X:Cx}{pins:List (Addr×Obj)}{σ:St}{H:Hp}{s:Shared}{a:Addr}{xs ys:List V}
theorem SqL.of {K:PySem.W.Frag} (h:H a=some (.lst xs)):SqL K H a xs:=.inl (.inl h)
theorem SqT.of {K:PySem.W.Frag} (h:H a=some (.tup xs)):SqT K H a xs:=.inl (.inl h)
theorem Inv.list (I:Inv X pins σ H s) (h:SqL X.K H a xs):∃ its:List Value,Vals xs its∧PlainL s.heap a its.toArray∧xs.length≤sizeLine:=by
 rcases h with h | ⟨o,its,n,hk,hc,hd,hs,hz,r⟩
 ·obtain ⟨z,its,n,r,e⟩:=h.ok I.hok
  exact ⟨its,r,⟨_,n,e,rfl,rfl,rfl⟩,z⟩
 ·refine ⟨its.toList,r,⟨o,n,I.kIn a o hk,hc,hd,by simpa using hs⟩,?_⟩
  have e:=r.length
  simp only [ZaS] at e
  lia
theorem Inv.tuple (I:Inv X pins σ H s) (h:SqT X.K H a xs):∃ its:List Value,Vals xs its∧IsTup s.heap a its.toArray∧xs.length≤sizeLine:=by
 rcases h with h | ⟨o,its,n,hk,hc,hs,hz,r⟩
 ·obtain ⟨z,its,r,p⟩:=h.ok I.hok
  exact ⟨its,r,p.1,z⟩
 ·refine ⟨its.toList,r,⟨o,I.kIn a o hk,hc,n,by simpa using hs⟩,?_⟩
  have e:=r.length
  simp only [ZaS] at e
  omega
theorem Inv.nu (I:Inv X pins σ H s) (h:SqL X.K H a xs) (h':SqL X.K H a ys):xs=ys:=by
 obtain ⟨its,r,⟨o,n,e,_,_,d⟩,_⟩:=I.list h
 obtain ⟨its',r',⟨o',n',e',_,_,d'⟩,_⟩:=I.list h'
 rw [e] at e';cases e'
 rw [d] at d'
 injection d' with d1 _
 have:its=its':=by simpa using congrArg Array.toList d1
 subst this
 exact r.inj r'
theorem Inv.yo (I:Inv X pins σ H s) (h:SqT X.K H a xs) (h':SqT X.K H a ys):xs=ys:=by
 obtain ⟨its,r,⟨o,e,_,n,d⟩,_⟩:=I.tuple h
 obtain ⟨its',r',⟨o',e',_,n',d'⟩,_⟩:=I.tuple h'
 rw [e] at e';cases e'
 rw [d] at d'
 injection d' with d1 _
 have:its=its':=by simpa using congrArg Array.toList d1
 subst this
 exact r.inj r'
end
noncomputable abbrev Cx.wish (X:Cx) (E:Value->Shared->Prop):Cx:={ X with xe:=E }
noncomputable abbrev Cx.nox (X:Cx):Cx:=X.wish fun _ _=>False
theorem Cx.Ok.wish {X:Cx} (ok:X.Ok) (E:Value->Shared->Prop):(X.wish E).Ok :=
 ⟨ok.mod,ok.kind,ok.glob,ok.blt,ok.above,ok.inj,ok.has,ok.cab,ok.hd,ok.frames,ok.stk,ok.exf,ok.bs,ok.bsz,ok.noex,ok.exfs,ok.uB,ok.frf⟩
theorem Cx.Ok.nA {X:Cx}{E:Value->Shared->Prop} (ok:(X.wish E).Ok):X.Ok :=
 ⟨ok.mod,ok.kind,ok.glob,ok.blt,ok.above,ok.inj,ok.has,ok.cab,ok.hd,ok.frames,ok.stk,ok.exf,ok.bs,ok.bsz,ok.noex,ok.exfs,ok.uB,ok.frf⟩
section
variable {X:Cx}{pins:List (Addr×Obj)}{σ:St}{H:Hp}{s:Shared}{E:Value->Shared->Prop}
theorem Inv.wish (I:Inv X pins σ H s) (E:Value->Shared->Prop):Inv (X.wish E) pins σ H s:=⟨I.ok.wish E,I.os,I.bare,I.base,I.loc,I.cell,I.free,I.freeC,I.pin,I.hok,I.len⟩
theorem Inv.nA (I:Inv (X.wish E) pins σ H s):Inv X pins σ H s:=⟨I.ok.nA,I.os,I.bare,I.base,I.loc,I.cell,I.free,I.freeC,I.pin,I.hok,I.len⟩
theorem SP.nA {D:Ends}{f:Flow}{s':Shared} (h:SP (X.wish E) pins D f s'):SP X pins D f s':=by
 cases f with
 | next=>obtain ⟨σ',H',I,q⟩:=h;exact ⟨σ',H',I.nA,q⟩
 | brk=>obtain ⟨σ',H',I,q⟩:=h;exact ⟨σ',H',I.nA,q⟩
 | cont=>obtain ⟨σ',H',I,q⟩:=h;exact ⟨σ',H',I.nA,q⟩
 | ret u=>obtain ⟨v,σ',H',I,r,q⟩:=h;exact ⟨v,σ',H',I.nA,r,q⟩
theorem PSs.nox {st:List Stmt}{t:TS} (h:PSs X.nox st t):PSs X st t:=fun pins s σ H D I hw =>
 wpAny_mono (h pins s σ H D (I.wish _) hw) (fun _ _ q=>q.nA) fun _ _ z=>False.elim z
end
section
variable {X:Cx}{st:Stmt}{rest:List Stmt}{t u:TS}{e:Expr}{te:TE}{pos:Pos}
def Qq:TS:=fun D σ H=>D.nx σ H
def Rg (t u:TS):TS:=fun D σ H=>t { D with nx:=u D } σ H
theorem du:PSs X [] Qq:=fun _ _ σ H _ I h=>wpAny_execs_nil ⟨σ,H,I,h⟩
theorem aC (h1:PS X st t) (h2:PSs X rest u):PSs X (st::rest) (Rg t u):=by
 intro pins s σ H D I h
 refine wpAny_execs_cons (thn (h1 pins s σ H { D with nx:=u D } I h) fun f s1 q=>?_)
 cases f with
 | next =>
  obtain ⟨σ',H',I',q⟩:=q
  exact h2 pins s1 σ' H' D I' q
 | ret v=>exact q
 | brk=>exact q
 | cont=>exact q
theorem aP (h1:PS X st t):PSs X [st] t:=by
 intro pins s σ H D I h
 refine wpAny_execs_cons (thn (h1 pins s σ H D I h) fun f s1 q=>?_)
 cases f with
 | next=>exact wpAny_execs_nil q
 | ret v=>exact q
 | brk=>exact q
 | cont=>exact q
def Qs:TS:=fun D σ H=>D.ct σ H
theorem BL:PS X (.Continue pos) Qs:=fun _ _ σ H _ I h=>wpAny_Continue ⟨σ,H,I,h⟩
theorem Inv.quiet {pins:List (Addr×Obj)}{σ:St}{H:Hp}{s:Shared} (I:Inv X pins σ H s):interactive X.env=false:=by simp [interactive,I.ok.kind]
def GJ (te:TE):TS:=fun D σ H=>te σ H fun _ H1=>D.nx σ H1
theorem uJ (he:PE X e te) (hs:swapsWith e none pos.line X.env=pure false:=by rfl):PS X (.Expr e pos) (GJ te):=by
 intro pins s σ H D I h
 exact wpAny_Expr_any (thn (he pins s σ H _ I h) fun v s1 ⟨x,H1,I1,r1,q1⟩=>⟨σ,H1,I1,q1⟩) I.quiet hs
def Iu (te:TE):TS:=fun D σ H=>te σ H D.rt
theorem bJ (he:PE X e te):PS X (.Return (some e) pos) (Iu te):=by
 intro pins s σ H D I h
 exact wpAny_Return_some (thn (he pins s σ H _ I h) fun v s1 ⟨x,H1,I1,r1,q1⟩=>⟨x,σ,H1,I1,r1,q1⟩)
def TQ (c:TT) (t u:TS):TS:=fun D σ H=>c σ H fun b H1=>if b=true then t D σ H1 else u D σ H1
theorem gU {c:Expr}{a b:List Stmt}{tc:TT} (hc:PT X c tc) (ha:PSs X a t) (hb:PSs X b u):PS X (.If c a b pos) (TQ tc t u):=by
 intro pins s σ H D I h
 refine wpAny_If (thn (hc pins s σ H _ I h) ?_)
 rintro d s1 ⟨H1,I1,q1⟩
 cases d with
 | true=>exact ha pins s1 σ H1 D I1 q1
 | false=>exact hb pins s1 σ H1 D I1 q1
def J2:TS:=fun _ _ _=>False
theorem J3:PS X st J2:=fun _ _ _ _ _ _ h=>h.elim
end
noncomputable abbrev TG:=V->St->Hp->(St->Hp->Prop)->Prop
noncomputable abbrev TGs:=List V->St->Hp->(St->Hp->Prop)->Prop
def PG (X:Cx) (target:Expr) (t:TG):Prop :=
 ∀ (pins:List (Addr×Obj)) (s:Shared) (σ:St) (H:Hp) (v:V) (u:Value) (Q:St->Hp->Prop),Inv X pins σ H s->RelV v u->t v σ H Q ->
  wpAny (model X.prog X.w) X.A (assign target X.env u) (fun _ s'=>∃ σ' H',Inv X pins σ' H' s'∧Q σ' H') X.xe s
def PGs (X:Cx) (ts:List Expr) (t:TGs):Prop :=
 ∀ (pins:List (Addr×Obj)) (s:Shared) (σ:St) (H:Hp) (vs:List V) (us:List Value) (Q:St->Hp->Prop),Inv X pins σ H s->Vals vs us->t vs σ H Q ->
  wpAny (model X.prog X.w) X.A (assignInOrder ((assignEach ts X.env).map (·.2)) us) (fun _ s'=>∃ σ' H',Inv X pins σ' H' s'∧Q σ' H') X.xe s
section
variable {X:Cx}{pos:Pos}
def uo (i:Nat):TG:=fun v σ H Q=>Q (σ.set i (some v)) H
theorem cI {i:Nat}{x:Str} (hN:X.N.Nodup) (hi:X.N[i]?=some x) (hx:Loc X.env.scope x) (hf:X.fn x=true∨X.env.scope.names.lookup x=some .local:=by first | exact .inl rfl | exact .inr rfl | assumption):PG X (.Name x pos) (uo i):=by
 intro pins s σ H v u Q I r h
 exact wpAny_assign_Name (BJ I hN hi hx r (fun s' I'=>⟨_,H,I',h⟩) hf)
def TV:TGs:=fun vs σ H Q=>vs=[]∧Q σ H
def Qt (t:TG) (u:TGs):TGs:=fun vs σ H Q=>∃ v r,vs=v::r∧t v σ H fun σ' H'=>u r σ' H' Q
theorem oO:PGs X [] TV:=by
 intro pins s σ H vs us Q I r h
 obtain ⟨e,h⟩:=h
 subst e
 cases r
 exact assignInOrder_nil ⟨σ,H,I,h⟩
theorem dw {e:Expr}{es:List Expr}{t:TG}{u:TGs} (h1:PG X e t) (h2:PGs X es u)
  (hs:(assignEach (e::es) X.env).map (·.2)=assign e X.env::(assignEach es X.env).map (·.2):=by rfl):PGs X (e::es) (Qt t u):=by
 intro pins s σ H vs us Q I r h
 obtain ⟨v,vr,e1,h⟩:=h
 subst e1
 cases r with
 | cons r rr =>
  rw [hs]
  refine assignInOrder_cons (thn (h1 pins s σ H _ _ _ I r h) ?_)
  rintro _ s1 ⟨σ1,H1,I1,q1⟩
  exact h2 pins s1 σ1 H1 _ _ Q I1 rr q1
def Rh (K:PySem.W.Frag) (n:Nat) (t:TGs):TG:=fun v σ H Q=>∃ a xs,v=.ref a∧SqT K H a xs∧xs.length=n∧t xs σ H Q
theorem J4 {es:List Expr}{k:Nat}{t:TGs}{n:Nat} (hc:X.calm=true) (h:PGs X es t)
  (hn:(assignEach es X.env).length=n:=by rfl) (hst:(assignEach es X.env).findIdx? (·.1)=none:=by rfl):PG X (.Tuple es k pos) (Rh X.K n t):=by
 intro pins s σ H v u Q I r hw
 obtain ⟨a,xs,e1,hq,hl,hw⟩:=hw
 subst e1
 cases r
 obtain ⟨its,rv,ht,hz⟩:=I.tuple hq
 refine assign_Tuple_tuple (I.ok.hd hc) ht (by simp [hn,←hl,rv.length]) hst fun h' hx=>?_
 have I1:Inv X pins σ H { s with heap:=h' }:=I.kept (t':=s.toks) fun b o e=>hx b o (Zaw (Zak e)) e
 exact h pins _ σ H xs _ Q I1 (by simpa using rv) hw
def Ff (te:TE) (g:TG):TS:=fun D σ H=>te σ H fun x H1=>g x σ H1 D.nx
theorem J5 {tg e:Expr}{te:TE}{g:TG} (he:PE X e te) (hg:PG X tg g) (hs:swapsWithSole [tg] e pos.line X.env=pure false:=by rfl) (hw:swappedStores [tg] e X.env=pure none:=by rfl)
  (h1:(assignEach [tg] X.env).map (·.2)=[assign tg X.env]:=by rfl):PS X (.Assign [tg] e pos) (Ff te g):=by
 intro pins s σ H D I h
 refine wpAny_Assign_stores (thn (he pins s σ H _ I h) ?_) hs hw
 rintro v s1 ⟨x,H1,I1,r1,q1⟩
 rw [h1]
 exact thn (hg pins s1 σ H1 x v _ I1 r1 q1) fun _ s2 q=>q
theorem aX {i:Nat}{x:Str}{e:Expr}{te:TE}{pos':Pos} (hN:X.N.Nodup) (hi:X.N[i]?=some x) (hx:Loc X.env.scope x) (he:PE X e te) (hs:swapsWith e (some (.Name x pos')) pos.line X.env=pure false:=by rfl) (hf:X.fn x=true∨X.env.scope.names.lookup x=some .local:=by first | exact .inl rfl | exact .inr rfl | assumption) :
  PS X (.Assign [.Name x pos'] e pos) (Ff te (uo i)):=by
 intro pins s σ H D I h
 refine wpAny_Assign_Name (thn (he pins s σ H _ I h) ?_) hs
 rintro v s1 ⟨y,H1,I1,r1,q1⟩
 exact BJ I1 hN hi hx r1 (fun s2 I2=>⟨_,H1,I2,q1⟩) hf
end
section
variable {X:Cx}{pos:Pos}
def Fg (c:TT) (tb:TS):TS:=fun D σ H=>∃ W:Nat->St->Hp->Prop,(∃ m,W m σ H)∧∀ m σ H,W m σ H ->
 c σ H fun b H1=>if b=true then ∃ N:St->Hp->Prop,(∀ σ' H',N σ' H'->∃ m',m' < m∧W m' σ' H')∧tb { D with nx:=N,ct:=N,bk:=D.nx } σ H1 else D.nx σ H1
theorem kh {c:Expr}{body:List Stmt}{tc:TT}{tb:TS} (hp:PassesOwn (model X.prog X.w) X.A X.env X.xe) (hc:PT X c tc) (hb:PSs X body tb):PS X (.While c body [] pos) (Fg tc tb):=by
 intro pins s σ H D I h
 obtain ⟨W,⟨m0,w0⟩,turn⟩:=h
 refine wpAny_While (codeAny_whileLoop (fun n s'=>∃ σ' H',Inv X pins σ' H' s'∧W n σ' H') ?_ m0 ⟨σ,H,I,w0⟩)
 rintro n s1 ⟨σ1,H1,I1,w1⟩
 refine wpAny_passesOwn hp (thn (hc pins s1 σ1 H1 _ I1 (turn n σ1 H1 w1)) ?_)
 rintro b s2 ⟨H2,I2,q2⟩
 cases b with
 | true =>
  obtain ⟨N,hN,q2⟩:=q2
  rw [if_pos rfl]
  refine wpAny_passesOwn hp (thn (hb pins s2 σ1 H2 _ I2 q2) fun f s3 q3=>?_)
  cases f with
  | next =>
   obtain ⟨σ3,H3,I3,n3⟩:=q3
   obtain ⟨m',hm,w3⟩:=hN σ3 H3 n3
   exact ⟨m',hm,σ3,H3,I3,w3⟩
  | cont =>
   obtain ⟨σ3,H3,I3,n3⟩:=q3
   obtain ⟨m',hm,w3⟩:=hN σ3 H3 n3
   exact ⟨m',hm,σ3,H3,I3,w3⟩
  | brk=>exact q3
  | ret v=>exact q3
 | false =>
  rw [if_neg Zbd]
  exact wpAny_execs_nil ⟨σ1,H2,I2,q2⟩
end
structure It where
 go:Nat->Hp->Prop
 yld:Nat->Hp->V->Hp->Prop
 stop:Nat->Hp->Prop
def vA (X:Cx) (pins:List (Addr×Obj)) (H:Hp) (b:Addr):Prop :=
 H b=none∧b≠X.env.locals∧b ∉ X.fs∧(b∈X.ex∨X.s₀.heap.objs.size≤b)∧(∀ x c,X.env.cells.lookup x=some c->c≠b)∧∀ p∈X.pn++pins,p.1≠b
theorem Inv.BP {X:Cx}{pins:List (Addr×Obj)}{σ:St}{H H':Hp}{s:Shared}{b:Addr} (I:Inv X pins σ H s) (hb:s.heap.objs.size≤b) (hn:H' b=none):vA X pins H' b:=by
 refine ⟨hn,Nat.ne_of_gt (Zap I.lt hb),I.Vb hb,.inr (ZaA I.sz hb),fun x c e z=>?_,fun p hp z=>?_⟩
 ·obtain ⟨v,q⟩:=I.cell x c e
  exact absurd (Zap q.lt (by rw [z];exact hb)) (Zbu _)
 ·exact absurd (Zap (Zak (I.pin p hp).1) (by rw [z];exact hb)) (Zbu _)
structure Turn (P:Program) (w:World) (K:PySem.W.Frag) (tg:Expr) (J:It) (fp:List Addr) (it:Addr) (tn:Nat->Heap->Prop):Prop where
 mem:it∈fp
 obj:∀ i h,tn i h->∀ b∈fp,∃ o,h.get? b=some o∧∀ v,o.data≠.cell v
 keep:∀ i h h',tn i h->(∀ b∈fp,∀ o,h.get? b=some o->h'.get? b=some o)->tn i h'
 item:∀ (X:Cx),X.prog=P->X.w=w->X.K=K->X.calm=true->∀ (i:Nat) (pins:List (Addr×Obj)) (s:Shared) (σ:St) (H:Hp) (E:Value->Shared->Prop),Inv X pins σ H s->(∀ b∈fp,vA X pins H b)->tn i s.heap->J.go i H ->
  wpAny (model P w) X.A (pyNext (.ref it)) (fun r s1=>∃ u,r=some u ∧
   wpAny (model P w) X.A (letOwnedTupleGo tg (.ref it) u) (fun _ s2=>∃ x H',Inv X pins σ H' s2∧RelV x u∧J.yld i H x H'∧tn (i+1) s2.heap∧∀ b∈fp,H' b=none) E s1) E s
 done:∀ (X:Cx),X.prog=P->X.w=w->X.K=K->X.calm=true->∀ (i:Nat) (pins:List (Addr×Obj)) (s:Shared) (σ:St) (H:Hp) (E:Value->Shared->Prop),Inv X pins σ H s->(∀ b∈fp,vA X pins H b)->tn i s.heap->J.stop i H ->
  wpAny (model P w) X.A (pyNext (.ref it)) (fun r s1=>r=none∧Inv X pins σ H s1) E s
 self:∀ (A:Around) (i:Nat) (s:Shared) (Q:Value->Shared->Prop) (E:Value->Shared->Prop),tn i s.heap->Q (.ref it) s->wpAny (model P w) A (pyIter (.ref it)) Q E s
noncomputable abbrev TI:=St->Hp->(It->Hp->Prop)->Prop
def PIE (X:Cx) (pins:List (Addr×Obj)) (σ:St) (tg:Expr) (R:It->Hp->Prop) (itv:Value) (s2:Shared):Prop :=
 ∃ (it:Addr) (fp:List Addr) (tn:Nat->Heap->Prop) (J:It) (H':Hp),itv=.ref it∧Inv X pins σ H' s2∧Turn X.prog X.w X.K tg J fp it tn∧tn 0 s2.heap∧(∀ b∈fp,vA X pins H' b)∧R J H'
def PI (X:Cx) (tg iter:Expr) (wi:TI):Prop :=
 ∀ (pins:List (Addr×Obj)) (s:Shared) (σ:St) (H:Hp) (R:It->Hp->Prop),Inv X pins σ H s->wi σ H R ->
  wpAny (model X.prog X.w) X.A (eval iter X.env) (fun v s1=>wpAny (model X.prog X.w) X.A (pyIter v) (PIE X pins σ tg R) X.xe s1) X.xe s
theorem BR {M:Model}{A:Around}{E:Value->Shared->Prop}{s:Shared}{tg:Expr}{it:Addr}{u:Value}{o:Obj}{n:String}{vs:Array Value}{Q:Unit->Shared->Prop} (ho:s.heap.get? it=some o) (hc:o.cls=.type n) (hd:o.data=.fields vs)
  (hn:["enumerate","zip","dict_itemiterator","dict_reverseitemiterator","odict_iterator","itertools.zip_longest","itertools.pairwise"].contains n=false) (hQ:Q () s):wpAny M A (letOwnedTupleGo tg (.ref it) u) Q E s:=by
 unfold letOwnedTupleGo
 cases tg <;> first
  | exact wpAny_pure hQ
  | (cases u <;> first
    | exact wpAny_pure hQ
    | (refine wpAny_bind (wpAny_load ho ?_)
       rw [hc,hd]
       show wpAny M A (if (["enumerate","zip","dict_itemiterator","dict_reverseitemiterator","odict_iterator","itertools.zip_longest","itertools.pairwise"].contains n && vs[0]? == some (rawInt _))=true then _ else _) Q E s
       rw [if_neg (by intro h;rw [hn,Bool.false_and] at h;cases h)]
       exact wpAny_pure hQ))
def Itl (K:PySem.W.Frag) (a:Addr):It :=
 ⟨fun i H=>∃ xs x,SqL K H a xs∧xs[i]?=some x,fun i H x H'=>H'=H∧∀ xs,SqL K H a xs->xs[i]?=some x,fun i H=>∃ xs,SqL K H a xs∧xs.length≤i⟩
def Itt (K:PySem.W.Frag) (a:Addr):It :=
 ⟨fun i H=>∃ xs x,SqT K H a xs∧xs[i]?=some x,fun i H x H'=>H'=H∧∀ xs,SqT K H a xs->xs[i]?=some x,fun i H=>∃ xs,SqT K H a xs∧xs.length≤i⟩
def Itr (lo:Int) (n:Nat):It:=⟨fun i _=>i < n,fun i H x H'=>H'=H∧x=.int (lo+i),fun i _=>n≤i⟩
theorem Iv {P:Program}{w:World}{K:PySem.W.Frag}{tg:Expr} (a it:Addr):Turn P w K tg (Itl K a) [it] it (fun i h=>h.IsListIter it a i) where
 mem:=by simp
 obj:=fun i h st b hb=>by
  have e:b=it:=by simpa using hb
  subst e
  obtain ⟨o,e,c,d⟩:=st
  exact ⟨o,e,fun v z=>by rw [d] at z;cases z⟩
 keep:=fun i h h' st k=>st.at fun o e=>k it (by simp) o e
 item:=by
  intro X hP hw hK hc i pins s σ H E I hf st hg
  subst hP hw hK
  obtain ⟨xs,x,hq,hx⟩:=hg
  obtain ⟨its,rv,p,hz⟩:=I.list hq
  obtain ⟨u,hu,ru⟩:=rv.get hx
  obtain ⟨f0,f1,f2,f3,f4,f5⟩:=hf it (by simp)
  refine wpAny_pyNext_list_item st p.isList (x:=u) (by simpa using hu) fun h' st' sb=>?_
  have I1:Inv X pins σ H { s with heap:=h' }:=I.turned (t':=s.toks) (fun b o hb e=>(sb.2 b hb).trans e) f0 f1 f3 f4 f5
  obtain ⟨o,e,c,d⟩:=id st'
  exact ⟨u,rfl,BR (s:={ s with heap:=h' }) e c d (by decide) ⟨x,H,I1,ru,⟨rfl,fun ys hy=>by rw [I.nu hy hq];exact hx⟩,st',fun b hb=>(hf b hb).1⟩⟩
 done:=by
  intro X hP hw hK hc i pins s σ H E I hf st hg
  subst hP hw hK
  obtain ⟨xs,hq,hx⟩:=hg
  obtain ⟨its,rv,p,hz⟩:=I.list hq
  obtain ⟨f0,f1,f2,f3,f4,f5⟩:=hf it (by simp)
  have hl:=rv.length
  exact wpAny_pyNext_list_end (I.ok.hd hc) st p.isList (by simp;lia) fun h' eb=>⟨rfl,I.turned (t':=s.toks) (fun b o hb e=>eb b o hb e) f0 f1 f3 f4 f5⟩
 self:=fun _ _ _ _ _ st h=>wpAny_pyIter_listiter st h
theorem Fi {P:Program}{w:World}{K:PySem.W.Frag}{tg:Expr} (a it:Addr):Turn P w K tg (Itt K a) [it] it (fun i h=>h.IsTupleIter it a i) where
 mem:=by simp
 obj:=fun i h st b hb=>by
  have e:b=it:=by simpa using hb
  subst e
  obtain ⟨o,e,c,d⟩:=st
  exact ⟨o,e,fun v z=>by rw [d] at z;cases z⟩
 keep:=fun i h h' st k=>st.at fun o e=>k it (by simp) o e
 item:=by
  intro X hP hw hK hc i pins s σ H E I hf st hg
  subst hP hw hK
  obtain ⟨xs,x,hq,hx⟩:=hg
  obtain ⟨its,rv,p,hz⟩:=I.tuple hq
  obtain ⟨u,hu,ru⟩:=rv.get hx
  obtain ⟨f0,f1,f2,f3,f4,f5⟩:=hf it (by simp)
  refine wpAny_pyNext_tuple_item st (show s.heap.IsTuple a its.toArray from p) (x:=u) (by simpa using hu) fun h' st' sb=>?_
  have I1:Inv X pins σ H { s with heap:=h' }:=I.turned (t':=s.toks) (fun b o hb e=>(sb.2 b hb).trans e) f0 f1 f3 f4 f5
  obtain ⟨o,e,c,d⟩:=id st'
  exact ⟨u,rfl,BR (s:={ s with heap:=h' }) e c d (by decide) ⟨x,H,I1,ru,⟨rfl,fun ys hy=>by rw [I.yo hy hq];exact hx⟩,st',fun b hb=>(hf b hb).1⟩⟩
 done:=by
  intro X hP hw hK hc i pins s σ H E I hf st hg
  subst hP hw hK
  obtain ⟨xs,hq,hx⟩:=hg
  obtain ⟨its,rv,p,hz⟩:=I.tuple hq
  obtain ⟨f0,f1,f2,f3,f4,f5⟩:=hf it (by simp)
  have hl:=rv.length
  exact wpAny_pyNext_tuple_end (I.ok.hd hc) st (show s.heap.IsTuple a its.toArray from p) (by simp;omega) fun h' eb=>⟨rfl,I.turned (t':=s.toks) (fun b o hb e=>eb b o hb e) f0 f1 f3 f4 f5⟩
 self:=fun _ _ _ _ _ st h=>wpAny_pyIter_tupleiter st h
theorem Fj {P:Program}{w:World}{K:PySem.W.Frag}{tg:Expr} (it:Addr) (lo:Int) (n:Nat):Turn P w K tg (Itr lo n) [it] it (fun i h=>IsRangeIter h it (lo+(i:Nat) * 1) ((n:Int) - (i:Nat)) 1) where
 mem:=by simp
 obj:=fun i h st b hb=>by
  have e:b=it:=by simpa using hb
  subst e
  exact ⟨_,st,fun v z=>by
   have z':Data.fields _=Data.cell v:=z
   cases z'⟩
 keep:=fun i h h' st k=>k it (by simp) _ st
 item:=by
  intro X hP hw hK hc i pins s σ H E I hf st hg
  subst hP hw hK
  obtain ⟨f0,f1,f2,f3,f4,f5⟩:=hf it (by simp)
  have W:=Walks.range (prog:=X.prog) (w:=X.w) (I.ok.hd hc) it lo 1 n
  refine W.item i s _ _ hg st fun v h' tk hv st' kk=>?_
  obtain ⟨t,rfl⟩:=hv
  have I1:Inv X pins σ H { s with heap:=h',toks:=tk }:=I.turned (fun b o hb e=>kk b o (by simpa using hb) e) f0 f1 f3 f4 f5
  refine ⟨_,rfl,BR (s:={ s with heap:=h',toks:=tk }) (n:="range_iterator") st' rfl rfl (by decide) ⟨.int (lo+i),H,I1,⟨t,?_⟩,⟨rfl,rfl⟩,st',fun b hb=>(hf b hb).1⟩⟩
  rw [Int.mul_one]
 done:=by
  intro X hP hw hK hc i pins s σ H E I hf st hg
  subst hP hw hK
  obtain ⟨f0,f1,f2,f3,f4,f5⟩:=hf it (by simp)
  exact wpAny_pyNext_range_end (I.ok.hd hc) st (by have:n≤i:=hg;omega) fun h' eb=>⟨rfl,I.turned (t':=s.toks) (fun b o hb e=>eb b o hb e) f0 f1 f3 f4 f5⟩
 self:=fun _ _ _ _ _ st h=>wpAny_pyIter_rangeiter st h
section
variable {X:Cx}{tg:Expr}
theorem BV {pins:List (Addr×Obj)}{σ:St}{H:Hp}{s:Shared}{R:It->Hp->Prop}{E:Value->Shared->Prop}{lo hi:Int}{t u v:Tok}{tk:Nat} (I:Inv X pins σ H s) (h1:-(2 ^ 62)≤lo) (h2:lo < 2 ^ 62) (h3:-(2 ^ 62)≤hi) (h4:hi < 2 ^ 62)
  (q:R (Itr lo (hi - lo).toNat) H):wpAny (model X.prog X.w) X.A (pyIter (.ref s.heap.objs.size)) (PIE X pins σ tg R) E { s with heap:=s.heap.push { cls:=.type "range",data:=.fields #[.int lo t,.int hi u,.int 1 v] },toks:=tk }:=by
 refine wpAny_pyIter_range (IsRange.new ..) (small_one h1 h2 h3 h4) ?_
 have I1:Inv X pins σ H { s with heap:=s.heap.push { cls:=.type "range",data:=.fields #[.int lo t,.int hi u,.int 1 v] },toks:=tk }:=I.kept fun b o e=>Zac _ e
 refine ⟨(s.heap.push { cls:=.type "range",data:=.fields #[.int lo t,.int hi u,.int 1 v] }).objs.size,[(s.heap.push { cls:=.type "range",data:=.fields #[.int lo t,.int hi u,.int 1 v] }).objs.size],_,_,H,rfl,
  I1.kept (t':=tk) fun b o e=>Zac _ e,Fj _ lo (hi - lo).toNat,?_,fun b hb=>?_,q⟩
 ·have e1:lo+((0:Nat):Int) * 1=lo:=by simp
  have e2:(((hi - lo).toNat:Nat):Int) - ((0:Nat):Int)=Builtin.Range.rangeSize lo hi 1:=by rw [rangeSize_one];split <;> omega
  show IsRangeIter _ _ (lo+((0:Nat):Int) * 1) ((((hi - lo).toNat:Nat):Int) - ((0:Nat):Int)) 1
  rw [e1,e2]
  exact Zal _ rfl
 ·have e:b=(s.heap.push { cls:=.type "range",data:=.fields #[.int lo t,.int hi u,.int 1 v] }).objs.size:=by simpa using hb
  subst e
  exact I1.BP (Zaf _) (I1.hok.fresh (Zaf _))
def Qu (ta:TA):TI:=fun σ H R=>ta σ H fun vs H1=>∃ j:Int,vs=[.int j]∧-(2 ^ 62)≤j∧j < 2 ^ 62∧R (Itr 0 j.toNat) H1
def Qv (ta:TA):TI:=fun σ H R=>ta σ H fun vs H1=>∃ i j:Int,vs=[.int i,.int j]∧(-(2 ^ 62)≤i∧i < 2 ^ 62∧-(2 ^ 62)≤j∧j < 2 ^ 62)∧R (Itr i (j - i).toNat) H1
theorem kj {a:Expr}{ta:TA}{p pos:Pos} (hg:Gl X "range") (hm:X.mg "range"=none) (ha:PA X [a] ta) (hs:starEach [a] X.env=[(false,eval a X.env)]:=by rfl):PI X tg (.Call (.Name "range" p) [a] [] pos) (Qu ta):=by
 intro pins s σ H R I h
 refine Call_ (tH I hg hm boot_range (Zbe (thn (ha pos pins s σ H _ I h) ?_) hs rfl))
 rintro us s1 ⟨vs,H1,I1,r1,q1⟩
 obtain ⟨j,e,q1,q2,q⟩:=q1
 subst e
 cases r1 with
 | cons r rr =>
  cases rr
  obtain ⟨t,rfl⟩:=r
  exact call_range_1 (BV I1 (by omega) (by omega) q1 q2 (by simpa using q))
theorem oR {a b:Expr}{ta:TA}{p pos:Pos} (hg:Gl X "range") (hm:X.mg "range"=none) (ha:PA X [a,b] ta) (hs:starEach [a,b] X.env=[(false,eval a X.env),(false,eval b X.env)]:=by rfl) (hs2:starEach [b] X.env=[(false,eval b X.env)]:=by rfl) :
  PI X tg (.Call (.Name "range" p) [a,b] [] pos) (Qv ta):=by
 intro pins s σ H R I h
 refine Call_ (tH I hg hm boot_range (Zbe (thn (ha pos pins s σ H _ I h) ?_) (by rw [hs,hs2]) (by rw [hs2];rfl)))
 rintro us s1 ⟨vs,H1,I1,r1,q1⟩
 obtain ⟨i,j,e,⟨q1,q2,q3,q4⟩,q⟩:=q1
 subst e
 cases r1 with
 | cons r rr =>
  cases rr with
  | cons r' rr =>
   cases rr
   obtain ⟨t,rfl⟩:=r
   obtain ⟨t',rfl⟩:=r'
   exact call_range_2 (BV I1 q1 q2 q3 q4 q)
def Ri (wi:TI) (g:TG) (tb:TS):TS:=fun D σ H=>wi σ H fun J H1=>∃ W:Nat->Nat->St->Hp->Prop,(∃ m,W 0 m σ H1)∧∀ i m σ H,W i m σ H ->
 (J.stop i H∧D.nx σ H)∨(J.go i H∧∃ N:St->Hp->Prop,(∀ σ' H',N σ' H'->∃ m',m' < m∧W (i+1) m' σ' H')∧∀ x H',J.yld i H x H'->g x σ H' fun σ2 H2=>tb { D with nx:=N,ct:=N,bk:=D.nx } σ2 H2)
def vB (fp:List Addr) (h:Heap):List (Addr×Obj):=fp.filterMap fun b=>(h.get? b).map fun o=>(b,o)
theorem lQ {fp:List Addr}{h:Heap}{b:Addr}{o:Obj} (hb:b∈fp) (e:h.get? b=some o):(b,o)∈vB fp h:=List.mem_filterMap.mpr ⟨b,hb,by rw [e];rfl⟩
theorem Iw {fp:List Addr}{h:Heap}{p:Addr×Obj} (hp:p∈vB fp h):p.1∈fp∧h.get? p.1=some p.2:=by
 obtain ⟨b,hb,e⟩:=List.mem_filterMap.mp hp
 cases q:h.get? b with
 | none=>rw [q] at e;cases e
 | some o =>
  rw [q] at e
  have e':(b,o)=p:=Zaa e
  subst e'
  exact ⟨hb,q⟩
theorem Inv.pinned {pins:List (Addr×Obj)}{σ:St}{H:Hp}{s:Shared}{fp:List Addr} (I:Inv X pins σ H s) (hf:∀ b∈fp,vA X pins H b) (ho:∀ b∈fp,∃ o,s.heap.get? b=some o∧∀ v,o.data≠.cell v):Inv X (pins++vB fp s.heap) σ H s :=
 I.Gz fun p hp=>(Zae.mp hp).elim (fun z=>I.pin p (ZaB _ z)) fun z=>by
  obtain ⟨hb,e⟩:=Iw z
  obtain ⟨f0,f1,f2,_⟩:=hf p.1 hb
  obtain ⟨o,e',d⟩:=ho p.1 hb
  rw [e] at e';cases e'
  exact ⟨e,f0,f1,f2,d⟩
theorem Inv.qL {pins pl:List (Addr×Obj)}{σ:St}{H:Hp}{s:Shared} (I:Inv X (pins++pl) σ H s):Inv X pins σ H s:=I.Gz fun p hp=>I.pin p (ZaB _ (Zbl _ hp))
theorem gZ {iter:Expr}{body:List Stmt}{wi:TI}{g:TG}{tb:TS}{pos:Pos} (hp:PassesOwn (model X.prog X.w) X.A X.env X.xe) (hc:X.calm=true) (hi:PI X tg iter wi) (hg:PG X tg g) (hb:PSs X body tb)
  (hs:∀ x,foldedSetIterable iter X.env x=pure x:=by intro _;rfl):PS X (.For tg iter body [] pos) (Ri wi g tb):=by
 intro pins s σ H D I h
 refine wpAny_For (thn (hi pins s σ H _ I h) fun v s1 h1=>thn h1 fun itv s2 h2=>?_) hs
 obtain ⟨it,fp,tn,J,H2,e,I2,T,st2,f2,W,⟨m0,w0⟩,turn⟩:=h2
 subst e
 have stat:∀ {H':Hp},(∀ b∈fp,H' b=none)->∀ b∈fp,vA X pins H' b:=fun hn b hb=>⟨hn b hb,(f2 b hb).2⟩
 refine codeAny_forLoop_any (fun n s'=>∃ i σ' H',Inv X pins σ' H' s'∧tn i s'.heap∧(∀ b∈fp,H' b=none)∧W i n σ' H') ?_ m0 ⟨0,σ,H2,I2,st2,fun b hb=>(f2 b hb).1,w0⟩
 rintro n s3 ⟨i,σ3,H3,I3,st3,fr3,w3⟩
 rcases turn i n σ3 H3 w3 with ⟨stop,qn⟩ | ⟨go,N,hN,step⟩
 ·refine wpAny_passesOwn hp (thn (T.done X rfl rfl rfl hc i pins s3 σ3 H3 X.xe I3 (stat fr3) st3 stop) ?_)
  rintro r s4 ⟨hr,I4⟩
  subst hr
  exact wpAny_execs_nil ⟨σ3,H3,I4,qn⟩
 ·refine wpAny_passesOwn hp (thn (T.item X rfl rfl rfl hc i pins s3 σ3 H3 X.xe I3 (stat fr3) st3 go) ?_)
  rintro r s4 ⟨u,hr,h4⟩
  subst hr
  refine wpAny_passesOwn hp (thn h4 ?_)
  rintro _ s5 ⟨x,H5,I5,r5,y5,st5,fr5⟩
  have I5':=I5.pinned (stat fr5) (T.obj _ _ st5)
  refine wpAny_passesOwn hp (thn (hg _ s5 σ3 H5 x u _ I5' r5 (step x H5 y5)) ?_)
  rintro _ s6 ⟨σ6,H6,I6,q6⟩
  refine wpAny_passesOwn hp (thn (hb _ s6 σ6 H6 _ I6 q6) fun f s7 q7=>?_)
  have again:∀ {σ7:St}{H7:Hp},Inv X (pins++vB fp s5.heap) σ7 H7 s7->N σ7 H7->∃ m,m < n∧∃ i σ' H',Inv X pins σ' H' s7∧tn i s7.heap∧(∀ b∈fp,H' b=none)∧W i m σ' H':=fun {σ7 H7} I7 n7=>by
   obtain ⟨m',hm,w7⟩:=hN σ7 H7 n7
   refine ⟨m',hm,i+1,σ7,H7,I7.qL,T.keep _ _ _ st5 fun b hb o e=>(I7.pin (b,o) (ZaB _ (ZaB _ (lQ hb e)))).1,fun b hb=>?_,w7⟩
   obtain ⟨o,e,d⟩:=T.obj _ _ st5 b hb
   exact (I7.pin (b,o) (ZaB _ (ZaB _ (lQ hb e)))).2.1
  cases f with
  | next=>obtain ⟨σ7,H7,I7,n7⟩:=q7;exact again I7 n7
  | cont=>obtain ⟨σ7,H7,I7,n7⟩:=q7;exact again I7 n7
  | brk=>obtain ⟨σ7,H7,I7,q7⟩:=q7;exact ⟨σ7,H7,I7.qL,q7⟩
  | ret v=>obtain ⟨x7,σ7,H7,I7,r7,q7⟩:=q7;exact ⟨x7,σ7,H7,I7.qL,r7,q7⟩
end
noncomputable abbrev R2:=V->V->Hp->VK->Prop
def OpR (X:Cx) (f:Value->Value->Sem Value) (r:R2):Prop :=
 ∀ (pins:List (Addr×Obj)) (s:Shared) (σ:St) (H:Hp) (x y:V) (v u:Value) (Q:VK),Inv X pins σ H s->RelV x v->RelV y u->r x y H Q ->
  wpAny (model X.prog X.w) X.A (f v u) (EP X pins σ Q) X.xe s
def UnR (X:Cx) (f:Value->Sem Value) (r:V->Hp->VK->Prop):Prop :=
 ∀ (pins:List (Addr×Obj)) (s:Shared) (σ:St) (H:Hp) (x:V) (v:Value) (Q:VK),Inv X pins σ H s->RelV x v->r x H Q ->
  wpAny (model X.prog X.w) X.A (f v) (EP X pins σ Q) X.xe s
def pI (X:Cx) (f:Value) (r:List V->Hp->VK->Prop):Prop :=
 ∀ (pins:List (Addr×Obj)) (s:Shared) (σ:St) (H:Hp) (xs:List V) (us:List Value) (Q:VK),Inv X pins σ H s->Vals xs us->r xs H Q ->
  wpAny (model X.prog X.w) X.A (call f us) (EP X pins σ Q) X.xe s
def tOp (r:R2) (ta tb:TE):TE:=fun σ H Q=>ta σ H fun x H1=>tb σ H1 fun y H2=>r x y H2 Q
def tUn (r:V->Hp->VK->Prop) (ta:TE):TE:=fun σ H Q=>ta σ H fun x H1=>r x H1 Q
def rI (C:Int->Int->Prop) (g:Int->Int->V):R2:=fun x y H Q=>∃ i j,x=.int i∧y=.int j∧C i j∧Q (g i j) H
def rI0 (g:Int->Int->V):R2:=fun x y H Q=>∃ i j,x=.int i∧y=.int j∧Q (g i j) H
def rU (g:Int->V):V->Hp->VK->Prop:=fun x H Q=>∃ i,x=.int i∧Q (g i) H
section
variable {X:Cx}{a b c:Expr}{ta tb tc:TE}{pos:Pos}
theorem Rj (ha:PE X a ta) (hb:PE X b tb) {pins:List (Addr×Obj)}{s:Shared}{σ:St}{H:Hp}{R:V->V->Hp->Prop} (I:Inv X pins σ H s)
  (h:ta σ H fun x H1=>tb σ H1 fun y H2=>R x y H2) {Q:Value->Shared->Prop}{f:Value->Value->Sem Value}
  (hf:∀ v u s2 x y H2,Inv X pins σ H2 s2->RelV x v->RelV y u->R x y H2->wpAny (model X.prog X.w) X.A (f v u) Q X.xe s2) :
  wpAny (model X.prog X.w) X.A (eval a X.env) (fun v s₁=>wpAny (model X.prog X.w) X.A (eval b X.env) (fun u s₂=>wpAny (model X.prog X.w) X.A (f v u) Q X.xe s₂) X.xe s₁) X.xe s:=by
 refine thn (ha pins s σ H _ I h) ?_
 rintro v s1 ⟨x,H1,I1,r1,q1⟩
 refine thn (hb pins s1 σ H1 _ I1 q1) ?_
 rintro u s2 ⟨y,H2,I2,r2,q2⟩
 exact hf v u s2 x y H2 I2 r1 r2 q2
theorem aN {op:Operator}{r:R2} (ho:OpR X (binaryOp op) r) (ha:PE X a ta) (hb:PE X b tb):PE X (.BinOp a op b pos) (tOp r ta tb):=by
 intro pins s σ H Q I h
 exact wpAny_BinOp (Rj ha hb I h fun v u s2 x y H2 I2 rx ry q=>ho pins s2 σ H2 x y v u Q I2 rx ry q)
theorem TX {op:UnaryOp}{r:V->Hp->VK->Prop} (ho:UnR X (unaryOp op) r) (ha:PE X a ta):PE X (.UnaryOp op a pos) (tUn r ta):=by
 intro pins s σ H Q I h
 exact UnaryOp_ (thn (ha pins s σ H _ I h) fun v s1 ⟨x,H1,I1,r1,q1⟩=>ho pins s1 σ H1 x v Q I1 r1 q1)
theorem opI {f:Value->Value->Sem Value}{C:Int->Int->Prop}{g:Int->Int->Int}
  (rule:∀ (i j:Int) (t u:Tok) (s:Shared) (Q:Value->Shared->Prop) (E:Value->Shared->Prop),C i j->Q (.int (g i j) s.toks) { s with toks:=s.toks+1 }->wpAny (model X.prog X.w) X.A (f (.int i t) (.int j u)) Q E s) :
  OpR X f (rI C fun i j=>.int (g i j)):=by
 intro pins s σ H x y v u Q I rx ry h
 obtain ⟨i,j,rfl,rfl,hc,q⟩:=h
 obtain ⟨t,rfl⟩:=rx
 obtain ⟨t',rfl⟩:=ry
 exact rule i j t t' s _ _ hc ⟨.int (g i j),H,I.tok _,⟨_,rfl⟩,q⟩
theorem Nz {f:Value->Value->Sem Value}{g:Int->Int->Int}
  (rule:∀ (i j:Int) (t u:Tok) (s:Shared) (Q:Value->Shared->Prop) (E:Value->Shared->Prop),Q (.int (g i j) s.toks) { s with toks:=s.toks+1 }->wpAny (model X.prog X.w) X.A (f (.int i t) (.int j u)) Q E s) :
  OpR X f (rI0 fun i j=>.int (g i j)):=by
 intro pins s σ H x y v u Q I rx ry h
 obtain ⟨i,j,rfl,rfl,q⟩:=h
 obtain ⟨t,rfl⟩:=rx
 obtain ⟨t',rfl⟩:=ry
 exact rule i j t t' s _ _ ⟨.int (g i j),H,I.tok _,⟨_,rfl⟩,q⟩
theorem Rm {f:Value->Value->Sem Value}{g:Int->Int->Bool}
  (rule:∀ (i j:Int) (t u:Tok) (s:Shared) (Q:Value->Shared->Prop) (E:Value->Shared->Prop),Q (.bool (g i j)) s->wpAny (model X.prog X.w) X.A (f (.int i t) (.int j u)) Q E s) :
  OpR X f (rI0 fun i j=>.bl (g i j)):=by
 intro pins s σ H x y v u Q I rx ry h
 obtain ⟨i,j,rfl,rfl,q⟩:=h
 obtain ⟨t,rfl⟩:=rx
 obtain ⟨t',rfl⟩:=ry
 exact rule i j t t' s _ _ ⟨.bl (g i j),H,I,rfl,q⟩
def Ro (i j:Int):Prop:=0 < j∧j < 1073741824
def J6 (i j:Int):Prop:=0≤j∧j≤1000000∧i.natAbs < 2 ^ 64
def Fl (i j:Int):Prop:=(-(2 ^ 64) < i∧i < 2 ^ 64)∨(-(2 ^ 64) < j∧j < 2 ^ 64)
theorem Fl.ok {i j:Int} (h:Fl i j):IntMulOk i j:=by
 rcases h with ⟨h1,h2⟩ | ⟨h1,h2⟩
 ·exact .of_left (intBits_le_64 h1 h2)
 ·exact .of_right (intBits_le_64 h1 h2)
theorem Fo (k:Nat):(0:Int)≤2 ^ k:=by
 rw [two_pow_cast]
 exact Za3 _
theorem Rp:OpR X (binaryOp .Add) (rI0 fun i j=>.int (i+j)):=Nz fun _ _ _ _ _ _ _ q=>add_int q
theorem g8:OpR X (binaryOp .Sub) (rI0 fun i j=>.int (i - j)):=Nz fun _ _ _ _ _ _ _ q=>sub_int q
theorem Rq:OpR X (binaryOp .Mult) (rI Fl fun i j=>.int (i * j)):=opI fun _ _ _ _ _ _ _ hc q=>mul_int q hc.ok
theorem uK:OpR X (binaryOp .FloorDiv) (rI Ro fun i j=>.int (i / j)):=opI fun i j _ _ _ _ _ hc q=>by
 have h1:(0:Int) < j:=hc.1
 have h2:j < 1073741824:=hc.2
 exact floordiv_int (by omega) (by rw [Int.fdiv_eq_ediv_of_nonneg i (by omega)];exact q) (.inl (PyProof.noPylong_small (by omega)))
theorem gn:OpR X (binaryOp .Mod) (rI (fun _ j=>0 < j) fun i j=>.int (i % j)):=opI fun i j _ _ _ _ _ hc q=>by
 have h1:(0:Int) < j:=hc
 exact mod_int' (by omega) (by rw [Int.fmod_eq_emod_of_nonneg i (by omega)];exact q)
theorem Rr:OpR X (binaryOp .Pow) (rI J6 fun i j=>.int (i ^ j.toNat)):=opI fun _ _ _ _ _ _ _ hc q=>pow_int_small hc.1 hc.2.1 hc.2.2 q
theorem tK:OpR X (binaryOp .LShift) (rI J6 fun i j=>.int (i * 2 ^ j.toNat)):=opI fun _ _ _ _ _ _ _ hc q=>lshift_int_small hc.1 hc.2.1 hc.2.2 q
theorem p8:OpR X (binaryOp .RShift) (rI (fun _ j=>0≤j) fun i j=>.int (i / 2 ^ j.toNat)):=opI fun i j _ _ _ _ _ hc q =>
 rshift_int hc (by rw [Int.fdiv_eq_ediv_of_nonneg i (Fo _)];exact q)
theorem ju:OpR X (binaryOp .BitAnd) (rI0 fun i j=>.int (Builtin.bitAnd i j)):=Nz fun _ _ _ _ _ _ _ q=>and_int q
theorem J7:OpR X (binaryOp .BitOr) (rI0 fun i j=>.int (Builtin.bitOr i j)):=Nz fun _ _ _ _ _ _ _ q=>or_int q
theorem unI {f:Value->Sem Value}{g:Int->Int}
  (rule:∀ (i:Int) (t:Tok) (s:Shared) (Q:Value->Shared->Prop) (E:Value->Shared->Prop),Q (.int (g i) s.toks) { s with toks:=s.toks+1 }->wpAny (model X.prog X.w) X.A (f (.int i t)) Q E s) :
  UnR X f (rU fun i=>.int (g i)):=by
 intro pins s σ H x v Q I rx h
 obtain ⟨i,rfl,q⟩:=h
 obtain ⟨t,rfl⟩:=rx
 exact rule i t s _ _ ⟨.int (g i),H,I.tok _,⟨_,rfl⟩,q⟩
theorem Rt:UnR X (unaryOp .USub) (rU fun i=>.int (-i)):=unI fun _ _ _ _ _ q=>neg_int q
end
section
variable {X:Cx}{a b c:Expr}{ta tb tc:TE}{pos:Pos}
theorem Fp {pins:List (Addr×Obj)}{σ:St}{H:Hp}{s:Shared}{Q:VK}{k k':Bool} (I:Inv X pins σ H s) (q:Q (.bl k) H) (e:k=k'):EP X pins σ Q (.bool k') s:=by
 subst e
 exact ⟨.bl k,H,I,rfl,q⟩
theorem TY:OpR X (compareOp .Lt) (rI0 fun i j=>.bl (decide (i < j))):=Rm fun _ _ _ _ _ _ _ q=>lt_int q
theorem BW:OpR X (compareOp .Gt) (rI0 fun i j=>.bl (decide (j < i))):=Rm fun _ _ _ _ _ _ _ q=>gt_int q
theorem T3:OpR X (compareOp .GtE) (rI0 fun i j=>.bl (decide (j≤i))):=Rm fun _ _ _ _ _ _ _ q=>ge_int q
theorem Iz:OpR X (compareOp .Lt) (fun x y H Q=>∃ i j,x=.str i∧y=.str j∧Q (.bl (decide (i.cps.toList < j.cps.toList))) H):=by
 intro pins s σ H x y v u Q I rx ry h
 obtain ⟨i,j,rfl,rfl,q⟩:=h
 obtain ⟨t,rfl⟩:=rx
 obtain ⟨t',rfl⟩:=ry
 exact lt_str (Fp I q rfl)
theorem NB:OpR X (compareOp .IsNot) (fun x y H Q=>y=.non∧Q (.bl (!decide (x=.non))) H):=by
 intro pins s σ H x y v u Q I rx ry h
 obtain ⟨rfl,q⟩:=h
 cases ry
 refine isnot_none_gen (Fp I q ?_)
 cases x <;> first
  | (cases rx;rfl)
  | (obtain ⟨t,rfl⟩:=rx;rfl)
theorem zH:OpR X (compareOp .NotIn) (fun x y H Q=>∃ i j,x=.str i∧y=.str j∧Q (.bl (!(!(Builtin.Str.occurrences j i 0 j.length 1).isEmpty))) H):=by
 intro pins s σ H x y v u Q I rx ry h
 obtain ⟨i,j,rfl,rfl,q⟩:=h
 obtain ⟨t,rfl⟩:=rx
 obtain ⟨t',rfl⟩:=ry
 exact notIn_str (Fp I q rfl)
theorem OpR.or {f:Value->Value->Sem Value}{r r':R2} (h:OpR X f r) (h':OpR X f r'):OpR X f (fun x y H Q=>r x y H Q∨r' x y H Q):=by
 intro pins s σ H x y v u Q I rx ry q
 rcases q with q | q
 ·exact h pins s σ H x y v u Q I rx ry q
 ·exact h' pins s σ H x y v u Q I rx ry q
theorem bY (b:Expr) {op:CmpOp} (h:op≠.In:=by decide) (h2:op≠.NotIn:=by decide):behindInMarks op b=false:=by
 have e1:(op == CmpOp.In)=false:=by cases op <;> first | rfl | exact absurd rfl h
 have e2:(op == CmpOp.NotIn)=false:=by cases op <;> first | rfl | exact absurd rfl h2
 cases b <;> simp [behindInMarks,e1,e2]
theorem NK {op:CmpOp}{r:R2} (ho:OpR X (compareOp op) r) (ha:PE X a ta) (hb:PE X b tb) (hm:behindInMarks op b=false):PE X (.Compare a [op] [b] pos) (tOp r ta tb):=by
 intro pins s σ H Q I h
 exact wpAny_Compare1 (Rj ha hb I h fun v u s2 x y H2 I2 rx ry q=>ho pins s2 σ H2 x y v u Q I2 rx ry q) hm
def Qw (t:TE):TT:=fun σ H Q=>t σ H fun x H'=>∃ k,x=.bl k∧Q k H'
theorem bu {op:CmpOp}{r:R2} (ho:OpR X (compareOp op) r) (ha:PE X a ta) (hb:PE X b tb) (hm:behindInMarks op b=false):PT X (.Compare a [op] [b] pos) (Qw (tOp r ta tb)):=by
 intro pins s σ H Q I h
 refine wpAny_isTrue_Compare1 (thn (ha pins s σ H _ I h) fun v s1 ⟨x,H1,I1,r1,q1⟩=>thn (hb pins s1 σ H1 _ I1 q1) fun u s2 ⟨y,H2,I2,r2,q2⟩ =>
  thn (ho pins s2 σ H2 x y v u _ I2 r1 r2 q2) fun c s3 ⟨z,H3,I3,r3,k,e,q3⟩=>?_) hm
 subst e
 cases r3
 exact wpAny_truthy_bool ⟨H3,I3,q3⟩
theorem zJ:(sizeLine:Nat) < 2 ^ 63:=by rw [sizeLine_eq];decide
theorem Fq:OpR X (binaryOp .Add) (fun x y H Q=>∃ i j,x=.str i∧y=.str j∧i.length+j.length≤sizeLine∧Q (.str (i++j)) H):=by
 intro pins s σ H x y v u Q I rx ry h
 obtain ⟨i,j,rfl,rfl,hz,q⟩:=h
 obtain ⟨t,rfl⟩:=rx
 obtain ⟨t',rfl⟩:=ry
 exact add_str (fun t' tk=>⟨.str (i++j),H,I.tok _,⟨_,rfl⟩,q⟩) hz
theorem vals1 {x:V}{us:List Value} (r:Vals [x] us):∃ u,us=[u]∧RelV x u:=by
 cases r with
 | cons r1 r2=>cases r2;exact ⟨_,rfl,r1⟩
theorem vals2 {x y:V}{us:List Value} (r:Vals [x,y] us):∃ u w',us=[u,w']∧RelV x u∧RelV y w':=by
 cases r with
 | cons r1 r2 =>
  cases r2 with
  | cons r3 r4=>cases r4;exact ⟨_,_,rfl,r1,r3⟩
theorem IK (hc:X.calm=true):pI X (.builtin "max") (fun xs H Q=>∃ i j,xs=[.int i,.int j]∧Q (.int (if j > i then j else i)) H):=by
 intro pins s σ H xs us Q I r h
 obtain ⟨i,j,rfl,q⟩:=h
 obtain ⟨u,w',rfl,⟨t,rfl⟩,⟨t',rfl⟩⟩:=vals2 r
 refine max_two_ints (I.ok.hd hc) fun h' tk k=>⟨_,H,I.kept k,?_,q⟩
 by_cases hj:j > i
 ·rw [if_pos hj,if_pos hj];exact ⟨_,rfl⟩
 ·rw [if_neg hj,if_neg hj];exact ⟨_,rfl⟩
theorem IV (hc:X.calm=true):pI X (.builtin "min") (fun xs H Q=>∃ i j,xs=[.int i,.int j]∧Q (.int (if j < i then j else i)) H):=by
 intro pins s σ H xs us Q I r h
 obtain ⟨i,j,rfl,q⟩:=h
 obtain ⟨u,w',rfl,⟨t,rfl⟩,⟨t',rfl⟩⟩:=vals2 r
 refine min_two_ints (I.ok.hd hc) fun h' tk k=>⟨_,H,I.kept k,?_,q⟩
 by_cases hj:j < i
 ·rw [if_pos hj,if_pos hj];exact ⟨_,rfl⟩
 ·rw [if_neg hj,if_neg hj];exact ⟨_,rfl⟩
def T4 (K:PySem.W.Frag) (x:V) (H:Hp) (n:Nat):Prop :=
 match x with
 | .str y=>y.length≤sizeLine∧n=y.length
 | .byt y=>y.size≤sizeLine∧n=y.size
 | .ref p=>(∃ xs,SqL K H p xs∧n=xs.length)∨∃ xs,SqT K H p xs∧n=xs.length
 | _=>False
theorem jw:pI X (.builtin "len") (fun xs H Q=>∃ x n,xs=[x]∧T4 X.K x H n∧Q (.int n) H):=by
 intro pins s σ H xs us Q I r h
 obtain ⟨x,n,rfl,e,q⟩:=h
 obtain ⟨u,rfl,rx⟩:=vals1 r
 have hl:=zJ
 have hs:sizeLine=16777216:=sizeLine_eq
 cases x with
 | str y =>
  obtain ⟨t,rfl⟩:=rx
  obtain ⟨hy,e'⟩:y.length≤sizeLine∧n=y.length:=e
  subst e'
  exact len_str (by lia) ⟨.int _,H,I.tok _,⟨_,rfl⟩,q⟩
 | byt y =>
  obtain ⟨t,rfl⟩:=rx
  obtain ⟨hy,e'⟩:y.size≤sizeLine∧n=y.size:=e
  subst e'
  exact PySem.W.len_bytes (by lia) ⟨.int _,H,I.tok _,⟨_,rfl⟩,q⟩
 | ref p =>
  cases rx
  have e':(∃ xs,SqL X.K H p xs∧n=xs.length)∨∃ xs,SqT X.K H p xs∧n=xs.length:=e
  rcases e' with ⟨xs,hx,e'⟩ | ⟨xs,hx,e'⟩
  ·subst e'
   obtain ⟨its,r',pl,hz⟩:=I.list hx
   have hlen:=r'.length
   exact Calls.call_len_list pl.isList (by simp only [List.size_toArray];lia) ⟨.int xs.length,H,I.tok _,⟨_,by simp only [List.size_toArray];rw [hlen]⟩,q⟩
  ·subst e'
   obtain ⟨its,r',pl,hz⟩:=I.tuple hx
   have hlen:=r'.length
   exact len_tuple pl (by simp only [List.size_toArray];lia) ⟨.int xs.length,H,I.tok _,⟨_,by simp only [List.size_toArray];rw [hlen]⟩,q⟩
 | _=>exact (show False from e).elim
end
structure Vq (h:Heap) (x dx C:Addr) (mA:Str->Option Value):Prop where
 obj:h.get? x=some (PySem.W.instObj C dx)
 ns:h.Ns1 dx mA
 ne:dx≠x
section
variable {prog:Program}{w:World}{A:Around}{E:Value->Shared->Prop}{s:Shared}{K:PySem.W.Frag}{x dx C f:Addr}{mA:Str->Option Value}{name:Str}{v:Value}
end
theorem uA.some_of {v:V}{o:Option Value} (r:uA (some v) o):∃ u,o=some u∧RelV v u:=by
 cases o with
 | none=>exact (show False from r).elim
 | some u=>exact ⟨u,rfl,r⟩
section
variable {P:Program}{w:World}{H H':Hp}{h h':Heap}{a C dx:Addr}{fs fs':List (Str×V)}
end
structure Cls (K:PySem.W.Frag) (C:Addr):Prop where
 pg:PySem.W.plainGet K C Str.empty=true
 hd:PySem.W.hasDictIn K C=true
 po:PySem.W.plainOver K C=true
 sa:PySem.W.findIn K (.ref C) "__setattr__"=some (some (.builtin "object.__setattr__"))
structure Con (K:PySem.W.Frag) (C:Addr) (f:Str) (v:V) (u:Value):Prop where
 at_:PySem.W.findIn K (.ref C) f=some (some u)
 rel:RelV v u
 get:PySem.W.specialIn K u "__get__"=some none
 cp:PySem.W.copiedNames.contains f=false
structure Meth (K:PySem.W.Frag) (C:Addr) (m:Str) (f:Addr):Prop where
 at_:PySem.W.findIn K (.ref C) m=some (some (.ref f))
 fn:PySem.W.isFn K (.ref f)=true
 kp:keepIn K (.ref f)=true
section
variable {X:Cx}{pins:List (Addr×Obj)}{σ:St}{H:Hp}{s:Shared}{a C dx:Addr}{fs:List (Str×V)}{f:Str}{v:V}{A:Around}{E:Value->Shared->Prop}
end
section
variable {X:Cx}{o e value:Expr}{f:Str}{pos pos' tpos:Pos}{ta tv:TE}
end
section
variable {X:Cx}{pins:List (Addr×Obj)}{σ:St}{H:Hp}{s:Shared}{A:Around}{E:Value->Shared->Prop}{Q:Value->Shared->Prop}{c:Value}{b:Bool}
inductive vC (K:PySem.W.Frag) (H:Hp):V->Value->Prop where
 | non:vC K H .non (.type "NoneType")
 | bl (x:Bool):vC K H (.bl x) (.type "bool")
 | int (i:Int):vC K H (.int i) (.type "int")
 | str (x:Str):vC K H (.str x) (.type "str")
 | flt (x:UInt64):vC K H (.flt x) (.type "float")
 | lst {a:Addr}{xs:List V} (e:H a=some (.lst xs)):vC K H (.ref a) (.type "list")
 | frz {a:Addr}{o:Obj}{xs:List V} (e:H a=some (.frz o (.lst xs))):vC K H (.ref a) (.type "list")
 | tup {a:Addr}{xs:List V} (e:H a=some (.tup xs)):vC K H (.ref a) (.type "tuple")
 | dK {a:Addr}{kvs:List (Key×V)} (e:H a=some (.dK kvs)):vC K H (.ref a) (.type "dict")
 | dT {a:Addr}{kvs:List (List Key×V)} (e:H a=some (.dT kvs)):vC K H (.ref a) (.type "dict")
 | ins {a C dx:Addr}{fs:List (Str×V)} (e:H a=some (.ins C dx fs)) (cl:Cls K C) (ha:PySem.W.findIn K (.ref C) "__class__"=some (some (.builtin "object.__class__")))
   (hn:PySem.W.specialIn K (.builtin "object.__class__") "__get__"=some (some (.builtin "getset_descriptor.__get__"))) (htk:PySem.W.takesIn K (.builtin "object.__class__")=some true)
   (hm:PySem.W.mroIn K C (.type "object")=some true):vC K H (.ref a) (.ref C)
end
structure fM (k:Nat) (A:Around):Prop where
 hd:A.handled=none
 dp:A.depth+3 * k+5 < recursionLimit
 un:A.units+16 * k+200 < cLine
theorem fM.mono {j k:Nat}{A:Around} (r:fM k A) (h:j≤k):fM j A:=⟨r.hd,by have:=r.dp;lia,by have:=r.un;lia⟩
theorem fM.deeper {k:Nat}{A:Around} (r:fM (k+1) A) (env:Env):fM k (A.deeper env) :=
 ⟨r.hd,by have:=r.dp;show A.depth+1+3 * k+5 < _;lia,by have:=r.un;show A.units+3+16 * k+200 < _;lia⟩
theorem fM.depth {k:Nat}{A:Around} (r:fM k A):A.depth < recursionLimit:=by have:=r.dp;omega
theorem fM.units {k:Nat}{A:Around} (r:fM k A):A.units+64 < cLine:=by have:=r.un;omega
def xW:TA:=fun _ H Q=>Q [] H
def kE (ta:TE) (tr:TA):TA:=fun σ H Q=>ta σ H fun x H1=>tr σ H1 fun xs H2=>Q (x::xs) H2
section
variable {X:Cx}{e:Expr}{es:List Expr}{te:TE}{t:TA}{pos:Pos}
theorem aO:PA X [] xW:=fun _ _ _ _ H Q I h=>Calls.spliced_nil ⟨[],H,I,.nil,h⟩
theorem ak (ha:PE X e te) (hr:PA X es t) (hs:starEach (e::es) X.env=(false,eval e X.env)::starEach es X.env:=by rfl):PA X (e::es) (kE te t):=by
 intro pos pins s σ H Q I h
 rw [hs]
 show wpAny _ _ (spliced ((false,eval e X.env)::backTo pos (starEach es X.env))) _ _ s
 refine Calls.spliced_cons (thn (ha pins s σ H _ I h) ?_)
 rintro u s1 ⟨x,H1,I1,r1,q1⟩
 exact thn (hr pos pins s1 σ H1 _ I1 q1) fun us s2 ⟨xs,H2,I2,r2,q2⟩=>⟨x::xs,H2,I2,.cons r1 r2,q2⟩
def Ru (t:TA):TE:=fun σ H Q=>t σ H fun xs H1=>xs.length≤sizeLine∧∀ p,H1 p=none->Q (.ref p) (upd H1 p (.tup xs))
def Rv (t:TA):TE:=fun σ H Q=>t σ H fun xs H1=>xs.length≤sizeLine∧∀ p,H1 p=none->Q (.ref p) (upd H1 p (.lst xs))
theorem fZ {x1} (h:PA X es t):PE X (.Tuple es x1 pos) (Ru t):=by
 intro pins s σ H Q I hq
 refine wpAny_Tuple_spliced (thn (h pos pins s σ H _ I hq) fun us s1 ⟨xs,H1,I1,r,z,q⟩=>⟨by rw [←r.length];exact z,?_⟩)
 have hf:H1 s1.heap.objs.size=none:=I1.hok.fresh (Zaf _)
 refine ⟨.ref s1.heap.objs.size,upd H1 s1.heap.objs.size (.tup xs),I1.laid (t':=s1.toks) (fun b u e=>Zac _ e) (Zaf _) ?_,rfl,q _ hf⟩
 exact ⟨z,us,r,fY.mk (Zal _ rfl)⟩
theorem nC (h:PA X es t):PE X (.List es pos) (Rv t):=by
 intro pins s σ H Q I hq
 refine wpAny_List_spliced (thn (h pos pins s σ H _ I hq) fun us s1 ⟨xs,H1,I1,r,z,q⟩=>⟨by rw [←r.length];exact z,?_⟩)
 have hf:H1 s1.heap.objs.size=none:=I1.hok.fresh (Zaf _)
 refine ⟨.ref s1.heap.objs.size,upd H1 s1.heap.objs.size (.lst xs),I1.laid (t':=s1.toks) (fun b u e=>Zac _ e) (Zaf _) ?_,rfl,q _ hf⟩
 exact ⟨z,us,0,r,Zal _ rfl⟩
end
noncomputable abbrev Sp:=List V->Hp->VK->XK->Prop
noncomputable abbrev CXT:=List Env->Hp->Shared->XK->Value->Shared->Prop
structure NP (P:Program) (w:World) (K:PySem.W.Frag) (mg:Str->Option Value) (base:Heap) (A:Around) (outer:List Env) (s:Shared) (H:Hp):Prop where
 frames:A.frames=some outer
 mod:Mod K mg base
 bs:∀ b o,base.get? b=some o->s.heap.get? b=some o∧H b=none
 bsz:base.objs.size≤s.heap.objs.size
 uB:s.heap.FunFrames base outer
 frf:∀ b∈frs outer,H b=none
 hok:HOk P w H s.heap
 bare:AllBare s.gens
def CE (outer:List Env) (P:Program) (w:World) (H:Hp) (s:Shared) (Q:VK) (u:Value) (s':Shared):Prop :=
 ∃ v H',s'.os=s.os∧AllBare s'.gens∧Un (frs outer) [] H H' s.heap s'.heap∧HOk P w H' s'.heap∧RelV v u∧Q v H'
def CR (CX:CXT) (outer:List Env) (P:Program) (w:World) (H:Hp) (s:Shared) (Q:VK) (E:XK) (r:Result) (s':Shared):Prop :=
 match r with
 | .ok (.ret u)=>CE outer P w H s Q u s'
 | .ok _=>False
 | .error e=>CX outer H s E e s'
structure xX (P:Program) (w:World) (K:PySem.W.Frag) (mg:Str->Option Value) (base:Heap) (CX:CXT) (k:Nat) (f:Addr) (fd:FuncData) (ps:List Str) (sp:Sp):Prop where
 len:∀ vs H Q E,sp vs H Q E->vs.length=ps.length
 run:∀ (A:Around) (outer:List Env) (s:Shared) (H:Hp) (args:Args) (us:List Value) (vs:List V) (Q:VK) (E:XK),fM k A->NP P w K mg base A outer s H->BindsTo s fd args (ps.zip us)->Vals vs us->sp vs H Q E ->
  codeAny (model P w) A (.call (.ref f) args) (CR CX outer P w H s Q E) s
section
variable {X:Cx}{pins:List (Addr×Obj)}{σ:St}{H:Hp}{s s':Shared}
theorem Inv.env0 (I:Inv X pins σ H s):NP X.prog X.w X.K X.mg X.base X.A X.stack s H :=
 ⟨I.ok.frames,I.ok.mod,I.bs,ZaA I.ok.bsz I.sz,I.stack,I.Gy,I.hok,I.bare⟩
theorem Inv.after {Q:VK}{u:Value} (I:Inv X pins σ H s) (h:CE X.stack X.prog X.w H s Q u s'):EP X pins σ Q u s':=by
 obtain ⟨v,H',os,bare,un,hok,r,q⟩:=h
 obtain ⟨hh,g,d,t,os'⟩:=s'
 obtain rfl:os'=s.os:=os
 exact ⟨v,H',I.call (h':=hh) (g':=g) (d':=d) (t':=t) (ch:=[]) un hok bare (fun b z=>absurd z (by simp)),r,q⟩
end
def vD (sp:Sp) (dvs:List V) (E:XK) (t:TA):TE:=fun σ H Q=>t σ H fun vs H1=>sp (vs++dvs) H1 Q E
def Binds (K:PySem.W.Frag) (fd:FuncData) (ps:List Str) (ds:List Value):Prop :=
 ∀ (s:Shared) (us:List Value),K.In s.heap->(us++ds).length=ps.length->BindsTo s fd ⟨us,[]⟩ (ps.zip (us++ds))
theorem Binds.all {K:PySem.W.Frag}{fd:FuncData}{ps:List Str} (h:∀ us:List Value,us.length=ps.length->bindArgs fd ⟨us,[]⟩=pure (ps.zip us)):Binds K fd ps []:=fun s us _ hl=>by
 rw [Za8] at hl ⊢
 exact .of_eq (h us hl)
def Ft (CX:CXT) (X:Cx) (E:XK):Prop:=∀ (pins:List (Addr×Obj)) (σ:St) (H:Hp) (s:Shared) (e:Value) (s':Shared),Inv X pins σ H s->CX X.stack H s E e s'->X.xe e s'
section
variable {X:Cx}{CX:CXT}{k:Nat}{f C:Addr}{fd:FuncData}{ps:List Str}{sp:Sp}{dvs:List V}{ds:List Value}{E:XK}{x m:Str}{p pos apos:Pos}{e o:Expr}{es:List Expr}{ta:TE}{t:TA}
theorem Rw {pins:List (Addr×Obj)}{σ:St}{H:Hp}{s:Shared}{Q:VK}{us:List Value}{vs:List V} (F:xX X.prog X.w X.K X.mg X.base CX k f fd ps sp) (hr:fM k X.A) (hb:Binds X.K fd ps ds) (hd:Vals dvs ds) (hx:Ft CX X E)
  (I:Inv X pins σ H s) (r:Vals vs us) (h:sp (vs++dvs) H Q E):wpAny (model X.prog X.w) X.A (call (.ref f) us) (EP X pins σ Q) X.xe s:=by
 have r2:Vals (vs++dvs) (us++ds):=r.append hd
 have hl:(us++ds).length=ps.length:=by rw [←r2.length];exact F.len _ _ _ _ h
 refine wpAny_call (codeAny_mono (F.run X.A X.stack s H ⟨us,[]⟩ (us++ds) (vs++dvs) Q E hr I.env0 (hb s us I.kIn hl) r2 h) fun r s' hq=>?_)
 cases r with
 | error e=>exact hx pins σ H s e s' I hq
 | ok fl =>
  cases fl with
  | ret u=>exact I.after hq
  | next=>exact False.elim hq
  | brk=>exact False.elim hq
  | cont=>exact False.elim hq
theorem NQ (F:xX X.prog X.w X.K X.mg X.base CX k f fd ps sp) (hr:fM k X.A) (hg:Gl X x) (hm:X.mg x=some (.ref f)) (hk:keepIn X.K (.ref f)=true) (hb:Binds X.K fd ps ds) (hd:Vals dvs ds) (hx:Ft CX X E)
  (ha:PA X (e::es) t) (hdb:(x == ("__debug__":Str))=false:=by decide) (he:starEach (e::es) X.env=(false,eval e X.env)::starEach es X.env:=by rfl) (hpl:(backTo pos (starEach es X.env)).any (·.1)=false:=by rfl) :
  PE X (.Call (.Name x p) (e::es) [] pos) (vD sp dvs E t):=by
 intro pins s σ H Q I h
 refine wpAny_Call_Name_kw (GF I hg hm ?_ hdb)
 refine PySem.W.callWith_K (h₀:=X.base) I.ok.mod.kin hk (thn (ha pos pins s σ H _ I h) fun us s1 ⟨vs,H1,I1,r,q⟩=>⟨I1.kIn,?_⟩) he hpl
 exact Rw F hr hb hd hx I1 r q
structure Mk (K:PySem.W.Frag) (C f:Addr):Prop where
 makes:PySem.W.makesIn K C=true
 init:PySem.W.findIn K (.ref C) "__init__"=some (some (.ref f))
 fn:PySem.W.isFn K (.ref f)=true
 kp:keepIn K (.ref C)=true
end
section
variable {X:Cx}{CX:CXT}{k:Nat}{f C:Addr}{fd:FuncData}{ps ks:List Str}{sp:Sp}{E:XK}{x m:Str}{p pos apos kpos:Pos}{e o:Expr}{es:List Expr}{kws:List Keyword}{te ta:TE}{t tk:TA}{nm:Option Str}
structure Vd (K:PySem.W.Frag) (fd:FuncData) (ps ks:List Str) (g:List Value->List Value->List Value) (gV:List V->List V->List V):Prop where
 to:∀ (s:Shared) (us ws:List Value),K.In s.heap->(g us ws).length=ps.length->BindsTo s fd ⟨us,ks.zip ws⟩ (ps.zip (g us ws))
 rel:∀ {vs:List V}{us:List Value}{zs:List V}{ws:List Value},Vals vs us->Vals zs ws->Vals (gV vs zs) (g us ws)
variable {g:List Value->List Value->List Value}{gV:List V->List V->List V}
end
structure bH (N P:List Str) (sc:Scope):Prop where
 kind:sc.kind=.function
 co:sc.isCoroutine=false
 gen:sc.isGenerator=false
 nd:N.Nodup
 pre:N.take P.length=P
 par:∀ x∈P,sc.names.lookup x=some .local∨sc.names.lookup x=some .cell
 nofree:∀ y∈sc.names,y.2≠.free
theorem yp {kindOf:Str->Option NameKind}{x:Str}:∀ {binds:List (Str×Value)}{m:Str->Option Value},(∀ v,(x,v) ∉ binds)->bindL kindOf binds m x=m x
 | [],_,_=>rfl
 | (n,v)::r,m,h=>by
  unfold bindL
  rw [yp fun w hw=>h w (List.mem_cons_of_mem _ hw)]
  split
  ·have:x≠n:=by rintro rfl;exact h v List.mem_cons_self
   simp [this]
  ·rfl
theorem yr {kindOf:Str->Option NameKind}{x:Str}:∀ {binds:List (Str×Value)}{m:Str->Option Value},(∀ v,(x,v) ∉ binds)->bindC kindOf binds m x=m x
 | [],_,_=>rfl
 | (n,v)::r,m,h=>by
  unfold bindC
  rw [yr fun w hw=>h w (List.mem_cons_of_mem _ hw)]
  split
  ·rfl
  ·have:x≠n:=by rintro rfl;exact h v List.mem_cons_self
   simp [this]
theorem yt {kindOf:Str->Option NameKind}{x:Str}{v:Value}:∀ {P:List Str}{vs:List Value}{i:Nat}{m:Str->Option Value},P.Nodup->P[i]?=some x->vs[i]?=some v->kindOf x=some .local ->
  bindL kindOf (P.zip vs) m x=some v
 | [],_,_,_,_,h,_,_=>by simp at h
 | _::_,[],_,_,_,_,h,_=>by simp at h
 | p::P,w::vs,0,m,nd,h1,h2,hk=>by
  simp at h1 h2;subst h1;subst h2
  show bindL kindOf ((p,w)::P.zip vs) m p=_
  unfold bindL
  rw [yp fun v hv=>(Za9.mp nd).1 (List.of_mem_zip hv).1,if_pos hk]
  simp
 | p::P,w::vs,i+1,m,nd,h1,h2,hk=>by
  show bindL kindOf ((p,w)::P.zip vs) m x=_
  unfold bindL
  exact yt (i:=i) (Za9.mp nd).2 (by simpa using h1) (by simpa using h2) hk
theorem yu {kindOf:Str->Option NameKind}{x:Str}{v:Value}:∀ {P:List Str}{vs:List Value}{i:Nat}{m:Str->Option Value},P.Nodup->P[i]?=some x->vs[i]?=some v->kindOf x≠some .local ->
  bindC kindOf (P.zip vs) m x=some v
 | [],_,_,_,_,h,_,_=>by simp at h
 | _::_,[],_,_,_,_,h,_=>by simp at h
 | p::P,w::vs,0,m,nd,h1,h2,hk=>by
  simp at h1 h2;subst h1;subst h2
  show bindC kindOf ((p,w)::P.zip vs) m p=_
  unfold bindC
  rw [yr fun v hv=>(Za9.mp nd).1 (List.of_mem_zip hv).1,if_neg hk]
  simp
 | p::P,w::vs,i+1,m,nd,h1,h2,hk=>by
  show bindC kindOf ((p,w)::P.zip vs) m x=_
  unfold bindC
  exact yu (i:=i) (Za9.mp nd).2 (by simpa using h1) (by simpa using h2) hk
def start (N:List Str) (vs:List V):St:=vs.map some++List.replicate (N.length - vs.length) none
def Fv (CX:CXT) (P:Program) (w:World) (K:PySem.W.Frag) (mg:Str->Option Value) (base:Heap) (N:List Str) (qual:Str) (scope:Scope) (f:Addr) (cd:Value) (A:Around) (outer:List Env) (s:Shared) (H:Hp) (E:XK):Cx where
 prog:=P
 w:=w
 K:=K
 mg:=mg
 base:=base
 A:=A.deeper (envOfC qual scope s.heap.objs.size f cd)
 N:=N
 s₀:=s
 H₀:=H
 env:=envOfC qual scope s.heap.objs.size f cd
 outer:=outer
 stack:=envOfC qual scope s.heap.objs.size f cd::outer
 ex:=[]
 calm:=true
 fn:=fun _=>true
 pn:=[]
 xe:=fun e s'=>wpAny (model P w) (A.deeper (envOfC qual scope s.heap.objs.size f cd)) (leaving (envOfC qual scope s.heap.objs.size f cd) e) (fun _ s''=>CX outer H s E e s'') (fun e' s''=>CX outer H s E e' s'') s'
theorem BX {sc:Scope}{n:Nat}{x:Str} (h:sc.names.lookup x=some .cell):∃ c,(cellsFrom n sc.names []).lookup x=some c:=by
 have q:=PySem.W.cellsFrom_some sc.names n [] (.inl h)
 exact Option.isSome_iff_exists.mp q
theorem IW {CX:CXT}{P:Program}{w:World}{K:PySem.W.Frag}{mg:Str->Option Value}{base:Heap}{N ps:List Str}{qual:Str}{scope:Scope}{f:Addr}{cd:Value}{A:Around}{outer:List Env}{s s1:Shared}{H:Hp}{E:XK}{us:List Value}{vs:List V}
  (S:bH N ps scope) (hd:A.handled=none) (e0:NP P w K mg base A outer s H) (hl:vs.length=ps.length) (r:Vals vs us)
  (x:InCallC s s.heap.objs.size (bindL (envOfC qual scope s.heap.objs.size f cd).kindOf (ps.zip us) fun _=>none) (cellsFrom (s.heap.objs.size+1) scope.names []) (bindC (envOfC qual scope s.heap.objs.size f cd).kindOf (ps.zip us) fun _=>none) s1) :
  Inv (Fv CX P w K mg base N qual scope f cd A outer s H E) [] (start N vs) H s1:=by
 have hpl:ps.length≤N.length:=by have:=congrArg List.length S.pre;rw [List.length_take] at this;lia
 obtain ⟨h1,tk,rfl,hk⟩:=x.done
 have noA:∀ b:Addr,b ∉ (Fv CX P w K mg base N qual scope f cd A outer s H E).ex:=fun b z=>absurd (show b∈([]:List Addr) from z) (by simp)
 refine ⟨⟨e0.mod,S.kind,rfl,rfl,Zaf _,fun y z c h1 h2=>?_,fun y hy=>?_,fun y c _ h=>?_,fun _=>hd,Around.frames_deeper e0.frames,.inr ⟨rfl,rfl⟩,fun b z=>absurd z (noA b),e0.bs,e0.bsz,fun b _ _=>noA b,fun b z=>absurd z (noA b),e0.uB,e0.frf⟩,
  rfl,e0.bare,Un.kept hk,⟨_,x.toInCall.ns,fun i y v h1 h2 h3=>?_⟩,fun y c h=>⟨_,x.cell y c h⟩,e0.hok.fresh (Zaf _),fun y c h=>?_,fun p hp=>absurd (show p∈([]:List (Addr×Obj)) from hp) (by simp),e0.hok.kept hk,?_⟩
 ·exact name_of_addr x.apart (Zbv h1) (Zbv h2)
 ·have hy:scope.names.lookup y=some .cell∨scope.names.lookup y=some .free:=hy
  rcases hy with hy | hy
  ·exact BX hy
  ·exact absurd rfl (S.nofree _ (Zbv hy))
 ·exact ZaD (x.above y c (Zbv h))
 ·have hi:i < vs.length:=by
   unfold start at h2
   by_cases hi:i < vs.length
   ·exact hi
   ·rw [Zao (by simpa using hi)] at h2
    rw [Zbf] at h2
    split at h2 <;> cases h2
  have ha:vs[i]?=some v:=by
   unfold start at h2
   rw [Zah (by simpa using hi),List.getElem?_map] at h2
   cases e:vs[i]? with
   | none=>rw [e] at h2;cases h2
   | some a=>rw [e] at h2;cases h2;rfl
  obtain ⟨u,hu,rv⟩:=r.get ha
  have hp:ps[i]?=some y:=by
   rw [←S.pre,List.getElem?_take_of_lt (by lia)];exact h1
  have ndP:ps.Nodup:=by rw [←S.pre];exact S.nd.sublist (ZaJ _ _)
  refine ⟨u,rv,?_⟩
  rcases S.par y (Zag hp) with k | k
  ·exact .inl ⟨k,yt ndP hp hu k⟩
  ·obtain ⟨c,e⟩:=BX (n:=s.heap.objs.size+1) k
   refine .inr ⟨.inl k,c,e,?_⟩
   have q:=x.cell y c e
   rw [yu ndP hp hu (by show scope.names.lookup y≠_;rw [k];decide)] at q
   exact q
 ·exact e0.hok.fresh (ZaD (x.above y c (Zbv h)))
 ·unfold start
  show _=N.length
  rw [List.length_append,List.length_map,List.length_replicate]
  lia
theorem T8 {CX:CXT}{P:Program}{w:World}{K:PySem.W.Frag}{mg:Str->Option Value}{base:Heap}{k:Nat}{f:Addr}{name qual:Str}{params:Arguments}{body:List Stmt}{scope:Scope}{dV kV doc pm cdv ct oc:Value}{an od:Option Addr}
  {osl:Array (Option Value)}{N ps:List Str}{sp:Sp} (lk:K.lookup f=some ⟨oc,od,.func (fnOf name qual params body scope dV kV doc pm an cdv ct),osl⟩) (hcd:codeIn K cdv qual=true) (S:bH N ps scope)
  (len:∀ vs H Q E,sp vs H Q E->vs.length=ps.length)
  (hbody:∀ (A:Around) (outer:List Env) (s:Shared) (H:Hp) (vs:List V) (Q:VK) (E:XK),fM k (A.deeper (envOfC qual scope s.heap.objs.size f cdv))->sp vs H Q E ->
   ∃ t,PSs (Fv CX P w K mg base N qual scope f cdv A outer s H E) body t∧t { nx:=fun _ H'=>Q .non H',rt:=Q } (start N vs) H) :
  xX P w K mg base CX (k+1) f (fnOf name qual params body scope dV kV doc pm an cdv ct) ps sp:=by
 refine ⟨len,fun A outer s H args us vs Q E hr e0 hb r hsp=>?_⟩
 have hl:=len _ _ _ _ hsp
 have KX:K.In s.heap:=e0.mod.kin.keeps fun b o e=>(e0.bs b o e).1
 have lim:s.heap.NoLimit:=e0.mod.nolimit.keeps fun b o e=>(e0.bs b o e).1
 have hkind:∀ y∈ps.zip us,scope.names.lookup y.1=some .local∨(scope.names.lookup y.1=some .cell∧((cellsFrom (s.heap.objs.size+1) scope.names []).lookup y.1).isSome=true):=fun ⟨n,v⟩ hy=>by
  rcases S.par n (List.of_mem_zip hy).1 with q | q
  ·exact .inl q
  ·exact .inr ⟨q,PySem.W.cellsFrom_some _ _ _ (.inl q)⟩
 refine codeAny_call_function hr.depth (KX _ _ lk) rfl S.co S.gen rfl (PySem.W.codeRec_of KX hcd) (hb _ _ _ _ ?_)
 refine wpAny_newFunctionEnv_cells S.kind hkind fun env he s1 x=>?_
 subst he
 refine ⟨lim.keeps x.toInCall.keep,codeAny_func ?_⟩
 obtain ⟨t,ht,hq⟩:=hbody A outer s H vs Q E (hr.deeper _) hsp
 have I:Inv (Fv CX P w K mg base N qual scope f cdv A outer s H E) [] (start N vs) H s1:=IW S hr.hd e0 hl r x
 refine wpAny_mono (ht [] s1 (start N vs) H _ I hq) (fun fl s' hs=>?_) fun e s' hs=>hs
 have fin:∀ {σ':St}{H':Hp}{v:V}{u:Value},Inv (Fv CX P w K mg base N qual scope f cdv A outer s H E) [] σ' H' s'->RelV v u->Q v H'->CE outer P w H s Q u s' :=
  fun {σ' H' v u} J rv q=>⟨v,H',J.os,J.bare,J.base,J.hok,rv,q⟩
 cases fl with
 | ret u =>
  obtain ⟨v,σ',H',J,rv,q⟩:=hs
  exact fin J rv q
 | next =>
  obtain ⟨σ',H',J,q⟩:=hs
  exact fin (v:=V.non) (u:=Value.none) J rfl q
 | brk =>
  obtain ⟨_,_,_,q⟩:=hs
  exact False.elim q
 | cont =>
  obtain ⟨_,_,_,q⟩:=hs
  exact False.elim q
section
variable {X:Cx}{x:Str}{p pos:Pos}{e:Expr}{es:List Expr}{t:TA}{id T:String}{r:List V->Hp->VK->Prop}
def tCB (r:List V->Hp->VK->Prop) (t:TA):TE:=fun σ H Q=>t σ H fun vs H1=>r vs H1 Q
theorem dX (hc:pI X (.builtin id) r) (hg:Gl X x) (hm:X.mg x=none) (hv:bootBuiltins x=some (.builtin id)) (ha:PA X (e::es) t) (hn:x≠"__name__":=by decide) (hdb:(x == ("__debug__":Str))=false:=by decide)
  (he:starEach (e::es) X.env=(false,eval e X.env)::starEach es X.env:=by rfl) (hpl:(backTo pos (starEach es X.env)).any (·.1)=false:=by rfl):PE X (.Call (.Name x p) (e::es) [] pos) (tCB r t):=by
 intro pins s σ H Q I h
 refine wpAny_Call_Name_kw (tH I hg hm hv ?_ hn hdb)
 exact PyProof.Rows.callWith_builtin1 (thn (ha pos pins s σ H _ I h) fun us s1 ⟨vs,H1,I1,r1,q1⟩=>hc pins s1 σ H1 vs us Q I1 r1 q1) he hpl
theorem yw (hc:pI X (.type T) r) (hg:Gl X x) (hm:X.mg x=none) (hv:bootBuiltins x=some (.type T)) (ha:PA X (e::es) t) (hn:x≠"__name__":=by decide) (hdb:(x == ("__debug__":Str))=false:=by decide)
  (he:starEach (e::es) X.env=(false,eval e X.env)::starEach es X.env:=by rfl) (hpl:(backTo pos (starEach es X.env)).any (·.1)=false:=by rfl):PE X (.Call (.Name x p) (e::es) [] pos) (tCB r t):=by
 intro pins s σ H Q I h
 refine wpAny_Call_Name_kw (tH I hg hm hv ?_ hn hdb)
 exact Zbe (thn (ha pos pins s σ H _ I h) fun us s1 ⟨vs,H1,I1,r1,q1⟩=>hc pins s1 σ H1 vs us Q I1 r1 q1) he hpl
end
end L2
namespace HT
open PySem PyProof.Rows
section
open PySem.SeqAt
open PySem.AutoSeq1 (wpAny_loadPart')
open PySem.MeetsSeq PySem.MeetsSeq2 PySem.MeetsSeq3
end
section
variable {prog:Program}{w:World}{A:Around}{E:Value->Shared->Prop}{s:Shared}
theorem NT {t b:Addr}{vs ws:List Value}{Q:Value->Shared->Prop} (ht:IsTup s.heap t vs.toArray) (hb:IsTup s.heap b ws.toArray) (hv:vs≠[])
  (h1:ws=[]->Q (.ref t) s) (h2:ws≠[]->Q (.ref s.heap.objs.size) { s with heap:=s.heap.push { cls:=.type "tuple",data:=.seq (vs++ws).toArray } })
  (hsz:vs.length+ws.length≤sizeLine):wpAny (model prog w) A (binaryOp .Add (.ref t) (.ref b)) Q E s:=by
 obtain ⟨⟨cls,dd,data,sl⟩,ho,hc,n,hd⟩:=id ht
 obtain ⟨⟨cls2,dd2,data2,sl2⟩,ho2,hc2,n2,hd2⟩:=id hb
 simp only at hc hd hc2 hd2
 subst hc hd hc2 hd2
 have e:vs.toArray++ws.toArray=(vs++ws).toArray:=by simp
 by_cases hw:ws=[]
 ·exact concat_meets ⟨_,ho,rfl⟩ ⟨_,ho2,rfl⟩ noFill_tuple_add seq_tuple_add PySem.F.slot_tuple_add PySem.F.entry_tuple_add (PySem.F.args_tuple_add_2 _ _)
   (tuple_addW1 t b vs.toArray ws.toArray n n2 dd dd2 sl sl2 (by simpa using hv) (by simp [hw])) ⟨ho,ho2,h1 hw⟩
 ·refine concat_meets ⟨_,ho,rfl⟩ ⟨_,ho2,rfl⟩ noFill_tuple_add seq_tuple_add PySem.F.slot_tuple_add PySem.F.entry_tuple_add (PySem.F.args_tuple_add_2 _ _)
   (tuple_addW2 t b vs.toArray ws.toArray n n2 dd dd2 sl sl2 (by simpa using hv) (by simpa using hw) (by rw [List.size_toArray,List.size_toArray];exact hsz)) ⟨ho,ho2,?_⟩
  rw [e]
  exact h2 hw
def sIx (n d:Nat):Option Int->Nat
 | none=>d
 | some v=>if v < 0 then (v+(n:Int)).toNat else min v.toNat n
end
end HT
namespace L2
open PySem PySem.Spec PyProof.Rows
noncomputable abbrev TO:=St->Hp->(Option Int->Hp->Prop)->Prop
def PO (X:Cx) (e:Option Expr) (t:TO):Prop :=
 ∀ (pins:List (Addr×Obj)) (s:Shared) (σ:St) (H:Hp) (Q:Option Int->Hp->Prop),Inv X pins σ H s->t σ H Q ->
  wpAny (model X.prog X.w) X.A (evalPart e X.env) (fun u s'=>∃ o H',Inv X pins σ H' s'∧IsPart u o∧Q o H') X.xe s
def GK:TO:=fun _ H Q=>Q none H
def Qx (t:TE):TO:=fun σ H Q=>t σ H fun x H1=>∃ i,x=.int i∧Q (some i) H1
section
variable {X:Cx}{e:Expr}{te:TE}{lo hi:Option Expr}{tl th:TO}{pos p2:Pos}
theorem zK:PO X none GK:=by
 intro pins s σ H Q I h
 rw [evalPart_none]
 exact wpAny_pure ⟨none,H,I,.none,h⟩
theorem zL (h:PE X e te):PO X (some e) (Qx te):=by
 intro pins s σ H Q I hw
 rw [evalPart_some]
 refine thn (h pins s σ H _ I hw) ?_
 rintro u s1 ⟨x,H1,I1,r1,q1⟩
 obtain ⟨i,rfl,q⟩:=q1
 obtain ⟨t,rfl⟩:=r1
 exact ⟨some i,H1,I1,.int i t,q⟩
def SlR (X:Cx) (r:V->Option Int->Option Int->Hp->VK->Prop):Prop :=
 ∀ (pins:List (Addr×Obj)) (s:Shared) (σ:St) (H:Hp) (x:V) (v vl vu:Value) (lo hi:Option Int) (sl:Addr) (Q:VK),Inv X pins σ H s->RelV x v->s.heap.IsSliceOf sl vl vu .none->IsPart vl lo->IsPart vu hi->r x lo hi H Q ->
  ∃ T id,typeLookup (.type T) "__getitem__"=pure (some (.builtin id))∧s.TypeIs v T∧wpAny (model X.prog X.w) X.A (getItem v (.ref sl)) (EP X pins σ Q) X.xe s
def tSl (r:V->Option Int->Option Int->Hp->VK->Prop) (te:TE) (tl th:TO):TE:=fun σ H Q=>te σ H fun x H1=>tl σ H1 fun l H2=>th σ H2 fun u H3=>r x l u H3 Q
theorem vG {r:V->Option Int->Option Int->Hp->VK->Prop} (hr:SlR X r) (he:PE X e te) (hl:PO X lo tl) (hu:PO X hi th):PE X (.Subscript e (.Slice lo hi none p2) pos) (tSl r te tl th):=by
 intro pins s σ H Q I h
 refine Subscript_ (thn (he pins s σ H _ I h) ?_)
 rintro v s1 ⟨x,H1,I1,r1,q1⟩
 refine wpAny_Slice (thn (hl pins s1 σ H1 _ I1 q1) fun vl s2 ⟨l,H2,I2,pl,q2⟩=>thn (hu pins s2 σ H2 _ I2 q2) ?_)
 rintro vu s3 ⟨u,H3,I3,pu,q3⟩
 rw [evalPart_none]
 refine wpAny_pure ?_
 have I4:Inv X pins σ H3 { s3 with heap:=s3.heap.push { cls:=.type "slice",data:=.fields #[vl,vu,.none] } }:=I3.kept (t':=s3.toks) fun b ob q=>Zac _ q
 obtain ⟨T,id,hT,ht,hg⟩:=hr pins { s3 with heap:=s3.heap.push { cls:=.type "slice",data:=.fields #[vl,vu,.none] } } σ H3 x v vl vu l u s3.heap.objs.size Q I4 r1 (Heap.IsSliceOf.new ..) pl pu q3
 show wpAny (model X.prog X.w) X.A (subscriptTail e (.Slice lo hi none p2) v (.ref s3.heap.objs.size)) (EP X pins σ Q) X.xe { s3 with heap:=s3.heap.push { cls:=.type "slice",data:=.fields #[vl,vu,.none] } }
 exact tail_any (ops:=[.ref s3.heap.objs.size,v]) ht hT hg (by with_unfolding_all rfl)
def Ja (xs:List V) (lo hi:Option Int):List V:=(xs.drop (HT.sIx xs.length 0 lo)).take (HT.sIx xs.length xs.length hi - HT.sIx xs.length 0 lo)
theorem BZ (xs:List V) (lo hi:Option Int):(Ja xs lo hi).length≤xs.length:=by
 unfold Ja
 rw [List.length_take,List.length_drop]
 omega
def Qy (K:PySem.W.Frag):R2:=fun x y H Q=>∃ a b xs ys,x=.ref a∧y=.ref b∧SqT K H a xs∧SqT K H b ys∧xs≠[]∧xs.length+ys.length≤sizeLine ∧
 (ys=[]->Q (.ref a) H)∧(ys≠[]->∀ p,H p=none->Q (.ref p) (upd H p (.tup (xs++ys))))
theorem Vals.zM {xs:List V}{us:List Value} (r:Vals xs us):us=[]↔xs=[]:=by
 cases r with
 | nil=>simp
 | cons _ _=>simp
theorem NZ:OpR X (binaryOp .Add) (Qy X.K):=by
 intro pins s σ H x y v u Q I rx ry h
 obtain ⟨a,b,xs,ys,rfl,rfl,ha,hb,hx,hz,q1,q2⟩:=h
 cases rx
 cases ry
 obtain ⟨its,r1,p1,_⟩:=I.tuple ha
 obtain ⟨its2,r2,p2,_⟩:=I.tuple hb
 refine HT.NT p1 p2 (fun z=>hx (r1.zM.mp z)) (fun z=>⟨.ref a,H,I,rfl,q1 (r2.zM.mp z)⟩) (fun z=>?_) (by rw [←r1.length,←r2.length];exact hz)
 refine ⟨.ref s.heap.objs.size,_,I.laid (t':=s.toks) (o:=.tup (xs++ys)) (fun b ob q=>Zac _ q) (Zaf _) ?_,rfl,q2 (fun w=>z (r2.zM.mpr w)) _ (I.hok.fresh (Zaf _))⟩
 exact ⟨by rw [List.length_append];exact hz,_,r1.append r2,fY.new _ _⟩
end
def ixN (n:Nat) (i:Int):Option Nat:=if 0≤i then (if i < n then some i.toNat else none) else if -(n:Int)≤i then some (i+n).toNat else none
def atI {α:Type} (xs:List α) (i:Int):Option α:=(ixN xs.length i).bind fun j=>xs[j]?
theorem N5 {n:Nat}{i:Int}{j:Nat} (h:ixN n i=some j):seqIndex? i n=some j∧j < n∧-(n:Int)≤i∧i < n:=by
 unfold ixN at h
 by_cases h0:0≤i
 ·rw [if_pos h0] at h
  by_cases h1:i < n
  ·rw [if_pos h1] at h
   have e:i.toNat=j:=Zaa h
   exact ⟨by rw [seqIndex_of h0 h1,e],by lia,by lia,h1⟩
  ·rw [if_neg h1] at h;cases h
 ·rw [if_neg h0] at h
  by_cases h1:-(n:Int)≤i
  ·rw [if_pos h1] at h
   have e:(i+n).toNat=j:=Zaa h
   exact ⟨by rw [seqIndex_neg (by lia) h1,e],by lia,h1,by lia⟩
  ·rw [if_neg h1] at h;cases h
theorem zN {α:Type}{xs:List α}{i:Int}{v:α} (h:atI xs i=some v):∃ j,seqIndex? i xs.length=some j∧xs[j]?=some v∧j < xs.length∧-(xs.length:Int)≤i∧i < xs.length:=by
 unfold atI at h
 cases e:ixN xs.length i with
 | none=>rw [e] at h;cases h
 | some j =>
  rw [e] at h
  obtain ⟨h1,h2,h3,h4⟩:=N5 e
  exact ⟨j,h1,h,h2,h3,h4⟩
theorem oU {α:Type}{xs:List α}{j:Nat}{v:α} (h:xs[j]?=some v):atI xs (j:Int)=some v:=by
 have hj:j < xs.length:=(Zab.mp h).1
 have e:ixN xs.length (j:Int)=some j:=by
  unfold ixN
  rw [if_pos (by lia),if_pos (by lia)];simp
 unfold atI;rw [e];exact h
def N6 (b:Expr):Prop:=∀ o i,subscripted b false o i=operate [o,i] (getItem o i)
def IxR (X:Cx) (r:R2):Prop :=
 ∀ (value slice:Expr) (pins:List (Addr×Obj)) (s:Shared) (σ:St) (H:Hp) (x y:V) (v u:Value) (Q:VK),Inv X pins σ H s->RelV x v->RelV y u->r x y H Q ->
  subscripted slice false v u=operate [v,u] (getItem v u)->wpAny (model X.prog X.w) X.A (subscriptTail value slice v u) (EP X pins σ Q) X.xe s
def MtR (X:Cx) (id:String) (r:V->List V->Hp->VK->Prop):Prop :=
 ∀ (pins:List (Addr×Obj)) (s:Shared) (σ:St) (H:Hp) (x:V) (xs:List V) (v:Value) (us:List Value) (Q:VK),Inv X pins σ H s->RelV x v->Vals xs us->r x xs H Q ->
  wpAny (model X.prog X.w) X.A (call (.builtin id) (v::us)) (EP X pins σ Q) X.xe s
section
variable {X:Cx}{a b:Expr}{ta tb:TE}{pos:Pos}
theorem IxR.or {r r':R2} (h:IxR X r) (h':IxR X r'):IxR X (fun x y H Q=>r x y H Q∨r' x y H Q):=by
 intro value slice pins s σ H x y v u Q I rx ry q hs
 rcases q with q | q
 ·exact h value slice pins s σ H x y v u Q I rx ry q hs
 ·exact h' value slice pins s σ H x y v u Q I rx ry q hs
theorem bM {r:R2} (hr:IxR X r) (ha:PE X a ta) (hb:PE X b tb) (hs:N6 b):PE X (.Subscript a b pos) (tOp r ta tb):=by
 intro pins s σ H Q I h
 exact Subscript_ (Rj ha hb I h fun v u s2 x y H2 I2 rx ry q=>hr a b pins s2 σ H2 x y v u Q I2 rx ry q (hs _ _))
def T9 (K:PySem.W.Frag):R2:=fun x y H Q=>∃ p xs i v,x=.ref p∧y=.int i∧SqL K H p xs∧atI xs i=some v∧Q v H
def Ua (K:PySem.W.Frag):R2:=fun x y H Q=>∃ p xs i v,x=.ref p∧y=.int i∧SqT K H p xs∧atI xs i=some v∧Q v H
def Ub:R2:=fun x y H Q=>∃ z i c,x=.str z∧y=.int i∧z.length≤sizeLine∧atI z.cps.toList i=some c∧Q (.str ⟨#[c]⟩) H
theorem N7:IxR X (T9 X.K):=by
 intro value slice pins s σ H x y v u Q I rx ry h hs
 obtain ⟨p,xs,i,z,rfl,rfl,hq,he,q⟩:=h
 cases rx
 obtain ⟨t,rfl⟩:=ry
 obtain ⟨its,r,pl,hz⟩:=I.list hq
 obtain ⟨j,h1,h2,h3,h4,h5⟩:=zN he
 obtain ⟨w,ew,rw'⟩:=r.get h2
 have hl:=r.length
 have hn:=zJ
 have fin:EP X pins σ Q w s:=⟨z,H,I,rw',q⟩
 by_cases h0:0≤i
 ·have hj:i.toNat=j:=by
   rw [seqIndex_of h0 h5] at h1
   exact Zaa h1
  exact item_listR pl.isList h0 (by lia) (by rw [hj];simpa using ew) fin hs
 ·have hj:(i+(its.toArray.size:Int)).toNat=j:=by
   rw [seqIndex_neg (by lia) h4] at h1
   rw [List.size_toArray,←hl]
   exact Zaa h1
  exact subscriptTail_builtinR (x:=w) pl.isList.typeIs slot_list_getitem.lookup
   (wpAny_getItem_list_neg (Q:=fun r s'=>r=w∧EP X pins σ Q r s') pl.isList (by lia) (by rw [List.size_toArray] <;> lia) (by lia) (by rw [hj];simpa using ew) ⟨rfl,fin⟩) hs
theorem Rx:IxR X (Ua X.K):=by
 intro value slice pins s σ H x y v u Q I rx ry h hs
 obtain ⟨p,xs,i,z,rfl,rfl,hq,he,q⟩:=h
 cases rx
 obtain ⟨t,rfl⟩:=ry
 obtain ⟨its,r,pl,hz⟩:=I.tuple hq
 obtain ⟨j,h1,h2,h3,h4,h5⟩:=zN he
 obtain ⟨w,ew,rw'⟩:=r.get h2
 have hl:=r.length
 have hn:=zJ
 have fin:EP X pins σ Q w s:=⟨z,H,I,rw',q⟩
 exact subscriptTail_builtinR (x:=w) pl.typeIs slot_tuple_getitem.lookup
  (getItem_tuple (j:=j) (Q:=fun r s'=>r=w∧EP X pins σ Q r s') pl (by omega) (by omega) (by rw [List.size_toArray,←hl];exact h1) (by simpa using ew) ⟨rfl,fin⟩) hs
theorem Ry:IxR X Ub:=by
 intro value slice pins s σ H x y v u Q I rx ry h hs
 obtain ⟨z,i,c,rfl,rfl,hz,he,q⟩:=h
 obtain ⟨t,rfl⟩:=rx
 obtain ⟨t',rfl⟩:=ry
 obtain ⟨j,h1,h2,h3,h4,h5⟩:=zN he
 have hl:z.cps.toList.length=z.length:=by simp [Str.length]
 rw [hl] at h1 h4 h5
 have hn:=zJ
 exact tail_any (typeIs_str s z t) slot_str_getitem.lookup (getItem_str (c:=c) (by
  have e1:decide (i < -(2 ^ 63:Int))=false:=decide_eq_false (by lia)
  have e2:decide (i ≥ 2 ^ 63)=false:=decide_eq_false (by lia)
  rw [e1,e2,Bool.or_false]) (by rw [h1];simpa using h2) ⟨.str ⟨#[c]⟩,H,I.tok _,⟨_,rfl⟩,q⟩) hs
def rIx (K:PySem.W.Frag):R2:=fun x y H Q=>T9 K x y H Q∨Ua K x y H Q∨Ub x y H Q
theorem bx:IxR X (rIx X.K):=N7.or (Rx.or Ry)
theorem zO (lo hi:Option Int) (n:Nat):(sliceBounds lo hi none n).1=((HT.sIx n 0 lo:Nat):Int)∧(sliceBounds lo hi none n).2.1=((HT.sIx n n hi:Nat):Int)∧(sliceBounds lo hi none n).2.2=1:=by
 refine ⟨?_,?_,rfl⟩
 ·cases lo with
  | none=>simp [sliceBounds,HT.sIx]
  | some i =>
   simp only [sliceBounds,HT.sIx,Option.getD_none,show (1:Int) > 0 by decide,if_true]
   by_cases h:i < 0
   ·simp only [h,if_true] <;> lia
   ·simp only [h,if_false] <;> lia
 ·cases hi with
  | none=>simp [sliceBounds,HT.sIx]
  | some i =>
   simp only [sliceBounds,HT.sIx,Option.getD_none,show (1:Int) > 0 by decide,if_true]
   by_cases h:i < 0
   ·simp only [h,if_true] <;> lia
   ·simp only [h,if_false] <;> lia
theorem xY (its:List Value) (lo hi:Option Int):slicePick its.toArray lo hi none=((its.drop (HT.sIx its.length 0 lo)).take (HT.sIx its.length its.length hi - HT.sIx its.length 0 lo)).toArray:=by
 obtain ⟨h1,h2,h3⟩:=zO lo hi its.toArray.size
 unfold slicePick
 rw [h1,h2,h3]
 simp only [sliceRange_one,pick_run,List.size_toArray] <;> rfl
def Uc (K:PySem.W.Frag):V->Option Int->Option Int->Hp->VK->Prop:=fun x lo hi H Q=>∃ a xs,x=.ref a∧SqL K H a xs∧∀ p,H p=none->Q (.ref p) (upd H p (.lst (Ja xs lo hi)))
theorem zP:SlR X (Uc X.K):=by
 intro pins s σ H x v vl vu lo hi sl Q I rx hs pl pu h
 obtain ⟨a,xs,rfl,hx,q⟩:=h
 cases rx
 obtain ⟨its,r,ht,hz⟩:=I.list hx
 have hlen:=r.length
 refine ⟨"list",_,slot_list_getitem.lookup,ht.isList.typeIs,?_⟩
 refine wpAny_getItem_list_slice ht.isList hs pl pu .none (by simp) ?_ (by rw [List.size_toArray] <;> lia)
 rw [xY,←hlen]
 refine ⟨.ref s.heap.objs.size,_,I.laid (t':=s.toks) (o:=.lst (Ja xs lo hi)) (fun b ob q=>Zac _ q) (Zaf _) ?_,rfl,q _ (I.hok.fresh (Zaf _))⟩
 exact ⟨ZaA (BZ xs lo hi) hz,_,0,(r.drop (HT.sIx xs.length 0 lo)).take (HT.sIx xs.length xs.length hi - HT.sIx xs.length 0 lo),Zal _ rfl⟩
def Qz:V->Bool
 | .non=>true
 | .bl _=>true
 | .int _=>true
 | .str _=>true
 | _=>false
def eqV:V->V->Bool
 | .non,.non=>true
 | .bl a,.bl b=>a == b
 | .bl a,.int b=>(if a then 1 else 0) == b
 | .int a,.bl b=>a == (if b then 1 else 0)
 | .int a,.int b=>a == b
 | .str a,.str b=>a == b
 | _,_=>false
theorem zQ:pI X (.type "list") (fun xs H Q=>∃ p ys,xs=[.ref p]∧(SqL X.K H p ys∨SqT X.K H p ys)∧∀ l,H l=none->Q (.ref l) (upd H l (.lst ys))):=by
 intro pins s σ H xs us Q I r h
 obtain ⟨p,ys,rfl,hq,q⟩:=h
 obtain ⟨u,rfl,rx⟩:=vals1 r
 cases rx
 have fin:∀ (its:List Value),Vals ys its->ys.length≤sizeLine->∀ (h':Heap) (c':Nat),(∀ b o',s.heap.get? b=some o'->h'.get? b=some o') ->
   h'.get? s.heap.objs.size=some { cls:=.type "list",dict:=none,data:=.seq its.toArray c',slots:=#[] }->EP X pins σ Q (.ref s.heap.objs.size) { s with heap:=h' }:=fun its r' hz h' c' kp e =>
  ⟨.ref s.heap.objs.size,_,I.laid (t':=s.toks) kp (Zaf _) (show dG X.prog X.w _ h' _ (.lst ys) from ⟨hz,its,c',r',e⟩),rfl,q _ (I.hok.fresh (Zaf _))⟩
 rcases hq with hq | hq
 ·obtain ⟨its,r',pl,hz⟩:=I.list hq
  have hlen:=r'.length
  obtain ⟨o,ho,hc,n,hd⟩:=pl.isList
  exact call_list_seq p (.inl rfl) ho hc hd (fun h' c' kp e=>fin its r' hz h' c' kp e) (by simp only [List.size_toArray] <;> omega)
 ·obtain ⟨its,r',pl,hz⟩:=I.tuple hq
  have hlen:=r'.length
  obtain ⟨o,ho,hc,n,hd⟩:=pl
  exact call_list_seq p (.inr rfl) ho hc hd (fun h' c' kp e=>fin its r' hz h' c' kp e) (by simp only [List.size_toArray] <;> omega)
def tyV (K:PySem.W.Frag) (T:String) (x:V) (H:Hp):Prop:=match x with
 | .str _=>T="str"
 | .int _=>T="int"
 | .ref p=>(T="list"∧∃ xs,SqL K H p xs)∨(T="tuple"∧∃ o,K.lookup p=some o∧o.cls=.type "tuple"∧o.dict=none) ∨
   (T="dict"∧((∃ kvs,H p=some (.dK kvs))∨∃ kvs,H p=some (.dT kvs)))∨(T="set"∧∃ S n,H p=some (.set S n))
 | _=>False
theorem Rz {pins:List (Addr×Obj)}{σ:St}{H:Hp}{s:Shared}{T:String}{x:V}{v:Value} (I:Inv X pins σ H s) (r:RelV x v) (ty:tyV X.K T x H) :
  s.TypeIs v T∧∀ a,v=.ref a->∃ ob,s.heap.get? a=some ob∧ob.dict=none:=by
 cases x with
 | str z =>
  obtain ⟨t,rfl⟩:=r
  cases (show T="str" from ty)
  exact ⟨typeIs_str s z t,fun _ e=>nomatch e⟩
 | int i =>
  obtain ⟨t,rfl⟩:=r
  cases (show T="int" from ty)
  exact ⟨typeIs_int s i t,fun _ e=>nomatch e⟩
 | ref p =>
  cases r
  rcases ty with ⟨rfl,xs,hq⟩ | ⟨rfl,o,hk,hc,hd⟩ | ⟨rfl,hk⟩ | ⟨rfl,S,n,hk⟩
  ·obtain ⟨its,_,pl,_⟩:=I.list hq
   refine ⟨pl.isList.typeIs,fun a e=>?_⟩
   cases e
   obtain ⟨o,n,e,c,hd,_⟩:=pl
   exact ⟨o,e,hd⟩
  ·refine ⟨⟨o,I.kIn p o hk,hc⟩,fun a e=>?_⟩
   cases e
   exact ⟨o,I.kIn _ o hk,hd⟩
  ·have z:∃ o,s.heap.get? p=some o∧o.ExactDict:=by
    rcases hk with ⟨kvs,hk⟩ | ⟨kvs,hk⟩
    ·obtain ⟨_,_,_,_,o,_,_,e,ex,_⟩:=I.hok p _ hk
     exact ⟨o,e,ex⟩
    ·obtain ⟨_,_,_,_,o,_,_,e,ex,_⟩:=I.hok p _ hk
     exact ⟨o,e,ex⟩
   obtain ⟨o,e,ex⟩:=z
   refine ⟨⟨o,e,ex.1⟩,fun a e2=>?_⟩
   cases e2
   exact ⟨o,e,ex.2.1⟩
  ·obtain ⟨o,_,_,_,e,ex,_⟩:=I.hok p _ hk
   refine ⟨⟨o,e,ex.1⟩,fun a e2=>?_⟩
   cases e2
   exact ⟨o,e,ex.2.1⟩
 | _=>exact False.elim ty
def tBM (K:PySem.W.Frag) (T:String) (r:V->List V->Hp->VK->Prop) (to:TE) (t:TA):TE:=fun σ H Q=>to σ H fun x H1=>tyV K T x H1∧t σ H1 fun xs H2=>r x xs H2 Q
variable {o e:Expr}{es:List Expr}{to:TE}{t:TA}{name:Str}{apos cpos:Pos}{T id:String}{r:V->List V->Hp->VK->Prop}
theorem J8 (pa:PlainAttrs T) (slot:Slot T name id) (hty:typeOf (.builtin id)=pure (.type "method_descriptor")) (hm:MtR X id r) (ho:PE X o to) (ha:PA X (e::es) t)
  (hbase:attributeBase o name X.env (eval o X.env)=eval o X.env:=by rfl)
  (hfew:((backTo cpos (starEach (e::es) X.env)).all (fun x=>!x.1) && (backToKw cpos (keywordEach [] X.env)).all (fun x=>x.1.isSome)
   && decide ((e::es).length+([]:List Keyword).length+(if ([]:List Keyword).isEmpty then 0 else 1) < 30))=true:=by rfl)
  (hline:(apos.endLine == cpos.line)=true:=by rfl) (hs:starEach (e::es) X.env=(false,eval e X.env)::starEach es X.env:=by rfl) (hplain:(backTo cpos (starEach es X.env)).any (·.1)=false:=by rfl) :
  PE X (.Call (.Attribute o name apos) (e::es) [] cpos) (tBM X.K T r to t):=by
 intro pins s σ H Q I h
 refine wpAny_Call_method_late hbase hfew hline rfl (thn (ho pins s σ H _ I h) ?_)
 rintro v s1 ⟨x,H1,I1,r1,ty,q1⟩
 obtain ⟨h1,h2⟩:=Rz I1 r1 ty
 refine ⟨T,id,pa,slot,hty,h1,h2,?_⟩
 have hA:=ha cpos pins s1 σ H1 _ I1 q1
 rw [hs] at hA ⊢
 refine Calls.callWith_builtin (by show (false || (backTo cpos (starEach es X.env)).any (·.1))=false;rw [hplain] <;> rfl) (Calls.evalArgs_plain ?_)
 exact thn hA fun us s2 ⟨vs,H2,I2,r2,q2⟩=>hm pins s2 σ H2 x vs v us Q I2 r1 r2 q2
end
def MtM (X:Cx) (id:String) (r:V->List V->Hp->VK->Prop):Prop :=
 ∀ (pins:List (Addr×Obj)) (s:Shared) (σ:St) (H:Hp) (x:V) (xs:List V) (v:Value) (us:List Value) (Q:VK),Inv X pins σ H s->RelV x v->Vals xs us->r x xs H Q ->
  wpAny (model X.prog X.w) X.A (call (.builtin id) (v::us)) (EP X pins σ Q) X.xe s
theorem Vals.one:∀ {x:V}{us:List Value},Vals [x] us->∃ u,us=[u]∧RelV x u
 | _,_,.cons r .nil=>⟨_,rfl,r⟩
section
variable {X:Cx}{pins:List (Addr×Obj)}{σ:St}{H:Hp}{s:Shared}{l b:Addr}{xs ys zs:List V}
theorem Inv.Ve {its its':List Value}{n:Nat}{f:Array Value->Array Value}{t':Nat} (I:Inv X pins σ H s) (hH:H l=some (.lst xs))
  (e:s.heap.get? l=some { cls:=.type "list",data:=.seq its.toArray n }) (hf:f its.toArray=its'.toArray) (hv:Vals ys its') (hz:ys.length≤sizeLine) :
  Inv X pins σ (upd H l (.lst ys)) { s with heap:=s.heap.update l (Obj.mapSeq f),toks:=t' }:=by
 have q:=PySem.IsL.update e f
 rw [hf] at q
 refine I.write (x:=l) (e:=l) (by rw [hH];exact trivial) (.inl rfl) (fun b' u hb hu=>(Heap.get?_update_other s.heap (Obj.mapSeq f) (Za7 hb)).trans hu) ⟨_,q⟩ ?_
 exact ⟨hz,its',_,hv,q⟩
theorem Inv.Vf {its:List Value}{t':Nat} (I:Inv X pins σ H s) (hv:Vals ys its) (hz:ys.length≤sizeLine) :
  Inv X pins σ (upd H s.heap.objs.size (.lst ys)) { s with heap:=s.heap.push { cls:=.type "list",data:=.seq its.toArray },toks:=t' } :=
 I.laid (fun _ _ q=>Zac _ q) (Zaf _) ⟨hz,its,0,hv,Zal _ rfl⟩
theorem Inv.fresh (I:Inv X pins σ H s):H s.heap.objs.size=none:=I.hok.fresh (Zaf _)
theorem Inv.Vg (I:Inv X pins σ H s) (hH:H l=some (.lst xs)):xs.length≤sizeLine∧∃ (its:List Value) (n:Nat),Vals xs its∧xs.length=its.length∧s.heap.get? l=some { cls:=.type "list",data:=.seq its.toArray n }:=by
 obtain ⟨z,its,n,r,e⟩:=I.hok l _ hH
 exact ⟨z,its,n,r,r.length,e⟩
end
section
variable {X:Cx}
def zR:V->List V->Hp->VK->Prop:=fun x vs H Q=>∃ l xs y,x=.ref l∧vs=[y]∧H l=some (.lst xs)∧xs.length < sizeLine∧Q .non (upd H l (.lst (xs++[y])))
theorem oV:MtM X "list.append" zR:=by
 intro pins s σ H x vs v us Q I rx rv h
 obtain ⟨l,xs,y,rfl,rfl,hH,hz,q⟩:=h
 cases rx
 obtain ⟨u,rfl,ru⟩:=rv.one
 obtain ⟨z,its,n,r,hl,e⟩:=I.Vg hH
 refine call_meets F.slot_list_append ⟨_,e,rfl⟩ F.entry_list_append (F.args_list_append_2 _ _) (PySem.list_append l its.toArray n u (by rw [List.size_toArray];lia)) ⟨e,?_⟩
 refine ⟨.non,_,I.Ve (its':=its++[u]) hH e (by simp) (r.append (.cons ru .nil)) ?_,rfl,q⟩
 rw [List.length_append,List.length_singleton]
 lia
end
section
variable {prog:Program}{w:World}{A:Around}{E:Value->Shared->Prop}{s:Shared}
end
section
variable {X:Cx}
end
end L2
namespace Att
open PySem PySem.W PySem.Calls PyProof.Rows
theorem uC {P:Params}{h:Heap}:∀ (ns:List Int) (vs:List Value),WellAll P h vs (ns.map WData.int)->IntsAre vs ns:=by
 intro ns
 induction ns with
 | nil =>
  intro vs w
  rw [List.map_nil] at w
  cases w
  exact .nil
 | cons n ns ih =>
  intro vs w
  rw [Zai] at w
  cases w with
  | cons a b =>
   cases a
   exact .cons _ _ (ih _ b)
theorem Jb {l:OpenLaw}{n:Nat} (hn:l.most=some n) {P:Params}{h:Heap}{args:List WData}{vals:List Value}
  (hpre:l.row.toRowW.claim.pre args=true) (hwl:WellAll P h vals args) :
  ∃ a vs ns,vals=[Value.ref a]∧args=[WData.list (ns.map WData.int)]∧h.get? a=some { cls:=.type "list",data:=.seq vs.toArray }∧IntsAre vs ns∧ns.length≤n:=by
 have hsh:WShape.hasAll [] args [.list .int]=true:=(pre_splitW hpre).1
 have hc:l.pre.holds [] { args:=args }=true:=(pre_splitW hpre).2
 obtain ⟨d,r,rfl,h1,h2⟩:=hasAllW_cons hsh
 obtain rfl:=hasAllW_nil h2
 obtain ⟨xs,rfl,h3⟩:=hasW_list h1
 obtain ⟨ns,rfl⟩:=items_int h3
 have hlen:ns.length≤n:=by
  unfold OpenLaw.pre at hc
  have h4:(WTm.not (.lt (.lit (.int (n:Int))) (.len (.arg 0)))).holds [] { args:=[.list (ns.map .int)] }=true:=by
   have h4:=(holds_andW hc).1
   rw [hn] at h4
   exact h4
  have h5:=condW_of h4 (w_not (w_lt w_lit (w_len_list (w_arg rfl))))
  rw [List.length_map] at h5
  refine Nat.le_of_not_lt fun q=>?_
  have q':(n:Int) < ((ns.length:Nat):Int):=by omega
  first
   | (rw [decide_eq_true q'] at h5;exact absurd h5 (by decide))
   | (simp at h5;omega)
 cases hwl with
 | cons w1 w2 =>
  cases w2
  cases w1 with
  | list ho hall=>exact ⟨_,_,ns,rfl,rfl,ho,uC ns _ hall,hlen⟩
theorem Jc (l:OpenLaw) (args:List WData):l.row.toRowW.claim.post args (.bool true) args=true :=
 postW_of (r:=l.row.toRowW) (X:=(true == true))
  (show WShape.has [] (.bool true) .bool=true by first | rfl | decide | simp [WShape.has,WShape.arms,WShape.armsAll])
  (show (WTm.eq .res (.lit (.bool true))).value [] { args:=args,res:=some (.bool true),after:=args }=some (.bool (true == true)) from w_eq_bool (w_res rfl) w_lit) rfl
theorem Ca {l:OpenLaw}{n:Nat}{q:Program}{loose:List Str}{XP:(Str->Option Value)->Heap->Prop}{YP:World->Heap->Prop}{d:DefRec}
  (hn:l.most=some n) (hdf:d.params.defaults=[])
  (call:∀ (w:World) (s₀ s₁:Shared) (mg mb:Str->Option Value) (fa:Addr) (o:Obj) (pm cd doc:Value) (a:Addr) (vs:List Value) (ns:List Int),
   Ground q loose [] XP w s₀ mg mb s₁.heap->YP w s₁.heap ->
   s₁.heap.get? fa=some o->o.data=.func (docDef d.name d.params d.body d.scope pm cd doc)->s₁.heap.CodeRec cd d.name->mg d.name=some (.ref fa) ->
   s₁.heap.get? a=some { cls:=.type "list",data:=.seq vs.toArray }->IntsAre vs ns->ns.length≤n->s₁.gens=#[] ->
   codeAny (model l.prog w) callerA (.call (.ref fa) ⟨[.ref a],[]⟩) (fun r s'=>r=.ok (.ret (.bool true))∧OldK s₁.heap s'.heap∧s'.os=s₁.os∧AllBare s'.gens) s₁) :
  WalkO q loose XP YP l.row.toRowW d [] (fun f vs=>PySem.call f vs):=by
 intro w s₀ s₁ mg mb G Y fa o pm cd doc dV kV ho hd hcd hD hmg hg args vals as hpre hlay hrd hwl hlo
 obtain rfl:dV=.none:=Dflts.none hD hdf
 obtain rfl:kV=.none:=Dflts.noKw hD
 obtain ⟨a,vs,ns,rfl,rfl,hobj,hints,hlen⟩:=Jb hn hpre hwl
 refine enter_call (codeAny_mono (call w s₀ s₁ mg mb fa o pm cd doc a vs ns G Y ho (fd_plain hd) hcd hmg hobj hints hlen hg) fun r s' hq=>?_)
 obtain ⟨rfl,h2,h3,h4⟩:=hq
 exact ⟨.inl ⟨.bool true,.bool true,[],rfl,fun _=>rfl,.bool true,Jc l _,fun _=>⟨List.Pairwise.nil,fun _ hm=>(nomatch hm)⟩⟩,h2,h3,h4⟩
section
variable {prog:Program}{w:World}{A:Around}{E:Value->Shared->Prop}{s:Shared}{K:Frag}
end
end Att
namespace L2
open PySem PySem.Spec PyProof.Rows
theorem tL:∀ {vs:List Value}{ns:List Int},IntsAre vs ns->Vals (ns.map V.int) vs
 | _,_,.nil=>.nil
 | _,_,.cons n t h=>.cons ⟨t,rfl⟩ (tL h)
def Only (H:Hp):Prop:=∀ b,H b=none∨∃ o xs,H b=some (.frz o (.lst xs))
theorem J9 {P:Program}{w:World}{K:PySem.W.Frag}{mg mb:Str->Option Value}{CX:CXT}{k:Nat}{fa a:Addr}{fd:FuncData}{x:Str}{sp:Sp}{s₁:Shared}{vs:List Value}{ns:List Int}
  (KX:K.In s₁.heap) (hns:s₁.heap.Ns mainGlobals mg) (hb:s₁.heap.Ns builtinsNs mb) (hbb:∀ x:Str,x≠"__name__"->mb x=bootBuiltins x) (hlim:s₁.heap.NoLimit) (hg:s₁.gens=#[])
  (ha:s₁.heap.get? a=some { cls:=.type "list",data:=.seq vs.toArray }) (hi:IntsAre vs ns) (hl:ns.length≤sizeLine) (hr:fM k callerA)
  (F:∀ base:Heap,K.In base->base.Ns mainGlobals mg->xX P w K mg base CX k fa fd [x] sp) (hbind:∀ (s:Shared) (u:Value),BindsTo s fd ⟨[u],[]⟩ [(x,u)])
  (hsp:∀ H:Hp,Only H->SqL K H a (ns.map V.int)->sp [.ref a] H (fun v _=>v=.bl true) fun _ _ _=>False)
  (hCX:∀ H e s',CX [] H s₁ (fun _ _ _=>False) e s'->False) :
  codeAny (model P w) callerA (.call (.ref fa) ⟨[.ref a],[]⟩) (fun r s'=>r=.ok (.ret (.bool true))∧OldK s₁.heap s'.heap∧s'.os=s₁.os∧AllBare s'.gens) s₁:=by
 have rv:=tL hi
 have lenV:=hi.length
 have core:∀ H:Hp,Only H->SqL K H a (ns.map V.int)->HOk P w H s₁.heap->(∀ b,H b≠none->b=a)->(H a≠none->K.lookup a=none) ->
   codeAny (model P w) callerA (.call (.ref fa) ⟨[.ref a],[]⟩) (fun r s'=>r=.ok (.ret (.bool true))∧OldK s₁.heap s'.heap∧s'.os=s₁.os∧AllBare s'.gens) s₁:=by
  intro H hO hS hok hA hK
  have base_of:∀ {b:Addr}{o:Obj},s₁.heap.get? b=some o->H b=none->(zF s₁.heap H).get? b=some o:=fun e n=>JZ e n
  have noA:∀ {b:Addr}{o:Obj}{es:Array DictEntry}{ep:Nat},s₁.heap.get? b=some o->o.data=.dict es ep->H b=none:=fun {b o es ep} e d=>by
   cases q:H b with
   | none=>rfl
   | some u =>
    have e':b=a:=hA b (by rw [q];simp)
    subst e'
    rw [ha] at e;cases e
    have d':Data.seq vs.toArray _=Data.dict es ep:=d
    cases d'
  have nsK:∀ {b:Addr}{m:Str->Option Value},s₁.heap.Ns b m->(zF s₁.heap H).Ns b m:=fun {b m} ⟨o,es,ep,e,d,r⟩=>⟨o,es,ep,base_of e (noA e d),d,r⟩
  have hKb:K.In (zF s₁.heap H):=fun b o e=>base_of (KX b o e) (by
   cases q:H b with
   | none=>rfl
   | some u =>
    have e':b=a:=hA b (by rw [q];simp)
    subst e'
    rw [hK (by rw [q];simp)] at e;cases e)
  have hM:Mod K mg (zF s₁.heap H):=⟨hKb,nsK hns,⟨mb,nsK hb,hbb⟩,let ⟨mc,h1,h2⟩:=hlim;⟨mc,nsK h1,h2⟩⟩
  have e0:NP P w K mg (zF s₁.heap H) callerA [] s₁ H:=⟨rfl,hM,fun b o e=>Nu e,Nat.le_of_eq (Ir _ _),trivial,fun b hb=>absurd (show b∈([]:List Addr) from hb) (by simp),hok,.of_eq hg⟩
  refine codeAny_mono ((F _ hKb (nsK hns)).run callerA [] s₁ H ⟨[.ref a],[]⟩ [.ref a] [.ref a] _ _ hr e0 (hbind s₁ (.ref a)) (.cons rfl .nil) (hsp H hO hS)) fun r s' h=>?_
  cases r with
  | error e=>exact (hCX H e s' h).elim
  | ok fl =>
   cases fl with
   | next=>exact False.elim h
   | brk=>exact False.elim h
   | cont=>exact False.elim h
   | ret u =>
    obtain ⟨v,H',os,bare,un,hok',r',q⟩:=h
    have q':v=.bl true:=q
    subst q'
    obtain rfl:u=Value.bool true:=r'
    refine ⟨rfl,OldK.of_keep fun b o e=>?_,os,bare⟩
    cases q:H b with
    | none=>exact un.keep b o e q (by intro z;exact absurd (show b∈([]:List Addr) from z) (by simp)) (by simp)
    | some u =>
     rcases hO b with z | ⟨ob,xs,z⟩
     ·rw [q] at z;cases z
     ·have z2:=un.frzs b ob _ z
      obtain ⟨e1,_⟩:=hok b _ z
      obtain ⟨e2,_⟩:=hok' b _ z2
      rw [e] at e1;cases e1
      exact e2
 cases hk:K.lookup a with
 | some o =>
  have e:=KX a o hk
  rw [ha] at e
  cases e
  refine core (fun _=>none) (fun _=>.inl rfl) (.inr ⟨_,vs.toArray,_,hk,rfl,rfl,rfl,by rw [List.size_toArray,lenV];exact hl,by simpa using rv⟩) (fun b u z=>by have z':(none:Option HO)=some u:=z;cases z') (fun b z=>absurd rfl z) fun z=>absurd rfl z
 | none =>
  refine core (fun b=>if b=a then some (.frz { cls:=.type "list",data:=.seq vs.toArray } (.lst (ns.map V.int))) else none) (fun b=>?_) (.inl (.inr ⟨{ cls:=.type "list",data:=.seq vs.toArray },if_pos rfl⟩)) (fun b u z=>?_) (fun b z=>?_) fun _=>hk
  ·by_cases hb:b=a
   ·exact .inr ⟨_,_,if_pos hb⟩
   ·exact .inl (if_neg hb)
  ·by_cases hb:b=a
   ·have z':=(if_pos hb).symm.trans z
    cases z'
    subst hb
    exact ⟨ha,by rw [List.length_map];exact hl,vs,_,rv,ha⟩
   ·have z':=(if_neg hb).symm.trans z
    cases z'
  ·by_cases hb:b=a
   ·exact hb
   ·exact absurd (if_neg hb) z
theorem N8 {l:PySem.W.OpenLaw}{n k:Nat}{q:Program}{loose:List Str}{XP:(Str->Option Value)->Heap->Prop}{YP:World->Heap->Prop}{d:DefRec}{K:Params->PySem.W.Frag}{CX:World->CXT}{sp:World->Sp}{x:Str}
  (hn:l.most=some n) (hn2:n≤sizeLine) (hdf:d.params.defaults=[]) (hr:fM k callerA)
  (hY:∀ (w:World) (h:Heap),YP w h->(K w.params).In h)
  (F:∀ (w:World) (mg:Str->Option Value) (fa:Addr) (h:Heap),(K w.params).In h->h.Ns mainGlobals mg->mg d.name=some (.ref fa) ->
   ∃ fd:FuncData,(∀ (s:Shared) (u:Value),BindsTo s fd ⟨[u],[]⟩ [(x,u)]) ∧
    ∀ base:Heap,(K w.params).In base->base.Ns mainGlobals mg->xX l.prog w (K w.params) mg base (CX w) k fa fd [x] (sp w))
  (hsp:∀ (w:World) (H:Hp) (a:Addr) (ns:List Int),ns.length≤n->Only H->SqL (K w.params) H a (ns.map V.int)->sp w [.ref a] H (fun v _=>v=.bl true) fun _ _ _=>False)
  (hCX:∀ (w:World) (H:Hp) (s:Shared) (e:Value) (s':Shared),CX w [] H s (fun _ _ _=>False) e s'->False) :
  PySem.W.WalkO q loose XP YP l.row.toRowW d [] (fun f vs=>PySem.call f vs):=by
 refine Att.Ca hn hdf fun w s₀ s₁ mg mb fa o pm cd doc a vs ns G Y ho hd hcd hmg hobj hints hlen hg=>?_
 have KX:=hY w _ Y
 obtain ⟨fd,hb,hF⟩:=F w mg fa _ KX G.T.g hmg
 exact J9 KX G.T.g G.T.b G.T.builtins G.T.nolimit hg hobj hints (ZaA hlen hn2) hr hF hb (fun H hO hS=>hsp w H a ns hlen hO hS) fun H e s'=>hCX w H s₁ e s'
def bB (s:Stmt):Arguments:=match s with
 | .FunctionDef _ a _ _ _ _ _ _ _ _=>a
 | _=>{ posonlyargs:=[],args:=[],vararg:=none,kwonlyargs:=[],kw_defaults:=[],kwarg:=none,defaults:=[] }
def bw (s:Stmt):List Stmt:=match s with
 | .FunctionDef _ _ b _ _ _ _ _ _ _=>b
 | _=>[]
def aM (s:Stmt):Scope:=match s with
 | .FunctionDef _ _ _ _ _ _ sc _ _ _=>sc
 | _=>{ kind:=.function,names:=[],isGenerator:=false,isCoroutine:=false }
noncomputable abbrev CX0:CXT:=fun _ _ _ _ _ _=>False
noncomputable abbrev E0:XK:=fun _ _ _=>False
theorem Ud {X:Cx}:Ft CX0 X E0:=fun _ _ _ _ _ _ _ h=>h.elim
structure Fun (K:PySem.W.Frag) (x qual:Str) (st:Stmt) (f:Addr) (fd:FuncData):Prop where
 ex:∃ (oc:Value) (od:Option Addr) (kV doc pm:Value) (an:Option Addr) (cdv ct:Value) (osl:Array (Option Value)),
  fd=fnOf x qual (bB st) (bw st) (aM st) .none kV doc pm an cdv ct∧K.lookup f=some ⟨oc,od,.func fd,osl⟩∧codeIn K cdv qual=true
 kp:keepIn K (.ref f)=true
section
variable {P:Program}{w:World}{K:PySem.W.Frag}{mg:Str->Option Value}{base:Heap}
theorem Fun.ok {x qual:Str}{st:Stmt}{f:Addr}{fd:FuncData}{N ps:List Str}{k:Nat}{sp:Sp} (F:Fun K x qual st f fd) (S:bH N ps (aM st)) (len:∀ vs H Q E,sp vs H Q E->vs.length=ps.length)
  (hbody:∀ (cdv:Value) (A:Around) (outer:List Env) (s:Shared) (H:Hp) (vs:List V) (Q:VK) (E:XK),fM k (A.deeper (envOfC qual (aM st) s.heap.objs.size f cdv))->sp vs H Q E ->
   ∃ t,PSs (Fv CX0 P w K mg base N qual (aM st) f cdv A outer s H E).nox (bw st) t∧t { nx:=fun _ H'=>Q .non H',rt:=Q } (start N vs) H):xX P w K mg base CX0 (k+1) f fd ps sp:=by
 obtain ⟨oc,od,kV,doc,pm,an,cdv,ct,osl,rfl,lk,hcd⟩:=F.ex
 refine T8 lk hcd S len fun A outer s H vs Q E hr hsp=>?_
 obtain ⟨t,h,q⟩:=hbody cdv A outer s H vs Q E hr hsp
 exact ⟨t,h.nox,q⟩
theorem Fun.binds {x qual:Str}{st:Stmt}{f:Addr}{fd:FuncData}{ps:List Str} (F:Fun K x qual st f fd)
  (h:∀ (kV doc pm:Value) (an:Option Addr) (cdv ct:Value) (us:List Value),us.length=ps.length->bindArgs (fnOf x qual (bB st) (bw st) (aM st) .none kV doc pm an cdv ct) ⟨us,[]⟩=pure (ps.zip us)):Binds K fd ps []:=by
 obtain ⟨oc,od,kV,doc,pm,an,cdv,ct,osl,rfl,lk,hcd⟩:=F.ex
 exact .all (h kV doc pm an cdv ct)
theorem cN {x qual:Str}{st:Stmt}{f:Addr}{oc:Value}{od an:Option Addr}{osl:Array (Option Value)}{kV doc pm cdv ct:Value} (l:K.lookup f=some ⟨oc,od,.func (fnOf x qual (bB st) (bw st) (aM st) .none kV doc pm an cdv ct),osl⟩)
  (c:codeIn K cdv qual=true) (k:keepIn K (.ref f)=true):Fun K x qual st f (fnOf x qual (bB st) (bw st) (aM st) .none kV doc pm an cdv ct):=⟨⟨oc,od,kV,doc,pm,an,cdv,ct,osl,rfl,l,c⟩,k⟩
end
theorem qM {A:Around}{k:Nat} (hr:fM k A):A.units+1 < cLine:=Nat.lt_of_le_of_lt (Nat.add_le_add_left (by decide:1≤64) _) hr.units
theorem yx {n:Nat} (h:n≤1000):n < sizeLine:=Nat.lt_of_le_of_lt h (by decide)
section
variable {X:Cx}
theorem pv (i:Nat) {x:Str}{pos:Pos} (hN:X.N[i]?=some x:=by rfl) (hv:Vis X.env.scope x:=by first | exact Or.inl rfl | exact Or.inr (Or.inl rfl) | exact Or.inr (Or.inr rfl)) (hd:(x == ("__debug__":Str))=false:=by decide)
  (hcd:(x == ("__classdict__":Str))=false:=by decide):PE X (.Name x pos) (lO i):=Fe hN hv hd hcd
end
theorem kI {c A B:Prop} [Decidable c] (h1:c->A) (h2:¬c->B):if c then A else B:=by
 by_cases h:c
 ·rw [if_pos h]
  exact h1 h
 ·rw [if_neg h]
  exact h2 h
def aR (H H':Hp):Prop:=∀ b o,H b=some o->H' b=some o
theorem aR.refl (H:Hp):aR H H:=fun _ _ h=>h
theorem aR.trans {H H1 H2:Hp} (a:aR H H1) (b:aR H1 H2):aR H H2:=fun c o h=>b c o (a c o h)
theorem aR.free {H H':Hp} (e:aR H H') {l:Addr} (h:H' l=Option.none):H l=Option.none:=by
 cases q:H l with
 | none=>rfl
 | some o =>
  rw [e l o q] at h
  cases h
theorem aR.seq {K:PySem.W.Frag}{H H':Hp}{a:Addr}{xs:List V} (e:aR H H') (h:SqL K H a xs):SqL K H' a xs:=by
 rcases h with (h | ⟨o,h⟩) | h
 ·exact .inl (.inl (e _ _ h))
 ·exact .inl (.inr ⟨o,e _ _ h⟩)
 ·exact .inr h
end L2
set_option maxHeartbeats 4000000
namespace Mth
def sub (l m:List Bool):Bool:=(List.range l.length).all fun i=>!l.getD i false || m.getD i false
theorem GP (n p:Nat):(n / 2 ^ p) &&& 1=(n.testBit p).toNat:=by
 have h:=Nat.testBit_eq_decide_div_mod_eq (x:=n) (i:=p)
 rw [Nat.and_one_is_mod,h]
 by_cases e:n / 2 ^ p % 2=1
 ·simp [e]
 ·have:n / 2 ^ p % 2=0:=by omega
  simp [this]
def pl (W:Nat) (c:Int×Int):Nat:=c.2.toNat * W+c.1.toNat
def cellOf (W:Nat) (i:Nat):Int×Int:=(((i % W:Nat):Int),((i / W:Nat):Int))
structure InR (W H:Nat) (c:Int×Int):Prop where
 c0:0≤c.1
 c1:c.1 < W
 r0:0≤c.2
 r1:c.2 < H
theorem tM (W i:Nat):pl W (cellOf W i)=i:=by
 unfold pl cellOf
 simp only [ZaG]
 exact Nat.div_add_mod' i W
theorem tO {W H:Nat}{i:Nat} (h:i < W * H):InR W H (cellOf W i):=by
 have hW:0 < W:=by
  rcases Nat.eq_zero_or_pos W with e | e
  ·subst e;simp at h
  ·exact e
 refine ⟨Za3 _,?_,Za3 _,?_⟩
 ·exact Int.ofNat_lt.mpr (Nat.mod_lt _ hW)
 ·exact Int.ofNat_lt.mpr (Nat.div_lt_of_lt_mul h)
theorem tQ {W H:Nat}{c:Int×Int} (h:InR W H c):cellOf W (pl W c)=c:=by
 obtain ⟨c0,c1,r0,r1⟩:=h
 obtain ⟨x,y⟩:=c
 simp only at c0 c1 r0 r1
 obtain ⟨a,rfl⟩:=ZaT c0
 obtain ⟨b,rfl⟩:=ZaT r0
 have hW:0 < W:=by omega
 have ha:a < W:=by omega
 unfold cellOf pl
 simp only [ZaG]
 rw [Nat.mul_comm b W,Nat.mul_add_mod,Nat.mod_eq_of_lt ha,Nat.mul_add_div hW,Nat.div_eq_of_lt ha,Nat.add_zero]
theorem Ue {W H:Nat}{c:Int×Int} (h:InR W H c):pl W c < W * H:=by
 obtain ⟨c0,c1,r0,r1⟩:=h
 unfold pl
 have h1:c.1.toNat < W:=by omega
 have h2:c.2.toNat+1≤H:=by omega
 have h3:(c.2.toNat+1) * W≤H * W:=Nat.mul_le_mul_right W h2
 rw [Nat.add_mul,Nat.one_mul] at h3
 rw [Nat.mul_comm W H]
 omega
def tR (W:Nat) (ps:List (Int×Int)):Nat:=ps.foldl (fun n c=>n ||| 2 ^ pl W c) 0
theorem Cd (W:Nat):∀ (ps:List (Int×Int)) (n i:Nat),(ps.foldl (fun n c=>n ||| 2 ^ pl W c) n).testBit i=(n.testBit i || decide (∃ c∈ps,pl W c=i))
 | [],n,i=>by simp
 | c::ps,n,i=>by
  rw [List.foldl_cons,Cd W ps,Nat.testBit_or,Nat.testBit_two_pow,Bool.or_assoc]
  congr 1
  rw [Bool.eq_iff_iff]
  simp
theorem Oa (W:Nat) (ps:List (Int×Int)) (i:Nat):(tR W ps).testBit i=decide (∃ c∈ps,pl W c=i):=by
 unfold tR
 rw [Cd]
 simp
theorem yz (W:Nat) (ps:List (Int×Int)) (c:Int×Int):tR W (ps++[c])=tR W ps ||| 2 ^ pl W c:=by
 unfold tR
 rw [List.foldl_append]
 rfl
def pick (W k:Nat) (q:Nat->Bool):List (Int×Int):=((List.range k).filter q).map (cellOf W)
theorem kJ (W k:Nat) (q:Nat->Bool):(pick W k q).length≤k:=by
 unfold pick
 rw [List.length_map]
 exact ZaA (ZaQ _ _) (by simp)
end Mth
namespace L2
open PySem PySem.Spec PyProof.Rows
theorem qb {env:Env}:∀ (names:List (Str×NameKind)) (cs:List (Str×Addr)),(∀ x∈names,x.2=.free->∃ c,env.cells.lookup x.1=some c) ->
  (∀ x c,cs.lookup x=some c->env.cells.lookup x=some c) ->
  ∃ cl,(forIn names cs fun x s=>if (x.snd == NameKind.free)=true then do let d ←cellOf env x.fst;pure (ForInStep.yield ((x.fst,d)::s)) else pure (ForInStep.yield s):Sem _)=pure cl ∧
   (∀ x c,cl.lookup x=some c->env.cells.lookup x=some c)∧(∀ x c,cs.lookup x=some c->cl.lookup x=some c)∧∀ x,(x,NameKind.free)∈names->∃ c,cl.lookup x=some c
 | [],cs,_,h2=>⟨cs,rfl,h2,fun _ _ e=>e,fun _ h=>nomatch h⟩
 | (n,k)::r,cs,h1,h2=>by
  rw [List.forIn_cons]
  by_cases hk:k=.free
  ·subst hk
   obtain ⟨c,hc⟩:=h1 (n,.free) List.mem_cons_self rfl
   have ec:cellOf env n=pure c:=by unfold cellOf;simp only [hc]
   obtain ⟨cl,e,p1,p2,p3⟩:=qb r ((n,c)::cs) (fun x hx=>h1 x (List.mem_cons_of_mem _ hx)) (fun x d e=>by
    rw [List.lookup_cons] at e
    by_cases hx:x=n
    ·subst hx;simp at e;subst e;exact hc
    ·have hb:(x == n)=false:=beq_eq_false_iff_ne.mpr hx
     rw [hb] at e;exact h2 x d e)
   refine ⟨cl,?_,p1,fun x d e'=>?_,fun x hx=>?_⟩
   ·simp only [beq_self_eq_true,if_true,ec]
    exact e
   ·by_cases hx:x=n
    ·subst hx
     have:=h2 _ _ e'
     rw [hc] at this;cases this
     exact p2 x c (by simp)
    ·have hb:(x == n)=false:=beq_eq_false_iff_ne.mpr hx
     exact p2 x d (by rw [List.lookup_cons,hb];exact e')
   ·rcases Zaq.mp hx with e | hx
    ·cases e;exact ⟨c,p2 n c (by simp)⟩
    ·exact p3 x hx
  ·obtain ⟨cl,e,p1,p2,p3⟩:=qb r cs (fun x hx=>h1 x (List.mem_cons_of_mem _ hx)) h2
   have hb:(k == NameKind.free)=false:=by simpa using hk
   refine ⟨cl,?_,p1,p2,fun x hx=>?_⟩
   ·simp only [hb,Za0,if_false]
    exact e
   ·rcases Zaq.mp hx with e | hx
    ·cases e;exact absurd rfl hk
    ·exact p3 x hx
theorem Fw {scope:Scope}{env:Env} (h:∀ x∈scope.names,x.2=.free->∃ c,env.cells.lookup x.1=some c):∃ cl,closureFor scope env=pure cl ∧
  (∀ x c,cl.lookup x=some c->env.cells.lookup x=some c)∧∀ x,(x,NameKind.free)∈scope.names->∃ c,cl.lookup x=some c:=by
 obtain ⟨cl,e,p1,_,p3⟩:=qb scope.names [] h (fun _ _ e=>nomatch e)
 refine ⟨cl,?_,p1,p3⟩
 simp only [closureFor]
 rw [e]
 rfl
noncomputable abbrev mY (env:Env) (x:Str×NameKind):Str×NameKind:=if (x.2 == NameKind.free && env.scope.kind == .function && env.kindOf x.1 == some .cell)=true then (x.1,NameKind.cell) else x
theorem Jd (env:Env) (x:Str×NameKind):(mY env x).1=x.1:=by unfold mY;split <;> rfl
theorem qN {env:Env}:∀ (names:List (Str×NameKind)) (x:Str),(names.map (mY env)).lookup x=(names.lookup x).map fun k=>(mY env (x,k)).2
 | [],x=>rfl
 | (n,k)::r,x=>by
  rw [Zai]
  have e1:mY env (n,k)=(n,(mY env (n,k)).2):=by
   have:=Jd env (n,k)
   cases h:mY env (n,k) with
   | mk a b=>rw [h] at this;cases this;rfl
  rw [e1,List.lookup_cons,List.lookup_cons,qN r x]
  by_cases hx:x=n
  ·subst hx;simp
  ·have hb:(x == n)=false:=beq_eq_false_iff_ne.mpr hx
   rw [hb]
theorem xZ (scope:Scope) (env:Env):(relabel scope env).names=scope.names.map (mY env):=by
 unfold relabel
 show List.map _ _=_
 refine ZaU fun x _=>?_
 obtain ⟨n,k⟩:=x
 rfl
theorem jx (scope:Scope) (env:Env) (x:Str):(relabel scope env).names.lookup x=(scope.names.lookup x).map fun k=>(mY env (x,k)).2:=by
 rw [xZ,qN]
theorem jn {scope:Scope}{env:Env}{x:Str}{k:NameKind} (hk:k≠.free) (h:scope.names.lookup x=some k):(relabel scope env).names.lookup x=some k:=by
 rw [jx,h]
 simp [mY,hk]
theorem qO {scope:Scope}{env:Env}{x:Str} (h:scope.names.lookup x=some .free):(relabel scope env).names.lookup x=some .cell∨(relabel scope env).names.lookup x=some .free:=by
 rw [jx,h]
 simp only [Zbq,mY]
 split
 ·exact .inl rfl
 ·exact .inr rfl
theorem Fx {scope:Scope}{env:Env}{x:Str} (h0:scope.names.lookup x≠some .cell) (h:(relabel scope env).names.lookup x=some .cell∨(relabel scope env).names.lookup x=some .free):scope.names.lookup x=some .free:=by
 rw [jx] at h
 cases e:scope.names.lookup x with
 | none=>rw [e] at h;simp at h
 | some k =>
  by_cases hk:k=.free
  ·rw [hk]
  ·rw [e] at h
   simp [mY,hk] at h
   subst h
   exact absurd e h0
theorem lookup_mem {β:Type}:∀ {l:List (Str×β)}{x:Str}{v:β},l.lookup x=some v->(x,v)∈l
 | [],_,_,h=>nomatch h
 | (n,k)::r,x,v,h=>by
  rw [List.lookup_cons] at h
  by_cases hx:x=n
  ·subst hx;simp at h;subst h;exact List.mem_cons_self
  ·have hb:(x == n)=false:=beq_eq_false_iff_ne.mpr hx
   rw [hb] at h
   exact List.mem_cons_of_mem _ (lookup_mem h)
noncomputable abbrev Cx.comp (X:Cx) (N:List Str) (scope:Scope) (cl:List (Str×Addr)) (C:Addr) (s2:Shared) (H2:Hp) (fp:List Addr):Cx where
 prog:=X.prog
 w:=X.w
 K:=X.K
 mg:=X.mg
 base:=X.base
 A:=X.A
 N:=N
 s₀:=s2
 H₀:=H2
 env:=compEnvC scope cl C X.env
 outer:=X.stack
 stack:=X.stack
 ex:=fp
 fn:=fun _=>false
 calm:=X.calm
 pn:=[]
 xe:=fun _ _=>False
def vH (XN N:List Str) (xs scope:Scope) (fr:List (Option Nat)):Bool :=
 decide (fr.length=N.length) && (scope.kind == .function) && (scope.names.all fun x=>!(x.2 == .cell)) && (scope.names.all fun x=>!(x.2 == .local) || scope.names.lookup x.1 == some .local) &&
 (scope.names.all fun x=>!(x.2 == .free) || (xs.names.lookup x.1 == some .cell || xs.names.lookup x.1 == some .free)) &&
 (List.range N.length).all fun j=>match fr[j]?,N[j]? with
  | some (some i),some x=>decide (XN[i]?=some x) && (scope.names.lookup x == some .free)
  | _,_=>true
theorem Ce {XN N:List Str}{xs scope:Scope}{fr:List (Option Nat)} (h:vH XN N xs scope fr=true) :
  fr.length=N.length∧scope.kind=.function∧(∀ x∈scope.names,x.2≠.cell)∧(∀ x∈scope.names,x.2=.local->scope.names.lookup x.1=some .local) ∧
  (∀ x∈scope.names,x.2=.free->xs.names.lookup x.1=some .cell∨xs.names.lookup x.1=some .free) ∧
  ∀ (j i:Nat) (x:Str),fr[j]?=some (some i)->N[j]?=some x->XN[i]?=some x∧scope.names.lookup x=some .free:=by
 unfold vH at h
 simp only [Zby,decide_eq_true_eq,ZaW] at h
 obtain ⟨⟨⟨⟨⟨h1,h2⟩,h3⟩,h4⟩,h5⟩,h6⟩:=h
 refine ⟨h1,by simpa using h2,fun x hx=>by simpa using h3 x hx,fun x hx e=>?_,fun x hx e=>?_,fun j i x e1 e2=>?_⟩
 ·have:=h4 x hx
  simp [e] at this
  exact this
 ·have:=h5 x hx
  simp [e] at this
  exact this
 ·have hj:j < N.length:=(Zab.mp e2).1
  have:=h6 j (Zat.mpr hj)
  rw [e1,e2] at this
  simpa using this
def frσ (fr:List (Option Nat)) (σ:St):St:=fr.map fun o=>match o with
 | some i=>match σ[i]? with
  | some v=>v
  | none=>none
 | none=>none
theorem Ob {fr:List (Option Nat)}{σ:St}{j:Nat}{v:V} (h:(frσ fr σ)[j]?=some (some v)):∃ i,fr[j]?=some (some i)∧σ[i]?=some (some v):=by
 unfold frσ at h
 rw [List.getElem?_map] at h
 cases e:fr[j]? with
 | none=>rw [e] at h;cases h
 | some o =>
  rw [e] at h
  cases o with
  | none=>cases h
  | some i =>
   simp only [Zbq] at h
   cases e2:σ[i]? with
   | none=>rw [e2] at h;cases h
   | some w=>rw [e2] at h;exact ⟨i,rfl,by simpa [e2] using h⟩
def Ka (X:Cx) (ifs:List Expr) (t:TT):Prop :=
 ∀ (pins:List (Addr×Obj)) (s:Shared) (σ:St) (H:Hp) (Q:Bool->Hp->Prop),Inv X pins σ H s->t σ H Q ->
  wpAny (model X.prog X.w) X.A (forIn ifs true fun c r=>if r=true then do let ok ←isTrue c X.env (eval c X.env);pure (ForInStep.yield ok) else pure (ForInStep.yield r)) (TP X pins σ Q) X.xe s
def Ug:TT:=fun _ H Q=>Q true H
theorem tU {X:Cx}:Ka X [] Ug:=fun _ _ _ H _ I h=>wpAny_tests_nil ⟨H,I,h⟩
theorem vI {X:Cx}{c:Expr}{t:TT} (h:PT X c t):Ka X [c] t:=fun pins s σ H Q I hw=>wpAny_tests_one (h pins s σ H Q I hw)
def Uh (D:Addr) (tc:TT) (te:TE):TS:=fun E σ H=>tc σ H fun b H1=>if b=true then te σ H1 fun v H2=>∃ ys,H2 D=some (.lst ys)∧ys.length < sizeLine∧E.nx σ (upd H2 D (.lst (ys++[v]))) else E.nx σ H1
def endC (Q:VK) (D:Addr):Ends:={ nx:=fun _ H=>Q (.ref D) H,rt:=fun _ _=>False }
def yC (wi:TI) (fr:List (Option Nat)) (g:TG) (tc:TT) (te:TE):TE:=fun σ H Q=>wi σ H fun J H1=>∀ D,H1 D=none->∃ W:Nat->Nat->St->Hp->Prop,(∃ m,W 0 m (frσ fr σ) (upd H1 D (.lst [])))∧∀ i m σ H,W i m σ H ->
 (J.stop i H∧(endC Q D).nx σ H)∨(J.go i H∧∃ N:St->Hp->Prop,(∀ σ' H',N σ' H'->∃ m',m' < m∧W (i+1) m' σ' H')∧∀ x H',J.yld i H x H'->g x σ H' fun σ2 H2=>Uh D tc te { endC Q D with nx:=N,ct:=N,bk:=(endC Q D).nx } σ2 H2)
section
variable {prog:Program}{w:World}{A:Around}{R:Result->Shared->Prop}{s:Shared}
theorem Je {elt target iter:Expr}{ifs:List Expr}{scope:Scope}{pos:Pos}{it acc:Value}{env:Env} (I:Nat->Shared->Prop)
  (turn:∀ n s,I n s->wpAny (model prog w) A (pyNext it) (fun r s₁=>match r with
   | none=>R (.ok .next) s₁
   | some v=>wpAny (model prog w) A (letOwnedTupleGo target it v) (fun _ s₁=>wpAny (model prog w) A (assign target env v) (fun _ s₂ =>
     wpAny (model prog w) A (forIn ifs true fun c r=>if r=true then do let ok ←isTrue c env (eval c env);pure (ForInStep.yield ok) else pure (ForInStep.yield r)) (fun ok s₃ =>
      if ok=true then wpAny (model prog w) A (eval elt env) (fun x s₄ =>
       wpAny (model prog w) A (call (.builtin "list.append") [acc,x]) (fun _ s₅=>∃ m,m < n∧I m s₅) (notedBy (model prog w) A env fun e s'=>R (.error e) s') s₄) (notedBy (model prog w) A env fun e s'=>R (.error e) s') s₃
      else ∃ m,m < n∧I m s₃) (notedBy (model prog w) A env fun e s'=>R (.error e) s') s₂) (notedBy (model prog w) A env fun e s'=>R (.error e) s') s₁) (notedBy (model prog w) A env fun e s'=>R (.error e) s') s₁) (notedBy (model prog w) A env fun e s'=>R (.error e) s') s)
  (n:Nat) (h:I n s) :
  codeAny (model prog w) A (.compLoop (.ListComp elt [⟨target,iter,ifs,0⟩] scope pos) 0 it acc env) R s:=by
 refine codeAny_loop rfl I (fun n s hI=>?_) n h
 show wpAny _ A ((compTurn (.ListComp elt [⟨target,iter,ifs,0⟩] scope pos) 0 it acc env).onRaise (fun x=>do noteFrame x env;theTreesLotGoes x)) _ _ s
 refine wpAny_noted ?_
 rw [compTurn_list]
 refine wpAny_bind (wpAny_standAt (wpAny_bind (wpAny_mono (turn n s hI) (fun r s₁ h₁=>?_) fun _ _ h'=>h')))
 cases r with
 | none=>exact wpAny_pure h₁
 | some v =>
  refine wpAny_bind (wpAny_mono h₁ (fun _ s₁' h₁'=>?_) fun _ _ h'=>h')
  refine wpAny_bind (wpAny_mono h₁' (fun _ s₂ h₂=>wpAny_bind (wpAny_mono h₂ (fun ok s₃ h₃=>?_) fun _ _ h'=>h')) fun _ _ h'=>h')
  cases ok with
  | false=>exact wpAny_pure ⟨rfl,h₃⟩
  | true =>
   exact wpAny_bind (wpAny_bind (wpAny_mono h₃ (fun x s₄ h₄=>wpAny_bind (wpAny_mono h₄ (fun _ s₅ h₅=>wpAny_pure (wpAny_pure ⟨rfl,h₅⟩)) fun _ _ h'=>h')) fun _ _ h'=>h'))
end
structure Apart (X:Cx) (pins:List (Addr×Obj)) (C:Addr):Prop where
 ne:C≠X.env.locals
 ab:X.s₀.heap.objs.size≤C
 cells:∀ x c,X.env.cells.lookup x=some c->c≠C
 pins:∀ p∈X.pn++pins,p.1≠C
section
variable {X:Cx}{elt tg iter:Expr}{ifs:List Expr}{scope:Scope}{pos pos':Pos}{wi:TI}{g:TG}{tc:TT}{te:TE}{pins:List (Addr×Obj)}{σ:St}{H:Hp}{s:Shared}
theorem Ci (N:List Str) (fr:List (Option Nat)) (hc:X.calm=true) (hi:PI X tg iter wi) (hg:∀ cl C s2 H2 fp,PG (X.comp N scope cl C s2 H2 fp) tg g)
  (ht:∀ cl C s2 H2 fp,Ka (X.comp N scope cl C s2 H2 fp) ifs tc) (he:∀ cl C s2 H2 fp,PE (X.comp N scope cl C s2 H2 fp) elt te)
  (ok:vH X.N N X.env.scope scope fr=true) (hs:∀ x,foldedSetIterable iter X.env x=pure x) {Q:VK}{Q':Value->Shared->Prop}{use:Option (Value->Sem Unit)}
  (I:Inv X pins σ H s) (h:yC wi fr g tc te σ H Q)
  (fin:∀ D C s' H',Inv X pins σ H' s'->H' C=none->Apart X pins C->(∃ m,s'.heap.Ns C m)->Q (.ref D) H'->compPost (model X.prog X.w) X.A X.xe use Q' (.ref D) C (.ok .next) s') :
  wpAny (model X.prog X.w) X.A (comprehension (.ListComp elt [⟨tg,iter,ifs,0⟩] scope pos) scope X.env pos' (newList []) false (eval iter X.env) use) Q' X.xe s:=by
 obtain ⟨o1,o2,o3,o4,o5,o6⟩:=Ce ok
 obtain ⟨cl,hclos,c1,c2⟩:=Fw (scope:=scope) (env:=X.env) (fun x hx hf=>I.ok.has x.1 (o5 x hx hf))
 refine wpAny_comprehension_free (use:=use) rfl hs hclos o2 o4 (thn (hi pins s σ H _ I h) fun xv s1 h1=>thn h1 fun itv s2 h2=>?_)
 obtain ⟨it,fp,tn,J,H2,rfl,I2,T,st2,f2,hW⟩:=h2
 refine wpAny_newObj_type (wpAny_newFunctionEnv o3 (by intro y hy;simp at hy) (fun h₁ hns₁ hsb₁=>?_) o2)
 dsimp only at hns₁ hsb₁ ⊢
 generalize hHH:s2.heap.push { cls:=.type "list",dict:=none,data:=.seq ([]:List Value).toArray }=HH at hns₁ hsb₁ ⊢
 have hC:HH.objs.size=s2.heap.objs.size+1:=by rw [←hHH,Heap.size_push]
 have hDC:s2.heap.objs.size≠HH.objs.size:=by rw [hC];exact Zaw (Nat.lt_succ_self _)
 have hCle:s2.heap.objs.size≤HH.objs.size:=by rw [hC];exact Nat.le_succ _
 have neC:∀ b,b < s2.heap.objs.size->b≠HH.objs.size:=fun b hb=>by rw [hC];exact Zaw (Nat.lt_succ_of_lt hb)
 have old:∀ b o,s2.heap.get? b=some o->h₁.get? b=some o:=fun b o e=>hsb₁.extBut b o (neC b (Zak e)) (Zac _ (hHH ▸ Zac _ e))
 have atD:h₁.get? s2.heap.objs.size=some { cls:=.type "list",data:=.seq ([]:List Value).toArray }:=hsb₁.extBut _ _ hDC (Zac _ (hHH ▸ Zal _ rfl))
 have ltf:∀ b∈fp,b < s2.heap.objs.size:=fun b hb=>let ⟨o,e,_⟩:=T.obj _ _ st2 b hb;Zak e
 have ltc:∀ x c,X.env.cells.lookup x=some c->c < s2.heap.objs.size:=fun x c e=>let ⟨v,q⟩:=I2.cell x c e;q.lt
 have ltp:∀ p∈X.pn++pins,p.1 < s2.heap.objs.size:=fun p hp=>Zak (I2.pin p hp).1
 have fresh:H2 s2.heap.objs.size=none:=I2.hok.fresh (Zaf _)
 have freshC:H2 HH.objs.size=none:=I2.hok.fresh hCle
 have ap:Apart X pins HH.objs.size:=⟨Nat.ne_of_gt (Zap I2.lt hCle),ZaA I2.sz hCle,fun x c e=>neC c (ltc x c e),fun p hp=>neC _ (ltp p hp)⟩
 have okY:(X.comp N scope cl HH.objs.size s2 H2 fp).Ok:={
  mod:=I2.ok.mod
  kind:=o2
  glob:=I2.ok.glob
  blt:=I2.ok.blt
  above:=hCle
  inj:=fun x y c a b=>I2.ok.inj x y c (c1 _ _ a) (c1 _ _ b)
  has:=fun x hx=>c2 x (lookup_mem (Fx (fun z=>o3 _ (lookup_mem z) rfl) hx))
  cab:=fun x c hx _=>by cases hx
  hd:=I2.ok.hd
  frames:=I2.ok.frames
  stk:=.inl rfl
  exf:=fun b hb=>⟨neC b (ltf b hb),fun x c e=>(f2 b hb).2.2.2.2.1 x c (c1 x c e)⟩
  bs:=I2.bs
  bsz:=ZaA I2.ok.bsz I2.sz
  noex:=fun b o e hb=>by
   rcases (f2 b hb).2.2.2.1 with z | z
   ·exact I2.ok.noex b o e z
   ·exact absurd (Zap (Zak e) (ZaA I2.ok.bsz z)) (Zbu _)
  exfs:=fun b hb hf=>by
   rcases Zaq.mp (I2.Fd b hf) with z | z
   ·exact (f2 b hb).2.1 z
   ·exact (f2 b hb).2.2.1 z
  uB:=I2.stack
  frf:=I2.Gy }
 have IY:Inv (X.comp N scope cl HH.objs.size s2 H2 fp) [] (frσ fr σ) (upd H2 s2.heap.objs.size (.lst [])) { s2 with heap:=h₁,toks:=s2.toks+([]:List (Str×Value)).length }:={
  ok:=okY
  os:=rfl
  bare:=I2.bare
  base:=Un.laid old (Zaf _) fresh
  loc:=by
   refine ⟨_,hns₁,fun j x v e1 e2 e3=>?_⟩
   obtain ⟨i,f1,f2'⟩:=Ob e2
   obtain ⟨g1,g2⟩:=o6 j i x f1 e1
   have k2:=o5 _ (lookup_mem g2) rfl
   obtain ⟨m2,hm2,l2⟩:=I2.loc
   obtain ⟨u,ru,lk⟩:=l2 i x v g1 f2' (.inr k2)
   refine ⟨u,ru,.inr ⟨qO g2,?_⟩⟩
   obtain ⟨c,hcl⟩:=c2 x (lookup_mem g2)
   refine ⟨c,hcl,?_⟩
   rcases lk with ⟨k,_⟩ | ⟨_,c',e',z⟩
   ·rcases k2 with k2 | k2
    ·rw [show X.env.kindOf x=X.env.scope.names.lookup x from rfl,k2] at k;cases k
    ·rw [show X.env.kindOf x=X.env.scope.names.lookup x from rfl,k2] at k;cases k
   ·rw [c1 x c hcl] at e'
    cases e'
    obtain ⟨oc,hoc,hd⟩:=z
    exact ⟨oc,old c oc hoc,hd⟩
  cell:=fun x c e=>by
   obtain ⟨v,oc,hoc,hd⟩:=I2.cell x c (c1 x c e)
   exact ⟨v,oc,old c oc hoc,hd⟩
  free:=(aG (Za7 hDC)).trans freshC
  freeC:=fun x c e=>by
   rw [aG (Zaw (ltc x c (c1 x c e)))]
   exact I2.freeC x c (c1 x c e)
  pin:=fun p hp=>by cases hp
  hok:=I2.hok.laid old (Zaf _) ⟨ZaO _,[],0,.nil,atD⟩
  len:=by unfold frσ;rw [List.length_map];exact o1 }
 have stat:∀ {H':Hp}{pp:List (Addr×Obj)},pp=[]->(∀ b∈fp,H' b=none)->∀ b∈fp,vA (X.comp N scope cl HH.objs.size s2 H2 fp) pp H' b:=fun {H' pp} hp hn b hb=>by
  subst hp
  exact ⟨hn b hb,neC b (ltf b hb),fun z=>okY.exfs b hb z,.inl hb,fun x c e=>(f2 b hb).2.2.2.2.1 x c (c1 x c e),fun p hp=>by cases hp⟩
 have back:∀ {σ':St}{H':Hp}{s':Shared},Inv (X.comp N scope cl HH.objs.size s2 H2 fp) [] σ' H' s'->Inv X pins σ H' s':=fun {σ' H' s'} I' =>
  I2.call' (ch:=fp) I'.os I'.base I'.hok I'.bare fun b hb=>⟨(f2 b hb).2.2.2.1,(f2 b hb).2.1,(f2 b hb).2.2.2.2.1,(f2 b hb).2.2.2.2.2⟩
 have loop:∀ s₃:Shared,s₃={ s2 with heap:=h₁,toks:=s2.toks+([]:List (Str×Value)).length } ->
   codeAny (model X.prog X.w) X.A (.compLoop (.ListComp elt [⟨tg,iter,ifs,0⟩] scope pos) 0 (.ref it) (.ref s2.heap.objs.size) (compEnvC scope cl HH.objs.size X.env))
    (compPost (model X.prog X.w) X.A X.xe use Q' (.ref s2.heap.objs.size) HH.objs.size) s₃:=by
  rintro s₃ rfl
  obtain ⟨W,⟨m0,w0⟩,turn⟩:=hW s2.heap.objs.size fresh
  refine Je (fun n s'=>∃ i σ' H',Inv (X.comp N scope cl HH.objs.size s2 H2 fp) [] σ' H' s'∧tn i s'.heap∧(∀ b∈fp,H' b=none)∧W i n σ' H') ?_ m0
   ⟨0,_,_,IY,T.keep _ _ _ st2 fun b _ o e=>old b o e,fun b hb=>by rw [aG (Zaw (ltf b hb))];exact (f2 b hb).1,w0⟩
  rintro n s3 ⟨i,σ3,H3,I3,st3,fr3,w3⟩
  rcases turn i n σ3 H3 w3 with ⟨stop,q⟩ | ⟨go,Nx,hN,step⟩
  ·refine thn (T.done (X.comp N scope cl HH.objs.size s2 H2 fp) rfl rfl rfl hc i [] s3 σ3 H3 _ I3 (stat rfl fr3) st3 stop) ?_
   rintro r s4 ⟨hr,I4⟩
   subst hr
   obtain ⟨m4,hm4,_⟩:=I4.loc
   exact fin _ _ s4 H3 (back I4) I4.free ap ⟨m4,hm4⟩ q
  ·refine thn (T.item (X.comp N scope cl HH.objs.size s2 H2 fp) rfl rfl rfl hc i [] s3 σ3 H3 _ I3 (stat rfl fr3) st3 go) ?_
   rintro r s4 ⟨u,hr,h4⟩
   subst hr
   refine thn h4 ?_
   rintro _ s5 ⟨x,H5,I5,r5,y5,st5,fr5⟩
   have I5':=I5.pinned (stat rfl fr5) (T.obj _ _ st5)
   refine wpAny_mono (hg cl HH.objs.size s2 H2 fp _ s5 σ3 H5 x u _ I5' r5 (step x H5 y5)) (?_) fun _ _ f=>f.elim
   rintro _ s6 ⟨σ6,H6,I6,q6⟩
   have again:∀ {s7:Shared}{σ7:St}{H7:Hp},Inv (X.comp N scope cl HH.objs.size s2 H2 fp) ([]++vB fp s5.heap) σ7 H7 s7->Nx σ7 H7 ->
     ∃ m,m < n∧∃ i σ' H',Inv (X.comp N scope cl HH.objs.size s2 H2 fp) [] σ' H' s7∧tn i s7.heap∧(∀ b∈fp,H' b=none)∧W i m σ' H':=fun {s7 σ7 H7} I7 n7=>by
    obtain ⟨m',hm,w7⟩:=hN σ7 H7 n7
    refine ⟨m',hm,i+1,σ7,H7,I7.qL,T.keep _ _ _ st5 fun b hb o e=>(I7.pin (b,o) (ZaB _ (ZaB _ (lQ hb e)))).1,fun b hb=>?_,w7⟩
    obtain ⟨o,e,d⟩:=T.obj _ _ st5 b hb
    exact (I7.pin (b,o) (ZaB _ (ZaB _ (lQ hb e)))).2.1
   refine wpAny_mono (ht cl HH.objs.size s2 H2 fp _ s6 σ6 H6 _ I6 q6) (?_) fun _ _ f=>f.elim
   rintro b s7 ⟨H7,I7,q7⟩
   cases b with
   | false =>
    rw [if_neg (by decide)] at q7 ⊢
    exact again I7 q7
   | true =>
    rw [if_pos rfl] at q7 ⊢
    refine wpAny_mono (he cl HH.objs.size s2 H2 fp _ s7 σ6 H7 _ I7 q7) (?_) fun _ _ f=>f.elim
    rintro y s8 ⟨v,H8,I8,r8,q8⟩
    obtain ⟨ys,e8,l8,n8⟩:=q8
    refine wpAny_mono (oV (X:=X.comp N scope cl HH.objs.size s2 H2 fp) _ s8 σ6 H8 (.ref s2.heap.objs.size) [v] (.ref s2.heap.objs.size) [y] (fun _ H9=>Nx σ6 H9) I8 rfl (.cons r8 .nil) ⟨_,ys,v,rfl,rfl,e8,l8,n8⟩) (?_) fun _ _ f=>f.elim
    rintro _ s9 ⟨_,H9,I9,_,n9⟩
    exact again I9 n9
 exact codeAny_compStart_list (loop _ rfl) (T.self _ 0 _ _ _ (T.keep _ _ _ st2 fun b _ o e=>old b o e) (loop _ rfl))
theorem iG (N:List Str) (fr:List (Option Nat)) (hc:X.calm=true) (hi:PI X tg iter wi) (hg:∀ cl C s2 H2 fp,PG (X.comp N scope cl C s2 H2 fp) tg g)
  (ht:∀ cl C s2 H2 fp,Ka (X.comp N scope cl C s2 H2 fp) ifs tc) (he:∀ cl C s2 H2 fp,PE (X.comp N scope cl C s2 H2 fp) elt te)
  (ok:vH X.N N X.env.scope scope fr=true:=by kernel_rfl) (hs:∀ x,foldedSetIterable iter X.env x=pure x:=by intro _;rfl) :
  PE X (.ListComp elt [⟨tg,iter,ifs,0⟩] scope pos) (yC wi fr g tc te):=by
 intro pins s σ H Q I h
 rw [eval_ListComp]
 refine Ci (use:=none) N fr hc hi hg ht he ok hs I h fun D C s' H' I' hn ap hm q=>?_
 obtain ⟨m,hm⟩:=hm
 exact ⟨m,hm,fun h' sb=>⟨.ref D,H',I'.turned (t':=s'.toks) (fun b o hb e=>(sb.2 b hb).trans e) hn ap.ne (.inr ap.ab) ap.cells ap.pins,rfl,q⟩⟩
theorem Oc {i:Nat}{y:Str}{py spos:Pos} (N:List Str) (fr:List (Option Nat)) (hc:X.calm=true) (hN:X.N.Nodup) (hiy:X.N[i]?=some y) (hy:X.env.scope.names.lookup y=some .local) (hi:PI X tg iter wi)
  (hg:∀ cl C s2 H2 fp,PG (X.comp N scope cl C s2 H2 fp) tg g) (ht:∀ cl C s2 H2 fp,Ka (X.comp N scope cl C s2 H2 fp) ifs tc) (he:∀ cl C s2 H2 fp,PE (X.comp N scope cl C s2 H2 fp) elt te)
  (ok:vH X.N N X.env.scope scope fr=true:=by kernel_rfl) (hs:∀ x,foldedSetIterable iter X.env x=pure x:=by intro _;rfl)
  (hsw:swapsWith (.ListComp elt [⟨tg,iter,ifs,0⟩] scope pos) (some (.Name y py)) spos.line X.env=pure true:=by rfl) :
  PS X (.Assign [.Name y py] (.ListComp elt [⟨tg,iter,ifs,0⟩] scope pos) spos) (Ff (yC wi fr g tc te) (uo i)):=by
 intro pins s σ H D I h
 rw [exec_Assign_Name_used _ _ _ _ hsw]
 refine wpAny_bind (wpAny_standAt (wpAny_bind ?_))
 show wpAny _ X.A (do let _ ←comprehension (.ListComp elt [⟨tg,iter,ifs,0⟩] scope pos) scope X.env _ (newList []) false (eval iter X.env) (some (assign (.Name y py) X.env))) _ _ s
 refine wpAny_bind (wpAny_mono (Ci (use:=some (assign (.Name y py) X.env)) (Q':=fun _ s'=>SP X pins D .next s') N fr hc hi hg ht he ok hs I h fun Da C s' H' I' hn ap hm q=>?_) (fun _ s' hq=>wpAny_pure (wpAny_pure hq)) fun _ _ e=>e)
 obtain ⟨m,hm⟩:=hm
 show wpAny _ X.A (assign (.Name y py) X.env (.ref Da)) _ _ _
 refine wpAny_assign_Name (ym I' hN hiy (.inl hy) (v:=.ref Da) rfl (fun s'' I'' hsb=>?_) (.inr hy))
 obtain ⟨a,sb,ha⟩:=hsb
 have hne:C≠a:=by
  rcases ha with z | z
  ·rw [z];exact ap.ne
  ·exact Za7 (ap.cells y a z)
 exact ⟨m,hm.sameBut sb hne,fun h' sb'=>⟨_,H',I''.turned (t':=s''.toks) (fun b o hb e=>(sb'.2 b hb).trans e) hn ap.ne (.inr ap.ab) ap.cells ap.pins,q⟩⟩
end
section
variable {X:Cx}{pins:List (Addr×Obj)}{σ:List (Option V)}{H:Hp}{s:Shared}{h':Heap}
theorem Inv.qP {t':Nat}{ch:List Addr} (I:Inv X pins σ H s) (k:∀ b o,b ∉ ch->s.heap.get? b=some o->h'.get? b=some o) (hf:∀ b∈ch,vA X pins H b):Inv X pins σ H { s with heap:=h',toks:=t' }:=by
 have nit:∀ b u,H b=some u->b ∉ ch:=fun b u e z=>by rw [(hf b z).1] at e;cases e
 refine I.step (g':=s.gens) (d':=s.drawn) (ch:=ch) (fun b hb=>⟨(hf b hb).2.2.2.1,(hf b hb).2.1,(hf b hb).2.2.2.2.1,(hf b hb).2.2.2.2.2⟩) (fun b o _ _ hc e _=>k b o hc e) (fun b o _ _ hc e _=>⟨o.slots,k b o hc e⟩) (fun _ _ _ _ n=>n)
  (fun b o hc e=>⟨o,k b o hc e⟩) (fun _ _ e=>e) (fun _ _ _ e=>e) (fun b ps e=>⟨#[],by rw [e];simp⟩) (fun m hm=>?_) (fun b u e=>?_) I.bare
 ·obtain ⟨o,es,ep,ho,r⟩:=hm
  exact ⟨o,es,ep,k _ o (fun z=>(hf _ z).2.1 rfl) ho,r⟩
 ·refine (I.hok b u e).stay (fun c v hc q=>k c v ?_ q) (fun _ q=>q) fun _ _ q=>q
  rcases hc with z | z
  ·rw [z];exact nit b u e
  ·exact nit c _ z
theorem Inv.tV {t':Nat}{ch:List Addr}{a:Addr}{o:HO} (I:Inv X pins σ H s) (k:∀ b o,b ∉ ch->s.heap.get? b=some o->h'.get? b=some o) (hf:∀ b∈ch,vA X pins H b) (ha:s.heap.objs.size≤a)
  (new:dG X.prog X.w (upd H a o) h' a o):Inv X pins σ (upd H a o) { s with heap:=h',toks:=t' }:=by
 have hn:H a=none:=I.hok.fresh ha
 have nit:∀ b u,H b=some u->b ∉ ch:=fun b u e z=>by rw [(hf b z).1] at e;cases e
 have ne:∀ b ob,s.heap.get? b=some ob->b≠a:=fun b ob e z=>by rw [z] at e;exact absurd (Zap (Zak e) ha) (Zbu _)
 refine I.step (g':=s.gens) (d':=s.drawn) (ch:=ch) (fun b hb=>⟨(hf b hb).2.2.2.1,(hf b hb).2.1,(hf b hb).2.2.2.2.1,(hf b hb).2.2.2.2.2⟩) (fun b o _ _ hc e _=>k b o hc e) (fun b o _ _ hc e _=>⟨o.slots,k b o hc e⟩) (fun b ob _ e n=>by rw [aG (ne b ob e)];exact n)
  (fun b o hc e=>⟨o,k b o hc e⟩) (fun b xs e=>by rw [aG (bI e hn)];exact e) (fun b ob u e=>by rw [aG (bI e hn)];exact e) (fun b ps e=>⟨#[],by rw [aG (bI e hn),e];simp⟩) (fun m hm=>?_) (fun b u e=>?_) I.bare
 ·obtain ⟨o,es,ep,ho,r⟩:=hm
  exact ⟨o,es,ep,k _ o (fun z=>(hf _ z).2.1 rfl) ho,r⟩
 ·by_cases hb:b=a
  ·subst hb;rw [aL] at e;cases e;exact new
  ·rw [aG hb] at e
   refine (I.hok b u e).stay (fun c v hc q=>k c v ?_ q) (fun c q=>by rw [aG (bI q hn)];exact q) fun c xs q=>by rw [aG (bI q hn)];exact q
   rcases hc with z | z
   ·rw [z];exact nit b u e
   ·exact nit c _ z
end
def Itf (f:Nat->V) (n:Nat):It:=⟨fun i _=>i < n,fun i H x H'=>H'=H∧x=f i,fun i _=>i=n⟩
def sgn (z:Str) (i:Nat):V:=.str ⟨#[z.cps.getD i 0]⟩
theorem yD {P:Program}{w:World}{A:Around} (hh:A.handled=none) (it:Addr) (z:Str) (t:Tok):Walks P w A it [it] [it] z.cps.size (SignAt z) (fun i h=>h.IsStrIter it (strIterType z) z t i):=by
 unfold strIterType
 split
 ·exact Walks.strAscii hh it z t
 ·exact Walks.strWide hh it z t
theorem Kc {P:Program}{w:World}{K:PySem.W.Frag}{tg:Expr} (it:Addr) (z:Str) (t:Tok):Turn P w K tg (Itf (sgn z) z.cps.size) [it] it (fun i h=>h.IsStrIter it (strIterType z) z t i) where
 mem:=by simp
 obj:=fun i h st b hb=>by
  have e:b=it:=by simpa using hb
  subst e
  obtain ⟨o,e,c,d⟩:=st
  exact ⟨o,e,fun v z=>by rw [d] at z;cases z⟩
 keep:=fun i h h' st k=>let ⟨o,e,r⟩:=st;⟨o,k it (by simp) o e,r⟩
 item:=by
  intro X hP hw hK hc i pins s σ H E I hf st hg
  subst hP hw hK
  obtain ⟨f0,f1,f2,f3,f4,f5⟩:=hf it (by simp)
  have W:=yD (P:=X.prog) (w:=X.w) (I.ok.hd hc) it z t
  refine W.item i s _ _ hg st fun v h' tk hv st' kk=>?_
  obtain ⟨c,u,hx,rfl⟩:=hv
  have I1:Inv X pins σ H { s with heap:=h',toks:=tk }:=I.turned (fun b o hb e=>kk b o (by simpa using hb) e) f0 f1 f3 f4 f5
  obtain ⟨o,e,cc,d⟩:=id st'
  have ec:z.cps.getD i 0=c:=by rw [Array.getD_eq_getD_getElem?,hx];rfl
  refine ⟨_,rfl,BR (s:={ s with heap:=h',toks:=tk }) e cc d (by unfold strIterType;split <;> decide) ⟨sgn z i,H,I1,⟨u,?_⟩,⟨rfl,rfl⟩,st',fun b hb=>(hf b hb).1⟩⟩
  rw [ec]
 done:=by
  intro X hP hw hK hc i pins s σ H E I hf st hg
  subst hP hw hK
  have hg':i=z.cps.size:=hg
  subst hg'
  obtain ⟨f0,f1,f2,f3,f4,f5⟩:=hf it (by simp)
  have W:=yD (P:=X.prog) (w:=X.w) (I.ok.hd hc) it z t
  exact W.done s _ _ st fun h' tk kk=>⟨rfl,I.turned (fun b o hb e=>kk b o (by simpa using hb) e) f0 f1 f3 f4 f5⟩
 self:=fun A i s Q E st h=>by
  unfold strIterType at st
  split at st
  ·exact wpAny_pyIter_striter_ascii st h
  ·exact wpAny_pyIter_striter_wide st h
def Ite (K:PySem.W.Frag) (a:Addr):It :=
 ⟨fun i H=>∃ xs x,SqL K H a xs∧xs[i]?=some x,fun i H x H'=>∃ p y,H p=none∧x=.ref p∧H'=upd H p (.tup [.int i,y])∧∀ xs,SqL K H a xs->xs[i]?=some y,fun i H=>∃ xs,SqL K H a xs∧xs.length≤i⟩
theorem Jf {P:Program}{w:World}{K:PySem.W.Frag}{elts:List Expr}{x1:Nat}{pos:Pos} (a e it:Addr) (hei:e≠it) :
  Turn P w K (.Tuple elts x1 pos) (Ite K a) [e,it] e (fun i h=>(∃ old,IsEnum h e it (i:Int) old)∧h.IsListIter it a i) where
 mem:=by simp
 obj:=fun i h st b hb=>by
  obtain ⟨⟨old,he⟩,o,ho,c,d⟩:=st
  rcases Zaq.mp hb with z | z
  ·subst z;exact ⟨_,he,fun v q=>by cases q⟩
  ·have z:b=it:=by simpa using z
   subst z
   exact ⟨o,ho,fun v q=>by rw [d] at q;cases q⟩
 keep:=fun i h h' st k=>by
  obtain ⟨⟨old,he⟩,hit⟩:=st
  exact ⟨⟨old,k e (by simp) _ he⟩,hit.at fun o q=>k it (by simp) o q⟩
 item:=by
  intro X hP hw hK hc i pins s σ H E I hf st hg
  subst hP hw hK
  obtain ⟨xs,x,hq,hx⟩:=hg
  obtain ⟨its,rv,p,hz⟩:=I.list hq
  obtain ⟨u,hu,ru⟩:=rv.get hx
  obtain ⟨⟨old,he⟩,hit⟩:=st
  have hl:=p.isList
  have hai:a≠it:=by
   rintro rfl
   obtain ⟨o1,e1,c1,_⟩:=hl
   obtain ⟨o2,e2,c2,_⟩:=hit
   rw [e1] at e2;cases e2;rw [c1] at c2;exact absurd c2 (by decide)
  have hae:a≠e:=by
   rintro rfl
   obtain ⟨o1,e1,c1,_⟩:=hl
   rw [he] at e1;cases e1;exact absurd (show Value.type "enumerate"=Value.type "list" from c1) (by decide)
  have D:=Draws.list (prog:=X.prog) (w:=X.w) (A:=X.A.in1) (I.ok.hd hc) it a hai its.toArray
  have hlt:i < its.toArray.size:=by
   have:=(Zab.mp hu).1
   simpa using this
  refine wpAny_pyNext_enum_itemD D he ⟨hit,hl⟩ hlt hei (by simp [hei,Za7 hae]) fun v h1 tk hP ho hst hT hsz hk=>?_
  have ev:v=u:=by
   have hP':its.toArray[i]?=some v:=hP
   rw [List.getElem?_toArray,hu] at hP'
   exact (Zaa hP').symm
  subst ev
  refine ⟨_,rfl,wpAny_letOwnedTupleGo_enum ho fun h2 he2 hs2=>?_⟩
  have elt:e < s.heap.objs.size:=Zak he
  have hT2:h2.get? s.heap.objs.size=some { cls:=.type "tuple",data:=.seq #[.int i tk,v] }:=(hs2.2 _ (Nat.ne_of_gt elt)).trans hT
  refine ⟨.ref s.heap.objs.size,upd H s.heap.objs.size (.tup [.int i,x]),I.tV (ch:=[e,it]) (fun b o hb q=>?_) hf (Zaf _) ⟨by show 2≤sizeLine;decide,[.int i tk,v],.cons ⟨tk,rfl⟩ (.cons ru .nil),fY.mk hT2⟩,rfl,⟨_,x,I.hok.fresh (Zaf _),rfl,rfl,fun ys hy=>by rw [I.nu hy hq];exact hx⟩,⟨⟨v,by simpa using he2⟩,?_⟩,fun b hb=>?_⟩
  ·have h1':b≠e:=fun z=>hb (by simp [z])
   have h2':b≠it:=fun z=>hb (by simp [z])
   exact (hs2.2 b h1').trans (hk b o h1' h2' q)
  ·exact hst.1.at fun o q=>(hs2.2 it (Za7 hei)).trans q
  ·rw [aG ?_]
   ·exact (hf b hb).1
   ·rcases Zaq.mp hb with z | z
    ·rw [z];exact Zaw elt
    ·have z:b=it:=by simpa using z
     rw [z]
     obtain ⟨o2,e2,_⟩:=hit
     exact Zaw (Zak e2)
 done:=by
  intro X hP hw hK hc i pins s σ H E I hf st hg
  subst hP hw hK
  obtain ⟨xs,hq,hx⟩:=hg
  obtain ⟨its,rv,p,hz⟩:=I.list hq
  obtain ⟨⟨old,he⟩,hit⟩:=st
  have hl:=p.isList
  have ln:=rv.length
  refine wpAny_pyNext_enum_end (I.ok.hd hc) he hit hl (by rw [List.getElem?_toArray];exact List.getElem?_eq_none_iff.mpr (by omega)) fun h1 eb=>⟨rfl,?_⟩
  exact I.qP (t':=s.toks) (ch:=[e,it]) (fun b o hb q=>eb b o (fun z=>hb (by simp [z])) q) hf
 self:=fun A i s Q E st h=>by
  obtain ⟨⟨old,he⟩,_⟩:=st
  exact wpAny_pyIter_enum he h
def QC (K:PySem.W.Frag) (ta:TA):TI:=fun σ H R=>ta σ H fun vs H1=>∃ a,vs=[.ref a]∧(∃ xs,SqL K H1 a xs)∧R (Ite K a) H1
theorem Od {X:Cx}{l:Expr}{ta:TA}{elts:List Expr}{x1:Nat}{tpos p pos:Pos} (hg:Gl X "enumerate") (hm:X.mg "enumerate"=none) (ha:PA X [l] ta) (hs:starEach [l] X.env=[(false,eval l X.env)]:=by rfl) :
  PI X (.Tuple elts x1 tpos) (.Call (.Name "enumerate" p) [l] [] pos) (QC X.K ta):=by
 intro pins s σ H R I h
 refine Call_ (tH I hg hm boot_enumerate (Zbe (thn (ha pos pins s σ H _ I h) ?_) hs rfl))
 rintro us s1 ⟨vs,H1,I1,r1,q1⟩
 obtain ⟨a,e,⟨xs,hq⟩,q⟩:=q1
 subst e
 cases r1 with
 | cons r rr =>
  cases rr
  cases r
  obtain ⟨its,rv,p,hz⟩:=I1.list hq
  refine call_enumerate_list p.isList fun h1 he hit hsz hk=>?_
  refine wpAny_pyIter_enum he ?_
  have I2:Inv X pins σ H1 { s1 with heap:=h1 }:=I1.kept (t':=s1.toks) hk
  refine ⟨s1.heap.objs.size+1,[s1.heap.objs.size+1,s1.heap.objs.size],_,_,H1,rfl,I2,Jf a _ _ (by simp),⟨⟨_,he⟩,hit⟩,fun b hb=>?_,q⟩
  rcases Zaq.mp hb with z | z
  ·subst z;exact I1.BP (Nat.le_succ _) (I1.hok.fresh (Nat.le_succ _))
  ·have z:b=s1.heap.objs.size:=by simpa using z
   subst z;exact I1.BP (Zaf _) (I1.hok.fresh (Zaf _))
section
variable {X:Cx}{a b c e:Expr}{ta tb tc te:TE}{pos p2:Pos}
end
structure bD (K:PySem.W.Frag) (mg:Str->Option Value) (x:Str) (st:Stmt) (ps:List Str):Prop where
 ex:∃ (f:Addr) (fd:FuncData),mg x=some (.ref f)∧Fun K x x st f fd∧Binds K fd ps []
def FnAt (P:Program) (w:World) (K:PySem.W.Frag) (mg:Str->Option Value) (base:Heap) (x:Str) (k:Nat) (ps:List Str) (sp:Sp):Prop :=
 ∃ (f:Addr) (fd:FuncData),mg x=some (.ref f)∧keepIn K (.ref f)=true∧Binds K fd ps []∧xX P w K mg base CX0 k f fd ps sp
theorem bD.ok {P:Program}{w:World}{K:PySem.W.Frag}{mg:Str->Option Value}{base:Heap}{x:Str}{st:Stmt}{ps N:List Str}{k:Nat}{sp:Sp} (D:bD K mg x st ps) (S:bH N ps (aM st)) (len:∀ vs H Q E,sp vs H Q E->vs.length=ps.length)
  (hbody:∀ (f:Addr) (cdv:Value) (A:Around) (outer:List Env) (s:Shared) (H:Hp) (vs:List V) (Q:VK) (E:XK),fM k (A.deeper (envOfC x (aM st) s.heap.objs.size f cdv))->sp vs H Q E ->
   ∃ t,PSs (Fv CX0 P w K mg base N x (aM st) f cdv A outer s H E).nox (bw st) t∧t { nx:=fun _ H'=>Q .non H',rt:=Q } (start N vs) H):FnAt P w K mg base x (k+1) ps sp:=by
 obtain ⟨f,fd,e,F,b⟩:=D.ex
 exact ⟨f,fd,e,F.kp,b,F.ok S len fun cdv A outer s H vs Q E=>hbody f cdv A outer s H vs Q E⟩
section
variable {X:Cx}{k:Nat}{ps:List Str}{sp:Sp}{x:Str}{p pos:Pos}{e:Expr}{es:List Expr}{t:TA}
theorem aW (G:FnAt X.prog X.w X.K X.mg X.base x k ps sp) (hr:fM k X.A) (hg:Gl X x) (ha:PA X (e::es) t) (hdb:(x == ("__debug__":Str))=false:=by decide)
  (he:starEach (e::es) X.env=(false,eval e X.env)::starEach es X.env:=by rfl) (hpl:(backTo pos (starEach es X.env)).any (·.1)=false:=by rfl):PE X (.Call (.Name x p) (e::es) [] pos) (vD sp [] E0 t):=by
 obtain ⟨f,fd,e1,e2,e3,e4⟩:=G
 exact NQ e4 hr hg e1 e2 e3 .nil Ud ha hdb he hpl
end
section
variable {X:Cx}{N:List Str}{scope:Scope}{cl:List (Str×Addr)}{C:Addr}{s2:Shared}{H2:Hp}{fp:List Addr}{x:Str}{pos:Pos}
theorem pvl (i:Nat) (hN:N[i]?=some x:=by rfl) (hv:scope.names.lookup x=some .local:=by rfl) (hd:(x == ("__debug__":Str))=false:=by decide) (hcd:(x == ("__classdict__":Str))=false:=by decide) :
  PE (X.comp N scope cl C s2 H2 fp) (.Name x pos) (lO i):=Fe hN (.inl (jn (by decide) hv)) hd hcd
theorem pvf (i:Nat) (hN:N[i]?=some x:=by rfl) (hv:scope.names.lookup x=some .free:=by rfl) (hd:(x == ("__debug__":Str))=false:=by decide) (hcd:(x == ("__classdict__":Str))=false:=by decide) :
  PE (X.comp N scope cl C s2 H2 fp) (.Name x pos) (lO i):=Fe hN (.inr (qO hv)) hd hcd
theorem glc (h:scope.names.lookup x=some .globalImplicit):Gl (X.comp N scope cl C s2 H2 fp) x:=jn (by decide) h
theorem cX {i:Nat} (hN:N.Nodup) (hi:N[i]?=some x) (hx:scope.names.lookup x=some .local):PG (X.comp N scope cl C s2 H2 fp) (.Name x pos) (uo i) :=
 cI hN hi (.inl (jn (by decide) hx)) (.inr (jn (by decide) hx))
end
section
variable {X:Cx}{x:Str}{i:Int}{z:Str}{pos:Pos}
theorem Cj (hg:Gl X x) (h:∃ t,X.mg x=some (.str z t)) (hd:(x == ("__debug__":Str))=false:=by decide):PE X (.Name x pos) (tC (.str z)):=by
 obtain ⟨t,h⟩:=h
 exact Ny hg h ⟨t,rfl⟩ hd
end
theorem tyL {K:PySem.W.Frag}{H:Hp}{p:Addr}{xs:List V} (h:H p=some (.lst xs)):tyV K "list" (.ref p) H:=.inl ⟨rfl,xs,SqL.of h⟩
theorem dI {H:Hp}{p:Addr}{o:HO} (h:H p=none):aR H (upd H p o):=fun b u e=>by rw [aG (bI e h)];exact e
theorem yE {H H1:Hp}{p:Addr}{o:HO} (h:H p=none) (s:aR H H1):aR H (upd H1 p o):=fun b u e=>by rw [aG (bI e h)];exact s b u e
theorem aR.tup {K:PySem.W.Frag}{H H':Hp}{a:Addr}{xs:List V} (e:aR H H') (h:SqT K H a xs):SqT K H' a xs:=by
 rcases h with (h | ⟨o,h⟩) | h
 ·exact .inl (.inl (e _ _ h))
 ·exact .inl (.inr ⟨o,e _ _ h⟩)
 ·exact .inr h
theorem Kd {α:Type}{xs:List α}{i:Int} (h0:0≤i) (h:i < xs.length):∃ v,atI xs i=some v∧xs[i.toNat]?=some v:=by
 have hl:i.toNat < xs.length:=by lia
 refine ⟨xs[i.toNat],?_,by simp [hl]⟩
 have:=oU (xs:=xs) (j:=i.toNat) (v:=xs[i.toNat]) (by simp [hl])
 rwa [Zbg h0] at this
def Vh (J:It) (g:TG) (tb:TS) (D:Ends) (σ:St) (H:Hp):Prop:=∃ W:Nat->Nat->St->Hp->Prop,(∃ m,W 0 m σ H)∧∀ i m σ H,W i m σ H ->
 (J.stop i H∧D.nx σ H)∨(J.go i H∧∃ N:St->Hp->Prop,(∀ σ' H',N σ' H'->∃ m',m' < m∧W (i+1) m' σ' H')∧∀ x H',J.yld i H x H'->g x σ H' fun σ2 H2=>tb { D with nx:=N,ct:=N,bk:=D.nx } σ2 H2)
section
variable {D:Ends}{σ:St}{H:Hp}{Q:VK}{QB:Bool->Hp->Prop}{QA:List V->Hp->Prop}{QS:St->Hp->Prop}{R:It->Hp->Prop}{t u:TS}{ta tb tc te:TE}{c c2:TT}{tA:TA}{g:TG}{gs:TGs}{wi:TI}{r r':R2}{i n:Nat}{v x y:V}{xs:List V}{sp:Sp}{dvs:List V}{E:XK}{K:PySem.W.Frag}
end
section
variable {X:Cx}{e es:Expr}{te:TE}{lo hi:Option Expr}{tl th ts:TO}{pos p2:Pos}
end
section
variable {σ:St}{H:Hp}{Q:VK}{te:TE}{tl th ts:TO}{K:PySem.W.Frag}{x y:V}
end
def SameBut (p:Addr) (H H':Hp):Prop:=∀ b o,H b=some o->b≠p->H' b=some o
section
variable {X:Cx}{N:List Str}{scope:Scope}{cl:List (Str×Addr)}{C:Addr}{s2:Shared}{H2:Hp}{fp:List Addr}
theorem uL {es:List Expr}{k:Nat}{t:TGs}{n:Nat}{pos:Pos} (hc:X.calm=true) (h:PGs (X.comp N scope cl C s2 H2 fp) es t)
  (hn:(assignEach es (X.comp N scope cl C s2 H2 fp).env).length=n:=by rfl) (hst:(assignEach es (X.comp N scope cl C s2 H2 fp).env).findIdx? (·.1)=none:=by rfl):PG (X.comp N scope cl C s2 H2 fp) (.Tuple es k pos) (Rh X.K n t):=J4 hc h hn hst
end
theorem kJ {α β:Type} (f:α->β) (xs:List α):∀ js:List Nat,(js.filterMap ((xs.map f)[·]?)).length=(js.filterMap (xs[·]?)).length
 | []=>rfl
 | j::js=>by
  cases e:xs[j]? with
  | none =>
   have e':(xs.map f)[j]?=none:=by rw [List.getElem?_map,e];rfl
   rw [List.filterMap_cons_none e,List.filterMap_cons_none e',kJ f xs js]
  | some v =>
   have e':(xs.map f)[j]?=some (f v):=by rw [List.getElem?_map,e];rfl
   rw [List.filterMap_cons_some e,List.filterMap_cons_some e',Zav,Zav,kJ f xs js]
inductive EqR (K:PySem.W.Frag) (H:Hp):Nat->V->V->Bool->Prop
 | flat {n:Nat}{x y:V}:Qz x=true->Qz y=true->EqR K H n x y (eqV x y)
 | tup {n:Nat}{a b:Addr}{xs ys:List V} (e:Nat->Bool) {r:Bool}:SqT K H a xs->SqT K H b ys->(∀ (j:Nat) x y,xs[j]?=some x->ys[j]?=some y->EqR K H n x y (e j)) ->
   r=((List.range (min xs.length ys.length)).all e && xs.length == ys.length)->(a=b->r=true)->EqR K H (n+1) (.ref a) (.ref b) r
 | lst {n:Nat}{a b:Addr}{xs ys:List V} (e:Nat->Bool) {r:Bool}:SqL K H a xs->SqL K H b ys->xs.length=ys.length->(∀ (j:Nat) x y,xs[j]?=some x->ys[j]?=some y->EqR K H n x y (e j)) ->
   r=(List.range xs.length).all e->(a=b->r=true)->EqR K H (n+1) (.ref a) (.ref b) r
 | lens {n:Nat}{a b:Addr}{xs ys:List V}:SqL K H a xs->SqL K H b ys->xs.length≠ys.length->EqR K H (n+1) (.ref a) (.ref b) false
section
variable {X:Cx}{pins:List (Addr×Obj)}{σ:St}{H:Hp}{s:Shared}
theorem qQ {xs:List V}{its:List Value} (r:Vals xs its) {j:Nat} (h:j < its.toArray.size):∃ x,xs[j]?=some x∧RelV x its.toArray[j]:=by
 have hl:j < its.length:=by simpa using h
 have hx:j < xs.length:=by rw [r.length];exact hl
 obtain ⟨u,hu,ru⟩:=r.get (i:=j) (x:=xs[j]) (by simp [hx])
 refine ⟨xs[j],by simp [hx],?_⟩
 have:its.toArray[j]=u:=by
  rw [List.getElem?_eq_getElem hl] at hu
  simpa using hu
 rw [this];exact ru
end
section
variable {X:Cx}{k:Nat}
theorem Ke {A:Around} (hr:fM k A):A.units+32 < cLine:=Nat.lt_of_le_of_lt (Nat.add_le_add_left (by decide:32≤64) _) hr.units
end
def zT (H:Hp) (xs:List V) (ps:List (Int×Int)):Prop:=xs.length=ps.length∧∀ (j:Nat) (c:Int×Int),ps[j]?=some c->∃ a,xs[j]?=some (.ref a)∧H a=some (.tup [.int c.1,.int c.2])
section
variable {κ:Type} [DecidableEq κ]
def iZ (kvs:List (κ×V)) (k:κ):Option V:=(kvs.find? fun kv=>decide (kv.1=k)).map (·.2)
def putK (kvs:List (κ×V)) (k:κ) (v:V):List (κ×V) :=
 if (kvs.any fun kv=>decide (kv.1=k))=true then kvs.map (fun kv=>if kv.1=k then (kv.1,v) else kv) else kvs++[(k,v)]
theorem nF {p:κ×V}{r:List (κ×V)}{k:κ} (e:p.1=k):iZ (p::r) k=some p.2:=by simp [iZ,ZbD,e]
theorem jy {p:κ×V}{r:List (κ×V)}{k:κ} (e:¬p.1=k):iZ (p::r) k=iZ r k:=by simp [iZ,ZbD,e]
theorem vJ (k:κ):∀ kvs:List (κ×V),(kvs.any fun kv=>decide (kv.1=k))=(iZ kvs k).isSome
 | []=>rfl
 | p::r=>by
  rw [ZbE]
  by_cases e:p.1=k
  ·simp only [nF e,decide_eq_true e,Bool.true_or,Option.isSome_some]
  ·rw [jy e,decide_eq_false e,Bool.false_or];exact vJ k r
theorem iM (kvs:List (κ×V)) (k:κ) (v:V):(putK kvs k v).length≤kvs.length+1:=by
 unfold putK
 split
 ·rw [List.length_map];omega
 ·rw [List.length_append,Zav,List.length_nil];omega
theorem Kf {kvs:List (κ×V)}{k:κ} (v:V) (h:iZ kvs k=none):putK kvs k v=kvs++[(k,v)]:=by
 unfold putK
 rw [vJ,h]
 exact if_neg (by decide)
theorem uA.kO {o:Option V}{u:Option Value} (r:uA o u):o.isSome=u.isSome:=by
 cases o with
 | none=>cases u with
  | none=>rfl
  | some _=>exact (show False from r).elim
 | some _=>cases u with
  | none=>exact (show False from r).elim
  | some _=>rfl
theorem uA.getD {o:Option V}{u:Option Value}{d:V}{d':Value} (r:uA o u) (rd:RelV d d'):RelV (o.getD d) (u.getD d'):=by
 cases o with
 | none=>cases u with
  | none=>exact rd
  | some _=>exact (show False from r).elim
 | some _=>cases u with
  | none=>exact (show False from r).elim
  | some _=>exact r
theorem KV.val {kvs:List (κ×V)}{vs:List (κ×Value)} (r:KV kvs vs) (k:κ):uA (iZ kvs k) (valueAt vs k):=by
 unfold KV at r
 induction r with
 | nil=>exact True.intro
 | @cons p q ps qs h t ih =>
  obtain ⟨h1,h2⟩:=h
  by_cases e:p.1=k
  ·have e':q.1=k:=h1.symm.trans e
   have b:valueAt (q::qs) k=some q.2:=by simp [valueAt,ZbD,e']
   rw [nF e,b];exact h2
  ·have e':¬q.1=k:=fun z=>e (h1.trans z)
   have b:valueAt (q::qs) k=valueAt qs k:=by simp [valueAt,ZbD,e']
   rw [jy e,b];exact ih
theorem KV.any {kvs:List (κ×V)}{vs:List (κ×Value)} (r:KV kvs vs) (k:κ):(kvs.any fun kv=>decide (kv.1=k))=vs.any fun kv=>decide (kv.1=k):=by
 unfold KV at r
 induction r with
 | nil=>rfl
 | cons h t ih=>rw [ZbE,ZbE,ih,h.1]
theorem KV.repl {kvs:List (κ×V)}{vs:List (κ×Value)} (r:KV kvs vs) (k:κ) {y:V}{u:Value} (ry:RelV y u) :
  KV (kvs.map fun kv=>if kv.1=k then (kv.1,y) else kv) (vs.map fun kv=>if kv.1=k then (kv.1,u) else kv):=by
 unfold KV at r ⊢
 induction r with
 | nil=>exact .nil
 | @cons p q ps qs h t ih =>
  rw [Zai,Zai]
  refine .cons ?_ ih
  obtain ⟨h1,h2⟩:=h
  by_cases e:p.1=k
  ·rw [if_pos e,if_pos (h1.symm.trans e)];exact ⟨h1,ry⟩
  ·rw [if_neg e,if_neg (fun z=>e (h1.trans z))];exact ⟨h1,h2⟩
theorem KV.put {kvs:List (κ×V)}{vs:List (κ×Value)} (r:KV kvs vs) (k:κ) {y:V}{u:Value} (ry:RelV y u):KV (putK kvs k y) (stored vs k u):=by
 unfold putK stored
 rw [r.any k]
 by_cases e:(vs.any fun kv=>decide (kv.1=k))=true
 ·rw [if_pos e,if_pos e];exact r.repl k ry
 ·rw [if_neg e,if_neg e];exact Paired.snoc r ⟨rfl,ry⟩
theorem KV.length {kvs:List (κ×V)}{vs:List (κ×Value)} (r:KV kvs vs):kvs.length=vs.length:=Paired.length r
end
theorem vK {P:Program}{w:World}{k:Key}{u:Value} (r:RelV (kV k) u):(cR P w).is k u=true:=by
 cases k with
 | inl i=>obtain ⟨t,e⟩:=(show ∃ t,u=Value.int i t from r);subst e;exact Bw P w i t
 | inr x=>obtain ⟨t,e⟩:=(show ∃ t,u=Value.str x t from r);subst e;exact Bx P w x t
theorem yF {P:Program}{w:World}:∀ {ks:List Key}{us:List Value},Vals (ks.map kV) us->ItemsAre (cR P w) ks us
 | [],_,r=>by rw [List.map_nil] at r;cases r;exact .nil
 | k::ks,_,r=>by
  rw [Zai] at r
  cases r with
  | cons h t=>exact .cons (vK h) (yF t)
noncomputable abbrev KT (H:Hp):List (List Key×V)->List (List Key×Addr×Value)->Prop:=Paired fun p q=>p.1=q.1∧H q.2.1=some (.tup (p.1.map kV))∧RelV p.2 q.2.2
theorem KT.val {H:Hp}{kvs:List (List Key×V)}{xs:List (List Key×Addr×Value)} (r:KT H kvs xs) (k:List Key):uA (iZ kvs k) ((atKey xs k).map (·.2)):=by
 induction r with
 | nil=>exact True.intro
 | @cons p q ps qs h t ih =>
  obtain ⟨h1,_,h2⟩:=h
  by_cases e:p.1=k
  ·have e':q.1=k:=h1.symm.trans e
   have b:atKey (q::qs) k=some q.2:=by simp [atKey,ZbD,e']
   rw [nF e,b];exact h2
  ·have e':¬q.1=k:=fun z=>e (h1.trans z)
   have b:atKey (q::qs) k=atKey qs k:=by simp [atKey,ZbD,e']
   rw [jy e,b];exact ih
theorem KT.repl {H:Hp}{kvs:List (List Key×V)}{xs:List (List Key×Addr×Value)} (r:KT H kvs xs) (k:List Key) {y:V}{u:Value} (ry:RelV y u) :
  KT H (kvs.map fun kv=>if kv.1=k then (kv.1,y) else kv) (xs.map (putAt k u)):=by
 induction r with
 | nil=>exact .nil
 | @cons p q ps qs h t ih =>
  rw [Zai,Zai]
  refine .cons ?_ ih
  obtain ⟨h1,h2,h3⟩:=h
  unfold putAt
  by_cases e:p.1=k
  ·rw [if_pos e,if_pos (h1.symm.trans e)];exact ⟨h1,h2,ry⟩
  ·rw [if_neg e,if_neg (fun z=>e (h1.trans z))];exact ⟨h1,h2,h3⟩
theorem KT.put {H:Hp}{kvs:List (List Key×V)}{xs:List (List Key×Addr×Value)} (r:KT H kvs xs) (k:List Key) {b:Addr}{y:V}{u:Value} (hb:H b=some (.tup (k.map kV))) (ry:RelV y u) :
  KT H (putK kvs k y) (storedH xs k b u):=by
 have e:(kvs.any fun kv=>decide (kv.1=k))=(atKey xs k).isSome:=by
  rw [vJ,(r.val k).kO,Option.isSome_map]
 unfold putK storedH
 rw [e]
 by_cases q:(atKey xs k).isSome=true
 ·rw [if_pos q,if_pos q];exact r.repl k ry
 ·rw [if_neg q,if_neg q];exact Paired.snoc r ⟨rfl,hb,ry⟩
theorem KT.keeps {H H':Hp}{kvs:List (List Key×V)}{xs:List (List Key×Addr×Value)} (r:KT H kvs xs) (ht:∀ b ys,H b=some (.tup ys)->H' b=some (.tup ys)):KT H' kvs xs :=
 Paired.Ra r fun _ _ z=>⟨z.1,ht _ _ z.2.1,z.2.2⟩
section
variable {P:Program}{w:World}{H:Hp}{h:Heap}{a:Addr}
theorem QD {u:HO} (ok:HOk P w H h) (e:Rd H a u):dG P w H h a u:=e.ok ok
theorem vL {kvs:List (Key×V)} (ok:HOk P w H h) (e:Rd H a (.dK kvs)):kvs.length≤sizeLine∧(a == sysModules)=false∧∃ vs,KV kvs vs∧h.DictOf (cR P w) a vs :=
 show dG P w H h a (.dK kvs) from QD ok e
theorem QF {kvs:List (Key×V)} (ok:HOk P w H h) (e:H a=some (.dK kvs)):kvs.length≤sizeLine∧(a == sysModules)=false∧∃ vs,KV kvs vs∧h.DictOf (cR P w) a vs:=vL ok (.inl e)
theorem nG {ks:List Key} (ok:HOk P w H h) (e:H a=some (.tup (ks.map kV))):(tupleKind (cR P w)).is h ks a:=by
 obtain ⟨_,its,r,⟨o,h1,h2,n,h3⟩,_⟩:=(show dG P w H h a (.tup (ks.map kV)) from ok a _ e)
 exact ⟨o,its.toArray,n,h1,h2,h3,by simpa using yF r⟩
theorem uq {kvs:List (List Key×V)} (ok:HOk P w H h) (e:Rd H a (.dT kvs)):kvs.length≤sizeLine∧(a == sysModules)=false ∧
  ∃ xs,KT H kvs xs∧h.DictOfH (tupleKind (cR P w)) a xs:=by
 obtain ⟨z,y,xs,r,o,es,ep,h1,h2,h3,h4,h5⟩:=(show dG P w H h a (.dT kvs) from QD ok e)
 refine ⟨z,y,xs,r,o,es,ep,h1,h2,h3,h4,fun x hx=>?_,h5⟩
 have all:∀ {l:List (List Key×V)}{m:List (List Key×Addr×Value)},KT H l m->∀ x∈m,(tupleKind (cR P w)).is h x.1 x.2.1:=by
  intro l m q
  induction q with
  | nil=>intro x hx;exact nomatch hx
  | @cons p q ps qs hq t ih =>
   intro x hx
   rcases Zaq.mp hx with e | hx
   ·subst e
    exact nG ok (by rw [←hq.1];exact hq.2.1)
   ·exact ih x hx
 exact all r x hx
theorem Kg {kvs:List (List Key×V)} (ok:HOk P w H h) (e:H a=some (.dT kvs)):kvs.length≤sizeLine∧(a == sysModules)=false ∧
  ∃ xs,KT H kvs xs∧h.DictOfH (tupleKind (cR P w)) a xs:=uq ok (.inl e)
end
def qR (H:Hp) (a:Addr) (y:V) (r:Option V):Prop :=
 (∃ kvs k,Rd H a (.dK kvs)∧y=kV k∧r=iZ kvs k)∨∃ kvs k b,Rd H a (.dT kvs)∧y=.ref b∧H b=some (.tup (k.map kV))∧r=iZ kvs k
def qT (H:Hp) (a:Addr) (y v:V) (H':Hp):Prop :=
 (∃ kvs k,H a=some (.dK kvs)∧y=kV k∧kvs.length < sizeLine∧H'=upd H a (.dK (putK kvs k v))) ∨
 ∃ kvs k b,H a=some (.dT kvs)∧y=.ref b∧H b=some (.tup (k.map kV))∧kvs.length < sizeLine∧H'=upd H a (.dT (putK kvs k v))
theorem qT.k {H:Hp}{a:Addr}{kvs:List (Key×V)}{k:Key}{v:V} (e:H a=some (.dK kvs)) (hl:kvs.length < sizeLine):qT H a (kV k) v (upd H a (.dK (putK kvs k v))):=.inl ⟨kvs,k,e,rfl,hl,rfl⟩
theorem qT.t {H:Hp}{a b:Addr}{kvs:List (List Key×V)}{k:List Key}{v:V} (e:H a=some (.dT kvs)) (eb:H b=some (.tup (k.map kV))) (hl:kvs.length < sizeLine) :
  qT H a (.ref b) v (upd H a (.dT (putK kvs k v))):=.inr ⟨kvs,k,b,e,rfl,eb,hl,rfl⟩
section
variable {X:Cx}{pins:List (Addr×Obj)}{σ:St}{H:Hp}{s:Shared}{a:Addr}{y v:V}{u r:Value}{o:Option V}{A:Around}{E:Value->Shared->Prop}
theorem Inv.big (I:Inv X pins σ H s):sysModules < s.heap.objs.size:=by
 have h:mainGlobals < s.heap.objs.size:=(I.mod.glob.keeps I.bk).lt
 exact Nat.lt_trans (by decide) h
theorem Jg {Q:Value->Shared->Prop} (hu:A.units+1 < cLine) (I:Inv X pins σ H s) (g:qR H a y (some v)) (ry:RelV y u) (h:∀ w' s',Inv X pins σ H s'->RelV v w'->Q w' s') :
  wpAny (model X.prog X.w) A (getItem (.ref a) u) Q E s:=by
 rcases g with ⟨kvs,k,e,ey,l⟩ | ⟨kvs,k,b,e,ey,eb,l⟩
 ·subst ey
  obtain ⟨z,hd,vs,rel,dd⟩:=vL I.hok e
  obtain ⟨w',hw,rw'⟩:=uA.some_of (v:=v) (o:=valueAt vs k) (by rw [l];exact rel.val k)
  exact wpAny_getItem_of (vK ry) dd.mapOf hw (h w' _ (I.tok _) rw')
 ·subst ey
  cases (show u=Value.ref b from ry)
  obtain ⟨z,hd,xs,rel,dd⟩:=uq I.hok e
  obtain ⟨w',hw,rw'⟩:=uA.some_of (v:=v) (o:=(atKey xs k).map (·.2)) (by rw [l];exact rel.val k)
  obtain ⟨p,hp,hp2⟩:=Zbs.mp hw
  refine wpAny_getItem_heap (tupleKind_room_in1 hu) (nG I.hok eb) dd hp ?_
  rw [hp2]
  exact h w' _ (I.tok _) rw'
theorem Vi {Q:Value->Shared->Prop} (hu:A.units+1 < cLine) (I:Inv X pins σ H s) (g:qR H a y o) (ry:RelV y u) (h:∀ s',Inv X pins σ H s'->Q (.bool o.isSome) s') :
  wpAny (model X.prog X.w) A (compareOp .In u (.ref a)) Q E s:=by
 rcases g with ⟨kvs,k,e,ey,l⟩ | ⟨kvs,k,b,e,ey,eb,l⟩
 ·subst ey
  obtain ⟨z,hd,vs,rel,dd⟩:=vL I.hok e
  refine wpAny_in_of (vK ry) hd dd.mapOf ?_
  rw [←(rel.val k).kO,←l]
  exact h _ (I.tok _)
 ·subst ey
  cases (show u=Value.ref b from ry)
  obtain ⟨z,hd,xs,rel,dd⟩:=uq I.hok e
  refine wpAny_in_heap (tupleKind_room_in1 hu) (nG I.hok eb) hd dd ?_
  have q:=(rel.val k).kO
  rw [Option.isSome_map] at q
  rw [←q,←l]
  exact h _ (I.tok _)
theorem Oe {Q:Value->Shared->Prop} (hu:A.units+1 < cLine) (I:Inv X pins σ H s) (g:qR H a y o) (ry:RelV y u) (h:∀ s',Inv X pins σ H s'->Q (.bool (!o.isSome)) s') :
  wpAny (model X.prog X.w) A (compareOp .NotIn u (.ref a)) Q E s:=by
 rcases g with ⟨kvs,k,e,ey,l⟩ | ⟨kvs,k,b,e,ey,eb,l⟩
 ·subst ey
  obtain ⟨z,hd,vs,rel,dd⟩:=vL I.hok e
  refine wpAny_notIn_of (vK ry) hd dd.mapOf ?_
  rw [←(rel.val k).kO,←l]
  exact h _ (I.tok _)
 ·subst ey
  cases (show u=Value.ref b from ry)
  obtain ⟨z,hd,xs,rel,dd⟩:=uq I.hok e
  refine wpAny_notIn_heap (tupleKind_room_in1 hu) (nG I.hok eb) hd dd ?_
  have q:=(rel.val k).kO
  rw [Option.isSome_map] at q
  rw [←q,←l]
  exact h _ (I.tok _)
theorem qU {h':Heap}{t':Nat}{ob:HO} (I:Inv X pins σ H s) (mu:Mut (H a)) (hs:Heap.SameBut a s.heap h') (he:∃ q,h'.get? a=some q) (new:dG X.prog X.w (upd H a ob) h' a ob) :
  Inv X pins σ (upd H a ob) { s with heap:=h',toks:=t' } :=
 I.write (x:=a) (e:=a) mu (.inl rfl) (fun b q hb z=>(hs.2 b hb).trans z) he new
theorem Kh {P:Program}{w:World}{H':Hp}{h':Heap}{kvs:List (Key×V)}{vs:List (Key×Value)} (z:kvs.length≤sizeLine) (hd:(a == sysModules)=false) (rel:KV kvs vs) (dd:h'.DictOf (cR P w) a vs) :
  dG P w H' h' a (.dK kvs):=⟨z,hd,vs,rel,dd⟩
theorem Jh {H':Hp}{Q:Unit->Shared->Prop} (hu:A.units+1 < cLine) (I:Inv X pins σ H s) (g:qT H a y v H') (ry:RelV y u) (rv:RelV v r) (h:∀ s',Inv X pins σ H' s'->Q () s') :
  wpAny (model X.prog X.w) A (setItem (.ref a) u r) Q E s:=by
 rcases g with ⟨kvs,k,e,ey,l,eH⟩ | ⟨kvs,k,b,e,ey,eb,l,eH⟩
 ·subst ey eH
  obtain ⟨z,hd,vs,rel,dd⟩:=QF I.hok e
  have hz:vs.length≤sizeLine:=by rw [←rel.length];exact z
  have hl:(putK kvs k v).length≤sizeLine:=by have:=iM kvs k v;lia
  refine wpAny_setItem_pairs (hsz:=hz) (vK ry) dd fun h' dd' hs=>h _ ?_
  have he:∃ q,h'.get? a=some q:=let ⟨q,_,_,hq,_⟩:=dd';⟨q,hq⟩
  exact qU I (by rw [e];exact True.intro) hs he (Kh hl hd (rel.put k rv) dd')
 ·subst ey eH
  cases (show u=Value.ref b from ry)
  obtain ⟨z,hd,xs,rel,dd⟩:=Kg I.hok e
  have hz:xs.length≤sizeLine:=by rw [←Paired.length rel];exact z
  have hl:(putK kvs k v).length≤sizeLine:=by have:=iM kvs k v;lia
  refine wpAny_setItem_heap (hsz:=hz) (tupleKind_room_in1 hu) (nG I.hok eb) dd fun h' dd' hs=>h _ ?_
  obtain ⟨q,es,ep,hq,h2,h3,h4,_,h5⟩:=dd'
  refine qU I (by rw [e];exact True.intro) hs ⟨q,hq⟩ ⟨hl,hd,_,(rel.put k eb rv).keeps fun c ys ec=>?_,q,es,ep,hq,h2,h3,h4,h5⟩
  rw [aG (JX ec e (fun z=>nomatch z))]
  exact ec
end
section
variable {X:Cx}{pins:List (Addr×Obj)}{σ:St}{H:Hp}{s:Shared}{a:Addr}{kvs:List (Key×V)}{k:Key}{u:Value}{A:Around}{E:Value->Shared->Prop}
end
def RC (i:Expr):Prop:=∀ ov iv,subscripted i false ov iv=operate [ov,iv] (getItem ov iv)
theorem Og {prog:Program}{w:World}{A:Around}{E:Value->Shared->Prop}{s:Shared}{env:Env}{value slice:Expr}{pos:Pos}{T id:String}{Q:Value->Shared->Prop}
  (hl:typeLookup (.type T) "__getitem__"=pure (some (.builtin id))) (hs:RC slice)
  (h:wpAny (model prog w) A (eval value env) (fun o s₁=>wpAny (model prog w) A (eval slice env) (fun i s₂=>s₂.TypeIs o T∧wpAny (model prog w) A (getItem o i) Q E s₂) E s₁) E s) :
  wpAny (model prog w) A (eval (.Subscript value slice pos) env) Q E s:=by
 refine Subscript_ (wpAny_mono h (fun o s₁ h₁=>wpAny_mono h₁ (fun i s₂ h₂=>?_) fun _ _ x=>x) fun _ _ x=>x)
 obtain ⟨hT,h₂⟩:=h₂
 unfold subscriptTail
 refine wpAny_bind ?_
 rw [getitemInPython_of_ne hT.not_modules]
 refine wpAny_bind (wpAny_specialOf hT hl ?_)
 have fin:wpAny (model prog w) A (subscripted slice false o i) (fun r s₃=>wpAny (model prog w) A (letTemporaryGo value o r >>= fun _=>pure r) Q E s₃) E s₂:=by
  rw [hs o i]
  exact wpAny_operating (wpAny_mono h₂ (fun r s₃ h₃=>wpAny_bind (wpAny_letTemporaryGo (wpAny_pure h₃))) fun _ _ x=>x)
 first
  | exact wpAny_pure (wpAny_bind fin)
  | exact wpAny_bind (wpAny_pure (wpAny_bind fin))
  | exact wpAny_bind fin
theorem Ck {X:Cx}{pins:List (Addr×Obj)}{σ:St}{H:Hp}{s:Shared}{a:Addr}{y:V}{o:Option V} (I:Inv X pins σ H s) (g:qR H a y o):s.TypeIs (.ref a) "dict":=by
 rcases g with ⟨kvs,k,e,_,_⟩ | ⟨kvs,k,b,e,_,_,_⟩
 ·obtain ⟨_,_,vs,_,dd⟩:=vL I.hok e
  exact dd.typeIs
 ·obtain ⟨_,_,xs,_,dd⟩:=uq I.hok e
  exact dd.typeIs
def Kl (td ty:TE):TE:=fun σ H Q=>td σ H fun x H1=>ty σ H1 fun y H2=>∃ a v,x=.ref a∧qR H2 a y (some v)∧Q v H2
def Km (td ty tv:TE):TS:=fun D σ H=>tv σ H fun v H1=>td σ H1 fun x H2=>ty σ H2 fun y H3=>∃ a H4,x=.ref a∧qT H3 a y v H4∧D.nx σ H4
section
variable {X:Cx}{o i e value:Expr}{pos pos' tpos:Pos}{td ty tv:TE}
theorem Oh (hu:X.A.units+1 < cLine) (ho:PE X o td) (hi:PE X i ty) (hs:RC i):PE X (.Subscript o i pos) (Kl td ty):=by
 intro pins s σ H Q I h
 refine Og PySem.F.slot_dict_getitem.lookup hs (thn (ho pins s σ H _ I h) fun u s1 ⟨x,H1,I1,rx,q1⟩=>thn (hi pins s1 σ H1 _ I1 q1) ?_)
 rintro iv s2 ⟨y,H2,I2,ry,a,v,ex,g,q2⟩
 subst ex
 obtain rfl:u=Value.ref a:=rx
 exact ⟨Ck I2 g,Jg hu I2 g ry fun w' s3 I3 rw'=>⟨v,H2,I3,rw',q2⟩⟩
theorem uM (hu:X.A.units+1 < cLine) (ho:PE X o td) (hi:PE X i ty) (hv:PE X value tv) (hs:swapsWith value (some (.Subscript o i pos')) pos.line X.env=pure false) :
  PS X (.Assign [.Subscript o i pos'] value pos) (Km td ty tv):=by
 intro pins s σ H D I h
 refine wpAny_Assign_Subscript (thn (hv pins s σ H _ I h) fun r s1 ⟨v,H1,I1,rv,q1⟩=>thn (ho pins s1 σ H1 _ I1 q1) fun u s2 ⟨x,H2,I2,rx,q2⟩=>thn (hi pins s2 σ H2 _ I2 q2) ?_) hs
 rintro iv s3 ⟨y,H3,I3,ry,a,H4,ex,g,q3⟩
 subst ex
 obtain rfl:u=Value.ref a:=rx
 exact Jh hu I3 g ry rv fun s4 I4=>⟨σ,H4,I4,q3⟩
end
theorem Ko {P:Program}{w:World}{H:Hp} (h:Heap) (hb:sysModules < h.objs.size):dG P w H (h.push { cls:=.type "dict",data:=.dict #[] }) h.objs.size (.dK []) :=
 ⟨ZaO _,beq_eq_false_iff_ne.mpr (Za7 (Zaw hb)),[],.nil,Heap.DictOf.new h⟩
theorem Cm {P:Program}{w:World}{H:Hp} (h:Heap) (hb:sysModules < h.objs.size):dG P w H (h.push { cls:=.type "dict",data:=.dict #[] }) h.objs.size (.dT []) :=
 ⟨ZaO _,beq_eq_false_iff_ne.mpr (Za7 (Zaw hb)),[],.nil,_,#[],0,Zal _ rfl,⟨rfl,rfl,rfl⟩,rfl,rfl,List.nodup_nil⟩
def Kp:TE:=fun _ H Q=>∀ p,H p=none->Q (.ref p) (upd H p (.dT []))
section
variable {X:Cx}{pos:Pos}
theorem nH:PE X (.Dict [] [] pos) Kp:=fun pins s σ H Q I h =>
 wpAny_Dict_empty ⟨.ref s.heap.objs.size,_,I.laid (a:=s.heap.objs.size) (o:=.dT []) (t':=s.toks) (fun _ _ q=>Zac _ q) (Zaf _) (Cm s.heap I.big),rfl,h _ (I.hok.fresh (Zaf _))⟩
end
def Kq:List (TE×TE)->St->Hp->(List (V×V)->Hp->Prop)->Prop
 | [],_,H,Q=>Q [] H
 | (tk,tv)::r,σ,H,Q=>tk σ H fun x H1=>tv σ H1 fun y H2=>Kq r σ H2 fun ps H3=>Q ((x,y)::ps) H3
noncomputable abbrev VV:List (V×V)->List (Value×Value)->Prop:=Paired fun p q=>RelV p.1 q.1∧RelV p.2 q.2
def PPs (X:Cx) (pos:Pos) (keys:List (Option Expr)) (values:List Expr) (trs:List (TE×TE)):Prop :=
 ∀ (pins:List (Addr×Obj)) (s:Shared) (σ:St) (H:Hp) (Q:List (V×V)->Hp->Prop),Inv X pins σ H s->Kq trs σ H Q ->
  wpAny (model X.prog X.w) X.A (evalPairs (pairTrees keys values X.env pos)) (fun vs s'=>∃ ps H',Inv X pins σ H' s'∧VV ps vs∧Q ps H') X.xe s
structure M1 (X:Cx) (o:Expr) (m:Str) (apos:Pos) (e:Expr) (cpos:Pos):Prop where
 base:attributeBase o m X.env (eval o X.env)=eval o X.env
 few:((backTo cpos (starEach [e] X.env)).all (fun x=>!x.1) && (backToKw cpos (keywordEach [] X.env)).all (fun x=>x.1.isSome)
  && decide (([e]:List Expr).length+([]:List Keyword).length+(if ([]:List Keyword).isEmpty then 0 else 1) < 30))=true
 line:(apos.endLine == cpos.line)=true
 trees:backTo cpos (starEach [e] X.env)=[(false,eval e X.env)]
structure M2 (X:Cx) (o:Expr) (m:Str) (apos:Pos) (e f:Expr) (cpos:Pos):Prop where
 base:attributeBase o m X.env (eval o X.env)=eval o X.env
 few:((backTo cpos (starEach [e,f] X.env)).all (fun x=>!x.1) && (backToKw cpos (keywordEach [] X.env)).all (fun x=>x.1.isSome)
  && decide (([e,f]:List Expr).length+([]:List Keyword).length+(if ([]:List Keyword).isEmpty then 0 else 1) < 30))=true
 line:(apos.endLine == cpos.line)=true
 trees:backTo cpos (starEach [e,f] X.env)=[(false,eval e X.env),(false,eval f X.env)]
def IsD (H:Hp) (a:Addr):Prop:=(∃ kvs,Rd H a (.dK kvs))∨∃ kvs,Rd H a (.dT kvs)
theorem Fy {X:Cx}{pins:List (Addr×Obj)}{σ:St}{H:Hp}{s:Shared}{a:Addr} (I:Inv X pins σ H s) (d:IsD H a) :
  s.TypeIs (.ref a) "dict"∧(∀ b,Value.ref a=.ref b->∃ ob,s.heap.get? b=some ob∧ob.dict=none)∧(a == sysModules)=false:=by
 rcases d with ⟨kvs,e⟩ | ⟨kvs,e⟩
 ·obtain ⟨_,hd,vs,_,dd⟩:=vL I.hok e
  refine ⟨dd.typeIs,fun b q=>?_,hd⟩
  cases q
  obtain ⟨ob,_,_,h1,h2,_⟩:=dd
  exact ⟨ob,h1,h2.2.1⟩
 ·obtain ⟨_,hd,xs,_,dd⟩:=uq I.hok e
  refine ⟨dd.typeIs,fun b q=>?_,hd⟩
  cases q
  obtain ⟨ob,_,_,h1,h2,_⟩:=dd
  exact ⟨ob,h1,h2.2.1⟩
section
variable {X:Cx}{pins:List (Addr×Obj)}{σ:St}{H:Hp}{s:Shared}{a:Addr}{y d:V}{u r:Value}{o:Option V}{A:Around}{E:Value->Shared->Prop}
theorem RG {Q:Value->Shared->Prop} (hu:A.units+1 < cLine) (I:Inv X pins σ H s) (g:qR H a y o) (ry:RelV y u) (h:∀ w' s',Inv X pins σ H s'->RelV (o.getD .non) w'->Q w' s') :
  wpAny (model X.prog X.w) A (call (.builtin "dict.get") [.ref a,u]) Q E s:=by
 rcases g with ⟨kvs,k,e,ey,l⟩ | ⟨kvs,k,b,e,ey,eb,l⟩
 ·subst ey
  obtain ⟨z,hd,vs,rel,dd⟩:=vL I.hok e
  refine call_meetsIn PySem.F.slot_dict_get dd.typeIs PySem.F.entry_dict_get (PySem.F.args_dict_get_2 _ _) (meets_dict_get (cR X.prog X.w) a (vK ry) hd) ⟨_,dd.mapOf,h _ _ (I.tok _) ?_⟩
  rw [l]
  exact (rel.val k).getD rfl
 ·subst ey
  cases (show u=Value.ref b from ry)
  obtain ⟨z,hd,xs,rel,dd⟩:=uq I.hok e
  refine call_meetsIn PySem.F.slot_dict_get dd.typeIs PySem.F.entry_dict_get (PySem.F.args_dict_get_2 _ _) (meetsH_dict_get (tupleKind (cR X.prog X.w)) a b hd) ⟨tupleKind_room_in1 hu,k,xs,nG I.hok eb,dd,h _ _ (I.tok _) ?_⟩
  rw [l]
  exact (rel.val k).getD rfl
end
def Fz (td ty:TE):TE:=fun σ H Q=>td σ H fun x H1=>∃ a,x=.ref a∧IsD H1 a∧ty σ H1 fun y H2=>∃ o,qR H2 a y o∧Q (o.getD .non) H2
section
variable {X:Cx}{o e f:Expr}{apos cpos:Pos}{td ty tx:TE}
theorem Kr (hu:X.A.units+1 < cLine) (ho:PE X o td) (he:PE X e ty) (m:M1 X o "get" apos e cpos):PE X (.Call (.Attribute o "get" apos) [e] [] cpos) (Fz td ty):=by
 intro pins s σ H Q I h
 refine wpAny_Call_method m.base m.few m.line PySem.F.plainAttrs_dict PySem.F.slot_dict_get PySem.F.type_dict_get (thn (ho pins s σ H _ I h) ?_)
 rintro u s1 ⟨x,H1,I1,rx,a,ex,d,q1⟩
 subst ex
 obtain rfl:u=Value.ref a:=rx
 obtain ⟨t1,t2,_⟩:=Fy I1 d
 refine ⟨t1,t2,?_⟩
 rw [m.trees]
 refine Calls.callWith_builtin rfl (Calls.evalArgs_plain (Calls.spliced_cons (thn (he pins s1 σ H1 _ I1 q1) fun iv s2 ⟨y,H2,I2,ry,ov,g,q2⟩=>Calls.spliced_nil ?_)))
 exact RG hu I2 g ry fun w' s3 I3 rw'=>⟨_,H2,I3,rw',q2⟩
end
section
variable {X:Cx}{pins:List (Addr×Obj)}{σ:St}{H:Hp}{s:Shared}{a:Addr}{kvs:List (Key×V)}{A:Around}{E:Value->Shared->Prop}
end
section
variable {X:Cx}{pins:List (Addr×Obj)}{σ:St}{H:Hp}{s:Shared}{a:Addr}{y:V}{u:Value}{A:Around}{E:Value->Shared->Prop}
end
end L2
namespace L2.MP
open PySem PySem.Spec PyProof.Rows
inductive PV where
 | non | bl (b:Bool) | int (i:Int) | str (x:Str) | ty (n:String)
 | tup (l:List PV) | lst (l:List PV) | dk (l:List (Key×PV)) | dt (l:List (List Key×PV))
 | exc (c:Str) (fs:List (Str×PV))
noncomputable instance:Inhabited PV:=⟨.non⟩
def PV.flat:PV->Bool
 | .non | .bl _ | .int _ | .str _ | .ty _=>true
 | _=>false
def qd:Nat->PV->Bool
 | 0,p=>p.flat
 | n+1,.tup l=>l.all (qd n)
 | _+1,p=>p.flat
def PV.still (p:PV):Bool:=qd 5 p
inductive Res (α:Type) where
 | ok (a:α) | ex (z:PV)
def bnd {α β:Type} (x:Option (Res α)) (k:α->Option (Res β)):Option (Res β):=match x with
 | some (.ok a)=>k a
 | some (.ex z)=>some (.ex z)
 | none=>none
def XO (e C:Addr) (d:Option Addr):HO:=.ext fun h=>∃ vs:Array Value,h.get? e=some { cls:=.ref C,dict:=d,data:=.fields vs }
structure XNm (K:PySem.W.Frag) (C:Addr) (c:Str):Prop where
 ns:nsIn K mainGlobals c=some (some (.ref C))
 cl:∃ cd,PySem.W.clsIn K C=some cd∧cd.name=c
inductive Rep (K:PySem.W.Frag) (F:Hp):V->PV->Prop
 | non:Rep K F .non .non
 | bl {b:Bool}:Rep K F (.bl b) (.bl b)
 | int {i:Int}:Rep K F (.int i) (.int i)
 | str {x:Str}:Rep K F (.str x) (.str x)
 | ty {n:String}:Rep K F (.ty n) (.ty n)
 | tup {a:Addr}{xs:List V}{l:List PV} (h:F a=some (.tup xs)) (hl:xs.length=l.length) (hr:∀ (j:Nat) x p,xs[j]?=some x->l[j]?=some p->Rep K F x p):Rep K F (.ref a) (.tup l)
 | lst {a:Addr}{xs:List V}{l:List PV} (h:SqL K F a xs) (hl:xs.length=l.length) (hr:∀ (j:Nat) x p,xs[j]?=some x->l[j]?=some p->Rep K F x p):Rep K F (.ref a) (.lst l)
 | dk {a:Addr}{xs:List (Key×V)}{l:List (Key×PV)} (h:Rd F a (.dK xs)) (hl:xs.map (·.1)=l.map (·.1)) (hr:∀ (j:Nat) x p,xs[j]?=some x->l[j]?=some p->Rep K F x.2 p.2):Rep K F (.ref a) (.dk l)
 | dt {a:Addr}{xs:List (List Key×V)}{l:List (List Key×PV)} (h:Rd F a (.dT xs)) (hl:xs.map (·.1)=l.map (·.1)) (hr:∀ (j:Nat) x p,xs[j]?=some x->l[j]?=some p->Rep K F x.2 p.2):Rep K F (.ref a) (.dt l)
 | exc {a C dx:Addr}{c:Str}{xs:List (Str×V)}{l:List (Str×PV)} (nm:XNm K C c) (h:F a=some (XO a C (some dx))) (hd:F dx=some (.xd xs)) (hl:xs.map (·.1)=l.map (·.1)) (hr:∀ (j:Nat) x p,xs[j]?=some x->l[j]?=some p->Rep K F x.2 p.2):Rep K F (.ref a) (.exc c l)
 | exc0 {a C:Addr}{c:Str} (nm:XNm K C c) (h:F a=some (XO a C none)):Rep K F (.ref a) (.exc c [])
def bC (K:PySem.W.Frag) (F:Hp) (xs:List V) (l:List PV):Prop:=xs.length=l.length∧∀ (j:Nat) x p,xs[j]?=some x->l[j]?=some p->Rep K F x p
section
variable {K:PySem.W.Frag}{F F' H H':Hp}{v:V}{p:PV}{xs ys:List V}{l m:List PV}
theorem _root_.L2.Rd.same {F F':Hp}{a:Addr}{u:HO} (h:Rd F a u) (s:aR F F'):Rd F' a u:=h.imp (s _ _) fun ⟨o,e⟩=>⟨o,s _ _ e⟩
theorem Rep.up (h:Rep K F v p) (s:aR F F'):Rep K F' v p:=by
 induction h with
 | non=>exact .non
 | bl=>exact .bl
 | int=>exact .int
 | str=>exact .str
 | ty=>exact .ty
 | tup h hl _ ih=>exact .tup (s _ _ h) hl ih
 | lst h hl _ ih=>exact .lst (s.seq h) hl ih
 | dk h hl _ ih=>exact .dk (h.same s) hl ih
 | dt h hl _ ih=>exact .dt (h.same s) hl ih
 | exc nm h hd hl _ ih=>exact .exc nm (s _ _ h) (s _ _ hd) hl ih
 | exc0 nm h=>exact .exc0 nm (s _ _ h)
theorem bC.up (h:bC K F xs l) (s:aR F F'):bC K F' xs l:=⟨h.1,fun j x p a b=>(h.2 j x p a b).up s⟩
theorem Rep.free (h:Rep K F v p) (hf:p.flat=true):Rep K F' v p:=by
 cases h with
 | non=>exact .non
 | bl=>exact .bl
 | int=>exact .int
 | str=>exact .str
 | ty=>exact .ty
 | tup=>cases hf
 | lst=>cases hf
 | dk=>cases hf
 | dt=>cases hf
 | exc=>cases hf
 | exc0=>cases hf
theorem bC.nil:bC K F [] []:=⟨rfl,fun j x p h=>by simp at h⟩
theorem bC.cons (h:Rep K F v p) (t:bC K F xs l):bC K F (v::xs) (p::l):=by
 refine ⟨by simp [t.1],fun j x q a b=>?_⟩
 cases j with
 | zero=>simp at a b;subst a b;exact h
 | succ j=>exact t.2 j x q (by simpa using a) (by simpa using b)
theorem bC.append (h:bC K F xs l) (t:bC K F ys m):bC K F (xs++ys) (l++m):=by
 refine ⟨by rw [List.length_append,List.length_append,h.1,t.1],fun j x p a b=>?_⟩
 by_cases hj:j < xs.length
 ·rw [Zah hj] at a
  rw [Zah (by rw [←h.1];exact hj)] at b
  exact h.2 j x p a b
 ·rw [Zao (by lia)] at a
  rw [Zao (by rw [←h.1];lia),←h.1] at b
  exact t.2 _ x p a b
theorem bC.snoc (h:bC K F xs l) (t:Rep K F v p):bC K F (xs++[v]) (l++[p]):=h.append (bC.nil.cons t)
theorem bC.get (h:bC K F xs l) {j:Nat} (e:l[j]?=some p):∃ x,xs[j]?=some x∧Rep K F x p:=by
 have hj:j < xs.length:=by rw [h.1];exact (Zab.mp e).1
 exact ⟨xs[j],by simp [hj],h.2 j _ p (by simp [hj]) e⟩
theorem bC.got (h:bC K F xs l) {j:Nat} (e:xs[j]?=some v):∃ p,l[j]?=some p∧Rep K F v p:=by
 have hj:j < l.length:=by rw [←h.1];exact (Zab.mp e).1
 exact ⟨l[j],by simp [hj],h.2 j v _ e (by simp [hj])⟩
theorem bC.take (h:bC K F xs l) (n:Nat):bC K F (xs.take n) (l.take n):=by
 refine ⟨by simp [h.1],fun j x p a b=>?_⟩
 rw [List.getElem?_take] at a b
 split at a
 ·rename_i hj
  rw [if_pos hj] at b
  exact h.2 j x p a b
 ·cases a
theorem bC.drop (h:bC K F xs l) (n:Nat):bC K F (xs.drop n) (l.drop n):=by
 refine ⟨by simp [h.1],fun j x p a b=>?_⟩
 rw [List.getElem?_drop] at a b
 exact h.2 _ x p a b
theorem bC.dz (h:bC K F xs (p::l)):∃ v ys,xs=v::ys∧Rep K F v p∧bC K F ys l:=by
 obtain ⟨hl,hr⟩:=h
 match xs,hl,hr with
 | [],hl,_=>simp at hl
 | v::ys,hl,hr=>exact ⟨v,ys,rfl,hr 0 v p rfl rfl,by simpa using hl,fun j x q a b=>hr (j+1) x q (by simpa using a) (by simpa using b)⟩
theorem bC.iH (h:bC K F xs []):xs=[]:=by
 have:=h.1
 simpa using this
theorem bC.zU:∀ (ns:List Int),bC K F (ns.map V.int) (ns.map PV.int)
 | []=>.nil
 | n::ns=>(bC.zU ns).cons .int
theorem Rep.aZ {i:Int} (h:Rep K F v (.int i)):v=.int i:=by cases h;rfl
theorem Rep.jZ {b:Bool} (h:Rep K F v (.bl b)):v=.bl b:=by cases h;rfl
theorem Rep.bV {z:Str} (h:Rep K F v (.str z)):v=.str z:=by cases h;rfl
theorem Rep.fB (h:Rep K F v .non):v=.non:=by cases h;rfl
theorem Rep.cZ (h:Rep K F v (.tup l)):∃ a xs,v=.ref a∧SqT K F a xs∧bC K F xs l:=by cases h with | tup h hl hr=>exact ⟨_,_,rfl,SqT.of h,hl,hr⟩
theorem Rep.qW (h:Rep K F v (.tup l)):∃ a xs,v=.ref a∧F a=some (.tup xs)∧bC K F xs l:=by cases h with | tup h hl hr=>exact ⟨_,_,rfl,h,hl,hr⟩
theorem Rep.b8 (h:Rep K F v (.lst l)):∃ a xs,v=.ref a∧SqL K F a xs∧bC K F xs l:=by cases h with | lst h hl hr=>exact ⟨_,_,rfl,h,hl,hr⟩
end
structure Cf where
 io:Addr->Prop
 nw:Prop
 H0:Hp
 F0:Hp
 E:XK
inductive Sl where
 | sh (p:PV) | ow (p:PV) | dp (p:PV)
noncomputable abbrev Rho:=List (Option Sl)
def Own (K:PySem.W.Frag) (F H:Hp) (a:Addr):PV->Prop
 | .lst l=>∃ xs,H a=some (.lst xs)∧bC K F xs l
 | .dk l=>∃ xs,H a=some (.dK xs)∧xs.map (·.1)=l.map (·.1)∧∀ (j:Nat) x p,xs[j]?=some x->l[j]?=some p->Rep K F x.2 p.2
 | .dt l=>∃ xs,H a=some (.dT xs)∧xs.map (·.1)=l.map (·.1)∧∀ (j:Nat) x p,xs[j]?=some x->l[j]?=some p->Rep K F x.2 p.2
 | _=>False
inductive Dp (K:PySem.W.Frag) (F H:Hp):(Addr->Prop)->V->PV->Prop
 | fr {P:Addr->Prop}{v:V}{p:PV} (h:Rep K F v p) (st:p.still=true):Dp K F H P v p
 | lst {P:Addr->Prop}{S:Nat->Addr->Prop}{a:Addr}{xs:List V}{l:List PV} (h:H a=some (.lst xs)) (hp:P a) (hs:∀ j b,S j b->P b∧b≠a) (dj:∀ i j b,S i b->S j b->i=j) (hl:xs.length=l.length)
   (hr:∀ (j:Nat) x p,xs[j]?=some x->l[j]?=some p->Dp K F H (S j) x p):Dp K F H P (.ref a) (.lst l)
 | tup {P:Addr->Prop}{S:Nat->Addr->Prop}{a:Addr}{xs:List V}{l:List PV} (h:H a=some (.tup xs)) (hs:∀ j b,S j b->P b) (dj:∀ i j b,S i b->S j b->i=j) (hl:xs.length=l.length)
   (hr:∀ (j:Nat) x p,xs[j]?=some x->l[j]?=some p->Dp K F H (S j) x p):Dp K F H P (.ref a) (.tup l)
 | dk {P:Addr->Prop}{S:Nat->Addr->Prop}{a:Addr}{xs:List (Key×V)}{l:List (Key×PV)} (h:H a=some (.dK xs)) (hp:P a) (hs:∀ j b,S j b->P b∧b≠a) (dj:∀ i j b,S i b->S j b->i=j) (hl:xs.map (·.1)=l.map (·.1))
   (hr:∀ (j:Nat) x p,xs[j]?=some x->l[j]?=some p->Dp K F H (S j) x.2 p.2):Dp K F H P (.ref a) (.dk l)
 | dt {P:Addr->Prop}{S:Nat->Addr->Prop}{a:Addr}{xs:List (List Key×V)}{l:List (List Key×PV)} (h:H a=some (.dT xs)) (hp:P a) (hs:∀ j b,S j b->P b∧b≠a) (dj:∀ i j b,S i b->S j b->i=j) (hl:xs.map (·.1)=l.map (·.1))
   (hr:∀ (j:Nat) x p,xs[j]?=some x->l[j]?=some p->Dp K F H (S j) x.2 p.2):Dp K F H P (.ref a) (.dt l)
section
variable {K:PySem.W.Frag}{F F' H H':Hp}{v:V}{p:PV}{P P':Addr->Prop}
theorem Dp.mono (h:Dp K F H P v p) (m:∀ b,P b->P' b):Dp K F H P' v p:=by
 cases h with
 | fr h st=>exact .fr h st
 | lst h hp hs dj hl hr=>exact .lst h (m _ hp) (fun j b q=>⟨m _ (hs j b q).1,(hs j b q).2⟩) dj hl hr
 | tup h hs dj hl hr=>exact .tup h (fun j b q=>m _ (hs j b q)) dj hl hr
 | dk h hp hs dj hl hr=>exact .dk h (m _ hp) (fun j b q=>⟨m _ (hs j b q).1,(hs j b q).2⟩) dj hl hr
 | dt h hp hs dj hl hr=>exact .dt h (m _ hp) (fun j b q=>⟨m _ (hs j b q).1,(hs j b q).2⟩) dj hl hr
theorem Dp.up (h:Dp K F H P v p) (sf:aR F F') (sh:∀ b o,P b->H b=some o->H' b=some o) (ht:∀ b ys,H b=some (.tup ys)->H' b=some (.tup ys)):Dp K F' H' P v p:=by
 induction h with
 | fr h st=>exact .fr (h.up sf) st
 | lst h hp hs dj hl _ ih=>exact .lst (sh _ _ hp h) hp hs dj hl fun j x p e1 e2=>ih j x p e1 e2 fun b o q=>sh b o (hs j b q).1
 | tup h hs dj hl _ ih=>exact .tup (ht _ _ h) hs dj hl fun j x p e1 e2=>ih j x p e1 e2 fun b o q=>sh b o (hs j b q)
 | dk h hp hs dj hl _ ih=>exact .dk (sh _ _ hp h) hp hs dj hl fun j x p e1 e2=>ih j x p e1 e2 fun b o q=>sh b o (hs j b q).1
 | dt h hp hs dj hl _ ih=>exact .dt (sh _ _ hp h) hp hs dj hl fun j x p e1 e2=>ih j x p e1 e2 fun b o q=>sh b o (hs j b q).1
theorem Dp.seen (h:Dp K F H P v p) (sf:aR F F') (sh:∀ b o,P b->H b=some o->F' b=some o) (ht:∀ b ys,H b=some (.tup ys)->F' b=some (.tup ys)):Rep K F' v p:=by
 induction h with
 | fr h st=>exact h.up sf
 | lst h hp hs dj hl _ ih=>exact .lst (SqL.of (sh _ _ hp h)) hl fun j x p e1 e2=>ih j x p e1 e2 fun b o q=>sh b o (hs j b q).1
 | tup h hs dj hl _ ih=>exact .tup (ht _ _ h) hl fun j x p e1 e2=>ih j x p e1 e2 fun b o q=>sh b o (hs j b q)
 | dk h hp hs dj hl _ ih=>exact .dk (.inl (sh _ _ hp h)) hl fun j x p e1 e2=>ih j x p e1 e2 fun b o q=>sh b o (hs j b q).1
 | dt h hp hs dj hl _ ih=>exact .dt (.inl (sh _ _ hp h)) hl fun j x p e1 e2=>ih j x p e1 e2 fun b o q=>sh b o (hs j b q).1
end
structure RD (K:PySem.W.Frag) (C:Cf) (F H:Hp) (σ:St) (ρ:Rho) (P:Nat->Addr->Prop):Prop where
 own:∀ i b,P i b->F b=none∧(∃ o,H b=some o∧∀ ys,o≠.tup ys)∧C.nw∧C.H0 b=none
 dis:∀ i j b,P i b->P j b->i=j
 ow:∀ (i j:Nat) q b,P i b->ρ[j]?=some (some (.ow q))->σ[j]?≠some (some (.ref b))
 dp:∀ (i:Nat) p,ρ[i]?=some (some (.dp p))->∃ v,σ[i]?=some (some v)∧Dp K F H (P i) v p
theorem RD.no {K:PySem.W.Frag}{C:Cf}{F H:Hp}{σ:St}{ρ:Rho} (h:∀ (i:Nat) p,ρ[i]?≠some (some (.dp p))):RD K C F H σ ρ (fun _ _=>False) :=
 ⟨fun _ _ q=>q.elim,fun _ _ _ q=>q.elim,fun _ _ _ _ q=>q.elim,fun i p e=>absurd e (h i p)⟩
def Frz (H:Hp) (b:Addr) (o:HO):Prop:=H b=none∨∃ ys,o=.tup ys
structure RB (C:Cf) (F H:Hp):Prop where
 sub:aR F H
 keep:∀ b o,C.H0 b=some o->¬C.io b->H b=some o
 new:∀ b o,F b=some o->C.F0 b=some o∨Frz C.H0 b o
 ios:∀ b,C.io b->H b≠none∧C.H0 b≠none
structure RE (K:PySem.W.Frag) (C:Cf) (F H:Hp) (σ:St) (ρ:Rho):Prop where
 rb:RB C F H
 len:σ.length=ρ.length
 sh:∀ (i:Nat) p,ρ[i]?=some (some (.sh p))->∃ v,σ[i]?=some (some v)∧Rep K F v p
 ow:∀ (i:Nat) p,ρ[i]?=some (some (.ow p))->∃ a,σ[i]?=some (some (.ref a))∧Own K F H a p∧F a=none∧(C.io a∨(C.nw∧C.H0 a=none))
 dis:∀ (i j:Nat) p q a,ρ[i]?=some (some (.ow p))->ρ[j]?=some (some (.ow q))->σ[i]?=some (some (.ref a))->σ[j]?=some (some (.ref a))->i=j
 dd:∃ P,RD K C F H σ ρ P
structure Up (F H F' H':Hp):Prop where
 ff:aR F F'
 hh:aR H H'
 fr:∀ b o,F' b=some o->F b=some o∨Frz H b o
 fh:aR F' H'
section
variable {K:PySem.W.Frag}{C:Cf}{F F1 F2 F' H H1 H2 H':Hp}{σ σ':St}{ρ ρ':Rho}{a:Addr}{p:PV}{v:V}
theorem Up.refl (s:aR F H):Up F H F H:=⟨aR.refl _,aR.refl _,fun _ _ h=>.inl h,s⟩
theorem Up.trans (a:Up F H F1 H1) (b:Up F1 H1 F2 H2):Up F H F2 H2 :=
 ⟨a.ff.trans b.ff,a.hh.trans b.hh,fun c o h=>(b.fr c o h).elim (a.fr c o) fun n=>.inr (n.imp (fun n=>a.hh.free n) id),b.fh⟩
theorem Own.ne (h:Own K F H a p):∃ o,H a=some o:=by
 cases p with
 | lst l=>obtain ⟨xs,e,_⟩:=h;exact ⟨_,e⟩
 | dk l=>obtain ⟨xs,e,_⟩:=h;exact ⟨_,e⟩
 | dt l=>obtain ⟨xs,e,_⟩:=h;exact ⟨_,e⟩
 | _=>exact h.elim
theorem Own.ur {ys:List V} (h:Own K F H a p) (e:H a=some (.tup ys)):False:=by
 cases p with
 | lst l=>obtain ⟨xs,e',_⟩:=h;rw [e] at e';cases e'
 | dk l=>obtain ⟨xs,e',_⟩:=h;rw [e] at e';cases e'
 | dt l=>obtain ⟨xs,e',_⟩:=h;rw [e] at e';cases e'
 | _=>exact h.elim
theorem RD.up {P:Nat->Addr->Prop} (d:RD K C F H σ ρ P) (u:Up F H F' H'):RD K C F' H' σ ρ P where
 own:=fun i b q=>by
  obtain ⟨a1,⟨o',a2,a3⟩,a4⟩:=d.own i b q
  refine ⟨?_,⟨o',u.hh _ _ a2,a3⟩,a4⟩
  cases e:F' b with
  | none=>rfl
  | some o =>
   rcases u.fr b o e with z | z | ⟨ys,z⟩
   ·rw [a1] at z;cases z
   ·rw [a2] at z;cases z
   ·subst z
    have w:=u.fh _ _ e
    rw [u.hh _ _ a2] at w
    cases w
    exact absurd rfl (a3 ys)
 dis:=d.dis
 ow:=d.ow
 dp:=fun i p e=>let ⟨v,e1,e2⟩:=d.dp i p e;⟨v,e1,e2.up u.ff (fun b o _ q=>u.hh b o q) fun b ys q=>u.hh b _ q⟩
theorem Own.up (h:Own K F H a p) (sf:aR F F') (sh:∀ o,H a=some o->H' a=some o):Own K F' H' a p:=by
 cases p with
 | lst l=>obtain ⟨xs,e,r⟩:=h;exact ⟨xs,sh _ e,r.up sf⟩
 | dk l=>obtain ⟨xs,e,r,q⟩:=h;exact ⟨xs,sh _ e,r,fun j x p a b=>(q j x p a b).up sf⟩
 | dt l=>obtain ⟨xs,e,r,q⟩:=h;exact ⟨xs,sh _ e,r,fun j x p a b=>(q j x p a b).up sf⟩
 | _=>exact h.elim
theorem Own.frozen (h:Own K F H a p) (hn:F a=none):∃ o,H a=some o∧Rep K (upd F a o) (.ref a) p:=by
 have s:∀ o,aR F (upd F a o):=fun o=>dI hn
 cases p with
 | lst l=>obtain ⟨xs,e,r⟩:=h;exact ⟨_,e,.lst (SqL.of aL) r.1 (r.up (s _)).2⟩
 | dk l=>obtain ⟨xs,e,r,q⟩:=h;exact ⟨_,e,.dk (.inl aL) r fun j x p a b=>(q j x p a b).up (s _)⟩
 | dt l=>obtain ⟨xs,e,r,q⟩:=h;exact ⟨_,e,.dt (.inl aL) r fun j x p a b=>(q j x p a b).up (s _)⟩
 | _=>exact h.elim
theorem Own.lent (h:Own K F H a p) (s:aR F H):Rep K H (.ref a) p:=by
 cases p with
 | lst l=>obtain ⟨xs,e,r⟩:=h;exact .lst (SqL.of e) r.1 (r.up s).2
 | dk l=>obtain ⟨xs,e,r,q⟩:=h;exact .dk (.inl e) r fun j x p a b=>(q j x p a b).up s
 | dt l=>obtain ⟨xs,e,r,q⟩:=h;exact .dt (.inl e) r fun j x p a b=>(q j x p a b).up s
 | _=>exact h.elim
theorem RB.up (h:RB C F H) (u:Up F H F' H'):RB C F' H' where
 sub:=u.fh
 keep:=fun b o e n=>u.hh _ _ (h.keep b o e n)
 new:=fun b o e=>(u.fr b o e).elim (h.new b o) fun n=>.inr (n.imp (fun n=>by
  cases q:C.H0 b with
  | none=>rfl
  | some o' =>
   by_cases hi:C.io b
   ·exact absurd n (h.ios b hi).1
   ·rw [h.keep b o' q hi] at n;cases n) id)
 ios:=fun b hb=>⟨fun n=>(h.ios b hb).1 (u.hh.free n),(h.ios b hb).2⟩
theorem RB.ut (h:RB C F H) {b:Addr} (n:H b=none):C.H0 b=none:=by
 cases q:C.H0 b with
 | none=>rfl
 | some o' =>
  by_cases hi:C.io b
  ·exact absurd n (h.ios b hi).1
  ·rw [h.keep b o' q hi] at n;cases n
theorem RE.up (h:RE K C F H σ ρ) (u:Up F H F' H'):RE K C F' H' σ ρ where
 rb:=h.rb.up u
 len:=h.len
 sh:=fun i p e=>let ⟨v,e1,e2⟩:=h.sh i p e;⟨v,e1,e2.up u.ff⟩
 ow:=fun i p e=>by
  obtain ⟨a,e1,e2,e3,e4⟩:=h.ow i p e
  refine ⟨a,e1,e2.up u.ff fun o q=>u.hh _ _ q,?_,e4⟩
  cases q:F' a with
  | none=>rfl
  | some o =>
   obtain ⟨o',eo⟩:=e2.ne
   rcases u.fr a o q with z | z | ⟨ys,z⟩
   ·rw [e3] at z;cases z
   ·rw [eo] at z;cases z
   ·subst z
    exact absurd (u.fh _ _ q) (fun w=>by rw [u.hh _ _ eo] at w;cases w;exact e2.ur eo)
 dis:=h.dis
 dd:=let ⟨P,d⟩:=h.dd;⟨P,d.up u⟩
theorem get_set {α:Type}{l:List α}{i j:Nat}{x y:α} (h:(l.set i x)[j]?=some y):(i=j∧x=y)∨(i≠j∧l[j]?=some y):=by
 rw [List.getElem?_set] at h
 by_cases e:i=j
 ·subst e
  rw [if_pos rfl] at h
  split at h
  ·exact .inl ⟨rfl,Zaa h⟩
  ·cases h
 ·rw [if_neg e] at h
  exact .inr ⟨e,h⟩
theorem cJ {α:Type}{l:List α}{j:Nat}{y:α} (h:l[j]?=some y):j < l.length:=(Zab.mp h).1
theorem RE.set (h:RE K C F H σ ρ) (i:Nat) (r:Rep K F v p):RE K C F H (σ.set i (some v)) (ρ.set i (some (.sh p))) where
 rb:=h.rb
 len:=by simp [h.len]
 sh:=fun j q e=>by
  rcases get_set e with ⟨e1,e2⟩ | ⟨e1,e2⟩
  ·subst e1
   cases e2
   have:=cJ e
   exact ⟨v,by rw [ZaP (by rw [h.len];simpa using this)],r⟩
  ·obtain ⟨w,e3,e4⟩:=h.sh j q e2
   exact ⟨w,by rw [Zam e1];exact e3,e4⟩
 ow:=fun j q e=>by
  rcases get_set e with ⟨e1,e2⟩ | ⟨e1,e2⟩
  ·cases e2
  ·obtain ⟨w,e3,e4⟩:=h.ow j q e2
   exact ⟨w,by rw [Zam e1];exact e3,e4⟩
 dis:=fun j k q q' a e e' f f'=>by
  rcases get_set e with ⟨e1,e2⟩ | ⟨e1,e2⟩
  ·cases e2
  ·rcases get_set e' with ⟨e1',e2'⟩ | ⟨e1',e2'⟩
   ·cases e2'
   ·rw [Zam e1] at f
    rw [Zam e1'] at f'
    exact h.dis j k q q' a e2 e2' f f'
 dd:=let ⟨P,d⟩:=h.dd;⟨P,d.own,d.dis,fun j k q b z e f=>by
   rcases get_set e with ⟨e1,e2⟩ | ⟨e1,e2⟩
   ·cases e2
   ·rw [Zam e1] at f;exact d.ow j k q b z e2 f,fun j q e=>by
   rcases get_set e with ⟨e1,e2⟩ | ⟨e1,e2⟩
   ·cases e2
   ·obtain ⟨w,e3,e4⟩:=d.dp j q e2
    exact ⟨w,by rw [Zam e1];exact e3,e4⟩⟩
theorem RE.Vj (h:RE K C F H σ ρ) (i:Nat) (r:Own K F H a p) (hn:F a=none) (nw:C.nw) (h0:C.H0 a=none) (ha:∀ (j:Nat) q,ρ[j]?=some (some (.ow q))->j≠i->σ[j]?≠some (some (.ref a))) (hd:∃ P,RD K C F H σ ρ P∧∀ j,¬P j a) :
  RE K C F H (σ.set i (some (.ref a))) (ρ.set i (some (.ow p))) where
 rb:=h.rb
 len:=by simp [h.len]
 sh:=fun j q e=>by
  rcases get_set e with ⟨e1,e2⟩ | ⟨e1,e2⟩
  ·cases e2
  ·obtain ⟨w,e3,e4⟩:=h.sh j q e2
   exact ⟨w,by rw [Zam e1];exact e3,e4⟩
 ow:=fun j q e=>by
  rcases get_set e with ⟨e1,e2⟩ | ⟨e1,e2⟩
  ·subst e1
   cases e2
   have:=cJ e
   exact ⟨a,by rw [ZaP (by rw [h.len];simpa using this)],r,hn,.inr ⟨nw,h0⟩⟩
  ·obtain ⟨w,e3,e4⟩:=h.ow j q e2
   exact ⟨w,by rw [Zam e1];exact e3,e4⟩
 dis:=fun j k q q' b e e' f f'=>by
  rcases get_set e with ⟨e1,e2⟩ | ⟨e1,e2⟩
  ·rcases get_set e' with ⟨e1',e2'⟩ | ⟨e1',e2'⟩
   ·exact e1.symm.trans e1'
   ·subst e1
    have:=cJ e
    rw [ZaP (by rw [h.len];simpa using this)] at f
    cases f
    rw [Zam e1'] at f'
    exact absurd f' (ha k q' e2' (Za7 e1'))
  ·rcases get_set e' with ⟨e1',e2'⟩ | ⟨e1',e2'⟩
   ·subst e1'
    have:=cJ e'
    rw [ZaP (by rw [h.len];simpa using this)] at f'
    cases f'
    rw [Zam e1] at f
    exact absurd f (ha j q e2 (Za7 e1))
   ·rw [Zam e1] at f
    rw [Zam e1'] at f'
    exact h.dis j k q q' b e2 e2' f f'
 dd:=let ⟨P,d,na⟩:=hd;⟨P,d.own,d.dis,fun j k q b z e f=>by
   rcases get_set e with ⟨e1,e2⟩ | ⟨e1,e2⟩
   ·subst e1
    have:=cJ e
    rw [ZaP (by rw [h.len];simpa using this)] at f
    cases f
    exact na j z
   ·rw [Zam e1] at f;exact d.ow j k q b z e2 f,fun j q e=>by
   rcases get_set e with ⟨e1,e2⟩ | ⟨e1,e2⟩
   ·cases e2
   ·obtain ⟨w,e3,e4⟩:=d.dp j q e2
    exact ⟨w,by rw [Zam e1];exact e3,e4⟩⟩
theorem RE.RJ (h:RE K C F H σ ρ) (n:H a=none) (u:Up F H F' H'):∃ P,RD K C F' H' σ ρ P∧∀ j,¬P j a:=by
 obtain ⟨P,d⟩:=h.dd
 exact ⟨P,d.up u,fun j z=>by obtain ⟨_,⟨o,e,_⟩,_⟩:=d.own j a z;rw [n] at e;cases e⟩
theorem RE.apart (h:RE K C F H σ ρ) (n:H a=none) (j:Nat) (q:PV) (e:ρ[j]?=some (some (.ow q))):σ[j]?≠some (some (.ref a)):=fun f=>by
 obtain ⟨b,e1,e2,_⟩:=h.ow j q e
 rw [e1] at f
 cases f
 obtain ⟨o,eo⟩:=e2.ne
 rw [eo] at n;cases n
theorem RE.write (h:RE K C F H σ ρ) {i:Nat}{o:HO}{p':PV} (e:ρ[i]?=some (some (.ow p))) (ea:σ[i]?=some (some (.ref a))) (r:Own K F (upd H a o) a p') :
  RE K C F (upd H a o) σ (ρ.set i (some (.ow p'))):=by
 obtain ⟨a',e1,e2,e3,e4⟩:=h.ow i p e
 rw [ea] at e1
 cases e1
 have ne:∀ b u,F b=some u->b≠a:=fun b u q z=>by rw [z,e3] at q;cases q
 refine ⟨⟨fun b u q=>by rw [aG (ne b u q)];exact h.rb.sub b u q,fun b u q n=>?_,h.rb.new,fun b hb=>⟨?_,(h.rb.ios b hb).2⟩⟩,by simp [h.len],fun j q f=>?_,fun j q f=>?_,fun j k q q' b f f' g g'=>?_,?_⟩
 ·have:b≠a:=fun z=>by
   subst z
   rcases e4 with z | z
   ·exact n z
   ·rw [z.2] at q;cases q
  rw [aG this];exact h.rb.keep b u q n
 ·by_cases hba:b=a
  ·subst hba;rw [aL];simp
  ·rw [aG hba];exact (h.rb.ios b hb).1
 ·rcases get_set f with ⟨e1,f2⟩ | ⟨e1,f2⟩
  ·cases f2
  ·exact h.sh j q f2
 ·rcases get_set f with ⟨e1,f2⟩ | ⟨e1,f2⟩
  ·subst e1
   cases f2
   exact ⟨a,ea,r,e3,e4⟩
  ·obtain ⟨b,g1,g2,g3,g4⟩:=h.ow j q f2
   refine ⟨b,g1,g2.up (aR.refl _) fun u qq=>?_,g3,g4⟩
   have:b≠a:=fun z=>by subst z;exact e1 (h.dis i j p q b e f2 ea g1)
   rw [aG this];exact qq
 ·have key:∀ (j:Nat) q,(ρ.set i (some (Sl.ow p')))[j]?=some (some (.ow q))->∃ q0,ρ[j]?=some (some (.ow q0)):=fun j q f=>by
   rcases get_set f with ⟨e1,f2⟩ | ⟨e1,f2⟩
   ·subst e1;exact ⟨p,e⟩
   ·exact ⟨q,f2⟩
  obtain ⟨q0,k0⟩:=key j q f
  obtain ⟨q1,k1⟩:=key k q' f'
  exact h.dis j k q0 q1 b k0 k1 g g'
 ·obtain ⟨P,d⟩:=h.dd
  have na:∀ j b,P j b->b≠a:=fun j b z e'=>by subst e';exact d.ow j i p b z e ea
  refine ⟨P,fun j b z=>?_,d.dis,fun j k q b z f g=>?_,fun j q f=>?_⟩
  ·rw [aG (na j b z)];exact d.own j b z
  ·rcases get_set f with ⟨f1,f2⟩ | ⟨f1,f2⟩
   ·subst f1;exact d.ow j i p b z e g
   ·exact d.ow j k q b z f2 g
  ·rcases get_set f with ⟨f1,f2⟩ | ⟨f1,f2⟩
   ·cases f2
   ·obtain ⟨w,e3,e5⟩:=d.dp j q f2
    exact ⟨w,e3,e5.up (aR.refl _) (fun b o z q=>by rw [aG (na j b z)];exact q) fun b ys q=>by rw [aG fun z=>by subst z;exact e2.ur q];exact q⟩
end
structure Cg extends Cf where
 XR:Hp->Value->Option Addr->PV->Prop
def PX (C:Cg) (F:Hp) (z:PV):Prop:=∀ e d F' H',aR F F'->RB C.toCf F' H'->C.XR F' e d z->C.E e d H'
def Pr {α:Type} (C:Cg) (F:Hp) (ok:α->Prop):Res α->Prop
 | .ok a=>ok a
 | .ex z=>PX C F z
noncomputable abbrev Rel (α:Type):=Hp->Hp->V->α->Prop
def aF (K:PySem.W.Frag):Rel PV:=fun F _ v p=>Rep K F v p
def aH (K:PySem.W.Frag):Rel PV:=fun _ H v p=>Rep K H v p
def aV (K:PySem.W.Frag):Rel (List PV):=fun F H v l=>∃ a xs,v=.ref a∧SqL K H a xs∧bC K F xs l
def UpM {α:Type} (A:Rel α):Prop:=∀ F H F' H' v a,Up F H F' H'->A F H v a->A F' H' v a
theorem aF.up {K:PySem.W.Frag}:UpM (aF K):=fun _ _ _ _ _ _ u h=>Rep.up h u.ff
theorem aH.up {K:PySem.W.Frag}:UpM (aH K):=fun _ _ _ _ _ _ u h=>Rep.up h u.hh
theorem aV.up {K:PySem.W.Frag}:UpM (aV K):=fun _ _ _ _ _ _ u h=>let ⟨a,xs,e,s,r⟩:=h;⟨a,xs,e,u.hh.seq s,r.up u.ff⟩
noncomputable abbrev Fn (α:Type):=Rho->Option (Res α)
def MJ {α:Type} (K:PySem.W.Frag) (C:Cg) (A:Rel α) (te:TE) (f:Fn α):Prop :=
 ∀ F H σ ρ Q r,RE K C.toCf F H σ ρ->f ρ=some r->Pr C F (fun a=>∀ v F' H',Up F H F' H'->A F' H' v a->Q v H') r->te σ H Q
def MT (K:PySem.W.Frag) (C:Cg) (tt:TT) (f:Fn Bool):Prop :=
 ∀ F H σ ρ Q r,RE K C.toCf F H σ ρ->f ρ=some r->Pr C F (fun b=>∀ F' H',Up F H F' H'->Q b H') r->tt σ H Q
def MA (K:PySem.W.Frag) (C:Cg) (ta:TA) (f:Fn (List PV)):Prop :=
 ∀ F H σ ρ Q r,RE K C.toCf F H σ ρ->f ρ=some r->Pr C F (fun l=>∀ xs F' H',Up F H F' H'->bC K F' xs l->Q xs H') r->ta σ H Q
def MAL (K:PySem.W.Frag) (C:Cg) (ta:TA) (f:Fn (List PV)):Prop :=
 ∀ F H σ ρ Q r,RE K C.toCf F H σ ρ->f ρ=some r->Pr C F (fun l=>∀ xs F' H',Up F H F' H'->bC K H' xs l->Q xs H') r->ta σ H Q
def MO (K:PySem.W.Frag) (C:Cg) (te:TE) (f:Fn PV):Prop :=
 ∀ F H σ ρ Q r,RE K C.toCf F H σ ρ->f ρ=some r->Pr C F (fun p=>∀ a F' H',Up F H F' H'->H a=none->F' a=none->Own K F' H' a p->Q (.ref a) H') r->te σ H Q
theorem bQ {α β:Type}{x:Option (Res α)}{k:α->Option (Res β)}{r:Res β} (h:bnd x k=some r):(∃ z,x=some (.ex z)∧r=.ex z)∨∃ a,x=some (.ok a)∧k a=some r:=by
 match x,h with
 | some (.ok a),h=>exact .inr ⟨a,rfl,h⟩
 | some (.ex z),h=>exact .inl ⟨z,rfl,(Zaa h).symm⟩
theorem PX.up {C:Cg}{F F1:Hp}{z:PV} (h:PX C F z) (s:aR F F1):PX C F1 z:=fun e d F' H' a b c=>h e d F' H' (s.trans a) b c
theorem Pr.mono {α:Type}{C:Cg}{F F1:Hp}{ok ok':α->Prop}{r:Res α} (h:Pr C F ok r) (s:aR F F1) (k:∀ a,ok a->ok' a):Pr C F1 ok' r:=by
 cases r with
 | ok a=>exact k a h
 | ex z=>exact PX.up h s
section
variable {K:PySem.W.Frag}{C:Cg}{α β γ:Type}{A:Rel α}{B:Rel β}{D:Rel γ}{ta tb te:TE}{f:Fn α}{g:Fn β}{F H:Hp}{σ:St}{ρ:Rho}{Q:VK}
theorem MJ.run {ok:β->Prop}{k:α->Option (Res β)}{r:Res β} (h:MJ K C A ta f) (R:RE K C.toCf F H σ ρ) (hb:bnd (f ρ) k=some r) (P:Pr C F ok r)
  (go:∀ p v F1 H1,k p=some r->Up F H F1 H1->A F1 H1 v p->Q v H1):ta σ H Q:=by
 rcases bQ hb with ⟨z,e,rfl⟩ | ⟨p,e,hk⟩
 ·exact h F H σ ρ Q _ R e P
 ·exact h F H σ ρ Q _ R e fun v F1 H1 u a=>go p v F1 H1 hk u a
theorem MT.run {tt:TT}{f:Fn Bool}{Q:Bool->Hp->Prop}{ok:β->Prop}{k:Bool->Option (Res β)}{r:Res β} (h:MT K C tt f) (R:RE K C.toCf F H σ ρ) (hb:bnd (f ρ) k=some r) (P:Pr C F ok r)
  (go:∀ b F1 H1,k b=some r->Up F H F1 H1->Q b H1):tt σ H Q:=by
 rcases bQ hb with ⟨z,e,rfl⟩ | ⟨p,e,hk⟩
 ·exact h F H σ ρ Q _ R e P
 ·exact h F H σ ρ Q _ R e fun F1 H1 u=>go p F1 H1 hk u
theorem MA.run {t:TA}{f:Fn (List PV)}{Q:List V->Hp->Prop}{ok:β->Prop}{k:List PV->Option (Res β)}{r:Res β} (h:MA K C t f) (R:RE K C.toCf F H σ ρ) (hb:bnd (f ρ) k=some r) (P:Pr C F ok r)
  (go:∀ l xs F1 H1,k l=some r->Up F H F1 H1->bC K F1 xs l->Q xs H1):t σ H Q:=by
 rcases bQ hb with ⟨z,e,rfl⟩ | ⟨p,e,hk⟩
 ·exact h F H σ ρ Q _ R e P
 ·exact h F H σ ρ Q _ R e fun xs F1 H1 u a=>go p xs F1 H1 hk u a
theorem MAL.run {t:TA}{f:Fn (List PV)}{Q:List V->Hp->Prop}{ok:β->Prop}{k:List PV->Option (Res β)}{r:Res β} (h:MAL K C t f) (R:RE K C.toCf F H σ ρ) (hb:bnd (f ρ) k=some r) (P:Pr C F ok r)
  (go:∀ l xs F1 H1,k l=some r->Up F H F1 H1->bC K H1 xs l->Q xs H1):t σ H Q:=by
 rcases bQ hb with ⟨z,e,rfl⟩ | ⟨p,e,hk⟩
 ·exact h F H σ ρ Q _ R e P
 ·exact h F H σ ρ Q _ R e fun xs F1 H1 u a=>go p xs F1 H1 hk u a
theorem Pr.later {D:Rel γ}{r:Res γ}{F1 H1:Hp} (P:Pr C F (fun a=>∀ v F' H',Up F H F' H'->D F' H' v a->Q v H') r) (u:Up F H F1 H1):Pr C F1 (fun a=>∀ v F' H',Up F1 H1 F' H'->D F' H' v a->Q v H') r :=
 P.mono u.ff fun _ h v F' H' u' d=>h v F' H' (u.trans u') d
theorem Pr.Ks {Q:Bool->Hp->Prop}{r:Res Bool}{F1 H1:Hp} (P:Pr C F (fun b=>∀ F' H',Up F H F' H'->Q b H') r) (u:Up F H F1 H1):Pr C F1 (fun b=>∀ F' H',Up F1 H1 F' H'->Q b H') r :=
 P.mono u.ff fun _ h F' H' u'=>h F' H' (u.trans u')
theorem Pr.vM {r:Res PV}{F1 H1:Hp} (P:Pr C F (fun p=>∀ a F' H',Up F H F' H'->H a=none->F' a=none->Own K F' H' a p->Q (.ref a) H') r) (u:Up F H F1 H1) :
  Pr C F1 (fun p=>∀ a F' H',Up F1 H1 F' H'->H1 a=none->F' a=none->Own K F' H' a p->Q (.ref a) H') r :=
 P.mono u.ff fun _ h a F' H' u' n1 n2 d=>h a F' H' (u.trans u') (u.hh.free n1) n2 d
theorem Pr.RK {Q:List V->Hp->Prop}{r:Res (List PV)}{F1 H1:Hp} (P:Pr C F (fun l=>∀ xs F' H',Up F H F' H'->bC K F' xs l->Q xs H') r) (u:Up F H F1 H1):Pr C F1 (fun l=>∀ xs F' H',Up F1 H1 F' H'->bC K F' xs l->Q xs H') r :=
 P.mono u.ff fun _ h xs F' H' u' d=>h xs F' H' (u.trans u') d
theorem Pr.RL {Q:List V->Hp->Prop}{r:Res (List PV)}{F1 H1:Hp} (P:Pr C F (fun l=>∀ xs F' H',Up F H F' H'->bC K H' xs l->Q xs H') r) (u:Up F H F1 H1):Pr C F1 (fun l=>∀ xs F' H',Up F1 H1 F' H'->bC K H' xs l->Q xs H') r :=
 P.mono u.ff fun _ h xs F' H' u' d=>h xs F' H' (u.trans u') d
def mV (i:Nat):Fn PV:=fun ρ=>match ρ[i]? with
 | some (some (.sh p))=>some (.ok p)
 | _=>none
theorem aj (i:Nat):MJ K C (aF K) (lO i) (mV i):=by
 intro F H σ ρ Q r R e P
 unfold mV at e
 split at e
 ·rename_i p hp
  cases e
  obtain ⟨v,e1,e2⟩:=R.sh i p hp
  exact ⟨v,e1,P v F H (Up.refl R.rb.sub) e2⟩
 ·cases e
def mVL (i:Nat):Fn PV:=fun ρ=>match ρ[i]? with
 | some (some (.sh p))=>some (.ok p)
 | some (some (.ow p))=>some (.ok p)
 | _=>none
theorem cG (i:Nat):MJ K C (aH K) (lO i) (mVL i):=by
 intro F H σ ρ Q r R e P
 unfold mVL at e
 split at e
 ·rename_i p hp
  cases e
  obtain ⟨v,e1,e2⟩:=R.sh i p hp
  exact ⟨v,e1,P v F H (Up.refl R.rb.sub) (e2.up R.rb.sub)⟩
 ·rename_i p hp
  cases e
  obtain ⟨a,e1,e2,e3,_⟩:=R.ow i p hp
  exact ⟨_,e1,P _ F H (Up.refl R.rb.sub) (e2.lent R.rb.sub)⟩
 ·cases e
def uv:PV->Option (Res (List PV))
 | .lst l=>some (.ok l)
 | _=>none
theorem zV {f:Fn PV} (h:MJ K C (aF K) ta f):MJ K C (aV K) ta (fun ρ=>bnd (f ρ) uv):=by
 intro F H σ ρ Q r R e P
 refine h.run R e P fun p v F1 H1 hk u a=>?_
 match p,hk with
 | .lst l,hk =>
  cases hk
  obtain ⟨b,xs,rfl,s,rr⟩:=Rep.b8 a
  exact P _ F1 H1 u ⟨b,xs,rfl,u.fh.seq s,rr⟩
theorem kW (i:Nat):MJ K C (aV K) (lO i) (fun ρ=>bnd (mVL i ρ) uv):=by
 intro F H σ ρ Q r R e P
 rcases bQ e with ⟨z,e1,rfl⟩ | ⟨p,e1,hk⟩
 ·unfold mVL at e1
  split at e1 <;> cases e1
 ·unfold mVL at e1
  match p,hk with
  | .lst l,hk =>
   cases hk
   split at e1
   ·rename_i q hq
    cases e1
    obtain ⟨v,e2,e3⟩:=R.sh i _ hq
    obtain ⟨b,xs,rfl,s,rr⟩:=Rep.b8 e3
    exact ⟨_,e2,P _ F H (Up.refl R.rb.sub) ⟨b,xs,rfl,R.rb.sub.seq s,rr⟩⟩
   ·rename_i q hq
    cases e1
    obtain ⟨a,e2,⟨xs,e3,rr⟩,_⟩:=R.ow i _ hq
    exact ⟨_,e2,P _ F H (Up.refl R.rb.sub) ⟨a,xs,rfl,SqL.of e3,rr⟩⟩
   ·cases e1
theorem bZ {f:Fn PV} (h:MJ K C (aF K) ta f):MJ K C (aH K) ta f:=by
 intro F H σ ρ Q r R e P
 refine h F H σ ρ Q r R e ?_
 exact P.mono (aR.refl _) fun _ k v F' H' u d=>k v F' H' u (Rep.up d u.fh)
def mC (p:PV):Fn PV:=fun _=>some (.ok p)
theorem Oi {v:V}{p:PV} (h:∀ F,Rep K F v p):MJ K C (aF K) (tC v) (mC p):=by
 intro F H σ ρ Q r R e P
 cases e
 exact P v F H (Up.refl R.rb.sub) (h F)
theorem aA {i:Int}:MJ K C (aF K) (tC (.int i)) (mC (.int i)):=Oi fun _=>.int
theorem GQ {i:Bool}:MJ K C (aF K) (tC (.bl i)) (mC (.bl i)):=Oi fun _=>.bl
theorem jz {i:Str}:MJ K C (aF K) (tC (.str i)) (mC (.str i)):=Oi fun _=>.str
theorem Ku:MJ K C (aF K) (tC .non) (mC .non):=Oi fun _=>.non
theorem cB {f:Fn PV} (h:MO K C ta f):MJ K C (aF K) ta f:=by
 intro F H σ ρ Q r R e P
 refine h F H σ ρ Q r R e (P.mono (aR.refl _) fun p k a F' H' u n1 n2 o=>?_)
 obtain ⟨ob,eo,rr⟩:=o.frozen n2
 refine k _ (upd F' a ob) H' ⟨u.ff.trans (dI n2),u.hh,fun b x q=>?_,fun b x q=>?_⟩ rr
 ·by_cases hb:b=a
  ·subst hb;exact .inr (.inl n1)
  ·rw [aG hb] at q;exact u.fr b x q
 ·by_cases hb:b=a
  ·subst hb;rw [aL] at q;cases q;exact eo
  ·rw [aG hb] at q;exact u.fh b x q
theorem oW {f:Fn PV} (h:MO K C ta f):MJ K C (aV K) ta (fun ρ=>bnd (f ρ) uv):=zV (cB h)
def m2 {α β γ:Type} (op:α->β->Option (Res γ)) (f:Fn α) (g:Fn β):Fn γ:=fun ρ=>bnd (f ρ) fun a=>bnd (g ρ) fun b=>op a b
def R2M (C:Cg) (A:Rel α) (B:Rel β) (D:Rel γ) (r:R2) (op:α->β->Option (Res γ)):Prop :=
 ∀ F H x y a b res Q,aR F H->A F H x a->B F H y b->op a b=some res->Pr C F (fun c=>∀ v F' H',Up F H F' H'->D F' H' v c->Q v H') res->r x y H Q
theorem aq {op:α->β->Option (Res γ)}{r2:R2} (up:UpM A) (rule:R2M C A B D r2 op) (ha:MJ K C A ta f) (hb:MJ K C B tb g):MJ K C D (tOp r2 ta tb) (m2 op f g):=by
 intro F H σ ρ Q r R e P
 refine ha.run R e P fun p v F1 H1 hk u a=>?_
 refine hb.run (R.up u) hk (P.later u) fun q w F2 H2 hk2 u2 b=>?_
 exact rule F2 H2 v w p q r Q u2.fh (up _ _ _ _ _ _ u2 a) b hk2 (P.later (u.trans u2))
def R2O (K:PySem.W.Frag) (C:Cg) (A:Rel α) (B:Rel β) (r:R2) (op:α->β->Option (Res PV)):Prop :=
 ∀ F H x y a b res Q,aR F H->A F H x a->B F H y b->op a b=some res->Pr C F (fun p=>∀ a F' H',Up F H F' H'->H a=none->F' a=none->Own K F' H' a p->Q (.ref a) H') res->r x y H Q
theorem Kv {op:α->β->Option (Res PV)}{r2:R2} (up:UpM A) (rule:R2O K C A B r2 op) (ha:MJ K C A ta f) (hb:MJ K C B tb g):MO K C (tOp r2 ta tb) (m2 op f g):=by
 intro F H σ ρ Q r R e P
 refine ha.run R e P fun p v F1 H1 hk u a=>?_
 refine hb.run (R.up u) hk (P.vM u) fun q w F2 H2 hk2 u2 b=>?_
 exact rule F2 H2 v w p q r Q u2.fh (up _ _ _ _ _ _ u2 a) b hk2 (P.vM (u.trans u2))
def m1 {α γ:Type} (op:α->Option (Res γ)) (f:Fn α):Fn γ:=fun ρ=>bnd (f ρ) op
def Oj (f g:Fn PV):Fn PV:=fun ρ=>bnd (f ρ) fun a=>match a with
 | .bl true=>some (.ok (.bl true))
 | .bl false=>g ρ
 | _=>none
theorem Ui {f g:Fn PV} (ha:MJ K C (aF K) ta f) (hb:MJ K C (aF K) tb g):MJ K C (aF K) (TF ta tb) (Oj f g):=by
 intro F H σ ρ Q r R e P
 refine ha.run R e P fun p v F1 H1 hk u a=>?_
 match p,hk with
 | .bl true,hk =>
  cases Rep.jZ a
  cases hk
  refine ⟨true,rfl,?_⟩
  rw [if_pos rfl]
  exact P _ F1 H1 u .bl
 | .bl false,hk =>
  cases Rep.jZ a
  refine ⟨false,rfl,?_⟩
  rw [if_neg (by decide)]
  exact hb F1 H1 σ ρ Q r (R.up u) hk (P.later u)
def dJ:PV->Option (Res Bool)
 | .bl b=>some (.ok b)
 | _=>none
theorem bf {f:Fn PV} (ha:MJ K C (aF K) ta f):MT K C (Qw ta) (m1 dJ f):=by
 intro F H σ ρ Q r R e P
 refine ha.run R e P fun p v F1 H1 hk u a=>?_
 match p,hk with
 | .bl b,hk =>
  cases Rep.jZ a
  cases hk
  exact ⟨b,rfl,P F1 H1 u⟩
theorem zW {f:Fn PV} (ha:MJ K C (aF K) ta f):MT K C (tB ta) (m1 dJ f):=bf ha
def Cp (f g:Fn Bool):Fn Bool:=fun ρ=>bnd (f ρ) fun a=>if a=true then g ρ else some (.ok false)
def mOr (f g:Fn Bool):Fn Bool:=fun ρ=>bnd (f ρ) fun a=>if a=true then some (.ok true) else g ρ
def Ol (f:Fn Bool):Fn Bool:=fun ρ=>bnd (f ρ) fun a=>some (.ok (!a))
variable {c d:TT}{fc gc:Fn Bool}
theorem vN (ha:MT K C c fc) (hb:MT K C d gc):MT K C (Tw c d) (Cp fc gc):=by
 intro F H σ ρ Q r R e P
 refine ha.run R e P fun b F1 H1 hk u=>?_
 cases b with
 | true=>rw [if_pos rfl] at hk ⊢;exact hb F1 H1 σ ρ Q r (R.up u) hk (P.Ks u)
 | false=>rw [if_neg (by decide)] at hk ⊢;cases hk;exact P F1 H1 u
theorem QG (ha:MT K C c fc) (hb:MT K C d gc):MT K C (tOr c d) (mOr fc gc):=by
 intro F H σ ρ Q r R e P
 refine ha.run R e P fun b F1 H1 hk u=>?_
 cases b with
 | true=>rw [if_pos rfl] at hk ⊢;cases hk;exact P F1 H1 u
 | false=>rw [if_neg (by decide)] at hk ⊢;exact hb F1 H1 σ ρ Q r (R.up u) hk (P.Ks u)
theorem RM (ha:MT K C c fc):MT K C (Tz c) (Ol fc):=by
 intro F H σ ρ Q r R e P
 refine ha.run R e P fun b F1 H1 hk u=>?_
 cases hk
 exact P F1 H1 u
def mIf {γ:Type} (f:Fn Bool) (g h:Fn γ):Fn γ:=fun ρ=>bnd (f ρ) fun a=>if a=true then g ρ else h ρ
theorem QH {f g:Fn γ} (hc:MT K C c fc) (ha:MJ K C D ta f) (hb:MJ K C D tb g):MJ K C D (tIf c ta tb) (mIf fc f g):=by
 intro F H σ ρ Q r R e P
 refine hc.run R e P fun b F1 H1 hk u=>?_
 cases b with
 | true=>rw [if_pos rfl] at hk ⊢;exact ha F1 H1 σ ρ Q r (R.up u) hk (P.later u)
 | false=>rw [if_neg (by decide)] at hk ⊢;exact hb F1 H1 σ ρ Q r (R.up u) hk (P.later u)
def bF:Fn (List PV):=fun _=>some (.ok [])
def aB (f:Fn PV) (g:Fn (List PV)):Fn (List PV):=fun ρ=>bnd (f ρ) fun a=>bnd (g ρ) fun l=>some (.ok (a::l))
theorem aU:MA K C xW bF:=fun F H σ ρ Q r R e P=>by
 cases e
 exact P [] F H (Up.refl R.rb.sub) .nil
theorem ao {f:Fn PV}{g:Fn (List PV)}{t:TA} (ha:MJ K C (aF K) ta f) (hb:MA K C t g):MA K C (kE ta t) (aB f g):=by
 intro F H σ ρ Q r R e P
 refine ha.run R e P fun p v F1 H1 hk u a=>?_
 refine hb.run (R.up u) hk (P.RK u) fun l xs F2 H2 hk2 u2 b=>?_
 cases hk2
 exact P _ F2 H2 (u.trans u2) (b.cons (Rep.up a u2.ff))
theorem Om:MAL K C xW bF:=fun F H σ ρ Q r R e P=>by
 cases e
 exact P [] F H (Up.refl R.rb.sub) .nil
theorem vO {f:Fn PV}{g:Fn (List PV)}{t:TA} (ha:MJ K C (aH K) ta f) (hb:MAL K C t g):MAL K C (kE ta t) (aB f g):=by
 intro F H σ ρ Q r R e P
 refine ha.run R e P fun p v F1 H1 hk u a=>?_
 refine hb.run (R.up u) hk (P.RL u) fun l xs F2 H2 hk2 u2 b=>?_
 cases hk2
 exact P _ F2 H2 (u.trans u2) (b.cons (Rep.up a u2.hh))
theorem Up.FJ {F H:Hp}{a:Addr}{o:HO} (s:aR F H) (h:H a=none):Up F H F (upd H a o):=⟨aR.refl _,dI h,fun _ _ q=>.inl q,s.trans (dI h)⟩
theorem Up.new {F H:Hp}{a:Addr}{o:HO} (s:aR F H) (h:H a=none):Up F H (upd F a o) (upd H a o):=by
 have hf:F a=none:=s.free h
 refine ⟨dI hf,dI h,fun b u q=>?_,fun b u q=>?_⟩
 ·by_cases hb:b=a
  ·subst hb;exact .inr (.inl h)
  ·rw [aG hb] at q;exact .inl q
 ·by_cases hb:b=a
  ·subst hb;rw [aL] at q ⊢;exact q
  ·rw [aG hb] at q ⊢;exact s b u q
def pD (f:Fn (List PV)):Fn PV:=fun ρ=>bnd (f ρ) fun l=>if l.length≤sizeLine then some (.ok (.tup l)) else none
def yc (f:Fn (List PV)):Fn PV:=fun ρ=>bnd (f ρ) fun l=>if l.length≤sizeLine then some (.ok (.lst l)) else none
theorem ie {t:TA}{f:Fn (List PV)} (h:MA K C t f):MJ K C (aF K) (Ru t) (pD f):=by
 intro F H σ ρ Q r R e P
 refine h.run R e P fun l xs F1 H1 hk u a=>?_
 split at hk
 ·rename_i hl
  cases hk
  refine ⟨by rw [a.1];exact hl,fun p hp=>?_⟩
  have un:=Up.new (o:=.tup xs) u.fh hp
  exact P _ _ _ (u.trans un) (.tup aL a.1 (a.up un.ff).2)
 ·cases hk
theorem qe {t:TA}{f:Fn (List PV)} (h:MA K C t f):MO K C (Rv t) (yc f):=by
 intro F H σ ρ Q r R e P
 refine h.run R e P fun l xs F1 H1 hk u a=>?_
 split at hk
 ·rename_i hl
  cases hk
  refine ⟨by rw [a.1];exact hl,fun p hp=>?_⟩
  exact P _ _ _ (u.trans (Up.FJ u.fh hp)) (u.hh.free hp) (u.fh.free hp) ⟨xs,aL,a⟩
 ·cases hk
def spM (K:PySem.W.Frag) (XR:Hp->Value->Option Addr->PV->Prop) (m:List PV->Option (Res PV)):Sp:=fun vs H Q E=>∃ ps F r,aR F H∧bC K F vs ps∧m ps=some r∧match r with
 | .ok p=>∀ v F' H',Up F H F' H'->Rep K F' v p->Q v H'
 | .ex z=>∀ e d F' H',Up F H F' H'->XR F' e d z->E e d H'
def spO (K:PySem.W.Frag) (XR:Hp->Value->Option Addr->PV->Prop) (m:List PV->Option (Res PV)):Sp:=fun vs H Q E=>∃ ps F r,aR F H∧bC K F vs ps∧m ps=some r∧match r with
 | .ok p=>∀ a F' H',Up F H F' H'->H a=none->F' a=none->Own K F' H' a p->Q (.ref a) H'
 | .ex z=>∀ e d F' H',Up F H F' H'->XR F' e d z->E e d H'
def bR (m:List PV->Option (Res PV)) (f:Fn (List PV)):Fn PV:=fun ρ=>bnd (f ρ) m
theorem bW {t:TA}{f:Fn (List PV)}{m:List PV->Option (Res PV)} (h:MA K C t f):MJ K C (aF K) (vD (spM K C.XR m) [] C.E t) (bR m f):=by
 intro F H σ ρ Q r R e P
 refine h.run R e P fun l xs F1 H1 hk u a=>?_
 refine ⟨l,F1,r,u.fh,by rw [Za8];exact a,hk,?_⟩
 cases r with
 | ok p=>exact fun v F' H' u' rv=>P v F' H' (u.trans u') rv
 | ex z=>exact fun e d F' H' u' x=>P e d F' H' (u.trans u').ff (R.rb.up (u.trans u')) x
theorem fX {t:TA}{f:Fn (List PV)}{m:List PV->Option (Res PV)} (h:MA K C t f):MO K C (vD (spO K C.XR m) [] C.E t) (bR m f):=by
 intro F H σ ρ Q r R e P
 refine h.run R e P fun l xs F1 H1 hk u a=>?_
 refine ⟨l,F1,r,u.fh,by rw [Za8];exact a,hk,?_⟩
 cases r with
 | ok p=>exact fun v F' H' u' n1 n2 rv=>P v F' H' (u.trans u') (u.hh.free n1) n2 rv
 | ex z=>exact fun e d F' H' u' x=>P e d F' H' (u.trans u').ff (R.rb.up (u.trans u')) x
end
inductive Out where
 | nx (ρ:Rho) | rt (p:PV) | ro (p:PV) | rd (p:PV) | bk (ρ:Rho) | ct (ρ:Rho) | ex (z:PV)
noncomputable abbrev Sn:=Rho->Option Out
def PO' (K:PySem.W.Frag) (C:Cg) (F:Hp) (D:Ends):Out->Prop
 | .nx ρ=>∀ F' H' σ,aR F F'->RE K C.toCf F' H' σ ρ->D.nx σ H'
 | .bk ρ=>∀ F' H' σ,aR F F'->RE K C.toCf F' H' σ ρ->D.bk σ H'
 | .ct ρ=>∀ F' H' σ,aR F F'->RE K C.toCf F' H' σ ρ->D.ct σ H'
 | .rt p=>∀ v F' H',aR F F'->RB C.toCf F' H'->Rep K F' v p->D.rt v H'
 | .ro p=>∀ a F' H',aR F F'->RB C.toCf F' H'->Own K F' H' a p->F' a=none->C.H0 a=none->D.rt (.ref a) H'
 | .rd p=>∀ v F' H' S,aR F F'->RB C.toCf F' H'->Dp K F' H' S v p->(∀ b,S b->F' b=none∧(∃ o,H' b=some o∧∀ ys,o≠.tup ys)∧C.H0 b=none)->D.rt v H'
 | .ex z=>PX C F z
def MS (K:PySem.W.Frag) (C:Cg) (t:TS) (f:Sn):Prop:=∀ F H σ ρ D o,RE K C.toCf F H σ ρ->f ρ=some o->PO' K C F D o->t D σ H
def ik {α:Type} (x:Option (Res α)) (k:α->Option Out):Option Out:=match x with
 | some (.ok a)=>k a
 | some (.ex z)=>some (.ex z)
 | none=>none
theorem Oo {α:Type}{a:α}{k:α->Option Out}:ik (some (.ok a)) k=k a:=rfl
theorem cP {α:Type}{x:Option (Res α)}{k:α->Option Out}{o:Out} (h:ik x k=some o):(∃ z,x=some (.ex z)∧o=.ex z)∨∃ a,x=some (.ok a)∧k a=some o:=by
 match x,h with
 | some (.ok a),h=>exact .inr ⟨a,rfl,h⟩
 | some (.ex z),h=>exact .inl ⟨z,rfl,(Zaa h).symm⟩
section
variable {K:PySem.W.Frag}{C:Cg}{α β γ:Type}{A:Rel α}{ta tb te:TE}{F H:Hp}{σ:St}{ρ:Rho}{D:Ends}{t u:TS}{f g:Sn}{o:Out}
theorem PO'.up {F1:Hp} (h:PO' K C F D o) (s:aR F F1):PO' K C F1 D o:=by
 cases o with
 | nx ρ=>exact fun F' H' σ a=>h F' H' σ (s.trans a)
 | bk ρ=>exact fun F' H' σ a=>h F' H' σ (s.trans a)
 | ct ρ=>exact fun F' H' σ a=>h F' H' σ (s.trans a)
 | rt p=>exact fun v F' H' a=>h v F' H' (s.trans a)
 | ro p=>exact fun v F' H' a=>h v F' H' (s.trans a)
 | rd p=>exact fun v F' H' S a=>h v F' H' S (s.trans a)
 | ex z=>exact PX.up h s
theorem MJ.vP {fe:Fn α}{Q:VK}{k:α->Option Out} (h:MJ K C A ta fe) (R:RE K C.toCf F H σ ρ) (hb:ik (fe ρ) k=some o) (P:PO' K C F D o)
  (go:∀ p v F1 H1,k p=some o->Up F H F1 H1->A F1 H1 v p->Q v H1):ta σ H Q:=by
 rcases cP hb with ⟨z,e,rfl⟩ | ⟨p,e,hk⟩
 ·exact h F H σ ρ Q _ R e P
 ·exact h F H σ ρ Q _ R e fun v F1 H1 u a=>go p v F1 H1 hk u a
theorem MO.vP {fe:Fn PV}{Q:VK}{k:PV->Option Out} (h:MO K C ta fe) (R:RE K C.toCf F H σ ρ) (hb:ik (fe ρ) k=some o) (P:PO' K C F D o)
  (go:∀ p a F1 H1,k p=some o->Up F H F1 H1->H a=none->F1 a=none->Own K F1 H1 a p->Q (.ref a) H1):ta σ H Q:=by
 rcases cP hb with ⟨z,e,rfl⟩ | ⟨p,e,hk⟩
 ·exact h F H σ ρ Q _ R e P
 ·exact h F H σ ρ Q _ R e fun a F1 H1 u n1 n2 w=>go p a F1 H1 hk u n1 n2 w
theorem MT.vP {tt:TT}{fe:Fn Bool}{Q:Bool->Hp->Prop}{k:Bool->Option Out} (h:MT K C tt fe) (R:RE K C.toCf F H σ ρ) (hb:ik (fe ρ) k=some o) (P:PO' K C F D o)
  (go:∀ b F1 H1,k b=some o->Up F H F1 H1->Q b H1):tt σ H Q:=by
 rcases cP hb with ⟨z,e,rfl⟩ | ⟨p,e,hk⟩
 ·exact h F H σ ρ Q _ R e P
 ·exact h F H σ ρ Q _ R e fun F1 H1 u=>go p F1 H1 hk u
def gq:Sn:=fun ρ=>some (.nx ρ)
def bj (f g:Sn):Sn:=fun ρ=>match f ρ with
 | some (.nx ρ')=>g ρ'
 | x=>x
theorem dB:MS K C Qq gq:=fun F H σ ρ D o R e P=>by
 cases e
 exact P F H σ (aR.refl _) R
theorem aQ (h1:MS K C t f) (h2:MS K C u g):MS K C (Rg t u) (bj f g):=by
 intro F H σ ρ D o R e P
 unfold bj at e
 split at e
 ·rename_i ρ' h
  refine h1 F H σ ρ _ _ R h ?_
  exact fun F' H' σ' s R'=>h2 F' H' σ' ρ' D o R' e (P.up s)
 ·rename_i x hx
  cases o with
  | nx ρ'=>exact absurd e (hx ρ')
  | bk ρ=>exact h1 F H σ _ _ _ R e P
  | ct ρ=>exact h1 F H σ _ _ _ R e P
  | rt p=>exact h1 F H σ _ _ _ R e P
  | ro p=>exact h1 F H σ _ _ _ R e P
  | rd p=>exact h1 F H σ _ _ _ R e P
  | ex z=>exact h1 F H σ _ _ _ R e P
def Kw:Sn:=fun ρ=>some (.ct ρ)
theorem Oq:MS K C Qs Kw:=fun F H σ ρ D o R e P=>by
 cases e
 exact P F H σ (aR.refl _) R
def MG (K:PySem.W.Frag) (C:Cg) (g:TG) (tg:PV->Rho->Option Rho):Prop :=
 ∀ F H σ ρ v p ρ' Q,RE K C.toCf F H σ ρ->Rep K F v p->tg p ρ=some ρ'->(∀ σ',RE K C.toCf F H σ' ρ'->Q σ' H)->g v σ H Q
def MGs (K:PySem.W.Frag) (C:Cg) (g:TGs) (tg:List PV->Rho->Option Rho):Prop :=
 ∀ F H σ ρ vs ps ρ' Q,RE K C.toCf F H σ ρ->bC K F vs ps->tg ps ρ=some ρ'->(∀ σ',RE K C.toCf F H σ' ρ'->Q σ' H)->g vs σ H Q
def gN (i:Nat):PV->Rho->Option Rho:=fun p ρ=>some (ρ.set i (some (.sh p)))
theorem aJ (i:Nat):MG K C (uo i) (gN i):=fun F H σ ρ v p ρ' Q R r e k=>by
 cases e
 exact k _ (R.set i r)
def gsNil:List PV->Rho->Option Rho
 | [],ρ=>some ρ
 | _::_,_=>none
def gsCons (t:PV->Rho->Option Rho) (u:List PV->Rho->Option Rho):List PV->Rho->Option Rho
 | [],_=>none
 | p::l,ρ=>match t p ρ with
  | some ρ'=>u l ρ'
  | none=>none
theorem oX:MGs K C TV gsNil:=fun F H σ ρ vs ps ρ' Q R r e k=>by
 cases ps with
 | nil=>cases e;exact ⟨r.iH,k σ R⟩
 | cons p l=>cases e
theorem dC {g:TG}{gs:TGs}{tg:PV->Rho->Option Rho}{tgs:List PV->Rho->Option Rho} (h:MG K C g tg) (hs:MGs K C gs tgs):MGs K C (Qt g gs) (gsCons tg tgs):=fun F H σ ρ vs ps ρ' Q R r e k=>by
 cases ps with
 | nil=>cases e
 | cons p l =>
  obtain ⟨v,ys,rfl,r1,r2⟩:=r.dz
  have e':(match tg p ρ with
   | some ρ'=>tgs l ρ'
   | none=>none)=some ρ':=e
  split at e'
  ·rename_i ρ1 h1
   exact ⟨v,ys,rfl,h F H σ ρ v p ρ1 _ R r1 h1 fun σ' R'=>hs F H σ' ρ1 ys l ρ' Q R' r2 e' k⟩
  ·cases e'
def gT (n:Nat) (t:List PV->Rho->Option Rho):PV->Rho->Option Rho:=fun p ρ=>match p with
 | .tup l=>if l.length=n then t l ρ else none
 | _=>none
theorem vQ {n:Nat}{gs:TGs}{tgs:List PV->Rho->Option Rho} (hs:MGs K C gs tgs):MG K C (Rh K n gs) (gT n tgs):=fun F H σ ρ v p ρ' Q R r e k=>by
 unfold gT at e
 split at e
 ·rename_i l
  split at e
  ·rename_i hn
   obtain ⟨a,xs,rfl,hq,rr⟩:=r.cZ
   exact ⟨a,xs,rfl,R.rb.sub.tup hq,by rw [rr.1];exact hn,hs F H σ ρ xs l ρ' Q R rr e k⟩
  ·cases e
 ·cases e
def cA (fe:Fn PV) (tg:PV->Rho->Option Rho):Sn:=fun ρ=>ik (fe ρ) fun p=>match tg p ρ with
 | some ρ'=>some (.nx ρ')
 | none=>none
theorem aY {fe:Fn PV}{gt:TG}{tg:PV->Rho->Option Rho} (h:MJ K C (aF K) te fe) (hg:MG K C gt tg):MS K C (Ff te gt) (cA fe tg):=by
 intro F H σ ρ D o R e P
 refine h.vP R e P fun p v F1 H1 hk u a=>?_
 split at hk
 ·rename_i ρ' h1
  cases hk
  exact hg F1 H1 σ ρ v p ρ' _ (R.up u) a h1 fun σ' R'=>P F1 H1 σ' u.ff R'
 ·cases hk
def qX (i:Nat) (fe:Fn PV):Sn:=fun ρ=>ik (fe ρ) fun p=>some (.nx (ρ.set i (some (.ow p))))
theorem oY {i:Nat}{fe:Fn PV} (nw:C.nw) (h:MO K C te fe):MS K C (Ff te (uo i)) (qX i fe):=by
 intro F H σ ρ D o R e P
 refine h.vP R e P fun p a F1 H1 hk u n1 n2 w=>?_
 cases hk
 exact P F1 H1 _ u.ff ((R.up u).Vj i w n2 nw (R.rb.ut n1) (fun j q hj _=>R.apart n1 j q hj) (R.RJ n1 u))
def jb (fe:Fn PV):Sn:=fun ρ=>ik (fe ρ) fun p=>some (.rt p)
theorem dg {fe:Fn PV} (h:MJ K C (aF K) te fe):MS K C (Iu te) (jb fe):=by
 intro F H σ ρ D o R e P
 refine h.vP R e P fun p v F1 H1 hk u a=>?_
 cases hk
 exact P v F1 H1 u.ff (R.rb.up u) a
def pJ (fe:Fn PV):Sn:=fun ρ=>ik (fe ρ) fun p=>some (.ro p)
theorem lR {fe:Fn PV} (h:MO K C te fe):MS K C (Iu te) (pJ fe):=by
 intro F H σ ρ D o R e P
 refine h.vP R e P fun p a F1 H1 hk u n1 n2 w=>?_
 cases hk
 exact P a F1 H1 u.ff (R.rb.up u) w n2 (R.rb.ut n1)
def ownAt (i:Nat) (ρ:Rho):Option PV:=match ρ[i]? with
 | some (some (.ow p))=>some p
 | _=>none
theorem bG {i:Nat}{p:PV} (h:ownAt i ρ=some p):ρ[i]?=some (some (.ow p)):=by
 unfold ownAt at h
 split at h
 ·rename_i q hq;cases h;exact hq
 ·cases h
def nJ (i:Nat):Sn:=fun ρ=>match ownAt i ρ with
 | some p=>some (.ro p)
 | none=>none
theorem vR (i:Nat) (hio:∀ a,¬C.io a):MS K C (Iu (lO i)) (nJ i):=by
 intro F H σ ρ D o R e P
 unfold nJ at e
 split at e
 ·rename_i p hp
  cases e
  obtain ⟨a,e1,e2,e3,e4⟩:=R.ow i p (bG hp)
  exact ⟨_,e1,P a F H (aR.refl _) R.rb e2 e3 (e4.resolve_left (hio a)).2⟩
 ·cases e
def FN (i:Nat) (fe:Fn PV):Sn:=fun ρ=>match ownAt i ρ with
 | some (.lst l)=>ik (fe ρ) fun p=>if l.length < sizeLine then some (.nx (ρ.set i (some (.ow (.lst (l++[p])))))) else none
 | _=>none
theorem Ky {i:Nat}{fe:Fn PV} (h:MJ K C (aF K) te fe):MS K C (GJ (tBM K "list" zR (lO i) (kE te xW))) (FN i fe):=by
 intro F H σ ρ D o R e P
 unfold FN at e
 split at e
 ·rename_i l hl
  obtain ⟨a,g1,⟨xs,g2,g3⟩,g4,g5⟩:=R.ow i _ (bG hl)
  refine ⟨_,g1,tyL g2,h.vP R e P fun p v F1 H1 hk u w=>?_⟩
  split at hk
  ·rename_i hlen
   cases hk
   obtain ⟨a',k1,⟨ys,k2,k3⟩,k4,k5⟩:=(R.up u).ow i _ (bG hl)
   rw [g1] at k1
   cases k1
   refine ⟨a,ys,v,rfl,rfl,k2,by rw [k3.1];exact hlen,?_⟩
   exact P F1 _ σ u.ff ((R.up u).write (bG hl) g1 ⟨_,aL,k3.snoc w⟩)
  ·cases hk
 ·cases e
def j5 (fc:Fn Bool) (f g:Sn):Sn:=fun ρ=>ik (fc ρ) fun b=>if b=true then f ρ else g ρ
theorem gW {c:TT}{fc:Fn Bool} (hc:MT K C c fc) (h1:MS K C t f) (h2:MS K C u g):MS K C (TQ c t u) (j5 fc f g):=by
 intro F H σ ρ D o R e P
 refine hc.vP R e P fun b F1 H1 hk uu=>?_
 cases b with
 | true=>rw [if_pos rfl] at hk ⊢;exact h1 F1 H1 σ ρ D o (R.up uu) hk (P.up uu.ff)
 | false=>rw [if_neg (by decide)] at hk ⊢;exact h2 F1 H1 σ ρ D o (R.up uu) hk (P.up uu.ff)
structure ItR (K:PySem.W.Frag) (J:It) (F:Hp) (l:List PV):Prop where
 stop:∀ F' H',aR F F'->aR F' H'->J.stop l.length H'
 go:∀ i F' H',i < l.length->aR F F'->aR F' H'->J.go i H'
 yld:∀ i F' H' x H'',i < l.length->aR F F'->aR F' H'->J.yld i H' x H''->∃ F'' p,Up F' H' F'' H''∧l[i]?=some p∧Rep K F'' x p
def MI (K:PySem.W.Frag) (C:Cg) (wi:TI) (f:Fn (List PV)):Prop :=
 ∀ F H σ ρ R' r,RE K C.toCf F H σ ρ->f ρ=some r->Pr C F (fun l=>∀ J F' H',Up F H F' H'->ItR K J F' l->R' J H') r->wi σ H R'
def loop (tg:PV->Rho->Option Rho) (body:Sn):List PV->Rho->Option Out
 | [],ρ=>some (.nx ρ)
 | x::xs,ρ=>match tg x ρ with
  | none=>none
  | some ρ1=>match body ρ1 with
   | some (.nx ρ2)=>loop tg body xs ρ2
   | some (.ct ρ2)=>loop tg body xs ρ2
   | some (.bk ρ2)=>some (.nx ρ2)
   | x=>x
def pF (it:Fn (List PV)) (tg:PV->Rho->Option Rho) (body:Sn):Sn:=fun ρ=>ik (it ρ) fun l=>loop tg body l ρ
theorem yG {J:It}{gt:TG}{tg:PV->Rho->Option Rho}{l:List PV} (hg:MG K C gt tg) (hb:MS K C t f) (hJ:ItR K J F l) (R:RE K C.toCf F H σ ρ) (e:loop tg f l ρ=some o) (P:PO' K C F D o):Vh J gt t D σ H:=by
 refine ⟨fun i m σ' H'=>∃ F' ρ',m=l.length - i∧i≤l.length∧aR F F'∧RE K C.toCf F' H' σ' ρ'∧loop tg f (l.drop i) ρ'=some o,⟨l.length,F,ρ,by simp,ZaO _,aR.refl _,R,by rw [Zba];exact e⟩,?_⟩
 rintro i m σ' H' ⟨F',ρ',rfl,hi,s,R',e'⟩
 by_cases hlt:i < l.length
 ·refine .inr ⟨hJ.go i F' H' hlt s R'.rb.sub,fun σ2 H2=>∃ F2 ρ2,aR F F2∧RE K C.toCf F2 H2 σ2 ρ2∧loop tg f (l.drop (i+1)) ρ2=some o,fun σ2 H2 ⟨F2,ρ2,s2,R2,e2⟩=>⟨l.length - (i+1),by omega,F2,ρ2,rfl,hlt,s2,R2,e2⟩,fun x H'' y=>?_⟩
  obtain ⟨F'',p,u,ep,rx⟩:=hJ.yld i F' H' x H'' hlt s R'.rb.sub y
  have ed:l.drop i=p::l.drop (i+1):=by
   rw [ZaI hlt]
   rw [List.getElem?_eq_getElem hlt] at ep
   rw [Zaa ep]
  rw [ed,loop] at e'
  split at e'
  ·cases e'
  ·rename_i ρ1 h1
   refine hg F'' H'' σ' ρ' x p ρ1 _ (R'.up u) rx h1 fun σ1 R1=>?_
   have sF:aR F F'':=s.trans u.ff
   split at e'
   ·rename_i ρ2 h2
    exact hb F'' H'' σ1 ρ1 _ _ R1 h2 fun F3 H3 σ3 s3 R3=>⟨F3,ρ2,sF.trans s3,R3,e'⟩
   ·rename_i ρ2 h2
    exact hb F'' H'' σ1 ρ1 _ _ R1 h2 fun F3 H3 σ3 s3 R3=>⟨F3,ρ2,sF.trans s3,R3,e'⟩
   ·rename_i ρ2 h2
    cases e'
    exact hb F'' H'' σ1 ρ1 _ _ R1 h2 fun F3 H3 σ3 s3 R3=>P F3 H3 σ3 (sF.trans s3) R3
   ·rename_i n1 n2 n3
    cases o with
    | nx ρ2=>exact absurd e' (n1 ρ2)
    | ct ρ2=>exact absurd e' (n2 ρ2)
    | bk ρ2=>exact absurd e' (n3 ρ2)
    | rt p=>exact hb F'' H'' σ1 ρ1 _ _ R1 e' (PO'.up (D:=D) P sF)
    | ro p=>exact hb F'' H'' σ1 ρ1 _ _ R1 e' (PO'.up (D:=D) P sF)
    | rd p=>exact hb F'' H'' σ1 ρ1 _ _ R1 e' (PO'.up (D:=D) P sF)
    | ex z=>exact hb F'' H'' σ1 ρ1 _ _ R1 e' (PX.up P sF)
 ·have ei:i=l.length:=by omega
  subst ei
  rw [List.drop_length] at e'
  cases e'
  exact .inl ⟨hJ.stop F' H' s R'.rb.sub,P F' H' σ' s R'⟩
theorem jc {wi:TI}{it:Fn (List PV)}{gt:TG}{tg:PV->Rho->Option Rho} (hi:MI K C wi it) (hg:MG K C gt tg) (hb:MS K C t f):MS K C (Ri wi gt t) (pF it tg f):=by
 intro F H σ ρ D o R e P
 rcases cP e with ⟨z,e1,rfl⟩ | ⟨l,e1,hk⟩
 ·exact hi F H σ ρ _ _ R e1 P
 ·exact hi F H σ ρ _ _ R e1 fun J F' H' u hJ=>yG hg hb hJ (R.up u) hk (P.up u.ff)
def gr (fc:Fn Bool) (body:Sn):Nat->Rho->Option Out
 | 0,_=>none
 | n+1,ρ=>ik (fc ρ) fun b=>if b=true then (match body ρ with
   | some (.nx ρ2)=>gr fc body n ρ2
   | some (.ct ρ2)=>gr fc body n ρ2
   | some (.bk ρ2)=>some (.nx ρ2)
   | x=>x) else some (.nx ρ)
theorem nM {c:TT}{fc:Fn Bool} (n:Nat) (hc:MT K C c fc) (hb:MS K C t f):MS K C (Fg c t) (gr fc f n):=by
 intro F H σ ρ D o R e P
 refine ⟨fun m σ' H'=>∃ F' ρ',aR F F'∧RE K C.toCf F' H' σ' ρ'∧gr fc f m ρ'=some o,⟨n,F,ρ,aR.refl _,R,e⟩,?_⟩
 rintro m σ' H' ⟨F',ρ',s,R',e'⟩
 cases m with
 | zero=>cases e'
 | succ m =>
  refine hc.vP R' e' (P.up s) fun b F1 H1 hk u=>?_
  have sF:aR F F1:=s.trans u.ff
  have R1:=R'.up u
  cases b with
  | false =>
   rw [if_neg (by decide)] at hk ⊢
   cases hk
   exact P F1 H1 σ' sF R1
  | true =>
   rw [if_pos rfl] at hk ⊢
   refine ⟨fun σ2 H2=>∃ F2 ρ2,aR F F2∧RE K C.toCf F2 H2 σ2 ρ2∧gr fc f m ρ2=some o,fun σ2 H2 ⟨F2,ρ2,s2,R2,e2⟩=>⟨m,Nat.lt_succ_self _,F2,ρ2,s2,R2,e2⟩,?_⟩
   split at hk
   ·rename_i ρ2 h2
    exact hb F1 H1 σ' ρ' _ _ R1 h2 fun F3 H3 σ3 s3 R3=>⟨F3,ρ2,sF.trans s3,R3,hk⟩
   ·rename_i ρ2 h2
    exact hb F1 H1 σ' ρ' _ _ R1 h2 fun F3 H3 σ3 s3 R3=>⟨F3,ρ2,sF.trans s3,R3,hk⟩
   ·rename_i ρ2 h2
    cases hk
    exact hb F1 H1 σ' ρ' _ _ R1 h2 fun F3 H3 σ3 s3 R3=>P F3 H3 σ3 (sF.trans s3) R3
   ·rename_i n1 n2 n3
    cases o with
    | nx ρ2=>exact absurd hk (n1 ρ2)
    | ct ρ2=>exact absurd hk (n2 ρ2)
    | bk ρ2=>exact absurd hk (n3 ρ2)
    | rt p=>exact hb F1 H1 σ' ρ' _ _ R1 hk (PO'.up (D:=D) P sF)
    | ro p=>exact hb F1 H1 σ' ρ' _ _ R1 hk (PO'.up (D:=D) P sF)
    | rd p=>exact hb F1 H1 σ' ρ' _ _ R1 hk (PO'.up (D:=D) P sF)
    | ex z=>exact hb F1 H1 σ' ρ' _ _ R1 hk (PX.up P sF)
end
def eqL (f:PV->PV->Option Bool):List PV->List PV->Option Bool
 | [],[]=>some true
 | [],_::_=>some false
 | _::_,[]=>some false
 | x::xs,y::ys=>match f x y,eqL f xs ys with
  | some a,some b=>some (a && b)
  | _,_=>none
def eqF:Nat->PV->PV->Option Bool
 | _,.non,.non=>some true
 | _,.non,.bl _=>some false
 | _,.non,.int _=>some false
 | _,.non,.str _=>some false
 | _,.bl _,.non=>some false
 | _,.bl a,.bl b=>some (decide (a=b))
 | _,.bl _,.str _=>some false
 | _,.int _,.non=>some false
 | _,.int a,.int b=>some (decide (a=b))
 | _,.int _,.str _=>some false
 | _,.str _,.non=>some false
 | _,.str _,.bl _=>some false
 | _,.str _,.int _=>some false
 | _,.str a,.str b=>some (decide (a=b))
 | _,.non,.tup _=>some false
 | _,.tup _,.non=>some false
 | _,.non,.lst _=>some false
 | _,.lst _,.non=>some false
 | _,.int _,.tup _=>some false
 | _,.tup _,.int _=>some false
 | _,.str _,.tup _=>some false
 | _,.tup _,.str _=>some false
 | _,.int _,.lst _=>some false
 | _,.lst _,.int _=>some false
 | _,.str _,.lst _=>some false
 | _,.lst _,.str _=>some false
 | _,.lst _,.tup _=>some false
 | _,.tup _,.lst _=>some false
 | n+1,.tup l,.tup m=>eqL (eqF n) l m
 | n+1,.lst l,.lst m=>if l.length=m.length then eqL (eqF n) l m else some false
 | _,_,_=>none
theorem nO {f:PV->PV->Option Bool} (h:∀ p r,f p p=some r->r=true):∀ {l:List PV}{r:Bool},eqL f l l=some r->r=true
 | [],r,e=>by cases e;rfl
 | x::xs,r,e=>by
  rw [eqL] at e
  split at e
  ·rename_i a b h1 h2
   cases e
   rw [h x a h1,nO h h2];rfl
  ·cases e
theorem Cq:∀ (n:Nat) (p:PV) (r:Bool),eqF n p p=some r->r=true
 | n,p,r,e=>by
  induction n generalizing p r with
  | zero=>cases p <;> first | (cases (show some true=some r from e);rfl) | (cases (show some (decide _)=some r from e);exact decide_eq_true rfl) | cases (show none=some r from e)
  | succ n ih =>
   cases p with
   | tup l=>exact nO ih e
   | lst l =>
    have e:(if l.length=l.length then eqL (eqF n) l l else some false)=some r:=e
    rw [if_pos rfl] at e;exact nO ih e
   | _=>first | (cases (show some true=some r from e);rfl) | (cases (show some (decide _)=some r from e);exact decide_eq_true rfl) | cases (show none=some r from e)
theorem zX {f:PV->PV->Option Bool}:∀ {l m:List PV}{r:Bool},eqL f l m=some r->∃ e:Nat->Bool,(∀ (j:Nat) x y,l[j]?=some x->m[j]?=some y->f x y=some (e j))∧r=((List.range (min l.length m.length)).all e && l.length == m.length)
 | [],[],r,h=>⟨fun _=>true,fun j x y a=>by simp at a,by cases h;rfl⟩
 | [],_::_,r,h=>⟨fun _=>true,fun j x y a=>by simp at a,by cases h;simp⟩
 | _::_,[],r,h=>⟨fun _=>true,fun j x y _ a=>by simp at a,by cases h;simp⟩
 | x::xs,y::ys,r,h=>by
  rw [eqL] at h
  split at h
  ·rename_i a b h1 h2
   cases h
   obtain ⟨e,e1,e2⟩:=zX h2
   refine ⟨fun j=>match j with | 0=>a | j+1=>e j,fun j x' y' a' b'=>?_,?_⟩
   ·cases j with
    | zero=>simp at a' b';subst a' b';exact h1
    | succ j=>exact e1 j x' y' (by simpa using a') (by simpa using b')
   ·rw [e2,Zav,Zav,Nat.succ_min_succ,List.range_succ_eq_map,List.all_cons,List.all_map]
    have:((xs.length+1 == ys.length+1):Bool)=(xs.length == ys.length):=by
     rw [Bool.eq_iff_iff];simp
    rw [this]
    cases a <;> simp [Function.comp_def]
  ·cases h
section
variable {X:Cx}{pins:List (Addr×Obj)}{σ:St}{H:Hp}{s:Shared}
theorem Rep.kinds (I:Inv X pins σ H s) {a:Addr}{xs ys:List V} (h1:SqL X.K H a xs) (h2:SqT X.K H a ys):False:=by
 obtain ⟨_,_,p1,_⟩:=I.list h1
 obtain ⟨_,_,p2,_⟩:=I.tuple h2
 obtain ⟨o,n,e,c,_⟩:=p1
 obtain ⟨o',e',c',_⟩:=p2
 rw [e] at e';cases e'
 rw [c] at c';exact absurd c' (by decide)
theorem Cr {xs:List V}{l m:List PV} (h1:xs.length=l.length) (h2:xs.length=m.length) (h:∀ (j:Nat) x p q,xs[j]?=some x->l[j]?=some p->m[j]?=some q->p=q):l=m:=by
 apply Zbo
 intro j
 by_cases hj:j < xs.length
 ·have hl:j < l.length:=by lia
  have hm:j < m.length:=by lia
  rw [List.getElem?_eq_getElem hl,List.getElem?_eq_getElem hm,h j xs[j] l[j] m[j] (by simp [hj]) (by simp [hl]) (by simp [hm])]
 ·rw [ZaE (by lia),ZaE (by lia)]
def HO.isDict:HO->Bool
 | .dK _=>true
 | .dT _=>true
 | _=>false
theorem Ot {H:Hp}{a:Addr}{u v:HO} (hu:HO.isDict u=true) (hv:HO.isDict v=true) (h:Rd H a u) (h':Rd H a v):u=v:=by
 rcases h with h | ⟨o,h⟩ <;> rcases h' with h' | ⟨o',h'⟩ <;> rw [h] at h' <;> cases h'
 ·rfl
 ·cases hu
 ·cases hv
 ·rfl
theorem zY {H:Hp}{a:Addr}{u v:HO} (h:Rd H a u) (h':Rd H a v) (hu:HO.isDict u=true:=by rfl) (hv:HO.isDict v=true:=by rfl):u=v:=Ot hu hv h h'
theorem Rep.noDict (I:Inv X pins σ H s) {a:Addr}{ks:List (Key×V)}{ts:List (List Key×V)} (h1:Rd H a (.dK ks)∨Rd H a (.dT ts)) (h2:(∃ xs,SqL X.K H a xs)∨∃ xs,SqT X.K H a xs):False:=by
 have d:∃ o es ep,s.heap.get? a=some o∧o.data=.dict es ep:=by
  rcases h1 with h1 | h1
  ·obtain ⟨_,_,_,_,o,es,ep,e,x,d,_⟩:=h1.ok I.hok
   exact ⟨o,es,ep,e,d⟩
  ·obtain ⟨_,_,_,_,o,es,ep,e,x,d,_⟩:=h1.ok I.hok
   exact ⟨o,es,ep,e,d⟩
 obtain ⟨o,es,ep,e,d⟩:=d
 rcases h2 with ⟨xs,h2⟩ | ⟨xs,h2⟩
 ·obtain ⟨_,_,p1,_⟩:=I.list h2
  obtain ⟨o',n,e',_,_,d'⟩:=p1
  rw [e] at e';cases e'
  rw [d] at d';cases d'
 ·obtain ⟨_,_,p1,_⟩:=I.tuple h2
  obtain ⟨o',e',_,n,d'⟩:=p1
  rw [e] at e';cases e'
  rw [d] at d';cases d'
theorem XO.at (I:Inv X pins σ H s) {a C:Addr}{d:Option Addr} (h:H a=some (XO a C d)):∃ vs:Array Value,s.heap.get? a=some { cls:=.ref C,dict:=d,data:=.fields vs }:=(I.hok _ _ h).1
theorem XO.inj (I:Inv X pins σ H s) {a C C':Addr}{d d':Option Addr} (h:H a=some (XO a C d)) (h':H a=some (XO a C' d')):C=C'∧d=d':=by
 obtain ⟨vs,e⟩:=XO.at I h
 obtain ⟨vs',e'⟩:=XO.at I h'
 rw [e] at e'
 cases e'
 exact ⟨rfl,rfl⟩
theorem XO.noSeq (I:Inv X pins σ H s) {a C:Addr}{d:Option Addr} (h:H a=some (XO a C d)) (h2:(∃ xs,SqL X.K H a xs)∨∃ xs,SqT X.K H a xs):False:=by
 obtain ⟨vs,e⟩:=XO.at I h
 rcases h2 with ⟨xs,h2⟩ | ⟨xs,h2⟩
 ·obtain ⟨_,_,p1,_⟩:=I.list h2
  obtain ⟨o',n,e',_,_,d'⟩:=p1
  rw [e] at e';cases e'
  cases d'
 ·obtain ⟨_,_,p1,_⟩:=I.tuple h2
  obtain ⟨o',e',_,n,d'⟩:=p1
  rw [e] at e';cases e'
  cases d'
theorem XNm.inj {K:PySem.W.Frag}{C:Addr}{c c':Str} (a:XNm K C c) (b:XNm K C c'):c=c':=by
 obtain ⟨cd,h1,h2⟩:=a.cl
 obtain ⟨cd',h1',h2'⟩:=b.cl
 rw [h1] at h1';cases h1'
 exact h2.symm.trans h2'
theorem Rep.inj (I:Inv X pins σ H s) {x:V}{p:PV} (h:Rep X.K H x p):∀ {q:PV},Rep X.K H x q->p=q:=by
 have pairs:∀ {κ:Type}{xs:List (κ×V)}{l m:List (κ×PV)},xs.map (·.1)=l.map (·.1)->xs.map (·.1)=m.map (·.1)->(∀ (j:Nat) x p q,xs[j]?=some x->l[j]?=some p->m[j]?=some q->p.2=q.2)->l=m:=by
  intro κ xs l m h1 h2 h3
  have l1:xs.length=l.length:=by simpa using congrArg List.length h1
  have l2:xs.length=m.length:=by simpa using congrArg List.length h2
  apply Zbo
  intro j
  by_cases hj:j < xs.length
  ·have hl:j < l.length:=by lia
   have hm:j < m.length:=by lia
   rw [List.getElem?_eq_getElem hl,List.getElem?_eq_getElem hm]
   have k:=congrArg (·[j]?) (h1.symm.trans h2)
   simp [hl,hm] at k
   have v:=h3 j xs[j] l[j] m[j] (by simp [hj]) (by simp [hl]) (by simp [hm])
   rw [Prod.ext k v]
  ·rw [ZaE (by lia),ZaE (by lia)]
 induction h with
 | non=>intro q h';cases h';rfl
 | bl=>intro q h';cases h';rfl
 | int=>intro q h';cases h';rfl
 | str=>intro q h';cases h';rfl
 | ty=>intro q h';cases h';rfl
 | @tup a xs l h hl _ ih =>
  intro q h'
  have h:=SqT.of (K:=X.K) h
  cases h' with
  | tup h2 hl2 hr2 =>
   cases I.yo h (SqT.of (K:=X.K) h2)
   rw [Cr hl hl2 fun j x p q e1 e2 e3=>ih j x p e1 e2 (hr2 j x q e1 e3)]
  | lst h2=>exact (Rep.kinds I h2 h).elim
  | dk h2=>exact (Rep.noDict I (ts:=[]) (.inl h2) (.inr ⟨_,h⟩)).elim
  | dt h2=>exact (Rep.noDict I (ks:=[]) (.inr h2) (.inr ⟨_,h⟩)).elim
  | exc _ h2=>exact (XO.noSeq I h2 (.inr ⟨_,h⟩)).elim
  | exc0 _ h2=>exact (XO.noSeq I h2 (.inr ⟨_,h⟩)).elim
 | @lst a xs l h hl _ ih =>
  intro q h'
  cases h' with
  | tup h2=>exact (Rep.kinds I h (SqT.of h2)).elim
  | lst h2 hl2 hr2 =>
   cases I.nu h h2
   rw [Cr hl hl2 fun j x p q e1 e2 e3=>ih j x p e1 e2 (hr2 j x q e1 e3)]
  | dk h2=>exact (Rep.noDict I (ts:=[]) (.inl h2) (.inl ⟨_,h⟩)).elim
  | dt h2=>exact (Rep.noDict I (ks:=[]) (.inr h2) (.inl ⟨_,h⟩)).elim
  | exc _ h2=>exact (XO.noSeq I h2 (.inl ⟨_,h⟩)).elim
  | exc0 _ h2=>exact (XO.noSeq I h2 (.inl ⟨_,h⟩)).elim
 | @dk a xs l h hl _ ih =>
  intro q h'
  cases h' with
  | tup h2=>exact (Rep.noDict I (ts:=[]) (.inl h) (.inr ⟨_,SqT.of h2⟩)).elim
  | lst h2=>exact (Rep.noDict I (ts:=[]) (.inl h) (.inl ⟨_,h2⟩)).elim
  | dk h2 hl2 hr2 =>
   cases (zY h h2)
   rw [pairs hl hl2 fun j x p q e1 e2 e3=>ih j x p e1 e2 (hr2 j x q e1 e3)]
  | dt h2=>cases zY h h2
  | exc _ h2=>rcases h with h | ⟨o,h⟩ <;> rw [h] at h2 <;> cases h2
  | exc0 _ h2=>rcases h with h | ⟨o,h⟩ <;> rw [h] at h2 <;> cases h2
 | @dt a xs l h hl _ ih =>
  intro q h'
  cases h' with
  | tup h2=>exact (Rep.noDict I (ks:=[]) (.inr h) (.inr ⟨_,SqT.of h2⟩)).elim
  | lst h2=>exact (Rep.noDict I (ks:=[]) (.inr h) (.inl ⟨_,h2⟩)).elim
  | dk h2=>cases zY h h2
  | dt h2 hl2 hr2 =>
   cases (zY h h2)
   rw [pairs hl hl2 fun j x p q e1 e2 e3=>ih j x p e1 e2 (hr2 j x q e1 e3)]
  | exc _ h2=>rcases h with h | ⟨o,h⟩ <;> rw [h] at h2 <;> cases h2
  | exc0 _ h2=>rcases h with h | ⟨o,h⟩ <;> rw [h] at h2 <;> cases h2
 | @exc a C dx c xs l nm h hd hl _ ih =>
  intro q h'
  cases h' with
  | tup h2=>exact (XO.noSeq I h (.inr ⟨_,SqT.of h2⟩)).elim
  | lst h2=>exact (XO.noSeq I h (.inl ⟨_,h2⟩)).elim
  | dk h2=>rcases h2 with h2 | ⟨o,h2⟩ <;> rw [h] at h2 <;> cases h2
  | dt h2=>rcases h2 with h2 | ⟨o,h2⟩ <;> rw [h] at h2 <;> cases h2
  | exc nm2 h2 hd2 hl2 hr2 =>
   obtain ⟨rfl,e⟩:=XO.inj I h h2
   cases e
   rw [hd] at hd2;cases hd2
   cases XNm.inj nm nm2
   rw [pairs hl hl2 fun j x p q e1 e2 e3=>ih j x p e1 e2 (hr2 j x q e1 e3)]
  | exc0 nm2 h2=>cases (XO.inj I h h2).2
 | @exc0 a C c nm h =>
  intro q h'
  cases h' with
  | tup h2=>exact (XO.noSeq I h (.inr ⟨_,SqT.of h2⟩)).elim
  | lst h2=>exact (XO.noSeq I h (.inl ⟨_,h2⟩)).elim
  | dk h2=>rcases h2 with h2 | ⟨o,h2⟩ <;> rw [h] at h2 <;> cases h2
  | dt h2=>rcases h2 with h2 | ⟨o,h2⟩ <;> rw [h] at h2 <;> cases h2
  | exc nm2 h2=>cases (XO.inj I h h2).2
  | exc0 nm2 h2 =>
   obtain ⟨rfl,_⟩:=XO.inj I h h2
   cases XNm.inj nm nm2
   rfl
theorem Kz (I:Inv X pins σ H s):∀ {A:Around}{x y:V}{p q:PV}{r:Bool}{u v:Value},A.units < cLine->eqF 0 p q=some r->Rep X.K H x p->Rep X.K H y q->RelV x u->RelV y v ->
  SeqAt.RcAt A s u v r∧SeqAt.EqAt A s u v r∧SeqAt.RcNeAt A s u v (!r):=by
 intro A x y p q r u v hu e rx ry ru rv
 have hu0:A.units < cLine:=hu
 match p,q,e with
 | .non,.non,e =>
  have e:=Zaa e
  subst e
  cases Rep.fB rx
  cases Rep.fB ry
  cases ru
  cases rv
  exact ⟨SeqAt.RcAt.none_none,SeqAt.EqAt.same _,SeqAt.RcNeAt.none_none⟩
 | .non,.bl b,e =>
  have e:=Zaa e
  subst e
  cases Rep.fB rx
  cases Rep.jZ ry
  cases ru
  cases rv
  exact ⟨SeqAt.RcAt.none_bool _,SeqAt.EqAt.none_bool _,SeqAt.RcNeAt.none_bool _⟩
 | .non,.int b,e =>
  have e:=Zaa e
  subst e
  cases Rep.fB rx
  cases Rep.aZ ry
  cases ru
  obtain ⟨tb,rfl⟩:=rv
  exact ⟨SeqAt.RcAt.none_int _ _,SeqAt.EqAt.none_int _ _,SeqAt.RcNeAt.none_int _ _⟩
 | .non,.str b,e =>
  have e:=Zaa e
  subst e
  cases Rep.fB rx
  cases Rep.bV ry
  cases ru
  obtain ⟨tb,rfl⟩:=rv
  exact ⟨SeqAt.RcAt.none_str _ _,SeqAt.EqAt.none_str _ _,SeqAt.RcNeAt.none_str _ _⟩
 | .bl a,.non,e =>
  have e:=Zaa e
  subst e
  cases Rep.jZ rx
  cases Rep.fB ry
  cases ru
  cases rv
  exact ⟨SeqAt.RcAt.bool_none _,SeqAt.EqAt.bool_none _,SeqAt.RcNeAt.bool_none _⟩
 | .bl a,.bl b,e =>
  have e:=Zaa e
  subst e
  cases Rep.jZ rx
  cases Rep.jZ ry
  cases ru
  cases rv
  rw [←Bool.beq_eq_decide_eq]
  exact ⟨SeqAt.RcAt.bool_bool _ _,SeqAt.EqAt.bool_bool _ _,SeqAt.RcNeAt.bool_bool _ _⟩
 | .bl a,.str b,e =>
  have e:=Zaa e
  subst e
  cases Rep.jZ rx
  cases Rep.bV ry
  cases ru
  obtain ⟨tb,rfl⟩:=rv
  exact ⟨SeqAt.RcAt.bool_str _ _ _,SeqAt.EqAt.bool_str _ _ _,SeqAt.RcNeAt.bool_str _ _ _⟩
 | .int a,.non,e =>
  have e:=Zaa e
  subst e
  cases Rep.aZ rx
  cases Rep.fB ry
  obtain ⟨ta,rfl⟩:=ru
  cases rv
  exact ⟨SeqAt.RcAt.int_none _ _,SeqAt.EqAt.int_none _ _,SeqAt.RcNeAt.int_none _ _⟩
 | .int a,.int b,e =>
  have e:=Zaa e
  subst e
  cases Rep.aZ rx
  cases Rep.aZ ry
  obtain ⟨ta,rfl⟩:=ru
  obtain ⟨tb,rfl⟩:=rv
  rw [←Bool.beq_eq_decide_eq]
  exact ⟨SeqAt.RcAt.int_int _ _ _ _,SeqAt.EqAt.int_int _ _ _ _,SeqAt.RcNeAt.int_int _ _ _ _⟩
 | .int a,.str b,e =>
  have e:=Zaa e
  subst e
  cases Rep.aZ rx
  cases Rep.bV ry
  obtain ⟨ta,rfl⟩:=ru
  obtain ⟨tb,rfl⟩:=rv
  exact ⟨SeqAt.RcAt.int_str _ _ _ _,SeqAt.EqAt.int_str _ _ _ _,SeqAt.RcNeAt.int_str _ _ _ _⟩
 | .str a,.non,e =>
  have e:=Zaa e
  subst e
  cases Rep.bV rx
  cases Rep.fB ry
  obtain ⟨ta,rfl⟩:=ru
  cases rv
  exact ⟨SeqAt.RcAt.str_none _ _,SeqAt.EqAt.str_none _ _,SeqAt.RcNeAt.str_none _ _⟩
 | .str a,.bl b,e =>
  have e:=Zaa e
  subst e
  cases Rep.bV rx
  cases Rep.jZ ry
  obtain ⟨ta,rfl⟩:=ru
  cases rv
  exact ⟨SeqAt.RcAt.str_bool _ _ _,SeqAt.EqAt.str_bool _ _ _,SeqAt.RcNeAt.str_bool _ _ _⟩
 | .str a,.int b,e =>
  have e:=Zaa e
  subst e
  cases Rep.bV rx
  cases Rep.aZ ry
  obtain ⟨ta,rfl⟩:=ru
  obtain ⟨tb,rfl⟩:=rv
  exact ⟨SeqAt.RcAt.str_int _ _ _ _,SeqAt.EqAt.str_int _ _ _ _,SeqAt.RcNeAt.str_int _ _ _ _⟩
 | .str a,.str b,e =>
  have e:=Zaa e
  subst e
  cases Rep.bV rx
  cases Rep.bV ry
  obtain ⟨ta,rfl⟩:=ru
  obtain ⟨tb,rfl⟩:=rv
  rw [←Bool.beq_eq_decide_eq]
  exact ⟨SeqAt.RcAt.str_str _ _ _ _,SeqAt.EqAt.str_str _ _ _ _,SeqAt.RcNeAt.str_str _ _ _ _⟩
 | .tup a,.non,e =>
  have e:=Zaa e
  subst e
  obtain ⟨aa,xsa,rfl,ha,_⟩:=rx.cZ
  cases ru
  obtain ⟨_,_,pa,_⟩:=I.tuple ha
  cases Rep.fB ry
  cases rv
  exact ⟨SeqAt.RcAt.tuple_none pa hu0,SeqAt.EqAt.tuple_none pa hu0,SeqAt.RcNeAt.tuple_none pa hu0⟩
 | .non,.tup b,e =>
  have e:=Zaa e
  subst e
  cases Rep.fB rx
  cases ru
  obtain ⟨ab,xsb,rfl,hb,_⟩:=ry.cZ
  cases rv
  obtain ⟨_,_,pb,_⟩:=I.tuple hb
  exact ⟨SeqAt.RcAt.none_tuple pb hu0,SeqAt.EqAt.none_tuple pb hu0,SeqAt.RcNeAt.none_tuple pb hu0⟩
 | .tup a,.int b,e =>
  have e:=Zaa e
  subst e
  obtain ⟨aa,xsa,rfl,ha,_⟩:=rx.cZ
  cases ru
  obtain ⟨_,_,pa,_⟩:=I.tuple ha
  cases Rep.aZ ry
  obtain ⟨tb,rfl⟩:=rv
  exact ⟨SeqAt.RcAt.tuple_int _ _ pa hu0,SeqAt.EqAt.tuple_int _ _ pa hu0,SeqAt.RcNeAt.tuple_int _ _ pa hu0⟩
 | .int a,.tup b,e =>
  have e:=Zaa e
  subst e
  cases Rep.aZ rx
  obtain ⟨ta,rfl⟩:=ru
  obtain ⟨ab,xsb,rfl,hb,_⟩:=ry.cZ
  cases rv
  obtain ⟨_,_,pb,_⟩:=I.tuple hb
  exact ⟨SeqAt.RcAt.int_tuple _ _ pb hu0,SeqAt.EqAt.int_tuple _ _ pb hu0,SeqAt.RcNeAt.int_tuple _ _ pb hu0⟩
 | .tup a,.str b,e =>
  have e:=Zaa e
  subst e
  obtain ⟨aa,xsa,rfl,ha,_⟩:=rx.cZ
  cases ru
  obtain ⟨_,_,pa,_⟩:=I.tuple ha
  cases Rep.bV ry
  obtain ⟨tb,rfl⟩:=rv
  exact ⟨SeqAt.RcAt.tuple_str _ _ pa hu0,SeqAt.EqAt.tuple_str _ _ pa hu0,SeqAt.RcNeAt.tuple_str _ _ pa hu0⟩
 | .str a,.tup b,e =>
  have e:=Zaa e
  subst e
  cases Rep.bV rx
  obtain ⟨ta,rfl⟩:=ru
  obtain ⟨ab,xsb,rfl,hb,_⟩:=ry.cZ
  cases rv
  obtain ⟨_,_,pb,_⟩:=I.tuple hb
  exact ⟨SeqAt.RcAt.str_tuple _ _ pb hu0,SeqAt.EqAt.str_tuple _ _ pb hu0,SeqAt.RcNeAt.str_tuple _ _ pb hu0⟩
 | .lst a,.non,e =>
  have e:=Zaa e
  subst e
  obtain ⟨aa,xsa,rfl,ha,_⟩:=rx.b8
  cases ru
  obtain ⟨_,_,pa,_⟩:=I.list ha
  cases Rep.fB ry
  cases rv
  exact ⟨SeqAt.RcAt.list_none pa.isList hu0,SeqAt.EqAt.list_none pa.isList hu0,SeqAt.RcNeAt.list_none pa.isList hu0⟩
 | .non,.lst b,e =>
  have e:=Zaa e
  subst e
  cases Rep.fB rx
  cases ru
  obtain ⟨ab,xsb,rfl,hb,_⟩:=ry.b8
  cases rv
  obtain ⟨_,_,pb,_⟩:=I.list hb
  exact ⟨SeqAt.RcAt.none_list pb.isList hu0,SeqAt.EqAt.none_list pb.isList hu0,SeqAt.RcNeAt.none_list pb.isList hu0⟩
 | .lst a,.int b,e =>
  have e:=Zaa e
  subst e
  obtain ⟨aa,xsa,rfl,ha,_⟩:=rx.b8
  cases ru
  obtain ⟨_,_,pa,_⟩:=I.list ha
  cases Rep.aZ ry
  obtain ⟨tb,rfl⟩:=rv
  exact ⟨SeqAt.RcAt.list_int _ _ pa.isList hu0,SeqAt.EqAt.list_int _ _ pa.isList hu0,SeqAt.RcNeAt.list_int _ _ pa.isList hu0⟩
 | .int a,.lst b,e =>
  have e:=Zaa e
  subst e
  cases Rep.aZ rx
  obtain ⟨ta,rfl⟩:=ru
  obtain ⟨ab,xsb,rfl,hb,_⟩:=ry.b8
  cases rv
  obtain ⟨_,_,pb,_⟩:=I.list hb
  exact ⟨SeqAt.RcAt.int_list _ _ pb.isList hu0,SeqAt.EqAt.int_list _ _ pb.isList hu0,SeqAt.RcNeAt.int_list _ _ pb.isList hu0⟩
 | .lst a,.str b,e =>
  have e:=Zaa e
  subst e
  obtain ⟨aa,xsa,rfl,ha,_⟩:=rx.b8
  cases ru
  obtain ⟨_,_,pa,_⟩:=I.list ha
  cases Rep.bV ry
  obtain ⟨tb,rfl⟩:=rv
  exact ⟨SeqAt.RcAt.list_str _ _ pa.isList hu0,SeqAt.EqAt.list_str _ _ pa.isList hu0,SeqAt.RcNeAt.list_str _ _ pa.isList hu0⟩
 | .str a,.lst b,e =>
  have e:=Zaa e
  subst e
  cases Rep.bV rx
  obtain ⟨ta,rfl⟩:=ru
  obtain ⟨ab,xsb,rfl,hb,_⟩:=ry.b8
  cases rv
  obtain ⟨_,_,pb,_⟩:=I.list hb
  exact ⟨SeqAt.RcAt.str_list _ _ pb.isList hu0,SeqAt.EqAt.str_list _ _ pb.isList hu0,SeqAt.RcNeAt.str_list _ _ pb.isList hu0⟩
 | .lst a,.tup b,e =>
  have e:=Zaa e
  subst e
  obtain ⟨aa,xsa,rfl,ha,_⟩:=rx.b8
  cases ru
  obtain ⟨_,_,pa,_⟩:=I.list ha
  obtain ⟨ab,xsb,rfl,hb,_⟩:=ry.cZ
  cases rv
  obtain ⟨_,_,pb,_⟩:=I.tuple hb
  exact ⟨SeqAt.RcAt.list_tuple pa.isList pb hu0,SeqAt.EqAt.list_tuple pa.isList pb hu0,SeqAt.RcNeAt.list_tuple pa.isList pb hu0⟩
 | .tup a,.lst b,e =>
  have e:=Zaa e
  subst e
  obtain ⟨aa,xsa,rfl,ha,_⟩:=rx.cZ
  cases ru
  obtain ⟨_,_,pa,_⟩:=I.tuple ha
  obtain ⟨ab,xsb,rfl,hb,_⟩:=ry.b8
  cases rv
  obtain ⟨_,_,pb,_⟩:=I.list hb
  exact ⟨SeqAt.RcAt.tuple_list pa pb.isList hu0,SeqAt.EqAt.tuple_list pa pb.isList hu0,SeqAt.RcNeAt.tuple_list pa pb.isList hu0⟩
def KC:PV->PV->Bool
 | .tup _,.tup _=>true
 | .lst _,.lst _=>true
 | _,_=>false
theorem KD {n:Nat}{p q:PV} (h:KC p q=false):eqF (n+1) p q=eqF 0 p q:=by
 cases p <;> cases q <;> first | rfl | cases h
theorem Ji:∀ {p q:PV},KC p q=true->(∃ l m,p=.tup l∧q=.tup m)∨∃ l m,p=.lst l∧q=.lst m
 | .tup l,q,h=>by
  cases q with
  | tup m=>exact .inl ⟨l,m,rfl,rfl⟩
  | _=>cases h
 | .lst l,q,h=>by
  cases q with
  | lst m=>exact .inr ⟨l,m,rfl,rfl⟩
  | _=>cases h
theorem QJ (I:Inv X pins σ H s):∀ (n:Nat) {A:Around}{x y:V}{p q:PV}{r:Bool}{u v:Value},A.units+n < cLine->eqF n p q=some r->Rep X.K H x p->Rep X.K H y q->RelV x u->RelV y v ->
  SeqAt.RcAt A s u v r∧SeqAt.EqAt A s u v r∧SeqAt.RcNeAt A s u v (!r):=by
 intro n
 induction n with
 | zero=>exact fun hu e=>Kz I (by lia) e
 | succ n ih =>
  intro A x y p q r u v hu e rx ry ru rv
  have hu0:A.units < cLine:=by lia
  cases hr:KC p q with
  | false=>exact Kz I hu0 (by rw [←KD hr];exact e) rx ry ru rv
  | true =>
  rcases Ji hr with ⟨l,m,rfl,rfl⟩ | ⟨l,m,rfl,rfl⟩
  ·have e:eqL (eqF n) l m=some r:=e
   obtain ⟨a,xs,rfl,ha,r1⟩:=rx.cZ
   obtain ⟨b,ys,rfl,hb,r2⟩:=ry.cZ
   cases ru
   cases rv
   obtain ⟨i1,v1,t1,_⟩:=I.tuple ha
   obtain ⟨i2,v2,t2,_⟩:=I.tuple hb
   obtain ⟨g,g1,g2⟩:=zX e
   have hj:∀ j (h1:j < i1.toArray.size) (h2:j < i2.toArray.size),SeqAt.EqAt A.in1 s i1.toArray[j] i2.toArray[j] (g j):=fun j h1 h2=>by
    obtain ⟨x,hx,rx'⟩:=qQ v1 h1
    obtain ⟨y,hy,ry'⟩:=qQ v2 h2
    obtain ⟨p',hp,rp⟩:=r1.got hx
    obtain ⟨q',hq,rq⟩:=r2.got hy
    exact (ih (A:=A.in1) (show A.units+1+n < cLine by lia) (g1 j p' q' hp hq) rp rq rx' ry').2.1
   have rc:=SeqAt.RcAt.tuples (A:=A) (e:=g) t1 t2 hu0 hj
   have rn:=SeqAt.RcNeAt.tuples (A:=A) (e:=g) t1 t2 hu0 hj
   rw [List.size_toArray,List.size_toArray,←v1.length,←v2.length,r1.1,r2.1,←g2] at rc rn
   refine ⟨rc,?_,rn⟩
   by_cases hab:a=b
   ·subst hab
    have epq:PV.tup l=PV.tup m:=Rep.inj I rx ry
    cases epq
    have er:=nO (Cq n) e
    subst er
    exact SeqAt.EqAt.same _
   ·exact .of_refs hab rc
  ·obtain ⟨a,xs,rfl,ha,r1⟩:=rx.b8
   obtain ⟨b,ys,rfl,hb,r2⟩:=ry.b8
   cases ru
   cases rv
   obtain ⟨i1,v1,t1,_⟩:=I.list ha
   obtain ⟨i2,v2,t2,_⟩:=I.list hb
   have e:(if l.length=m.length then eqL (eqF n) l m else some false)=some r:=e
   split at e
   ·rename_i hlm
    obtain ⟨g,g1,g2⟩:=zX e
    have hz:i1.toArray.size=i2.toArray.size:=by rw [List.size_toArray,List.size_toArray,←v1.length,←v2.length,r1.1,r2.1];exact hlm
    have hj:∀ j (h1:j < i1.toArray.size) (h2:j < i2.toArray.size),SeqAt.EqAt A.in1 s i1.toArray[j] i2.toArray[j] (g j):=fun j h1 h2=>by
     obtain ⟨x,hx,rx'⟩:=qQ v1 h1
     obtain ⟨y,hy,ry'⟩:=qQ v2 h2
     obtain ⟨p',hp,rp⟩:=r1.got hx
     obtain ⟨q',hq,rq⟩:=r2.got hy
     exact (ih (A:=A.in1) (show A.units+1+n < cLine by lia) (g1 j p' q' hp hq) rp rq rx' ry').2.1
    have rc:=SeqAt.RcAt.lists (A:=A) (e:=g) t1.isList t2.isList hz hu0 hj
    have e2:r=(List.range l.length).all g:=by rw [g2,←hlm,Nat.min_self,beq_self_eq_true,Bool.and_true]
    have rn:=SeqAt.RcNeAt.lists (A:=A) (e:=g) t1.isList t2.isList hz hu0 hj
    rw [List.size_toArray,←v1.length,r1.1,←e2] at rc rn
    refine ⟨rc,?_,rn⟩
    by_cases hab:a=b
    ·subst hab
     have epq:PV.lst l=PV.lst m:=Rep.inj I rx ry
     cases epq
     have er:=nO (Cq n) e
     subst er
     exact SeqAt.EqAt.same _
    ·exact .of_refs hab rc
   ·rename_i hlm
    cases e
    have hz:(i1.toArray.size != i2.toArray.size)=true:=by rw [List.size_toArray,List.size_toArray,←v1.length,←v2.length,r1.1,r2.1];simpa using hlm
    have rc:=SeqAt.RcAt.lists_lengths (A:=A) t1.isList t2.isList hz hu0
    have hab:a≠b:=fun z=>by
     subst z
     have epq:PV.lst l=PV.lst m:=Rep.inj I rx ry
     cases epq
     exact hlm rfl
    exact ⟨rc,.of_refs hab rc,SeqAt.RcNeAt.lists_lengths (A:=A) t1.isList t2.isList hz hu0⟩
end
section
variable {X:Cx}{k:Nat}
theorem OpR.or {f:Value->Value->Sem Value}{r r':R2} (h:OpR X f r) (h':OpR X f r'):OpR X f (fun x y H Q=>r x y H Q∨r' x y H Q):=by
 intro pins s σ H x y v u Q I rx ry q
 rcases q with q | q
 ·exact h pins s σ H x y v u Q I rx ry q
 ·exact h' pins s σ H x y v u Q I rx ry q
def Uj (K:PySem.W.Frag):R2:=fun x y H Q=>∃ p q r,Rep K H x p∧Rep K H y q∧eqF 32 p q=some r∧Q (.bl r) H
theorem dZ (hr:fM k X.A):OpR X (compareOp .Eq) (Uj X.K):=by
 intro pins s σ H x y v u Q I rx ry h
 obtain ⟨p,q,r,h1,h2,e,h3⟩:=h
 exact (QJ I 32 (Ke hr) e h1 h2 rx ry).1 X.prog X.w X.xe _ ⟨.bl r,H,I,rfl,h3⟩
def inF (p:PV):List PV->Option Bool
 | []=>some false
 | x::xs=>match eqF 31 x p,inF p xs with
  | some a,some b=>some (a || b)
  | _,_=>none
theorem GR {p:PV}:∀ {l:List PV}{r:Bool},inF p l=some r->∃ e:Nat->Bool,(∀ (j:Nat) x,l[j]?=some x->eqF 31 x p=some (e j))∧r=(List.range l.length).any e
 | [],r,h=>⟨fun _=>true,fun j x a=>by simp at a,by cases h;rfl⟩
 | x::xs,r,h=>by
  rw [inF] at h
  split at h
  ·rename_i a b h1 h2
   cases h
   obtain ⟨e,e1,e2⟩:=GR h2
   refine ⟨fun j=>match j with | 0=>a | j+1=>e j,fun j x' a'=>?_,?_⟩
   ·cases j with
    | zero=>simp at a';subst a';exact h1
    | succ j=>exact e1 j x' (by simpa using a')
   ·rw [e2,Zav,List.range_succ_eq_map,ZbE,List.any_map]
    rfl
  ·cases h
def Uk (K:PySem.W.Frag) (neg:Bool):R2:=fun x y H Q=>∃ p l r,Rep K H x p∧(Rep K H y (.lst l)∨Rep K H y (.tup l))∧inF p l=some r∧Q (.bl (if neg=true then !r else r)) H
theorem Cu {pins:List (Addr×Obj)}{σ:St}{H:Hp}{s:Shared} (I:Inv X pins σ H s) (hr:fM k X.A) {x:V}{v:Value}{p:PV}{xs:List V}{its:List Value}{l:List PV}{r:Bool} (rx:RelV x v) (h1:Rep X.K H x p) (rv:Vals xs its) (hl:bC X.K H xs l) (e:inF p l=some r) :
  ∃ f:Value->Bool,(∀ y,y∈its.toArray->SeqAt.EqAt X.A.in1 s y v (f y))∧its.toArray.any f=r:=by
 obtain ⟨g,g1,g2⟩:=GR e
 have key:∀ w'∈its,∃ j,∃ hj:j < its.length,its[j]=w':=fun w' hw=>by
  obtain ⟨j,hj,e⟩:=List.mem_iff_getElem.mp hw
  exact ⟨j,hj,e⟩
 have look:∀ (j:Nat) (hj:j < its.length),∃ z q,l[j]?=some q∧RelV z its[j]∧Rep X.K H z q∧eqF 31 q p=some (g j):=fun j hj=>by
  obtain ⟨z,hz,rz⟩:=qQ rv (j:=j) (by simpa using hj)
  obtain ⟨q,hq,rq⟩:=hl.got hz
  exact ⟨z,q,hq,by simpa using rz,rq,g1 j q hq⟩
 classical
 let f:Value->Bool:=fun w'=>if h:∃ j,∃ hj:j < its.length,its[j]=w' then g (Classical.choose h) else false
 have fe:∀ (j:Nat) (hj:j < its.length),f its[j]=g j:=fun j hj=>by
  have hx:∃ i,∃ hi:i < its.length,its[i]=its[j]:=⟨j,hj,rfl⟩
  show (if h:∃ i,∃ hi:i < its.length,its[i]=its[j] then g (Classical.choose h) else false)=g j
  rw [dif_pos hx]
  obtain ⟨h1',h2'⟩:=Zbi hx
  generalize Classical.choose hx=i at h1' h2' ⊢
  obtain ⟨z,q,_,rz,rq,eq1⟩:=look i h1'
  obtain ⟨z',q',_,rz',rq',eq2⟩:=look j hj
  rw [h2'] at rz
  cases rz.inj rz'
  cases Rep.inj I rq rq'
  rw [eq1] at eq2
  exact Zaa eq2
 refine ⟨f,fun y hy=>?_,?_⟩
 ·obtain ⟨j,hj,e1⟩:=key y (by simpa using hy)
  obtain ⟨z,q,_,rz,rq,eq1⟩:=look j hj
  rw [←e1,fe j hj]
  exact (QJ I 31 (A:=X.A.in1) (show X.A.units+1+31 < cLine by have:=Ke hr;lia) eq1 rq h1 rz rx).2.1
 ·have hlen:its.length=l.length:=by rw [←rv.length,hl.1]
  rw [g2,show its.toArray.any f=its.any f by simp,Bool.eq_iff_iff,List.any_eq_true,List.any_eq_true]
  constructor
  ·rintro ⟨w',hw,hf⟩
   obtain ⟨j,hj,e1⟩:=key w' hw
   exact ⟨j,Zat.mpr (by lia),by rw [←fe j hj,e1];exact hf⟩
  ·rintro ⟨j,hj,hf⟩
   have hj':j < its.length:=by rw [hlen];exact Zat.mp hj
   exact ⟨its[j],List.getElem_mem hj',by rw [fe j hj'];exact hf⟩
theorem Jj (hr:fM k X.A):OpR X (compareOp .NotIn) (Uk X.K true):=by
 intro pins s σ H x y v u Q I rx ry h
 obtain ⟨p,l,r,h1,h2,e,q⟩:=h
 rcases h2 with h2 | h2
 ·obtain ⟨a,xs,rfl,hq,rr⟩:=h2.b8
  cases ry
  obtain ⟨its,rv,pl,_⟩:=I.list hq
  obtain ⟨f,f1,f2⟩:=Cu I hr rx h1 rv rr e
  exact SeqAt.notIn_listAt f pl.isList f1 (by rw [f2];exact ⟨.bl _,H,I,rfl,q⟩)
 ·obtain ⟨a,xs,rfl,hq,rr⟩:=h2.cZ
  cases ry
  obtain ⟨its,rv,pl,_⟩:=I.tuple hq
  obtain ⟨f,f1,f2⟩:=Cu I hr rx h1 rv rr e
  exact SeqAt.notIn_tupleAt f pl f1 (by rw [f2];exact ⟨.bl _,H,I,rfl,q⟩)
def zZ (K:PySem.W.Frag):R2:=fun x y H Q=>Uk K true x y H Q∨∃ i j,x=.str i∧y=.str j∧Q (.bl (!(!(Builtin.Str.occurrences j i 0 j.length 1).isEmpty))) H
theorem yH (hr:fM k X.A):OpR X (compareOp .NotIn) (zZ X.K):=OpR.or (Jj hr) zH
def KH (K:PySem.W.Frag):R2:=fun x y H Q=>rI0 (fun i j=>.int (i+j)) x y H Q∨(∃ i j,x=.str i∧y=.str j∧i.length+j.length≤sizeLine∧Q (.str (i++j)) H)∨Qy K x y H Q
theorem bh:OpR X (binaryOp .Add) (KH X.K):=OpR.or Rp (OpR.or Fq NZ)
def QK:R2:=fun x y H Q=>rI Fl (fun i j=>.int (i * j)) x y H Q∨∃ z n,x=.str z∧y=.int n∧-(2 ^ 63)≤n∧n < 2 ^ 63∧z.length * n.toNat≤sizeLine∧Q (.str ⟨(List.replicate n.toNat z.cps).foldl (·++·) #[]⟩) H
theorem bO:OpR X (binaryOp .Mult) QK:=by
 refine OpR.or Rq ?_
 intro pins s σ H x y v u Q I rx ry h
 obtain ⟨z,n,rfl,rfl,h1,h2,h3,q⟩:=h
 obtain ⟨t,rfl⟩:=rx
 obtain ⟨t',rfl⟩:=ry
 have fin:∀ t k,EP X pins σ Q (.str ⟨(List.replicate n.toNat z.cps).foldl (·++·) #[]⟩ t) { s with toks:=k }:=fun t k=>⟨.str _,H,I.tok _,⟨t,rfl⟩,q⟩
 have hr:(decide (n < -(2 ^ 63:Int)) || decide (n ≥ 2 ^ 63))=false:=by
  rw [decide_eq_false (by omega),decide_eq_false (by omega)];rfl
 refine PySem.P.mul_str hr (fun h4 h5=>?_) (fun h4 h5=>?_) ?_
 ·have hn:1≤n:=by omega
  have h6:z.length≤sizeLine:=by
   have:z.length * 1≤z.length * n.toNat:=Nat.mul_le_mul_left _ (by omega)
   omega
  have h7:n≠1:=fun e=>by subst e;simp at h5
  have h8:(z.length:Int) * n≤16777216:=by
   have e:(z.length:Int) * n=((z.length * n.toNat:Nat):Int):=by
    rw [Int.natCast_mul,Zbg (by omega)]
   rw [e]
   have:z.length * n.toNat≤16777216:=h3
   omega
  have h9:(z.length:Int)≤(2 ^ 63 - 1) / n:=by
   apply (Int.le_ediv_iff_mul_le (by omega)).mpr
   omega
  omega
 ·unfold Builtin.Str.tooLong
  exact decide_eq_false (by omega)
 ·by_cases h4:n < 1
  ·rw [if_pos h4]
   have e:n.toNat=0:=by omega
   rw [e] at fin
   exact ⟨ZaO _,fin _ _⟩
  ·rw [if_neg h4]
   refine post_val_or_str ⟨?_,fun t' k=>?_⟩
   ·have e1:∀ (m:Nat) (acc:Array Nat),((List.replicate m z.cps).foldl (·++·) acc).size=acc.size+m * z.cps.size:=fun m=>by
     induction m with
     | zero=>intro acc;simp
     | succ m ih=>intro acc;rw [List.replicate_succ,List.foldl_cons,ih,Array.size_append,Nat.succ_mul];omega
    have h6:z.length≤sizeLine:=by
     have:z.length * 1≤z.length * n.toNat:=Nat.mul_le_mul_left _ (by omega)
     omega
    split
    ·exact h6
    ·show ((List.replicate n.toNat z.cps).foldl (·++·) #[]).size≤sizeLine
     rw [e1,Nat.mul_comm]
     show 0+z.length * n.toNat≤_
     omega
   ·have fz:=fin t' k
    split
    ·rename_i h5
     have e:(⟨(List.replicate n.toNat z.cps).foldl (·++·) #[]⟩:Str)=z:=by
      rcases Bool.or_eq_true _ _ ▸ h5 with h | h
      ·have:n=1:=by simpa using h
       subst this
       show (⟨#[]++z.cps⟩:Str)=z
       rw [Array.empty_append]
      ·have h1:z.length=0:=by simpa using h
       have h0:z.cps=#[]:=Array.eq_empty_of_size_eq_zero h1
       have e2:∀ m:Nat,(List.replicate m (#[]:Array Nat)).foldl (·++·) #[]=#[]:=fun m=>by
        induction m with
        | zero=>rfl
        | succ m ih=>rw [List.replicate_succ,List.foldl_cons];exact ih
       cases z with
       | mk c=>cases h0;rw [e2]
     rw [e] at fz
     exact fz
    ·exact fz
def Ul:R2:=fun x y H Q=>rI0 (fun i j=>.bl (decide (i < j))) x y H Q∨∃ i j,x=.str i∧y=.str j∧Q (.bl (decide (i.cps.toList < j.cps.toList))) H
theorem vU:OpR X (compareOp .Lt) Ul:=OpR.or TY Iz
theorem Jk (l b:Addr) (i1 i2:Array Value) (n1 n2:Nat) (s1 s2:Array (Option Value)) (hz:i1.size+i2.size≤sizeLine) :
  Meets (Builtin.«list.__add__» ⟨[.ref l,.ref b],[]⟩) (fun _ R s=>s.heap.get? l=some ⟨.type "list",none,.seq i1 n1,s1⟩∧s.heap.get? b=some ⟨.type "list",none,.seq i2 n2,s2⟩ ∧
   R (.ok (.ret (Value.ref s.heap.objs.size))) { s with heap:=s.heap.push { cls:=Value.type "list",data:=Data.seq (i1++i2) } }):=by
 refine .of_wp fun prog w A R s h=>?_
 obtain ⟨hp,g,d,tk,os⟩:=s
 obtain ⟨h1,h2,h⟩:=h
 have f1:=AutoSeq1.idx_int
 have f2:=AutoSeq1.sub_tuple_tuple
 have f3:=AutoSeq1.sub_list_list
 have f4:=AutoSeq1.sub_tuple_list
 have f5:=AutoSeq1.sub_list_tuple
 wp_walk using AutoSeq1.wpAny_loadPart' h1,AutoSeq1.wpAny_loadPart' h2
 exact ⟨_,rfl,h⟩
theorem z6:OpR X (binaryOp .Add) (fun x y H Q=>∃ l b xs zs,x=.ref l∧y=.ref b∧SqL X.K H l xs∧SqL X.K H b zs∧xs.length+zs.length≤sizeLine∧∀ p,H p=none->Q (.ref p) (upd H p (.lst (xs++zs)))):=by
 intro pins s σ H x y v u Q I rx ry h
 obtain ⟨l,b,xs,zs,rfl,rfl,hH,hB,hz,q⟩:=h
 cases rx
 cases ry
 obtain ⟨its,r,⟨⟨cl1,dd1,da1,sl1⟩,n1,g1,c1,d1,e1⟩,z1⟩:=I.list hH
 obtain ⟨its2,r2,⟨⟨cl2,dd2,da2,sl2⟩,n2,g2,c2,d2,e2⟩,z2⟩:=I.list hB
 simp only at c1 d1 e1 c2 d2 e2
 subst c1 d1 e1 c2 d2 e2
 have hs:its.toArray.size+its2.toArray.size≤sizeLine:=by rw [List.size_toArray,List.size_toArray,←r.length,←r2.length];exact hz
 refine concat_meets ⟨_,g1,rfl⟩ ⟨_,g2,rfl⟩ noFill_list_add seq_list_add F.slot_list_add F.entry_list_add (F.args_list_add_2 _ _) (Jk l b its.toArray its2.toArray n1 n2 sl1 sl2 hs) ⟨g1,g2,?_⟩
 have ea:its.toArray++its2.toArray=(its++its2).toArray:=by simp
 rw [ea]
 exact ⟨.ref _,_,I.Vf (t':=s.toks) (r.append r2) (by rw [List.length_append];lia),rfl,q _ I.fresh⟩
end
theorem noS {α:Type}{r:α}{C:Prop} (e:(none:Option α)=some r):C:=by cases e
def opI (c:Int->Int->Bool) (f:Int->Int->PV):PV->PV->Option (Res PV)
 | .int i,.int j=>if c i j=true then some (.ok (f i j)) else none
 | _,_=>none
def cT:Int->Int->Bool:=fun _ _=>true
def KJ:Int->Int->Bool:=fun i j=>decide ((-(2 ^ 64) < i∧i < 2 ^ 64)∨(-(2 ^ 64) < j∧j < 2 ^ 64))
def RN:Int->Int->Bool:=fun _ j=>decide (0 < j∧j < 1073741824)
def Um:Int->Int->Bool:=fun _ j=>decide (0 < j)
def KN:Int->Int->Bool:=fun i j=>decide (0≤j∧j≤1000000∧i.natAbs < 2 ^ 64)
def Uo:Int->Int->Bool:=fun _ j=>decide (0≤j)
def jg:=opI cT fun i j=>.int (i - j)
def vV:=opI RN fun i j=>.int (i / j)
def iQ:=opI Um fun i j=>.int (i % j)
def GX:=opI KN fun i j=>.int (i ^ j.toNat)
def qY:=opI KN fun i j=>.int (i * 2 ^ j.toNat)
def pK:=opI Uo fun i j=>.int (i / 2 ^ j.toNat)
def jK:=opI cT fun i j=>.int (Builtin.bitAnd i j)
def Jl:=opI cT fun i j=>.int (Builtin.bitOr i j)
def Cv:=opI cT fun i j=>.bl (decide (j < i))
def Ou:=opI cT fun i j=>.bl (decide (j≤i))
def b7:PV->PV->Option (Res PV)
 | .int i,.int j=>some (.ok (.int (i+j)))
 | .str i,.str j=>if i.length+j.length≤sizeLine then some (.ok (.str (i++j))) else none
 | .tup l,.tup m=>if l≠[]∧l.length+m.length≤sizeLine then some (.ok (.tup (l++m))) else none
 | _,_=>none
def RP (z:Str) (n:Nat):Str:=⟨(List.replicate n z.cps).foldl (·++·) #[]⟩
def dD:PV->PV->Option (Res PV)
 | .int i,.int j=>if KJ i j=true then some (.ok (.int (i * j))) else none
 | .str z,.int n=>if -(2 ^ 63)≤n∧n < 2 ^ 63∧z.length * n.toNat≤sizeLine then some (.ok (.str (RP z n.toNat))) else none
 | _,_=>none
def Cw:PV->PV->Option (Res PV)
 | .int i,.int j=>some (.ok (.bl (decide (i < j))))
 | .str i,.str j=>some (.ok (.bl (decide (i.cps.toList < j.cps.toList))))
 | _,_=>none
def jd (p q:PV):Option (Res PV):=match eqF 32 p q with
 | some r=>some (.ok (.bl r))
 | none=>none
def inU (p:PV):PV->Option Bool
 | .lst l=>inF p l
 | .tup l=>inF p l
 | .str j=>match p with
  | .str i=>some (!(Builtin.Str.occurrences j i 0 j.length 1).isEmpty)
  | _=>none
 | _=>none
def lU (p q:PV):Option (Res PV):=match inU p q with
 | some r=>some (.ok (.bl (!r)))
 | none=>none
def PV.yI:PV->Bool
 | .non=>true
 | _=>false
def FP (p q:PV):Option (Res PV):=match q with
 | .non=>some (.ok (.bl (!p.yI)))
 | _=>none
def ofO (x:Option PV):Option (Res PV):=match x with
 | some p=>some (.ok p)
 | none=>none
def cQ:PV->PV->Option (Res PV)
 | .lst l,.int i=>ofO (atI l i)
 | .tup l,.int i=>ofO (atI l i)
 | .str z,.int i=>if z.length≤sizeLine then ofO ((atI z.cps.toList i).map fun c=>.str ⟨#[c]⟩) else none
 | _,_=>none
def KQ:List PV->PV->Option (Res PV)
 | l,.int i=>ofO (atI l i)
 | _,_=>none
section
variable {K:PySem.W.Frag}{C:Cg}{F H:Hp}
theorem Uq {i j:Int} (h:RN i j=true):Ro i j:=of_decide_eq_true (p:=0 < j∧j < 1073741824) h
theorem QL {i j:Int} (h:KN i j=true):J6 i j:=of_decide_eq_true (p:=0≤j∧j≤1000000∧i.natAbs < 2 ^ 64) h
theorem Ur {i j:Int} (h:KJ i j=true):Fl i j:=of_decide_eq_true (p:=(-(2 ^ 64) < i∧i < 2 ^ 64)∨(-(2 ^ 64) < j∧j < 2 ^ 64)) h
theorem Cy {c:Int->Int->Bool}{f:Int->Int->PV}{cond:Int->Int->Prop}{fv:Int->Int->V} (hc:∀ i j,c i j=true->cond i j) (hf:∀ i j F,Rep K F (fv i j) (f i j)):R2M C (aF K) (aF K) (aF K) (rI cond fv) (opI c f):=by
 intro F H x y a b res Q s ha hb e P
 have inv:(∃ i j,a=.int i∧b=.int j):=by
  clear P ha hb
  cases a <;> first | exact noS e | (cases b <;> first | exact noS e | exact ⟨_,_,rfl,rfl⟩)
 obtain ⟨i,j,rfl,rfl⟩:=inv
 cases Rep.aZ ha
 cases Rep.aZ hb
 have e:(if c i j=true then some (Res.ok (f i j)) else none)=some res:=e
 split at e
 ·rename_i h
  cases e
  exact ⟨i,j,rfl,rfl,hc i j h,P _ F H (Up.refl s) (hf i j F)⟩
 ·cases e
theorem vW {f:Int->Int->PV}{fv:Int->Int->V} (hf:∀ i j F,Rep K F (fv i j) (f i j)):R2M C (aF K) (aF K) (aF K) (rI0 fv) (opI cT f):=by
 intro F H x y a b res Q s ha hb e P
 have inv:(∃ i j,a=.int i∧b=.int j):=by
  clear P ha hb
  cases a <;> first | exact noS e | (cases b <;> first | exact noS e | exact ⟨_,_,rfl,rfl⟩)
 obtain ⟨i,j,rfl,rfl⟩:=inv
 cases Rep.aZ ha
 cases Rep.aZ hb
 cases e
 exact ⟨i,j,rfl,rfl,P _ F H (Up.refl s) (hf i j F)⟩
theorem kY:R2M C (aF K) (aF K) (aF K) (rI0 fun i j=>.int (i - j)) jg:=vW fun _ _ _=>.int
theorem GZ:R2M C (aF K) (aF K) (aF K) (rI Ro fun i j=>.int (i / j)) vV:=Cy (fun _ _ h=>Uq h) fun _ _ _=>.int
theorem jL:R2M C (aF K) (aF K) (aF K) (rI (fun _ j=>0 < j) fun i j=>.int (i % j)) iQ:=Cy (fun _ _ h=>of_decide_eq_true h) fun _ _ _=>.int
theorem Us:R2M C (aF K) (aF K) (aF K) (rI J6 fun i j=>.int (i ^ j.toNat)) GX:=Cy (fun _ _ h=>QL h) fun _ _ _=>.int
theorem yJ:R2M C (aF K) (aF K) (aF K) (rI J6 fun i j=>.int (i * 2 ^ j.toNat)) qY:=Cy (fun _ _ h=>QL h) fun _ _ _=>.int
theorem vX:R2M C (aF K) (aF K) (aF K) (rI (fun _ j=>0≤j) fun i j=>.int (i / 2 ^ j.toNat)) pK:=Cy (fun _ _ h=>of_decide_eq_true h) fun _ _ _=>.int
theorem nP:R2M C (aF K) (aF K) (aF K) (rI0 fun i j=>.int (Builtin.bitAnd i j)) jK:=vW fun _ _ _=>.int
theorem RQ:R2M C (aF K) (aF K) (aF K) (rI0 fun i j=>.int (Builtin.bitOr i j)) Jl:=vW fun _ _ _=>.int
theorem KR:R2M C (aF K) (aF K) (aF K) (rI0 fun i j=>.bl (decide (j < i))) Cv:=vW fun _ _ _=>.bl
theorem Vk:R2M C (aF K) (aF K) (aF K) (rI0 fun i j=>.bl (decide (j≤i))) Ou:=vW fun _ _ _=>.bl
theorem cF:R2M C (aF K) (aF K) (aF K) (KH K) b7:=by
 intro F H x y a b res Q s ha hb e P
 have inv:(∃ i j,a=.int i∧b=.int j)∨(∃ i j,a=.str i∧b=.str j)∨(∃ l m,a=.tup l∧b=.tup m):=by
  clear P ha hb
  cases a <;> first | exact noS e | (cases b <;> first | exact noS e | exact .inl ⟨_,_,rfl,rfl⟩ | exact .inr (.inl ⟨_,_,rfl,rfl⟩) | exact .inr (.inr ⟨_,_,rfl,rfl⟩))
 rcases inv with ⟨i,j,rfl,rfl⟩ | ⟨i,j,rfl,rfl⟩ | ⟨l,m,rfl,rfl⟩
 ·cases Rep.aZ ha
  cases Rep.aZ hb
  cases e
  exact .inl ⟨i,j,rfl,rfl,P _ F H (Up.refl s) .int⟩
 ·cases Rep.bV ha
  cases Rep.bV hb
  have e:(if i.length+j.length≤sizeLine then some (Res.ok (PV.str (i++j))) else none)=some res:=e
  split at e
  ·rename_i h
   cases e
   exact .inr (.inl ⟨i,j,rfl,rfl,h,P _ F H (Up.refl s) .str⟩)
  ·cases e
 ·have e:(if l≠[]∧l.length+m.length≤sizeLine then some (Res.ok (PV.tup (l++m))) else none)=some res:=e
  split at e
  ·rename_i h
   cases e
   obtain ⟨a1,xs,rfl,h1,r1⟩:=Rep.cZ ha
   obtain ⟨a2,ys,rfl,h2,r2⟩:=Rep.cZ hb
   have hx:xs≠[]:=fun z=>h.1 (by have:=r1.1;rw [z] at this;simpa using this.symm)
   refine .inr (.inr ⟨a1,a2,xs,ys,rfl,rfl,s.tup h1,s.tup h2,hx,by rw [r1.1,r2.1];exact h.2,fun z=>?_,fun _ p hp=>?_⟩)
   ·subst z
    have hm:m=[]:=by have:=r2.1;simpa using this.symm
    subst hm
    rw [Za8] at P
    exact P _ F H (Up.refl s) ha
   ·have un:=Up.new (o:=.tup (xs++ys)) s hp
    exact P _ _ _ un (.tup aL (r1.append r2).1 ((r1.append r2).up un.ff).2)
  ·cases e
theorem dO:R2M C (aF K) (aF K) (aF K) QK dD:=by
 intro F H x y a b res Q s ha hb e P
 have inv:(∃ i j,a=.int i∧b=.int j)∨(∃ z n,a=.str z∧b=.int n):=by
  clear P ha hb
  cases a <;> first | exact noS e | (cases b <;> first | exact noS e | exact .inl ⟨_,_,rfl,rfl⟩ | exact .inr ⟨_,_,rfl,rfl⟩)
 rcases inv with ⟨i,j,rfl,rfl⟩ | ⟨z,n,rfl,rfl⟩
 ·cases Rep.aZ ha
  cases Rep.aZ hb
  have e:(if KJ i j=true then some (Res.ok (PV.int (i * j))) else none)=some res:=e
  split at e
  ·rename_i h
   cases e
   exact .inl ⟨i,j,rfl,rfl,Ur h,P _ F H (Up.refl s) .int⟩
  ·cases e
 ·cases Rep.bV ha
  cases Rep.aZ hb
  have e:(if -(2 ^ 63)≤n∧n < 2 ^ 63∧z.length * n.toNat≤sizeLine then some (Res.ok (PV.str (RP z n.toNat))) else none)=some res:=e
  split at e
  ·rename_i h
   cases e
   exact .inr ⟨z,n,rfl,rfl,h.1,h.2.1,h.2.2,P _ F H (Up.refl s) .str⟩
  ·cases e
theorem KY:R2M C (aF K) (aF K) (aF K) Ul Cw:=by
 intro F H x y a b res Q s ha hb e P
 have inv:(∃ i j,a=.int i∧b=.int j)∨(∃ i j,a=.str i∧b=.str j):=by
  clear P ha hb
  cases a <;> first | exact noS e | (cases b <;> first | exact noS e | exact .inl ⟨_,_,rfl,rfl⟩ | exact .inr ⟨_,_,rfl,rfl⟩)
 rcases inv with ⟨i,j,rfl,rfl⟩ | ⟨i,j,rfl,rfl⟩
 ·cases Rep.aZ ha
  cases Rep.aZ hb
  cases e
  exact .inl ⟨i,j,rfl,rfl,P _ F H (Up.refl s) .bl⟩
 ·cases Rep.bV ha
  cases Rep.bV hb
  cases e
  exact .inr ⟨i,j,rfl,rfl,P _ F H (Up.refl s) .bl⟩
theorem ni:R2M C (aH K) (aH K) (aF K) (Uj K) jd:=by
 intro F H x y a b res Q s ha hb e P
 unfold jd at e
 split at e
 ·rename_i r h
  cases e
  exact ⟨a,b,r,ha,hb,h,P _ F H (Up.refl s) .bl⟩
 ·cases e
theorem Ha:R2M C (aH K) (aH K) (aF K) (zZ K) lU:=by
 intro F H x y a b res Q s ha hb e P
 unfold lU at e
 split at e
 ·rename_i r h
  cases e
  match b,h with
  | .lst l,h=>exact .inl ⟨a,l,r,ha,.inl hb,h,P _ F H (Up.refl s) .bl⟩
  | .tup l,h=>exact .inl ⟨a,l,r,ha,.inr hb,h,P _ F H (Up.refl s) .bl⟩
  | .str j,h =>
   match a,h with
   | .str i,h =>
    cases h
    exact .inr ⟨i,j,Rep.bV ha,Rep.bV hb,P _ F H (Up.refl s) .bl⟩
 ·cases e
theorem KZ {v:V}{p:PV} (h:Rep K F v p):decide (v=.non)=p.yI:=by
 cases h <;> first | rfl | exact decide_eq_false (by intro z;cases z)
theorem RT:R2M C (aH K) (aF K) (aF K) (fun x y H Q=>y=.non∧Q (.bl (!decide (x=.non))) H) FP:=by
 intro F H x y a b res Q s ha hb e P
 match b,e with
 | .non,e =>
  cases e
  rw [KZ ha]
  exact ⟨Rep.fB hb,P _ F H (Up.refl s) .bl⟩
theorem z7 {xs:List V}{l:List PV}{i:Int}{p:PV} (r:bC K F xs l) (h:atI l i=some p):∃ v,atI xs i=some v∧Rep K F v p:=by
 unfold atI at h ⊢
 rw [r.1]
 cases e:ixN l.length i with
 | none=>rw [e] at h;cases h
 | some j =>
  rw [e] at h
  exact r.get h
theorem qZ {x:Option PV}{res:Res PV} (h:ofO x=some res):∃ p,x=some p∧res=.ok p:=by
 cases x with
 | none=>cases h
 | some p=>cases h;exact ⟨p,rfl,rfl⟩
theorem dh:R2M C (aF K) (aF K) (aF K) (rIx K) cQ:=by
 intro F H x y a b res Q s ha hb e P
 have inv:(∃ l i,a=.lst l∧b=.int i)∨(∃ l i,a=.tup l∧b=.int i)∨(∃ z i,a=.str z∧b=.int i):=by
  clear P ha hb
  cases a <;> first | exact noS e | (cases b <;> first | exact noS e | exact .inl ⟨_,_,rfl,rfl⟩ | exact .inr (.inl ⟨_,_,rfl,rfl⟩) | exact .inr (.inr ⟨_,_,rfl,rfl⟩))
 rcases inv with ⟨l,i,rfl,rfl⟩ | ⟨l,i,rfl,rfl⟩ | ⟨z,i,rfl,rfl⟩
 ·cases Rep.aZ hb
  obtain ⟨p,e1,rfl⟩:=qZ e
  obtain ⟨a1,xs,rfl,h1,r1⟩:=Rep.b8 ha
  obtain ⟨v,e2,rv⟩:=z7 r1 e1
  exact .inl ⟨a1,xs,i,v,rfl,rfl,s.seq h1,e2,P _ F H (Up.refl s) rv⟩
 ·cases Rep.aZ hb
  obtain ⟨p,e1,rfl⟩:=qZ e
  obtain ⟨a1,xs,rfl,h1,r1⟩:=Rep.cZ ha
  obtain ⟨v,e2,rv⟩:=z7 r1 e1
  exact .inr (.inl ⟨a1,xs,i,v,rfl,rfl,s.tup h1,e2,P _ F H (Up.refl s) rv⟩)
 ·cases Rep.aZ hb
  cases Rep.bV ha
  have e:(if z.length≤sizeLine then ofO ((atI z.cps.toList i).map fun c=>PV.str ⟨#[c]⟩) else none)=some res:=e
  split at e
  ·rename_i hz
   obtain ⟨p,e1,rfl⟩:=qZ e
   cases e2:atI z.cps.toList i with
   | none=>rw [e2] at e1;cases e1
   | some c =>
    rw [e2] at e1
    cases e1
    exact .inr (.inr ⟨z,i,c,rfl,rfl,hz,e2,P _ F H (Up.refl s) .str⟩)
  ·cases e
theorem Ut:R2M C (aV K) (aF K) (aF K) (rIx K) KQ:=by
 intro F H x y a b res Q s ha hb e P
 match b,e with
 | .int i,e =>
  cases Rep.aZ hb
  obtain ⟨p,e1,rfl⟩:=qZ e
  obtain ⟨a1,xs,rfl,h1,r1⟩:=ha
  obtain ⟨v,e2,rv⟩:=z7 r1 e1
  exact .inl ⟨a1,xs,i,v,rfl,rfl,h1,e2,P _ F H (Up.refl s) rv⟩
def yK (l m:List PV):Option (Res PV):=if l.length+m.length≤sizeLine then some (.ok (.lst (l++m))) else none
def Uu (K:PySem.W.Frag):R2:=fun x y H Q=>∃ l b xs zs,x=.ref l∧y=.ref b∧SqL K H l xs∧SqL K H b zs∧xs.length+zs.length≤sizeLine∧∀ p,H p=none->Q (.ref p) (upd H p (.lst (xs++zs)))
theorem K1:R2O K C (aV K) (aV K) (Uu K) yK:=by
 intro F H x y a b res Q s ha hb e P
 unfold yK at e
 split at e
 ·rename_i h
  cases e
  obtain ⟨a1,xs,rfl,h1,r1⟩:=ha
  obtain ⟨a2,ys,rfl,h2,r2⟩:=hb
  refine ⟨a1,a2,xs,ys,rfl,rfl,h1,h2,by rw [r1.1,r2.1];exact h,fun p hp=>?_⟩
  exact P p F _ (Up.FJ s hp) hp (s.free hp) ⟨_,aL,r1.append r2⟩
 ·cases e
variable {ta tb te:TE}
def MP' (K:PySem.W.Frag) (C:Cg) (t:TO) (f:Fn (Option Int)):Prop :=
 ∀ F H σ ρ Q r,RE K C.toCf F H σ ρ->f ρ=some r->Pr C F (fun o=>∀ F' H',Up F H F' H'->Q o H') r->t σ H Q
def mPn:Fn (Option Int):=fun _=>some (.ok none)
def asInt:PV->Option (Res (Option Int))
 | .int i=>some (.ok (some i))
 | _=>none
theorem z8:MP' K C GK mPn:=fun F H σ ρ Q r R e P=>by
 cases e
 exact P F H (Up.refl R.rb.sub)
theorem z9 {f:Fn PV} (h:MJ K C (aF K) te f):MP' K C (Qx te) (m1 asInt f):=by
 intro F H σ ρ Q r R e P
 refine h.run R e P fun p v F1 H1 hk u a=>?_
 match p,hk with
 | .int i,hk =>
  cases Rep.aZ a
  cases hk
  exact ⟨i,rfl,P F1 H1 u⟩
theorem MP'.run {β:Type}{t:TO}{f:Fn (Option Int)}{σ:St}{ρ:Rho}{Q:Option Int->Hp->Prop}{ok:β->Prop}{k:Option Int->Option (Res β)}{r:Res β} (h:MP' K C t f) (R:RE K C.toCf F H σ ρ) (hb:bnd (f ρ) k=some r) (P:Pr C F ok r)
  (go:∀ o F1 H1,k o=some r->Up F H F1 H1->Q o H1):t σ H Q:=by
 rcases bQ hb with ⟨z,e,rfl⟩ | ⟨p,e,hk⟩
 ·exact h F H σ ρ Q _ R e P
 ·exact h F H σ ρ Q _ R e fun F1 H1 u=>go p F1 H1 hk u
def Cz (l:List PV) (lo hi:Option Int):List PV:=(l.drop (HT.sIx l.length 0 lo)).take (HT.sIx l.length l.length hi - HT.sIx l.length 0 lo)
theorem bC.cut {xs:List V}{l:List PV} (h:bC K F xs l) (lo hi:Option Int):bC K F (Ja xs lo hi) (Cz l lo hi):=by
 unfold Ja Cz
 rw [h.1]
 exact (h.drop _).take _
def Jm (f:Fn (List PV)) (lo hi:Fn (Option Int)):Fn PV:=fun ρ=>bnd (f ρ) fun l=>bnd (lo ρ) fun a=>bnd (hi ρ) fun b=>some (.ok (.lst (Cz l a b)))
theorem FQ {f:Fn (List PV)}{lo hi:Fn (Option Int)}{tl th:TO} (h:MJ K C (aV K) te f) (hl:MP' K C tl lo) (hh:MP' K C th hi):MO K C (tSl (Uc K) te tl th) (Jm f lo hi):=by
 intro F H σ ρ Q r R e P
 refine h.run R e P fun l v F1 H1 hk u a=>?_
 refine hl.run (R.up u) hk (P.vM u) fun o F2 H2 hk2 u2=>?_
 refine hh.run (R.up (u.trans u2)) hk2 (P.vM (u.trans u2)) fun o2 F3 H3 hk3 u3=>?_
 cases hk3
 obtain ⟨b,xs,rfl,h1,r1⟩:=a
 have u23:=u2.trans u3
 refine ⟨b,xs,rfl,u23.hh.seq h1,fun p hp=>?_⟩
 exact P p F3 _ (u.trans (u23.trans (Up.FJ u3.fh hp))) ((u.hh.trans u23.hh).free hp) (u3.fh.free hp) ⟨_,aL,(r1.up u23.ff).cut _ _⟩
end
def QM (K:PySem.W.Frag) (tl:TE):TI:=fun σ H R=>tl σ H fun x H1=>(∃ a,x=.ref a∧(∃ xs,SqL K H1 a xs)∧R (Itl K a) H1)∨(∃ a,x=.ref a∧(∃ xs,SqT K H1 a xs)∧R (Itt K a) H1)∨∃ z,x=.str z∧R (Itf (sgn z) z.cps.size) H1
theorem jM {X:Cx}{tg l:Expr}{tl:TE} (hl:PE X l tl):PI X tg l (QM X.K tl):=by
 intro pins s σ H R I h
 refine thn (hl pins s σ H _ I h) ?_
 rintro v s1 ⟨x,H1,I1,r1,q1⟩
 have keep:∀ (o:Obj),Inv X pins σ H1 { s1 with heap:=s1.heap.push o }:=fun o=>I1.kept (t':=s1.toks) fun b ob e=>Zac _ e
 have fp:∀ b∈[s1.heap.objs.size],vA X pins H1 b:=fun b hb=>by
  have e:b=s1.heap.objs.size:=by simpa using hb
  subst e
  exact I1.BP (Zaf _) (I1.hok.fresh (Zaf _))
 rcases q1 with ⟨a,rfl,⟨xs,hq⟩,q⟩ | ⟨a,rfl,⟨xs,hq⟩,q⟩ | ⟨z,rfl,q⟩
 ·cases r1
  obtain ⟨its,rv,p,hz⟩:=I1.list hq
  exact wpAny_pyIter_list p.isList ⟨_,[_],_,_,H1,rfl,keep _,Iv a _,⟨_,Zal _ rfl,rfl,rfl⟩,fp,q⟩
 ·cases r1
  obtain ⟨its,rv,p,hz⟩:=I1.tuple hq
  exact wpAny_pyIter_tuple (show s1.heap.IsTuple a its.toArray from p) ⟨_,[_],_,_,H1,rfl,keep _,Fi a _,⟨_,Zal _ rfl,rfl,rfl⟩,fp,q⟩
 ·obtain ⟨t,rfl⟩:=r1
  exact wpAny_pyIter_strU ⟨_,[_],_,_,H1,rfl,keep _,Kc _ z t,⟨_,Zal _ rfl,rfl,rfl⟩,fp,q⟩
section
variable {K:PySem.W.Frag}{C:Cg}{F H:Hp}{σ:St}{ρ:Rho}{te ta tb:TE}{tA:TA}{a:Addr}{xs:List V}{l:List PV}
def signs (z:Str):List PV:=z.cps.toList.map fun c=>.str ⟨#[c]⟩
def mZ:PV->Option (Res (List PV))
 | .lst l=>some (.ok l)
 | .tup l=>some (.ok l)
 | .str z=>some (.ok (signs z))
 | _=>none
theorem K3 (h:SqL K F a xs) (r:bC K F xs l):ItR K (Itl K a) F l where
 stop:=fun F' H' s s'=>⟨xs,(s.trans s').seq h,by rw [r.1];exact Zaf _⟩
 go:=fun i F' H' hi s s'=>⟨xs,xs[i]'(by rw [r.1];exact hi),(s.trans s').seq h,by simp⟩
 yld:=fun i F' H' x H'' hi s s' y=>by
  obtain ⟨rfl,y⟩:=y
  have e:=y xs ((s.trans s').seq h)
  obtain ⟨p,e2,rp⟩:=r.got e
  exact ⟨F',p,Up.refl s',e2,rp.up s⟩
theorem Ov (h:SqT K F a xs) (r:bC K F xs l):ItR K (Itt K a) F l where
 stop:=fun F' H' s s'=>⟨xs,(s.trans s').tup h,by rw [r.1];exact Zaf _⟩
 go:=fun i F' H' hi s s'=>⟨xs,xs[i]'(by rw [r.1];exact hi),(s.trans s').tup h,by simp⟩
 yld:=fun i F' H' x H'' hi s s' y=>by
  obtain ⟨rfl,y⟩:=y
  have e:=y xs ((s.trans s').tup h)
  obtain ⟨p,e2,rp⟩:=r.got e
  exact ⟨F',p,Up.refl s',e2,rp.up s⟩
theorem Ow (z:Str):ItR K (Itf (sgn z) z.cps.size) F (signs z) where
 stop:=fun F' H' s s'=>by simp [signs,Itf]
 go:=fun i F' H' hi s s'=>by simpa [signs,Itf] using hi
 yld:=fun i F' H' x H'' hi s s' y=>by
  obtain ⟨rfl,rfl⟩:=y
  have hi':i < z.cps.size:=by simpa [signs] using hi
  refine ⟨F',.str ⟨#[z.cps.getD i 0]⟩,Up.refl s',?_,.str⟩
  unfold signs
  rw [List.getElem?_map,Zax,Array.getD_eq_getD_getElem?,Zau hi']
  rfl
theorem jN {f:Fn PV} (h:MJ K C (aF K) te f):MI K C (QM K te) (m1 mZ f):=by
 intro F H σ ρ R' r R e P
 refine h.run R e P fun p v F1 H1 hk u a=>?_
 match p,hk with
 | .lst l,hk =>
  cases hk
  obtain ⟨b,xs,rfl,h1,r1⟩:=Rep.b8 a
  exact .inl ⟨b,rfl,⟨xs,u.fh.seq h1⟩,P _ F1 H1 u (K3 h1 r1)⟩
 | .tup l,hk =>
  cases hk
  obtain ⟨b,xs,rfl,h1,r1⟩:=Rep.cZ a
  exact .inr (.inl ⟨b,rfl,⟨xs,u.fh.tup h1⟩,P _ F1 H1 u (Ov h1 r1)⟩)
 | .str z,hk =>
  cases hk
  cases Rep.bV a
  exact .inr (.inr ⟨z,rfl,P _ F1 H1 u (Ow z)⟩)
def nQ (lo:Int) (n:Nat):List PV:=(List.range n).map fun (i:Nat)=>.int (lo+(i:Int))
theorem cV (lo:Int) (n:Nat):(nQ lo n).length=n:=by simp [nQ]
theorem Hc (lo:Int) (n:Nat):ItR K (Itr lo n) F (nQ lo n) where
 stop:=fun F' H' s s'=>by rw [cV];exact Zaf _
 go:=fun i F' H' hi s s'=>by rw [cV] at hi;exact hi
 yld:=fun i F' H' x H'' hi s s' y=>by
  obtain ⟨rfl,rfl⟩:=y
  rw [cV] at hi
  refine ⟨F',.int (lo+i),Up.refl s',?_,.int⟩
  unfold nQ
  rw [List.getElem?_map,Za1 hi]
  rfl
def qg:List PV->Option (Res (List PV))
 | [.int j]=>if -(2 ^ 62)≤j∧j < 2 ^ 62 then some (.ok (nQ 0 j.toNat)) else none
 | _=>none
def tW:List PV->Option (Res (List PV))
 | [.int i,.int j]=>if -(2 ^ 62)≤i∧i < 2 ^ 62∧-(2 ^ 62)≤j∧j < 2 ^ 62 then some (.ok (nQ i (j - i).toNat)) else none
 | _=>none
theorem q9 {f:Fn (List PV)} (h:MA K C tA f):MI K C (Qu tA) (m1 qg f):=by
 intro F H σ ρ R' r R e P
 refine h.run R e P fun l xs F1 H1 hk u a=>?_
 have inv:∃ j,l=[.int j]:=by
  clear P u a
  rcases l with _ | ⟨x,_ | ⟨y,l⟩⟩ <;> first | exact noS hk | (cases x <;> first | exact noS hk | exact ⟨_,rfl⟩)
 obtain ⟨j,rfl⟩:=inv
 have hk:(if -(2 ^ 62)≤j∧j < 2 ^ 62 then some (Res.ok (nQ 0 j.toNat)) else none)=some r:=hk
 split at hk
 ·rename_i hj
  cases hk
  obtain ⟨v,ys,rfl,r1,r2⟩:=a.dz
  cases r2.iH
  cases Rep.aZ r1
  exact ⟨j,rfl,hj.1,hj.2,P _ F1 H1 u (Hc 0 j.toNat)⟩
 ·cases hk
theorem uN {f:Fn (List PV)} (h:MA K C tA f):MI K C (Qv tA) (m1 tW f):=by
 intro F H σ ρ R' r R e P
 refine h.run R e P fun l xs F1 H1 hk u a=>?_
 have inv:∃ i j,l=[.int i,.int j]:=by
  clear P u a
  rcases l with _ | ⟨x,_ | ⟨y,_ | ⟨z,l⟩⟩⟩ <;> first | exact noS hk | (cases x <;> first | exact noS hk | (cases y <;> first | exact noS hk | exact ⟨_,_,rfl⟩))
 obtain ⟨i,j,rfl⟩:=inv
 have hk:(if -(2 ^ 62)≤i∧i < 2 ^ 62∧-(2 ^ 62)≤j∧j < 2 ^ 62 then some (Res.ok (nQ i (j - i).toNat)) else none)=some r:=hk
 split at hk
 ·rename_i hj
  cases hk
  obtain ⟨v,ys,rfl,r1,r2⟩:=a.dz
  obtain ⟨w,zs,rfl,r3,r4⟩:=r2.dz
  cases r4.iH
  cases Rep.aZ r1
  cases Rep.aZ r3
  exact ⟨i,j,rfl,hj,P _ F1 H1 u (Hc i (j - i).toNat)⟩
 ·cases hk
def uw (l:List PV):List PV:=l.mapIdx fun (i:Nat) x=>.tup [.int i,x]
def FT:List PV->Option (Res (List PV))
 | [.lst l]=>some (.ok (uw l))
 | _=>none
theorem Ox {f:Fn (List PV)} (h:MA K C tA f):MI K C (QC K tA) (m1 FT f):=by
 intro F H σ ρ R' r R e P
 refine h.run R e P fun l xs F1 H1 hk u a=>?_
 have inv:∃ m,l=[.lst m]:=by
  clear P u a
  rcases l with _ | ⟨x,_ | ⟨y,l⟩⟩ <;> first | exact noS hk | (cases x <;> first | exact noS hk | exact ⟨_,rfl⟩)
 obtain ⟨l,rfl⟩:=inv
 cases hk
 obtain ⟨v,ys,rfl,r1,r2⟩:=a.dz
 cases r2.iH
 obtain ⟨b,xs,rfl,h1,r1⟩:=Rep.b8 r1
 have hl:(uw l).length=l.length:=by simp [uw]
 refine ⟨b,rfl,⟨xs,u.fh.seq h1⟩,P _ F1 H1 u ⟨fun F' H' s s'=>?_,fun i F' H' hi s s'=>?_,fun i F' H' x H'' hi s s' y=>?_⟩⟩
 ·exact ⟨xs,(s.trans s').seq h1,by rw [hl,r1.1];exact Zaf _⟩
 ·rw [hl] at hi
  exact ⟨xs,xs[i]'(by rw [r1.1];exact hi),(s.trans s').seq h1,by simp⟩
 ·obtain ⟨p,y,hp,rfl,rfl,hy⟩:=y
  have e:=hy xs ((s.trans s').seq h1)
  obtain ⟨q,e2,rq⟩:=r1.got e
  have un:=Up.new (o:=.tup [.int i,y]) s' hp
  refine ⟨_,.tup [.int i,q],un,?_,.tup aL rfl fun j x p hx hp'=>?_⟩
  ·unfold uw
   rw [List.getElem?_mapIdx,e2]
   rfl
  ·match j with
   | 0=>simp at hx hp';subst hx hp';exact .int
   | 1=>simp at hx hp';subst hx hp';exact rq.up (s.trans un.ff)
   | j+2=>simp at hx
def NoO (ρ:Rho):Prop:=∀ (j:Nat) q,ρ[j]?≠some (some (.ow q))∧ρ[j]?≠some (some (.dp q))
def Wr (T:List Nat) (tg:PV->Rho->Option Rho):Prop:=∀ x ρ ρ',tg x ρ=some ρ'->ρ'.length=ρ.length∧(∀ j,j ∉ T->ρ'[j]?=ρ[j]?)∧(NoO ρ->NoO ρ')
def WrS (T:List Nat) (tg:List PV->Rho->Option Rho):Prop:=∀ x ρ ρ',tg x ρ=some ρ'->ρ'.length=ρ.length∧(∀ j,j ∉ T->ρ'[j]?=ρ[j]?)∧(NoO ρ->NoO ρ')
theorem dR (i:Nat):Wr [i] (gN i):=fun x ρ ρ' e=>by
 cases e
 refine ⟨by simp,fun j hj=>?_,fun h j q=>⟨fun e=>?_,fun e=>?_⟩⟩
 ·rw [Zam (by simpa using Za7 (by simpa using hj))]
 ·rcases get_set e with ⟨_,e2⟩ | ⟨_,e2⟩
  ·cases e2
  ·exact (h j q).1 e2
 ·rcases get_set e with ⟨_,e2⟩ | ⟨_,e2⟩
  ·cases e2
  ·exact (h j q).2 e2
theorem uO:WrS [] gsNil:=fun x ρ ρ' e=>by
 cases x with
 | nil=>cases e;exact ⟨rfl,fun _ _=>rfl,fun h=>h⟩
 | cons p l=>cases e
theorem iR {T U:List Nat}{t:PV->Rho->Option Rho}{u:List PV->Rho->Option Rho} (h:Wr T t) (hs:WrS U u):WrS (T++U) (gsCons t u):=fun x ρ ρ' e=>by
 cases x with
 | nil=>cases e
 | cons p l =>
  have e:(match t p ρ with
   | some ρ'=>u l ρ'
   | none=>none)=some ρ':=e
  split at e
  ·rename_i ρ1 h1
   obtain ⟨a1,a2,a3⟩:=h p ρ ρ1 h1
   obtain ⟨b1,b2,b3⟩:=hs l ρ1 ρ' e
   exact ⟨b1.trans a1,fun j hj=>(b2 j fun z=>hj (ZaB _ z)).trans (a2 j fun z=>hj (Zbl _ z)),fun z=>b3 (a3 z)⟩
  ·cases e
theorem Aa {n:Nat}{U:List Nat}{u:List PV->Rho->Option Rho} (hs:WrS U u):Wr U (gT n u):=fun x ρ ρ' e=>by
 unfold gT at e
 split at e
 ·split at e
  ·exact hs _ ρ ρ' e
  ·cases e
 ·cases e
def shOnly:Option Sl->Option Sl
 | some (.sh p)=>some (.sh p)
 | _=>none
def frR (fr:List (Option Nat)) (ρ:Rho):Rho:=fr.map fun o=>match o with
 | some i=>match ρ[i]? with
  | some v=>shOnly v
  | none=>none
 | none=>none
def d7 (tg:PV->Rho->Option Rho) (tst:Fn Bool) (el:Fn PV) (ρb:Rho):List PV->Option (Res (List PV))
 | []=>some (.ok [])
 | x::xs=>match tg x ρb with
  | none=>none
  | some ρ1=>bnd (tst ρ1) fun b=>if b=true then bnd (el ρ1) fun p=>bnd (d7 tg tst el ρb xs) fun r=>some (.ok (p::r)) else d7 tg tst el ρb xs
def jh (it:Fn (List PV)) (fr:List (Option Nat)) (tg:PV->Rho->Option Rho) (tst:Fn Bool) (el:Fn PV):Fn PV:=fun ρ=>bnd (it ρ) fun l =>
 if l.length≤sizeLine then bnd (d7 tg tst el (frR fr ρ) l) fun r=>some (.ok (.lst r)) else none
def tX:Fn Bool:=fun _=>some (.ok true)
theorem tY:MT K C Ug tX:=fun F H σ ρ Q r R e P=>by
 cases e
 exact P F H (Up.refl R.rb.sub)
theorem RE.block (R:RE K C.toCf F H σ ρ) (fr:List (Option Nat)):RE K C.toCf F H (frσ fr σ) (frR fr ρ)∧NoO (frR fr ρ):=by
 have nd:∀ (j:Nat) q,(frR fr ρ)[j]?≠some (some (.dp q)):=fun j q e=>by
  unfold frR at e
  rw [List.getElem?_map] at e
  cases e1:fr[j]? with
  | none=>rw [e1] at e;cases e
  | some o =>
   rw [e1] at e
   cases o with
   | none=>cases e
   | some i =>
    simp only [Zbq,Option.some.injEq] at e
    split at e
    ·rename_i v hv
     unfold shOnly at e
     split at e <;> cases e
    ·cases e
 have no:∀ (j:Nat) q,(frR fr ρ)[j]?≠some (some (.ow q)):=fun j q e=>by
  unfold frR at e
  rw [List.getElem?_map] at e
  cases e1:fr[j]? with
  | none=>rw [e1] at e;cases e
  | some o =>
   rw [e1] at e
   cases o with
   | none=>cases e
   | some i =>
    simp only [Zbq,Option.some.injEq] at e
    split at e
    ·rename_i v hv
     unfold shOnly at e
     split at e <;> cases e
    ·cases e
 refine ⟨⟨R.rb,by unfold frσ frR;simp,fun j p e=>?_,fun j p e=>absurd e (no j p),fun i j p q a e=>absurd e (no i p),_,RD.no nd⟩,fun j q=>⟨no j q,nd j q⟩⟩
 unfold frR at e
 rw [List.getElem?_map] at e
 unfold frσ
 rw [List.getElem?_map]
 cases e1:fr[j]? with
 | none=>rw [e1] at e;cases e
 | some o =>
  rw [e1] at e
  cases o with
  | none=>cases e
  | some i =>
   simp only [Zbq,Option.some.injEq] at e ⊢
   split at e
   ·rename_i v hv
    unfold shOnly at e
    split at e
    ·cases e
     obtain ⟨w,e2,e3⟩:=R.sh i _ hv
     exact ⟨w,by rw [e2],e3⟩
    ·cases e
   ·cases e
theorem RE.other (R:RE K C.toCf F H σ ρ) {D:Addr}{o:HO} (hf:F D=none) (h0:C.H0 D=none) (no:NoO ρ):RE K C.toCf F (upd H D o) σ ρ where
 rb:=⟨fun b u q=>by rw [aG (bI q hf)];exact R.rb.sub b u q,fun b u q n=>by rw [aG (bI q h0)];exact R.rb.keep b u q n,R.rb.new,fun b hb=>⟨by
  have:=(R.rb.ios b hb)
  by_cases hbD:b=D
  ·subst hbD;exact absurd h0 this.2
  ·rw [aG hbD];exact this.1,(R.rb.ios b hb).2⟩⟩
 len:=R.len
 sh:=R.sh
 ow:=fun i p e=>absurd e (no i p).1
 dis:=fun i j p q a e=>absurd e (no i p).1
 dd:=⟨_,RD.no fun i p=>(no i p).2⟩
theorem RE.weak {ρ':Rho} (R:RE K C.toCf F H σ ρ') (hl:ρ.length=ρ'.length) (h:∀ (j:Nat) s,ρ[j]?=some (some s)->ρ'[j]?=some (some s)):RE K C.toCf F H σ ρ where
 rb:=R.rb
 len:=by rw [R.len,hl]
 sh:=fun i p e=>R.sh i p (h i _ e)
 ow:=fun i p e=>R.ow i p (h i _ e)
 dis:=fun i j p q a e e'=>R.dis i j p q a (h i _ e) (h j _ e')
 dd:=let ⟨P,d⟩:=R.dd;⟨P,d.own,d.dis,fun i j q b z e=>d.ow i j q b z (h j _ e),fun i p e=>d.dp i p (h i _ e)⟩
structure ItH (K:PySem.W.Frag) (J:It) (F H:Hp) (l:List PV):Prop where
 stop:∀ F' H',aR F F'->aR F' H'->aR H H'->J.stop l.length H'
 go:∀ i F' H',i < l.length->aR F F'->aR F' H'->aR H H'->J.go i H'
 yld:∀ i F' H' x H'',i < l.length->aR F F'->aR F' H'->aR H H'->J.yld i H' x H''->∃ F'' p,Up F' H' F'' H''∧l[i]?=some p∧Rep K F'' x p
def MIH (K:PySem.W.Frag) (C:Cg) (wi:TI) (f:Fn (List PV)):Prop :=
 ∀ F H σ ρ R' r,RE K C.toCf F H σ ρ->f ρ=some r->Pr C F (fun l=>∀ J F' H',Up F H F' H'->ItH K J F' H' l->R' J H') r->wi σ H R'
theorem MI.h {wi:TI}{f:Fn (List PV)} (h:MI K C wi f):MIH K C wi f:=fun F H σ ρ R' r R e P =>
 h F H σ ρ R' r R e (Pr.mono P (aR.refl _) fun l q J F' H' u x=>q J F' H' u ⟨fun a b c d _=>x.stop a b c d,fun i a b hi c d _=>x.go i a b hi c d,fun i a b y z hi c d _=>x.yld i a b y z hi c d⟩)
theorem jq {α β γ:Type}{x:Option (Res α)}{f:α->Option (Res β)}{g:β->Option (Res γ)}:bnd (bnd x f) g=bnd x fun a=>bnd (f a) g:=by
 match x with
 | some (.ok a)=>rfl
 | some (.ex z)=>rfl
 | none=>rfl
theorem K4 {wi:TI}{it:Fn (List PV)}{fr:List (Option Nat)}{gt:TG}{tg:PV->Rho->Option Rho}{T:List Nat}{tc:TT}{tst:Fn Bool}{el:Fn PV} (hi:MIH K C wi it) (hg:MG K C gt tg) (hT:Wr T tg) (ht:MT K C tc tst) (he:MJ K C (aF K) te el)
  (hfr:T.all (fun j=>fr[j]? == some none)=true:=by rfl):MO K C (yC wi fr gt tc te) (jh it fr tg tst el):=by
 intro F H σ ρ Q r R e P
 rcases bQ e with ⟨z,e1,rfl⟩ | ⟨l,e1,hk⟩
 ·exact hi F H σ ρ _ _ R e1 P
 split at hk
 case isFalse=>cases hk
 rename_i hlen
 refine hi F H σ ρ _ _ R e1 fun J F1 H1 u hJ D hD=>?_
 have R1:=R.up u
 obtain ⟨Rb,no⟩:=R1.block fr
 have hD0:C.H0 D=none:=R1.rb.ut hD
 have hFD:F1 D=none:=u.fh.free hD
 have hρ:∀ (j:Nat),j∈T->(frR fr ρ)[j]?=some none:=fun j hj=>by
  have:=ZaW.mp hfr j hj
  unfold frR
  rw [List.getElem?_map,show fr[j]?=some none by simpa using this]
  rfl
 refine ⟨fun i m σ' H'=>∃ F' ys acc,m=l.length - i∧i≤l.length∧aR F1 F'∧(∀ b o,F' b=some o->F1 b=some o∨Frz H1 b o)∧aR H1 H'∧H' D=some (.lst ys)∧F' D=none∧bC K F' ys acc∧acc.length≤i ∧
   RE K C.toCf F' H' σ' (frR fr ρ)∧bnd (d7 tg tst el (frR fr ρ) (l.drop i)) (fun r=>some (.ok (.lst (acc++r))))=some r,
  ⟨l.length,F1,[],[],by simp,ZaO _,aR.refl _,fun _ _ q=>.inl q,dI hD,aL,hFD,.nil,Zaf _,Rb.other hFD hD0 no,by rw [Zba];exact hk⟩,?_⟩
 rintro i m σ' H' ⟨F',ys,acc,rfl,hil,s1,fr1,sH,eD,nD,ra,hacc,R',e'⟩
 by_cases hlt:i < l.length
 case neg =>
  have ei:i=l.length:=by omega
  subst ei
  rw [List.drop_length] at e'
  have e':some (Res.ok (PV.lst (acc++[])))=some r:=e'
  rw [Za8] at e'
  cases e'
  exact .inl ⟨hJ.stop F' H' s1 R'.rb.sub sH,P D F' H' (u.trans ⟨s1,sH,fr1,R'.rb.sub⟩) (u.hh.free hD) nD ⟨ys,eD,ra⟩⟩
 refine .inr ⟨hJ.go i F' H' hlt s1 R'.rb.sub sH,fun σ2 H2=>∃ F2 ys acc,aR F1 F2∧(∀ b o,F2 b=some o->F1 b=some o∨Frz H1 b o)∧aR H1 H2∧H2 D=some (.lst ys)∧F2 D=none∧bC K F2 ys acc∧acc.length≤i+1 ∧
   RE K C.toCf F2 H2 σ2 (frR fr ρ)∧bnd (d7 tg tst el (frR fr ρ) (l.drop (i+1))) (fun r=>some (.ok (.lst (acc++r))))=some r,
  fun σ2 H2 ⟨F2,ys,acc,z⟩=>⟨l.length - (i+1),by omega,F2,ys,acc,rfl,hlt,z⟩,fun x H'' y=>?_⟩
 obtain ⟨F'',p,u2,ep,rx⟩:=hJ.yld i F' H' x H'' hlt s1 R'.rb.sub sH y
 have ed:l.drop i=p::l.drop (i+1):=by
  rw [ZaI hlt]
  rw [List.getElem?_eq_getElem hlt] at ep
  rw [Zaa ep]
 rw [ed,d7] at e'
 split at e'
 ·cases e'
 rename_i ρ1 h1
 obtain ⟨w1,w2,w3⟩:=hT p _ ρ1 h1
 have no1:=w3 no
 have weak:∀ (j:Nat) s,(frR fr ρ)[j]?=some (some s)->ρ1[j]?=some (some s):=fun j s ej=>by
  rw [w2 j fun z=>by rw [hρ j z] at ej;cases ej];exact ej
 refine hg F'' H'' σ' (frR fr ρ) x p ρ1 _ (R'.up u2) rx h1 fun σ1 R1'=>?_
 have stay:∀ {F3 H3:Hp},Up F' H' F3 H3->aR F1 F3∧(∀ b o,F3 b=some o->F1 b=some o∨Frz H1 b o)∧aR H1 H3∧H3 D=some (.lst ys)∧F3 D=none∧bC K F3 ys acc:=fun {F3 H3} u3=>by
  refine ⟨s1.trans u3.ff,fun b o q=>?_,sH.trans u3.hh,u3.hh _ _ eD,?_,ra.up u3.ff⟩
  ·rcases u3.fr b o q with z | z
   ·exact fr1 b o z
   ·exact .inr (z.imp (fun z=>sH.free z) id)
  ·cases q:F3 D with
   | none=>rfl
   | some o =>
    rcases u3.fr D o q with z | z | ⟨ys,z⟩
    ·rw [nD] at z;cases z
    ·rw [eD] at z;cases z
    ·subst z
     have w:=u3.fh _ _ q
     rw [u3.hh _ _ eD] at w;cases w
 have Pl:∀ {F3 H3:Hp},Up F' H' F3 H3->∀ {z:PV},r=.ex z->PX C F3 z:=fun {F3 H3} u3 {z} ez=>by
  subst ez
  exact PX.up P (u.ff.trans (s1.trans u3.ff))
 rw [jq] at e'
 rcases bQ e' with ⟨z',e4,ez⟩ | ⟨b,e4,e5⟩
 ·exact ht F'' H'' σ1 ρ1 _ _ R1' e4 (Pl u2 ez)
 refine ht F'' H'' σ1 ρ1 _ _ R1' e4 fun F3 H3 u3=>?_
 have u23:=u2.trans u3
 cases b with
 | false =>
  rw [if_neg (by decide)] at e5 ⊢
  obtain ⟨a1,a2,a3,a4,a5,a6⟩:=stay u23
  exact ⟨F3,ys,acc,a1,a2,a3,a4,a5,a6,by omega,(R1'.up u3).weak w1.symm weak,e5⟩
 | true =>
  rw [if_pos rfl] at e5 ⊢
  rw [jq] at e5
  rcases bQ e5 with ⟨z',e6,ez⟩ | ⟨q,e6,e7⟩
  ·exact he F3 H3 σ1 ρ1 _ _ (R1'.up u3) e6 (Pl u23 ez)
  refine he F3 H3 σ1 ρ1 _ _ (R1'.up u3) e6 fun v F4 H4 u4 rv=>?_
  have u24:=u23.trans u4
  obtain ⟨a1,a2,a3,a4,a5,a6⟩:=stay u24
  refine ⟨ys,a4,by rw [a6.1];omega,F4,ys++[v],acc++[q],a1,a2,yE hD a3,aL,a5,a6.snoc rv,by simp;omega,((R1'.up (u3.trans u4)).other a5 hD0 no1).weak w1.symm weak,?_⟩
  rw [jq] at e7
  rw [←e7]
  congr 1
  funext rr
  show some (Res.ok (PV.lst (acc++[q]++rr)))=some (Res.ok (PV.lst (acc++q::rr)))
  rw [Zar];rfl
theorem lV {wi:TI}{it:Fn (List PV)}{fr:List (Option Nat)}{gt:TG}{tg:PV->Rho->Option Rho}{T:List Nat}{tc:TT}{tst:Fn Bool}{el:Fn PV} (hi:MI K C wi it) (hg:MG K C gt tg) (hT:Wr T tg) (ht:MT K C tc tst) (he:MJ K C (aF K) te el)
  (hfr:T.all (fun j=>fr[j]? == some none)=true:=by rfl):MO K C (yC wi fr gt tc te) (jh it fr tg tst el):=K4 hi.h hg hT ht he hfr
end
def tyN:PV->Option String
 | .non=>some "NoneType"
 | .bl _=>some "bool"
 | .int _=>some "int"
 | .str _=>some "str"
 | .tup _=>some "tuple"
 | .lst _=>some "list"
 | .dk _=>some "dict"
 | .dt _=>some "dict"
 | _=>none
def Vl (t T:String):Option Bool :=
 if t=T then some true else
 if T="int" then some (t == "bool") else
 if T="bool"∨T="str"∨T="tuple"∨T="list"∨T="dict" then some false else none
def isI (p:PV) (T:String):Option Bool:=match tyN p with
 | some t=>Vl t T
 | none=>none
section
variable {X:Cx}
end
section
variable {K:PySem.W.Frag}{C:Cg}{α β γ:Type}{A:Rel α}{B:Rel β}{D:Rel γ}{ta tb te:TE}{f:Fn α}{g:Fn β}{rr:List V->Hp->VK->Prop}
def R1M (C:Cg) (A:Rel α) (D:Rel γ) (rr:List V->Hp->VK->Prop) (op:α->Option (Res γ)):Prop :=
 ∀ F H x a res Q,aR F H->A F H x a->op a=some res->Pr C F (fun c=>∀ v F' H',Up F H F' H'->D F' H' v c->Q v H') res->rr [x] H Q
theorem qi {op:α->Option (Res γ)} (rule:R1M C A D rr op) (ha:MJ K C A ta f):MJ K C D (tCB rr (kE ta xW)) (m1 op f):=by
 intro F H σ ρ Q r R e P
 refine ha.run R e P fun p v F1 H1 hk u a=>?_
 exact rule F1 H1 v p r Q u.fh a hk (P.later u)
def R1O (K:PySem.W.Frag) (C:Cg) (A:Rel α) (rr:List V->Hp->VK->Prop) (op:α->Option (Res PV)):Prop :=
 ∀ F H x a res Q,aR F H->A F H x a->op a=some res->Pr C F (fun p=>∀ a F' H',Up F H F' H'->H a=none->F' a=none->Own K F' H' a p->Q (.ref a) H') res->rr [x] H Q
theorem vY {op:α->Option (Res PV)} (rule:R1O K C A rr op) (ha:MJ K C A ta f):MO K C (tCB rr (kE ta xW)) (m1 op f):=by
 intro F H σ ρ Q r R e P
 refine ha.run R e P fun p v F1 H1 hk u a=>?_
 exact rule F1 H1 v p r Q u.fh a hk (P.vM u)
def R2B (C:Cg) (A:Rel α) (B:Rel β) (D:Rel γ) (rr:List V->Hp->VK->Prop) (op:α->β->Option (Res γ)):Prop :=
 ∀ F H x y a b res Q,aR F H->A F H x a->B F H y b->op a b=some res->Pr C F (fun c=>∀ v F' H',Up F H F' H'->D F' H' v c->Q v H') res->rr [x,y] H Q
theorem K5 {op:α->β->Option (Res γ)} (up:UpM A) (rule:R2B C A B D rr op) (ha:MJ K C A ta f) (hb:MJ K C B tb g):MJ K C D (tCB rr (kE ta (kE tb xW))) (m2 op f g):=by
 intro F H σ ρ Q r R e P
 refine ha.run R e P fun p v F1 H1 hk u a=>?_
 refine hb.run (R.up u) hk (P.later u) fun q w F2 H2 hk2 u2 b=>?_
 exact rule F2 H2 v w p q r Q u2.fh (up _ _ _ _ _ _ u2 a) b hk2 (P.later (u.trans u2))
def nT:PV->Option (Res PV)
 | .str z=>if z.length≤sizeLine then some (.ok (.int z.length)) else none
 | .lst l=>some (.ok (.int l.length))
 | .tup l=>some (.ok (.int l.length))
 | _=>none
theorem vZ:R1M C (aH K) (aF K) (fun xs H Q=>∃ x n,xs=[x]∧T4 K x H n∧Q (.int n) H) nT:=by
 intro F H x a res Q s ha e P
 match a,e with
 | .str z,e =>
  cases Rep.bV ha
  have e:(if z.length≤sizeLine then some (Res.ok (PV.int z.length)) else none)=some res:=e
  split at e
  ·rename_i hz
   cases e
   exact ⟨_,_,rfl,⟨hz,rfl⟩,P _ F H (Up.refl s) .int⟩
  ·cases e
 | .lst l,e =>
  cases e
  obtain ⟨b,xs,rfl,h1,r1⟩:=Rep.b8 ha
  rw [←r1.1] at P
  exact ⟨_,_,rfl,.inl ⟨xs,h1,rfl⟩,P _ F H (Up.refl s) .int⟩
 | .tup l,e =>
  cases e
  obtain ⟨b,xs,rfl,h1,r1⟩:=Rep.cZ ha
  rw [←r1.1] at P
  exact ⟨_,_,rfl,.inr ⟨xs,h1,rfl⟩,P _ F H (Up.refl s) .int⟩
def K6:PV->PV->Option (Res PV)
 | .int i,.int j=>some (.ok (.int (if j > i then j else i)))
 | _,_=>none
def K7:PV->PV->Option (Res PV)
 | .int i,.int j=>some (.ok (.int (if j < i then j else i)))
 | _,_=>none
theorem Uv:R2B C (aF K) (aF K) (aF K) (fun xs H Q=>∃ i j,xs=[.int i,.int j]∧Q (.int (if j > i then j else i)) H) K6:=by
 intro F H x y a b res Q s ha hb e P
 have inv:(∃ i j,a=.int i∧b=.int j):=by
  clear P ha hb
  cases a <;> first | exact noS e | (cases b <;> first | exact noS e | exact ⟨_,_,rfl,rfl⟩)
 obtain ⟨i,j,rfl,rfl⟩:=inv
 cases Rep.aZ ha
 cases Rep.aZ hb
 cases e
 exact ⟨i,j,rfl,P _ F H (Up.refl s) .int⟩
theorem Uw:R2B C (aF K) (aF K) (aF K) (fun xs H Q=>∃ i j,xs=[.int i,.int j]∧Q (.int (if j < i then j else i)) H) K7:=by
 intro F H x y a b res Q s ha hb e P
 have inv:(∃ i j,a=.int i∧b=.int j):=by
  clear P ha hb
  cases a <;> first | exact noS e | (cases b <;> first | exact noS e | exact ⟨_,_,rfl,rfl⟩)
 obtain ⟨i,j,rfl,rfl⟩:=inv
 cases Rep.aZ ha
 cases Rep.aZ hb
 cases e
 exact ⟨i,j,rfl,P _ F H (Up.refl s) .int⟩
def FW (l:List PV):Option (Res PV):=some (.ok (.lst l))
theorem RV:R1O K C (aV K) (fun xs H Q=>∃ p ys,xs=[.ref p]∧(SqL K H p ys∨SqT K H p ys)∧∀ l,H l=none->Q (.ref l) (upd H l (.lst ys))) FW:=by
 intro F H x a res Q s ha e P
 cases e
 obtain ⟨b,xs,rfl,h1,r1⟩:=ha
 exact ⟨b,xs,rfl,.inl h1,fun l hl=>P l F _ (Up.FJ s hl) hl (s.free hl) ⟨_,aL,r1⟩⟩
def rm (f:Fn PV):Fn (List PV):=fun ρ=>bnd (f ρ) uv
def qj (i:Nat):Fn (List PV):=fun ρ=>bnd (mVL i ρ) uv
def K8:PV->Option (Res PV)
 | .int i=>some (.ok (.int (-i)))
 | _=>none
theorem RW {f:Fn PV} (ha:MJ K C (aF K) ta f):MJ K C (aF K) (tUn (rU fun i=>.int (-i)) ta) (m1 K8 f):=by
 intro F H σ ρ Q r R e P
 refine ha.run R e P fun p v F1 H1 hk u a=>?_
 match p,hk with
 | .int i,hk =>
  cases Rep.aZ a
  cases hk
  exact ⟨i,rfl,P _ F1 H1 u .int⟩
end
noncomputable abbrev XR0:Hp->Value->Option Addr->PV->Prop:=fun _ _ _ _=>False
noncomputable abbrev C0 (io:Addr->Prop) (H0 F0:Hp):Cg:=⟨⟨io,True,H0,F0,E0⟩,XR0⟩
def startR (ps:List PV) (k:Nat):Rho:=ps.map (fun p=>some (.sh p))++List.replicate k none
def fin:Option Out->Option (Res PV)
 | some (.nx _)=>some (.ok .non)
 | some (.rt p)=>some (.ok p)
 | some (.ex z)=>some (.ex z)
 | _=>none
def ql:Option Out->Option (Res PV)
 | some (.ro p)=>some (.ok p)
 | some (.ex z)=>some (.ex z)
 | _=>none
section
variable {K:PySem.W.Frag}{XR:Hp->Value->Option Addr->PV->Prop}{N:List Str}{vs:List V}{H:Hp}{Q:VK}{E:XK}{t:TS}{b:Sn}{m:List PV->Option (Res PV)}
theorem v8 {E:XK}{F:Hp}{ps:List PV}{n:Nat} (s:aR F H) (r:bC K F vs ps) (hN:N.length=vs.length+n):RE K ⟨fun _=>False,True,H,F,E⟩ F H (start N vs) (startR ps n) where
 rb:=⟨s,fun _ _ h _=>h,fun _ _ h=>.inl h,fun _ h=>h.elim⟩
 len:=by unfold start startR;rw [List.length_append,List.length_append,List.length_map,List.length_map,List.length_replicate,List.length_replicate,r.1,hN];have:=r.1;lia
 sh:=fun i p e=>by
  unfold startR at e
  unfold start
  by_cases hi:i < ps.length
  ·rw [Zah (by simpa using hi),List.getElem?_map] at e
   rw [Zah (by rw [List.length_map,r.1];exact hi),List.getElem?_map]
   cases h:ps[i]? with
   | none=>rw [h] at e;cases e
   | some q =>
    rw [h] at e
    cases e
    obtain ⟨x,hx,rx⟩:=r.get h
    exact ⟨x,by rw [hx];rfl,rx⟩
  ·rw [Zao (by simpa using hi),Zbf] at e
   split at e <;> cases e
 ow:=fun i p e=>by
  exfalso
  unfold startR at e
  by_cases hi:i < ps.length
  ·rw [Zah (by simpa using hi),List.getElem?_map] at e
   cases h:ps[i]? with
   | none=>rw [h] at e;cases e
   | some q=>rw [h] at e;cases e
  ·rw [Zao (by simpa using hi),Zbf] at e
   split at e <;> cases e
 dd:=⟨_,RD.no fun i p e=>by
  unfold startR at e
  by_cases hi:i < ps.length
  ·rw [Zah (by simpa using hi),List.getElem?_map] at e
   cases h:ps[i]? with
   | none=>rw [h] at e;cases e
   | some q=>rw [h] at e;cases e
  ·rw [Zao (by simpa using hi),Zbf] at e
   split at e <;> cases e⟩
 dis:=fun i j p q a e=>by
  exfalso
  unfold startR at e
  by_cases hi:i < ps.length
  ·rw [Zah (by simpa using hi),List.getElem?_map] at e
   cases h:ps[i]? with
   | none=>rw [h] at e;cases e
   | some q=>rw [h] at e;cases e
  ·rw [Zao (by simpa using hi),Zbf] at e
   split at e <;> cases e
theorem d8 {k n:Nat} (hk:N.length=k+n) (hm:∀ ps r,m ps=some r->ps.length=k∧fin (b (startR ps n))=some r) (h:spM K XR0 m vs H Q E) (hS:∀ (io:Addr->Prop) (H0 F0:Hp),(∀ a,¬io a)->MS K (C0 io H0 F0) t b) :
  t { nx:=fun _ H'=>Q .non H',rt:=Q } (start N vs) H:=by
 obtain ⟨ps,F,r,s,rp,e,P⟩:=h
 obtain ⟨hl,e⟩:=hm ps r e
 have R:=v8 (E:=E0) (N:=N) (n:=n) s rp (by rw [rp.1,hl];exact hk)
 have up:∀ {F' H':Hp},aR F F'->RB ⟨fun _=>False,True,H,F,E0⟩ F' H'->Up F H F' H':=fun s' rb=>⟨s',fun c o q=>rb.keep c o q id,rb.new,rb.sub⟩
 have M:=hS (fun _=>False) H F (fun _ h=>h)
 cases ho:b (startR ps n) with
 | none=>rw [ho] at e;cases e
 | some o =>
  rw [ho] at e
  refine M F H _ _ _ o R ho ?_
  cases o with
  | nx ρ=>cases e;exact fun F' H' σ s' R'=>P .non F' H' (up s' R'.rb) .non
  | rt p=>cases e;exact fun v F' H' s' rb rv=>P v F' H' (up s' rb) rv
  | ex z=>exact fun _ _ _ _ _ _ x=>x.elim
  | ro p=>cases e
  | rd p=>cases e
  | bk ρ=>cases e
  | ct ρ=>cases e
theorem jO {k n:Nat} (hk:N.length=k+n) (hm:∀ ps r,m ps=some r->ps.length=k∧ql (b (startR ps n))=some r) (h:spO K XR0 m vs H Q E) (hS:∀ (io:Addr->Prop) (H0 F0:Hp),(∀ a,¬io a)->MS K (C0 io H0 F0) t b) :
  t { nx:=fun _ H'=>Q .non H',rt:=Q } (start N vs) H:=by
 obtain ⟨ps,F,r,s,rp,e,P⟩:=h
 obtain ⟨hl,e⟩:=hm ps r e
 have R:=v8 (E:=E0) (N:=N) (n:=n) s rp (by rw [rp.1,hl];exact hk)
 have up:∀ {F' H':Hp},aR F F'->RB ⟨fun _=>False,True,H,F,E0⟩ F' H'->Up F H F' H':=fun s' rb=>⟨s',fun c o q=>rb.keep c o q id,rb.new,rb.sub⟩
 have M:=hS (fun _=>False) H F (fun _ h=>h)
 cases ho:b (startR ps n) with
 | none=>rw [ho] at e;cases e
 | some o =>
  rw [ho] at e
  refine M F H _ _ _ o R ho ?_
  cases o with
  | ro p=>cases e;exact fun a F' H' s' rb w n1 n2=>P a F' H' (up s' rb) n2 n1 w
  | ex z=>exact fun _ _ _ _ _ _ x=>x.elim
  | nx ρ=>cases e
  | rt p=>cases e
  | rd p=>cases e
  | bk ρ=>cases e
  | ct ρ=>cases e
theorem dH (h:spM K XR m vs H Q E) {k:Nat} (hm:∀ ps r,m ps=some r->ps.length=k):vs.length=k:=by
 obtain ⟨ps,F,r,s,rp,e,P⟩:=h
 rw [rp.1];exact hm ps r e
theorem jP (h:spO K XR m vs H Q E) {k:Nat} (hm:∀ ps r,m ps=some r->ps.length=k):vs.length=k:=by
 obtain ⟨ps,F,r,s,rp,e,P⟩:=h
 rw [rp.1];exact hm ps r e
end
section
variable {X:Cx}{k:Nat}{N:List Str}{scope:Scope}{cl:List (Str×Addr)}{C:Addr}{s2:Shared}{H2:Hp}{fp:List Addr}
theorem lW:IxR (X.comp N scope cl C s2 H2 fp) (rIx X.K):=bx
theorem CG:OpR (X.comp N scope cl C s2 H2 fp) (binaryOp .Add) (KH X.K):=bh
theorem FZ (hr:fM k X.A):OpR (X.comp N scope cl C s2 H2 fp) (compareOp .NotIn) (zZ X.K):=yH hr
end
section
variable {K:PySem.W.Frag}{C:Cg}{te:TE}
end
structure Vr (a:Addr) (F H F' H':Hp):Prop where
 ff:aR F F'
 hb:SameBut a H H'
 fr:∀ b o,F' b=some o->F b=some o∨Frz H b o
 fh:aR F' H'
def Ux (j:Nat):Option Out->Option (Res PV)
 | some (.nx ρ)=>match ownAt j ρ with
  | some p=>some (.ok p)
  | none=>none
 | _=>none
section
variable {K:PySem.W.Frag}{C:Cg}{N:List Str}{vs:List V}{H F:Hp}{Q:VK}{E:XK}{t:TS}{b:Sn}{m:List PV->Option (Res PV)}{j:Nat}{ps:List PV}{a:Addr}{p:PV}{n:Nat}
theorem iT {i:Nat}{x:V} (h:vs[i]?=some x):(start N vs)[i]?=some (some x):=by
 unfold start
 rw [Zah (by rw [List.length_map];exact cJ h),List.getElem?_map,h]
 rfl
def Ga:Sn:=fun _=>none
theorem K9:MS K C J2 Ga:=fun _ _ _ _ _ _ _ e _=>nomatch e
end
section
variable {X:Cx}
end
section
variable {K:PySem.W.Frag}{C:Cg}{ta tb:TE}
end
section
variable {X:Cx}
end
section
variable {K:PySem.W.Frag}{C:Cg}{ta tb:TE}
end
theorem CJ:∀ {ns:List Int}{us:List Value},Vals (ns.map V.int) us->IntsAre us ns
 | [],us,r=>by rw [List.map_nil] at r;cases r;exact .nil
 | n::ns,us,r=>by
  rw [Zai] at r
  cases r with
  | cons r1 r2 =>
   obtain ⟨t,e⟩:=r1
   subst e
   exact .cons n t (CJ r2)
section
variable {X:Cx}
end
def nU:List PV->Option (List Int)
 | []=>some []
 | .int n::l=>(nU l).map (n::·)
 | _=>none
section
variable {X:Cx}{pos:Pos}
end
section
variable {K:PySem.W.Frag}{C:Cg}
end
section
variable {K:PySem.W.Frag}{C:Cg}{ta tb:TE}
end
theorem v9:typeLookup (.type "list") "keys"=pure none:=am_miss_of_fast (by decide +kernel)
theorem uD:typeLookup (.type "tuple") "keys"=pure none:=am_miss_of_fast (by decide +kernel)
theorem gw:entryFor table "dict.update.loop"=some Builtin.«dict.update.loop»:=entryFor_of_tree (by kernel_rfl)
theorem cg:plainId "dict.update.loop"=true:=by decide +kernel
section
variable {prog:Program}{w:World}{A:Around}{E:Value->Shared->Prop}{s:Shared}{a:Addr}{o:Obj}{xs:Array Value}{k:Nat}{name:Str}{Q:Option Value->Shared->Prop}
theorem qm (hx:s.heap.get? a=some o) (hc:o.cls=.type "list") (hdat:o.data=.seq xs k) (hd:o.dict=none) (hmiss:typeLookup (.type "list") name=pure none) (hname:(["__module__","__name__","__qualname__","__doc__","__annotations__"]:List Str).contains name=false) (hA:A.handled=none)
  (h:∀ h' tk,(∀ b ob,s.heap.get? b=some ob->h'.get? b=some ob)->Q none { s with heap:=h',toks:=tk }) (hsz:name.length+100≤sizeLine:=by size_fits) :
  wpAny (model prog w) A (getAttr? (.ref a) name) Q E s:=by
 obtain ⟨c,dct,dat,sl⟩:=o
 simp only at hc hdat hd
 subst hc hdat hd
 obtain ⟨hp,g,d,tk,os⟩:=s
 have hT:∀ tk',(⟨hp,g,d,tk',os⟩:Shared).TypeIs (.ref a) "list":=fun _=>⟨_,hx,rfl⟩
 have f1:=sub_AttributeError
 have f3:=F.slot_list_getattribute.lookup
 have f4:=F.slot_list_getattribute.bind (.ref a)
 have f5:=am_list_getattr_none
 unfold getAttr? getAttrBy? getAttrBy
 repeat (any_goals (first | assumption | exact hT _ | ((with_reducible show wpAny _ _ (call (Value.builtin "list.__getattribute__") _ _) _ _ _);refine call_meets F.slot_list_getattribute (hT _) am_entry_list_getattribute (F.args_list_getattribute_2 _ _) (meets_getattribute_miss_list a xs k sl name _ hmiss hname hsz) ⟨hx,hA,fun h' tk' e hx'=>?_⟩) | wp_step))
 obtain ⟨t',u',he⟩:=hx'.there
 show wpAny _ _ (getattributeRaised _ _ _ _ _ _ _) _ _ _
 unfold getattributeRaised
 repeat (any_goals (first | assumption | wp_step))
 exact h _ _ hx'.keeps
theorem pG (hx:s.heap.get? a=some o) (hc:o.cls=.type "tuple") (hdat:o.data=.seq xs k) (hd:o.dict=none) (hmiss:typeLookup (.type "tuple") name=pure none) (hname:(["__module__","__name__","__qualname__","__doc__","__annotations__"]:List Str).contains name=false) (hA:A.handled=none)
  (h:∀ h' tk,(∀ b ob,s.heap.get? b=some ob->h'.get? b=some ob)->Q none { s with heap:=h',toks:=tk }) (hsz:name.length+100≤sizeLine:=by size_fits) :
  wpAny (model prog w) A (getAttr? (.ref a) name) Q E s:=by
 obtain ⟨c,dct,dat,sl⟩:=o
 simp only at hc hdat hd
 subst hc hdat hd
 obtain ⟨hp,g,d,tk,os⟩:=s
 have hT:∀ tk',(⟨hp,g,d,tk',os⟩:Shared).TypeIs (.ref a) "tuple":=fun _=>⟨_,hx,rfl⟩
 have f1:=sub_AttributeError
 have f3:=F.slot_tuple_getattribute.lookup
 have f4:=F.slot_tuple_getattribute.bind (.ref a)
 have f5:=am_tuple_getattr_none
 unfold getAttr? getAttrBy? getAttrBy
 repeat (any_goals (first | assumption | exact hT _ | ((with_reducible show wpAny _ _ (call (Value.builtin "tuple.__getattribute__") _ _) _ _ _);refine call_meets F.slot_tuple_getattribute (hT _) am_entry_tuple_getattribute (F.args_tuple_getattribute_2 _ _) (meets_getattribute_miss_tuple a xs k sl name _ hmiss hname hsz) ⟨hx,hA,fun h' tk' e hx'=>?_⟩) | wp_step))
 obtain ⟨t',u',he⟩:=hx'.there
 show wpAny _ _ (getattributeRaised _ _ _ _ _ _ _) _ _ _
 unfold getattributeRaised
 repeat (any_goals (first | assumption | wp_step))
 exact h _ _ hx'.keeps
end
section
variable {X:Cx}{pins:List (Addr×Obj)}{σ:St}{H H':Hp}{s:Shared}{d:Addr}{y v:V}{u r:Value}{A:Around}{E:Value->Shared->Prop}
theorem Jo {Q:Unit->Shared->Prop} (hu:A.units < cLine) (I:Inv X pins σ H s) (g:qT H d y v H') (ry:RelV y u) (rv:RelV v r) (h:∀ h' tk,Heap.SameBut d s.heap h'->Inv X pins σ H' { s with heap:=h',toks:=tk }->Q () { s with heap:=h',toks:=tk }) :
  wpAny (model X.prog X.w) A (dictSet d u r) Q E s:=by
 rcases g with ⟨kvs,k,e,ey,l,eH⟩ | ⟨kvs,k,b,e,ey,eb,l,eH⟩
 ·subst ey eH
  obtain ⟨z,hd,vs,rel,dd⟩:=QF I.hok e
  have hz:vs.length≤sizeLine:=by rw [←rel.length];exact z
  have hl:(putK kvs k v).length≤sizeLine:=by have:=iM kvs k v;omega
  refine wpAny_dictSet_pairs (hsz:=hz) (vK ry) dd fun h' dd' hs=>h h' _ hs ?_
  have he:∃ q,h'.get? d=some q:=let ⟨q,_,_,hq,_⟩:=dd';⟨q,hq⟩
  exact qU I (by rw [e];exact True.intro) hs he (Kh hl hd (rel.put k rv) dd')
 ·subst ey eH
  cases (show u=Value.ref b from ry)
  obtain ⟨z,hd,xs,rel,dd⟩:=Kg I.hok e
  have hz:xs.length≤sizeLine:=by rw [←Paired.length rel];exact z
  have hl:(putK kvs k v).length≤sizeLine:=by have:=iM kvs k v;omega
  refine wpAny_dictSet_heap (hsz:=hz) (show (tupleKind (cR X.prog X.w)).room A from hu) (nG I.hok eb) dd fun h' dd' hs=>h h' _ hs ?_
  obtain ⟨q,es,ep,hq,h2,h3,h4,_,h5⟩:=dd'
  refine qU I (by rw [e];exact True.intro) hs ⟨q,hq⟩ ⟨hl,hd,_,(rel.put k eb rv).keeps fun c ys ec=>?_,q,es,ep,hq,h2,h3,h4,h5⟩
  rw [aG (JX ec e (fun z=>nomatch z))]
  exact ec
theorem qT.other (g:qT H d y v H') {b:Addr} (hb:b≠d):H' b=H b:=by
 rcases g with ⟨kvs,k,e,ey,l,rfl⟩ | ⟨kvs,k,b',e,ey,eb,l,rfl⟩
 ·exact aG hb
 ·exact aG hb
def yL (d:Addr):List (V×V)->Hp->(Hp->Prop)->Prop
 | [],H,Q=>Q H
 | (y,v)::r,H,Q=>∃ H',qT H d y v H'∧yL d r H' Q
def zT (K:PySem.W.Frag) (H:Hp) (ys:List V) (ps:List (V×V)):Prop:=ys.length=ps.length∧∀ (j:Nat) x p,ys[j]?=some x->ps[j]?=some p->∃ T,x=.ref T∧SqT K H T [p.1,p.2]
theorem SqT.but {K:PySem.W.Frag}{T:Addr}{xs:List V} (h:SqT K H T xs) (hb:∀ b,b≠d->H' b=H b) (hn:T≠d):SqT K H' T xs:=by
 rcases h with (h | ⟨o,h⟩) | h
 ·exact .inl (.inl (by rw [hb T hn];exact h))
 ·exact .inl (.inr ⟨o,by rw [hb T hn];exact h⟩)
 ·exact .inr h
theorem La {it:Addr}{fp:List Addr}{n:Nat}{P:Nat->Value->Prop}{St:Nat->Heap->Prop}{ps:List (V×V)}{R:Result->Shared->Prop}{H0:Hp} (hc:X.calm=true) (W:Walks X.prog X.w A.in1 it fp [it] n P St) (hu:A.in1.units < cLine)
  (hn:ps.length=n) (hd:d ∉ fp) (hit:∀ H,H d≠none->(∀ b,b≠d->H b=H0 b)->vA X pins H it)
  (hp:∀ (i:Nat) v p,P i v->ps[i]?=some p->∃ T,v=.ref T∧T≠d∧SqT X.K H0 T [p.1,p.2]) :
  ∀ (k i:Nat) (s:Shared) (H:Hp),n - i=k->i≤n->St i s.heap->Inv X pins σ H s->H d≠none->(∀ b,b≠d->H b=H0 b)->∀ tk,yL d (ps.drop i) H (fun H'=>∀ s',Inv X pins σ H' s'->R (.ok (.ret .none)) s') ->
   codeAny (model X.prog X.w) A (.builtin "dict.update.loop" ⟨[.ref d,.ref it,.int i tk,.none],[]⟩) R s:=by
 intro k
 induction k with
 | zero =>
  intro i s H hk hi hst I hHd hb tk hR
  have hin:i=n:=by omega
  subst hin
  refine codeAny_builtin gw ?_
  rw [Around.under_plainId cg _]
  show wpAny _ A.in1 (pyNext (.ref it) >>= _) _ _ s
  refine wpAny_bind (W.done s _ _ hst fun h' tk' hk'=>?_)
  show wpAny _ _ (Builtin.Dict.addKeywords d [] >>= _) _ _ _
  rw [Za6 (by omega)] at hR
  exact wpAny_bind (wpAny_pure (wpAny_pure (hR _ (I.qP hk' fun b hb'=>by rw [Zay.mp hb'];exact hit H hHd hb))))
 | succ k ih =>
  intro i s H hk hi hst I hHd hb tk hR
  have hlt:i < n:=by omega
  have hlp:i < ps.length:=by omega
  have hdr:ps.drop i=ps[i]::ps.drop (i+1):=ZaI hlp
  rw [hdr] at hR
  refine codeAny_builtin gw ?_
  rw [Around.under_plainId cg _]
  show wpAny _ A.in1 (pyNext (.ref it) >>= _) _ _ s
  refine wpAny_bind (W.item i s _ _ hlt hst fun v h' tk' hP hst' hk'=>?_)
  obtain ⟨T,rfl,hT,hq⟩:=hp i v ps[i] hP (by simp [hlp])
  have I1:Inv X pins σ H { s with heap:=h',toks:=tk' }:=I.qP hk' fun b hb'=>by rw [Zay.mp hb'];exact hit H hHd hb
  obtain ⟨its,rv,ht,_⟩:=I1.tuple (SqT.but hq hb hT)
  obtain ⟨u1,u2,rfl,r1,r2⟩:∃ u1 u2,its=[u1,u2]∧RelV ps[i].1 u1∧RelV ps[i].2 u2:=by
   cases rv with
   | cons a t=>cases t with
    | cons b t=>cases t;exact ⟨_,_,rfl,a,b⟩
  obtain ⟨H',g,hR⟩:=hR
  refine wpAny_bind (wpAny_holding (wpAny_bind (wpAny_tryCatch ?_)))
  unfold Builtin.Dict.pairItems
  refine wpAny_bind (wpAny_typeOf ht.typeIs ?_)
  rw [if_pos (by decide)]
  obtain ⟨o,h1,_,m,h2⟩:=ht
  refine wpAny_bind (wpAny_seqItems h1 h2 (wpAny_pure ?_))
  show wpAny _ A.in1 (holding [u1,u2] (dictSet d u1 u2)) _ _ _
  refine wpAny_holding (Jo hu I1 g r1 r2 fun h2' tk2 hs2 I2=>?_)
  refine wpAny_pure ⟨plainId_quiet cg _,?_⟩
  have:=ih (i+1) { s with heap:=h2',toks:=tk2 } H' (by omega) hlt (W.frame _ _ _ hst' fun b hb' o e=>(hs2.2 b fun z=>hd (by rw [←z];exact hb')).trans e) I2
   (by rcases g with ⟨_,_,_,_,_,rfl⟩ | ⟨_,_,_,_,_,_,_,rfl⟩ <;> rw [aL] <;> simp) (fun b hb'=>(qT.other g hb').trans (hb b hb')) 0 hR
  exact this
end
theorem CK:∀ {xs:List V}{us:List Value}{i:Nat}{u:Value},Vals xs us->us[i]?=some u->∃ x,xs[i]?=some x∧RelV x u
 | [],_,i,u,r,h=>by cases r;simp at h
 | x::xs,_,i,u,r,h=>by
  cases r with
  | cons a t =>
   cases i with
   | zero=>simp at h;subst h;exact ⟨x,rfl,a⟩
   | succ i=>obtain ⟨y,h1,h2⟩:=CK (i:=i) t (by simpa using h);exact ⟨y,by simpa using h1,h2⟩
def Gb (K:PySem.W.Frag) (n:HO):List V->Hp->VK->Prop:=fun xs H Q=>∃ p ys ps,xs=[.ref p]∧(SqL K H p ys∨H p=some (.tup ys))∧zT K H ys ps∧∀ d,H d=none->yL d ps (upd H d n) fun H'=>Q (.ref d) H'
section
variable {X:Cx}
theorem Gd {n:HO} (hc:X.calm=true) (hu:X.A.units+64 < cLine) (hn:n=.dK []∨n=.dT []):pI X (.type "dict") (Gb X.K n):=by
 intro pins s σ H xs us Q I rv h
 obtain ⟨p,ys,ps,rfl,hq,hps,q⟩:=h
 obtain ⟨u,rfl,ru⟩:=rv.one
 cases ru
 have hh:X.A.handled=none:=I.ok.hd hc
 refine callType_codes (Q₁:=fun obj s₁=>obj=.ref s.heap.objs.size∧s₁={ s with heap:=s.heap.push { cls:=.type "dict",data:=.dict #[] } }) F.kt_called_dict (F.kt_typeCall_dict_1 _) F.entry_dict_init (kt_code_dict_new _ ⟨rfl,rfl⟩) ?_
 rintro obj s₁ ⟨rfl,rfl⟩
 have ok:dG X.prog X.w (upd H s.heap.objs.size n) (s.heap.push { cls:=.type "dict",data:=.dict #[] }) s.heap.objs.size n:=by
  rcases hn with rfl | rfl
  ·exact Ko s.heap I.big
  ·exact Cm s.heap I.big
 have hfree:H s.heap.objs.size=none:=I.hok.fresh (Zaf _)
 have I1:Inv X pins σ (upd H s.heap.objs.size n) { s with heap:=s.heap.push { cls:=.type "dict",data:=.dict #[] } }:=I.laid (a:=s.heap.objs.size) (o:=n) (t':=s.toks) (fun _ _ q=>Zac _ q) (Zaf _) ok
 have q:=q _ hfree
 have hd1:(s.heap.push { cls:=.type "dict",data:=.dict #[] }).get? s.heap.objs.size=some { cls:=.type "dict",data:=.dict #[] }:=Zal _ rfl
 have tyD:({ s with heap:=s.heap.push { cls:=.type "dict",data:=.dict #[] } }:Shared).TypeIs (.ref s.heap.objs.size) "dict":=⟨_,hd1,rfl⟩
 refine ⟨tyD,F.args_dict_init_2 _ _,?_⟩
 unfold Builtin.«dict.__init__»
 refine wpAny_bind ?_
 unfold Builtin.Dict.selfAndRest
 refine wpAny_bind (wpAny_notOrdered_dict tyD ?_)
 show wpAny _ _ (pure (s.heap.objs.size,[Value.ref p])) _ _ _
 refine wpAny_pure ?_
 show wpAny _ _ (Builtin.Dict.updateFrom "dict.__init__" s.heap.objs.size (.ref p) [] .none) _ _ _
 unfold Builtin.Dict.updateFrom
 have same:aR H (upd H s.heap.objs.size n):=dI hfree
 have hnd:∀ (j:Nat) x pr,ys[j]?=some x->ps[j]?=some pr->∃ T,x=.ref T∧T≠s.heap.objs.size∧SqT X.K (upd H s.heap.objs.size n) T [pr.1,pr.2]:=fun j x pr e1 e2=>by
  obtain ⟨T,rfl,hT⟩:=hps.2 j x pr e1 e2
  obtain ⟨its,_,ht,_⟩:=I.tuple hT
  exact ⟨T,rfl,Zaw ht.lt,same.tup hT⟩
 have fin:∀ (h2:Heap) (tk:Nat) (o:Obj) (St:Nat->Heap->Prop) (its:List Value),(∀ b ob,(s.heap.push { cls:=.type "dict",data:=.dict #[] }).get? b=some ob->h2.get? b=some ob)->Vals ys its ->
   Walks X.prog X.w X.A.in1.in1 h2.objs.size [h2.objs.size,p] [h2.objs.size] its.toArray.size (fun i v=>its.toArray[i]?=some v) St->St 0 (h2.push o)->p≠s.heap.objs.size->(∀ b,o.cls≠.ref b) ->
   codeAny (model X.prog X.w) X.A.in1 (.builtin "dict.update.loop" ⟨[.ref s.heap.objs.size,.ref h2.objs.size,.int (0:Nat) 0,.none],[]⟩) (wants (fun r s₂=>r=.none∧EP X pins σ Q (.ref s.heap.objs.size) s₂) X.xe) { s with heap:=h2.push o,toks:=tk }:=by
  intro h2 tk o St its hk rv W h0 hp _
  have I2:Inv X pins σ (upd H s.heap.objs.size n) { s with heap:=h2,toks:=tk }:=I1.kept hk
  have I3:Inv X pins σ (upd H s.heap.objs.size n) { s with heap:=h2.push o,toks:=tk }:=I2.kept (t':=tk) fun b ob e=>Zac _ e
  have lt1:s.heap.objs.size < h2.objs.size:=Zak (hk _ _ hd1)
  have hn2:upd H s.heap.objs.size n h2.objs.size=none:=I2.hok.fresh (Zaf _)
  refine La (A:=X.A.in1) (ps:=ps) (H0:=upd H s.heap.objs.size n) hc W (show X.A.units+2 < cLine by lia) ?_ ?_ (fun Hx hx1 hx2=>?_) (fun i v pr hv hpr=>?_) _ 0 _ _ rfl (ZaO _) h0 I3 (by rw [aL];simp) (fun _ _=>rfl) 0 ?_
  ·rw [List.size_toArray,←rv.length];exact hps.1.symm
  ·intro z
   rcases Zaq.mp z with z | z
   ·exact absurd z (Zaw lt1)
   ·exact absurd (Zay.mp z).symm hp
  ·exact I2.BP (Zaf _) (by rw [hx2 _ (Nat.ne_of_gt lt1)];exact hn2)
  ·rw [List.getElem?_toArray] at hv
   obtain ⟨y,hy,ry⟩:=CK rv hv
   obtain ⟨T,rfl,h1,h2⟩:=hnd i y pr hy hpr
   cases ry
   exact ⟨T,rfl,h1,h2⟩
  ·rw [Zba]
   have mono:∀ (ps:List (V×V)) (Hx:Hp) (P1 P2:Hp->Prop),(∀ H,P1 H->P2 H)->yL s.heap.objs.size ps Hx P1->yL s.heap.objs.size ps Hx P2:=by
    intro ps
    induction ps with
    | nil=>exact fun Hx P1 P2 hP h=>hP _ h
    | cons a r ih=>exact fun Hx P1 P2 hP ⟨H',g,h⟩=>⟨H',g,ih _ _ _ hP h⟩
   exact mono _ _ _ _ (fun Hx hQ s' Is=>⟨rfl,.ref _,Hx,Is,rfl,hQ⟩) q
 rcases hq with hq | hq
 ·obtain ⟨its,rv,pl,hz⟩:=I1.list (same.seq hq)
  have hp:p≠s.heap.objs.size:=fun z=>by
   obtain ⟨o,m,e,c,_⟩:=pl
   rw [z,hd1] at e;cases e;exact absurd (show Value.type "dict"=Value.type "list" from c) (by decide)
  obtain ⟨o,m,e,c,dn,dt⟩:=id pl
  refine wpAny_bind (wpAny_typeOf (show Shared.TypeIs _ (.ref p) "list" from ⟨_,e,c⟩) ?_)
  rw [if_pos (by decide)]
  refine wpAny_bind (qm e c dt dn v9 (by decide +kernel) hh fun h2 tk hk=>?_)
  rw [if_pos (show (none:Option Value).isNone=true from rfl)]
  refine wpAny_bind (wpAny_rule (wpAny_bind (wpAny_pyIter_list ((pl.keeps hk).isList) ?_)))
  refine wpAny_pure ⟨plainId_quiet cg _,fin h2 tk _ _ its hk rv (Walks.list (A:=X.A.in1.in1) hh _ p (Zaw (pl.keeps hk).lt) its.toArray) ⟨⟨_,Zal _ rfl,rfl,rfl⟩,(pl.keeps fun b ob eb=>Zac _ (hk b ob eb)).isList⟩ hp (fun b z=>nomatch z)⟩
 ·obtain ⟨_,its,rv,tn⟩:=(show dG X.prog X.w _ _ p (.tup ys) from I1.hok p _ (same _ _ hq))
  have hp:p≠s.heap.objs.size:=fun z=>by
   obtain ⟨⟨o,e,c,_⟩,_⟩:=tn
   rw [z,hd1] at e;cases e;exact absurd (show Value.type "dict"=Value.type "tuple" from c) (by decide)
  obtain ⟨⟨o,e,c,m,dt⟩,dn⟩:=id tn
  refine wpAny_bind (wpAny_typeOf (show Shared.TypeIs _ (.ref p) "tuple" from ⟨_,e,c⟩) ?_)
  rw [if_pos (by decide)]
  refine wpAny_bind (pG e c dt (dn o e) uD (by decide +kernel) hh fun h2 tk hk=>?_)
  rw [if_pos (show (none:Option Value).isNone=true from rfl)]
  have tp:({ s with heap:=h2,toks:=tk }:Shared).heap.IsTuple p its.toArray:=⟨o,hk _ _ e,c,m,dt⟩
  refine wpAny_bind (wpAny_rule (wpAny_bind (wpAny_pyIter_tuple tp ?_)))
  refine wpAny_pure ⟨plainId_quiet cg _,fin h2 tk _ _ its hk rv (Walks.tuple (A:=X.A.in1.in1) hh _ p (Zaw (Zak (hk _ _ e))) its.toArray) ⟨⟨_,Zal _ rfl,rfl,rfl⟩,⟨o,Zac _ (hk _ _ e),c,m,dt⟩⟩ hp (fun b z=>nomatch z)⟩
end
section
variable {κ:Type} [DecidableEq κ]
def di:List (κ×PV)->κ->Option PV
 | [],_=>none
 | (a,p)::l,k=>if a=k then some p else di l k
def iU:List (κ×PV)->κ->PV->List (κ×PV)
 | [],k,p=>[(k,p)]
 | (a,q)::l,k,p=>if a=k then (a,p)::(if (l.any fun e=>decide (e.1=k))=true then iU l k p else l) else (a,q)::iU l k p
inductive gb (K:PySem.W.Frag) (F:Hp):List (κ×V)->List (κ×PV)->Prop
 | nil:gb K F [] []
 | cons {k:κ}{v:V}{p:PV}{xs:List (κ×V)}{l:List (κ×PV)} (h:Rep K F v p) (t:gb K F xs l):gb K F ((k,v)::xs) ((k,p)::l)
variable {K:PySem.W.Frag}{F F':Hp}{xs:List (κ×V)}{l:List (κ×PV)}{k:κ}
theorem gb.of:∀ {xs:List (κ×V)}{l:List (κ×PV)},xs.map (·.1)=l.map (·.1)->(∀ (j:Nat) x p,xs[j]?=some x->l[j]?=some p->Rep K F x.2 p.2)->gb K F xs l
 | [],[],_,_=>.nil
 | [],_::_,h,_=>by simp at h
 | _::_,[],h,_=>by simp at h
 | (a,v)::xs,(b,p)::l,h,hr=>by
  simp only [Zai,Zbj] at h
  obtain ⟨h1,h2⟩:=h
  have h1:a=b:=h1
  subst h1
  exact .cons (hr 0 _ _ rfl rfl) (gb.of h2 fun j x p e1 e2=>hr (j+1) x p (by simpa using e1) (by simpa using e2))
theorem gb.keys (h:gb K F xs l):xs.map (·.1)=l.map (·.1):=by
 induction h with
 | nil=>rfl
 | cons h t ih=>simp [ih]
theorem gb.len (h:gb K F xs l):xs.length=l.length:=by
 have:=congrArg List.length h.keys
 simpa using this
theorem gb.at (h:gb K F xs l):∀ (j:Nat) x p,xs[j]?=some x->l[j]?=some p->Rep K F x.2 p.2:=by
 induction h with
 | nil=>intro j x p e;simp at e
 | cons h t ih =>
  intro j x p e1 e2
  cases j with
  | zero=>simp at e1 e2;subst e1 e2;exact h
  | succ j=>exact ih j x p (by simpa using e1) (by simpa using e2)
theorem gb.none (h:gb K F xs l) (e:di l k=none):iZ xs k=none:=by
 induction h with
 | nil=>rfl
 | @cons a v p xs l h t ih =>
  unfold di at e
  split at e
  ·cases e
  ·rename_i hk
   rw [jy hk];exact ih e
theorem gb.some {p:PV} (h:gb K F xs l) (e:di l k=some p):∃ v,iZ xs k=some v∧Rep K F v p:=by
 induction h with
 | nil=>cases e
 | @cons a v q xs l h t ih =>
  unfold di at e
  split at e
  ·rename_i hk
   cases e
   exact ⟨v,nF hk,h⟩
  ·rename_i hk
   obtain ⟨w,h1,h2⟩:=ih e
   exact ⟨w,by rw [jy hk];exact h1,h2⟩
theorem gb.any (h:gb K F xs l):(xs.any fun e=>decide (e.1=k))=l.any fun e=>decide (e.1=k):=by
 induction h with
 | nil=>rfl
 | cons h t ih=>simp only [ZbE,ih]
theorem gb.repl {v:V}{p:PV} (h:gb K F xs l) (r:Rep K F v p):(l.any fun e=>decide (e.1=k))=true->gb K F (xs.map fun kv=>if kv.1=k then (kv.1,v) else kv) (iU l k p):=by
 induction h with
 | nil=>intro z;cases z
 | @cons a w q xs l h t ih =>
  intro z
  unfold iU
  rw [Zai]
  by_cases hk:a=k
  ·rw [if_pos hk,if_pos hk]
   refine .cons r ?_
   by_cases hl:(l.any fun e=>decide (e.1=k))=true
   ·rw [if_pos hl];exact ih hl
   ·rw [if_neg hl]
    have hx:∀ e∈xs,¬e.1=k:=fun e he z=>hl (by rw [←t.any];exact List.any_eq_true.mpr ⟨e,he,by simpa using z⟩)
    rw [show xs.map (fun kv=>if kv.1=k then (kv.1,v) else kv)=xs from by
     conv=>rhs;rw [←List.map_id xs]
     exact ZaU fun e he=>by rw [if_neg (hx e he)];rfl]
    exact t
  ·rw [if_neg hk,if_neg hk]
   refine .cons h (ih ?_)
   rw [ZbE] at z
   simpa [hk] using z
theorem gb.snoc {v:V}{p:PV} (h:gb K F xs l) (r:Rep K F v p):(l.any fun e=>decide (e.1=k))=false->gb K F (xs++[(k,v)]) (iU l k p):=by
 induction h with
 | nil=>intro _;exact .cons r .nil
 | @cons a w q xs l h t ih =>
  intro z
  rw [ZbE,Bool.or_eq_false_iff] at z
  have hk:¬a=k:=by simpa using z.1
  unfold iU
  rw [if_neg hk]
  exact .cons h (ih z.2)
theorem gb.put {v:V}{p:PV} (h:gb K F xs l) (r:Rep K F v p):gb K F (putK xs k v) (iU l k p):=by
 unfold putK
 by_cases z:(xs.any fun e=>decide (e.1=k))=true
 ·rw [if_pos z];exact h.repl r (by rw [←h.any];exact z)
 ·rw [if_neg z];exact h.snoc r (by rw [←h.any];exact Bool.not_eq_true _ ▸ z)
end
def wg:PV->Option Key
 | .int i=>some (.inl i)
 | .str x=>some (.inr x)
 | _=>none
def eG:List PV->Option (List Key)
 | []=>some []
 | p::l=>match wg p,eG l with
  | some k,some ks=>some (k::ks)
  | _,_=>none
def Uy:Key->PV
 | .inl i=>.int i
 | .inr x=>.str x
theorem wj {K:PySem.W.Frag}{F:Hp}{p:PV}{k:Key}{v:V} (h:wg p=some k) (r:Rep K F v p):v=kV k:=by
 cases p with
 | int i=>cases h;cases Rep.aZ r;rfl
 | str x=>cases h;cases Rep.bV r;rfl
 | _=>cases h
theorem oZ {K:PySem.W.Frag}{F:Hp}:∀ {l:List PV}{ks:List Key}{xs:List V},eG l=some ks->bC K F xs l->xs=ks.map kV
 | [],ks,xs,h,r=>by cases h;exact r.iH
 | p::l,ks,xs,h,r=>by
  unfold eG at h
  split at h
  ·rename_i k ks' h1 h2
   cases h
   obtain ⟨v,ys,rfl,r1,r2⟩:=r.dz
   rw [wj h1 r1,oZ h2 r2]
   rfl
  ·cases h
def PV.isD:PV->Bool
 | .dk _=>true
 | .dt _=>true
 | _=>false
def DLk (K:PySem.W.Frag) (F H:Hp) (a:Addr):PV->Prop
 | .dk l=>∃ xs,Rd H a (.dK xs)∧xs.map (·.1)=l.map (·.1)∧∀ (j:Nat) x p,xs[j]?=some x->l[j]?=some p->Rep K F x.2 p.2
 | .dt l=>∃ xs,Rd H a (.dT xs)∧xs.map (·.1)=l.map (·.1)∧∀ (j:Nat) x p,xs[j]?=some x->l[j]?=some p->Rep K F x.2 p.2
 | _=>False
theorem DLk.up {K:PySem.W.Frag}{F H F' H':Hp}{a:Addr}{p:PV} (o:DLk K F H a p) (sf:aR F F') (sh:aR H H'):DLk K F' H' a p:=by
 cases p with
 | dk l=>obtain ⟨xs,e,r,q⟩:=o;exact ⟨xs,e.same sh,r,fun j x p a b=>(q j x p a b).up sf⟩
 | dt l=>obtain ⟨xs,e,r,q⟩:=o;exact ⟨xs,e.same sh,r,fun j x p a b=>(q j x p a b).up sf⟩
 | _=>exact o.elim
theorem Own.look {K:PySem.W.Frag}{F H:Hp}{a:Addr}{p:PV} (o:Own K F H a p) (d:p.isD=true):DLk K F H a p:=by
 cases p with
 | dk l=>obtain ⟨xs,e,r⟩:=o;exact ⟨xs,.inl e,r⟩
 | dt l=>obtain ⟨xs,e,r⟩:=o;exact ⟨xs,.inl e,r⟩
 | _=>cases d
def aD (K:PySem.W.Frag):Rel PV:=fun F H v p=>p.isD=true∧∃ a,v=.ref a∧DLk K F H a p
theorem aD.up {K:PySem.W.Frag}:UpM (aD K):=fun _ _ _ _ _ _ u ⟨h1,b,e,o⟩=>⟨h1,b,e,o.up u.ff u.hh⟩
def asD (p:PV):Option (Res PV):=if p.isD=true then some (.ok p) else none
theorem Rep.own {K:PySem.W.Frag}{F H:Hp}{v:V}{p:PV} (r:Rep K F v p) (s:aR F H) (d:p.isD=true):∃ a,v=.ref a∧DLk K F H a p:=by
 cases r with
 | dk h hl hr=>exact ⟨_,rfl,_,h.same s,hl,hr⟩
 | dt h hl hr=>exact ⟨_,rfl,_,h.same s,hl,hr⟩
 | _=>cases d
section
variable {K:PySem.W.Frag}{C:Cg}{ta tb tc te:TE}{f g h:Fn PV}
def Ab (f:Fn PV):Fn PV:=fun ρ=>bnd (f ρ) asD
def fC (i:Nat):Fn PV:=fun ρ=>bnd (mVL i ρ) asD
theorem Lb (h:MJ K C (aF K) ta f):MJ K C (aD K) ta (Ab f):=by
 intro F H σ ρ Q r R e P
 refine h.run R e P fun p v F1 H1 hk u a=>?_
 unfold asD at hk
 split at hk
 ·rename_i hd
  cases hk
  exact P v F1 H1 u ⟨hd,Rep.own a u.fh hd⟩
 ·cases hk
theorem fD (i:Nat):MJ K C (aD K) (lO i) (fC i):=by
 intro F H σ ρ Q r R e P
 unfold fC at e
 rcases bQ e with ⟨z,e1,rfl⟩ | ⟨p,e1,hk⟩
 ·unfold mVL at e1
  split at e1 <;> cases e1
 ·unfold asD at hk
  split at hk
  case isFalse=>cases hk
  rename_i hd
  cases hk
  unfold mVL at e1
  split at e1
  ·rename_i q hq
   cases e1
   obtain ⟨v,e2,e3⟩:=R.sh i _ hq
   exact ⟨v,e2,P v F H (Up.refl R.rb.sub) ⟨hd,Rep.own e3 R.rb.sub hd⟩⟩
  ·rename_i q hq
   cases e1
   obtain ⟨a,e2,e3,_⟩:=R.ow i _ hq
   exact ⟨_,e2,P _ F H (Up.refl R.rb.sub) ⟨hd,a,rfl,e3.look hd⟩⟩
  ·cases e1
def fP:PV->PV->Option (Option PV)
 | .dk l,k=>(wg k).map (di l)
 | .dt l,.tup ks=>(eG ks).map (di l)
 | _,_=>none
theorem rA {F H:Hp}{a:Addr}{d k:PV}{y:V}{r:Option PV} (s:aR F H) (o:DLk K F H a d) (ry:Rep K F y k) (e:fP d k=some r) :
  ∃ o,qR H a y o∧(r=none->o=none)∧∀ p,r=some p->∃ v,o=some v∧Rep K F v p:=by
 have inv:(∃ l,d=.dk l)∨∃ l ks,d=.dt l∧k=.tup ks:=by
  clear o ry
  cases d <;> first | exact noS e | exact .inl ⟨_,rfl⟩ | (cases k <;> first | exact noS e | exact .inr ⟨_,_,rfl,rfl⟩)
 rcases inv with ⟨l,rfl⟩ | ⟨l,ks,rfl,rfl⟩
 ·obtain ⟨xs,h1,h2,h3⟩:=o
  have D:=gb.of (K:=K) (F:=F) h2 h3
  have e:(wg k).map (di l)=some r:=e
  cases hk:wg k with
  | none=>rw [hk] at e;cases e
  | some k' =>
   rw [hk] at e
   cases e
   cases wj hk ry
   exact ⟨_,.inl ⟨_,_,h1,rfl,rfl⟩,fun n=>D.none n,fun p q=>D.some q⟩
 ·obtain ⟨xs,h1,h2,h3⟩:=o
  have D:=gb.of (K:=K) (F:=F) h2 h3
  have e:(eG ks).map (di l)=some r:=e
  cases hk:eG ks with
  | none=>rw [hk] at e;cases e
  | some k' =>
   rw [hk] at e
   cases e
   obtain ⟨b,ys,rfl,hb,rr⟩:=Rep.qW ry
   cases oZ hk rr
   exact ⟨_,.inr ⟨_,_,_,h1,rfl,s _ _ hb,rfl⟩,fun n=>D.none n,fun p q=>D.some q⟩
def j6 (d k:PV):Option (Res PV):=match fP d k with
 | some (some p)=>some (.ok p)
 | _=>none
def QQ:R2:=fun x y H Q=>∃ a v,x=.ref a∧qR H a y (some v)∧Q v H
theorem RX:R2M C (aD K) (aF K) (aF K) QQ j6:=by
 intro F H x y a b res Q s ha hb e P
 obtain ⟨_,ad,rfl,o⟩:=ha
 unfold j6 at e
 split at e
 ·rename_i p hp
  cases e
  obtain ⟨ov,g,_,g2⟩:=rA s o hb hp
  obtain ⟨v,rfl,rv⟩:=g2 p rfl
  exact ⟨ad,v,rfl,g,P v F H (Up.refl s) rv⟩
 ·cases e
def CN (k d:PV):Option (Res PV):=(fP d k).map fun r=>.ok (.bl r.isSome)
def kZ (k d:PV):Option (Res PV):=(fP d k).map fun r=>.ok (.bl (!r.isSome))
theorem Uz:R2M C (aF K) (aD K) (aF K) (fun y x H Q=>∃ a o,x=.ref a∧qR H a y o∧Q (.bl o.isSome) H) CN:=by
 intro F H x y a b res Q s ha hb e P
 obtain ⟨_,ad,rfl,o⟩:=hb
 unfold CN at e
 cases hp:fP b a with
 | none=>rw [hp] at e;cases e
 | some r =>
  rw [hp] at e
  cases e
  obtain ⟨ov,g,g1,g2⟩:=rA s o ha hp
  have es:ov.isSome=r.isSome:=by
   cases r with
   | none=>rw [g1 rfl];rfl
   | some p=>obtain ⟨v,rfl,_⟩:=g2 p rfl;rfl
  exact ⟨ad,ov,rfl,g,by rw [es];exact P _ F H (Up.refl s) .bl⟩
theorem CP:R2M C (aF K) (aD K) (aF K) (fun y x H Q=>∃ a o,x=.ref a∧qR H a y o∧Q (.bl (!o.isSome)) H) kZ:=by
 intro F H x y a b res Q s ha hb e P
 obtain ⟨_,ad,rfl,o⟩:=hb
 unfold kZ at e
 cases hp:fP b a with
 | none=>rw [hp] at e;cases e
 | some r =>
  rw [hp] at e
  cases e
  obtain ⟨ov,g,g1,g2⟩:=rA s o ha hp
  have es:ov.isSome=r.isSome:=by
   cases r with
   | none=>rw [g1 rfl];rfl
   | some p=>obtain ⟨v,rfl,_⟩:=g2 p rfl;rfl
  exact ⟨ad,ov,rfl,g,by rw [es];exact P _ F H (Up.refl s) .bl⟩
theorem DLk.isD {F H:Hp}{a:Addr}{p:PV} (o:DLk K F H a p) (d:p.isD=true):IsD H a:=by
 cases p with
 | dk l=>obtain ⟨xs,e,_⟩:=o;exact .inl ⟨xs,e⟩
 | dt l=>obtain ⟨xs,e,_⟩:=o;exact .inr ⟨xs,e⟩
 | _=>cases d
def Ac (f g:Fn PV):Fn PV:=fun ρ=>bnd (f ρ) fun d=>bnd (g ρ) fun k=>(fP d k).map fun r=>.ok (r.getD .non)
theorem Ld (ha:MJ K C (aD K) ta f) (hb:MJ K C (aF K) tb g):MJ K C (aF K) (Fz ta tb) (Ac f g):=by
 intro F H σ ρ Q r R e P
 refine ha.run R e P ?_
 rintro d v F1 H1 hk u ⟨hd,a,ea,o⟩
 subst ea
 refine ⟨a,rfl,o.isD hd,?_⟩
 refine hb.run (R.up u) hk (P.later u) fun k w F2 H2 hk2 u2 b=>?_
 cases hp:fP d k with
 | none=>rw [hp] at hk2;cases hk2
 | some q =>
  rw [hp] at hk2
  cases hk2
  obtain ⟨ov,g,g1,g2⟩:=rA u2.fh (o.up u2.ff u2.hh) b hp
  refine ⟨ov,g,P _ F2 H2 (u.trans u2) ?_⟩
  cases q with
  | none=>rw [g1 rfl];exact .non
  | some p=>obtain ⟨v,rfl,rv⟩:=g2 p rfl;exact rv
def Ge:PV->PV->PV->Option PV
 | .dk l,k,p=>match wg k with
  | some k=>if l.length < sizeLine then some (.dk (iU l k p)) else none
  | none=>none
 | .dt l,.tup ks,p=>match eG ks with
  | some k=>if l.length < sizeLine then some (.dt (iU l k p)) else none
  | none=>none
 | _,_,_=>none
theorem Ad {F H:Hp}{a:Addr}{d k p d':PV}{y v:V} (s:aR F H) (o:Own K F H a d) (ry:Rep K F y k) (rv:Rep K F v p) (e:Ge d k p=some d') :
  ∃ ob,qT H a y v (upd H a ob)∧Own K F (upd H a ob) a d':=by
 have inv:(∃ l,d=.dk l)∨∃ l ks,d=.dt l∧k=.tup ks:=by
  clear o ry rv
  cases d <;> first | exact noS e | exact .inl ⟨_,rfl⟩ | (cases k <;> first | exact noS e | exact .inr ⟨_,_,rfl,rfl⟩)
 rcases inv with ⟨l,rfl⟩ | ⟨l,ks,rfl,rfl⟩
 ·obtain ⟨xs,h1,h2,h3⟩:=o
  have D:=gb.of (K:=K) (F:=F) h2 h3
  have e:(match wg k with | some k=>if l.length < sizeLine then some (PV.dk (iU l k p)) else none | none=>none)=some d':=e
  split at e
  case h_2=>cases e
  rename_i k' hk
  split at e
  case isFalse=>cases e
  rename_i hz
  cases e
  cases wj hk ry
  have D':=D.put (k:=k') rv
  exact ⟨_,qT.k h1 (by rw [D.len];exact hz),_,aL,D'.keys,D'.at⟩
 ·obtain ⟨xs,h1,h2,h3⟩:=o
  have D:=gb.of (K:=K) (F:=F) h2 h3
  have e:(match eG ks with | some k=>if l.length < sizeLine then some (PV.dt (iU l k p)) else none | none=>none)=some d':=e
  split at e
  case h_2=>cases e
  rename_i k' hk
  split at e
  case isFalse=>cases e
  rename_i hz
  cases e
  obtain ⟨b,ys,rfl,hb,rr⟩:=Rep.qW ry
  cases oZ hk rr
  have D':=D.put (k:=k') rv
  exact ⟨_,qT.t h1 (s _ _ hb) (by rw [D.len];exact hz),_,aL,D'.keys,D'.at⟩
def ux (i:Nat) (fe fk:Fn PV):Sn:=fun ρ=>ik (fe ρ) fun p=>match ownAt i ρ with
 | some d=>ik (fk ρ) fun k=>match Ge d k p with
  | some d'=>some (.nx (ρ.set i (some (.ow d'))))
  | none=>none
 | none=>none
theorem Hd {i:Nat}{fe fk:Fn PV} (he:MJ K C (aF K) te fe) (hk:MJ K C (aF K) tb fk):MS K C (Km (lO i) tb te) (ux i fe fk):=by
 intro F H σ ρ D o R e P
 refine he.vP R e P fun p v F1 H1 hk1 u a=>?_
 split at hk1
 case h_2=>cases hk1
 rename_i d hd
 obtain ⟨b,g1,_⟩:=R.ow i _ (bG hd)
 refine ⟨_,g1,hk.vP (R.up u) hk1 (P.up u.ff) fun k w F2 H2 hk2 u2 rk=>?_⟩
 split at hk2
 case h_2=>cases hk2
 rename_i d' hd'
 cases hk2
 have R2:=R.up (u.trans u2)
 obtain ⟨a',k1,k2,_⟩:=R2.ow i _ (bG hd)
 rw [g1] at k1
 cases k1
 obtain ⟨ob,g,w'⟩:=Ad u2.fh k2 rk (Rep.up a u2.ff) hd'
 exact ⟨b,_,rfl,g,P F2 _ σ (u.trans u2).ff (R2.write (bG hd) g1 w')⟩
def wk:Fn PV:=fun _=>some (.ok (.dt []))
theorem rB:MO K C Kp wk:=by
 intro F H σ ρ Q r R e P
 cases e
 intro p hp
 exact P p F _ (Up.FJ R.rb.sub hp) hp (R.rb.sub.free hp) ⟨[],aL,rfl,fun j x p h=>by simp at h⟩
def asPair:PV->Option (PV×PV)
 | .tup [a,b]=>some (a,b)
 | _=>none
def lX:List PV->Option (List (PV×PV))
 | []=>some []
 | p::l=>match asPair p,lX l with
  | some a,some r=>some (a::r)
  | _,_=>none
def iI (d:PV):List (PV×PV)->Option PV
 | []=>some d
 | (k,p)::r=>match Ge d k p with
  | some d'=>iI d' r
  | none=>none
theorem wu {F H:Hp} (s:aR F H):∀ {l:List PV}{ps:List (PV×PV)}{xs:List V},lX l=some ps->bC K F xs l ->
  ∃ vs:List (V×V),zT K H xs vs∧vs.length=ps.length∧∀ (j:Nat) x p,vs[j]?=some x->ps[j]?=some p->Rep K F x.1 p.1∧Rep K F x.2 p.2
 | [],ps,xs,h,r=>by
  cases h
  cases r.iH
  exact ⟨[],⟨rfl,fun j x p e=>by simp at e⟩,rfl,fun j x p e=>by simp at e⟩
 | p::l,ps,xs,h,r=>by
  unfold lX at h
  split at h
  ·rename_i a r' h1 h2
   cases h
   obtain ⟨v,ys,rfl,r1,r2⟩:=r.dz
   obtain ⟨vs,g1,g2,g3⟩:=wu s h2 r2
   unfold asPair at h1
   split at h1
   ·rename_i pa pb
    cases h1
    obtain ⟨b,zs,rfl,hb,rr⟩:=Rep.cZ r1
    obtain ⟨v1,zs1,rfl,q1,rr⟩:=rr.dz
    obtain ⟨v2,zs2,rfl,q2,rr⟩:=rr.dz
    cases rr.iH
    refine ⟨(v1,v2)::vs,⟨by simp [g1.1],fun j x p e1 e2=>?_⟩,by simp [g2],fun j x p e1 e2=>?_⟩
    ·cases j with
     | zero=>simp at e1 e2;subst e1 e2;exact ⟨b,rfl,s.tup hb⟩
     | succ j=>exact g1.2 j x p (by simpa using e1) (by simpa using e2)
    ·cases j with
     | zero=>simp at e1 e2;subst e1 e2;exact ⟨q1,q2⟩
     | succ j=>exact g3 j x p (by simpa using e1) (by simpa using e2)
   ·cases h1
  ·cases h
theorem ww {F:Hp}{a:Addr}{Q:Hp->Prop}:∀ {ps:List (PV×PV)}{vs:List (V×V)}{H:Hp}{d d':PV},aR F H->F a=none->Own K F H a d->vs.length=ps.length->(∀ (j:Nat) x p,vs[j]?=some x->ps[j]?=some p->Rep K F x.1 p.1∧Rep K F x.2 p.2) ->
  iI d ps=some d'->(∀ H',aR F H'->(∀ b,b≠a->H' b=H b)->Own K F H' a d'->Q H')->yL a vs H Q
 | [],vs,H,d,d',s,hn,o,hl,hr,e,q=>by
  cases vs with
  | nil=>cases e;exact q H s (fun _ _=>rfl) o
  | cons v vs=>simp at hl
 | (k,p)::ps,vs,H,d,d',s,hn,o,hl,hr,e,q=>by
  cases vs with
  | nil=>simp at hl
  | cons v vs =>
   unfold iI at e
   split at e
   case h_2=>cases e
   rename_i d1 h1
   obtain ⟨r1,r2⟩:=hr 0 v (k,p) rfl rfl
   obtain ⟨ob,g,o1⟩:=Ad s o r1 r2 h1
   refine ⟨_,g,ww (H:=upd H a ob) (fun b u z=>by rw [aG (bI z hn)];exact s b u z) hn o1 (by simpa using hl) (fun j x p e1 e2=>hr (j+1) x p (by simpa using e1) (by simpa using e2)) e fun H' s' hb o'=>?_⟩
   exact q H' s' (fun b hb'=>(hb b hb').trans (aG hb')) o'
def rC (d:PV) (l:List PV):Option (Res PV):=match lX l with
 | some ps=>(iI d ps).map .ok
 | none=>none
theorem Oz {n:HO}{d:PV} (hd:∀ F H a,H a=some n->Own K F H a d):R1O K C (aV K) (Gb K n) (rC d):=by
 intro F H x l res Q s ha e P
 obtain ⟨b,xs,rfl,h1,r1⟩:=ha
 unfold rC at e
 split at e
 case h_2=>cases e
 rename_i ps hps
 cases hd':iI d ps with
 | none=>rw [hd'] at e;cases e
 | some d' =>
  rw [hd'] at e
  cases e
  obtain ⟨vs,g1,g2,g3⟩:=wu (H:=H) s hps r1
  refine ⟨b,xs,vs,rfl,.inl h1,g1,fun a na=>?_⟩
  refine ww (F:=F) (s.trans (dI na)) (s.free na) (hd _ _ _ aL) g2 g3 hd' fun H' s' hb o'=>?_
  exact P a F H' ⟨aR.refl _,fun c o q=>by rw [hb c (bI q na),aG (bI q na)];exact q,fun _ _ q=>.inl q,s'⟩ na (s.free na) o'
theorem OD {F H:Hp}{a:Addr} (h:H a=some (.dT [])):Own K F H a (.dt []):=⟨[],h,rfl,fun j x p e=>by simp at e⟩
end
section
variable {K:PySem.W.Frag}{C:Cg}{ta tb te:TE}{f g:Fn PV}
theorem rD (ha:MJ K C (aD K) ta f) (hb:MJ K C (aF K) tb g):MJ K C (aF K) (Kl ta tb) (m2 j6 f g):=aq (r2:=QQ) aD.up RX ha hb
end
section
variable {X:Cx}
theorem RZ {k:Nat} (hr:fM k X.A):OpR X (compareOp .In) (fun y x H Q=>∃ a o,x=.ref a∧qR H a y o∧Q (.bl o.isSome) H):=by
 intro pins s σ H x y v u Q I rx ry h
 obtain ⟨a,o,rfl,g,q⟩:=h
 cases ry
 exact Vi (qM hr) I g rx fun s3 I3=>⟨.bl o.isSome,H,I3,rfl,q⟩
theorem yM {k:Nat} (hr:fM k X.A):OpR X (compareOp .NotIn) (fun y x H Q=>∃ a o,x=.ref a∧qR H a y o∧Q (.bl (!o.isSome)) H):=by
 intro pins s σ H x y v u Q I rx ry h
 obtain ⟨a,o,rfl,g,q⟩:=h
 cases ry
 exact Oe (qM hr) I g rx fun s3 I3=>⟨.bl (!o.isSome),H,I3,rfl,q⟩
theorem Gf {k:Nat} (hr:fM k X.A) (hc:X.calm=true):pI X (.type "dict") (Gb X.K (.dT [])):=Gd hc hr.units (.inr rfl)
end
section
variable {X:Cx}{k:Nat}{N:List Str}{scope:Scope}{cl:List (Str×Addr)}{C:Addr}{s2:Shared}{H2:Hp}{fp:List Addr}
theorem Gg (hr:fM k X.A):OpR (X.comp N scope cl C s2 H2 fp) (compareOp .NotIn) (fun y x H Q=>∃ a o,x=.ref a∧qR H a y o∧Q (.bl (!o.isSome)) H):=yM hr
theorem nW {X:Cx}{k:Nat}{o i:Expr}{pos:Pos}{td ty:TE} (hr:fM k X.A) (ho:PE X o td) (hi:PE X i ty) (hs:RC i):PE X (.Subscript o i pos) (Kl td ty):=Oh (qM hr) ho hi hs
theorem Jq {X:Cx}{k:Nat}{o e:Expr}{apos cpos:Pos}{td ty:TE} (hr:fM k X.A) (ho:PE X o td) (he:PE X e ty) (m:M1 X o "get" apos e cpos):PE X (.Call (.Attribute o "get" apos) [e] [] cpos) (Fz td ty):=Kr (qM hr) ho he m
end
section
variable {X:Cx}{tg:Expr}
def CR (a b c:Int):Prop:=0≤a∧a < 2 ^ 30∧-(2 ^ 30)≤b∧b < 2 ^ 30∧0 < c∧c < 2 ^ 30
noncomputable instance (a b c:Int):Decidable (CR a b c):=inferInstanceAs (Decidable (_∧_))
theorem tL {acc:Array Value}{n:Nat} (h:ItemsOf (fun i v=>∃ t,v=.int (0+(i:Nat) * 1) t) acc n):Vals ((List.range n).map fun i=>V.int (i:Nat)) acc.toList:=by
 obtain ⟨hs,hv⟩:=h
 have go:∀ (l:List Value) (k:Nat),(∀ (i:Nat) v,l[i]?=some v->∃ t,v=Value.int (((k+i:Nat):Int)) t)->Vals ((List.range' k l.length).map fun i=>V.int (i:Nat)) l:=by
  intro l
  induction l with
  | nil=>intro k _;exact .nil
  | cons v l ih =>
   intro k h
   rw [Zav,List.range'_succ,Zai]
   obtain ⟨t,e⟩:=h 0 v rfl
   refine .cons ⟨t,by rw [e];rfl⟩ (ih (k+1) fun i v hv=>?_)
   obtain ⟨t,e⟩:=h (i+1) v (by simpa using hv)
   exact ⟨t,by rw [e];congr 2;omega⟩
 have:=go acc.toList 0 fun i v e=>by
  obtain ⟨t,e2⟩:=hv i v (by simpa using e)
  exact ⟨t,by rw [e2];congr 1;omega⟩
 rwa [ZaS,hs,←List.range_eq_range'] at this
section
variable {prog:Program}{w:World}{A:Around}{E:Value->Shared->Prop}{s:Shared}
end
end
section
variable {K:PySem.W.Frag}{C:Cg}{F:Hp}{te:TE}{tA:TA}{f:Fn PV}
end
section
variable {K:PySem.W.Frag}{C:Cg}{ta:TE}{f:Fn PV}
end
section
variable {prog:Program}{w:World}{A:Around}{E:Value->Shared->Prop}{s:Shared}
end
section
variable {X:Cx}
end
section
variable {K:PySem.W.Frag}{C:Cg}{te:TE}
end
section
variable {K:PySem.W.Frag}{C:Cg}{ta:TE}{f:Fn PV}
inductive MPs (K:PySem.W.Frag) (C:Cg):List (TE×TE)->List (Fn PV×Fn PV)->Prop
 | nil:MPs K C [] []
 | cons {tk tv:TE}{fk fv:Fn PV}{ts:List (TE×TE)}{fs:List (Fn PV×Fn PV)} (hk:MJ K C (aF K) tk fk) (hv:MJ K C (aF K) tv fv) (h:MPs K C ts fs):MPs K C ((tk,tv)::ts) ((fk,fv)::fs)
inductive Le (K:PySem.W.Frag) (F:Hp):List (V×V)->List (PV×PV)->Prop
 | nil:Le K F [] []
 | cons {x y:V}{p q:PV}{xs:List (V×V)}{l:List (PV×PV)} (h1:Rep K F x p) (h2:Rep K F y q) (t:Le K F xs l):Le K F ((x,y)::xs) ((p,q)::l)
end
def POk (K:PySem.W.Frag) (C:Cg) (F:Hp) (D:Ends) (i:Nat) (c:Option (Option V)):Out->Prop
 | .nx ρ=>∀ F' H' σ,aR F F'->RE K C.toCf F' H' σ ρ->σ[i]?=c->D.nx σ H'
 | .bk ρ=>∀ F' H' σ,aR F F'->RE K C.toCf F' H' σ ρ->σ[i]?=c->D.bk σ H'
 | .ct ρ=>∀ F' H' σ,aR F F'->RE K C.toCf F' H' σ ρ->σ[i]?=c->D.ct σ H'
 | o=>PO' K C F D o
def MSk (K:PySem.W.Frag) (C:Cg) (i:Nat) (t:TS) (f:Sn):Prop:=∀ F H σ ρ D o,RE K C.toCf F H σ ρ->f ρ=some o->POk K C F D i (σ[i]?) o->t D σ H
def MGk (K:PySem.W.Frag) (C:Cg) (i:Nat) (g:TG) (tg:PV->Rho->Option Rho):Prop :=
 ∀ F H σ ρ v p ρ' Q,RE K C.toCf F H σ ρ->Rep K F v p->tg p ρ=some ρ'->(∀ σ',RE K C.toCf F H σ' ρ'->σ'[i]?=σ[i]?->Q σ' H)->g v σ H Q
section
variable {K:PySem.W.Frag}{C:Cg}{i:Nat}{te:TE}{F H:Hp}{σ:St}{ρ:Rho}{D:Ends}{t u:TS}{f g:Sn}{o:Out}{c:Option (Option V)}
theorem POk.up {F1:Hp} (h:POk K C F D i c o) (s:aR F F1):POk K C F1 D i c o:=by
 cases o with
 | nx ρ=>exact fun F' H' σ a=>h F' H' σ (s.trans a)
 | bk ρ=>exact fun F' H' σ a=>h F' H' σ (s.trans a)
 | ct ρ=>exact fun F' H' σ a=>h F' H' σ (s.trans a)
 | rt p=>exact fun v F' H' a=>h v F' H' (s.trans a)
 | ro p=>exact fun v F' H' a=>h v F' H' (s.trans a)
 | rd p=>exact fun v F' H' S a=>h v F' H' S (s.trans a)
 | ex z=>exact PX.up h s
theorem rE (j:Nat) (h:j≠i):MGk K C i (uo j) (gN j):=fun F H σ ρ v p ρ' Q R r e k=>by
 cases e
 exact k _ (R.set j r) (Zam h)
theorem MT.Lf {tt:TT}{fe:Fn Bool}{Q:Bool->Hp->Prop}{k:Bool->Option Out} (h:MT K C tt fe) (R:RE K C.toCf F H σ ρ) (hb:ik (fe ρ) k=some o) (P:POk K C F D i c o)
  (go:∀ b F1 H1,k b=some o->Up F H F1 H1->Q b H1):tt σ H Q:=by
 rcases cP hb with ⟨z,e,rfl⟩ | ⟨p,e,hk⟩
 ·exact h F H σ ρ Q _ R e P
 ·exact h F H σ ρ Q _ R e fun F1 H1 u=>go p F1 H1 hk u
theorem MJ.Lf {α:Type}{A:Rel α}{ta:TE}{fe:Fn α}{Q:VK}{k:α->Option Out} (h:MJ K C A ta fe) (R:RE K C.toCf F H σ ρ) (hb:ik (fe ρ) k=some o) (P:POk K C F D i c o)
  (go:∀ p v F1 H1,k p=some o->Up F H F1 H1->A F1 H1 v p->Q v H1):ta σ H Q:=by
 rcases cP hb with ⟨z,e,rfl⟩ | ⟨p,e,hk⟩
 ·exact h F H σ ρ Q _ R e P
 ·exact h F H σ ρ Q _ R e fun v F1 H1 u a=>go p v F1 H1 hk u a
theorem uP {fe:Fn PV}{gt:TG}{tg:PV->Rho->Option Rho} (h:MJ K C (aF K) te fe) (hg:MGk K C i gt tg):MSk K C i (Ff te gt) (cA fe tg):=by
 intro F H σ ρ D o R e P
 refine h.Lf R e P fun p v F1 H1 hk u a=>?_
 split at hk
 ·rename_i ρ' h1
  cases hk
  exact hg F1 H1 σ ρ v p ρ' _ (R.up u) a h1 fun σ' R' k=>P F1 H1 σ' u.ff R' k
 ·cases hk
theorem rF (h1:MSk K C i t f) (h2:MSk K C i u g):MSk K C i (Rg t u) (bj f g):=by
 intro F H σ ρ D o R e P
 unfold bj at e
 split at e
 ·rename_i ρ' h
  refine h1 F H σ ρ _ _ R h ?_
  exact fun F' H' σ' s R' k=>h2 F' H' σ' ρ' D o R' e (by rw [k];exact P.up s)
 ·rename_i x hx
  cases o with
  | nx ρ'=>exact absurd e (hx ρ')
  | bk ρ=>exact h1 F H σ _ _ _ R e P
  | ct ρ=>exact h1 F H σ _ _ _ R e P
  | rt p=>exact h1 F H σ _ _ _ R e P
  | ro p=>exact h1 F H σ _ _ _ R e P
  | rd p=>exact h1 F H σ _ _ _ R e P
  | ex z=>exact h1 F H σ _ _ _ R e P
end
def New (H F' H':Hp) (S:Addr->Prop):Prop:=∀ b,S b->H b=none∧F' b=none∧∃ o,H' b=some o∧∀ ys,o≠.tup ys
def MD (K:PySem.W.Frag) (C:Cg) (te:TE) (f:Fn PV):Prop :=
 ∀ F H σ ρ Q r,RE K C.toCf F H σ ρ->f ρ=some r->Pr C F (fun p=>∀ v F' H' S,Up F H F' H'->Dp K F' H' S v p->New H F' H' S->Q v H') r->te σ H Q
def spD (K:PySem.W.Frag) (XR:Hp->Value->Option Addr->PV->Prop) (m:List PV->Option (Res PV)):Sp:=fun vs H Q E=>∃ ps F r,aR F H∧bC K F vs ps∧m ps=some r∧match r with
 | .ok p=>∀ v F' H' S,Up F H F' H'->Dp K F' H' S v p->New H F' H' S->Q v H'
 | .ex z=>∀ e d F' H',Up F H F' H'->XR F' e d z->E e d H'
section
variable {K:PySem.W.Frag}{C:Cg}{te ta tb:TE}{F F1 F2 H H1 H2:Hp}{σ:St}{ρ:Rho}{D:Ends}{t u:TS}{f g:Sn}{o:Out}{S:Addr->Prop}{v:V}{p:PV}
theorem New.up (n:New H F1 H1 S) (u:Up F1 H1 F2 H2):New H F2 H2 S:=fun b q=>by
 obtain ⟨n0,n1,o,n2,n3⟩:=n b q
 refine ⟨n0,?_,o,u.hh _ _ n2,n3⟩
 cases e:F2 b with
 | none=>rfl
 | some o' =>
  rcases u.fr b o' e with z | z | ⟨ys,z⟩
  ·rw [n1] at z;cases z
  ·rw [n2] at z;cases z
  ·subst z
   have w:=u.fh _ _ e
   rw [u.hh _ _ n2] at w
   cases w
   exact absurd rfl (n3 ys)
theorem Dp.stay (d:Dp K F1 H1 S v p) (u:Up F1 H1 F2 H2):Dp K F2 H2 S v p:=d.up u.ff (fun b o _ q=>u.hh b o q) fun b ys q=>u.hh b _ q
def uE (F H:Hp) (S:Addr->Prop):Hp:=fun b=>@ite _ (S b∨∃ ys,H b=some (.tup ys)) (Classical.propDecidable _) (H b) (F b)
theorem gA {b:Addr} (h:S b∨∃ ys,H b=some (.tup ys)):uE F H S b=H b:=@if_pos _ (Classical.propDecidable _) h _ _ _
theorem fQ {b:Addr} (h:¬(S b∨∃ ys,H b=some (.tup ys))):uE F H S b=F b:=@if_neg _ (Classical.propDecidable _) h _ _ _
theorem jr (s:aR F H):aR F (uE F H S):=fun b o e=>by
 by_cases h:S b∨∃ ys,H b=some (.tup ys)
 ·rw [gA h];exact s b o e
 ·rw [fQ h];exact e
theorem rG (s:aR F H):aR (uE F H S) H:=fun b o e=>by
 by_cases h:S b∨∃ ys,H b=some (.tup ys)
 ·rw [gA h] at e;exact e
 ·rw [fQ h] at e;exact s b o e
theorem Lg (d:Dp K F H S v p) (s:aR F H):Rep K (uE F H S) v p :=
 d.seen (jr s) (fun b o q e=>by rw [gA (.inl q)];exact e) fun b ys e=>by rw [gA (.inr ⟨ys,e⟩)];exact e
def wy (fe:Fn PV):Fn PV:=fun ρ=>bnd (fe ρ) fun p=>if p.still=true then some (.ok p) else none
theorem CQ {fe:Fn PV} (h:MJ K C (aF K) te fe):MD K C te (wy fe):=by
 intro F H σ ρ Q r R e P
 rcases bQ e with ⟨z,e1,rfl⟩ | ⟨p,e1,hk⟩
 ·exact h F H σ ρ Q _ R e1 P
 ·split at hk
  ·rename_i hp
   cases hk
   exact h F H σ ρ Q _ R e1 fun v F' H' u w=>P v F' H' (fun _=>False) u (.fr w hp) fun b q=>q.elim
  ·cases hk
theorem Hf {t:TA}{fe:Fn (List PV)}{m:List PV->Option (Res PV)} (h:MA K C t fe):MD K C (vD (spD K C.XR m) [] C.E t) (bR m fe):=by
 intro F H σ ρ Q r R e P
 refine h.run R e P fun l xs F1 H1 hk u a=>?_
 refine ⟨l,F1,r,u.fh,by rw [Za8];exact a,hk,?_⟩
 cases r with
 | ok p=>exact fun v F' H' S u' d n=>P v F' H' S (u.trans u') d fun b q=>⟨u.hh.free (n b q).1,(n b q).2⟩
 | ex z=>exact fun e d F' H' u' x=>P e d F' H' (u.trans u').ff (R.rb.up (u.trans u')) x
def Dps (K:PySem.W.Frag) (F H:Hp) (S:Nat->Addr->Prop) (xs:List V) (l:List PV):Prop :=
 xs.length=l.length∧(∀ i j b,S i b->S j b->i=j)∧∀ (j:Nat) x p,xs[j]?=some x->l[j]?=some p->Dp K F H (S j) x p
def Ae (i:Nat) (ρ:Rho):Option PV:=match ρ[i]? with
 | some (some (.dp p))=>some p
 | _=>none
theorem iJ {i:Nat}{p:PV} (h:Ae i ρ=some p):ρ[i]?=some (some (.dp p)):=by
 unfold Ae at h
 split at h
 ·rename_i q hq;cases h;exact hq
 ·cases h
theorem RE.Vm {C:Cf} (R:RE K C F H σ ρ) (i:Nat) (u:Up F H F1 H1) (d:Dp K F1 H1 S v p) (n:New H F1 H1 S) (nw:C.nw):RE K C F1 H1 (σ.set i (some v)) (ρ.set i (some (.dp p))) where
 rb:=R.rb.up u
 len:=by simp [R.len]
 sh:=fun j q e=>by
  rcases get_set e with ⟨e1,e2⟩ | ⟨e1,e2⟩
  ·cases e2
  ·obtain ⟨w,e3,e4⟩:=(R.up u).sh j q e2
   exact ⟨w,by rw [Zam e1];exact e3,e4⟩
 ow:=fun j q e=>by
  rcases get_set e with ⟨e1,e2⟩ | ⟨e1,e2⟩
  ·cases e2
  ·obtain ⟨w,e3,e4⟩:=(R.up u).ow j q e2
   exact ⟨w,by rw [Zam e1];exact e3,e4⟩
 dis:=fun j k q q' b e e' f f'=>by
  rcases get_set e with ⟨e1,e2⟩ | ⟨e1,e2⟩
  ·cases e2
  ·rcases get_set e' with ⟨e1',e2'⟩ | ⟨e1',e2'⟩
   ·cases e2'
   ·rw [Zam e1] at f
    rw [Zam e1'] at f'
    exact R.dis j k q q' b e2 e2' f f'
 dd:=by
  obtain ⟨P,d0⟩:=R.dd
  have d1:=d0.up u
  refine ⟨fun j b=>if j=i then S b else P j b,fun j b q=>?_,fun j k b a1 a2=>?_,fun j k q b z e f=>?_,fun j q e=>?_⟩
  ·by_cases hj:j=i
   ·simp only [hj,if_true] at q
    obtain ⟨c1,c2,c3⟩:=n b q
    exact ⟨c2,c3,nw,R.rb.ut c1⟩
   ·simp only [hj,if_false] at q
    exact d1.own j b q
  ·by_cases hj:j=i <;> by_cases hk:k=i
   ·rw [hj,hk]
   ·simp only [hj,hk,if_true,if_false] at a1 a2
    obtain ⟨_,⟨o,c,_⟩,_⟩:=d0.own k b a2
    rw [(n b a1).1] at c;cases c
   ·simp only [hj,hk,if_true,if_false] at a1 a2
    obtain ⟨_,⟨o,c,_⟩,_⟩:=d0.own j b a1
    rw [(n b a2).1] at c;cases c
   ·simp only [hj,hk,if_false] at a1 a2
    exact d0.dis j k b a1 a2
  ·rcases get_set e with ⟨e1,e2⟩ | ⟨e1,e2⟩
   ·cases e2
   ·rw [Zam e1] at f
    by_cases hj:j=i
    ·simp only [hj,if_true] at z
     exact R.apart (n b z).1 k q e2 f
    ·simp only [hj,if_false] at z
     exact d0.ow j k q b z e2 f
  ·rcases get_set e with ⟨e1,e2⟩ | ⟨e1,e2⟩
   ·subst e1
    cases e2
    have:=cJ e
    refine ⟨v,by rw [ZaP (by rw [R.len];simpa using this)],?_⟩
    simp only [if_true]
    exact d
   ·obtain ⟨w,e3,e4⟩:=d1.dp j q e2
    refine ⟨w,by rw [Zam e1];exact e3,?_⟩
    simp only [Za7 e1,if_false]
    exact e4
def wz (i:Nat) (fe:Fn PV):Sn:=fun ρ=>ik (fe ρ) fun p=>some (.nx (ρ.set i (some (.dp p))))
theorem uQ {i:Nat}{fe:Fn PV} (nw:C.nw) (h:MD K C te fe):MS K C (Ff te (uo i)) (wz i fe):=by
 intro F H σ ρ D o R e P
 rcases cP e with ⟨z,e1,rfl⟩ | ⟨p,e1,hk⟩
 ·exact h F H σ ρ _ _ R e1 P
 ·cases hk
  exact h F H σ ρ _ _ R e1 fun v F1 H1 S u d n=>P F1 H1 _ u.ff (R.Vm i u d n nw)
theorem RE.UG {C:Cf} (R:RE K C F H σ ρ) {i:Nat} (e:ρ[i]?=some (some (.dp p))):∃ S v,σ[i]?=some (some v)∧Dp K F H S v p∧(∀ b,S b->F b=none∧(∃ o,H b=some o∧∀ ys,o≠.tup ys)∧C.H0 b=none)∧RE K C (uE F H S) H σ (ρ.set i (some (.sh p))):=by
 obtain ⟨P,d⟩:=R.dd
 obtain ⟨v,e1,e2⟩:=d.dp i p e
 have li:=cJ e
 have sf:aR F (uE F H (P i)):=jr R.rb.sub
 refine ⟨P i,v,e1,e2,fun b q=>⟨(d.own i b q).1,(d.own i b q).2.1,(d.own i b q).2.2.2⟩,⟨⟨rG R.rb.sub,R.rb.keep,fun b o q=>?_,R.rb.ios⟩,by simp [R.len],fun j q f=>?_,fun j q f=>?_,fun j k q q' b f f' g g'=>?_,?_⟩⟩
 ·by_cases h:P i b∨∃ ys,H b=some (.tup ys)
  ·rw [gA h] at q
   rcases h with h | ⟨ys,h⟩
   ·exact .inr (.inl (d.own i b h).2.2.2)
   ·rw [h] at q;cases q;exact .inr (.inr ⟨ys,rfl⟩)
  ·rw [fQ h] at q;exact R.rb.new b o q
 ·rcases get_set f with ⟨f1,f2⟩ | ⟨f1,f2⟩
  ·subst f1;cases f2;exact ⟨v,e1,Lg e2 R.rb.sub⟩
  ·obtain ⟨w,g1,g2⟩:=R.sh j q f2
   exact ⟨w,g1,g2.up sf⟩
 ·rcases get_set f with ⟨f1,f2⟩ | ⟨f1,f2⟩
  ·cases f2
  ·obtain ⟨b,g1,g2,g3,g4⟩:=R.ow j q f2
   refine ⟨b,g1,g2.up sf fun _ z=>z,?_,g4⟩
   rw [fQ]
   ·exact g3
   ·rintro (z | ⟨ys,z⟩)
    ·exact d.ow i j q b z f2 g1
    ·exact g2.ur z
 ·rcases get_set f with ⟨f1,f2⟩ | ⟨f1,f2⟩
  ·cases f2
  ·rcases get_set f' with ⟨f1',f2'⟩ | ⟨f1',f2'⟩
   ·cases f2'
   ·exact R.dis j k q q' b f2 f2' g g'
 ·refine ⟨fun j b=>j≠i∧P j b,fun j b z=>?_,fun j k b a1 a2=>d.dis j k b a1.2 a2.2,fun j k q b z f g=>?_,fun j q f=>?_⟩
  ·obtain ⟨c1,c2,c3⟩:=d.own j b z.2
   refine ⟨?_,c2,c3⟩
   rw [fQ]
   ·exact c1
   ·rintro (y | ⟨ys,y⟩)
    ·exact z.1 (d.dis j i b z.2 y)
    ·obtain ⟨o,c4,c5⟩:=c2
     rw [y] at c4;cases c4;exact c5 ys rfl
  ·rcases get_set f with ⟨f1,f2⟩ | ⟨f1,f2⟩
   ·cases f2
   ·exact d.ow j k q b z.2 f2 g
  ·rcases get_set f with ⟨f1,f2⟩ | ⟨f1,f2⟩
   ·cases f2
   ·obtain ⟨w,g1,g2⟩:=d.dp j q f2
    refine ⟨w,g1,(g2.up sf (fun _ _ _ q=>q) fun _ _ q=>q).mono fun b z=>⟨Za7 f1,z⟩⟩
def tZ (i:Nat):Sn:=fun ρ=>match Ae i ρ with
 | some p=>some (.rd p)
 | none=>none
theorem Lh (i:Nat):MS K C (Iu (lO i)) (tZ i):=by
 intro F H σ ρ D o R e P
 unfold tZ at e
 split at e
 ·rename_i p hp
  cases e
  obtain ⟨S,v,e1,e2,e3,_⟩:=R.UG (iJ hp)
  exact ⟨_,e1,P v F H S (aR.refl _) R.rb e2 e3⟩
 ·cases e
end
section
variable {K:PySem.W.Frag}{C:Cg}{te ta tb:TE}{F F1 F2 H H1 H2:Hp}{σ:St}{ρ:Rho}{D:Ends}{t u:TS}{f g:Sn}{o:Out}{S:Addr->Prop}{v:V}{p:PV}
theorem Dp.b8 {l:List PV} (d:Dp K F H S v (.lst l)):∃ (T:Nat->Addr->Prop) (a:Addr) (xs:List V),v=.ref a∧H a=some (.lst xs)∧S a∧(∀ j b,T j b->S b∧b≠a)∧Dps K F H T xs l:=by
 cases d with
 | fr h st=>cases st
 | lst h hp hs dj hl hr=>exact ⟨_,_,_,rfl,h,hp,hs,hl,dj,hr⟩
theorem RE.Li {C:Cf} (R:RE K C F H σ ρ) {P:Nat->Addr->Prop} (d:RD K C F H σ ρ P) {i:Nat} (e:ρ[i]?=some (some (.dp p))) (e1:σ[i]?=some (some v)) {a:Addr}{ob:HO} (ha:P i a) (ho:∀ ys,ob≠.tup ys) {p':PV}{S':Addr->Prop}
  (hd:Dp K F (upd H a ob) S' v p') (hS:∀ b,S' b->P i b∨(F b=none∧(∃ o,H b=some o∧∀ ys,o≠.tup ys)∧C.nw∧C.H0 b=none∧(∀ j,¬P j b)∧∀ (j:Nat) q,ρ[j]?=some (some (.ow q))->σ[j]?≠some (some (.ref b)))) :
  RE K C F (upd H a ob) σ (ρ.set i (some (.dp p'))):=by
 obtain ⟨c1,⟨oa,c2,c3⟩,c4,c5⟩:=d.own i a ha
 have hio:¬C.io a:=fun z=>(R.rb.ios a z).2 c5
 refine ⟨⟨fun b o q=>by rw [aG (fun z=>by subst z;rw [c1] at q;cases q)];exact R.rb.sub b o q,fun b o q z=>by rw [aG (fun y=>by subst y;rw [c5] at q;cases q)];exact R.rb.keep b o q z,R.rb.new,fun b z=>?_⟩,by simp [R.len],fun j q f=>?_,fun j q f=>?_,fun j k q q' b f f' g g'=>?_,?_⟩
 ·refine ⟨?_,(R.rb.ios b z).2⟩
  rw [aG (fun y=>by subst y;exact hio z)];exact (R.rb.ios b z).1
 ·rcases get_set f with ⟨f1,f2⟩ | ⟨f1,f2⟩
  ·cases f2
  ·exact R.sh j q f2
 ·rcases get_set f with ⟨f1,f2⟩ | ⟨f1,f2⟩
  ·cases f2
  ·obtain ⟨b,g1,g2,g3,g4⟩:=R.ow j q f2
   have nb:b≠a:=fun z=>by subst z;exact d.ow i j q b ha f2 g1
   refine ⟨b,g1,?_,g3,g4⟩
   cases q with
   | lst l=>obtain ⟨xs,k1,k2⟩:=g2;exact ⟨xs,by rw [aG nb];exact k1,k2⟩
   | dk l=>obtain ⟨xs,k1,k2⟩:=g2;exact ⟨xs,by rw [aG nb];exact k1,k2⟩
   | dt l=>obtain ⟨xs,k1,k2⟩:=g2;exact ⟨xs,by rw [aG nb];exact k1,k2⟩
   | _=>exact g2.elim
 ·rcases get_set f with ⟨f1,f2⟩ | ⟨f1,f2⟩
  ·cases f2
  ·rcases get_set f' with ⟨f1',f2'⟩ | ⟨f1',f2'⟩
   ·cases f2'
   ·exact R.dis j k q q' b f2 f2' g g'
 ·have up:∀ b o,H b=some o->(∀ ys,o≠.tup ys)->∃ o',upd H a ob b=some o'∧∀ ys,o'≠.tup ys:=fun b o q z=>by
   by_cases h:b=a
   ·subst h;exact ⟨ob,aL,ho⟩
   ·exact ⟨o,by rw [aG h];exact q,z⟩
  refine ⟨fun j b=>if j=i then S' b else P j b,fun j b z=>?_,fun j k b a1 a2=>?_,fun j k q b z f g=>?_,fun j q f=>?_⟩
  ·by_cases hj:j=i
   ·simp only [hj,if_true] at z
    rcases hS b z with w | ⟨w1,⟨o,w2,w2'⟩,w3,w4,_⟩
    ·obtain ⟨k1,⟨o,k2,k3⟩,k4⟩:=d.own i b w
     exact ⟨k1,up b o k2 k3,k4⟩
    ·exact ⟨w1,up b o w2 w2',w3,w4⟩
   ·simp only [hj,if_false] at z
    obtain ⟨k1,⟨o,k2,k3⟩,k4⟩:=d.own j b z
    exact ⟨k1,up b o k2 k3,k4⟩
  ·by_cases hj:j=i <;> by_cases hk:k=i
   ·rw [hj,hk]
   ·simp only [hj,hk,if_true,if_false] at a1 a2
    rcases hS b a1 with w | ⟨_,_,_,_,w,_⟩
    ·rw [hj];exact d.dis i k b w a2
    ·exact absurd a2 (w k)
   ·simp only [hj,hk,if_true,if_false] at a1 a2
    rcases hS b a2 with w | ⟨_,_,_,_,w,_⟩
    ·rw [hk];exact d.dis j i b a1 w
    ·exact absurd a1 (w j)
   ·simp only [hj,hk,if_false] at a1 a2
    exact d.dis j k b a1 a2
  ·rcases get_set f with ⟨f1,f2⟩ | ⟨f1,f2⟩
   ·cases f2
   ·by_cases hj:j=i
    ·simp only [hj,if_true] at z
     rcases hS b z with w | ⟨_,_,_,_,_,w⟩
     ·exact d.ow i k q b w f2 g
     ·exact w k q f2 g
    ·simp only [hj,if_false] at z
     exact d.ow j k q b z f2 g
  ·rcases get_set f with ⟨f1,f2⟩ | ⟨f1,f2⟩
   ·subst f1
    cases f2
    refine ⟨v,e1,?_⟩
    simp only [if_true]
    exact hd
   ·obtain ⟨w,g1,g2⟩:=d.dp j q f2
    refine ⟨w,g1,?_⟩
    simp only [Za7 f1,if_false]
    refine g2.up (aR.refl _) (fun b o z q=>?_) fun b ys q=>?_
    ·rw [aG (fun y=>by subst y;exact f1 (d.dis i j b ha z))];exact q
    ·rw [aG (fun y=>by subst y;rw [c2] at q;cases q;exact c3 ys rfl)];exact q
end
section
variable {K:PySem.W.Frag}{C:Cg}{te ta tb:TE}{F F1 F2 H H1 H2:Hp}{σ:St}{ρ:Rho}{D:Ends}{t u:TS}{f g:Sn}{o:Out}{S:Addr->Prop}{v:V}{p:PV}
theorem Dp.snoc {b:Addr}{T:Nat->Addr->Prop}{ys:List V}{row:List PV}{q:PV} (e:H b=some (.lst ys)) (sb:S b) (ht:∀ j c,T j c->S c∧c≠b) (d:Dps K F H T ys row) (r:Rep K F v q) (st:q.still=true):Dp K F (upd H b (.lst (ys++[v]))) S (.ref b) (.lst (row++[q])):=by
 refine .lst (S:=fun j c=>j < ys.length∧T j c) aL sb (fun j c z=>ht j c z.2) (fun i j c z z'=>d.2.1 i j c z.2 z'.2) (by simp [d.1]) fun j x p e1 e2=>?_
 by_cases hj:j < ys.length
 ·rw [Zah hj] at e1
  rw [Zah (by rw [←d.1];exact hj)] at e2
  refine ((d.2.2 j x p e1 e2).up (aR.refl _) (fun c o z e=>by rw [aG (ht j c z).2];exact e) fun c zs e'=>?_).mono fun c z=>⟨hj,z⟩
  rw [aG (fun w=>by subst w;rw [e] at e';cases e')];exact e'
 ·rw [Zao (by omega)] at e1
  rw [Zao (by rw [←d.1];omega)] at e2
  have ej:j=ys.length:=by
   have:=cJ e1
   simp at this
   omega
  rw [ej,Nat.sub_self] at e1
  rw [ej,d.1,Nat.sub_self] at e2
  cases e1;cases e2
  exact .fr r st
end
def Jr:Option Out->Option (Res PV)
 | some (.rd p)=>some (.ok p)
 | some (.ex z)=>some (.ex z)
 | _=>none
section
variable {K:PySem.W.Frag}{XR:Hp->Value->Option Addr->PV->Prop}{N:List Str}{vs:List V}{H:Hp}{Q:VK}{E:XK}{t:TS}{b:Sn}{m:List PV->Option (Res PV)}
theorem Hg {k n:Nat} (hk:N.length=k+n) (hm:∀ ps r,m ps=some r->ps.length=k∧Jr (b (startR ps n))=some r) (h:spD K XR0 m vs H Q E) (hS:∀ (io:Addr->Prop) (H0 F0:Hp),(∀ a,¬io a)->MS K (C0 io H0 F0) t b) :
  t { nx:=fun _ H'=>Q .non H',rt:=Q } (start N vs) H:=by
 obtain ⟨ps,F,r,s,rp,e,P⟩:=h
 obtain ⟨hl,e⟩:=hm ps r e
 have R:=v8 (E:=E0) (N:=N) (n:=n) s rp (by rw [rp.1,hl];exact hk)
 have up:∀ {F' H':Hp},aR F F'->RB ⟨fun _=>False,True,H,F,E0⟩ F' H'->Up F H F' H':=fun s' rb=>⟨s',fun c o q=>rb.keep c o q id,rb.new,rb.sub⟩
 have M:=hS (fun _=>False) H F (fun _ h=>h)
 cases ho:b (startR ps n) with
 | none=>rw [ho] at e;cases e
 | some o =>
  rw [ho] at e
  refine M F H _ _ _ o R ho ?_
  cases o with
  | rd p=>cases e;exact fun v F' H' S s' rb d n=>P v F' H' S (up s' rb) d fun b q=>⟨(n b q).2.2,(n b q).1,(n b q).2.1⟩
  | ex z=>exact fun _ _ _ _ _ _ x=>x.elim
  | nx ρ=>cases e
  | rt p=>cases e
  | ro p=>cases e
  | bk ρ=>cases e
  | ct ρ=>cases e
theorem Hh (h:spD K XR m vs H Q E) {k:Nat} (hm:∀ ps r,m ps=some r->ps.length=k):vs.length=k:=by
 obtain ⟨ps,F,r,s,rp,e,P⟩:=h
 rw [rp.1];exact hm ps r e
end
end L2.MP
namespace L2
open PySem PySem.Spec PyProof PyProof.Rows
def Itz (K:PySem.W.Frag) (a b:Addr):It :=
 ⟨fun i H=>∃ xs ys x y,SqL K H a xs∧SqL K H b ys∧xs[i]?=some x∧ys[i]?=some y,
  fun i H x H'=>∃ p u v,H p=none∧x=.ref p∧H'=upd H p (.tup [u,v])∧(∀ xs,SqL K H a xs->xs[i]?=some u)∧∀ ys,SqL K H b ys->ys[i]?=some v,
  fun i H=>∃ xs ys,SqL K H a xs∧SqL K H b ys∧(xs.length≤i∨ys.length≤i)⟩
theorem Lj {P:Program}{w:World}{K:PySem.W.Frag}{elts:List Expr}{x1:Nat}{pos:Pos} (a b z TI TO i1 i2:Addr) (D:ZipApart z TI TO i1 i2 a b) :
  Turn P w K (.Tuple elts x1 pos) (Itz K a b) [z,TO,i1,i2,TI] z (fun i h=>IsZip h z TI TO .none∧IsPair h TI (.ref i1) (.ref i2)∧(∃ c d,IsPair h TO c d)∧h.IsListIter i1 a i∧h.IsListIter i2 b i) where
 mem:=by simp
 obj:=fun i h st c hc=>by
  obtain ⟨hz,hTI,⟨c',d',hTO⟩,⟨o1,e1,_,d1⟩,⟨o2,e2,_,d2⟩⟩:=st
  simp only [Zaq,List.not_mem_nil,or_false] at hc
  rcases hc with rfl | rfl | rfl | rfl | rfl
  ·exact ⟨_,hz,fun v q=>by cases q⟩
  ·exact ⟨_,hTO,fun v q=>by cases q⟩
  ·exact ⟨o1,e1,fun v q=>by rw [d1] at q;cases q⟩
  ·exact ⟨o2,e2,fun v q=>by rw [d2] at q;cases q⟩
  ·exact ⟨_,hTI,fun v q=>by cases q⟩
 keep:=fun i h h' st k=>by
  obtain ⟨hz,hTI,⟨c',d',hTO⟩,h1,h2⟩:=st
  exact ⟨k z (by simp) _ hz,k TI (by simp) _ hTI,⟨c',d',k TO (by simp) _ hTO⟩,h1.at fun o q=>k i1 (by simp) o q,h2.at fun o q=>k i2 (by simp) o q⟩
 item:=by
  intro X hP hw hK hc i pins s σ H E I hf st hg
  subst hP hw hK
  obtain ⟨xs,ys,x,y,hq,hq',hx,hy⟩:=hg
  obtain ⟨its,rv,p,_⟩:=I.list hq
  obtain ⟨its',rv',p',_⟩:=I.list hq'
  obtain ⟨u,hu,ru⟩:=rv.get hx
  obtain ⟨u',hu',ru'⟩:=rv'.get hy
  obtain ⟨hz,hTI,⟨c',d',hTO⟩,h1,h2⟩:=st
  refine wpAny_pyNext_zip_item D hz hTI hTO h1 h2 p.isList p'.isList (by rw [List.getElem?_toArray];exact hu) (by rw [List.getElem?_toArray];exact hu') fun h3 z3 t3 i3 j3 n3 sz3 k3=>?_
  refine ⟨_,rfl,wpAny_letOwnedTupleGo_zip z3 fun h4 z4 s4=>?_⟩
  have zlt:z < s.heap.objs.size:=Zak hz
  have hT2:IsPair h4 s.heap.objs.size u u':=(s4.2 _ (Nat.ne_of_gt zlt)).trans n3
  have flt:∀ b'∈[z,TO,i1,i2,TI],b' < s.heap.objs.size:=fun b' hb=>by
   obtain ⟨o1,e1,_⟩:=h1
   obtain ⟨o2,e2,_⟩:=h2
   simp only [Zaq,List.not_mem_nil,or_false] at hb
   rcases hb with rfl | rfl | rfl | rfl | rfl
   ·exact zlt
   ·exact Zak hTO
   ·exact Zak e1
   ·exact Zak e2
   ·exact Zak hTI
  refine ⟨.ref s.heap.objs.size,upd H s.heap.objs.size (.tup [x,y]),I.tV (ch:=[z,TO,i1,i2,TI]) (fun b' o hb q=>?_) hf (Zaf _) ⟨by show 2≤sizeLine;decide,[u,u'],.cons ru (.cons ru' .nil),fY.mk hT2⟩,rfl,⟨_,x,y,I.hok.fresh (Zaf _),rfl,rfl,fun zs hz'=>by rw [I.nu hz' hq];exact hx,fun zs hz'=>by rw [I.nu hz' hq'];exact hy⟩,⟨z4,?_,⟨u,u',(s4.2 _ D.TOz).trans t3⟩,i3.at fun o q=>(s4.2 i1 D.i1z).trans q,j3.at fun o q=>(s4.2 i2 D.i2z).trans q⟩,fun b' hb=>?_⟩
  ·have q1:b'≠z:=fun e=>hb (by simp [e])
   have q2:b'≠TO:=fun e=>hb (by simp [e])
   have q3:b'≠i1:=fun e=>hb (by simp [e])
   have q4:b'≠i2:=fun e=>hb (by simp [e])
   exact (s4.2 b' q1).trans (k3 b' o q1 q2 q3 q4 q)
  ·exact (s4.2 _ D.TIz).trans (k3 TI _ D.TIz D.TITO D.TIi1 D.TIi2 hTI)
  ·rw [aG (Zaw (flt b' hb))]
   exact (hf b' hb).1
 done:=by
  intro X hP hw hK hc i pins s σ H E I hf st hg
  subst hP hw hK
  obtain ⟨xs,ys,hq,hq',hx⟩:=hg
  obtain ⟨its,rv,p,_⟩:=I.list hq
  obtain ⟨its',rv',p',_⟩:=I.list hq'
  obtain ⟨hz,hTI,⟨c',d',hTO⟩,h1,h2⟩:=st
  have ln:=rv.length
  have ln':=rv'.length
  refine wpAny_pyNext_zip_end (I.ok.hd hc) D hz hTI hTO h1 h2 p.isList p'.isList (hx.imp (fun q=>by rw [List.getElem?_toArray];exact List.getElem?_eq_none_iff.mpr (by lia)) fun q=>by rw [List.getElem?_toArray];exact List.getElem?_eq_none_iff.mpr (by lia)) fun h' k=>⟨rfl,?_⟩
  exact I.qP (t':=s.toks) (ch:=[z,TO,i1,i2,TI]) (fun b' o hb q=>k b' o (fun e=>hb (by simp [e])) (fun e=>hb (by simp [e])) (fun e=>hb (by simp [e])) (fun e=>hb (by simp [e])) q) hf
 self:=fun A i s Q E st h=>wpAny_pyIter_zip st.1 h
def UJ (K:PySem.W.Frag) (ta:TA):TI:=fun σ H R=>ta σ H fun vs H1=>∃ a b,vs=[.ref a,.ref b]∧(∃ xs,SqL K H1 a xs)∧(∃ ys,SqL K H1 b ys)∧R (Itz K a b) H1
theorem R4 {X:Cx}{l m:Expr}{ta:TA}{elts:List Expr}{x1:Nat}{tpos p pos:Pos} (hg:Gl X "zip") (hm:X.mg "zip"=none) (ha:PA X [l,m] ta) (hs:starEach [l,m] X.env=(false,eval l X.env)::starEach [m] X.env:=by rfl) (hs2:starEach [m] X.env=[(false,eval m X.env)]:=by rfl) :
  PI X (.Tuple elts x1 tpos) (.Call (.Name "zip" p) [l,m] [] pos) (UJ X.K ta):=by
 intro pins s σ H R I h
 refine Call_ (tH I hg hm boot_zip (Zbe (thn (ha pos pins s σ H _ I h) ?_) hs (by rw [hs2];rfl)))
 rintro us s1 ⟨vs,H1,I1,r1,q1⟩
 obtain ⟨a,b,e,⟨xs,hq⟩,⟨ys,hq'⟩,q⟩:=q1
 subst e
 cases r1 with
 | cons r rr =>
  cases rr with
  | cons r' rr =>
   cases rr
   cases r
   cases r'
   obtain ⟨its,rv,p,_⟩:=I1.list hq
   obtain ⟨its',rv',p',_⟩:=I1.list hq'
   have la:a < s1.heap.objs.size:=by obtain ⟨o,e,_⟩:=p.isList;exact Zak e
   have lb:b < s1.heap.objs.size:=by obtain ⟨o,e,_⟩:=p'.isList;exact Zak e
   refine call_zip_2 p.isList p'.isList fun h1 hz hTI hTO hi1 hi2 hsz hk=>?_
   refine wpAny_pyIter_zip hz ?_
   have I2:Inv X pins σ H1 { s1 with heap:=h1 }:=I1.kept (t':=s1.toks) hk
   refine ⟨_,[s1.heap.objs.size+4,s1.heap.objs.size+3,s1.heap.objs.size,s1.heap.objs.size+1,s1.heap.objs.size+2],_,_,H1,rfl,I2,Lj a b _ _ _ _ _ (zipApart_new la lb),⟨hz,hTI,⟨_,_,hTO⟩,hi1,hi2⟩,fun c hc=>?_,q⟩
   have:s1.heap.objs.size≤c:=by
    simp only [Zaq,List.not_mem_nil,or_false] at hc
    rcases hc with rfl | rfl | rfl | rfl | rfl
    ·exact Nat.le_add_right _ 4
    ·exact Nat.le_add_right _ 3
    ·exact Zaf _
    ·exact Nat.le_add_right _ 1
    ·exact Nat.le_add_right _ 2
   exact I1.BP this (I1.hok.fresh this)
namespace MP
def Gh (l m:List PV):List PV:=(l.zip m).map fun c=>.tup [c.1,c.2]
def Lk:List PV->Option (Res (List PV))
 | [.lst l,.lst m]=>some (.ok (Gh l m))
 | _=>none
section
variable {K:PySem.W.Frag}{C:Cg}{tA:TA}
theorem R5 {f:Fn (List PV)} (h:MA K C tA f):MI K C (UJ K tA) (m1 Lk f):=by
 intro F H σ ρ R' r R e P
 refine h.run R e P fun l xs F1 H1 hk u a=>?_
 have inv:∃ l' m,l=[.lst l',.lst m]:=by
  clear P u a
  rcases l with _ | ⟨x,_ | ⟨y,_ | ⟨z,l⟩⟩⟩ <;> first | exact noS hk | (cases x <;> first | exact noS hk | (cases y <;> first | exact noS hk | exact ⟨_,_,rfl⟩))
 obtain ⟨l,m,rfl⟩:=inv
 cases hk
 obtain ⟨v,ys,rfl,r1,r2⟩:=a.dz
 obtain ⟨v',ys',rfl,r2',r3⟩:=r2.dz
 cases r3.iH
 obtain ⟨b,xs,rfl,h1,r1⟩:=Rep.b8 r1
 obtain ⟨b',xs',rfl,h2,r2⟩:=Rep.b8 r2'
 have hl:(Gh l m).length=min l.length m.length:=by simp [Gh]
 refine ⟨b,b',rfl,⟨xs,u.fh.seq h1⟩,⟨xs',u.fh.seq h2⟩,P _ F1 H1 u ⟨fun F' H' s s'=>?_,fun i F' H' hi s s'=>?_,fun i F' H' x H'' hi s s' y=>?_⟩⟩
 ·refine ⟨xs,xs',(s.trans s').seq h1,(s.trans s').seq h2,?_⟩
  rw [hl,r1.1,r2.1];lia
 ·rw [hl] at hi
  exact ⟨xs,xs',xs[i]'(by rw [r1.1];lia),xs'[i]'(by rw [r2.1];lia),(s.trans s').seq h1,(s.trans s').seq h2,by simp,by simp⟩
 ·obtain ⟨p,y,y',hp,rfl,rfl,hy,hy'⟩:=y
  have e:=hy xs ((s.trans s').seq h1)
  have e':=hy' xs' ((s.trans s').seq h2)
  obtain ⟨q,e2,rq⟩:=r1.got e
  obtain ⟨q',e2',rq'⟩:=r2.got e'
  have un:=Up.new (o:=.tup [y,y']) s' hp
  refine ⟨_,.tup [q,q'],un,?_,.tup aL rfl fun j x p hx hp'=>?_⟩
  ·unfold Gh
   rw [List.getElem?_map,show (l.zip m)[i]?=some (q,q') from List.getElem?_zip_eq_some.mpr ⟨e2,e2'⟩]
   rfl
  ·match j with
   | 0=>simp at hx hp';subst hx hp';exact rq.up (s.trans un.ff)
   | 1=>simp at hx hp';subst hx hp';exact rq'.up (s.trans un.ff)
   | j+2=>simp at hx
end
end MP
def jA:HO->Prop
 | .dK _=>True
 | .dT _=>True
 | _=>False
section
variable {X:Cx}{pins:List (Addr×Obj)}{σ:St}{H:Hp}{s:Shared}{a:Addr}{u:HO}{raw:Obj}
theorem jA.mut (hu:jA u) (e:H a=some u):Mut (H a):=by
 rw [e]
 cases u <;> first | trivial | exact hu.elim
theorem R6 (I:Inv X pins σ H s) (e:H a=some u) (hu:jA u):∃ raw,s.heap.get? a=some raw:=by
 have:=I.hok a u e
 cases u with
 | dK kvs=>obtain ⟨_,_,_,_,o,es,ep,h1,_⟩:=this;exact ⟨o,h1⟩
 | dT kvs=>obtain ⟨_,_,_,_,o,es,ep,h1,_⟩:=this;exact ⟨o,h1⟩
 | _=>exact hu.elim
theorem Inv.hold (I:Inv X pins σ H s) (e:H a=some u) (hu:jA u):∃ raw,s.heap.get? a=some raw∧Inv X pins σ (upd H a (.frz raw u)) s:=by
 obtain ⟨raw,hr⟩:=R6 I e hu
 refine ⟨raw,hr,I.write (t':=s.toks) (h':=s.heap) (hu.mut e) (.inl rfl) (fun b o _ q=>q) ⟨raw,hr⟩ ⟨hr,?_⟩⟩
 refine (I.hok a u e).stay (fun b o _ q=>q) (fun b q=>?_) fun b xs q=>?_
 ·rw [aG (fun z=>by subst z;rw [e] at q;cases q;exact hu)];exact q
 ·rw [aG (fun z=>by subst z;rw [e] at q;cases q;exact hu)];exact q
theorem Inv.loose (I:Inv X pins σ H s) (e:H a=some (.frz raw u)) (hu:jA u) (h0:∀ o v,X.H₀ a≠some (.frz o v)):Inv X pins σ (upd H a u) s where
 ok:=I.ok
 os:=I.os
 bare:=I.bare
 base:={
  keep:=I.base.keep
  slot:=I.base.slot
  free:=fun b o q n hx=>by
   have:=I.base.free b o q n hx
   rw [aG (fun z=>by subst z;rw [e] at this;cases this)];exact this
  there:=I.base.there
  tups:=fun b xs q=>by
   have:=I.base.tups b xs q
   rw [aG (fun z=>by subst z;rw [e] at this;cases this)];exact this
  frzs:=fun b o v q=>by
   rw [aG (fun z=>by subst z;exact h0 o v q)];exact I.base.frzs b o v q
  tbls:=fun b ps q=>by
   obtain ⟨more,r⟩:=I.base.tbls b ps q
   exact ⟨more,by rw [aG (fun z=>by subst z;rw [e] at r;cases r)];exact r⟩ }
 loc:=I.loc
 cell:=I.cell
 free:=by rw [aG (fun z=>by have:=I.free;rw [z,e] at this;cases this)];exact I.free
 freeC:=fun x c q=>by
  have:=I.freeC x c q
  rw [aG (fun z=>by subst z;rw [e] at this;cases this)];exact this
 pin:=fun p hp=>by
  obtain ⟨p1,p2,p3⟩:=I.pin p hp
  exact ⟨p1,by rw [aG (fun z=>by rw [z,e] at p2;cases p2)];exact p2,p3⟩
 hok:=fun b o q=>by
  have ho:∀ c y,H c=some (.own y)->upd H a u c=some (.own y):=fun c y r=>by rw [aG (fun z=>by subst z;rw [e] at r;cases r)];exact r
  have ht:∀ c xs,H c=some (.tup xs)->upd H a u c=some (.tup xs):=fun c xs r=>by rw [aG (fun z=>by subst z;rw [e] at r;cases r)];exact r
  by_cases hb:b=a
  ·subst hb
   rw [aL] at q;cases q
   exact (I.hok b _ e).2.stay (fun _ _ _ q=>q) (fun c r=>ho c b r) ht
  ·rw [aG hb] at q
   exact (I.hok b o q).stay (fun _ _ _ q=>q) (fun c r=>ho c b r) ht
 len:=I.len
def Ends.loose (D:Ends) (a:Addr) (raw:Obj) (u:HO):Ends where
 nx:=fun σ H=>H a=some (.frz raw u)∧D.nx σ (upd H a u)
 bk:=fun σ H=>H a=some (.frz raw u)∧D.bk σ (upd H a u)
 ct:=fun σ H=>H a=some (.frz raw u)∧D.ct σ (upd H a u)
 rt:=fun v H=>H a=some (.frz raw u)∧D.rt v (upd H a u)
def QR (i:Nat) (t:TS):TS:=fun D σ H=>∃ a u,σ[i]?=some (some (.ref a))∧jA u∧(((∃ raw,H a=some (.frz raw u))∧t D σ H)∨(H a=some u∧∀ raw,t (D.loose a raw u) σ (upd H a (.frz raw u))))
theorem OJ {st:Stmt}{t:TS} (i:Nat) (h:PS X st t):PS X st (QR i t):=by
 intro pins s σ H D I q
 obtain ⟨a,u,_,hu,⟨_,q⟩ | ⟨e,q⟩⟩:=q
 ·exact h pins s σ H D I q
 ·have h0:∀ o v,X.H₀ a≠some (.frz o v):=fun o v z=>by
   have:=I.base.frzs a o v z
   rw [e] at this;cases this
   exact hu
  obtain ⟨raw,_,I2⟩:=I.hold e hu
  refine thn (h pins s σ _ _ I2 (q raw)) fun f s' r=>?_
  cases f with
  | next=>obtain ⟨σ',H',I',e',r⟩:=r;exact ⟨σ',_,I'.loose e' hu h0,r⟩
  | brk=>obtain ⟨σ',H',I',e',r⟩:=r;exact ⟨σ',_,I'.loose e' hu h0,r⟩
  | cont=>obtain ⟨σ',H',I',e',r⟩:=r;exact ⟨σ',_,I'.loose e' hu h0,r⟩
  | ret w=>obtain ⟨v,σ',H',I',rv,e',r⟩:=r;exact ⟨v,σ',_,I'.loose e' hu h0,rv,r⟩
def Ln (i:Nat) (t:TE):TE:=fun σ H Q=>∃ a u,σ[i]?=some (some (.ref a))∧jA u∧(((∃ raw,H a=some (.frz raw u))∧t σ H Q)∨(H a=some u∧∀ raw,t σ (upd H a (.frz raw u)) fun v H'=>H' a=some (.frz raw u)∧Q v (upd H' a u)))
theorem uR {e:Expr}{t:TE} (i:Nat) (h:PE X e t):PE X e (Ln i t):=by
 intro pins s σ H Q I q
 obtain ⟨a,u,_,hu,⟨_,q⟩ | ⟨e',q⟩⟩:=q
 ·exact h pins s σ H Q I q
 ·have h0:∀ o v,X.H₀ a≠some (.frz o v):=fun o v z=>by
   have:=I.base.frzs a o v z
   rw [e'] at this;cases this
   exact hu
  obtain ⟨raw,_,I2⟩:=I.hold e' hu
  refine thn (h pins s σ _ _ I2 (q raw)) fun w s' ⟨v,H',I',rv,e2,r⟩=>⟨v,_,I'.loose e2 hu h0,rv,r⟩
end
end L2
namespace L2.MP
open PySem PySem.Spec PyProof.Rows
structure Sw (F F':Hp) (a:Addr) (u:HO):Prop where
 ne:∀ b,b≠a->F' b=F b
 l:Rd F a u
 r:Rd F' a u
 d:jA u
section
variable {K:PySem.W.Frag}{F F' H H':Hp}{a:Addr}{u:HO}{v:V}{p:PV}
theorem Sw.other (w:Sw F F' a u) {b:Addr}{o:HO} (e:F b=some o) (h1:¬jA o) (h2:∀ raw x,jA x->o≠.frz raw x):F' b=some o:=by
 rw [w.ne b fun z=>?_]
 ·exact e
 ·subst z
  rcases w.l with q | ⟨raw,q⟩
  ·rw [e] at q;cases q;exact h1 w.d
  ·rw [e] at q;cases q;exact h2 raw u w.d rfl
theorem Sw.rd (w:Sw F F' a u) {b:Addr}{o:HO} (h:Rd F b o) (ho:jA o):Rd F' b o:=by
 by_cases hb:b=a
 ·subst hb
  have:o=u:=by
   rcases h with h | ⟨r,h⟩ <;> rcases w.l with q | ⟨r',q⟩ <;> rw [h] at q <;> cases q
   ·rfl
   ·exact ho.elim
   ·exact w.d.elim
   ·rfl
  rw [this];exact w.r
 ·rcases h with h | ⟨r,h⟩
  ·exact .inl (by rw [w.ne b hb];exact h)
  ·exact .inr ⟨r,by rw [w.ne b hb];exact h⟩
theorem Sw.sq (w:Sw F F' a u) {b:Addr}{xs:List V} (h:SqL K F b xs):SqL K F' b xs:=by
 rcases h with (h | ⟨o,h⟩) | h
 ·exact .inl (.inl (w.other h (fun z=>z) fun _ _ _ z=>by cases z))
 ·exact .inl (.inr ⟨o,w.other h (fun z=>z) fun _ x hx z=>by cases z;exact hx⟩)
 ·exact .inr h
theorem Rep.sw (w:Sw F F' a u) (h:Rep K F v p):Rep K F' v p:=by
 induction h with
 | non=>exact .non
 | bl=>exact .bl
 | int=>exact .int
 | str=>exact .str
 | ty=>exact .ty
 | tup h hl _ ih=>exact .tup (w.other h (fun z=>z) fun _ _ _ z=>by cases z) hl ih
 | lst h hl _ ih=>exact .lst (w.sq h) hl ih
 | dk h hl _ ih=>exact .dk (w.rd h trivial) hl ih
 | dt h hl _ ih=>exact .dt (w.rd h trivial) hl ih
 | exc nm h hd hl _ ih=>exact .exc nm (w.other h (fun z=>z) fun _ _ _ z=>by cases z) (w.other hd (fun z=>z) fun _ _ _ z=>by cases z) hl ih
 | exc0 nm h=>exact .exc0 nm (w.other h (fun z=>z) fun _ _ _ z=>by cases z)
theorem bC.sw {xs:List V}{l:List PV} (w:Sw F F' a u) (h:bC K F xs l):bC K F' xs l:=⟨h.1,fun j x p a b=>(h.2 j x p a b).sw w⟩
theorem Own.sw {b:Addr} (w:Sw F F' a u) (e:H' b=H b) (h:Own K F H b p):Own K F' H' b p:=by
 cases p with
 | lst l=>obtain ⟨xs,q,r⟩:=h;exact ⟨xs,by rw [e];exact q,r.sw w⟩
 | dk l=>obtain ⟨xs,q,r,s⟩:=h;exact ⟨xs,by rw [e];exact q,r,fun j x p a b=>(s j x p a b).sw w⟩
 | dt l=>obtain ⟨xs,q,r,s⟩:=h;exact ⟨xs,by rw [e];exact q,r,fun j x p a b=>(s j x p a b).sw w⟩
 | _=>exact h.elim
theorem Dp.sw {P:Addr->Prop} (w:Sw F F' a u) (wH:Sw H H' a u) (h:Dp K F H P v p):(∀ b,P b->b≠a)->Dp K F' H' P v p:=by
 induction h with
 | fr h st=>exact fun _=>.fr (h.sw w) st
 | lst h hp hs dj hl _ ih=>exact fun n=>.lst (by rw [wH.ne _ (n _ hp)];exact h) hp hs dj hl fun j x p e1 e2=>ih j x p e1 e2 fun b q=>n b (hs j b q).1
 | tup h hs dj hl _ ih=>exact fun n=>.tup (wH.other h (fun z=>z) fun _ _ _ z=>by cases z) hs dj hl fun j x p e1 e2=>ih j x p e1 e2 fun b q=>n b (hs j b q)
 | dk h hp hs dj hl _ ih=>exact fun n=>.dk (by rw [wH.ne _ (n _ hp)];exact h) hp hs dj hl fun j x p e1 e2=>ih j x p e1 e2 fun b q=>n b (hs j b q).1
 | dt h hp hs dj hl _ ih=>exact fun n=>.dt (by rw [wH.ne _ (n _ hp)];exact h) hp hs dj hl fun j x p e1 e2=>ih j x p e1 e2 fun b q=>n b (hs j b q).1
theorem RE.sw {C C':Cf}{σ:St}{ρ:Rho} (w:Sw F F' a u) (wH:Sw H H' a u) (fa:F a≠none) (hio:C'.io=C.io) (hnw:C'.nw=C.nw) (h0:∀ b,b≠a->C'.H0 b=C.H0 b) (rb:RB C' F' H') (R:RE K C F H σ ρ):RE K C' F' H' σ ρ where
 rb:=rb
 len:=R.len
 sh:=fun i p e=>let ⟨v,e1,r⟩:=R.sh i p e;⟨v,e1,r.sw w⟩
 ow:=fun i p e=>by
  obtain ⟨b,e1,e2,e3,e4⟩:=R.ow i p e
  have nb:b≠a:=fun z=>by subst z;exact fa e3
  exact ⟨b,e1,e2.sw w (wH.ne b nb),by rw [w.ne b nb];exact e3,by rw [hio,hnw,h0 b nb];exact e4⟩
 dis:=R.dis
 dd:=by
  obtain ⟨P,d⟩:=R.dd
  have nb:∀ i b,P i b->b≠a:=fun i b q z=>by subst z;exact fa (d.own i b q).1
  refine ⟨P,fun i b q=>?_,d.dis,d.ow,fun i p e=>?_⟩
  ·obtain ⟨c1,⟨o,c2,c3⟩,c4,c5⟩:=d.own i b q
   exact ⟨by rw [w.ne b (nb i b q)];exact c1,⟨o,by rw [wH.ne b (nb i b q)];exact c2,c3⟩,by rw [hnw];exact c4,by rw [h0 b (nb i b q)];exact c5⟩
  ·obtain ⟨v,e1,e2⟩:=d.dp i p e
   exact ⟨v,e1,e2.sw w wH (nb i)⟩
end
def cU (G:Hp) (a:Addr) (raw:Obj) (u:HO):Hp:=fun b=>@ite _ (b=a∧G a=some u) (Classical.propDecidable _) (some (.frz raw u)) (G b)
theorem dY {G:Hp}{a b:Addr}{raw:Obj}{u:HO} (h:b≠a):cU G a raw u b=G b:=@if_neg _ (Classical.propDecidable _) (fun z=>h z.1) _ _ _
theorem t6 {G:Hp}{a:Addr}{raw:Obj}{u:HO} (h:G a=some u):cU G a raw u a=some (.frz raw u):=@if_pos _ (Classical.propDecidable _) ⟨rfl,h⟩ _ _ _
theorem qp {G:Hp}{a:Addr}{raw:Obj}{u:HO} (h:G a≠some u):cU G a raw u a=G a:=@if_neg _ (Classical.propDecidable _) (fun z=>h z.2) _ _ _
def R7 (F:Hp) (σ:St) (i:Nat):Prop:=∃ a raw u,σ[i]?=some (some (.ref a))∧F a=some (.frz raw u)∧jA u
def MSh (K:PySem.W.Frag) (C:Cg) (i:Nat) (t:TS) (f:Sn):Prop:=∀ F H σ ρ D o,RE K C.toCf F H σ ρ->R7 F σ i->f ρ=some o->PO' K C F D o->t D σ H
def MOh (K:PySem.W.Frag) (C:Cg) (i:Nat) (te:TE) (f:Fn PV):Prop :=
 ∀ F H σ ρ Q r,RE K C.toCf F H σ ρ->R7 F σ i->f ρ=some r->Pr C F (fun p=>∀ a F' H',Up F H F' H'->H a=none->F' a=none->Own K F' H' a p->Q (.ref a) H') r->te σ H Q
def yN (i:Nat) (f:Sn):Sn:=fun ρ=>match ρ[i]? with
 | some (some (.sh p))=>if p.isD=true then (match f ρ with
  | some (.rd _)=>none
  | x=>x) else none
 | _=>none
section
variable {K:PySem.W.Frag}{t:TS}{f:Sn}
theorem Hi {io:Addr->Prop}{H0 F0 F H:Hp}{σ:St}{ρ:Rho}{a:Addr}{u:HO}{raw:Obj} (R:RE K (C0 io H0 F0).toCf F H σ ρ) (fa:F a=some u) (hu:jA u) :
  RE K (C0 io (cU H0 a raw u) (cU F0 a raw u)).toCf (upd F a (.frz raw u)) (upd H a (.frz raw u)) σ ρ∧H a=some u:=by
 have ha:=R.rb.sub _ _ fa
 have w:Sw F (upd F a (.frz raw u)) a u:=⟨fun b hb=>aG hb,.inl fa,.inr ⟨raw,aL⟩,hu⟩
 have wH:Sw H (upd H a (.frz raw u)) a u:=⟨fun b hb=>aG hb,.inl ha,.inr ⟨raw,aL⟩,hu⟩
 have nt:∀ ys,u≠.tup ys:=fun ys z=>by subst z;exact hu
 have rb2:RB (C0 io (cU H0 a raw u) (cU F0 a raw u)).toCf (upd F a (.frz raw u)) (upd H a (.frz raw u)):=by
  refine ⟨fun b o q=>?_,fun b o q n=>?_,fun b o q=>?_,fun b q=>?_⟩
  ·by_cases hb:b=a
   ·subst hb;rw [aL] at q ⊢;exact q
   ·rw [aG hb] at q ⊢;exact R.rb.sub b o q
  ·by_cases hb:b=a
   ·subst hb
    rw [aL]
    by_cases hh:H0 b=some u
    ·have q:cU H0 b raw u b=some o:=q
     rw [t6 hh] at q;exact q
    ·have q:cU H0 b raw u b=some o:=q
     rw [qp hh] at q
     have:=R.rb.keep b o q n
     rw [ha] at this
     exact absurd (q.trans this.symm) hh
   ·have q:cU H0 a raw u b=some o:=q
    rw [dY hb] at q
    rw [aG hb];exact R.rb.keep b o q n
  ·by_cases hb:b=a
   ·subst hb
    rw [aL] at q
    cases q
    rcases R.rb.new b u fa with z | z | ⟨ys,z⟩
    ·exact .inl (t6 z)
    ·refine .inr (.inl ?_)
     show cU H0 b raw u b=none
     rw [qp (by rw [show H0 b=none from z];intro y;cases y)];exact z
    ·exact absurd z (nt ys)
   ·rw [aG hb] at q
    rcases R.rb.new b o q with z | z | z
    ·exact .inl ((dY hb).trans z)
    ·exact .inr (.inl ((dY hb).trans z))
    ·exact .inr (.inr z)
  ·obtain ⟨q1,q2⟩:=R.rb.ios b q
   refine ⟨?_,?_⟩
   ·by_cases hb:b=a
    ·subst hb;rw [aL];intro z;cases z
    ·rw [aG hb];exact q1
   ·show cU H0 a raw u b≠none
    by_cases hb:b=a
    ·subst hb
     by_cases hh:H0 b=some u
     ·rw [t6 hh];intro z;cases z
     ·rw [qp hh];exact q2
    ·rw [dY hb];exact q2
 have R2:RE K (C0 io (cU H0 a raw u) (cU F0 a raw u)).toCf (upd F a (.frz raw u)) (upd H a (.frz raw u)) σ ρ:=RE.sw (C:=(C0 io H0 F0).toCf) w wH (by rw [fa];intro z;cases z) rfl rfl (fun b hb=>dY hb) rb2 R
 exact ⟨R2,ha⟩
theorem O1 {io:Addr->Prop}{H0 F0:Hp} (i:Nat) (h:∀ H0 F0,MSh K (C0 io H0 F0) i t f):MS K (C0 io H0 F0) (QR i t) (yN i f):=by
 intro F H σ ρ D o R e P
 unfold yN at e
 split at e
 case h_2=>cases e
 rename_i p hp
 split at e
 case isFalse=>cases e
 rename_i hd
 obtain ⟨e',nrd⟩:f ρ=some o∧∀ q,o≠.rd q:=by
  split at e
  ·cases e
  ·rename_i x hx
   exact ⟨e,fun q z=>by subst z;exact hx q e⟩
 obtain ⟨v,ev,rv⟩:=R.sh i p hp
 obtain ⟨a,u,rfl,rd,hu⟩:∃ a u,v=.ref a∧Rd F a u∧jA u:=by
  cases rv with
  | dk h=>exact ⟨_,_,rfl,h,trivial⟩
  | dt h=>exact ⟨_,_,rfl,h,trivial⟩
  | _=>cases hd
 refine ⟨a,u,ev,hu,?_⟩
 rcases rd with fa | ⟨raw,fa⟩
 case inr=>exact .inl ⟨⟨raw,R.rb.sub _ _ fa⟩,h H0 F0 F H σ ρ D o R ⟨a,raw,u,ev,fa,hu⟩ e' P⟩
 refine .inr ⟨R.rb.sub _ _ fa,fun raw=>?_⟩
 have ha:=R.rb.sub _ _ fa
 have w:Sw F (upd F a (.frz raw u)) a u:=⟨fun b hb=>aG hb,.inl fa,.inr ⟨raw,aL⟩,hu⟩
 have wH:Sw H (upd H a (.frz raw u)) a u:=⟨fun b hb=>aG hb,.inl ha,.inr ⟨raw,aL⟩,hu⟩
 have nt:∀ ys,u≠.tup ys:=fun ys z=>by subst z;exact hu
 obtain ⟨R2,_⟩:=Hi (raw:=raw) R fa hu
 have back:∀ {F3 H3:Hp},aR (upd F a (.frz raw u)) F3->RB (C0 io (cU H0 a raw u) (cU F0 a raw u)).toCf F3 H3->H3 a=some (.frz raw u)∧Sw F3 (upd F3 a u) a u∧Sw H3 (upd H3 a u) a u∧aR F (upd F3 a u)∧RB (C0 io H0 F0).toCf (upd F3 a u) (upd H3 a u):=by
  intro F3 H3 s3 rb3
  have f3:F3 a=some (.frz raw u):=s3 _ _ aL
  have h3:=rb3.sub _ _ f3
  refine ⟨h3,⟨fun b hb=>aG hb,.inr ⟨raw,f3⟩,.inl aL,hu⟩,⟨fun b hb=>aG hb,.inr ⟨raw,h3⟩,.inl aL,hu⟩,fun b o q=>?_,fun b o q=>?_,fun b o q n=>?_,fun b o q=>?_,fun b q=>?_⟩
  ·by_cases hb:b=a
   ·subst hb;rw [aL,←q,fa]
   ·rw [aG hb];exact s3 b o (by rw [aG hb];exact q)
  ·by_cases hb:b=a
   ·subst hb;rw [aL] at q ⊢;exact q
   ·rw [aG hb] at q ⊢;exact rb3.sub b o q
  ·by_cases hb:b=a
   ·subst hb
    have:=R.rb.keep b o q n
    rw [ha] at this
    rw [aL];exact this
   ·rw [aG hb]
    exact rb3.keep b o ((dY hb).trans q) n
  ·by_cases hb:b=a
   ·subst hb
    rw [aL] at q
    cases q
    exact R.rb.new b u fa
   ·rw [aG hb] at q
    rcases rb3.new b o q with z | z | z
    ·exact .inl ((dY hb).symm.trans z)
    ·exact .inr (.inl ((dY hb).symm.trans z))
    ·exact .inr (.inr z)
  ·refine ⟨?_,(R.rb.ios b q).2⟩
   by_cases hb:b=a
   ·subst hb;rw [aL];intro z;cases z
   ·rw [aG hb];exact (rb3.ios b q).1
 have backR:∀ {F3 H3:Hp}{σ3:St}{ρ3:Rho},aR (upd F a (.frz raw u)) F3->RE K (C0 io (cU H0 a raw u) (cU F0 a raw u)).toCf F3 H3 σ3 ρ3->H3 a=some (.frz raw u)∧aR F (upd F3 a u)∧RE K (C0 io H0 F0).toCf (upd F3 a u) (upd H3 a u) σ3 ρ3:=by
  intro F3 H3 σ3 ρ3 s3 R3
  obtain ⟨b1,b2,b3,b4,b5⟩:=back s3 R3.rb
  have f3:F3 a=some (.frz raw u):=s3 _ _ aL
  exact ⟨b1,b4,RE.sw (C:=(C0 io (cU H0 a raw u) (cU F0 a raw u)).toCf) b2 b3 (by rw [f3];intro z;cases z) rfl rfl (fun b hb=>(dY hb).symm) b5 R3⟩
 refine h (cU H0 a raw u) (cU F0 a raw u) _ _ σ ρ _ o R2 ⟨a,raw,u,ev,aL,hu⟩ e' ?_
 cases o with
 | nx ρ3=>exact fun F3 H3 σ3 s3 R3=>let ⟨b1,b2,b3⟩:=backR s3 R3;⟨b1,P _ _ _ b2 b3⟩
 | bk ρ3=>exact fun F3 H3 σ3 s3 R3=>let ⟨b1,b2,b3⟩:=backR s3 R3;⟨b1,P _ _ _ b2 b3⟩
 | ct ρ3=>exact fun F3 H3 σ3 s3 R3=>let ⟨b1,b2,b3⟩:=backR s3 R3;⟨b1,P _ _ _ b2 b3⟩
 | rt q=>exact fun v F3 H3 s3 rb3 r=>let ⟨b1,b2,b3,b4,b5⟩:=back s3 rb3;⟨b1,P v _ _ b4 b5 (r.sw b2)⟩
 | ro q =>
  intro b F3 H3 s3 rb3 ow nb n0
  obtain ⟨b1,b2,b3,b4,b5⟩:=back s3 rb3
  have f3:F3 a=some (.frz raw u):=s3 _ _ aL
  have hb:b≠a:=fun z=>by subst z;rw [f3] at nb;cases nb
  exact ⟨b1,P b _ _ b4 b5 (ow.sw b2 (b3.ne b hb)) (by rw [aG hb];exact nb) ((dY hb).symm.trans n0)⟩
 | rd q=>exact absurd rfl (nrd q)
 | ex z=>exact fun _ _ _ _ _ _ x=>x.elim
end
def O2 (K:PySem.W.Frag) (C:Cg) (i:Nat) (wi:TI) (f:Fn (List PV)):Prop :=
 ∀ F H σ ρ R' r,RE K C.toCf F H σ ρ->R7 F σ i->f ρ=some r->Pr C F (fun l=>∀ J F' H',Up F H F' H'->ItR K J F' l->R' J H') r->wi σ H R'
section
variable {K:PySem.W.Frag}{C:Cg}{te:TE}{t:TS}{f:Sn}{F H:Hp}{σ:St}{ρ:Rho}{D:Ends}{o:Out}
theorem O3 {k:Key}:Rep K F (kV k) (Uy k):=by
 cases k with
 | inl i=>exact .int
 | inr z=>exact .str
theorem O4 {i:Nat}{wi:TI}{it:Fn (List PV)}{gt:TG}{tg:PV->Rho->Option Rho} (hi:O2 K C i wi it) (hg:MG K C gt tg) (hb:MS K C t f):MSh K C i (Ri wi gt t) (pF it tg f):=by
 intro F H σ ρ D o R hh e P
 rcases cP e with ⟨z,e1,rfl⟩ | ⟨l,e1,hk⟩
 ·exact hi F H σ ρ _ _ R hh e1 P
 ·exact hi F H σ ρ _ _ R hh e1 fun J F' H' u hJ=>yG hg hb hJ (R.up u) hk (P.up u.ff)
theorem jQ {wi:TI}{it:Fn (List PV)}{fr:List (Option Nat)}{gt:TG}{tg:PV->Rho->Option Rho}{T:List Nat}{tc:TT}{tst:Fn Bool}{el:Fn PV}{i0:Nat} (hi:O2 K C i0 wi it) (hg:MG K C gt tg) (hT:Wr T tg) (ht:MT K C tc tst) (he:MJ K C (aF K) te el)
  (hfr:T.all (fun j=>fr[j]? == some none)=true:=by rfl):MOh K C i0 (yC wi fr gt tc te) (jh it fr tg tst el):=by
 intro F H σ ρ Q r R hh e P
 rcases bQ e with ⟨z,e1,rfl⟩ | ⟨l,e1,hk⟩
 ·exact hi F H σ ρ _ _ R hh e1 P
 split at hk
 case isFalse=>cases hk
 rename_i hlen
 refine hi F H σ ρ _ _ R hh e1 fun J F1 H1 u hJ D hD=>?_
 have R1:=R.up u
 obtain ⟨Rb,no⟩:=R1.block fr
 have hD0:C.H0 D=none:=R1.rb.ut hD
 have hFD:F1 D=none:=u.fh.free hD
 have hρ:∀ (j:Nat),j∈T->(frR fr ρ)[j]?=some none:=fun j hj=>by
  have:=ZaW.mp hfr j hj
  unfold frR
  rw [List.getElem?_map,show fr[j]?=some none by simpa using this]
  rfl
 refine ⟨fun i m σ' H'=>∃ F' ys acc,m=l.length - i∧i≤l.length∧aR F1 F'∧(∀ b o,F' b=some o->F1 b=some o∨Frz H1 b o)∧aR H1 H'∧H' D=some (.lst ys)∧F' D=none∧bC K F' ys acc∧acc.length≤i ∧
   RE K C.toCf F' H' σ' (frR fr ρ)∧bnd (d7 tg tst el (frR fr ρ) (l.drop i)) (fun r=>some (.ok (.lst (acc++r))))=some r,
  ⟨l.length,F1,[],[],by simp,ZaO _,aR.refl _,fun _ _ q=>.inl q,dI hD,aL,hFD,.nil,Zaf _,Rb.other hFD hD0 no,by rw [Zba];exact hk⟩,?_⟩
 rintro i m σ' H' ⟨F',ys,acc,rfl,hil,s1,fr1,sH,eD,nD,ra,hacc,R',e'⟩
 by_cases hlt:i < l.length
 case neg =>
  have ei:i=l.length:=by omega
  subst ei
  rw [List.drop_length] at e'
  have e':some (Res.ok (PV.lst (acc++[])))=some r:=e'
  rw [Za8] at e'
  cases e'
  exact .inl ⟨hJ.stop F' H' s1 R'.rb.sub,P D F' H' (u.trans ⟨s1,sH,fr1,R'.rb.sub⟩) (u.hh.free hD) nD ⟨ys,eD,ra⟩⟩
 refine .inr ⟨hJ.go i F' H' hlt s1 R'.rb.sub,fun σ2 H2=>∃ F2 ys acc,aR F1 F2∧(∀ b o,F2 b=some o->F1 b=some o∨Frz H1 b o)∧aR H1 H2∧H2 D=some (.lst ys)∧F2 D=none∧bC K F2 ys acc∧acc.length≤i+1 ∧
   RE K C.toCf F2 H2 σ2 (frR fr ρ)∧bnd (d7 tg tst el (frR fr ρ) (l.drop (i+1))) (fun r=>some (.ok (.lst (acc++r))))=some r,
  fun σ2 H2 ⟨F2,ys,acc,z⟩=>⟨l.length - (i+1),by omega,F2,ys,acc,rfl,hlt,z⟩,fun x H'' y=>?_⟩
 obtain ⟨F'',p,u2,ep,rx⟩:=hJ.yld i F' H' x H'' hlt s1 R'.rb.sub y
 have ed:l.drop i=p::l.drop (i+1):=by
  rw [ZaI hlt]
  rw [List.getElem?_eq_getElem hlt] at ep
  rw [Zaa ep]
 rw [ed,d7] at e'
 split at e'
 ·cases e'
 rename_i ρ1 h1
 obtain ⟨w1,w2,w3⟩:=hT p _ ρ1 h1
 have no1:=w3 no
 have weak:∀ (j:Nat) s,(frR fr ρ)[j]?=some (some s)->ρ1[j]?=some (some s):=fun j s ej=>by
  rw [w2 j fun z=>by rw [hρ j z] at ej;cases ej];exact ej
 refine hg F'' H'' σ' (frR fr ρ) x p ρ1 _ (R'.up u2) rx h1 fun σ1 R1'=>?_
 have stay:∀ {F3 H3:Hp},Up F' H' F3 H3->aR F1 F3∧(∀ b o,F3 b=some o->F1 b=some o∨Frz H1 b o)∧aR H1 H3∧H3 D=some (.lst ys)∧F3 D=none∧bC K F3 ys acc:=fun {F3 H3} u3=>by
  refine ⟨s1.trans u3.ff,fun b o q=>?_,sH.trans u3.hh,u3.hh _ _ eD,?_,ra.up u3.ff⟩
  ·rcases u3.fr b o q with z | z
   ·exact fr1 b o z
   ·exact .inr (z.imp (fun z=>sH.free z) id)
  ·cases q:F3 D with
   | none=>rfl
   | some o =>
    rcases u3.fr D o q with z | z | ⟨ys,z⟩
    ·rw [nD] at z;cases z
    ·rw [eD] at z;cases z
    ·subst z
     have w:=u3.fh _ _ q
     rw [u3.hh _ _ eD] at w;cases w
 have Pl:∀ {F3 H3:Hp},Up F' H' F3 H3->∀ {z:PV},r=.ex z->PX C F3 z:=fun {F3 H3} u3 {z} ez=>by
  subst ez
  exact PX.up P (u.ff.trans (s1.trans u3.ff))
 rw [jq] at e'
 rcases bQ e' with ⟨z',e4,ez⟩ | ⟨b,e4,e5⟩
 ·exact ht F'' H'' σ1 ρ1 _ _ R1' e4 (Pl u2 ez)
 refine ht F'' H'' σ1 ρ1 _ _ R1' e4 fun F3 H3 u3=>?_
 have u23:=u2.trans u3
 cases b with
 | false =>
  rw [if_neg (by decide)] at e5 ⊢
  obtain ⟨a1,a2,a3,a4,a5,a6⟩:=stay u23
  exact ⟨F3,ys,acc,a1,a2,a3,a4,a5,a6,by omega,(R1'.up u3).weak w1.symm weak,e5⟩
 | true =>
  rw [if_pos rfl] at e5 ⊢
  rw [jq] at e5
  rcases bQ e5 with ⟨z',e6,ez⟩ | ⟨q,e6,e7⟩
  ·exact he F3 H3 σ1 ρ1 _ _ (R1'.up u3) e6 (Pl u23 ez)
  refine he F3 H3 σ1 ρ1 _ _ (R1'.up u3) e6 fun v F4 H4 u4 rv=>?_
  have u24:=u23.trans u4
  obtain ⟨a1,a2,a3,a4,a5,a6⟩:=stay u24
  refine ⟨ys,a4,by rw [a6.1];omega,F4,ys++[v],acc++[q],a1,a2,yE hD a3,aL,a5,a6.snoc rv,by simp;omega,((R1'.up (u3.trans u4)).other a5 hD0 no1).weak w1.symm weak,?_⟩
  rw [jq] at e7
  rw [←e7]
  congr 1
  funext rr
  show some (Res.ok (PV.lst (acc++[q]++rr)))=some (Res.ok (PV.lst (acc++q::rr)))
  rw [Zar];rfl
def lY (i:Nat) (f:Fn PV):Fn PV:=fun ρ=>match ρ[i]? with
 | some (some (.sh p))=>if p.isD=true then f ρ else none
 | _=>none
theorem uT {io:Addr->Prop}{H0 F0:Hp}{fe:Fn PV} (i:Nat) (h:∀ H0 F0,MOh K (C0 io H0 F0) i te fe):MO K (C0 io H0 F0) (Ln i te) (lY i fe):=by
 intro F H σ ρ Q r R e P
 unfold lY at e
 split at e
 case h_2=>cases e
 rename_i p hp
 split at e
 case isFalse=>cases e
 rename_i hd
 obtain ⟨v,ev,rv⟩:=R.sh i p hp
 obtain ⟨a,u,rfl,rd,hu⟩:∃ a u,v=.ref a∧Rd F a u∧jA u:=by
  cases rv with
  | dk h=>exact ⟨_,_,rfl,h,trivial⟩
  | dt h=>exact ⟨_,_,rfl,h,trivial⟩
  | _=>cases hd
 refine ⟨a,u,ev,hu,?_⟩
 rcases rd with fa | ⟨raw,fa⟩
 case inr=>exact .inl ⟨⟨raw,R.rb.sub _ _ fa⟩,h H0 F0 F H σ ρ Q r R ⟨a,raw,u,ev,fa,hu⟩ e P⟩
 refine .inr ⟨R.rb.sub _ _ fa,fun raw=>?_⟩
 have ha:=R.rb.sub _ _ fa
 obtain ⟨R2,_⟩:=Hi (raw:=raw) R fa hu
 refine h (cU H0 a raw u) (cU F0 a raw u) _ _ σ ρ _ r R2 ⟨a,raw,u,ev,aL,hu⟩ e ?_
 cases r with
 | ex z=>exact fun _ _ _ _ _ _ x=>x.elim
 | ok q =>
  intro b F3 H3 u3 n1 n2 ow
  have f3:F3 a=some (.frz raw u):=u3.ff _ _ aL
  have h3:=u3.fh _ _ f3
  have hb:b≠a:=fun z=>by subst z;rw [f3] at n2;cases n2
  refine ⟨h3,P b (upd F3 a u) (upd H3 a u) ⟨fun c o' q=>?_,fun c o' q=>?_,fun c o' q=>?_,fun c o' q=>?_⟩ (by rw [aG hb] at n1;exact n1) (by rw [aG hb];exact n2) (ow.sw ⟨fun c hc=>aG hc,.inr ⟨raw,f3⟩,.inl aL,hu⟩ (aG hb))⟩
  ·by_cases hc:c=a
   ·subst hc;rw [aL,←q,fa]
   ·rw [aG hc];exact u3.ff c o' (by rw [aG hc];exact q)
  ·by_cases hc:c=a
   ·subst hc;rw [aL,←q,ha]
   ·rw [aG hc];exact u3.hh c o' (by rw [aG hc];exact q)
  ·by_cases hc:c=a
   ·subst hc;rw [aL] at q;cases q;exact .inl fa
   ·rw [aG hc] at q
    rcases u3.fr c o' q with z | z | z
    ·rw [aG hc] at z;exact .inl z
    ·rw [aG hc] at z;exact .inr (.inl z)
    ·exact .inr (.inr z)
  ·by_cases hc:c=a
   ·subst hc;rw [aL] at q ⊢;exact q
   ·rw [aG hc] at q ⊢;exact u3.fh c o' q
end
structure QT (a c:Addr) (F H F' H':Hp):Prop where
 ff:aR F F'
 hb:∀ b o,H b=some o->b≠a->b≠c->H' b=some o
 fr:∀ b o,F' b=some o->F b=some o∨Frz H b o
 fh:aR F' H'
def Gi (K:PySem.W.Frag) (F:Hp) (a c:Addr) (p q:PV) (xs:List V) (l:List PV):Prop :=
 xs.length=l.length∧xs[0]?=some (.ref a)∧l[0]?=some p∧xs[1]?=some (.ref c)∧l[1]?=some q∧∀ (k:Nat) x r,2≤k->xs[k]?=some x->l[k]?=some r->Rep K F x r
def CT (K:PySem.W.Frag) (m:List PV->Option (Res PV)):Sp:=fun vs H Q _=>∃ ps F a c p q p' q',aR F H∧Gi K F a c p q vs ps∧a≠c∧Own K F H a p∧F a=none∧Own K F H c q∧F c=none∧m ps=some (.ok (.tup [p',q']))∧∀ F' H',QT a c F H F' H'->Own K F' H' a p'->F' a=none->Own K F' H' c q'->F' c=none->Q .non H'
def eO (ps:List PV) (n:Nat):Rho:=(ps.mapIdx fun k p=>some (if k < 2 then Sl.ow p else Sl.sh p))++List.replicate n none
def wA:Option Out->Option (Res PV)
 | some (.nx ρ)=>match ownAt 0 ρ,ownAt 1 ρ with
  | some p,some q=>some (.ok (.tup [p,q]))
  | _,_=>none
 | _=>none
section
variable {K:PySem.W.Frag}{C:Cg}{N:List Str}{vs:List V}{H F:Hp}{Q:VK}{E:XK}{t:TS}{b:Sn}{m:List PV->Option (Res PV)}{ps:List PV}{a c:Addr}{p q:PV}{n:Nat}
theorem lZ {i:Nat}{s:Sl} (e:(eO ps n)[i]?=some (some s)):∃ q,ps[i]?=some q∧s=if i < 2 then Sl.ow q else Sl.sh q:=by
 unfold eO at e
 by_cases hi:i < ps.length
 ·rw [Zah (by simpa using hi),List.getElem?_mapIdx] at e
  cases h:ps[i]? with
  | none=>rw [h] at e;cases e
  | some q=>rw [h] at e;exact ⟨q,rfl,(Zaa (Zaa e)).symm⟩
 ·rw [Zao (by simpa using hi),Zbf] at e
  split at e <;> cases e
theorem nY {i:Nat}{x:PV} (r:Gi K F a c p q vs ps) (e:(eO ps n)[i]?=some (some (.ow x))):(i=0∧x=p)∨(i=1∧x=q):=by
 obtain ⟨q',e1,e2⟩:=lZ e
 by_cases hij:i < 2
 ·rw [if_pos hij] at e2
  cases e2
  rcases (show i=0∨i=1 by omega) with rfl | rfl
  ·rw [r.2.2.1] at e1;cases e1;exact .inl ⟨rfl,rfl⟩
  ·rw [r.2.2.2.2.1] at e1;cases e1;exact .inr ⟨rfl,rfl⟩
 ·rw [if_neg hij] at e2;cases e2
theorem CV (s:aR F H) (r:Gi K F a c p q vs ps) (ac:a≠c) (w:Own K F H a p) (hn:F a=none) (w2:Own K F H c q) (hn2:F c=none) (hN:N.length=vs.length+n):RE K ⟨fun b=>b=a∨b=c,False,H,F,E⟩ F H (start N vs) (eO ps n) where
 rb:=⟨s,fun _ _ h _=>h,fun _ _ h=>.inl h,fun b hb=>by
  obtain ⟨o,eo⟩:=w.ne
  obtain ⟨o2,eo2⟩:=w2.ne
  have h1:H b≠none:=by
   rcases hb with rfl | rfl
   ·rw [eo];simp
   ·rw [eo2];simp
  exact ⟨h1,h1⟩⟩
 len:=by unfold start eO;rw [List.length_append,List.length_append,List.length_map,List.length_mapIdx,List.length_replicate,List.length_replicate,r.1,hN];have:=r.1;omega
 sh:=fun i x e=>by
  obtain ⟨q',e1,e2⟩:=lZ e
  by_cases hij:i < 2
  ·rw [if_pos hij] at e2;cases e2
  ·rw [if_neg hij] at e2
   cases e2
   have hi:i < vs.length:=by rw [r.1];exact cJ e1
   exact ⟨vs[i],iT (by simp [hi]),r.2.2.2.2.2 i _ _ (by omega) (by simp [hi]) e1⟩
 ow:=fun i x e=>by
  rcases nY r e with ⟨rfl,rfl⟩ | ⟨rfl,rfl⟩
  ·exact ⟨a,iT r.2.1,w,hn,.inl (.inl rfl)⟩
  ·exact ⟨c,iT r.2.2.2.1,w2,hn2,.inl (.inr rfl)⟩
 dis:=fun i k x y d e e' f f'=>by
  rcases nY r e with ⟨rfl,_⟩ | ⟨rfl,_⟩ <;> rcases nY r e' with ⟨rfl,_⟩ | ⟨rfl,_⟩
  ·rfl
  ·rw [iT r.2.1] at f;rw [iT r.2.2.2.1] at f';cases f;cases f';exact absurd rfl ac
  ·rw [iT r.2.2.2.1] at f;rw [iT r.2.1] at f';cases f;cases f';exact absurd rfl ac
  ·rfl
 dd:=⟨_,RD.no fun i x e=>by
  obtain ⟨q',e1,e2⟩:=lZ e
  by_cases hij:i < 2
  ·rw [if_pos hij] at e2;cases e2
  ·rw [if_neg hij] at e2;cases e2⟩
noncomputable abbrev C2 (a c:Addr) (H0 F0:Hp):Cg:=⟨⟨fun b=>b=a∨b=c,False,H0,F0,E0⟩,XR0⟩
theorem Js {k:Nat} (hk:N.length=k+n) (hm:∀ ps r,m ps=some r->ps.length=k∧wA (b (eO ps n))=some r) (h:CT K m vs H Q E) (hS:∀ (a c:Addr) (H0 F0:Hp),MSk K (C2 a c H0 F0) 0 t b) :
  t { nx:=fun _ H'=>Q .non H',rt:=Q } (start N vs) H:=by
 obtain ⟨ps,F,a,c,p,q,p',q',s,rp,ac,w,hn,w2,hn2,e,P⟩:=h
 obtain ⟨hl,e⟩:=hm ps _ e
 have R:=CV (E:=E0) (N:=N) (n:=n) s rp ac w hn w2 hn2 (by rw [rp.1,hl];exact hk)
 cases ho:b (eO ps n) with
 | none=>rw [ho] at e;cases e
 | some o =>
  rw [ho] at e
  refine hS a c H F F H _ _ _ o R ho ?_
  cases o with
  | nx ρ =>
   intro F' H' σ s' R' kk
   rw [iT rp.2.1] at kk
   have e:(match ownAt 0 ρ,ownAt 1 ρ with | some p,some q=>some (Res.ok (PV.tup [p,q])) | _,_=>none)=some (.ok (.tup [p',q'])):=e
   split at e
   ·rename_i x y h0 h1
    cases e
    obtain ⟨b0,e1,e2,e3,e4⟩:=R'.ow 0 _ (bG h0)
    obtain ⟨b1,f1,f2,f3,f4⟩:=R'.ow 1 _ (bG h1)
    rw [kk] at e1
    cases e1
    have hc:b1=c:=by
     rcases f4 with (z | z) | z
     ·subst z
      exact absurd (R'.dis 0 1 _ _ _ (bG h0) (bG h1) kk f1) (by decide)
     ·exact z
     ·exact z.1.elim
    subst hc
    exact P F' H' ⟨s',fun b o q h1 h2=>R'.rb.keep b o q fun z=>z.elim h1 h2,R'.rb.new,R'.rb.sub⟩ e2 e3 f2 f3
   ·cases e
  | _=>cases e
theorem Jt (h:CT K m vs H Q E) {k:Nat} (hm:∀ ps r,m ps=some r->ps.length=k):vs.length=k:=by
 obtain ⟨ps,F,a,c,p,q,p',q',s,rp,ac,w,hn,w2,hn2,e,P⟩:=h
 rw [rp.1];exact hm ps _ e
theorem RE.UL {F' H':Hp}{σ:St}{ρ:Rho}{p' q':PV}{i j:Nat} (R:RE K C.toCf F H σ ρ) (ij:i≠j) (e:ρ[i]?=some (some (.ow p))) (ea:σ[i]?=some (some (.ref a))) (f0:ρ[j]?=some (some (.ow q))) (fc:σ[j]?=some (some (.ref c)))
  (u:QT a c F H F' H') (w:Own K F' H' a p') (hn:F' a=none) (w2:Own K F' H' c q') (hn2:F' c=none):RE K C.toCf F' H' σ ((ρ.set i (some (.ow p'))).set j (some (.ow q'))):=by
 obtain ⟨a1,e1,e2,e3,e4⟩:=R.ow i p e
 rw [ea] at e1
 cases e1
 obtain ⟨c1,g1,g2,g3,g4⟩:=R.ow j q f0
 rw [fc] at g1
 cases g1
 have own:∀ {b:Addr},b≠a->b≠c->∀ {x:PV},Own K F H b x->F b=none->Own K F' H' b x∧F' b=none:=fun {b} ha hc {x} ox fb=>by
  refine ⟨ox.up u.ff fun o q=>u.hb b o q ha hc,?_⟩
  cases hF:F' b with
  | none=>rfl
  | some o =>
   obtain ⟨ob,eob⟩:=ox.ne
   rcases u.fr b o hF with z | z | ⟨ys,z⟩
   ·rw [fb] at z;cases z
   ·rw [eob] at z;cases z
   ·subst z
    have w:=u.fh _ _ hF
    rw [u.hb b _ eob ha hc] at w;cases w
    exact (ox.ur eob).elim
 have key:∀ {k:Nat}{x:PV},((ρ.set i (some (Sl.ow p'))).set j (some (Sl.ow q')))[k]?=some (some (.ow x))->(k=j∧x=q')∨(k=i∧x=p')∨(k≠i∧k≠j∧ρ[k]?=some (some (.ow x))):=fun {k x} f=>by
  rcases get_set f with ⟨h1,h2⟩ | ⟨h1,h2⟩
  ·cases h2;exact .inl ⟨h1.symm,rfl⟩
  ·rcases get_set h2 with ⟨h3,h4⟩ | ⟨h3,h4⟩
   ·cases h4;exact .inr (.inl ⟨h3.symm,rfl⟩)
   ·exact .inr (.inr ⟨Za7 h3,Za7 h1,h4⟩)
 have key':∀ {k:Nat}{x:PV},((ρ.set i (some (Sl.ow p'))).set j (some (Sl.ow q')))[k]?=some (some (.ow x))->∃ y,ρ[k]?=some (some (.ow y)):=fun {k x} f=>by
  rcases key f with ⟨rfl,_⟩ | ⟨rfl,_⟩ | ⟨_,_,h⟩
  ·exact ⟨q,f0⟩
  ·exact ⟨p,e⟩
  ·exact ⟨x,h⟩
 refine ⟨⟨u.fh,fun b o h n=>?_,fun b o h=>?_,fun b hb=>⟨?_,(R.rb.ios b hb).2⟩⟩,by simp [R.len],fun k x f=>?_,fun k x f=>?_,fun k l x y b f f' h h'=>?_,?_⟩
 ·have h1:b≠a:=fun z=>by
   subst z
   rcases e4 with z | z
   ·exact n z
   ·rw [z.2] at h;cases h
  have h2:b≠c:=fun z=>by
   subst z
   rcases g4 with z | z
   ·exact n z
   ·rw [z.2] at h;cases h
  exact u.hb b o (R.rb.keep b o h n) h1 h2
 ·rcases u.fr b o h with z | z
  ·exact R.rb.new b o z
  ·exact .inr (z.imp (fun z=>R.rb.ut z) id)
 ·by_cases hba:b=a
  ·subst hba;obtain ⟨o,eo⟩:=w.ne;rw [eo];simp
  ·by_cases hbc:b=c
   ·subst hbc;obtain ⟨o,eo⟩:=w2.ne;rw [eo];simp
   ·cases hb':H b with
    | none=>exact absurd hb' (R.rb.ios b hb).1
    | some o=>rw [u.hb b o hb' hba hbc];simp
 ·rcases get_set f with ⟨h1,h2⟩ | ⟨h1,h2⟩
  ·cases h2
  ·rcases get_set h2 with ⟨h3,h4⟩ | ⟨h3,h4⟩
   ·cases h4
   ·obtain ⟨v,k1,k2⟩:=R.sh k x h4
    exact ⟨v,k1,k2.up u.ff⟩
 ·rcases key f with ⟨rfl,rfl⟩ | ⟨rfl,rfl⟩ | ⟨k1,k2,h⟩
  ·exact ⟨c,fc,w2,hn2,g4⟩
  ·exact ⟨a,ea,w,hn,e4⟩
  ·obtain ⟨b,h1,h2,h3,h4⟩:=R.ow k x h
   have ha:b≠a:=fun z=>by subst z;exact k1 (R.dis i k p x b e h ea h1).symm
   have hc:b≠c:=fun z=>by subst z;exact k2 (R.dis j k q x b f0 h fc h1).symm
   exact ⟨b,h1,(own ha hc h2 h3).1,(own ha hc h2 h3).2,h4⟩
 ·obtain ⟨y1,k1⟩:=key' f
  obtain ⟨y2,k2⟩:=key' f'
  exact R.dis k l y1 y2 b k1 k2 h h'
 ·obtain ⟨P,d⟩:=R.dd
  have na:∀ k b,P k b->b≠a:=fun k b z e'=>by subst e';exact d.ow k i p b z e ea
  have nc:∀ k b,P k b->b≠c:=fun k b z e'=>by subst e';exact d.ow k j q b z f0 fc
  refine ⟨P,fun k b z=>?_,d.dis,fun k l x b z f h=>?_,fun k x f=>?_⟩
  ·obtain ⟨a1,⟨o',a2,a3⟩,a4⟩:=d.own k b z
   have hb':=u.hb b _ a2 (na k b z) (nc k b z)
   refine ⟨?_,⟨o',hb',a3⟩,a4⟩
   cases hF:F' b with
   | none=>rfl
   | some o =>
    rcases u.fr b o hF with w | w | ⟨ys,w⟩
    ·rw [a1] at w;cases w
    ·rw [a2] at w;cases w
    ·subst w
     have w:=u.fh _ _ hF
     rw [hb'] at w;cases w
     exact absurd rfl (a3 ys)
  ·obtain ⟨y,k1⟩:=key' f
   exact d.ow k l y b z k1 h
  ·rcases get_set f with ⟨h1,h2⟩ | ⟨h1,h2⟩
   ·cases h2
   ·rcases get_set h2 with ⟨h3,h4⟩ | ⟨h3,h4⟩
    ·cases h4
    ·obtain ⟨w',k1,k2⟩:=d.dp k x h4
     exact ⟨w',k1,k2.up u.ff (fun b o z q=>u.hb b o q (na k b z) (nc k b z)) fun b ys q=>u.hb b _ q (fun z=>by subst z;exact e2.ur q) fun z=>by subst z;exact g2.ur q⟩
def uU (i j:Nat) (g:Fn (List PV)):Fn (List PV):=fun ρ=>match ownAt i ρ,ownAt j ρ with
 | some p,some q=>bnd (g ρ) fun l=>some (.ok (p::q::l))
 | _,_=>none
def Ju (i j:Nat) (m:List PV->Option (Res PV)) (g:Fn (List PV)):Sn:=fun ρ=>ik (uU i j g ρ) fun l=>match m l with
 | some (.ok (.tup [p',q']))=>some (.nx ((ρ.set i (some (.ow p'))).set j (some (.ow q'))))
 | _=>none
theorem R8 {i j:Nat}{ts:TA}{g:Fn (List PV)}{m:List PV->Option (Res PV)} (ij:i≠j) (h:MA K C ts g):MS K C (GJ (vD (CT K m) [] C.E (kE (lO i) (kE (lO j) ts)))) (Ju i j m g):=by
 intro F H σ ρ D o R e P
 unfold Ju uU at e
 cases hp:ownAt i ρ with
 | none=>rw [hp] at e;cases e
 | some p =>
 cases hq:ownAt j ρ with
 | none=>rw [hp,hq] at e;cases e
 | some q =>
 rw [hp,hq] at e
 have ep:=bG hp
 have eq:=bG hq
 obtain ⟨a,ea,_⟩:=R.ow i p ep
 obtain ⟨c,ec,_⟩:=R.ow j q eq
 refine ⟨_,ea,_,ec,?_⟩
 rcases cP e with ⟨z,e1,rfl⟩ | ⟨l,e1,e2⟩
 ·rcases bQ e1 with ⟨z',e3,ez⟩ | ⟨l,e3,e4⟩
  ·cases ez;exact h F H σ ρ _ _ R e3 P
  ·cases e4
 ·rcases bQ e1 with ⟨z',e3,ez⟩ | ⟨l',e3,e4⟩
  ·cases ez
  cases e4
  refine h F H σ ρ _ _ R e3 fun xs F1 H1 u rr=>?_
  have R1:=R.up u
  obtain ⟨a',ea',w1,n1,_⟩:=R1.ow i p ep
  obtain ⟨c',ec',w2,n2,_⟩:=R1.ow j q eq
  rw [ea] at ea';cases ea'
  rw [ec] at ec';cases ec'
  have ac:a≠c:=fun z=>by subst z;exact ij (R.dis i j p q a ep eq ea ec)
  split at e2
  ·rename_i p' q' hm
   cases e2
   refine ⟨p::q::l',F1,a,c,p,q,p',q',u.fh,⟨by simp [rr.1],rfl,rfl,rfl,rfl,fun k x r hk ex er=>?_⟩,ac,w1,n1,w2,n2,hm,fun F2 H2 u2 o1 m1 o2 m2=>?_⟩
   ·obtain ⟨k,rfl⟩:∃ k',k=k'+2:=⟨k - 2,by omega⟩
    exact rr.2 k x r (by simpa using ex) (by simpa using er)
   ·exact P F2 H2 σ (u.ff.trans u2.ff) (R1.UL ij ep ea eq ec u2 o1 m1 o2 m2)
  ·cases e2
theorem CW {k i:Nat}{te tb:TE}{fe fk:Fn PV} (he:MJ K C (aF K) te fe) (hk:MJ K C (aF K) tb fk):MSk K C k (Km (lO i) tb te) (ux i fe fk):=by
 intro F H σ ρ D o R e P
 refine he.Lf R e P fun p v F1 H1 hk1 u a=>?_
 split at hk1
 case h_2=>cases hk1
 rename_i d hd
 obtain ⟨b,g1,_⟩:=R.ow i _ (bG hd)
 refine ⟨_,g1,hk.Lf (R.up u) hk1 (P.up u.ff) fun kk w F2 H2 hk2 u2 rk=>?_⟩
 split at hk2
 case h_2=>cases hk2
 rename_i d' hd'
 cases hk2
 have R2:=R.up (u.trans u2)
 obtain ⟨a',k1,k2,_⟩:=R2.ow i _ (bG hd)
 rw [g1] at k1
 cases k1
 obtain ⟨ob,g,w'⟩:=Ad u2.fh k2 rk (Rep.up a u2.ff) hd'
 exact ⟨b,_,rfl,g,P F2 _ σ (u.trans u2).ff (R2.write (bG hd) g1 w') rfl⟩
theorem Jv {k:Nat}{c:TT}{fc:Fn Bool}{f:Sn} (n:Nat) (hc:MT K C c fc) (hb:MSk K C k t f):MSk K C k (Fg c t) (gr fc f n):=by
 intro F H σ ρ D o R e P
 refine ⟨fun m σ' H'=>∃ F' ρ',aR F F'∧RE K C.toCf F' H' σ' ρ'∧σ'[k]?=σ[k]?∧gr fc f m ρ'=some o,⟨n,F,ρ,aR.refl _,R,rfl,e⟩,?_⟩
 rintro m σ' H' ⟨F',ρ',s,R',kk,e'⟩
 cases m with
 | zero=>cases e'
 | succ m =>
  refine hc.Lf R' e' (P.up s) fun b F1 H1 hk u=>?_
  have sF:aR F F1:=s.trans u.ff
  have R1:=R'.up u
  cases b with
  | false =>
   rw [if_neg (by decide)] at hk ⊢
   cases hk
   exact P F1 H1 σ' sF R1 kk
  | true =>
   rw [if_pos rfl] at hk ⊢
   refine ⟨fun σ2 H2=>∃ F2 ρ2,aR F F2∧RE K C.toCf F2 H2 σ2 ρ2∧σ2[k]?=σ[k]?∧gr fc f m ρ2=some o,fun σ2 H2 ⟨F2,ρ2,s2,R2,k2,e2⟩=>⟨m,Nat.lt_succ_self _,F2,ρ2,s2,R2,k2,e2⟩,?_⟩
   split at hk
   ·rename_i ρ2 h2
    exact hb F1 H1 σ' ρ' _ _ R1 h2 fun F3 H3 σ3 s3 R3 k3=>⟨F3,ρ2,sF.trans s3,R3,k3.trans kk,hk⟩
   ·rename_i ρ2 h2
    exact hb F1 H1 σ' ρ' _ _ R1 h2 fun F3 H3 σ3 s3 R3 k3=>⟨F3,ρ2,sF.trans s3,R3,k3.trans kk,hk⟩
   ·rename_i ρ2 h2
    cases hk
    exact hb F1 H1 σ' ρ' _ _ R1 h2 fun F3 H3 σ3 s3 R3 k3=>P F3 H3 σ3 (sF.trans s3) R3 (k3.trans kk)
   ·rename_i n1 n2 n3
    cases o with
    | nx ρ2=>exact absurd hk (n1 ρ2)
    | ct ρ2=>exact absurd hk (n2 ρ2)
    | bk ρ2=>exact absurd hk (n3 ρ2)
    | rt p=>exact hb F1 H1 σ' ρ' _ _ R1 hk (POk.up (D:=D) (c:=σ[k]?) P sF)
    | ro p=>exact hb F1 H1 σ' ρ' _ _ R1 hk (POk.up (D:=D) (c:=σ[k]?) P sF)
    | rd p=>exact hb F1 H1 σ' ρ' _ _ R1 hk (POk.up (D:=D) (c:=σ[k]?) P sF)
    | ex z=>exact hb F1 H1 σ' ρ' _ _ R1 hk (PX.up P sF)
end
end L2.MP
namespace L2
open PySem PySem.Spec PyProof PyProof.Rows
section
variable {X:Cx}
end
namespace MP
section
variable {K:PySem.W.Frag}{C:Cg}
end
end MP
namespace MP
section
variable {K:PySem.W.Frag}{C:Cg}
end
end MP
theorem Af {h:Heap}{vs:List Value}{out:Array Value}{b:Addr}{o:Obj} (hb:h.get? b=some o):(sortedHeap (h.push (seqObj "list" vs.toArray 0)) h.objs.size vs out).get? b=some o:=by
 have hlt:b < h.objs.size:=Zak hb
 rw [sortedHeap_old (Zaw hlt) (by rw [size_push'];exact Nat.lt_succ_of_lt hlt)]
 exact Zac _ hb
section
variable {X:Cx}
end
namespace MP
section
variable {K:PySem.W.Frag}{C:Cg}
end
end MP
end L2
namespace L2.MP
open PySem PySem.Spec PyProof.Rows
section
variable {K:PySem.W.Frag}{C:Cg}{te:TE}{F F' G H H1 H':Hp}{σ:St}{ρ:Rho}{D:Ends}{t:TS}{f:Sn}{o:Out}{S:Addr->Prop}{v:V}{p:PV}
theorem Rep.qd:∀ {n:Nat}{v:V}{p:PV},Rep K F v p->MP.qd n p=true->(∀ b ys,F b=some (.tup ys)->G b=some (.tup ys))->Rep K G v p
 | 0,v,p,h,hs,g=>h.free hs
 | n+1,v,p,h,hs,g=>by
  cases h with
  | non=>exact .non
  | bl=>exact .bl
  | int=>exact .int
  | str=>exact .str
  | ty=>exact .ty
  | tup h hl hr=>exact .tup (g _ _ h) hl fun j x p a b=>(hr j x p a b).qd (n:=n) (ZaW.mp hs p (Zag b)) g
  | lst=>cases hs
  | dk=>cases hs
  | dt=>cases hs
  | exc=>cases hs
  | exc0=>cases hs
theorem Dp.toG (d:Dp K F H S v p) (g:∀ b ys,F b=some (.tup ys)->G b=some (.tup ys)):Dp K G H S v p:=by
 induction d with
 | fr h st=>exact .fr (h.qd st g) st
 | lst h hp hs dj hl _ ih=>exact .lst h hp hs dj hl ih
 | tup h hs dj hl _ ih=>exact .tup h hs dj hl ih
 | dk h hp hs dj hl _ ih=>exact .dk h hp hs dj hl ih
 | dt h hp hs dj hl _ ih=>exact .dt h hp hs dj hl ih
def Ag (m:List PV->Option (Res PV)) (f:Fn (List PV)):Fn PV:=fun ρ=>bnd (f ρ) fun l=>match m l with
 | some (.ok p)=>some (.ok p)
 | _=>none
theorem Lp {t:TA}{f:Fn (List PV)}{m:List PV->Option (Res PV)} (h:MAL K C t f):MD K C (vD (spD K C.XR m) [] C.E t) (Ag m f):=by
 intro F H σ ρ Q r R e P
 refine h.run R e P fun l xs F1 H1 hk u a=>?_
 split at hk
 ·rename_i p hp
  cases hk
  refine ⟨l,H1,.ok p,aR.refl _,by rw [Za8];exact a,hp,fun v F' H' S u' d n=>?_⟩
  have s1:aR F1 H':=u.fh.trans u'.hh
  refine P v (uE F1 H' fun _=>False) H' S ⟨u.ff.trans (jr s1),u.hh.trans u'.hh,fun b o q=>?_,rG s1⟩ (d.toG fun b ys q=>?_) fun b q=>?_
  ·by_cases hb:False∨∃ ys,H' b=some (.tup ys)
   ·rw [gA hb] at q
    obtain ⟨ys,z⟩:=hb.resolve_left id
    rw [z] at q;cases q
    exact .inr (.inr ⟨ys,rfl⟩)
   ·rw [fQ hb] at q
    exact u.fr b o q
  ·have:=u'.fh _ _ q
   rw [gA (.inr ⟨ys,this⟩)];exact this
  ·obtain ⟨n1,n2,o,n3,n4⟩:=n b q
   refine ⟨u.hh.free n1,?_,o,n3,n4⟩
   rw [fQ]
   ·exact u.fh.free n1
   ·rintro (z | ⟨ys,z⟩)
    ·exact z
    ·rw [n3] at z;cases z;exact n4 ys rfl
 ·cases hk
def uy (i:Nat) (f:Sn):Sn:=fun ρ=>match Ae i ρ with
 | some p=>f (ρ.set i (some (.sh p)))
 | none=>none
theorem Ah (i:Nat) (h:MS K C t f):MS K C t (uy i f):=by
 intro F H σ ρ D o R e P
 unfold uy at e
 split at e
 ·rename_i p hp
  obtain ⟨S,v,_,_,_,R'⟩:=R.UG (iJ hp)
  exact h _ H σ _ D o R' e (P.up (jr R.rb.sub))
 ·cases e
def Vn (C:Cf) (js:List Nat) (ρ:Rho) (σ:St) (H F' H':Hp) (S:Addr->Prop):Prop:=∀ b,S b->(H b=none∨∃ i p,i∈js∧ρ[i]?=some (some (.ow p))∧σ[i]?=some (some (.ref b)))∧F' b=none∧(∃ o,H' b=some o∧∀ ys,o≠.tup ys)∧C.H0 b=none
def MDo (K:PySem.W.Frag) (C:Cg) (js:List Nat) (ta:TA) (f:Fn (List PV)):Prop :=
 ∀ F H σ ρ Q r,RE K C.toCf F H σ ρ->f ρ=some r->Pr C F (fun l=>∀ xs F' H' S,Up F H F' H'->Dps K F' H' S xs l->Vn C.toCf js ρ σ H F' H' (fun b=>∃ j,S j b)->Q xs H') r->ta σ H Q
theorem Hj:MDo K C [] xW bF:=fun F H σ ρ Q r R e P=>by
 cases e
 exact P [] F H (fun _ _=>False) (Up.refl R.rb.sub) ⟨rfl,fun _ _ _ q=>q.elim,fun j x p e=>by simp at e⟩ fun b ⟨_,q⟩=>q.elim
theorem CZ {js:List Nat}{fe:Fn PV}{fs:Fn (List PV)}{ts:TA} (h:MD K C te fe) (hs:MDo K C js ts fs):MDo K C js (kE te ts) (aB fe fs):=by
 intro F H σ ρ Q r R e P
 rcases bQ e with ⟨z,e1,rfl⟩ | ⟨p,e1,hk⟩
 ·exact h F H σ ρ _ _ R e1 P
 refine h F H σ ρ _ _ R e1 fun v F1 H1 S u d n=>?_
 rcases bQ hk with ⟨z,e2,rfl⟩ | ⟨l,e2,hk2⟩
 ·exact hs F1 H1 σ ρ _ _ (R.up u) e2 (PX.up P u.ff)
 refine hs F1 H1 σ ρ _ _ (R.up u) e2 fun xs F2 H2 S2 u2 d2 n2=>?_
 cases hk2
 have ap:∀ b j,S b->S2 j b->False:=fun b j a1 a2=>by
  obtain ⟨c0,_,o,c1,_⟩:=n b a1
  rcases (n2 b ⟨j,a2⟩).1 with c2 | ⟨i,q,_,c2,c3⟩
  ·rw [c1] at c2;cases c2
  ·exact R.apart c0 i q c2 c3
 refine P (v::xs) F2 H2 (fun j b=>match j with | 0=>S b | j+1=>S2 j b) (u.trans u2) ⟨by simp [d2.1],fun i j b a1 a2=>?_,fun j x q a1 a2=>?_⟩ ?_
 ·match i,j,a1,a2 with
  | 0,0,_,_=>rfl
  | 0,j+1,a1,a2=>exact (ap b j a1 a2).elim
  | i+1,0,a1,a2=>exact (ap b i a2 a1).elim
  | i+1,j+1,a1,a2=>exact congrArg (·+1) (d2.2.1 i j b a1 a2)
 ·match j,a1,a2 with
  | 0,a1,a2=>cases a1;cases a2;exact d.stay u2
  | j+1,a1,a2=>exact d2.2.2 j x q (by simpa using a1) (by simpa using a2)
 ·rintro b ⟨j,q⟩
  match j,q with
  | 0,q =>
   obtain ⟨c0,c1,o,c2,c3⟩:=(n.up u2) b q
   exact ⟨.inl c0,c1,⟨o,c2,c3⟩,R.rb.ut c0⟩
  | j+1,q =>
   obtain ⟨c1,c2⟩:=n2 b ⟨j,q⟩
   exact ⟨c1.imp (fun z=>u.hh.free z) id,c2⟩
def PV.mj:PV->Bool
 | .lst l=>l.all PV.still
 | .dk l=>l.all fun kv=>kv.2.still
 | .dt l=>l.all fun kv=>kv.2.still
 | _=>false
def pL (i:Nat):Fn PV:=fun ρ=>match ownAt i ρ with
 | some p=>if p.mj=true then some (.ok p) else none
 | none=>none
theorem Own.dp {a:Addr} (w:Own K F H a p) (h:p.mj=true):Dp K F H (fun b=>b=a) (.ref a) p:=by
 cases p with
 | lst l =>
  obtain ⟨xs,e2,e3⟩:=w
  exact .lst (S:=fun _ _=>False) e2 rfl (fun j b q=>q.elim) (fun i j b q=>q.elim) e3.1 fun j x p e4 e5=>.fr (e3.2 j x p e4 e5) (ZaW.mp h p (Zag e5))
 | dk l =>
  obtain ⟨xs,e2,e3,e4⟩:=w
  exact .dk (S:=fun _ _=>False) e2 rfl (fun j b q=>q.elim) (fun i j b q=>q.elim) e3 fun j x p e5 e6=>.fr (e4 j x p e5 e6) (ZaW.mp h p (Zag e6))
 | dt l =>
  obtain ⟨xs,e2,e3,e4⟩:=w
  exact .dt (S:=fun _ _=>False) e2 rfl (fun j b q=>q.elim) (fun i j b q=>q.elim) e3 fun j x p e5 e6=>.fr (e4 j x p e5 e6) (ZaW.mp h p (Zag e6))
 | _=>cases h
theorem uV {js:List Nat} (i:Nat) {fs:Fn (List PV)}{ts:TA} (hio:∀ a,¬C.io a) (hi:i ∉ js) (hs:MDo K C js ts fs):MDo K C (i::js) (kE (lO i) ts) (aB (pL i) fs):=by
 intro F H σ ρ Q r R e P
 rcases bQ e with ⟨z,e1,rfl⟩ | ⟨p,e1,hk⟩
 ·unfold pL at e1
  split at e1
  ·split at e1 <;> cases e1
  ·cases e1
 have hp:ρ[i]?=some (some (.ow p))∧p.mj=true:=by
  unfold pL at e1
  split at e1
  ·rename_i q hq
   split at e1
   ·rename_i sh;cases e1;exact ⟨bG hq,sh⟩
   ·cases e1
  ·cases e1
 obtain ⟨a,ea,w,na,e4⟩:=R.ow i p hp.1
 refine ⟨_,ea,?_⟩
 rcases bQ hk with ⟨z,e2,rfl⟩ | ⟨l,e2,hk2⟩
 ·exact hs F H σ ρ _ _ R e2 P
 refine hs F H σ ρ _ _ R e2 fun xs F2 H2 S2 u2 d2 n2=>?_
 cases hk2
 obtain ⟨a',ea',w2,na2,_⟩:=(R.up u2).ow i p hp.1
 rw [ea] at ea';cases ea'
 obtain ⟨ob,eob⟩:=w.ne
 have ap:∀ j,S2 j a->False:=fun j q=>by
  rcases (n2 a ⟨j,q⟩).1 with c | ⟨k,q',hk',c2,c3⟩
  ·rw [eob] at c;cases c
  ·have:=R.dis i k p q' a hp.1 c2 ea c3
   subst this
   exact hi hk'
 refine P (.ref a::xs) F2 H2 (fun j b=>match j with | 0=>b=a | j+1=>S2 j b) u2 ⟨by simp [d2.1],fun i j b a1 a2=>?_,fun j x q a1 a2=>?_⟩ ?_
 ·match i,j,a1,a2 with
  | 0,0,_,_=>rfl
  | 0,j+1,a1,a2=>cases a1;exact (ap j a2).elim
  | i+1,0,a1,a2=>cases a2;exact (ap i a1).elim
  | i+1,j+1,a1,a2=>exact congrArg (·+1) (d2.2.1 i j b a1 a2)
 ·match j,a1,a2 with
  | 0,a1,a2=>cases a1;cases a2;exact w2.dp hp.2
  | j+1,a1,a2=>exact d2.2.2 j x q (by simpa using a1) (by simpa using a2)
 ·rintro b ⟨j,q⟩
  match j,q with
  | 0,q =>
   cases q
   obtain ⟨ob2,eob2⟩:=w2.ne
   exact ⟨.inr ⟨i,p,List.mem_cons_self,hp.1,ea⟩,na2,⟨ob2,eob2,fun ys z=>by subst z;exact w2.ur eob2⟩,(e4.resolve_left (hio a)).2⟩
  | j+1,q =>
   obtain ⟨c1,c2⟩:=n2 b ⟨j,q⟩
   exact ⟨c1.imp id fun ⟨k,q',hk',z⟩=>⟨k,q',List.mem_cons_of_mem _ hk',z⟩,c2⟩
def Dc (fs:Fn (List PV)):Sn:=fun ρ=>ik (fs ρ) fun l=>if l.length≤sizeLine then some (.rd (.tup l)) else none
theorem Hk {js:List Nat}{fs:Fn (List PV)}{ts:TA} (h:MDo K C js ts fs):MS K C (Iu (Ru ts)) (Dc fs):=by
 intro F H σ ρ D o R e P
 rcases cP e with ⟨z,e1,rfl⟩ | ⟨l,e1,hk⟩
 ·exact h F H σ ρ _ _ R e1 P
 split at hk
 ·rename_i hl
  cases hk
  refine h F H σ ρ _ _ R e1 fun xs F1 H1 S u d n=>⟨by rw [d.1];exact hl,fun a ha=>?_⟩
  have u2:Up F1 H1 F1 (upd H1 a (.tup xs)):=⟨aR.refl _,dI ha,fun _ _ q=>.inl q,fun b o q=>by rw [aG (fun z=>by subst z;have:=u.fh _ _ q;rw [ha] at this;cases this)];exact u.fh b o q⟩
  refine P (.ref a) F1 _ (fun b=>∃ j,S j b) u.ff (R.rb.up (u.trans u2)) (.tup aL (fun j b q=>⟨j,q⟩) d.2.1 d.1 fun j x p a1 a2=>(d.2.2 j x p a1 a2).stay u2) fun b q=>?_
  obtain ⟨_,c1,⟨o,c2,c3⟩,c4⟩:=n b q
  exact ⟨c1,⟨o,u2.hh _ _ c2,c3⟩,c4⟩
 ·cases hk
end
open PySem PySem.Spec PyProof PyProof.Rows
section
variable {K:PySem.W.Frag}{C:Cg}
end
section
variable {K:PySem.W.Frag}{C:Cg}{te ta tb:TE}{F F1 F2 H H1 H2:Hp}{σ:St}{ρ:Rho}{D:Ends}{t u:TS}{f g:Sn}{o:Out}{S:Addr->Prop}{v:V}{p:PV}
end
end L2.MP
namespace L2
open PySem PySem.Spec PyProof PyProof.Rows
def pH (h:Heap) (d:Addr) (es:Array DictEntry) (ep:Nat):Prop:=∃ o,h.get? d=some o∧o.ExactDict∧o.data=.dict es ep
section
variable {prog:Program}{w:World}{A:Around}{E:Value->Shared->Prop}{s:Shared}{h h':Heap}{d it:Addr}{es:Array DictEntry}{ep i:Nat}
theorem pH.step (r:pH h d es ep) (k:∀ o,h.get? d=some o->h'.get? d=some o):pH h' d es ep:=by
 obtain ⟨o,e,q⟩:=r;exact ⟨o,k o e,q⟩
theorem pH.small (r:pH h d es ep):d < h.objs.size:=by obtain ⟨o,e,_⟩:=r;exact Zak e
theorem pH.ty (r:pH s.heap d es ep):s.TypeIs (.ref d) "dict":=by
 obtain ⟨o,e,c,_⟩:=r;exact ⟨o,e,c.1⟩
theorem De {Q:Value->Shared->Prop} (nd:(d == sysModules)=false) (r:pH s.heap d es ep)
  (q:Q (.ref s.heap.objs.size) { s with heap:=s.heap.push { cls:=.type "dict_keyiterator",data:=.fields #[.ref d,.int 0 0,.int es.size 0,.int ep 0] } }):wpAny (model prog w) A (pyIter (.ref d)) Q E s:=by
 obtain ⟨o,e1,e2,e3⟩:=id r
 refine wpAny_pyIter_slot r.ty PySem.F.slot_dict_iter (wpAny_call_entry PySem.F.slot_dict_iter r.ty PySem.F.entry_dict_iter ?_ (PySem.F.args_dict_iter_1 _))
 unfold Builtin.«dict.__iter__»
 refine wpAny_bind (m:=Builtin.Dict.dictSlotNone _ _) ?_
 unfold Builtin.Dict.dictSlotNone
 refine wpAny_bind (wpAny_notOrdered_dict r.ty (wpAny_pure ?_))
 show wpAny _ _ (Builtin.Dict.showsAll d >>= _) _ _ _
 unfold Builtin.Dict.showsAll
 rw [nd,if_neg Zbd]
 refine wpAny_bind (wpAny_pure (wpAny_bind (wpAny_dictEntries e1 e3 (wpAny_bind (wpAny_dictEpoch e1 e3 ?_)))))
 refine wpAny_bind (wpAny_newObj_type (wpAny_pure ⟨_,rfl,"dict_keyiterator",_,⟨_,Zal _ rfl,rfl⟩,ZaY.lookup,?_⟩))
 simpa [rawInt] using q
theorem Lq {Q:Option Value->Shared->Prop}{x:DictEntry} (hi:s.heap.IsKeyIter it d i es.size ep) (r:pH s.heap d es ep) (hx:es[i]?=some x)
  (q:∀ h',h'.IsKeyIter it d (i+1) es.size ep->Heap.SameBut it s.heap h'->Q (some x.key) { s with heap:=h' }):wpAny (model prog w) A (pyNext (.ref it)) Q E s:=by
 obtain ⟨io,i1,i2,i3⟩:=id hi
 obtain ⟨o,e1,e2,e3⟩:=id r
 have lt:i < es.size:=by
  rcases Nat.lt_or_ge i es.size with z | z
  ·exact z
  ·rw [ZbB z] at hx;cases hx
 have ex:es[i]=x:=by rw [Zau lt] at hx;exact Zaa hx
 unfold pyNext
 refine wpAny_bind (wpAny_attempt (wpAny_callSpecial?_slot (name:=Str.ofString "__next__") hi.typeIs ZaY (wpAny_call_entry ZaY hi.typeIs PySem.F.entry_dict_keyiterator_next ?_ (PySem.F.args_dict_keyiterator_next_1 _))))
 refine wpAny_bind (wpAny_pure (wpAny_bind (wpAny_bind ?_)))
 first
  | refine wpAny_bind (wpAny_typeNameOfWhole_keyiter hi.typeIs (wpAny_pure ?_))
  | refine wpAny_bind (wpAny_typeNameOf_keyiter hi.typeIs (wpAny_pure ?_))
 refine wpAny_bind (wpAny_fieldsOf i1 i3 ?_)
 simp only [show Builtin.Dict_items.ownsTuple "dict_keyiterator"=false by decide,Za0,if_false]
 show wpAny _ _ (if (Value.ref d == .none)=true then _ else _) _ _ _
 rw [if_neg (show ¬(Value.ref d == .none)=true from Zbd)]
 refine wpAny_bind (wpAny_pure (wpAny_bind (wpAny_dictEntries e1 e3 ?_)))
 rw [if_neg (by simp)]
 refine wpAny_bind (wpAny_pure (wpAny_bind (wpAny_dictEpoch e1 e3 ?_)))
 rw [if_neg (by simp)]
 refine wpAny_pure ?_
 simp only [show ¬((i:Int) < 0) by lia,if_false,ZaG,Zau lt]
 refine wpAny_bind ?_
 first
  | refine wpAny_bind (wpAny_typeNameOfWhole_keyiter hi.typeIs (wpAny_pure ?_))
  | refine wpAny_bind (wpAny_typeNameOf_keyiter hi.typeIs (wpAny_pure ?_))
 refine wpAny_bind (wpAny_isOneOf_keyiter hi.typeIs ?_)
 show wpAny _ _ (setField (.ref it) 1 (rawInt ((i:Int)+1)) >>= _) _ _ _
 refine wpAny_bind (wpAny_setField i1 i3 (by simp) ?_)
 have next:(s.heap.update it (Obj.mapFields (·.setIfInBounds 1 (rawInt ((i:Int)+1))))).IsKeyIter it d (i+1) es.size ep :=
  ⟨_,Heap.get?_update_self _ i1 (Obj.isFreed_of_fields (Obj.data_mapFields i3 _)),(Obj.cls_mapFields ..).trans i2,by rw [Obj.data_mapFields i3];simp [rawInt]⟩
 refine wpAny_bind (wpAny_holding (wpAny_bind (wpAny_isOneOf_keyiter (s:={ s with heap:=s.heap.update it (Obj.mapFields (·.setIfInBounds 1 (rawInt ((i:Int)+1)))) }) next.typeIs ?_)))
 show wpAny _ _ (pure es[i].key) _ _ _
 rw [ex]
 exact wpAny_pure (wpAny_pure ⟨_,rfl,wpAny_pure (q _ next (Zbr ..))⟩)
theorem O5 {Q:Option Value->Shared->Prop} (hh:A.handled=none) (hi:s.heap.IsKeyIter it d es.size es.size ep) (r:pH s.heap d es ep)
  (q:∀ h',Heap.ExtBut it s.heap h'->Q none { s with heap:=h' }):wpAny (model prog w) A (pyNext (.ref it)) Q E s:=by
 obtain ⟨io,i1,i2,i3⟩:=id hi
 obtain ⟨o,e1,e2,e3⟩:=id r
 unfold pyNext
 refine wpAny_bind (wpAny_attempt (wpAny_callSpecial?_slot (name:=Str.ofString "__next__") hi.typeIs ZaY (wpAny_call_entry ZaY hi.typeIs PySem.F.entry_dict_keyiterator_next ?_ (PySem.F.args_dict_keyiterator_next_1 _))))
 refine wpAny_bind (wpAny_pure (wpAny_bind (wpAny_bind ?_)))
 first
  | refine wpAny_bind (wpAny_typeNameOfWhole_keyiter hi.typeIs (wpAny_pure ?_))
  | refine wpAny_bind (wpAny_typeNameOf_keyiter hi.typeIs (wpAny_pure ?_))
 refine wpAny_bind (wpAny_fieldsOf i1 i3 ?_)
 simp only [show Builtin.Dict_items.ownsTuple "dict_keyiterator"=false by decide,Za0,if_false]
 show wpAny _ _ (if (Value.ref d == .none)=true then _ else _) _ _ _
 rw [if_neg (show ¬(Value.ref d == .none)=true from Zbd)]
 refine wpAny_bind (wpAny_pure (wpAny_bind (wpAny_dictEntries e1 e3 ?_)))
 rw [if_neg (by simp)]
 refine wpAny_bind (wpAny_pure (wpAny_bind (wpAny_dictEpoch e1 e3 ?_)))
 rw [if_neg (by simp)]
 refine wpAny_pure ?_
 simp only [show ¬((es.size:Int) < 0) by omega,if_false,ZaG,ZbB (Zaf _)]
 refine wpAny_bind ?_
 first
  | refine wpAny_bind (wpAny_typeNameOfWhole_keyiter hi.typeIs (wpAny_pure ?_))
  | refine wpAny_bind (wpAny_typeNameOf_keyiter hi.typeIs (wpAny_pure ?_))
 show wpAny _ _ (setField (.ref it) 0 .none >>= _) _ _ _
 refine wpAny_bind (wpAny_setField i1 i3 (by simp) ?_)
 show wpAny _ _ (newExc (.type "StopIteration") [] >>= _) _ _ _
 refine wpAny_bind ?_
 simp only [newExc,newTuple]
 refine wpAny_bind (wpAny_newObj_type ?_ (by size_fits))
 refine wpAny_bind (m:=firstArgMember _ _) (wpAny_of_eq (a:=.none) (by first | rfl | (simp only [firstArgMember];rfl)) (wpAny_newObj_type ?_ (by size_fits)))
 simp only [raiseNew]
 refine wpAny_bind (wpAny_handled ?_)
 rw [show A.in1.handled=none from hh]
 refine wpAny_bind (wpAny_pure (wpAny_throw ?_))
 refine wpAny_bind (wpAny_isInstance (T:="StopIteration") (b:=true) ⟨_,Zal _ rfl,rfl⟩ isSubtype_stop ?_)
 exact wpAny_pure (q _ (((Zbr ..).extBut.push _).push _))
theorem t7 (hh:A.handled=none) (I d:Addr) (ne:d≠I) (es:Array DictEntry) (ep:Nat) :
  Walks prog w A I [I,d] [I] es.size (fun i v=>∃ x,es[i]?=some x∧v=x.key) (fun i h=>h.IsKeyIter I d i es.size ep∧pH h d es ep) where
 sub:=fun b hb=>by simp at hb;simp [hb]
 frame:=fun _ _ _ z k=>⟨z.1.at fun o e=>k I (by simp) o e,z.2.step fun o e=>k d (by simp) o e⟩
 item:=fun i s Q E lt z q=>Lq z.1 z.2 (Zau lt) fun h' a b=>q _ h' s.toks ⟨_,Zau lt,rfl⟩ ⟨a,z.2.step fun o e=>b.extBut d o ne e⟩ fun c o hc e=>b.extBut c o (fun y=>hc (by simp [y])) e
 done:=fun s Q E z q=>O5 hh z.1 z.2 fun h' b=>q h' s.toks fun c o hc e=>b c o (fun y=>hc (by simp [y])) e
 self:=fun _ _ _ _ z q=>wpAny_pyIter_keyiter z.1 q
theorem O6 (nd:(d == sysModules)=false):PySem.W.KdlSrc prog w "dict" d d es.size (fun i v=>∃ x,es[i]?=some x∧v=x.key) (fun h=>pH h d es ep) where
 type:=fun _ z=>z.ty
 there:=fun _ z=>⟨z.small,z.small⟩
 keep:=fun _ _ z k=>z.step fun o e=>k d (.inl rfl) o e
 notList:=by decide
 notTuple:=by decide
 hint:=fun _ _ _ _ z q=>PySem.W.kdl_hint_dict z.ty q
 iter:=fun _ _ hh z=>⟨_,_,(fun _ _ q=>De nd z q),t7 hh _ d (Zaw z.small) es ep,⟨⟨_,Zal _ rfl,rfl,rfl⟩,z.step fun _ e=>Zac _ e⟩⟩
end
open PySem PySem.W PyProof.Rows
def kIn {α:Type} (n:Nat) (P:α->Prop):KasT α->Prop
 | .ret a=>P a
 | .ask i j k=>i < n∧j < n∧∀ b,kIn n P (k b)
section
variable {n:Nat}{p:Array Nat}
end
open PySem PySem.Spec PySem.W PyProof PyProof.Rows
section
variable {prog:Program}{w:World}{A:Around}{E:Value->Shared->Prop}{s:Shared}{u v:Value}{p q:Str×Int}
end
open PySem PySem.Spec PySem.W PyProof PyProof.Rows
theorem KT.at {H:Hp}{kvs:List (List Key×V)}{xs:List (List Key×Addr×Value)} (r:KT H kvs xs):xs.length=kvs.length∧∀ (i:Nat) k,(kvs.map (·.1))[i]?=some k->∃ b u,xs[i]?=some (k,b,u)∧H b=some (.tup (k.map kV)):=by
 induction r with
 | nil=>exact ⟨rfl,fun i k h=>by simp at h⟩
 | @cons p q ps qs hq t ih =>
  refine ⟨by simp [ih.1],fun i k h=>?_⟩
  cases i with
  | zero =>
   have h:p.1=k:=by simpa using h
   subst h
   obtain ⟨q1,b,u⟩:=q
   exact ⟨b,u,by rw [hq.1];rfl,hq.2.1⟩
  | succ i=>exact ih.2 i k (by simpa using h)
theorem wB {α:Type}{f:α->V}{g:α->Value}:∀ {l:List α},(∀ i∈l,RelV (f i) (g i))->Vals (l.map f) (l.map g)
 | [],_=>.nil
 | i::l,h=>.cons (h i List.mem_cons_self) (wB fun j hj=>h j (List.mem_cons_of_mem _ hj))
section
variable {X:Cx}
end
namespace MP
section
variable {K:PySem.W.Frag}{C:Cg}
theorem Up.tups {F H:Hp}{l:Addr}{o:HO} (s:aR F H) (hl:H l=none):Up F H (uE F H fun _=>False) (upd H l o):=by
 refine ⟨jr s,dI hl,fun b o q=>?_,(rG s).trans (dI hl)⟩
 by_cases hb:False∨∃ ys,H b=some (.tup ys)
 ·rw [gA hb] at q
  obtain ⟨ys,z⟩:=hb.resolve_left id
  rw [z] at q;cases q
  exact .inr (.inr ⟨ys,rfl⟩)
 ·rw [fQ hb] at q
  exact .inl q
end
end MP
end L2
namespace L2.MP
open PySem PySem.Spec PyProof.Rows
section
variable {K:PySem.W.Frag}{C:Cg}{te:TE}
end
section
variable {K:PySem.W.Frag}{C:Cg}{te ta tb:TE}{F F1 F2 H H1 H2:Hp}{σ:St}{ρ:Rho}{D:Ends}{S:Addr->Prop}{v:V}{p:PV}
theorem Df {α:Type}{l:List α}{i:Nat}{x:α} (h:l[i]?=some x):l.set i x=l:=by
 apply Zbo
 intro j
 rw [List.getElem?_set]
 split
 ·rename_i e;subst e;rw [if_pos (cJ h),h]
 ·rfl
theorem Lr {α:Type} (l:List α) (i:Nat) (x y:α):(l.set i x).set i y=l.set i y:=by simp
end
end L2.MP
namespace L2
open PySem PySem.F PySem.Spec PyProof PyProof.Rows
section
variable {prog:Program}{w:World}{A:Around}{E:Value->Shared->Prop}{s:Shared}{t:Tok}{n:Int}
end
section
variable {M:Model}{A:Around}{E:Value->Shared->Prop}{s:Shared}
end
namespace MP
section
variable {K:PySem.W.Frag}{C:Cg}{tA:TA}
end
end MP
open PySem PySem.Spec PyProof PyProof.Rows
section
variable {K:Type} [DecidableEq K]
variable {prog:Program}{w:World}{knd:HeapKind prog w K}{A:Around}{E:Value->Shared->Prop}{s:Shared}{d a:Addr}{k:K}{xs:List (K×Addr×Value)}{p:Addr×Value}
end
section
variable {X:Cx}{pins:List (Addr×Obj)}{σ:St}{H:Hp}{s:Shared}{a b:Addr}{kvs:List (List Key×V)}{k:List Key}{A:Around}{E:Value->Shared->Prop}
end
section
variable {X:Cx}{o e:Expr}{apos cpos:Pos}{td ty:TE}
end
namespace MP
section
variable {K:PySem.W.Frag}{C:Cg}
end
end MP
open PySem PySem.Spec PySem.W PyProof PyProof.Rows
section
variable {X:Cx}
theorem yO:∀ {bs:List Addr}{its:List Value},Vals (bs.map V.ref) its->its=bs.map Value.ref
 | [],its,r=>by cases r;rfl
 | b::bs,its,r=>by
  cases r with
  | cons r1 r2 =>
   cases r1
   rw [yO r2];rfl
end
namespace MP
section
variable {K:PySem.W.Frag}{C:Cg}
end
end MP
end L2
namespace L2.MP
open PySem PySem.Spec PyProof.Rows
section
variable {K:PySem.W.Frag}{C:Cg}{te ta tb:TE}{F F1 F2 H H1 H2:Hp}{σ:St}{ρ:Rho}{D:Ends}{S:Addr->Prop}{v:V}{p:PV}
end
end L2.MP
namespace L2
open PySem PySem.Spec PyProof PyProof.Rows
section
variable {X:Cx}{pins:List (Addr×Obj)}{σ:St}{H:Hp}{s:Shared}{a:Addr}{kvs:List (Key×V)}{k:Key}{z:V}{u r:Value}{A:Around}{E:Value->Shared->Prop}
end
section
variable {X:Cx}{o e f:Expr}{apos cpos:Pos}{td ty tz:TE}
end
namespace MP
section
variable {K:PySem.W.Frag}{C:Cg}{ks:List Nat}{te tb:TE}{F H:Hp}{σ σ0:St}{ρ:Rho}{D:Ends}{t u:TS}{f g:Sn}{o:Out}
end
end MP
end L2
namespace L2.MP
open PySem PySem.Spec PyProof.Rows
section
variable {K:PySem.W.Frag}{F F1 F2 H H1 H2:Hp}{S:Addr->Prop}{v:V}{p:PV}
end
section
variable {κ:Type} [DecidableEq κ]
def bT:List (κ×PV)->κ->PV->List (κ×PV)
 | [],k,p=>[(k,p)]
 | (a,q)::l,k,p=>if a=k then (a,p)::l else (a,q)::bT l k p
theorem o7 {k:κ}{q:PV}:∀ {xs:List (κ×V)}{l:List (κ×PV)},xs.map (·.1)=l.map (·.1)->di l k=some q->∃ (j:Nat) (v:V),l[j]?=some (k,q)∧xs[j]?=some (k,v)∧iZ xs k=some v∧∀ p,bT l k p=l.set j (k,p)
 | [],[],_,e=>by cases e
 | [],_::_,h,_=>by simp at h
 | _::_,[],h,_=>by simp at h
 | (a,v)::xs,(b,r)::l,h,e=>by
  simp only [Zai,Zbj] at h
  obtain ⟨h1,h2⟩:=h
  have h1:a=b:=h1
  subst h1
  by_cases hk:a=k
  ·subst hk
   unfold di at e
   rw [if_pos rfl] at e
   cases e
   exact ⟨0,v,rfl,rfl,nF rfl,fun p=>by unfold bT;rw [if_pos rfl];rfl⟩
  ·unfold di at e
   rw [if_neg hk] at e
   obtain ⟨j,w,e1,e2,e3,e4⟩:=o7 h2 e
   exact ⟨j+1,w,by simpa using e1,by simpa using e2,by rw [jy hk];exact e3,fun p=>by rw [bT,if_neg hk,e4];rfl⟩
theorem wC {k:κ}:∀ {xs:List (κ×V)}{l:List (κ×PV)},xs.map (·.1)=l.map (·.1)->di l k=none->iZ xs k=none∧∀ p,bT l k p=l++[(k,p)]
 | [],[],_,_=>⟨rfl,fun _=>rfl⟩
 | [],_::_,h,_=>by simp at h
 | _::_,[],h,_=>by simp at h
 | (a,v)::xs,(b,r)::l,h,e=>by
  simp only [Zai,Zbj] at h
  obtain ⟨h1,h2⟩:=h
  have h1:a=b:=h1
  subst h1
  by_cases hk:a=k
  ·unfold di at e
   rw [if_pos hk] at e
   cases e
  ·unfold di at e
   rw [if_neg hk] at e
   obtain ⟨e1,e2⟩:=wC h2 e
   exact ⟨by rw [jy hk];exact e1,fun p=>by rw [bT,if_neg hk,e2];rfl⟩
end
def QV (fe:Fn PV):Fn PV:=fun ρ=>bnd (fe ρ) fun p=>if p.mj=true then some (.ok p) else none
theorem R9 {K:PySem.W.Frag}{C:Cg}{te:TE}{fe:Fn PV} (h:MO K C te fe):MD K C te (QV fe):=by
 intro F H σ ρ Q r R e P
 rcases bQ e with ⟨z,e1,rfl⟩ | ⟨p,e1,hk⟩
 ·exact h F H σ ρ Q _ R e1 P
 ·split at hk
  ·rename_i hp
   cases hk
   refine h F H σ ρ Q _ R e1 fun a F' H' u n1 n2 w=>P _ F' H' (fun b=>b=a) u (w.dp hp) ?_
   rintro b rfl
   obtain ⟨ob,eo⟩:=w.ne
   exact ⟨n1,n2,ob,eo,fun ys q=>by subst q;exact w.ur eo⟩
  ·cases hk
section
variable {K:PySem.W.Frag}{io:Addr->Prop}{H0 F0 F H Hb F2 H2:Hp}{σ σ2:St}{ρ ρ2:Rho}{P:Nat->Addr->Prop}{i g:Nat}{b:Addr}{c:List (List Key×PV)}{p:PV}
theorem Lw {κ:Type}{l:List (κ×PV)}{j:Nat}{k:κ}{q p:PV} (h:l[j]?=some (k,q)):(l.set j (k,p)).map (·.1)=l.map (·.1):=by
 rw [List.map_set]
 exact Df (by rw [List.getElem?_map,h];rfl)
end
section
variable {K:PySem.W.Frag}{io:Addr->Prop}{H0 F0 F H F2 H2:Hp}{σ σ2:St}{ρ ρ2:Rho}{i s:Nat}{a:Addr}{xs:List V}{l:List PV}
end
end L2.MP
namespace L2.TS
open PySem PySem.Spec PyProof.Rows
def jo:Bool->Keyed->Array Keyed->Nat->Nat->Nat->StateT SortSt Sem (Option Nat):=sortPriv% PySem.Builtin.gallop
def fU:Nat->StateT SortSt Sem Unit:=sortPriv% PySem.Builtin.setMinGallop
def wD:Array Keyed->Array Keyed->StateT SortSt Sem (Array Keyed):=sortPriv% PySem.Builtin.mergeLo
def wF:Array Keyed->Array Keyed->StateT SortSt Sem (Array Keyed):=sortPriv% PySem.Builtin.mergeHi
noncomputable abbrev cj (st:SortSt) (g:Nat):SortSt:=SortSt.mk' (kindOf st) (arrOf st) (pendingOf st) g (failedOf st)
theorem fG (g:Nat):fU g=modify fun s=>cj s g:=rfl
def beyond (left:Bool) (key:Keyed) (arr:Array Keyed) (base i:Nat):StateT SortSt Sem (Option Bool):=do
 let x ←elem' arr (base+i)
 if left then lt' x key else return (←lt' key x).map (!·)
theorem Gj (left:Bool) (key:Keyed) (arr:Array Keyed) (base n hint:Nat):jo left key arr base n hint=(do
 let mut lastofs:=0
 let mut ofs:=1
 let mut lo:=0
 let mut hi:=0
 let some right ←beyond left key arr base hint | return none
 if right then
  let maxofs:=n - hint
  for _ in [0:n] do
   if ofs ≥ maxofs then break
   let some more ←beyond left key arr base (hint+ofs) | return none
   if !more then break
   lastofs:=ofs
   ofs:=2 * ofs+1
  lo:=hint+lastofs+1
  hi:=hint+min ofs maxofs
 else
  let maxofs:=hint+1
  for _ in [0:n] do
   if ofs ≥ maxofs then break
   let some found ←beyond left key arr base (hint - ofs) | return none
   if found then break
   lastofs:=ofs
   ofs:=2 * ofs+1
  lo:=hint+1 - min ofs maxofs
  hi:=hint - lastofs
 for _ in [0:n] do
  if lo ≥ hi then break
  let m:=lo+(hi - lo) / 2
  let some more ←beyond left key arr base m | return none
  if more then lo:=m+1 else hi:=m
 return some hi):=rfl
section
variable {prog:Program}{w:World}{A:Around}{E:Value->Shared->Prop}{s:Shared}{κ:SortKind}{D:Keyed->Prop}{r:Keyed->Nat}{st:SortSt}{left:Bool}{key x y:Keyed}{arr:Array Keyed}{base n hint:Nat}
def Cmp (prog:Program) (w:World) (A:Around) (s:Shared) (κ:SortKind) (D:Keyed->Prop) (r:Keyed->Nat):Prop :=
 ∀ x y,D x->D y->∀ (E:Value->Shared->Prop) (Q:Bool->Shared->Prop),Q (decide (r x < r y)) s->wpAny (model prog w) A (keyLt' κ x.1 y.1) Q E s
theorem wG (hc:Cmp prog w A s κ D r) (hk:kindOf st=κ) (hx:D x) (hy:D y) {Q:Option Bool->SortSt->Prop} (h:Q (some (decide (r x < r y))) st):wpS (model prog w) A E s (lt' x y) Q st:=by
 rw [lt'_eq]
 refine wpS_bind (wpS_get ?_)
 rw [hk]
 refine wpS_bind (wpS_lift (wpAny_attempt (hc x y hx hy _ _ ⟨rfl,?_⟩)))
 exact wpS_pure h
theorem bK {M:Model}{i:Nat}{Q:Keyed->SortSt->Prop} (e:arr[i]?=some x) (h:Q x st):wpS M A E s (elem' arr i) Q st:=by
 rw [elem'_eq,e];exact wpS_pure h
theorem Gk (hc:Cmp prog w A s κ D r) (hk:kindOf st=κ) {i:Nat} (e:arr[base+i]?=some x) (hx:D x) (hy:D key) (ne:r x≠r key) {Q:Option Bool->SortSt->Prop} (h:Q (some (decide (r x < r key))) st):wpS (model prog w) A E s (beyond left key arr base i) Q st:=by
 unfold beyond
 refine wpS_bind (bK e ?_)
 cases left with
 | true=>exact wG hc hk hx hy h
 | false =>
  refine wpS_bind (wG hc hk hy hx (wpS_pure ?_))
  rw [Zbq,show (!decide (r key < r x))=decide (r x < r key) by
   by_cases q:r key < r x
   ·rw [decide_eq_true q,decide_eq_false (by lia)];rfl
   ·rw [decide_eq_false q,decide_eq_true (by lia)];rfl]
  exact h
theorem rH {M:Model}{f:Nat->Bool} (hb:∀ i,i < n->∀ {Q:Option Bool->SortSt->Prop},Q (some (f i)) st->wpS M A E s (beyond left key arr base i) Q st) {lo hi:Nat} (h1:lo≤hi) (h2:hi≤n) (h3:∀ i,i < lo->f i=true) (h4:∀ i,hi≤i->i < n->f i=false)
  (mono:∀ i j,i≤j->j < n->f j=true->f i=true) {Q:Option Nat->SortSt->Prop} (h:∀ m,m≤n->(∀ i,i < m->f i=true)->(∀ i,m≤i->i < n->f i=false)->Q (some m) st) :
  wpS M A E s (do
   let mut lo:=lo
   let mut hi:=hi
   for _ in [0:n] do
    if lo ≥ hi then break
    let m:=lo+(hi - lo) / 2
    let some more ←beyond left key arr base m | return none
    if more then lo:=m+1 else hi:=m
   return some hi) Q st:=by
 refine wpS_bind (wpS_mono (wpS_forRange (I:=fun k c st'=>st'=st∧∃ lo hi,c=(none,lo,hi)∧lo≤hi∧hi≤n∧(∀ i,i < lo->f i=true)∧(∀ i,hi≤i->i < n->f i=false)∧hi - lo+k≤n)
  (Q:=fun c st'=>st'=st∧∃ m,c=(none,m,m)∧m≤n∧(∀ i,i < m->f i=true)∧(∀ i,m≤i->i < n->f i=false)) ?_ ?_ ⟨rfl,lo,hi,rfl,h1,h2,h3,h4,by omega⟩) ?_)
 ·rintro k c st' _ hk ⟨rfl,lo,hi,rfl,g1,g2,g3,g4,g5⟩
  dsimp only
  by_cases q:lo ≥ hi
  ·rw [if_pos q]
   have:lo=hi:=by omega
   subst this
   exact wpS_pure ⟨rfl,lo,rfl,g2,g3,g4⟩
  ·rw [if_neg q]
   have mlt:lo+(hi - lo) / 2 < hi:=by omega
   refine wpS_bind (hb _ (by omega) ?_)
   dsimp only
   cases e:f (lo+(hi - lo) / 2) with
   | true =>
    rw [if_pos rfl]
    exact wpS_pure ⟨rfl,_,hi,rfl,by omega,g2,fun i hi'=>mono i _ (by omega) (by omega) e,g4,by omega⟩
   | false =>
    rw [if_neg (by decide)]
    refine wpS_pure ⟨rfl,lo,_,rfl,by omega,by omega,g3,fun i h1' h2'=>?_,by omega⟩
    cases ef:f i with
    | false=>rfl
    | true=>rw [mono _ i h1' h2' ef] at e;cases e
 ·rintro c st' ⟨rfl,lo,hi,rfl,g1,g2,g3,g4,g5⟩
  have:lo=hi:=by omega
  subst this
  exact ⟨rfl,lo,rfl,g2,g3,g4⟩
 ·rintro c st' ⟨rfl,m,rfl,g1,g2,g3⟩
  exact wpS_pure (h m g1 g2 g3)
theorem Dg {M:Model}{f:Nat->Bool} (hb:∀ i,i < n->∀ {Q:Option Bool->SortSt->Prop},Q (some (f i)) st->wpS M A E s (beyond left key arr base i) Q st) (mono:∀ i j,i≤j->j < n->f j=true->f i=true) (hn:hint < n) {Q:Option Nat->SortSt->Prop}
  (h:∀ m,m≤n->(∀ i,i < m->f i=true)->(∀ i,m≤i->i < n->f i=false)->Q (some m) st):wpS M A E s (jo left key arr base n hint) Q st:=by
 have anti:∀ i j,i≤j->j < n->f i=false->f j=false:=fun i j h1 h2 e=>by
  cases ef:f j with
  | false=>rfl
  | true=>rw [mono i j h1 h2 ef] at e;cases e
 rw [Gj]
 refine wpS_bind (hb hint hn ?_)
 dsimp only
 cases e:f hint with
 | true =>
  simp only [if_true]
  refine wpS_bind (wpS_mono (wpS_forRange (I:=fun k c st'=>st'=st∧∃ la of,c=(none,la,of)∧la < of∧hint+la < n∧f (hint+la)=true∧k+1≤of)
   (Q:=fun c st'=>st'=st∧∃ la of,c=(none,la,of)∧la < of∧hint+la < n∧f (hint+la)=true∧(n - hint≤of∨(hint+of < n∧f (hint+of)=false))) ?_ ?_ ⟨rfl,0,1,rfl,by omega,hn,e,by omega⟩) ?_)
  ·rintro k c st' _ hk ⟨rfl,la,of,rfl,g1,g2,g3,g4⟩
   dsimp only
   by_cases q:of ≥ n - hint
   ·rw [if_pos q]
    exact wpS_pure ⟨rfl,la,of,rfl,g1,g2,g3,.inl q⟩
   ·rw [if_neg q]
    refine wpS_bind (hb _ (by omega) ?_)
    dsimp only
    cases e2:f (hint+of) with
    | true =>
     rw [if_neg (by decide)]
     exact wpS_pure ⟨rfl,of,_,rfl,by omega,by omega,e2,by omega⟩
    | false =>
     rw [if_pos (by decide)]
     exact wpS_pure ⟨rfl,la,of,rfl,g1,g2,g3,.inr ⟨by omega,e2⟩⟩
  ·rintro c st' ⟨rfl,la,of,rfl,g1,g2,g3,g4⟩
   exact ⟨rfl,la,of,rfl,g1,g2,g3,.inl (by omega)⟩
  ·rintro c st' ⟨rfl,la,of,rfl,g1,g2,g3,g4⟩
   refine rH (lo:=hint+la+1) (hi:=hint+min of (n - hint)) hb (by omega) (by omega) (fun i hi=>mono i (hint+la) (by omega) g2 g3) (fun i h1 h2=>?_) mono h
   rcases g4 with q | ⟨q1,q2⟩
   ·omega
   ·exact anti (hint+of) i (by omega) h2 q2
 | false =>
  simp only [Za0,if_false]
  refine wpS_bind (wpS_mono (wpS_forRange (I:=fun k c st'=>st'=st∧∃ la of,c=(none,la,of)∧la < of∧la≤hint∧f (hint - la)=false∧k+1≤of)
   (Q:=fun c st'=>st'=st∧∃ la of,c=(none,la,of)∧la < of∧la≤hint∧f (hint - la)=false∧(hint+1≤of∨(of≤hint∧f (hint - of)=true))) ?_ ?_ ⟨rfl,0,1,rfl,by omega,by omega,e,by omega⟩) ?_)
  ·rintro k c st' _ hk ⟨rfl,la,of,rfl,g1,g2,g3,g4⟩
   dsimp only
   by_cases q:of ≥ hint+1
   ·rw [if_pos q]
    exact wpS_pure ⟨rfl,la,of,rfl,g1,g2,g3,.inl q⟩
   ·rw [if_neg q]
    refine wpS_bind (hb _ (by omega) ?_)
    dsimp only
    cases e2:f (hint - of) with
    | true =>
     rw [if_pos rfl]
     exact wpS_pure ⟨rfl,la,of,rfl,g1,g2,g3,.inr ⟨by omega,e2⟩⟩
    | false =>
     rw [if_neg (by decide)]
     exact wpS_pure ⟨rfl,of,_,rfl,by omega,by omega,e2,by omega⟩
  ·rintro c st' ⟨rfl,la,of,rfl,g1,g2,g3,g4⟩
   exact ⟨rfl,la,of,rfl,g1,g2,g3,.inl (by omega)⟩
  ·rintro c st' ⟨rfl,la,of,rfl,g1,g2,g3,g4⟩
   refine rH (lo:=hint+1 - min of (hint+1)) (hi:=hint - la) hb (by omega) (by omega) (fun i hi=>?_) (fun i h1 h2=>anti (hint - la) i (by omega) h2 g3) mono h
   rcases g4 with q | ⟨q1,q2⟩
   ·omega
   ·exact mono i (hint - of) (by omega) (by omega) q2
end
theorem Dh (i:Nat):mergeAt' i=(do
 let s ←get
 let (some (sa,na,power),some (sb,nb,_)):=((pendingOf s)[i]?,(pendingOf s)[i+1]?) | unsupported "internal:list.sort.pending"
 set (setPending s (((pendingOf s).setIfInBounds i (sa,na+nb,power)).eraseIdxIfInBounds (i+1)))
 let some k ←jo false (←elem' (arrOf s) sb) (arrOf s) sa na 0 | return false
 let (sa,na):=(sa+k,na - k)
 if na == 0 then return true
 let some nb ←jo true (←elem' (arrOf s) (sa+na - 1)) (arrOf s) sb nb (nb - 1) | return false
 if nb == 0 then return true
 let x:=(arrOf s).extract sa sb
 let y:=(arrOf s).extract sb (sb+nb)
 let merged ←if na≤nb then wD x y else wF x y
 modify fun s=>setArr s (merged.toList.zipIdx.foldl (fun a (p,j)=>a.setIfInBounds (sa+j) p) (arrOf s))
 return (failedOf (←get)).isNone):=rfl
section
variable {r:Keyed->Nat}{la lb out:List Keyed}{ia ib:Nat}
def Srt (r:Keyed->Nat) (l:List Keyed):Prop:=l.Pairwise fun x y=>r x < r y
structure Mg (r:Keyed->Nat) (la lb out:List Keyed) (ia ib:Nat):Prop where
 so:Srt r out
 lt:∀ o∈out,∀ z∈la.drop ia++lb.drop ib,r o < r z
 pm:out.Perm (la.take ia++lb.take ib)
theorem Mg.as (h:Mg r la lb out ia ib) (sa:Srt r la) (k:Nat) (hk:∀ x∈(la.drop ia).take k,∀ y∈lb.drop ib,r x < r y):Mg r la lb (out++(la.drop ia).take k) (ia+k) ib:=by
 have sd:Srt r (la.drop ia):=Zaj (ZaN _ _) sa
 have e:la.drop (ia+k)=(la.drop ia).drop k:=by rw [List.drop_drop]
 refine ⟨Zan.mpr ⟨h.so,Zaj (ZaJ _ _) sd,fun o ho x hx=>h.lt o ho x (Zae.mpr (.inl (ZaH hx)))⟩,fun o ho z hz=>?_,?_⟩
 ·rw [e] at hz
  rcases Zae.mp ho with q | q
  ·refine h.lt o q z ?_
   rcases Zae.mp hz with w | w
   ·exact Zae.mpr (.inl (ZaM w))
   ·exact Zae.mpr (.inr w)
  ·rcases Zae.mp hz with w | w
   ·have:=sd
    rw [←ZaC k (la.drop ia)] at this
    exact (Zan.mp this).2.2 o q z w
   ·exact hk o q z w
 ·rw [List.take_add]
  refine (h.pm.append_right _).trans ?_
  rw [Zar,Zar]
  exact ZaR _ List.perm_append_comm
theorem Mg.bs (h:Mg r la lb out ia ib) (sb:Srt r lb) (k:Nat) (hk:∀ y∈(lb.drop ib).take k,∀ x∈la.drop ia,r y < r x):Mg r la lb (out++(lb.drop ib).take k) ia (ib+k):=by
 have sd:Srt r (lb.drop ib):=Zaj (ZaN _ _) sb
 have e:lb.drop (ib+k)=(lb.drop ib).drop k:=by rw [List.drop_drop]
 refine ⟨Zan.mpr ⟨h.so,Zaj (ZaJ _ _) sd,fun o ho x hx=>h.lt o ho x (Zae.mpr (.inr (ZaH hx)))⟩,fun o ho z hz=>?_,?_⟩
 ·rw [e] at hz
  rcases Zae.mp ho with q | q
  ·refine h.lt o q z ?_
   rcases Zae.mp hz with w | w
   ·exact Zae.mpr (.inl w)
   ·exact Zae.mpr (.inr (ZaM w))
  ·rcases Zae.mp hz with w | w
   ·exact hk o q z w
   ·have:=sd
    rw [←ZaC k (lb.drop ib)] at this
    exact (Zan.mp this).2.2 o q z w
 ·rw [List.take_add,←Zar]
  exact h.pm.append_right _
theorem Mg.end (h:Mg r la lb out ia ib) (sa:Srt r la) (sb:Srt r lb) (hk:∀ x∈la.drop ia,∀ y∈lb.drop ib,r x < r y):Srt r (out++la.drop ia++lb.drop ib)∧(out++la.drop ia++lb.drop ib).Perm (la++lb):=by
 refine ⟨?_,?_⟩
 ·rw [Zar]
  refine Zan.mpr ⟨h.so,Zan.mpr ⟨Zaj (ZaN _ _) sa,Zaj (ZaN _ _) sb,hk⟩,h.lt⟩
 ·have e:(la++lb).Perm (la.take ia++lb.take ib++(la.drop ia++lb.drop ib)):=by
   conv=>lhs;rw [←ZaC ia la,←ZaC ib lb]
   simp only [Zar]
   refine ZaR _ ?_
   rw [←Zar,←Zar]
   exact ZbC _ List.perm_append_comm
  rw [Zar]
  exact (h.pm.append_right _).trans e.symm
theorem Mg.Sd (h:Mg r la lb out ia ib) (sa:Srt r la) (sb:Srt r lb) (hk:∀ x∈la.drop ia,∀ y∈lb.drop ib,r y < r x):Srt r (out++lb.drop ib++la.drop ia)∧(out++lb.drop ib++la.drop ia).Perm (la++lb):=by
 refine ⟨?_,?_⟩
 ·rw [Zar]
  exact Zan.mpr ⟨h.so,Zan.mpr ⟨Zaj (ZaN _ _) sb,Zaj (ZaN _ _) sa,fun y hy x hx=>hk x hx y hy⟩,fun o ho z hz=>h.lt o ho z (by
   rcases Zae.mp hz with q | q
   ·exact Zae.mpr (.inr q)
   ·exact Zae.mpr (.inl q))⟩
 ·have e:(la++lb).Perm (la.take ia++lb.take ib++(lb.drop ib++la.drop ia)):=by
   conv=>lhs;rw [←ZaC ia la,←ZaC ib lb]
   simp only [Zar]
   refine ZaR _ ?_
   refine List.perm_append_comm.trans ?_
   rw [Zar]
  rw [Zar]
  exact (h.pm.append_right _).trans e.symm
end
noncomputable abbrev S7:=Option (Array Keyed)×Array Keyed×Nat×Nat×Nat×Nat×Nat
noncomputable abbrev S6:=Option (Array Keyed)×Array Keyed×Nat×Nat×Nat×Nat
noncomputable abbrev S5:=Option (Array Keyed)×Array Keyed×Nat×Nat×Nat
noncomputable abbrev dnL (a b out:Array Keyed) (ia ib:Nat):Array Keyed:=out++a.extract ia a.size++b.extract ib b.size
noncomputable abbrev laL (a b out:Array Keyed) (ia ib:Nat):Array Keyed:=out++b.extract ib b.size++a.extract ia a.size
def Lx (a b out:Array Keyed) (ia ib mg ac bc:Nat):StateT SortSt Sem (ForInStep S7):=do
 let x ←elem' a ia
 if ia+1+1 == a.size then return .done (some (laL a b (out.push x) (ia+1) ib),out.push x,ia+1,ib,mg,ac,bc)
 if ac < 7 && bc < 7 then return .done (none,out.push x,ia+1,ib,mg,ac,bc)
 return .yield (none,out.push x,ia+1,ib,mg,ac,bc)
def Ly (a b out:Array Keyed) (ia ib mg ac bc:Nat):StateT SortSt Sem (ForInStep S7):=do
 let y ←elem' b ib
 if ib+1 == b.size then return .done (some (dnL a b (out.push y) ia (ib+1)),out.push y,ia,ib+1,mg,ac,bc)
 let some k ←jo true (←elem' a ia) b (ib+1) (b.size - (ib+1)) 0 | return .done (some (dnL a b (out.push y) ia (ib+1)),out.push y,ia,ib+1,mg,ac,bc)
 if k > 0 then
  if ib+1+k == b.size then return .done (some (dnL a b (out.push y++b.extract (ib+1) (ib+1+k)) ia (ib+1+k)),out.push y++b.extract (ib+1) (ib+1+k),ia,ib+1+k,mg,ac,k)
  Lx a b (out.push y++b.extract (ib+1) (ib+1+k)) ia (ib+1+k) mg ac k
 else Lx a b (out.push y) ia (ib+1) mg ac k
def O7 (a b out:Array Keyed) (ia ib mg ac bc:Nat):StateT SortSt Sem (ForInStep S7):=do
 fU mg
 let some k ←jo false (←elem' b ib) a ia (a.size - ia) 0 | return .done (some (dnL a b out ia ib),out,ia,ib,mg,ac,bc)
 if k > 0 then
  if ia+k+1 == a.size then return .done (some (laL a b (out++a.extract ia (ia+k)) (ia+k) ib),out++a.extract ia (ia+k),ia+k,ib,mg,k,bc)
  if ia+k == a.size then return .done (some (dnL a b (out++a.extract ia (ia+k)) (ia+k) ib),out++a.extract ia (ia+k),ia+k,ib,mg,k,bc)
  Ly a b (out++a.extract ia (ia+k)) (ia+k) ib mg k bc
 else Ly a b out ia ib mg k bc
def Sg (a b:Array Keyed) (c:S7):StateT SortSt Sem (ForInStep S7) :=
 if c.2.2.2.2.1 > 1 then O7 a b c.2.1 c.2.2.1 c.2.2.2.1 (c.2.2.2.2.1 - 1) c.2.2.2.2.2.1 c.2.2.2.2.2.2 else O7 a b c.2.1 c.2.2.1 c.2.2.2.1 c.2.2.2.2.1 c.2.2.2.2.2.1 c.2.2.2.2.2.2
def Sh (a b:Array Keyed) (mg:Nat) (c:S6):StateT SortSt Sem (ForInStep S6):=do
 let some bWins ←lt' (←elem' b c.2.2.2.1) (←elem' a c.2.2.1) | return .done (some (dnL a b c.2.1 c.2.2.1 c.2.2.2.1),c.2.1,c.2.2.1,c.2.2.2.1,c.2.2.2.2.1,c.2.2.2.2.2)
 if bWins then
  let y ←elem' b c.2.2.2.1
  if c.2.2.2.1+1 == b.size then return .done (some (dnL a b (c.2.1.push y) c.2.2.1 (c.2.2.2.1+1)),c.2.1.push y,c.2.2.1,c.2.2.2.1+1,0,c.2.2.2.2.2+1)
  if c.2.2.2.2.2+1 ≥ mg then return .done (none,c.2.1.push y,c.2.2.1,c.2.2.2.1+1,0,c.2.2.2.2.2+1)
  return .yield (none,c.2.1.push y,c.2.2.1,c.2.2.2.1+1,0,c.2.2.2.2.2+1)
 else
  let x ←elem' a c.2.2.1
  if c.2.2.1+1+1 == a.size then return .done (some (laL a b (c.2.1.push x) (c.2.2.1+1) c.2.2.2.1),c.2.1.push x,c.2.2.1+1,c.2.2.2.1,c.2.2.2.2.1+1,0)
  if c.2.2.2.2.1+1 ≥ mg then return .done (none,c.2.1.push x,c.2.2.1+1,c.2.2.2.1,c.2.2.2.2.1+1,0)
  return .yield (none,c.2.1.push x,c.2.2.1+1,c.2.2.2.1,c.2.2.2.2.1+1,0)
def Sq (a b:Array Keyed) (c:S5):StateT SortSt Sem (ForInStep S5):=do
 let d ←forIn [0:a.size+b.size] ((none,c.2.1,c.2.2.1,c.2.2.2.1,0,0):S6) fun _ d=>Sh a b c.2.2.2.2 d
 match d.1 with
 | some r=>pure (.done (some r,d.2.1,d.2.2.1,d.2.2.2.1,c.2.2.2.2))
 | none=>do
  rule "list.sort.gallop"
  let e ←forIn [0:a.size+b.size] ((none,d.2.1,d.2.2.1,d.2.2.2.1,c.2.2.2.2+1,d.2.2.2.2.1,d.2.2.2.2.2):S7) fun _ e=>Sg a b e
  match e.1 with
  | some r=>pure (.done (some r,e.2.1,e.2.2.1,e.2.2.2.1,e.2.2.2.2.1))
  | none=>do
   fU (e.2.2.2.2.1+1)
   pure (.yield (none,e.2.1,e.2.2.1,e.2.2.2.1,e.2.2.2.2.1+1))
def Di (a b:Array Keyed):StateT SortSt Sem (Array Keyed):=do
 rule "list.sort.merge-lo"
 let y ←elem' b 0
 if 1 == b.size then return dnL a b #[y] 0 1
 if 0+1 == a.size then return laL a b #[y] 0 1
 let s ←get
 let c ←forIn [0:a.size+b.size] ((none,#[y],0,1,gallopOf s):S5) fun _ c=>Sq a b c
 match c.1 with
 | some r=>pure r
 | none=>unsupported "internal:list.sort.merge-bound"
theorem Dj (a b:Array Keyed):wD a b=Di a b:=by
 kernel_rfl
section
variable {prog:Program}{w:World}{A:Around}{E:Value->Shared->Prop}{s:Shared}{κ:SortKind}{D:Keyed->Prop}{r:Keyed->Nat}{st:SortSt}{a b:Array Keyed}
theorem lr {M:Model}{x:String}{Q:Unit->SortSt->Prop} (h:Q () st):wpS M A E s (rule x:StateT SortSt Sem Unit) Q st:=wpS_lift (wpAny_rule ⟨rfl,h⟩)
theorem ext_toList (a:Array Keyed) (i j:Nat) (h:i≤j) (hj:j≤a.size):(a.extract i j).toList=(a.toList.drop i).take (j - i):=by
 simp [Array.toList_extract,List.extract]
theorem uW (a:Array Keyed) (i:Nat):(a.extract i a.size).toList=a.toList.drop i:=by
 rw [Array.toList_extract]
 simp [List.extract]
 exact ZaL (by simp)
structure Ai (D:Keyed->Prop) (r:Keyed->Nat) (a b:Array Keyed):Prop where
 da:∀ x∈a.toList,D x
 db:∀ x∈b.toList,D x
 sa:Srt r a.toList
 sb:Srt r b.toList
 ne:∀ x∈a.toList,∀ y∈b.toList,r x≠r y
 la:∀ x,a.toList[a.size - 1]?=some x->∀ y∈b.toList,r y < r x
def Good (r:Keyed->Nat) (a b out:Array Keyed):Prop:=Srt r out.toList∧out.toList.Perm (a.toList++b.toList)
theorem rJ {out:Array Keyed}{ia ib:Nat} (o:Ai D r a b) (m:Mg r a.toList b.toList out.toList ia ib) (h:ib=b.size∨ia=a.size):Good r a b (dnL a b out ia ib):=by
 have e:=m.end o.sa o.sb (fun x hx y hy=>by
  rcases h with q | q
  ·rw [q,Za6 (by simp)] at hy;cases hy
  ·rw [q,Za6 (by simp)] at hx;cases hx)
 unfold Good dnL
 rw [ZaK,ZaK,uW,uW]
 exact e
theorem uX {out:Array Keyed}{ia ib:Nat} (o:Ai D r a b) (m:Mg r a.toList b.toList out.toList ia ib) (h:ia+1=a.size):Good r a b (laL a b out ia ib):=by
 have e:=m.Sd o.sa o.sb (fun x hx y hy=>by
  have:a.toList.drop ia=[a.toList[ia]'(by simp;lia)]:=by
   rw [ZaI (by simp;lia),Za6 (by simp;lia)]
  rw [this,Zay] at hx
  refine o.la x ?_ y (ZaM hy)
  rw [hx,show a.size - 1=ia by lia]
  exact List.getElem?_eq_getElem (by simp;lia))
 unfold Good laL
 rw [ZaK,ZaK,uW,uW]
 exact e
theorem ir {left:Bool}{key:Keyed}{arr:Array Keyed}{base n hint:Nat}{L:List Keyed} (hc:Cmp prog w A s κ D r) (hk:kindOf st=κ) (hn:hint < n) (hb:base+n≤arr.size) (hL:(arr.toList.drop base).take n=L) (dk:D key) (dl:∀ x∈L,D x∧r x≠r key) (sl:Srt r L) {Q:Option Nat->SortSt->Prop}
  (h:∀ k,k≤n->(∀ x∈L.take k,r x < r key)->(∀ x∈L.drop k,r key < r x)->Q (some k) st):wpS (model prog w) A E s (jo left key arr base n hint) Q st:=by
 have ll:L.length=n:=by rw [←hL];simp;lia
 have at_:∀ i (hi:i < n),arr[base+i]?=some (L[i]'(by lia)):=fun i hi=>by
  rw [←Zax]
  have:L[i]?=arr.toList[base+i]?:=by
   rw [←hL,List.getElem?_take,if_pos hi,List.getElem?_drop]
  rw [←this,List.getElem?_eq_getElem]
 have mem:∀ i (hi:i < n),L[i]'(by lia)∈L:=fun i hi=>List.getElem_mem _
 refine Dg (f:=fun i=>if hi:i < n then decide (r (L[i]'(by lia)) < r key) else false) (fun i hi Q q=>?_) (fun i j hij hj e=>?_) hn fun m hm g1 g2=>?_
 ·rw [dif_pos hi] at q
  exact Gk hc hk (at_ i hi) (dl _ (mem i hi)).1 dk (dl _ (mem i hi)).2 q
 ·rw [dif_pos hj] at e
  rw [dif_pos (by lia)]
  have e:=of_decide_eq_true e
  refine decide_eq_true ?_
  by_cases q:i=j
  ·subst q;exact e
  ·exact Nat.lt_trans (Zbt.mp sl i j (by lia) (by lia) (by lia)) e
 ·refine h m hm (fun x hx=>?_) fun x hx=>?_
  ·obtain ⟨i,hi,rfl⟩:=List.mem_iff_getElem.mp hx
   rw [List.length_take] at hi
   have:=g1 i (by lia)
   rw [dif_pos (by lia)] at this
   rw [List.getElem_take]
   exact of_decide_eq_true this
  ·obtain ⟨i,hi,rfl⟩:=List.mem_iff_getElem.mp hx
   rw [List.length_drop] at hi
   have:=g2 (m+i) (by lia) (by lia)
   rw [dif_pos (by lia)] at this
   rw [List.getElem_drop]
   have t1:=of_decide_eq_false this
   have t2:=(dl _ (mem (m+i) (by lia))).2
   lia
structure In (r:Keyed->Nat) (a b out:Array Keyed) (ia ib:Nat):Prop where
 mg:Mg r a.toList b.toList out.toList ia ib
 ha:ia+1 < a.size
 hb:ib < b.size
def P7 (r:Keyed->Nat) (a b:Array Keyed) (n:Nat):ForInStep S7->Prop
 | .done (some o,_)=>Good r a b o
 | .done (none,out,ia,ib,_)=>In r a b out ia ib∧n≤ia+ib
 | .yield (none,out,ia,ib,_)=>In r a b out ia ib∧n≤ia+ib
 | .yield (some _,_)=>False
theorem take1 {l:List Keyed}{i:Nat}{x:Keyed} (h:l[i]?=some x):(l.drop i).take 1=[x]∧l.drop i=x::l.drop (i+1):=by
 have hi:=(Zab.mp h).1
 have e:l.drop i=x::l.drop (i+1):=by
  rw [ZaI hi]
  congr 1
  rw [List.getElem?_eq_getElem hi] at h
  exact Zaa h
 rw [e];exact ⟨rfl,rfl⟩
theorem nZ {l:List Keyed}{i:Nat}{x:Keyed} (sl:Srt r l) (h:l[i]?=some x):∀ z∈l.drop i,r x≤r z:=fun z hz=>by
 have:=Zaj (ZaN i l) sl
 rw [(take1 h).2] at hz this
 rcases Zaq.mp hz with q | q
 ·rw [q];exact Zaf _
 ·exact ZaD ((List.pairwise_cons.mp this).1 z q)
theorem O8 {M:Model}{out:Array Keyed}{ia ib mg ac bc:Nat} (o:Ai D r a b) (i:In r a b out ia ib) (hx:∀ x,a.toList[ia]?=some x->∀ y∈b.toList.drop ib,r x < r y) :
  wpS M A E s (Lx a b out ia ib mg ac bc) (fun c st'=>st'=st∧P7 r a b (ia+ib+1) c) st:=by
 obtain ⟨x,ex⟩:∃ x,a.toList[ia]?=some x:=⟨_,List.getElem?_eq_getElem (by have:=i.ha;simp;lia)⟩
 have t1:=take1 ex
 have m:Mg r a.toList b.toList (out.push x).toList (ia+1) ib:=by
  have:=i.mg.as o.sa 1 (by rw [t1.1];intro z hz;rw [Zay.mp hz];exact hx x ex)
  rw [t1.1] at this
  rw [Zbp];exact this
 have ha:=i.ha
 have hb:=i.hb
 unfold Lx
 refine wpS_bind (bK (x:=x) (by rw [←Zax];exact ex) ?_)
 by_cases q:ia+1+1=a.size
 ·rw [if_pos (by simpa using q)]
  exact wpS_pure ⟨rfl,uX o m q⟩
 ·rw [if_neg (by simpa using q)]
  have I:In r a b (out.push x) (ia+1) ib:=⟨m,by lia,hb⟩
  split
  ·exact wpS_pure ⟨rfl,I,by lia⟩
  ·exact wpS_pure ⟨rfl,I,by lia⟩
end
section
variable {prog:Program}{w:World}{A:Around}{E:Value->Shared->Prop}{s:Shared}{κ:SortKind}{D:Keyed->Prop}{r:Keyed->Nat}{st:SortSt}{a b:Array Keyed}
theorem P7.mono {n m:Nat} (h:n≤m):∀ {c:ForInStep S7},P7 r a b m c->P7 r a b n c
 | .done (some _,_),p=>p
 | .done (none,_,_,_,_),p=>⟨p.1,ZaA h p.2⟩
 | .yield (none,_,_,_,_),p=>⟨p.1,ZaA h p.2⟩
 | .yield (some _,_),p=>p
theorem getL {l:Array Keyed}{i:Nat} (h:i < l.size):∃ x,l.toList[i]?=some x∧l[i]?=some x:=⟨_,List.getElem?_eq_getElem (by simpa using h),by rw [Zau h,Array.getElem_toList]⟩
theorem nj {l:Array Keyed}{i:Nat}{x:Keyed} (h:l.toList[i]?=some x):x∈l.toList:=Zag h
theorem yP (l:Array Keyed) (i:Nat) (h:i≤l.size):(l.toList.drop i).take (l.size - i)=l.toList.drop i:=ZaL (by simp)
theorem O9 {out:Array Keyed}{ia ib mg ac bc:Nat} (hc:Cmp prog w A s κ D r) (hk:kindOf st=κ) (o:Ai D r a b) (i:In r a b out ia ib) (hy:∀ y,b.toList[ib]?=some y->∀ x∈a.toList.drop ia,r y < r x) :
  wpS (model prog w) A E s (Ly a b out ia ib mg ac bc) (fun c st'=>st'=st∧P7 r a b (ia+ib+1) c) st:=by
 have ha:=i.ha
 have hb:=i.hb
 obtain ⟨y,ey,ey'⟩:=getL hb
 have t1:=take1 ey
 have m:Mg r a.toList b.toList (out.push y).toList ia (ib+1):=by
  have:=i.mg.bs o.sb 1 (by rw [t1.1];intro z hz;rw [Zay.mp hz];exact hy y ey)
  rw [t1.1] at this
  rw [Zbp];exact this
 unfold Ly
 refine wpS_bind (bK ey' ?_)
 by_cases q:ib+1=b.size
 ·rw [if_pos (by simpa using q)]
  exact wpS_pure ⟨rfl,rJ o m (.inl q)⟩
 ·rw [if_neg (by simpa using q)]
  obtain ⟨x,ex,ex'⟩:=getL (l:=a) (i:=ia) (by omega)
  refine wpS_bind (bK ex' ?_)
  refine wpS_bind (ir hc hk (by omega) (by omega) (yP b (ib+1) (by omega)) (o.da x (nj ex)) (fun z hz=>⟨o.db z (ZaM hz),fun e=>o.ne x (nj ex) z (ZaM hz) e.symm⟩) (Zaj (ZaN _ _) o.sb) fun k hk' g1 g2=>?_)
  dsimp only
  rw [List.drop_drop] at g2
  have fin:∀ {o2:Array Keyed}{j:Nat},Mg r a.toList b.toList o2.toList ia j->j=ib+1+k->¬j=b.size->wpS (model prog w) A E s (Lx a b o2 ia j mg ac k) (fun c st'=>st'=st∧P7 r a b (ia+ib+1) c) st:=fun {o2 j} m2 e ne=>by
   refine wpS_mono (O8 o ⟨m2,ha,by omega⟩ fun x' ex2 z hz=>?_) fun c st' p=>⟨p.1,P7.mono (by omega) p.2⟩
   rw [ex] at ex2;cases ex2
   rw [e] at hz
   exact g2 z hz
  by_cases q2:k > 0
  ·rw [if_pos q2]
   have m2:Mg r a.toList b.toList (out.push y++b.extract (ib+1) (ib+1+k)).toList ia (ib+1+k):=by
    have:=m.bs o.sb k fun z hz x' hx'=>Zap (g1 z hz) (nZ o.sa ex x' hx')
    rw [ZaK,ext_toList b _ _ (by omega) (by omega),Zbw]
    exact this
   by_cases q3:ib+1+k=b.size
   ·rw [if_pos (by simpa using q3)]
    exact wpS_pure ⟨rfl,rJ o m2 (.inl q3)⟩
   ·rw [if_neg (by simpa using q3)]
    exact fin m2 rfl q3
  ·rw [if_neg q2]
   exact fin m (by omega) (by omega)
theorem Hl {out:Array Keyed}{ia ib mg ac bc:Nat} (hc:Cmp prog w A s κ D r) (hk:kindOf st=κ) (o:Ai D r a b) (i:In r a b out ia ib) :
  wpS (model prog w) A E s (O7 a b out ia ib mg ac bc) (fun c st'=>st'=cj st mg∧P7 r a b (ia+ib+1) c) st:=by
 have ha:=i.ha
 have hb:=i.hb
 obtain ⟨y,ey,ey'⟩:=getL hb
 unfold O7
 rw [fG]
 refine wpS_bind (wpS_modify ?_)
 refine wpS_bind (bK ey' ?_)
 refine wpS_bind (ir hc (show kindOf (cj st mg)=κ from hk) (by omega) (by omega) (yP a ia (by omega)) (o.db y (nj ey)) (fun z hz=>⟨o.da z (ZaM hz),fun e=>o.ne z (ZaM hz) y (nj ey) e⟩) (Zaj (ZaN _ _) o.sa) fun k hk' g1 g2=>?_)
 dsimp only
 rw [List.drop_drop] at g2
 have fin:∀ {o2:Array Keyed}{j:Nat},Mg r a.toList b.toList o2.toList j ib->j=ia+k->j+1 < a.size->wpS (model prog w) A E s (Ly a b o2 j ib mg k bc) (fun c st'=>st'=cj st mg∧P7 r a b (ia+ib+1) c) (cj st mg):=fun {o2 j} m2 e ne=>by
  refine wpS_mono (O9 hc (show kindOf (cj st mg)=κ from hk) o ⟨m2,ne,hb⟩ fun y' ey2 z hz=>?_) fun c st' p=>⟨p.1,P7.mono (by omega) p.2⟩
  rw [ey] at ey2;cases ey2
  rw [e] at hz
  exact g2 z hz
 by_cases q2:k > 0
 ·rw [if_pos q2]
  have m2:Mg r a.toList b.toList (out++a.extract ia (ia+k)).toList (ia+k) ib:=by
   have:=i.mg.as o.sa k fun x hx z hz=>Zap (g1 x hx) (nZ o.sb ey z hz)
   rw [ZaK,ext_toList a _ _ (by omega) (by omega),Zbw]
   exact this
  by_cases q3:ia+k+1=a.size
  ·rw [if_pos (by simpa using q3)]
   exact wpS_pure ⟨rfl,uX o m2 q3⟩
  ·rw [if_neg (by simpa using q3)]
   by_cases q4:ia+k=a.size
   ·rw [if_pos (by simpa using q4)]
    exact wpS_pure ⟨rfl,rJ o m2 (.inr q4)⟩
   ·rw [if_neg (by simpa using q4)]
    exact fin m2 rfl (by omega)
 ·rw [if_neg q2]
  exact fin i.mg (by omega) (by omega)
theorem Pb {c:S7} (hc:Cmp prog w A s κ D r) (hk:kindOf st=κ) (o:Ai D r a b) (i:In r a b c.2.1 c.2.2.1 c.2.2.2.1) :
  wpS (model prog w) A E s (Sg a b c) (fun c' st'=>(∃ g,st'=cj st g)∧P7 r a b (c.2.2.1+c.2.2.2.1+1) c') st:=by
 unfold Sg
 split
 ·exact wpS_mono (Hl hc hk o i) fun c' st' p=>⟨⟨_,p.1⟩,p.2⟩
 ·exact wpS_mono (Hl hc hk o i) fun c' st' p=>⟨⟨_,p.1⟩,p.2⟩
def P6 (r:Keyed->Nat) (a b:Array Keyed) (n:Nat):ForInStep S6->Prop
 | .done (some o,_)=>Good r a b o
 | .done (none,out,ia,ib,_)=>In r a b out ia ib∧n≤ia+ib
 | .yield (none,out,ia,ib,_)=>In r a b out ia ib∧n≤ia+ib
 | .yield (some _,_)=>False
theorem Pg {c:S6}{mg:Nat} (hc:Cmp prog w A s κ D r) (hk:kindOf st=κ) (o:Ai D r a b) (i:In r a b c.2.1 c.2.2.1 c.2.2.2.1) :
  wpS (model prog w) A E s (Sh a b mg c) (fun c' st'=>st'=st∧P6 r a b (c.2.2.1+c.2.2.2.1+1) c') st:=by
 obtain ⟨c0,out,ia,ib,ac,bc⟩:=c
 have ha:ia+1 < a.size:=i.ha
 have hb:ib < b.size:=i.hb
 obtain ⟨y,ey,ey'⟩:=getL hb
 obtain ⟨x,ex,ex'⟩:=getL (l:=a) (i:=ia) (by lia)
 unfold Sh
 dsimp only
 refine wpS_bind (bK ey' (wpS_bind (bK ex' (wpS_bind (wG hc hk (o.db y (nj ey)) (o.da x (nj ex)) ?_)))))
 dsimp only
 have nxy:=o.ne x (nj ex) y (nj ey)
 by_cases q:r y < r x
 ·rw [decide_eq_true q,if_pos rfl]
  have t1:=take1 ey
  have m:Mg r a.toList b.toList (out.push y).toList ia (ib+1):=by
   have:=i.mg.bs o.sb 1 (by rw [t1.1];intro z hz x' hx';rw [Zay.mp hz];exact Zap q (nZ o.sa ex x' hx'))
   rw [t1.1] at this
   rw [Zbp];exact this
  refine wpS_bind (bK ey' ?_)
  by_cases q2:ib+1=b.size
  ·rw [if_pos (by simpa using q2)]
   exact wpS_pure ⟨rfl,rJ o m (.inl q2)⟩
  ·rw [if_neg (by simpa using q2)]
   have I:In r a b (out.push y) ia (ib+1):=⟨m,ha,by lia⟩
   split
   ·exact wpS_pure ⟨rfl,I,Nat.le_of_eq (by lia)⟩
   ·exact wpS_pure ⟨rfl,I,Nat.le_of_eq (by lia)⟩
 ·rw [decide_eq_false q,if_neg (by decide)]
  have t1:=take1 ex
  have m:Mg r a.toList b.toList (out.push x).toList (ia+1) ib:=by
   have:=i.mg.as o.sa 1 (by rw [t1.1];intro z hz y' hy';rw [Zay.mp hz];exact Zap (by lia) (nZ o.sb ey y' hy'))
   rw [t1.1] at this
   rw [Zbp];exact this
  refine wpS_bind (bK ex' ?_)
  by_cases q2:ia+1+1=a.size
  ·rw [if_pos (by simpa using q2)]
   exact wpS_pure ⟨rfl,uX o m q2⟩
  ·rw [if_neg (by simpa using q2)]
   have I:In r a b (out.push x) (ia+1) ib:=⟨m,by lia,hb⟩
   split
   ·exact wpS_pure ⟨rfl,I,Nat.le_of_eq (by lia)⟩
   ·exact wpS_pure ⟨rfl,I,Nat.le_of_eq (by lia)⟩
end
section
variable {prog:Program}{w:World}{A:Around}{E:Value->Shared->Prop}{s:Shared}{κ:SortKind}{D:Keyed->Prop}{r:Keyed->Nat}{st:SortSt}{a b:Array Keyed}
def P5 (r:Keyed->Nat) (a b:Array Keyed) (n:Nat):ForInStep S5->Prop
 | .done (some o,_)=>Good r a b o
 | .done (none,_)=>False
 | .yield (none,out,ia,ib,_)=>In r a b out ia ib∧n≤ia+ib
 | .yield (some _,_)=>False
theorem Ph {c:S5} (hc:Cmp prog w A s κ D r) (hk:kindOf st=κ) (o:Ai D r a b) (i:In r a b c.2.1 c.2.2.1 c.2.2.2.1) :
  wpS (model prog w) A E s (Sq a b c) (fun c' st'=>(∃ g,st'=cj st g)∧P5 r a b (c.2.2.1+c.2.2.2.1+1) c') st:=by
 obtain ⟨c0,out,ia,ib,mg⟩:=c
 have ha:ia+1 < a.size:=i.ha
 unfold Sq
 dsimp only
 refine wpS_bind (wpS_mono (wpS_forRange (I:=fun k d st'=>st'=st∧∃ o2 i2 j2 ac bc,d=((none,o2,i2,j2,ac,bc):S6)∧In r a b o2 i2 j2∧ia+ib+k≤i2+j2)
  (Q:=fun d st'=>st'=st∧((∃ o2 x,d=((some o2,x):S6)∧Good r a b o2)∨∃ o2 i2 j2 ac bc,d=((none,o2,i2,j2,ac,bc):S6)∧In r a b o2 i2 j2∧ia+ib+1≤i2+j2)) ?_ ?_ ⟨rfl,out,ia,ib,0,0,rfl,i,Zaf _⟩) ?_)
 ·rintro k d st' _ hk' ⟨rfl,o2,i2,j2,ac,bc,rfl,I,hn⟩
  refine wpS_mono (Pg (c:=(none,o2,i2,j2,ac,bc)) hc hk o I) fun e st' p=>?_
  obtain ⟨rfl,p⟩:=p
  match e,p with
  | .done (some o3,x),p=>exact ⟨rfl,.inl ⟨o3,x,rfl,p⟩⟩
  | .done (none,o3,i3,j3,a3,b3),p=>exact ⟨rfl,.inr ⟨o3,i3,j3,a3,b3,rfl,p.1,by have:i2+j2+1≤i3+j3:=p.2;lia⟩⟩
  | .yield (none,o3,i3,j3,a3,b3),p=>exact ⟨rfl,o3,i3,j3,a3,b3,rfl,p.1,by have:i2+j2+1≤i3+j3:=p.2;lia⟩
  | .yield (some _,_),p=>exact p.elim
 ·rintro d st' ⟨rfl,o2,i2,j2,ac,bc,rfl,I,hn⟩
  exact ⟨rfl,.inr ⟨o2,i2,j2,ac,bc,rfl,I,by lia⟩⟩
 ·rintro d st' ⟨rfl,⟨o2,x,rfl,G⟩ | ⟨o2,i2,j2,ac,bc,rfl,I,hn⟩⟩
  ·exact wpS_pure ⟨⟨gallopOf st',rfl⟩,G⟩
  ·dsimp only
   refine wpS_bind (lr ?_)
   refine wpS_bind (wpS_mono (wpS_forRange (I:=fun k e st2=>(∃ g,st2=cj st' g)∧∃ o2 i2 j2 mg ac bc,e=((none,o2,i2,j2,mg,ac,bc):S7)∧In r a b o2 i2 j2∧ia+ib+1≤i2+j2)
    (Q:=fun e st2=>(∃ g,st2=cj st' g)∧((∃ o2 x,e=((some o2,x):S7)∧Good r a b o2)∨∃ o2 i2 j2 mg ac bc,e=((none,o2,i2,j2,mg,ac,bc):S7)∧In r a b o2 i2 j2∧ia+ib+1≤i2+j2)) ?_ ?_ ⟨⟨gallopOf st',rfl⟩,o2,i2,j2,_,ac,bc,rfl,I,hn⟩) ?_)
   ·rintro k e st2 _ _ ⟨⟨g,rfl⟩,o3,i3,j3,m3,a3,b3,rfl,I3,hn3⟩
    refine wpS_mono (Pb (c:=(none,o3,i3,j3,m3,a3,b3)) hc (show kindOf (cj st' g)=κ from hk) o I3) fun e st3 p=>?_
    obtain ⟨⟨g2,rfl⟩,p⟩:=p
    match e,p with
    | .done (some o4,x),p=>exact ⟨⟨g2,rfl⟩,.inl ⟨o4,x,rfl,p⟩⟩
    | .done (none,o4,i4,j4,m4,a4,b4),p=>exact ⟨⟨g2,rfl⟩,.inr ⟨o4,i4,j4,m4,a4,b4,rfl,p.1,by have:i3+j3+1≤i4+j4:=p.2;lia⟩⟩
    | .yield (none,o4,i4,j4,m4,a4,b4),p=>exact ⟨⟨g2,rfl⟩,o4,i4,j4,m4,a4,b4,rfl,p.1,by have:i3+j3+1≤i4+j4:=p.2;lia⟩
    | .yield (some _,_),p=>exact p.elim
   ·rintro e st2 ⟨G,o3,i3,j3,m3,a3,b3,rfl,I3,hn3⟩
    exact ⟨G,.inr ⟨o3,i3,j3,m3,a3,b3,rfl,I3,hn3⟩⟩
   ·rintro e st2 ⟨⟨g,rfl⟩,⟨o3,x,rfl,G⟩ | ⟨o3,i3,j3,m3,a3,b3,rfl,I3,hn3⟩⟩
    ·exact wpS_pure ⟨⟨g,rfl⟩,G⟩
    ·dsimp only
     rw [fG]
     refine wpS_bind (wpS_modify ?_)
     exact wpS_pure ⟨⟨_,rfl⟩,I3,hn3⟩
theorem Dk (hc:Cmp prog w A s κ D r) (hk:kindOf st=κ) (a1:1≤a.size) (b1:1≤b.size) (o:Ai D r a b) (hf:∀ y,b.toList[0]?=some y->∀ x∈a.toList,r y < r x) {Q:Array Keyed->SortSt->Prop}
  (h:∀ out g,Good r a b out->Q out (cj st g)):wpS (model prog w) A E s (wD a b) Q st:=by
 rw [Dj]
 unfold Di
 refine wpS_bind (lr ?_)
 obtain ⟨y,ey,ey'⟩:=getL (l:=b) (i:=0) (by lia)
 refine wpS_bind (bK ey' ?_)
 have t1:=take1 ey
 have m:Mg r a.toList b.toList (#[y]:Array Keyed).toList 0 1:=by
  have m0:Mg r a.toList b.toList [] 0 0:=⟨.nil,fun _ h=>(nomatch h),by simp⟩
  have:=m0.bs o.sb 1 (by rw [t1.1];intro z hz x hx;rw [Zay.mp hz];exact hf y ey x (by simpa using hx))
  rw [t1.1] at this
  exact this
 by_cases q:1=b.size
 ·rw [if_pos (by simpa using q)]
  exact wpS_pure (h _ (gallopOf st) (rJ o m (.inl q)))
 ·rw [if_neg (by simpa using q)]
  by_cases q2:0+1=a.size
  ·rw [if_pos (by simpa using q2)]
   exact wpS_pure (h _ (gallopOf st) (uX o m q2))
  ·rw [if_neg (by simpa using q2)]
   refine wpS_bind (wpS_get ?_)
   refine wpS_bind (wpS_mono (wpS_forRange (I:=fun k c st'=>(∃ g,st'=cj st g)∧∃ out ia ib mg,c=((none,out,ia,ib,mg):S5)∧In r a b out ia ib∧k+1≤ia+ib)
    (Q:=fun c st'=>(∃ g,st'=cj st g)∧∃ out x,c=((some out,x):S5)∧Good r a b out) ?_ ?_ ⟨⟨gallopOf st,rfl⟩,_,0,1,_,rfl,⟨m,by lia,by lia⟩,by lia⟩) ?_)
   ·rintro k c st' _ hk' ⟨⟨g,rfl⟩,out,ia,ib,mg,rfl,I,hn⟩
    refine wpS_mono (Ph (c:=(none,out,ia,ib,mg)) hc (show kindOf (cj st g)=κ from hk) o I) fun e st3 p=>?_
    obtain ⟨⟨g2,rfl⟩,p⟩:=p
    match e,p with
    | .done (some o4,x),p=>exact ⟨⟨g2,rfl⟩,o4,x,rfl,p⟩
    | .done (none,_),p=>exact p.elim
    | .yield (none,o4,i4,j4,m4),p=>exact ⟨⟨g2,rfl⟩,o4,i4,j4,m4,rfl,p.1,by have:ia+ib+1≤i4+j4:=p.2;lia⟩
    | .yield (some _,_),p=>exact p.elim
   ·rintro c st' ⟨_,out,ia,ib,mg,rfl,I,hn⟩
    have:=I.ha
    have:=I.hb
    lia
   ·rintro c st' ⟨⟨g,rfl⟩,out,x,rfl,G⟩
    exact wpS_pure (h out g G)
end
noncomputable abbrev T7:=Option (Array Keyed)×Nat×Nat×Array Keyed×Nat×Nat×Nat
noncomputable abbrev T6:=Option (Array Keyed)×Nat×Nat×Array Keyed×Nat×Nat
noncomputable abbrev T5:=Option (Array Keyed)×Nat×Nat×Array Keyed×Nat
noncomputable abbrev dnH (a b out:Array Keyed) (na nb:Nat):Array Keyed:=a.extract 0 na++b.extract 0 nb++out.reverse
noncomputable abbrev fbH (a b out:Array Keyed) (na nb:Nat):Array Keyed:=b.extract 0 nb++a.extract 0 na++out.reverse
def Lz (a b out:Array Keyed) (na nb mg ac bc:Nat):StateT SortSt Sem (ForInStep T7):=do
 let x ←elem' a (na - 1)
 if na - 1 == 0 then return .done (some (dnH a b (out.push x) (na - 1) nb),na - 1,nb,out.push x,mg,ac,bc)
 if ac < 7 && bc < 7 then return .done (none,na - 1,nb,out.push x,mg,ac,bc)
 return .yield (none,na - 1,nb,out.push x,mg,ac,bc)
def LC (a b out:Array Keyed) (na nb mg ac bc:Nat):StateT SortSt Sem (ForInStep T7):=do
 let y ←elem' b (nb - 1)
 if nb - 1 == 1 then return .done (some (fbH a b (out.push y) na (nb - 1)),na,nb - 1,out.push y,mg,ac,bc)
 let some at_ ←jo true (←elem' a (na - 1)) b 0 (nb - 1) (nb - 1 - 1) | return .done (some (dnH a b (out.push y) na (nb - 1)),na,nb - 1,out.push y,mg,ac,bc)
 if nb - 1 - at_ > 0 then
  if at_ == 1 then return .done (some (fbH a b (out.push y++(b.extract at_ (nb - 1)).reverse) na at_),na,at_,out.push y++(b.extract at_ (nb - 1)).reverse,mg,ac,nb - 1 - at_)
  if at_ == 0 then return .done (some (dnH a b (out.push y++(b.extract at_ (nb - 1)).reverse) na at_),na,at_,out.push y++(b.extract at_ (nb - 1)).reverse,mg,ac,nb - 1 - at_)
  Lz a b (out.push y++(b.extract at_ (nb - 1)).reverse) na at_ mg ac (nb - 1 - at_)
 else Lz a b (out.push y) na (nb - 1) mg ac (nb - 1 - at_)
def Pj (a b out:Array Keyed) (na nb mg ac bc:Nat):StateT SortSt Sem (ForInStep T7):=do
 fU mg
 let some at_ ←jo false (←elem' b (nb - 1)) a 0 na (na - 1) | return .done (some (dnH a b out na nb),na,nb,out,mg,ac,bc)
 if na - at_ > 0 then
  if at_ == 0 then return .done (some (dnH a b (out++(a.extract at_ na).reverse) at_ nb),at_,nb,out++(a.extract at_ na).reverse,mg,na - at_,bc)
  LC a b (out++(a.extract at_ na).reverse) at_ nb mg (na - at_) bc
 else LC a b out na nb mg (na - at_) bc
def Ss (a b:Array Keyed) (c:T7):StateT SortSt Sem (ForInStep T7) :=
 if c.2.2.2.2.1 > 1 then Pj a b c.2.2.2.1 c.2.1 c.2.2.1 (c.2.2.2.2.1 - 1) c.2.2.2.2.2.1 c.2.2.2.2.2.2 else Pj a b c.2.2.2.1 c.2.1 c.2.2.1 c.2.2.2.2.1 c.2.2.2.2.2.1 c.2.2.2.2.2.2
def Su (a b:Array Keyed) (mg:Nat) (c:T6):StateT SortSt Sem (ForInStep T6):=do
 let some aWins ←lt' (←elem' b (c.2.2.1 - 1)) (←elem' a (c.2.1 - 1)) | return .done (some (dnH a b c.2.2.2.1 c.2.1 c.2.2.1),c.2.1,c.2.2.1,c.2.2.2.1,c.2.2.2.2.1,c.2.2.2.2.2)
 if aWins then
  let x ←elem' a (c.2.1 - 1)
  if c.2.1 - 1 == 0 then return .done (some (dnH a b (c.2.2.2.1.push x) (c.2.1 - 1) c.2.2.1),c.2.1 - 1,c.2.2.1,c.2.2.2.1.push x,c.2.2.2.2.1+1,0)
  if c.2.2.2.2.1+1 ≥ mg then return .done (none,c.2.1 - 1,c.2.2.1,c.2.2.2.1.push x,c.2.2.2.2.1+1,0)
  return .yield (none,c.2.1 - 1,c.2.2.1,c.2.2.2.1.push x,c.2.2.2.2.1+1,0)
 else
  let y ←elem' b (c.2.2.1 - 1)
  if c.2.2.1 - 1 == 1 then return .done (some (fbH a b (c.2.2.2.1.push y) c.2.1 (c.2.2.1 - 1)),c.2.1,c.2.2.1 - 1,c.2.2.2.1.push y,0,c.2.2.2.2.2+1)
  if c.2.2.2.2.2+1 ≥ mg then return .done (none,c.2.1,c.2.2.1 - 1,c.2.2.2.1.push y,0,c.2.2.2.2.2+1)
  return .yield (none,c.2.1,c.2.2.1 - 1,c.2.2.2.1.push y,0,c.2.2.2.2.2+1)
def Sv (a b:Array Keyed) (c:T5):StateT SortSt Sem (ForInStep T5):=do
 let d ←forIn [0:a.size+b.size] ((none,c.2.1,c.2.2.1,c.2.2.2.1,0,0):T6) fun _ d=>Su a b c.2.2.2.2 d
 match d.1 with
 | some r=>pure (.done (some r,d.2.1,d.2.2.1,d.2.2.2.1,c.2.2.2.2))
 | none=>do
  rule "list.sort.gallop"
  let e ←forIn [0:a.size+b.size] ((none,d.2.1,d.2.2.1,d.2.2.2.1,c.2.2.2.2+1,d.2.2.2.2.1,d.2.2.2.2.2):T7) fun _ e=>Ss a b e
  match e.1 with
  | some r=>pure (.done (some r,e.2.1,e.2.2.1,e.2.2.2.1,e.2.2.2.2.1))
  | none=>do
   fU (e.2.2.2.2.1+1)
   pure (.yield (none,e.2.1,e.2.2.1,e.2.2.2.1,e.2.2.2.2.1+1))
def Dl (a b:Array Keyed):StateT SortSt Sem (Array Keyed):=do
 rule "list.sort.merge-hi"
 let x ←elem' a (a.size - 1)
 if a.size - 1 == 0 then return dnH a b #[x] (a.size - 1) b.size
 if b.size == 1 then return fbH a b #[x] (a.size - 1) b.size
 let s ←get
 let c ←forIn [0:a.size+b.size] ((none,a.size - 1,b.size,#[x],gallopOf s):T5) fun _ c=>Sv a b c
 match c.1 with
 | some r=>pure r
 | none=>unsupported "internal:list.sort.merge-bound"
theorem Dm (a b:Array Keyed):wF a b=Dl a b:=by
 kernel_rfl
section
variable {r:Keyed->Nat}{la lb out:List Keyed}{na nb:Nat}
structure Mh (r:Keyed->Nat) (la lb out:List Keyed) (na nb:Nat):Prop where
 so:Srt r out.reverse
 lt:∀ o∈out,∀ z∈la.take na++lb.take nb,r z < r o
 pm:out.Perm (la.drop na++lb.drop nb)
theorem mq (l:List Keyed) {i j:Nat} (h:i≤j):l.drop i=(l.take j).drop i++l.drop j:=by
 conv=>lhs;rw [←ZaC j l]
 by_cases q:j≤l.length
 ·rw [List.drop_append_of_le_length (by simp;lia)]
 ·rw [show l.drop j=[] from Za6 (by lia),Za8,Za8]
theorem Mh.as (h:Mh r la lb out na nb) (sa:Srt r la) {i:Nat} (hi:i≤na) (hk:∀ x∈(la.take na).drop i,∀ y∈lb.take nb,r y < r x):Mh r la lb (out++((la.take na).drop i).reverse) i nb:=by
 have st:Srt r (la.take na):=Zaj (ZaJ _ _) sa
 have e:la.take i=(la.take na).take i:=by rw [Zbn,Zbb hi]
 have sp:Srt r ((la.take na).take i++(la.take na).drop i):=by rw [ZaC];exact st
 refine ⟨?_,fun o ho z hz=>?_,?_⟩
 ·rw [List.reverse_append,List.reverse_reverse]
  exact Zan.mpr ⟨Zaj (ZaN _ _) st,h.so,fun x hx o ho=>h.lt o (Zbz.mp ho) x (Zae.mpr (.inl (ZaM hx)))⟩
 ·rw [e] at hz
  rcases Zae.mp ho with q | q
  ·refine h.lt o q z ?_
   rcases Zae.mp hz with w | w
   ·exact Zae.mpr (.inl (ZaH w))
   ·exact Zae.mpr (.inr w)
  ·have q:=Zbz.mp q
   rcases Zae.mp hz with w | w
   ·exact (Zan.mp sp).2.2 z w o q
   ·exact hk o q z w
 ·rw [mq la hi,Zar]
  refine (List.Perm.append h.pm (List.reverse_perm _)).trans ?_
  exact List.perm_append_comm
theorem Mh.bs (h:Mh r la lb out na nb) (sb:Srt r lb) {i:Nat} (hi:i≤nb) (hk:∀ y∈(lb.take nb).drop i,∀ x∈la.take na,r x < r y):Mh r la lb (out++((lb.take nb).drop i).reverse) na i:=by
 have st:Srt r (lb.take nb):=Zaj (ZaJ _ _) sb
 have e:lb.take i=(lb.take nb).take i:=by rw [Zbn,Zbb hi]
 have sp:Srt r ((lb.take nb).take i++(lb.take nb).drop i):=by rw [ZaC];exact st
 refine ⟨?_,fun o ho z hz=>?_,?_⟩
 ·rw [List.reverse_append,List.reverse_reverse]
  exact Zan.mpr ⟨Zaj (ZaN _ _) st,h.so,fun x hx o ho=>h.lt o (Zbz.mp ho) x (Zae.mpr (.inr (ZaM hx)))⟩
 ·rw [e] at hz
  rcases Zae.mp ho with q | q
  ·refine h.lt o q z ?_
   rcases Zae.mp hz with w | w
   ·exact Zae.mpr (.inl w)
   ·exact Zae.mpr (.inr (ZaH w))
  ·have q:=Zbz.mp q
   rcases Zae.mp hz with w | w
   ·exact hk o q z w
   ·exact (Zan.mp sp).2.2 z w o q
 ·rw [mq lb hi]
  refine (List.Perm.append h.pm (List.reverse_perm _)).trans ?_
  rw [Zar]
  refine ZaR _ ?_
  exact List.perm_append_comm
theorem LK (la lb:List Keyed) (na nb:Nat):(la.take na++lb.take nb++(la.drop na++lb.drop nb)).Perm (la++lb):=by
 conv=>rhs;rw [←ZaC na la,←ZaC nb lb]
 simp only [Zar]
 refine ZaR _ ?_
 rw [←Zar,←Zar]
 exact ZbC _ List.perm_append_comm
theorem Mh.end (h:Mh r la lb out na nb) (sa:Srt r la) (sb:Srt r lb) (hk:∀ x∈la.take na,∀ y∈lb.take nb,r x < r y):Srt r (la.take na++lb.take nb++out.reverse)∧(la.take na++lb.take nb++out.reverse).Perm (la++lb):=by
 refine ⟨Zan.mpr ⟨Zan.mpr ⟨Zaj (ZaJ _ _) sa,Zaj (ZaJ _ _) sb,hk⟩,h.so,fun z hz o ho=>h.lt o (Zbz.mp ho) z hz⟩,?_⟩
 exact (ZaR _ ((List.reverse_perm _).trans h.pm)).trans (LK la lb na nb)
theorem Mh.Sd (h:Mh r la lb out na nb) (sa:Srt r la) (sb:Srt r lb) (hk:∀ x∈la.take na,∀ y∈lb.take nb,r y < r x):Srt r (lb.take nb++la.take na++out.reverse)∧(lb.take nb++la.take na++out.reverse).Perm (la++lb):=by
 refine ⟨Zan.mpr ⟨Zan.mpr ⟨Zaj (ZaJ _ _) sb,Zaj (ZaJ _ _) sa,fun y hy x hx=>hk x hx y hy⟩,h.so,fun z hz o ho=>h.lt o (Zbz.mp ho) z (by
  rcases Zae.mp hz with q | q
  ·exact Zae.mpr (.inr q)
  ·exact Zae.mpr (.inl q))⟩,?_⟩
 refine (List.Perm.append List.perm_append_comm ((List.reverse_perm _).trans h.pm)).trans (LK la lb na nb)
end
section
variable {prog:Program}{w:World}{A:Around}{E:Value->Shared->Prop}{s:Shared}{κ:SortKind}{D:Keyed->Prop}{r:Keyed->Nat}{st:SortSt}{a b:Array Keyed}
structure Aj (D:Keyed->Prop) (r:Keyed->Nat) (a b:Array Keyed):Prop where
 da:∀ x∈a.toList,D x
 db:∀ x∈b.toList,D x
 sa:Srt r a.toList
 sb:Srt r b.toList
 ne:∀ x∈a.toList,∀ y∈b.toList,r x≠r y
 fb:∀ y,b.toList[0]?=some y->∀ x∈a.toList,r y < r x
theorem rK (a:Array Keyed) (j:Nat) (h:j≤a.size):(a.extract 0 j).toList=a.toList.take j:=by
 rw [ext_toList a 0 j (ZaO _) h,Zba,Nat.sub_zero]
theorem Hm (a:Array Keyed) (i j:Nat) (h:i≤j) (hj:j≤a.size):(a.extract i j).reverse.toList=((a.toList.take j).drop i).reverse:=by
 rw [Array.toList_reverse,ext_toList a i j h hj,List.drop_take]
theorem Dn {out:Array Keyed}{na nb:Nat} (o:Aj D r a b) (m:Mh r a.toList b.toList out.toList na nb) (ha:na≤a.size) (hb:nb≤b.size) (h:na=0∨nb=0):Good r a b (dnH a b out na nb):=by
 have e:=m.end o.sa o.sb (fun x hx y hy=>by
  rcases h with q | q
  ·rw [q] at hx;cases hx
  ·rw [q] at hy;cases hy)
 unfold Good dnH
 rw [ZaK,ZaK,rK a na ha,rK b nb hb,Array.toList_reverse]
 exact e
theorem Hn {out:Array Keyed}{na nb:Nat} (o:Aj D r a b) (m:Mh r a.toList b.toList out.toList na nb) (ha:na≤a.size) (hb:nb≤b.size) (h:nb=1):Good r a b (fbH a b out na nb):=by
 have e:=m.Sd o.sa o.sb (fun x hx y hy=>by
  rw [h] at hy
  obtain ⟨y0,e0⟩:∃ y0,b.toList[0]?=some y0:=⟨_,List.getElem?_eq_getElem (by simp;lia)⟩
  have:b.toList.take 1=[y0]:=by
   have:=(take1 e0).1
   rwa [Zba] at this
  rw [this,Zay] at hy
  rw [hy]
  exact o.fb y0 e0 x (ZaH hx))
 unfold Good fbH
 rw [ZaK,ZaK,rK a na ha,rK b nb hb,Array.toList_reverse]
 exact e
structure Ih (r:Keyed->Nat) (a b out:Array Keyed) (na nb:Nat):Prop where
 mh:Mh r a.toList b.toList out.toList na nb
 a0:1≤na
 a1:na≤a.size
 b0:2≤nb
 b1:nb≤b.size
def H7 (r:Keyed->Nat) (a b:Array Keyed) (n:Nat):ForInStep T7->Prop
 | .done (some o,_)=>Good r a b o
 | .done (none,na,nb,out,_)=>Ih r a b out na nb∧na+nb≤n
 | .yield (none,na,nb,out,_)=>Ih r a b out na nb∧na+nb≤n
 | .yield (some _,_)=>False
theorem H7.mono {n m:Nat} (h:n≤m):∀ {c:ForInStep T7},H7 r a b n c->H7 r a b m c
 | .done (some _,_),p=>p
 | .done (none,_,_,_,_),p=>⟨p.1,ZaA p.2 h⟩
 | .yield (none,_,_,_,_),p=>⟨p.1,ZaA p.2 h⟩
 | .yield (some _,_),p=>p
theorem Ho {l:List Keyed}{n:Nat}{x:Keyed} (h0:1≤n) (h:l[n - 1]?=some x):(l.take n).drop (n - 1)=[x]:=by
 have hi:=(Zab.mp h).1
 have e:l.take n=l.take (n - 1)++[x]:=by
  conv=>lhs;rw [show n=n - 1+1 by lia]
  rw [List.take_succ,h];rfl
 rw [e,List.drop_left' (by simp;lia)]
theorem n6 {l:List Keyed}{n:Nat}{x:Keyed} (sl:Srt r l) (h0:1≤n) (h:l[n - 1]?=some x):∀ z∈l.take n,r z≤r x:=fun z hz=>by
 have e:l.take n=l.take (n - 1)++[x]:=by
  conv=>lhs;rw [show n=n - 1+1 by omega]
  rw [List.take_succ,h];rfl
 have:=Zaj (ZaJ n l) sl
 rw [e] at hz this
 rcases Zae.mp hz with q | q
 ·exact ZaD ((Zan.mp this).2.2 z q x (by simp))
 ·rw [Zay.mp q];exact Zaf _
theorem Mh.a1 {out:Array Keyed}{na nb:Nat}{x:Keyed} (m:Mh r a.toList b.toList out.toList na nb) (sa:Srt r a.toList) (h0:1≤na) (ex:a.toList[na - 1]?=some x) (hx:∀ y∈b.toList.take nb,r y < r x):Mh r a.toList b.toList (out.push x).toList (na - 1) nb:=by
 have:=m.as sa (i:=na - 1) (by omega) (by rw [Ho h0 ex];intro z hz;rw [Zay.mp hz];exact hx)
 rw [Ho h0 ex] at this
 rw [Zbp];exact this
theorem Mh.b1 {out:Array Keyed}{na nb:Nat}{y:Keyed} (m:Mh r a.toList b.toList out.toList na nb) (sb:Srt r b.toList) (h0:1≤nb) (ey:b.toList[nb - 1]?=some y) (hy:∀ x∈a.toList.take na,r x < r y):Mh r a.toList b.toList (out.push y).toList na (nb - 1):=by
 have:=m.bs sb (i:=nb - 1) (by omega) (by rw [Ho h0 ey];intro z hz;rw [Zay.mp hz];exact hy)
 rw [Ho h0 ey] at this
 rw [Zbp];exact this
theorem Pk {M:Model}{out:Array Keyed}{na nb mg ac bc:Nat} (o:Aj D r a b) (i:Ih r a b out na nb) (hx:∀ x,a.toList[na - 1]?=some x->∀ y∈b.toList.take nb,r y < r x) :
  wpS M A E s (Lz a b out na nb mg ac bc) (fun c st'=>st'=st∧H7 r a b (na+nb - 1) c) st:=by
 obtain ⟨mh,a0,a1,b0,b1⟩:=i
 obtain ⟨x,ex,ex'⟩:=getL (l:=a) (i:=na - 1) (by lia)
 have m:=mh.a1 o.sa a0 ex (hx x ex)
 unfold Lz
 refine wpS_bind (bK ex' ?_)
 by_cases q:na - 1=0
 ·rw [if_pos (by simpa using q)]
  exact wpS_pure ⟨rfl,Dn o m (by lia) b1 (.inl q)⟩
 ·rw [if_neg (by simpa using q)]
  have I:Ih r a b (out.push x) (na - 1) nb:=⟨m,by lia,by lia,b0,b1⟩
  split
  ·exact wpS_pure ⟨rfl,I,by lia⟩
  ·exact wpS_pure ⟨rfl,I,by lia⟩
theorem Pn {out:Array Keyed}{na nb mg ac bc:Nat} (hc:Cmp prog w A s κ D r) (hk:kindOf st=κ) (o:Aj D r a b) (i:Ih r a b out na nb) (hy:∀ y,b.toList[nb - 1]?=some y->∀ x∈a.toList.take na,r x < r y) :
  wpS (model prog w) A E s (LC a b out na nb mg ac bc) (fun c st'=>st'=st∧H7 r a b (na+nb - 1) c) st:=by
 obtain ⟨mh,a0,a1,b0,b1⟩:=i
 obtain ⟨y,ey,ey'⟩:=getL (l:=b) (i:=nb - 1) (by omega)
 have m:=mh.b1 o.sb (by omega) ey (hy y ey)
 unfold LC
 refine wpS_bind (bK ey' ?_)
 by_cases q:nb - 1=1
 ·rw [if_pos (by simpa using q)]
  exact wpS_pure ⟨rfl,Hn o m a1 (by omega) q⟩
 ·rw [if_neg (by simpa using q)]
  obtain ⟨x,ex,ex'⟩:=getL (l:=a) (i:=na - 1) (by omega)
  refine wpS_bind (bK ex' ?_)
  refine wpS_bind (ir (L:=b.toList.take (nb - 1)) hc hk (by omega) (by omega) (by rw [Zba]) (o.da x (nj ex)) (fun z hz=>⟨o.db z (ZaH hz),fun e=>o.ne x (nj ex) z (ZaH hz) e.symm⟩) (Zaj (ZaJ _ _) o.sb) fun k hk' g1 g2=>?_)
  dsimp only
  rw [Zbn,Zbb hk'] at g1
  have fin:∀ {o2:Array Keyed}{j:Nat},Mh r a.toList b.toList o2.toList na j->j=k->2≤j->∀ bc,wpS (model prog w) A E s (Lz a b o2 na j mg ac bc) (fun c st'=>st'=st∧H7 r a b (na+nb - 1) c) st:=fun {o2 j} m2 e ne bc=>by
   refine wpS_mono (Pk o ⟨m2,a0,a1,ne,by omega⟩ fun x' ex2 z hz=>?_) fun c st' p=>⟨p.1,H7.mono (by omega) p.2⟩
   rw [ex] at ex2;cases ex2
   rw [e] at hz
   exact g1 z hz
  by_cases q2:nb - 1 - k > 0
  ·rw [if_pos q2]
   have m2:Mh r a.toList b.toList (out.push y++(b.extract k (nb - 1)).reverse).toList na k:=by
    have:=m.bs o.sb (i:=k) (by omega) fun z hz x' hx'=>Nat.lt_of_le_of_lt (n6 o.sa a0 ex x' hx') (g2 z hz)
    rw [ZaK,Hm b k (nb - 1) (by omega) (by omega)]
    exact this
   by_cases q3:k=1
   ·rw [if_pos (by simpa using q3)]
    exact wpS_pure ⟨rfl,Hn o m2 a1 (by omega) q3⟩
   ·rw [if_neg (by simpa using q3)]
    by_cases q4:k=0
    ·rw [if_pos (by simpa using q4)]
     exact wpS_pure ⟨rfl,Dn o m2 a1 (by omega) (.inr q4)⟩
    ·rw [if_neg (by simpa using q4)]
     exact fin m2 rfl (by omega) _
  ·rw [if_neg q2]
   exact fin m (by omega) (by omega) _
theorem Hq {out:Array Keyed}{na nb mg ac bc:Nat} (hc:Cmp prog w A s κ D r) (hk:kindOf st=κ) (o:Aj D r a b) (i:Ih r a b out na nb) :
  wpS (model prog w) A E s (Pj a b out na nb mg ac bc) (fun c st'=>st'=cj st mg∧H7 r a b (na+nb - 1) c) st:=by
 obtain ⟨mh,a0,a1,b0,b1⟩:=i
 obtain ⟨y,ey,ey'⟩:=getL (l:=b) (i:=nb - 1) (by lia)
 unfold Pj
 rw [fG]
 refine wpS_bind (wpS_modify ?_)
 refine wpS_bind (bK ey' ?_)
 refine wpS_bind (ir (L:=a.toList.take na) hc (show kindOf (cj st mg)=κ from hk) (by lia) (by lia) (by rw [Zba]) (o.db y (nj ey)) (fun z hz=>⟨o.da z (ZaH hz),fun e=>o.ne z (ZaH hz) y (nj ey) e⟩) (Zaj (ZaJ _ _) o.sa) fun k hk' g1 g2=>?_)
 dsimp only
 rw [Zbn,Zbb hk'] at g1
 have fin:∀ {o2:Array Keyed}{j:Nat},Mh r a.toList b.toList o2.toList j nb->j=k->1≤j->∀ ac,wpS (model prog w) A E s (LC a b o2 j nb mg ac bc) (fun c st'=>st'=cj st mg∧H7 r a b (na+nb - 1) c) (cj st mg):=fun {o2 j} m2 e ne ac=>by
  refine wpS_mono (Pn hc (show kindOf (cj st mg)=κ from hk) o ⟨m2,ne,by lia,b0,b1⟩ fun y' ey2 z hz=>?_) fun c st' p=>⟨p.1,H7.mono (by lia) p.2⟩
  rw [ey] at ey2;cases ey2
  rw [e] at hz
  exact g1 z hz
 by_cases q2:na - k > 0
 ·rw [if_pos q2]
  have m2:Mh r a.toList b.toList (out++(a.extract k na).reverse).toList k nb:=by
   have:=mh.as o.sa (i:=k) (by lia) fun x hx z hz=>Nat.lt_of_le_of_lt (n6 o.sb (by lia) ey z hz) (g2 x hx)
   rw [ZaK,Hm a k na (by lia) a1]
   exact this
  by_cases q3:k=0
  ·rw [if_pos (by simpa using q3)]
   exact wpS_pure ⟨rfl,Dn o m2 (by lia) b1 (.inl q3)⟩
  ·rw [if_neg (by simpa using q3)]
   exact fin m2 rfl (by lia) _
 ·rw [if_neg q2]
  exact fin mh (by lia) a0 _
theorem Pu {c:T7} (hc:Cmp prog w A s κ D r) (hk:kindOf st=κ) (o:Aj D r a b) (i:Ih r a b c.2.2.2.1 c.2.1 c.2.2.1) :
  wpS (model prog w) A E s (Ss a b c) (fun c' st'=>(∃ g,st'=cj st g)∧H7 r a b (c.2.1+c.2.2.1 - 1) c') st:=by
 unfold Ss
 split
 ·exact wpS_mono (Hq hc hk o i) fun c' st' p=>⟨⟨_,p.1⟩,p.2⟩
 ·exact wpS_mono (Hq hc hk o i) fun c' st' p=>⟨⟨_,p.1⟩,p.2⟩
def H6 (r:Keyed->Nat) (a b:Array Keyed) (n:Nat):ForInStep T6->Prop
 | .done (some o,_)=>Good r a b o
 | .done (none,na,nb,out,_)=>Ih r a b out na nb∧na+nb≤n
 | .yield (none,na,nb,out,_)=>Ih r a b out na nb∧na+nb≤n
 | .yield (some _,_)=>False
theorem Px {c:T6}{mg:Nat} (hc:Cmp prog w A s κ D r) (hk:kindOf st=κ) (o:Aj D r a b) (i:Ih r a b c.2.2.2.1 c.2.1 c.2.2.1) :
  wpS (model prog w) A E s (Su a b mg c) (fun c' st'=>st'=st∧H6 r a b (c.2.1+c.2.2.1 - 1) c') st:=by
 obtain ⟨c0,na,nb,out,ac,bc⟩:=c
 obtain ⟨mh,a0,a1,b0,b1⟩:=i
 have a0:1≤na:=a0
 have b0:2≤nb:=b0
 have a1:na≤a.size:=a1
 have b1:nb≤b.size:=b1
 obtain ⟨y,ey,ey'⟩:=getL (l:=b) (i:=nb - 1) (by lia)
 obtain ⟨x,ex,ex'⟩:=getL (l:=a) (i:=na - 1) (by lia)
 unfold Su
 dsimp only
 refine wpS_bind (bK ey' (wpS_bind (bK ex' (wpS_bind (wG hc hk (o.db y (nj ey)) (o.da x (nj ex)) ?_)))))
 dsimp only
 have nxy:=o.ne x (nj ex) y (nj ey)
 by_cases q:r y < r x
 ·rw [decide_eq_true q,if_pos rfl]
  have m:=mh.a1 o.sa a0 ex fun z hz=>Nat.lt_of_le_of_lt (n6 o.sb (by lia) ey z hz) q
  refine wpS_bind (bK ex' ?_)
  by_cases q2:na - 1=0
  ·rw [if_pos (by simpa using q2)]
   exact wpS_pure ⟨rfl,Dn o m (by lia) b1 (.inl q2)⟩
  ·rw [if_neg (by simpa using q2)]
   have I:Ih r a b (out.push x) (na - 1) nb:=⟨m,by lia,by lia,b0,b1⟩
   split
   ·exact wpS_pure ⟨rfl,I,by show na - 1+nb≤na+nb - 1;lia⟩
   ·exact wpS_pure ⟨rfl,I,by show na - 1+nb≤na+nb - 1;lia⟩
 ·rw [decide_eq_false q,if_neg (by decide)]
  have m:=mh.b1 o.sb (by lia) ey fun z hz=>Nat.lt_of_le_of_lt (n6 o.sa a0 ex z hz) (by lia)
  refine wpS_bind (bK ey' ?_)
  by_cases q2:nb - 1=1
  ·rw [if_pos (by simpa using q2)]
   exact wpS_pure ⟨rfl,Hn o m a1 (by lia) q2⟩
  ·rw [if_neg (by simpa using q2)]
   have I:Ih r a b (out.push y) na (nb - 1):=⟨m,a0,a1,by lia,by lia⟩
   split
   ·exact wpS_pure ⟨rfl,I,by show na+(nb - 1)≤na+nb - 1;lia⟩
   ·exact wpS_pure ⟨rfl,I,by show na+(nb - 1)≤na+nb - 1;lia⟩
def H5 (r:Keyed->Nat) (a b:Array Keyed) (n:Nat):ForInStep T5->Prop
 | .done (some o,_)=>Good r a b o
 | .done (none,_)=>False
 | .yield (none,na,nb,out,_)=>Ih r a b out na nb∧na+nb≤n
 | .yield (some _,_)=>False
theorem Py {c:T5} (hc:Cmp prog w A s κ D r) (hk:kindOf st=κ) (o:Aj D r a b) (i:Ih r a b c.2.2.2.1 c.2.1 c.2.2.1) :
  wpS (model prog w) A E s (Sv a b c) (fun c' st'=>(∃ g,st'=cj st g)∧H5 r a b (c.2.1+c.2.2.1 - 1) c') st:=by
 obtain ⟨c0,na,nb,out,mg⟩:=c
 have a0:1≤na:=i.a0
 have a1:na≤a.size:=i.a1
 unfold Sv
 dsimp only
 refine wpS_bind (wpS_mono (wpS_forRange (I:=fun k d st'=>st'=st∧∃ o2 i2 j2 ac bc,d=((none,i2,j2,o2,ac,bc):T6)∧Ih r a b o2 i2 j2∧i2+j2+k≤na+nb)
  (Q:=fun d st'=>st'=st∧((∃ o2 x,d=((some o2,x):T6)∧Good r a b o2)∨∃ o2 i2 j2 ac bc,d=((none,i2,j2,o2,ac,bc):T6)∧Ih r a b o2 i2 j2∧i2+j2≤na+nb - 1)) ?_ ?_ ⟨rfl,out,na,nb,0,0,rfl,i,Zaf _⟩) ?_)
 ·rintro k d st' _ hk' ⟨rfl,o2,i2,j2,ac,bc,rfl,I,hn⟩
  have:=I.a0
  refine wpS_mono (Px (c:=(none,i2,j2,o2,ac,bc)) hc hk o I) fun e st' p=>?_
  obtain ⟨rfl,p⟩:=p
  match e,p with
  | .done (some o3,x),p=>exact ⟨rfl,.inl ⟨o3,x,rfl,p⟩⟩
  | .done (none,i3,j3,o3,a3,b3),p=>exact ⟨rfl,.inr ⟨o3,i3,j3,a3,b3,rfl,p.1,by have:i3+j3≤i2+j2 - 1:=p.2;lia⟩⟩
  | .yield (none,i3,j3,o3,a3,b3),p=>exact ⟨rfl,o3,i3,j3,a3,b3,rfl,p.1,by have:i3+j3≤i2+j2 - 1:=p.2;lia⟩
  | .yield (some _,_),p=>exact p.elim
 ·rintro d st' ⟨rfl,o2,i2,j2,ac,bc,rfl,I,hn⟩
  exact ⟨rfl,.inr ⟨o2,i2,j2,ac,bc,rfl,I,by lia⟩⟩
 ·rintro d st' ⟨rfl,⟨o2,x,rfl,G⟩ | ⟨o2,i2,j2,ac,bc,rfl,I,hn⟩⟩
  ·exact wpS_pure ⟨⟨gallopOf st',rfl⟩,G⟩
  ·dsimp only
   refine wpS_bind (lr ?_)
   refine wpS_bind (wpS_mono (wpS_forRange (I:=fun k e st2=>(∃ g,st2=cj st' g)∧∃ o2 i2 j2 mg ac bc,e=((none,i2,j2,o2,mg,ac,bc):T7)∧Ih r a b o2 i2 j2∧i2+j2≤na+nb - 1)
    (Q:=fun e st2=>(∃ g,st2=cj st' g)∧((∃ o2 x,e=((some o2,x):T7)∧Good r a b o2)∨∃ o2 i2 j2 mg ac bc,e=((none,i2,j2,o2,mg,ac,bc):T7)∧Ih r a b o2 i2 j2∧i2+j2≤na+nb - 1)) ?_ ?_ ⟨⟨gallopOf st',rfl⟩,o2,i2,j2,_,ac,bc,rfl,I,hn⟩) ?_)
   ·rintro k e st2 _ _ ⟨⟨g,rfl⟩,o3,i3,j3,m3,a3,b3,rfl,I3,hn3⟩
    refine wpS_mono (Pu (c:=(none,i3,j3,o3,m3,a3,b3)) hc (show kindOf (cj st' g)=κ from hk) o I3) fun e st3 p=>?_
    obtain ⟨⟨g2,rfl⟩,p⟩:=p
    match e,p with
    | .done (some o4,x),p=>exact ⟨⟨g2,rfl⟩,.inl ⟨o4,x,rfl,p⟩⟩
    | .done (none,i4,j4,o4,m4,a4,b4),p=>exact ⟨⟨g2,rfl⟩,.inr ⟨o4,i4,j4,m4,a4,b4,rfl,p.1,by have:i4+j4≤i3+j3 - 1:=p.2;lia⟩⟩
    | .yield (none,i4,j4,o4,m4,a4,b4),p=>exact ⟨⟨g2,rfl⟩,o4,i4,j4,m4,a4,b4,rfl,p.1,by have:i4+j4≤i3+j3 - 1:=p.2;lia⟩
    | .yield (some _,_),p=>exact p.elim
   ·rintro e st2 ⟨G,o3,i3,j3,m3,a3,b3,rfl,I3,hn3⟩
    exact ⟨G,.inr ⟨o3,i3,j3,m3,a3,b3,rfl,I3,hn3⟩⟩
   ·rintro e st2 ⟨⟨g,rfl⟩,⟨o3,x,rfl,G⟩ | ⟨o3,i3,j3,m3,a3,b3,rfl,I3,hn3⟩⟩
    ·exact wpS_pure ⟨⟨g,rfl⟩,G⟩
    ·dsimp only
     rw [fG]
     refine wpS_bind (wpS_modify ?_)
     exact wpS_pure ⟨⟨_,rfl⟩,I3,hn3⟩
theorem Do (hc:Cmp prog w A s κ D r) (hk:kindOf st=κ) (a1:1≤a.size) (b1:1≤b.size) (o:Aj D r a b) (hf:∀ x,a.toList[a.size - 1]?=some x->∀ y∈b.toList,r y < r x) {Q:Array Keyed->SortSt->Prop}
  (h:∀ out g,Good r a b out->Q out (cj st g)):wpS (model prog w) A E s (wF a b) Q st:=by
 rw [Dm]
 unfold Dl
 refine wpS_bind (lr ?_)
 obtain ⟨x,ex,ex'⟩:=getL (l:=a) (i:=a.size - 1) (by lia)
 refine wpS_bind (bK ex' ?_)
 have m:Mh r a.toList b.toList (#[x]:Array Keyed).toList (a.size - 1) b.size:=by
  have m0:Mh r a.toList b.toList (#[]:Array Keyed).toList a.size b.size:=⟨.nil,fun _ h=>(nomatch h),by simp⟩
  exact m0.a1 o.sa a1 ex fun y hy=>hf x ex y (ZaH hy)
 by_cases q:a.size - 1=0
 ·rw [if_pos (by simpa using q)]
  exact wpS_pure (h _ (gallopOf st) (Dn o m (by lia) (Zaf _) (.inl q)))
 ·rw [if_neg (by simpa using q)]
  by_cases q2:b.size=1
  ·rw [if_pos (by simpa using q2)]
   exact wpS_pure (h _ (gallopOf st) (Hn o m (by lia) (Zaf _) q2))
  ·rw [if_neg (by simpa using q2)]
   refine wpS_bind (wpS_get ?_)
   refine wpS_bind (wpS_mono (wpS_forRange (I:=fun k c st'=>(∃ g,st'=cj st g)∧∃ out na nb mg,c=((none,na,nb,out,mg):T5)∧Ih r a b out na nb∧na+nb+k+1≤a.size+b.size)
    (Q:=fun c st'=>(∃ g,st'=cj st g)∧∃ out x,c=((some out,x):T5)∧Good r a b out) ?_ ?_ ⟨⟨gallopOf st,rfl⟩,_,a.size - 1,b.size,_,rfl,⟨m,by lia,by lia,by lia,Zaf _⟩,by lia⟩) ?_)
   ·rintro k c st' _ hk' ⟨⟨g,rfl⟩,out,na,nb,mg,rfl,I,hn⟩
    have:=I.a0
    refine wpS_mono (Py (c:=(none,na,nb,out,mg)) hc (show kindOf (cj st g)=κ from hk) o I) fun e st3 p=>?_
    obtain ⟨⟨g2,rfl⟩,p⟩:=p
    match e,p with
    | .done (some o4,x),p=>exact ⟨⟨g2,rfl⟩,o4,x,rfl,p⟩
    | .done (none,_),p=>exact p.elim
    | .yield (none,i4,j4,o4,m4),p=>exact ⟨⟨g2,rfl⟩,o4,i4,j4,m4,rfl,p.1,by have:i4+j4≤na+nb - 1:=p.2;lia⟩
    | .yield (some _,_),p=>exact p.elim
   ·rintro c st' ⟨_,out,na,nb,mg,rfl,I,hn⟩
    have:=I.a0
    lia
   ·rintro c st' ⟨⟨g,rfl⟩,out,x,rfl,G⟩
    exact wpS_pure (h out g G)
end
theorem yQ (i:Nat):∀ (M:List Keyed) (a:Array Keyed) (n:Nat),i+n+M.length≤a.size->((M.zipIdx n).foldl (fun a (p:Keyed×Nat)=>a.setIfInBounds (i+p.2) p.1) a).toList=a.toList.take (i+n)++M++a.toList.drop (i+n+M.length)
 | [],a,n,_=>by simp
 | x::M,a,n,h=>by
  rw [Zav] at h ⊢
  rw [List.zipIdx_cons,List.foldl_cons,yQ i M _ (n+1) (by rw [Array.size_setIfInBounds];lia),Array.toList_setIfInBounds]
  have e1:(a.toList.set (i+n) x).take (i+(n+1))=a.toList.take (i+n)++[x]:=by
   rw [show i+(n+1)=i+n+1 by lia,List.take_succ,List.take_set_of_le (Zaf _),ZaP (by simp;lia)]
   rfl
  have e2:(a.toList.set (i+n) x).drop (i+(n+1)+M.length)=a.toList.drop (i+n+(M.length+1)):=by
   rw [List.drop_set_of_lt (by lia),show i+(n+1)+M.length=i+n+(M.length+1) by lia]
  rw [e1,e2]
  simp
theorem LQ (M:List Keyed) (a:Array Keyed) (i:Nat) (h:i+M.length≤a.size):(M.zipIdx.foldl (fun a (p:Keyed×Nat)=>a.setIfInBounds (i+p.2) p.1) a).toList=a.toList.take i++M++a.toList.drop (i+M.length):=yQ i M a 0 h
section
variable {prog:Program}{w:World}{A:Around}{E:Value->Shared->Prop}{s:Shared}{κ:SortKind}{D:Keyed->Prop}{r:Keyed->Nat}{st:SortSt}
theorem Pz {M:Model}{st2:SortSt}{Q:PUnit->SortSt->Prop} (h:Q ⟨⟩ st2):wpS M A E s (set st2:StateT SortSt Sem PUnit) Q st:=by
 unfold wpS;rw [StateT.run_set];exact wpAny_pure ⟨rfl,h⟩
def bL (l:List Keyed) (i j:Nat):List Keyed:=(l.take j).drop i
theorem uY (l:List Keyed) (i j:Nat):(l.drop i).take (j - i)=bL l i j:=by unfold bL;rw [List.drop_take]
theorem Sx (l:List Keyed) {i j:Nat} (h:i≤j):l=l.take i++bL l i j++l.drop j:=by
 unfold bL
 conv=>lhs;rw [←ZaC j l,←ZaC i (l.take j)]
 rw [Zbn,Zbb h]
theorem iV (l:List Keyed) {i j k:Nat} (h:i≤j) (h2:j≤k):bL l i k=bL l i j++bL l j k:=by
 unfold bL
 rw [mq (l.take k) h,Zbn,Zbb h2]
theorem wI (l:List Keyed) (i j n:Nat):(bL l i j).take n=bL l i (min (i+n) j):=by
 unfold bL
 rw [List.take_drop,Zbn]
theorem wJ (l:List Keyed) (i j n:Nat):(bL l i j).drop n=bL l (i+n) j:=by
 unfold bL
 rw [List.drop_drop]
theorem jR (l:List Keyed) {i j:Nat} (h:j≤l.length):(bL l i j).length=j - i:=by
 unfold bL
 rw [List.length_drop,List.length_take,Zbb h]
theorem t8 (l:List Keyed) {i j n:Nat} (h:i+n < j):(bL l i j)[n]?=l[i+n]?:=by
 unfold bL
 rw [List.getElem?_drop,List.getElem?_take,if_pos h]
theorem uZ {l:List Keyed}{i j:Nat}{x:Keyed} (h:x∈bL l i j):x∈l:=ZaH (ZaM h)
def Unl (r:Keyed->Nat) (l:List Keyed):Prop:=l.Pairwise fun x y=>r x≠r y
theorem Unl.parts {l:List Keyed} (u:Unl r l) {i j k:Nat} (h:i≤j) (h2:j≤k):∀ x∈bL l i j,∀ y∈bL l j k,r x≠r y:=fun x hx y hy=>by
 have:Unl r (bL l i k):=Zaj ((ZaN _ _).trans (ZaJ _ _)) u
 rw [iV l h h2] at this
 exact (Zan.mp this).2.2 x hx y hy
theorem Dq {i sa na sb nb p1 p2:Nat} (hc:Cmp prog w A s κ D r) (hk:kindOf st=κ) (hf:failedOf st=none) (e1:(pendingOf st)[i]?=some (sa,na,p1)) (e2:(pendingOf st)[i+1]?=some (sb,nb,p2)) (hs:sb=sa+na) (n1:1≤na) (n2:1≤nb) (hz:sb+nb≤(arrOf st).size)
  (dm:∀ x∈(arrOf st).toList,D x) (un:Unl r (arrOf st).toList) (s1:Srt r (bL (arrOf st).toList sa sb)) (s2:Srt r (bL (arrOf st).toList sb (sb+nb))) {Q:Bool->SortSt->Prop}
  (h:∀ (M:List Keyed) arr' g,arr'.toList=(arrOf st).toList.take sa++M++(arrOf st).toList.drop (sb+nb)->M.Perm (bL (arrOf st).toList sa (sb+nb))->Srt r M->Q true (SortSt.mk' κ arr' (((pendingOf st).setIfInBounds i (sa,na+nb,p1)).eraseIdxIfInBounds (i+1)) g none)) :
  wpS (model prog w) A E s (mergeAt' i) Q st:=by
 obtain ⟨kd,arr,pd,gl,fl⟩:=st
 have hk:kd=κ:=hk
 have hf:fl=none:=hf
 subst hk hf
 have ll:arr.toList.length=arr.size:=by simp
 have hz:sb+nb≤arr.size:=hz
 have dm:∀ x∈arr.toList,D x:=dm
 have un:Unl r arr.toList:=un
 have s1:Srt r (bL arr.toList sa sb):=s1
 have s2:Srt r (bL arr.toList sb (sb+nb)):=s2
 rw [Dh]
 refine wpS_bind (wpS_get ?_)
 dsimp only
 rw [e1,e2]
 dsimp only
 refine wpS_bind (Pz ?_)
 obtain ⟨y0,ey,ey'⟩:=getL (l:=arr) (i:=sb) (by omega)
 refine wpS_bind (bK ey' ?_)
 have ne12:=un.parts (i:=sa) (j:=sb) (k:=sb+nb) (by omega) (by omega)
 have my0:y0∈bL arr.toList sb (sb+nb):=Zag (i:=0) (by rw [t8 _ (by omega)];exact ey)
 have y0le:∀ z∈bL arr.toList sb (sb+nb),r y0≤r z:=fun z hz'=>nZ (i:=0) s2 (by rw [t8 _ (by omega)];exact ey) z (by rw [Zba];exact hz')
 refine wpS_bind (ir (L:=bL arr.toList sa sb) hc rfl (by omega) (by omega) (by rw [←uY,show sb - sa=na by omega]) (dm y0 (nj ey)) (fun z hz'=>⟨dm z (uZ hz'),ne12 z hz' y0 my0⟩) s1 fun k hk' g1 g2=>?_)
 dsimp only
 have whole:∀ g,(∀ x∈bL arr.toList sa sb,∀ y∈bL arr.toList sb (sb+nb),r x < r y)->Q true (SortSt.mk' kd arr ((pd.setIfInBounds i (sa,na+nb,p1)).eraseIdxIfInBounds (i+1)) g none):=fun g hlt=>by
  refine h (bL arr.toList sa (sb+nb)) arr g (Sx _ (by omega)) (List.Perm.refl _) ?_
  rw [iV _ (show sa≤sb by omega) (show sb≤sb+nb by omega)]
  exact Zan.mpr ⟨s1,s2,hlt⟩
 by_cases q1:na - k=0
 ·rw [if_pos (by simpa using q1)]
  refine wpS_pure (whole _ fun x hx y hy=>?_)
  have:(bL arr.toList sa sb).take k=bL arr.toList sa sb:=ZaL (by rw [jR _ (by omega)];omega)
  rw [this] at g1
  exact Zap (g1 x hx) (y0le y hy)
 ·rw [if_neg (by simpa using q1)]
  have es:sa+k+(na - k) - 1=sb - 1:=by omega
  rw [es]
  obtain ⟨x1,ex,ex'⟩:=getL (l:=arr) (i:=sb - 1) (by omega)
  refine wpS_bind (bK ex' ?_)
  have exA:(bL arr.toList sa sb)[na - 1]?=some x1:=by rw [t8 _ (by omega),show sa+(na - 1)=sb - 1 by omega];exact ex
  have mx1:x1∈bL arr.toList sa sb:=Zag exA
  have x1le:∀ z∈bL arr.toList sa sb,r z≤r x1:=fun z hz'=>n6 (n:=na) s1 n1 exA z (by rw [ZaL (by rw [jR _ (by omega)];omega)];exact hz')
  refine wpS_bind (ir (L:=bL arr.toList sb (sb+nb)) hc rfl (by omega) (by omega) (by rw [←uY,Zbw]) (dm x1 (nj ex)) (fun z hz'=>⟨dm z (uZ hz'),fun e=>ne12 x1 mx1 z hz' e.symm⟩) s2 fun m hm f1 f2=>?_)
  dsimp only
  by_cases q2:m=0
  ·rw [if_pos (by simpa using q2)]
   refine wpS_pure (whole _ fun x hx y hy=>?_)
   rw [q2,Zba] at f2
   exact Nat.lt_of_le_of_lt (x1le x hx) (f2 y hy)
  ·rw [if_neg (by simpa using q2)]
   rw [wJ] at g2 f2
   rw [wI,Zbb (by omega)] at g1 f1
   have tx:(arr.extract (sa+k) sb).toList=bL arr.toList (sa+k) sb:=by rw [ext_toList arr _ _ (by omega) (by omega),uY]
   have ty:(arr.extract sb (sb+m)).toList=bL arr.toList sb (sb+m):=by rw [ext_toList arr _ _ (by omega) (by omega),uY]
   have zx:(arr.extract (sa+k) sb).size=na - k:=by rw [←ZaS,tx,jR _ (by omega)];omega
   have zy:(arr.extract sb (sb+m)).size=m:=by rw [←ZaS,ty,jR _ (by omega)];omega
   have sx:Srt r (bL arr.toList (sa+k) sb):=by
    rw [←wJ];exact Zaj (ZaN _ _) s1
   have sy:Srt r (bL arr.toList sb (sb+m)):=by
    have:bL arr.toList sb (sb+m)=(bL arr.toList sb (sb+nb)).take m:=by rw [wI,Zbb (by omega)]
    rw [this];exact Zaj (ZaJ _ _) s2
   have inx:∀ z∈bL arr.toList (sa+k) sb,z∈bL arr.toList sa sb:=fun z hz'=>by rw [←wJ] at hz';exact ZaM hz'
   have iny:∀ z∈bL arr.toList sb (sb+m),z∈bL arr.toList sb (sb+nb):=fun z hz'=>by
    have:bL arr.toList sb (sb+m)=(bL arr.toList sb (sb+nb)).take m:=by rw [wI,Zbb (by omega)]
    rw [this] at hz';exact ZaH hz'
   have fy:∀ y,(arr.extract sb (sb+m)).toList[0]?=some y->∀ x∈(arr.extract (sa+k) sb).toList,r y < r x:=fun y hy x hx=>by
    rw [ty,t8 _ (by omega),Nat.add_zero,ey] at hy
    cases hy
    rw [tx] at hx
    exact g2 x hx
   have lx:∀ x,(arr.extract (sa+k) sb).toList[(arr.extract (sa+k) sb).size - 1]?=some x->∀ y∈(arr.extract sb (sb+m)).toList,r y < r x:=fun x hx y hy=>by
    rw [tx,zx,t8 _ (by omega),show sa+k+(na - k - 1)=sb - 1 by omega,ex] at hx
    cases hx
    rw [ty] at hy
    exact f1 y hy
   have fin:∀ (out:Array Keyed) (g:Nat),Good r (arr.extract (sa+k) sb) (arr.extract sb (sb+m)) out->wpS (model prog w) A E s (do
     modify fun s=>setArr s (out.toList.zipIdx.foldl (fun a (p,j)=>a.setIfInBounds (sa+k+j) p) (arrOf s))
     return (failedOf (←get)).isNone) Q (SortSt.mk' kd arr ((pd.setIfInBounds i (sa,na+nb,p1)).eraseIdxIfInBounds (i+1)) g none):=fun out g G=>by
    refine wpS_bind (wpS_modify (wpS_bind (wpS_get (wpS_pure ?_))))
    obtain ⟨G1,G2⟩:=G
    rw [tx,ty] at G2
    have ol:out.toList.length=na - k+m:=by rw [G2.length_eq,List.length_append,jR _ (by omega),jR _ (by omega)];omega
    have fs:=LQ out.toList arr (sa+k) (by rw [ol];omega)
    rw [ol,show sa+k+(na - k+m)=sb+m by omega] at fs
    refine h (bL arr.toList sa (sa+k)++out.toList++bL arr.toList (sb+m) (sb+nb)) _ g ?_ ?_ ?_
    ·refine Eq.trans fs ?_
     have t1:arr.toList.take (sa+k)=arr.toList.take sa++bL arr.toList sa (sa+k):=by
      have:=Sx (arr.toList.take (sa+k)) (i:=sa) (j:=sa+k) (by omega)
      rw [Zbn,Zbb (by omega),show (arr.toList.take (sa+k)).drop (sa+k)=[] from Za6 (by simp;omega),Za8] at this
      unfold bL at this ⊢
      rw [Zbn,Nat.min_self] at this
      exact this
     have t2:arr.toList.drop (sb+m)=bL arr.toList (sb+m) (sb+nb)++arr.toList.drop (sb+nb):=mq _ (by omega)
     rw [t1,t2]
     simp only [Zar]
    ·rw [iV arr.toList (show sa≤sa+k by omega) (show sa+k≤sb+nb by omega),iV arr.toList (show sa+k≤sb by omega) (show sb≤sb+nb by omega),iV arr.toList (show sb≤sb+m by omega) (show sb+m≤sb+nb by omega)]
     simp only [Zar]
     refine ZaR _ ?_
     rw [←Zar]
     exact ZbC _ G2
    ·have mo:∀ z∈out.toList,z∈bL arr.toList (sa+k) sb∨z∈bL arr.toList sb (sb+m):=fun z hz'=>Zae.mp (G2.mem_iff.mp hz')
     have sA:Srt r (bL arr.toList sa (sa+k)++bL arr.toList (sa+k) sb):=by rw [←iV _ (by omega) (by omega)];exact s1
     have sB:Srt r (bL arr.toList sb (sb+m)++bL arr.toList (sb+m) (sb+nb)):=by rw [←iV _ (by omega) (by omega)];exact s2
     have pA:=Zan.mp sA
     have pB:=Zan.mp sB
     refine Zan.mpr ⟨Zan.mpr ⟨pA.1,G1,fun x hx z hz'=>?_⟩,pB.2.1,fun x hx y hy=>?_⟩
     ·rcases mo z hz' with q | q
      ·exact pA.2.2 x hx z q
      ·exact Zap (g1 x hx) (y0le z (iny z q))
     ·rcases Zae.mp hx with q | q
      ·have hy':y∈bL arr.toList sb (sb+nb):=by rw [iV arr.toList (show sb≤sb+m by omega) (show sb+m≤sb+nb by omega)];exact Zae.mpr (.inr hy)
       exact Zap (g1 x q) (y0le y hy')
      ·rcases mo x q with q | q
       ·exact Nat.lt_of_le_of_lt (x1le x (inx x q)) (f2 y hy)
       ·exact pB.2.2 x q y hy
   have nexy:∀ x∈(arr.extract (sa+k) sb).toList,∀ y∈(arr.extract sb (sb+m)).toList,r x≠r y:=fun x hx y hy=>by
    rw [tx] at hx;rw [ty] at hy
    exact ne12 x (inx x hx) y (iny y hy)
   have dax:∀ x∈(arr.extract (sa+k) sb).toList,D x:=fun x hx=>by rw [tx] at hx;exact dm x (uZ hx)
   have day:∀ x∈(arr.extract sb (sb+m)).toList,D x:=fun x hx=>by rw [ty] at hx;exact dm x (uZ hx)
   by_cases q3:na - k≤m
   ·rw [if_pos q3]
    refine wpS_bind (Dk hc rfl (by omega) (by omega) ⟨dax,day,by rw [tx];exact sx,by rw [ty];exact sy,nexy,lx⟩ fy fun out g G=>?_)
    exact fin out g G
   ·rw [if_neg q3]
    refine wpS_bind (Do hc rfl (by omega) (by omega) ⟨dax,day,by rw [tx];exact sx,by rw [ty];exact sy,nexy,fy⟩ lx fun out g G=>?_)
    exact fin out g G
end
def Rk (r:Keyed->Nat) (a:Array Keyed) (k:Nat):Nat:=match a[k]? with
 | some x=>r x
 | none=>0
def gR (r:Keyed->Nat) (a:Array Keyed) (i j:Nat):Prop:=∀ p q,i≤p->p < q->q < j->Rk r a p < Rk r a q
def UT (r:Keyed->Nat) (a:Array Keyed) (i j:Nat):Prop:=∀ p q,i≤p->p < q->q < j->Rk r a q < Rk r a p
theorem yR {r:Keyed->Nat}{a b:Array Keyed}{i j:Nat} (h:a[i]?=b[j]?):Rk r a i=Rk r b j:=by unfold Rk;rw [h]
theorem Hr {r:Keyed->Nat}{a:Array Keyed}{k:Nat}{x:Keyed} (h:a[k]?=some x):Rk r a k=r x:=by unfold Rk;rw [h]
theorem u9 {r:Keyed->Nat}{a:Array Keyed}{i j:Nat} (h:j≤a.size):Srt r (bL a.toList i j)↔gR r a i j:=by
 have ll:a.toList.length=a.size:=by simp
 have cl:=jR a.toList (i:=i) (j:=j) (by lia)
 have at_:∀ p (hp:p < (bL a.toList i j).length),r ((bL a.toList i j)[p])=Rk r a (i+p):=fun p hp=>by
  have e:(bL a.toList i j)[p]?=a[i+p]?:=by rw [t8 _ (by lia),Zax]
  rw [List.getElem?_eq_getElem hp] at e
  exact (Hr e.symm).symm
 constructor
 ·intro h1 p q h2 h3 h4
  have:=Zbt.mp h1 (p - i) (q - i) (by lia) (by lia) (by lia)
  rw [at_ _ (by lia),at_ _ (by lia),show i+(p - i)=p by lia,show i+(q - i)=q by lia] at this
  exact this
 ·intro h1
  refine Zbt.mpr fun p q hp hq hpq=>?_
  rw [at_ p hp,at_ q hq]
  exact h1 (i+p) (i+q) (by lia) (by lia) (by lia)
section
variable {prog:Program}{w:World}{A:Around}{E:Value->Shared->Prop}{s:Shared}{κ:SortKind}{D:Keyed->Prop}{r:Keyed->Nat}{st:SortSt}
structure Bs (D:Keyed->Prop) (r:Keyed->Nat) (a:Array Keyed):Prop where
 dm:∀ (k:Nat) x,a[k]?=some x->D x
 un:∀ p q,p < q->q < a.size->Rk r a p≠Rk r a q
theorem Bs.of {a:Array Keyed} (d:∀ x∈a.toList,D x) (u:Unl r a.toList):Bs D r a:=by
 refine ⟨fun k x h=>d x (Zag (by rw [Zax];exact h)),fun p q h1 h2=>?_⟩
 have:=Zbt.mp u p q (by simp;lia) (by simp;lia) h1
 have e:∀ k (hk:k < a.size),Rk r a k=r (a.toList[k]'(by simpa using hk)):=fun k hk=>Hr (by rw [Zau hk,Array.getElem_toList])
 rw [e p (by lia),e q h2]
 exact this
theorem Unl.perm {l m:List Keyed} (u:Unl r l) (p:m.Perm l):Unl r m:=(p.pairwise_iff (fun h=>Za7 h)).mpr u
theorem Bs.perm {a b:Array Keyed} (d:∀ x∈a.toList,D x) (u:Unl r a.toList) (p:b.Perm a):Bs D r b :=
 have p:=Za2.mp p
 Bs.of (fun x hx=>d x (p.mem_iff.mp hx)) (u.perm p)
theorem jt (hc:Cmp prog w A s κ D r) (hk:kindOf st=κ) (b:Bs D r (arrOf st)) {i j:Nat} (hi:i < (arrOf st).size) (hj:j < (arrOf st).size) {Q:Option Bool->SortSt->Prop} (h:Q (some (decide (Rk r (arrOf st) i < Rk r (arrOf st) j))) st):wpS (model prog w) A E s (ltAt' i j) Q st:=by
 obtain ⟨x,ex⟩:∃ x,(arrOf st)[i]?=some x:=⟨_,Zau hi⟩
 obtain ⟨y,ey⟩:∃ y,(arrOf st)[j]?=some y:=⟨_,Zau hj⟩
 rw [ltAt'_eq]
 refine wpS_bind (wpS_get ?_)
 show wpS _ _ _ _ (do let x ←elem' (arrOf st) i;let y ←elem' (arrOf st) j;lt' x y) Q st
 refine wpS_bind (bK ex (wpS_bind (bK ey (wG hc hk (b.dm i x ex) (b.dm j y ey) ?_))))
 rw [Hr ex,Hr ey] at h
 exact h
theorem gR.snoc {a:Array Keyed}{i j:Nat} (h:gR r a i j) (hij:i < j) (l:Rk r a (j - 1) < Rk r a j):gR r a i (j+1):=fun p q h1 h2 h3=>by
 by_cases e:q=j
 ·subst e
  by_cases e2:p=q - 1
  ·rw [e2];exact l
  ·exact Nat.lt_trans (h p (q - 1) h1 (by lia) (by lia)) l
 ·exact h p q h1 h2 (by lia)
theorem wpS_countRun {lo nrem:Nat} (hc:Cmp prog w A s κ D r) (hk:kindOf st=κ) (dm:∀ x∈(arrOf st).toList,D x) (un:Unl r (arrOf st).toList) (hn:1≤nrem) (hz:lo+nrem=(arrOf st).size) {Q:Option Nat->SortSt->Prop}
  (h:∀ n arr',1≤n->n≤nrem->arr'.Perm (arrOf st)->(∀ k,k < lo->arr'[k]?=(arrOf st)[k]?)->gR r arr' lo (lo+n)->Q (some n) (setArr st arr')):wpS (model prog w) A E s (countRun' lo nrem) Q st:=by
 have b:=Bs.of dm un
 rw [countRun'_eq]
 refine wpS_bind (wpS_mono (wpS_forRange (I:=fun k c st'=>st'=st∧c=(none,k)∧gR r (arrOf st) lo (lo+k))
  (Q:=fun c st'=>st'=st∧∃ n,c=(none,n)∧1≤n∧n≤nrem∧gR r (arrOf st) lo (lo+n)∧(n < nrem->Rk r (arrOf st) (lo+n) < Rk r (arrOf st) (lo+n - 1))) ?_ ?_ ⟨rfl,rfl,fun p q h1 h2 h3=>by lia⟩) ?_)
 ·rintro k c st' h1 h2 ⟨rfl,rfl,S⟩
  dsimp only
  refine wpS_bind (jt hc hk b (by lia) (by lia) ?_)
  dsimp only
  by_cases q:Rk r (arrOf st') (lo+k) < Rk r (arrOf st') (lo+k - 1)
  ·rw [decide_eq_true q,if_pos rfl]
   exact wpS_pure ⟨rfl,k,rfl,h1,by lia,S,fun _=>q⟩
  ·rw [decide_eq_false q,if_neg (by decide)]
   refine wpS_pure ⟨rfl,rfl,?_⟩
   have:=b.un (lo+k - 1) (lo+k) (by lia) (by lia)
   exact S.snoc (by lia) (by lia)
 ·rintro c st' ⟨rfl,rfl,S⟩
  exact ⟨rfl,_,rfl,by lia,by lia,S,fun z=>by lia⟩
 ·rintro c st' ⟨rfl,n,rfl,h1,h2,S,hbr⟩
  dsimp only
  by_cases q1:n=nrem
  ·rw [if_pos (by simpa using q1)]
   exact wpS_pure (h n (arrOf st') h1 h2 (Array.Perm.refl _) (fun _ _=>rfl) S)
  ·rw [if_neg (by simpa using q1)]
   by_cases q2:n > 1
   ·rw [if_pos q2]
    refine wpS_bind (jt hc hk b (by lia) (by lia) ?_)
    dsimp only
    rw [decide_eq_true (S lo (lo+n - 1) (Zaf _) (by lia) (by lia)),if_pos rfl]
    exact wpS_pure (h n (arrOf st') h1 h2 (Array.Perm.refl _) (fun _ _=>rfl) S)
   ·rw [if_neg q2]
    have n1:n=1:=by lia
    subst n1
    have hbr:=hbr (by lia)
    refine wpS_bind (lr ?_)
    refine wpS_bind (wpS_mono (wpS_forRange (I:=fun k c st2=>st2=st'∧c=(none,k,0)∧UT r (arrOf st') lo (lo+k))
     (Q:=fun c st2=>st2=st'∧∃ n,c=(none,n,0)∧2≤n∧n≤nrem∧UT r (arrOf st') lo (lo+n)) ?_ ?_ ⟨rfl,rfl,fun p q h1 h2 h3=>by
      have e1:p=lo+1 - 1:=by lia
      have e2:q=lo+1:=by lia
      rw [e1,e2];exact hbr⟩) ?_)
    ·rintro k c st2 g1 g2 ⟨rfl,rfl,S2⟩
     dsimp only
     refine wpS_bind (jt hc hk b (by lia) (by lia) ?_)
     dsimp only
     by_cases q:Rk r (arrOf st2) (lo+k) < Rk r (arrOf st2) (lo+k - 1)
     ·rw [decide_eq_true q,if_pos rfl,if_neg (by lia)]
      refine wpS_pure ⟨rfl,rfl,fun p q' h1 h2 h3=>?_⟩
      by_cases e:q'=lo+k
      ·subst e
       by_cases e2:p=lo+k - 1
       ·rw [e2];exact q
       ·exact Nat.lt_trans q (S2 p (lo+k - 1) h1 (by lia) (by lia))
      ·exact S2 p q' h1 h2 (by lia)
     ·rw [decide_eq_false q,if_neg (by decide)]
      refine wpS_bind (jt hc hk b (by lia) (by lia) ?_)
      dsimp only
      have:=b.un (lo+k - 1) (lo+k) (by lia) (by lia)
      rw [decide_eq_true (show Rk r (arrOf st2) (lo+k - 1) < Rk r (arrOf st2) (lo+k) by lia),if_pos rfl]
      exact wpS_pure ⟨rfl,k,rfl,by lia,by lia,S2⟩
    ·rintro c st2 ⟨rfl,rfl,S2⟩
     exact ⟨rfl,_,rfl,by lia,by lia,S2⟩
    ·rintro c st2 ⟨rfl,n,rfl,g1,g2,S2⟩
     dsimp only
     rw [if_neg (by lia),reverseSlice'_eq]
     refine wpS_bind (wpS_modify ?_)
     have mz:=mirror_size (arrOf st2) lo (lo+n) ((lo+n - lo) / 2)
     have mp:=mirror_perm (arrOf st2) lo (lo+n) ((lo+n - lo) / 2)
     have mg:=getElem?_mirror_all (xs:=arrOf st2) (i:=lo) (j:=lo+n) (by lia)
     generalize mirror (arrOf st2) lo (lo+n) ((lo+n - lo) / 2)=a2 at mz mp mg
     have b2:Bs D r a2:=Bs.perm dm un mp
     have pre:∀ k,k < lo->a2[k]?=(arrOf st2)[k]?:=fun k hk2=>by rw [mg,if_neg (by lia)]
     have S3:gR r a2 lo (lo+n):=fun p q h1 h2 h3=>by
      have rp:∀ p,lo≤p->p < lo+n->Rk r a2 p=Rk r (arrOf st2) (lo+(lo+n) - 1 - p):=fun p g3 g4=>yR (by rw [mg,if_pos ⟨g3,g4⟩])
      rw [rp p h1 (by lia),rp q (by lia) h3]
      exact S2 _ _ (by lia) (by lia) (by lia)
     refine wpS_bind (wpS_mono (wpS_forRange (I:=fun k c st3=>st3=setArr st2 a2∧c=(none,k)∧gR r a2 lo (lo+k))
      (Q:=fun c st3=>st3=setArr st2 a2∧∃ m,c=(none,m)∧n≤m∧m≤nrem∧gR r a2 lo (lo+m)) ?_ ?_ ⟨rfl,rfl,S3⟩) ?_)
     ·rintro k c st3 f1 f2 ⟨rfl,rfl,S⟩
      dsimp only
      refine wpS_bind (jt (st:=setArr st2 a2) hc hk b2 (by show _ < a2.size;lia) (by show _ < a2.size;lia) ?_)
      dsimp only
      by_cases q:Rk r a2 (lo+k) < Rk r a2 (lo+k - 1)
      ·rw [show arrOf (setArr st2 a2)=a2 from rfl,decide_eq_true q,if_pos rfl]
       exact wpS_pure ⟨rfl,k,rfl,f1,by lia,S⟩
      ·rw [show arrOf (setArr st2 a2)=a2 from rfl,decide_eq_false q,if_neg (by decide)]
       refine wpS_pure ⟨rfl,rfl,?_⟩
       have:=b2.un (lo+k - 1) (lo+k) (by lia) (by lia)
       exact S.snoc (by lia) (by lia)
     ·rintro c st3 ⟨rfl,rfl,S⟩
      exact ⟨rfl,_,rfl,by lia,by lia,S⟩
     ·rintro c st3 ⟨rfl,m,rfl,f1,f2,S⟩
      exact wpS_pure (h m a2 (by lia) f2 mp pre S)
theorem wpS_binarySort {lo n ok:Nat} (hc:Cmp prog w A s κ D r) (hk:kindOf st=κ) (dm:∀ x∈(arrOf st).toList,D x) (un:Unl r (arrOf st).toList) (h1:1≤ok) (h2:ok≤n) (hz:lo+n≤(arrOf st).size) (S:gR r (arrOf st) lo (lo+ok)) {Q:Bool->SortSt->Prop}
  (h:∀ arr',arr'.Perm (arrOf st)->(∀ k,k < lo->arr'[k]?=(arrOf st)[k]?)->gR r arr' lo (lo+n)->Q true (setArr st arr')):wpS (model prog w) A E s (binarySort' lo n ok) Q st:=by
 rw [binarySort'_eq]
 refine wpS_bind (wpS_mono (wpS_forRange (I:=fun k c st'=>c=(none,())∧∃ arr',st'=setArr st arr'∧arr'.Perm (arrOf st)∧(∀ k,k < lo->arr'[k]?=(arrOf st)[k]?)∧gR r arr' lo (lo+k))
  (Q:=fun c st'=>c=(none,())∧∃ arr',st'=setArr st arr'∧arr'.Perm (arrOf st)∧(∀ k,k < lo->arr'[k]?=(arrOf st)[k]?)∧gR r arr' lo (lo+n)) ?_ ?_ ⟨rfl,arrOf st,rfl,Array.Perm.refl _,fun _ _=>rfl,by rw [Nat.max_eq_left h1];exact S⟩) ?_)
 ·rintro k c st' g1 g2 ⟨rfl,a2,rfl,p2,pre,S2⟩
  have z2:a2.size=(arrOf st).size:=p2.size_eq
  have b2:Bs D r a2:=Bs.perm dm un p2
  have kl:lo+k < a2.size:=by omega
  refine wpS_bind (wpS_mono (wpS_forRange (I:=fun t c st2=>st2=setArr st a2∧∃ l e,c=((none:Option Bool),l,e)∧l≤e∧e≤k∧(∀ i,i < l->Rk r a2 (lo+i) < Rk r a2 (lo+k))∧(∀ i,e≤i->i < k->Rk r a2 (lo+k) < Rk r a2 (lo+i))∧e - l+t≤k)
   (Q:=fun c st2=>st2=setArr st a2∧∃ l,c=((none:Option Bool),l,l)∧l≤k∧(∀ i,i < l->Rk r a2 (lo+i) < Rk r a2 (lo+k))∧(∀ i,l≤i->i < k->Rk r a2 (lo+k) < Rk r a2 (lo+i))) ?_ ?_ ⟨rfl,0,k,rfl,by omega,Zaf _,fun i hi=>by omega,fun i h3 h4=>by omega,by omega⟩) ?_)
  ·rintro t c st2 _ ht ⟨rfl,l,e,rfl,f1,f2,f3,f4,f5⟩
   dsimp only
   by_cases q:l ≥ e
   ·rw [if_pos q]
    have:l=e:=by omega
    subst this
    exact wpS_pure ⟨rfl,l,rfl,f2,f3,f4⟩
   ·rw [if_neg q]
    refine wpS_bind (jt (st:=setArr st a2) hc hk b2 (by show _ < a2.size;omega) (by show _ < a2.size;omega) ?_)
    dsimp only
    rw [show arrOf (setArr st a2)=a2 from rfl]
    by_cases q2:Rk r a2 (lo+k) < Rk r a2 (lo+(l+e) / 2)
    ·rw [decide_eq_true q2,if_pos rfl]
     refine wpS_pure ⟨rfl,l,(l+e) / 2,rfl,by omega,by omega,f3,fun i h3 h4=>?_,by omega⟩
     by_cases q3:i=(l+e) / 2
     ·rw [q3];exact q2
     ·exact Nat.lt_trans q2 (S2 _ _ (by omega) (by omega) (by omega))
    ·rw [decide_eq_false q2,if_neg (by decide)]
     have ne:=b2.un (lo+(l+e) / 2) (lo+k) (by omega) kl
     refine wpS_pure ⟨rfl,(l+e) / 2+1,e,rfl,by omega,f2,fun i hi=>?_,f4,by omega⟩
     by_cases q3:i=(l+e) / 2
     ·rw [q3];omega
     ·exact Nat.lt_trans (S2 (lo+i) (lo+(l+e) / 2) (by omega) (by omega) (by omega)) (by omega)
  ·rintro c st2 ⟨rfl,l,e,rfl,f1,f2,f3,f4,f5⟩
   have:l=e:=by omega
   subst this
   exact ⟨rfl,l,rfl,f2,f3,f4⟩
  ·rintro c st2 ⟨rfl,l,rfl,f1,f2,f3⟩
   dsimp only
   rw [moveDown'_eq]
   refine wpS_bind (wpS_modify (wpS_pure ?_))
   have bz:=bubble_perm a2 (lo+k) (lo+k - (lo+l))
   have bg:=getElem?_bubble (xs:=a2) (src:=lo+k) kl (lo+k - (lo+l)) (by omega)
   refine ⟨rfl,bubble a2 (lo+k) (lo+k - (lo+l)),rfl,bz.trans p2,?_,?_⟩
   ·intro i hi
    rw [bg,if_neg (by omega),if_neg (by omega)]
    exact pre i hi
   ·generalize bubble a2 (lo+k) (lo+k - (lo+l))=a3 at bg
    rw [show lo+k - (lo+k - (lo+l))=lo+l by omega] at bg
    have rk3:∀ i,Rk r a3 i=if i=lo+l then Rk r a2 (lo+k) else if lo+l < i∧i≤lo+k then Rk r a2 (i - 1) else Rk r a2 i:=fun i=>by
     have:=bg i
     split at this
     ·rename_i e;rw [if_pos e];exact yR this
     ·rename_i e;rw [if_neg e]
      split at this
      ·rename_i e2;rw [if_pos e2];exact yR this
      ·rename_i e2;rw [if_neg e2];exact yR this
    intro p q h3 h4 h5
    rw [rk3 p,rk3 q]
    by_cases p1:p=lo+l
    ·rw [if_pos p1,if_neg (by omega),if_pos (by omega)]
     have:=f3 (q - 1 - lo) (by omega) (by omega)
     rw [show lo+(q - 1 - lo)=q - 1 by omega] at this
     exact this
    ·rw [if_neg p1]
     by_cases p2':lo+l < p
     ·rw [if_pos ⟨p2',by omega⟩,if_neg (by omega),if_pos (by omega)]
      exact S2 _ _ (by omega) (by omega) (by omega)
     ·rw [if_neg (by omega)]
      by_cases q1:q=lo+l
      ·rw [if_pos q1]
       have:=f2 (p - lo) (by omega)
       rw [show lo+(p - lo)=p by omega] at this
       exact this
      ·rw [if_neg q1]
       by_cases q2:lo+l < q
       ·rw [if_pos ⟨q2,by omega⟩]
        exact S2 _ _ h3 (by omega) (by omega)
       ·rw [if_neg (by omega)]
        exact S2 _ _ h3 h4 (by omega)
 ·rintro c st' ⟨rfl,a2,rfl,p2,pre,S2⟩
  refine ⟨rfl,a2,rfl,p2,pre,?_⟩
  rw [show max (max ok 1) n=n by omega] at S2
  exact S2
 ·rintro c st' ⟨rfl,a2,rfl,p2,pre,S2⟩
  exact wpS_pure (h a2 p2 pre S2)
end
def rM (pw:Nat):StateT SortSt Sem (ForInStep (Option Unit×Unit)):=do
 let s ←get
 match (if (pendingOf s).size > 1 then (pendingOf s)[(pendingOf s).size - 2]? else none) with
 | some x=>if x.2.2≤pw then pure (.done (none,())) else do
  let ok ←mergeAt' ((pendingOf s).size - 2)
  if (!ok)=true then pure (.done (some (),())) else pure (.yield (none,()))
 | none=>pure (.done (none,()))
def o8 (lo n:Nat):StateT SortSt Sem (ForInStep (Option Unit×Nat)):=do
 modify fun s=>setPending s ((pendingOf s).push (lo,n,0))
 pure (.yield (none,lo+n))
def lay (size lo n:Nat):StateT SortSt Sem (ForInStep (Option Unit×Nat)):=do
 let s ←get
 match (pendingOf s).back? with
 | some x=>do
  let c ←forIn [0:size] ((none:Option Unit),()) fun _ _=>rM (power' size (2 * x.1+x.2.1) (2 * x.1+x.2.1+x.2.1+n) size)
  match c.1 with
  | some r=>pure (.done (some r,lo))
  | none=>do
   modify fun s=>setPending s ((pendingOf s).modify ((pendingOf s).size - 1) fun y=>(y.1,y.2.1,power' size (2 * x.1+x.2.1) (2 * x.1+x.2.1+x.2.1+n) size))
   o8 lo n
 | none=>o8 lo n
def LR (s:SortSt):Nat:=if Option.any (fun x=>decide (x < (pendingOf s)[(pendingOf s).size - 2+1]?.elim 0 fun x=>x.2.1)) (if (pendingOf s).size - 2 > 0 then Option.map (fun x=>x.2.1) (pendingOf s)[(pendingOf s).size - 2 - 1]? else none)=true then (pendingOf s).size - 2 - 1 else (pendingOf s).size - 2
def Hs:StateT SortSt Sem (ForInStep (Option Unit×Unit)):=do
 let s ←get
 if (pendingOf s).size≤1 then pure (.done (none,())) else do
  let ok ←mergeAt' (LR s)
  if (!ok)=true then pure (.done (some (),())) else pure (.yield (none,()))
def vd (z:Nat) (c:Option Unit×Nat):StateT SortSt Sem (ForInStep (Option Unit×Nat)):=if c.2 ≥ z then pure (.done (none,c.2)) else (do
 let x ←countRun' c.2 (z - c.2)
 match x with
 | some found=>if found < minRun' z z 0 then (do
   rule "list.sort.binary-insertion"
   let ok ←binarySort' c.2 (min (z - c.2) (minRun' z z 0)) found
   if (!ok)=true then pure (.done (some (),c.2)) else lay z c.2 (min (z - c.2) (minRun' z z 0))) else lay z c.2 found
 | none=>pure (.done (some (),c.2)))
def uc:StateT SortSt Sem Unit:=do
 let s ←get
 let c ←forIn [0:(arrOf s).size] ((none:Option Unit),0) fun _ c=>vd (arrOf s).size c
 match c.1 with
 | some r=>pure r
 | none=>do
  let d ←forIn [0:(arrOf s).size] ((none:Option Unit),()) fun _ _=>Hs
  match d.1 with
  | some r=>pure r
  | none=>pure ()
theorem Ak:sortRuns'=uc:=by
 rw [sortRuns'_eq]
 unfold uc
 dsimp only
 congr 1;funext s
 congr 1
 ·congr 1
  funext _ c
  obtain ⟨c0,lo⟩:=c
  unfold vd
  dsimp only
  congr 1
  congr 1;funext x
  cases x with
  | none=>rfl
  | some found =>
   dsimp only
   congr 1
   ·congr 1;funext _
    congr 1;funext ok
    congr 1
    unfold lay o8
    congr 1;funext s2
    cases (pendingOf s2).back? with
    | none=>rfl
    | some x =>
     obtain ⟨s1,n1,p⟩:=x
     dsimp only
     congr 1
     ·congr 1
      funext _ d
      unfold rM
      congr 1;funext s3
      cases (if (pendingOf s3).size > 1 then (pendingOf s3)[(pendingOf s3).size - 2]? else none) with
      | none=>rfl
      | some y=>obtain ⟨y1,y2,y3⟩:=y;rfl
     ·funext c
      obtain ⟨c0,_⟩:=c
      cases c0 <;> rfl
   ·unfold lay o8
    congr 1;funext s2
    cases (pendingOf s2).back? with
    | none=>rfl
    | some x =>
     obtain ⟨s1,n1,p⟩:=x
     dsimp only
     congr 1
     ·congr 1
      funext _ d
      unfold rM
      congr 1;funext s3
      cases (if (pendingOf s3).size > 1 then (pendingOf s3)[(pendingOf s3).size - 2]? else none) with
      | none=>rfl
      | some y=>obtain ⟨y1,y2,y3⟩:=y;rfl
     ·funext c
      obtain ⟨c0,_⟩:=c
      cases c0 <;> rfl
 ·funext c
  obtain ⟨c0,lo⟩:=c
  cases c0 with
  | some r=>rfl
  | none =>
   dsimp only
   congr 1
   funext d
   obtain ⟨d0,_⟩:=d
   cases d0 <;> rfl
noncomputable abbrev Pd:=Nat×Nat×Nat
def Rn (r:Keyed->Nat) (a:Array Keyed):Nat->List Pd->Nat->Prop
 | s,[],e=>s=e
 | s,x::l,e=>x.1=s∧1≤x.2.1∧gR r a s (s+x.2.1)∧Rn r a (s+x.2.1) l e
section
variable {r:Keyed->Nat}{a b:Array Keyed}
theorem Rn.le:∀ {l:List Pd}{s e:Nat},Rn r a s l e->s+l.length≤e
 | [],s,e,h=>by cases h;simp
 | x::l,s,e,h=>by
  have:=h.2.2.2.le
  have:=h.2.1
  simp only [Zav]
  omega
theorem Rn.app:∀ {l m:List Pd}{s e:Nat},Rn r a s (l++m) e↔∃ k,Rn r a s l k∧Rn r a k m e
 | [],m,s,e=>⟨fun h=>⟨s,rfl,h⟩,fun ⟨k,h1,h2⟩=>by cases h1;exact h2⟩
 | x::l,m,s,e=>by
  constructor
  ·rintro ⟨h1,h2,h3,h4⟩
   obtain ⟨k,g1,g2⟩:=Rn.app.mp h4
   exact ⟨k,⟨h1,h2,h3,g1⟩,g2⟩
  ·rintro ⟨k,⟨h1,h2,h3,h4⟩,g2⟩
   exact ⟨h1,h2,h3,Rn.app.mpr ⟨k,h4,g2⟩⟩
theorem gR.congr {i j:Nat} (h:∀ k,i≤k->k < j->b[k]?=a[k]?) (S:gR r a i j):gR r b i j:=fun p q h1 h2 h3=>by
 rw [yR (h p h1 (by lia)),yR (h q (by lia) h3)]
 exact S p q h1 h2 h3
theorem Rn.congr:∀ {l:List Pd}{s e:Nat},(∀ k,s≤k->k < e->b[k]?=a[k]?)->Rn r a s l e->Rn r b s l e
 | [],_,_,_,h=>h
 | x::l,s,e,hk,⟨h1,h2,h3,h4⟩=>by
  have:=h4.le
  exact ⟨h1,h2,h3.congr fun k g1 g2=>hk k g1 (by lia),Rn.congr (fun k g1 g2=>hk k (by lia) g2) h4⟩
theorem Ma {l:List Pd}{i:Nat}{x y:Pd} (e1:l[i]?=some x) (e2:l[i+1]?=some y):l=l.take i++x::y::l.drop (i+2):=by
 have h1:=(Zab.mp e1).1
 have h2:=(Zab.mp e2).1
 conv=>lhs;rw [←ZaC i l]
 congr 1
 rw [ZaI h1,ZaI h2]
 rw [List.getElem?_eq_getElem h1] at e1
 rw [List.getElem?_eq_getElem h2] at e2
 rw [Zaa e1,Zaa e2]
theorem Jw {l:List Pd}{i:Nat}{x y z:Pd} (e1:l[i]?=some x) (e2:l[i+1]?=some y):(l.set i z).eraseIdx (i+1)=l.take i++z::l.drop (i+2):=by
 have h2:=(Zab.mp e2).1
 have hl:(l.take i).length=i:=by simp;lia
 conv=>lhs;rw [Ma e1 e2]
 rw [List.set_append_right _ _ (by lia),hl,Nat.sub_self,List.set_cons_zero,List.eraseIdx_append_of_length_le (by lia),hl,Zbw]
 rfl
end
section
variable {prog:Program}{w:World}{A:Around}{E:Value->Shared->Prop}{s:Shared}{κ:SortKind}{D:Keyed->Prop}{r:Keyed->Nat}{st:SortSt}{a0:Array Keyed}
structure Rs (κ:SortKind) (r:Keyed->Nat) (a0:Array Keyed) (lo:Nat) (st:SortSt):Prop where
 kd:kindOf st=κ
 fl:failedOf st=none
 pm:(arrOf st).Perm a0
 rn:Rn r (arrOf st) 0 (pendingOf st).toList lo
 le:lo≤a0.size
theorem Mf {i lo:Nat} (hc:Cmp prog w A s κ D r) (dm:∀ x∈a0.toList,D x) (un:Unl r a0.toList) (R:Rs κ r a0 lo st) (hi:i+1 < (pendingOf st).size) {Q:Bool->SortSt->Prop}
  (h:∀ st',Rs κ r a0 lo st'->(pendingOf st').size+1=(pendingOf st).size->(∀ k,lo≤k->(arrOf st')[k]?=(arrOf st)[k]?)->Q true st'):wpS (model prog w) A E s (mergeAt' i) Q st:=by
 obtain ⟨kd,fl,pm,rn,le⟩:=R
 have sz:(arrOf st).size=a0.size:=pm.size_eq
 have pl:=Za2.mp pm
 obtain ⟨⟨sa,na,p1⟩,e1⟩:∃ x,(pendingOf st)[i]?=some x:=⟨_,Zau (by lia)⟩
 obtain ⟨⟨sb,nb,p2⟩,e2⟩:∃ x,(pendingOf st)[i+1]?=some x:=⟨_,Zau hi⟩
 have f1:(pendingOf st).toList[i]?=some (sa,na,p1):=by rw [Zax];exact e1
 have f2:(pendingOf st).toList[i+1]?=some (sb,nb,p2):=by rw [Zax];exact e2
 rw [Ma f1 f2] at rn
 obtain ⟨k0,r1,q1,q2,q3,q4,q5,q6,r2⟩:=Rn.app.mp rn
 have q1:sa=k0:=q1
 subst q1
 have q4:sb=sa+na:=q4
 have q2:1≤na:=q2
 have q5:1≤nb:=q5
 have q3:gR r (arrOf st) sa (sa+na):=q3
 have q6:gR r (arrOf st) (sa+na) (sa+na+nb):=q6
 have r2:Rn r (arrOf st) (sa+na+nb) ((pendingOf st).toList.drop (i+2)) lo:=r2
 have b1:=r1.le
 have b2:=r2.le
 subst q4
 refine Dq hc kd fl e1 e2 rfl q2 q5 (by lia) (fun x hx=>dm x (pl.mem_iff.mp hx)) (un.perm pl) ((u9 (by lia)).mpr q3) ((u9 (by lia)).mpr q6) fun M arr' g eq pM sM=>?_
 have ll:(arrOf st).toList.length=(arrOf st).size:=by simp
 have ml:M.length=na+nb:=by rw [pM.length_eq,jR _ (by lia)];lia
 have tl:((arrOf st).toList.take sa).length=sa:=by simp;lia
 have low:∀ k,k < sa->arr'[k]?=(arrOf st)[k]?:=fun k hk=>by
  rw [←Zax,eq,Zar,Zah (by lia),List.getElem?_take,if_pos hk,Zax]
 have high:∀ k,sa+na+nb≤k->arr'[k]?=(arrOf st)[k]?:=fun k hk=>by
  rw [←Zax,eq,Zao (by rw [List.length_append];lia),List.length_append,tl,ml,List.getElem?_drop,show sa+na+nb+(k - (sa+(na+nb)))=k by lia,Zax]
 have ap:arr'.Perm (arrOf st):=by
  rw [Za2,eq]
  conv=>rhs;rw [Sx (arrOf st).toList (show sa≤sa+na+nb by lia)]
  exact ZbC _ (ZaR _ pM)
 have az:arr'.size=(arrOf st).size:=ap.size_eq
 have mid:gR r arr' sa (sa+(na+nb)):=by
  refine (u9 (by lia)).mp ?_
  have:bL arr'.toList sa (sa+(na+nb))=M:=by
   unfold bL
   rw [eq,List.take_append_of_le_length (by rw [List.length_append];lia),ZaL (by rw [List.length_append];lia),List.drop_append_of_le_length (by lia),Za6 (by lia),List.nil_append]
  rw [this];exact sM
 have pe:(((pendingOf st).setIfInBounds i (sa,na+nb,p1)).eraseIdxIfInBounds (i+1)).toList=(pendingOf st).toList.take i++(sa,na+nb,p1)::(pendingOf st).toList.drop (i+2):=by
  rw [Array.toList_eraseIdxIfInBounds,Array.toList_setIfInBounds]
  exact Jw f1 f2
 refine h _ ⟨rfl,rfl,ap.trans pm,?_,le⟩ ?_ fun k hk=>high k (by lia)
 ·show Rn r arr' 0 (((pendingOf st).setIfInBounds i (sa,na+nb,p1)).eraseIdxIfInBounds (i+1)).toList lo
  rw [pe]
  refine Rn.app.mpr ⟨sa,r1.congr fun k _ hk=>low k hk,rfl,by show 1≤na+nb;lia,mid,?_⟩
  show Rn r arr' (sa+(na+nb)) _ lo
  rw [show sa+(na+nb)=sa+na+nb by lia]
  exact r2.congr fun k hk _=>high k hk
 ·show (((pendingOf st).setIfInBounds i (sa,na+nb,p1)).eraseIdxIfInBounds (i+1)).size+1=_
  rw [←ZaS,pe]
  have:(pendingOf st).toList.length=(pendingOf st).size:=by simp
  simp
  lia
end
section
variable {prog:Program}{w:World}{A:Around}{E:Value->Shared->Prop}{s:Shared}{κ:SortKind}{D:Keyed->Prop}{r:Keyed->Nat}{st:SortSt}{a0:Array Keyed}
theorem Rn.mod {a:Array Keyed}{f:Pd->Pd} (hf:∀ x,(f x).1=x.1∧(f x).2.1=x.2.1):∀ {l:List Pd}{i s e:Nat},Rn r a s l e->Rn r a s (l.modify i f) e
 | [],_,_,_,h=>by simpa using h
 | x::l,0,s,e,⟨h1,h2,h3,h4⟩=>by
  rw [List.modify_zero_cons]
  exact ⟨(hf x).1.trans h1,by rw [(hf x).2];exact h2,by rw [(hf x).2];exact h3,by rw [(hf x).2];exact h4⟩
 | x::l,i+1,s,e,⟨h1,h2,h3,h4⟩=>by
  rw [List.modify_succ_cons]
  exact ⟨h1,h2,h3,Rn.mod hf h4⟩
theorem wK {M:Model}{lo n:Nat} (R:Rs κ r a0 lo st) (S:gR r (arrOf st) lo (lo+n)) (n1:1≤n) (hz:lo+n≤a0.size) {Q:ForInStep (Option Unit×Nat)->SortSt->Prop} (h:∀ st',Rs κ r a0 (lo+n) st'->Q (.yield (none,lo+n)) st'):wpS M A E s (o8 lo n) Q st:=by
 unfold o8
 refine wpS_bind (wpS_modify (wpS_pure (h _ ⟨R.kd,R.fl,R.pm,?_,hz⟩)))
 show Rn r (arrOf st) 0 ((pendingOf st).push (lo,n,0)).toList (lo+n)
 rw [Zbp]
 exact Rn.app.mpr ⟨lo,R.rn,rfl,n1,S,rfl⟩
theorem Gm {pw lo n:Nat} (hc:Cmp prog w A s κ D r) (dm:∀ x∈a0.toList,D x) (un:Unl r a0.toList) (R:Rs κ r a0 lo st) (S:gR r (arrOf st) lo (lo+n)) :
  wpS (model prog w) A E s (rM pw) (fun c st'=>(c=.done (none,())∨c=.yield (none,()))∧Rs κ r a0 lo st'∧gR r (arrOf st') lo (lo+n)) st:=by
 unfold rM
 refine wpS_bind (wpS_get ?_)
 by_cases q:(pendingOf st).size > 1
 ·rw [if_pos q]
  cases (pendingOf st)[(pendingOf st).size - 2]? with
  | none=>exact wpS_pure ⟨.inl rfl,R,S⟩
  | some x =>
   dsimp only
   split
   ·exact wpS_pure ⟨.inl rfl,R,S⟩
   ·refine wpS_bind (Mf hc dm un R (by omega) fun st' R' _ hk=>?_)
    rw [if_neg (by decide)]
    exact wpS_pure ⟨.inr rfl,R',S.congr fun k g1 _=>hk k g1⟩
 ·rw [if_neg q]
  exact wpS_pure ⟨.inl rfl,R,S⟩
theorem Mi {z lo n:Nat} (hc:Cmp prog w A s κ D r) (dm:∀ x∈a0.toList,D x) (un:Unl r a0.toList) (R:Rs κ r a0 lo st) (S:gR r (arrOf st) lo (lo+n)) (n1:1≤n) (hz:lo+n≤a0.size) {Q:ForInStep (Option Unit×Nat)->SortSt->Prop} (h:∀ st',Rs κ r a0 (lo+n) st'->Q (.yield (none,lo+n)) st'):wpS (model prog w) A E s (lay z lo n) Q st:=by
 unfold lay
 refine wpS_bind (wpS_get ?_)
 cases (pendingOf st).back? with
 | none=>exact wK R S n1 hz h
 | some x =>
  dsimp only
  refine wpS_bind (wpS_mono (wpS_forRange (I:=fun _ c st'=>c=(none,())∧Rs κ r a0 lo st'∧gR r (arrOf st') lo (lo+n)) (Q:=fun c st'=>c=(none,())∧Rs κ r a0 lo st'∧gR r (arrOf st') lo (lo+n)) ?_ (fun _ _ g=>g) ⟨rfl,R,S⟩) ?_)
  ·rintro k c st' _ _ ⟨rfl,R',S'⟩
   refine wpS_mono (Gm hc dm un R' S') fun c st2 p=>?_
   rcases p.1 with rfl | rfl
   ·exact ⟨rfl,p.2⟩
   ·exact ⟨rfl,p.2⟩
  ·rintro c st' ⟨rfl,R',S'⟩
   dsimp only
   refine wpS_bind (wpS_modify ?_)
   generalize hm:((pendingOf st').modify ((pendingOf st').size - 1) fun y=>(y.1,y.2.1,power' z (2 * x.1+x.2.1) (2 * x.1+x.2.1+x.2.1+n) z))=pm
   refine wK (st:=setPending st' pm) ⟨R'.kd,R'.fl,R'.pm,?_,R'.le⟩ S' n1 hz h
   show Rn r (arrOf st') 0 pm.toList lo
   rw [←hm,Array.toList_modify]
   exact Rn.mod (f:=fun y=>(y.1,y.2.1,power' z (2 * x.1+x.2.1) (2 * x.1+x.2.1+x.2.1+n) z)) (fun y=>⟨rfl,rfl⟩) R'.rn
theorem Gn {z lo:Nat} (hc:Cmp prog w A s κ D r) (dm:∀ x∈a0.toList,D x) (un:Unl r a0.toList) (hz:z=a0.size) (R:Rs κ r a0 lo st) {c0:Option Unit} :
  wpS (model prog w) A E s (vd z (c0,lo)) (fun c st'=>(c=.done (none,lo)∧lo=z∧st'=st)∨∃ lo',c=.yield (none,lo')∧lo < lo'∧Rs κ r a0 lo' st') st:=by
 have sz:(arrOf st).size=a0.size:=R.pm.size_eq
 have le:=R.le
 have pl:=Za2.mp R.pm
 unfold vd
 dsimp only
 by_cases q:lo ≥ z
 ·rw [if_pos q]
  exact wpS_pure (.inl ⟨rfl,by omega,rfl⟩)
 ·rw [if_neg q]
  have low:∀ {a2:Array Keyed},a2.Perm (arrOf st)->(∀ k,k < lo->a2[k]?=(arrOf st)[k]?)->Rs κ r a0 lo (setArr st a2):=fun {a2} p2 pre=>⟨R.kd,R.fl,p2.trans R.pm,R.rn.congr fun k _ hk=>pre k hk,R.le⟩
  refine wpS_bind (wpS_countRun hc R.kd (fun x hx=>dm x (pl.mem_iff.mp hx)) (un.perm pl) (by omega) (by omega) fun n a2 n1 n2 p2 pre S=>?_)
  dsimp only
  have R2:=low p2 pre
  have pl2:=Za2.mp (p2.trans R.pm)
  by_cases q2:n < minRun' z z 0
  ·rw [if_pos q2]
   refine wpS_bind (lr ?_)
   refine wpS_bind (wpS_binarySort (st:=setArr st a2) hc R.kd (fun x hx=>dm x (pl2.mem_iff.mp hx)) (un.perm pl2) n1 (by omega) (by show _≤a2.size;rw [p2.size_eq];omega) S fun a3 p3 pre3 S3=>?_)
   rw [if_neg (by decide)]
   have R3:Rs κ r a0 lo (setArr (setArr st a2) a3):=⟨R.kd,R.fl,(show a3.Perm a2 from p3).trans (p2.trans R.pm),R.rn.congr fun k _ hk=>(pre3 k hk).trans (pre k hk),R.le⟩
   exact Mi hc dm un R3 S3 (by omega) (by omega) fun st' R'=>.inr ⟨_,rfl,by omega,R'⟩
  ·rw [if_neg q2]
   exact Mi hc dm un R2 S (by omega) (by omega) fun st' R'=>.inr ⟨_,rfl,by omega,R'⟩
theorem wpS_sortRuns (hc:Cmp prog w A s κ D r) (hk:kindOf st=κ) (hf:failedOf st=none) (hp:pendingOf st=#[]) (dm:∀ x∈(arrOf st).toList,D x) (un:Unl r (arrOf st).toList) {Q:Unit->SortSt->Prop}
  (h:∀ st',(arrOf st').Perm (arrOf st)->failedOf st'=none->Srt r (arrOf st').toList->Q () st'):wpS (model prog w) A E s sortRuns' Q st:=by
 rw [Ak]
 unfold uc
 refine wpS_bind (wpS_get ?_)
 have R0:Rs κ r (arrOf st) 0 st:=⟨hk,hf,Array.Perm.refl _,by rw [hp];rfl,ZaO _⟩
 refine wpS_bind (wpS_mono (wpS_forRange (I:=fun k c st'=>∃ lo,c=(none,lo)∧Rs κ r (arrOf st) lo st'∧k≤lo) (Q:=fun c st'=>c=(none,(arrOf st).size)∧Rs κ r (arrOf st) (arrOf st).size st') ?_ ?_ ⟨0,rfl,R0,Zaf _⟩) ?_)
 ·rintro k c st' _ _ ⟨lo,rfl,R,hlo⟩
  refine wpS_mono (Gn hc dm un rfl R) fun c st2 p=>?_
  rcases p with ⟨rfl,rfl,rfl⟩ | ⟨lo',rfl,g,R'⟩
  ·exact ⟨rfl,R⟩
  ·exact ⟨lo',rfl,R',by lia⟩
 ·rintro c st' ⟨lo,rfl,R,hlo⟩
  have:=R.le
  have e:lo=(arrOf st).size:=by lia
  subst e
  exact ⟨rfl,R⟩
 ·rintro c st' ⟨rfl,R⟩
  dsimp only
  have pz:∀ {st2:SortSt},Rs κ r (arrOf st) (arrOf st).size st2->(pendingOf st2).size≤(arrOf st).size:=fun R2=>by
   have:=R2.rn.le
   simp at this
   exact this
  refine wpS_bind (wpS_mono (wpS_forRange (I:=fun k c st2=>c=(none,())∧Rs κ r (arrOf st) (arrOf st).size st2∧((pendingOf st2).size+k≤(arrOf st).size∨(pendingOf st2).size≤1)) (Q:=fun c st2=>c=(none,())∧Rs κ r (arrOf st) (arrOf st).size st2∧(pendingOf st2).size≤1) ?_ ?_ ⟨rfl,R,.inl (by have:=pz R;lia)⟩) ?_)
  ·rintro k c st2 _ _ ⟨rfl,R2,hs⟩
   unfold Hs
   refine wpS_bind (wpS_get ?_)
   by_cases q:(pendingOf st2).size≤1
   ·rw [if_pos q]
    exact wpS_pure ⟨rfl,R2,q⟩
   ·rw [if_neg q]
    refine wpS_bind (Mf hc dm un R2 ?_ fun st3 R3 e3 _=>?_)
    ·have:LR st2≤(pendingOf st2).size - 2:=by
      unfold LR
      generalize (if (pendingOf st2).size - 2 > 0 then Option.map (fun x:Pd=>x.2.1) (pendingOf st2)[(pendingOf st2).size - 2 - 1]? else none)=o
      split <;> lia
     lia
    ·rw [if_neg (by decide)]
     exact wpS_pure ⟨rfl,R3,.inl (by lia)⟩
  ·rintro c st2 ⟨rfl,R2,hs⟩
   exact ⟨rfl,R2,by lia⟩
  ·rintro c st2 ⟨rfl,R2,hs⟩
   refine wpS_pure (h st2 R2.pm R2.fl ?_)
   have sz:(arrOf st2).size=(arrOf st).size:=R2.pm.size_eq
   have all:gR r (arrOf st2) 0 (arrOf st2).size:=by
    have rn:=R2.rn
    have pl:(pendingOf st2).toList.length≤1:=by simpa using hs
    match hq:(pendingOf st2).toList,pl with
    | [],_ =>
     rw [hq] at rn
     have rn:0=(arrOf st).size:=rn
     intro p q _ _ h3
     lia
    | [x],_ =>
     rw [hq] at rn
     obtain ⟨_,_,g3,g4⟩:=rn
     have g4:0+x.2.1=(arrOf st).size:=g4
     rw [g4,←sz] at g3
     exact g3
   have:=(u9 (r:=r) (a:=arrOf st2) (i:=0) (Zaf _)).mpr all
   unfold bL at this
   rw [Zba,ZaL (by simp)] at this
   exact this
end
end L2.TS
namespace L2
open PySem PySem.Spec PyProof PyProof.Rows
section
variable {K:Type} [DecidableEq K] {prog:Program}{w:World}{knd:HeapKind prog w K}{A:Around}{E:Value->Shared->Prop}{s:Shared}{d a:Addr}{k:K}{xs:List (K×Addr×Value)}
theorem Dr {dflt:Value}{Q:Value->Shared->Prop} (hu:knd.room A) (hkey:knd.is s.heap k a) (hm:s.heap.DictOfH knd d xs) (hsz:xs.length≤sizeLine)
  (h1:∀ p,atKey xs k=some p->Q p.2 { s with toks:=s.toks+knd.draws k })
  (h2:atKey xs k=none->∀ h',h'.DictOfH knd d (storedH xs k a dflt)->Heap.SameBut d s.heap h'->Q dflt { s with heap:=h',toks:=s.toks+knd.draws k }) :
  wpAny (model prog w) A (dictSetDefault d (.ref a) dflt) Q E s:=by
 obtain ⟨o,es,ep,ho,hc,hd,he,his,hn⟩:=hm
 unfold dictSetDefault
 try with_reducible refine wpAny_holding ?_
 refine wpAny_bind (knd.pyHash hu hkey ?_)
 refine wpAny_bind (wpAny_dictFind_heap (s:={ s with toks:=s.toks+knd.draws k }) hu hkey ho hd he his hn ?_ ?_)
 ·intro hno
  have hnot:k ∉ xs.map (·.1):=not_mem_keys_of_get hno
  refine wpAny_bind (wpAny_rule (wpAny_bind (wpAny_updateDictKeys (hz:=by have e:=size_of_entries he;lia) (s:={ s with toks:=s.toks+knd.draws k }) ho hd (wpAny_pure (h2 (atKey_none_of_get hno) _ ⟨_,_,ep+1,Heap.get?_update_self _ ho (Obj.isFreed_of_dict (Obj.data_mapDictKeys hd _)),
   hc.mapDictKeys _,Obj.data_mapDictKeys hd _,?_,?_,?_⟩ (Zbr ..))))))
  ·rw [storedH_new (atKey_none_of_get hno)]
   simp [he,entryOfKey]
  ·rw [storedH_new (atKey_none_of_get hno)]
   intro x hx
   rcases Zae.mp hx with hx | hx
   ·exact knd.keeps (his x hx) ho hd (Zbr ..)
   ·simp only [Zay] at hx
    subst hx
    exact knd.keeps hkey ho hd (Zbr ..)
  ·rw [storedH_new (atKey_none_of_get hno)]
   rw [ZaX,Zbh]
   refine ⟨hn,by simp,?_⟩
   intro x hx y hy
   simp only [Zai,List.map_nil,Zay] at hy
   subst hy
   exact fun e=>hnot (e ▸ hx)
 ·intro j p hj
  refine wpAny_bind (wpAny_dictEntries (s:={ s with toks:=s.toks+knd.draws k }) ho hd ?_)
  rw [entry_at he j,hj]
  exact wpAny_bind (wpAny_rule (wpAny_pure (h1 p (atKey_of_get hn hj))))
theorem my (hd:(d == sysModules)=false) (dflt:Value):MeetsIn prog w (Builtin.«dict.setdefault» ⟨[.ref d,.ref a,dflt],[]⟩) (fun A R s=>knd.room A.in1∧∃ k xs,knd.is s.heap k a∧s.heap.DictOfH knd d xs∧xs.length≤sizeLine ∧
   (∀ p,atKey xs k=some p->R (.ok (.ret p.2)) { s with toks:=s.toks+knd.draws k }) ∧
   (atKey xs k=none->∀ h',h'.DictOfH knd d (storedH xs k a dflt)->Heap.SameBut d s.heap h'->R (.ok (.ret dflt)) { s with heap:=h',toks:=s.toks+knd.draws k })) :=
 .of_wp fun A R s ⟨hu,k,xs,hkey,hm,hsz,h1,h2⟩=>by
  unfold Builtin.«dict.setdefault»
  refine wpAny_bind ?_
  unfold Builtin.Dict.keyAndDefault
  refine wpAny_bind (wpAny_notOrdered_dict hm.typeIs ?_)
  show wpAny _ _ (pure (d,Value.ref a,some dflt)) _ _ s
  refine wpAny_pure ?_
  show wpAny _ _ (if (d == sysModules)=true then _ else (dictSetDefault d (.ref a) dflt >>= _)) _ _ s
  rw [if_neg (by rw [hd];exact Zbd)]
  exact wpAny_bind (Dr hu hkey hm hsz (fun p hp=>wpAny_pure ⟨p.2,rfl,h1 p hp⟩) fun hn h' hm' hs'=>wpAny_pure ⟨dflt,rfl,h2 hn h' hm' hs'⟩)
end
section
variable {X:Cx}{pins:List (Addr×Obj)}{σ:St}{H:Hp}{s:Shared}{a b:Addr}{kvs:List (List Key×V)}{k:List Key}{z:V}{r:Value}{A:Around}{E:Value->Shared->Prop}
theorem Jx {Q:Value->Shared->Prop} (hu:A.units+1 < cLine) (I:Inv X pins σ H s) (e:H a=some (.dT kvs)) (eb:H b=some (.tup (k.map kV))) (hl:kvs.length < sizeLine) (rz:RelV z r)
  (h1:∀ v,iZ kvs k=some v->∀ w' s',Inv X pins σ H s'->RelV v w'->Q w' s')
  (h2:iZ kvs k=none->∀ s',Inv X pins σ (upd H a (.dT (putK kvs k z))) s'->Q r s'):wpAny (model X.prog X.w) A (call (.builtin "dict.setdefault") [.ref a,.ref b,r]) Q E s:=by
 obtain ⟨zz,hd,xs,rel,dd⟩:=Kg I.hok e
 have hz:xs.length≤sizeLine:=by rw [←Paired.length rel];exact zz
 have hl2:(putK kvs k z).length≤sizeLine:=by have:=iM kvs k z;lia
 have rv:=rel.val k
 refine call_meetsIn PySem.F.slot_dict_setdefault dd.typeIs PySem.F.entry_dict_setdefault (PySem.F.args_dict_setdefault_3 _ _ _) (my (knd:=tupleKind (cR X.prog X.w)) hd r)
  ⟨tupleKind_room_in1 hu,k,xs,nG I.hok eb,dd,hz,fun p hp=>?_,fun hn h' dd' hs=>?_⟩
 ·rw [hp] at rv
  cases e2:iZ kvs k with
  | none=>rw [e2] at rv;exact rv.elim
  | some v'=>rw [e2] at rv;exact h1 v' e2 p.2 _ (I.tok _) rv
 ·rw [hn] at rv
  have hn':iZ kvs k=none:=by
   cases e2:iZ kvs k with
   | none=>rfl
   | some v'=>rw [e2] at rv;exact rv.elim
  obtain ⟨q,es,ep,hq,g2,g3,g4,_,g5⟩:=dd'
  refine h2 hn' _ (qU I (by rw [e];exact True.intro) hs ⟨q,hq⟩ ⟨hl2,hd,_,(rel.put k eb rz).keeps fun c ys ec=>?_,q,es,ep,hq,g2,g3,g4,g5⟩)
  rw [aG (JX ec e (fun z=>nomatch z))]
  exact ec
end
def Ds (td ty tz:TE):TE:=fun σ H Q=>td σ H fun x H1=>∃ a,x=.ref a∧IsD H1 a∧ty σ H1 fun y H2=>tz σ H2 fun z H3=>∃ kvs k b,H3 a=some (.dT kvs)∧y=.ref b∧H3 b=some (.tup (k.map kV))∧kvs.length < sizeLine ∧
 (∀ v,iZ kvs k=some v->Q v H3)∧(iZ kvs k=none->Q z (upd H3 a (.dT (putK kvs k z))))
section
variable {X:Cx}{o e f:Expr}{apos cpos:Pos}{td ty tz:TE}
theorem Gp (hu:X.A.units+1 < cLine) (ho:PE X o td) (he:PE X e ty) (hf:PE X f tz) (m:M2 X o "setdefault" apos e f cpos):PE X (.Call (.Attribute o "setdefault" apos) [e,f] [] cpos) (Ds td ty tz):=by
 intro pins s σ H Q I h
 refine wpAny_Call_method m.base m.few m.line PySem.F.plainAttrs_dict PySem.F.slot_dict_setdefault PySem.F.type_dict_setdefault (thn (ho pins s σ H _ I h) ?_)
 rintro u s1 ⟨x,H1,I1,rx,a,ex,d,q1⟩
 subst ex
 obtain rfl:u=Value.ref a:=rx
 obtain ⟨t1,t2,_⟩:=Fy I1 d
 refine ⟨t1,t2,?_⟩
 rw [m.trees]
 refine Calls.callWith_builtin rfl (Calls.evalArgs_plain (Calls.spliced_cons (thn (he pins s1 σ H1 _ I1 q1) fun iv s2 ⟨y,H2,I2,ry,q2⟩ =>
  Calls.spliced_cons (thn (hf pins s2 σ H2 _ I2 q2) fun fv s3 ⟨z,H3,I3,rz,kvs,k,b,ea,ey,eb,hl,c1,c2⟩=>Calls.spliced_nil ?_))))
 subst ey
 obtain rfl:iv=Value.ref b:=ry
 exact Jx hu I3 ea eb hl rz (fun v hv w' s' I' r'=>⟨v,H3,I',r',c1 v hv⟩) fun hn s' I'=>⟨z,_,I',rz,c2 hn⟩
end
namespace MP
section
variable {K:PySem.W.Frag}{C:Cg}{te tb:TE}{F F1 F2 H H1 H2:Hp}{σ:St}{ρ:Rho}{D:Ends}{S:Addr->Prop}{v:V}{p:PV}
theorem Dp.Al {l:List (List Key×PV)} (d:Dp K F H S v (.dt l)):∃ (T:Nat->Addr->Prop) (a:Addr) (xs:List (List Key×V)),v=.ref a∧H a=some (.dT xs)∧S a∧(∀ j b,T j b->S b∧b≠a)∧(∀ i j b,T i b->T j b->i=j)∧xs.map (·.1)=l.map (·.1)∧∀ (j:Nat) x p,xs[j]?=some x->l[j]?=some p->Dp K F H (T j) x.2 p.2:=by
 cases d with
 | fr r st=>cases st
 | dt h hp hs dj hl hr=>exact ⟨_,_,_,rfl,h,hp,hs,dj,hl,hr⟩
def rN (i:Nat) (fk fe:Fn PV):Sn:=fun ρ=>match Ae i ρ with
 | some (.dt l)=>if l.length < sizeLine then ik (fk ρ) fun kp=>match kp with
  | .tup ks=>match eG ks with
   | some k=>match (di l k).getD (.lst []) with
    | .lst row=>ik (fe (ρ.set i (some (.dp (.dt (bT l k (.lst row))))))) fun q=>if q.still=true∧row.length < sizeLine then some (.nx (ρ.set i (some (.dp (.dt (bT l k (.lst (row++[q]))))))))
     else none
    | _=>none
   | none=>none
  | _=>none else none
 | _=>none
theorem Ht {κ:Type} [DecidableEq κ] {k:κ}{p q:PV}:∀ {l:List (κ×PV)},bT (bT l k p) k q=bT l k q
 | []=>by simp [bT]
 | (a,r)::l=>by
  by_cases h:a=k
  ·simp [bT,h]
  ·simp [bT,h,Ht (l:=l)]
theorem Mj {κ:Type} [DecidableEq κ] {k:κ}{p:PV}:∀ {l:List (κ×PV)},di (bT l k p) k=some p
 | []=>by simp [bT,di]
 | (a,r)::l=>by
  by_cases h:a=k
  ·simp [bT,di,h]
  ·simp [bT,di,h,Mj (l:=l)]
theorem Dt {κ:Type} [DecidableEq κ] {k:κ}{p:PV}:∀ {l:List (κ×PV)},di l k=some p->bT l k p=l
 | [],e=>by cases e
 | (a,r)::l,e=>by
  unfold di at e
  by_cases h:a=k
  ·rw [if_pos h] at e;cases e;simp [bT,h]
  ·rw [if_neg h] at e;simp [bT,h,Dt e]
theorem yS {i:Nat}{l:List (List Key×PV)}{k:List Key}{row:List PV}{q:PV}{P:Nat->Addr->Prop}{a b:Addr}{xs:List (List Key×V)}{w:V} (R:RE K C.toCf F H σ ρ) (d:RD K C.toCf F H σ ρ P) (ei:ρ[i]?=some (some (.dp (.dt l)))) (es:σ[i]?=some (some (.ref a))) (ha:H a=some (.dT xs)) (hv:iZ xs k=some (.ref b)) (hp:di l k=some (.lst row)) (rep:Rep K F w q) (st:q.still=true) :
  ∃ ys,H b=some (.lst ys)∧ys.length=row.length∧RE K C.toCf F (upd H b (.lst (ys++[w]))) σ (ρ.set i (some (.dp (.dt (bT l k (.lst (row++[q]))))))):=by
 obtain ⟨v,e1,dp⟩:=d.dp i _ ei
 rw [es] at e1;cases e1
 obtain ⟨T,a',xs',ea,ha',Pa,hT,dj,hkeys,hch⟩:=dp.Al
 cases ea
 rw [ha] at ha';cases ha'
 obtain ⟨j,w',lj,xj,hvw,hput⟩:=o7 hkeys hp
 rw [hv] at hvw;cases hvw
 obtain ⟨T2,b',ys,eb,hb,sb,ht2,ds2⟩:=(hch j _ _ xj lj).b8
 have eb:V.ref b=.ref b':=eb
 cases eb
 have nab:a≠b:=fun z=>(hT j b sb).2 z.symm
 have nt:∀ c zs,H c=some (.tup zs)->upd H b (.lst (ys++[w])) c=some (.tup zs):=fun c zs z=>by
  rw [aG (fun y=>by subst y;rw [hb] at z;cases z)];exact z
 refine ⟨ys,hb,ds2.1,?_⟩
 refine R.Li d ei es (hT j b sb).1 (fun zs z=>by cases z) (S':=P i) (.dt (S:=T) (xs:=xs) (by rw [aG nab];exact ha) Pa hT dj (by rw [hput,Lw lj];exact hkeys) fun m x r h1 h2=>?_) fun c z=>.inl z
 rw [hput] at h2
 rcases get_set h2 with ⟨f1,f2⟩ | ⟨f1,f2⟩
 ·subst f1;subst f2
  rw [xj] at h1;cases h1
  exact Dp.snoc hb sb ht2 ds2 rep st
 ·exact (hch m x r h1 f2).up (aR.refl _) (fun c o z y=>by rw [aG (fun e=>by subst e;exact f1 (dj j m c sb z))];exact y) nt
theorem Jy {i:Nat}{fk fe:Fn PV} (hk:MJ K C (aF K) tb fk) (he:MJ K C (aF K) te fe) :
  MS K C (GJ (tBM K "list" zR (Ds (lO i) tb (Rv xW)) (kE te xW))) (rN i fk fe):=by
 intro F H σ ρ D o R e Pq
 unfold rN at e
 split at e
 case h_2=>cases e
 rename_i l hl
 split at e
 case isFalse=>cases e
 rename_i hlen
 obtain ⟨P0,d0⟩:=R.dd
 obtain ⟨v0,e0,dp0⟩:=d0.dp i _ (iJ hl)
 obtain ⟨_,a,xs0,rfl,ha0,_⟩:=dp0.Al
 refine ⟨_,e0,a,rfl,.inr ⟨xs0,.inl ha0⟩,?_⟩
 rcases cP e with ⟨z,e1,rfl⟩ | ⟨kp,e1,hk1⟩
 ·exact hk F H σ ρ _ _ R e1 Pq
 refine hk F H σ ρ _ _ R e1 fun y F1 H1 u ry=>?_
 split at hk1
 case h_2=>cases hk1
 rename_i ks
 split at hk1
 case h_2=>cases hk1
 rename_i k hkk
 split at hk1
 case h_2=>cases hk1
 rename_i row hrow
 obtain ⟨bk,zs,rfl,hbk,rr⟩:=Rep.qW ry
 cases oZ hkk rr
 refine ⟨ZaO _,fun n hn=>?_⟩
 have u1:Up F1 H1 F1 (upd H1 n (.lst [])):=Up.FJ u.fh hn
 have RA:=R.up u
 obtain ⟨P1,dA⟩:=RA.dd
 have R1:=RA.up u1
 have d1:=dA.up u1
 obtain ⟨v1,e1',dp1⟩:=d1.dp i _ (iJ hl)
 rw [e0] at e1';cases e1'
 obtain ⟨T,a',xs,ea,ha,Pa,hT,dj,hkeys,hch⟩:=dp1.Al
 cases ea
 have lx:xs.length=l.length:=by have:=congrArg List.length hkeys;simpa using this
 have hbk2:=u1.fh _ _ hbk
 refine ⟨xs,k,bk,ha,rfl,hbk2,by rw [lx];exact hlen,fun v hv=>?_,fun hv=>?_⟩
 ·cases hvl:di l k with
  | none=>rw [(wC hkeys hvl).1] at hv;cases hv
  | some q0 =>
   rw [hvl] at hrow
   have hrow:q0=.lst row:=hrow
   subst hrow
   rw [Dt hvl,Df (iJ hl)] at hk1
   obtain ⟨j,w',lj,xj,hvw,_⟩:=o7 hkeys hvl
   rw [hv] at hvw;cases hvw
   obtain ⟨T2,b,ys,eb,hb,sb,_,_⟩:=(hch j _ _ xj lj).b8
   have eb:v=.ref b:=eb
   subst eb
   refine ⟨tyL hb,?_⟩
   rcases cP hk1 with ⟨z,e2,rfl⟩ | ⟨q,e2,hk2⟩
   ·exact he F1 _ σ ρ _ _ R1 e2 (PX.up Pq (u.trans u1).ff)
   split at hk2
   case isFalse=>cases hk2
   rename_i hq
   cases hk2
   refine he F1 _ σ ρ _ _ R1 e2 fun w F2 H2 u2 rep=>?_
   obtain ⟨ys2,hb2,yl,RR⟩:=yS (R1.up u2) (d1.up u2) (iJ hl) e0 (u2.hh _ _ ha) hv hvl rep hq.1
   exact ⟨b,ys2,w,rfl,rfl,hb2,by rw [yl];exact hq.2,Pq F2 _ σ ((u.trans u1).trans u2).ff RR⟩
 ·cases hvl:di l k with
  | some q0 =>
   obtain ⟨j,w',_,_,hvw,_⟩:=o7 hkeys hvl
   rw [hv] at hvw;cases hvw
  | none =>
   rw [hvl] at hrow
   have hrow:row=[]:=by
    have:PV.lst []=.lst row:=hrow
    cases this;rfl
   subst hrow
   have hput:=(wC hkeys hvl).2
   rw [Kf _ hv]
   have hn2:upd H1 n (.lst []) n=some (.lst []):=aL
   have inP:∀ j x,P1 j x->x≠n:=fun j x z y=>by
    subst y
    obtain ⟨_,⟨o,k2,_⟩,_⟩:=dA.own j x z
    rw [hn] at k2;cases k2
   have nna:n≠a:=fun z=>inP i a Pa z.symm
   have il:=cJ (iJ hl)
   have R3:RE K C.toCf F1 (upd (upd H1 n (.lst [])) a (.dT (xs++[(k,.ref n)]))) σ (ρ.set i (some (.dp (.dt (bT l k (.lst [])))))):=by
    refine R1.Li d1 (iJ hl) e0 Pa (fun zs z=>by cases z) (S':=fun c=>P1 i c∨c=n) ?_ fun c z=>?_
    ·rw [hput]
     refine .dt (S:=fun m x=>(m < xs.length∧T m x)∨(m=xs.length∧x=n)) (xs:=xs++[(k,.ref n)]) aL (.inl Pa) (fun m x z=>?_) (fun m m' x z z'=>?_) (by simp [hkeys]) fun m x r h1 h2=>?_
     ·rcases z with ⟨_,z⟩ | ⟨_,z⟩
      ·exact ⟨.inl (hT m x z).1,(hT m x z).2⟩
      ·exact ⟨.inr z,by rw [z];exact nna⟩
     ·rcases z with ⟨q,z⟩ | ⟨q,z⟩ <;> rcases z' with ⟨q',z'⟩ | ⟨q',z'⟩
      ·exact dj m m' x z z'
      ·exact absurd z' (inP i x (hT m x z).1)
      ·exact absurd z (inP i x (hT m' x z').1)
      ·rw [q,q']
     ·by_cases hm:m < xs.length
      ·rw [Zah hm] at h1
       rw [Zah (by lia)] at h2
       exact ((hch m x r h1 h2).up (aR.refl _) (fun c o z y=>by rw [aG (hT m c z).2];exact y) fun c zs z=>by rw [aG (fun y=>by subst y;rw [ha] at z;cases z)];exact z).mono fun c z=>.inl ⟨hm,z⟩
      ·have em:m=xs.length:=by
        have:=cJ h1
        simp at this
        lia
       subst em
       rw [Zao (Zaf _),Nat.sub_self] at h1
       rw [lx,Zao (Zaf _),Nat.sub_self] at h2
       cases h1;cases h2
       exact .lst (S:=fun _ _=>False) (by rw [aG nna];exact hn2) (.inr ⟨rfl,rfl⟩) (fun _ _ q=>q.elim) (fun _ _ _ q=>q.elim) rfl fun j x p e1=>by simp at e1
    ·rcases z with z | z
     ·exact .inl z
     ·subst z
      exact .inr ⟨u.fh.free hn,⟨_,hn2,fun ys q=>by cases q⟩,(d1.own i a Pa).2.2.1,RA.rb.ut hn,fun j z=>inP j c z rfl,fun j q f=>RA.apart hn j q f⟩
   have hn3:upd (upd H1 n (.lst [])) a (.dT (xs++[(k,.ref n)])) n=some (.lst []):=by rw [aG nna];exact hn2
   refine ⟨tyL hn3,?_⟩
   rcases cP hk1 with ⟨z,e2,rfl⟩ | ⟨q,e2,hk2⟩
   ·exact he F1 _ σ _ _ _ R3 e2 (PX.up Pq u.ff)
   split at hk2
   case isFalse=>cases hk2
   rename_i hq
   cases hk2
   refine he F1 _ σ _ _ _ R3 e2 fun w F2 H2 u2 rep=>?_
   obtain ⟨P3,d3⟩:=R3.dd
   have ei:(ρ.set i (some (.dp (.dt (bT l k (.lst []))))))[i]?=some (some (.dp (.dt (bT l k (.lst []))))):=by rw [List.getElem?_set,if_pos rfl,if_pos il]
   have hvn:iZ (xs++[(k,V.ref n)]) k=some (.ref n):=by
    unfold iZ at hv ⊢
    rw [Option.map_eq_none_iff] at hv
    rw [List.find?_append,hv]
    simp
   obtain ⟨ys2,hb2,yl,RR⟩:=yS (R3.up u2) (d3.up u2) ei e0 (u2.hh _ _ aL) hvn Mj rep hq.1
   rw [Lr,Ht] at RR
   exact ⟨n,ys2,w,rfl,rfl,hb2,by rw [yl];exact hq.2,Pq F2 _ σ (u.ff.trans u2.ff) RR⟩
end
end MP
open PySem PySem.Spec PySem.W PyProof PyProof.Rows
noncomputable abbrev Sk:=Str×List Int
def ltI:List Int->List Int->Bool
 | a::l,b::m=>if a=b then ltI l m else decide (a < b)
 | _,_=>false
def je (p q:Sk):Bool:=if p.1=q.1 then ltI p.2 q.2 else decide (p.1.cps.toList < q.1.cps.toList)
theorem wL:∀ l,ltI l l=false
 | []=>rfl
 | a::l=>by unfold ltI;rw [if_pos rfl];exact wL l
theorem yU:∀ {l m n:List Int},ltI l m=true->ltI m n=true->ltI l n=true
 | a::l,b::m,c::n,h1,h2=>by
  unfold ltI at h1 h2 ⊢
  by_cases e1:a=b
  ·rw [if_pos e1] at h1
   by_cases e2:b=c
   ·rw [if_pos e2] at h2;rw [if_pos (e1.trans e2)];exact yU h1 h2
   ·rw [if_neg e2] at h2;rw [if_neg (fun z=>e2 (e1.symm.trans z)),e1];exact h2
  ·rw [if_neg e1] at h1
   have h1:=of_decide_eq_true h1
   by_cases e2:b=c
   ·rw [if_neg (fun z=>e1 (z.trans e2.symm)),←e2];exact decide_eq_true h1
   ·rw [if_neg e2] at h2
    have h2:=of_decide_eq_true h2
    rw [if_neg (by omega)]
    exact decide_eq_true (by omega)
 | [],_,_,h1,_=>by cases h1
 | _::_,[],_,h1,_=>by cases h1
 | _::_,_::_,[],_,h2=>by cases h2
theorem yV:∀ {l m:List Int},l.length=m.length->l≠m->ltI l m=true∨ltI m l=true
 | [],[],_,h=>absurd rfl h
 | a::l,b::m,hl,h=>by
  unfold ltI
  by_cases e:a=b
  ·subst e
   rw [if_pos rfl,if_pos rfl]
   exact yV (by simpa using hl) fun z=>h (by rw [z])
  ·rw [if_neg e,if_neg (Za7 e)]
   rcases Int.lt_or_gt_of_ne e with q | q
   ·exact .inl (decide_eq_true q)
   ·exact .inr (decide_eq_true q)
theorem Sy {a b:Str} (h:a≠b):a.cps.toList≠b.cps.toList:=fun e=>h (by
 cases a;cases b
 simp only [Str.mk.injEq]
 exact Array.toList_inj.mp e)
theorem Du (p:Sk):je p p=false:=by unfold je;rw [if_pos rfl];exact wL _
theorem Gq {p q t:Sk} (h1:je p q=true) (h2:je q t=true):je p t=true:=by
 unfold je at h1 h2 ⊢
 by_cases e1:p.1=q.1
 ·rw [if_pos e1] at h1
  by_cases e2:q.1=t.1
  ·rw [if_pos e2] at h2;rw [if_pos (e1.trans e2)];exact yU h1 h2
  ·rw [if_neg e2] at h2;rw [if_neg (fun z=>e2 (e1.symm.trans z)),e1];exact h2
 ·rw [if_neg e1] at h1
  have h1:=of_decide_eq_true h1
  by_cases e2:q.1=t.1
  ·rw [if_neg (fun z=>e1 (z.trans e2.symm)),←e2];exact decide_eq_true h1
  ·rw [if_neg e2] at h2
   have h2:=of_decide_eq_true h2
   have h3:=List.lt_trans h1 h2
   rw [if_neg (fun z=>by rw [z] at h3;exact List.lt_irrefl _ h3)]
   exact decide_eq_true h3
theorem wM {p q:Sk} (hl:p.2.length=q.2.length) (h:p≠q):je p q=true∨je q p=true:=by
 unfold je
 by_cases e:p.1=q.1
 ·rw [if_pos e,if_pos e.symm]
  exact yV hl fun z=>h (Prod.ext e z)
 ·rw [if_neg e,if_neg (Za7 e)]
  by_cases q1:p.1.cps.toList < q.1.cps.toList
  ·exact .inl (decide_eq_true q1)
  ·refine .inr (decide_eq_true ?_)
   by_cases q2:q.1.cps.toList < p.1.cps.toList
   ·exact q2
   ·exact absurd (List.le_antisymm (List.not_lt.mp q2) (List.not_lt.mp q1)) (Sy e)
def rkS (ps:List Sk) (i:Nat):Nat:=((List.range ps.length).filter fun j=>je (ps.getD j default) (ps.getD i default)).length
structure qt (ps:List Sk) (m:Nat):Prop where
 nd:ps.Nodup
 ln:∀ p∈ps,p.2.length=m
section
variable {ps:List Sk}{m:Nat}
theorem ud {i:Nat} (h:i < ps.length):ps.getD i default∈ps:=Zag (i:=i) (by rw [List.getD_eq_getElem?_getD,List.getElem?_eq_getElem h];rfl)
theorem qt.inj (o:qt ps m) {i j:Nat} (hi:i < ps.length) (hj:j < ps.length) (e:ps.getD i default=ps.getD j default):i=j:=by
 have g:∀ i,i < ps.length->ps[i]?=some (ps.getD i default):=fun i h=>by rw [List.getD_eq_getElem?_getD,List.getElem?_eq_getElem h];rfl
 exact (List.getElem?_inj hi o.nd).mp (by rw [g i hi,g j hj,e])
theorem Hu {i j:Nat} (hi:i < ps.length) (h:je (ps.getD i default) (ps.getD j default)=true):rkS ps i < rkS ps j:=by
 unfold rkS
 have sub:((List.range ps.length).filter fun k=>je (ps.getD k default) (ps.getD i default)).Sublist ((List.range ps.length).filter fun k=>je (ps.getD k default) (ps.getD j default)):=by
  have e:((List.range ps.length).filter fun k=>je (ps.getD k default) (ps.getD i default))=((List.range ps.length).filter fun k=>je (ps.getD k default) (ps.getD j default)).filter fun k=>je (ps.getD k default) (ps.getD i default):=by
   rw [List.filter_filter]
   refine List.filter_congr fun k _=>?_
   cases q:je (ps.getD k default) (ps.getD i default) with
   | false=>rfl
   | true=>rw [Gq q h];rfl
  rw [e];exact Zbc
 refine Nat.lt_of_le_of_ne sub.length_le fun e=>?_
 have e:=sub.eq_of_length e
 have:i∈(List.range ps.length).filter fun k=>je (ps.getD k default) (ps.getD j default):=Zas.mpr ⟨Zat.mpr hi,h⟩
 rw [←e] at this
 have:=(Zas.mp this).2
 rw [Du] at this
 cases this
theorem qt.lt (o:qt ps m) {i j:Nat} (hi:i < ps.length) (hj:j < ps.length):je (ps.getD i default) (ps.getD j default)=decide (rkS ps i < rkS ps j):=by
 cases q:je (ps.getD i default) (ps.getD j default) with
 | true=>exact (decide_eq_true (Hu hi q)).symm
 | false =>
  refine (decide_eq_false fun z=>?_).symm
  by_cases e:ps.getD i default=ps.getD j default
  ·rw [o.inj hi hj e] at z;omega
  ·rcases wM (by rw [o.ln _ (ud hi),o.ln _ (ud hj)]) e with w | w
   ·rw [q] at w;cases w
   ·have:=Hu hj w;omega
theorem qt.UV (o:qt ps m) {i j:Nat} (hi:i < ps.length) (hj:j < ps.length) (e:rkS ps i=rkS ps j):i=j:=by
 refine o.inj hi hj (Classical.byContradiction fun ne=>?_)
 rcases wM (by rw [o.ln _ (ud hi),o.ln _ (ud hj)]) ne with w | w
 ·have:=Hu hi w;omega
 ·have:=Hu hj w;omega
def gf (ps:List Sk):List Nat:=(List.range ps.length).mergeSort fun i j=>decide (rkS ps i≤rkS ps j)
theorem lu (ps:List Sk):(gf ps).Perm (List.range ps.length):=List.mergeSort_perm _ _
theorem rO:∀ i∈gf ps,i < ps.length:=fun i hi=>Zat.mp ((lu ps).mem_iff.mp hi)
theorem Ml (ps:List Sk):(gf ps).length=ps.length:=by rw [(lu ps).length_eq,List.length_range]
theorem qt.ord (o:qt ps m):(gf ps).Pairwise fun i j=>rkS ps i < rkS ps j:=by
 have h:=List.pairwise_mergeSort (le:=fun i j=>decide (rkS ps i≤rkS ps j)) (fun a b c h1 h2=>by simp at h1 h2 ⊢;lia) (fun a b=>by simp;lia) (List.range ps.length)
 have nd:(gf ps).Nodup:=(lu ps).nodup_iff.mpr ZbA
 refine (h.and nd).imp_of_mem fun {i j} hi hj q=>?_
 have h1:rkS ps i≤rkS ps j:=by simpa using q.1
 exact Nat.lt_of_le_of_ne h1 fun e=>q.2 (o.UV (rO i hi) (rO j hj) e)
theorem qt.PB (o:qt ps m) {l:List Nat} (p:l.Perm (List.range ps.length)) (s:l.Pairwise fun i j=>rkS ps i < rkS ps j):l=gf ps :=
 List.Perm.eq_of_pairwise (le:=fun i j=>rkS ps i < rkS ps j) (fun i j _ _ h1 h2=>by lia) s o.ord (p.trans (lu ps).symm)
end
open PySem PySem.Spec PySem.W PyProof PyProof.Rows
def nq (h:Heap) (v:Value) (p:Sk):Prop:=∃ a o t ys n,v=.ref a∧h.get? a=some o∧o.cls=.type "tuple"∧o.data=.seq (List.toArray (.str p.1 t::ys)) n∧IntsAre ys p.2
theorem yW:∀ {ys:List Value}{ns ms:List Int},IntsAre ys ns->IntsAre ys ms->ns=ms
 | _,_,_,.nil,.nil=>rfl
 | _,_,_,.cons n _ h1,.cons _ _ h2=>by rw [yW h1 h2]
section
variable {prog:Program}{w:World}{A:Around}{E:Value->Shared->Prop}{s:Shared}{v u:Value}{p q:Sk}
theorem nq.same {h h':Heap} (x:nq h v p) (k:∀ a o,v=.ref a->h.get? a=some o->h'.get? a=some o):nq h' v p:=by
 obtain ⟨a,o,t,ys,n,e,h1,h2⟩:=x
 exact ⟨a,o,t,ys,n,e,k a o e h1,h2⟩
theorem nq.PB {h:Heap} (x:nq h v p) (y:nq h v q):p=q:=by
 obtain ⟨a,o,t,ys,n,rfl,h1,_,h3,h4⟩:=x
 obtain ⟨a',o',t',ys',n',e,g1,_,g3,g4⟩:=y
 cases e
 rw [h1] at g1;cases g1
 rw [h3] at g3
 injection g3 with e1 _
 have e1:=congrArg Array.toList e1
 simp only at e1
 injection e1 with e2 e3
 injection e2 with e4 _
 subst e3
 exact Prod.ext e4 (yW h4 g4)
theorem Dv {Q:Bool->Shared->Prop}:∀ {ys zs:List Value}{ns ms:List Int} (i:Nat),IntsAre ys ns->IntsAre zs ms->ns.length=ms.length->Q (ltI ns ms) s->KatLex prog w A true false Q (ys.zip zs) (i+1) s
 | _,_,_,_,i,.nil,.nil,_,h=>kat_nil h
 | _,_,_,_,i,.cons n t h1,.cons m t' h2,hl,h=>by
  refine kat_cons (wpAny_eqBool_int ?_)
  by_cases d:n=m
  ·rw [beq_iff_eq.mpr d]
   refine kat_yes (Dv (i+1) h1 h2 (by simpa using hl) ?_)
   unfold ltI at h
   rw [if_pos d] at h
   exact h
  ·rw [beq_eq_false_iff_ne.mpr d]
   refine kat_no ?_
   rw [show (true && i+1 == 0)=false by simp]
   unfold ltI at h
   rw [if_neg d] at h
   exact kat_one _ _ (lt_int h)
 | _,_,_,_,_,.nil,.cons ..,hl,_=>by simp at hl
 | _,_,_,_,_,.cons ..,.nil,hl,_=>by simp at hl
theorem wN:∀ {ys:List Value}{ns:List Int},IntsAre ys ns->ys.length=ns.length
 | _,_,.nil=>rfl
 | _,_,.cons _ _ h=>by simp [wN h]
theorem nq.lt (hp:nq s.heap v p) (hq:nq s.heap u q) (hl:p.2.length=q.2.length) {Q:Bool->Shared->Prop} (h:Q (je p q) s):wpAny (model prog w) A (keyLt' (tuples' true) v u) Q E s:=by
 obtain ⟨a,o,t,ys,n,rfl,e1,e2,e3,e4⟩:=hp
 obtain ⟨b,o',t',zs,n',rfl,f1,f2,f3,f4⟩:=hq
 refine kat_lt e1 e3 f1 f3 (kat_cons (wpAny_eqBool_str ?_))
 rw [show decide ((List.toArray (Value.str p.1 t::ys)).size < (List.toArray (Value.str q.1 t'::zs)).size)=false by
  refine decide_eq_false ?_
  simp [wN e4,wN f4,hl]]
 by_cases c:p.1=q.1
 ·rw [decide_eq_true c]
  refine kat_yes (Dv 0 e4 f4 hl ?_)
  rw [show je p q=ltI p.2 q.2 by unfold je;rw [if_pos c]] at h
  exact h
 ·rw [decide_eq_false c]
  refine kat_no ?_
  show wpAny _ _ (oneLt' true _ _) _ _ _
  rw [show je p q=decide (p.1.cps.toList < q.1.cps.toList) by unfold je;rw [if_neg c]] at h
  exact oneLt_str h
theorem Mm {vs:List Value}{ps:List Sk}{m:Nat} (ok:qt ps m) (hl:vs.length=ps.length) (hp:∀ (i:Nat) v p,vs[i]?=some v->ps[i]?=some p->nq s.heap v p) :
  wpAny (model prog w) A (sortRuns'.run (SortSt.mk' (tuples' true) (vs.toArray.zip vs.toArray) #[] 7 none)) (fun r s'=>s'=s∧failedOf r.2=none∧(arrOf r.2).map (·.2)=List.toArray ((gf ps).map fun i=>vs.getD i .none)∧(arrOf r.2).size=vs.length) E s:=by
 have gv:∀ i,i < vs.length->vs[i]?=some (vs.getD i .none):=fun i h=>by rw [List.getD_eq_getElem?_getD,List.getElem?_eq_getElem h];rfl
 have gp:∀ i,i < vs.length->ps[i]?=some (ps.getD i default):=fun i h=>by rw [List.getD_eq_getElem?_getD,List.getElem?_eq_getElem (by lia)];rfl
 have at_:∀ i,i < vs.length->nq s.heap (vs.getD i .none) (ps.getD i default):=fun i h=>hp i _ _ (gv i h) (gp i h)
 have inj:∀ i j,i < vs.length->j < vs.length->vs.getD i .none=vs.getD j .none->i=j:=fun i j hi hj e=>ok.inj (by lia) (by lia) ((at_ i hi).PB (e ▸ at_ j hj))
 let ix:Keyed->Nat:=fun x=>@dite _ (∃ i,i < vs.length∧vs.getD i .none=x.1) (Classical.propDecidable _) (fun h=>Classical.choose h) fun _=>0
 have ixe:∀ i,i < vs.length->ix (vs.getD i .none,vs.getD i .none)=i:=fun i hi=>by
  have hx:∃ j,j < vs.length∧vs.getD j .none=(vs.getD i .none,vs.getD i .none).1:=⟨i,hi,rfl⟩
  show @dite _ _ (Classical.propDecidable _) _ _=i
  rw [@dif_pos _ (Classical.propDecidable _) hx]
  have:=Zbi hx
  exact inj _ i this.1 hi this.2
 have zl:(vs.toArray.zip vs.toArray).toList=(List.range vs.length).map fun i=>(vs.getD i .none,vs.getD i .none):=by
  rw [Array.toList_zip]
  apply Zbo
  intro i
  rw [List.getElem?_map]
  by_cases h:i < vs.length
  ·rw [Za1 h,show (vs.toArray.toList.zip vs.toArray.toList)[i]?=some (vs.getD i .none,vs.getD i .none) from List.getElem?_zip_eq_some.mpr ⟨by simpa using gv i h,by simpa using gv i h⟩];rfl
  ·rw [ZaE (by simp;lia),ZaE (by simp;lia)];rfl
 have mz:∀ x∈(vs.toArray.zip vs.toArray).toList,∃ i,i < vs.length∧x=(vs.getD i .none,vs.getD i .none):=fun x hx=>by
  rw [zl] at hx
  obtain ⟨i,hi,e⟩:=Zad.mp hx
  exact ⟨i,Zat.mp hi,e.symm⟩
 have hc:TS.Cmp prog w A s (tuples' true) (fun x=>∃ i,i < vs.length∧x=(vs.getD i .none,vs.getD i .none)) (fun x=>rkS ps (ix x)):=by
  rintro x y ⟨i,hi,rfl⟩ ⟨j,hj,rfl⟩ E Q q
  have q:Q (decide (rkS ps (ix (vs.getD i .none,vs.getD i .none)) < rkS ps (ix (vs.getD j .none,vs.getD j .none)))) s:=q
  rw [ixe i hi,ixe j hj,←ok.lt (by lia) (by lia)] at q
  exact nq.lt (at_ i hi) (at_ j hj) (by rw [ok.ln _ (ud (by lia)),ok.ln _ (ud (by lia))]) q
 have un:TS.Unl (fun x=>rkS ps (ix x)) (vs.toArray.zip vs.toArray).toList:=by
  rw [zl]
  unfold TS.Unl
  rw [ZaZ]
  refine ZbA.imp_of_mem fun {i j} hi hj ne=>?_
  show rkS ps (ix (vs.getD i .none,vs.getD i .none))≠rkS ps (ix (vs.getD j .none,vs.getD j .none))
  rw [ixe i (Zat.mp hi),ixe j (Zat.mp hj)]
  exact fun e=>ne (ok.UV (by have:=Zat.mp hi;lia) (by have:=Zat.mp hj;lia) e)
 have run:=TS.wpS_sortRuns (E:=E) (st:=SortSt.mk' (tuples' true) (vs.toArray.zip vs.toArray) #[] 7 none) hc rfl rfl rfl mz un (Q:=fun _ st'=>failedOf st'=none∧(arrOf st').map (·.2)=List.toArray ((gf ps).map fun i=>vs.getD i .none)∧(arrOf st').size=vs.length) fun st' pm ff ss=>?_
 ·exact run
 ·have pl:=Za2.mp pm
  have pl:(arrOf st').toList.Perm (vs.toArray.zip vs.toArray).toList:=pl
  have back:(arrOf st').toList=((arrOf st').toList.map ix).map fun i=>(vs.getD i .none,vs.getD i .none):=by
   rw [List.map_map]
   refine ((ZaU fun x hx=>?_).trans (List.map_id _)).symm
   obtain ⟨i,hi,rfl⟩:=mz x (pl.mem_iff.mp hx)
   show (vs.getD (ix _) .none,vs.getD (ix _) .none)=_
   rw [ixe i hi];rfl
  have ip:((arrOf st').toList.map ix).Perm (List.range ps.length):=by
   refine (pl.map ix).trans ?_
   rw [zl,List.map_map,←hl]
   exact List.Perm.of_eq ((ZaU fun i hi=>ixe i (Zat.mp hi)).trans (List.map_id _))
  have is:((arrOf st').toList.map ix).Pairwise fun i j=>rkS ps i < rkS ps j:=by
   rw [ZaZ];exact ss
  have eo:=ok.PB ip is
  refine ⟨ff,?_,?_⟩
  ·apply Array.toList_inj.mp
   rw [Array.toList_map,back,List.map_map,←eo]
   rfl
  ·rw [←ZaS,pl.length_eq,zl,List.length_map,List.length_range]
theorem wO {h:Heap}:∀ {vs:List Value}{ps:List Sk},ps.length=vs.length->(∀ (i:Nat) v p,vs[i]?=some v->ps[i]?=some p->nq h v p)->∃ fs:List Value,KatTups h vs fs∧fs.length=vs.length∧∀ f∈fs,∃ x t,f=.str x t
 | [],_,_,_=>⟨[],.nil,rfl,fun _ h=>nomatch h⟩
 | v::vs,[],e,_=>by cases e
 | v::vs,p::ps,e,hp=>by
  obtain ⟨a,o,t,ys,n,rfl,e1,e2,e3,_⟩:=hp 0 v p rfl rfl
  obtain ⟨fs,k,l,z⟩:=wO (vs:=vs) (ps:=ps) (by simpa using e) fun i v p h1 h2=>hp (i+1) v p h1 h2
  refine ⟨_,.cons e1 e2 e3 rfl k,by simp [l],fun f hf=>?_⟩
  rcases Zaq.mp hf with y | y
  ·exact ⟨_,_,y⟩
  ·exact z f y
theorem Jz {r:Nat->Nat->Prop}{n:Nat} (h:n < 2):(List.range n).Pairwise r:=by
 rcases (by omega:n=0∨n=1) with rfl | rfl
 ·exact .nil
 ·exact List.pairwise_singleton _ _
theorem PJ {vs:List Value} (h:vs.length < 2):((vs.toArray.zip vs.toArray).map (·.2)).toList=(List.range vs.length).map fun i=>vs.getD i .none:=by
 cases vs with
 | nil=>simp
 | cons v l =>
  cases l with
  | nil=>simp [List.range_succ]
  | cons u l=>simp at h;omega
theorem rP {a:Addr}{vs:List Value}{ps:List Sk}{m:Nat}{n:Nat}{P:PySem.Fin->Shared->Prop} (ho:s.heap.get? a=some (seqObj "list" vs.toArray n)) (hl:ps.length=vs.length)
  (hp:∀ (i:Nat) v p,vs[i]?=some v->ps[i]?=some p->nq s.heap v p) (ok:qt ps m) (hz64:vs.length < sizeLine)
  (h:(gf ps).length=vs.length->P (.done (.ret .none)) { s with heap:=sortedHeap s.heap a vs (List.toArray ((gf ps).map fun i=>vs.getD i .none)) }):wpAny (model prog w) A (Builtin.«list.sort» ⟨[.ref a],[]⟩) P E s:=by
 rw [list_sort_plain]
 have ha:a < s.heap.objs.size:=Zak ho
 obtain ⟨c1,g1⟩:∃ c,(s.heap.update a (Obj.mapSeq fun _=>(#[]:Array Value))).get? a=some (seqObj "list" #[] c):=⟨_,get?_update_seq ho fun _=>#[]⟩
 have old:∀ (b:Addr) (o:Obj),b≠a->s.heap.get? b=some o->(((s.heap.update a (Obj.mapSeq fun _=>(#[]:Array Value))).push (seqObj "tuple" vs.toArray 0)).push (seqObj "list" #[] 0)).get? b=some o:=fun b o ne e =>
  Zac _ (Zac _ ((Heap.get?_update_ne _ _ _ _ ne).trans e))
 have g2:(((s.heap.update a (Obj.mapSeq fun _=>(#[]:Array Value))).push (seqObj "tuple" vs.toArray 0)).push (seqObj "list" #[] 0)).get? a=some (seqObj "list" #[] c1):=Zac _ (Zac _ g1)
 refine wpAny_bind (listItems_at ho rfl (wpAny_bind (listUpdate_at ho rfl ?_ (by rw [List.size_toArray];exact ZaD hz64) (ZaO _))))
 refine wpAny_bind (seqEpoch_at g1 rfl (wpAny_bind (wpAny_newTuple (wpAny_bind (wpAny_newList (wpAny_holding ?_) (ZaO _))) (by show vs.length≤_;exact ZaD hz64))))
 show wpAny (model prog w) A _ P E { s with heap:=((s.heap.update a (Obj.mapSeq fun _=>(#[]:Array Value))).push (seqObj "tuple" vs.toArray 0)).push (seqObj "list" #[] 0) }
 dsimp only
 by_cases h2:vs.toArray.size < 2
 ·rw [if_pos h2,if_pos h2]
  refine wpAny_bind (wpAny_pure ?_)
  rw [StateT.run_pure]
  refine wpAny_bind (wpAny_pure ?_)
  dsimp only
  have eo:(arrOf (SortSt.mk' general' (vs.toArray.zip vs.toArray) #[] 7 none)).map (·.2)=List.toArray ((gf ps).map fun i=>vs.getD i .none):=by
   show (vs.toArray.zip vs.toArray).map (·.2)=_
   apply Array.toList_inj.mp
   rw [List.size_toArray] at h2
   have eo:gf ps=List.range vs.length:=by
    exact (ok.PB (by rw [hl]) (Jz h2)).symm
   rw [eo]
   exact PJ h2
  rw [eo]
  refine wpAny_bind (seqEpoch_at g2 rfl (wpAny_bind (listUpdate_at g2 rfl ?_ (ZaO _) ?_)))
  ·simp only [bne_self_eq_false,Za0,if_false]
   rw [List.size_toArray] at h2
   exact wpAny_pure (h (by rw [Ml,hl]))
  ·rw [List.size_toArray] at h2
   rw [←eo]
   refine ZaA (Nat.le_of_eq (Array.size_map ..)) ?_
   show (vs.toArray.zip vs.toArray).size≤_
   rw [Array.size_zip,List.size_toArray,Nat.min_self]
   exact Nat.le_succ_of_le (ZaD hz64)
 ·rw [if_neg h2,if_neg h2]
  rw [List.size_toArray] at h2
  have notA:∀ b o,(∃ v∈vs,v=.ref b)->s.heap.get? b=some o->b≠a:=by
   rintro b o ⟨v,hv,e⟩ hb z
   obtain ⟨i,hi⟩:=Zbm hv
   have il:i < ps.length:=by rw [hl];exact (Zab.mp hi).1
   obtain ⟨b',o',t,ys,n',e',f1,f2,_⟩:=hp i v _ hi (List.getElem?_eq_getElem il)
   rw [e] at e'
   cases e'
   rw [z,ho] at f1
   cases f1
   exact absurd (show Value.type "list"=Value.type "tuple" from f2) (by decide)
  have hp2:∀ (i:Nat) v p,vs[i]?=some v->ps[i]?=some p->nq (((s.heap.update a (Obj.mapSeq fun _=>(#[]:Array Value))).push (seqObj "tuple" vs.toArray 0)).push (seqObj "list" #[] 0)) v p:=fun i v p h1 h2 =>
   (hp i v p h1 h2).same fun b o e1 e2=>old b o (notA b o ⟨v,Zag h1,e1⟩ e2) e2
  obtain ⟨fs,k1,k2,k3⟩:=wO hl hp2
  refine wpAny_bind (kat_kind (s:={ s with heap:=_ }) (T:=.type "str") k1 (by omega) (fun f hf=>?_) (by decide) ?_)
  ·obtain ⟨x,t,rfl⟩:=k3 f hf
   exact .now
  show wpAny _ _ _ _ _ _
  rw [show tuples' (Value.type "str" != Value.type "tuple")=tuples' true from rfl]
  have run:=Mm (prog:=prog) (w:=w) (A:=A) (E:=E) (s:={ s with heap:=((s.heap.update a (Obj.mapSeq fun _=>(#[]:Array Value))).push (seqObj "tuple" vs.toArray 0)).push (seqObj "list" #[] 0) }) ok hl.symm hp2
  refine wpAny_bind (wpAny_mono run ?_ fun _ _ e=>e)
  rintro ⟨⟨⟩,st'⟩ s' ⟨rfl,hf,hm,hz⟩
  dsimp only
  rw [hm]
  refine wpAny_bind (seqEpoch_at g2 rfl (wpAny_bind (listUpdate_at g2 rfl ?_ (ZaO _) ?_)))
  ·rw [hf]
   simp only [bne_self_eq_false,Za0,if_false]
   refine wpAny_pure (h ?_)
   have:=congrArg Array.size hm
   rw [Array.size_map,hz,List.size_toArray,List.length_map] at this
   exact this.symm
  ·rw [←hm]
   refine ZaA (Nat.le_of_eq ((Array.size_map ..).trans hz)) (Nat.le_succ_of_le (ZaD hz64))
end
open PySem PySem.Spec PySem.W PyProof PyProof.Rows
def skV (p:Sk):HO:=.tup (.str p.1::p.2.map V.int)
def skK (p:Sk):List Key:=.inr p.1::p.2.map .inl
theorem UW (p:Sk):HO.tup ((skK p).map kV)=skV p:=by unfold skK skV;simp [kV,Function.comp_def]
theorem QW {h:Heap}{b:Addr}{ob:Obj}{its:List Value}{n:Nat}{p:Sk} (r:Vals (.str p.1::p.2.map V.int) its) (w1:h.get? b=some ob) (w2:ob.cls=.type "tuple") (w3:ob.data=.seq its.toArray n):nq h (.ref b) p:=by
 cases r with
 | cons r1 r2 =>
  obtain ⟨t1,rfl⟩:=r1
  exact ⟨b,ob,t1,_,n,rfl,w1,w2,w3,MP.CJ r2⟩
def Hv (K:PySem.W.Frag):List V->Hp->VK->Prop:=fun xs H Q=>∃ (p:Addr) (bs:List Addr) (ps:List Sk) (m:Nat),xs=[.ref p]∧SqL K H p (bs.map V.ref)∧bs.length=ps.length∧(∀ (j:Nat) b p,bs[j]?=some b->ps[j]?=some p->H b=some (skV p))∧qt ps m∧ps.length < sizeLine ∧
 ∀ l,H l=none->Q (.ref l) (upd H l (.lst ((gf ps).map fun j=>.ref (bs.getD j 0))))
def uz:List Key->Option (List Int)
 | []=>some []
 | .inl n::l=>(uz l).map (n::·)
 | _=>none
theorem Dw:∀ {l:List Key}{ns:List Int},uz l=some ns->l=ns.map .inl
 | [],ns,h=>by cases h;rfl
 | .inl n::l,ns,h=>by
  have h:(uz l).map (n::·)=some ns:=h
  obtain ⟨q,e1,rfl⟩:=Zbs.mp h
  rw [Dw e1];rfl
def kSk:List Key->Option Sk
 | .inr x::l=>(uz l).map fun ns=>(x,ns)
 | _=>none
theorem SJ:∀ {l:List Key}{p:Sk},kSk l=some p->l=skK p
 | .inr x::l,p,h=>by
  have h:(uz l).map (fun ns=>(x,ns))=some p:=h
  obtain ⟨q,e1,rfl⟩:=Zbs.mp h
  rw [Dw e1];rfl
def yd:List (List Key)->Option (List Sk)
 | []=>some []
 | k::ks=>match kSk k,yd ks with
  | some p,some ps=>some (p::ps)
  | _,_=>none
theorem Hw:∀ {ks:List (List Key)}{ps:List Sk},yd ks=some ps->ps.length=ks.length∧∀ (i:Nat) p,ps[i]?=some p->ks[i]?=some (skK p)
 | [],ps,h=>by cases h;exact ⟨rfl,fun i p e=>by simp at e⟩
 | k::ks,ps,h=>by
  unfold yd at h
  split at h
  ·rename_i p qs h1 h2
   cases h
   obtain ⟨g1,g2⟩:=Hw h2
   refine ⟨by simp [g1],fun i q e=>?_⟩
   cases i with
   | zero=>cases e;rw [SJ h1];rfl
   | succ i=>exact g2 i q (by simpa using e)
  ·cases h
def Hy:List V->Hp->VK->Prop:=fun xs H Q=>∃ p kvs ps m,xs=[.ref p]∧Rd H p (.dT kvs)∧yd (kvs.map (·.1))=some ps∧qt ps m∧ps.length < sizeLine∧∀ l (ad:Nat->Addr),H l=none->(∀ j∈gf ps,H (ad j)=some (skV (ps.getD j default)))->Q (.ref l) (upd H l (.lst ((gf ps).map fun j=>.ref (ad j))))
section
variable {X:Cx}
theorem pN:pI X (.builtin "sorted") (Hv X.K):=by
 intro pins s σ H xs us Q I rv h
 obtain ⟨p,bs,ps,m,rfl,hq,hl,ht,ok,h64,q⟩:=h
 obtain ⟨u,rfl,ru⟩:=rv.one
 cases ru
 obtain ⟨its,r,pl,hz⟩:=I.list hq
 have ei:=yO r
 subst ei
 have hlen:(bs.map Value.ref).length=ps.length:=by rw [List.length_map,hl]
 have prs:∀ (i:Nat) v p,(bs.map Value.ref)[i]?=some v->ps[i]?=some p->nq s.heap v p:=fun i v p h1 h2=>by
  rw [List.getElem?_map] at h1
  cases hb:bs[i]? with
  | none=>rw [hb] at h1;cases h1
  | some b =>
   rw [hb] at h1
   cases h1
   obtain ⟨_,its,r,⟨ob,w1,w2,n,w3⟩,_⟩:=(show dG X.prog X.w H s.heap b (skV p) from I.hok b _ (ht i b p hb h2))
   exact QW r w1 w2 w3
 refine Calls.call_function_entry kind_sorted plain_sorted entry_sorted (args_sorted1 _) ?_
 unfold Builtin.«sorted»
 refine wpAny_bind (m:=checkCount "sorted" 1 1 _) (wpAny_pure ?_)
 refine wpAny_bind (collect_list pl.isList ?_ (by rw [hlen];exact ZaD h64))
 refine wpAny_bind (wpAny_newList ?_ (by rw [hlen];exact ZaD h64))
 have hsz:((s.heap.push (seqObj "list" #[] 0)).update s.heap.objs.size (Obj.mapSeq (·++(bs.map Value.ref).toArray))).objs.size=s.heap.objs.size+1:=by
  rw [Heap.size_update,size_push']
 have hoL:(((s.heap.push (seqObj "list" #[] 0)).update s.heap.objs.size (Obj.mapSeq (·++(bs.map Value.ref).toArray))).push (seqObj "list" (bs.map Value.ref).toArray 0)).get? (s.heap.objs.size+1)=some (seqObj "list" (bs.map Value.ref).toArray 0):=by
  rw [←hsz];exact Zal _ rfl
 have keep:∀ b o,s.heap.get? b=some o->(((s.heap.push (seqObj "list" #[] 0)).update s.heap.objs.size (Obj.mapSeq (·++(bs.map Value.ref).toArray))).push (seqObj "list" (bs.map Value.ref).toArray 0)).get? b=some o:=fun b o q=>by
  have hlt:b < s.heap.objs.size:=Zak q
  rw [Heap.get?_push_ne _ _ _ (by rw [hsz];exact Zaw (Nat.lt_succ_of_lt hlt)),Heap.get?_update_ne _ _ _ _ (Zaw hlt),Heap.get?_push_ne _ _ _ (Zaw hlt)]
  exact q
 show wpAny _ _ _ _ _ { s with heap:=((s.heap.push (seqObj "list" #[] 0)).update s.heap.objs.size (Obj.mapSeq (·++(bs.map Value.ref).toArray))).push (seqObj "list" (bs.map Value.ref).toArray 0) }
 rw [hsz]
 refine wpAny_bind (wpAny_holding (wpAny_call_entry slot_list_sort ⟨_,hoL,rfl⟩ entry_list_sort (rP (ps:=ps) hoL hlen.symm (fun i v p h1 h2=>(prs i v p h1 h2).same fun b o _ e=>keep b o e) ok (by rw [hlen];exact h64) fun hn=>⟨_,rfl,?_⟩) (args_list_sort _)))
 refine wpAny_pure ⟨_,rfl,?_⟩
 obtain ⟨e',he⟩:=sortedAll_at s.heap (bs.map Value.ref) (List.toArray ((gf ps).map fun i=>(bs.map Value.ref).getD i .none))
 have fresh:H (s.heap.objs.size+1)=none:=I.hok.fresh (Nat.le_succ _)
 refine ⟨.ref (s.heap.objs.size+1),upd H (s.heap.objs.size+1) (.lst ((gf ps).map fun j=>.ref (bs.getD j 0))),I.laid (t':=s.toks) (fun b o=>sortedAll_old (vs:=bs.map Value.ref)) (Nat.le_succ _) ⟨?_,(gf ps).map fun i=>(bs.map Value.ref).getD i .none,e',wB fun j hj=>?_,he⟩,rfl,q _ fresh⟩
 ·rw [List.length_map,hn,hlen]
  exact ZaD h64
 ·have hj:j < bs.length:=by rw [hl];exact rO j hj
  rw [List.getD_eq_getElem?_getD (l:=bs.map Value.ref),List.getElem?_map,List.getD_eq_getElem?_getD (l:=bs),List.getElem?_eq_getElem hj]
  rfl
theorem ye (hc:X.calm=true):pI X (.builtin "sorted") Hy:=by
 intro pins s σ H xs us Q I rv h
 obtain ⟨p,kvs,ps,m,rfl,e,hk,ok,h64,q⟩:=h
 obtain ⟨u,rfl,ru⟩:=rv.one
 cases ru
 obtain ⟨z,hd,ts,rel,o,es,ep,d1,d2,d3,d4,d5,d6⟩:=uq I.hok e
 obtain ⟨lx,ax⟩:=rel.at
 obtain ⟨lp,ap⟩:=Hw hk
 rw [List.length_map] at lp
 have sz:es.size=ts.length:=by rw [←ZaS,d4,List.length_map]
 have at1:∀ j,j < ps.length->∃ b u,ts[j]?=some (skK (ps.getD j default),b,u)∧H b=some (skV (ps.getD j default))∧es[j]?=some (entryOfKey (tupleKind (cR X.prog X.w)) (skK (ps.getD j default),b,u)):=fun j hj=>by
  have e1:ps[j]?=some (ps.getD j default):=by rw [List.getD_eq_getElem?_getD,List.getElem?_eq_getElem hj];rfl
  obtain ⟨b,u,h1,h2⟩:=ax j _ (ap j _ e1)
  rw [UW] at h2
  refine ⟨b,u,h1,h2,?_⟩
  rw [←Zax,d4,List.getElem?_map,h1];rfl
 refine Calls.call_function_entry kind_sorted plain_sorted entry_sorted (args_sorted1 _) ?_
 unfold Builtin.«sorted»
 refine wpAny_bind (m:=checkCount "sorted" 1 1 _) (wpAny_pure ?_)
 refine wpAny_bind (PySem.W.kdu_collect (O6 (es:=es) (ep:=ep) hd) (I.ok.hd hc) ⟨o,d1,d2,d3⟩ (by lia) fun h' tk acc hold hacc=>?_)
 have hla:acc.toList.length=ps.length:=by rw [ZaS,hacc.1];lia
 have acc_at:∀ (j:Nat) b,(∃ u,ts[j]?=some (skK (ps.getD j default),b,u))->acc.toList[j]?=some (.ref b):=fun j b ⟨u,hu⟩=>by
  have hj:j < acc.toList.length:=by rw [hla];have:=(Zab.mp hu).1;lia
  obtain ⟨x,y1,y2⟩:=hacc.2 j _ (by rw [←Zax];exact List.getElem?_eq_getElem hj)
  rw [←Zax,d4,List.getElem?_map,hu] at y1
  cases y1
  rw [List.getElem?_eq_getElem hj,y2];rfl
 have I1:Inv X pins σ H { s with heap:=h',toks:=tk }:=I.kept hold
 have prs:∀ (i:Nat) v p,acc.toList[i]?=some v->ps[i]?=some p->nq h' v p:=fun i v p h1 h2=>by
  have hi:i < ps.length:=(Zab.mp h2).1
  have ep':ps.getD i default=p:=by rw [List.getD_eq_getElem?_getD,h2];rfl
  obtain ⟨b,u,y1,y2,_⟩:=at1 i hi
  rw [acc_at i b ⟨u,y1⟩] at h1
  cases h1
  rw [ep'] at y2
  obtain ⟨_,its,r,⟨ob,w1,w2,n,w3⟩,_⟩:=(show dG X.prog X.w H h' b (skV p) from I1.hok b _ y2)
  exact QW r w1 w2 w3
 refine wpAny_bind (wpAny_newList ?_ (by rw [hla];exact ZaD h64))
 have hoL:(h'.push (seqObj "list" acc.toList.toArray 0)).get? h'.objs.size=some (seqObj "list" acc.toList.toArray 0):=Zal _ rfl
 show wpAny _ _ _ _ _ { s with heap:=h'.push (seqObj "list" acc.toList.toArray 0),toks:=tk }
 refine wpAny_bind (wpAny_holding (wpAny_call_entry slot_list_sort ⟨_,hoL,rfl⟩ entry_list_sort (rP (ps:=ps) hoL hla.symm (fun i v p h1 h2=>(prs i v p h1 h2).same fun b o _ e=>Zac _ e) ok (by rw [hla];exact h64) fun hn=>⟨_,rfl,?_⟩) (args_list_sort _)))
 refine wpAny_pure ⟨_,rfl,?_⟩
 obtain ⟨e',he⟩:=sortedHeap_at (out:=List.toArray ((gf ps).map fun i=>acc.toList.getD i .none)) hoL
 have fresh:H h'.objs.size=none:=I1.hok.fresh (Zaf _)
 have ads:∀ j∈gf ps,∃ b u,ts[j]?=some (skK (ps.getD j default),b,u)∧H b=some (skV (ps.getD j default)):=fun j hj=>by
  obtain ⟨b,u,y1,y2,_⟩:=at1 j (rO j hj)
  exact ⟨b,u,y1,y2⟩
 refine ⟨.ref h'.objs.size,upd H h'.objs.size (.lst ((gf ps).map fun j=>.ref (ts.getD j ([],0,.none)).2.1)),I1.laid (t':=tk) (fun b o=>Af) (Zaf _) ⟨?_,(gf ps).map fun i=>acc.toList.getD i .none,e',wB fun j hj=>?_,he⟩,rfl,q _ (fun j=>(ts.getD j ([],0,.none)).2.1) fresh fun j hj=>?_⟩
 ·rw [List.length_map,hn,hla]
  exact ZaD h64
 ·obtain ⟨b,u,y1,y2⟩:=ads j hj
  rw [List.getD_eq_getElem?_getD (l:=ts),y1,List.getD_eq_getElem?_getD (l:=acc.toList),acc_at j b ⟨u,y1⟩]
  rfl
 ·obtain ⟨b,u,y1,y2⟩:=ads j hj
  rw [List.getD_eq_getElem?_getD (l:=ts),y1]
  exact y2
end
end L2
namespace L2.MP
open PySem PySem.Spec PySem.W PyProof PyProof.Rows
def skP (p:Sk):PV:=.tup (.str p.1::p.2.map PV.int)
def SM:PV->Option Sk
 | .tup (.str x::l)=>(nU l).map fun ns=>(x,ns)
 | _=>none
theorem mD {l:List PV}:∀ {ns:List Int},nU l=some ns->l=ns.map PV.int:=by
 induction l with
 | nil=>intro ns h;cases h;rfl
 | cons a l ih =>
  intro ns h
  have inv:∃ n,a=.int n:=by
   clear ih
   cases a <;> first | exact noS h | exact ⟨_,rfl⟩
  obtain ⟨n,rfl⟩:=inv
  have h:(nU l).map (n::·)=some ns:=h
  obtain ⟨q,e1,rfl⟩:=Zbs.mp h
  rw [ih e1];rfl
theorem PK {p:PV}{q:Sk} (h:SM p=some q):p=skP q:=by
 have inv:∃ x l,p=.tup (.str x::l):=by
  cases p <;> first | exact noS h | (rename_i l;cases l <;> first | exact noS h | (rename_i a l;cases a <;> first | exact noS h | exact ⟨_,_,rfl⟩))
 obtain ⟨x,l,rfl⟩:=inv
 have h:(nU l).map (fun ns=>(x,ns))=some q:=h
 obtain ⟨ns,e1,rfl⟩:=Zbs.mp h
 rw [mD e1];rfl
def wQ:List PV->Option (List Sk)
 | []=>some []
 | p::l=>match SM p,wQ l with
  | some q,some qs=>some (q::qs)
  | _,_=>none
theorem Dy:∀ {l:List PV}{ps:List Sk},wQ l=some ps->l=ps.map skP
 | [],ps,h=>by cases h;rfl
 | p::l,ps,h=>by
  unfold wQ at h
  split at h
  ·rename_i q qs h1 h2
   cases h
   rw [PK h1,Dy h2];rfl
  ·cases h
def jT (ps:List Sk):Bool:=match ps with
 | []=>true
 | p::l=>l.all fun q=>q.2.length == p.2.length
theorem wR {ps:List Sk} (h:jT ps=true) (nd:ps.Nodup):∃ m,qt ps m:=by
 cases ps with
 | nil=>exact ⟨0,nd,fun p hp=>(nomatch hp)⟩
 | cons p l =>
  refine ⟨p.2.length,nd,fun q hq=>?_⟩
  rcases Zaq.mp hq with e | e
  ·rw [e]
  ·exact beq_iff_eq.mp (ZaW.mp h q e)
def o9 (l:List PV):Option (Res PV):=match wQ l with
 | some ps=>if ps.Nodup∧jT ps=true∧ps.length < sizeLine then some (.ok (.lst ((gf ps).map fun j=>skP (ps.getD j default)))) else none
 | none=>none
def wU:PV->Option (Res PV)
 | .dt l=>match yd (l.map (·.1)) with
  | some ps=>if ps.Nodup∧jT ps=true∧ps.length < sizeLine then some (.ok (.lst ((gf ps).map fun j=>skP (ps.getD j default)))) else none
  | none=>none
 | _=>none
section
variable {K:PySem.W.Frag}{C:Cg}
theorem yX {F:Hp}:∀ {ns:List Int}{xs:List V},bC K F xs (ns.map PV.int)->xs=ns.map V.int
 | [],xs,r=>r.iH
 | n::ns,xs,r=>by
  obtain ⟨v,ys,rfl,r1,r2⟩:=bC.dz (show bC K F xs (PV.int n::ns.map PV.int) from r)
  cases Rep.aZ r1
  rw [yX r2];rfl
theorem SN {F:Hp}{v:V}{p:Sk} (r:Rep K F v (skP p)):∃ b,v=.ref b∧F b=some (skV p):=by
 obtain ⟨b,zs,rfl,hb,rr⟩:=Rep.qW (show Rep K F v (.tup (.str p.1::p.2.map PV.int)) from r)
 obtain ⟨v1,ys1,rfl,s1,s2⟩:=rr.dz
 cases Rep.bV s1
 rw [yX s2] at hb
 exact ⟨b,rfl,hb⟩
theorem Mp {F:Hp}{b:Addr}{p:Sk} (h:F b=some (skV p)):Rep K F (.ref b) (skP p):=by
 refine .tup h (by simp) fun j x q e1 e2=>?_
 cases j with
 | zero=>cases e1;cases e2;exact .str
 | succ j =>
  rw [List.getElem?_cons_succ,List.getElem?_map] at e1 e2
  cases ej:p.2[j]? with
  | none=>rw [ej] at e1;cases e1
  | some n=>rw [ej] at e1 e2;cases e1;cases e2;exact .int
theorem Dz {F:Hp}:∀ {ps:List Sk}{xs:List V},bC K F xs (ps.map skP)->∃ bs:List Addr,xs=bs.map V.ref∧bs.length=ps.length∧∀ (j:Nat) b p,bs[j]?=some b->ps[j]?=some p->F b=some (skV p)
 | [],xs,r=>⟨[],r.iH,rfl,fun j b p e=>by simp at e⟩
 | p::ps,xs,r=>by
  obtain ⟨v,ys,rfl,r1,r2⟩:=bC.dz (show bC K F xs (skP p::ps.map skP) from r)
  obtain ⟨bs,rfl,h2,h3⟩:=Dz r2
  obtain ⟨b,rfl,hb⟩:=SN r1
  refine ⟨b::bs,rfl,by simp [h2],fun j b' p' e2 e3=>?_⟩
  cases j with
  | zero=>cases e2;cases e3;exact hb
  | succ j=>exact h3 j b' p' (by simpa using e2) (by simpa using e3)
theorem Hz:R1O K C (aV K) (Hv K) o9:=by
 intro F H x a res Q s ha e P
 unfold o9 at e
 cases h:wQ a with
 | none=>rw [h] at e;cases e
 | some ps =>
  rw [h] at e
  have e:(if ps.Nodup∧jT ps=true∧ps.length < sizeLine then some (Res.ok (PV.lst ((gf ps).map fun j=>skP (ps.getD j default)))) else none)=some res:=e
  split at e
  ·rename_i hc
   cases e
   obtain ⟨m,ok⟩:=wR hc.2.1 hc.1
   obtain ⟨b,xs,rfl,h1,r1⟩:=ha
   rw [Dy h] at r1
   obtain ⟨bs,rfl,k1,k2⟩:=Dz r1
   refine ⟨b,bs,ps,m,rfl,h1,k1,fun j b p e1 e2=>s _ _ (k2 j b p e1 e2),ok,hc.2.2,fun l hl=>P l F _ (Up.FJ s hl) hl (s.free hl) ⟨_,aL,by simp,fun j x p e1 e2=>?_⟩⟩
   rw [List.getElem?_map] at e1 e2
   cases ej:(gf ps)[j]? with
   | none=>rw [ej] at e1;cases e1
   | some i =>
    rw [ej] at e1 e2
    cases e1
    cases e2
    have hi:=rO i (Zag ej)
    have g1:bs[i]?=some (bs.getD i 0):=by rw [List.getD_eq_getElem?_getD,List.getElem?_eq_getElem (by omega)];rfl
    have g2:ps[i]?=some (ps.getD i default):=by rw [List.getD_eq_getElem?_getD,List.getElem?_eq_getElem hi];rfl
    exact Mp (k2 i _ _ g1 g2)
  ·cases e
theorem Mq:R1O K C (aD K) Hy wU:=by
 intro F H x a res Q s ha e P
 match a,e with
 | .dt l,e =>
  obtain ⟨_,ad,rfl,xs,h1,h2,h3⟩:=ha
  replace e:(match yd (l.map (·.1)) with
   | some ps=>if ps.Nodup∧jT ps=true∧ps.length < sizeLine then some (Res.ok (PV.lst ((gf ps).map fun j=>skP (ps.getD j default)))) else none
   | none=>none)=some res:=e
  cases h:yd (l.map (·.1)) with
  | none=>rw [h] at e;cases e
  | some ps =>
   rw [h] at e
   have e:(if ps.Nodup∧jT ps=true∧ps.length < sizeLine then some (Res.ok (PV.lst ((gf ps).map fun j=>skP (ps.getD j default)))) else none)=some res:=e
   split at e
   ·rename_i hc
    cases e
    obtain ⟨m,ok⟩:=wR hc.2.1 hc.1
    refine ⟨ad,xs,ps,m,rfl,h1,by rw [h2];exact h,ok,hc.2.2,fun l' bs hl hb=>P l' _ _ (Up.tups s hl) hl ?_ ⟨_,aL,by simp,fun j x p e1 e2=>?_⟩⟩
    ·rw [fQ]
     ·exact s.free hl
     ·rintro (z | ⟨ys,z⟩)
      ·exact z
      ·rw [hl] at z;cases z
    ·rw [List.getElem?_map] at e1 e2
     cases ej:(gf ps)[j]? with
     | none=>rw [ej] at e1;cases e1
     | some i =>
      rw [ej] at e1 e2
      cases e1
      cases e2
      have:=hb i (Zag ej)
      exact Mp (by rw [gA (.inr ⟨_,this⟩)];exact this)
   ·cases e
end
end L2.MP
namespace L2
open PySem PySem.Spec PyProof PyProof.Rows
def Itk (a:Addr) (raw:Obj) (kvs:List (List Key×V)):It :=
 ⟨fun i H=>H a=some (.frz raw (.dT kvs))∧i < kvs.length,fun i H x H'=>H'=H∧∃ kv b,kvs[i]?=some kv∧x=.ref b∧H b=some (.tup (kv.1.map kV)),fun i H=>H a=some (.frz raw (.dT kvs))∧i=kvs.length⟩
theorem kt_at {H:Hp}{kvs:List (List Key×V)}{xs:List (List Key×Addr×Value)} (rel:Paired (fun (p:List Key×V) (q:List Key×Addr×Value)=>p.1=q.1∧H q.2.1=some (.tup (p.1.map kV))∧RelV p.2 q.2.2) kvs xs) :
  xs.length=kvs.length∧∀ (i:Nat) kv,kvs[i]?=some kv->∃ z,xs[i]?=some z∧kv.1=z.1∧H z.2.1=some (.tup (kv.1.map kV))∧RelV kv.2 z.2.2:=by
 induction rel with
 | nil=>exact ⟨rfl,fun i kv q=>by simp at q⟩
 | @cons p z ps zs hp _ ih =>
  refine ⟨by simp [ih.1],fun i kv q=>?_⟩
  cases i with
  | zero=>simp at q;subst q;exact ⟨z,rfl,hp⟩
  | succ i=>exact ih.2 i kv (by simpa using q)
theorem lw {P:Program}{w:World}{H:Hp}{h:Heap}{a:Addr}{raw:Obj}{kvs:List (List Key×V)} (ok:HOk P w H h) (e:H a=some (.frz raw (.dT kvs))) {es:Array DictEntry}{ep:Nat} (hd:raw.data=.dict es ep) :
  (a == sysModules)=false∧pH h a es ep∧es.size=kvs.length∧∀ (i:Nat) kv,kvs[i]?=some kv->∃ (b:Addr) (u:Value) (x:DictEntry),es[i]?=some x∧x.key=.ref b∧x.val=u∧H b=some (.tup (kv.1.map kV))∧RelV kv.2 u:=by
 obtain ⟨hr,_,hs,xs,rel,o,es',ep',h1,h2,h3,h4,h5⟩:=(show dG P w H h a (.frz raw (.dT kvs)) from ok a _ e)
 rw [hr] at h1
 cases h1
 rw [hd] at h3
 cases h3
 obtain ⟨ln,at_⟩:=kt_at rel
 refine ⟨hs,⟨raw,hr,h2,hd⟩,by rw [←ZaS,h4,List.length_map,ln],fun i kv q=>?_⟩
 obtain ⟨z,e1,e2⟩:=at_ i kv q
 refine ⟨z.2.1,z.2.2,entryOfKey (tupleKind (cR P w)) z,?_,rfl,rfl,e2.2.1,e2.2.2⟩
 rw [←Zax,h4,List.getElem?_map,e1];rfl
theorem HB {X:Cx}{H:Hp}{h:Heap}{a:Addr}{raw:Obj}{kvs:List (List Key×V)} (ok:HOk X.prog X.w H h) (e:H a=some (.frz raw (.dT kvs))):∃ es ep,raw.data=.dict es ep:=by
 obtain ⟨hr,_,hs,xs,rel,o,es',ep',h1,h2,h3,h4⟩:=(show dG X.prog X.w H h a (.frz raw (.dT kvs)) from ok a _ e)
 rw [hr] at h1
 cases h1
 exact ⟨_,_,h3⟩
theorem Gr {P:Program}{w:World}{K:PySem.W.Frag}{tg:Expr} (a it:Addr) (raw:Obj) (kvs:List (List Key×V)) {es:Array DictEntry}{ep:Nat} (hd:raw.data=.dict es ep) :
  Turn P w K tg (Itk a raw kvs) [it] it (fun i h=>h.IsKeyIter it a i kvs.length ep) where
 mem:=by simp
 obj:=fun i h st b hb=>by
  have e:b=it:=by simpa using hb
  subst e
  obtain ⟨o,e,c,d⟩:=st
  exact ⟨o,e,fun v z=>by rw [d] at z;cases z⟩
 keep:=fun i h h' st k=>st.at fun o q=>k it (by simp) o q
 item:=by
  intro X hP hw hK hc i pins s σ H E I hf st hg
  subst hP hw hK
  obtain ⟨e,hi⟩:=hg
  obtain ⟨f0,f1,f2,f3,f4,f5⟩:=hf it (by simp)
  obtain ⟨_,rd,hl,at_⟩:=lw I.hok e hd
  have hne:a≠it:=fun z=>by subst z;rw [e] at f0;cases f0
  have W:=t7 (prog:=X.prog) (w:=X.w) (A:=X.A) (I.ok.hd hc) it a hne es ep
  refine W.item i s _ _ (by lia) ⟨by rw [hl];exact st,rd⟩ fun v h' tk hv st' kk=>?_
  obtain ⟨x,hx,rfl⟩:=hv
  have I1:Inv X pins σ H { s with heap:=h',toks:=tk }:=I.turned (fun b o hb e=>kk b o (by simpa using hb) e) f0 f1 f3 f4 f5
  obtain ⟨o,eo,cc,dd'⟩:=id st'.1
  obtain ⟨p,hp⟩:∃ p,kvs[i]?=some p:=⟨_,List.getElem?_eq_getElem hi⟩
  obtain ⟨b,u,y,y1,y2,y3,y4,y5⟩:=at_ i p hp
  rw [hx] at y1
  cases y1
  refine ⟨_,rfl,BR (s:={ s with heap:=h',toks:=tk }) eo cc dd' (by decide) ⟨.ref b,H,I1,y2,⟨rfl,p,b,hp,rfl,y4⟩,by rw [←hl];exact st'.1,fun b hb=>(hf b hb).1⟩⟩
 done:=by
  intro X hP hw hK hc i pins s σ H E I hf st hg
  subst hP hw hK
  obtain ⟨e,hi⟩:=hg
  obtain ⟨f0,f1,f2,f3,f4,f5⟩:=hf it (by simp)
  obtain ⟨_,rd,hl,at_⟩:=lw I.hok e hd
  have hne:a≠it:=fun z=>by subst z;rw [e] at f0;cases f0
  have W:=t7 (prog:=X.prog) (w:=X.w) (A:=X.A) (I.ok.hd hc) it a hne es ep
  subst hi
  refine W.done s _ _ ⟨by rw [hl];exact st,rd⟩ fun h' tk kk=>⟨rfl,I.turned (fun b o hb e=>kk b o (by simpa using hb) e) f0 f1 f3 f4 f5⟩
 self:=fun A i s Q E st h=>wpAny_pyIter_keyiter st h
def Mr (tl:TE):TI:=fun σ H R=>tl σ H fun x H1=>∃ a raw kvs,x=.ref a∧H1 a=some (.frz raw (.dT kvs))∧R (Itk a raw kvs) H1
theorem wV {X:Cx}{tg l:Expr}{tl:TE} (hl:PE X l tl):PI X tg l (Mr tl):=by
 intro pins s σ H R I h
 refine thn (hl pins s σ H _ I h) ?_
 rintro v s1 ⟨x,H1,I1,r1,q1⟩
 obtain ⟨a,raw,kvs,e,ha,q⟩:=q1
 subst e
 cases r1
 obtain ⟨es,ep,hd⟩:=HB I1.hok ha
 obtain ⟨hs,rd,hl,at_⟩:=lw I1.hok ha hd
 refine De hs rd ?_
 refine ⟨s1.heap.objs.size,[s1.heap.objs.size],_,_,H1,rfl,I1.kept (t':=s1.toks) fun b o e=>Zac _ e,Gr a _ raw kvs hd,⟨_,Zal _ rfl,rfl,by rw [hl];rfl⟩,fun b hb=>?_,q⟩
 have e:b=s1.heap.objs.size:=by simpa using hb
 subst e
 exact I1.BP (Zaf _) (I1.hok.fresh (Zaf _))
namespace MP
def pO (k:List Key):PV:=.tup (k.map Uy)
def qu (l:List (List Key×PV)):List PV:=l.map fun kv=>pO kv.1
def rQ:PV->Option (Res (List PV))
 | .dt l=>some (.ok (qu l))
 | _=>none
section
variable {K:PySem.W.Frag}{C:Cg}
theorem Up.QX {F H:Hp} (s:aR F H):Up F H (uE F H fun _=>False) H:=by
 refine ⟨jr s,aR.refl _,fun b o q=>?_,rG s⟩
 by_cases hb:False∨∃ ys,H b=some (.tup ys)
 ·rw [gA hb] at q
  obtain ⟨ys,z⟩:=hb.resolve_left id
  rw [z] at q;cases q
  exact .inr (.inr ⟨ys,rfl⟩)
 ·rw [fQ hb] at q
  exact .inl q
theorem DG {F H:Hp}{b:Addr}{k:List Key} (h:H b=some (.tup (k.map kV))):Rep K (uE F H fun _=>False) (.ref b) (pO k):=by
 refine .tup (by rw [gA (.inr ⟨_,h⟩)];exact h) (by simp) fun n y r c1 c2=>?_
 rw [List.getElem?_map] at c1 c2
 cases e:k[n]? with
 | none=>rw [e] at c1;cases c1
 | some z=>rw [e] at c1 c2;cases c1;cases c2;exact O3
theorem ue (i:Nat):O2 K C i (Mr (lO i)) (m1 rQ (mV i)):=by
 intro F H σ ρ R' r R hh e P
 rcases bQ e with ⟨z,e1,rfl⟩ | ⟨p,e1,hk⟩
 ·unfold mV at e1
  split at e1
  ·cases e1
  ·cases e1
 obtain ⟨a,raw,u,ev,fa,hu⟩:=hh
 have hp:ρ[i]?=some (some (.sh p)):=by
  unfold mV at e1
  split at e1
  ·rename_i q hq;cases e1;exact hq
  ·cases e1
 match p,hk with
 | .dt l,hk =>
  cases hk
  obtain ⟨v,ev',rv⟩:=R.sh i _ hp
  rw [ev] at ev'
  cases ev'
  cases rv with
  | @dt _ xs _ h hl hr =>
   have hx:u=.dT xs:=by
    rcases h with h | ⟨o,h⟩
    ·rw [fa] at h;cases h
    ·rw [fa] at h;cases h;rfl
   subst hx
   have len:xs.length=l.length:=by have:=congrArg List.length hl;simpa using this
   refine ⟨_,ev,a,raw,xs,rfl,R.rb.sub _ _ fa,P _ F H (Up.refl R.rb.sub) ⟨fun F' H' s s'=>?_,fun j F' H' hj s s'=>?_,fun j F' H' x H'' hj s s' y=>?_⟩⟩
   ·exact ⟨s' _ _ (s _ _ fa),by unfold qu;rw [List.length_map];exact len.symm⟩
   ·refine ⟨s' _ _ (s _ _ fa),?_⟩
    unfold qu at hj
    rw [List.length_map] at hj
    lia
   ·obtain ⟨rfl,kv,b,hkv,rfl,hb⟩:=y
    have hl2:(l.map (·.1))[j]?=some kv.1:=by rw [←hl,List.getElem?_map,hkv];rfl
    refine ⟨uE F' H'' fun _=>False,pO kv.1,Up.QX s',?_,DG hb⟩
    unfold qu
    rw [List.getElem?_map] at hl2 ⊢
    cases q:l[j]? with
    | none=>rw [q] at hl2;cases hl2
    | some w =>
     rw [q] at hl2
     show some (pO w.1)=some (pO kv.1)
     rw [show w.1=kv.1 from Zaa hl2]
end
end MP
section
variable {prog:Program}{w:World}{A:Around}{E:Value->Shared->Prop}{s:Shared}{d it:Addr}{es:Array DictEntry}{ep i:Nat}
theorem JB (hd:(d == sysModules)=false):MeetsIn prog w (Builtin.«dict.items» ⟨[.ref d],[]⟩) (fun _ R s=>s.TypeIs (.ref d) "dict"∧R (.ok (.ret (.ref s.heap.objs.size))) { s with heap:=s.heap.push { cls:=.type "dict_items",data:=.fields #[.ref d] } }) :=
 .of_wp fun A R s ⟨ty,h⟩=>by
  unfold Builtin.«dict.items»
  refine wpAny_bind ?_
  unfold Builtin.Dict.noArgs
  refine wpAny_bind (wpAny_notOrdered_dict ty (wpAny_pure ?_))
  show wpAny _ _ (Builtin.Dict.showsAll d >>= _) _ _ s
  unfold Builtin.Dict.showsAll
  rw [if_neg (by rw [hd];exact Zbd)]
  exact wpAny_bind (wpAny_pure (wpAny_bind (wpAny_newObj_type (wpAny_pure ⟨_,rfl,h⟩))))
theorem JC {v:Addr}{Q:Value->Shared->Prop} (hv:s.heap.IsItemsView v d) (r:pH s.heap d es ep)
  (q:Q (.ref s.heap.objs.size) { s with heap:=s.heap.push { cls:=.type "dict_itemiterator",data:=.fields #[.none,.bool false,.ref d,.int 0 0,.int es.size 0,.int ep 0,.none,.none] } }):wpAny (model prog w) A (pyIter (.ref v)) Q E s:=by
 obtain ⟨ov,v1,v2,v3⟩:=id hv
 obtain ⟨o,e1,e2,e3⟩:=id r
 refine wpAny_pyIter_slot hv.typeIs PySem.F.slot_dict_items_iter (wpAny_call_entry PySem.F.slot_dict_items_iter hv.typeIs PySem.F.entry_dict_items_iter ?_ (PySem.F.args_dict_items_iter_1 _))
 unfold Builtin.«dict_items.__iter__»
 refine wpAny_bind (wpAny_pure (wpAny_bind ?_))
 unfold Builtin.Dict_items.dictOf
 refine wpAny_bind (wpAny_field v1 v3 (x:=.ref d) rfl (wpAny_pure (wpAny_bind ?_)))
 unfold Builtin.Dict_items.newIterator
 refine wpAny_bind (wpAny_dictEntries e1 e3 (wpAny_bind (wpAny_dictEpoch e1 e3 ?_)))
 simp only [show Builtin.Dict_items.ownsTuple "dict_itemiterator"=true by decide,if_true]
 refine wpAny_newObj_type (wpAny_pure ⟨_,rfl,"dict_itemiterator",_,⟨_,Zal _ rfl,rfl⟩,ZaV.lookup,?_⟩)
  (by simp only [sizeOk,Builtin.Dict_items.ownedTupleFields,List.size_toArray,List.length_append,Zav,List.length_nil,sizeLine_eq];omega)
 simpa [rawInt,Builtin.Dict_items.ownedTupleFields] using q
theorem JD {x:DictEntry}{ok ov:Value}{Q:Option Value->Shared->Prop} (hit:IsItemIter s.heap it d i es.size ep ok ov) (r:pH s.heap d es ep) (hx:es[i]?=some x)
  (q:∀ h',IsItemIterOut h' it d (i+1) es.size ep x.key x.val s.heap.objs.size->h'.get? s.heap.objs.size=some { cls:=.type "tuple",data:=.seq #[x.key,x.val] } ->
   (∀ b o,b≠it->s.heap.get? b=some o->h'.get? b=some o)->Q (some (.ref s.heap.objs.size)) { s with heap:=h' }):wpAny (model prog w) A (pyNext (.ref it)) Q E s:=by
 obtain ⟨hp,g,dr,tk,os⟩:=s
 obtain ⟨o,e1,e2,e3⟩:=id r
 have lt:i < es.size:=by
  rcases Nat.lt_or_ge i es.size with z | z
  ·exact z
  ·rw [ZbB z] at hx;cases hx
 have ex:es[i]=x:=by rw [Zau lt] at hx;exact Zaa hx
 have hT:Shared.TypeIs ⟨hp,g,dr,tk,os⟩ (.ref it) "dict_itemiterator":=⟨_,hit,rfl⟩
 unfold pyNext
 refine wpAny_bind (wpAny_attempt (wpAny_callSpecial?_slot (name:=Str.ofString "__next__") hT ZaV (wpAny_call_entry ZaV hT PySem.F.entry_dict_itemiterator_next ?_ (PySem.F.args_dict_itemiterator_next_1 _))))
 refine wpAny_bind (wpAny_pure (wpAny_bind (wpAny_bind ?_)))
 first
  | refine wpAny_bind (wpAny_typeNameOfWhole_itemiter hT (wpAny_pure ?_))
  | refine wpAny_bind (wpAny_typeNameOf_itemiter hT (wpAny_pure ?_))
 refine wpAny_bind (wpAny_fieldsOf hit rfl ?_)
 simp only [show Builtin.Dict_items.ownsTuple "dict_itemiterator"=true by decide,if_true]
 show wpAny _ _ (if (Value.ref d == .none)=true then _ else _) _ _ _
 rw [if_neg (show ¬(Value.ref d == .none)=true from Zbd)]
 refine wpAny_bind (wpAny_pure (wpAny_bind (wpAny_dictEntries e1 e3 ?_)))
 rw [if_neg (by simp)]
 refine wpAny_bind (wpAny_pure (wpAny_bind (wpAny_dictEpoch e1 e3 ?_)))
 rw [if_neg (by simp)]
 refine wpAny_pure ?_
 simp only [show ¬((i:Int) < 0) by omega,if_false,ZaG,Zau lt]
 refine wpAny_bind ?_
 first
  | refine wpAny_bind (wpAny_typeNameOfWhole_itemiter hT (wpAny_pure ?_))
  | refine wpAny_bind (wpAny_typeNameOf_itemiter hT (wpAny_pure ?_))
 refine wpAny_bind (wpAny_isOneOf_itemiter hT ?_)
 show wpAny _ _ (setField (.ref it) 3 (rawInt ((i:Int)+1)) >>= _) _ _ ⟨hp,g,dr,tk,os⟩
 refine wpAny_bind (wpAny_setField_rec hit (by simp) fun h1 f1 s1=>?_)
 replace s1:Heap.SameBut it hp h1:=s1
 replace f1:IsItemIter h1 it d (i+1) es.size ep ok ov:=by
  have e:((i+1:Nat):Int)=(i:Int)+1:=by omega
  unfold IsItemIter;rw [e];simpa [rawInt] using f1
 have hT1:Shared.TypeIs ⟨h1,g,dr,tk,os⟩ (.ref it) "dict_itemiterator":=⟨_,f1,rfl⟩
 refine wpAny_bind (wpAny_holding (wpAny_bind (wpAny_isOneOf_itemiter hT1 (wpAny_bind (wpAny_isOneOf_itemiter hT1 ?_)))))
 show wpAny _ _ (Builtin.Dict_items.pairFromOwner (.ref it) 6 es[i].key es[i].val) _ _ ⟨h1,g,dr,tk,os⟩
 rw [ex]
 unfold Builtin.Dict_items.pairFromOwner
 refine wpAny_bind (wpAny_newTuple ?_)
 have z1:h1.objs.size=hp.objs.size:=s1.1
 have il:it < hp.objs.size:=Zak hit
 have f2:IsItemIter (h1.push { cls:=.type "tuple",data:=.seq #[x.key,x.val] }) it d (i+1) es.size ep ok ov:=Zac _ f1
 generalize hh:h1.push { cls:=.type "tuple",data:=.seq #[x.key,x.val] }=h2 at f2
 have t2:h2.get? hp.objs.size=some { cls:=.type "tuple",data:=.seq #[x.key,x.val] }:=by rw [←hh,←z1];exact Zal _ rfl
 have k2:∀ b o,b≠it->hp.get? b=some o->h2.get? b=some o:=fun b o hb e=>by rw [←hh];exact Zac _ (s1.extBut b o hb e)
 show wpAny _ _ (Builtin.Dict_items.ownedTupleIsFree (.ref it) >>= _) _ _ ⟨h2,g,dr,tk,os⟩
 rw [z1]
 clear hh f1 s1 hT1 z1 h1
 refine wpAny_bind ?_
 unfold Builtin.Dict_items.ownedTupleIsFree
 refine wpAny_bind (wpAny_field f2 rfl (x:=.none) rfl (wpAny_pure ?_))
 simp only [if_true]
 refine wpAny_bind (wpAny_field f2 rfl (x:=ok) rfl (wpAny_bind (wpAny_field f2 rfl (x:=ov) rfl ?_)))
 refine wpAny_bind (wpAny_setField_rec f2 (by simp) fun h3 f3 s3=>?_)
 replace s3:Heap.SameBut it h2 h3:=s3
 replace f3:IsItemIter h3 it d (i+1) es.size ep x.key ov:=f3
 refine wpAny_bind (wpAny_setField_rec f3 (by simp) fun h4 f4 s4=>?_)
 replace s4:Heap.SameBut it h3 h4:=s4
 replace f4:IsItemIter h4 it d (i+1) es.size ep x.key x.val:=f4
 refine wpAny_bind (wpAny_setField_rec f4 (by simp) fun h5 f5 s5=>?_)
 replace s5:Heap.SameBut it h4 h5:=s5
 replace f5:IsItemIterOut h5 it d (i+1) es.size ep x.key x.val hp.objs.size:=f5
 refine wpAny_bind (wpAny_setField_rec f5 (by simp) fun h6 f6 s6=>?_)
 replace s6:Heap.SameBut it h5 h6:=s6
 replace f6:IsItemIterOut h6 it d (i+1) es.size ep x.key x.val hp.objs.size:=f6
 have old:∀ b o,b≠it->h2.get? b=some o->h6.get? b=some o:=fun b o hb e=>s6.extBut b o hb (s5.extBut b o hb (s4.extBut b o hb (s3.extBut b o hb e)))
 exact wpAny_bind (wpAny_letGo (wpAny_pure (wpAny_pure ⟨_,rfl,wpAny_pure (q h6 f6 (old _ _ (Nat.ne_of_gt il) t2) fun b o hb e=>old b o hb (k2 b o hb e))⟩)))
theorem Ms {ok ov:Value}{Q:Option Value->Shared->Prop} (hh:A.handled=none) (hit:IsItemIter s.heap it d es.size es.size ep ok ov) (r:pH s.heap d es ep)
  (q:∀ h',Heap.ExtBut it s.heap h'->Q none { s with heap:=h' }):wpAny (model prog w) A (pyNext (.ref it)) Q E s:=by
 obtain ⟨o,e1,e2,e3⟩:=id r
 have hT:s.TypeIs (.ref it) "dict_itemiterator":=⟨_,hit,rfl⟩
 unfold pyNext
 refine wpAny_bind (wpAny_attempt (wpAny_callSpecial?_slot (name:=Str.ofString "__next__") hT ZaV (wpAny_call_entry ZaV hT PySem.F.entry_dict_itemiterator_next ?_ (PySem.F.args_dict_itemiterator_next_1 _))))
 refine wpAny_bind (wpAny_pure (wpAny_bind (wpAny_bind ?_)))
 first
  | refine wpAny_bind (wpAny_typeNameOfWhole_itemiter hT (wpAny_pure ?_))
  | refine wpAny_bind (wpAny_typeNameOf_itemiter hT (wpAny_pure ?_))
 refine wpAny_bind (wpAny_fieldsOf hit rfl ?_)
 simp only [show Builtin.Dict_items.ownsTuple "dict_itemiterator"=true by decide,if_true]
 show wpAny _ _ (if (Value.ref d == .none)=true then _ else _) _ _ _
 rw [if_neg (show ¬(Value.ref d == .none)=true from Zbd)]
 refine wpAny_bind (wpAny_pure (wpAny_bind (wpAny_dictEntries e1 e3 ?_)))
 rw [if_neg (by simp)]
 refine wpAny_bind (wpAny_pure (wpAny_bind (wpAny_dictEpoch e1 e3 ?_)))
 rw [if_neg (by simp)]
 refine wpAny_pure ?_
 simp only [show ¬((es.size:Int) < 0) by omega,if_false,ZaG,ZbB (Zaf _)]
 refine wpAny_bind ?_
 first
  | refine wpAny_bind (wpAny_typeNameOfWhole_itemiter hT (wpAny_pure ?_))
  | refine wpAny_bind (wpAny_typeNameOf_itemiter hT (wpAny_pure ?_))
 show wpAny _ _ (setField (.ref it) 2 .none >>= _) _ _ s
 refine wpAny_bind (wpAny_setField hit rfl (by simp) ?_)
 show wpAny _ _ (newExc (.type "StopIteration") [] >>= _) _ _ _
 refine wpAny_bind ?_
 simp only [newExc,newTuple]
 refine wpAny_bind (wpAny_newObj_type ?_ (by size_fits))
 refine wpAny_bind (m:=firstArgMember _ _) (wpAny_of_eq (a:=Value.none) (by first | rfl | (simp only [firstArgMember];rfl)) (wpAny_newObj_type ?_ (by size_fits)))
 simp only [raiseNew]
 refine wpAny_bind (wpAny_handled ?_)
 rw [show A.in1.handled=none from hh]
 refine wpAny_bind (wpAny_pure (wpAny_throw ?_))
 refine wpAny_bind (wpAny_isInstance (T:="StopIteration") (b:=true) ⟨_,Zal _ rfl,rfl⟩ isSubtype_stop ?_)
 exact wpAny_pure (q _ (((Zbr ..).extBut.push _).push _))
end
def U0 (a:Addr) (raw:Obj) (kvs:List (List Key×V)):It :=
 ⟨fun i H=>H a=some (.frz raw (.dT kvs))∧i < kvs.length,fun i H x H'=>∃ p kv b,H p=none∧kvs[i]?=some kv∧H b=some (.tup (kv.1.map kV))∧x=.ref p∧H'=upd H p (.tup [.ref b,kv.2]),fun i H=>H a=some (.frz raw (.dT kvs))∧i=kvs.length⟩
theorem DK {P:Program}{w:World}{K:PySem.W.Frag}{elts:List Expr}{x1:Nat}{pos:Pos} (a it:Addr) (raw:Obj) (kvs:List (List Key×V)) {es:Array DictEntry}{ep:Nat} (hd:raw.data=.dict es ep) :
  Turn P w K (.Tuple elts x1 pos) (U0 a raw kvs) [it] it (fun i h=>∃ ok ov,IsItemIter h it a i kvs.length ep ok ov) where
 mem:=by simp
 obj:=fun i h st b hb=>by
  have e:b=it:=by simpa using hb
  subst e
  obtain ⟨ok,ov,e⟩:=st
  exact ⟨_,e,fun v z=>by cases z⟩
 keep:=fun i h h' st k=>by
  obtain ⟨ok,ov,e⟩:=st
  exact ⟨ok,ov,k it (by simp) _ e⟩
 item:=by
  intro X hP hw hK hc i pins s σ H E I hf st hg
  subst hP hw hK
  obtain ⟨e,hi⟩:=hg
  obtain ⟨ok,ov,ei⟩:=st
  obtain ⟨f0,f1,f2,f3,f4,f5⟩:=hf it (by simp)
  obtain ⟨_,rd,hl,at_⟩:=lw I.hok e hd
  obtain ⟨p,hp⟩:∃ p,kvs[i]?=some p:=⟨_,List.getElem?_eq_getElem hi⟩
  obtain ⟨b,u,y,y1,y2,y3,y4,y5⟩:=at_ i p hp
  refine JD (by rw [hl];exact ei) rd y1 fun h3 e3 n3 k3=>?_
  refine ⟨_,rfl,wpAny_letOwnedTupleGo_items e3 fun h4 e4 s4=>?_⟩
  have ilt:it < s.heap.objs.size:=Zak ei
  have hT2:IsPair h4 s.heap.objs.size (.ref b) u:=by rw [←y2,←y3];exact (s4.2 _ (Nat.ne_of_gt ilt)).trans n3
  refine ⟨.ref s.heap.objs.size,upd H s.heap.objs.size (.tup [.ref b,p.2]),I.tV (ch:=[it]) (fun b' o hb q=>?_) hf (Zaf _) ⟨by show 2≤sizeLine;decide,[.ref b,u],.cons rfl (.cons y5 .nil),fY.mk hT2⟩,rfl,⟨_,p,b,I.hok.fresh (Zaf _),hp,y4,rfl,rfl⟩,⟨y.key,y.val,by rw [←hl];exact e4⟩,fun b' hb=>?_⟩
  ·have q1:b'≠it:=fun e=>hb (by simp [e])
   exact (s4.2 b' q1).trans (k3 b' o q1 q)
  ·have e:b'=it:=by simpa using hb
   subst e
   rw [aG (Zaw ilt)]
   exact f0
 done:=by
  intro X hP hw hK hc i pins s σ H E I hf st hg
  subst hP hw hK
  obtain ⟨e,hi⟩:=hg
  obtain ⟨ok,ov,ei⟩:=st
  obtain ⟨_,rd,hl,at_⟩:=lw I.hok e hd
  subst hi
  refine Ms (I.ok.hd hc) (by rw [hl];exact ei) rd fun h' k=>⟨rfl,?_⟩
  exact I.qP (t':=s.toks) (ch:=[it]) (fun b' o hb q=>k b' o (fun e=>hb (by simp [e])) q) hf
 self:=fun A i s Q E st h=>by
  obtain ⟨ok,ov,e⟩:=st
  exact PySem.W.kcp_self e h
def HD (tl:TE):TI:=fun σ H R=>tl σ H fun x H1=>∃ a raw kvs,x=.ref a∧H1 a=some (.frz raw (.dT kvs))∧R (U0 a raw kvs) H1
theorem yZ {X:Cx}{o:Expr}{apos cpos tpos:Pos}{elts:List Expr}{x1:Nat}{tl:TE} (hl:PE X o tl) (hbase:attributeBase o "items" X.env (eval o X.env)=eval o X.env:=by rfl) (hline:(apos.endLine == cpos.line)=true:=by rfl) :
  PI X (.Tuple elts x1 tpos) (.Call (.Attribute o "items" apos) [] [] cpos) (HD tl):=by
 intro pins s σ H R I h
 refine wpAny_Call_method (T:="dict") (id:="dict.items") hbase rfl hline PySem.F.plainAttrs_dict PySem.F.slot_dict_items PySem.F.type_dict_items (thn (hl pins s σ H _ I h) ?_)
 rintro u s1 ⟨x,H1,I1,rx,q1⟩
 obtain ⟨a,raw,kvs,e,ha,q⟩:=q1
 subst e
 obtain rfl:u=Value.ref a:=rx
 obtain ⟨t1,t2,_⟩:=Fy I1 (.inr ⟨kvs,.inr ⟨raw,ha⟩⟩)
 refine ⟨t1,t2,?_⟩
 obtain ⟨es,ep,hd⟩:=HB I1.hok ha
 obtain ⟨hs,rd,hl,at_⟩:=lw I1.hok ha hd
 show wpAny _ _ (callWith cpos (.builtin "dict.items") [.ref a] [] []) _ _ s1
 refine method_meetsIn PySem.F.slot_dict_items PySem.F.entry_dict_items rfl (PySem.evalArgs_none ⟨rfl,t1,PySem.F.args_dict_items_1 _,_,JB hs,t1,?_⟩)
 have hsz:(s1.heap.push { cls:=.type "dict_items",data:=.fields #[.ref a] }).objs.size=s1.heap.objs.size+1:=Heap.size_push ..
 refine JC (d:=a) (es:=es) (ep:=ep) ⟨_,Zal _ rfl,rfl,rfl⟩ (rd.step fun o e=>Zac _ e) ?_
 refine ⟨(s1.heap.push { cls:=.type "dict_items",data:=.fields #[.ref a] }).objs.size,[(s1.heap.push { cls:=.type "dict_items",data:=.fields #[.ref a] }).objs.size],_,_,H1,rfl,I1.kept (t':=s1.toks) fun b o e=>Zac _ (Zac _ e),DK a _ raw kvs hd,⟨.none,.none,?_⟩,fun b hb=>?_,q⟩
 ·rw [←hl]
  exact Zal _ rfl
 ·have e:b=s1.heap.objs.size+1:=by simpa [hsz] using hb
  subst e
  exact I1.BP (Nat.le_succ _) (I1.hok.fresh (Nat.le_succ _))
namespace MP
def mF (l:List (List Key×PV)):List PV:=l.map fun kv=>.tup [pO kv.1,kv.2]
def rR:PV->Option (Res (List PV))
 | .dt l=>some (.ok (mF l))
 | _=>none
section
variable {K:PySem.W.Frag}{C:Cg}
theorem wW (i:Nat):O2 K C i (HD (lO i)) (m1 rR (mV i)):=by
 intro F H σ ρ R' r R hh e P
 rcases bQ e with ⟨z,e1,rfl⟩ | ⟨p,e1,hk⟩
 ·unfold mV at e1
  split at e1
  ·cases e1
  ·cases e1
 obtain ⟨a,raw,u,ev,fa,hu⟩:=hh
 have hp:ρ[i]?=some (some (.sh p)):=by
  unfold mV at e1
  split at e1
  ·rename_i q hq;cases e1;exact hq
  ·cases e1
 match p,hk with
 | .dt l,hk =>
  cases hk
  obtain ⟨v,ev',rv⟩:=R.sh i _ hp
  rw [ev] at ev'
  cases ev'
  cases rv with
  | @dt _ xs _ h hl hr =>
   have hx:u=.dT xs:=by
    rcases h with h | ⟨o,h⟩
    ·rw [fa] at h;cases h
    ·rw [fa] at h;cases h;rfl
   subst hx
   have len:xs.length=l.length:=by have:=congrArg List.length hl;simpa using this
   refine ⟨_,ev,a,raw,xs,rfl,R.rb.sub _ _ fa,P _ F H (Up.refl R.rb.sub) ⟨fun F' H' s s'=>?_,fun j F' H' hj s s'=>?_,fun j F' H' x H'' hj s s' y=>?_⟩⟩
   ·exact ⟨s' _ _ (s _ _ fa),by unfold mF;rw [List.length_map];exact len.symm⟩
   ·refine ⟨s' _ _ (s _ _ fa),?_⟩
    unfold mF at hj
    rw [List.length_map] at hj
    omega
   ·obtain ⟨p,kv,b,hp,hkv,hb,rfl,rfl⟩:=y
    have hl2:(l.map (·.1))[j]?=some kv.1:=by rw [←hl,List.getElem?_map,hkv];rfl
    rw [List.getElem?_map] at hl2
    cases q:l[j]? with
    | none=>rw [q] at hl2;cases hl2
    | some w =>
     rw [q] at hl2
     have ew:w.1=kv.1:=Zaa hl2
     have u0:=Up.QX s'
     have un:=Up.new (o:=.tup [.ref b,kv.2]) u0.fh hp
     refine ⟨_,.tup [pO w.1,w.2],u0.trans un,?_,.tup aL rfl fun n x p' hx hp'=>?_⟩
     ·unfold mF
      rw [List.getElem?_map,q]
      rfl
     ·match n with
      | 0=>simp at hx hp';subst hx hp';rw [ew];exact (DG hb).up un.ff
      | 1=>simp at hx hp';subst hx hp';exact (hr j _ _ hkv q).up (s.trans (u0.ff.trans un.ff))
      | n+2=>simp at hx
end
end MP
section
variable {prog:Program}{w:World}{A:Around}{E:Value->Shared->Prop}
theorem za (hh:A.handled=none) {I ax:Addr}{items:Array Value} (hne:ax≠I):∀ (n i:Nat) (s:Shared) (Q:List Value->Shared->Prop),s.heap.IsListIter I ax i->s.heap.IsList ax items->i+n≤items.size ->
  (∀ h' tk,h'.IsListIter I ax (i+n)->h'.IsList ax items->(∀ b o,b≠I->s.heap.get? b=some o->h'.get? b=some o)->Q ((items.toList.drop i).take n) { s with heap:=h',toks:=tk })->wpAny (model prog w) A (draw (.ref I) n) Q E s
 | 0,i,s,Q,hit,hl,_,hQ=>by
  show wpAny _ _ (pure []) Q E s
  exact wpAny_pure (by simpa using hQ s.heap s.toks hit hl fun _ _ _ e=>e)
 | n+1,i,s,Q,hit,hl,hle,hQ=>by
  have hlt:i < items.size:=by lia
  have W:=Walks.list (prog:=prog) (w:=w) (A:=A) hh I ax hne items
  show wpAny _ _ (pyNext (.ref I) >>= _) Q E s
  refine wpAny_bind (W.item i s _ _ hlt ⟨hit,hl⟩ fun v h1 tk hv st k1=>?_)
  have ev:items[i]=v:=by rw [Zau hlt] at hv;exact Zaa hv
  refine wpAny_bind (wpAny_holding (za hh hne n (i+1) { s with heap:=h1,toks:=tk } _ st.1 st.2 (by lia) fun h2 tk2 a1 a2 a3=>wpAny_pure ?_))
  have hd:items.toList.drop i=items[i]::items.toList.drop (i+1):=by simp [ZaI,hlt]
  have:=hQ h2 tk2 (by rw [show i+(n+1)=i+1+n by lia];exact a1) a2 fun b o hb e=>a3 b o hb (k1 b o (by simpa using hb) e)
  rw [hd,List.take_succ_cons,ev] at this
  exact this
theorem DN {s:Shared}{ax:Addr}{items:Array Value}{targets:List (Bool×(Value->Sem Unit))}{Q:Unit->Shared->Prop} (hh:A.handled=none) (hl:s.heap.IsList ax items) (hn:targets.length=items.size) (hstar:targets.findIdx? (·.1)=none)
  (h:∀ h' tk,(∀ b o,s.heap.get? b=some o->h'.get? b=some o)->wpAny (model prog w) A (assignInOrder (targets.map (·.2)) items.toList) Q E { s with heap:=h',toks:=tk }):wpAny (model prog w) A (unpack (.ref ax) targets) Q E s:=by
 have hlt:ax≠s.heap.objs.size:=by obtain ⟨o,ho,_⟩:=id hl;exact Zaw (Zak ho)
 unfold unpack
 rw [hn,hstar]
 refine wpAny_bind (wpAny_holding ?_)
 unfold unpackItems
 refine wpAny_bind ?_
 unfold notIterableAtAll
 refine wpAny_bind (wpAny_specialOf hl.typeIs PySem.F.slot_list_iter.lookup (wpAny_pure ?_))
 simp only [Za0,if_false]
 refine wpAny_bind (wpAny_holding (wpAny_pyIter_list hl ?_))
 refine wpAny_bind (wpAny_holding (za hh hlt items.size 0 _ _ ⟨_,Zal _ rfl,rfl,rfl⟩ (hl.push _) (by omega) fun h1 tk i1 l1 k1=>?_))
 have hall:List.take items.size (List.drop 0 items.toList)=items.toList:=by rw [Zba];exact ZaL (by simp)
 rw [hall,if_neg (by simp)]
 have W:=Walks.list (prog:=prog) (w:=w) (A:=A) hh s.heap.objs.size ax hlt items
 refine wpAny_bind (wpAny_holding (W.done { s with heap:=h1,toks:=tk } _ _ ⟨by rw [Nat.zero_add] at i1;exact i1,l1⟩ fun h2 tk2 k2=>?_))
 simp only [Option.isSome_none,Za0,if_false]
 refine wpAny_pure (h h2 tk2 fun b o e=>?_)
 have hb:b≠s.heap.objs.size:=Zaw (Zak e)
 exact k2 b o (by simpa using hb) (k1 b o hb (Zac _ e))
end
section
variable {X:Cx}{pos:Pos}
def U3 (K:PySem.W.Frag) (n:Nat) (t:TGs):TG:=fun v σ H Q=>∃ a xs,v=.ref a∧SqL K H a xs∧xs.length=n∧t xs σ H Q
theorem SQ {es:List Expr}{k:Nat}{t:TGs}{n:Nat} (hc:X.calm=true) (h:PGs X es t)
  (hn:(assignEach es X.env).length=n:=by rfl) (hst:(assignEach es X.env).findIdx? (·.1)=none:=by rfl):PG X (.Tuple es k pos) (U3 X.K n t):=by
 intro pins s σ H v u Q I r hw
 obtain ⟨a,xs,e1,hq,hl,hw⟩:=hw
 subst e1
 cases r
 obtain ⟨its,rv,pl,hz⟩:=I.list hq
 rw [arm_assign_Tuple]
 refine wpAny_bind (wpAny_standAt (DN (I.ok.hd hc) pl.isList (by simp [hn,←hl,rv.length]) hst fun h' tk hx=>?_))
 have I1:Inv X pins σ H { s with heap:=h',toks:=tk }:=I.kept hx
 exact h pins _ σ H xs _ Q I1 (by simpa using rv) hw
end
namespace MP
section
variable {K:PySem.W.Frag}{C:Cg}
def gL (n:Nat) (t:List PV->Rho->Option Rho):PV->Rho->Option Rho:=fun p ρ=>match p with
 | .lst l=>if l.length=n then t l ρ else none
 | _=>none
theorem SX {n:Nat}{gs:TGs}{tgs:List PV->Rho->Option Rho} (hs:MGs K C gs tgs):MG K C (U3 K n gs) (gL n tgs):=fun F H σ ρ v p ρ' Q R r e k=>by
 unfold gL at e
 split at e
 ·rename_i l
  split at e
  ·rename_i hn
   obtain ⟨a,xs,rfl,hq,rr⟩:=r.b8
   exact ⟨a,xs,rfl,R.rb.sub.seq hq,by rw [rr.1];exact hn,hs F H σ ρ xs l ρ' Q R rr e k⟩
  ·cases e
 ·cases e
end
end MP
end L2
namespace L2.MP
section
variable {α:Type}{us:List α}
theorem len0 (h:us.length=0):us=[]:=List.length_eq_zero_iff.mp h
theorem Mu {n:Nat} (h:us.length=n+1):∃ a vs,us=a::vs∧vs.length=n:=by
 cases us with
 | nil=>cases h
 | cons a vs=>exact ⟨a,vs,rfl,Nat.succ.inj h⟩
theorem PL (h:us.length=1):∃ a,us=[a]:=by
 obtain ⟨a,vs,rfl,h2⟩:=Mu h
 cases len0 h2
 exact ⟨a,rfl⟩
theorem wX (h:us.length=2):∃ a b,us=[a,b]:=by
 obtain ⟨a,vs,rfl,h2⟩:=Mu h
 obtain ⟨b,rfl⟩:=PL h2
 exact ⟨a,b,rfl⟩
theorem Am (h:us.length=3):∃ a b c,us=[a,b,c]:=by
 obtain ⟨a,vs,rfl,h2⟩:=Mu h
 obtain ⟨b,c,rfl⟩:=wX h2
 exact ⟨a,b,c,rfl⟩
theorem S8 (h:us.length=4):∃ a b c d,us=[a,b,c,d]:=by
 obtain ⟨a,vs,rfl,h2⟩:=Mu h
 obtain ⟨b,c,d,rfl⟩:=Am h2
 exact ⟨a,b,c,d,rfl⟩
theorem Vo (h:us.length=5):∃ a b c d e,us=[a,b,c,d,e]:=by
 obtain ⟨a,vs,rfl,h2⟩:=Mu h
 obtain ⟨b,c,d,e,rfl⟩:=S8 h2
 exact ⟨a,b,c,d,e,rfl⟩
end
end L2.MP
namespace MM
open PySem PySem.Spec PyProof.Rows L2 L2.MP
def Tv {α:Type} (x:Option (Res α)) (Q:α->Prop):Prop:=∃ a,x=some (.ok a)∧Q a
def Out.calm:Out->Prop
 | .ex _=>False
 | _=>True
def To (x:Option Out) (Q:Out->Prop):Prop:=∃ o,x=some o∧Out.calm o∧Q o
def DP (k:Rho->Prop) (Q:Out->Prop):Out->Prop
 | .nx ρ=>k ρ
 | o=>Q o
section
variable {α β γ:Type}{Q:α->Prop}{QS:Out->Prop}{k:β->Prop}{f:Fn PV}{g h:Fn PV}{ρ:Rho}{a:β}{z p:PV}{i:Nat}{s t:Sn}
theorem onNx_nx {k:Rho->Prop}:DP k QS (.nx ρ)=k ρ:=rfl
theorem onNx_rt {k:Rho->Prop}:DP k QS (.rt p)=QS (.rt p):=rfl
theorem onNx_ro {k:Rho->Prop}:DP k QS (.ro p)=QS (.ro p):=rfl
theorem onNx_rd {k:Rho->Prop}:DP k QS (.rd p)=QS (.rd p):=rfl
theorem onNx_bk {k:Rho->Prop}:DP k QS (.bk ρ)=QS (.bk ρ):=rfl
theorem onNx_ct {k:Rho->Prop}:DP k QS (.ct ρ)=QS (.ct ρ):=rfl
theorem tv_some {a:α}:Tv (some (.ok a)) Q=Q a:=by
 refine propext ⟨?_,fun q=>⟨a,rfl,q⟩⟩
 rintro ⟨r',e,q⟩
 cases e;exact q
theorem to_nx:To (some (.nx ρ)) QS=QS (.nx ρ):=propext ⟨fun ⟨_,e,_,q⟩=>by cases e;exact q,fun q=>⟨_,rfl,trivial,q⟩⟩
theorem to_rt:To (some (.rt p)) QS=QS (.rt p):=propext ⟨fun ⟨_,e,_,q⟩=>by cases e;exact q,fun q=>⟨_,rfl,trivial,q⟩⟩
theorem to_ro:To (some (.ro p)) QS=QS (.ro p):=propext ⟨fun ⟨_,e,_,q⟩=>by cases e;exact q,fun q=>⟨_,rfl,trivial,q⟩⟩
theorem to_rd:To (some (.rd p)) QS=QS (.rd p):=propext ⟨fun ⟨_,e,_,q⟩=>by cases e;exact q,fun q=>⟨_,rfl,trivial,q⟩⟩
theorem to_bk:To (some (.bk ρ)) QS=QS (.bk ρ):=propext ⟨fun ⟨_,e,_,q⟩=>by cases e;exact q,fun q=>⟨_,rfl,trivial,q⟩⟩
theorem to_ct:To (some (.ct ρ)) QS=QS (.ct ρ):=propext ⟨fun ⟨_,e,_,q⟩=>by cases e;exact q,fun q=>⟨_,rfl,trivial,q⟩⟩
theorem tv_bnd {x:Option (Res β)}{kk:β->Option (Res α)}:Tv (bnd x kk) Q=Tv x (fun b=>Tv (kk b) Q):=by
 refine propext ⟨?_,?_⟩
 ·rintro ⟨r,e,q⟩
  rcases bQ e with ⟨z,e1,e2⟩ | ⟨b,e1,e2⟩
  ·cases e2
  ·exact ⟨_,e1,r,e2,q⟩
 ·rintro ⟨b,e,q⟩
  subst e;exact q
theorem to_bnd {x:Option (Res β)}{kk:β->Option Out}:To (ik x kk) QS=Tv x (fun b=>To (kk b) QS):=by
 refine propext ⟨?_,?_⟩
 ·rintro ⟨r,e,c,q⟩
  rcases cP e with ⟨z,e1,rfl⟩ | ⟨b,e1,e2⟩
  ·exact c.elim
  ·exact ⟨_,e1,r,e2,c,q⟩
 ·rintro ⟨b,e,q⟩
  subst e;exact q
theorem to_seq:To (bj s t ρ) QS=To (s ρ) (DP (fun ρ'=>To (t ρ') QS) QS):=by
 refine propext ⟨?_,?_⟩
 ·rintro ⟨r,e,c,q⟩
  unfold bj at e
  split at e
  ·rename_i ρ' h
   exact ⟨_,h,trivial,r,e,c,q⟩
  ·rename_i x hx
   refine ⟨r,e,c,?_⟩
   cases r with
   | nx ρ'=>exact absurd e (hx ρ')
   | _=>exact q
 ·rintro ⟨o,e,c,q⟩
  unfold bj To
  rw [e]
  cases o with
  | nx ρ'=>exact q
  | _=>exact ⟨_,rfl,c,q⟩
theorem vf:Tv (none:Option (Res α)) Q=False:=propext ⟨fun ⟨_,e,_⟩=>(nomatch e),fun h=>h.elim⟩
theorem An:To none QS=False:=propext ⟨fun ⟨_,e,_⟩=>(nomatch e),fun h=>h.elim⟩
theorem tv_m2 {op:β->γ->Option (Res α)}{f:Fn β}{g:Fn γ}:Tv (m2 op f g ρ) Q=Tv (f ρ) (fun a=>Tv (g ρ) (fun b=>Tv (op a b) Q)):=by
 unfold m2
 simp only [tv_bnd]
theorem tv_m1 {op:β->Option (Res α)}{f:Fn β}:Tv (m1 op f ρ) Q=Tv (f ρ) (fun a=>Tv (op a) Q):=by unfold m1;rw [tv_bnd]
theorem tv_var {Q:PV->Prop}:Tv (mV i ρ) Q=∃ p,ρ[i]?=some (some (.sh p))∧Q p:=by
 refine propext ⟨?_,fun ⟨p,e,q⟩=>⟨_,by unfold mV;rw [e],q⟩⟩
 rintro ⟨r,e,q⟩
 unfold mV at e
 split at e
 ·rename_i p hp;cases e;exact ⟨_,hp,q⟩
 ·cases e
theorem tv_lend {Q:PV->Prop}:Tv (mVL i ρ) Q=∃ s,ρ[i]?=some (some s)∧(match s with | .sh p=>Q p | .ow p=>Q p | .dp _=>False):=by
 refine propext ⟨?_,?_⟩
 ·rintro ⟨r,e,q⟩
  unfold mVL at e
  split at e
  ·rename_i p hp;cases e;exact ⟨_,hp,q⟩
  ·rename_i p hp;cases e;exact ⟨_,hp,q⟩
  ·cases e
 ·rintro ⟨s,e,q⟩
  cases s with
  | sh p=>exact ⟨_,by unfold mVL;rw [e],q⟩
  | ow p=>exact ⟨_,by unfold mVL;rw [e],q⟩
  | dp p=>exact q.elim
theorem tv_c {Q:PV->Prop}:Tv (mC p ρ) Q=Q p:=tv_some
theorem tv_view {Q:List PV->Prop}:Tv (rm f ρ) Q=Tv (f ρ) (fun a=>Tv (uv a) Q):=tv_bnd
theorem tv_viewN {Q:List PV->Prop}:Tv (qj i ρ) Q=Tv (mVL i ρ) (fun a=>Tv (uv a) Q):=tv_bnd
theorem tv_asLst {l:List PV}{Q:List PV->Prop}:Tv (uv (.lst l)) Q=Q l:=tv_some
theorem tv_nil {Q:List PV->Prop}:Tv (bF ρ) Q=Q []:=tv_some
theorem tv_cons {g:Fn (List PV)}{Q:List PV->Prop}:Tv (aB f g ρ) Q=Tv (f ρ) (fun a=>Tv (g ρ) (fun l=>Q (a::l))):=by
 unfold aB
 simp only [tv_bnd,tv_some]
theorem cC {c:Prop} [Decidable c] {a:α}:Tv (if c then some (.ok a) else none) Q=(c∧Q a):=by
 by_cases h:c
 ·rw [if_pos h,tv_some];simp [h]
 ·rw [if_neg h,vf];simp [h]
theorem tv_tup {f:Fn (List PV)}{Q:PV->Prop}:Tv (pD f ρ) Q=Tv (f ρ) (fun l=>l.length≤sizeLine∧Q (.tup l)):=by
 unfold pD
 simp only [tv_bnd,cC]
theorem tv_lst {f:Fn (List PV)}{Q:PV->Prop}:Tv (yc f ρ) Q=Tv (f ρ) (fun l=>l.length≤sizeLine∧Q (.lst l)):=by
 unfold yc
 simp only [tv_bnd,cC]
theorem tv_call {m:List PV->Option (Res PV)}{f:Fn (List PV)}{Q:PV->Prop}:Tv (bR m f ρ) Q=Tv (f ρ) (fun l=>Tv (m l) Q):=tv_bnd
theorem tv_ite {c:Prop} [Decidable c] {x y:Option (Res α)}:Tv (if c then x else y) Q=if c then Tv x Q else Tv y Q:=by split <;> rfl
theorem to_ite {c:Prop} [Decidable c] {x y:Option Out}:To (if c then x else y) QS=if c then To x QS else To y QS:=by split <;> rfl
theorem tv_mIf {c:Fn Bool}{f g:Fn α}:Tv (mIf c f g ρ) Q=Tv (c ρ) (fun b=>if b=true then Tv (f ρ) Q else Tv (g ρ) Q):=by
 unfold mIf
 simp only [tv_bnd,tv_ite]
theorem tv_mAnd {c d:Fn Bool}{Q:Bool->Prop}:Tv (Cp c d ρ) Q=Tv (c ρ) (fun b=>if b=true then Tv (d ρ) Q else Q false):=by
 unfold Cp
 simp only [tv_bnd,tv_ite,tv_some]
theorem tv_mOr {c d:Fn Bool}{Q:Bool->Prop}:Tv (mOr c d ρ) Q=Tv (c ρ) (fun b=>if b=true then Q true else Tv (d ρ) Q):=by
 unfold mOr
 simp only [tv_bnd,tv_ite,tv_some]
theorem tv_mNot {c:Fn Bool}{Q:Bool->Prop}:Tv (Ol c ρ) Q=Tv (c ρ) (fun b=>Q (!b)):=by
 unfold Ol
 simp only [tv_bnd,tv_some]
theorem tv_or {Q:PV->Prop}:Tv (Oj f g ρ) Q=Tv (f ρ) (fun a=>∃ b,a=.bl b∧if b=true then Q (.bl true) else Tv (g ρ) Q):=by
 unfold Oj
 rw [tv_bnd]
 congr 1;funext a
 refine propext ⟨?_,?_⟩
 ·rintro ⟨r,e,q⟩
  split at e
  ·cases e;exact ⟨true,rfl,by rw [if_pos rfl];exact q⟩
  ·exact ⟨false,rfl,by rw [if_neg (by decide)];exact ⟨r,e,q⟩⟩
  ·cases e
 ·rintro ⟨b,e,q⟩
  subst e
  cases b with
  | true=>rw [if_pos rfl] at q;exact ⟨_,rfl,q⟩
  | false=>rw [if_neg (by decide)] at q;exact q
theorem tv_comp {it:Fn (List PV)}{fr:List (Option Nat)}{tg:PV->Rho->Option Rho}{tst:Fn Bool}{el:Fn PV}{Q:PV->Prop}:Tv (jh it fr tg tst el ρ) Q=Tv (it ρ) (fun l=>l.length≤sizeLine∧Tv (d7 tg tst el (frR fr ρ) l) (fun r=>Q (.lst r))):=by
 unfold jh
 rw [tv_bnd]
 congr 1;funext l
 by_cases hl:l.length≤sizeLine
 ·rw [if_pos hl,tv_bnd]
  simp only [tv_some,hl,true_and]
 ·rw [if_neg hl,vf];simp [hl]
theorem to_next:To (gq ρ) QS=QS (.nx ρ):=to_nx
theorem to_cont:To (Kw ρ) QS=QS (.ct ρ):=to_ct
theorem to_ret:To (jb f ρ) QS=Tv (f ρ) (fun p=>QS (.rt p)):=by unfold jb;simp only [to_bnd,to_rt]
theorem to_retO:To (pJ f ρ) QS=Tv (f ρ) (fun p=>QS (.ro p)):=by unfold pJ;simp only [to_bnd,to_ro]
theorem to_setO:To (qX i f ρ) QS=Tv (f ρ) (fun p=>QS (.nx (ρ.set i (some (.ow p))))):=by unfold qX;simp only [to_bnd,to_nx]
theorem to_asg {tg:PV->Rho->Option Rho}:To (cA f tg ρ) QS=Tv (f ρ) (fun p=>∃ ρ',tg p ρ=some ρ'∧QS (.nx ρ')):=by
 unfold cA
 rw [to_bnd]
 congr 1;funext a
 cases e:tg a ρ with
 | none=>rw [An];exact propext ⟨fun h=>h.elim,fun ⟨_,z,_⟩=>nomatch z⟩
 | some ρ'=>rw [to_nx];exact propext ⟨fun q=>⟨ρ',rfl,q⟩,fun ⟨_,z,q⟩=>by cases z;exact q⟩
theorem to_asgN:To (cA f (gN i) ρ) QS=Tv (f ρ) (fun p=>QS (.nx (ρ.set i (some (.sh p))))):=by
 rw [to_asg]
 congr 1;funext a
 exact propext ⟨fun ⟨ρ',e,q⟩=>by cases e;exact q,fun q=>⟨_,rfl,q⟩⟩
theorem to_if {c:Fn Bool}:To (j5 c s t ρ) QS=Tv (c ρ) (fun b=>if b=true then To (s ρ) QS else To (t ρ) QS):=by
 unfold j5
 simp only [to_bnd,to_ite]
theorem to_for {it:Fn (List PV)}{tg:PV->Rho->Option Rho}:To (pF it tg s ρ) QS=Tv (it ρ) (fun l=>To (loop tg s l ρ) QS):=to_bnd
theorem to_retOw:To (nJ i ρ) QS=∃ p,ρ[i]?=some (some (.ow p))∧QS (.ro p):=by
 refine propext ⟨?_,fun ⟨p,e,q⟩=>⟨.ro p,by unfold nJ ownAt;rw [e],trivial,q⟩⟩
 rintro ⟨r,e,c,q⟩
 unfold nJ at e
 split at e
 ·rename_i p hp;cases e;exact ⟨p,bG hp,q⟩
 ·cases e
theorem to_app:To (FN i f ρ) QS=∃ l,ρ[i]?=some (some (.ow (.lst l)))∧Tv (f ρ) (fun p=>l.length < sizeLine∧QS (.nx (ρ.set i (some (.ow (.lst (l++[p]))))))):=by
 refine propext ⟨?_,?_⟩
 ·rintro ⟨r,e,c,q⟩
  unfold FN at e
  split at e
  ·rename_i l hl
   refine ⟨l,bG hl,?_⟩
   rcases cP e with ⟨z,e1,rfl⟩ | ⟨p,e1,e2⟩
   ·exact c.elim
   ·split at e2
    ·rename_i hlen;cases e2;exact ⟨_,e1,hlen,q⟩
    ·cases e2
  ·cases e
 ·rintro ⟨l,e,p,e1,h,q⟩
  have eo:ownAt i ρ=some (.lst l):=by unfold ownAt;rw [e]
  unfold To FN
  rw [eo]
  exact ⟨.nx _,by simp only [e1,ik];exact if_pos h,trivial,q⟩
theorem j7 {c:Int->Int->Bool}{F:Int->Int->PV}{x y:Int}{Q:PV->Prop}:Tv (MP.opI c F (.int x) (.int y)) Q=(c x y=true∧Q (F x y)):=cC
theorem tv_sub {x y:Int}{Q:PV->Prop}:Tv (jg (.int x) (.int y)) Q=Q (.int (x - y)):=by unfold jg;rw [j7];simp [cT]
theorem tv_and' {x y:Int}{Q:PV->Prop}:Tv (jK (.int x) (.int y)) Q=Q (.int (Builtin.bitAnd x y)):=by unfold jK;rw [j7];simp [cT]
theorem tv_or' {x y:Int}{Q:PV->Prop}:Tv (Jl (.int x) (.int y)) Q=Q (.int (Builtin.bitOr x y)):=by unfold Jl;rw [j7];simp [cT]
theorem tv_gt {x y:Int}{Q:PV->Prop}:Tv (Cv (.int x) (.int y)) Q=Q (.bl (decide (y < x))):=by unfold Cv;rw [j7];simp [cT]
theorem tv_ge {x y:Int}{Q:PV->Prop}:Tv (Ou (.int x) (.int y)) Q=Q (.bl (decide (y≤x))):=by unfold Ou;rw [j7];simp [cT]
theorem tv_div {x y:Int}{Q:PV->Prop}:Tv (vV (.int x) (.int y)) Q=((0 < y∧y < 1073741824)∧Q (.int (x / y))):=by unfold vV;rw [j7];simp [RN]
theorem tv_mod {x y:Int}{Q:PV->Prop}:Tv (iQ (.int x) (.int y)) Q=(0 < y∧Q (.int (x % y))):=by unfold iQ;rw [j7];simp [Um]
theorem tv_pow {x y:Int}{Q:PV->Prop}:Tv (GX (.int x) (.int y)) Q=((0≤y∧y≤1000000∧x.natAbs < 2 ^ 64)∧Q (.int (x ^ y.toNat))):=by unfold GX;rw [j7];simp [KN]
theorem tv_shl {x y:Int}{Q:PV->Prop}:Tv (qY (.int x) (.int y)) Q=((0≤y∧y≤1000000∧x.natAbs < 2 ^ 64)∧Q (.int (x * 2 ^ y.toNat))):=by unfold qY;rw [j7];simp [KN]
theorem tv_shr {x y:Int}{Q:PV->Prop}:Tv (pK (.int x) (.int y)) Q=(0≤y∧Q (.int (x / 2 ^ y.toNat))):=by unfold pK;rw [j7];simp [Uo]
theorem tv_add {x y:Int}{Q:PV->Prop}:Tv (b7 (.int x) (.int y)) Q=Q (.int (x+y)):=tv_some
theorem tv_addS {x y:Str}{Q:PV->Prop}:Tv (b7 (.str x) (.str y)) Q=(x.length+y.length≤sizeLine∧Q (.str (x++y))):=cC
theorem tv_addT {x y:List PV}{Q:PV->Prop}:Tv (b7 (.tup x) (.tup y)) Q=((x≠[]∧x.length+y.length≤sizeLine)∧Q (.tup (x++y))):=cC
theorem tv_mul {x y:Int}{Q:PV->Prop}:Tv (dD (.int x) (.int y)) Q=(Fl x y∧Q (.int (x * y))):=by
 show Tv (if KJ x y=true then _ else none) Q=_
 rw [cC]
 unfold KJ Fl
 simp
theorem tv_mulS {z:Str}{n:Int}{Q:PV->Prop}:Tv (dD (.str z) (.int n)) Q=((-(2 ^ 63)≤n∧n < 2 ^ 63∧z.length * n.toNat≤sizeLine)∧Q (.str (RP z n.toNat))):=cC
theorem tv_lt {x y:Int}{Q:PV->Prop}:Tv (Cw (.int x) (.int y)) Q=Q (.bl (decide (x < y))):=tv_some
theorem tv_ltS {x y:Str}{Q:PV->Prop}:Tv (Cw (.str x) (.str y)) Q=Q (.bl (decide (x.cps.toList < y.cps.toList))):=tv_some
theorem tv_eq {p q:PV}{Q:PV->Prop}:Tv (jd p q) Q=∃ r,eqF 32 p q=some r∧Q (.bl r):=by
 refine propext ⟨?_,fun ⟨r,e,k⟩=>⟨_,by unfold jd;rw [e],k⟩⟩
 rintro ⟨r,e,k⟩
 unfold jd at e
 split at e
 ·rename_i b hb;cases e;exact ⟨b,hb,k⟩
 ·cases e
theorem eqF_int (n:Nat) (i j:Int):eqF n (.int i) (.int j)=some (decide (i=j)):=by cases n <;> rfl
theorem eqF_str (n:Nat) (i j:Str):eqF n (.str i) (.str j)=some (decide (i=j)):=by cases n <;> rfl
theorem eqF_bl (n:Nat) (i j:Bool):eqF n (.bl i) (.bl j)=some (decide (i=j)):=by cases n <;> rfl
theorem tv_eqI {x y:Int}{Q:PV->Prop}:Tv (jd (.int x) (.int y)) Q=Q (.bl (decide (x=y))):=by rw [tv_eq,eqF_int];simp
theorem tv_eqS {x y:Str}{Q:PV->Prop}:Tv (jd (.str x) (.str y)) Q=Q (.bl (decide (x=y))):=by rw [tv_eq,eqF_str];simp
theorem tv_notin {p q:PV}{Q:PV->Prop}:Tv (lU p q) Q=∃ r,inU p q=some r∧Q (.bl (!r)):=by
 refine propext ⟨?_,fun ⟨r,e,k⟩=>⟨_,by unfold lU;rw [e],k⟩⟩
 rintro ⟨r,e,k⟩
 unfold lU at e
 split at e
 ·rename_i b hb;cases e;exact ⟨b,hb,k⟩
 ·cases e
theorem tv_notN {p:PV}{Q:PV->Prop}:Tv (FP p .non) Q=Q (.bl (!p.yI)):=tv_some
theorem Ao {x:Option PV}{Q:PV->Prop}:Tv (ofO x) Q=∃ p,x=some p∧Q p:=by
 refine propext ⟨?_,fun ⟨p,e,k⟩=>⟨_,by subst e;rfl,k⟩⟩
 rintro ⟨r,e,k⟩
 obtain ⟨p,e1,e2⟩:=qZ e
 cases e2
 exact ⟨_,e1,k⟩
theorem tv_ixL {l:List PV}{n:Int}{Q:PV->Prop}:Tv (cQ (.lst l) (.int n)) Q=∃ p,atI l n=some p∧Q p:=Ao
theorem tv_ixT {l:List PV}{n:Int}{Q:PV->Prop}:Tv (cQ (.tup l) (.int n)) Q=∃ p,atI l n=some p∧Q p:=Ao
theorem tv_ixV {l:List PV}{n:Int}{Q:PV->Prop}:Tv (KQ l (.int n)) Q=∃ p,atI l n=some p∧Q p:=Ao
theorem tv_ixS {z:Str}{n:Int}{Q:PV->Prop}:Tv (cQ (.str z) (.int n)) Q=(z.length≤sizeLine∧∃ c,atI z.cps.toList n=some c∧Q (.str ⟨#[c]⟩)):=by
 show Tv (if z.length≤sizeLine then _ else none) Q=_
 by_cases hz:z.length≤sizeLine
 ·rw [if_pos hz,Ao]
  simp only [hz,true_and]
  refine propext ⟨?_,fun ⟨c,e,k⟩=>⟨_,by rw [e];rfl,k⟩⟩
  rintro ⟨p,e,k⟩
  cases e1:atI z.cps.toList n with
  | none=>rw [e1] at e;cases e
  | some c=>rw [e1] at e;cases e;exact ⟨c,rfl,k⟩
 ·rw [if_neg hz]
  exact propext ⟨fun ⟨r,e,q⟩=>(nomatch e),fun ⟨z,_⟩=>absurd z hz⟩
theorem tv_lenS {z:Str}{Q:PV->Prop}:Tv (nT (.str z)) Q=(z.length≤sizeLine∧Q (.int z.length)):=cC
theorem tv_lenL {l:List PV}{Q:PV->Prop}:Tv (nT (.lst l)) Q=Q (.int l.length):=tv_some
theorem tv_lenT {l:List PV}{Q:PV->Prop}:Tv (nT (.tup l)) Q=Q (.int l.length):=tv_some
theorem tv_asBl {b:Bool}{Q:Bool->Prop}:Tv (dJ (.bl b)) Q=Q b:=tv_some
theorem tv_max {x y:Int}{Q:PV->Prop}:Tv (K6 (.int x) (.int y)) Q=Q (.int (if y > x then y else x)):=tv_some
theorem tv_min {x y:Int}{Q:PV->Prop}:Tv (K7 (.int x) (.int y)) Q=Q (.int (if y < x then y else x)):=tv_some
theorem tv_list {l:List PV}{Q:PV->Prop}:Tv (FW l) Q=Q (.lst l):=tv_some
theorem tv_cat {l m:List PV}{Q:PV->Prop}:Tv (yK l m) Q=(l.length+m.length≤sizeLine∧Q (.lst (l++m))):=cC
theorem tv_asSeqL {l:List PV}{Q:List PV->Prop}:Tv (mZ (.lst l)) Q=Q l:=tv_some
theorem tv_asSeqT {l:List PV}{Q:List PV->Prop}:Tv (mZ (.tup l)) Q=Q l:=tv_some
theorem tv_asSeqS {z:Str}{Q:List PV->Prop}:Tv (mZ (.str z)) Q=Q (signs z):=tv_some
theorem tv_rng1 {j:Int}{Q:List PV->Prop}:Tv (qg [.int j]) Q=((-(2 ^ 62)≤j∧j < 2 ^ 62)∧Q (nQ 0 j.toNat)):=cC
theorem tv_rng2 {x y:Int}{Q:List PV->Prop}:Tv (tW [.int x,.int y]) Q=((-(2 ^ 62)≤x∧x < 2 ^ 62∧-(2 ^ 62)≤y∧y < 2 ^ 62)∧Q (nQ x (y - x).toNat)):=cC
theorem tv_enum {l:List PV}{Q:List PV->Prop}:Tv (FT [.lst l]) Q=Q (uw l):=tv_some
theorem tv_pn {Q:Option Int->Prop}:Tv (mPn ρ) Q=Q none:=tv_some
theorem tv_asInt {x:Int}{Q:Option Int->Prop}:Tv (asInt (.int x)) Q=Q (some x):=tv_some
theorem tv_slL {f:Fn (List PV)}{lo hi:Fn (Option Int)}{Q:PV->Prop}:Tv (Jm f lo hi ρ) Q=Tv (f ρ) (fun l=>Tv (lo ρ) (fun a=>Tv (hi ρ) (fun b=>Q (.lst (Cz l a b))))):=by
 unfold Jm
 simp only [tv_bnd,tv_some]
end
section
variable {QS:Out->Prop}{Q:PV->Prop}{ρ:Rho}{i j:Nat}{f g:Fn PV}{z y:Str}
theorem finIO_nx {p:PV}:(Ux j (some (.nx ρ))=some (.ok p))=(ρ[j]?=some (some (.ow p))):=by
 show ((match ownAt j ρ with | some p=>some (Res.ok p) | none=>none)=some (.ok p))=_
 cases h:ownAt j ρ with
 | none=>exact propext ⟨fun e=>(nomatch e),fun e=>by unfold ownAt at h;rw [e] at h;cases h⟩
 | some q=>exact propext ⟨fun e=>by cases e;exact bG h,fun e=>by rw [bG h] at e;cases e;rfl⟩
theorem to_never:To (Ga ρ) QS=False:=An
end
def turn (I:Rho->Prop) (QS:Out->Prop):Out->Prop
 | .nx ρ=>I ρ
 | .ct ρ=>I ρ
 | .bk ρ=>QS (.nx ρ)
 | o=>QS o
theorem turn_nx {I:Rho->Prop}{QS:Out->Prop}{ρ:Rho}:turn I QS (.nx ρ)=I ρ:=rfl
theorem turn_ct {I:Rho->Prop}{QS:Out->Prop}{ρ:Rho}:turn I QS (.ct ρ)=I ρ:=rfl
theorem turn_bk {I:Rho->Prop}{QS:Out->Prop}{ρ:Rho}:turn I QS (.bk ρ)=QS (.nx ρ):=rfl
theorem turn_rt {I:Rho->Prop}{QS:Out->Prop}{p:PV}:turn I QS (.rt p)=QS (.rt p):=rfl
theorem turn_ro {I:Rho->Prop}{QS:Out->Prop}{p:PV}:turn I QS (.ro p)=QS (.ro p):=rfl
theorem turn_rd {I:Rho->Prop}{QS:Out->Prop}{p:PV}:turn I QS (.rd p)=QS (.rd p):=rfl
theorem PN {tg:PV->Rho->Option Rho}{body:Sn}{QS:Out->Prop} (I:Nat->Rho->Prop):∀ {l:List PV}{ρ:Rho},I 0 ρ ->
  (∀ (i:Nat) x ρ,l[i]?=some x->I i ρ->∃ ρ1,tg x ρ=some ρ1∧To (body ρ1) (turn (I (i+1)) QS)) ->
  (∀ ρ',I l.length ρ'->QS (.nx ρ'))->To (loop tg body l ρ) QS:=by
 intro l
 induction l generalizing I with
 | nil=>exact fun h0 _ hd=>⟨_,rfl,trivial,hd _ h0⟩
 | cons x xs ih =>
  intro ρ h0 hs hd
  obtain ⟨ρ1,e1,o,e2,c,q⟩:=hs 0 x ρ rfl h0
  unfold To
  rw [loop,e1]
  simp only [e2]
  cases o with
  | nx ρ2=>exact ih (fun i=>I (i+1)) q (fun i y ρ e=>hs (i+1) y ρ (by simpa using e)) hd
  | ct ρ2=>exact ih (fun i=>I (i+1)) q (fun i y ρ e=>hs (i+1) y ρ (by simpa using e)) hd
  | bk ρ2=>exact ⟨_,rfl,trivial,q⟩
  | rt p=>exact ⟨_,rfl,trivial,q⟩
  | ro p=>exact ⟨_,rfl,trivial,q⟩
  | rd p=>exact ⟨_,rfl,trivial,q⟩
  | ex z=>exact c.elim
theorem pP {x:Option Out}{I:Rho->Prop}{Q:Out->Prop} (h:∀ QS:Out->Prop,(∀ ρ,I ρ->QS (.nx ρ))->To x QS):To x (turn I Q):=h _ fun _ h=>h
theorem QZ {x:Option Out}{I:Rho->Prop}{Q:Out->Prop} (h:∀ QS:Out->Prop,(∀ ρ,I ρ->QS (.nx ρ))->(∀ ρ,I ρ->QS (.ct ρ))->(∀ p,Q (.rt p)->QS (.rt p))->(∀ p,Q (.ro p)->QS (.ro p))->(∀ p,Q (.rd p)->QS (.rd p))->To x QS):To x (turn I Q):=h _ (fun _ h=>h) (fun _ h=>h) (fun _ h=>h) (fun _ h=>h) fun _ h=>h
theorem lz {x:Option Out}{Q:Out->Prop} (h:∀ QS:Out->Prop,(∀ o,Q o->QS o)->To x QS):To x Q:=h _ fun _ h=>h
theorem dM {j:Nat}{body:Sn}{QS:Out->Prop} (I:Nat->Rho->Prop) {l:List PV}{ρ:Rho} (h0:I 0 ρ)
  (hs:∀ (i:Nat) x ρ,l[i]?=some x->I i ρ->To (body (ρ.set j (some (.sh x)))) (turn (I (i+1)) QS)) (hd:∀ ρ',I l.length ρ'->QS (.nx ρ')):To (loop (gN j) body l ρ) QS :=
 PN I h0 (fun i x ρ e hI=>⟨_,rfl,hs i x ρ e hI⟩) hd
theorem oh {fc:Fn Bool}{body:Sn}{QS:Out->Prop} (I:Nat->Rho->Prop):∀ {n:Nat}{ρ:Rho},I n ρ ->
  (∀ (n:Nat) ρ,I n ρ->Tv (fc ρ) (fun b=>if b=true then 0 < n∧To (body ρ) (turn (I (n - 1)) QS) else QS (.nx ρ)))->To (gr fc body (n+1) ρ) QS:=by
 intro n
 induction n with
 | zero =>
  intro ρ h0 hs
  rw [gr,to_bnd]
  obtain ⟨b,e,q⟩:=hs 0 ρ h0
  refine ⟨b,e,?_⟩
  cases b with
  | true=>exact absurd q.1 (Zbu _)
  | false=>exact ⟨_,rfl,trivial,q⟩
 | succ n ih =>
  intro ρ h0 hs
  rw [gr,to_bnd]
  obtain ⟨b,e,q⟩:=hs (n+1) ρ h0
  refine ⟨b,e,?_⟩
  cases b with
  | false=>exact ⟨_,rfl,trivial,q⟩
  | true =>
   obtain ⟨_,o,e2,c,q2⟩:=q
   show To (if true=true then _ else _) QS
   rw [if_pos rfl]
   simp only [e2]
   cases o with
   | nx ρ2=>exact ih q2 hs
   | ct ρ2=>exact ih q2 hs
   | bk ρ2=>exact ⟨_,rfl,trivial,q2⟩
   | rt p=>exact ⟨_,rfl,trivial,q2⟩
   | ro p=>exact ⟨_,rfl,trivial,q2⟩
   | rd p=>exact ⟨_,rfl,trivial,q2⟩
   | ex z=>exact c.elim
theorem j8 {x:Option Out}{r:Res PV} (h:To x fun o=>fin (some o)=some r):fin x=some r:=by
 obtain ⟨o,e,_,q⟩:=h
 rw [e];exact q
theorem vg {x:Option Out}{r:Res PV} (h:To x fun o=>ql (some o)=some r):ql x=some r:=by
 obtain ⟨o,e,_,q⟩:=h
 rw [e];exact q
theorem wY {x:Option Out}{P:PV->Prop} (h:To x fun o=>∃ p,fin (some o)=some (.ok p)∧P p):∃ p,fin x=some (.ok p)∧P p:=by
 obtain ⟨o,e,_,q⟩:=h
 rw [e];exact q
theorem vh {x:Option Out}{P:PV->Prop} (h:To x fun o=>∃ p,ql (some o)=some (.ok p)∧P p):∃ p,ql x=some (.ok p)∧P p:=by
 obtain ⟨o,e,_,q⟩:=h
 rw [e];exact q
theorem fin_nx {ρ:Rho}:fin (some (.nx ρ))=some (.ok .non):=rfl
theorem fin_rt {p:PV}:fin (some (.rt p))=some (.ok p):=rfl
theorem finO_ro {p:PV}:ql (some (.ro p))=some (.ok p):=rfl
theorem wZ {tg:PV->Rho->Option Rho}{tst:Fn Bool}{el:Fn PV}{ρb:Rho} (t:PV->Bool) (f:PV->PV):∀ (l:List PV),
  (∀ x∈l,∃ ρ1,tg x ρb=some ρ1∧tst ρ1=some (.ok (t x))∧(t x=true->el ρ1=some (.ok (f x))))->d7 tg tst el ρb l=some (.ok ((l.filter t).map f))
 | [],_=>rfl
 | x::xs,h=>by
  obtain ⟨ρ1,e1,e2,e3⟩:=h x List.mem_cons_self
  have ih:=wZ t f xs fun y hy=>h y (List.mem_cons_of_mem _ hy)
  rw [d7,e1]
  simp only [e2,bnd]
  cases ht:t x with
  | true=>rw [if_pos rfl,e3 ht];simp only [ih,List.filter_cons,ht,if_true,Zai]
  | false=>rw [if_neg (by decide)];simp only [ih,List.filter_cons,ht,Za0,if_false]
theorem JF {tg:PV->Rho->Option Rho}{el:Fn PV}{ρb:Rho} (f:PV->PV) (l:List PV) (h:∀ x∈l,∃ ρ1,tg x ρb=some ρ1∧el ρ1=some (.ok (f x))):d7 tg tX el ρb l=some (.ok (l.map f)):=by
 have:=wZ (tg:=tg) (tst:=tX) (el:=el) (ρb:=ρb) (fun _=>true) f l fun x hx=>let ⟨ρ1,a,b⟩:=h x hx;⟨ρ1,a,rfl,fun _=>b⟩
 rwa [Zbx.mpr fun _ _=>rfl] at this
theorem tv_compN {tg:PV->Rho->Option Rho}{tst:Fn Bool}{el:Fn PV}{ρb:Rho}{Q:List PV->Prop}:Tv (d7 tg tst el ρb []) Q=Q []:=tv_some
theorem tv_compC {j:Nat}{tst:Fn Bool}{el:Fn PV}{ρb:Rho}{x:PV}{xs:List PV}{Q:List PV->Prop}:Tv (d7 (gN j) tst el ρb (x::xs)) Q =
  Tv (tst (ρb.set j (some (.sh x)))) (fun b=>if b=true then Tv (el (ρb.set j (some (.sh x)))) (fun p=>Tv (d7 (gN j) tst el ρb xs) (fun r=>Q (p::r))) else Tv (d7 (gN j) tst el ρb xs) Q):=by
 rw [d7]
 simp only [gN,tv_bnd,tv_ite,tv_some]
theorem tv_yes {ρ:Rho}{Q:Bool->Prop}:Tv (tX ρ) Q=Q true:=tv_some
theorem jU {α:Type}{x:Option (Res α)}{q:α} (h:Tv x fun p=>p=q):x=some (.ok q):=by
 obtain ⟨p,e,rfl⟩:=h
 exact e
theorem U4 {j:Nat}{el:Fn PV}{ρb:Rho}{l:List PV} (f:PV->PV) (h:∀ x∈l,Tv (el (ρb.set j (some (.sh x)))) fun p=>p=f x):d7 (gN j) tX el ρb l=some (.ok (l.map f)) :=
 JF f l fun x hx=>⟨_,rfl,jU (h x hx)⟩
theorem U5 {j:Nat}{tst:Fn Bool}{el:Fn PV}{ρb:Rho}{l:List PV} (t:PV->Bool) (f:PV->PV) (h:∀ x∈l,Tv (tst (ρb.set j (some (.sh x)))) fun b=>b=t x) (h2:∀ x∈l,t x=true->Tv (el (ρb.set j (some (.sh x)))) fun p=>p=f x) :
  d7 (gN j) tst el ρb l=some (.ok ((l.filter t).map f)) :=
 wZ t f l fun x hx=>⟨_,rfl,jU (h x hx),fun ht=>jU (h2 x hx ht)⟩
def szP (w h:Int):PV:=.tup [.int w,.int h]
def cellP (c:Int×Int):PV:=.tup [.int c.1,.int c.2]
theorem snocI (l:List Int) (a:Int):l.map PV.int++[PV.int a]=(l++[a]).map PV.int:=by rw [ZaX];rfl
theorem snocS (l:List Str) (a:Str):l.map PV.str++[PV.str a]=(l++[a]).map PV.str:=by rw [ZaX];rfl
theorem snocC (l:List (Int×Int)) (a b:Int):l.map cellP++[PV.tup [.int a,.int b]]=(l++[(a,b)]).map cellP:=by rw [ZaX];rfl
theorem is_non_int:isI .non "int"=some false:=rfl
theorem is_non_bool:isI .non "bool"=some false:=rfl
theorem is_non_str:isI .non "str"=some false:=rfl
theorem is_non_list:isI .non "list"=some false:=rfl
theorem is_non_tuple:isI .non "tuple"=some false:=rfl
theorem is_non_dict:isI .non "dict"=some false:=rfl
theorem is_bl_int {b:Bool}:isI (.bl b) "int"=some true:=rfl
theorem is_bl_bool {b:Bool}:isI (.bl b) "bool"=some true:=rfl
theorem is_bl_str {b:Bool}:isI (.bl b) "str"=some false:=rfl
theorem is_bl_list {b:Bool}:isI (.bl b) "list"=some false:=rfl
theorem is_bl_tuple {b:Bool}:isI (.bl b) "tuple"=some false:=rfl
theorem is_bl_dict {b:Bool}:isI (.bl b) "dict"=some false:=rfl
theorem is_int_int {i:Int}:isI (.int i) "int"=some true:=rfl
theorem is_int_bool {i:Int}:isI (.int i) "bool"=some false:=rfl
theorem is_int_str {i:Int}:isI (.int i) "str"=some false:=rfl
theorem is_int_list {i:Int}:isI (.int i) "list"=some false:=rfl
theorem is_int_tuple {i:Int}:isI (.int i) "tuple"=some false:=rfl
theorem is_int_dict {i:Int}:isI (.int i) "dict"=some false:=rfl
theorem is_str_int {z:Str}:isI (.str z) "int"=some false:=rfl
theorem is_str_bool {z:Str}:isI (.str z) "bool"=some false:=rfl
theorem is_str_str {z:Str}:isI (.str z) "str"=some true:=rfl
theorem is_str_list {z:Str}:isI (.str z) "list"=some false:=rfl
theorem is_str_tuple {z:Str}:isI (.str z) "tuple"=some false:=rfl
theorem is_str_dict {z:Str}:isI (.str z) "dict"=some false:=rfl
theorem is_tup_int {l:List PV}:isI (.tup l) "int"=some false:=rfl
theorem is_tup_bool {l:List PV}:isI (.tup l) "bool"=some false:=rfl
theorem is_tup_str {l:List PV}:isI (.tup l) "str"=some false:=rfl
theorem is_tup_list {l:List PV}:isI (.tup l) "list"=some false:=rfl
theorem is_tup_tuple {l:List PV}:isI (.tup l) "tuple"=some true:=rfl
theorem is_tup_dict {l:List PV}:isI (.tup l) "dict"=some false:=rfl
theorem is_lst_int {l:List PV}:isI (.lst l) "int"=some false:=rfl
theorem is_lst_bool {l:List PV}:isI (.lst l) "bool"=some false:=rfl
theorem is_lst_str {l:List PV}:isI (.lst l) "str"=some false:=rfl
theorem is_lst_list {l:List PV}:isI (.lst l) "list"=some true:=rfl
theorem is_lst_tuple {l:List PV}:isI (.lst l) "tuple"=some false:=rfl
theorem is_lst_dict {l:List PV}:isI (.lst l) "dict"=some false:=rfl
theorem HF {α:Type}{f:PV->PV->Option Bool}{g:α->PV} [DecidableEq α] (h:∀ a b,f (g a) (g b)=some (decide (a=b))):∀ l m:List α,eqL f (l.map g) (m.map g)=some (decide (l=m))
 | [],[]=>rfl
 | [],_::_=>rfl
 | _::_,[]=>rfl
 | x::xs,y::ys=>by
  rw [Zai,Zai,eqL,h x y,HF h xs ys]
  simp only [Zbj,Bool.decide_and]
theorem PP {α:Type}{n:Nat}{g:α->PV} [DecidableEq α] (h:∀ a b,eqF n (g a) (g b)=some (decide (a=b))) (l m:List α):eqF (n+1) (.lst (l.map g)) (.lst (m.map g))=some (decide (l=m)):=by
 show (if (l.map g).length=(m.map g).length then eqL (eqF n) (l.map g) (m.map g) else some false)=_
 by_cases hl:l.length=m.length
 ·rw [if_pos (by simpa using hl)]
  exact HF h l m
 ·rw [if_neg (by simpa using hl),decide_eq_false fun e=>hl (by rw [e])]
theorem DQ {α:Type}{g:α->PV} [DecidableEq α] (h:∀ a b,eqF 31 (g a) (g b)=some (decide (a=b))) (a:α):∀ l:List α,inF (g a) (l.map g)=some (decide (a∈l))
 | []=>rfl
 | x::xs=>by
  rw [Zai,inF,h x a,DQ h a xs]
  simp only [Zaq,Bool.decide_or]
  congr 2
  exact decide_eq_decide.mpr ⟨fun e=>e.symm,fun e=>e.symm⟩
theorem PQ {α:Type}{g:α->PV} [DecidableEq α] (h:∀ a b,eqF 31 (g a) (g b)=some (decide (a=b))) (a:α) (l:List α) [Decidable (a∈l)]:inF (g a) (l.map g)=some (decide (a∈l)):=by
 rw [DQ h a l]
 congr 1
 exact decide_eq_decide.mpr Iff.rfl
theorem zb {ns:List Int}{i:Int} (h0:0≤i) (h:i < ns.length):atI (ns.map PV.int) i=some (.int (ns.getD i.toNat 0)):=by
 obtain ⟨v,e1,e2⟩:=Kd (xs:=ns.map PV.int) h0 (by rw [List.length_map];exact h)
 rw [e1]
 rw [List.getElem?_map] at e2
 have hl:i.toNat < ns.length:=by lia
 rw [List.getElem?_eq_getElem hl] at e2
 rw [List.getD_eq_getElem?_getD,List.getElem?_eq_getElem hl]
 exact e2.symm
theorem atI_0 {p:PV}{l:List PV}:atI (p::l) 0=some p:=oU (j:=0) rfl
theorem atI_1 {p q:PV}{l:List PV}:atI (p::q::l) 1=some q:=oU (j:=1) rfl
theorem atI_2 {p q r:PV}{l:List PV}:atI (p::q::r::l) 2=some r:=oU (j:=2) rfl
theorem atI_3 {p q r s:PV}{l:List PV}:atI (p::q::r::s::l) 3=some s:=oU (j:=3) rfl
theorem is_dk_int {l:List (Key×PV)}:isI (.dk l) "int"=some false:=rfl
theorem is_dk_str {l:List (Key×PV)}:isI (.dk l) "str"=some false:=rfl
theorem tv_neg {i:Int}{Q:PV->Prop}:Tv (K8 (.int i)) Q=Q (.int (-i)):=tv_some
section
variable {ρ:Rho}{f g h:Fn PV}{i:Nat}{Q:PV->Prop}{QS:Out->Prop}{d k x p:PV}{l:List PV}
theorem Mv:Tv (asD p) Q=(p.isD=true∧Q p):=cC
theorem tv_viewD:Tv (Ab f ρ) Q=Tv (f ρ) (fun p=>p.isD=true∧Q p):=by unfold Ab;rw [tv_bnd];simp only [Mv]
theorem tv_viewDN:Tv (fC i ρ) Q=Tv (mVL i ρ) (fun p=>p.isD=true∧Q p):=by unfold fC;rw [tv_bnd];simp only [Mv]
theorem Aq {α:Type}{o:Option α}{F:α->PV}:Tv (o.map fun r=>Res.ok (F r)) Q=∃ r,o=some r∧Q (F r):=by
 cases o with
 | none=>exact propext ⟨(fun ⟨_,e,_⟩=>by cases e),(fun ⟨_,e,_⟩=>by cases e)⟩
 | some r=>exact propext ⟨fun ⟨_,e,q⟩=>by cases e;exact ⟨r,rfl,q⟩,fun ⟨_,e,q⟩=>by cases e;exact ⟨_,rfl,q⟩⟩
theorem tv_dget1:Tv (Ac f g ρ) Q=Tv (f ρ) (fun d=>Tv (g ρ) (fun k=>∃ r,fP d k=some r∧Q (r.getD .non))):=by
 unfold Ac;simp only [tv_bnd,Aq]
theorem tv_opDGet:Tv (j6 d k) Q=∃ p,fP d k=some (some p)∧Q p:=by
 unfold j6
 split
 ·rename_i p h;rw [h,tv_some];exact propext ⟨fun q=>⟨p,rfl,q⟩,fun ⟨_,e,q⟩=>by cases e;exact q⟩
 ·rename_i h;rw [vf];exact propext ⟨fun z=>z.elim,fun ⟨p,e,_⟩=>(h p e).elim⟩
theorem tv_opDIn:Tv (CN k d) Q=∃ r,fP d k=some r∧Q (.bl r.isSome):=by unfold CN;rw [Aq]
theorem tv_opDNotIn:Tv (kZ k d) Q=∃ r,fP d k=some r∧Q (.bl (!r.isSome)):=by unfold kZ;rw [Aq]
theorem tv_dictP:Tv (rC d l) Q=∃ ps d',lX l=some ps∧iI d ps=some d'∧Q d':=by
 unfold rC
 split
 ·rename_i ps h
  rw [h]
  refine propext ⟨?_,?_⟩
  ·rintro ⟨r,e,q⟩
   cases h2:iI d ps with
   | none=>rw [h2] at e;cases e
   | some d'=>rw [h2] at e;cases e;exact ⟨ps,_,rfl,h2,q⟩
  ·rintro ⟨ps',d',e1,e2,q⟩
   cases e1;exact ⟨d',by rw [e2];rfl,q⟩
 ·rename_i h;rw [vf];exact propext ⟨fun z=>z.elim,fun ⟨ps,_,e,_⟩=>by rw [h] at e;cases e⟩
theorem tv_newT:Tv (wk ρ) Q=Q (.dt []):=tv_some
theorem to_dput:To (ux i f g ρ) QS=Tv (f ρ) (fun p=>∃ d,ρ[i]?=some (some (.ow d))∧Tv (g ρ) (fun k=>∃ d',Ge d k p=some d'∧QS (.nx (ρ.set i (some (.ow d')))))):=by
 unfold ux
 rw [to_bnd]
 congr 1;funext p
 refine propext ⟨?_,?_⟩
 ·rintro ⟨r,e,c,q⟩
  split at e
  ·rename_i d hd
   refine ⟨d,bG hd,?_⟩
   rcases cP e with ⟨z,e1,rfl⟩ | ⟨k,e1,e2⟩
   ·exact c.elim
   ·split at e2
    ·rename_i d' h'
     cases e2
     exact ⟨k,e1,d',h',q⟩
    ·cases e2
  ·cases e
 ·rintro ⟨d,e,k,e1,d',h1,q⟩
  refine ⟨.nx (ρ.set i (some (.ow d'))),?_,trivial,q⟩
  have eo:ownAt i ρ=some d:=by unfold ownAt;rw [e]
  rw [eo]
  simp only [e1,Oo,h1]
end
section
variable {l:List (Key×PV)}{t:List (List Key×PV)}{ks:List PV}{n:Int}{z:Str}{p:PV}
theorem dF_int:fP (.dk l) (.int n)=some (di l (.inl n)):=rfl
theorem dF_str:fP (.dk l) (.str z)=some (di l (.inr z)):=rfl
theorem dF_tup:fP (.dt t) (.tup ks)=(eG ks).map (di t):=rfl
theorem isD_dk:(PV.dk l).isD=true:=rfl
theorem isD_dt:(PV.dt t).isD=true:=rfl
end
section
variable {κ:Type} [DecidableEq κ]
theorem w5 (k j:κ) (p:PV):∀ l:List (κ×PV),di (iU l k p) j=if j=k then some p else di l j
 | []=>by
  unfold iU di
  by_cases h:k=j
  ·rw [if_pos h,if_pos h.symm]
  ·rw [if_neg h,if_neg (Za7 h)];rfl
 | (a,q)::l=>by
  have ih:=w5 k j p l
  unfold iU
  by_cases h:a=k
  ·rw [if_pos h]
   subst h
   unfold di
   by_cases h2:a=j
   ·rw [if_pos h2,if_pos h2.symm]
   ·rw [if_neg h2,if_neg (Za7 h2),if_neg h2]
    split
    ·rw [ih,if_neg (Za7 h2)]
    ·rfl
  ·rw [if_neg h]
   unfold di
   by_cases h2:a=j
   ·rw [if_pos h2,if_pos h2,if_neg (fun z=>h (h2.trans z))]
   ·rw [if_neg h2,if_neg h2,ih]
theorem DR (k:κ) (p:PV):∀ l:List (κ×PV),(iU l k p).length≤l.length+1
 | []=>by simp [iU]
 | (a,q)::l=>by
  have ih:=DR k p l
  unfold iU
  split
  ·split
   ·simp only [Zav];lia
   ·simp only [Zav];lia
  ·simp only [Zav];lia
end
section
variable {f g:Fn PV}{ρ:Rho}{Q:PV->Prop}{QS:Out->Prop}{i:Nat}{s:Sn}{p:PV}
theorem tv_still:Tv (wy f ρ) Q=Tv (f ρ) (fun p=>p.still=true∧Q p):=by
 unfold wy
 rw [tv_bnd]
 congr 1;funext p
 exact cC
theorem to_setD:To (wz i f ρ) QS=Tv (f ρ) (fun p=>QS (.nx (ρ.set i (some (.dp p))))):=by unfold wz;simp only [to_bnd,to_nx]
theorem to_retDp:To (tZ i ρ) QS=∃ p,ρ[i]?=some (some (.dp p))∧QS (.rd p):=by
 refine propext ⟨?_,fun ⟨p,e,q⟩=>⟨.rd p,by unfold tZ Ae;rw [e],trivial,q⟩⟩
 rintro ⟨r,e,c,q⟩
 unfold tZ at e
 split at e
 ·rename_i p hp;cases e;exact ⟨p,iJ hp,q⟩
 ·cases e
theorem finT_rd:Jr (some (.rd p))=some (.ok p):=rfl
theorem HJ {x:Option Out}{P:PV->Prop} (h:To x fun o=>∃ p,Jr (some o)=some (.ok p)∧P p):∃ p,Jr x=some (.ok p)∧P p:=by
 obtain ⟨o,e,_,q⟩:=h
 rw [e];exact q
theorem tv_zip {l m:List PV}{Q:List PV->Prop}:Tv (Lk [.lst l,.lst m]) Q=Q (Gh l m):=tv_some
end
section
variable {f g:Fn PV}{ρ:Rho}{Q:PV->Prop}{QS:Out->Prop}{i j:Nat}{s:Sn}{p:PV}{k:Rho->Prop}
theorem mD:∀ ns:List Int,nU (ns.map .int)=some ns
 | []=>rfl
 | n::ns=>by show (nU (ns.map .int)).map (n::·)=_;rw [mD ns];rfl
theorem tv_holdE:Tv (lY i f ρ) Q=∃ p,ρ[i]?=some (some (.sh p))∧p.isD=true∧Tv (f ρ) Q:=by
 refine propext ⟨?_,fun ⟨p,e,d,r,e2,q⟩=>⟨r,by unfold lY;rw [e];simp only;rw [if_pos d];exact e2,q⟩⟩
 rintro ⟨r,e,q⟩
 unfold lY at e
 split at e
 ·rename_i p hp
  split at e
  ·rename_i d;exact ⟨p,hp,d,r,e,q⟩
  ·cases e
 ·cases e
def HN (QS:Out->Prop):Out->Prop
 | .rd _=>False
 | o=>QS o
theorem holdQ_nx:HN QS (.nx ρ)=QS (.nx ρ):=rfl
theorem holdQ_rt:HN QS (.rt p)=QS (.rt p):=rfl
theorem holdQ_ro:HN QS (.ro p)=QS (.ro p):=rfl
theorem to_hold:To (yN i s ρ) QS=∃ p,ρ[i]?=some (some (.sh p))∧p.isD=true∧To (s ρ) (HN QS):=by
 refine propext ⟨?_,fun ⟨p,e,d,o,e2,c,q⟩=>⟨o,?_,c,?_⟩⟩
 ·rintro ⟨o,e,c,q⟩
  unfold yN at e
  split at e
  ·rename_i p hp
   split at e
   ·rename_i d
    refine ⟨p,hp,d,o,?_⟩
    split at e
    ·cases e
    ·rename_i x hx
     refine ⟨e,c,?_⟩
     cases o with
     | rd y=>exact (hx y e).elim
     | _=>exact q
   ·cases e
  ·cases e
 ·unfold yN
  rw [e]
  simp only
  rw [if_pos d,e2]
  cases o with
  | rd y=>exact q.elim
  | _=>rfl
 ·cases o with
  | rd y=>exact q.elim
  | _=>exact q
theorem to_io2 {m:List PV->Option (Res PV)}{f:Fn (List PV)}:To (Ju i j m f ρ) QS=∃ p q,ρ[i]?=some (some (.ow p))∧ρ[j]?=some (some (.ow q))∧Tv (f ρ) (fun l=>∃ p' q',m (p::q::l)=some (.ok (.tup [p',q']))∧QS (.nx ((ρ.set i (some (.ow p'))).set j (some (.ow q'))))):=by
 refine propext ⟨fun h=>?_,?_⟩
 ·unfold Ju at h
  rw [to_bnd] at h
  obtain ⟨l,e,o,e2,c,h⟩:=h
  unfold uU at e
  split at e
  ·rename_i p q h1 h2
   rcases bQ e with ⟨z,_,e3⟩ | ⟨l',e3,e4⟩
   ·cases e3
   ·cases e4
    split at e2
    ·rename_i p' q' hm
     cases e2
     exact ⟨p,q,bG h1,bG h2,l',e3,p',q',hm,h⟩
    ·cases e2
  ·cases e
 ·rintro ⟨p,q,e1,e2,l,e3,p',q',e4,h⟩
  have o1:ownAt i ρ=some p:=by unfold ownAt;rw [e1]
  have o2:ownAt j ρ=some q:=by unfold ownAt;rw [e2]
  refine ⟨.nx ((ρ.set i (some (.ow p'))).set j (some (.ow q'))),?_,trivial,h⟩
  unfold Ju uU
  rw [o1,o2]
  simp only [e3,bnd,ik,e4]
theorem tv_callT {m:List PV->Option (Res PV)}{f:Fn (List PV)}:Tv (Ag m f ρ) Q=Tv (f ρ) (fun l=>Tv (m l) Q):=by
 unfold Ag
 rw [tv_bnd]
 congr 1;funext l
 refine propext ⟨?_,fun ⟨r,e,q⟩=>⟨r,by rw [e],q⟩⟩
 rintro ⟨r,e,q⟩
 split at e
 ·rename_i p hp;cases e;exact ⟨_,hp,q⟩
 ·cases e
theorem to_frzD:To (uy i s ρ) QS=∃ p,ρ[i]?=some (some (.dp p))∧To (s (ρ.set i (some (.sh p)))) QS:=by
 refine propext ⟨?_,fun ⟨p,e,r,e2,q⟩=>⟨r,by unfold uy Ae;rw [e];exact e2,q⟩⟩
 rintro ⟨r,e,q⟩
 unfold uy at e
 split at e
 ·rename_i p hp;exact ⟨p,iJ hp,r,e,q⟩
 ·cases e
theorem tv_ownD:Tv (pL i ρ) Q=∃ p,ρ[i]?=some (some (.ow p))∧p.mj=true∧Q p:=by
 refine propext ⟨?_,fun ⟨p,e,h,q⟩=>⟨p,by unfold pL ownAt;rw [e];simp only;rw [if_pos h],q⟩⟩
 rintro ⟨r,e,q⟩
 unfold pL at e
 split at e
 ·rename_i p hp
  split at e
  ·rename_i h;cases e;exact ⟨_,bG hp,h,q⟩
  ·cases e
 ·cases e
theorem to_retT {f:Fn (List PV)}:To (Dc f ρ) QS=Tv (f ρ) (fun l=>l.length≤sizeLine∧QS (.rd (.tup l))):=by
 unfold Dc
 rw [to_bnd]
 congr 1;funext l
 by_cases h:l.length≤sizeLine
 ·rw [if_pos h,to_rd];simp [h]
 ·rw [if_neg h,An];simp [h]
theorem zc {x:Option Out}{P:PV->Prop} (h:To x fun o=>∃ p,wA (some o)=some (.ok p)∧P p):∃ p,wA x=some (.ok p)∧P p:=by
 obtain ⟨o,e,_,q⟩:=h
 rw [e];exact q
end
section
variable {f:Fn PV}{ρ:Rho}{Q:PV->Prop}{QS:Out->Prop}{i:Nat}
end
def qw:Sn :=
 (jb (m2 b7 (m2 dD (m2 cQ (mV 1) (mC (.int 1))) (m2 cQ (mV 0) (mC (.int 0)))) (m2 cQ (mV 1) (mC (.int 0)))))
def iu:List PV->Option (Res PV)
 | [a0,a1]=>fin (qw (startR [a0,a1] 0))
 | _=>none
def qx:Sn :=
 (jb (m2 jd (m2 jK (m2 pK (mV 1) (bR iu (aB (mV 0) (aB (mV 2) bF)))) (mC (.int 1))) (mC (.int 1))))
def iw:List PV->Option (Res PV)
 | [a0,a1,a2]=>fin (qx (startR [a0,a1,a2] 0))
 | _=>none
def ou:Sn :=
 (pJ (jh (m1 qg (aB (m2 dD (m2 cQ (mV 0) (mC (.int 0))) (m2 cQ (mV 0) (mC (.int 1)))) bF)) [none,some 0] (gN 0) tX (pD (aB (m2 iQ (mV 0) (m2 cQ (mV 1) (mC (.int 0)))) (aB (m2 vV (mV 0) (m2 cQ (mV 1) (mC (.int 0)))) bF)))))
def jV:List PV->Option (Res PV)
 | [a0]=>ql (ou (startR [a0] 0))
 | _=>none
def w6:Sn :=
 (cA (m2 Jl (mV 2) (m2 qY (mC (.int 1)) (bR iu (aB (mV 0) (aB (mV 3) bF))))) (gN 2))
def xf:Sn :=
 (jb (mV 2))
def xg:Sn :=
 (bj (cA (mC (.int 0)) (gN 2))
   (bj (pF (m1 mZ (mV 1)) (gN 3)
    w6)
   xf))
def rT:List PV->Option (Res PV)
 | [a0,a1]=>fin (xg (startR [a0,a1] 2))
 | _=>none
def qy:Sn :=
 (pJ (jh (m1 mZ (bR jV (aB (mV 0) bF))) [none,some 0,some 1] (gN 0) (m1 dJ (bR iw (aB (mV 1) (aB (mV 2) (aB (mV 0) bF))))) (mV 0)))
def gh:List PV->Option (Res PV)
 | [a0,a1]=>ql (qy (startR [a0,a1] 0))
 | _=>none
def xm:Sn :=
 (Dc (aB (wy (mV 7)) (aB (pL 3) (aB (pL 4) bF))))
def xn:Sn :=
 (FN 3 (m2 j6 (fC 1) (mV 7)))
def xq:Sn :=
 (bj (ux 4 (mV 6) (mV 7))
     (bj (j5 (m1 dJ (m2 kZ (mV 7) (fC 1)))
      xm
      gq)
     xn))
def xr:Sn :=
 (bj (j5 (m1 dJ (m2 CN (mV 7) (fC 4)))
      Kw
      gq)
     xq)
def xu:Sn :=
 (cA (m2 b7 (mV 5) (mC (.int 1))) (gN 5))
def xx:Sn :=
 (bj (cA (m2 KQ (qj 3) (mV 5)) (gN 6))
    (bj (pF (m1 mZ (m2 j6 (fC 0) (mV 6))) (gN 7)
     xr)
    xu))
def xF:Sn :=
 (Dc (aB (wy (mC .non)) (aB (pL 3) (aB (pL 4) bF))))
def xG:Sn :=
 (bj (qX 3 (m1 FW (qj 2)))
   (bj (qX 4 wk)
   (bj (cA (mC (.int 0)) (gN 5))
   (bj (gr (m1 dJ (m2 Cw (mV 5) (m1 nT (mVL 3))))
    xx 2000)
   xF))))
def jB:List PV->Option (Res PV)
 | [a0,a1,a2]=>Jr (xG (startR [a0,a1,a2] 5))
 | _=>none
def pQ:Sn :=
 (bj (cA (m2 j6 (fC 2) (mV 4)) (gN 5))
    (bj (cA (Ac (fC 0) (mV 5)) (gN 6))
    (bj (ux 0 (mV 4) (mV 5))
    (bj (ux 1 (mV 5) (mV 4))
    (cA (mV 6) (gN 4))))))
def iW:Sn :=
 (bj (cA (mV 3) (gN 4))
   (gr (m1 dJ (m2 FP (mVL 4) (mC .non)))
    pQ 2000))
def eQ:List PV->Option (Res PV)
 | [a0,a1,a2,a3]=>wA (iW (eO [a0,a1,a2,a3] 3))
 | _=>none
def oA:Sn :=
 (bj (wz 4 (Ag jB (aB (mVL 0) (aB (mVL 2) (aB (yc (aB (mV 3) bF)) bF)))))
    (uy 4 (Ju 1 2 eQ (aB (m2 cQ (mV 4) (mC (.int 2))) (aB (m2 cQ (mV 4) (mC (.int 0))) bF)))))
def oE:Sn :=
 (nJ 1)
def mG:Sn :=
 (bj (qX 1 wk)
   (bj (qX 2 wk)
   (bj (yN 0 (pF (m1 rQ (mV 0)) (gN 3)
    oA))
   oE)))
def gB:List PV->Option (Res PV)
 | [a0]=>ql (mG (startR [a0] 4))
 | _=>none
def gC:Sn :=
 (bj (cA (m1 (rC (.dt [])) (rm (lY 1 (jh (m1 rR (mV 1)) [none,none] (gT 2 (gsCons (gN 0) (gsCons (gN 1) gsNil))) tX (pD (aB (mV 1) (aB (mV 0) bF))))))) (gN 2))
   (bj (wz 3 (bR jB (aB (mV 0) (aB (mV 2) (aB (lY 0 (jh (m1 rQ (mV 0)) [none,some 1] (gN 0) (m1 dJ (m2 kZ (mV 0) (fC 1))) (mV 0))) bF)))))
   (uy 3 (jb (pD (aB (m1 o9 (rm (m2 cQ (mV 3) (mC (.int 1))))) (aB (m1 wU (Ab (m2 cQ (mV 3) (mC (.int 2))))) bF)))))))
def d9:List PV->Option (Res PV)
 | [a0,a1]=>fin (gC (startR [a0,a1] 2))
 | _=>none
def mH:Sn :=
 (jb (mIf (m1 dJ (m2 jd (mVL 1) (mC (.str "row")))) (m2 cQ (mV 0) (mC (.int 1))) (m2 cQ (mV 0) (mC (.int 0)))))
def mJ:List PV->Option (Res PV)
 | [a0,a1]=>fin (mH (startR [a0,a1] 0))
 | _=>none
def jW:Sn :=
 (jb (mIf (m1 dJ (m2 jd (mVL 1) (mC (.str "row")))) (m2 cQ (mV 0) (mC (.int 0))) (m2 cQ (mV 0) (mC (.int 1)))))
def jX:List PV->Option (Res PV)
 | [a0,a1]=>fin (jW (startR [a0,a1] 0))
 | _=>none
def lC:Sn :=
 (pJ (jh (m1 tW (aB (m2 cQ (mV 0) (mC (.int 2))) (aB (m2 b7 (m2 cQ (mV 0) (mC (.int 3))) (mC (.int 1))) bF))) [none,some 0] (gN 0) tX (pD (aB (mV 0) (aB (m2 cQ (mV 1) (mC (.int 1))) bF)))))
def lD:Sn :=
 (pJ (jh (m1 tW (aB (m2 cQ (mV 0) (mC (.int 2))) (aB (m2 b7 (m2 cQ (mV 0) (mC (.int 3))) (mC (.int 1))) bF))) [none,some 0] (gN 0) tX (pD (aB (m2 cQ (mV 1) (mC (.int 1))) (aB (mV 0) bF)))))
def gD:Sn :=
 (bj (j5 (m1 dJ (m2 jd (m2 cQ (mV 0) (mC (.int 0))) (mC (.str "row"))))
    lC
    gq)
   lD)
def dN:List PV->Option (Res PV)
 | [a0]=>ql (gD (startR [a0] 0))
 | _=>none
def eE:Sn :=
 (bj (cA (m2 jg (bR jX (aB (mV 0) (aB (mV 2) bF))) (mC (.int 1))) (gN 4))
   (bj (cA (bR dN (aB (pD (aB (mV 2) (aB (mV 3) (aB (mC (.int 0)) (aB (mV 4) bF))))) bF)) (gN 5))
   (bj (cA (m2 yK (rm (m2 yK (rm (yc (aB (m1 K8 (mC (.int 1))) bF))) (rm (jh (m1 FT (aB (mV 5) bF)) [none,none,some 0,some 1] (gT 2 (gsCons (gN 0) (gsCons (gN 1) gsNil))) (m1 dJ (bR iw (aB (mV 2) (aB (mV 3) (aB (mV 1) bF))))) (mV 0))))) (rm (yc (aB (m2 b7 (mV 4) (mC (.int 1))) bF)))) (gN 6))
   (pJ (jh (m1 Lk (aB (mV 6) (aB (Jm (qj 6) (m1 asInt (mC (.int 1))) mPn) bF))) [none,none,some 2,some 3] (gT 2 (gsCons (gN 0) (gsCons (gN 1) gsNil))) (m1 dJ (m2 Cw (m2 b7 (mV 0) (mC (.int 1))) (mV 1))) (pD (aB (mV 2) (aB (mV 3) (aB (m2 b7 (mV 0) (mC (.int 1))) (aB (m2 jg (mV 1) (mC (.int 1))) bF))))))))))
def eF:List PV->Option (Res PV)
 | [a0,a1,a2,a3]=>ql (eE (startR [a0,a1,a2,a3] 3))
 | _=>none
def ji:Sn :=
 (ux 3 (mV 5) (mV 6))
def jj:Sn :=
 (pF (m1 mZ (bR dN (aB (mV 5) bF))) (gN 6)
      ji)
def jk:Sn :=
 (pF (m1 mZ (bR eF (aB (mV 0) (aB (mV 1) (aB (mV 2) (aB (mV 4) bF)))))) (gN 5)
     jj)
def jm:Sn :=
 (nJ 3)
def gF:Sn :=
 (bj (qX 3 wk)
   (bj (pF (m1 qg (aB (bR mJ (aB (mV 0) (aB (mV 2) bF))) bF)) (gN 4)
    jk)
   jm))
def cL:List PV->Option (Res PV)
 | [a0,a1,a2]=>ql (gF (startR [a0,a1,a2] 4))
 | _=>none
def pR:Sn :=
 (rN 5 (m2 j6 (fC 3) (mV 6)) (m2 j6 (fC 4) (mV 6)))
def pU:Sn :=
 (tZ 5)
def oF:Sn :=
 (bj (cA (bR cL (aB (mV 0) (aB (mV 2) (aB (mC (.str "row")) bF)))) (gN 3))
   (bj (cA (bR cL (aB (mV 0) (aB (mV 2) (aB (mC (.str "column")) bF)))) (gN 4))
   (bj (wz 5 (QV wk))
   (bj (pF (m1 mZ (bR gh (aB (mV 0) (aB (mV 1) bF)))) (gN 6)
    pR)
   pU))))
def iY:List PV->Option (Res PV)
 | [a0,a1,a2]=>Jr (oF (startR [a0,a1,a2] 4))
 | _=>none
def qz:Sn :=
 Ga
def jC:Sn :=
 (bj (wz 4 (bR iY (aB (mV 0) (aB (mV 1) (aB (mV 2) bF)))))
   (bj (uy 4 (cA (bR gB (aB (mV 4) bF)) (gN 5)))
   (bj (cA (bR d9 (aB (mV 4) (aB (mV 5) bF))) (gN 6))
   (bj (cA (m2 yK (rm (lY 4 (jh (m1 rQ (mV 4)) [none,some 6] (gN 0) (m1 dJ (m2 lU (mVL 0) (m2 cQ (mV 1) (mC (.int 0))))) (mV 0)))) (rm (m2 cQ (mV 6) (mC (.int 1))))) (gN 7))
   (bj (cA (bR rT (aB (mV 0) (aB (lY 5 (jh (m1 rR (mV 5)) [none,none] (gT 2 (gsCons (gN 0) (gsCons (gN 1) gsNil))) tX (pD (aB (m2 cQ (mV 1) (mC (.int 1))) (aB (m2 cQ (mV 0) (mC (.int 1))) bF))))) bF))) (gN 8))
   (jb (pD (aB (m1 o9 (qj 7)) (aB (bR gh (aB (mV 0) (aB (mV 8) bF))) bF)))))))))
def fH:Sn :=
 (bj (cA (bR gh (aB (mV 0) (aB (m2 jK (mV 1) (mV 2)) bF))) (gN 3))
   (bj (j5 (m1 dJ (m2 Cv (m1 nT (mVL 3)) (mC (.int 0))))
    qz
    gq)
   jC))
def fJ:List PV->Option (Res PV)
 | [a0,a1,a2]=>fin (fH (startR [a0,a1,a2] 6))
 | _=>none
def pW:Sn :=
 (jb (m2 cQ (mV 0) (mV 1)))
def pX:Sn :=
 (cA (m2 b7 (mV 2) (m2 iQ (m2 cQ (mV 0) (m2 iQ (m2 dD (mV 1) (mC (.int 7))) (m1 nT (mVL 0)))) (mC (.int 2147483629)))) (gN 2))
def j9:Sn :=
 (jb (m2 iQ (m2 dD (mV 2) (mV 2)) (mC (.int 2147483629))))
def pY:Sn :=
 (bj (cA (m2 b7 (m2 dD (mV 1) (mV 1)) (mC (.int 7919))) (gN 2))
   (bj (j5 (m1 dJ (m2 Cv (m1 nT (mVL 0)) (mC (.int 0))))
    pX
    gq)
   j9))
def oG:Sn :=
 (bj (j5 (m1 dJ (m2 Cw (mV 1) (m1 nT (mVL 0))))
    pW
    gq)
   pY)
def eU:List PV->Option (Res PV)
 | [a0,a1]=>fin (oG (startR [a0,a1] 1))
 | _=>none
def oH:Sn :=
 (jb (m2 jK (m2 pK (mV 0) (m2 dD (mC (.int 31)) (mV 1))) (mC (.int 2147483647))))
def oJ:Sn :=
 (bj (cA (m2 iQ (m2 dD (m2 b7 (m2 b7 (m2 b7 (m2 iQ (mV 0) (mC (.int 2147483629))) (m2 dD (m2 dD (mC (.int 7919)) (mV 1)) (mV 1))) (mV 1)) (mC (.int 13))) (mC (.int 48271))) (mC (.int 2147483587))) (gN 2))
   (bj (cA (m2 iQ (m2 dD (mV 2) (mV 2)) (mC (.int 2147483629))) (gN 2))
   (jb (m2 iQ (m2 dD (m2 b7 (mV 2) (mV 1)) (mC (.int 69621))) (mC (.int 2147483563))))))
def mK:Sn :=
 (bj (j5 (m1 dJ (m2 Ou (mV 0) (m2 GX (mC (.int 10)) (mC (.int 18)))))
    oH
    gq)
   oJ)
def cu:List PV->Option (Res PV)
 | [a0,a1]=>fin (mK (startR [a0,a1] 1))
 | _=>none
def rW:Sn :=
 (cA (m2 b7 (m2 dD (mV 4) (mC (.int 2147483587))) (bR cu (aB (mV 1) (aB (m2 b7 (m2 dD (mC (.int 30)) (mV 2)) (mV 5)) bF)))) (gN 4))
def rY:Sn :=
 (jb (m2 jg (m2 qY (mC (.int 1)) (mV 3)) (mC (.int 1))))
def rZ:Sn :=
 (jb (mC (.int 0)))
def sr:Sn :=
 (jb (mV 4))
def su:Sn :=
 (bj (j5 (m1 dJ (m2 jd (mVL 6) (mC (.int 2))))
    rZ
    gq)
   sr)
def sE:Sn :=
 (bj (cA (m2 iQ (mV 4) (m2 qY (mC (.int 1)) (mV 3))) (gN 4))
   (bj (cA (m2 iQ (bR cu (aB (mV 1) (aB (m2 b7 (m2 dD (mC (.int 30)) (mV 2)) (mC (.int 29))) bF))) (mC (.int 8))) (gN 6))
   (bj (j5 (m1 dJ (m2 jd (mVL 6) (mC (.int 1))))
    rY
    gq)
   su)))
def mL:Sn :=
 (bj (cA (m2 dD (m2 cQ (mV 0) (mC (.int 0))) (m2 cQ (mV 0) (mC (.int 1)))) (gN 3))
   (bj (cA (mC (.int 0)) (gN 4))
   (bj (pF (m1 qg (aB (m2 b7 (mC (.int 1)) (m2 vV (mV 3) (mC (.int 30)))) bF)) (gN 5)
    rW)
   sE)))
def gj:List PV->Option (Res PV)
 | [a0,a1,a2]=>fin (mL (startR [a0,a1,a2] 4))
 | _=>none
def lE:Sn :=
 (cA (m2 jK (mV 3) (bR gj (aB (mV 0) (aB (m2 b7 (mV 1) (mC (.int 1))) (aB (m2 dD (mC (.int 2)) (mV 2)) bF))))) (gN 3))
def lF:Sn :=
 (pJ (yc (aB (m2 jg (m2 jg (m2 qY (mC (.int 1)) (m2 dD (m2 cQ (mV 0) (mC (.int 0))) (m2 cQ (mV 0) (mC (.int 1))))) (mC (.int 1))) (mV 3)) (aB (mV 3) bF))))
def lG:Sn :=
 (pJ (yc (aB (m2 jg (mV 4) (m2 jK (mV 4) (mV 3))) (aB (mV 3) bF))))
def iy:Sn :=
 (bj (j5 (m1 dJ (m2 jd (m2 iQ (m2 vV (mV 5) (mC (.int 3))) (mC (.int 3))) (mC (.int 0))))
    lF
    gq)
   lG)
def gG:Sn :=
 (bj (cA (bR gj (aB (mV 0) (aB (mV 1) (aB (m2 dD (mC (.int 2)) (mV 2)) bF)))) (gN 3))
   (bj (cA (bR gj (aB (mV 0) (aB (mV 1) (aB (m2 b7 (m2 dD (mC (.int 2)) (mV 2)) (mC (.int 1))) bF)))) (gN 4))
   (bj (cA (bR cu (aB (mV 1) (aB (m2 b7 (mC (.int 400)) (mV 2)) bF))) (gN 5))
   (bj (j5 (m1 dJ (m2 jd (m2 iQ (mV 5) (mC (.int 3))) (mC (.int 0))))
    lE
    gq)
   iy))))
def eV:List PV->Option (Res PV)
 | [a0,a1,a2]=>ql (gG (startR [a0,a1,a2] 3))
 | _=>none
def sG:Sn :=
 (cA (m2 jg (mV 5) (mC (.int 1))) (gN 5))
def sI:Sn :=
 (cA (m2 b7 (mV 6) (mC (.int 1))) (gN 6))
def sJ:Sn :=
 (jb (pD (aB (mC (.str "row")) (aB (mV 4) (aB (mV 5) (aB (mV 6) bF))))))
def sO:Sn :=
 (bj (cA (mV 3) (gN 6))
    (bj (gr (Cp (m1 dJ (m2 Cw (m2 b7 (mV 6) (mC (.int 1))) (m2 cQ (mV 0) (mC (.int 0))))) (m1 dJ (m2 jd (m2 jK (m2 pK (mV 1) (m2 b7 (m2 b7 (m2 dD (mV 4) (m2 cQ (mV 0) (mC (.int 0)))) (mV 6)) (mC (.int 1)))) (mC (.int 1))) (mC (.int 0)))))
     sI 30)
    sJ))
def sS:Sn :=
 (bj (cA (mV 3) (gN 5))
    (bj (gr (Cp (m1 dJ (m2 Cv (mV 5) (mC (.int 0)))) (m1 dJ (m2 jd (m2 jK (m2 pK (mV 1) (m2 jg (m2 b7 (m2 dD (mV 4) (m2 cQ (mV 0) (mC (.int 0)))) (mV 5)) (mC (.int 1)))) (mC (.int 1))) (mC (.int 0)))))
     sG 30)
    sO))
def sU:Sn :=
 (cA (m2 jg (mV 5) (mC (.int 1))) (gN 5))
def sV:Sn :=
 (cA (m2 b7 (mV 6) (mC (.int 1))) (gN 6))
def sW:Sn :=
 (jb (pD (aB (mC (.str "column")) (aB (mV 3) (aB (mV 5) (aB (mV 6) bF))))))
def sX:Sn :=
 (bj (cA (mV 4) (gN 6))
   (bj (gr (Cp (m1 dJ (m2 Cw (m2 b7 (mV 6) (mC (.int 1))) (m2 cQ (mV 0) (mC (.int 1))))) (m1 dJ (m2 jd (m2 jK (m2 pK (mV 1) (m2 b7 (m2 dD (m2 b7 (mV 6) (mC (.int 1))) (m2 cQ (mV 0) (mC (.int 0)))) (mV 3))) (mC (.int 1))) (mC (.int 0)))))
    sV 30)
   sW))
def pZ:Sn :=
 (bj (cA (mV 4) (gN 5))
   (bj (gr (Cp (m1 dJ (m2 Cv (mV 5) (mC (.int 0)))) (m1 dJ (m2 jd (m2 jK (m2 pK (mV 1) (m2 b7 (m2 dD (m2 jg (mV 5) (mC (.int 1))) (m2 cQ (mV 0) (mC (.int 0)))) (mV 3))) (mC (.int 1))) (mC (.int 0)))))
    sU 30)
   sX))
def iz:Sn :=
 (bj (j5 (m1 dJ (m2 jd (mVL 2) (mC (.str "row"))))
    sS
    gq)
   pZ)
def dU:List PV->Option (Res PV)
 | [a0,a1,a2,a3,a4]=>fin (iz (startR [a0,a1,a2,a3,a4] 2))
 | _=>none
def lH:Sn :=
 (FN 2 (mV 6))
def iB:Sn :=
 (bj (cA (bR dU (aB (mV 0) (aB (mV 1) (aB (mV 5) (aB (mV 4) (aB (mV 3) bF)))))) (gN 6))
       (j5 (m1 dJ (m2 lU (mVL 6) (mVL 2)))
        lH
        gq))
def lJ:Sn :=
 (pF (m1 mZ (pD (aB (mC (.str "row")) (aB (mC (.str "column")) bF)))) (gN 5)
       iB)
def iC:Sn :=
 (j5 (m1 dJ (m2 jd (m2 jK (m2 pK (mV 1) (m2 b7 (m2 dD (mV 3) (m2 cQ (mV 0) (mC (.int 0)))) (mV 4))) (mC (.int 1))) (mC (.int 0))))
      lJ
      gq)
def lK:Sn :=
 (pF (m1 qg (aB (m2 cQ (mV 0) (mC (.int 0))) bF)) (gN 4)
     iC)
def lL:Sn :=
 (nJ 2)
def gH:Sn :=
 (bj (qX 2 (yc bF))
   (bj (pF (m1 qg (aB (m2 cQ (mV 0) (mC (.int 1))) bF)) (gN 3)
    lK)
   lL))
def eY:List PV->Option (Res PV)
 | [a0,a1]=>ql (gH (startR [a0,a1] 5))
 | _=>none
def m5:Sn :=
 (cA (m2 Jl (mV 6) (m2 qY (mC (.int 1)) (m2 b7 (m2 dD (mV 3) (m2 cQ (mV 0) (mC (.int 0)))) (mV 7)))) (gN 6))
def m6:Sn :=
 (cA (m2 Jl (mV 6) (m2 qY (mC (.int 1)) (m2 b7 (m2 dD (mV 7) (m2 cQ (mV 0) (mC (.int 0)))) (mV 3)))) (gN 6))
def m7:Sn :=
 (j5 (m1 dJ (m2 jd (mVL 2) (mC (.str "row"))))
     m5
     m6)
def m8:Sn :=
 (jb (mV 6))
def iK:Sn :=
 (bj (cA (mV 1) (gT 4 (gsCons (gN 2) (gsCons (gN 3) (gsCons (gN 4) (gsCons (gN 5) gsNil))))))
   (bj (cA (mC (.int 0)) (gN 6))
   (bj (pF (m1 tW (aB (mV 4) (aB (m2 b7 (mV 5) (mC (.int 1))) bF))) (gN 7)
    m7)
   m8)))
def fV:List PV->Option (Res PV)
 | [a0,a1]=>fin (iK (startR [a0,a1] 6))
 | _=>none
def sY (bN:List PV->Option (Res PV)):Sn :=
 (jb (mC (.bl true)))
def mO (bN:List PV->Option (Res PV)):Sn :=
 (jb (mC (.bl false)))
def mQ (bN:List PV->Option (Res PV)):Sn :=
 (jb (Oj (bR bN (aB (Jm (qj 0) (m1 asInt (mC (.int 1))) mPn) (aB (m2 jg (mV 1) (m2 jK (mV 1) (m2 cQ (mV 0) (mC (.int 0))))) (aB (m2 jg (mV 2) (mC (.int 1))) bF)))) (bR bN (aB (Jm (qj 0) (m1 asInt (mC (.int 1))) mPn) (aB (mV 1) (aB (mV 2) bF))))))
def sZ (bN:List PV->Option (Res PV)):Sn :=
 (bj (j5 (mOr (m1 dJ (m2 jd (mVL 2) (mC (.int 0)))) (m1 dJ (m2 jd (mVL 0) (yc bF))))
    (mO bN)
    gq)
   (mQ bN))
def mR (bN:List PV->Option (Res PV)):Sn :=
 (bj (j5 (m1 dJ (m2 jd (mVL 1) (mC (.int 0))))
    (sY bN)
    gq)
   (sZ bN))
def eZ:Nat->List PV->Option (Res PV)
 | 0=>fun _=>none
 | n+1=>fun ps=>match ps with
  | [a0,a1,a2]=>fin (mR (eZ n) (startR [a0,a1,a2] 0))
  | _=>none
def bN:List PV->Option (Res PV):=eZ 40
def Qa:Sn :=
 (jb (mC (.bl false)))
def Ar:Sn :=
 (bj (cA (bR eV (aB (mV 2) (aB (bR eU (aB (mV 0) (aB (mV 3) bF))) (aB (mV 3) bF)))) (gL 2 (gsCons (gN 4) (gsCons (gN 5) gsNil))))
    (bj (cA (m1 nT (m2 cQ (bR fJ (aB (mV 2) (aB (mV 4) (aB (mV 5) bF)))) (mC (.int 0)))) (gN 6))
    (bj (cA (jh (m1 mZ (bR eY (aB (mV 2) (aB (mV 5) bF)))) [none,some 2] (gN 0) tX (bR fV (aB (mV 1) (aB (mV 0) bF)))) (gN 7))
    (j5 (mOr (Cp (m1 dJ (m2 Cv (mV 6) (mC (.int 0)))) (m1 dJ (bR bN (aB (mV 7) (aB (mV 4) (aB (m2 jg (mV 6) (mC (.int 1))) bF)))))) (Ol (m1 dJ (bR bN (aB (mV 7) (aB (mV 4) (aB (mV 6) bF)))))))
     Qa
     gq))))
def HQ:Sn :=
 (jb (mC (.bl true)))
def HR:Sn :=
 (bj (cA (bR cu (aB (bR eU (aB (mV 0) (aB (mC (.int 1)) bF))) (aB (mC (.int 9)) bF))) (gN 1))
   (bj (cA (pD (aB (m2 b7 (mC (.int 1)) (m2 iQ (mV 1) (mC (.int 3)))) (aB (m2 b7 (mC (.int 1)) (m2 iQ (m2 vV (mV 1) (mC (.int 3))) (mC (.int 3)))) bF))) (gN 2))
   (bj (pF (m1 tW (aB (mC (.int 2)) (aB (m2 K6 (mC (.int 3)) (m2 K7 (m1 nT (mVL 0)) (mC (.int 10)))) bF))) (gN 3)
    Ar)
   HQ)))
def zf:List PV->Option (Res PV)
 | [a0]=>fin (HR (startR [a0] 7))
 | _=>none
local macro_rules | `(tactic| walk_at "rd")=>do
 let ids:=("onNx_nx onNx_rt onNx_ro onNx_rd onNx_bk onNx_ct tv_some to_nx to_rt to_ro to_rd to_bk to_ct tv_ite to_ite turn_nx turn_ct turn_bk turn_rt turn_ro turn_rd tv_bnd to_bnd to_seq tv_m2 tv_m1 tv_var tv_lend tv_c tv_view tv_viewN tv_asLst tv_nil tv_cons tv_tup tv_lst tv_call tv_mIf tv_mAnd tv_mOr tv_mNot tv_or tv_comp tv_compN tv_compC tv_yes to_next to_cont to_ret to_retO to_hold to_frzD to_retT tv_ownD tv_callT holdQ_nx holdQ_rt holdQ_ro tv_holdE to_io2 to_setO to_setD to_retDp tv_still to_asgN to_asg to_if to_for to_retOw to_app tv_neg tv_viewD tv_viewDN tv_dget1 tv_opDGet tv_opDIn tv_opDNotIn tv_dictP tv_newT to_dput dF_int dF_str dF_tup isD_dk isD_dt is_dk_int is_dk_str finIO_nx to_never tv_sub tv_and' tv_or' tv_gt tv_ge tv_div tv_mod tv_pow tv_shl tv_shr tv_add tv_addS tv_addT tv_mul tv_mulS tv_lt tv_ltS tv_eqI tv_eqS tv_eq tv_notin tv_notN tv_ixL tv_ixT tv_ixV tv_ixS tv_lenS tv_lenL tv_lenT tv_asBl tv_max tv_min tv_list tv_cat tv_asSeqL tv_asSeqT tv_asSeqS tv_rng1 tv_rng2 tv_enum tv_zip tv_pn tv_asInt tv_slL startR fin_nx fin_rt finO_ro finT_rd gN gT gsCons gsNil szP cellP List.map_cons List.map_nil List.replicate_succ List.replicate_zero List.cons_append List.nil_append List.append_nil List.getElem?_cons_zero List.getElem?_cons_succ List.set_cons_zero List.set_cons_succ List.length_cons List.length_nil Nat.zero_le true_and and_true Option.some.injEq Sl.sh.injEq Sl.ow.injEq Sl.dp.injEq Res.ok.injEq PV.int.injEq PV.str.injEq PV.bl.injEq PV.lst.injEq PV.tup.injEq exists_eq_left' exists_eq_left exists_eq and_assoc exists_and_left if_true if_false not_true_eq_false not_false_eq_true Bool.false_eq_true Bool.not_true Bool.not_false decide_eq_true_eq Bool.not_eq_true' decide_eq_false_iff_not reduceCtorEq is_non_int is_non_bool is_non_str is_non_list is_non_tuple is_non_dict is_bl_int is_bl_bool is_bl_str is_bl_list is_bl_tuple is_bl_dict is_int_int is_int_bool is_int_str is_int_list is_int_tuple is_int_dict is_str_int is_str_bool is_str_str is_str_list is_str_tuple is_str_dict is_tup_int is_tup_bool is_tup_str is_tup_list is_tup_tuple is_tup_dict is_lst_int is_lst_bool is_lst_str is_lst_list is_lst_tuple is_lst_dict Int.reduceAdd Int.reduceSub Int.reduceMul Int.reduceNeg Int.reduceToNat atI_0 atI_1 atI_2 atI_3 snocI snocS snocC eqF_int eqF_str eqF_bl frR shOnly".splitOn " ").toArray.map fun s=>Lean.mkIdent s.toName
 `(tactic| simp (maxSteps:=2000000) only [$[$ids:ident],*])
structure Sz (w h:Int):Prop where
 w0:1≤w
 w1:w≤24
 h0:1≤h
 h1:h≤24
theorem Sz.mul {w h:Int} (s:Sz w h):1≤w * h∧w * h≤576:=by
 obtain ⟨a,b,c,d⟩:=s
 have e1:1 * 1≤w * h:=Int.mul_le_mul a c (by decide) (by lia)
 have e2:w * h≤24 * 24:=Int.mul_le_mul b d (by lia) (by decide)
 lia
theorem Sz.at {w h c r:Int} (_:Sz w h) (c0:0≤c) (c1:c < w) (r0:0≤r) (r1:r < h):0≤r * w+c∧r * w+c < w * h:=by
 have e1:0≤r * w:=Int.mul_nonneg r0 (by lia)
 have e2:(r+1) * w≤h * w:=Int.mul_le_mul_of_nonneg_right (by lia) (by lia)
 rw [Int.add_mul,Int.one_mul] at e2
 rw [Int.mul_comm w h]
 lia
theorem Sz.nat {w h:Int} (s:Sz w h):w.toNat * h.toNat=(w * h).toNat∧w.toNat * h.toNat≤576:=by
 have hm:=s.mul
 obtain ⟨a,b,c,d⟩:=s
 obtain ⟨x,rfl⟩:=ZaT (show 0≤w by omega)
 obtain ⟨y,rfl⟩:=ZaT (show 0≤h by omega)
 have e:(x:Int) * (y:Int)=((x * y:Nat):Int):=by simp
 rw [e] at hm ⊢
 simp only [ZaG]
 have h2:((x * y:Nat):Int)≤((576:Nat):Int):=hm.2
 exact ⟨trivial,Int.ofNat_le.mp h2⟩
structure Cell (w h c r:Int):Prop where
 c0:0≤c
 c1:c < w
 r0:0≤r
 r1:r < h
theorem Cell.inR {w h c r:Int} (z:Cell w h c r):Mth.InR w.toNat h.toNat (c,r):=⟨z.c0,by have:=z.c1;show c < (w.toNat:Int);omega,z.r0,by have:=z.r1;show r < (h.toNat:Int);omega⟩
theorem Cell.of {w h:Int}{c:Int×Int} (z:Mth.InR w.toNat h.toNat c):Cell w h c.1 c.2:=⟨z.c0,by have:=z.c1;have:=z.c0;lia,z.r0,by have:=z.r1;have:=z.r0;lia⟩
theorem Cell.pl {w h c r:Int} (z:Cell w h c r):(r * w+c).toNat=Mth.pl w.toNat (c,r)∧0≤r * w+c:=by
 obtain ⟨c0,c1,r0,r1⟩:=z
 obtain ⟨a,rfl⟩:=ZaT c0
 obtain ⟨b,rfl⟩:=ZaT r0
 obtain ⟨v,rfl⟩:=ZaT (show 0≤w by omega)
 unfold Mth.pl
 simp only [ZaG]
 have e:(b:Int) * (v:Int)+(a:Int)=((b * v+a:Nat):Int):=by simp
 rw [e,ZaG]
 exact ⟨rfl,Za3 _⟩
theorem Gu {w:Int} (hw:1≤w) (i:Nat):Mth.cellOf w.toNat i=((0+(i:Int)) % w,(0+(i:Int)) / w):=by
 obtain ⟨v,rfl⟩:=ZaT (show 0≤w by omega)
 unfold Mth.cellOf
 simp
theorem zg (a b:Nat):Builtin.bitOr (a:Int) (b:Int)=((a ||| b:Nat):Int):=by
 have n1:∀ x:Nat,¬0≤Builtin.bitNot (x:Int):=fun x=>by unfold Builtin.bitNot;omega
 unfold Builtin.bitOr
 rw [bitAnd_nn (n1 a) (n1 b),bitNot_bitNot,bitNot_bitNot,bitNot_bitNot,ZaG,ZaG]
theorem Qc (n p:Nat):decide (Builtin.bitAnd ((n:Int) / 2 ^ p) 1=1)=n.testBit p:=by
 have e:(n:Int) / 2 ^ p=((n / 2 ^ p:Nat):Int):=by simp
 rw [e,bitAnd_pp (Za3 _) (by decide),ZaG,show (1:Int).toNat=1 from rfl,Mth.GP]
 cases n.testBit p <;> rfl
theorem ph {lo:Int}{n i:Nat}{x:PV} (h:(nQ lo n)[i]?=some x):i < n∧x=.int (lo+(i:Int)):=by
 have hi:i < n:=by simpa [nQ] using cJ h
 unfold nQ at h
 rw [List.getElem?_map,Za1 hi] at h
 exact ⟨hi,(Zaa h).symm⟩
theorem Qd {lo:Int}{n:Nat}{x:PV} (h:x∈nQ lo n):∃ i:Nat,i < n∧x=.int (lo+(i:Int)):=by
 unfold nQ at h
 obtain ⟨i,hi,e⟩:=Zad.mp h
 exact ⟨i,Zat.mp hi,e.symm⟩
theorem take_snoc {α:Type}{l:List α}{i:Nat}{x:α} (h:l[i]?=some x):l.take (i+1)=l.take i++[x]:=by
 rw [List.take_succ,h]
 rfl
theorem DW {w h c r:Int} (sz:Sz w h) (cl:Cell w h c r):iu [.tup [.int w,.int h],.tup [.int c,.int r]]=some (.ok (.int (r * w+c))):=by
 refine j8 ?_
 unfold qw
 walk_at "rd"
 have:=cl.r0;have:=cl.r1;have:=sz.h1
 exact .inl ⟨by lia,by lia⟩
theorem Mw {w h c r:Int} (sz:Sz w h) (cl:Cell w h c r) (n:Nat):iw [.tup [.int w,.int h],.int n,.tup [.int c,.int r]]=some (.ok (.bl (n.testBit (Mth.pl w.toNat (c,r))))):=by
 refine j8 ?_
 unfold qx
 walk_at "rd"
 obtain ⟨e1,e2⟩:=cl.pl
 rw [DW sz cl]
 walk_at "rd"
 rw [e1,Qc]
 exact ⟨e2,rfl⟩
theorem Av {w h:Int} (sz:Sz w h):jV [.tup [.int w,.int h]]=some (.ok (.lst ((Mth.pick w.toNat (w.toNat * h.toNat) fun _=>true).map cellP))):=by
 refine vg ?_
 unfold ou
 walk_at "rd"
 have hm:=sz.mul
 have hn:=sz.nat
 have w0:=sz.w0
 have w1:=sz.w1
 refine ⟨.inl ⟨by lia,by lia⟩,by lia,by lia,by rw [cV];exact ZaD (yx (by lia)),?_⟩
 rw [U4 (fun x=>match x with | .int i=>cellP (i % w,i / w) | _=>.non)]
 ·walk_at "rd"
  rw [←hn.1]
  unfold nQ Mth.pick
  rw [List.map_map,List.map_map,Zbx.mpr fun _ _=>rfl]
  refine ZaU fun i _=>?_
  show _=cellP (Mth.cellOf w.toNat i)
  rw [Gu w0]
  rfl
 ·intro x hx
  obtain ⟨i,hi,rfl⟩:=Qd hx
  walk_at "rd"
  exact ⟨by lia,by lia,by lia,by decide⟩
theorem JG {w h:Int} (sz:Sz w h) (ps:List (Int×Int)) (hc:∀ c∈ps,Cell w h c.1 c.2):rT [.tup [.int w,.int h],.lst (ps.map cellP)]=some (.ok (.int (Mth.tR w.toNat ps))):=by
 refine j8 ?_
 unfold xg
 walk_at "rd"
 refine dM (fun i ρ=>∃ v,ρ=[some (.sh (.tup [.int w,.int h])),some (.sh (.lst (ps.map cellP))),some (.sh (.int (Mth.tR w.toNat (ps.take i)))),v]) ⟨none,rfl⟩ ?_ ?_
 ·rintro i x ρ hx ⟨v,rfl⟩
  rw [List.getElem?_map] at hx
  cases hd:ps[i]? with
  | none=>rw [hd] at hx;cases hx
  | some d =>
   rw [hd] at hx
   cases hx
   have cl:=hc d (Zag hd)
   obtain ⟨e1,e2⟩:=cl.pl
   have hm:=sz.mul
   have ha:=sz.at cl.c0 cl.c1 cl.r0 cl.r1
   unfold w6
   walk_at "rd"
   rw [DW sz cl]
   walk_at "rd"
   have e3:(1:Int) * 2 ^ Mth.pl w.toNat (d.1,d.2)=((2 ^ Mth.pl w.toNat d:Nat):Int):=by simp
   rw [e1,e3,zg,take_snoc hd,Mth.yz]
   exact ⟨by lia,by lia,by decide,_,rfl⟩
 ·rintro ρ ⟨v,rfl⟩
  unfold xf
  walk_at "rd"
  rw [ZaL (by simp)]
theorem oK {w h:Int} (sz:Sz w h) (n:Nat):gh [.tup [.int w,.int h],.int n]=some (.ok (.lst ((Mth.pick w.toNat (w.toNat * h.toNat) fun i=>n.testBit i).map cellP))):=by
 refine vg ?_
 unfold qy
 walk_at "rd"
 rw [Av sz]
 walk_at "rd"
 have hn:=sz.nat
 refine ⟨by rw [List.length_map];exact ZaA (Mth.kJ _ _ _) (ZaD (yx (by lia))),?_⟩
 rw [U5 (fun x=>match x with | .tup [.int c,.int r]=>n.testBit (Mth.pl w.toNat (c,r)) | _=>false) id]
 ·walk_at "rd"
  rw [List.map_id]
  unfold Mth.pick
  rw [Zbx.mpr fun _ _=>rfl,List.map_map,List.filter_map,List.map_map]
  congr 1
  refine List.filter_congr fun i hi=>?_
  show n.testBit (Mth.pl w.toNat ((Mth.cellOf w.toNat i).1,(Mth.cellOf w.toNat i).2))=_
  rw [show Mth.pl w.toNat ((Mth.cellOf w.toNat i).1,(Mth.cellOf w.toNat i).2)=i from Mth.tM _ _]
 ·intro x hx
  obtain ⟨c,hc,rfl⟩:=Zad.mp hx
  unfold Mth.pick at hc
  obtain ⟨i,hi,rfl⟩:=Zad.mp hc
  have hi:i < w.toNat * h.toNat:=by simpa using hi
  have cl:=Cell.of (Mth.tO hi)
  walk_at "rd"
  rw [Mw sz cl]
  walk_at "rd"
 ·intro x hx _
  walk_at "rd"
  rfl
theorem vm {α:Type}{j:Nat}{el:Fn PV}{ρb:Rho} (g f:α->PV):∀ (l:List α),(∀ a∈l,Tv (el (ρb.set j (some (.sh (g a))))) fun p=>p=f a)->d7 (gN j) tX el ρb (l.map g)=some (.ok (l.map f))
 | [],_=>rfl
 | a::l,h=>by
  have e1:=jU (h a List.mem_cons_self)
  have ih:=vm g f l fun b hb=>h b (List.mem_cons_of_mem _ hb)
  rw [Zai,d7]
  simp only [gN,tX,bnd,if_true,e1,ih,Zai]
def cH (row:Bool):Str:=if row then Str.ofString "row" else Str.ofString "column"
def uF (row:Bool) (l f t:Int):PV:=.tup [.str (cH row),.int l,.int f,.int t]
structure On (w h:Int) (row:Bool) (l f t:Int):Prop where
 l0:0≤l
 l1:l < if row then h else w
 f0:0≤f
 ft:f≤t
 t1:t < if row then w else h
def bA (row:Bool) (l:Int) (p:Int):Int×Int:=if row then (p,l) else (l,p)
def cM (row:Bool) (l f t:Int):List (Int×Int):=(List.range (t+1 - f).toNat).map fun (i:Nat)=>bA row l (f+(i:Int))
theorem HS (row:Bool):decide (cH row=Str.ofString "row")=row:=by cases row <;> decide +kernel
theorem Mx (w h:Int) (row:Bool):mJ [.tup [.int w,.int h],.str (cH row)]=some (.ok (.int (if row then h else w))):=by
 refine j8 (x:=mH (startR [.tup [.int w,.int h],.str (cH row)] 0)) ?_
 unfold mH
 walk_at "rd"
 cases row
 ·rw [if_neg (by decide +kernel)];rfl
 ·rw [if_pos (by rfl)];rfl
theorem JH (w h:Int) (row:Bool):jX [.tup [.int w,.int h],.str (cH row)]=some (.ok (.int (if row then w else h))):=by
 refine j8 (x:=jW (startR [.tup [.int w,.int h],.str (cH row)] 0)) ?_
 unfold jW
 walk_at "rd"
 cases row
 ·rw [if_neg (by decide +kernel)];rfl
 ·rw [if_pos (by rfl)];rfl
theorem zj {row:Bool}{l f t:Int} (f0:0≤f) (ft:f≤t) (t1:t≤1000):dN [uF row l f t]=some (.ok (.lst ((cM row l f t).map cellP))):=by
 refine vg (x:=gD (startR [uF row l f t] 0)) ?_
 unfold gD uF
 walk_at "rd"
 have key:nQ f (t+1 - f).toNat=(List.range (t+1 - f).toNat).map fun i=>PV.int (f+((i:Nat):Int)):=rfl
 have len:((List.range (t+1 - f).toNat).map fun i=>PV.int (f+((i:Nat):Int))).length≤sizeLine:=by
  rw [List.length_map,List.length_range];exact ZaA (show _≤1001 by lia) (by decide)
 by_cases hr:row=true
 ·subst hr
  rw [if_pos (by rfl)]
  unfold lC
  walk_at "rd"
  rw [key]
  refine ⟨by lia,by lia,by lia,by lia,len,?_⟩
  rw [vm (fun i=>PV.int (f+((i:Nat):Int))) (fun i=>cellP (bA true l (f+((i:Nat):Int)))) _ fun i _=>?_]
  ·walk_at "rd"
   unfold cM
   rw [List.map_map]
   rfl
  ·walk_at "rd"
   exact ⟨by decide,rfl⟩
 ·have hr:row=false:=by simpa using hr
  subst hr
  rw [if_neg (by decide +kernel)]
  unfold lD
  walk_at "rd"
  rw [key]
  refine ⟨by lia,by lia,by lia,by lia,len,?_⟩
  rw [vm (fun i=>PV.int (f+((i:Nat):Int))) (fun i=>cellP (bA false l (f+((i:Nat):Int)))) _ fun i _=>?_]
  ·walk_at "rd"
   unfold cM
   rw [List.map_map]
   rfl
  ·walk_at "rd"
   exact ⟨by decide,rfl⟩
theorem cW:∀ {l k:List Nat},l.Nodup->(∀ x∈l,x∈k)->l.length≤k.length
 | [],k,_,_=>ZaO _
 | a::l,k,nd,h=>by
  have ha:a∈k:=h a List.mem_cons_self
  have nd':=Za9.mp nd
  have:=cW (l:=l) (k:=k.erase a) nd'.2 fun x hx=>(List.mem_erase_of_ne (fun e:x=a=>nd'.1 (by rw [←e];exact hx))).mpr (h x (List.mem_cons_of_mem _ hx))
  rw [List.length_erase_of_mem ha] at this
  have:0 < k.length:=List.length_pos_of_mem ha
  simp only [Zav];lia
structure Mt (G:Nat->Nat->Prop) (m:Nat->Option Nat):Prop where
 ok:∀ {j i},m j=some i->i < j∧G i j
 inj:∀ {j k i},m j=some i->m k=some i->j=k
inductive Anc (m:Nat->Option Nat):Nat->Nat->Prop
 | one {i j} (h:m j=some i):Anc m i j
 | more {i j k} (h:m j=some k) (a:Anc m i k):Anc m i j
section
variable {G:Nat->Nat->Prop}{m:Nat->Option Nat}
end
def lk:List (Nat×Nat)->Nat->Option Nat
 | [],_=>none
 | p::l,k=>if p.1=k then some p.2 else lk l k
def ptN:List (Nat×Nat)->Nat->Nat->List (Nat×Nat)
 | [],k,v=>[(k,v)]
 | p::l,k,v=>if p.1=k then (k,v)::l else p::ptN l k v
theorem gY (k v j:Nat):∀ l,lk (ptN l k v) j=if j=k then some v else lk l j
 | []=>by
  unfold ptN lk lk
  by_cases h:j=k
  ·rw [if_pos h,if_pos h.symm]
  ·rw [if_neg h,if_neg (Za7 h)]
 | p::l=>by
  unfold ptN
  by_cases h:p.1=k
  ·rw [if_pos h]
   unfold lk
   by_cases hj:j=k
   ·rw [if_pos hj,if_pos hj.symm]
   ·rw [if_neg hj,if_neg (Za7 hj),if_neg (fun e=>hj (e.symm.trans h))]
  ·rw [if_neg h]
   unfold lk
   rw [gY k v j l]
   by_cases hj:j=k
   ·rw [if_pos hj,if_neg (fun e=>h (e.trans hj)),if_pos hj]
   ·simp only [if_neg hj]
theorem My (k v:Nat):∀ l,lk l k=none->ptN l k v=l++[(k,v)]
 | [],_=>rfl
 | p::l,h=>by
  unfold lk at h
  split at h
  ·cases h
  ·rename_i hp
   unfold ptN
   rw [if_neg hp,My k v l h];rfl
theorem mU {k:Nat}:∀ {l},lk l k=none↔k ∉ l.map (·.1)
 | []=>by simp [lk]
 | p::l=>by
  unfold lk
  by_cases h:p.1=k
  ·simp [h]
  ·rw [if_neg h,mU];simp [Za7 h]
theorem Aw {k v:Nat}:∀ {l},lk l k=some v->(k,v)∈l
 | p::l,h=>by
  unfold lk at h
  split at h
  ·rename_i hp;cases h;subst hp;exact List.mem_cons_self
  ·exact List.mem_cons_of_mem _ (Aw h)
theorem p6 {k v:Nat}:∀ {l:List (Nat×Nat)},(l.map (·.1)).Nodup->(k,v)∈l->lk l k=some v
 | p::l,nd,h=>by
  rw [Zai,Za9] at nd
  unfold lk
  rcases Zaq.mp h with e | h
  ·subst e;rw [if_pos rfl]
  ·rw [if_neg fun e=>nd.1 (by rw [e];exact Zad.mpr ⟨_,h,rfl⟩)];exact p6 nd.2 h
theorem vo (k v:Nat):∀ l,(ptN l k v).map (·.1)=if lk l k=none then l.map (·.1)++[k] else l.map (·.1)
 | []=>rfl
 | p::l=>by
  unfold ptN lk
  by_cases h:p.1=k
  ·rw [if_pos h,if_pos h];simp [h]
  ·rw [if_neg h,if_neg h,Zai,vo k v l]
   split <;> simp
theorem S9 (k v:Nat) (l:List (Nat×Nat)):(ptN l k v).length≤l.length+1:=by
 have:=congrArg List.length (vo k v l)
 rw [List.length_map] at this
 rw [this]
 split <;> simp
def kvQ {κ:Type} (fk:Nat->κ) (fv:Nat->PV) (l:List (Nat×Nat)):List (κ×PV):=l.map fun p=>(fk p.1,fv p.2)
theorem xH {κ:Type} [DecidableEq κ] {fk:Nat->κ}{fv:Nat->PV} (inj:∀ a b,fk a=fk b->a=b) (k:Nat):∀ l,di (kvQ fk fv l) (fk k)=(lk l k).map fv
 | []=>rfl
 | p::l=>by
  show di ((fk p.1,fv p.2)::kvQ fk fv l) _=_
  unfold di lk
  by_cases h:p.1=k
  ·subst h;rw [if_pos rfl,if_pos rfl];rfl
  ·rw [if_neg (fun e=>h (inj _ _ e)),if_neg h];exact xH inj k l
theorem xJ {κ:Type} [DecidableEq κ] {fk:Nat->κ}{fv:Nat->PV} (inj:∀ a b,fk a=fk b->a=b) (k v:Nat):∀ {l:List (Nat×Nat)},(l.map (·.1)).Nodup->iU (kvQ fk fv l) (fk k) (fv v)=kvQ fk fv (ptN l k v)
 | [],_=>rfl
 | p::l,nd=>by
  rw [Zai,Za9] at nd
  show iU ((fk p.1,fv p.2)::kvQ fk fv l) _ _=_
  unfold iU ptN
  by_cases h:p.1=k
  ·subst h
   have:((kvQ fk fv l).any fun e=>decide (e.1=fk p.1))=false:=by
    rw [List.any_eq_false]
    intro x hx
    obtain ⟨q,hq,rfl⟩:=Zad.mp hx
    simp only [decide_eq_true_eq]
    exact fun e=>nd.1 (by rw [←inj _ _ e];exact Zad.mpr ⟨q,hq,rfl⟩)
   rw [if_pos rfl,if_pos rfl,this];rfl
  ·rw [if_neg (fun e=>h (inj _ _ e)),if_neg h,xJ inj k v nd.2];rfl
theorem HW {κ:Type}{fk:Nat->κ}{fv:Nat->PV} (l:List (Nat×Nat)):(kvQ fk fv l).length=l.length:=by simp [kvQ]
theorem uf {k:Nat} (h:k≤100000):k < sizeLine:=by rw [sizeLine_eq];lia
theorem DX (ns:List Int):eG (ns.map PV.int)=some (ns.map .inl):=by
 induction ns with
 | nil=>rfl
 | cons n ns ih=>rw [Zai];unfold eG;rw [ih];rfl
theorem ug (p:Sk):eG (.str p.1::p.2.map PV.int)=some (skK p):=by
 unfold eG;rw [DX];rfl
theorem vp {p q:Sk} (e:skK p=skK q):p=q:=by
 unfold skK at e
 rw [Zbj] at e
 refine Prod.ext (Sum.inr.inj e.1) ((List.map_inj_right fun _ _ h=>Sum.inl.inj h).mp e.2)
theorem xK (p:Sk):(skP p).still=true:=by
 show (PV.str p.1::p.2.map PV.int).all (qd 4)=true
 rw [ZaW]
 intro x hx
 rcases Zaq.mp hx with e | hx
 ·rw [e];rfl
 ·obtain ⟨n,_,rfl⟩:=Zad.mp hx;rfl
theorem Mz {l:List (List Key×PV)}{p:Sk}:fP (.dt l) (skP p)=some (di l (skK p)):=by
 show (eG (.str p.1::p.2.map PV.int)).map (di l)=_
 rw [ug];rfl
theorem Q0 {l:List (List Key×PV)}{p:Sk}{q:PV} (h:l.length < sizeLine):Ge (.dt l) (skP p) q=some (.dt (iU l (skK p) q)):=by
 show (match eG (.str p.1::p.2.map PV.int) with
  | some k=>if l.length < sizeLine then some (PV.dt (iU l k q)) else none
  | none=>none)=_
 rw [ug]
 exact if_pos h
structure Gs where
 aS:Nat->Sk
 gS:Nat->Sk
 ia:∀ a b,aS a=aS b->a=b
 ig:∀ a b,gS a=gS b->a=b
 la:∀ a,(aS a).2.length=3
 lg:∀ a,(gS a).2.length=3
def Gs.av (G:Gs) (a:Nat):PV:=skP (G.aS a)
def Gs.gv (G:Gs) (a:Nat):PV:=skP (G.gS a)
def Gs.aK (G:Gs) (a:Nat):List Key:=skK (G.aS a)
def Gs.gK (G:Gs) (a:Nat):List Key:=skK (G.gS a)
def Gs.GA (G:Gs) (l:List (Nat×Nat)):PV:=.dt (kvQ G.aK G.gv l)
def Gs.GD (G:Gs) (l:List (Nat×Nat)):PV:=.dt (kvQ G.gK G.av l)
def Gs.AL (G:Gs) (l:List Nat):List PV:=l.map G.av
def Gs.GL (G:Gs) (l:List Nat):List PV:=l.map G.gv
section
variable (G:Gs)
theorem Gs.aKi (a b:Nat) (e:G.aK a=G.aK b):a=b:=G.ia _ _ (vp e)
theorem Gs.gKi (a b:Nat) (e:G.gK a=G.gK b):a=b:=G.ig _ _ (vp e)
theorem Gs.still (g:Nat):(G.gv g).still=true:=xK _
theorem Gs.MF (a:Nat):(G.av a).still=true:=xK _
theorem Gs.nn (g:Nat):(G.gv g).yI=false:=rfl
theorem Gs.isD (l:List (Nat×Nat)):(G.GD l).isD=true:=rfl
theorem Gs.sh (l:List (Nat×Nat)):PV.mj (G.GD l)=true:=ZaW.mpr fun p hp=>by
 obtain ⟨n,_,rfl⟩:=Zad.mp hp;exact G.MF _
theorem Gs.shA (l:List Nat):PV.mj (.lst (G.AL l))=true:=ZaW.mpr fun p hp=>by
 obtain ⟨n,_,rfl⟩:=Zad.mp hp;exact G.MF _
theorem Gs.find (l:List (Nat×Nat)) (g:Nat):fP (G.GD l) (G.gv g)=some ((lk l g).map G.av):=Mz.trans (congrArg some (xH G.gKi g l))
theorem Gs.Q3 (l:List (Nat×Nat)) (a:Nat):fP (G.GA l) (G.av a)=some ((lk l a).map G.gv):=Mz.trans (congrArg some (xH G.aKi a l))
theorem Gs.put (l:List (Nat×Nat)) (g a:Nat) (nd:(l.map (·.1)).Nodup) (h:l.length < sizeLine):Ge (G.GD l) (G.gv g) (G.av a)=some (G.GD (ptN l g a)) :=
 (Q0 (by rw [HW];exact h)).trans (congrArg (fun z=>some (PV.dt z)) (xJ G.gKi g a nd))
theorem Gs.Vp {l:List (Nat×Nat)}{a g:Nat} (nd:(l.map (·.1)).Nodup) (h:l.length < sizeLine):Ge (G.GA l) (G.av a) (G.gv g)=some (G.GA (ptN l a g)) :=
 (Q0 (by rw [HW];exact h)).trans (congrArg (fun z=>some (PV.dt z)) (xJ G.aKi a g nd))
end
def wiP (G:Gs) (n:Nat) (W:Nat->List Nat):PV:=.dt ((List.range n).map fun (i:Nat)=>(G.aK i,PV.lst (G.GL (W i))))
theorem xM {G:Gs}{f:Nat->PV}{k:Nat}:∀ {l:List Nat},k∈l->di (l.map fun (i:Nat)=>(G.aK i,f i)) (G.aK k)=some (f k)
 | i::l,h=>by
  rw [Zai]
  unfold di
  by_cases e:i=k
  ·subst e;rw [if_pos rfl]
  ·rw [if_neg (fun z=>e (G.aKi _ _ z))]
   exact xM ((Zaq.mp h).resolve_left (Za7 e))
theorem U6 {G:Gs}{n k:Nat}{W:Nat->List Nat} (h:k < n):fP (wiP G n W) (G.av k)=some (some (.lst (G.GL (W k)))) :=
 Mz.trans (congrArg some (xM (f:=fun i=>.lst (G.GL (W i))) (Zat.mpr h)))
structure Wk (n:Nat) (W:Nat->List Nat) (B:List (Nat×Nat)) (S R:List Nat) (cb:List (Nat×Nat)):Prop where
 eq:R=S++cb.map fun p=>(lk B p.1).getD 0
 pr:∀ p∈cb,lk B p.1≠none
 nd:(cb.map (·.1)).Nodup
 wish:∀ p∈cb,p.1∈W p.2
 back:∀ (k:Nat) p,cb[k]?=some p->∃ i,i < S.length+k∧R[i]?=some p.2
 lt:∀ a∈R,a < n
section
variable {n:Nat}{W:Nat->List Nat}{B:List (Nat×Nat)}{S R:List Nat}{cb:List (Nat×Nat)}
theorem Wk.len (h:Wk n W B S R cb):R.length=S.length+cb.length:=by rw [h.eq];simp
theorem Wk.xN {N:Nat} (h:Wk n W B S R cb) (wl:∀ i g,g∈W i->g < N):cb.length≤N:=by
 have:=cW (l:=cb.map (·.1)) (k:=List.range N) h.nd fun x hx=>by
  obtain ⟨p,hp,rfl⟩:=Zad.mp hx
  exact Zat.mpr (wl _ _ (h.wish p hp))
 simpa using this
theorem Wk.start (h:∀ a∈S,a < n):Wk n W B S S []:=⟨by simp,fun p h=>by simp at h,by simp,fun p h=>by simp at h,fun k p e=>by simp at e,h⟩
theorem Wk.more (h:Wk n W B S R cb) {a g b i:Nat} (ha:R[i]?=some a) (hg:g∈W a) (hn:lk cb g=none) (hb:lk B g=some b) (bl:b < n):Wk n W B S (R++[b]) (cb++[(g,a)]) where
 eq:=by rw [ZaX,Zai,List.map_nil,hb,←Zar,←h.eq];rfl
 pr:=fun p hp=>by
  rcases Zae.mp hp with hp | hp
  ·exact h.pr p hp
  ·simp at hp;subst hp;rw [hb];simp
 nd:=by
  rw [ZaX,Zbh]
  refine ⟨h.nd,by simp,fun x hx y hy=>?_⟩
  simp at hy
  subst hy
  exact fun e=>mU.mp hn (e ▸ hx)
 wish:=fun p hp=>by
  rcases Zae.mp hp with hp | hp
  ·exact h.wish p hp
  ·simp at hp;subst hp;exact hg
 back:=fun k p e=>by
  have hl:=h.len
  by_cases hk:k < cb.length
  ·rw [Zah hk] at e
   obtain ⟨j,h1,h2⟩:=h.back k p e
   refine ⟨j,h1,?_⟩
   rw [Zah (by omega)];exact h2
  ·rw [Zao (by omega)] at e
   have:k=cb.length:=by
    rcases Nat.lt_or_ge (k - cb.length) 1 with q | q
    ·omega
    ·rw [ZaE (by simpa using q)] at e;cases e
   subst this
   simp at e
   subst e
   have hi:i < R.length:=(Zab.mp ha).1
   exact ⟨i,by omega,by rw [Zah hi];exact ha⟩
 lt:=fun x hx=>by
  rcases Zae.mp hx with hx | hx
  ·exact h.lt x hx
  ·simp at hx;subst hx;exact bl
end
def gvP (G:Gs):Option Nat->PV
 | none=>.non
 | some g=>G.gv g
def U7 (n:Nat) (W:Nat->List Nat) (B:List (Nat×Nat)) (S:List Nat) (g:Option Nat) (R:List Nat) (cb:List (Nat×Nat)):Prop :=
 match g with
 | none=>Wk n W B S R cb∧∀ a∈R,∀ x∈W a,x∈cb.map (·.1)
 | some g=>∃ (cb':List (Nat×Nat)) (a i:Nat),cb=cb'++[(g,a)]∧Wk n W B S R cb'∧R[i]?=some a∧g∈W a∧lk cb' g=none∧lk B g=none
theorem Tc {G:Gs}{l:List Nat}{i:Nat}{x:PV} (h:(G.AL l)[i]?=some x):∃ g,l[i]?=some g∧x=G.av g:=by
 unfold Gs.AL at h
 rw [List.getElem?_map] at h
 cases e:l[i]? with
 | none=>rw [e] at h;cases h
 | some g=>rw [e] at h;cases h;exact ⟨g,rfl,rfl⟩
theorem Td {G:Gs}{l:List Nat}{i:Nat}{x:PV} (h:(G.GL l)[i]?=some x):∃ g,l[i]?=some g∧x=G.gv g:=by
 unfold Gs.GL at h
 rw [List.getElem?_map] at h
 cases e:l[i]? with
 | none=>rw [e] at h;cases h
 | some g=>rw [e] at h;cases h;exact ⟨g,rfl,rfl⟩
theorem Te {G:Gs} (l:List Nat) (b:Nat):G.AL l++[G.av b]=G.AL (l++[b]):=by simp [Gs.AL]
theorem Tf {G:Gs}{l:List Nat}{i a:Nat} (h:l[i]?=some a):atI (G.AL l) (i:Int)=some (G.av a):=by
 exact oU (by unfold Gs.AL;rw [List.getElem?_map,h];rfl)
inductive WlI (G:Gs) (n:Nat) (W:Nat->List Nat) (B:List (Nat×Nat)) (S:List Nat) (k:Nat):Rho->Prop
 | mk (R:List Nat) (cb:List (Nat×Nat)) (pl:Nat) (v6 v7:Option Sl) (hk:k+pl=1999) (hpl:pl≤R.length) (hw:Wk n W B S R cb) (hc:∀ i a,i < pl->R[i]?=some a->∀ x∈W a,x∈cb.map (·.1)):WlI G n W B S k [some (.sh (wiP G n W)),some (.sh (G.GD B)),some (.sh (.lst (G.AL S))),some (.ow (.lst (G.AL R))),some (.ow (G.GD cb)),some (.sh (.int (pl:Int))),v6,v7]
inductive WlJ (G:Gs) (n:Nat) (W:Nat->List Nat) (B:List (Nat×Nat)) (S:List Nat) (pl a j:Nat):Rho->Prop
 | mk (R:List Nat) (cb:List (Nat×Nat)) (v7:Option Sl) (ha:R[pl]?=some a) (hw:Wk n W B S R cb) (hc:∀ i a,i < pl->R[i]?=some a->∀ x∈W a,x∈cb.map (·.1)) (hj:∀ i x,i < j->(W a)[i]?=some x->x∈cb.map (·.1)):WlJ G n W B S pl a j [some (.sh (wiP G n W)),some (.sh (G.GD B)),some (.sh (.lst (G.AL S))),some (.ow (.lst (G.AL R))),some (.ow (G.GD cb)),some (.sh (.int (pl:Int))),some (.sh (G.av a)),v7]
theorem zm {G:Gs}{n N:Nat}{W:Nat->List Nat}{B:List (Nat×Nat)}{S:List Nat} (hN:N≤600) (hS:S.length≤600) (sl:∀ a∈S,a < n) (wl:∀ i g,g∈W i->g < N) (bl:∀ g b,lk B g=some b->b < n) :
  ∃ g R cb,jB [wiP G n W,G.GD B,.lst (G.AL S)]=some (.ok (.tup [gvP G g,.lst (G.AL R),G.GD cb]))∧U7 n W B S g R cb:=by
 have big:∀ {k:Nat},k≤9000->k < sizeLine:=fun h=>uf (by lia)
 suffices h:∃ p,jB [wiP G n W,G.GD B,.lst (G.AL S)]=some (.ok p)∧∃ g R cb,p=.tup [gvP G g,.lst (G.AL R),G.GD cb]∧U7 n W B S g R cb by
  obtain ⟨p,e,g,R,cb,rfl,h⟩:=h
  exact ⟨g,R,cb,e,h⟩
 refine HJ (lz fun QS hQ=>?_)
 unfold xG
 rw [show startR [wiP G n W,G.GD B,.lst (G.AL S)] 5=[some (.sh (wiP G n W)),some (.sh (G.GD B)),some (.sh (.lst (G.AL S))),none,none,none,none,none] from rfl]
 walk_at "rd"
 refine oh (n:=1999) (I:=WlI G n W B S) (.mk S [] 0 none none rfl (ZaO _) (Wk.start sl) fun i a h=>absurd h (Nat.not_lt_zero _)) ?_
 rintro k _ ⟨R,cb,pl,v6,v7,hk,hpl,hw,hc⟩
 have hR:=hw.len
 have hcb:=hw.xN wl
 walk_at "rd"
 by_cases hlt:(pl:Int) < ((G.AL R).length:Int)
 case neg =>
  rw [if_neg hlt]
  have hpl2:pl=R.length:=by simp only [Gs.AL,List.length_map] at hlt;lia
  unfold xF
  walk_at "rd"
  refine ⟨rfl,G.shA R,G.sh cb,ZaD (big (by lia)),hQ _ ⟨_,rfl,none,R,cb,rfl,hw,fun a ha x hx=>?_⟩⟩
  obtain ⟨i,hi⟩:=Zbm ha
  exact hc i a (by rw [hpl2];exact (Zab.mp hi).1) hi x hx
 case pos =>
  rw [if_pos hlt]
  have hp2:pl < R.length:=by simp only [Gs.AL,List.length_map] at hlt;lia
  obtain ⟨a,ha⟩:∃ a,R[pl]?=some a:=⟨_,List.getElem?_eq_getElem hp2⟩
  have al:a < n:=hw.lt a (Zag ha)
  refine ⟨by lia,QZ fun QS2 hN hC _ _ hR2=>?_⟩
  unfold xx
  walk_at "rd"
  refine ⟨(G.av a),Tf ha,rfl,_,U6 al,?_⟩
  rw [tv_asSeqL]
  refine dM (I:=WlJ G n W B S pl a) (.mk R cb v7 ha hw hc fun i x h=>absurd h (Nat.not_lt_zero _)) ?_ ?_
  case refine_2 =>
   rintro _ ⟨R,cb,v7,ha,hw,hc,hj⟩
   have hR:=hw.len
   have hcb:=hw.xN wl
   have hp3:pl < R.length:=(Zab.mp ha).1
   walk_at "rd"
   unfold xu
   walk_at "rd"
   refine hN _ (.mk R cb (pl+1) (some (.sh (G.av a))) v7 (by lia) hp3 hw fun i b hi hb x hx=>?_)
   by_cases e:i=pl
   ·subst e
    rw [ha] at hb;cases hb
    obtain ⟨i,hi⟩:=Zbm hx
    exact hj i x (by simpa [Gs.GL] using (Zab.mp hi).1) hi
   ·exact hc i b (by lia) hb x hx
  rintro j y _ ey ⟨R,cb,v7,ha,hw,hc,hj⟩
  refine QZ fun QS3 hN3 hC3 _ _ hR3=>?_
  obtain ⟨g,eg,rfl⟩:=Td ey
  have hR:=hw.len
  have hcb:=hw.xN wl
  have hg:g∈W a:=Zag eg
  unfold xr
  walk_at "rd"
  refine ⟨G.isD _,_,G.find _ _,?_⟩
  cases hk2:lk cb g with
  | some z =>
   rw [Zbq,Option.isSome_some,if_pos rfl]
   refine hC3 _ (.mk R cb _ ha hw hc fun i x hi hx=>?_)
   by_cases e:i=j
   ·subst e
    rw [eg] at hx;cases hx
    exact Zad.mpr ⟨_,Aw hk2,rfl⟩
   ·exact hj i x (by lia) hx
  | none =>
   rw [Option.map_none,Option.isSome_none,if_neg (by decide)]
   unfold xq
   walk_at "rd"
   refine ⟨_,G.put _ _ _ hw.nd (big (by lia)),G.isD _,_,G.find _ _,?_⟩
   rw [My _ _ _ hk2]
   cases hb:lk B g with
   | none =>
    rw [Option.map_none,Option.isSome_none,if_pos (by decide)]
    unfold xm
    walk_at "rd"
    exact ⟨G.still g,G.shA R,G.sh _,ZaD (big (by lia)),hR3 _ (hR2 _ (hQ _ ⟨_,rfl,some g,R,_,rfl,cb,a,pl,rfl,hw,ha,hg,hk2,hb⟩))⟩
   | some b =>
    rw [Zbq,Option.isSome_some,if_neg (by decide)]
    unfold xn
    walk_at "rd"
    have hp3:pl < R.length:=(Zab.mp ha).1
    have sub:∀ x,x∈cb.map (·.1)->x∈(cb++[(g,a)]).map (·.1):=fun x hx=>by rw [ZaX];exact Zbl _ hx
    have M:WlJ G n W B S pl a (j+1) _:=.mk (R++[b]) (cb++[(g,a)]) (some (.sh (G.gv g))) (by rw [Zah hp3];exact ha) (hw.more ha hg hk2 hb (bl g b hb)) (fun i c hi hc' x hx=>by
     rw [Zah (by lia)] at hc'
     exact sub x (hc i c hi hc' x hx)) fun i x hi hx=>by
      by_cases e:i=j
      ·subst e
       rw [eg] at hx;cases hx
       simp
      ·exact sub x (hj i x (by lia) hx)
    rw [←Te] at M
    exact ⟨G.isD _,(G.av b),by rw [G.find,hb];rfl,by simp only [Gs.AL,List.length_map];exact big (by lia),hN3 _ M⟩
structure Pm (n:Nat) (W:Nat->List Nat) (A B:List (Nat×Nat)):Prop where
 ndA:(A.map (·.1)).Nodup
 ndB:(B.map (·.1)).Nodup
 iff:∀ a g,lk A a=some g↔lk B g=some a
 ok:∀ {a g},lk A a=some g->g∈W a∧a < n
structure Bk (n:Nat) (W:Nat->List Nat) (B:List (Nat×Nat)) (s:Nat) (cb:List (Nat×Nat)):Prop where
 nd:(cb.map (·.1)).Nodup
 wish:∀ p∈cb,p.1∈W p.2
 back:∀ (k:Nat) p,cb[k]?=some p->p.2=s∨∃ (j:Nat) (q:Nat×Nat),j < k∧cb[j]?=some q∧lk B q.1=some p.2
 lt:∀ p∈cb,p.2 < n
theorem Wk.bk {n:Nat}{W:Nat->List Nat}{B:List (Nat×Nat)}{s:Nat}{R:List Nat}{cb:List (Nat×Nat)} (h:Wk n W B [s] R cb) {g a i:Nat} (ha:R[i]?=some a) (hg:g∈W a) (hn:lk cb g=none):Bk n W B s (cb++[(g,a)]) where
 nd:=by
  rw [ZaX,Zbh]
  refine ⟨h.nd,by simp,fun x hx y hy=>?_⟩
  simp at hy
  subst hy
  exact fun e=>mU.mp hn (e ▸ hx)
 wish:=fun p hp=>by
  rcases Zae.mp hp with hp | hp
  ·exact h.wish p hp
  ·simp at hp;subst hp;exact hg
 back:=fun k p e=>by
  have hl:=h.len
  obtain ⟨j,hj,ej⟩:∃ j,j < 1+k∧R[j]?=some p.2:=by
   by_cases hk:k < cb.length
   ·rw [Zah hk] at e
    exact h.back k p e
   ·rw [Zao (by lia)] at e
    have:k=cb.length:=by
     rcases Nat.lt_or_ge (k - cb.length) 1 with q | q
     ·lia
     ·rw [ZaE (by simpa using q)] at e;cases e
    subst this
    simp at e
    subst e
    have hi:i < R.length:=(Zab.mp ha).1
    exact ⟨i,by simp at hl;lia,ha⟩
  have hjR:j < R.length:=(Zab.mp ej).1
  rw [h.eq] at ej
  cases j with
  | zero=>left;simpa using ej.symm
  | succ j =>
   right
   rw [Zao (by simp)] at ej
   simp only [Zav,List.length_nil,Nat.zero_add,Nat.add_sub_cancel,List.getElem?_map] at ej
   cases q:cb[j]? with
   | none=>rw [q] at ej;cases ej
   | some p' =>
    rw [q] at ej
    have ej:some ((lk B p'.1).getD 0)=some p.2:=ej
    have hp':=h.pr p' (Zag q)
    have jl:j < cb.length:=(Zab.mp q).1
    refine ⟨j,p',by lia,by rw [Zah jl];exact q,?_⟩
    cases z:lk B p'.1 with
    | none=>exact absurd z hp'
    | some b=>rw [z] at ej;exact congrArg some (Zaa ej)
 lt:=fun p hp=>by
  rcases Zae.mp hp with hp | hp
  ·obtain ⟨k,hk⟩:=Zbm hp
   obtain ⟨j,_,ej⟩:=h.back k p hk
   exact h.lt _ (Zag ej)
  ·simp at hp;subst hp;exact h.lt _ (Zag ha)
structure Jp (n N:Nat) (W:Nat->List Nat) (A0 B0:List (Nat×Nat)) (s:Nat) (cb:List (Nat×Nat)) (Dd:Nat->Prop) (k x:Nat) (A B:List (Nat×Nat)):Prop where
 ndA:(A.map (·.1)).Nodup
 ndB:(B.map (·.1)).Nodup
 kA:∀ a∈A.map (·.1),a < n
 kB:∀ a∈B.map (·.1),a < N
 old:∀ (i:Nat) p b,i < k->cb[i]?=some p->lk A0 b=some p.1->lk A b=some p.1
 st:lk A s=none
 iff:∀ a g,g≠x->(lk A a=some g↔lk B g=some a)
 no:∀ a,lk A a≠some x
 ok:∀ {a g},lk A a=some g->g∈W a∧a < n
 xd:∀ d,Dd d->lk B0 x≠some d
 bd:∀ g d,Dd d->lk B0 g=some d->lk B g=some d
 more:∀ b,lk A0 b≠none->lk A b≠none
 less:∀ b,lk A b≠none->lk A0 b≠none
def gJ (W:Nat->List Nat) (B:List (Nat×Nat)) (Dd:Nat->Prop):Prop:=∀ d,Dd d->∀ g∈W d,∃ d',lk B g=some d'∧Dd d'
section
variable {n N:Nat}{W:Nat->List Nat}{A0 B0 A B:List (Nat×Nat)}{s k x a:Nat}{cb:List (Nat×Nat)}{Dd:Nat->Prop}
theorem DY {l:List (Nat×Nat)} (h:(l.map (·.1)).Nodup) (k v:Nat):((ptN l k v).map (·.1)).Nodup:=by
 rw [vo]
 split
 ·rename_i e
  rw [Zbh]
  refine ⟨h,by simp,fun x hx y hy=>?_⟩
  simp at hy;subst hy
  exact fun z=>mU.mp e (z ▸ hx)
 ·exact h
theorem HX {l:List (Nat×Nat)}{k v n:Nat} (h:∀ a∈l.map (·.1),a < n) (hk:k < n):∀ a∈(ptN l k v).map (·.1),a < n:=by
 rw [vo]
 split
 ·intro a ha
  rcases Zae.mp ha with ha | ha
  ·exact h a ha
  ·simp at ha;subst ha;exact hk
 ·exact h
theorem oM {l:List (Nat×Nat)}{n:Nat} (nd:(l.map (·.1)).Nodup) (h:∀ a∈l.map (·.1),a < n):l.length≤n:=by
 have:=cW (l:=l.map (·.1)) (k:=List.range n) nd fun x hx=>Zat.mpr (h x hx)
 simpa using this
theorem Jp.last (P:Pm n W A0 B0) (b:Bk n W B0 s cb) (c:gJ W B0 Dd) (j:Jp n N W A0 B0 s cb Dd k x A B) (e:cb[k]?=some (x,a)) (hl:lk A a=none):Pm n W (ptN A a x) (ptN B x a)∧lk (ptN A a x) s≠none∧(∀ b,lk A0 b≠none->lk (ptN A a x) b≠none)∧(∀ b,lk (ptN A a x) b≠none->b=s∨lk A0 b≠none)∧gJ W (ptN B x a) Dd:=by
 have xa:x∈W a:=b.wish _ (Zag e)
 have as:a=s:=by
  rcases b.back k _ e with h | ⟨i,q,hi,eq,hq⟩
  ·exact h
  ·exact absurd hl (j.more a (by rw [(P.iff _ _).mpr hq];simp))
 refine ⟨⟨DY j.ndA _ _,DY j.ndB _ _,fun b' g=>?_,fun {b' g} h=>?_⟩,by rw [gY,if_pos as.symm];simp,fun b' hb=>?_,fun b' hb=>?_,fun d hd g hg=>?_⟩
 ·rw [gY,gY]
  by_cases hb:b'=a
  ·subst hb
   rw [if_pos rfl]
   by_cases hx:g=x
   ·subst hx;simp
   ·rw [if_neg hx]
    refine ⟨fun z=>absurd (Zaa z).symm hx,fun z=>?_⟩
    rw [(j.iff _ _ hx).mpr z] at hl;cases hl
  ·rw [if_neg hb]
   by_cases hx:g=x
   ·subst hx
    rw [if_pos rfl]
    exact ⟨fun z=>absurd z (j.no b'),fun z=>absurd (Zaa z).symm hb⟩
   ·rw [if_neg hx];exact j.iff _ _ hx
 ·rw [gY] at h
  split at h
  ·rename_i hb;cases h;subst hb;exact ⟨xa,b.lt _ (Zag e)⟩
  ·exact j.ok h
 ·rw [gY]
  split
  ·simp
  ·exact j.more b' hb
 ·rw [gY] at hb
  split at hb
  ·rename_i e';exact .inl (e'.trans as)
  ·exact .inr (j.less b' hb)
 ·obtain ⟨d',h1,h2⟩:=c d hd g hg
  refine ⟨d',?_,h2⟩
  rw [gY,if_neg fun z=>by subst z;exact j.xd d' h2 h1]
  exact j.bd g d' h2 h1
theorem Jp.step (P:Pm n W A0 B0) (wl:∀ i g,g∈W i->g < N) (b:Bk n W B0 s cb) (c:gJ W B0 Dd) (j:Jp n N W A0 B0 s cb Dd k x A B) (e:cb[k]?=some (x,a)) {y:Nat} (hl:lk A a=some y):∃ k2 a2,k2 < k∧cb[k2]?=some (y,a2)∧Jp n N W A0 B0 s cb Dd k2 y (ptN A a x) (ptN B x a):=by
 have xa:x∈W a:=b.wish _ (Zag e)
 have an:a < n:=b.lt _ (Zag e)
 have sa:s≠a:=fun z=>by subst z;rw [j.st] at hl;cases hl
 obtain ⟨i,q,hi,eq,hq⟩:=(b.back k _ e).resolve_left (Za7 sa)
 have hA0:=(P.iff _ _).mpr hq
 have yq:y=q.1:=by have:=j.old i q a hi eq hA0;rw [hl] at this;exact Zaa this
 subst yq
 have nx:∀ (i':Nat) p,i' < k->cb[i']?=some p->p.1≠x:=fun i' p h1 h2 z=>by
  have e1:(cb.map (·.1))[i']?=some x:=by rw [List.getElem?_map,h2];exact congrArg some z
  have e2:(cb.map (·.1))[k]?=some x:=by rw [List.getElem?_map,e];rfl
  have l1:i' < (cb.map (·.1)).length:=(Zab.mp e1).1
  have:=(List.getElem?_inj l1 b.nd).mp (e1.trans e2.symm)
  lia
 have da:¬Dd a:=fun hd=>by
  obtain ⟨d',h1,h2⟩:=c a hd x xa
  exact j.xd d' h2 h1
 have ny:=nx i q hi eq
 refine ⟨i,q.2,hi,eq,DY j.ndA _ _,DY j.ndB _ _,HX j.kA an,HX j.kB (wl _ _ xa),fun i' p b' h1 h2 h3=>?_,by rw [gY,if_neg sa];exact j.st,fun b' g hg=>?_,fun b'=>?_,fun {b' g} h=>?_,fun d hd z=>?_,fun g d hd z=>?_,fun b' hb'=>?_,fun b' hb'=>?_⟩
 ·rw [gY,if_neg fun z=>?_]
  ·exact j.old i' p b' (by lia) h2 h3
  ·subst z
   rw [hA0] at h3
   have z:q.1=p.1:=Zaa h3
   have e1:(cb.map (·.1))[i']?=some q.1:=by rw [List.getElem?_map,h2];exact congrArg some z.symm
   have e2:(cb.map (·.1))[i]?=some q.1:=by rw [List.getElem?_map,eq];rfl
   have l1:i' < (cb.map (·.1)).length:=(Zab.mp e1).1
   have:=(List.getElem?_inj l1 b.nd).mp (e1.trans e2.symm)
   lia
 ·rw [gY,gY]
  by_cases hb:b'=a
  ·subst hb
   rw [if_pos rfl]
   by_cases hx:g=x
   ·subst hx;simp
   ·rw [if_neg hx]
    refine ⟨fun z=>absurd (Zaa z).symm hx,fun z=>?_⟩
    rw [(j.iff _ _ hx).mpr z] at hl
    exact absurd (Zaa hl) hg
  ·rw [if_neg hb]
   by_cases hx:g=x
   ·subst hx
    rw [if_pos rfl]
    exact ⟨fun z=>absurd z (j.no b'),fun z=>absurd (Zaa z).symm hb⟩
   ·rw [if_neg hx];exact j.iff _ _ hx
 ·rw [gY]
  split
  ·exact fun z=>ny (Zaa z).symm
  ·rename_i hb
   exact fun z=>hb (by have h1:=(j.iff _ _ ny).mp z;have h2:=(j.iff _ _ ny).mp hl;rw [h1] at h2;exact Zaa h2)
 ·rw [gY] at h
  split at h
  ·rename_i hb;cases h;subst hb;exact ⟨xa,an⟩
  ·exact j.ok h
 ·rw [hq] at z
  cases z
  exact da hd
 ·rw [gY,if_neg fun w=>by subst w;exact j.xd d hd z]
  exact j.bd g d hd z
 ·rw [gY]
  split
  ·simp
  ·exact j.more b' hb'
 ·rw [gY] at hb'
  split at hb'
  ·rename_i e';subst e';exact j.less _ (by rw [hl];simp)
  ·exact j.less b' hb'
end
theorem JK {G:Gs}{A B cb:List (Nat×Nat)}:eQ [G.GA A,G.GD B,G.GD cb,.non]=some (.ok (.tup [G.GA A,G.GD B])):=by
 suffices h:∃ p,eQ [G.GA A,G.GD B,G.GD cb,.non]=some (.ok p)∧p=.tup [G.GA A,G.GD B] by
  obtain ⟨p,e,rfl⟩:=h;exact e
 show ∃ p,wA (iW (eO [G.GA A,G.GD B,G.GD cb,.non] 3))=some (.ok p)∧p=.tup [G.GA A,G.GD B]
 refine zc ?_
 unfold iW
 rw [show eO [G.GA A,G.GD B,G.GD cb,.non] 3=[some (.ow (G.GA A)),some (.ow (G.GD B)),some (.sh (G.GD cb)),some (.sh .non),none,none,none] from rfl]
 walk_at "rd"
 refine oh (n:=1999) (I:=fun _ ρ=>ρ=[some (.ow (G.GA A)),some (.ow (G.GD B)),some (.sh (G.GD cb)),some (.sh .non),some (.sh .non),none,none]) rfl ?_
 rintro k ρ rfl
 walk_at "rd"
 rw [if_neg (show ¬PV.non.yI=false by decide)]
 exact ⟨_,rfl,rfl⟩
def PrY (n N:Nat) (W:Nat->List Nat) (A0 B0:List (Nat×Nat)) (s:Nat) (cbx:List (Nat×Nat)) (Dd:Nat->Prop) (m:Nat) (A B:List (Nat×Nat)):Option Nat->Prop
 | none=>Pm n W A B∧lk A s≠none∧(∀ b,lk A0 b≠none->lk A b≠none)∧(∀ b,lk A b≠none->b=s∨lk A0 b≠none)∧gJ W B Dd
 | some x=>∃ k a,cbx[k]?=some (x,a)∧k < m∧Jp n N W A0 B0 s cbx Dd k x A B
inductive PrI (G:Gs) (n N:Nat) (W:Nat->List Nat) (A0 B0:List (Nat×Nat)) (s:Nat) (cbx:List (Nat×Nat)) (Dd:Nat->Prop) (g m:Nat):Rho->Prop
 | mk (A B:List (Nat×Nat)) (y:Option Nat) (v5 v6:Option Sl) (hy:PrY n N W A0 B0 s cbx Dd m A B y):PrI G n N W A0 B0 s cbx Dd g m [some (.ow (G.GA A)),some (.ow (G.GD B)),some (.sh (G.GD cbx)),some (.sh (G.gv g)),some (.sh (gvP G y)),v5,v6]
theorem Qe {G:Gs}{n N:Nat}{W:Nat->List Nat}{A0 B0 cb:List (Nat×Nat)}{s g a:Nat}{Dd:Nat->Prop} (hn:n≤600) (hN:N≤600) (wl:∀ i g,g∈W i->g < N) (P:Pm n W A0 B0) (b:Bk n W B0 s (cb++[(g,a)])) (c:gJ W B0 Dd) (hs:lk A0 s=none) (hg:lk B0 g=none) :
  ∃ A B,eQ [G.GA A0,G.GD B0,G.GD (cb++[(g,a)]),G.gv g]=some (.ok (.tup [G.GA A,G.GD B]))∧Pm n W A B∧lk A s≠none∧(∀ b,lk A0 b≠none->lk A b≠none)∧(∀ b,lk A b≠none->b=s∨lk A0 b≠none)∧gJ W B Dd:=by
 have big:∀ {k:Nat},k≤9000->k < sizeLine:=fun h=>uf (by lia)
 suffices h:∃ p,eQ [G.GA A0,G.GD B0,G.GD (cb++[(g,a)]),G.gv g]=some (.ok p)∧∃ A B,p=.tup [G.GA A,G.GD B]∧Pm n W A B∧lk A s≠none∧(∀ b,lk A0 b≠none->lk A b≠none)∧(∀ b,lk A b≠none->b=s∨lk A0 b≠none)∧gJ W B Dd by
  obtain ⟨p,e,A,B,rfl,h⟩:=h;exact ⟨A,B,e,h⟩
 generalize hcb:cb++[(g,a)]=cbx at b ⊢
 have e0:cbx[cb.length]?=some (g,a):=by rw [←hcb];simp
 have hlen:cbx.length≤N:=oM b.nd fun x hx=>by
  obtain ⟨p,hp,rfl⟩:=Zad.mp hx
  exact wl _ _ (b.wish p hp)
 have kl:∀ {l:List (Nat×Nat)}{k:Nat},k∈l.map (·.1)->∃ v,lk l k=some v:=fun {l k} h=>by
  cases e:lk l k with
  | none=>exact absurd h (mU.mp e)
  | some v=>exact ⟨v,rfl⟩
 have j0:Jp n N W A0 B0 s cbx Dd cb.length g A0 B0:=by
  refine ⟨P.ndA,P.ndB,fun x hx=>?_,fun x hx=>?_,fun i p b' h1 h2 h3=>h3,hs,fun a' g' _=>P.iff a' g',fun a' z=>?_,P.ok,fun d _ z=>?_,fun g' d _ z=>z,fun b' z=>z,fun b' z=>z⟩
  ·obtain ⟨v,hv⟩:=kl hx;exact (P.ok hv).2
  ·obtain ⟨v,hv⟩:=kl hx;exact wl _ _ (P.ok ((P.iff _ _).mpr hv)).1
  ·rw [(P.iff _ _).mp z] at hg;cases hg
  ·rw [hg] at z;cases z
 refine zc (lz fun QS hQ=>?_)
 unfold iW
 rw [show eO [G.GA A0,G.GD B0,G.GD cbx,G.gv g] 3=[some (.ow (G.GA A0)),some (.ow (G.GD B0)),some (.sh (G.GD cbx)),some (.sh (G.gv g)),none,none,none] from rfl]
 walk_at "rd"
 refine oh (n:=1999) (I:=PrI G n N W A0 B0 s cbx Dd g) (.mk A0 B0 (some g) none none ⟨cb.length,a,e0,by have:=(Zab.mp e0).1;lia,j0⟩) ?_
 rintro m _ ⟨A,B,y,v5,v6,hy⟩
 cases y with
 | none =>
  rw [show gvP G none=.non from rfl]
  walk_at "rd"
  rw [if_neg (show ¬PV.non.yI=false by decide)]
  exact hQ _ ⟨_,rfl,A,B,rfl,hy⟩
 | some x =>
  obtain ⟨k,a',ek,km,j⟩:=hy
  rw [show gvP G (some x)=G.gv x from rfl]
  walk_at "rd"
  rw [if_pos (G.nn x)]
  refine ⟨by lia,pP fun QS2 hQ2=>?_⟩
  unfold pQ
  have lc:lk cbx x=some a':=p6 b.nd (Zag ek)
  have lA:=oM j.ndA j.kA
  have lB:=oM j.ndB j.kB
  walk_at "rd"
  have M:PrI G n N W A0 B0 s cbx Dd g (m - 1) _:=.mk (ptN A a' x) (ptN B x a') (lk A a') (some (.sh ((G.av a')))) (some (.sh ((Option.map G.gv (lk A a')).getD PV.non))) (by
   cases hl:lk A a' with
   | none=>exact j.last P b c ek hl
   | some y =>
    obtain ⟨k2,a2,h1,h2,h3⟩:=j.step P wl b c ek hl
    exact ⟨k2,a2,h2,by lia,h3⟩)
  rw [show gvP G (lk A a')=(Option.map G.gv (lk A a')).getD PV.non by cases lk A a' <;> rfl] at M
  exact ⟨G.isD _,(G.av a'),by rw [G.find,lc];rfl,rfl,_,G.Q3 _ _,_,G.Vp j.ndA (big (by lia)),_,G.put _ _ _ j.ndB (big (by lia)),hQ2 _ M⟩
theorem Ea (p:Sk):pO (skK p)=skP p:=by
 unfold pO skK skP
 rw [Zai,List.map_map];rfl
theorem Ax (G:Gs) (n:Nat) (W:Nat->List Nat):qu ((List.range n).map fun (i:Nat)=>(G.aK i,PV.lst (G.GL (W i))))=G.AL (List.range n):=by
 unfold qu Gs.AL
 rw [List.map_map]
 exact ZaU fun i _=>Ea _
theorem xO {l:List (List Key×PV)}{Q:List PV->Prop}:Tv (rQ (.dt l)) Q=Q (qu l):=tv_some
theorem zp {l:List (List Key×PV)}{Q:List PV->Prop}:Tv (rR (.dt l)) Q=Q (mF l):=tv_some
inductive MpI (G:Gs) (n:Nat) (W:Nat->List Nat) (j:Nat):Rho->Prop
 | mk (A B:List (Nat×Nat)) (v3 v4:Option Sl) (P:Pm n W A B) (un:∀ a,j≤a->lk A a=none) (Dd:Nat->Prop) (c:gJ W B Dd) (hd:∀ a,a < j->lk A a=none->Dd a):MpI G n W j [some (.sh (wiP G n W)),some (.ow (G.GA A)),some (.ow (G.GD B)),v3,v4]
theorem Qf {G:Gs}{n N:Nat}{W:Nat->List Nat} (hn:n≤600) (hN:N≤600) (wl:∀ i g,g∈W i->g < N) :
  ∃ A B,gB [wiP G n W]=some (.ok (G.GA A))∧Pm n W A B∧∃ Dd,gJ W B Dd∧∀ a,a < n->lk A a=none->Dd a:=by
 have big:∀ {k:Nat},k≤9000->k < sizeLine:=fun h=>uf (by omega)
 suffices h:∃ p,gB [wiP G n W]=some (.ok p)∧∃ A B,p=G.GA A∧Pm n W A B∧∃ Dd,gJ W B Dd∧∀ a,a < n->lk A a=none->Dd a by
  obtain ⟨p,e,A,B,rfl,h⟩:=h;exact ⟨A,B,e,h⟩
 refine vh (lz fun QS hQ=>?_)
 unfold mG
 rw [show startR [wiP G n W] 4=[some (.sh (wiP G n W)),none,none,none,none] from rfl]
 walk_at "rd"
 refine ⟨rfl,?_⟩
 rw [show wiP G n W=.dt ((List.range n).map fun (i:Nat)=>(G.aK i,PV.lst (G.GL (W i)))) from rfl,xO,Ax,←show wiP G n W=.dt ((List.range n).map fun (i:Nat)=>(G.aK i,PV.lst (G.GL (W i)))) from rfl]
 refine dM (I:=MpI G n W) (.mk [] [] none none ⟨by simp,by simp,fun a g=>by simp [lk],fun {a g} h=>by simp [lk] at h⟩ (fun a _=>rfl) (fun _=>False) (fun d h=>h.elim) fun a h=>absurd h (Nat.not_lt_zero _)) ?_ ?_
 case refine_2 =>
  rintro _ ⟨A,B,v3,v4,P,un,Dd,c,hd⟩
  walk_at "rd"
  unfold oE
  walk_at "rd"
  exact hQ _ ⟨_,rfl,A,B,rfl,P,Dd,c,fun a ha=>hd a (by simpa [Gs.AL] using ha)⟩
 rintro j y _ ey ⟨A,B,v3,v4,P,un,Dd,c,hd⟩
 refine pP fun QS2 hQ2=>?_
 obtain ⟨s,es,rfl⟩:=Tc ey
 have hs:s=j∧s < n:=by
  have hj:j < n:=by simpa using (Zab.mp es).1
  rw [Za1 hj] at es
  cases es;exact ⟨rfl,hj⟩
 obtain ⟨rfl,sn⟩:=hs
 obtain ⟨g,R,cb,ew,he⟩:=zm (G:=G) (B:=B) (S:=[s]) hN (by simp) (fun a ha=>by simp at ha;omega) wl fun g b h=>(P.ok ((P.iff _ _).mpr h)).2
 unfold oA
 walk_at "rd"
 refine ⟨ZaD (big (by omega)),?_⟩
 rw [show [(G.av s)]=G.AL [s] from rfl,ew]
 walk_at "rd"
 cases g with
 | none =>
  obtain ⟨hw,hc⟩:=he
  refine ⟨_,_,JK,hQ2 _ (.mk A B _ _ P (fun a ha=>un a (by omega)) (fun d=>Dd d∨d∈R) (fun d hd' g hg=>?_) fun a ha hl=>?_)⟩
  ·rcases hd' with h | h
   ·obtain ⟨d',h1,h2⟩:=c d h g hg
    exact ⟨d',h1,.inl h2⟩
   ·obtain ⟨p,hp,rfl⟩:=Zad.mp (hc d h g hg)
    cases e:lk B p.1 with
    | none=>exact absurd e (hw.pr p hp)
    | some b =>
     refine ⟨b,rfl,.inr ?_⟩
     rw [hw.eq]
     exact ZaB _ (Zad.mpr ⟨p,hp,by rw [e];rfl⟩)
  ·by_cases e:a=s
   ·right;subst e;rw [hw.eq];simp
   ·exact .inl (hd a (by omega) hl)
 | some g =>
  obtain ⟨cb',a,i,rfl,hw,ha,hg,hk,hb⟩:=he
  obtain ⟨A',B',e1,P',h1,h2,h3,c'⟩:=Qe (G:=G) hn hN wl P (hw.bk ha hg hk) c (un s (Zaf _)) hb
  refine ⟨_,_,e1,hQ2 _ (.mk A' B' _ _ P' (fun b hb'=>?_) Dd c' fun b hb' hl=>?_)⟩
  ·cases e:lk A' b with
   | none=>rfl
   | some z =>
    rcases h3 b (by rw [e];simp) with h | h
    ·omega
    ·exact absurd (un b (by omega)) h
  ·by_cases e:b=s
   ·subst e;exact absurd hl h1
   ·refine hd b (by omega) ?_
    cases z:lk A b with
    | none=>rfl
    | some z'=>exact absurd hl (h2 b (by rw [z];simp))
theorem jD {α:Type}{tg:PV->Rho->Option Rho}{tst:Fn Bool}{el:Fn PV}{ρb:Rho} (src:α->PV) (t:α->Bool) (f:α->PV):∀ (l:List α),
  (∀ x∈l,∃ ρ1,tg (src x) ρb=some ρ1∧tst ρ1=some (.ok (t x))∧(t x=true->el ρ1=some (.ok (f x))))->d7 tg tst el ρb (l.map src)=some (.ok ((l.filter t).map f))
 | [],_=>rfl
 | x::xs,h=>by
  obtain ⟨ρ1,e1,e2,e3⟩:=h x List.mem_cons_self
  have ih:=jD src t f xs fun y hy=>h y (List.mem_cons_of_mem _ hy)
  rw [Zai,d7,e1]
  simp only [e2,bnd]
  cases ht:t x with
  | true=>simp only [if_true,e3 ht,ih,bnd,List.filter_cons,ht,Zai]
  | false=>simp only [Za0,if_false,ih,List.filter_cons,ht]
def yg (l B:List (Nat×Nat)):List (Nat×Nat):=l.foldl (fun B p=>ptN B p.2 p.1) B
theorem HY {g a:Nat}:∀ (l:List (Nat×Nat)) {B:List (Nat×Nat)},(l.map (·.2)).Nodup->(lk (yg l B) g=some a↔(a,g)∈l∨(lk B g=some a∧g ∉ l.map (·.2)))
 | [],B,_=>by simp [yg]
 | p::l,B,nd=>by
  rw [Zai,Za9] at nd
  show lk (yg l (ptN B p.2 p.1)) g=some a↔_
  rw [HY l nd.2,gY]
  by_cases h:g=p.2
  ·subst h
   rw [if_pos rfl]
   constructor
   ·rintro (h | ⟨h,_⟩)
    ·exact .inl (List.mem_cons_of_mem _ h)
    ·cases h;exact .inl List.mem_cons_self
   ·rintro (h | ⟨_,h⟩)
    ·rcases Zaq.mp h with e | h
     ·right;rw [←e];exact ⟨rfl,by rw [show (a,p.2).2=p.2 from rfl];exact nd.1⟩
     ·exact absurd (Zad.mpr ⟨_,h,rfl⟩) nd.1
    ·simp at h
  ·rw [if_neg h]
   constructor
   ·rintro (q | ⟨q1,q2⟩)
    ·exact .inl (List.mem_cons_of_mem _ q)
    ·exact .inr ⟨q1,by simp only [Zai,Zaq,not_or];exact ⟨h,q2⟩⟩
   ·rintro (q | ⟨q1,q2⟩)
    ·rcases Zaq.mp q with e | q
     ·rw [←e] at h;exact absurd rfl h
     ·exact .inl q
    ·simp only [Zai,Zaq,not_or] at q2
     exact .inr ⟨q1,q2.2⟩
theorem Ia {G:Gs}:∀ (l:List (Nat×Nat)) {B:List (Nat×Nat)},(B.map (·.1)).Nodup->B.length+l.length≤9000->iI (G.GD B) (l.map fun p=>(G.gv p.2,G.av p.1))=some (G.GD (yg l B))
 | [],_,_,_=>rfl
 | p::l,B,nd,h=>by
  have h1:=G.put B p.2 p.1 nd (uf (by simp at h;lia))
  rw [Zai]
  unfold iI
  rw [h1]
  exact Ia l (DY nd _ _) (by have:=S9 p.2 p.1 B;simp at h;lia)
theorem Eb {G:Gs}:∀ (l:List (Nat×Nat)),lX (l.map fun p=>PV.tup [G.gv p.2,G.av p.1])=some (l.map fun p=>(G.gv p.2,G.av p.1))
 | []=>rfl
 | p::l=>by
  rw [Zai]
  unfold lX
  rw [Eb l];rfl
theorem Pm.Q4 {n:Nat}{W:Nat->List Nat}{A B:List (Nat×Nat)} (P:Pm n W A B):(A.map (·.2)).Nodup:=by
 have h:=P.ndA
 rw [List.Nodup,ZaZ] at h ⊢
 refine h.imp_of_mem fun {p q} hp hq hne e=>hne ?_
 have h1:=(P.iff _ _).mp (p6 P.ndA (show (p.1,p.2)∈A from hp))
 have h2:=(P.iff _ _).mp (p6 P.ndA (show (q.1,q.2)∈A from hq))
 rw [e,h2] at h1
 exact (Zaa h1).symm
theorem Pm.rev {n:Nat}{W:Nat->List Nat}{A B:List (Nat×Nat)} (P:Pm n W A B) (g a:Nat):lk (yg A []) g=some a↔lk B g=some a:=by
 rw [HY A P.Q4,←P.iff]
 simp only [lk,reduceCtorEq,false_and,or_false]
 exact ⟨fun h=>p6 P.ndA h,fun h=>Aw h⟩
def m9 (n:Nat) (A:List (Nat×Nat)):List Nat:=(List.range n).filter fun a=>(lk A a).isNone
theorem Ec (G:Gs) (l:List (Nat×Nat)):mF (kvQ G.aK G.gv l)=l.map fun p=>PV.tup [G.av p.1,G.gv p.2]:=by
 unfold mF kvQ
 rw [List.map_map]
 exact ZaU fun p _=>by show PV.tup [pO (skK (G.aS p.1)),G.gv p.2]=_;rw [Ea];rfl
def uh (ps:List Sk):List Sk:=(gf ps).map fun j=>ps.getD j default
theorem lM (ps:List Sk):(uh ps).Perm ps:=by
 have h:=(lu ps).map fun j=>ps.getD j default
 refine h.trans (List.Perm.of_eq ?_)
 apply Zbo
 intro i
 rw [List.getElem?_map]
 by_cases hi:i < ps.length
 ·rw [Za1 hi,List.getElem?_eq_getElem hi]
  show some (ps.getD i default)=_
  rw [List.getD_eq_getElem?_getD,List.getElem?_eq_getElem hi];rfl
 ·rw [ZaE (by simpa using hi),ZaE (by simpa using hi)];rfl
theorem zq:∀ (ps:List Sk),wQ (ps.map skP)=some ps
 | []=>rfl
 | p::ps=>by
  rw [Zai]
  unfold wQ
  rw [zq ps]
  have:SM (skP p)=some p:=by
   show (nU (p.2.map PV.int)).map _=_
   rw [MM.mD];rfl
  rw [this]
theorem zr:∀ (ns:List Int),uz (ns.map .inl)=some ns
 | []=>rfl
 | n::ns=>by
  show (uz (ns.map .inl)).map (n::·)=_
  rw [zr ns];rfl
theorem Ed:∀ (ps:List Sk),yd (ps.map skK)=some ps
 | []=>rfl
 | p::ps=>by
  rw [Zai]
  unfold yd
  rw [Ed ps]
  have:kSk (skK p)=some p:=by
   show (uz (p.2.map .inl)).map _=_
   rw [zr];rfl
  rw [this]
theorem Ef {ps:List Sk} (h:∀ p∈ps,p.2.length=3):jT ps=true:=by
 cases ps with
 | nil=>rfl
 | cons p l =>
  refine ZaW.mpr fun q hq=>?_
  rw [h q (List.mem_cons_of_mem _ hq),h p List.mem_cons_self];rfl
theorem Ib {ps:List Sk} (nd:ps.Nodup) (h:∀ p∈ps,p.2.length=3) (hl:ps.length < sizeLine):o9 (ps.map skP)=some (.ok (.lst ((uh ps).map skP))):=by
 unfold o9
 rw [zq]
 show (if _ then _ else _)=_
 rw [if_pos ⟨nd,Ef h,hl⟩]
 unfold uh
 rw [List.map_map];rfl
theorem Qg {l:List (List Key×PV)}{ps:List Sk} (e:l.map (·.1)=ps.map skK) (nd:ps.Nodup) (h:∀ p∈ps,p.2.length=3) (hl:ps.length < sizeLine):wU (.dt l)=some (.ok (.lst ((uh ps).map skP))):=by
 show (match yd (l.map (·.1)) with
  | some ps=>if ps.Nodup∧jT ps=true∧ps.length < sizeLine then some (Res.ok (PV.lst ((gf ps).map fun j=>skP (ps.getD j default)))) else none
  | none=>none)=_
 rw [e,Ed]
 show (if _ then _ else _)=_
 rw [if_pos ⟨nd,Ef h,hl⟩]
 unfold uh
 rw [List.map_map];rfl
theorem Wk.ndR {n:Nat}{W:Nat->List Nat}{A B B':List (Nat×Nat)}{R:List Nat}{cb:List (Nat×Nat)} (P:Pm n W A B) (hB:∀ g a,lk B' g=some a↔lk B g=some a) (hw:Wk n W B' (m9 n A) R cb):R.Nodup:=by
 rw [hw.eq,Zbh]
 refine ⟨List.Nodup.sublist Zbc ZbA,?_,fun a ha b hb e=>?_⟩
 ·have h:=hw.nd
  rw [List.Nodup,ZaZ] at h ⊢
  refine h.imp_of_mem fun {p q} hp hq hne e=>hne ?_
  cases e1:lk B' p.1 with
  | none=>exact absurd e1 (hw.pr p hp)
  | some a =>
   cases e2:lk B' q.1 with
   | none=>exact absurd e2 (hw.pr q hq)
   | some b =>
    rw [e1,e2] at e
    have e:a=b:=e
    subst e
    have h1:=(P.iff _ _).mpr ((hB _ _).mp e1)
    have h2:=(P.iff _ _).mpr ((hB _ _).mp e2)
    rw [h1] at h2
    exact Zaa h2
 ·subst e
  obtain ⟨p,hp,e1⟩:=Zad.mp hb
  cases e2:lk B' p.1 with
  | none=>exact absurd e2 (hw.pr p hp)
  | some z =>
   rw [e2] at e1
   have e1:z=a:=e1
   subst e1
   have h1:=(P.iff _ _).mpr ((hB _ _).mp e2)
   have:=(Zas.mp ha).2
   rw [h1] at this;cases this
theorem MK {G:Gs}{n N:Nat}{W:Nat->List Nat}{A B:List (Nat×Nat)}{Dd:Nat->Prop} (hn:n≤600) (hN:N≤600) (wl:∀ i g,g∈W i->g < N) (P:Pm n W A B) (c:gJ W B Dd) (hd:∀ a,a < n->lk A a=none->Dd a) :
  ∃ B' R cb,d9 [wiP G n W,G.GA A]=some (.ok (.tup [.lst ((uh (R.map G.aS)).map skP),.lst ((uh (cb.map fun p=>G.gS p.1)).map skP)]))∧(∀ g a,lk B' g=some a↔lk B g=some a)∧Wk n W B' (m9 n A) R cb∧∀ a∈R,∀ x∈W a,x∈cb.map (·.1):=by
 have big:∀ {k:Nat},k≤9000->k < sizeLine:=fun h=>uf (by lia)
 have kl:∀ {l:List (Nat×Nat)}{k:Nat},k∈l.map (·.1)->∃ v,lk l k=some v:=fun {l k} h=>by
  cases e:lk l k with
  | none=>exact absurd h (mU.mp e)
  | some v=>exact ⟨v,rfl⟩
 have lA:A.length≤n:=oM P.ndA fun x hx=>by obtain ⟨v,hv⟩:=kl hx;exact (P.ok hv).2
 obtain ⟨g,R,cb,ew,he⟩:=zm (G:=G) (B:=yg A []) (S:=m9 n A) hN (by have:(m9 n A).length≤(List.range n).length:=ZaQ _ _;rw [List.length_range] at this;lia) (fun a ha=>by simpa [m9] using (Zas.mp ha).1) wl fun g b h=>(P.ok ((P.iff _ _).mpr ((P.rev g b).mp h))).2
 have stay:∀ {R cb},Wk n W (yg A []) (m9 n A) R cb->(∀ a∈R,Dd a):=fun {R cb} hw=>by
  intro a ha
  obtain ⟨i,hi⟩:=Zbm ha
  induction i using Nat.strongRecOn generalizing a with
  | _ i ih =>
   rw [hw.eq] at hi
   by_cases hl:i < (m9 n A).length
   ·rw [Zah hl] at hi
    have:=Zas.mp (Zag hi)
    exact hd a (by simpa using this.1) (by simpa using this.2)
   ·rw [Zao (by lia),List.getElem?_map] at hi
    cases q:cb[i - (m9 n A).length]? with
    | none=>rw [q] at hi;cases hi
    | some p =>
     rw [q] at hi
     have hi:some ((lk (yg A []) p.1).getD 0)=some a:=hi
     obtain ⟨j,h1,h2⟩:=hw.back _ p q
     have dj:=ih j (by lia) p.2 (Zag h2) h2
     obtain ⟨d',e1,e2⟩:=c p.2 dj p.1 (hw.wish p (Zag q))
     rw [(P.rev _ _).mpr e1] at hi
     cases hi;exact e2
 have hg:g=none:=by
  cases g with
  | none=>rfl
  | some g =>
   obtain ⟨cb',a,i,rfl,hw,ha,hg,hk,hb⟩:=he
   obtain ⟨d',e1,_⟩:=c a (stay hw a (Zag ha)) g hg
   rw [(P.rev _ _).mpr e1] at hb;cases hb
 subst hg
 obtain ⟨hw,hc⟩:=he
 refine ⟨yg A [],R,cb,?_,P.rev,hw,hc⟩
 refine j8 ?_
 unfold gC
 rw [show startR [wiP G n W,G.GA A] 2=[some (.sh (wiP G n W)),some (.sh (G.GA A)),none,none] from rfl]
 walk_at "rd"
 rw [show G.GA A=.dt (kvQ G.aK G.gv A) from rfl,zp,Ec,jD (fun p:Nat×Nat=>PV.tup [G.av p.1,G.gv p.2]) (fun _=>true) (fun p=>PV.tup [G.gv p.2,G.av p.1]) A fun p _=>⟨_,rfl,rfl,fun _=>jU (by walk_at "rd";exact ZaD (big (by lia)))⟩,tv_some,Zbx.mpr (fun _ _=>rfl)]
 have pa:iI (.dt []) (A.map fun p=>(G.gv p.2,G.av p.1))=some (G.GD (yg A [])):=by
  have h:=Ia (G:=G) A (B:=[]) (by simp) (by simp;lia)
  exact h
 refine ⟨rfl,by rw [List.length_map];exact ZaD (big (by lia)),_,Eb A,_,pa,rfl,?_⟩
 rw [show wiP G n W=.dt ((List.range n).map fun (i:Nat)=>(G.aK i,PV.lst (G.GL (W i)))) from rfl,xO,Ax,←show wiP G n W=.dt ((List.range n).map fun (i:Nat)=>(G.aK i,PV.lst (G.GL (W i)))) from rfl]
 refine ⟨by simp only [Gs.AL,List.length_map,List.length_range];exact ZaD (big (by lia)),?_⟩
 rw [show G.AL (List.range n)=(List.range n).map G.av from rfl,jD G.av (fun a=>(lk A a).isNone) G.av (List.range n) fun a _=>⟨_,rfl,jU (by
  walk_at "rd"
  refine ⟨_,G.Q3 A a,?_⟩
  cases lk A a <;> rfl),fun _=>jU (by walk_at "rd")⟩,tv_some,show ((List.range n).filter fun a=>(lk A a).isNone).map G.av=G.AL (m9 n A) from rfl,ew]
 walk_at "rd"
 have hR:=hw.len
 have hcb:=hw.xN wl
 have hf:(m9 n A).length≤(List.range n).length:=ZaQ _ _
 rw [List.length_range] at hf
 have nR:R.length≤n:=by
  have:=cW (l:=R) (k:=List.range n) (Wk.ndR P P.rev hw) fun x hx=>Zat.mpr (hw.lt x hx)
  simpa using this
 have ndR:=Wk.ndR P P.rev hw
 have nm:∀ {l:List Nat}{f:Nat->Sk},l.Nodup->(∀ a b,f a=f b->a=b)->(l.map f).Nodup:=fun {l f} nd inj=>by
  rw [List.Nodup,ZaZ]
  exact nd.imp fun hne e=>hne (inj _ _ e)
 rw [show G.AL R=(R.map G.aS).map skP by rw [List.map_map];rfl,Ib (nm ndR G.ia) (fun p hp=>by obtain ⟨a,_,rfl⟩:=Zad.mp hp;exact G.la a) (by rw [List.length_map];exact big (by lia)),tv_some]
 refine ⟨rfl,?_⟩
 rw [show G.GD cb=.dt (kvQ G.gK G.av cb) from rfl,Qg (ps:=cb.map fun p=>G.gS p.1) (by unfold kvQ;rw [List.map_map,List.map_map];rfl) (by have:=nm (f:=G.gS) hw.nd G.ig;rw [List.map_map] at this;exact this) (fun p hp=>by obtain ⟨a,_,rfl⟩:=Zad.mp hp;exact G.lg _) (by rw [List.length_map];exact big (by lia)),tv_some]
 exact ⟨ZaD (big (by lia)),rfl⟩
def qC (l:List Int):List (Int×Int):=l.zip l.tail
theorem Ay:∀ {l:List Int},l.Pairwise (· < ·)->∀ p∈qC l,p.1 < p.2∧p.1∈l∧p.2∈l∧∀ y∈l,y≤p.1∨p.2≤y
 | [],_,p,hp=>by simp [qC] at hp
 | [a],_,p,hp=>by simp [qC] at hp
 | a::b::l,pw,p,hp=>by
  have h1:=List.pairwise_cons.mp pw
  have hp:p∈(a,b)::qC (b::l):=hp
  rcases Zaq.mp hp with e | hp
  ·subst e
   refine ⟨h1.1 b List.mem_cons_self,List.mem_cons_self,List.mem_cons_of_mem _ List.mem_cons_self,fun y hy=>?_⟩
   rcases Zaq.mp hy with e | hy
   ·left;show y≤a;lia
   ·right
    rcases Zaq.mp hy with e | hy
    ·show b≤y;lia
    ·have:=(List.pairwise_cons.mp h1.2).1 y hy;show b≤y;lia
  ·obtain ⟨q1,q2,q3,q4⟩:=Ay h1.2 p hp
   refine ⟨q1,List.mem_cons_of_mem _ q2,List.mem_cons_of_mem _ q3,fun y hy=>?_⟩
   rcases Zaq.mp hy with e | hy
   ·left
    have:=h1.1 p.1 q2
    lia
   ·exact q4 y hy
theorem MN {x:Int}:∀ {a:Int}{l:List Int},a < x->x ∉ l->(∃ y∈l,x < y)->∃ p∈qC (a::l),p.1 < x∧x < p.2
 | a,[],_,_,h=>by obtain ⟨y,hy,_⟩:=h;cases hy
 | a,b::l,ha,hx,h=>by
  by_cases hb:x < b
  ·exact ⟨(a,b),List.mem_cons_self,ha,hb⟩
  ·have ne:x≠b:=fun e=>hx (by rw [e];exact List.mem_cons_self)
   obtain ⟨y,hy,h2⟩:=h
   have hy:y∈l:=by
    rcases Zaq.mp hy with e | hy
    ·subst e;exact absurd h2 hb
    ·exact hy
   obtain ⟨p,hp,q⟩:=MN (a:=b) (l:=l) (by lia) (fun z=>hx (List.mem_cons_of_mem _ z)) ⟨y,hy,h2⟩
   exact ⟨p,List.mem_cons_of_mem _ hp,q⟩
def fj (q:Nat->Bool) (L:Nat):List Int:=(-1)::((((List.range L).filter q).map fun (i:Nat)=>(i:Int))++[(L:Int)])
theorem xP {q:Nat->Bool}{L:Nat}{y:Int}:y∈fj q L↔y=-1∨(∃ i:Nat,i < L∧q i=true∧y=i)∨y=L:=by
 unfold fj
 simp only [Zaq,Zae,Zad,Zas,Zat,List.not_mem_nil,or_false]
 constructor
 ·rintro (h | ⟨i,⟨h1,h2⟩,rfl⟩ | h)
  ·exact .inl h
  ·exact .inr (.inl ⟨i,h1,h2,rfl⟩)
  ·exact .inr (.inr h)
 ·rintro (h | ⟨i,h1,h2,rfl⟩ | h)
  ·exact .inl h
  ·exact .inr (.inl ⟨i,⟨h1,h2⟩,rfl⟩)
  ·exact .inr (.inr h)
theorem Az (q:Nat->Bool) (L:Nat):(fj q L).Pairwise (· < ·):=by
 unfold fj
 rw [List.pairwise_cons]
 refine ⟨fun y hy=>?_,?_⟩
 ·rcases Zae.mp hy with hy | hy
  ·obtain ⟨i,_,rfl⟩:=Zad.mp hy;omega
  ·simp at hy;omega
 ·rw [Zan]
  refine ⟨?_,by simp,fun a ha b hb=>?_⟩
  ·rw [ZaZ]
   exact (Zaj Zbc List.pairwise_lt_range).imp fun h=>by omega
  ·obtain ⟨i,hi,rfl⟩:=Zad.mp ha
   have:=Zat.mp (Zas.mp hi).1
   simp at hb;omega
def tu (q:Nat->Bool) (L:Nat):List (Int×Int):=((qC (fj q L)).filter fun p=>decide (p.1+1 < p.2)).map fun p=>(p.1+1,p.2 - 1)
def p7 (q:Nat->Bool) (L:Nat) (x:Int):Int×Int:=(fun p:Int×Int=>(p.1+1,p.2 - 1)) (((qC (fj q L)).find? fun p=>decide (p.1 < x∧x < p.2)).getD (0,0))
structure xQ (q:Nat->Bool) (L:Nat) (x:Int):Prop where
 x0:0≤x
 x1:x < L
 no:q x.toNat=false
section
variable {q:Nat->Bool}{L:Nat}{x y:Int}
theorem xQ.Q5 (f:xQ q L x):x ∉ fj q L:=fun h=>by
 rcases xP.mp h with e | ⟨i,h1,h2,e⟩ | e
 ·have:=f.x0;omega
 ·have:=f.no;rw [e,ZaG,h2] at this;cases this
 ·have:=f.x1;omega
theorem xQ.gap (f:xQ q L x):∃ p∈qC (fj q L),p.1 < x∧x < p.2∧p7 q L x=(p.1+1,p.2 - 1):=by
 have ex:∃ p∈qC (fj q L),p.1 < x∧x < p.2:=MN (by have:=f.x0;omega) (fun z=>f.Q5 (List.mem_cons_of_mem _ z)) ⟨(L:Int),by simp,f.x1⟩
 cases e:(qC (fj q L)).find? fun p=>decide (p.1 < x∧x < p.2) with
 | none =>
  obtain ⟨p,h1,h2⟩:=ex
  have:=List.find?_eq_none.mp e p h1
  simp only [decide_eq_true_eq] at this
  exact absurd h2 this
 | some p =>
  have h1:=List.find?_some e
  simp only [decide_eq_true_eq] at h1
  refine ⟨p,List.mem_of_find?_eq_some e,h1.1,h1.2,?_⟩
  unfold p7;rw [e];rfl
structure Run (q:Nat->Bool) (L:Nat) (p:Int×Int):Prop where
 a0:0≤p.1
 ab:p.1≤p.2
 b1:p.2 < L
 fr:∀ y,p.1≤y->y≤p.2->xQ q L y
theorem Ba {p:Int×Int} (hp:p∈qC (fj q L)) (h:p.1+1 < p.2):Run q L (p.1+1,p.2 - 1):=by
 obtain ⟨h1,h2,h3,h4⟩:=Ay (Az q L) p hp
 have ge:∀ y∈fj q L,-1≤y∧y≤L:=fun y hy=>by
  rcases xP.mp hy with e | ⟨i,h1,h2,e⟩ | e <;> lia
 have g2:=ge _ h2
 have g3:=ge _ h3
 refine ⟨by show 0≤p.1+1;lia,by show p.1+1≤p.2 - 1;lia,by show p.2 - 1 < L;lia,fun y y1 y2=>?_⟩
 have y1:p.1+1≤y:=y1
 have y2:y≤p.2 - 1:=y2
 refine ⟨by lia,by lia,?_⟩
 cases e:q y.toNat with
 | false=>rfl
 | true =>
  have:=h4 y (xP.mpr (.inr (.inl ⟨y.toNat,by lia,e,by lia⟩)))
  lia
theorem xQ.run (f:xQ q L x):Run q L (p7 q L x)∧(p7 q L x).1≤x∧x≤(p7 q L x).2∧p7 q L x∈tu q L:=by
 obtain ⟨p,h1,h2,h3,e⟩:=f.gap
 rw [e]
 refine ⟨Ba h1 (by lia),by show p.1+1≤x;lia,by show x≤p.2 - 1;lia,?_⟩
 exact Zad.mpr ⟨p,Zas.mpr ⟨h1,by simp only [decide_eq_true_eq];lia⟩,rfl⟩
theorem Eg {p r:Int×Int} (hp:p∈qC (fj q L)) (hr:r∈qC (fj q L)) (h1:p.1 < x) (h2:x < p.2) (h3:r.1 < y) (h4:y < r.2) (hf:∀ z,(x≤z∧z≤y)∨(y≤z∧z≤x)->xQ q L z):p=r:=by
 obtain ⟨_,a2,a3,a4⟩:=Ay (Az q L) p hp
 obtain ⟨_,b2,b3,b4⟩:=Ay (Az q L) r hr
 have no:∀ z∈fj q L,¬((x≤z∧z≤y)∨(y≤z∧z≤x)):=fun z hz h=>(hf z h).Q5 hz
 have c1:=no _ a2
 have c2:=no _ a3
 have c3:=no _ b2
 have c4:=no _ b3
 have d1:=b4 _ a2
 have d2:=b4 _ a3
 have d3:=a4 _ b2
 have d4:=a4 _ b3
 exact Prod.ext (by omega) (by omega)
theorem Tg {p:Int×Int} (hp:p∈tu q L) (h1:p.1≤x) (h2:x≤p.2):p7 q L x=p:=by
 obtain ⟨r,hr,rfl⟩:=Zad.mp hp
 obtain ⟨hr,hd⟩:=Zas.mp hr
 simp only [decide_eq_true_eq] at hd
 have h1:r.1+1≤x:=h1
 have h2:x≤r.2 - 1:=h2
 have f:xQ q L x:=(Ba hr hd).fr x h1 h2
 obtain ⟨p,k1,k2,k3,e⟩:=f.gap
 rw [e,Eg k1 hr k2 k3 (by lia:r.1 < x) (by lia) fun z hz=>by
  have:z=x:=by lia
  rw [this];exact f]
theorem Qh {p:Int×Int} (hp:p∈tu q L):Run q L p:=by
 obtain ⟨r,hr,rfl⟩:=Zad.mp hp
 obtain ⟨hr,hd⟩:=Zas.mp hr
 simp only [decide_eq_true_eq] at hd
 exact Ba hr hd
theorem M3 (hf:∀ z,(x≤z∧z≤y)∨(y≤z∧z≤x)->xQ q L z):p7 q L x=p7 q L y:=by
 obtain ⟨p,k1,k2,k3,e⟩:=(hf x (by lia)).gap
 obtain ⟨r,l1,l2,l3,e'⟩:=(hf y (by lia)).gap
 rw [e,e',Eg k1 l1 k2 k3 l2 l3 hf]
end
def lN (w h:Int) (row:Bool):Nat:=(if row then w else h).toNat
def qOn (w:Int) (keep:Nat) (row:Bool) (l:Int):Nat->Bool:=fun x=>keep.testBit (Mth.pl w.toNat (bA row l (x:Int)))
theorem M4 {l m:List Int}:Gh (l.map PV.int) (m.map PV.int)=(l.zip m).map fun p=>PV.tup [.int p.1,.int p.2]:=by
 unfold Gh
 rw [List.zip_map,List.map_map]
 rfl
theorem xR {row:Bool}{l t:Int} (t0:0≤t):uw ((cM row l 0 t).map cellP)=(List.range (t+1).toNat).map fun (i:Nat)=>PV.tup [.int (i:Int),cellP (bA row l (i:Int))]:=by
 unfold cM uw
 apply Zbo
 intro i
 rw [List.getElem?_mapIdx,List.getElem?_map,List.getElem?_map,List.getElem?_map]
 rw [show t+1 - 0=t+1 by omega]
 by_cases hi:i < (t+1).toNat
 ·rw [Za1 hi]
  simp
 ·rw [ZaE (by simpa using hi)];rfl
theorem Eh (ns:List Int) (h:ns≠[]):Cz (ns.map PV.int) (some 1) none=ns.tail.map PV.int:=by
 cases ns with
 | nil=>exact absurd rfl h
 | cons n ns =>
  unfold Cz
  have e1:HT.sIx ((n::ns).map PV.int).length 0 (some 1)=1:=by
   unfold HT.sIx
   simp
  have e2:HT.sIx ((n::ns).map PV.int).length ((n::ns).map PV.int).length none=ns.length+1:=by
   unfold HT.sIx
   simp
  rw [e1,e2]
  show ((ns.map PV.int).take (ns.length+1 - 1))=_
  rw [Nat.add_sub_cancel,ZaL (by simp)]
  rfl
theorem Ei {w h:Int} (sz:Sz w h) (keep:Nat) {row:Bool}{l:Int} (l0:0≤l) (l1:l < if row then h else w) :
  eF [.tup [.int w,.int h],.int keep,.str (cH row),.int l]=some (.ok (.lst ((tu (qOn w keep row l) (lN w h row)).map fun p=>uF row l p.1 p.2))):=by
 have w0:=sz.w0
 have w1:=sz.w1
 have h0:=sz.h0
 have h1:=sz.h1
 obtain ⟨L,eL,L0,L1⟩:∃ L:Int,(if row then w else h)=L∧1≤L∧L≤24:=⟨_,rfl,by split <;> lia,by split <;> lia⟩
 have eN:lN w h row=L.toNat:=by unfold lN;rw [eL]
 have kl:(fj (qOn w keep row l) L.toNat).length≤100:=by
  unfold fj
  simp only [Zav,List.length_append,List.length_map,List.length_nil]
  have:=ZaQ (qOn w keep row l) (List.range L.toNat)
  rw [List.length_range] at this
  lia
 refine vg (x:=eE (startR [.tup [.int w,.int h],.int keep,.str (cH row),.int l] 3)) ?_
 unfold eE
 rw [show startR [.tup [.int w,.int h],.int keep,.str (cH row),.int l] 3=[some (.sh (.tup [.int w,.int h])),some (.sh (.int keep)),some (.sh (.str (cH row))),some (.sh (.int l)),none,none,none] from rfl]
 walk_at "rd"
 rw [JH,eL]
 walk_at "rd"
 rw [show PV.tup [.str (cH row),.int l,.int 0,.int (L - 1)]=uF row l 0 (L - 1) from rfl,zj (by lia) (by lia) (by lia)]
 walk_at "rd"
 have eLN:(L - 1+1).toNat=L.toNat:=by congr 1;lia
 have le:(uw ((cM row l 0 (L - 1)).map cellP)).length≤100:=by
  rw [xR (by lia)]
  simp only [List.length_map,List.length_range]
  lia
 have big:∀ {k:Nat},k≤9000->k≤sizeLine:=fun h=>ZaD (uf (by lia))
 refine ⟨by decide,by decide,big (by lia),?_⟩
 rw [xR (by lia),eLN,jD (fun (i:Nat)=>PV.tup [.int (i:Int),cellP (bA row l (i:Int))]) (qOn w keep row l) (fun (i:Nat)=>PV.int (i:Int)) (List.range L.toNat) fun i hi=>?a,tv_some]
 case a =>
  have hi:i < L.toNat:=Zat.mp hi
  have cl:Cell w h (bA row l (i:Int)).1 (bA row l (i:Int)).2:=by
   unfold bA
   cases row with
   | true=>exact ⟨by show (0:Int)≤i;lia,by have:(if true then w else h)=L:=eL;rw [if_pos rfl] at this;show (i:Int) < w;lia,l0,by simpa using l1⟩
   | false=>exact ⟨l0,by simpa using l1,by show (0:Int)≤i;lia,by have:(if false then w else h)=L:=eL;rw [if_neg (by decide)] at this;show (i:Int) < h;lia⟩
  refine ⟨_,rfl,jU ?_,fun _=>rfl⟩
  walk_at "rd"
  rw [Mw sz cl]
  walk_at "rd"
  rfl
 have ek:PV.int (-1)::(((List.range L.toNat).filter (qOn w keep row l)).map (fun (i:Nat)=>PV.int (i:Int))++[PV.int (L - 1+1)])=(fj (qOn w keep row l) L.toNat).map PV.int:=by
  unfold fj
  rw [Zai,ZaX,List.map_map,show L - 1+1=((L.toNat:Nat):Int) by lia]
  rfl
 have lf:((List.range L.toNat).filter (qOn w keep row l)).length≤L.toNat:=by
  have:=ZaQ (qOn w keep row l) (List.range L.toNat)
  rwa [List.length_range] at this
 rw [ek]
 have ec:Cz ((fj (qOn w keep row l) L.toNat).map PV.int) (some 1) none=(fj (qOn w keep row l) L.toNat).tail.map PV.int:=by
  exact Eh _ (by unfold fj;simp)
 rw [ec,M4]
 refine ⟨by rw [List.length_map];exact big (by lia),by decide,by rw [List.length_map];exact big (by lia),?_,?_⟩
 ·rw [List.length_map]
  refine big ?_
  rw [List.length_zip]
  lia
 rw [jD (fun p:Int×Int=>PV.tup [.int p.1,.int p.2]) (fun p=>decide (p.1+1 < p.2)) (fun p=>uF row l (p.1+1) (p.2 - 1)) _ fun p _=>⟨_,rfl,jU ?b,fun _=>jU ?c⟩,tv_some]
 case b=>walk_at "rd"
 case c =>
  walk_at "rd"
  exact ⟨by decide,rfl⟩
 rw [eN]
 unfold tu qC
 rw [List.map_map]
 rfl
def lnOf (row:Bool) (c:Int×Int):Int:=if row then c.2 else c.1
def jf (row:Bool) (c:Int×Int):Int:=if row then c.1 else c.2
def runC (w h:Int) (keep:Nat) (row:Bool) (c:Int×Int):Int×Int:=p7 (qOn w keep row (lnOf row c)) (lN w h row) (jf row c)
def stS (w h:Int) (keep:Nat) (row:Bool) (c:Int×Int):Sk:=(cH row,[lnOf row c,(runC w h keep row c).1,(runC w h keep row c).2])
def ckK (c:Int×Int):List Key:=[.inl c.1,.inl c.2]
theorem Ie (row:Bool) (l x:Int):lnOf row (bA row l x)=l:=by cases row <;> rfl
theorem zu (row:Bool) (l x:Int):jf row (bA row l x)=x:=by cases row <;> rfl
theorem Ig (row:Bool) (c:Int×Int):bA row (lnOf row c) (jf row c)=c:=by cases row <;> rfl
theorem Qi {c d:Int×Int} (e:ckK c=ckK d):c=d:=by
 unfold ckK at e
 rw [Zbj,Zbj] at e
 exact Prod.ext (Sum.inl.inj e.1) (Sum.inl.inj e.2.1)
def Kn (w h:Int) (keep:Nat) (row:Bool) (d:List (List Key×PV)) (c:Int×Int):Prop:=di d (ckK c)=some (skP (stS w h keep row c))
theorem Kn.put {w h:Int}{keep:Nat}{row:Bool}{d:List (List Key×PV)}{c:Int×Int} (k:Int×Int) (h':Kn w h keep row d c):Kn w h keep row (iU d (ckK k) (skP (stS w h keep row k))) c:=by
 unfold Kn
 rw [w5]
 by_cases e:ckK c=ckK k
 ·rw [if_pos e,Qi e]
 ·rw [if_neg e];exact h'
theorem Kn.new {w h:Int}{keep:Nat}{row:Bool}{d:List (List Key×PV)} (k:Int×Int):Kn w h keep row (iU d (ckK k) (skP (stS w h keep row k))) k:=by
 unfold Kn
 rw [w5,if_pos rfl]
theorem vq {w h:Int}{keep:Nat}{row:Bool}{c:Int×Int} (cl:Cell w h c.1 c.2) (no:keep.testBit (Mth.pl w.toNat c)=false):xQ (qOn w keep row (lnOf row c)) (lN w h row) (jf row c):=by
 have c0:=cl.c0
 have c1:=cl.c1
 have r0:=cl.r0
 have r1:=cl.r1
 unfold lN
 cases row with
 | true =>
  refine ⟨c0,by show c.1 < _;simp;lia,?_⟩
  show keep.testBit (Mth.pl w.toNat (((c.1.toNat:Nat):Int),c.2))=false
  rw [Zbg c0];exact no
 | false =>
  refine ⟨r0,by show c.2 < _;simp;lia,?_⟩
  show keep.testBit (Mth.pl w.toNat (c.1,((c.2.toNat:Nat):Int)))=false
  rw [Zbg r0];exact no
theorem ln0 {w h:Int}{c:Int×Int} (cl:Cell w h c.1 c.2) (row:Bool):0≤lnOf row c:=by
 cases row
 ·exact cl.c0
 ·exact cl.r0
def LbD (w h:Int) (keep:Nat) (row:Bool) (d:List (List Key×PV)) (i:Nat):Prop:=∀ c:Int×Int,Cell w h c.1 c.2->keep.testBit (Mth.pl w.toNat c)=false->lnOf row c < i->Kn w h keep row d c
def LbR (w h:Int) (keep:Nat) (row:Bool) (d:List (List Key×PV)) (i j:Nat):Prop:=∀ (m:Nat) p (y:Int),m < j->(tu (qOn w keep row (i:Int)) (lN w h row))[m]?=some p->p.1≤y->y≤p.2->Kn w h keep row d (bA row i y)
inductive LbI (w h:Int) (keep:Nat) (row:Bool) (i:Nat):Rho->Prop
 | mk (d:List (List Key×PV)) (v4 v5 v6:Option Sl) (dl:d.length≤i * 700) (hd:LbD w h keep row d i):LbI w h keep row i [some (.sh (.tup [.int w,.int h])),some (.sh (.int keep)),some (.sh (.str (cH row))),some (.ow (.dt d)),v4,v5,v6]
inductive LbJ (w h:Int) (keep:Nat) (row:Bool) (i j:Nat):Rho->Prop
 | mk (d:List (List Key×PV)) (v5 v6:Option Sl) (dl:d.length≤i * 700+j * 25) (hd:LbD w h keep row d i) (hr:LbR w h keep row d i j):LbJ w h keep row i j [some (.sh (.tup [.int w,.int h])),some (.sh (.int keep)),some (.sh (.str (cH row))),some (.ow (.dt d)),some (.sh (.int (i:Int))),v5,v6]
inductive LbK (w h:Int) (keep:Nat) (row:Bool) (i j:Nat) (p:Int×Int) (k:Nat):Rho->Prop
 | mk (d:List (List Key×PV)) (v6:Option Sl) (dl:d.length≤i * 700+j * 25+k) (hd:LbD w h keep row d i) (hr:LbR w h keep row d i j) (hk:∀ y:Int,p.1≤y->y < p.1+k->Kn w h keep row d (bA row i y)):LbK w h keep row i j p k [some (.sh (.tup [.int w,.int h])),some (.sh (.int keep)),some (.sh (.str (cH row))),some (.ow (.dt d)),some (.sh (.int (i:Int))),some (.sh (uF row i p.1 p.2)),v6]
theorem M5 {w h:Int} (sz:Sz w h) (keep:Nat) (row:Bool):∃ d,cL [.tup [.int w,.int h],.int keep,.str (cH row)]=some (.ok (.dt d))∧∀ c:Int×Int,Cell w h c.1 c.2->keep.testBit (Mth.pl w.toNat c)=false->Kn w h keep row d c:=by
 have w0:=sz.w0
 have w1:=sz.w1
 have h0:=sz.h0
 have h1:=sz.h1
 obtain ⟨n,en,n1,n2⟩:∃ n:Int,(if row then h else w)=n∧1≤n∧n≤24:=⟨_,rfl,by split <;> lia,by split <;> lia⟩
 have L24:lN w h row≤24:=by unfold lN;split <;> lia
 suffices hh:∃ p,cL [.tup [.int w,.int h],.int keep,.str (cH row)]=some (.ok p)∧∃ d,p=.dt d∧∀ c:Int×Int,Cell w h c.1 c.2->keep.testBit (Mth.pl w.toNat c)=false->Kn w h keep row d c by
  obtain ⟨p,e,d,rfl,q⟩:=hh
  exact ⟨d,e,q⟩
 refine vh (lz fun QS hQ0=>?_)
 unfold gF
 rw [show startR [.tup [.int w,.int h],.int keep,.str (cH row)] 4=[some (.sh (.tup [.int w,.int h])),some (.sh (.int keep)),some (.sh (.str (cH row))),none,none,none,none] from rfl]
 walk_at "rd"
 rw [Mx,en]
 walk_at "rd"
 refine ⟨by lia,by lia,?_⟩
 refine dM (I:=LbI w h keep row)
  (.mk [] none none none (ZaO _) fun c cl _ hl=>absurd hl (by have:=ln0 cl row;lia)) ?_ ?_
 case refine_2 =>
  rintro _ ⟨d,v4,v5,v6,_,hd⟩
  walk_at "rd"
  unfold jm
  walk_at "rd"
  refine hQ0 _ ⟨_,rfl,d,rfl,fun c cl no=>hd c cl no ?_⟩
  rw [cV]
  have:lnOf row c < n:=by rw [←en];unfold lnOf;cases row;exact cl.c1;exact cl.r1
  lia
 rintro i x _ hx ⟨d,v4,v5,v6,dl,hd⟩
 refine pP fun QS hQ=>?_
 obtain ⟨hi,rfl⟩:=ph hx
 rw [Int.zero_add]
 unfold jk
 walk_at "rd"
 rw [Ei sz keep (by lia) (by rw [en];lia)]
 walk_at "rd"
 have rl:(tu (qOn w keep row (i:Int)) (lN w h row)).length≤26:=by
  unfold tu qC
  rw [List.length_map]
  refine ZaA (ZaQ _ _) ?_
  rw [List.length_zip]
  refine ZaA (Nat.min_le_left _ _) ?_
  unfold fj
  have:=ZaQ (qOn w keep row (i:Int)) (List.range (lN w h row))
  rw [List.length_range] at this
  simp only [Zav,List.length_append,List.length_map,List.length_nil]
  lia
 refine dM (I:=LbJ w h keep row i)
  (.mk d v5 v6 (by lia) hd fun m p y hm=>absurd hm (Nat.not_lt_zero _)) ?_ ?_
 case refine_2 =>
  rintro _ ⟨d,v5,v6,dl,hd,hr⟩
  rw [List.length_map] at dl hr
  refine hQ _ (.mk d _ v5 v6 (by lia) fun c cl no hl=>?_)
  by_cases e:lnOf row c < i
  ·exact hd c cl no e
  ·have e:lnOf row c=i:=by lia
   have fr:=vq (row:=row) cl no
   obtain ⟨_,f1,f2,f3⟩:=fr.run
   obtain ⟨m,hm⟩:=Zbm f3
   rw [e] at hm f1 f2
   have:=hr m _ (jf row c) (Zab.mp hm).1 hm f1 f2
   rw [←e,Ig] at this
   exact this
 clear hQ
 rintro j x _ hx ⟨d,v5,v6,dl,hd,hr⟩
 refine pP fun QS hQ=>?_
 rw [List.getElem?_map] at hx
 cases ep:(tu (qOn w keep row (i:Int)) (lN w h row))[j]? with
 | none=>rw [ep] at hx;cases hx
 | some p =>
  rw [ep] at hx
  cases hx
  have hp:=Zag ep
  have pr:=Qh hp
  have jl:j < 26:=by have:=(Zab.mp ep).1;lia
  have a0:=pr.a0
  have ab:=pr.ab
  have b1:=pr.b1
  unfold jj
  walk_at "rd"
  rw [zj a0 ab (by lia)]
  walk_at "rd"
  refine dM (I:=LbK w h keep row i j p)
   (.mk d v6 (by lia) hd hr fun y h1 h2=>by lia) ?_ ?_
  case refine_2 =>
   rintro _ ⟨d,v6,dl,hd,hr,hk⟩
   have lc:((cM row (i:Int) p.1 p.2).map cellP).length=(p.2+1 - p.1).toNat:=by unfold cM;simp
   rw [lc] at dl hk
   refine hQ _ (.mk d _ v6 (by lia) hd fun m p' y hm e h1 h2=>?_)
   by_cases e':m=j
   ·subst e'
    rw [ep] at e;cases e
    exact hk y h1 (by lia)
   ·exact hr m p' y (by lia) e h1 h2
  clear hQ
  rintro k x _ hx ⟨d,v6,dl,hd,hr,hk⟩
  refine pP fun QS hQ=>?_
  rw [List.getElem?_map] at hx
  cases ec:(cM row (i:Int) p.1 p.2)[k]? with
  | none=>rw [ec] at hx;cases hx
  | some c =>
   rw [ec] at hx
   cases hx
   have kl:k < (p.2+1 - p.1).toNat:=by have:=(Zab.mp ec).1;simpa [cM] using this
   have hc:c=bA row i (p.1+(k:Int)):=by
    unfold cM at ec
    rw [List.getElem?_map,Za1 kl] at ec
    exact (Zaa ec).symm
   have es:uF row (i:Int) p.1 p.2=skP (stS w h keep row c):=by
    have:=Tg hp (x:=p.1+(k:Int)) (by lia) (by lia)
    unfold stS runC
    rw [hc,Ie,zu,this]
    rfl
   unfold ji
   walk_at "rd"
   refine ⟨.dt (iU d (ckK c) (skP (stS w h keep row c))),?_,hQ _ (.mk _ _ ?_ (fun c' cl no hl=>(hd c' cl no hl).put c) (fun m p' y hm e h1 h2=>(hr m p' y hm e h1 h2).put c) fun y h1 h2=>?_)⟩
   ·rw [es]
    show (if d.length < sizeLine then some (PV.dt (iU d (ckK c) (skP (stS w h keep row c)))) else none)=_
    exact if_pos (uf (by lia))
   ·have:=DR (ckK c) (skP (stS w h keep row c)) d
    lia
   ·by_cases e:y < p.1+(k:Int)
    ·exact (hk y h1 e).put c
    ·have:y=p.1+(k:Int):=by lia
     rw [this,←hc]
     exact Kn.new c
def jJ (l:List Sk) (s:Sk):List Sk:=if s∈l then l else l++[s]
def ddp (xs:List Sk):List Sk:=xs.foldl jJ []
theorem M6 (xs:List Sk) (s:Sk):ddp (xs++[s])=jJ (ddp xs) s:=by
 unfold ddp;rw [List.foldl_append];rfl
theorem Bb:∀ (xs acc:List Sk),acc.Nodup->(xs.foldl jJ acc).Nodup∧(∀ s,s∈xs.foldl jJ acc↔s∈acc∨s∈xs)∧(xs.foldl jJ acc).length≤acc.length+xs.length
 | [],acc,nd=>⟨nd,fun s=>by simp,by simp⟩
 | x::xs,acc,nd=>by
  have nd2:(jJ acc x).Nodup:=by
   unfold jJ
   split
   ·exact nd
   ·rename_i h
    rw [Zbh]
    exact ⟨nd,by simp,fun a ha b hb e=>by simp at hb;subst hb;subst e;exact h ha⟩
  have mem:∀ s,s∈jJ acc x↔s∈acc∨s=x:=fun s=>by
   unfold jJ
   split
   ·rename_i h
    exact ⟨.inl,fun q=>q.elim id fun e=>by rw [e];exact h⟩
   ·rw [Zae,Zay]
  have len:(jJ acc x).length≤acc.length+1:=by unfold jJ;split <;> simp
  obtain ⟨h1,h2,h3⟩:=Bb xs (jJ acc x) nd2
  refine ⟨h1,fun s=>?_,?_⟩
  ·show s∈xs.foldl jJ (jJ acc x)↔_
   rw [h2,mem,Zaq,or_assoc]
  ·show (xs.foldl jJ (jJ acc x)).length≤_
   rw [Zav];lia
theorem M7 (xs:List Sk):(ddp xs).Nodup:=(Bb xs [] List.nodup_nil).1
theorem fK {xs:List Sk}{s:Sk}:s∈ddp xs↔s∈xs:=by have:=(Bb xs [] List.nodup_nil).2.1 s;simpa [ddp] using this
theorem Bc (xs:List Sk):(ddp xs).length≤xs.length:=by have:=(Bb xs [] List.nodup_nil).2.2;simpa [ddp] using this
theorem Ej {f:Sk->PV}{s:Sk}:∀ {ks:List Sk},di (ks.map fun t=>(skK t,f t)) (skK s)=if s∈ks then some (f s) else none
 | []=>rfl
 | t::ks=>by
  rw [Zai]
  unfold di
  by_cases e:t=s
  ·subst e;rw [if_pos rfl,if_pos List.mem_cons_self]
  ·rw [if_neg (fun z=>e (vp z)),Ej]
   by_cases h:s∈ks
   ·rw [if_pos h,if_pos (List.mem_cons_of_mem _ h)]
   ·rw [if_neg h,if_neg (fun z=>h ((Zaq.mp z).resolve_left (Za7 e)))]
theorem Ii {f:Sk->PV}{s:Sk}{p:PV}:∀ {ks:List Sk},ks.Nodup->bT (ks.map fun t=>(skK t,f t)) (skK s) p=(jJ ks s).map fun t=>(skK t,if t=s then p else f t)
 | [],_=>by simp [bT,jJ]
 | t::ks,nd=>by
  rw [Za9] at nd
  have ih:=Ii (f:=f) (s:=s) (p:=p) nd.2
  rw [Zai]
  unfold bT
  by_cases e:t=s
  ·subst e
   rw [if_pos rfl,show jJ (t::ks) t=t::ks from if_pos List.mem_cons_self,Zai,if_pos rfl]
   congr 1
   exact ZaU fun u hu=>by rw [if_neg (fun z=>nd.1 (by rw [←z];exact hu))]
  ·rw [if_neg (fun z=>e (vp z)),ih]
   have:jJ (t::ks) s=t::jJ ks s:=by
    unfold jJ
    by_cases h:s∈ks
    ·rw [if_pos h,if_pos (List.mem_cons_of_mem _ h)]
    ·rw [if_neg h,if_neg (fun z=>h ((Zaq.mp z).resolve_left (Za7 e)))];rfl
   rw [this,Zai,if_neg e]
def jE (r c:Int×Int->Sk) (cs:List (Int×Int)) (s:Sk):List PV:=(cs.filter fun x=>decide (r x=s)).map fun x=>skP (c x)
def jF (r c:Int×Int->Sk) (cs:List (Int×Int)):List (List Key×PV):=(ddp (cs.map r)).map fun s=>(skK s,.lst (jE r c cs s))
theorem Ek {r c:Int×Int->Sk}{cs:List (Int×Int)}{s:Sk} (h:s ∉ ddp (cs.map r)):jE r c cs s=[]:=by
 unfold jE
 rw [List.filter_eq_nil_iff.mpr fun x hx=>?_]
 ·rfl
 ·simp only [decide_eq_true_eq]
  exact fun e=>h (fK.mpr (Zad.mpr ⟨x,hx,e⟩))
theorem JL {r c:Int×Int->Sk}{cs:List (Int×Int)}{s:Sk}:(di (jF r c cs) (skK s)).getD (.lst [])=.lst (jE r c cs s):=by
 unfold jF
 rw [Ej (f:=fun s=>.lst (jE r c cs s))]
 by_cases h:s∈ddp (cs.map r)
 ·rw [if_pos h];rfl
 ·rw [if_neg h,Ek h];rfl
theorem Gv {r c:Int×Int->Sk}{cs:List (Int×Int)}{x:Int×Int}:bT (jF r c cs) (skK (r x)) (.lst (jE r c cs (r x)++[skP (c x)]))=jF r c (cs++[x]):=by
 unfold jF
 rw [Ii (f:=fun s=>.lst (jE r c cs s)) (M7 _),ZaX,Zai,List.map_nil,M6]
 refine ZaU fun t _=>?_
 congr 1
 unfold jE
 rw [List.filter_append,ZaX]
 by_cases e:t=r x
 ·rw [if_pos e,e]
  simp
 ·rw [if_neg e]
  rw [show List.filter (fun x=>decide (r x=t)) [x]=[] by simp [Za7 e]]
  simp
theorem JM {i:Nat}{fk fe:Fn PV}{ρ:Rho}{l:List (List Key×PV)}{s:Sk}{row:List PV}{q:PV}{QS:Out->Prop} (hl:ρ[i]?=some (some (.dp (.dt l)))) (len:l.length < sizeLine) (hk:fk ρ=some (.ok (skP s))) (hr:(di l (skK s)).getD (.lst [])=.lst row)
  (he:fe (ρ.set i (some (.dp (.dt (bT l (skK s) (.lst row))))))=some (.ok q)) (st:q.still=true) (rl:row.length < sizeLine) (hq:QS (.nx (ρ.set i (some (.dp (.dt (bT l (skK s) (.lst (row++[q])))))))))
  : To (rN i fk fe ρ) QS:=by
 refine ⟨.nx _,?_,trivial,hq⟩
 unfold rN
 rw [show Ae i ρ=some (.dt l) by unfold Ae;rw [hl]]
 simp only [if_pos len,hk,ik]
 show (match eG (.str s.1::s.2.map PV.int) with
   | some k=>_
   | none=>_)=_
 rw [ug]
 simp only [hr,he,ik]
 rw [if_pos ⟨st,rl⟩]
noncomputable abbrev bU (w h:Int) (away:Nat):List (Int×Int):=Mth.pick w.toNat (w.toNat * h.toNat) fun i=>away.testBit i
theorem jG {w h:Int}{away:Nat}{c:Int×Int} (hc:c∈bU w h away):Cell w h c.1 c.2∧away.testBit (Mth.pl w.toNat c)=true:=by
 unfold bU Mth.pick at hc
 obtain ⟨i,hi,rfl⟩:=Zad.mp hc
 obtain ⟨h1,h2⟩:=Zas.mp hi
 exact ⟨Cell.of (Mth.tO (Zat.mp h1)),by rw [Mth.tM];exact h2⟩
theorem M8 {w h:Int} (sz:Sz w h) (away keep:Nat) (dis:∀ c∈bU w h away,keep.testBit (Mth.pl w.toNat c)=false) :
  iY [.tup [.int w,.int h],.int away,.int keep]=some (.ok (.dt (jF (stS w h keep true) (stS w h keep false) (bU w h away)))):=by
 obtain ⟨d1,e1,k1⟩:=M5 sz keep true
 obtain ⟨d2,e2,k2⟩:=M5 sz keep false
 have hn:=sz.nat
 have ln:(bU w h away).length≤576:=ZaA (Mth.kJ _ _ _) hn.2
 suffices hh:∃ p,iY [.tup [.int w,.int h],.int away,.int keep]=some (.ok p)∧p=.dt (jF (stS w h keep true) (stS w h keep false) (bU w h away)) by
  obtain ⟨p,e,rfl⟩:=hh;exact e
 refine HJ ?_
 unfold oF
 rw [show startR [.tup [.int w,.int h],.int away,.int keep] 4=[some (.sh (.tup [.int w,.int h])),some (.sh (.int away)),some (.sh (.int keep)),none,none,none,none] from rfl]
 walk_at "rd"
 rw [show PV.str "row"=.str (cH true) from rfl,e1]
 walk_at "rd"
 rw [show PV.str "column"=.str (cH false) from rfl,e2]
 walk_at "rd"
 refine ⟨.dt [],rfl,?_⟩
 rw [oK sz away]
 walk_at "rd"
 refine dM (I:=fun i ρ=>∃ v6:Option Sl,ρ=[some (.sh (.tup [.int w,.int h])),some (.sh (.int away)),some (.sh (.int keep)),some (.sh (.dt d1)),some (.sh (.dt d2)),some (.dp (.dt (jF (stS w h keep true) (stS w h keep false) ((bU w h away).take i)))),v6]) ⟨none,rfl⟩ ?_ ?_
 case refine_2 =>
  rintro ρ ⟨v6,rfl⟩
  walk_at "rd"
  unfold pU
  walk_at "rd"
  rw [List.length_map,List.take_length]
 rintro i x ρ hx ⟨v6,rfl⟩
 rw [List.getElem?_map] at hx
 cases ec:(bU w h away)[i]? with
 | none=>rw [ec] at hx;cases hx
 | some c =>
  rw [ec] at hx
  cases hx
  have hc:=Zag ec
  obtain ⟨cl,_⟩:=jG hc
  have no:=dis c hc
  have il:i < (bU w h away).length:=(Zab.mp ec).1
  have tl:((bU w h away).take i).length≤576:=by rw [List.length_take];lia
  have f1:fP (.dt d1) (cellP c)=some (some (skP (stS w h keep true c))):=congrArg some (k1 c cl no)
  have f2:fP (.dt d2) (cellP c)=some (some (skP (stS w h keep false c))):=congrArg some (k2 c cl no)
  unfold pR
  refine JM (s:=stS w h keep true c) (row:=jE (stS w h keep true) (stS w h keep false) ((bU w h away).take i) (stS w h keep true c)) (q:=skP (stS w h keep false c)) rfl (uf ?_) (jU ?_) JL (jU ?_) (xK _) (uf ?_) ?_
  ·unfold jF
   rw [List.length_map]
   have:=Bc (((bU w h away).take i).map (stS w h keep true))
   rw [List.length_map] at this
   lia
  ·walk_at "rd"
   exact ⟨_,f1,rfl⟩
  ·walk_at "rd"
   exact ⟨_,f2,rfl⟩
  ·unfold jE
   rw [List.length_map]
   have:=ZaQ (fun x=>decide (stS w h keep true x=stS w h keep true c)) ((bU w h away).take i)
   lia
  ·rw [Gv,←take_snoc ec]
   exact ⟨_,rfl⟩
theorem sub_len {α:Type} [DecidableEq α]:∀ {l k:List α},l.Nodup->(∀ x∈l,x∈k)->l.length≤k.length
 | [],k,_,_=>ZaO _
 | a::l,k,nd,h=>by
  have ha:a∈k:=h a List.mem_cons_self
  have nd':=Za9.mp nd
  have:=sub_len (l:=l) (k:=k.erase a) nd'.2 fun x hx=>(List.mem_erase_of_ne (fun e:x=a=>nd'.1 (by rw [←e];exact hx))).mpr (h x (List.mem_cons_of_mem _ hx))
  rw [List.length_erase_of_mem ha] at this
  have:0 < k.length:=List.length_pos_of_mem ha
  simp only [Zav];lia
structure KOk (ks:List Sk):Prop where
 nd:ks.Nodup
 ln:∀ s∈ks,s.2.length=3
 tx:∀ s∈ks,s.1≠("":Str)
def fu (ks:List Sk) (i:Nat):Sk:=if i < ks.length then ks.getD i default else (("":Str),[(i:Int),0,0])
section
variable {ks:List Sk}
theorem mW {i:Nat} (h:i < ks.length):fu ks i∈ks:=by
 unfold fu;rw [if_pos h,List.getD_eq_getElem?_getD,List.getElem?_eq_getElem h];exact List.getElem_mem h
theorem Bd {i:Nat} (h:i < ks.length):ks[i]?=some (fu ks i):=by
 unfold fu;rw [if_pos h,List.getD_eq_getElem?_getD,List.getElem?_eq_getElem h];rfl
theorem KOk.inj (k:KOk ks) (i j:Nat) (e:fu ks i=fu ks j):i=j:=by
 by_cases hi:i < ks.length
 ·by_cases hj:j < ks.length
  ·exact (List.getElem?_inj hi k.nd).mp (by rw [Bd hi,Bd hj,e])
  ·have:=k.tx _ (mW hi)
   rw [e] at this
   unfold fu at this
   rw [if_neg hj] at this
   exact absurd rfl this
 ·by_cases hj:j < ks.length
  ·have:=k.tx _ (mW hj)
   rw [←e] at this
   unfold fu at this
   rw [if_neg hi] at this
   exact absurd rfl this
  ·unfold fu at e
   rw [if_neg hi,if_neg hj] at e
   have e:=(Prod.mk.inj e).2
   rw [Zbj] at e
   omega
theorem KOk.l3 (k:KOk ks) (i:Nat):(fu ks i).2.length=3:=by
 by_cases hi:i < ks.length
 ·exact k.ln _ (mW hi)
 ·unfold fu;rw [if_neg hi];rfl
def El (ks:List Sk) (s:Sk):Nat:=ks.findIdx fun t=>decide (t=s)
theorem ul {s:Sk} (h:s∈ks):El ks s < ks.length∧fu ks (El ks s)=s:=by
 have hl:El ks s < ks.length:=List.findIdx_lt_length_of_exists ⟨s,h,by simp⟩
 refine ⟨hl,?_⟩
 have:=List.findIdx_getElem (w:=hl)
 simp only [decide_eq_true_eq] at this
 unfold fu
 rw [if_pos hl,List.getD_eq_getElem?_getD,List.getElem?_eq_getElem hl]
 exact this
end
def Gof {ks ls:List Sk} (h1:KOk ks) (h2:KOk ls):Gs:=⟨fu ks,fu ls,h1.inj,h2.inj,h1.l3,h2.l3⟩
def Wof (r c:Int×Int->Sk) (cs:List (Int×Int)) (i:Nat):List Nat:=(cs.filter fun x=>decide (r x=fu (ddp (cs.map r)) i)).map fun x=>El (ddp (cs.map c)) (c x)
section
variable {r c:Int×Int->Sk}{cs:List (Int×Int)}
theorem Th {i g:Nat} (h:g∈Wof r c cs i):g < (ddp (cs.map c)).length:=by
 obtain ⟨x,hx,rfl⟩:=Zad.mp h
 exact (ul (fK.mpr (Zad.mpr ⟨x,(Zas.mp hx).1,rfl⟩))).1
theorem Em {i g:Nat} (h:g∈Wof r c cs i):∃ x∈cs,r x=fu (ddp (cs.map r)) i∧c x=fu (ddp (cs.map c)) g:=by
 obtain ⟨x,hx,rfl⟩:=Zad.mp h
 have h1:=Zas.mp hx
 exact ⟨x,h1.1,by simpa using h1.2,(ul (fK.mpr (Zad.mpr ⟨x,h1.1,rfl⟩))).2.symm⟩
theorem Ti {x:Int×Int} (h:x∈cs):El (ddp (cs.map c)) (c x)∈Wof r c cs (El (ddp (cs.map r)) (r x)):=by
 refine Zad.mpr ⟨x,Zas.mpr ⟨h,?_⟩,rfl⟩
 simp only [decide_eq_true_eq]
 exact (ul (fK.mpr (Zad.mpr ⟨x,h,rfl⟩))).2.symm
theorem U8 (h1:KOk (ddp (cs.map r))) (h2:KOk (ddp (cs.map c))):PV.dt (jF r c cs)=wiP (Gof h1 h2) (ddp (cs.map r)).length (Wof r c cs):=by
 unfold wiP jF
 congr 1
 apply Zbo
 intro i
 rw [List.getElem?_map,List.getElem?_map]
 by_cases hi:i < (ddp (cs.map r)).length
 ·rw [Za1 hi,Bd hi]
  show some (_,_)=some (_,_)
  congr 2
  show PV.lst _=PV.lst _
  congr 1
  unfold jE Gs.GL Wof
  rw [List.map_map]
  refine ZaU fun x hx=>?_
  show skP (c x)=skP (fu (ddp (cs.map c)) (El (ddp (cs.map c)) (c x)))
  rw [(ul (fK.mpr (Zad.mpr ⟨x,(Zas.mp hx).1,rfl⟩))).2]
 ·rw [ZaE (by simpa using hi),ZaE (by simpa using hi)];rfl
end
noncomputable abbrev StB:=Bool×Int×Int×Int
structure Cov (w h:Int) (away keep:Nat) (S:List StB):Prop where
 on:∀ s∈S,∀ x,s.2.2.1≤x->x≤s.2.2.2->Cell w h (bA s.1 s.2.1 x).1 (bA s.1 s.2.1 x).2∧keep.testBit (Mth.pl w.toNat (bA s.1 s.2.1 x))=false
 all:∀ c:Int×Int,Cell w h c.1 c.2->away.testBit (Mth.pl w.toNat c)=true->∃ s∈S,lnOf s.1 c=s.2.1∧s.2.2.1≤jf s.1 c∧jf s.1 c≤s.2.2.2
theorem M9 {w h:Int}{keep:Nat}{row:Bool}{l f t:Int} (on:∀ x,f≤x->x≤t->Cell w h (bA row l x).1 (bA row l x).2∧keep.testBit (Mth.pl w.toNat (bA row l x))=false) {c d:Int×Int}
  (c1:lnOf row c=l) (c2:f≤jf row c) (c3:jf row c≤t) (d1:lnOf row d=l) (d2:f≤jf row d) (d3:jf row d≤t):stS w h keep row c=stS w h keep row d:=by
 have e:runC w h keep row c=runC w h keep row d:=by
  unfold runC
  rw [c1,d1]
  refine M3 fun z hz=>?_
  obtain ⟨q1,q2⟩:=on z (by lia) (by lia)
  have:=vq (row:=row) q1 q2
  rw [Ie,zu] at this
  exact this
 unfold stS
 rw [e,c1,d1]
theorem Nb {w h:Int}{keep:Nat}{row:Bool}{c:Int×Int} (cl:Cell w h c.1 c.2) (no:keep.testBit (Mth.pl w.toNat c)=false) {x:Int} (h1:(runC w h keep row c).1≤x) (h2:x≤(runC w h keep row c).2) :
  Cell w h (bA row (lnOf row c) x).1 (bA row (lnOf row c) x).2∧keep.testBit (Mth.pl w.toNat (bA row (lnOf row c) x))=false:=by
 have fr:=((vq (row:=row) cl no).run).1.fr x h1 h2
 have x0:=fr.x0
 have x1:=fr.x1
 have nb:=fr.no
 unfold qOn at nb
 rw [Zbg x0] at nb
 refine ⟨?_,nb⟩
 unfold lN at x1
 cases row with
 | true=>exact ⟨x0,by have:x < ((if true=true then w else h).toNat:Int):=x1;rw [if_pos rfl] at this;have:=cl.c0;have:=cl.c1;show x < w;omega,cl.r0,cl.r1⟩
 | false=>exact ⟨cl.c0,cl.c1,x0,by have:x < ((if false=true then w else h).toNat:Int):=x1;rw [if_neg (by decide)] at this;have:=cl.r0;have:=cl.r1;show x < h;omega⟩
theorem Qj {w h:Int}{away keep:Nat}{S:List StB} (cv:Cov w h away keep S) {A B:List (Nat×Nat)}{n:Nat} (P:Pm n (Wof (stS w h keep true) (stS w h keep false) (bU w h away)) A B)
  (h1:KOk (ddp ((bU w h away).map (stS w h keep true)))) (h2:KOk (ddp ((bU w h away).map (stS w h keep false)))):A.length≤S.length:=by
 have ex:∀ p∈A,∃ s∈S,∃ x:Int×Int,lnOf s.1 x=s.2.1∧s.2.2.1≤jf s.1 x∧jf s.1 x≤s.2.2.2∧stS w h keep true x=fu (ddp ((bU w h away).map (stS w h keep true))) p.1∧stS w h keep false x=fu (ddp ((bU w h away).map (stS w h keep false))) p.2:=fun p hp=>by
  obtain ⟨x,hx,e1,e2⟩:=Em (P.ok (p6 P.ndA (show (p.1,p.2)∈A from hp))).1
  obtain ⟨cl,aw⟩:=jG hx
  obtain ⟨s,hs,q1,q2,q3⟩:=cv.all x cl aw
  exact ⟨s,hs,x,q1,q2,q3,e1,e2⟩
 have nd:(A.map (·.1)).Nodup:=P.ndA
 have nd2:=P.Q4
 let f:Nat×Nat->StB:=fun p=>@dite _ (p∈A) (Classical.propDecidable _) (fun hp=>Classical.choose (ex p hp)) fun _=>(true,0,0,0)
 have fe:∀ p (hp:p∈A),f p=Classical.choose (ex p hp):=fun p hp=>@dif_pos _ (Classical.propDecidable _) hp _ _ _
 have inA:A.Nodup:=by
  have:=nd
  rw [List.Nodup,ZaZ] at this
  exact this.imp fun hne e=>hne (by rw [e])
 have key:∀ p∈A,∀ q∈A,f p=f q->p=q:=fun p hp q hq e=>by
  obtain ⟨hs,x,x1,x2,x3,x4,x5⟩:=Zbi (ex p hp)
  obtain ⟨_,y,y1,y2,y3,y4,y5⟩:=Zbi (ex q hq)
  rw [←fe p hp] at hs x1 x2 x3
  rw [←fe q hq,←e] at y1 y2 y3
  have same:=M9 (keep:=keep) (cv.on _ hs) x1 x2 x3 y1 y2 y3
  have lp:=p6 P.ndA (show (p.1,p.2)∈A from hp)
  have lq:=p6 P.ndA (show (q.1,q.2)∈A from hq)
  cases er:(f p).1 with
  | true =>
   rw [er,x4,y4] at same
   have e1:=h1.inj _ _ same
   rw [e1,lq] at lp
   exact Prod.ext e1 (Zaa lp).symm
  | false =>
   rw [er,x5,y5] at same
   have e2:=h2.inj _ _ same
   have bp:=(P.iff _ _).mp lp
   have bq:=(P.iff _ _).mp lq
   rw [e2,bq] at bp
   exact Prod.ext (Zaa bp).symm e2
 have:=sub_len (l:=A.map f) (k:=S) (by
  rw [List.Nodup,ZaZ]
  exact inA.imp_of_mem fun {p q} hp hq hne e=>hne (key p hp q hq e)) fun s hs=>by
  obtain ⟨p,hp,rfl⟩:=Zad.mp hs
  rw [fe p hp]
  exact (Zbi (ex p hp)).1
 simpa using this
theorem jY (a b:Nat):Builtin.bitAnd (a:Int) (b:Int)=((a &&& b:Nat):Int):=by
 rw [bitAnd_pp (Za3 _) (Za3 _),ZaG,ZaG]
def toB (s:Sk):StB:=(decide (s.1=Str.ofString "row"),s.2.getD 0 0,s.2.getD 1 0,s.2.getD 2 0)
theorem Be (w h:Int) (keep:Nat) (row:Bool) (c:Int×Int):toB (stS w h keep row c)=(row,lnOf row c,(runC w h keep row c).1,(runC w h keep row c).2):=by
 unfold toB stS
 rw [HS];rfl
theorem Bf (w h:Int) (keep:Nat) (row:Bool) (cs:List (Int×Int)):KOk (ddp (cs.map (stS w h keep row))) where
 nd:=M7 _
 ln:=fun s hs=>by obtain ⟨x,_,rfl⟩:=Zad.mp (fK.mp hs);rfl
 tx:=fun s hs=>by
  obtain ⟨x,_,rfl⟩:=Zad.mp (fK.mp hs)
  cases row
  ·show Str.ofString "column"≠_;decide
  ·show Str.ofString "row"≠_;decide
section
variable {w h:Int}{away keep:Nat}{A B B':List (Nat×Nat)}{R:List Nat}{cb:List (Nat×Nat)}
noncomputable abbrev ksN (w h:Int) (away keep:Nat) (row:Bool):List Sk:=ddp ((bU w h away).map (stS w h keep row))
noncomputable abbrev WN (w h:Int) (away keep:Nat):Nat->List Nat:=Wof (stS w h keep true) (stS w h keep false) (bU w h away)
def Bg (w h:Int) (away keep:Nat) (R:List Nat) (cb:List (Nat×Nat)):List Sk:=((List.range (ksN w h away keep true).length).filter fun a=>!R.contains a).map (fu (ksN w h away keep true))++cb.map fun p=>fu (ksN w h away keep false) p.1
theorem Ij {s:Sk} (wl:∀ p∈cb,p.1 < (ksN w h away keep false).length) (hs:s∈Bg w h away keep R cb):∃ row,∃ x∈bU w h away,s=stS w h keep row x:=by
 rcases Zae.mp hs with hs | hs
 ·obtain ⟨a,ha,rfl⟩:=Zad.mp hs
  obtain ⟨x,hx,e⟩:=Zad.mp (fK.mp (mW (Zat.mp (Zas.mp ha).1)))
  exact ⟨true,x,hx,e.symm⟩
 ·obtain ⟨p,hp,rfl⟩:=Zad.mp hs
  obtain ⟨x,hx,e⟩:=Zad.mp (fK.mp (mW (wl p hp)))
  exact ⟨false,x,hx,e.symm⟩
theorem Qk (dis:∀ c∈bU w h away,keep.testBit (Mth.pl w.toNat c)=false) (wl:∀ p∈cb,p.1 < (ksN w h away keep false).length) (hc:∀ a∈R,∀ x∈WN w h away keep a,x∈cb.map (·.1)):Cov w h away keep ((Bg w h away keep R cb).map toB) where
 on:=fun s hs x h1 h2=>by
  obtain ⟨t,ht,rfl⟩:=Zad.mp hs
  obtain ⟨row,c,hcs,rfl⟩:=Ij wl ht
  rw [Be] at h1 h2 ⊢
  exact Nb (jG hcs).1 (dis c hcs) h1 h2
 all:=fun c cl aw=>by
  have hcs:c∈bU w h away:=by
   unfold bU Mth.pick
   refine Zad.mpr ⟨Mth.pl w.toNat c,Zas.mpr ⟨Zat.mpr (Mth.Ue cl.inR),aw⟩,Mth.tQ cl.inR⟩
  have no:=dis c hcs
  have in1:stS w h keep true c∈ksN w h away keep true:=fK.mpr (Zad.mpr ⟨c,hcs,rfl⟩)
  have in2:stS w h keep false c∈ksN w h away keep false:=fK.mpr (Zad.mpr ⟨c,hcs,rfl⟩)
  have done:∀ row,stS w h keep row c∈Bg w h away keep R cb->∃ s∈(Bg w h away keep R cb).map toB,lnOf s.1 c=s.2.1∧s.2.2.1≤jf s.1 c∧jf s.1 c≤s.2.2.2:=fun row hm=>by
   obtain ⟨_,f1,f2,_⟩:=(vq (row:=row) cl no).run
   exact ⟨_,Zad.mpr ⟨_,hm,rfl⟩,by rw [Be],by rw [Be];exact f1,by rw [Be];exact f2⟩
  obtain ⟨i1,i2⟩:=ul in1
  obtain ⟨j1,j2⟩:=ul in2
  by_cases hR:El (ksN w h away keep true) (stS w h keep true c)∈R
  ·refine done false (ZaB _ ?_)
   obtain ⟨p,hp,e⟩:=Zad.mp (hc _ hR _ (Ti hcs))
   exact Zad.mpr ⟨p,hp,by rw [e];exact j2⟩
  ·refine done true (Zbl _ (Zad.mpr ⟨_,Zas.mpr ⟨Zat.mpr i1,?_⟩,i2⟩))
   simpa using hR
theorem Ik {n:Nat}{W:Nat->List Nat} (hn:n=(ksN w h away keep true).length) (P:Pm n W A B) (hB:∀ g a,lk B' g=some a↔lk B g=some a) (hw:Wk n W B' (m9 n A) R cb):(Bg w h away keep R cb).length=A.length:=by
 subst hn
 have nd:=Wk.ndR P hB hw
 have hl:=hw.len
 have two:∀ (t:Nat->Bool) (l:List Nat),(l.filter t).length+(l.filter fun a=>!t a).length=l.length:=fun t l=>by
  induction l with
  | nil=>rfl
  | cons a l ih=>cases ht:t a <;> simp [List.filter_cons,ht] <;> lia
 have t1:=two (fun a=>R.contains a) (List.range (ksN w h away keep true).length)
 have t2:=two (fun a=>(lk A a).isNone) (List.range (ksN w h away keep true).length)
 have e1:((List.range (ksN w h away keep true).length).filter fun a=>R.contains a).length=R.length:=by
  refine Nat.le_antisymm (cW (List.Nodup.sublist Zbc ZbA) fun x hx=>?_) (cW nd fun x hx=>?_)
  ·simpa using (Zas.mp hx).2
  ·exact Zas.mpr ⟨Zat.mpr (hw.lt x hx),by simpa using hx⟩
 have e2:((List.range (ksN w h away keep true).length).filter fun a=>!(lk A a).isNone).length=A.length:=by
  have el:(A.map (·.1)).length=A.length:=List.length_map _
  rw [←el]
  refine Nat.le_antisymm (cW (List.Nodup.sublist Zbc ZbA) fun x hx=>?_) (cW P.ndA fun x hx=>?_)
  ·have:=(Zas.mp hx).2
   cases e:lk A x with
   | none=>rw [e] at this;cases this
   | some g=>exact Zad.mpr ⟨_,Aw e,rfl⟩
  ·cases e:lk A x with
   | none=>exact absurd hx (mU.mp e)
   | some g=>exact Zas.mpr ⟨Zat.mpr (P.ok e).2,by rw [e];rfl⟩
 unfold Bg
 rw [List.length_append,List.length_map,List.length_map]
 unfold m9 at hl
 lia
theorem Tj (nd:(cb.map (·.1)).Nodup) (wl:∀ p∈cb,p.1 < (ksN w h away keep false).length):(Bg w h away keep R cb).Nodup:=by
 unfold Bg
 rw [Zbh]
 refine ⟨?_,?_,fun s hs t ht e=>?_⟩
 ·rw [List.Nodup,ZaZ]
  exact (List.Nodup.sublist Zbc ZbA).imp fun hne e=>hne ((Bf w h keep true _).inj _ _ e)
 ·rw [List.Nodup,ZaZ]
  rw [List.Nodup,ZaZ] at nd
  exact nd.imp fun hne e=>hne ((Bf w h keep false _).inj _ _ e)
 ·obtain ⟨a,ha,rfl⟩:=Zad.mp hs
  obtain ⟨p,hp,rfl⟩:=Zad.mp ht
  obtain ⟨x,hx,e1⟩:=Zad.mp (fK.mp (mW (Zat.mp (Zas.mp ha).1)))
  obtain ⟨y,hy,e2⟩:=Zad.mp (fK.mp (mW (wl p hp)))
  rw [←e1,←e2] at e
  have e:=(Prod.mk.inj e).1
  exact absurd e (by decide)
end
theorem Nf {s:Sk} (h:s.2.length=3):cQ (skP s) (.int 1)=some (.ok (.int (s.2.getD 0 0))):=by
 obtain ⟨t,l⟩:=s
 match l,h with
 | [a,b,c],_=>rfl
theorem En (n:Nat):∀ (l m:List Int),eqL (eqF n) (l.map PV.int) (m.map PV.int)=some (decide (l=m))
 | [],[]=>rfl
 | [],b::m=>rfl
 | a::l,[]=>rfl
 | a::l,b::m=>by
  rw [Zai,Zai,eqL,eqF_int,En n l m]
  simp only [Zbj]
  by_cases h:a=b <;> simp [h]
theorem Tn (n:Nat) (p q:Sk):eqF (n+1) (skP p) (skP q)=some (decide (p=q)):=by
 show eqL (eqF n) (.str p.1::p.2.map PV.int) (.str q.1::q.2.map PV.int)=_
 rw [eqL,eqF_str,En]
 have:(p=q)↔(p.1=q.1∧p.2=q.2):=Prod.ext_iff
 by_cases h:p.1=q.1 <;> simp [this,h]
theorem Ng {p:Sk}{l:List Sk}:inU (skP p) (.lst (l.map skP))=some (decide (p∈l)):=PQ (fun a b=>Tn 30 a b) p l
theorem JN {w h:Int} (sz:Sz w h) {away keep:Nat} (dis:∀ c∈bU w h away,keep.testBit (Mth.pl w.toNat c)=false) (none_:away &&& keep=0) :
  ∃ (S:List Sk) (T:List PV),fJ [.tup [.int w,.int h],.int away,.int keep]=some (.ok (.tup [.lst (S.map skP),.lst T]))∧Cov w h away keep (S.map toB)∧∀ S',Cov w h away keep S'->S.length≤S'.length:=by
 have hn:=sz.nat
 have ln:(bU w h away).length≤576:=ZaA (Mth.kJ _ _ _) hn.2
 have k1:=Bf w h keep true (bU w h away)
 have k2:=Bf w h keep false (bU w h away)
 have n1:(ksN w h away keep true).length≤576:=ZaA (Bc _) (by rw [List.length_map];exact ln)
 have n2:(ksN w h away keep false).length≤576:=ZaA (Bc _) (by rw [List.length_map];exact ln)
 have wl:∀ i g,g∈WN w h away keep i->g < (ksN w h away keep false).length:=fun i g hg=>Th hg
 obtain ⟨A,B,eM,P,Dd,cD,hd⟩:=Qf (G:=Gof k1 k2) (n:=(ksN w h away keep true).length) (N:=(ksN w h away keep false).length) (W:=WN w h away keep) (by lia) (by lia) wl
 obtain ⟨B',R,cb,eS,hB,hw,hc⟩:=MK (G:=Gof k1 k2) (n:=(ksN w h away keep true).length) (N:=(ksN w h away keep false).length) (W:=WN w h away keep) (by lia) (by lia) wl P cD hd
 have wlc:∀ p∈cb,p.1 < (ksN w h away keep false).length:=fun p hp=>wl _ _ (hw.wish p hp)
 have lc:cb.length≤576:=ZaA (hw.xN wl) n2
 have eX:=M8 sz away keep dis
 rw [U8 k1 k2] at eX
 let ps:List (Int×Int):=A.map fun p=>((fu (ksN w h away keep false) p.2).2.getD 0 0,(fu (ksN w h away keep true) p.1).2.getD 0 0)
 have hps:∀ c∈ps,Cell w h c.1 c.2:=fun c hc=>by
  obtain ⟨p,hp,rfl⟩:=Zad.mp hc
  obtain ⟨x,hx,e1,e2⟩:=Em (P.ok (p6 P.ndA (show (p.1,p.2)∈A from hp))).1
  rw [←e1,←e2]
  exact (jG hx).1
 let S0:List Sk:=((List.range (ksN w h away keep true).length).filter fun a=>!R.contains a).map (fu (ksN w h away keep true))++uh (cb.map fun p=>fu (ksN w h away keep false) p.1)
 have pS:S0.Perm (Bg w h away keep R cb):=ZaR _ (lM _)
 refine ⟨uh S0,(bU w h (Mth.tR w.toNat ps)).map cellP,?_,?_,fun S' cv=>?_⟩
 rotate_left
 ·have:=Qk dis wlc hc
  have pm:=((lM S0).trans pS).map toB
  exact ⟨fun s hs=>this.on s (pm.mem_iff.mp hs),fun c cl aw=>by obtain ⟨s,hs,q⟩:=this.all c cl aw;exact ⟨s,pm.mem_iff.mpr hs,q⟩⟩
 ·rw [((lM S0).trans pS).length_eq,Ik rfl P hB hw]
  exact Qj cv P k1 k2
 refine j8 (x:=fH (startR [.tup [.int w,.int h],.int away,.int keep] 6)) ?_
 unfold fH
 rw [show startR [.tup [.int w,.int h],.int away,.int keep] 6=[some (.sh (.tup [.int w,.int h])),some (.sh (.int away)),some (.sh (.int keep)),none,none,none,none,none,none] from rfl]
 walk_at "rd"
 have eN:bU w h 0=[]:=by
  unfold bU Mth.pick
  rw [List.filter_eq_nil_iff.mpr fun i _=>by simp]
  rfl
 rw [jY,none_,oK sz 0,show Mth.pick w.toNat (w.toNat * h.toNat) (fun i=>(0:Nat).testBit i)=[] from eN]
 walk_at "rd"
 rw [if_neg (by simp)]
 unfold jC
 walk_at "rd"
 rw [eX]
 walk_at "rd"
 rw [eM]
 walk_at "rd"
 rw [eS]
 walk_at "rd"
 rw [show wiP (Gof k1 k2) (ksN w h away keep true).length (WN w h away keep)=.dt ((List.range (ksN w h away keep true).length).map fun (i:Nat)=>((Gof k1 k2).aK i,PV.lst ((Gof k1 k2).GL (WN w h away keep i)))) from rfl,xO,Ax]
 have big:∀ {k:Nat},k≤9000->k≤sizeLine:=fun h=>ZaD (uf (by lia))
 refine ⟨rfl,by unfold Gs.AL;rw [List.length_map,List.length_range];exact big (by lia),?_⟩
 rw [show (Gof k1 k2).AL (List.range (ksN w h away keep true).length)=(List.range (ksN w h away keep true).length).map (Gof k1 k2).av from rfl,jD (Gof k1 k2).av (fun a=>!R.contains a) (Gof k1 k2).av (List.range (ksN w h away keep true).length) fun a _=>⟨_,rfl,jU ?t1,fun _=>rfl⟩,tv_some]
 case t1 =>
  walk_at "rd"
  refine ⟨_,Ng,?_⟩
  have:fu (ksN w h away keep true) a∈uh (R.map (Gof k1 k2).aS)↔a∈R:=by
   rw [(lM _).mem_iff]
   constructor
   ·intro hm
    obtain ⟨b,hb,e⟩:=Zad.mp hm
    rw [←k1.inj b a e];exact hb
   ·exact fun hm=>Zad.mpr ⟨a,hm,rfl⟩
  show (!decide (fu (ksN w h away keep true) a∈uh (R.map (Gof k1 k2).aS)))=_
  by_cases hm:a∈R
  ·rw [decide_eq_true (this.mpr hm),List.contains_iff_mem.mpr hm]
  ·rw [decide_eq_false (fun z=>hm (this.mp z))]
   have:R.contains a=false:=by simpa using hm
   rw [this]
 have ls:(uh (cb.map fun p=>(Gof k1 k2).gS p.1)).length=cb.length:=by rw [(lM _).length_eq,List.length_map]
 have lf:((List.range (ksN w h away keep true).length).filter fun a=>!R.contains a).length≤576:=ZaA (ZaQ _ _) (by rw [List.length_range];exact n1)
 refine ⟨by rw [List.length_map,List.length_map,ls];exact big (by lia),rfl,?_⟩
 rw [show (Gof k1 k2).GA A=.dt (kvQ (Gof k1 k2).aK (Gof k1 k2).gv A) from rfl,zp,Ec]
 have lA:A.length≤576:=ZaA (oM P.ndA fun x hx=>by
  obtain ⟨p,hp,rfl⟩:=Zad.mp hx
  exact (P.ok (p6 P.ndA (show (p.1,p.2)∈A from hp))).2) n1
 refine ⟨by rw [List.length_map];exact big (by lia),?_⟩
 rw [jD (fun p:Nat×Nat=>PV.tup [(Gof k1 k2).av p.1,(Gof k1 k2).gv p.2]) (fun _=>true) (fun p=>cellP ((fu (ksN w h away keep false) p.2).2.getD 0 0,(fu (ksN w h away keep true) p.1).2.getD 0 0)) A fun p _=>⟨_,rfl,rfl,fun _=>jU ?t2⟩,tv_some]
 case t2 =>
  walk_at "rd"
  rw [show (Gof k1 k2).gv p.2=skP (fu (ksN w h away keep false) p.2) from rfl,Nf (k2.l3 _),tv_some,show (Gof k1 k2).av p.1=skP (fu (ksN w h away keep true) p.1) from rfl,Nf (k1.l3 _),tv_some]
  exact ⟨by decide,rfl⟩
 rw [Zbx.mpr fun _ _=>rfl,show (A.map fun p=>cellP ((fu (ksN w h away keep false) p.2).2.getD 0 0,(fu (ksN w h away keep true) p.1).2.getD 0 0))=ps.map cellP by simp only [ps,List.map_map];rfl,JG sz ps hps]
 walk_at "rd"
 have nS:S0.Nodup:=pS.nodup_iff.mpr (Tj hw.nd wlc)
 have mS:∀ s∈S0,s.2.length=3:=fun s hs=>by obtain ⟨row,x,_,rfl⟩:=Ij wlc (pS.mem_iff.mp hs);rfl
 rw [show List.map (Gof k1 k2).av (List.filter (fun a=>!R.contains a) (List.range (ksN w h away keep true).length))++List.map skP (uh (List.map (fun p=>(Gof k1 k2).gS p.fst) cb))=S0.map skP by simp only [S0,ZaX,List.map_map];rfl,Ib nS mS (uf (by rw [pS.length_eq,Ik rfl P hB hw];lia)),tv_some,oK sz]
 walk_at "rd"
 first
  | exact ⟨by decide,rfl⟩
  | decide
theorem zA (ns:List Int) (k:Nat) (hk:k≤3000):∃ n:Int,eU [.lst (ns.map .int),.int k]=some (.ok (.int n)):=by
 suffices h:∃ p,eU [.lst (ns.map .int),.int k]=some (.ok p)∧∃ n,p=.int n by
  obtain ⟨p,e,n,rfl⟩:=h
  exact ⟨n,e⟩
 refine wY ?_
 unfold oG
 walk_at "rd"
 rw [List.length_map]
 refine kI (fun h=>?_) (fun h=>?_)
 ·unfold pW
  walk_at "rd"
  exact ⟨_,zb (by lia) h,_,rfl⟩
 ·unfold pY
  have kk:(k:Int) * k≤3000 * 3000:=Int.mul_le_mul (by lia) (by lia) (by lia) (by decide)
  have kk0:0≤(k:Int) * k:=Int.mul_nonneg (by lia) (by lia)
  walk_at "rd"
  rw [List.length_map]
  refine ⟨.inl ⟨by lia,by lia⟩,kI (fun h0=>?_) (fun h0=>?_)⟩
  ·unfold pX
   walk_at "rd"
   rw [List.length_map]
   refine ⟨.inl ⟨by lia,by lia⟩,by lia,_,zb (Zbk _ (by lia)) (Za4 _ (by lia)),?_⟩
   walk_at "rd"
   generalize hq:ns.getD ((k:Int) * 7 % ns.length).toNat 0 % 2147483629=q
   have q0:0≤q:=by rw [←hq];exact Zbk _ (by decide)
   have q1:q < 2147483629:=by rw [←hq];exact Za4 _ (by decide)
   unfold j9
   walk_at "rd"
   exact ⟨by decide,.inl ⟨by lia,by lia⟩,by decide,_,rfl⟩
  ·unfold j9
   walk_at "rd"
   exact ⟨.inl ⟨by lia,by lia⟩,by decide,_,rfl⟩
theorem mX (c:Int) (k:Nat) (hk:k≤3000):∃ n:Int,cu [.int c,.int k]=some (.ok (.int n))∧0≤n∧n < 2147483648:=by
 suffices h:∃ p,cu [.int c,.int k]=some (.ok p)∧∃ n,p=.int n∧0≤n∧n < 2147483648 by
  obtain ⟨p,e,n,rfl,h⟩:=h
  exact ⟨n,e,h⟩
 refine wY ?_
 unfold mK
 walk_at "rd"
 refine ⟨by decide,by decide,by decide,kI (fun h=>?_) (fun h=>?_)⟩
 ·unfold oH
  walk_at "rd"
  have c0:0≤c / 2 ^ (31 * (k:Int)).toNat:=Int.ediv_nonneg (Int.le_trans (by decide) h) (Int.le_of_lt (Int.pow_pos (by decide)))
  rw [bitAnd_pp c0 (by decide)]
  refine ⟨.inl ⟨by decide,by decide⟩,by omega,Za3 _,?_⟩
  have:=@Nat.and_le_right (c / 2 ^ (31 * (k:Int)).toNat).toNat (2147483647:Int).toNat
  have e:(2147483647:Int).toNat=2147483647:=rfl
  rw [e] at this ⊢
  omega
 ·unfold oJ
  have k1:7919 * (k:Int) * k≤23757000 * 3000:=Int.mul_le_mul (by omega) (by omega) (by omega) (by decide)
  have k0:0≤7919 * (k:Int) * k:=Int.mul_nonneg (by omega) (by omega)
  have m0:0≤c % 2147483629:=Zbk _ (by decide)
  have m1:c % 2147483629 < 2147483629:=Za4 _ (by decide)
  walk_at "rd"
  generalize hq:(c % 2147483629+7919 * (k:Int) * k+k+13) * 48271 % 2147483587=q
  have q0:0≤q:=by rw [←hq];exact Zbk _ (by decide)
  have q1:q < 2147483587:=by rw [←hq];exact Za4 _ (by decide)
  generalize hz:q * q % 2147483629=z
  have z0:0≤z:=by rw [←hz];exact Zbk _ (by decide)
  have z1:z < 2147483629:=by rw [←hz];exact Za4 _ (by decide)
  refine ⟨by decide,.inl ⟨by decide,by decide⟩,.inl ⟨by omega,by omega⟩,.inl ⟨by omega,by omega⟩,by decide,.inl ⟨by omega,by omega⟩,by decide,.inl ⟨by omega,by omega⟩,by decide,Zbk _ (by decide),?_⟩
  have:=Za4 ((z+(k:Int)) * 69621) (b:=2147483563) (by decide)
  omega
theorem xT {w h:Int} (sz:Sz w h) (c:Int) (k:Nat) (hk:k≤90):∃ n:Nat,gj [.tup [.int w,.int h],.int c,.int k]=some (.ok (.int n))∧n < 2 ^ (w.toNat * h.toNat):=by
 suffices hh:∃ p,gj [.tup [.int w,.int h],.int c,.int k]=some (.ok p)∧∃ n:Nat,p=.int n∧n < 2 ^ (w.toNat * h.toNat) by
  obtain ⟨p,e,n,rfl,q⟩:=hh;exact ⟨n,e,q⟩
 have hm:=sz.mul
 have hN:=sz.nat
 have w0:=sz.w0
 have w1:=sz.w1
 have h0:=sz.h0
 have h1:=sz.h1
 refine wY (x:=mL (startR [.tup [.int w,.int h],.int c,.int k] 4)) ?_
 unfold mL
 rw [show startR [.tup [.int w,.int h],.int c,.int k] 4=[some (.sh (.tup [.int w,.int h])),some (.sh (.int c)),some (.sh (.int k)),none,none,none,none] from rfl]
 walk_at "rd"
 refine ⟨.inl ⟨by lia,by lia⟩,by decide,by decide,by lia,by lia,?_⟩
 have np:((1:Int) * 2 ^ (w * h).toNat)=((2 ^ (w.toNat * h.toNat):Nat):Int):=by rw [hN.1];simp
 refine dM (I:=fun i ρ=>∃ (n:Int) (v5:Option Sl),ρ=[some (.sh (.tup [.int w,.int h])),some (.sh (.int c)),some (.sh (.int k)),some (.sh (.int (w * h))),some (.sh (.int n)),v5,none]∧0≤n) ⟨0,none,rfl,by decide⟩ ?_ ?_
 ·rintro i x ρ hx ⟨n,v5,rfl,n0⟩
  obtain ⟨hi,rfl⟩:=ph hx
  have hi2:i≤20:=by lia
  obtain ⟨q,eq,q0,q1⟩:=mX c (30 * k+i) (by lia)
  unfold rW
  walk_at "rd"
  rw [show (30 * (k:Int)+(0+(i:Int)))=((30 * k+i:Nat):Int) by push_cast;lia,eq]
  walk_at "rd"
  exact ⟨.inr ⟨by decide,by decide⟩,.inl ⟨by decide,by decide⟩,_,_,rfl,by lia⟩
 ·rintro ρ ⟨n,v5,rfl,n0⟩
  obtain ⟨q,eq,q0,q1⟩:=mX c (30 * k+29) (by lia)
  walk_at "rd"
  unfold sE
  walk_at "rd"
  have pp:(0:Int) < 1 * 2 ^ (w * h).toNat:=by rw [np];exact Int.natCast_pos.mpr (Nat.two_pow_pos _)
  refine ⟨by lia,by lia,by decide,pp,.inl ⟨by decide,by decide⟩,?_⟩
  rw [show (30 * (k:Int)+29)=((30 * k+29:Nat):Int) by push_cast;lia,eq]
  walk_at "rd"
  have m0:=Zbk n (Int.ne_of_gt pp)
  have m1:=Za4 n pp
  refine ⟨by decide,kI (fun _=>?_) (fun _=>?_)⟩
  ·unfold rY
   walk_at "rd"
   refine ⟨by lia,by lia,by decide,2 ^ (w.toNat * h.toNat) - 1,?_,by have:=Nat.two_pow_pos (w.toNat * h.toNat);lia⟩
   rw [np]
   have:=Nat.two_pow_pos (w.toNat * h.toNat)
   congr 1
   lia
  ·unfold su
   walk_at "rd"
   refine kI (fun _=>?_) (fun _=>?_)
   ·unfold rZ
    walk_at "rd"
    exact ⟨0,rfl,Nat.two_pow_pos _⟩
   ·unfold sr
    walk_at "rd"
    refine ⟨(n % (1 * 2 ^ (w * h).toNat)).toNat,by rw [Zbg m0],?_⟩
    rw [np] at m1 m0 ⊢
    lia
theorem Nh (a:Nat):∀ b:Nat,a+b=(a ^^^ b)+2 * (a &&& b):=by
 induction a using Nat.strongRecOn with
 | _ a ih =>
  intro b
  by_cases h:a=0
  ·subst h;simp
  ·have this:=ih (a / 2) (by lia) (b / 2)
   have e1:(a ^^^ b) / 2=(a / 2) ^^^ (b / 2):=Nat.xor_div_two
   have e2:(a &&& b) / 2=(a / 2) &&& (b / 2):=Nat.and_div_two
   have t1:=Nat.testBit_xor a b 0
   have t2:=Nat.testBit_and a b 0
   rw [←e1,←e2] at this
   simp only [Nat.testBit_zero] at t1 t2
   generalize a ^^^ b=x at *
   generalize a &&& b=y at *
   rcases Nat.mod_two_eq_zero_or_one a with p | p <;> rcases Nat.mod_two_eq_zero_or_one b with q | q <;> rw [p,q] at t1 t2 <;> simp at t1 t2 <;> lia
theorem qD (a s i:Nat):(a - (a &&& s)).testBit i=(a.testBit i && !s.testBit i):=by
 have e:a - (a &&& s)=a ^^^ (a &&& s):=by
  have:=Nh a (a &&& s)
  rw [←Nat.and_assoc,Nat.and_self] at this
  lia
 rw [e,Nat.testBit_xor,Nat.testBit_and]
 cases a.testBit i <;> cases s.testBit i <;> rfl
theorem Eo {w h:Int} (sz:Sz w h) (c:Int) (k:Nat) (hk:k≤10):∃ away keep:Nat,eV [.tup [.int w,.int h],.int c,.int k]=some (.ok (.lst [.int away,.int keep]))∧away < 2 ^ (w.toNat * h.toNat)∧keep < 2 ^ (w.toNat * h.toNat)∧away &&& keep=0:=by
 suffices hh:∃ p,eV [.tup [.int w,.int h],.int c,.int k]=some (.ok p)∧∃ away keep:Nat,p=.lst [.int away,.int keep]∧away < 2 ^ (w.toNat * h.toNat)∧keep < 2 ^ (w.toNat * h.toNat)∧away &&& keep=0 by
  obtain ⟨p,e,a,b,rfl,q⟩:=hh;exact ⟨a,b,e,q⟩
 have hm:=sz.mul
 have hN:=sz.nat
 have w0:=sz.w0
 have w1:=sz.w1
 have h0:=sz.h0
 have h1:=sz.h1
 have pos:=Nat.two_pow_pos (w.toNat * h.toNat)
 have np:((1:Int) * 2 ^ (w * h).toNat)=((2 ^ (w.toNat * h.toNat):Nat):Int):=by rw [hN.1];simp
 obtain ⟨k1,e1,l1⟩:=xT sz c (2 * k) (by omega)
 obtain ⟨a1,e2,l2⟩:=xT sz c (2 * k+1) (by omega)
 obtain ⟨q,eq,q0,q1⟩:=mX c (400+k) (by omega)
 obtain ⟨k2,e3,l3⟩:=xT sz (c+1) (2 * k) (by omega)
 have done:∀ (keep:Nat),keep < 2 ^ (w.toNat * h.toNat)->To (iy [some (.sh (.tup [.int w,.int h])),some (.sh (.int c)),some (.sh (.int k)),some (.sh (.int keep)),some (.sh (.int a1)),some (.sh (.int q))]) fun o=>∃ p,ql (some o)=some (.ok p)∧∃ away keep:Nat,p=.lst [.int away,.int keep]∧away < 2 ^ (w.toNat * h.toNat)∧keep < 2 ^ (w.toNat * h.toNat)∧away &&& keep=0:=fun keep kl=>by
  unfold iy
  walk_at "rd"
  refine ⟨by decide,by decide,by decide,kI (fun _=>?_) (fun _=>?_)⟩
  ·unfold lF
   walk_at "rd"
   refine ⟨.inl ⟨by omega,by omega⟩,by omega,by omega,by decide,by decide,2 ^ (w.toNat * h.toNat) - 1 - keep,keep,?_,by omega,kl,?_⟩
   ·rw [np]
    congr 2
    omega
   ·apply Nat.eq_of_testBit_eq
    intro i
    rw [Nat.testBit_and,show 2 ^ (w.toNat * h.toNat) - 1 - keep=2 ^ (w.toNat * h.toNat) - (keep+1) by omega,Nat.testBit_two_pow_sub_succ kl]
    cases keep.testBit i <;> simp
  ·unfold lG
   walk_at "rd"
   rw [jY]
   refine ⟨by decide,a1 - (a1 &&& keep),keep,?_,Nat.lt_of_le_of_lt (Nat.sub_le _ _) l2,kl,?_⟩
   ·have:a1 &&& keep≤a1:=Nat.and_le_left
    congr 2
    omega
   ·apply Nat.eq_of_testBit_eq
    intro i
    rw [Nat.testBit_and,qD]
    cases a1.testBit i <;> cases keep.testBit i <;> simp
 refine vh (x:=gG (startR [.tup [.int w,.int h],.int c,.int k] 3)) ?_
 unfold gG
 rw [show startR [.tup [.int w,.int h],.int c,.int k] 3=[some (.sh (.tup [.int w,.int h])),some (.sh (.int c)),some (.sh (.int k)),none,none,none] from rfl]
 walk_at "rd"
 rw [show (2 * (k:Int))=((2 * k:Nat):Int) by push_cast;rfl,e1]
 walk_at "rd"
 rw [show (((2 * k:Nat):Int)+1)=((2 * k+1:Nat):Int) by push_cast;rfl,e2]
 walk_at "rd"
 rw [show (400+(k:Int))=((400+k:Nat):Int) by push_cast;rfl,eq]
 walk_at "rd"
 refine ⟨.inl ⟨by decide,by decide⟩,.inl ⟨by decide,by decide⟩,by decide,kI (fun _=>?_) (fun _=>done k1 l1)⟩
 unfold lE
 walk_at "rd"
 rw [show (2 * (k:Int))=((2 * k:Nat):Int) by push_cast;rfl,e3]
 walk_at "rd"
 rw [jY]
 exact ⟨.inl ⟨by decide,by decide⟩,done _ (Nat.lt_of_le_of_lt Nat.and_le_left l1)⟩
def Few (w h:Int) (away keep n:Nat):Prop:=(∃ S,Cov w h away keep S∧S.length=n)∧∀ S,Cov w h away keep S->n≤S.length
theorem pq {s u:Sn}{ρ:Rho}{QS:Out->Prop} (ρ':Rho) (h1:To (s ρ) fun o=>o=.nx ρ') (h2:To (u ρ') QS):To (bj s u ρ) QS:=by
 rw [to_seq]
 obtain ⟨o,e,c,rfl⟩:=h1
 exact ⟨_,e,c,h2⟩
theorem Gw (a b:Nat):Builtin.bitOr (a:Int) (b:Int)=((a ||| b:Nat):Int):=zg a b
def JP (s:StB) (c:Int×Int):Prop:=lnOf s.1 c=s.2.1∧s.2.2.1≤jf s.1 c∧jf s.1 c≤s.2.2.2
section
variable {w h w' h':Int}{away keep away' keep' n n':Nat}{S:List StB}
theorem Cov.at (cv:Cov w h away keep S) {s:StB} (hs:s∈S) {c:Int×Int} (hc:JP s c):Cell w h c.1 c.2∧keep.testBit (Mth.pl w.toNat c)=false:=by
 have:=cv.on s hs _ hc.2.1 hc.2.2
 rw [←hc.1,Ig] at this
 exact this
theorem Cov.of (h1:∀ s∈S,∀ c:Int×Int,JP s c->Cell w h c.1 c.2∧keep.testBit (Mth.pl w.toNat c)=false) (h2:∀ c:Int×Int,Cell w h c.1 c.2->away.testBit (Mth.pl w.toNat c)=true->∃ s∈S,JP s c):Cov w h away keep S where
 on:=fun s hs x a b=>h1 s hs _ ⟨Ie _ _ _,by rw [zu];exact a,by rw [zu];exact b⟩
 all:=h2
end
section
variable {w h:Int}{way m W:Nat}{r k:Int}{n:Nat}
end
theorem Tp {w h:Int}{c d:Int×Int} (hc:Cell w h c.1 c.2) (hd:Cell w h d.1 d.2) (e:Mth.pl w.toNat c=Mth.pl w.toNat d):c=d:=by
 have h1:=Mth.tQ hc.inR
 have h2:=Mth.tQ hd.inR
 exact h1.symm.trans ((congrArg _ e).trans h2)
theorem len_sub {α:Type} [DecidableEq α]:∀ {l k:List α},l.Nodup->(∀ x∈l,x∈k)->l.length≤k.length
 | [],k,_,_=>ZaO _
 | a::l,k,nd,h=>by
  have hd:=Za9.mp nd
  have ha:a∈k:=h a List.mem_cons_self
  have h1:=len_sub (l:=l) (k:=k.erase a) hd.2 fun x hx=>(List.mem_erase_of_ne (a:=x) (b:=a) (fun e=>hd.1 (by rw [←e];exact hx))).mpr (h x (List.mem_cons_of_mem _ hx))
  rw [List.length_erase_of_mem ha] at h1
  have h2:=List.length_pos_of_mem ha
  rw [Zav]
  omega
def tD:List Nat->Nat->Nat->Bool
 | [],away,_=>decide (away=0)
 | s::l,away,m=>if away=0 then true else if m=0 then false else tD l (away - (away &&& s)) (m - 1) || tD l away m
theorem zB {a:Nat} (h:∀ i,a.testBit i=true->False):a=0:=by
 apply Nat.eq_of_testBit_eq
 intro i
 rw [Nat.zero_testBit]
 cases e:a.testBit i with
 | false=>rfl
 | true=>exact (h i e).elim
theorem vy:∀ {l:List Nat}{away m:Nat},tD l away m=true↔∃ T:List Nat,T.Sublist l∧T.length≤m∧∀ i,away.testBit i=true->∃ t∈T,t.testBit i=true
 | [],away,m=>by
  unfold tD
  rw [decide_eq_true_eq]
  constructor
  ·intro e
   refine ⟨[],.slnil,ZaO _,fun i hi=>?_⟩
   rw [e,Nat.zero_testBit] at hi;cases hi
  ·rintro ⟨T,st,_,h⟩
   cases List.sublist_nil.mp st
   exact zB fun i hi=>by obtain ⟨t,ht,_⟩:=h i hi;cases ht
 | s::l,away,m=>by
  unfold tD
  by_cases e:away=0
  ·rw [if_pos e]
   refine ⟨fun _=>⟨[],List.nil_sublist _,ZaO _,fun i hi=>?_⟩,fun _=>rfl⟩
   rw [e,Nat.zero_testBit] at hi;cases hi
  ·rw [if_neg e]
   by_cases em:m=0
   ·rw [if_pos em]
    refine ⟨fun z=>(by cases z),?_⟩
    rintro ⟨T,st,hl,h⟩
    have:T=[]:=List.length_eq_zero_iff.mp (by omega)
    subst this
    exact (e (zB fun i hi=>by obtain ⟨t,ht,_⟩:=h i hi;cases ht)).elim
   ·rw [if_neg em,Bool.or_eq_true,vy,vy]
    constructor
    ·rintro (⟨T,st,hl,h⟩ | ⟨T,st,hl,h⟩)
     ·refine ⟨s::T,st.cons_cons s,by rw [Zav];omega,fun i hi=>?_⟩
      cases es:s.testBit i with
      | true=>exact ⟨s,List.mem_cons_self,es⟩
      | false =>
       obtain ⟨t,ht,z⟩:=h i (by rw [qD,hi,es];rfl)
       exact ⟨t,List.mem_cons_of_mem _ ht,z⟩
     ·exact ⟨T,st.cons s,hl,h⟩
    ·rintro ⟨T,st,hl,h⟩
     cases st with
     | cons _ st=>exact .inr ⟨T,st,hl,h⟩
     | cons_cons _ st =>
      rename_i T
      refine .inl ⟨T,st,by rw [Zav] at hl;omega,fun i hi=>?_⟩
      rw [qD,Zby,Bool.not_eq_true'] at hi
      obtain ⟨t,ht,z⟩:=h i hi.1
      rcases Zaq.mp ht with e | ht
      ·subst e;rw [hi.2] at z;cases z
      ·exact ⟨t,ht,z⟩
structure Bh (q:Int->Bool) (L x lo hi:Int):Prop where
 a0:0≤lo
 ax:lo≤x
 xb:x≤hi
 b1:hi < L
 fr:∀ y,lo≤y->y≤hi->q y=false
 lf:lo=0∨q (lo - 1)=true
 rt:hi+1=L∨q (hi+1)=true
theorem Bh.top {q:Int->Bool}{L x lo hi a b:Int} (m:Bh q L x lo hi) (h1:a≤x) (h2:x≤b) (h:∀ y,a≤y->y≤b->0≤y∧y < L∧q y=false):lo≤a∧b≤hi:=by
 have ax:=m.ax
 have xb:=m.xb
 have a0:=m.a0
 have b1:=m.b1
 constructor
 ·refine Int.not_lt.mp fun z=>?_
  obtain ⟨y0,_,yf⟩:=h (lo - 1) (by omega) (by omega)
  rcases m.lf with e | e
  ·omega
  ·rw [yf] at e;cases e
 ·refine Int.not_lt.mp fun z=>?_
  obtain ⟨_,y1,yf⟩:=h (hi+1) (by omega) (by omega)
  rcases m.rt with e | e
  ·omega
  ·rw [yf] at e;cases e
def skB (row:Bool) (l lo hi:Int):Sk:=(cH row,[l,lo,hi])
theorem xU (row:Bool) (l lo hi:Int):toB (skB row l lo hi)=(row,l,lo,hi):=by
 unfold toB skB
 show (decide (cH row=Str.ofString "row"),l,lo,hi)=_
 rw [HS]
def qI (w:Int) (keep:Nat) (row:Bool) (l:Int):Int->Bool:=fun x=>keep.testBit (Mth.pl w.toNat (bA row l x))
def JQ (w h:Int) (row:Bool):Int:=if row then w else h
structure Lgs (w h:Int) (keep:Nat) (D:Int×Int->Bool->Prop) (Ls:List Sk):Prop where
 nd:Ls.Nodup
 fr:∀ s∈Ls,∃ row l lo hi,s=skB row l lo hi∧lo≤hi∧∀ y,lo≤y->y≤hi->Cell w h (bA row l y).1 (bA row l y).2∧keep.testBit (Mth.pl w.toNat (bA row l y))=false
 top:∀ c:Int×Int,Cell w h c.1 c.2->keep.testBit (Mth.pl w.toNat c)=false->∀ row,D c row->∃ lo hi,skB row (lnOf row c) lo hi∈Ls∧Bh (qI w keep row (lnOf row c)) (JQ w h row) (jf row c) lo hi
theorem Bj {w h:Int}{row:Bool}{l y:Int} (cl:Cell w h (bA row l y).1 (bA row l y).2):0≤y∧y < JQ w h row:=by
 cases row with
 | true=>exact ⟨cl.c0,cl.c1⟩
 | false=>exact ⟨cl.r0,cl.r1⟩
def SetOf (w:Int) (f:Sk->Nat) (Ls:List Sk):Prop:=∀ row l lo hi,skB row l lo hi∈Ls->∀ i,(f (skB row l lo hi)).testBit i=true↔∃ y,lo≤y∧y≤hi∧Mth.pl w.toNat (bA row l y)=i
section
variable {w h:Int}{away keep n m:Nat}{Ls:List Sk}{f:Sk->Nat}
theorem Ql (G:Lgs w h keep (fun _ _=>True) Ls) (hf:SetOf w f Ls) (F:Few w h away keep n) (hc:tD (Ls.map f) away m=true):n≤m:=by
 obtain ⟨T,st,hl,cov⟩:=vy.mp hc
 obtain ⟨T',st',rfl⟩:=List.sublist_map_iff.mp st
 rw [List.length_map] at hl
 have:=F.2 (T'.map toB) (.of (fun s hs c hi=>?_) fun c cl aw=>?_)
 ·rw [List.length_map] at this;omega
 ·obtain ⟨t,ht,rfl⟩:=Zad.mp hs
  obtain ⟨row,l,lo,hi',rfl,_,fr⟩:=G.fr t (st'.subset ht)
  rw [xU] at hi
  obtain ⟨e,h1,h2⟩:=hi
  have e:lnOf row c=l:=e
  have h1:lo≤jf row c:=h1
  have h2:jf row c≤hi':=h2
  have:=fr _ h1 h2
  rw [←e,Ig] at this
  exact this
 ·obtain ⟨t,ht,hb⟩:=cov _ aw
  obtain ⟨s,hs,rfl⟩:=Zad.mp ht
  obtain ⟨row,l,lo,hi,rfl,_,fr⟩:=G.fr s (st'.subset hs)
  obtain ⟨y,y1,y2,e⟩:=(hf row l lo hi (st'.subset hs) _).mp hb
  have e:=Tp (fr y y1 y2).1 cl e
  refine ⟨_,Zad.mpr ⟨_,hs,rfl⟩,?_⟩
  rw [xU,←e]
  exact ⟨Ie _ _ _,by show lo≤jf row _;rw [zu];exact y1,by show jf row _≤hi;rw [zu];exact y2⟩
theorem Tq (sz:Sz w h) (al:away < 2 ^ (w.toNat * h.toNat)) (no:away &&& keep=0) (G:Lgs w h keep (fun _ _=>True) Ls) (hf:SetOf w f Ls) (F:Few w h away keep n) (nm:n≤m):tD (Ls.map f) away m=true:=by
 obtain ⟨⟨S,cv,ln⟩,_⟩:=F
 let P:StB->Sk->Prop:=fun s t=>t∈Ls∧∀ c,JP s c->JP (toB t) c
 let g:StB->Sk:=fun s=>@dite _ (∃ t,P s t) (Classical.propDecidable _) (fun h=>Classical.choose h) fun _=>default
 have ge:∀ s,(∃ t,P s t)->P s (g s):=fun s hs=>by
  show P s (@dite _ _ (Classical.propDecidable _) _ _)
  rw [@dif_pos _ (Classical.propDecidable _) hs]
  exact Zbi hs
 have ex:∀ s∈S,∀ c,JP s c->∃ t,P s t:=fun s hs c hc=>by
  obtain ⟨cl,fr⟩:=cv.at hs hc
  obtain ⟨lo,hi,mem,mx⟩:=G.top c cl fr s.1 trivial
  have tp:=mx.top hc.2.1 hc.2.2 fun y y1 y2=>by
   have e:lnOf s.1 c=s.2.1:=hc.1
   rw [e]
   obtain ⟨q1,q2⟩:=cv.on s hs y y1 y2
   obtain ⟨z1,z2⟩:=Bj q1
   exact ⟨z1,z2,q2⟩
  refine ⟨_,mem,fun c' hc'=>?_⟩
  rw [xU]
  exact ⟨hc'.1.trans hc.1.symm,Int.le_trans tp.1 hc'.2.1,Int.le_trans hc'.2.2 tp.2⟩
 refine vy.mpr ⟨(Ls.filter fun t=>decide (t∈S.map g)).map f,Zbc.map f,?_,fun i hi=>?_⟩
 ·rw [List.length_map]
  have:=len_sub (l:=Ls.filter fun t=>decide (t∈S.map g)) (k:=S.map g) (G.nd.sublist Zbc) fun x hx=>by simpa using (Zas.mp hx).2
  rw [List.length_map] at this
  omega
 ·have il:i < w.toNat * h.toNat:=Nat.lt_of_not_le fun z=>by
   rw [Nat.testBit_lt_two_pow (Zap al (Nat.pow_le_pow_right (by decide) z))] at hi;cases hi
  have cl:=Cell.of (Mth.tO il)
  have ep:=Mth.tM w.toNat i
  generalize Mth.cellOf w.toNat i=c at cl ep
  obtain ⟨s,hs,hc⟩:=cv.all c cl (by rw [ep];exact hi)
  obtain ⟨m1,m2⟩:=ge s (ex s hs c hc)
  refine ⟨f (g s),Zad.mpr ⟨g s,Zas.mpr ⟨m1,decide_eq_true (Zad.mpr ⟨s,hs,rfl⟩)⟩,rfl⟩,?_⟩
  have q:=m2 c hc
  obtain ⟨row,l,lo,hi',e,_,fr⟩:=G.fr _ m1
  rw [e] at q m1 ⊢
  rw [xU] at q
  refine (hf row l lo hi' m1 i).mpr ⟨jf row c,q.2.1,q.2.2,?_⟩
  have e1:lnOf row c=l:=q.1
  rw [←e1,Ig,ep]
end
theorem Ep {fc:Fn Bool}{body:Sn}{mk:Int->Rho}{q:Int->Bool}{x:Int}{QS:Out->Prop} (x0:0≤x) (x24:x≤24)
  (hc:∀ lo,0≤lo->lo≤x->Tv (fc (mk lo)) fun b=>b=(decide (0 < lo) && !q (lo - 1))) (hb:∀ lo,0 < lo->lo≤x->To (body (mk lo)) fun o=>o=.nx (mk (lo - 1))) (hx:q x=false)
  (fin:∀ lo,0≤lo->lo≤x->(∀ y,lo≤y->y≤x->q y=false)->(lo=0∨q (lo - 1)=true)->QS (.nx (mk lo))):To (gr fc body 30 (mk x)) QS:=by
 refine oh (n:=29) (I:=fun k ρ=>∃ lo,ρ=mk lo∧0≤lo∧lo≤x∧(x - lo).toNat+k=29∧∀ y,lo≤y->y≤x->q y=false) ⟨x,rfl,x0,Int.le_refl _,by omega,fun y h1 h2=>by rw [show y=x by omega];exact hx⟩ ?_
 rintro k ρ ⟨lo,rfl,l0,lx,hk,fr⟩
 obtain ⟨b,eb,rfl⟩:=hc lo l0 lx
 refine ⟨_,eb,kI (fun g=>?_) fun g=>?_⟩
 ·rw [Zby,decide_eq_true_eq,Bool.not_eq_true'] at g
  refine ⟨by omega,?_⟩
  obtain ⟨o,eo,co,rfl⟩:=hb lo g.1 lx
  refine ⟨_,eo,co,lo - 1,rfl,by omega,by omega,by omega,fun y h1 h2=>?_⟩
  by_cases e:y=lo - 1
  ·rw [e];exact g.2
  ·exact fr y (by omega) h2
 ·rw [Zby,decide_eq_true_eq,Bool.not_eq_true'] at g
  refine fin lo l0 lx fr ?_
  by_cases e:0 < lo
  ·exact .inr (by
    cases e2:q (lo - 1) with
    | true=>rfl
    | false=>exact absurd ⟨e,e2⟩ g)
  ·exact .inl (by omega)
theorem zE {fc:Fn Bool}{body:Sn}{mk:Int->Rho}{q:Int->Bool}{x L:Int}{QS:Out->Prop} (x0:0≤x) (xL:x < L) (L24:L≤24)
  (hc:∀ hi,x≤hi->hi < L->Tv (fc (mk hi)) fun b=>b=(decide (hi+1 < L) && !q (hi+1))) (hb:∀ hi,x≤hi->hi < L->To (body (mk hi)) fun o=>o=.nx (mk (hi+1))) (hx:q x=false)
  (fin:∀ hi,x≤hi->hi < L->(∀ y,x≤y->y≤hi->q y=false)->(hi+1=L∨q (hi+1)=true)->QS (.nx (mk hi))):To (gr fc body 30 (mk x)) QS:=by
 refine oh (n:=29) (I:=fun k ρ=>∃ hi,ρ=mk hi∧x≤hi∧hi < L∧(hi - x).toNat+k=29∧∀ y,x≤y->y≤hi->q y=false) ⟨x,rfl,Int.le_refl _,xL,by omega,fun y h1 h2=>by rw [show y=x by omega];exact hx⟩ ?_
 rintro k ρ ⟨hi,rfl,l0,lx,hk,fr⟩
 obtain ⟨b,eb,rfl⟩:=hc hi l0 lx
 refine ⟨_,eb,kI (fun g=>?_) fun g=>?_⟩
 ·rw [Zby,decide_eq_true_eq,Bool.not_eq_true'] at g
  refine ⟨by omega,?_⟩
  obtain ⟨o,eo,co,rfl⟩:=hb hi l0 lx
  refine ⟨_,eo,co,hi+1,rfl,by omega,by omega,by omega,fun y h1 h2=>?_⟩
  by_cases e:y=hi+1
  ·rw [e];exact g.2
  ·exact fr y h1 (by omega)
 ·rw [Zby,decide_eq_true_eq,Bool.not_eq_true'] at g
  refine fin hi l0 lx fr ?_
  by_cases e:hi+1 < L
  ·exact .inr (by
    cases e2:q (hi+1) with
    | true=>rfl
    | false=>exact absurd ⟨e,e2⟩ g)
  ·exact .inl (by omega)
theorem xV (n p:Nat):decide (Builtin.bitAnd ((n:Int) / 2 ^ p) 1=0)=!n.testBit p:=by
 have e:(n:Int) / 2 ^ p=((n / 2 ^ p:Nat):Int):=by simp
 rw [e,bitAnd_pp (Za3 _) (by decide),ZaG,show (1:Int).toNat=1 from rfl,Mth.GP]
 cases n.testBit p <;> rfl
theorem Ni {w h:Int} (sz:Sz w h) {keep:Nat}{x y:Int} (cl:Cell w h x y) (no:keep.testBit (Mth.pl w.toNat (x,y))=false) :
  ∃ lo hi,dU [.tup [.int w,.int h],.int keep,.str (cH true),.int x,.int y]=some (.ok (uF true y lo hi))∧Bh (qI w keep true y) w x lo hi:=by
 suffices hh:∃ p,dU [.tup [.int w,.int h],.int keep,.str (cH true),.int x,.int y]=some (.ok p)∧∃ lo hi,p=uF true y lo hi∧Bh (qI w keep true y) w x lo hi by
  obtain ⟨p,e,lo,hi,rfl,m⟩:=hh
  exact ⟨lo,hi,e,m⟩
 have w1:=sz.w1
 have h1:=sz.h1
 have c0:=cl.c0
 have c1:=cl.c1
 have r0:=cl.r0
 have r1:=cl.r1
 have y0:0≤y * w:=Int.mul_nonneg r0 (by omega)
 have pe:∀ z,0≤z->z < w->(y * w+z).toNat=Mth.pl w.toNat (z,y):=fun z z0 z1=>(Cell.pl (w:=w) (h:=h) ⟨z0,z1,r0,r1⟩).1
 refine wY (x:=iz (startR [.tup [.int w,.int h],.int keep,.str (cH true),.int x,.int y] 2)) (lz fun QS hQ=>?_)
 unfold iz
 rw [show startR [.tup [.int w,.int h],.int keep,.str (cH true),.int x,.int y] 2=[some (.sh (.tup [.int w,.int h])),some (.sh (.int keep)),some (.sh (.str (cH true))),some (.sh (.int x)),some (.sh (.int y)),none,none] from rfl]
 walk_at "rd"
 rw [if_pos (show cH true=Str.ofString "row" from rfl)]
 unfold sS
 walk_at "rd"
 refine Ep (mk:=fun lo=>[some (.sh (.tup [.int w,.int h])),some (.sh (.int keep)),some (.sh (.str (cH true))),some (.sh (.int x)),some (.sh (.int y)),some (.sh (.int lo)),none]) (q:=qI w keep true y) c0 (by omega) (fun lo l0 lx=>?_) (fun lo l0 lx=>?_) no fun lo l0 lx fr lf=>?_
 ·walk_at "rd"
  refine kI (fun g=>⟨.inl ⟨by omega,by omega⟩,by omega,?_⟩) fun g=>?_
  ·rw [xV,decide_eq_true g,Bool.true_and,show y * w+lo - 1=y * w+(lo - 1) by omega,pe _ (by omega) (by omega)];rfl
  ·rw [decide_eq_false g];rfl
 ·unfold sG
  walk_at "rd"
 ·walk_at "rd"
  unfold sO
  walk_at "rd"
  refine zE (mk:=fun hi=>[some (.sh (.tup [.int w,.int h])),some (.sh (.int keep)),some (.sh (.str (cH true))),some (.sh (.int x)),some (.sh (.int y)),some (.sh (.int lo)),some (.sh (.int hi))]) (q:=qI w keep true y) c0 c1 w1 (fun hi l0 lx=>?_) (fun hi l0 lx=>?_) no fun hi h0 hL fr2 rt=>?_
  ·walk_at "rd"
   refine kI (fun g=>⟨.inl ⟨by omega,by omega⟩,by omega,?_⟩) fun g=>?_
   ·rw [xV,decide_eq_true g,Bool.true_and,show y * w+hi+1=y * w+(hi+1) by omega,pe _ (by omega) (by omega)];rfl
   ·rw [decide_eq_false g];rfl
  ·unfold sI
   walk_at "rd"
  ·walk_at "rd"
   unfold sJ
   walk_at "rd"
   refine ⟨by decide,hQ _ ⟨_,rfl,lo,hi,rfl,⟨l0,lx,h0,hL,fun z z1 z2=>?_,lf,rt⟩⟩⟩
   by_cases g:z≤x
   ·exact fr z z1 g
   ·exact fr2 z (by omega) z2
theorem Nj {w h:Int} (sz:Sz w h) {keep:Nat}{x y:Int} (cl:Cell w h x y) (no:keep.testBit (Mth.pl w.toNat (x,y))=false) :
  ∃ lo hi,dU [.tup [.int w,.int h],.int keep,.str (cH false),.int x,.int y]=some (.ok (uF false x lo hi))∧Bh (qI w keep false x) h y lo hi:=by
 suffices hh:∃ p,dU [.tup [.int w,.int h],.int keep,.str (cH false),.int x,.int y]=some (.ok p)∧∃ lo hi,p=uF false x lo hi∧Bh (qI w keep false x) h y lo hi by
  obtain ⟨p,e,lo,hi,rfl,m⟩:=hh
  exact ⟨lo,hi,e,m⟩
 have w1:=sz.w1
 have h1:=sz.h1
 have c0:=cl.c0
 have c1:=cl.c1
 have r0:=cl.r0
 have r1:=cl.r1
 have y0:0≤y * w:=Int.mul_nonneg r0 (by omega)
 have pe:∀ z,0≤z->z < h->(z * w+x).toNat=Mth.pl w.toNat (x,z)∧0≤z * w+x:=fun z z0 z1=>Cell.pl (w:=w) (h:=h) ⟨c0,c1,z0,z1⟩
 refine wY (x:=iz (startR [.tup [.int w,.int h],.int keep,.str (cH false),.int x,.int y] 2)) (lz fun QS hQ=>?_)
 unfold iz
 rw [show startR [.tup [.int w,.int h],.int keep,.str (cH false),.int x,.int y] 2=[some (.sh (.tup [.int w,.int h])),some (.sh (.int keep)),some (.sh (.str (cH false))),some (.sh (.int x)),some (.sh (.int y)),none,none] from rfl]
 walk_at "rd"
 rw [if_neg (show ¬cH false=Str.ofString "row" by decide +kernel)]
 unfold pZ
 walk_at "rd"
 refine Ep (mk:=fun lo=>[some (.sh (.tup [.int w,.int h])),some (.sh (.int keep)),some (.sh (.str (cH false))),some (.sh (.int x)),some (.sh (.int y)),some (.sh (.int lo)),none]) (q:=qI w keep false x) r0 (by omega) (fun lo l0 lx=>?_) (fun lo l0 lx=>?_) no fun lo l0 lx fr lf=>?_
 ·walk_at "rd"
  refine kI (fun g=>⟨.inl ⟨by omega,by omega⟩,(pe _ (by omega) (by omega)).2,?_⟩) fun g=>?_
  ·rw [xV,decide_eq_true g,Bool.true_and,(pe _ (by omega) (by omega)).1];rfl
  ·rw [decide_eq_false g];rfl
 ·unfold sU
  walk_at "rd"
 ·walk_at "rd"
  unfold sX
  walk_at "rd"
  refine zE (mk:=fun hi=>[some (.sh (.tup [.int w,.int h])),some (.sh (.int keep)),some (.sh (.str (cH false))),some (.sh (.int x)),some (.sh (.int y)),some (.sh (.int lo)),some (.sh (.int hi))]) (q:=qI w keep false x) r0 r1 h1 (fun hi l0 lx=>?_) (fun hi l0 lx=>?_) no fun hi h0 hL fr2 rt=>?_
  ·walk_at "rd"
   refine kI (fun g=>⟨.inl ⟨by omega,by omega⟩,(pe _ (by omega) (by omega)).2,?_⟩) fun g=>?_
   ·rw [xV,decide_eq_true g,Bool.true_and,(pe _ (by omega) (by omega)).1];rfl
   ·rw [decide_eq_false g];rfl
  ·unfold sV
   walk_at "rd"
  ·walk_at "rd"
   unfold sW
   walk_at "rd"
   refine ⟨by decide,hQ _ ⟨_,rfl,lo,hi,rfl,⟨l0,lx,h0,hL,fun z z1 z2=>?_,lf,rt⟩⟩⟩
   by_cases g:z≤y
   ·exact fr z z1 g
   ·exact fr2 z (by omega) z2
theorem Qm {w h:Int} (sz:Sz w h) {keep:Nat}{c:Int×Int} (cl:Cell w h c.1 c.2) (no:keep.testBit (Mth.pl w.toNat c)=false) (row:Bool) :
  ∃ lo hi,dU [.tup [.int w,.int h],.int keep,.str (cH row),.int c.1,.int c.2]=some (.ok (skP (skB row (lnOf row c) lo hi)))∧Bh (qI w keep row (lnOf row c)) (JQ w h row) (jf row c) lo hi:=by
 cases row with
 | true=>exact Ni sz cl no
 | false=>exact Nj sz cl no
section
variable {w h:Int}{keep:Nat}{D D':Int×Int->Bool->Prop}{Ls:List Sk}
theorem Lgs.imp (G:Lgs w h keep D Ls) (h':∀ c:Int×Int,Cell w h c.1 c.2->keep.testBit (Mth.pl w.toNat c)=false->∀ row,D' c row->D c row):Lgs w h keep D' Ls:=⟨G.nd,G.fr,fun c cl no row d=>G.top c cl no row (h' c cl no row d)⟩
theorem Lgs.add (G:Lgs w h keep D Ls) {c:Int×Int}{row:Bool}{lo hi:Int} (cl:Cell w h c.1 c.2) (m:Bh (qI w keep row (lnOf row c)) (JQ w h row) (jf row c) lo hi) :
  Lgs w h keep (fun c' r=>D c' r∨c'=c∧r=row) (if skB row (lnOf row c) lo hi∈Ls then Ls else Ls++[skB row (lnOf row c) lo hi]):=by
 have mem:skB row (lnOf row c) lo hi∈(if skB row (lnOf row c) lo hi∈Ls then Ls else Ls++[skB row (lnOf row c) lo hi]):=by
  split
  ·assumption
  ·exact ZaB _ List.mem_cons_self
 have sub:∀ s∈Ls,s∈(if skB row (lnOf row c) lo hi∈Ls then Ls else Ls++[skB row (lnOf row c) lo hi]):=fun s hs=>by
  split
  ·exact hs
  ·exact Zbl _ hs
 refine ⟨?_,fun s hs=>?_,fun c' cl' no r d=>?_⟩
 ·split
  ·exact G.nd
  ·rename_i q
   exact Zbh.mpr ⟨G.nd,by simp,fun a ha b hb e=>q (by rw [Zay] at hb;rw [←hb,←e];exact ha)⟩
 ·have hs:s∈Ls∨s=skB row (lnOf row c) lo hi:=by
   split at hs
   ·exact .inl hs
   ·exact (Zae.mp hs).imp id fun z=>Zay.mp z
  rcases hs with hs | rfl
  ·exact G.fr s hs
  ·refine ⟨row,_,lo,hi,rfl,Int.le_trans m.ax m.xb,fun y y1 y2=>⟨?_,m.fr y y1 y2⟩⟩
   have a0:=m.a0
   have b1:=m.b1
   cases row with
   | true=>exact ⟨by show 0≤y;omega,by have:hi < w:=b1;show y < w;omega,cl.r0,cl.r1⟩
   | false=>exact ⟨cl.c0,cl.c1,by show 0≤y;omega,by have:hi < h:=b1;show y < h;omega⟩
 ·rcases d with d | ⟨rfl,rfl⟩
  ·obtain ⟨lo',hi',h1,h2⟩:=G.top c' cl' no r d
   exact ⟨lo',hi',sub _ h1,h2⟩
  ·exact ⟨lo,hi,mem,m⟩
theorem Tr (sz:Sz w h) (G:Lgs w h keep D Ls) (ll:Ls.length≤5000) {i j:Int} (cl:Cell w h j i) (no:keep.testBit (Mth.pl w.toNat (j,i))=false) (row:Bool) {v6:Option Sl} :
  To (iB [some (.sh (.tup [.int w,.int h])),some (.sh (.int keep)),some (.ow (.lst (Ls.map skP))),some (.sh (.int i)),some (.sh (.int j)),some (.sh (.str (cH row))),v6]) fun o=>∃ (Ls':List Sk) (v6:Option Sl),o=.nx [some (.sh (.tup [.int w,.int h])),some (.sh (.int keep)),some (.ow (.lst (Ls'.map skP))),some (.sh (.int i)),some (.sh (.int j)),some (.sh (.str (cH row))),v6]∧Lgs w h keep (fun c' r=>D c' r∨c'=(j,i)∧r=row) Ls'∧Ls'.length≤Ls.length+1:=by
 obtain ⟨lo,hi,e,m⟩:=Qm sz (c:=(j,i)) cl no row
 have A:=G.add (c:=(j,i)) cl m
 refine lz fun QS hQ=>?_
 unfold iB
 refine pq [some (.sh (.tup [.int w,.int h])),some (.sh (.int keep)),some (.ow (.lst (Ls.map skP))),some (.sh (.int i)),some (.sh (.int j)),some (.sh (.str (cH row))),some (.sh (skP (skB row (lnOf row (j,i)) lo hi)))] ?_ ?_
 ·walk_at "rd"
  rw [show dU [.tup [.int w,.int h],.int keep,.str (cH row),.int j,.int i]=some (.ok (skP (skB row (lnOf row (j,i)) lo hi))) from e,tv_some]
 walk_at "rd"
 refine ⟨_,Ng,kI (fun g=>?_) fun g=>?_⟩
 ·have g:=of_decide_eq_false g
  rw [if_neg g] at A
  unfold lH
  walk_at "rd"
  exact ⟨by rw [List.length_map];exact uf (by omega),hQ _ ⟨_,_,by rw [ZaX];rfl,A,by simp⟩⟩
 ·have g:skB row (lnOf row (j,i)) lo hi∈Ls:=Classical.byContradiction fun z=>g (decide_eq_false z)
  rw [if_pos g] at A
  exact hQ _ ⟨Ls,_,rfl,A,by omega⟩
theorem Qn (sz:Sz w h) (G:Lgs w h keep D Ls) (ll:Ls.length≤4000) {i j:Int} (cl:Cell w h j i) {v5 v6:Option Sl} :
  To (iC [some (.sh (.tup [.int w,.int h])),some (.sh (.int keep)),some (.ow (.lst (Ls.map skP))),some (.sh (.int i)),some (.sh (.int j)),v5,v6]) fun o=>∃ (Ls':List Sk) (v5 v6:Option Sl),o=.nx [some (.sh (.tup [.int w,.int h])),some (.sh (.int keep)),some (.ow (.lst (Ls'.map skP))),some (.sh (.int i)),some (.sh (.int j)),v5,v6]∧Lgs w h keep (fun c' r=>D c' r∨c'=(j,i)) Ls'∧Ls'.length≤Ls.length+2:=by
 obtain ⟨e1,e2⟩:=cl.pl
 have w1:=sz.w1
 have h1:=sz.h1
 have r0:=cl.r0
 have r1:=cl.r1
 have c0:=cl.c0
 have c1:=cl.c1
 have nb:=xV keep (Mth.pl w.toNat (j,i))
 refine lz fun QS hQ=>?_
 unfold iC
 walk_at "rd"
 rw [e1]
 refine ⟨.inl ⟨by omega,by omega⟩,e2,kI (fun g=>?_) fun g=>?_⟩
 ·rw [decide_eq_true g] at nb
  have no:keep.testBit (Mth.pl w.toNat (j,i))=false:=by cases z:keep.testBit (Mth.pl w.toNat (j,i)) with
   | false=>rfl
   | true=>rw [z] at nb;cases nb
  unfold lJ
  walk_at "rd"
  refine ⟨by decide,?_⟩
  refine dM (I:=fun k ρ=>∃ (Ls':List Sk) (v5 v6:Option Sl),ρ=[some (.sh (.tup [.int w,.int h])),some (.sh (.int keep)),some (.ow (.lst (Ls'.map skP))),some (.sh (.int i)),some (.sh (.int j)),v5,v6]∧Lgs w h keep (fun c' r=>D c' r∨c'=(j,i)∧((r=true∧0 < k)∨(r=false∧1 < k))) Ls'∧Ls'.length≤Ls.length+k) ⟨Ls,v5,v6,rfl,G.imp fun c _ _ r d=>by rcases d with d | ⟨_,d⟩;exact d;omega,Zaf _⟩ ?_ ?_
  ·rintro k x ρ hx ⟨Ls1,v5,v6,rfl,G1,l1⟩
   refine pP fun QS2 hQ2=>?_
   have two:(k=0∧x=.str (cH true))∨(k=1∧x=.str (cH false)):=by
    match k,hx with
    | 0,hx=>exact .inl ⟨rfl,(Zaa hx).symm⟩
    | 1,hx=>exact .inr ⟨rfl,(Zaa hx).symm⟩
    | k+2,hx=>simp at hx
   have k2:k < 2:=by omega
   have row:∃ row:Bool,x=.str (cH row)∧∀ r,((r=true∧0 < k+1)∨(r=false∧1 < k+1))->((r=true∧0 < k)∨(r=false∧1 < k))∨r=row:=by
    rcases two with ⟨rfl,e⟩ | ⟨rfl,e⟩
    ·exact ⟨true,e,fun r h=>by rcases h with h | h;exact .inr h.1;omega⟩
    ·exact ⟨false,e,fun r h=>by rcases h with h | h;exact .inl (.inl ⟨h.1,by omega⟩);exact .inr h.1⟩
   obtain ⟨row,rfl,hr⟩:=row
   obtain ⟨o,eo,co,Ls2,v62,rfl,G2,l2⟩:=Tr sz G1 (by omega) cl no row (v6:=v6)
   refine ⟨_,eo,co,hQ2 _ ⟨Ls2,_,v62,rfl,G2.imp fun c _ _ r d=>?_,by omega⟩⟩
   rcases d with d | ⟨d1,d2⟩
   ·exact .inl (.inl d)
   ·rcases hr r d2 with z | z
    ·exact .inl (.inr ⟨d1,z⟩)
    ·exact .inr ⟨d1,z⟩
  ·rintro ρ ⟨Ls1,v5,v6,rfl,G1,l1⟩
   refine hQ _ ⟨Ls1,v5,v6,rfl,G1.imp fun c _ _ r d=>?_,l1⟩
   rcases d with d | d
   ·exact .inl d
   ·refine .inr ⟨d,?_⟩
    cases r
    ·exact .inr ⟨rfl,by decide⟩
    ·exact .inl ⟨rfl,by decide⟩
 ·refine hQ _ ⟨Ls,v5,v6,rfl,G.imp fun c _ nc r d=>?_,by omega⟩
  rcases d with d | d
  ·exact d
  ·rw [decide_eq_false g] at nb
   rw [d] at nc
   rw [nc] at nb;cases nb
end
theorem Nk {w h:Int} (sz:Sz w h) (keep:Nat):∃ Ls:List Sk,eY [.tup [.int w,.int h],.int keep]=some (.ok (.lst (Ls.map skP)))∧Lgs w h keep (fun _ _=>True) Ls∧(Ls.length:Int)≤2 * w * h:=by
 suffices hh:∃ p,eY [.tup [.int w,.int h],.int keep]=some (.ok p)∧∃ Ls:List Sk,p=.lst (Ls.map skP)∧Lgs w h keep (fun _ _=>True) Ls∧(Ls.length:Int)≤2 * w * h by
  obtain ⟨p,e,Ls,rfl,q⟩:=hh
  exact ⟨Ls,e,q⟩
 have w0:=sz.w0
 have w1:=sz.w1
 have h0:=sz.h0
 have h1:=sz.h1
 refine vh (x:=gH (startR [.tup [.int w,.int h],.int keep] 5)) (lz fun QS hQ=>?_)
 unfold gH
 rw [show startR [.tup [.int w,.int h],.int keep] 5=[some (.sh (.tup [.int w,.int h])),some (.sh (.int keep)),none,none,none,none,none] from rfl]
 walk_at "rd"
 refine ⟨by omega,by omega,?_⟩
 refine dM (I:=fun i ρ=>∃ (Ls:List Sk) (v3 v4 v5 v6:Option Sl),ρ=[some (.sh (.tup [.int w,.int h])),some (.sh (.int keep)),some (.ow (.lst (Ls.map skP))),v3,v4,v5,v6]∧Lgs w h keep (fun c _=>c.2 < i) Ls∧(Ls.length:Int)≤2 * w * i) ⟨[],none,none,none,none,rfl,⟨List.nodup_nil,fun s hs=>(by cases hs),fun c cl _ _ d=>by have:=cl.r0;have d:c.2 < ((0:Nat):Int):=d;omega⟩,by simp⟩ ?_ ?_
 ·rintro i x ρ hx ⟨Ls,v3,v4,v5,v6,rfl,G,ll⟩
  refine pP fun QS2 hQ2=>?_
  obtain ⟨hi,rfl⟩:=ph hx
  rw [Int.zero_add]
  have hi:(i:Int) < h:=by omega
  have lb:2 * w * (i:Int)≤48 * 24:=Int.mul_le_mul (by omega) (by omega) (by omega) (by decide)
  unfold lK
  walk_at "rd"
  refine ⟨by omega,by omega,?_⟩
  refine dM (I:=fun j ρ=>∃ (Ls:List Sk) (v4 v5 v6:Option Sl),ρ=[some (.sh (.tup [.int w,.int h])),some (.sh (.int keep)),some (.ow (.lst (Ls.map skP))),some (.sh (.int (i:Int))),v4,v5,v6]∧Lgs w h keep (fun c _=>c.2 < i∨c.2=i∧c.1 < j) Ls∧(Ls.length:Int)≤2 * w * i+2 * j) ⟨Ls,v4,v5,v6,rfl,G.imp fun c cl _ _ d=>by have:=cl.c0;rcases d with d | d;exact d;have d2:c.1 < ((0:Nat):Int):=d.2;omega,by simpa using ll⟩ ?_ ?_
  ·rintro j x ρ hx ⟨Ls,v4,v5,v6,rfl,G,ll⟩
   refine pP fun QS3 hQ3=>?_
   obtain ⟨hj,rfl⟩:=ph hx
   rw [Int.zero_add]
   obtain ⟨o,eo,co,Ls2,v52,v62,rfl,G2,l2⟩:=Qn sz G (by omega) (i:=i) (j:=j) ⟨by omega,by omega,by omega,hi⟩ (v5:=v5) (v6:=v6)
   refine ⟨_,eo,co,hQ3 _ ⟨Ls2,_,v52,v62,rfl,G2.imp fun c cl _ _ d=>?_,by omega⟩⟩
   by_cases e:c=((j:Int),(i:Int))
   ·exact .inr e
   ·refine .inl ?_
    rcases d with d | ⟨d1,d2⟩
    ·exact .inl d
    ·have:c.1≠j:=fun z=>e (Prod.ext z d1)
     exact .inr ⟨d1,by omega⟩
  ·rintro ρ ⟨Ls,v4,v5,v6,rfl,G,ll⟩
   rw [cV] at ll
   refine hQ2 _ ⟨Ls,_,v4,v5,v6,rfl,G.imp fun c cl _ _ d=>?_,?_⟩
   ·rw [cV]
    have:=cl.c1
    have d:c.2 < ((i+1:Nat):Int):=d
    omega
   ·rw [show ((i+1:Nat):Int)=(i:Int)+1 by omega,Int.mul_add]
    omega
 ·rintro ρ ⟨Ls,v3,v4,v5,v6,rfl,G,ll⟩
  rw [cV,Zbg (by omega)] at ll
  walk_at "rd"
  unfold lL
  walk_at "rd"
  refine hQ _ ⟨_,rfl,Ls,rfl,G.imp fun c cl _ _ _=>?_,ll⟩
  rw [cV]
  have:=cl.r1
  omega
def uG (w:Int) (s:Sk):Nat:=Mth.tR w.toNat (cM (toB s).1 (toB s).2.1 (toB s).2.2.1 (toB s).2.2.2)
theorem Il (w:Int) (row:Bool) (l lo hi:Int):uG w (skB row l lo hi)=Mth.tR w.toNat (cM row l lo hi):=by
 unfold uG;rw [xU]
theorem Im (w:Int) (Ls:List Sk):SetOf w (uG w) Ls:=fun row l lo hi _ i=>by
 rw [Il,Mth.Oa,decide_eq_true_eq]
 unfold cM
 constructor
 ·rintro ⟨c,hc,e⟩
  obtain ⟨k,hk,rfl⟩:=Zad.mp hc
  have:=Zat.mp hk
  exact ⟨lo+(k:Int),by omega,by omega,e⟩
 ·rintro ⟨y,y1,y2,e⟩
  refine ⟨bA row l y,Zad.mpr ⟨(y - lo).toNat,Zat.mpr (by omega),?_⟩,e⟩
  rw [show lo+((y - lo).toNat:Int)=y by omega]
theorem JR {w h:Int} (sz:Sz w h) {row:Bool}{l lo hi:Int} (fr:∀ y,lo≤y->y≤hi->Cell w h (bA row l y).1 (bA row l y).2) (b:-100≤lo∧lo≤100∧-100≤hi∧hi≤100) :
  fV [.tup [.int w,.int h],skP (skB row l lo hi)]=some (.ok (.int (uG w (skB row l lo hi):Int))):=by
 have hm:=sz.mul
 have w1:=sz.w1
 have h1:=sz.h1
 rw [Il]
 refine j8 (x:=iK (startR [.tup [.int w,.int h],skP (skB row l lo hi)] 6)) (lz fun QS hQ=>?_)
 unfold iK
 rw [show startR [.tup [.int w,.int h],skP (skB row l lo hi)] 6=[some (.sh (.tup [.int w,.int h])),some (.sh (.tup [.str (cH row),.int l,.int lo,.int hi])),none,none,none,none,none,none] from rfl]
 walk_at "rd"
 refine ⟨by omega,by omega,by omega,by omega,?_⟩
 refine dM (I:=fun k ρ=>∃ v7:Option Sl,ρ=[some (.sh (.tup [.int w,.int h])),some (.sh (.tup [.str (cH row),.int l,.int lo,.int hi])),some (.sh (.str (cH row))),some (.sh (.int l)),some (.sh (.int lo)),some (.sh (.int hi)),some (.sh (.int (Mth.tR w.toNat ((cM row l lo hi).take k):Int))),v7]) ⟨none,rfl⟩ ?_ ?_
 ·rintro k x ρ hx ⟨v7,rfl⟩
  refine pP fun QS2 hQ2=>?_
  obtain ⟨hk,rfl⟩:=ph hx
  have cl:=fr (lo+(k:Int)) (by omega) (by omega)
  obtain ⟨e1,e2⟩:=cl.pl
  have ha:=sz.at cl.c0 cl.c1 cl.r0 cl.r1
  have hd:(cM row l lo hi)[k]?=some (bA row l (lo+(k:Int))):=by
   unfold cM
   rw [List.getElem?_map,Za1 (by omega)];rfl
  have fin2:∀ p:Int,p=(bA row l (lo+(k:Int))).2 * w+(bA row l (lo+(k:Int))).1->Builtin.bitOr (Mth.tR w.toNat ((cM row l lo hi).take k):Int) (1 * 2 ^ p.toNat)=(Mth.tR w.toNat ((cM row l lo hi).take (k+1)):Int):=fun p hp=>by
   have e3:(1:Int) * 2 ^ p.toNat=((2 ^ Mth.pl w.toNat (bA row l (lo+(k:Int))):Nat):Int):=by rw [hp,e1];simp
   rw [e3,Gw,take_snoc hd,Mth.yz]
  unfold m7
  walk_at "rd"
  have c0:=cl.c0
  have c1:=cl.c1
  have r0:=cl.r0
  have r1:=cl.r1
  cases row with
  | true =>
   rw [if_pos (show cH true=Str.ofString "row" from rfl)]
   unfold m5
   walk_at "rd"
   rw [fin2 (l * w+(lo+(k:Int))) rfl]
   have r0:0≤l:=r0
   have r1:l < h:=r1
   have ha1:0≤l * w+(lo+(k:Int)):=ha.1
   have ha2:l * w+(lo+(k:Int)) < w * h:=ha.2
   exact ⟨.inl ⟨by omega,by omega⟩,by omega,by omega,by decide,hQ2 _ ⟨_,rfl⟩⟩
  | false =>
   rw [if_neg (show ¬cH false=Str.ofString "row" by decide +kernel)]
   unfold m6
   walk_at "rd"
   rw [fin2 ((lo+(k:Int)) * w+l) rfl]
   have r0:0≤lo+(k:Int):=r0
   have r1:lo+(k:Int) < h:=r1
   have ha1:0≤(lo+(k:Int)) * w+l:=ha.1
   have ha2:(lo+(k:Int)) * w+l < w * h:=ha.2
   exact ⟨.inl ⟨by omega,by omega⟩,by omega,by omega,by decide,hQ2 _ ⟨_,rfl⟩⟩
 ·rintro ρ ⟨v7,rfl⟩
  walk_at "rd"
  unfold m8
  walk_at "rd"
  refine hQ _ ?_
  rw [cV,ZaL (by unfold cM;simp)]
  rfl
def iN (n:Nat):PV:=.int (n:Int)
theorem Bl:∀ (l:List Nat) (k away m:Nat),l.length < k->l.length≤1000->eZ k [.lst (l.map iN),.int away,.int m]=some (.ok (.bl (tD l away m)))
 | l,0,_,_,h,_=>by omega
 | l,k+1,away,m,hk,hl=>by
  refine j8 (x:=mR (eZ k) (startR [.lst (l.map iN),.int away,.int m] 0)) (lz fun QS hQ=>?_)
  unfold mR
  rw [show startR [.lst (l.map iN),.int away,.int m] 0=[some (.sh (.lst (l.map iN))),some (.sh (.int away)),some (.sh (.int m))] from rfl]
  walk_at "rd"
  refine kI (fun g=>?_) fun g=>?_
  ·unfold sY
   walk_at "rd"
   refine hQ _ ?_
   have e:away=0:=by omega
   subst e
   cases l <;> rfl
  ·have two:∀ ρ:Rho,tD l away m=false->To (mO (eZ k) ρ) (DP (fun ρ'=>To (mQ (eZ k) ρ') QS) QS):=fun ρ e=>by
    unfold mO
    walk_at "rd"
    refine hQ _ ?_
    rw [e];rfl
   have g:¬away=0:=by omega
   unfold sZ
   walk_at "rd"
   refine kI (fun gm=>two _ ?_) fun gm=>⟨_,PP (g:=iN) (n:=31) (fun a b=>(eqF_int 31 _ _).trans (congrArg some (decide_eq_decide.mpr (by omega)))) l [],kI (fun gl=>two _ ?_) fun gl=>?_⟩
   ·have e:m=0:=by omega
    subst e
    cases l with
    | nil=>exact decide_eq_false g
    | cons s l=>unfold tD;rw [if_neg g,if_pos rfl]
   ·cases of_decide_eq_true gl
    exact decide_eq_false g
   ·cases l with
    | nil=>exact absurd (decide_eq_true rfl) gl
    | cons s l =>
     have gm:¬m=0:=by omega
     rw [Zav] at hk hl
     have h1:=Bl l k (away - (away &&& s)) (m - 1) (by omega) (by omega)
     have h2:=Bl l k away m (by omega) (by omega)
     have le:away &&& s≤away:=Nat.and_le_left
     unfold tD at hQ
     rw [if_neg g,if_neg gm] at hQ
     unfold mQ
     rw [Zai]
     walk_at "rd"
     have ec:Cz (iN s::l.map iN) (some 1) none=l.map iN:=by
      have:=Eh ((s::l).map fun (n:Nat)=>(n:Int)) (by simp)
      rw [Zai,Zai,List.tail_cons,List.map_map] at this
      exact this
     rw [ec,show iN s=PV.int (s:Int) from rfl]
     walk_at "rd"
     rw [jY,show ((away:Int) - ((away &&& s:Nat):Int))=((away - (away &&& s):Nat):Int) by omega,show ((m:Int) - 1)=((m - 1:Nat):Int) by omega,h1,tv_some]
     refine ⟨_,rfl,kI (fun q=>?_) fun q=>?_⟩
     ·refine hQ _ ?_
      rw [q];rfl
     ·rw [h2,tv_some]
      refine hQ _ ?_
      rw [Bool.eq_false_iff.mpr q];rfl
theorem Nm {w h:Int}{Ls:List Sk} (sz:Sz w h) (b:∀ s∈Ls,∃ row l lo hi,s=skB row l lo hi∧(∀ y,lo≤y->y≤hi->Cell w h (bA row l y).1 (bA row l y).2)∧-100≤lo∧lo≤100∧-100≤hi∧hi≤100) :
  ∀ s∈Ls,fV [.tup [.int w,.int h],skP s]=some (.ok (iN (uG w s))):=fun s hs=>by
 obtain ⟨row,l,lo,hi,rfl,fr,b⟩:=b s hs
 exact JR sz fr b
theorem Qo {a b:Nat} (h:a &&& b=0) {i:Nat} (hi:a.testBit i=true):b.testBit i=false:=by
 have:=congrArg (fun n=>n.testBit i) h
 simp only [Nat.testBit_and,hi,Bool.true_and,Nat.zero_testBit] at this
 exact this
theorem Np {ns:List Int}{w h q:Int} (sz:Sz w h) (w3:w≤3) (h3:h≤3) {i:Nat} (i10:i≤10) {v4 v5 v6 v7:Option Sl} :
  To (Ar [some (.sh (.lst (ns.map .int))),some (.sh (.int q)),some (.sh (.tup [.int w,.int h])),some (.sh (.int (i:Int))),v4,v5,v6,v7]) fun o=>∃ v4 v5 v6 v7:Option Sl,o=.nx [some (.sh (.lst (ns.map .int))),some (.sh (.int q)),some (.sh (.tup [.int w,.int h])),some (.sh (.int (i:Int))),v4,v5,v6,v7]:=by
 obtain ⟨c,ec⟩:=zA ns i (by omega)
 obtain ⟨away,keep,f1,al,kl,no⟩:=Eo sz c i i10
 obtain ⟨S,T,e,cv,low⟩:=JN sz (fun c hc=>Qo no (jG hc).2) no
 have F:Few w h away keep S.length:=⟨⟨_,cv,List.length_map _⟩,low⟩
 obtain ⟨Ls,eL,G,ll⟩:=Nk sz keep
 have w0:=sz.w0
 have h0:=sz.h0
 have l18:Ls.length≤18:=by
  have:2 * w * h≤6 * 3:=Int.mul_le_mul (by omega) h3 (by omega) (by decide)
  omega
 have es:=Nm (Ls:=Ls) sz fun s hs=>by
  obtain ⟨row,l,lo,hi,rfl,lh,fr⟩:=G.fr s hs
  obtain ⟨a1,a2⟩:=Bj (fr lo (Int.le_refl _) lh).1
  obtain ⟨b1,b2⟩:=Bj (fr hi lh (Int.le_refl _)).1
  have:JQ w h row≤3:=by unfold JQ;split <;> omega
  exact ⟨row,l,lo,hi,rfl,fun y y1 y2=>(fr y y1 y2).1,by omega,by omega,by omega,by omega⟩
 have up:=Tq sz al no G (Im w Ls) F (Zaf _)
 have dn:0 < S.length->tD (Ls.map (uG w)) away (S.length - 1)=false:=fun hp=>by
  cases z:tD (Ls.map (uG w)) away (S.length - 1) with
  | false=>rfl
  | true=>have:=Ql G (Im w Ls) F z;omega
 have can:∀ m:Nat,bN [.lst ((Ls.map (uG w)).map iN),.int away,.int m]=some (.ok (.bl (tD (Ls.map (uG w)) away m))):=fun m=>Bl _ 40 away m (by rw [List.length_map];omega) (by rw [List.length_map];omega)
 refine lz fun QS hQ=>?_
 unfold Ar
 refine pq ([some (.sh (.lst (ns.map .int))),some (.sh (.int q)),some (.sh (.tup [.int w,.int h])),some (.sh (.int (i:Int))),some (.sh (.int away)),some (.sh (.int keep)),v6,v7]) ?_ ?_
 ·walk_at "rd"
  rw [ec,tv_some,f1,tv_some]
  exact ⟨_,rfl,rfl⟩
 refine pq ([some (.sh (.lst (ns.map .int))),some (.sh (.int q)),some (.sh (.tup [.int w,.int h])),some (.sh (.int (i:Int))),some (.sh (.int away)),some (.sh (.int keep)),some (.sh (.int (S.length:Int))),v7]) ?_ ?_
 ·walk_at "rd"
  rw [e]
  walk_at "rd"
  rw [List.length_map]
 refine pq ([some (.sh (.lst (ns.map .int))),some (.sh (.int q)),some (.sh (.tup [.int w,.int h])),some (.sh (.int (i:Int))),some (.sh (.int away)),some (.sh (.int keep)),some (.sh (.int (S.length:Int))),some (.sh (.lst ((Ls.map (uG w)).map iN)))]) ?_ ?_
 ·walk_at "rd"
  rw [eL]
  walk_at "rd"
  refine ⟨by rw [List.length_map];exact ZaD (uf (by omega)),?_⟩
  rw [vm skP (fun s=>iN (uG w s)) Ls fun s hs=>?_,tv_some,List.map_map]
  ·rfl
  ·walk_at "rd"
   rw [es s hs,tv_some]
 have done:=hQ _ ⟨some (.sh (.int away)),some (.sh (.int keep)),some (.sh (.int (S.length:Int))),some (.sh (.lst ((Ls.map (uG w)).map iN))),rfl⟩
 walk_at "rd"
 refine kI (fun g=>?_) fun g=>?_
 ·rw [show ((S.length:Int) - 1)=((S.length - 1:Nat):Int) by omega,can,dn (by omega)]
  walk_at "rd"
  rw [can,up]
  walk_at "rd"
  exact done
 ·rw [can,up]
  walk_at "rd"
  exact done
theorem law_main (ns:List Int) (hn:ns.length≤63):zf [.lst (ns.map .int)]=some (.ok (.bl true)):=by
 obtain ⟨c1,ec1⟩:=zA ns 1 (by decide)
 obtain ⟨q,eq,q0,q1⟩:=mX c1 9 (by decide)
 have x0:=Zbk q (b:=3) (by decide)
 have x1:=Za4 q (b:=3) (by decide)
 have y0:=Zbk (q / 3) (b:=3) (by decide)
 have y1:=Za4 (q / 3) (b:=3) (by decide)
 obtain ⟨w,hw⟩:∃ w,w=1+q % 3:=⟨_,rfl⟩
 obtain ⟨h,hh⟩:∃ h,h=1+q / 3 % 3:=⟨_,rfl⟩
 have sz:Sz w h:=⟨by lia,by lia,by lia,by lia⟩
 refine j8 (x:=HR (startR [.lst (ns.map .int)] 7)) (lz fun QS hQ=>?_)
 unfold HR
 rw [show startR [.lst (ns.map .int)] 7=[some (.sh (.lst (ns.map .int))),none,none,none,none,none,none,none] from rfl]
 refine pq [some (.sh (.lst (ns.map .int))),some (.sh (.int q)),none,none,none,none,none,none] ?_ ?_
 ·walk_at "rd"
  rw [show eU [.lst (ns.map .int),.int 1]=some (.ok (.int c1)) from ec1,tv_some,show cu [.int c1,.int 9]=some (.ok (.int q)) from eq,tv_some]
 refine pq [some (.sh (.lst (ns.map .int))),some (.sh (.int q)),some (.sh (.tup [.int w,.int h])),none,none,none,none,none] ?_ ?_
 ·walk_at "rd"
  rw [hw,hh]
  exact ⟨by decide,by decide,by decide,by decide,by decide,rfl⟩
 walk_at "rd"
 rw [List.length_map]
 generalize hm:(if (if 10 < (ns.length:Int) then 10 else (ns.length:Int)) > 3 then if 10 < (ns.length:Int) then 10 else (ns.length:Int) else 3)=m
 have m3:3≤m∧m≤10:=by
  rw [←hm]
  split <;> split <;> lia
 refine ⟨by decide,by decide,by lia,by lia,?_⟩
 refine dM (I:=fun _ ρ=>∃ v3 v4 v5 v6 v7:Option Sl,ρ=[some (.sh (.lst (ns.map .int))),some (.sh (.int q)),some (.sh (.tup [.int w,.int h])),v3,v4,v5,v6,v7]) ⟨none,none,none,none,none,rfl⟩ ?_ ?_
 ·rintro i x ρ hx ⟨v3,v4,v5,v6,v7,rfl⟩
  refine pP fun QS2 hQ2=>?_
  obtain ⟨hi,rfl⟩:=ph hx
  obtain ⟨o,eo,co,u4,u5,u6,u7,rfl⟩:=Np (ns:=ns) (q:=q) sz (by lia) (by lia) (i:=2+i) (by lia) (v4:=v4) (v5:=v5) (v6:=v6) (v7:=v7)
  rw [show (2:Int)+(i:Int)=((2+i:Nat):Int) by lia]
  exact ⟨_,eo,co,hQ2 _ ⟨_,u4,u5,u6,u7,rfl⟩⟩
 ·rintro ρ ⟨v3,v4,v5,v6,v7,rfl⟩
  walk_at "rd"
  unfold HQ
  walk_at "rd"
  exact hQ _ rfl
def top (i:Nat):Stmt:=PySem.Challenge.pw_lostblock_k30_few_strokes_tried.main.body.getD i (.Pass ⟨0,0,0,0⟩)
def eD (P:Params) (x:Str) (t:Tok) (v:Value):DictEntry:={ hash:=PyData.keyHash P x,key:=.str x t,val:=v }
def fO (n:Str) (i:Nat) (pm:Value) (c:Nat):Obj:={ cls:=.type "function",data:=.func (fnOf n n (bB (top i)) (bw (top i)) (aM (top i)) .none .none .none pm none (.ref c) .none) }
def cO (n:Str) (t1 t2 t3:Tok) (l k:Int) (a:Nat) (m:Int) (b:Nat) (u v:Value) (c:Nat) (z:Int) (t4:Tok):Obj:={ cls:=.type "code",data:=.fields #[.str n t1,.str n t2,.str "/claim/cut.py" t3,.int l 0,.int k 0,.int 0 0,.int 0 0,.int 3 0,.ref a,.bool true,.int m 0,.ref b,.none,u,v,.ref c,.int z 0,.int l 0,.str "/claim/cut.py" t4] }
def KK:Params->PySem.W.Frag:=fun P=>(nat_lit 3,{ cls:=.type "dict",data:=.dict #[eD P "__name__" 165 (.str "law_lostblock_k30_few_strokes_tried" 387),eD P "__doc__" 166 .none,eD P "__package__" 167 .none,eD P "__loader__" 168 (.builtin "__main__.__loader__#opaque"),eD P "__spec__" 169 .none,eD P "__annotations__" 170 (.ref 6),eD P "__builtins__" 171 (.ref 4),eD P "__file__" 173 (.str "/claim/cut.py" 172),eD P "__cached__" 174 .none,eD P "BlockError" 206 (.ref 24),eD P "Kept" 233 (.ref 44),eD P "place_of" 243 (.ref 53),eD P "has_cell" 252 (.ref 60),eD P "all_cells" 258 (.ref 65),eD P "set_of" 268 (.ref 72),eD P "cells_of" 274 (.ref 77),eD P "walked" 290 (.ref 84),eD P "pair_anew" 303 (.ref 91),eD P "most_pairs" 314 (.ref 98),eD P "short_of_givers" 320 (.ref 103),eD P "ROW" 324 (.str "row" 323),eD P "COLUMN" 326 (.str "column" 325),eD P "lines_of" 334 (.ref 110),eD P "length_of" 342 (.ref 117),eD P "stroke_cells" 348 (.ref 122),eD P "longest_strokes" 354 (.ref 127),eD P "longest_by_cell" 367 (.ref 134),eD P "crossings" 380 (.ref 141),eD P "fewest_strokes" 386 (.ref 146),eD P "_law_cell" 397 (.ref 153),eD P "_law_mixed" 406 (.ref 160),eD P "_law_set" 419 (.ref 167),eD P "_law_carving" 431 (.ref 174),eD P "_law_run" 444 (.ref 181),eD P "_law_longest" 457 (.ref 188),eD P "_law_set_of" 471 (.ref 195),eD P "_law_can" 480 (.ref 202),eD P "law" 486 (.ref 207)] 38 })::(nat_lit 52,cO "place_of" 236 237 238 10 2 47 181 48 (.ref 49) (.ref 50) 51 241 242)::(nat_lit 53,fO "place_of" 4 (.str "lostblock.boards" 234) 52)::(nat_lit 59,cO "has_cell" 244 245 246 12 3 54 181 55 (.ref 56) (.ref 57) 58 250 251)::(nat_lit 60,fO "has_cell" 5 (.str "lostblock.boards" 234) 59)::(nat_lit 64,cO "all_cells" 253 254 255 14 1 61 181 62 .none .none 63 256 257)::(nat_lit 65,fO "all_cells" 6 (.str "lostblock.boards" 234) 64)::(nat_lit 71,cO "set_of" 259 260 261 16 2 66 181 67 (.ref 68) (.ref 69) 70 266 267)::(nat_lit 72,fO "set_of" 7 (.str "lostblock.boards" 234) 71)::(nat_lit 76,cO "cells_of" 269 270 271 21 2 73 181 74 .none .none 75 272 273)::(nat_lit 77,fO "cells_of" 8 (.str "lostblock.boards" 234) 76)::(nat_lit 83,cO "walked" 277 278 279 24 3 78 181 79 (.ref 80) (.ref 81) 82 288 289)::(nat_lit 84,fO "walked" 10 (.str "lostblock.matching" 275) 83)::(nat_lit 90,cO "pair_anew" 291 292 293 39 4 85 181 86 (.ref 87) (.ref 88) 89 301 302)::(nat_lit 91,fO "pair_anew" 11 (.str "lostblock.matching" 275) 90)::(nat_lit 97,cO "most_pairs" 304 305 306 47 1 92 181 93 (.ref 94) (.ref 95) 96 312 313)::(nat_lit 98,fO "most_pairs" 12 (.str "lostblock.matching" 275) 97)::(nat_lit 102,cO "short_of_givers" 315 316 317 54 2 99 181 100 .none .none 101 318 319)::(nat_lit 103,fO "short_of_givers" 13 (.str "lostblock.matching" 275) 102)::(nat_lit 109,cO "lines_of" 327 328 329 61 2 104 181 105 (.ref 106) (.ref 107) 108 332 333)::(nat_lit 110,fO "lines_of" 17 (.str "lostblock.strokes" 321) 109)::(nat_lit 116,cO "length_of" 335 336 337 63 2 111 181 112 (.ref 113) (.ref 114) 115 340 341)::(nat_lit 117,fO "length_of" 18 (.str "lostblock.strokes" 321) 116)::(nat_lit 121,cO "stroke_cells" 343 344 345 65 1 118 181 119 .none .none 120 346 347)::(nat_lit 122,fO "stroke_cells" 19 (.str "lostblock.strokes" 321) 121)::(nat_lit 126,cO "longest_strokes" 349 350 351 69 4 123 181 124 .none .none 125 352 353)::(nat_lit 127,fO "longest_strokes" 20 (.str "lostblock.strokes" 321) 126)::(nat_lit 133,cO "longest_by_cell" 355 356 357 74 3 128 181 129 (.ref 130) (.ref 131) 132 365 366)::(nat_lit 134,fO "longest_by_cell" 21 (.str "lostblock.strokes" 321) 133)::(nat_lit 140,cO "crossings" 368 369 370 81 3 135 181 136 (.ref 137) (.ref 138) 139 378 379)::(nat_lit 141,fO "crossings" 22 (.str "lostblock.strokes" 321) 140)::(nat_lit 145,cO "fewest_strokes" 381 382 383 88 3 142 181 143 .none .none 144 384 385)::(nat_lit 146,fO "fewest_strokes" 23 (.str "lostblock.strokes" 321) 145)::(nat_lit 152,cO "_law_cell" 389 390 391 99 2 147 181 148 (.ref 149) (.ref 150) 151 395 396)::(nat_lit 153,fO "_law_cell" 25 (.str "law_lostblock_k30_few_strokes_tried" 387) 152)::(nat_lit 159,cO "_law_mixed" 398 399 400 106 2 154 181 155 (.ref 156) (.ref 157) 158 404 405)::(nat_lit 160,fO "_law_mixed" 26 (.str "law_lostblock_k30_few_strokes_tried" 387) 159)::(nat_lit 166,cO "_law_set" 407 408 409 112 3 161 181 162 (.ref 163) (.ref 164) 165 417 418)::(nat_lit 167,fO "_law_set" 27 (.str "law_lostblock_k30_few_strokes_tried" 387) 166)::(nat_lit 173,cO "_law_carving" 420 421 422 124 3 168 181 169 (.ref 170) (.ref 171) 172 429 430)::(nat_lit 174,fO "_law_carving" 28 (.str "law_lostblock_k30_few_strokes_tried" 387) 173)::(nat_lit 180,cO "_law_run" 432 433 434 133 5 175 181 176 (.ref 177) (.ref 178) 179 442 443)::(nat_lit 181,fO "_law_run" 29 (.str "law_lostblock_k30_few_strokes_tried" 387) 180)::(nat_lit 187,cO "_law_longest" 445 446 447 149 2 182 181 183 (.ref 184) (.ref 185) 186 455 456)::(nat_lit 188,fO "_law_longest" 30 (.str "law_lostblock_k30_few_strokes_tried" 387) 187)::(nat_lit 194,cO "_law_set_of" 458 459 460 159 2 189 181 190 (.ref 191) (.ref 192) 193 469 470)::(nat_lit 195,fO "_law_set_of" 31 (.str "law_lostblock_k30_few_strokes_tried" 387) 194)::(nat_lit 201,cO "_law_can" 472 473 474 168 3 196 181 197 (.ref 198) (.ref 199) 200 478 479)::(nat_lit 202,fO "_law_can" 32 (.str "law_lostblock_k30_few_strokes_tried" 387) 201)::(nat_lit 206,cO "law" 481 482 483 174 1 203 181 204 .none .none 205 484 485)::(nat_lit 207,fO "law" 33 (.str "law_lostblock_k30_few_strokes_tried" 387) 206)::[]
structure Txt (mg:Str->Option Value):Prop where
 tt:True
 b_dict:mg "dict"=none
 b_enumerate:mg "enumerate"=none
 b_len:mg "len"=none
 b_list:mg "list"=none
 b_max:mg "max"=none
 b_min:mg "min"=none
 b_range:mg "range"=none
 b_sorted:mg "sorted"=none
 b_zip:mg "zip"=none
 c_COLUMN:∃ t,mg "COLUMN"=some (.str "column" t)
 c_ROW:∃ t,mg "ROW"=some (.str "row" t)
section
seal PE PA PS PSs PG PGs PI PPs MJ MT MA MAL MO MS MG MGs MI
variable {P:Program}{w:World}{K:PySem.W.Frag}{mg:Str->Option Value}{base:Heap}
theorem Er:bH ["size","cell"] ["size","cell"] (aM (top 4)):=⟨rfl,rfl,rfl,by decide +kernel,rfl,by decide +kernel,by decide +kernel⟩
theorem Es (T:Txt mg) (D:bD K mg "place_of" (top 4) ["size","cell"]):FnAt P w K mg base "place_of" 1 ["size","cell"] (spM K XR0 iu):=by
 refine D.ok Er (fun vs H Q E h=>dH h fun ps r e=>match ps,e with | [_,_],_=>rfl) (fun f cdv A outer s H vs Q E hr h=>?_)
 refine ⟨_,(aP (bJ (aN bh (aN bO (bM bx (pv 1) au (fun _ _=>rfl)) (bM bx (pv 0) au (fun _ _=>rfl))) (bM bx (pv 1) au (fun _ _=>rfl))))),d8 (b:=qw) (k:=2) (n:=0) rfl (fun ps r e=>match ps,e with | [_,_],e=>⟨rfl,e⟩) h fun io H0 F0 hio=>?_⟩
 exact (dg (aq aF.up cF (aq aF.up dO (aq aF.up dh (aj 1) aA) (aq aF.up dh (aj 0) aA)) (aq aF.up dh (aj 1) aA)))
theorem Et:bH ["size","some","cell"] ["size","some","cell"] (aM (top 5)):=⟨rfl,rfl,rfl,by decide +kernel,rfl,by decide +kernel,by decide +kernel⟩
theorem Eu (T:Txt mg) (D:bD K mg "has_cell" (top 5) ["size","some","cell"]) (G_place_of:FnAt P w K mg base "place_of" 1 ["size","cell"] (spM K XR0 iu)):FnAt P w K mg base "has_cell" 2 ["size","some","cell"] (spM K XR0 iw):=by
 refine D.ok Et (fun vs H Q E h=>dH h fun ps r e=>match ps,e with | [_,_,_],_=>rfl) (fun f cdv A outer s H vs Q E hr h=>?_)
 refine ⟨_,(aP (bJ (NK (dZ hr) (aN ju (aN p8 (pv 1) (aW G_place_of (hr.mono (by decide)) rfl (ak (pv 0) (ak (pv 2) aO)))) au) au (bY _)))),d8 (b:=qx) (k:=3) (n:=0) rfl (fun ps r e=>match ps,e with | [_,_,_],e=>⟨rfl,e⟩) h fun io H0 F0 hio=>?_⟩
 exact (dg (aq aH.up ni (bZ (aq aF.up nP (aq aF.up vX (aj 1) (bW (ao (aj 0) (ao (aj 2) aU)))) aA)) (bZ aA)))
theorem Bm:bH ["size"] ["size"] (aM (top 6)):=⟨rfl,rfl,rfl,by decide +kernel,rfl,by decide +kernel,by decide +kernel⟩
theorem Bo (T:Txt mg) (D:bD K mg "all_cells" (top 6) ["size"]):FnAt P w K mg base "all_cells" 1 ["size"] (spO K XR0 jV):=by
 refine D.ok Bm (fun vs H Q E h=>jP h fun ps r e=>match ps,e with | [_],_=>rfl) (fun f cdv A outer s H vs Q E hr h=>?_)
 refine ⟨_,(aP (bJ (iG ["place","size"] [none,some 0] rfl (kj rfl T.b_range (ak (aN bO (bM bx (pv 0) au (fun _ _=>rfl)) (bM bx (pv 0) au (fun _ _=>rfl))) aO)) (fun _ _ _ _ _=>(cX (i:=0) (by decide +kernel) rfl rfl)) (fun _ _ _ _ _=>tU) (fun _ _ _ _ _=>(fZ (ak (aN gn (pvl 0) (bM lW (pvf 1) au (fun _ _=>rfl))) (ak (aN uK (pvl 0) (bM lW (pvf 1) au (fun _ _=>rfl))) aO))))))),jO (b:=ou) (k:=1) (n:=0) rfl (fun ps r e=>match ps,e with | [_],e=>⟨rfl,e⟩) h fun io H0 F0 hio=>?_⟩
 exact (lR (lV (q9 (ao (aq aF.up dO (aq aF.up dh (aj 0) aA) (aq aF.up dh (aj 0) aA)) aU)) (aJ 0) (dR 0) tY (ie (ao (aq aF.up jL (aj 0) (aq aF.up dh (aj 1) aA)) (ao (aq aF.up GZ (aj 0) (aq aF.up dh (aj 1) aA)) aU)))))
theorem pC:bH ["size","cells","some","cell"] ["size","cells"] (aM (top 7)):=⟨rfl,rfl,rfl,by decide +kernel,rfl,by decide +kernel,by decide +kernel⟩
theorem JS (T:Txt mg) (D:bD K mg "set_of" (top 7) ["size","cells"]) (G_place_of:FnAt P w K mg base "place_of" 1 ["size","cell"] (spM K XR0 iu)):FnAt P w K mg base "set_of" 2 ["size","cells"] (spM K XR0 rT):=by
 refine D.ok pC (fun vs H Q E h=>dH h fun ps r e=>match ps,e with | [_,_],_=>rfl) (fun f cdv A outer s H vs Q E hr h=>?_)
 refine ⟨_,(aC (aX (i:=2) pC.nd rfl (Or.inl rfl) au)
   (aC (gZ ZaF rfl (jM (pv 1)) (cI (i:=3) pC.nd rfl (Or.inl rfl))
    (aP (aX (i:=2) pC.nd rfl (Or.inl rfl) (aN J7 (pv 2) (aN tK au (aW G_place_of (hr.mono (by decide)) rfl (ak (pv 0) (ak (pv 3) aO))))))))
   (aP (bJ (pv 2))))),d8 (b:=xg) (k:=2) (n:=2) rfl (fun ps r e=>match ps,e with | [_,_],e=>⟨rfl,e⟩) h fun io H0 F0 hio=>?_⟩
 exact (aQ (aY aA (aJ 2))
   (aQ (jc (jN (aj 1)) (aJ 3)
    (aY (aq aF.up RQ (aj 2) (aq aF.up yJ aA (bW (ao (aj 0) (ao (aj 3) aU))))) (aJ 2)))
   (dg (aj 2))))
theorem Ew:bH ["size","some"] ["size","some"] (aM (top 8)):=⟨rfl,rfl,rfl,by decide +kernel,rfl,by decide +kernel,by decide +kernel⟩
theorem Ex (T:Txt mg) (D:bD K mg "cells_of" (top 8) ["size","some"]) (G_all_cells:FnAt P w K mg base "all_cells" 1 ["size"] (spO K XR0 jV)) (G_has_cell:FnAt P w K mg base "has_cell" 2 ["size","some","cell"] (spM K XR0 iw)):FnAt P w K mg base "cells_of" 3 ["size","some"] (spO K XR0 gh):=by
 refine D.ok Ew (fun vs H Q E h=>jP h fun ps r e=>match ps,e with | [_,_],_=>rfl) (fun f cdv A outer s H vs Q E hr h=>?_)
 refine ⟨_,(aP (bJ (iG ["cell","size","some"] [none,some 0,some 1] rfl (jM (aW G_all_cells (hr.mono (by decide)) rfl (ak (pv 0) aO))) (fun _ _ _ _ _=>(cX (i:=0) (by decide +kernel) rfl rfl)) (fun _ _ _ _ _=>(vI (zG (aW G_has_cell (hr.mono (by decide)) (glc rfl) (ak (pvf 1) (ak (pvf 2) (ak (pvl 0) aO))))))) (fun _ _ _ _ _=>(pvl 0))))),jO (b:=qy) (k:=2) (n:=0) rfl (fun ps r e=>match ps,e with | [_,_],e=>⟨rfl,e⟩) h fun io H0 F0 hio=>?_⟩
 exact (lR (lV (jN (cB (fX (ao (aj 0) aU)))) (aJ 0) (dR 0) (zW (bW (ao (aj 1) (ao (aj 2) (ao (aj 0) aU))))) (aj 0)))
theorem iD:bH ["wishes","asker_of","starts","askers","came_by","place","asker","giver"] ["wishes","asker_of","starts"] (aM (top 10)):=⟨rfl,rfl,rfl,by decide +kernel,rfl,by decide +kernel,by decide +kernel⟩
theorem JT (T:Txt mg) (D:bD K mg "walked" (top 10) ["wishes","asker_of","starts"]):FnAt P w K mg base "walked" 1 ["wishes","asker_of","starts"] (spD K XR0 jB):=by
 refine D.ok iD (fun vs H Q E h=>Hh h fun ps r e=>match ps,e with | [_,_,_],_=>rfl) (fun f cdv A outer s H vs Q E hr h=>?_)
 refine ⟨_,(aC (aX (i:=3) iD.nd rfl (Or.inl rfl) (yw zQ rfl T.b_list (by decide +kernel) (ak (pv 2) aO)))
   (aC (aX (i:=4) iD.nd rfl (Or.inl rfl) nH)
   (aC (aX (i:=5) iD.nd rfl (Or.inl rfl) au)
   (aC (kh ZaF (bu vU (pv 5) (dX jw rfl T.b_len (by decide +kernel) (ak (pv 3) aO)) (bY _))
    (aC (aX (i:=6) iD.nd rfl (Or.inl rfl) (bM bx (pv 3) (pv 5) (fun _ _=>rfl)))
    (aC (gZ ZaF rfl (jM (nW hr (pv 0) (pv 6) (fun _ _=>rfl))) (cI (i:=7) iD.nd rfl (Or.inl rfl))
     (aC (gU (bu (RZ hr) (pv 7) (pv 4) (by with_unfolding_all rfl))
      (aP BL)
      du)
     (aC (uM (qM hr) (pv 4) (pv 7) (pv 6) rfl)
     (aC (gU (bu (yM hr) (pv 7) (pv 1) (by with_unfolding_all rfl))
      (aP (bJ (fZ (ak (pv 7) (ak (pv 3) (ak (pv 4) aO))))))
      du)
     (aP (uJ (J8 PySem.F.plainAttrs_list PySem.F.slot_list_append PySem.F.type_list_append oV (pv 3) (ak (nW hr (pv 1) (pv 7) (fun _ _=>rfl)) aO))))))))
    (aP (aX (i:=5) iD.nd rfl (Or.inl rfl) (aN bh (pv 5) au))))))
   (aP (bJ (fZ (ak J0 (ak (pv 3) (ak (pv 4) aO)))))))))),Hg (b:=xG) (k:=3) (n:=5) rfl (fun ps r e=>match ps,e with | [_,_,_],e=>⟨rfl,e⟩) h fun io H0 F0 hio=>?_⟩
 exact (aQ (oY (i:=3) trivial (vY RV (kW 2)))
   (aQ (oY (i:=4) trivial rB)
   (aQ (aY aA (aJ 5))
   (aQ (nM 2000 (bf (aq aF.up KY (aj 5) (qi vZ (cG 3))))
    (aQ (aY (aq aV.up Ut (kW 3) (aj 5)) (aJ 6))
    (aQ (jc (jN (rD (fD 0) (aj 6))) (aJ 7)
     (aQ (gW (bf (aq aF.up Uz (aj 7) (fD 4)))
      Oq
      dB)
     (aQ (Hd (aj 6) (aj 7))
     (aQ (gW (bf (aq aF.up CP (aj 7) (fD 1)))
      (Hk (CZ (CQ (aj 7)) (uV 3 hio (by decide) (uV 4 hio (by decide) Hj))))
      dB)
     (Ky (rD (fD 1) (aj 7)))))))
    (aY (aq aF.up cF (aj 5) aA) (aJ 5)))))
   (Hk (CZ (CQ Ku) (uV 3 hio (by decide) (uV 4 hio (by decide) Hj))))))))
theorem gM:bH ["giver_of","asker_of","came_by","free","giver","asker","left"] ["giver_of","asker_of","came_by","free"] (aM (top 11)):=⟨rfl,rfl,rfl,by decide +kernel,rfl,by decide +kernel,by decide +kernel⟩
theorem Bp (T:Txt mg) (D:bD K mg "pair_anew" (top 11) ["giver_of","asker_of","came_by","free"]):FnAt P w K mg base "pair_anew" 1 ["giver_of","asker_of","came_by","free"] (CT K eQ):=by
 refine D.ok gM (fun vs H Q E h=>Jt h fun ps r e=>match ps,e with | [_,_,_,_],_=>rfl) (fun f cdv A outer s H vs Q E hr h=>?_)
 refine ⟨_,(aC (aX (i:=4) gM.nd rfl (Or.inl rfl) (pv 3))
   (aP (kh ZaF (bu NB (pv 4) J0 (bY _))
    (aC (aX (i:=5) gM.nd rfl (Or.inl rfl) (nW hr (pv 2) (pv 4) (fun _ _=>rfl)))
    (aC (aX (i:=6) gM.nd rfl (Or.inl rfl) (Jq hr (pv 0) (pv 5) ⟨rfl,rfl,rfl,rfl⟩))
    (aC (uM (qM hr) (pv 0) (pv 5) (pv 4) rfl)
    (aC (uM (qM hr) (pv 1) (pv 4) (pv 5) rfl)
    (aP (aX (i:=4) gM.nd rfl (Or.inl rfl) (pv 6)))))))))),Js (b:=iW) (k:=4) (n:=3) rfl (fun ps r e=>match ps,e with | [_,_,_,_],e=>⟨rfl,e⟩) h fun a c H0 F0=>?_⟩
 exact (rF (uP (aj 3) (rE 4 (by decide)))
   (Jv 2000 (bf (aq aH.up RT (cG 4) Ku))
    (rF (uP (rD (fD 2) (aj 4)) (rE 5 (by decide)))
    (rF (uP (Ld (fD 0) (aj 5)) (rE 6 (by decide)))
    (rF (CW (aj 4) (aj 5))
    (rF (CW (aj 5) (aj 4))
    (uP (aj 6) (rE 4 (by decide)))))))))
theorem fW:bH ["wishes","giver_of","asker_of","asker","way"] ["wishes"] (aM (top 12)):=⟨rfl,rfl,rfl,by decide +kernel,rfl,by decide +kernel,by decide +kernel⟩
theorem yh (T:Txt mg) (D:bD K mg "most_pairs" (top 12) ["wishes"]) (G_walked:FnAt P w K mg base "walked" 1 ["wishes","asker_of","starts"] (spD K XR0 jB)) (G_pair_anew:FnAt P w K mg base "pair_anew" 1 ["giver_of","asker_of","came_by","free"] (CT K eQ)):FnAt P w K mg base "most_pairs" 2 ["wishes"] (spO K XR0 gB):=by
 refine D.ok fW (fun vs H Q E h=>jP h fun ps r e=>match ps,e with | [_],_=>rfl) (fun f cdv A outer s H vs Q E hr h=>?_)
 refine ⟨_,(aC (aX (i:=1) fW.nd rfl (Or.inl rfl) nH)
   (aC (aX (i:=2) fW.nd rfl (Or.inl rfl) nH)
   (aC (OJ 0 (gZ ZaF rfl (wV (pv 0)) (cI (i:=3) fW.nd rfl (Or.inl rfl))
    (aC (aX (i:=4) fW.nd rfl (Or.inl rfl) (aW G_walked (hr.mono (by decide)) rfl (ak (pv 0) (ak (pv 2) (ak (nC (ak (pv 3) aO)) aO)))))
    (aP (uJ (aW G_pair_anew (hr.mono (by decide)) rfl (ak (pv 1) (ak (pv 2) (ak (bM bx (pv 4) au (fun _ _=>rfl)) (ak (bM bx (pv 4) au (fun _ _=>rfl)) aO))))))))))
   (aP (bJ (pv 1)))))),jO (b:=mG) (k:=1) (n:=4) rfl (fun ps r e=>match ps,e with | [_],e=>⟨rfl,e⟩) h fun io H0 F0 hio=>?_⟩
 exact (aQ (oY (i:=1) trivial rB)
   (aQ (oY (i:=2) trivial rB)
   (aQ (O1 0 (fun _ _=>O4 (ue 0) (aJ 3)
    (aQ (uQ (i:=4) trivial (Lp (vO (cG 0) (vO (cG 2) (vO (bZ (cB (qe (ao (aj 3) aU)))) Om)))))
    (Ah 4 (R8 (by decide) (ao (aq aF.up dh (aj 4) aA) (ao (aq aF.up dh (aj 4) aA) aU)))))))
   (vR 1 hio))))
theorem gk:bH ["wishes","giver_of","asker_of","way"] ["wishes","giver_of"] (aM (top 13)):=⟨rfl,rfl,rfl,by decide +kernel,rfl,by decide +kernel,by decide +kernel⟩
theorem qF (T:Txt mg) (D:bD K mg "short_of_givers" (top 13) ["wishes","giver_of"]) (G_walked:FnAt P w K mg base "walked" 1 ["wishes","asker_of","starts"] (spD K XR0 jB)):FnAt P w K mg base "short_of_givers" 2 ["wishes","giver_of"] (spM K XR0 d9):=by
 refine D.ok gk (fun vs H Q E h=>dH h fun ps r e=>match ps,e with | [_,_],_=>rfl) (fun f cdv A outer s H vs Q E hr h=>?_)
 refine ⟨_,(aC (aX (i:=2) gk.nd rfl (Or.inl rfl) (yw (Gf hr rfl) rfl T.b_dict (by decide +kernel) (ak (uR 1 (iG ["asker","giver"] [none,none] rfl (yZ (pv 1)) (fun _ _ _ _ _=>(uL (n:=2) rfl (dw (cX (i:=0) (by decide +kernel) rfl rfl) (dw (cX (i:=1) (by decide +kernel) rfl rfl) oO)))) (fun _ _ _ _ _=>tU) (fun _ _ _ _ _=>(fZ (ak (pvl 1) (ak (pvl 0) aO)))))) aO)))
   (aC (aX (i:=3) gk.nd rfl (Or.inl rfl) (aW G_walked (hr.mono (by decide)) rfl (ak (pv 0) (ak (pv 2) (ak (uR 0 (iG ["asker","giver_of"] [none,some 1] rfl (wV (pv 0)) (fun _ _ _ _ _=>(cX (i:=0) (by decide +kernel) rfl rfl)) (fun _ _ _ _ _=>(vI (bu (Gg hr) (pvl 0) (pvf 1) (by with_unfolding_all rfl)))) (fun _ _ _ _ _=>(pvl 0)))) aO)))))
   (aP (bJ (fZ (ak (dX pN rfl T.b_sorted (by decide +kernel) (ak (bM bx (pv 3) au (fun _ _=>rfl)) aO)) (ak (dX (ye rfl) rfl T.b_sorted (by decide +kernel) (ak (bM bx (pv 3) au (fun _ _=>rfl)) aO)) aO))))))),d8 (b:=gC) (k:=2) (n:=2) rfl (fun ps r e=>match ps,e with | [_,_],e=>⟨rfl,e⟩) h fun io H0 F0 hio=>?_⟩
 exact (aQ (aY (cB (vY (Oz fun _ _ _=>OD) (oW (uT 1 (fun _ _=>jQ (wW 1) (vQ (dC (aJ 0) (dC (aJ 1) oX))) (Aa (iR (dR 0) (iR (dR 1) uO))) tY (ie (ao (aj 1) (ao (aj 0) aU)))))))) (aJ 2))
   (aQ (uQ (i:=3) trivial (Hf (ao (aj 0) (ao (aj 2) (ao (cB (uT 0 (fun _ _=>jQ (ue 0) (aJ 0) (dR 0) (bf (aq aF.up CP (aj 0) (fD 1))) (aj 0)))) aU)))))
   (Ah 3 (dg (ie (ao (cB (vY Hz (zV (aq aF.up dh (aj 3) aA)))) (ao (cB (vY Mq (Lb (aq aF.up dh (aj 3) aA)))) aU)))))))
theorem Ey:bH ["size","kind"] ["size","kind"] (aM (top 17)):=⟨rfl,rfl,rfl,by decide +kernel,rfl,by decide +kernel,by decide +kernel⟩
theorem Ez (T:Txt mg) (D:bD K mg "lines_of" (top 17) ["size","kind"]):FnAt P w K mg base "lines_of" 1 ["size","kind"] (spM K XR0 mJ):=by
 refine D.ok Ey (fun vs H Q E h=>dH h fun ps r e=>match ps,e with | [_,_],_=>rfl) (fun f cdv A outer s H vs Q E hr h=>?_)
 refine ⟨_,(aP (bJ (BK (bu (dZ hr) (pv 1) (Cj rfl T.c_ROW) (bY _)) (bM bx (pv 0) au (fun _ _=>rfl)) (bM bx (pv 0) au (fun _ _=>rfl))))),d8 (b:=mH) (k:=2) (n:=0) rfl (fun ps r e=>match ps,e with | [_,_],e=>⟨rfl,e⟩) h fun io H0 F0 hio=>?_⟩
 exact (dg (QH (bf (aq aH.up ni (cG 1) (bZ jz))) (aq aF.up dh (aj 0) aA) (aq aF.up dh (aj 0) aA)))
theorem Bq:bH ["size","kind"] ["size","kind"] (aM (top 18)):=⟨rfl,rfl,rfl,by decide +kernel,rfl,by decide +kernel,by decide +kernel⟩
theorem Br (T:Txt mg) (D:bD K mg "length_of" (top 18) ["size","kind"]):FnAt P w K mg base "length_of" 1 ["size","kind"] (spM K XR0 jX):=by
 refine D.ok Bq (fun vs H Q E h=>dH h fun ps r e=>match ps,e with | [_,_],_=>rfl) (fun f cdv A outer s H vs Q E hr h=>?_)
 refine ⟨_,(aP (bJ (BK (bu (dZ hr) (pv 1) (Cj rfl T.c_ROW) (bY _)) (bM bx (pv 0) au (fun _ _=>rfl)) (bM bx (pv 0) au (fun _ _=>rfl))))),d8 (b:=jW) (k:=2) (n:=0) rfl (fun ps r e=>match ps,e with | [_,_],e=>⟨rfl,e⟩) h fun io H0 F0 hio=>?_⟩
 exact (dg (QH (bf (aq aH.up ni (cG 1) (bZ jz))) (aq aF.up dh (aj 0) aA) (aq aF.up dh (aj 0) aA)))
theorem uH:bH ["stroke"] ["stroke"] (aM (top 19)):=⟨rfl,rfl,rfl,by decide +kernel,rfl,by decide +kernel,by decide +kernel⟩
theorem uI (T:Txt mg) (D:bD K mg "stroke_cells" (top 19) ["stroke"]):FnAt P w K mg base "stroke_cells" 1 ["stroke"] (spO K XR0 dN):=by
 refine D.ok uH (fun vs H Q E h=>jP h fun ps r e=>match ps,e with | [_],_=>rfl) (fun f cdv A outer s H vs Q E hr h=>?_)
 refine ⟨_,(aC (gU (bu (dZ hr) (bM bx (pv 0) au (fun _ _=>rfl)) (Cj rfl T.c_ROW) (bY _))
    (aP (bJ (iG ["column","stroke"] [none,some 0] rfl (oR rfl T.b_range (ak (bM bx (pv 0) au (fun _ _=>rfl)) (ak (aN bh (bM bx (pv 0) au (fun _ _=>rfl)) au) aO))) (fun _ _ _ _ _=>(cX (i:=0) (by decide +kernel) rfl rfl)) (fun _ _ _ _ _=>tU) (fun _ _ _ _ _=>(fZ (ak (pvl 0) (ak (bM lW (pvf 1) au (fun _ _=>rfl)) aO)))))))
    du)
   (aP (bJ (iG ["row","stroke"] [none,some 0] rfl (oR rfl T.b_range (ak (bM bx (pv 0) au (fun _ _=>rfl)) (ak (aN bh (bM bx (pv 0) au (fun _ _=>rfl)) au) aO))) (fun _ _ _ _ _=>(cX (i:=0) (by decide +kernel) rfl rfl)) (fun _ _ _ _ _=>tU) (fun _ _ _ _ _=>(fZ (ak (bM lW (pvf 1) au (fun _ _=>rfl)) (ak (pvl 0) aO)))))))),jO (b:=gD) (k:=1) (n:=0) rfl (fun ps r e=>match ps,e with | [_],e=>⟨rfl,e⟩) h fun io H0 F0 hio=>?_⟩
 exact (aQ (gW (bf (aq aH.up ni (bZ (aq aF.up dh (aj 0) aA)) (bZ jz)))
    (lR (lV (uN (ao (aq aF.up dh (aj 0) aA) (ao (aq aF.up cF (aq aF.up dh (aj 0) aA) aA) aU))) (aJ 0) (dR 0) tY (ie (ao (aj 0) (ao (aq aF.up dh (aj 1) aA) aU)))))
    dB)
   (lR (lV (uN (ao (aq aF.up dh (aj 0) aA) (ao (aq aF.up cF (aq aF.up dh (aj 0) aA) aA) aU))) (aJ 0) (dR 0) tY (ie (ao (aq aF.up dh (aj 1) aA) (ao (aj 0) aU))))))
theorem dW:bH ["size","keep","kind","line","last","cells","kept"] ["size","keep","kind","line"] (aM (top 20)):=⟨rfl,rfl,rfl,by decide +kernel,rfl,by decide +kernel,by decide +kernel⟩
theorem qG (T:Txt mg) (D:bD K mg "longest_strokes" (top 20) ["size","keep","kind","line"]) (G_length_of:FnAt P w K mg base "length_of" 1 ["size","kind"] (spM K XR0 jX)) (G_stroke_cells:FnAt P w K mg base "stroke_cells" 1 ["stroke"] (spO K XR0 dN)) (G_has_cell:FnAt P w K mg base "has_cell" 2 ["size","some","cell"] (spM K XR0 iw)):FnAt P w K mg base "longest_strokes" 3 ["size","keep","kind","line"] (spO K XR0 eF):=by
 refine D.ok dW (fun vs H Q E h=>jP h fun ps r e=>match ps,e with | [_,_,_,_],_=>rfl) (fun f cdv A outer s H vs Q E hr h=>?_)
 refine ⟨_,(aC (aX (i:=4) dW.nd rfl (Or.inl rfl) (aN g8 (aW G_length_of (hr.mono (by decide)) rfl (ak (pv 0) (ak (pv 2) aO))) au))
   (aC (aX (i:=5) dW.nd rfl (Or.inl rfl) (aW G_stroke_cells (hr.mono (by decide)) rfl (ak (fZ (ak (pv 2) (ak (pv 3) (ak au (ak (pv 4) aO))))) aO)))
   (aC (aX (i:=6) dW.nd rfl (Or.inl rfl) (aN z6 (aN z6 (nC (ak (TX Rt au) aO)) (iG ["place","cell","size","keep"] [none,none,some 0,some 1] rfl (Od rfl T.b_enumerate (ak (pv 5) aO)) (fun _ _ _ _ _=>(uL (n:=2) rfl (dw (cX (i:=0) (by decide +kernel) rfl rfl) (dw (cX (i:=1) (by decide +kernel) rfl rfl) oO)))) (fun _ _ _ _ _=>(vI (zG (aW G_has_cell (hr.mono (by decide)) (glc rfl) (ak (pvf 2) (ak (pvf 3) (ak (pvl 1) aO))))))) (fun _ _ _ _ _=>(pvl 0)))) (nC (ak (aN bh (pv 4) au) aO))))
   (aP (bJ (iG ["one","other","kind","line"] [none,none,some 2,some 3] rfl (R4 rfl T.b_zip (ak (pv 6) (ak (vG zP (pv 6) (zL au) zK) aO))) (fun _ _ _ _ _=>(uL (n:=2) rfl (dw (cX (i:=0) (by decide +kernel) rfl rfl) (dw (cX (i:=1) (by decide +kernel) rfl rfl) oO)))) (fun _ _ _ _ _=>(vI (bu vU (aN CG (pvl 0) au) (pvl 1) (bY _)))) (fun _ _ _ _ _=>(fZ (ak (pvf 2) (ak (pvf 3) (ak (aN CG (pvl 0) au) (ak (aN g8 (pvl 1) au) aO)))))))))))),jO (b:=eE) (k:=4) (n:=3) rfl (fun ps r e=>match ps,e with | [_,_,_,_],e=>⟨rfl,e⟩) h fun io H0 F0 hio=>?_⟩
 exact (aQ (aY (aq aF.up kY (bW (ao (aj 0) (ao (aj 2) aU))) aA) (aJ 4))
   (aQ (aY (cB (fX (ao (ie (ao (aj 2) (ao (aj 3) (ao aA (ao (aj 4) aU))))) aU))) (aJ 5))
   (aQ (aY (cB (Kv aV.up K1 (oW (Kv aV.up K1 (oW (qe (ao (RW aA) aU))) (oW (lV (Ox (ao (aj 5) aU)) (vQ (dC (aJ 0) (dC (aJ 1) oX))) (Aa (iR (dR 0) (iR (dR 1) uO))) (zW (bW (ao (aj 2) (ao (aj 3) (ao (aj 1) aU))))) (aj 0))))) (oW (qe (ao (aq aF.up cF (aj 4) aA) aU))))) (aJ 6))
   (lR (lV (R5 (ao (aj 6) (ao (cB (FQ (kW 6) (z9 aA) z8)) aU))) (vQ (dC (aJ 0) (dC (aJ 1) oX))) (Aa (iR (dR 0) (iR (dR 1) uO))) (bf (aq aF.up KY (aq aF.up cF (aj 0) aA) (aj 1))) (ie (ao (aj 2) (ao (aj 3) (ao (aq aF.up cF (aj 0) aA) (ao (aq aF.up kY (aj 1) aA) aU))))))))))
theorem cY:bH ["size","keep","kind","by_cell","line","stroke","cell"] ["size","keep","kind"] (aM (top 21)):=⟨rfl,rfl,rfl,by decide +kernel,rfl,by decide +kernel,by decide +kernel⟩
theorem qH (T:Txt mg) (D:bD K mg "longest_by_cell" (top 21) ["size","keep","kind"]) (G_lines_of:FnAt P w K mg base "lines_of" 1 ["size","kind"] (spM K XR0 mJ)) (G_longest_strokes:FnAt P w K mg base "longest_strokes" 3 ["size","keep","kind","line"] (spO K XR0 eF)) (G_stroke_cells:FnAt P w K mg base "stroke_cells" 1 ["stroke"] (spO K XR0 dN)):FnAt P w K mg base "longest_by_cell" 4 ["size","keep","kind"] (spO K XR0 cL):=by
 refine D.ok cY (fun vs H Q E h=>jP h fun ps r e=>match ps,e with | [_,_,_],_=>rfl) (fun f cdv A outer s H vs Q E hr h=>?_)
 refine ⟨_,(aC (aX (i:=3) cY.nd rfl (Or.inl rfl) nH)
   (aC (gZ ZaF rfl (kj rfl T.b_range (ak (aW G_lines_of (hr.mono (by decide)) rfl (ak (pv 0) (ak (pv 2) aO))) aO)) (cI (i:=4) cY.nd rfl (Or.inl rfl))
    (aP (gZ ZaF rfl (jM (aW G_longest_strokes (hr.mono (by decide)) rfl (ak (pv 0) (ak (pv 1) (ak (pv 2) (ak (pv 4) aO)))))) (cI (i:=5) cY.nd rfl (Or.inl rfl))
     (aP (gZ ZaF rfl (jM (aW G_stroke_cells (hr.mono (by decide)) rfl (ak (pv 5) aO))) (cI (i:=6) cY.nd rfl (Or.inl rfl))
      (aP (uM (qM hr) (pv 3) (pv 6) (pv 5) rfl)))))))
   (aP (bJ (pv 3))))),jO (b:=gF) (k:=3) (n:=4) rfl (fun ps r e=>match ps,e with | [_,_,_],e=>⟨rfl,e⟩) h fun io H0 F0 hio=>?_⟩
 exact (aQ (oY (i:=3) trivial rB)
   (aQ (jc (q9 (ao (bW (ao (aj 0) (ao (aj 2) aU))) aU)) (aJ 4)
    (jc (jN (cB (fX (ao (aj 0) (ao (aj 1) (ao (aj 2) (ao (aj 4) aU))))))) (aJ 5)
     (jc (jN (cB (fX (ao (aj 5) aU)))) (aJ 6)
      (Hd (aj 5) (aj 6)))))
   (vR 3 hio)))
theorem gO:bH ["size","away","keep","along_row","along_column","crossed","cell"] ["size","away","keep"] (aM (top 22)):=⟨rfl,rfl,rfl,by decide +kernel,rfl,by decide +kernel,by decide +kernel⟩
theorem Bt (T:Txt mg) (D:bD K mg "crossings" (top 22) ["size","away","keep"]) (G_longest_by_cell:FnAt P w K mg base "longest_by_cell" 4 ["size","keep","kind"] (spO K XR0 cL)) (G_cells_of:FnAt P w K mg base "cells_of" 3 ["size","some"] (spO K XR0 gh)):FnAt P w K mg base "crossings" 5 ["size","away","keep"] (spD K XR0 iY):=by
 refine D.ok gO (fun vs H Q E h=>Hh h fun ps r e=>match ps,e with | [_,_,_],_=>rfl) (fun f cdv A outer s H vs Q E hr h=>?_)
 refine ⟨_,(aC (aX (i:=3) gO.nd rfl (Or.inl rfl) (aW G_longest_by_cell (hr.mono (by decide)) rfl (ak (pv 0) (ak (pv 2) (ak (Cj rfl T.c_ROW) aO)))))
   (aC (aX (i:=4) gO.nd rfl (Or.inl rfl) (aW G_longest_by_cell (hr.mono (by decide)) rfl (ak (pv 0) (ak (pv 2) (ak (Cj rfl T.c_COLUMN) aO)))))
   (aC (aX (i:=5) gO.nd rfl (Or.inl rfl) nH)
   (aC (gZ ZaF rfl (jM (aW G_cells_of (hr.mono (by decide)) rfl (ak (pv 0) (ak (pv 1) aO)))) (cI (i:=6) gO.nd rfl (Or.inl rfl))
    (aP (uJ (J8 PySem.F.plainAttrs_list PySem.F.slot_list_append PySem.F.type_list_append oV (Gp (qM hr) (pv 5) (nW hr (pv 3) (pv 6) (fun _ _=>rfl)) (nC aO) ⟨rfl,rfl,rfl,rfl⟩) (ak (nW hr (pv 4) (pv 6) (fun _ _=>rfl)) aO)))))
   (aP (bJ (pv 5))))))),Hg (b:=oF) (k:=3) (n:=4) rfl (fun ps r e=>match ps,e with | [_,_,_],e=>⟨rfl,e⟩) h fun io H0 F0 hio=>?_⟩
 exact (aQ (aY (cB (fX (ao (aj 0) (ao (aj 2) (ao jz aU))))) (aJ 3))
   (aQ (aY (cB (fX (ao (aj 0) (ao (aj 2) (ao jz aU))))) (aJ 4))
   (aQ (uQ (i:=5) trivial (R9 rB))
   (aQ (jc (jN (cB (fX (ao (aj 0) (ao (aj 1) aU))))) (aJ 6)
    (Jy (i:=5) (rD (fD 3) (aj 6)) (rD (fD 4) (aj 6))))
   (Lh 5)))))
theorem cz:bH ["size","away","keep","both","crossed","column_of","short","strokes","apart"] ["size","away","keep"] (aM (top 23)):=⟨rfl,rfl,rfl,by decide +kernel,rfl,by decide +kernel,by decide +kernel⟩
theorem tE (T:Txt mg) (D:bD K mg "fewest_strokes" (top 23) ["size","away","keep"]) (G_cells_of:FnAt P w K mg base "cells_of" 3 ["size","some"] (spO K XR0 gh)) (G_crossings:FnAt P w K mg base "crossings" 5 ["size","away","keep"] (spD K XR0 iY)) (G_most_pairs:FnAt P w K mg base "most_pairs" 2 ["wishes"] (spO K XR0 gB)) (G_short_of_givers:FnAt P w K mg base "short_of_givers" 2 ["wishes","giver_of"] (spM K XR0 d9)) (G_set_of:FnAt P w K mg base "set_of" 2 ["size","cells"] (spM K XR0 rT)):FnAt P w K mg base "fewest_strokes" 6 ["size","away","keep"] (spM K XR0 fJ):=by
 refine D.ok cz (fun vs H Q E h=>dH h fun ps r e=>match ps,e with | [_,_,_],_=>rfl) (fun f cdv A outer s H vs Q E hr h=>?_)
 refine ⟨_,(aC (aX (i:=3) cz.nd rfl (Or.inl rfl) (aW G_cells_of (hr.mono (by decide)) rfl (ak (pv 0) (ak (aN ju (pv 1) (pv 2)) aO))))
   (aC (gU (bu BW (dX jw rfl T.b_len (by decide +kernel) (ak (pv 3) aO)) au (bY _))
    (aP J3)
    du)
   (aC (aX (i:=4) cz.nd rfl (Or.inl rfl) (aW G_crossings (hr.mono (by decide)) rfl (ak (pv 0) (ak (pv 1) (ak (pv 2) aO)))))
   (aC (aX (i:=5) cz.nd rfl (Or.inl rfl) (aW G_most_pairs (hr.mono (by decide)) rfl (ak (pv 4) aO)))
   (aC (aX (i:=6) cz.nd rfl (Or.inr rfl) (aW G_short_of_givers (hr.mono (by decide)) rfl (ak (pv 4) (ak (pv 5) aO))))
   (aC (aX (i:=7) cz.nd rfl (Or.inl rfl) (aN z6 (uR 4 (iG ["stroke","short"] [none,some 6] rfl (wV (pv 4)) (fun _ _ _ _ _=>(cX (i:=0) (by decide +kernel) rfl rfl)) (fun _ _ _ _ _=>(vI (bu (FZ hr) (pvl 0) (bM lW (pvf 1) au (fun _ _=>rfl)) (by with_unfolding_all rfl)))) (fun _ _ _ _ _=>(pvl 0)))) (bM bx (pv 6) au (fun _ _=>rfl))))
   (aC (aX (i:=8) cz.nd rfl (Or.inl rfl) (aW G_set_of (hr.mono (by decide)) rfl (ak (pv 0) (ak (uR 5 (iG ["along_row","along_column"] [none,none] rfl (yZ (pv 5)) (fun _ _ _ _ _=>(uL (n:=2) rfl (dw (cX (i:=0) (by decide +kernel) rfl rfl) (dw (cX (i:=1) (by decide +kernel) rfl rfl) oO)))) (fun _ _ _ _ _=>tU) (fun _ _ _ _ _=>(fZ (ak (bM lW (pvl 1) au (fun _ _=>rfl)) (ak (bM lW (pvl 0) au (fun _ _=>rfl)) aO)))))) aO))))
   (aP (bJ (fZ (ak (dX pN rfl T.b_sorted (by decide +kernel) (ak (pv 7) aO)) (ak (aW G_cells_of (hr.mono (by decide)) rfl (ak (pv 0) (ak (pv 8) aO))) aO)))))))))))),d8 (b:=fH) (k:=3) (n:=6) rfl (fun ps r e=>match ps,e with | [_,_,_],e=>⟨rfl,e⟩) h fun io H0 F0 hio=>?_⟩
 exact (aQ (aY (cB (fX (ao (aj 0) (ao (aq aF.up nP (aj 1) (aj 2)) aU)))) (aJ 3))
   (aQ (gW (bf (aq aF.up KR (qi vZ (cG 3)) aA))
    K9
    dB)
   (aQ (uQ (i:=4) trivial (Hf (ao (aj 0) (ao (aj 1) (ao (aj 2) aU)))))
   (aQ (Ah 4 (aY (cB (fX (ao (aj 4) aU))) (aJ 5)))
   (aQ (aY (bW (ao (aj 4) (ao (aj 5) aU))) (aJ 6))
   (aQ (aY (cB (Kv aV.up K1 (oW (uT 4 (fun _ _=>jQ (ue 4) (aJ 0) (dR 0) (bf (aq aH.up Ha (cG 0) (bZ (aq aF.up dh (aj 1) aA)))) (aj 0)))) (zV (aq aF.up dh (aj 6) aA)))) (aJ 7))
   (aQ (aY (bW (ao (aj 0) (ao (cB (uT 5 (fun _ _=>jQ (wW 5) (vQ (dC (aJ 0) (dC (aJ 1) oX))) (Aa (iR (dR 0) (iR (dR 1) uO))) tY (ie (ao (aq aF.up dh (aj 1) aA) (ao (aq aF.up dh (aj 0) aA) aU)))))) aU))) (aJ 8))
   (dg (ie (ao (cB (vY Hz (kW 7))) (ao (cB (fX (ao (aj 0) (ao (aj 8) aU)))) aU)))))))))))
theorem um:bH ["_law_script","_law_k","_law_number"] ["_law_script","_law_k"] (aM (top 25)):=⟨rfl,rfl,rfl,by decide +kernel,rfl,by decide +kernel,by decide +kernel⟩
theorem JV (T:Txt mg) (D:bD K mg "_law_cell" (top 25) ["_law_script","_law_k"]):FnAt P w K mg base "_law_cell" 1 ["_law_script","_law_k"] (spM K XR0 eU):=by
 refine D.ok um (fun vs H Q E h=>dH h fun ps r e=>match ps,e with | [_,_],_=>rfl) (fun f cdv A outer s H vs Q E hr h=>?_)
 refine ⟨_,(aC (gU (bu vU (pv 1) (dX jw rfl T.b_len (by decide +kernel) (ak (pv 0) aO)) (bY _))
    (aP (bJ (bM bx (pv 0) (pv 1) (fun _ _=>rfl))))
    du)
   (aC (aX (i:=2) um.nd rfl (Or.inl rfl) (aN bh (aN bO (pv 1) (pv 1)) au))
   (aC (gU (bu BW (dX jw rfl T.b_len (by decide +kernel) (ak (pv 0) aO)) au (bY _))
    (aP (aX (i:=2) um.nd rfl (Or.inl rfl) (aN bh (pv 2) (aN gn (bM bx (pv 0) (aN gn (aN bO (pv 1) au) (dX jw rfl T.b_len (by decide +kernel) (ak (pv 0) aO))) (fun _ _=>rfl)) au))))
    du)
   (aP (bJ (aN gn (aN bO (pv 2) (pv 2)) au)))))),d8 (b:=oG) (k:=2) (n:=1) rfl (fun ps r e=>match ps,e with | [_,_],e=>⟨rfl,e⟩) h fun io H0 F0 hio=>?_⟩
 exact (aQ (gW (bf (aq aF.up KY (aj 1) (qi vZ (cG 0))))
    (dg (aq aF.up dh (aj 0) (aj 1)))
    dB)
   (aQ (aY (aq aF.up cF (aq aF.up dO (aj 1) (aj 1)) aA) (aJ 2))
   (aQ (gW (bf (aq aF.up KR (qi vZ (cG 0)) aA))
    (aY (aq aF.up cF (aj 2) (aq aF.up jL (aq aF.up dh (aj 0) (aq aF.up jL (aq aF.up dO (aj 1) aA) (qi vZ (cG 0)))) aA)) (aJ 2))
    dB)
   (dg (aq aF.up jL (aq aF.up dO (aj 2) (aj 2)) aA)))))
theorem qJ:bH ["_law_cell_here","_law_k","_law_number"] ["_law_cell_here","_law_k"] (aM (top 26)):=⟨rfl,rfl,rfl,by decide +kernel,rfl,by decide +kernel,by decide +kernel⟩
theorem Gx (T:Txt mg) (D:bD K mg "_law_mixed" (top 26) ["_law_cell_here","_law_k"]):FnAt P w K mg base "_law_mixed" 1 ["_law_cell_here","_law_k"] (spM K XR0 cu):=by
 refine D.ok qJ (fun vs H Q E h=>dH h fun ps r e=>match ps,e with | [_,_],_=>rfl) (fun f cdv A outer s H vs Q E hr h=>?_)
 refine ⟨_,(aC (gU (bu T3 (pv 0) (aN Rr au au) (bY _))
    (aP (bJ (aN ju (aN p8 (pv 0) (aN bO au (pv 1))) au)))
    du)
   (aC (aX (i:=2) qJ.nd rfl (Or.inl rfl) (aN gn (aN bO (aN bh (aN bh (aN bh (aN gn (pv 0) au) (aN bO (aN bO au (pv 1)) (pv 1))) (pv 1)) au) au) au))
   (aC (aX (i:=2) qJ.nd rfl (Or.inl rfl) (aN gn (aN bO (pv 2) (pv 2)) au))
   (aP (bJ (aN gn (aN bO (aN bh (pv 2) (pv 1)) au) au)))))),d8 (b:=mK) (k:=2) (n:=1) rfl (fun ps r e=>match ps,e with | [_,_],e=>⟨rfl,e⟩) h fun io H0 F0 hio=>?_⟩
 exact (aQ (gW (bf (aq aF.up Vk (aj 0) (aq aF.up Us aA aA)))
    (dg (aq aF.up nP (aq aF.up vX (aj 0) (aq aF.up dO aA (aj 1))) aA))
    dB)
   (aQ (aY (aq aF.up jL (aq aF.up dO (aq aF.up cF (aq aF.up cF (aq aF.up cF (aq aF.up jL (aj 0) aA) (aq aF.up dO (aq aF.up dO aA (aj 1)) (aj 1))) (aj 1)) aA) aA) aA) (aJ 2))
   (aQ (aY (aq aF.up jL (aq aF.up dO (aj 2) (aj 2)) aA) (aJ 2))
   (dg (aq aF.up jL (aq aF.up dO (aq aF.up cF (aj 2) (aj 1)) aA) aA)))))
theorem jH:bH ["_law_size","_law_cell_here","_law_k","_law_many","_law_number","_law_j","_law_kind"] ["_law_size","_law_cell_here","_law_k"] (aM (top 27)):=⟨rfl,rfl,rfl,by decide +kernel,rfl,by decide +kernel,by decide +kernel⟩
theorem Nq (T:Txt mg) (D:bD K mg "_law_set" (top 27) ["_law_size","_law_cell_here","_law_k"]) (G__law_mixed:FnAt P w K mg base "_law_mixed" 1 ["_law_cell_here","_law_k"] (spM K XR0 cu)):FnAt P w K mg base "_law_set" 2 ["_law_size","_law_cell_here","_law_k"] (spM K XR0 gj):=by
 refine D.ok jH (fun vs H Q E h=>dH h fun ps r e=>match ps,e with | [_,_,_],_=>rfl) (fun f cdv A outer s H vs Q E hr h=>?_)
 refine ⟨_,(aC (aX (i:=3) jH.nd rfl (Or.inl rfl) (aN bO (bM bx (pv 0) au (fun _ _=>rfl)) (bM bx (pv 0) au (fun _ _=>rfl))))
   (aC (aX (i:=4) jH.nd rfl (Or.inl rfl) au)
   (aC (gZ ZaF rfl (kj rfl T.b_range (ak (aN bh au (aN uK (pv 3) au)) aO)) (cI (i:=5) jH.nd rfl (Or.inl rfl))
    (aP (aX (i:=4) jH.nd rfl (Or.inl rfl) (aN bh (aN bO (pv 4) au) (aW G__law_mixed (hr.mono (by decide)) rfl (ak (pv 1) (ak (aN bh (aN bO au (pv 2)) (pv 5)) aO)))))))
   (aC (aX (i:=4) jH.nd rfl (Or.inl rfl) (aN gn (pv 4) (aN tK au (pv 3))))
   (aC (aX (i:=6) jH.nd rfl (Or.inl rfl) (aN gn (aW G__law_mixed (hr.mono (by decide)) rfl (ak (pv 1) (ak (aN bh (aN bO au (pv 2)) au) aO))) au))
   (aC (gU (bu (dZ hr) (pv 6) au (bY _))
    (aP (bJ (aN g8 (aN tK au (pv 3)) au)))
    du)
   (aC (gU (bu (dZ hr) (pv 6) au (bY _))
    (aP (bJ au))
    du)
   (aP (bJ (pv 4)))))))))),d8 (b:=mL) (k:=3) (n:=4) rfl (fun ps r e=>match ps,e with | [_,_,_],e=>⟨rfl,e⟩) h fun io H0 F0 hio=>?_⟩
 exact (aQ (aY (aq aF.up dO (aq aF.up dh (aj 0) aA) (aq aF.up dh (aj 0) aA)) (aJ 3))
   (aQ (aY aA (aJ 4))
   (aQ (jc (q9 (ao (aq aF.up cF aA (aq aF.up GZ (aj 3) aA)) aU)) (aJ 5)
    (aY (aq aF.up cF (aq aF.up dO (aj 4) aA) (bW (ao (aj 1) (ao (aq aF.up cF (aq aF.up dO aA (aj 2)) (aj 5)) aU)))) (aJ 4)))
   (aQ (aY (aq aF.up jL (aj 4) (aq aF.up yJ aA (aj 3))) (aJ 4))
   (aQ (aY (aq aF.up jL (bW (ao (aj 1) (ao (aq aF.up cF (aq aF.up dO aA (aj 2)) aA) aU))) aA) (aJ 6))
   (aQ (gW (bf (aq aH.up ni (cG 6) (bZ aA)))
    (dg (aq aF.up kY (aq aF.up yJ aA (aj 3)) aA))
    dB)
   (aQ (gW (bf (aq aH.up ni (cG 6) (bZ aA)))
    (dg aA)
    dB)
   (dg (aj 4)))))))))
theorem gP:bH ["_law_size","_law_cell_here","_law_k","_law_keep","_law_away","_law_number"] ["_law_size","_law_cell_here","_law_k"] (aM (top 28)):=⟨rfl,rfl,rfl,by decide +kernel,rfl,by decide +kernel,by decide +kernel⟩
theorem Bu (T:Txt mg) (D:bD K mg "_law_carving" (top 28) ["_law_size","_law_cell_here","_law_k"]) (G__law_set:FnAt P w K mg base "_law_set" 2 ["_law_size","_law_cell_here","_law_k"] (spM K XR0 gj)) (G__law_mixed:FnAt P w K mg base "_law_mixed" 1 ["_law_cell_here","_law_k"] (spM K XR0 cu)):FnAt P w K mg base "_law_carving" 3 ["_law_size","_law_cell_here","_law_k"] (spO K XR0 eV):=by
 refine D.ok gP (fun vs H Q E h=>jP h fun ps r e=>match ps,e with | [_,_,_],_=>rfl) (fun f cdv A outer s H vs Q E hr h=>?_)
 refine ⟨_,(aC (aX (i:=3) gP.nd rfl (Or.inl rfl) (aW G__law_set (hr.mono (by decide)) rfl (ak (pv 0) (ak (pv 1) (ak (aN bO au (pv 2)) aO)))))
   (aC (aX (i:=4) gP.nd rfl (Or.inl rfl) (aW G__law_set (hr.mono (by decide)) rfl (ak (pv 0) (ak (pv 1) (ak (aN bh (aN bO au (pv 2)) au) aO)))))
   (aC (aX (i:=5) gP.nd rfl (Or.inl rfl) (aW G__law_mixed (hr.mono (by decide)) rfl (ak (pv 1) (ak (aN bh au (pv 2)) aO))))
   (aC (gU (bu (dZ hr) (aN gn (pv 5) au) au (bY _))
    (aP (aX (i:=3) gP.nd rfl (Or.inl rfl) (aN ju (pv 3) (aW G__law_set (hr.mono (by decide)) rfl (ak (pv 0) (ak (aN bh (pv 1) au) (ak (aN bO au (pv 2)) aO)))))))
    du)
   (aC (gU (bu (dZ hr) (aN gn (aN uK (pv 5) au) au) au (bY _))
    (aP (bJ (nC (ak (aN g8 (aN g8 (aN tK au (aN bO (bM bx (pv 0) au (fun _ _=>rfl)) (bM bx (pv 0) au (fun _ _=>rfl)))) au) (pv 3)) (ak (pv 3) aO)))))
    du)
   (aP (bJ (nC (ak (aN g8 (pv 4) (aN ju (pv 4) (pv 3))) (ak (pv 3) aO)))))))))),jO (b:=gG) (k:=3) (n:=3) rfl (fun ps r e=>match ps,e with | [_,_,_],e=>⟨rfl,e⟩) h fun io H0 F0 hio=>?_⟩
 exact (aQ (aY (bW (ao (aj 0) (ao (aj 1) (ao (aq aF.up dO aA (aj 2)) aU)))) (aJ 3))
   (aQ (aY (bW (ao (aj 0) (ao (aj 1) (ao (aq aF.up cF (aq aF.up dO aA (aj 2)) aA) aU)))) (aJ 4))
   (aQ (aY (bW (ao (aj 1) (ao (aq aF.up cF aA (aj 2)) aU))) (aJ 5))
   (aQ (gW (bf (aq aH.up ni (bZ (aq aF.up jL (aj 5) aA)) (bZ aA)))
    (aY (aq aF.up nP (aj 3) (bW (ao (aj 0) (ao (aq aF.up cF (aj 1) aA) (ao (aq aF.up dO aA (aj 2)) aU))))) (aJ 3))
    dB)
   (aQ (gW (bf (aq aH.up ni (bZ (aq aF.up jL (aq aF.up GZ (aj 5) aA) aA)) (bZ aA)))
    (lR (qe (ao (aq aF.up kY (aq aF.up kY (aq aF.up yJ aA (aq aF.up dO (aq aF.up dh (aj 0) aA) (aq aF.up dh (aj 0) aA))) aA) (aj 3)) (ao (aj 3) aU))))
    dB)
   (lR (qe (ao (aq aF.up kY (aj 4) (aq aF.up nP (aj 4) (aj 3))) (ao (aj 3) aU)))))))))
theorem gQ:bH ["_law_size","_law_keep","_law_way","_law_column","_law_row","_law_low","_law_high"] ["_law_size","_law_keep","_law_way","_law_column","_law_row"] (aM (top 29)):=⟨rfl,rfl,rfl,by decide +kernel,rfl,by decide +kernel,by decide +kernel⟩
theorem Nr (T:Txt mg) (D:bD K mg "_law_run" (top 29) ["_law_size","_law_keep","_law_way","_law_column","_law_row"]):FnAt P w K mg base "_law_run" 1 ["_law_size","_law_keep","_law_way","_law_column","_law_row"] (spM K XR0 dU):=by
 refine D.ok gQ (fun vs H Q E h=>dH h fun ps r e=>match ps,e with | [_,_,_,_,_],_=>rfl) (fun f cdv A outer s H vs Q E hr h=>?_)
 refine ⟨_,(aC (gU (bu (dZ hr) (pv 2) tG (bY _))
    (aC (aX (i:=5) gQ.nd rfl (Or.inl rfl) (pv 3))
    (aC (kh ZaF (PW.pt (vz (bu BW (pv 5) au (bY _)) (qK (bu (dZ hr) (aN ju (aN p8 (pv 1) (aN g8 (aN bh (aN bO (pv 4) (bM bx (pv 0) au (fun _ _=>rfl))) (pv 5)) au)) au) au (bY _)))))
     (aP (aX (i:=5) gQ.nd rfl (Or.inl rfl) (aN g8 (pv 5) au))))
    (aC (aX (i:=6) gQ.nd rfl (Or.inl rfl) (pv 3))
    (aC (kh ZaF (PW.pt (vz (bu vU (aN bh (pv 6) au) (bM bx (pv 0) au (fun _ _=>rfl)) (bY _)) (qK (bu (dZ hr) (aN ju (aN p8 (pv 1) (aN bh (aN bh (aN bO (pv 4) (bM bx (pv 0) au (fun _ _=>rfl))) (pv 6)) au)) au) au (bY _)))))
     (aP (aX (i:=6) gQ.nd rfl (Or.inl rfl) (aN bh (pv 6) au))))
    (aP (bJ (fZ (ak tG (ak (pv 4) (ak (pv 5) (ak (pv 6) aO)))))))))))
    du)
   (aC (aX (i:=5) gQ.nd rfl (Or.inl rfl) (pv 4))
   (aC (kh ZaF (PW.pt (vz (bu BW (pv 5) au (bY _)) (qK (bu (dZ hr) (aN ju (aN p8 (pv 1) (aN bh (aN bO (aN g8 (pv 5) au) (bM bx (pv 0) au (fun _ _=>rfl))) (pv 3))) au) au (bY _)))))
    (aP (aX (i:=5) gQ.nd rfl (Or.inl rfl) (aN g8 (pv 5) au))))
   (aC (aX (i:=6) gQ.nd rfl (Or.inl rfl) (pv 4))
   (aC (kh ZaF (PW.pt (vz (bu vU (aN bh (pv 6) au) (bM bx (pv 0) au (fun _ _=>rfl)) (bY _)) (qK (bu (dZ hr) (aN ju (aN p8 (pv 1) (aN bh (aN bO (aN bh (pv 6) au) (bM bx (pv 0) au (fun _ _=>rfl))) (pv 3))) au) au (bY _)))))
    (aP (aX (i:=6) gQ.nd rfl (Or.inl rfl) (aN bh (pv 6) au))))
   (aP (bJ (fZ (ak tG (ak (pv 3) (ak (pv 5) (ak (pv 6) aO)))))))))))),d8 (b:=iz) (k:=5) (n:=2) rfl (fun ps r e=>match ps,e with | [_,_,_,_,_],e=>⟨rfl,e⟩) h fun io H0 F0 hio=>?_⟩
 exact (aQ (gW (bf (aq aH.up ni (cG 2) (bZ jz)))
    (aQ (aY (aj 3) (aJ 5))
    (aQ (nM 30 (vN (bf (aq aF.up KR (aj 5) aA)) (bf (aq aH.up ni (bZ (aq aF.up nP (aq aF.up vX (aj 1) (aq aF.up kY (aq aF.up cF (aq aF.up dO (aj 4) (aq aF.up dh (aj 0) aA)) (aj 5)) aA)) aA)) (bZ aA))))
     (aY (aq aF.up kY (aj 5) aA) (aJ 5)))
    (aQ (aY (aj 3) (aJ 6))
    (aQ (nM 30 (vN (bf (aq aF.up KY (aq aF.up cF (aj 6) aA) (aq aF.up dh (aj 0) aA))) (bf (aq aH.up ni (bZ (aq aF.up nP (aq aF.up vX (aj 1) (aq aF.up cF (aq aF.up cF (aq aF.up dO (aj 4) (aq aF.up dh (aj 0) aA)) (aj 6)) aA)) aA)) (bZ aA))))
     (aY (aq aF.up cF (aj 6) aA) (aJ 6)))
    (dg (ie (ao jz (ao (aj 4) (ao (aj 5) (ao (aj 6) aU))))))))))
    dB)
   (aQ (aY (aj 4) (aJ 5))
   (aQ (nM 30 (vN (bf (aq aF.up KR (aj 5) aA)) (bf (aq aH.up ni (bZ (aq aF.up nP (aq aF.up vX (aj 1) (aq aF.up cF (aq aF.up dO (aq aF.up kY (aj 5) aA) (aq aF.up dh (aj 0) aA)) (aj 3))) aA)) (bZ aA))))
    (aY (aq aF.up kY (aj 5) aA) (aJ 5)))
   (aQ (aY (aj 4) (aJ 6))
   (aQ (nM 30 (vN (bf (aq aF.up KY (aq aF.up cF (aj 6) aA) (aq aF.up dh (aj 0) aA))) (bf (aq aH.up ni (bZ (aq aF.up nP (aq aF.up vX (aj 1) (aq aF.up cF (aq aF.up dO (aq aF.up cF (aj 6) aA) (aq aF.up dh (aj 0) aA)) (aj 3))) aA)) (bZ aA))))
    (aY (aq aF.up cF (aj 6) aA) (aJ 6)))
   (dg (ie (ao jz (ao (aj 3) (ao (aj 5) (ao (aj 6) aU)))))))))))
theorem fL:bH ["_law_size","_law_keep","_law_found","_law_row","_law_column","_law_way","_law_run_here"] ["_law_size","_law_keep"] (aM (top 30)):=⟨rfl,rfl,rfl,by decide +kernel,rfl,by decide +kernel,by decide +kernel⟩
theorem Bv (T:Txt mg) (D:bD K mg "_law_longest" (top 30) ["_law_size","_law_keep"]) (G__law_run:FnAt P w K mg base "_law_run" 1 ["_law_size","_law_keep","_law_way","_law_column","_law_row"] (spM K XR0 dU)):FnAt P w K mg base "_law_longest" 2 ["_law_size","_law_keep"] (spO K XR0 eY):=by
 refine D.ok fL (fun vs H Q E h=>jP h fun ps r e=>match ps,e with | [_,_],_=>rfl) (fun f cdv A outer s H vs Q E hr h=>?_)
 refine ⟨_,(aC (aX (i:=2) fL.nd rfl (Or.inl rfl) (nC aO))
   (aC (gZ ZaF rfl (kj rfl T.b_range (ak (bM bx (pv 0) au (fun _ _=>rfl)) aO)) (cI (i:=3) fL.nd rfl (Or.inl rfl))
    (aP (gZ ZaF rfl (kj rfl T.b_range (ak (bM bx (pv 0) au (fun _ _=>rfl)) aO)) (cI (i:=4) fL.nd rfl (Or.inl rfl))
     (aP (gU (bu (dZ hr) (aN ju (aN p8 (pv 1) (aN bh (aN bO (pv 3) (bM bx (pv 0) au (fun _ _=>rfl))) (pv 4))) au) au (bY _))
      (aP (gZ ZaF rfl (jM (fZ (ak tG (ak tG aO)))) (cI (i:=5) fL.nd rfl (Or.inl rfl))
       (aC (aX (i:=6) fL.nd rfl (Or.inl rfl) (aW G__law_run (hr.mono (by decide)) rfl (ak (pv 0) (ak (pv 1) (ak (pv 5) (ak (pv 4) (ak (pv 3) aO)))))))
       (aP (gU (bu (yH hr) (pv 6) (pv 2) (by with_unfolding_all rfl))
        (aP (uJ (J8 PySem.F.plainAttrs_list PySem.F.slot_list_append PySem.F.type_list_append oV (pv 2) (ak (pv 6) aO))))
        du)))))
      du)))))
   (aP (bJ (pv 2))))),jO (b:=gH) (k:=2) (n:=5) rfl (fun ps r e=>match ps,e with | [_,_],e=>⟨rfl,e⟩) h fun io H0 F0 hio=>?_⟩
 exact (aQ (oY (i:=2) trivial (qe aU))
   (aQ (jc (q9 (ao (aq aF.up dh (aj 0) aA) aU)) (aJ 3)
    (jc (q9 (ao (aq aF.up dh (aj 0) aA) aU)) (aJ 4)
     (gW (bf (aq aH.up ni (bZ (aq aF.up nP (aq aF.up vX (aj 1) (aq aF.up cF (aq aF.up dO (aj 3) (aq aF.up dh (aj 0) aA)) (aj 4))) aA)) (bZ aA)))
      (jc (jN (ie (ao jz (ao jz aU)))) (aJ 5)
       (aQ (aY (bW (ao (aj 0) (ao (aj 1) (ao (aj 5) (ao (aj 4) (ao (aj 3) aU)))))) (aJ 6))
       (gW (bf (aq aH.up Ha (cG 6) (cG 2)))
        (Ky (aj 6))
        dB)))
      dB)))
   (vR 2 hio)))
theorem dF:bH ["_law_size","_law_stroke","_law_way","_law_line","_law_first","_law_last","_law_found","_law_place"] ["_law_size","_law_stroke"] (aM (top 31)):=⟨rfl,rfl,rfl,by decide +kernel,rfl,by decide +kernel,by decide +kernel⟩
theorem EY (T:Txt mg) (D:bD K mg "_law_set_of" (top 31) ["_law_size","_law_stroke"]):FnAt P w K mg base "_law_set_of" 1 ["_law_size","_law_stroke"] (spM K XR0 fV):=by
 refine D.ok dF (fun vs H Q E h=>dH h fun ps r e=>match ps,e with | [_,_],_=>rfl) (fun f cdv A outer s H vs Q E hr h=>?_)
 refine ⟨_,(aC (J5 (pv 1) (J4 (n:=4) rfl (dw (cI (i:=2) dF.nd rfl (Or.inl rfl)) (dw (cI (i:=3) dF.nd rfl (Or.inl rfl)) (dw (cI (i:=4) dF.nd rfl (Or.inl rfl)) (dw (cI (i:=5) dF.nd rfl (Or.inl rfl)) oO))))))
   (aC (aX (i:=6) dF.nd rfl (Or.inl rfl) au)
   (aC (gZ ZaF rfl (oR rfl T.b_range (ak (pv 4) (ak (aN bh (pv 5) au) aO))) (cI (i:=7) dF.nd rfl (Or.inl rfl))
    (aP (gU (bu (dZ hr) (pv 2) tG (bY _))
     (aP (aX (i:=6) dF.nd rfl (Or.inl rfl) (aN J7 (pv 6) (aN tK au (aN bh (aN bO (pv 3) (bM bx (pv 0) au (fun _ _=>rfl))) (pv 7))))))
     (aP (aX (i:=6) dF.nd rfl (Or.inl rfl) (aN J7 (pv 6) (aN tK au (aN bh (aN bO (pv 7) (bM bx (pv 0) au (fun _ _=>rfl))) (pv 3)))))))))
   (aP (bJ (pv 6)))))),d8 (b:=iK) (k:=2) (n:=6) rfl (fun ps r e=>match ps,e with | [_,_],e=>⟨rfl,e⟩) h fun io H0 F0 hio=>?_⟩
 exact (aQ (aY (aj 1) (vQ (dC (aJ 2) (dC (aJ 3) (dC (aJ 4) (dC (aJ 5) oX))))))
   (aQ (aY aA (aJ 6))
   (aQ (jc (uN (ao (aj 4) (ao (aq aF.up cF (aj 5) aA) aU))) (aJ 7)
    (gW (bf (aq aH.up ni (cG 2) (bZ jz)))
     (aY (aq aF.up RQ (aj 6) (aq aF.up yJ aA (aq aF.up cF (aq aF.up dO (aj 3) (aq aF.up dh (aj 0) aA)) (aj 7)))) (aJ 6))
     (aY (aq aF.up RQ (aj 6) (aq aF.up yJ aA (aq aF.up cF (aq aF.up dO (aj 7) (aq aF.up dh (aj 0) aA)) (aj 3)))) (aJ 6))))
   (dg (aj 6)))))
theorem Fb:bH ["_law_some","_law_away","_law_many"] ["_law_some","_law_away","_law_many"] (aM (top 32)):=⟨rfl,rfl,rfl,by decide +kernel,rfl,by decide +kernel,by decide +kernel⟩
theorem JW (T:Txt mg) (D:bD K mg "_law_can" (top 32) ["_law_some","_law_away","_law_many"]) (n:Nat):FnAt P w K mg base "_law_can" (1+n) ["_law_some","_law_away","_law_many"] (spM K XR0 (eZ n)):=by
 induction n with
 | zero=>exact D.ok Fb (fun vs H Q E h=>dH h fun ps r e=>noS e) (fun f cdv A outer s H vs Q E hr h=>absurd (dH (k:=vs.length+1) h fun ps r e=>noS e) (by omega))
 | succ n G__law_can =>
  refine D.ok (k:=1+n) Fb (fun vs H Q E h=>dH h fun ps r e=>match ps,e with | [_,_,_],_=>rfl) (fun f cdv A outer s H vs Q E hr h=>?_)
  refine ⟨_,(aC (gU (bu (dZ hr) (pv 1) au (bY _))
    (aP (bJ GC))
    du)
   (aC (gU (PW.pt (Qp (bu (dZ hr) (pv 2) au (bY _)) (J1 (bu (dZ hr) (pv 0) (nC aO) (bY _)))))
    (aP (bJ GC))
    du)
   (aP (bJ (TJ (aW G__law_can (hr.mono (by omega)) rfl (ak (vG zP (pv 0) (zL au) zK) (ak (aN g8 (pv 1) (aN ju (pv 1) (bM bx (pv 0) au (fun _ _=>rfl)))) (ak (aN g8 (pv 2) au) aO)))) (Rf (aW G__law_can (hr.mono (by omega)) rfl (ak (vG zP (pv 0) (zL au) zK) (ak (pv 1) (ak (pv 2) aO)))))))))),d8 (b:=mR (eZ n)) (k:=3) (n:=0) rfl (fun ps r e=>match ps,e with | [_,_,_],e=>⟨rfl,e⟩) h fun io H0 F0 hio=>?_⟩
  exact (aQ (gW (bf (aq aH.up ni (cG 1) (bZ aA)))
    (dg GQ)
    dB)
   (aQ (gW (QG (bf (aq aH.up ni (cG 2) (bZ aA))) (bf (aq aH.up ni (cG 0) (bZ (cB (qe aU))))))
    (dg GQ)
    dB)
   (dg (Ui (bW (ao (cB (FQ (kW 0) (z9 aA) z8)) (ao (aq aF.up kY (aj 1) (aq aF.up nP (aj 1) (aq aF.up dh (aj 0) aA))) (ao (aq aF.up kY (aj 2) aA) aU)))) (bW (ao (cB (FQ (kW 0) (z9 aA) z8)) (ao (aj 1) (ao (aj 2) aU))))))))
theorem Nt (T:Txt mg) (D:bD K mg "_law_can" (top 32) ["_law_some","_law_away","_law_many"]):FnAt P w K mg base "_law_can" 41 ["_law_some","_law_away","_law_many"] (spM K XR0 bN):=JW T D 40
theorem oN:bH ["_law_script","_law_number","_law_size","_law_k","_law_away","_law_keep","_law_many","_law_some"] ["_law_script"] (aM (top 33)):=⟨rfl,rfl,rfl,by decide +kernel,rfl,by decide +kernel,by decide +kernel⟩
theorem Tt (T:Txt mg) {f:Addr}{fd:FuncData} (F:Fun K "law" "law" (top 33) f fd) (G__law_mixed:FnAt P w K mg base "_law_mixed" 1 ["_law_cell_here","_law_k"] (spM K XR0 cu)) (G__law_cell:FnAt P w K mg base "_law_cell" 1 ["_law_script","_law_k"] (spM K XR0 eU)) (G__law_carving:FnAt P w K mg base "_law_carving" 3 ["_law_size","_law_cell_here","_law_k"] (spO K XR0 eV)) (G_fewest_strokes:FnAt P w K mg base "fewest_strokes" 6 ["size","away","keep"] (spM K XR0 fJ)) (G__law_longest:FnAt P w K mg base "_law_longest" 2 ["_law_size","_law_keep"] (spO K XR0 eY)) (G__law_set_of:FnAt P w K mg base "_law_set_of" 1 ["_law_size","_law_stroke"] (spM K XR0 fV)) (G__law_can:FnAt P w K mg base "_law_can" 41 ["_law_some","_law_away","_law_many"] (spM K XR0 bN)):xX P w K mg base CX0 42 f fd ["_law_script"] (spM K XR0 zf):=by
 refine F.ok oN (fun vs H Q E h=>dH h fun ps r e=>match ps,e with | [_],_=>rfl) (fun cdv A outer s H vs Q E hr h=>?_)
 refine ⟨_,(aC (aX (i:=1) oN.nd rfl (Or.inl rfl) (aW G__law_mixed (hr.mono (by decide)) rfl (ak (aW G__law_cell (hr.mono (by decide)) rfl (ak (pv 0) (ak au aO))) (ak au aO))))
   (aC (aX (i:=2) oN.nd rfl (Or.inr rfl) (fZ (ak (aN bh au (aN gn (pv 1) au)) (ak (aN bh au (aN gn (aN uK (pv 1) au) au)) aO))))
   (aC (gZ ZaF rfl (oR rfl T.b_range (ak au (ak (dX (IK rfl) rfl T.b_max (by decide +kernel) (ak au (ak (dX (IV rfl) rfl T.b_min (by decide +kernel) (ak (dX jw rfl T.b_len (by decide +kernel) (ak (pv 0) aO)) (ak au aO))) aO))) aO))) (cI (i:=3) oN.nd rfl (Or.inl rfl))
    (aC (J5 (aW G__law_carving (hr.mono (by decide)) rfl (ak (pv 2) (ak (aW G__law_cell (hr.mono (by decide)) rfl (ak (pv 0) (ak (pv 3) aO))) (ak (pv 3) aO)))) (SQ (n:=2) rfl (dw (cI (i:=4) oN.nd rfl (Or.inl rfl)) (dw (cI (i:=5) oN.nd rfl (Or.inl rfl)) oO))))
    (aC (aX (i:=6) oN.nd rfl (Or.inl rfl) (dX jw rfl T.b_len (by decide +kernel) (ak (bM bx (aW G_fewest_strokes (hr.mono (by decide)) rfl (ak (pv 2) (ak (pv 4) (ak (pv 5) aO)))) au (fun _ _=>rfl)) aO)))
    (aC (Oc (i:=7) ["_law_stroke","_law_size"] [none,some 2] rfl oN.nd rfl rfl (jM (aW G__law_longest (hr.mono (by decide)) rfl (ak (pv 2) (ak (pv 5) aO)))) (fun _ _ _ _ _=>(cX (i:=0) (by decide +kernel) rfl rfl)) (fun _ _ _ _ _=>tU) (fun _ _ _ _ _=>(aW G__law_set_of (hr.mono (by decide)) (glc rfl) (ak (pvf 1) (ak (pvl 0) aO)))))
    (aP (gU (PW.pt (Qp (PW.pt (vz (bu BW (pv 6) au (bY _)) (qK (zG (aW G__law_can (hr.mono (by decide)) rfl (ak (pv 7) (ak (pv 4) (ak (aN g8 (pv 6) au) aO)))))))) (J1 (Rc (zG (aW G__law_can (hr.mono (by decide)) rfl (ak (pv 7) (ak (pv 4) (ak (pv 6) aO)))))))))
     (aP (bJ GC))
     du))))))
   (aP (bJ GC))))),d8 (b:=HR) (k:=1) (n:=7) rfl (fun ps r e=>match ps,e with | [_],e=>⟨rfl,e⟩) h fun io H0 F0 hio=>?_⟩
 exact (aQ (aY (bW (ao (bW (ao (aj 0) (ao aA aU))) (ao aA aU))) (aJ 1))
   (aQ (aY (ie (ao (aq aF.up cF aA (aq aF.up jL (aj 1) aA)) (ao (aq aF.up cF aA (aq aF.up jL (aq aF.up GZ (aj 1) aA) aA)) aU))) (aJ 2))
   (aQ (jc (uN (ao aA (ao (K5 aF.up Uv aA (K5 aF.up Uw (qi vZ (cG 0)) aA)) aU))) (aJ 3)
    (aQ (aY (cB (fX (ao (aj 2) (ao (bW (ao (aj 0) (ao (aj 3) aU))) (ao (aj 3) aU))))) (SX (dC (aJ 4) (dC (aJ 5) oX))))
    (aQ (aY (qi vZ (bZ (aq aF.up dh (bW (ao (aj 2) (ao (aj 4) (ao (aj 5) aU)))) aA))) (aJ 6))
    (aQ (aY (cB (lV (jN (cB (fX (ao (aj 2) (ao (aj 5) aU))))) (aJ 0) (dR 0) tY (bW (ao (aj 1) (ao (aj 0) aU))))) (aJ 7))
    (gW (QG (vN (bf (aq aF.up KR (aj 6) aA)) (zW (bW (ao (aj 7) (ao (aj 4) (ao (aq aF.up kY (aj 6) aA) aU)))))) (RM (zW (bW (ao (aj 7) (ao (aj 4) (ao (aj 6) aU)))))))
     (dg GQ)
     dB)))))
   (dg GQ))))
end
theorem Tu {l:PySem.W.OpenLaw}{w:World}{K:PySem.W.Frag}{h:Heap}{mg:Str->Option Value}{fa f0 f1 f2 f3 f4 f5 f6 f7 f8 f9 f10 f11 f12 f13 f14 f15 f16 f17 f18 f19 f20 f21 f22 f23 f24:Addr} (X:K.In h) (G:h.Ns mainGlobals mg) (hfa:mg "law"=some (.ref fa))
  {od0 an0 od1 an1 od2 an2 od3 an3 od4 an4 od5 an5 od6 an6 od7 an7 od8 an8 od9 an9 od10 an10 od11 an11 od12 an12 od13 an13 od14 an14 od15 an15 od16 an16 od17 an17 od18 an18 od19 an19 od20 an20 od21 an21 od22 an22 od23 an23 od24 an24:Option Addr}{sl0 sl1 sl2 sl3 sl4 sl5 sl6 sl7 sl8 sl9 sl10 sl11 sl12 sl13 sl14 sl15 sl16 sl17 sl18 sl19 sl20 sl21 sl22 sl23 sl24:Array (Option Value)}{oc0 kV0 dc0 pm0 cd0 ct0 oc1 kV1 dc1 pm1 cd1 ct1 oc2 kV2 dc2 pm2 cd2 ct2 oc3 kV3 dc3 pm3 cd3 ct3 oc4 kV4 dc4 pm4 cd4 ct4 oc5 kV5 dc5 pm5 cd5 ct5 oc6 kV6 dc6 pm6 cd6 ct6 oc7 kV7 dc7 pm7 cd7 ct7 oc8 kV8 dc8 pm8 cd8 ct8 oc9 kV9 dc9 pm9 cd9 ct9 oc10 kV10 dc10 pm10 cd10 ct10 oc11 kV11 dc11 pm11 cd11 ct11 oc12 kV12 dc12 pm12 cd12 ct12 oc13 kV13 dc13 pm13 cd13 ct13 oc14 kV14 dc14 pm14 cd14 ct14 oc15 kV15 dc15 pm15 cd15 ct15 oc16 kV16 dc16 pm16 cd16 ct16 oc17 kV17 dc17 pm17 cd17 ct17 oc18 kV18 dc18 pm18 cd18 ct18 oc19 kV19 dc19 pm19 cd19 ct19 oc20 kV20 dc20 pm20 cd20 ct20 oc21 kV21 dc21 pm21 cd21 ct21 oc22 kV22 dc22 pm22 cd22 ct22 oc23 kV23 dc23 pm23 cd23 ct23 oc24 kV24 dc24 pm24 cd24 ct24:Value}{t_COLUMN t_ROW:Tok}
  (a0:nsIn K mainGlobals "place_of"=some (some (.ref f0))) (l0:K.lookup f0=some ⟨oc0,od0,.func (fnOf "place_of" "place_of" (bB (top 4)) (bw (top 4)) (aM (top 4)) .none kV0 dc0 pm0 an0 cd0 ct0),sl0⟩) (c0:codeIn K cd0 "place_of"=true) (k0:keepIn K (.ref f0)=true)
  (a1:nsIn K mainGlobals "has_cell"=some (some (.ref f1))) (l1:K.lookup f1=some ⟨oc1,od1,.func (fnOf "has_cell" "has_cell" (bB (top 5)) (bw (top 5)) (aM (top 5)) .none kV1 dc1 pm1 an1 cd1 ct1),sl1⟩) (c1:codeIn K cd1 "has_cell"=true) (k1:keepIn K (.ref f1)=true)
  (a2:nsIn K mainGlobals "all_cells"=some (some (.ref f2))) (l2:K.lookup f2=some ⟨oc2,od2,.func (fnOf "all_cells" "all_cells" (bB (top 6)) (bw (top 6)) (aM (top 6)) .none kV2 dc2 pm2 an2 cd2 ct2),sl2⟩) (c2:codeIn K cd2 "all_cells"=true) (k2:keepIn K (.ref f2)=true)
  (a3:nsIn K mainGlobals "set_of"=some (some (.ref f3))) (l3:K.lookup f3=some ⟨oc3,od3,.func (fnOf "set_of" "set_of" (bB (top 7)) (bw (top 7)) (aM (top 7)) .none kV3 dc3 pm3 an3 cd3 ct3),sl3⟩) (c3:codeIn K cd3 "set_of"=true) (k3:keepIn K (.ref f3)=true)
  (a4:nsIn K mainGlobals "cells_of"=some (some (.ref f4))) (l4:K.lookup f4=some ⟨oc4,od4,.func (fnOf "cells_of" "cells_of" (bB (top 8)) (bw (top 8)) (aM (top 8)) .none kV4 dc4 pm4 an4 cd4 ct4),sl4⟩) (c4:codeIn K cd4 "cells_of"=true) (k4:keepIn K (.ref f4)=true)
  (a5:nsIn K mainGlobals "walked"=some (some (.ref f5))) (l5:K.lookup f5=some ⟨oc5,od5,.func (fnOf "walked" "walked" (bB (top 10)) (bw (top 10)) (aM (top 10)) .none kV5 dc5 pm5 an5 cd5 ct5),sl5⟩) (c5:codeIn K cd5 "walked"=true) (k5:keepIn K (.ref f5)=true)
  (a6:nsIn K mainGlobals "pair_anew"=some (some (.ref f6))) (l6:K.lookup f6=some ⟨oc6,od6,.func (fnOf "pair_anew" "pair_anew" (bB (top 11)) (bw (top 11)) (aM (top 11)) .none kV6 dc6 pm6 an6 cd6 ct6),sl6⟩) (c6:codeIn K cd6 "pair_anew"=true) (k6:keepIn K (.ref f6)=true)
  (a7:nsIn K mainGlobals "most_pairs"=some (some (.ref f7))) (l7:K.lookup f7=some ⟨oc7,od7,.func (fnOf "most_pairs" "most_pairs" (bB (top 12)) (bw (top 12)) (aM (top 12)) .none kV7 dc7 pm7 an7 cd7 ct7),sl7⟩) (c7:codeIn K cd7 "most_pairs"=true) (k7:keepIn K (.ref f7)=true)
  (a8:nsIn K mainGlobals "short_of_givers"=some (some (.ref f8))) (l8:K.lookup f8=some ⟨oc8,od8,.func (fnOf "short_of_givers" "short_of_givers" (bB (top 13)) (bw (top 13)) (aM (top 13)) .none kV8 dc8 pm8 an8 cd8 ct8),sl8⟩) (c8:codeIn K cd8 "short_of_givers"=true) (k8:keepIn K (.ref f8)=true)
  (a9:nsIn K mainGlobals "lines_of"=some (some (.ref f9))) (l9:K.lookup f9=some ⟨oc9,od9,.func (fnOf "lines_of" "lines_of" (bB (top 17)) (bw (top 17)) (aM (top 17)) .none kV9 dc9 pm9 an9 cd9 ct9),sl9⟩) (c9:codeIn K cd9 "lines_of"=true) (k9:keepIn K (.ref f9)=true)
  (a10:nsIn K mainGlobals "length_of"=some (some (.ref f10))) (l10:K.lookup f10=some ⟨oc10,od10,.func (fnOf "length_of" "length_of" (bB (top 18)) (bw (top 18)) (aM (top 18)) .none kV10 dc10 pm10 an10 cd10 ct10),sl10⟩) (c10:codeIn K cd10 "length_of"=true) (k10:keepIn K (.ref f10)=true)
  (a11:nsIn K mainGlobals "stroke_cells"=some (some (.ref f11))) (l11:K.lookup f11=some ⟨oc11,od11,.func (fnOf "stroke_cells" "stroke_cells" (bB (top 19)) (bw (top 19)) (aM (top 19)) .none kV11 dc11 pm11 an11 cd11 ct11),sl11⟩) (c11:codeIn K cd11 "stroke_cells"=true) (k11:keepIn K (.ref f11)=true)
  (a12:nsIn K mainGlobals "longest_strokes"=some (some (.ref f12))) (l12:K.lookup f12=some ⟨oc12,od12,.func (fnOf "longest_strokes" "longest_strokes" (bB (top 20)) (bw (top 20)) (aM (top 20)) .none kV12 dc12 pm12 an12 cd12 ct12),sl12⟩) (c12:codeIn K cd12 "longest_strokes"=true) (k12:keepIn K (.ref f12)=true)
  (a13:nsIn K mainGlobals "longest_by_cell"=some (some (.ref f13))) (l13:K.lookup f13=some ⟨oc13,od13,.func (fnOf "longest_by_cell" "longest_by_cell" (bB (top 21)) (bw (top 21)) (aM (top 21)) .none kV13 dc13 pm13 an13 cd13 ct13),sl13⟩) (c13:codeIn K cd13 "longest_by_cell"=true) (k13:keepIn K (.ref f13)=true)
  (a14:nsIn K mainGlobals "crossings"=some (some (.ref f14))) (l14:K.lookup f14=some ⟨oc14,od14,.func (fnOf "crossings" "crossings" (bB (top 22)) (bw (top 22)) (aM (top 22)) .none kV14 dc14 pm14 an14 cd14 ct14),sl14⟩) (c14:codeIn K cd14 "crossings"=true) (k14:keepIn K (.ref f14)=true)
  (a15:nsIn K mainGlobals "fewest_strokes"=some (some (.ref f15))) (l15:K.lookup f15=some ⟨oc15,od15,.func (fnOf "fewest_strokes" "fewest_strokes" (bB (top 23)) (bw (top 23)) (aM (top 23)) .none kV15 dc15 pm15 an15 cd15 ct15),sl15⟩) (c15:codeIn K cd15 "fewest_strokes"=true) (k15:keepIn K (.ref f15)=true)
  (a16:nsIn K mainGlobals "_law_cell"=some (some (.ref f16))) (l16:K.lookup f16=some ⟨oc16,od16,.func (fnOf "_law_cell" "_law_cell" (bB (top 25)) (bw (top 25)) (aM (top 25)) .none kV16 dc16 pm16 an16 cd16 ct16),sl16⟩) (c16:codeIn K cd16 "_law_cell"=true) (k16:keepIn K (.ref f16)=true)
  (a17:nsIn K mainGlobals "_law_mixed"=some (some (.ref f17))) (l17:K.lookup f17=some ⟨oc17,od17,.func (fnOf "_law_mixed" "_law_mixed" (bB (top 26)) (bw (top 26)) (aM (top 26)) .none kV17 dc17 pm17 an17 cd17 ct17),sl17⟩) (c17:codeIn K cd17 "_law_mixed"=true) (k17:keepIn K (.ref f17)=true)
  (a18:nsIn K mainGlobals "_law_set"=some (some (.ref f18))) (l18:K.lookup f18=some ⟨oc18,od18,.func (fnOf "_law_set" "_law_set" (bB (top 27)) (bw (top 27)) (aM (top 27)) .none kV18 dc18 pm18 an18 cd18 ct18),sl18⟩) (c18:codeIn K cd18 "_law_set"=true) (k18:keepIn K (.ref f18)=true)
  (a19:nsIn K mainGlobals "_law_carving"=some (some (.ref f19))) (l19:K.lookup f19=some ⟨oc19,od19,.func (fnOf "_law_carving" "_law_carving" (bB (top 28)) (bw (top 28)) (aM (top 28)) .none kV19 dc19 pm19 an19 cd19 ct19),sl19⟩) (c19:codeIn K cd19 "_law_carving"=true) (k19:keepIn K (.ref f19)=true)
  (a20:nsIn K mainGlobals "_law_run"=some (some (.ref f20))) (l20:K.lookup f20=some ⟨oc20,od20,.func (fnOf "_law_run" "_law_run" (bB (top 29)) (bw (top 29)) (aM (top 29)) .none kV20 dc20 pm20 an20 cd20 ct20),sl20⟩) (c20:codeIn K cd20 "_law_run"=true) (k20:keepIn K (.ref f20)=true)
  (a21:nsIn K mainGlobals "_law_longest"=some (some (.ref f21))) (l21:K.lookup f21=some ⟨oc21,od21,.func (fnOf "_law_longest" "_law_longest" (bB (top 30)) (bw (top 30)) (aM (top 30)) .none kV21 dc21 pm21 an21 cd21 ct21),sl21⟩) (c21:codeIn K cd21 "_law_longest"=true) (k21:keepIn K (.ref f21)=true)
  (a22:nsIn K mainGlobals "_law_set_of"=some (some (.ref f22))) (l22:K.lookup f22=some ⟨oc22,od22,.func (fnOf "_law_set_of" "_law_set_of" (bB (top 31)) (bw (top 31)) (aM (top 31)) .none kV22 dc22 pm22 an22 cd22 ct22),sl22⟩) (c22:codeIn K cd22 "_law_set_of"=true) (k22:keepIn K (.ref f22)=true)
  (a23:nsIn K mainGlobals "_law_can"=some (some (.ref f23))) (l23:K.lookup f23=some ⟨oc23,od23,.func (fnOf "_law_can" "_law_can" (bB (top 32)) (bw (top 32)) (aM (top 32)) .none kV23 dc23 pm23 an23 cd23 ct23),sl23⟩) (c23:codeIn K cd23 "_law_can"=true) (k23:keepIn K (.ref f23)=true)
  (a24:nsIn K mainGlobals "law"=some (some (.ref f24))) (l24:K.lookup f24=some ⟨oc24,od24,.func (fnOf "law" "law" (bB (top 33)) (bw (top 33)) (aM (top 33)) .none kV24 dc24 pm24 an24 cd24 ct24),sl24⟩) (c24:codeIn K cd24 "law"=true) (k24:keepIn K (.ref f24)=true)
  (z_dict:nsIn K mainGlobals "dict"=some none) (z_enumerate:nsIn K mainGlobals "enumerate"=some none) (z_len:nsIn K mainGlobals "len"=some none) (z_list:nsIn K mainGlobals "list"=some none) (z_max:nsIn K mainGlobals "max"=some none) (z_min:nsIn K mainGlobals "min"=some none) (z_range:nsIn K mainGlobals "range"=some none) (z_sorted:nsIn K mainGlobals "sorted"=some none) (z_zip:nsIn K mainGlobals "zip"=some none) (y_COLUMN:nsIn K mainGlobals "COLUMN"=some (some (.str "column" t_COLUMN))) (y_ROW:nsIn K mainGlobals "ROW"=some (some (.str "row" t_ROW))) :
  ∃ fd:FuncData,(∀ (s:Shared) (v:Value),BindsTo s fd ⟨[v],[]⟩ [("_law_script",v)])∧∀ base:Heap,K.In base->base.Ns mainGlobals mg->xX l.prog w K mg base CX0 42 fa fd ["_law_script"] (spM K XR0 zf):=by
 have e:=hfa.symm.trans (Zaz X G a24)
 cases e
 have T:Txt mg:=⟨trivial,Za5 X G z_dict,Za5 X G z_enumerate,Za5 X G z_len,Za5 X G z_list,Za5 X G z_max,Za5 X G z_min,Za5 X G z_range,Za5 X G z_sorted,Za5 X G z_zip,⟨_,Zaz X G y_COLUMN⟩,⟨_,Zaz X G y_ROW⟩⟩
 have F0:=cN (st:=top 4) l0 c0 k0
 have D0:bD K mg "place_of" (top 4) ["size","cell"]:=⟨⟨_,_,Zaz X G a0,F0,F0.binds fun _ _ _ _ _ _ us hl=>by obtain ⟨_,_,rfl⟩:=wX hl;rfl⟩⟩
 have F1:=cN (st:=top 5) l1 c1 k1
 have D1:bD K mg "has_cell" (top 5) ["size","some","cell"]:=⟨⟨_,_,Zaz X G a1,F1,F1.binds fun _ _ _ _ _ _ us hl=>by obtain ⟨_,_,_,rfl⟩:=Am hl;rfl⟩⟩
 have F2:=cN (st:=top 6) l2 c2 k2
 have D2:bD K mg "all_cells" (top 6) ["size"]:=⟨⟨_,_,Zaz X G a2,F2,F2.binds fun _ _ _ _ _ _ us hl=>by obtain ⟨_,rfl⟩:=PL hl;rfl⟩⟩
 have F3:=cN (st:=top 7) l3 c3 k3
 have D3:bD K mg "set_of" (top 7) ["size","cells"]:=⟨⟨_,_,Zaz X G a3,F3,F3.binds fun _ _ _ _ _ _ us hl=>by obtain ⟨_,_,rfl⟩:=wX hl;rfl⟩⟩
 have F4:=cN (st:=top 8) l4 c4 k4
 have D4:bD K mg "cells_of" (top 8) ["size","some"]:=⟨⟨_,_,Zaz X G a4,F4,F4.binds fun _ _ _ _ _ _ us hl=>by obtain ⟨_,_,rfl⟩:=wX hl;rfl⟩⟩
 have F5:=cN (st:=top 10) l5 c5 k5
 have D5:bD K mg "walked" (top 10) ["wishes","asker_of","starts"]:=⟨⟨_,_,Zaz X G a5,F5,F5.binds fun _ _ _ _ _ _ us hl=>by obtain ⟨_,_,_,rfl⟩:=Am hl;rfl⟩⟩
 have F6:=cN (st:=top 11) l6 c6 k6
 have D6:bD K mg "pair_anew" (top 11) ["giver_of","asker_of","came_by","free"]:=⟨⟨_,_,Zaz X G a6,F6,F6.binds fun _ _ _ _ _ _ us hl=>by obtain ⟨_,_,_,_,rfl⟩:=S8 hl;rfl⟩⟩
 have F7:=cN (st:=top 12) l7 c7 k7
 have D7:bD K mg "most_pairs" (top 12) ["wishes"]:=⟨⟨_,_,Zaz X G a7,F7,F7.binds fun _ _ _ _ _ _ us hl=>by obtain ⟨_,rfl⟩:=PL hl;rfl⟩⟩
 have F8:=cN (st:=top 13) l8 c8 k8
 have D8:bD K mg "short_of_givers" (top 13) ["wishes","giver_of"]:=⟨⟨_,_,Zaz X G a8,F8,F8.binds fun _ _ _ _ _ _ us hl=>by obtain ⟨_,_,rfl⟩:=wX hl;rfl⟩⟩
 have F9:=cN (st:=top 17) l9 c9 k9
 have D9:bD K mg "lines_of" (top 17) ["size","kind"]:=⟨⟨_,_,Zaz X G a9,F9,F9.binds fun _ _ _ _ _ _ us hl=>by obtain ⟨_,_,rfl⟩:=wX hl;rfl⟩⟩
 have F10:=cN (st:=top 18) l10 c10 k10
 have D10:bD K mg "length_of" (top 18) ["size","kind"]:=⟨⟨_,_,Zaz X G a10,F10,F10.binds fun _ _ _ _ _ _ us hl=>by obtain ⟨_,_,rfl⟩:=wX hl;rfl⟩⟩
 have F11:=cN (st:=top 19) l11 c11 k11
 have D11:bD K mg "stroke_cells" (top 19) ["stroke"]:=⟨⟨_,_,Zaz X G a11,F11,F11.binds fun _ _ _ _ _ _ us hl=>by obtain ⟨_,rfl⟩:=PL hl;rfl⟩⟩
 have F12:=cN (st:=top 20) l12 c12 k12
 have D12:bD K mg "longest_strokes" (top 20) ["size","keep","kind","line"]:=⟨⟨_,_,Zaz X G a12,F12,F12.binds fun _ _ _ _ _ _ us hl=>by obtain ⟨_,_,_,_,rfl⟩:=S8 hl;rfl⟩⟩
 have F13:=cN (st:=top 21) l13 c13 k13
 have D13:bD K mg "longest_by_cell" (top 21) ["size","keep","kind"]:=⟨⟨_,_,Zaz X G a13,F13,F13.binds fun _ _ _ _ _ _ us hl=>by obtain ⟨_,_,_,rfl⟩:=Am hl;rfl⟩⟩
 have F14:=cN (st:=top 22) l14 c14 k14
 have D14:bD K mg "crossings" (top 22) ["size","away","keep"]:=⟨⟨_,_,Zaz X G a14,F14,F14.binds fun _ _ _ _ _ _ us hl=>by obtain ⟨_,_,_,rfl⟩:=Am hl;rfl⟩⟩
 have F15:=cN (st:=top 23) l15 c15 k15
 have D15:bD K mg "fewest_strokes" (top 23) ["size","away","keep"]:=⟨⟨_,_,Zaz X G a15,F15,F15.binds fun _ _ _ _ _ _ us hl=>by obtain ⟨_,_,_,rfl⟩:=Am hl;rfl⟩⟩
 have F16:=cN (st:=top 25) l16 c16 k16
 have D16:bD K mg "_law_cell" (top 25) ["_law_script","_law_k"]:=⟨⟨_,_,Zaz X G a16,F16,F16.binds fun _ _ _ _ _ _ us hl=>by obtain ⟨_,_,rfl⟩:=wX hl;rfl⟩⟩
 have F17:=cN (st:=top 26) l17 c17 k17
 have D17:bD K mg "_law_mixed" (top 26) ["_law_cell_here","_law_k"]:=⟨⟨_,_,Zaz X G a17,F17,F17.binds fun _ _ _ _ _ _ us hl=>by obtain ⟨_,_,rfl⟩:=wX hl;rfl⟩⟩
 have F18:=cN (st:=top 27) l18 c18 k18
 have D18:bD K mg "_law_set" (top 27) ["_law_size","_law_cell_here","_law_k"]:=⟨⟨_,_,Zaz X G a18,F18,F18.binds fun _ _ _ _ _ _ us hl=>by obtain ⟨_,_,_,rfl⟩:=Am hl;rfl⟩⟩
 have F19:=cN (st:=top 28) l19 c19 k19
 have D19:bD K mg "_law_carving" (top 28) ["_law_size","_law_cell_here","_law_k"]:=⟨⟨_,_,Zaz X G a19,F19,F19.binds fun _ _ _ _ _ _ us hl=>by obtain ⟨_,_,_,rfl⟩:=Am hl;rfl⟩⟩
 have F20:=cN (st:=top 29) l20 c20 k20
 have D20:bD K mg "_law_run" (top 29) ["_law_size","_law_keep","_law_way","_law_column","_law_row"]:=⟨⟨_,_,Zaz X G a20,F20,F20.binds fun _ _ _ _ _ _ us hl=>by obtain ⟨_,_,_,_,_,rfl⟩:=Vo hl;rfl⟩⟩
 have F21:=cN (st:=top 30) l21 c21 k21
 have D21:bD K mg "_law_longest" (top 30) ["_law_size","_law_keep"]:=⟨⟨_,_,Zaz X G a21,F21,F21.binds fun _ _ _ _ _ _ us hl=>by obtain ⟨_,_,rfl⟩:=wX hl;rfl⟩⟩
 have F22:=cN (st:=top 31) l22 c22 k22
 have D22:bD K mg "_law_set_of" (top 31) ["_law_size","_law_stroke"]:=⟨⟨_,_,Zaz X G a22,F22,F22.binds fun _ _ _ _ _ _ us hl=>by obtain ⟨_,_,rfl⟩:=wX hl;rfl⟩⟩
 have F23:=cN (st:=top 32) l23 c23 k23
 have D23:bD K mg "_law_can" (top 32) ["_law_some","_law_away","_law_many"]:=⟨⟨_,_,Zaz X G a23,F23,F23.binds fun _ _ _ _ _ _ us hl=>by obtain ⟨_,_,_,rfl⟩:=Am hl;rfl⟩⟩
 have F24:=cN (st:=top 33) l24 c24 k24
 refine ⟨fnOf "law" "law" (bB (top 33)) (bw (top 33)) (aM (top 33)) .none kV24 dc24 pm24 an24 cd24 ct24,fun s v=>.of_eq rfl,fun base _ _=>?_⟩
 have G0:=Es (P:=l.prog) (w:=w) (base:=base) T D0
 have G1:=Eu (P:=l.prog) (w:=w) (base:=base) T D1 G0
 have G2:=Bo (P:=l.prog) (w:=w) (base:=base) T D2
 have G3:=JS (P:=l.prog) (w:=w) (base:=base) T D3 G0
 have G4:=Ex (P:=l.prog) (w:=w) (base:=base) T D4 G2 G1
 have G5:=JT (P:=l.prog) (w:=w) (base:=base) T D5
 have G6:=Bp (P:=l.prog) (w:=w) (base:=base) T D6
 have G7:=yh (P:=l.prog) (w:=w) (base:=base) T D7 G5 G6
 have G8:=qF (P:=l.prog) (w:=w) (base:=base) T D8 G5
 have G9:=Ez (P:=l.prog) (w:=w) (base:=base) T D9
 have G10:=Br (P:=l.prog) (w:=w) (base:=base) T D10
 have G11:=uI (P:=l.prog) (w:=w) (base:=base) T D11
 have G12:=qG (P:=l.prog) (w:=w) (base:=base) T D12 G10 G11 G1
 have G13:=qH (P:=l.prog) (w:=w) (base:=base) T D13 G9 G12 G11
 have G14:=Bt (P:=l.prog) (w:=w) (base:=base) T D14 G13 G4
 have G15:=tE (P:=l.prog) (w:=w) (base:=base) T D15 G4 G14 G7 G8 G3
 have G16:=JV (P:=l.prog) (w:=w) (base:=base) T D16
 have G17:=Gx (P:=l.prog) (w:=w) (base:=base) T D17
 have G18:=Nq (P:=l.prog) (w:=w) (base:=base) T D18 G17
 have G19:=Bu (P:=l.prog) (w:=w) (base:=base) T D19 G18 G17
 have G20:=Nr (P:=l.prog) (w:=w) (base:=base) T D20
 have G21:=Bv (P:=l.prog) (w:=w) (base:=base) T D21 G20
 have G22:=EY (P:=l.prog) (w:=w) (base:=base) T D22
 have G23:=Nt (P:=l.prog) (w:=w) (base:=base) T D23
 exact Tt (P:=l.prog) (w:=w) (base:=base) T F24 G17 G16 G19 G15 G21 G22 G23
theorem walk {l:PySem.W.OpenLaw}{q:Program}{loose:List Str}{XP:(Str->Option Value)->Heap->Prop}{YP:World->Heap->Prop}{d:DefRec}{K:Params->PySem.W.Frag} (hn:l.most=some 63) (hdf:d.params.defaults=[])
  (hY:∀ (w:World) (h:Heap),YP w h->(K w.params).In h)
  (F:∀ (w:World) (mg:Str->Option Value) (fa:Addr) (h:Heap),(K w.params).In h->h.Ns mainGlobals mg->mg d.name=some (.ref fa) ->
   ∃ fd:FuncData,(∀ (s:Shared) (u:Value),BindsTo s fd ⟨[u],[]⟩ [("_law_script",u)])∧∀ base:Heap,(K w.params).In base->base.Ns mainGlobals mg->xX l.prog w (K w.params) mg base CX0 42 fa fd ["_law_script"] (spM (K w.params) XR0 zf))
  (main:∀ ns:List Int,ns.length≤63->zf [.lst (ns.map PV.int)]=some (.ok (.bl true))) :
  PySem.W.WalkO q loose XP YP l.row.toRowW d [] (fun f vs=>PySem.call f vs) :=
 L2.N8 (n:=63) (k:=42) (x:="_law_script") (CX:=fun _=>CX0) (sp:=fun w=>spM (K w.params) XR0 zf) hn (by decide) hdf ⟨rfl,by decide,by decide⟩ hY F (fun w H a ns hl _ hS=>⟨[.lst (ns.map PV.int)],H,.ok (.bl true),aR.refl _,bC.nil.cons (.lst hS (bC.zU (K:=K w.params) (F:=H) ns).1 (bC.zU ns).2),main ns hl,fun v F' H' _ rv=>Rep.jZ rv⟩) fun _ _ _ _ _ z=>z
end MM
open PySem PySem.W PyProof.Rows
set_option maxRecDepth 100000 in
set_option maxHeartbeats 0 in
theorem PySem.Challenge.cw_lostblock_k30_few_strokes_tried_holds : PySem.Challenge.rw_lostblock_k30_few_strokes_tried.Holds := by
 w_on;o_law;o_head (kHook MM.KK [3,52,53,59,60,64,65,71,72,76,77,83,84,90,91,97,98,102,103,109,110,116,117,121,122,126,127,133,134,140,141,145,146,152,153,159,160,166,167,173,174,180,181,187,188,194,195,201,202,206,207] (fun _=>by kernel_rfl));(case hw=>w_witness2)
 k_fill
 refine MM.walk (l:=PySem.Challenge.rw_lostblock_k30_few_strokes_tried) rfl rfl (fun w h Y=>PySem.W.kIn_of Y) ?F MM.law_main
 case F =>
  intro w mg fa h KX G hmg
  refine' MM.Tu KX G hmg ?a0 ?l0 ?c0 ?k0 ?a1 ?l1 ?c1 ?k1 ?a2 ?l2 ?c2 ?k2 ?a3 ?l3 ?c3 ?k3 ?a4 ?l4 ?c4 ?k4 ?a5 ?l5 ?c5 ?k5 ?a6 ?l6 ?c6 ?k6 ?a7 ?l7 ?c7 ?k7 ?a8 ?l8 ?c8 ?k8 ?a9 ?l9 ?c9 ?k9 ?a10 ?l10 ?c10 ?k10 ?a11 ?l11 ?c11 ?k11 ?a12 ?l12 ?c12 ?k12 ?a13 ?l13 ?c13 ?k13 ?a14 ?l14 ?c14 ?k14 ?a15 ?l15 ?c15 ?k15 ?a16 ?l16 ?c16 ?k16 ?a17 ?l17 ?c17 ?k17 ?a18 ?l18 ?c18 ?k18 ?a19 ?l19 ?c19 ?k19 ?a20 ?l20 ?c20 ?k20 ?a21 ?l21 ?c21 ?k21 ?a22 ?l22 ?c22 ?k22 ?a23 ?l23 ?c23 ?k23 ?a24 ?l24 ?c24 ?k24 ?z_dict ?z_enumerate ?z_len ?z_list ?z_max ?z_min ?z_range ?z_sorted ?z_zip ?y_COLUMN ?y_ROW
  (case a0=>k_is)
  (case l0=>k_is)
  (case c0=>k_is)
  (case k0=>k_is)
  (case a1=>k_is)
  (case l1=>k_is)
  (case c1=>k_is)
  (case k1=>k_is)
  (case a2=>k_is)
  (case l2=>k_is)
  (case c2=>k_is)
  (case k2=>k_is)
  (case a3=>k_is)
  (case l3=>k_is)
  (case c3=>k_is)
  (case k3=>k_is)
  (case a4=>k_is)
  (case l4=>k_is)
  (case c4=>k_is)
  (case k4=>k_is)
  (case a5=>k_is)
  (case l5=>k_is)
  (case c5=>k_is)
  (case k5=>k_is)
  (case a6=>k_is)
  (case l6=>k_is)
  (case c6=>k_is)
  (case k6=>k_is)
  (case a7=>k_is)
  (case l7=>k_is)
  (case c7=>k_is)
  (case k7=>k_is)
  (case a8=>k_is)
  (case l8=>k_is)
  (case c8=>k_is)
  (case k8=>k_is)
  (case a9=>k_is)
  (case l9=>k_is)
  (case c9=>k_is)
  (case k9=>k_is)
  (case a10=>k_is)
  (case l10=>k_is)
  (case c10=>k_is)
  (case k10=>k_is)
  (case a11=>k_is)
  (case l11=>k_is)
  (case c11=>k_is)
  (case k11=>k_is)
  (case a12=>k_is)
  (case l12=>k_is)
  (case c12=>k_is)
  (case k12=>k_is)
  (case a13=>k_is)
  (case l13=>k_is)
  (case c13=>k_is)
  (case k13=>k_is)
  (case a14=>k_is)
  (case l14=>k_is)
  (case c14=>k_is)
  (case k14=>k_is)
  (case a15=>k_is)
  (case l15=>k_is)
  (case c15=>k_is)
  (case k15=>k_is)
  (case a16=>k_is)
  (case l16=>k_is)
  (case c16=>k_is)
  (case k16=>k_is)
  (case a17=>k_is)
  (case l17=>k_is)
  (case c17=>k_is)
  (case k17=>k_is)
  (case a18=>k_is)
  (case l18=>k_is)
  (case c18=>k_is)
  (case k18=>k_is)
  (case a19=>k_is)
  (case l19=>k_is)
  (case c19=>k_is)
  (case k19=>k_is)
  (case a20=>k_is)
  (case l20=>k_is)
  (case c20=>k_is)
  (case k20=>k_is)
  (case a21=>k_is)
  (case l21=>k_is)
  (case c21=>k_is)
  (case k21=>k_is)
  (case a22=>k_is)
  (case l22=>k_is)
  (case c22=>k_is)
  (case k22=>k_is)
  (case a23=>k_is)
  (case l23=>k_is)
  (case c23=>k_is)
  (case k23=>k_is)
  (case a24=>k_is)
  (case l24=>k_is)
  (case c24=>k_is)
  (case k24=>k_is)
  (case z_dict=>k_is)
  (case z_enumerate=>k_is)
  (case z_len=>k_is)
  (case z_list=>k_is)
  (case z_max=>k_is)
  (case z_min=>k_is)
  (case z_range=>k_is)
  (case z_sorted=>k_is)
  (case z_zip=>k_is)
  (case y_COLUMN=>k_is)
  (case y_ROW=>k_is)
#print axioms PySem.Challenge.cw_lostblock_k30_few_strokes_tried_holds
