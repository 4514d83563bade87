import PyProof.Rows.All
import Wide.All
import OpenK.AllK
import Wide.FinOn
import Lean
import PyProof.EqAt
import PyProof.EqKinds
import PyProof.TupleCall
import PySem.Challenge.RW_lostblock_k25_order_tells
set_option Elab.async false
set_option linter.all false
set_option maxRecDepth 100000
def PySem.W.Fast.tw13011552911854681016:=()
def PySem.W.Fast.tw1210566612206324519:=()
def PySem.W.Fast.tw2832135388916715456:=()
def PySem.W.Fast.tw11177412466531834369:=()
def PySem.W.Fast.tw7269362240084891087:=()
def PySem.W.Fast.tw9063589374348341085:=()
def PySem.W.Fast.tw1947496335058103971:=()
def PySem.W.Fast.tw12980954162964399432:=()
def PySem.W.Fast.tw10215869164331500082:=()
def PySem.W.Fast.tw15120731776856820460:=()
def PySem.W.Fast.tw5631713928274494372:=()
def PySem.W.Fast.tw17132565536146180530:=()
def PySem.W.Fast.tw6561521208550227832:=()
def PySem.W.Fast.tw1858719608901450904:=()
def PySem.W.Fast.tw5286289863396168941:=()
def PySem.W.Fast.tw1353633152491386412:=()
def PySem.W.Fast.tw18229743116467801970:=()
def PySem.W.Fast.tw6728707516376031410:=()
def PySem.W.Fast.tw1522576316235318959:=()
def PySem.W.Fast.tw8283234493736651652:=()
def PySem.W.Fast.tw14411770016566125635:=()
def PySem.W.Fast.tw867987541660833524:=()
def PySem.W.Fast.tw6667914544134186129:=()
def PySem.W.Fast.tw693582389409929933:=()
def PySem.W.Fast.tw15397129302482368992:=()
def PySem.W.Fast.tw6474374055380871654:=()
def PySem.W.Fast.tw15400954077704537037:=()
def PySem.W.Fast.tw14431139858558300319:=()
def PySem.W.Fast.tw2036644044041996540:=()
local macro_rules|`(tactic|walk_at "s")=>`(tactic|exact⟨rfl,rfl,rfl,by decide +kernel,rfl,by decide +kernel,by decide +kernel⟩)
local macro_rules|`(command| def $d:declId $s:optDeclSig $v:declVal)=>`(command| noncomputable def $d:declId $s:optDeclSig $v:declVal)
open PySem.W (Frag keepIn fnOf codeIn nsIn)
def Zaa:=@List.getElem?_eq_getElem
def Zab:=@List.length_map
def Zac:=@Option.some.inj
def Zad:=@List.getElem?_eq_some_iff
def Zae:=@PySem.Heap.get?_push_of_some
def Zaf:=@List.getElem?_map
def Zag:=@List.getD_eq_getElem?_getD
def Zah:=@List.getElem?_append_left
def Zai:=@PySem.wpAny_bind
def Zaj:=@List.mem_cons_self
def Zak:=@List.mem_cons_of_mem
def Zal:=@Nat.le_refl
def Zam:=@List.getElem?_set_ne
def Zan:=@List.mem_append_right
def Zao:=@List.mem_of_getElem?
def Zap:=@List.getElem?_append_right
def Zaq:=@List.mem_cons
def Zar:=@PySem.Heap.get?_push_size
def Zas:=@PySem.Heap.lt_size
def Zat:=@if_pos
def Zau:=@Nat.lt_of_lt_of_le
def Zav:=@PySem.wpAny_pure
def Zaw:=@List.map_cons
def Zax:=@if_neg
def Zay:=@List.mem_map
def Zaz:=@List.length_append
def ZaA:=@Nat.le_of_lt
def ZaB:=@Nat.ne_of_lt
def ZaC:=@List.mem_singleton
def ZaD:=@Array.length_toList
def ZaE:=@List.length_range
def ZaF:=@List.getElem?_eq_none
def ZaG:=@List.mem_append
def ZaH:=@Array.getD_eq_getD_getElem?
def ZaI:=@List.mem_range
def ZaJ:=@List.length_cons
def ZaK:=@List.pairwise_cons
def ZaL:=@List.mem_filter
def ZaM:=@List.nodup_cons
def ZaN:=@Int.toNat_natCast
def ZaO:=@PySem.wpAny_mono
def ZaP:=@List.getElem?_of_mem
def ZaQ:=@List.getElem?_set_self
def ZaR:=@PySem.W.mg_of
def ZaS:=@Nat.le_trans
def ZaT:=@PySem.mem_of_lookup
def ZaU:=@List.getElem?_range
def ZaV:=@List.pairwise_map
def ZaW:=@Nat.zero_le
def ZaX:=@List.append_nil
def ZaY:=@List.drop_eq_getElem_cons
def ZaZ:=@Array.getElem?_eq_getElem
def Za0:=@List.pairwise_iff_getElem
def Za1:=@List.map_append
def Za2:=@List.all_eq_true
def Za3:=@List.append_assoc
def Za4:=@List.contains_iff_mem
def Za5:=@List.getElem?_replicate
def Za6:=@PySem.F.plainAttrs_list
def Za7:=@PySem.W.mg_none_of
def Za8:=@List.pairwise_append
def Za9:=@Option.map_eq_some_iff
def Zba:=@congrArg
def Zbb:=@if_false
def Zbc:=@Option.map_some
def Zbd:=@Nat.not_lt_zero
def Zbe:=@PySem.PassesOwn.never
def Zbf:=@Nat.lt_of_le_of_lt
def Zbg:=@List.filterMap_cons_some
def Zbh:=@Int.emod_lt_of_pos
def Zbi:=@PySem.F.slot_list_append
def Zbj:=@List.filter_cons
def Zbk:=@List.mem_append_left
def Zbl:=@List.nodup_append
def Zbm:=@Ne.symm
def Zbn:=@PySem.Heap.SameBut.update
def Zbo:=@List.getElem_mem
def Zbp:=@Nat.lt_irrefl
def Zbq:=@List.length_replicate
def Zbr:=@List.length_filter_le
def Zbs:=@PySem.Around.under_plainId
def Zbt:=@Nat.lt_succ_of_lt
def Zbu:=@List.filterMap_cons_none
def Zbv:=@Int.emod_nonneg
def Zbw:=@List.map_congr_left
def Zbx:=@List.any_cons
def Zby:=@Bool.false_eq_true
def Zbz:=@List.find?_cons
def ZbA:=@Nat.lt_trans
def ZbB:=@PySem.F.called_set
def ZbC:=@List.ext_getElem?
def ZbD:=@Nat.eq_of_testBit_eq
def ZbE:=@if_true
def ZbF:=@List.getElem?_eq_none_iff
def ZbG:=@PySem.F.slot_tuple_getattribute
def ZbH:=@List.lookup_cons
def ZbI:=@List.mem_flatten
def ZbJ:=@List.filter_sublist
def ZbK:=@PySem.F.slot_list_getattribute
def ZbL:=@Option.isSome_some
def ZbM:=@PyProof.Rows.F.plain_set_update_loop
def ZbN:=@Array.Perm.refl
def ZbO:=@Nat.testBit_and
def ZbP:=@Int.eq_ofNat_of_zero_le
def ZbQ:=@List.drop_of_length_le
def ZbR:=@List.pairwise_lt_range
def ZbS:=@List.take_of_length_le
def ZbT:=@Nat.le_succ
def ZbU:=@List.getElem?_set
def ZbV:=@Nat.lt_trichotomy
def ZbW:=@PySem.Heap.size_push
def ZbX:=@List.drop_zero
def ZbY:=@Nat.ne_of_gt
def ZbZ:=@PySem.F.slot_dict_get
def Zb0:=@Bool.beq_eq_decide_eq
def Zb1:=@Array.getElem?_toList
def Zb2:=@List.length_take
def Zb3:=@Nat.lt_succ_self
def Zb4:=@List.any_eq_true
def Zb5:=@List.length_drop
def Zb6:=@Nat.pow_le_pow_right
def Zb7:=@List.countP_eq_length_filter
def Zb8:=@List.filterMap_cons
def Zb9:=@PyProof.Rows.callWith_type1
def Zca:=@Bool.eq_iff_iff
def Zcb:=@List.getElem_of_mem
def Zcc:=@Array.toList_append
def Zcd:=@Int.fdiv_eq_ediv_of_nonneg
def Zce:=@Array.perm_iff_toList_perm
def Zcf:=@Array.getElem?_eq_some_iff
def Zcg:=@Nat.mod_two_eq_zero_or_one
def Zch:=@Int.natCast_nonneg
def Zci:=@List.map_nil
def Zcj:=@Nat.sub_self
def Zck:=@Option.isSome_none
def Zcl:=@List.Nodup.sublist
def Zcm:=@List.extract_eq_take_drop
def Zcn:=@PySem.Value.isInt_shape
def Zco:=@Option.isSome_map
def Zcp:=@Option.some.injEq
def Zcq:=@Array.toList_push
def Zcr:=@List.flatten_cons
def Zcs:=@PySem.Paired.length
def Zct:=@Nat.le_of_not_lt
def Zcu:=@List.drop_length
def Zcv:=@List.perm_middle
def Zcw:=@List.of_mem_zip
def Zcx:=@Nat.lt_or_ge
def Zcy:=@List.range_succ
def Zcz:=@Nat.le_of_eq
def ZcA:=@Option.map_none
def ZcB:=@List.map_map
def ZcC:=@Nat.and_self
def ZcD:=@Nat.testBit_xor
def ZcE:=@List.nodup_nil
set_option compiler.extract_closed false
set_option bootstrap.genMatcherCode false
set_option genSizeOf false
local macro_rules|`(tactic| omega)=>`(tactic| first|(grind only)|omega (config:={}))
local macro_rules|`(tactic| lia)=>`(tactic| first|lia -verbose|omega (config:={}))
namespace L2
open PySem PySem.Spec PyProof.Rows
noncomputable abbrev Key:=Sum Int Str
def sS:Key->Value->Bool
 |.inl k,v=>Value.isInt k v
 |.inr x,v=>Value.isStrOf x v
def Nq(w:World):Key->Int
 |.inl k=>hashInt k
 |.inr x=>hashStr w x
theorem bQ:∀ {k:Key}{v:Value},sS k v=true->(∃ i t,k=Sum.inl i/\v=Value.int i t)\/(∃ x t,k=Sum.inr x/\v=Value.str x t)
 |.inl i,v,h=>by
  obtain⟨t,e⟩:=Zcn (k:=i) (v:=v) h;exact .inl ⟨i,t,rfl,e⟩
 |.inr x,v,h=>by
  obtain⟨t,e⟩:=Value.isStrOf_shape (x:=x) (v:=v) h;exact .inr ⟨x,t,rfl,e⟩
theorem Aw(i:Int)(t:Tok):sS (.inl i) (.int i t)=true:=by simp[sS,Value.isInt]
theorem Ax(x:Str)(t:Tok):sS (.inr x) (.str x t)=true:=by simp[sS,Value.isStrOf]
theorem J1(a b:Int):decide ((Sum.inl a:Key)=Sum.inl b)=(a==b):=by
 by_cases e:a=b
 ·subst e;simp
 ·have h:¬(Sum.inl a:Key)=Sum.inl b:=λq=>e (Sum.inl.inj q);rw[decide_eq_false h];exact(beq_eq_false_iff_ne.mpr e).symm
theorem J2(a b:Str):decide ((Sum.inr a:Key)=Sum.inr b)=decide (a=b):=by
 by_cases e:a=b
 ·subst e;simp
 ·have h:¬(Sum.inr a:Key)=Sum.inr b:=λq=>e (Sum.inr.inj q);rw[decide_eq_false h,decide_eq_false e]
theorem J3(a:Int)(b:Str):decide ((Sum.inl a:Key)=Sum.inr b)=false:=decide_eq_false (λq=>nomatch q)
theorem J4(a:Str)(b:Int):decide ((Sum.inr a:Key)=Sum.inl b)=false:=decide_eq_false (λq=>nomatch q)
def bu(prog:Program)(w:World):PySem.KeyKind prog w Key where
 is:=sS
 hash:=Nq w
 inj:=λv a b ha hb=>by
  rcases bQ ha with⟨i,t,rfl,rfl⟩|⟨x,t,rfl,rfl⟩
  ·rcases bQ hb with⟨j,u,rfl,e⟩|⟨y,u,rfl,e⟩
   ·injection e with e1 _;rw[e1]
   ·exact nomatch e
  ·rcases bQ hb with⟨j,u,rfl,e⟩|⟨y,u,rfl,e⟩
   ·exact nomatch e
   ·injection e with e1 _;rw[e1]
 byValue:=λk v h=>by
  rcases bQ h with⟨i,t,rfl,rfl⟩|⟨x,t,rfl,rfl⟩<;>rfl
 pyHash:=λhv h=>by
  rcases bQ hv with⟨i,t,rfl,rfl⟩|⟨x,t,rfl,rfl⟩
  ·exact wpAny_pyHash_int h
  ·exact wpAny_pyHash_str h
 eqBool:=λhu hv h=>by
  rcases bQ hu with⟨i,t,rfl,rfl⟩|⟨x,t,rfl,rfl⟩
  ·rcases bQ hv with⟨j,u,rfl,rfl⟩|⟨y,u,rfl,rfl⟩
   ·rw[J1] at h;exact wpAny_eqBool_int h
   ·rw[J3] at h;exact SeqAt.EqAt.int_str i t y u _ _ _ _ h
  ·rcases bQ hv with⟨j,u,rfl,rfl⟩|⟨y,u,rfl,rfl⟩
   ·rw[J4] at h;exact SeqAt.EqAt.str_int x t j u _ _ _ _ h
   ·rw[J2] at h;exact wpAny_eqBool_str h
 «strs»:=λk x t v h=>by
  rcases bQ h with⟨i,u,rfl,e⟩|⟨y,u,rfl,e⟩
  ·exact nomatch e
  ·injection e with e1 _
   subst e1;cases v<;>rfl
theorem vK(prog:Program)(w:World)(i:Int)(t:Tok):(bu prog w).is (.inl i) (.int i t)=true:=Aw i t
theorem vL(prog:Program)(w:World)(x:Str)(t:Tok):(bu prog w).is (.inr x) (.str x t)=true:=Ax x t
inductive V where
 |non|bl (b:Bool)|int (i:Int)|str (x:Str)|byt (b:Array UInt8)|flt (b:UInt64)|ref (a:Addr)|ty (n:String)
 deriving DecidableEq
def RelV:V->Value->Prop
 |.non,u=>u=Value.none
 |.bl b,u=>u=Value.bool b
 |.int i,u=>∃ t,u=Value.int i t
 |.str x,u=>∃ t,u=Value.str x t
 |.byt b,u=>∃ t,u=Value.bytes b t
 |.flt b,u=>∃ t,u=Value.float b t
 |.ref a,u=>u=Value.ref a
 |.ty n,u=>u=Value.type n
noncomputable abbrev Vals:List V->List Value->Prop:=Paired RelV
theorem Vals.length{xs:List V}{us:List Value}(r:Vals xs us):xs.length=us.length:=Zcs r
theorem Vals.get:∀ {xs:List V}{us:List Value}{i:Nat}{x:V},Vals xs us->xs[i]?=some x->∃ u,us[i]?=some u/\RelV x u
 |_,_,_,_,.nil,e=>by simp at e
 |_,_,0,_,.cons r _,e=>by simp at e;subst e;exact⟨_,rfl,r⟩
 |_,_,i+1,x,.cons _ t,e=>by
  obtain⟨u,h1,h2⟩:=Vals.get (i:=i) (x:=x) t (by simpa using e)
  exact⟨u,by simpa using h1,h2⟩
theorem Vals.append:∀ {xs ys:List V}{us ws:List Value},Vals xs us->Vals ys ws->Vals (xs++ys) (us++ws)
 |_,_,_,_,.nil,s=>s
 |_,_,_,_,.cons r t,s=>.cons r (Vals.append t s)
theorem Vals.take:∀ {xs:List V}{us:List Value} (n:Nat),Vals xs us->Vals (xs.take n) (us.take n)
 |_,_,0,_=>.nil
 |_,_,_+1,.nil=>.nil
 |_,_,n+1,.cons r t=>.cons r (Vals.take n t)
theorem Vals.drop:∀ {xs:List V}{us:List Value} (n:Nat),Vals xs us->Vals (xs.drop n) (us.drop n)
 |_,_,0,r=>r
 |_,_,_+1,.nil=>.nil
 |_,_,n+1,.cons _ t=>Vals.drop n t
theorem Vals.none_of:∀ {xs:List V}{us:List Value}{i:Nat},Vals xs us->xs[i]?=none->us[i]?=none:=λ{xs us i} r e=>by
 have h1:=r.length;have h2:xs.length<=i:=ZbF.mp e;exact ZbF.mpr (by omega)
def nW:Option V->Option Value->Prop
 |some v,some u=>RelV v u
 |none,none=>True
 |_,_=>False
def KV{κ:Type}:List (κ×V)->List (κ×Value)->Prop:=Paired λ(p:κ×V) (q:κ×Value)=>p.1=q.1/\RelV p.2 q.2
def kV:Key->V
 |.inl i=>.int i
 |.inr x=>.str x
inductive HO where
 |lst (xs:List V)
 |tup (xs:List V)
 |dK (kvs:List (Key×V))|dT (kvs:List (List Key×V))
 |set (S:Int->Bool) (n:Nat)
 |ins (C dx:Addr) (fs:List (Str×V))
 |own (x:Addr)
 |xd (fs:List (Str×V))
 |met (f x:Addr)
 |rng (lo hi:Int)
 |frz (o:Obj) (u:HO)
 |tbl (ps:Array Value)
 |ext (φ:Heap->Prop)
 |tab (pos:Pos) (q:Str)
noncomputable abbrev Hp:=Addr->Option HO
def upd(H:Hp)(a:Addr)(o:HO):Hp:=λb=>if b=a then some o else H b
theorem aq{H:Hp}{a:Addr}{o:HO}:upd H a o a=some o:=by unfold upd;rw[Zat rfl]
theorem ao{H:Hp}{a b:Addr}{o:HO}(h:b≠a):upd H a o b=H b:=by unfold upd;rw[Zax h]
theorem Jj{H:Hp}{a b:Addr}{o u:HO}(h:H a=some o)(h':H b=some u)(d:o≠u):a≠b:=by
 intro e;subst e;rw[h] at h';exact d (Zac h')
theorem aO{H:Hp}{a b:Addr}{o:HO}(h:H a=some o)(h':H b=none):a≠b:=by
 intro e;subst e;rw[h] at h';cases h'
def fj(h:Heap)(a:Addr)(items:Array Value):Prop:=IsTup h a items/\∀ o,h.get? a=some o->o.dict=none
theorem fj.new(h:Heap)(items:Array Value):fj (h.push { cls:=.type "tuple",data:=.seq items }) h.objs.size items:=⟨IsTup.new h items,λo e=>by rw[Zar _ rfl] at e;cases e;rfl⟩
theorem fj.mk{h:Heap}{a:Addr}{items:Array Value}{n:Nat}(e:h.get? a=some { cls:=.type "tuple",data:=.seq items n }):fj h a items:=⟨⟨_,e,rfl,_,rfl⟩,λo q=>by rw[e] at q;cases q;rfl⟩
theorem fj.lt{h:Heap}{a:Addr}{items:Array Value}(x:fj h a items):a<h.objs.size:=x.1.lt
theorem fj.at'{h h':Heap}{a:Addr}{items:Array Value}(x:fj h a items)(e:∀ o,h.get? a=some o->h'.get? a=some o):fj h' a items:=by
 obtain⟨⟨o,h1,r⟩,d⟩:=x;exact⟨⟨o,e o h1,r⟩,λu q=>by rw[e o h1] at q;cases q;exact d o h1⟩
section
variable(P:Program)(w:World)
def bR(H:Hp)(h:Heap)(a:Addr):HO->Prop
 |.lst xs=>xs.length<=sizeLine/\∃ (its:List Value) (n:Nat),Vals xs its/\h.get? a=some { cls:=.type "list",data:=.seq its.toArray n }
 |.tup xs=>xs.length<=sizeLine/\∃ its:List Value,Vals xs its/\fj h a its.toArray
 |.dK kvs=>kvs.length<=sizeLine/\(a==sysModules)=false/\∃ vs,KV kvs vs/\h.DictOf (bu P w) a vs
 |.dT kvs=>kvs.length<=sizeLine/\(a==sysModules)=false/\∃ xs:List (List Key×Addr×Value),
   Paired (λ(p:List Key×V) (q:List Key×Addr×Value)=>p.1=q.1/\H q.2.1=some (.tup (p.1.map kV))/\RelV p.2 q.2.2) kvs xs /\
   ∃ o es ep,h.get? a=some o/\o.ExactDict/\o.data=.dict es ep/\es.toList=xs.map (entryOfKey (tupleKind (bu P w)))/\(xs.map (·.1)).Nodup
 |.set S n=>h.SetOf (intKind P w) a S n
 |.ins C dx fs=>H dx=some (.own a)/\fs.length<=1000/\dx≠a/\h.get? a=some (PySem.W.instObj C dx) /\
   ∃ mA,h.Ns1 dx mA/\(∀ f,nW (fs.lookup f) (mA f))/\PySem.Within mA (fs.map (·.1))
 |.own _=>∃ o,h.get? a=some o
 |.xd fs=>∃ mA,h.Ns1 a mA/\∀ f,nW (fs.lookup f) (mA f)
 |.rng lo hi=>∃ t u v,h.get? a=some { cls:=.type "range",data:=.fields #[.int lo t,.int hi u,.int 1 v] }
 |.frz o u=>h.get? a=some o/\bR H h a u
 |.tbl ps=>h.get? a=some { cls:=.none,data:=.fields ps }
 |.met f x=>h.get? a=some (PySem.W.methodObj (.ref f) (.ref x))
 |.ext φ=>φ h/\(∃ o,h.get? a=some o)/\∀ h1 h2:Heap,φ h1->(∀ o,h1.get? a=some o->h2.get? a=some o)->φ h2
 |.tab pos q=>∃ ps:Array Value,h.get? a=some { cls:=.none,data:=.fields ps }/\TriplesOk ps.toList/\(codeAmong pos ps.toList=none\/∃ (c:Addr) (oc:Obj) (vs:Array Value) (t:Tok),codeAmong pos ps.toList=some (.ref c)/\H c=some (.frz oc (.own 0))/\oc.data=.fields vs/\vs[1]?=some (.str q t))
def HOk(H:Hp)(h:Heap):Prop:=∀ a o,H a=some o->bR P w H h a o
end
section
variable{P:Program}{w:World}{H H':Hp}{h h':Heap}{a:Addr}{o:HO}
theorem bR.lt(x:bR P w H h a o):a<h.objs.size:=by
 cases o with
 |lst xs=>obtain⟨_,_,_,_,e⟩:=x;exact Zas e
 |tup xs=>obtain⟨_,_,_,p⟩:=x;exact p.lt
 |dK kvs=>obtain⟨_,_,_,_,o,_,_,e,_⟩:=x;exact Zas e
 |dT kvs=>obtain⟨_,_,_,_,o,_,_,e,_⟩:=x;exact Zas e
 |set S n=>obtain⟨o,_,_,_,e,_⟩:=x;exact Zas e
 |ins C dx fs=>obtain⟨_,_,_,e,_⟩:=x;exact Zas e
 |own y=>obtain⟨_,e⟩:=x;exact Zas e
 |xd fs=>obtain⟨_,⟨_,_,_,e,_⟩,_⟩:=x;exact Zas e
 |rng lo hi=>obtain⟨_,_,_,e⟩:=x;exact Zas e
 |frz ob u=>obtain⟨e,_⟩:=x;exact Zas e
 |tbl ps=>exact Zas (show h.get? a=some _ from x)
 |met f y=>exact Zas (show h.get? a=some _ from x)
 |ext φ=>obtain⟨_,⟨_,e⟩,_⟩:=x;exact Zas e
 |tab pos q=>obtain⟨_,e,_⟩:=x;exact Zas e
theorem Paired.J5{α β:Type}{F G:α->β->Prop}:∀ {l₁:List α}{l₂:List β},Paired F l₁ l₂->(∀ a b,F a b->G a b)->Paired G l₁ l₂
 |_,_,.nil,_=>.nil
 |_,_,.cons r t,f=>.cons (f _ _ r) (Paired.J5 t f)
theorem bR.stay(x:bR P w H h a o)(k:∀ b u,(b=a\/H b=some (.own a))->h.get? b=some u->h'.get? b=some u)
  (ho:∀ b,H b=some (.own a)->H' b=some (.own a))(ht:∀ b xs,H b=some (.tup xs)->H' b=some (.tup xs))(hf:∀ b ob,H b=some (.frz ob (.own 0))->H' b=some (.frz ob (.own 0)):=by first|exact λ_ _ q=>q|(intro c ob q;first|(rw[ao (aO q (by assumption))];exact q))):bR P w H' h' a o:=by
 induction o with
 |lst xs=>obtain⟨z,its,n,r,e⟩:=x;exact⟨z,its,n,r,k _ _ (.inl rfl) e⟩
 |tup xs=>obtain⟨z,its,r,c⟩:=x;exact⟨z,its,r,c.at' λo e=>k _ _ (.inl rfl) e⟩
 |dK kvs=>obtain⟨z,y,vs,r,ob,es,ep,e,c⟩:=x;exact⟨z,y,vs,r,ob,es,ep,k _ _ (.inl rfl) e,c⟩
 |dT kvs=>
  obtain⟨z,y,xs,r,ob,es,ep,e,c⟩:=x;exact⟨z,y,xs,Paired.J5 r λp q z=>⟨z.1,ht _ _ z.2.1,z.2.2⟩,ob,es,ep,k _ _ (.inl rfl) e,c⟩
 |set S n=>obtain⟨ob,es,ep,t,e,c⟩:=x;exact⟨ob,es,ep,t,k _ _ (.inl rfl) e,c⟩
 |ins C dx fs=>
  obtain⟨d,z,ne,e,mA,⟨od,es,ep,e2,c⟩,r⟩:=x;exact⟨ho _ d,z,ne,k _ _ (.inl rfl) e,mA,⟨od,es,ep,k _ _ (.inr d) e2,c⟩,r⟩
 |own y=>obtain⟨ob,e⟩:=x;exact⟨ob,k _ _ (.inl rfl) e⟩
 |xd fs=>obtain⟨mA,⟨od,es,ep,e,c⟩,r⟩:=x;exact⟨mA,⟨od,es,ep,k _ _ (.inl rfl) e,c⟩,r⟩
 |rng lo hi=>obtain⟨t,u,v,e⟩:=x;exact⟨t,u,v,k _ _ (.inl rfl) e⟩
 |frz ob u ih=>obtain⟨e,q⟩:=x;exact⟨k _ _ (.inl rfl) e,ih q⟩
 |tbl ps=>
  have e:h.get? a=some { cls:=.none,data:=.fields ps }:=x;show h'.get? a=some { cls:=.none,data:=.fields ps }
  exact k a _ (.inl rfl) e
 |met f y=>
  have e:h.get? a=some (PySem.W.methodObj (.ref f) (.ref y)):=x;show h'.get? a=some (PySem.W.methodObj (.ref f) (.ref y))
  exact k a _ (.inl rfl) e
 |ext φ=>obtain⟨p,⟨o,e⟩,st⟩:=x;exact⟨st _ _ p λo q=>k _ _ (.inl rfl) q,⟨o,k _ _ (.inl rfl) e⟩,st⟩
 |tab pos q=>obtain⟨ps,e,tr,z⟩:=x;exact⟨ps,k _ _ (.inl rfl) e,tr,z.imp id λ⟨c,oc,vs,t,z1,z2,z3⟩=>⟨c,oc,vs,t,z1,hf _ _ z2,z3⟩⟩
theorem HOk.lt(x:HOk P w H h)(e:H a=some o):a<h.objs.size:=(x a o e).lt
theorem HOk.fresh(x:HOk P w H h)(e:h.objs.size<=a):H a=none:=by
 cases q:H a with
 |none=>rfl
 |some u=>exact absurd (Zau (x.lt q) e) (Zbp _)
theorem HOk.kept(x:HOk P w H h)(k:∀ b u,h.get? b=some u->h'.get? b=some u):HOk P w H h':=λa o e=>
 (x a o e).stay (λb u _ q=>k b u q) (λ_ q=>q) λ_ _ q=>q
theorem HOk.laid(x:HOk P w H h)(k:∀ b u,h.get? b=some u->h'.get? b=some u)(hp:h.objs.size<=a)(new:bR P w (upd H a o) h' a o):HOk P w (upd H a o) h':=λb u e=>by
 have hn:=x.fresh hp;by_cases hb:b=a
 ·subst hb;rw[aq] at e;cases e;exact new
 ·rw[ao hb] at e;exact(x b u e).stay (λc v _ q=>k c v q) (λc q=>by rw[ao (aO q hn)];exact q) λc xs q=>by rw[ao (aO q hn)];exact q
end
def Rd(H:Hp)(a:Addr)(u:HO):Prop:=H a=some u\/∃ o,H a=some (.frz o u)
theorem Rd.ok{P:Program}{w:World}{H:Hp}{h:Heap}{a:Addr}{u:HO}(r:Rd H a u)(x:HOk P w H h):bR P w H h a u:=by
 rcases r with r|⟨o,r⟩
 ·exact x a u r
 ·obtain⟨_,q⟩:=x a _ r;exact q
def Mut:Option HO->Prop
 |some (.lst _)=>True
 |some (.dK _)=>True
 |some (.dT _)=>True
 |some (.set _ _)=>True
 |some (.ins _ _ _)=>True
 |some (.ext _)=>True
 |some (.tab _ _)=>True
 |_=>False
section
variable{P:Program}{w:World}{H:Hp}{h h':Heap}{x e:Addr}{o':HO}
theorem HOk.write(ok:HOk P w H h)(mu:Mut (H x))(he:e=x\/H e=some (.own x))(k:∀ b u,b≠e->h.get? b=some u->h'.get? b=some u)(heo:∃ u,h'.get? e=some u)
  (new:bR P w (upd H x o') h' x o'):HOk P w (upd H x o') h':=λb u q=>by
 have nown:∀ c y,H c=some (.own y)->c≠x:=λc y r z=>by subst z;rw[r] at mu;exact mu
 have ntup:∀ c xs,H c=some (.tup xs)->c≠x:=λc xs r z=>by subst z;rw[r] at mu;exact mu
 by_cases hb:b=x
 ·subst hb;rw[aq] at q;cases q;exact new
 ·rw[ao hb] at q;by_cases hbe:b=e
  ·have q':H b=some (.own x):=by
    rcases he with z|z
    ·exact absurd (hbe.trans z) hb
    ·rw[hbe];exact z
   rw[q] at q';cases q';obtain⟨v,hv⟩:=heo;exact⟨v,by rw[hbe];exact hv⟩
  ·refine(ok b u q).stay (λc v hc r=>k c v ?_ r) (λc r=>by rw[ao (nown c b r)];exact r) (λc xs r=>by rw[ao (ntup c xs r)];exact r) (λc ob r=>by rw[ao (λz=>by subst z;rw[r] at mu;exact mu)];exact r)
   rcases hc with rfl|hc
   ·exact hbe
   ·rintro rfl;rcases he with z|z
    ·exact nown c b hc z
    ·rw[hc] at z;cases z;exact hb rfl
end
structure Un(fs ex:List Addr)(H H':Hp)(h h':Heap):Prop where
 keep:∀ b o,h.get? b=some o->H b=none->b ∉ fs->b ∉ ex->h'.get? b=some o
 slot:∀ b o,h.get? b=some o->H b=none->b∈fs->b ∉ ex->∃ sl,h'.get? b=some { o with slots:=sl }
 free:∀ b o,h.get? b=some o->H b=none->b ∉ ex->H' b=none
 there:∀ b o,h.get? b=some o->b ∉ ex->∃ o',h'.get? b=some o'
 tups:∀ b xs,H b=some (.tup xs)->H' b=some (.tup xs)
 frzs:∀ b o u,H b=some (.frz o u)->H' b=some (.frz o u)
 tbls:∀ b ps,H b=some (.tbl ps)->∃ more,H' b=some (.tbl (ps++more))
section
variable{fs ex:List Addr}{H H1:Hp}{h h1 h':Heap}{a x e:Addr}{o:HO}
theorem Un.any(u:Un fs ex H H1 h h1){b:Addr}{ob:Obj}(q:h.get? b=some ob)(n:H b=none)(hx:b ∉ ex):∃ sl,h1.get? b=some { ob with slots:=sl }:=by
 by_cases hb:b∈fs
 ·exact u.slot b ob q n hb hx
 ·exact⟨ob.slots,u.keep b ob q n hb hx⟩
theorem Un.kept(k:∀ b u,h.get? b=some u->h'.get? b=some u):Un fs ex H H h h':=
 ⟨λb ob q _ _ _=>k b ob q,λb ob q _ _ _=>⟨ob.slots,k b ob q⟩,λ_ _ _ n _=>n,λb ob q _=>⟨ob,k b ob q⟩,λ_ _ q=>q,λ_ _ _ q=>q,λ_ ps q=>⟨#[],by rw[q];simp⟩⟩
theorem Un.refl:Un fs ex H H h h:=Un.kept λ_ _ q=>q
theorem Un.laid(k:∀ b u,h.get? b=some u->h'.get? b=some u)(hp:h.objs.size<=a)(hn:H a=none):Un fs ex H (upd H a o) h h' where
 keep:=λb u q _ _ _=>k b u q
 slot:=λb u q _ _ _=>⟨u.slots,k b u q⟩
 free:=λb u q n _=>by rw[ao (ZaB (Zau (Zas q) hp))];exact n
 there:=λb u q _=>⟨u,k b u q⟩
 tups:=λb xs q=>by rw[ao (aO q hn)];exact q
 frzs:=λb u xs q=>by rw[ao (aO q hn)];exact q
 tbls:=λb ps q=>⟨#[],by rw[ao (aO q hn),q];simp⟩
theorem Un.write(mu:Mut (H x))(he:e=x\/H e=some (.own x))(k:∀ b u,b≠e->h.get? b=some u->h'.get? b=some u)(heo:∃ u,h'.get? e=some u):Un fs ex H (upd H x o) h h':=by
 have hx:∀ b,H b=none->b≠x:=λb n z=>by subst z;rw[n] at mu;exact mu
 have hb:∀ b,H b=none->b≠e:=λb n z=>by
  subst z;rcases he with r|r
  ·exact hx b n r
  ·rw[n] at r;cases r
 have hm:∀ b u,H b=some u->¬Mut (some u)->b≠x:=λb u q nm z=>by subst z;rw[q] at mu;exact nm mu
 refine⟨λb u q n _ _=>k b u (hb b n) q,λb u q n _ _=>⟨u.slots,k b u (hb b n) q⟩,λb u q n _=>by rw[ao (hx b n)];exact n,λb u q _=>?_,
  λb xs q=>by rw[ao (hm b _ q λz=>z)];exact q,λb u xs q=>by rw[ao (hm b _ q λz=>z)];exact q,λb ps q=>⟨#[],by rw[ao (hm b _ q λz=>z),q];simp⟩⟩
 by_cases hbe:b=e
 ·subst hbe;exact heo
 ·exact⟨u,k b u hbe q⟩
end
def trk(h:Heap)(H:Hp):List Addr:=(List.range h.objs.size).filter λa=>(H a).isSome
def pq(h:Heap)(H:Hp):Heap:=PySem.W.hideAll h (trk h H)
theorem Ay(h:Heap)(H:Hp):(pq h H).objs.size=h.objs.size:=PySem.W.hideAll_size _ _
theorem qb{h:Heap}{H:Hp}{b:Addr}{o:Obj}(e:h.get? b=some o)(n:H b=none):(pq h H).get? b=some o:=
 PySem.W.hideAll_get _ e λhm=>by
  have q:(H b).isSome=true:=(ZaL.mp hm).2;rw[n] at q;simp at q
theorem Gr{h:Heap}{H:Hp}{b:Addr}{o:Obj}(e:(pq h H).get? b=some o):h.get? b=some o/\H b=none:=by
 have e':h.get? b=some o:=PySem.W.of_hideAll (trk h H) e;refine⟨e',?_⟩;cases q:H b with
 |none=>rfl
 |some x=>
  have hm:b∈trk h H:=ZaL.mpr ⟨ZaI.mpr (Zas e'),by simp[q]⟩
  have z:(pq h H).get? b=none:=PySem.W.hideAll_none (trk h H) hm;rw[z] at e;cases e
def Gs(g h:Heap)(L:Addr):List (Addr×Obj):=(List.range h.objs.size).filterMap λa=>if a=L\/(g.get? a).isSome=true then none else(h.get? a).map λo=>(a,o)
def rest(g h:Heap)(L d:Addr):List (Addr×Obj):=(Gs g h L).filter λp=>decide (p.1≠d)
structure Mod(K:Frag)(mg:Str->Option Value)(base:Heap):Prop where
 kin:K.In base
 glob:base.Ns mainGlobals mg
 blt:∃ mb,base.Ns builtinsNs mb/\∀ x:Str,x≠"__name__"->mb x=bootBuiltins x
 nolimit:base.NoLimit
structure Cx where
 prog:Program
 w:World
 K:Frag
 mg:Str->Option Value
 base:Heap
 A:Around
 N:List Str
 s₀:Shared
 H₀:Hp
 env:Env
 outer:List Env
 stack:List Env
 ex:List Addr
 fn:Str->Bool
 calm:Bool
 pn:List (Addr×Obj)
 xe:Value->Shared->Prop
def frs(l:List Env):List Addr:=l.filterMap (·.frame)
noncomputable abbrev Cx.fs(X:Cx):List Addr:=frs X.outer
def Vis(sc:Scope)(x:Str):Prop:=sc.names.lookup x=some .local\/sc.names.lookup x=some .cell\/sc.names.lookup x=some .free
def Loc(sc:Scope)(x:Str):Prop:=sc.names.lookup x=some .local\/sc.names.lookup x=some .cell
def Look(env:Env)(h:Heap)(m:Str->Option Value)(x:Str)(u:Value):Prop:=
 (env.kindOf x=some .local/\m x=some u)\/((env.kindOf x=some .cell\/env.kindOf x=some .free)/\∃ c,env.cells.lookup x=some c/\h.IsCell c (some u))
structure Cx.Ok(X:Cx):Prop where
 mod:Mod X.K X.mg X.base
 kind:X.env.scope.kind=.function
 glob:X.env.globals=mainGlobals
 blt:X.env.builtins=builtinsNs
 above:X.s₀.heap.objs.size<=X.env.locals
 inj:∀ x y c,X.env.cells.lookup x=some c->X.env.cells.lookup y=some c->x=y
 has:∀ x,(X.env.kindOf x=some .cell\/X.env.kindOf x=some .free)->∃ c,X.env.cells.lookup x=some c
 cab:∀ x c,X.fn x=true->X.env.cells.lookup x=some c->X.s₀.heap.objs.size<=c
 hd:X.calm=true->X.A.handled=none
 frames:X.A.frames=some X.stack
 stk:X.stack=X.outer\/(X.stack=X.env::X.outer/\X.env.frame=some X.env.locals)
 exf:∀ b∈X.ex,b≠X.env.locals/\∀ x c,X.env.cells.lookup x=some c->c≠b
 bs:∀ b o,X.base.get? b=some o->X.s₀.heap.get? b=some o/\X.H₀ b=none
 bsz:X.base.objs.size<=X.s₀.heap.objs.size
 noex:∀ b o,X.base.get? b=some o->b ∉ X.ex
 exfs:∀ b∈X.ex,b ∉ X.fs
 lJ:X.s₀.heap.FunFrames X.base X.outer
 frf:∀ b∈X.fs,X.H₀ b=none
structure Inv(X:Cx)(pins:List (Addr×Obj))(O:List (Option V))(H:Hp)(s:Shared):Prop where
 ok:X.Ok
 os:s.os=X.s₀.os
 bare:AllBare s.gens
 base:Un X.fs X.ex X.H₀ H X.s₀.heap s.heap
 loc:∃ m,s.heap.Ns X.env.locals m/\∀ (i:Nat) (x:Str) (v:V),X.N[i]?=some x->O[i]?=some (some v)->Vis X.env.scope x->∃ u,RelV v u/\Look X.env s.heap m x u
 cell:∀ x c,X.env.cells.lookup x=some c->∃ v,s.heap.IsCell c v
 free:H X.env.locals=none
 freeC:∀ x c,X.env.cells.lookup x=some c->H c=none
 pin:∀ p∈X.pn++pins,s.heap.get? p.1=some p.2/\H p.1=none/\p.1≠X.env.locals/\p.1 ∉ X.fs/\∀ v,p.2.data≠.cell v
 hok:HOk X.prog X.w H s.heap
 len:O.length=X.N.length
section
variable{X:Cx}{pins:List (Addr×Obj)}{O:List (Option V)}{H H':Hp}{s:Shared}{h':Heap}
theorem Cx.Ok.Nr(ok:X.Ok){b:Addr}{o:Obj}(e:X.base.get? b=some o):b ∉ X.fs:=λhb=>by
 have:=(ok.lJ.mem hb).1;rw[e] at this;cases this
theorem Inv.bs(I:Inv X pins O H s):∀ b o,X.base.get? b=some o->s.heap.get? b=some o/\H b=none:=λb o e=>
 ⟨I.base.keep b o (I.ok.bs b o e).1 (I.ok.bs b o e).2 (I.ok.Nr e) (I.ok.noex b o e),I.base.free b o (I.ok.bs b o e).1 (I.ok.bs b o e).2 (I.ok.noex b o e)⟩
theorem Inv.bk(I:Inv X pins O H s):∀ b o,X.base.get? b=some o->s.heap.get? b=some o:=λb o e=>(I.bs b o e).1
theorem Inv.mod(I:Inv X pins O H s):Mod X.K X.mg X.base:=I.ok.mod
theorem Inv.kIn(I:Inv X pins O H s):X.K.In s.heap:=I.ok.mod.kin.keeps I.bk
theorem Inv.nolimit(I:Inv X pins O H s):s.heap.NoLimit:=I.ok.mod.nolimit.keeps I.bk
theorem Inv.lt(I:Inv X pins O H s):X.env.locals<s.heap.objs.size:=let⟨_,hn,_⟩:=I.loc;hn.lt
theorem Inv.sz(I:Inv X pins O H s):X.s₀.heap.objs.size<=s.heap.objs.size:=ZaS I.ok.above (ZaA I.lt)
theorem Inv.Nt(I:Inv X pins O H s){a:Addr}(h:s.heap.objs.size<=a):a ∉ X.fs:=λhb=>by
 obtain⟨_,o,ho,_⟩:=I.ok.lJ.mem hb;exact absurd (Zau (Zas ho) (ZaS I.sz h)) (Zbp _)
theorem Inv.cne(I:Inv X pins O H s):∀ x c,X.env.cells.lookup x=some c->c≠X.env.locals:=λx c e z=>by
 obtain⟨v,o,ho,hd⟩:=I.cell x c e;obtain⟨m,⟨o',es,ep,ho',hd',_⟩,_⟩:=I.loc;rw[z,ho'] at ho;cases ho;rw[hd'] at hd;cases hd
theorem Inv.lJ(I:Inv X pins O H s):s.heap.FunFrames X.base X.outer:=by
 have all:∀ (l:List Env),(∀ b∈frs l,b∈X.fs)->X.s₀.heap.FunFrames X.base l->s.heap.FunFrames X.base l:=by
  intro l;induction l with
  |nil=>intro _ _;trivial
  |cons env r ih=>
   intro hs hl;obtain⟨hk,⟨L,o,hf,hn,ho,hd⟩,hr⟩:=hl;have hL:L∈X.fs:=hs L (by unfold frs;rw[Zb8,hf];exact Zaj)
   obtain⟨sl,e⟩:=I.base.slot L o ho (I.ok.frf L hL) hL λz=>I.ok.exfs L z hL;exact⟨hk,⟨L,_,hf,hn,e,hd⟩,ih (λb hb=>hs b (by unfold frs;rw[Zb8,hf];exact Zak _ hb)) hr⟩
 exact all X.outer (λ_ hb=>hb) I.ok.lJ
theorem Inv.stack(I:Inv X pins O H s):s.heap.FunFrames X.base X.stack:=by
 rcases I.ok.stk with e|⟨e,hf⟩
 ·rw[e];exact I.lJ
 ·rw[e];obtain⟨m,hn,_⟩:=I.loc;refine .cons (by rw[I.ok.kind];decide) hf hn ?_ I.lJ
  exact Heap.get?_none_of_le (ZaS I.ok.bsz I.ok.above)
theorem Inv.xZ(I:Inv X pins O H s):∀ b∈frs X.stack,b∈X.env.locals::X.fs:=λb hb=>by
 rcases I.ok.stk with e|⟨e,hf⟩
 ·rw[e] at hb;exact Zak _ hb
 ·rw[e] at hb;unfold frs at hb;rw[Zb8,hf] at hb;exact hb
theorem Inv.zx(I:Inv X pins O H s):∀ b∈frs X.stack,H b=none:=λb hb=>by
 rcases Zaq.mp (I.xZ b hb) with e|hb
 ·rw[e];exact I.free
 ·obtain⟨_,o,ho,_⟩:=I.ok.lJ.mem hb;exact I.base.free b o ho (I.ok.frf b hb) λz=>I.ok.exfs b z hb
theorem Inv.step{g':Array GenState}{t':Nat}{d':Drawn}{ch:List Addr}(I:Inv X pins O H s)
  (hch:∀ b∈ch,(b∈X.ex\/X.s₀.heap.objs.size<=b)/\b≠X.env.locals/\(∀ x c,X.env.cells.lookup x=some c->c≠b)/\∀ p∈X.pn++pins,p.1≠b)
  (keep:∀ b o,b≠X.env.locals->b ∉ X.fs->b ∉ ch->s.heap.get? b=some o->H b=none->h'.get? b=some o)
  (slot:∀ b o,b≠X.env.locals->b∈X.fs->b ∉ ch->s.heap.get? b=some o->H b=none->∃ sl,h'.get? b=some { o with slots:=sl })(free:∀ b o,b ∉ ch->s.heap.get? b=some o->H b=none->H' b=none)
  (there:∀ b o,b ∉ ch->s.heap.get? b=some o->∃ o',h'.get? b=some o')
  (tups:∀ b xs,H b=some (.tup xs)->H' b=some (.tup xs))(frzs:∀ b o u,H b=some (.frz o u)->H' b=some (.frz o u))(tbls:∀ b ps,H b=some (.tbl ps)->∃ more,H' b=some (.tbl (ps++more)))
  (ns:∀ m,s.heap.Ns X.env.locals m->h'.Ns X.env.locals m)(hok:HOk X.prog X.w H' h')(hg:AllBare g') :
  Inv X pins O H' { s with heap:=h',gens:=g',drawn:=d',toks:=t' }:=by
 have neL:∀ b o,X.s₀.heap.get? b=some o->b≠X.env.locals:=λb o e=>ZaB (Zau (Zas e) I.ok.above);have neC:∀ b o,X.s₀.heap.get? b=some o->b ∉ X.ex->b ∉ ch:=λb o e hx hb=>by
  rcases(hch b hb).1 with z|z
  ·exact hx z
  ·exact absurd (Zau (Zas e) z) (Zbp _)
 have cellK:∀ x c,X.env.cells.lookup x=some c->∀ v,s.heap.IsCell c v->h'.IsCell c v:=λx c e v ⟨o,ho,hd⟩=>by
  have nch:c ∉ ch:=λz=>(hch c z).2.2.1 x c e rfl;by_cases hc:c∈X.fs
  ·obtain⟨sl,q⟩:=slot c o (I.cne x c e) hc nch ho (I.freeC x c e);exact⟨_,q,hd⟩
  ·exact⟨o,keep c o (I.cne x c e) hc nch ho (I.freeC x c e),hd⟩
 refine⟨I.ok,I.os,hg,⟨λb o e n hb hx=>?_,λb o e n hb hx=>?_,λb o e n hx=>?_,λb o e hx=>?_,λb xs e=>tups b xs (I.base.tups b xs e),λb o xs e=>frzs b o xs (I.base.frzs b o xs e),λb ps e=>?_⟩,?_,λx c e=>?_,?_,λx c e=>?_,λp hp=>?_,hok,I.len⟩
 ·exact keep b o (neL b o e) hb (neC b o e hx) (I.base.keep b o e n hb hx) (I.base.free b o e n hx)
 ·obtain⟨sl,e1⟩:=I.base.slot b o e n hb hx;obtain⟨sl',e2⟩:=slot b _ (neL b o e) hb (neC b o e hx) e1 (I.base.free b o e n hx);exact⟨sl',e2⟩
 ·obtain⟨o',e1⟩:=I.base.there b o e hx;exact free b o' (neC b o e hx) e1 (I.base.free b o e n hx)
 ·obtain⟨o',e1⟩:=I.base.there b o e hx;exact there b o' (neC b o e hx) e1
 ·obtain⟨m1,e1⟩:=I.base.tbls b ps e;obtain⟨m2,e2⟩:=tbls b _ e1;exact⟨m1++m2,by rw[e2,Array.append_assoc]⟩
 ·obtain⟨m,hn,hl⟩:=I.loc;refine⟨m,ns m hn,λi x v e1 e2 e3=>?_⟩;obtain⟨u,r,l⟩:=hl i x v e1 e2 e3;refine⟨u,r,?_⟩;rcases l with l|⟨k,c,e,z⟩
  ·exact .inl l
  ·exact .inr ⟨k,c,e,cellK x c e _ z⟩
 ·obtain⟨v,z⟩:=I.cell x c e;exact⟨v,cellK x c e v z⟩
 ·obtain⟨m,⟨o,_,_,ho,_⟩,_⟩:=I.loc;exact free _ o (λz=>(hch _ z).2.1 rfl) ho I.free
 ·obtain⟨v,o,ho,hd⟩:=I.cell x c e;exact free c o (λz=>(hch c z).2.2.1 x c e rfl) ho (I.freeC x c e)
 ·obtain⟨e,n,ne,nf,d⟩:=I.pin p hp;have nch:p.1 ∉ ch:=λz=>(hch p.1 z).2.2.2 p hp rfl;exact⟨keep p.1 p.2 ne nf nch e n,free p.1 p.2 nch e n,ne,nf,d⟩
theorem Inv.un{t':Nat}(I:Inv X pins O H s)(u:Un X.fs [] H H' s.heap h')(hok:HOk X.prog X.w H' h'):Inv X pins O H' { s with heap:=h',toks:=t' }:=by
 obtain⟨m,⟨o,es,ep,ho,r⟩,_⟩:=id I.loc;obtain⟨sl,hL⟩:=u.any ho I.free (by simp)
 exact I.step (g':=s.gens) (d':=s.drawn) (ch:=[]) (λ_ z=>nomatch z) (λb o _ hb _ e n=>u.keep b o e n hb (by simp)) (λb o _ hb _ e n=>u.slot b o e n hb (by simp)) (λb o _ e n=>u.free b o e n (by simp)) (λb o _ e=>u.there b o e (by simp)) u.tups u.frzs u.tbls (λm' hm=>by
  obtain⟨o',es',ep',ho',r'⟩:=hm;rw[ho] at ho';cases ho';exact⟨_,es',ep',hL,r'⟩) hok I.bare
theorem Inv.call{g':Array GenState}{t':Nat}{d':Drawn}{ch:List Addr}(I:Inv X pins O H s)(u:Un (frs X.stack) ch H H' s.heap h')(hok:HOk X.prog X.w H' h')(hg:AllBare g')
  (hch:∀ b∈ch,(b∈X.ex\/X.s₀.heap.objs.size<=b)/\b≠X.env.locals/\(∀ x c,X.env.cells.lookup x=some c->c≠b)/\∀ p∈X.pn++pins,p.1≠b) :
  Inv X pins O H' { s with heap:=h',gens:=g',drawn:=d',toks:=t' }:=by
 obtain⟨m,⟨o,es,ep,ho,r⟩,_⟩:=id I.loc;obtain⟨sl,hL⟩:=u.any ho I.free λz=>(hch _ z).2.1 rfl;exact I.step (ch:=ch) hch (λb o hL hb hc e n=>u.keep b o e n (λz=>(Zaq.mp (I.xZ b z)).elim hL hb) hc) (λb o _ _ hc e n=>u.any e n hc) (λb o hc e n=>u.free b o e n hc) (λb o hc e=>u.there b o e hc) u.tups u.frzs u.tbls (λm' hm=>by
  obtain⟨o',es',ep',ho',r'⟩:=hm;rw[ho] at ho';cases ho';exact⟨_,es',ep',hL,r'⟩) hok hg
theorem Inv.turned{t':Nat}{it:Addr}(I:Inv X pins O H s)(k:∀ b o,b≠it->s.heap.get? b=some o->h'.get? b=some o)(hn:H it=none)(hL:it≠X.env.locals)
  (h1:it∈X.ex\/X.s₀.heap.objs.size<=it)(h2:∀ x c,X.env.cells.lookup x=some c->c≠it)(h3:∀ p∈X.pn++pins,p.1≠it):Inv X pins O H { s with heap:=h',toks:=t' }:=by
 have nit:∀ b u,H b=some u->b≠it:=λb u e z=>by rw[z,hn] at e;cases e
 refine I.step (g':=s.gens) (d':=s.drawn) (ch:=[it]) (λb hb=>?_) (λb o _ _ hc e _=>k b o (λz=>hc (by simp[z])) e) (λb o _ _ hc e _=>⟨o.slots,k b o (λz=>hc (by simp[z])) e⟩) (λ_ _ _ _ n=>n)
  (λb o hc e=>⟨o,k b o (λz=>hc (by simp[z])) e⟩) (λ_ _ e=>e) (λ_ _ _ e=>e) (λb ps e=>⟨#[],by rw[e];simp⟩) (λm hm=>?_) (λb u e=>?_) I.bare
 ·have e:b=it:=by simpa using hb
  subst e;exact⟨h1,hL,h2,h3⟩
 ·obtain⟨o,es,ep,ho,r⟩:=hm;exact⟨o,es,ep,k _ o (Zbm hL) ho,r⟩
 ·refine(I.hok b u e).stay (λc v hc q=>k c v ?_ q) (λ_ q=>q) λ_ _ q=>q;rcases hc with z|z
  ·rw[z];exact nit b u e
  ·exact nit c _ z
theorem Inv.tok(I:Inv X pins O H s)(t:Nat):Inv X pins O H { s with toks:=t }:=I.un (h':=s.heap) (t':=t) Un.refl I.hok
theorem Inv.kept{t':Nat}(I:Inv X pins O H s)(k:∀ b u,s.heap.get? b=some u->h'.get? b=some u):Inv X pins O H { s with heap:=h',toks:=t' }:=I.un (Un.kept k) (I.hok.kept k)
theorem Inv.laid{a:Addr}{o:HO}{t':Nat}(I:Inv X pins O H s)(k:∀ b u,s.heap.get? b=some u->h'.get? b=some u)(hp:s.heap.objs.size<=a)(new:bR X.prog X.w (upd H a o) h' a o) :
  Inv X pins O (upd H a o) { s with heap:=h',toks:=t' }:=I.un (Un.laid k hp (I.hok.fresh hp)) (I.hok.laid k hp new)
theorem Inv.write{x e:Addr}{o:HO}{t':Nat}(I:Inv X pins O H s)(mu:Mut (H x))(he:e=x\/H e=some (.own x))(k:∀ b u,b≠e->s.heap.get? b=some u->h'.get? b=some u)(heo:∃ u,h'.get? e=some u)
  (new:bR X.prog X.w (upd H x o) h' x o):Inv X pins O (upd H x o) { s with heap:=h',toks:=t' }:=I.un (Un.write mu he k heo) (I.hok.write mu he k heo new)
theorem Inv.pJ{pins':List (Addr×Obj)}(I:Inv X pins O H s)(h:∀ p∈pins',s.heap.get? p.1=some p.2/\H p.1=none/\p.1≠X.env.locals/\p.1 ∉ X.fs/\∀ v,p.2.data≠.cell v):Inv X pins' O H s:=
 ⟨I.ok,I.os,I.bare,I.base,I.loc,I.cell,I.free,I.freeC,λp hp=>(ZaG.mp hp).elim (λz=>I.pin p (Zbk _ z)) (h p),I.hok,I.len⟩
theorem vM{N:List Str}(hN:N.Nodup){i j:Nat}{x:Str}(a:N[i]?=some x)(b:N[j]?=some x):i=j:=by
 obtain⟨h1,e1⟩:=Zad.mp a;obtain⟨h2,e2⟩:=Zad.mp b;exact(List.getElem_inj hN).mp (e1.trans e2.symm)
theorem sU{M:Model}{A:Around}{E:Value->Shared->Prop}{i:Nat}{x:Str}{v:V}{u:Value}{Q:Unit->Shared->Prop}(I:Inv X pins O H s)(hN:X.N.Nodup)(hi:X.N[i]?=some x)(hx:Loc X.env.scope x)(r:RelV v u)
  (h:∀ s',Inv X pins (O.set i (some v)) H s'->(∃ a,Heap.SameBut a s.heap s'.heap/\(a=X.env.locals\/X.env.cells.lookup x=some a))->Q () s')(hf:X.fn x=true\/X.env.scope.names.lookup x=some .local:=by first|exact .inl rfl|exact .inr rfl|assumption):wpAny M A (storeName X.env x u) Q E s:=by
 obtain⟨m,hn,hl⟩:=id I.loc;have hcls:(X.env.scope.kind==.class||(X.env.scope.kind==.module&&X.env.locals != X.env.globals))=false:=by rw[I.ok.kind];rfl
 have hiσ:i<O.length:=by rw[I.len];exact(Zad.mp hi).1
 have cne:=I.cne;have tracked:∀ {a:Addr}{h':Heap},(∃ o,s.heap.get? a=some o/\H a=none)->Heap.SameBut a s.heap h'->HOk X.prog X.w H h':=λ{a h'} ha hs b ob e=>by
  obtain⟨_,_,hfree⟩:=ha;refine(I.hok b ob e).stay (λc w' hc q=>(hs.2 c ?_).trans q) (λ_ q=>q) λ_ _ q=>q;rintro rfl;rcases hc with rfl|hc
  ·rw[hfree] at e;cases e
  ·rw[hfree] at hc;cases hc
 rcases hx with hk|hk
 ·refine wpAny_storeName_local hk hn (λh' hn' hs=>?_) hcls;obtain⟨oL,_,_,hoL,_⟩:=id hn;refine h _ ⟨I.ok,I.os,I.bare,⟨λb o e n hb hx=>?_,λb o e n hb hx=>?_,I.base.free,λb o e hx=>?_,I.base.tups,I.base.frzs,I.base.tbls⟩,⟨_,hn',λj y v' e1 e2 e3=>?_⟩,λy c e=>?_,I.free,I.freeC,λp hp=>?_,tracked ⟨oL,hoL,I.free⟩ hs,by simpa using I.len⟩ ⟨_,hs,.inl rfl⟩
  ·exact(hs.2 b (ZaB (Zau (Zas e) I.ok.above))).trans (I.base.keep b o e n hb hx)
  ·obtain⟨sl,e1⟩:=I.base.slot b o e n hb hx;exact⟨sl,(hs.2 b (ZaB (Zau (Zas e) I.ok.above))).trans e1⟩
  ·obtain⟨o',e1⟩:=I.base.there b o e hx;exact⟨o',(hs.2 b (ZaB (Zau (Zas e) I.ok.above))).trans e1⟩
  ·by_cases hj:j=i
   ·subst hj;rw[hi] at e1;cases e1;rw[ZaQ hiσ] at e2;cases e2;exact⟨u,r,.inl ⟨hk,by simp⟩⟩
   ·rw[Zam (Zbm hj)] at e2;obtain⟨u',r',q⟩:=hl j y v' e1 e2 e3;refine⟨u',r',?_⟩;rcases q with⟨k,e⟩|⟨k,c,e,z⟩
    ·refine .inl ⟨k,?_⟩;have:y≠x:=λe=>hj (vM hN e1 (e▸hi));simp[this,e]
    ·exact .inr ⟨k,c,e,z.sameBut hs (cne y c e)⟩
  ·obtain⟨w',z⟩:=I.cell y c e;exact⟨w',z.sameBut hs (cne y c e)⟩
  ·obtain⟨e,n,ne,nf,d⟩:=I.pin p hp;exact⟨(hs.2 p.1 ne).trans e,n,ne,nf,d⟩
 ·have hfn:X.fn x=true:=by
   rcases hf with z|z
   ·exact z
   ·rw[z] at hk;cases hk
  obtain⟨c,hc⟩:=I.ok.has x (.inl hk);obtain⟨w',z⟩:=I.cell x c hc;refine wpAny_storeName_cell I.ok.kind hk hc z (λh' hc' hs=>?_);obtain⟨oc,hoc,hocd⟩:=id z;refine h { s with heap:=h' } ⟨I.ok,I.os,I.bare,⟨λb o e n hb hx=>?_,λb o e n hb hx=>?_,I.base.free,λb o e hx=>?_,I.base.tups,I.base.frzs,I.base.tbls⟩,⟨m,hn.sameBut hs (Zbm (cne x c hc)),λj y v' e1 e2 e3=>?_⟩,λy c' e=>?_,I.free,I.freeC,λp hp=>?_,tracked ⟨oc,hoc,I.freeC x c hc⟩ hs,by simpa using I.len⟩ ⟨c,hs,.inr hc⟩
  ·exact(hs.2 b (ZaB (Zau (Zas e) (I.ok.cab x c hfn hc)))).trans (I.base.keep b o e n hb hx)
  ·obtain⟨sl,e1⟩:=I.base.slot b o e n hb hx;exact⟨sl,(hs.2 b (ZaB (Zau (Zas e) (I.ok.cab x c hfn hc)))).trans e1⟩
  ·obtain⟨o',e1⟩:=I.base.there b o e hx;exact⟨o',(hs.2 b (ZaB (Zau (Zas e) (I.ok.cab x c hfn hc)))).trans e1⟩
  ·by_cases hj:j=i
   ·subst hj;rw[hi] at e1;cases e1;rw[ZaQ hiσ] at e2;cases e2;exact⟨u,r,.inr ⟨.inl hk,c,hc,hc'⟩⟩
   ·rw[Zam (Zbm hj)] at e2;obtain⟨u',r',q⟩:=hl j y v' e1 e2 e3;refine⟨u',r',?_⟩;rcases q with q|⟨k,c',e,z'⟩
    ·exact .inl q
    ·refine .inr ⟨k,c',e,z'.sameBut hs ?_⟩;rintro rfl;exact hj (vM hN e1 (I.ok.inj _ _ _ e hc▸hi))
  ·by_cases hcc:c'=c
   ·subst hcc;exact⟨_,hc'⟩
   ·obtain⟨w2,z2⟩:=I.cell y c' e;exact⟨w2,z2.sameBut hs hcc⟩
  ·obtain⟨e,n,ne,nf,d⟩:=I.pin p hp;refine⟨(hs.2 p.1 ?_).trans e,n,ne,nf,d⟩;intro q;rw[q,hoc] at e;have q':oc=p.2:=Zac e;exact d w' (by rw[<-q'];exact hocd)
theorem vN{M:Model}{A:Around}{E:Value->Shared->Prop}{i:Nat}{x:Str}{v:V}{u:Value}{Q:Unit->Shared->Prop}(I:Inv X pins O H s)(hN:X.N.Nodup)(hi:X.N[i]?=some x)(hx:Loc X.env.scope x)(r:RelV v u)
  (h:∀ s',Inv X pins (O.set i (some v)) H s'->Q () s')(hf:X.fn x=true\/X.env.scope.names.lookup x=some .local:=by first|exact .inl rfl|exact .inr rfl|assumption):wpAny M A (storeName X.env x u) Q E s:=
 sU I hN hi hx r (λs' I' _=>h s' I') hf
theorem Inv.call'{s':Shared}{ch:List Addr}(I:Inv X pins O H s)(ho:s'.os=s.os)(u:Un (frs X.stack) ch H H' s.heap s'.heap)(hok:HOk X.prog X.w H' s'.heap)(hg:AllBare s'.gens)
  (hch:∀ b∈ch,(b∈X.ex\/X.s₀.heap.objs.size<=b)/\b≠X.env.locals/\(∀ x c,X.env.cells.lookup x=some c->c≠b)/\∀ p∈X.pn++pins,p.1≠b):Inv X pins O H' s':=by
 obtain⟨h',g',d',t',o'⟩:=s';have e:o'=s.os:=ho;subst e;exact I.call (g':=g') (t':=t') (d':=d') u hok hg hch
end
noncomputable abbrev XK:=Value->Option Addr->Hp->Prop
noncomputable abbrev St:=List (Option V)
noncomputable abbrev VK:=V->Hp->Prop
noncomputable abbrev TE:=St->Hp->VK->Prop
noncomputable abbrev TT:=St->Hp->(Bool->Hp->Prop)->Prop
noncomputable abbrev TA:=St->Hp->(List V->Hp->Prop)->Prop
structure Ends where
 nx:St->Hp->Prop
 rt:VK
 bk:St->Hp->Prop:=λ_ _=>False
 ct:St->Hp->Prop:=λ_ _=>False
noncomputable abbrev TS:=Ends->St->Hp->Prop
def EP(X:Cx)(pins:List (Addr×Obj))(O:St)(Q:VK)(u:Value)(s':Shared):Prop:=∃ v H',Inv X pins O H' s'/\RelV v u/\Q v H'
def TP(X:Cx)(pins:List (Addr×Obj))(O:St)(Q:Bool->Hp->Prop)(b:Bool)(s':Shared):Prop:=∃ H',Inv X pins O H' s'/\Q b H'
def AP(X:Cx)(pins:List (Addr×Obj))(O:St)(Q:List V->Hp->Prop)(us:List Value)(s':Shared):Prop:=∃ vs H',Inv X pins O H' s'/\Vals vs us/\Q vs H'
def SP(X:Cx)(pins:List (Addr×Obj))(D:Ends)(f:Flow)(s':Shared):Prop:=
 match f with
 |.next=>∃ O' H',Inv X pins O' H' s'/\D.nx O' H'
 |.brk=>∃ O' H',Inv X pins O' H' s'/\D.bk O' H'
 |.cont=>∃ O' H',Inv X pins O' H' s'/\D.ct O' H'
 |.ret u=>∃ v O' H',Inv X pins O' H' s'/\RelV v u/\D.rt v H'
def PE(X:Cx)(e:Expr)(t:TE):Prop:=
 ∀ (pins:List (Addr×Obj)) (s:Shared) (O:St) (H:Hp) (Q:VK),Inv X pins O H s->t O H Q->wpAny (model X.prog X.w) X.A (eval e X.env) (EP X pins O Q) X.xe s
def PT(X:Cx)(e:Expr)(t:TT):Prop:=
 ∀ (pins:List (Addr×Obj)) (s:Shared) (O:St) (H:Hp) (Q:Bool->Hp->Prop),Inv X pins O H s->t O H Q->wpAny (model X.prog X.w) X.A (isTrue e X.env (eval e X.env)) (TP X pins O Q) X.xe s
def PW(X:Cx)(e:Expr)(t:TT):Prop:=
 ∀ (whole:Sem Value) (pins:List (Addr×Obj)) (s:Shared) (O:St) (H:Hp) (Q:Bool->Hp->Prop),Inv X pins O H s->t O H Q->wpAny (model X.prog X.w) X.A (isTrue e X.env whole) (TP X pins O Q) X.xe s
theorem PW.pt{X:Cx}{e:Expr}{t:TT}(h:PW X e t):PT X e t:=h _
def PA(X:Cx)(es:List Expr)(t:TA):Prop:=
 ∀ (pos:Pos) (pins:List (Addr×Obj)) (s:Shared) (O:St) (H:Hp) (Q:List V->Hp->Prop),Inv X pins O H s->t O H Q->wpAny (model X.prog X.w) X.A (spliced (backTo pos (starEach es X.env))) (AP X pins O Q) X.xe s
def PS(X:Cx)(st:Stmt)(t:TS):Prop:=
 ∀ (pins:List (Addr×Obj)) (s:Shared) (O:St) (H:Hp) (D:Ends),Inv X pins O H s->t D O H->wpAny (model X.prog X.w) X.A (exec st X.env) (SP X pins D) X.xe s
def PSs(X:Cx)(st:List Stmt)(t:TS):Prop:=
 ∀ (pins:List (Addr×Obj)) (s:Shared) (O:St) (H:Hp) (D:Ends),Inv X pins O H s->t D O H->wpAny (model X.prog X.w) X.A (execs st X.env) (SP X pins D) X.xe s
theorem thn{α:Type}{t:Sem α}{Q Q':α->Shared->Prop}{M:Model}{A:Around}{E:Value->Shared->Prop}{s:Shared}(h:wpAny M A t Q E s)(hQ:∀ a s,Q a s->Q' a s):wpAny M A t Q' E s:=ZaO h hQ λ_ _ x=>x
section
variable{X:Cx}
def iw(i:Nat):TE:=λO H Q=>∃ v,O[i]?=some (some v)/\Q v H
def tC(v:V):TE:=λ_ H Q=>Q v H
theorem yc{i:Nat}{x:Str}{pos:Pos}(hN:X.N[i]?=some x)(hv:Vis X.env.scope x)(hd:(x==("__debug__":Str))=false:=by decide)(hcd:(x==("__classdict__":Str))=false:=by decide):PE X (.Name x pos) (iw i):=by
 intro pins s O H Q I h;obtain⟨v,e,h⟩:=h;obtain⟨m,hn,hl⟩:=I.loc;obtain⟨u,r,l⟩:=hl i x v hN e hv;have fin:EP X pins O Q u s:=⟨v,H,I,r,h⟩;rcases l with⟨hk,hm⟩|⟨hk,c,hc,hcell⟩
 ·exact wpAny_Name (wpAny_loadName_local I.ok.kind hk hn hm fin) hd
 ·rcases hk with hk|hk
  ·exact wpAny_Name (wpAny_loadName_cell I.ok.kind hk hc hcell fin) hd
  ·exact wpAny_Name (wpAny_loadName_free I.ok.kind hk hc hcell fin hcd) hd
theorem aL{i j pos}:PE X (.Constant (.int i) j pos) (tC (.int i)):=λ_ _ _ H _ I h=>wpAny_Constant_int ⟨.int i,H,I.tok _,⟨_,rfl⟩,h⟩
theorem Jk{b j pos}:PE X (.Constant (.bool b) j pos) (tC (.bl b)):=λ_ _ _ H _ I h=>Constant_bool ⟨.bl b,H,I,rfl,h⟩
theorem De{j pos}:PE X (.Constant .none j pos) (tC .non):=λ_ _ _ H _ I h=>Constant_none ⟨.non,H,I,rfl,h⟩
def Gl(X:Cx)(x:Str):Prop:=X.env.kindOf x=some .globalImplicit
theorem Gu{E:Value->Shared->Prop}{pins:List (Addr×Obj)}{s:Shared}{O:St}{H:Hp}{x:Str}{u:Value}{pos:Pos}{Q:Value->Shared->Prop}(I:Inv X pins O H s)(hg:Gl X x)(hm:X.mg x=some u)(h:Q u s)
  (hd:(x==("__debug__":Str))=false:=by decide):wpAny (model X.prog X.w) X.A (eval (.Name x pos) X.env) Q E s:=
 Calls.Name_function_global I.ok.kind hg (Calls.loadGlobal_global (by rw[I.ok.glob];exact I.mod.glob.keeps I.bk) hm h) hd
theorem uq{E:Value->Shared->Prop}{pins:List (Addr×Obj)}{s:Shared}{O:St}{H:Hp}{x:Str}{u:Value}{pos:Pos}{Q:Value->Shared->Prop}(I:Inv X pins O H s)(hg:Gl X x)(hm:X.mg x=none)(hv:bootBuiltins x=some u)(h:Q u s)
  (hn:x≠"__name__":=by decide)(hd:(x==("__debug__":Str))=false:=by decide):wpAny (model X.prog X.w) X.A (eval (.Name x pos) X.env) Q E s:=by
 obtain⟨mb,h1,h2⟩:=I.mod.blt;exact Calls.Name_function_global I.ok.kind hg (Calls.loadGlobal_builtin (by rw[I.ok.glob];exact I.mod.glob.keeps I.bk) hm (by rw[I.ok.blt];exact h1.keeps I.bk) ((h2 x hn).trans hv) h) hd
variable{a b:Expr}{ta tb:TE}{pos:Pos}
def tB(t:TE):TT:=λO H Q=>t O H λx H1=>∃ c,x=.bl c/\Q c H1
theorem J6{e:Expr}{t:TE}(h:PE X e t)(he:∀ whole,isTrue e X.env whole=(do let v <-whole;standAt e.pos;holding [v] (truthy v)):=by intro _;rfl):PT X e (tB t):=by
 intro pins s O H Q I hw;refine isTrue_plain (thn (h pins s O H _ I hw) ?_) (he _);rintro v s1 ⟨x,H1,I1,r1,q1⟩;obtain⟨d,rfl,q⟩:=q1;cases r1;exact wpAny_truthy_bool ⟨H1,I1,q⟩
variable{tA tB':TT}{rest:List Expr}
def Ly(t u:TT):TT:=λO H Q=>t O H λc H1=>if c=true then u O H1 Q else Q false H1
def tOr(t u:TT):TT:=λO H Q=>t O H λc H1=>if c=true then Q true H1 else u O H1 Q
theorem Gw(ha:PT X a tA):PW X (.BoolOp .And [a] pos) tA:=by
 intro wh pins s O H Q I h;refine isTrue_and (thn (ha pins s O H Q I h) λc s1 e=>?_);cases c with
 |true=>exact isTrue_and_nil e
 |false=>exact e
theorem Df(ha:PT X a tA):PW X (.BoolOp .Or [a] pos) tA:=by
 intro wh pins s O H Q I h;refine isTrue_or (thn (ha pins s O H Q I h) λc s1 e=>?_);cases c with
 |false=>exact isTrue_or_nil e
 |true=>exact e
theorem J7(ha:PT X a tA)(hb:PW X (.BoolOp .And (b::rest) pos) tB'):PW X (.BoolOp .And (a::b::rest) pos) (Ly tA tB'):=by
 intro wh pins s O H Q I h;refine isTrue_and (thn (ha pins s O H _ I h) ?_);rintro c s1 ⟨H1,I1,q1⟩;cases c with
 |true=>exact hb wh pins s1 O H1 Q I1 q1
 |false=>exact⟨H1,I1,q1⟩
theorem Jl(ha:PT X a tA)(hb:PW X (.BoolOp .Or (b::rest) pos) tB'):PW X (.BoolOp .Or (a::b::rest) pos) (tOr tA tB'):=by
 intro wh pins s O H Q I h;refine isTrue_or (thn (ha pins s O H _ I h) ?_);rintro c s1 ⟨H1,I1,q1⟩;cases c with
 |true=>exact⟨H1,I1,q1⟩
 |false=>exact hb wh pins s1 O H1 Q I1 q1
def Jm(ta tb:TE):TE:=λO H Q=>ta O H λx H1=>∃ c,x=.bl c/\if c=true then tb O H1 Q else Q (.bl false) H1
theorem J8{op}{t:TE}(h:PE X a t):PE X (.BoolOp op [a] pos) t:=λpins s O H Q I hw=>BoolOp_one (h pins s O H Q I hw)
theorem J9(ha:PE X a ta)(hb:PE X (.BoolOp .And (b::rest) pos) tb):PE X (.BoolOp .And (a::b::rest) pos) (Jm ta tb):=by
 intro pins s O H Q I h;refine BoolOp_and (thn (ha pins s O H _ I h) ?_);rintro v s1 ⟨x,H1,I1,r1,q1⟩;obtain⟨c,rfl,q1⟩:=q1;cases r1;refine wpAny_truthy_bool ?_;cases c with
 |true=>exact hb pins s1 O H1 Q I1 q1
 |false=>exact⟨.bl false,H1,I1,rfl,q1⟩
end
def SqL(K:Frag)(H:Hp)(a:Addr)(xs:List V):Prop:=
 Rd H a (.lst xs) \/
  ∃ (o:Obj) (its:Array Value) (n:Nat),K.lookup a=some o/\o.cls=.type "list"/\o.dict=none/\o.data=.seq its n/\its.size<=sizeLine/\Vals xs its.toList
def SqT(K:Frag)(H:Hp)(a:Addr)(xs:List V):Prop:=
 Rd H a (.tup xs) \/
  ∃ (o:Obj) (its:Array Value) (n:Nat),K.lookup a=some o/\o.cls=.type "tuple"/\o.data=.seq its n/\its.size<=sizeLine/\Vals xs its.toList
def Nu:Value->Option V
 |.none=>some .non
 |.bool b=>some (.bl b)
 |.int i _=>some (.int i)
 |.str x _=>some (.str x)
 |.bytes b _=>some (.byt b)
 |.float b _=>some (.flt b)
 |.ref a=>some (.ref a)
 |.type n=>some (.ty n)
 |_=>none
theorem RelV.abs{x:V}{u:Value}(r:RelV x u):Nu u=some x:=by
 cases x with
 |non=>cases r;rfl
 |bl _=>cases r;rfl
 |int _=>obtain⟨t,rfl⟩:=r;rfl
 |str _=>obtain⟨t,rfl⟩:=r;rfl
 |byt _=>obtain⟨t,rfl⟩:=r;rfl
 |flt _=>obtain⟨t,rfl⟩:=r;rfl
 |ref _=>cases r;rfl
 |ty _=>cases r;rfl
theorem RelV.inj{x y:V}{u:Value}(r:RelV x u)(q:RelV y u):x=y:=Zac (r.abs.symm.trans q.abs)
theorem Vals.inj:∀ {xs ys:List V}{us:List Value},Vals xs us->Vals ys us->xs=ys
 |_,_,_,.nil,.nil=>rfl
 |_,_,_,.cons r t,.cons r' t'=>by rw[r.inj r',Vals.inj t t']
section
variable{X:Cx}{pins:List (Addr×Obj)}{O:St}{H:Hp}{s:Shared}{a:Addr}{xs ys:List V}
theorem SqL.of{K:Frag}(h:H a=some (.lst xs)):SqL K H a xs:=.inl (.inl h)
theorem SqT.of{K:Frag}(h:H a=some (.tup xs)):SqT K H a xs:=.inl (.inl h)
theorem Inv.list(I:Inv X pins O H s)(h:SqL X.K H a xs):∃ its:List Value,Vals xs its/\PlainL s.heap a its.toArray/\xs.length<=sizeLine:=by
 rcases h with h|⟨o,its,n,hk,hc,hd,hs,hz,r⟩
 ·obtain⟨z,its,n,r,e⟩:=h.ok I.hok;exact⟨its,r,⟨_,n,e,rfl,rfl,rfl⟩,z⟩
 ·refine⟨its.toList,r,⟨o,n,I.kIn a o hk,hc,hd,by simpa using hs⟩,?_⟩
  have e:=r.length;simp only[ZaD] at e;lia
theorem Inv.tuple(I:Inv X pins O H s)(h:SqT X.K H a xs):∃ its:List Value,Vals xs its/\IsTup s.heap a its.toArray/\xs.length<=sizeLine:=by
 rcases h with h|⟨o,its,n,hk,hc,hs,hz,r⟩
 ·obtain⟨z,its,r,p⟩:=h.ok I.hok;exact⟨its,r,p.1,z⟩
 ·refine⟨its.toList,r,⟨o,I.kIn a o hk,hc,n,by simpa using hs⟩,?_⟩
  have e:=r.length;simp only[ZaD] at e;omega
theorem Inv.vO(I:Inv X pins O H s)(h:SqL X.K H a xs)(h':SqL X.K H a ys):xs=ys:=by
 obtain⟨its,r,⟨o,n,e,_,_,d⟩,_⟩:=I.list h;obtain⟨its',r',⟨o',n',e',_,_,d'⟩,_⟩:=I.list h';rw[e] at e';cases e';rw[d] at d';injection d' with d1 _
 have:its=its':=by simpa using Zba Array.toList d1
 subst this;exact r.inj r'
theorem Inv.sV(I:Inv X pins O H s)(h:SqT X.K H a xs)(h':SqT X.K H a ys):xs=ys:=by
 obtain⟨its,r,⟨o,e,_,n,d⟩,_⟩:=I.tuple h;obtain⟨its',r',⟨o',e',_,n',d'⟩,_⟩:=I.tuple h';rw[e] at e';cases e';rw[d] at d';injection d' with d1 _
 have:its=its':=by simpa using Zba Array.toList d1
 subst this;exact r.inj r'
end
noncomputable abbrev Cx.wish(X:Cx)(E:Value->Shared->Prop):Cx:={ X with xe:=E }
noncomputable abbrev Cx.nox(X:Cx):Cx:=X.wish λ_ _=>False
theorem Cx.Ok.wish{X:Cx}(ok:X.Ok)(E:Value->Shared->Prop):(X.wish E).Ok:=
 ⟨ok.mod,ok.kind,ok.glob,ok.blt,ok.above,ok.inj,ok.has,ok.cab,ok.hd,ok.frames,ok.stk,ok.exf,ok.bs,ok.bsz,ok.noex,ok.exfs,ok.lJ,ok.frf⟩
theorem Cx.Ok.jG{X:Cx}{E:Value->Shared->Prop}(ok:(X.wish E).Ok):X.Ok:=
 ⟨ok.mod,ok.kind,ok.glob,ok.blt,ok.above,ok.inj,ok.has,ok.cab,ok.hd,ok.frames,ok.stk,ok.exf,ok.bs,ok.bsz,ok.noex,ok.exfs,ok.lJ,ok.frf⟩
section
variable{X:Cx}{pins:List (Addr×Obj)}{O:St}{H:Hp}{s:Shared}{E:Value->Shared->Prop}
theorem Inv.wish(I:Inv X pins O H s)(E:Value->Shared->Prop):Inv (X.wish E) pins O H s:=⟨I.ok.wish E,I.os,I.bare,I.base,I.loc,I.cell,I.free,I.freeC,I.pin,I.hok,I.len⟩
theorem Inv.jG(I:Inv (X.wish E) pins O H s):Inv X pins O H s:=⟨I.ok.jG,I.os,I.bare,I.base,I.loc,I.cell,I.free,I.freeC,I.pin,I.hok,I.len⟩
theorem SP.jG{D:Ends}{f:Flow}{s':Shared}(h:SP (X.wish E) pins D f s'):SP X pins D f s':=by
 cases f with
 |next=>obtain⟨O',H',I,q⟩:=h;exact⟨O',H',I.jG,q⟩
 |brk=>obtain⟨O',H',I,q⟩:=h;exact⟨O',H',I.jG,q⟩
 |cont=>obtain⟨O',H',I,q⟩:=h;exact⟨O',H',I.jG,q⟩
 |ret u=>obtain⟨v,O',H',I,r,q⟩:=h;exact⟨v,O',H',I.jG,r,q⟩
theorem PSs.nox{st:List Stmt}{t:TS}(h:PSs X.nox st t):PSs X st t:=λpins s O H D I hw=>
 ZaO (h pins s O H D (I.wish _) hw) (λ_ _ q=>q.jG) λ_ _ z=>False.elim z
end
section
variable{X:Cx}{st:Stmt}{rest:List Stmt}{t u:TS}{e:Expr}{te:TE}{pos:Pos}
def Jo:TS:=λD O H=>D.nx O H
def Ka(t u:TS):TS:=λD O H=>t { D with nx:=u D } O H
theorem fX:PSs X [] Jo:=λ_ _ O H _ I h=>wpAny_execs_nil ⟨O,H,I,h⟩
theorem az(h1:PS X st t)(h2:PSs X rest u):PSs X (st::rest) (Ka t u):=by
 intro pins s O H D I h;refine wpAny_execs_cons (thn (h1 pins s O H { D with nx:=u D } I h) λf s1 q=>?_);cases f with
 |next=>
  obtain⟨O',H',I',q⟩:=q;exact h2 pins s1 O' H' D I' q
 |ret v=>exact q
 |brk=>exact q
 |cont=>exact q
theorem aY(h1:PS X st t):PSs X [st] t:=by
 intro pins s O H D I h;refine wpAny_execs_cons (thn (h1 pins s O H D I h) λf s1 q=>?_);cases f with
 |next=>exact wpAny_execs_nil q
 |ret v=>exact q
 |brk=>exact q
 |cont=>exact q
def Jq:TS:=λD O H=>D.ct O H
theorem vP:PS X (.Continue pos) Jq:=λ_ _ O H _ I h=>wpAny_Continue ⟨O,H,I,h⟩
theorem Inv.quiet{pins:List (Addr×Obj)}{O:St}{H:Hp}{s:Shared}(I:Inv X pins O H s):interactive X.env=false:=by simp[interactive,I.ok.kind]
def sW(te:TE):TS:=λD O H=>te O H λ_ H1=>D.nx O H1
theorem je(he:PE X e te)(hs:swapsWith e none pos.line X.env=pure false:=by rfl):PS X (.Expr e pos) (sW te):=by
 intro pins s O H D I h;exact wpAny_Expr_any (thn (he pins s O H _ I h) λv s1 ⟨x,H1,I1,r1,q1⟩=>⟨O,H1,I1,q1⟩) I.quiet hs
def Az(te:TE):TS:=λD O H=>te O H D.rt
theorem cR(he:PE X e te):PS X (.Return (some e) pos) (Az te):=by
 intro pins s O H D I h;exact wpAny_Return_some (thn (he pins s O H _ I h) λv s1 ⟨x,H1,I1,r1,q1⟩=>⟨x,O,H1,I1,r1,q1⟩)
def Lz(c:TT)(t u:TS):TS:=λD O H=>c O H λb H1=>if b=true then t D O H1 else u D O H1
theorem lz{c:Expr}{a b:List Stmt}{tc:TT}(hc:PT X c tc)(ha:PSs X a t)(hb:PSs X b u):PS X (.If c a b pos) (Lz tc t u):=by
 intro pins s O H D I h;refine wpAny_If (thn (hc pins s O H _ I h) ?_);rintro d s1 ⟨H1,I1,q1⟩;cases d with
 |true=>exact ha pins s1 O H1 D I1 q1
 |false=>exact hb pins s1 O H1 D I1 q1
end
noncomputable abbrev TG:=V->St->Hp->(St->Hp->Prop)->Prop
noncomputable abbrev TGs:=List V->St->Hp->(St->Hp->Prop)->Prop
def PG(X:Cx)(target:Expr)(t:TG):Prop:=
 ∀ (pins:List (Addr×Obj)) (s:Shared) (O:St) (H:Hp) (v:V) (u:Value) (Q:St->Hp->Prop),Inv X pins O H s->RelV v u->t v O H Q ->
  wpAny (model X.prog X.w) X.A (assign target X.env u) (λ_ s'=>∃ O' H',Inv X pins O' H' s'/\Q O' H') X.xe s
def PGs(X:Cx)(ts:List Expr)(t:TGs):Prop:=
 ∀ (pins:List (Addr×Obj)) (s:Shared) (O:St) (H:Hp) (vs:List V) (us:List Value) (Q:St->Hp->Prop),Inv X pins O H s->Vals vs us->t vs O H Q ->
  wpAny (model X.prog X.w) X.A (assignInOrder ((assignEach ts X.env).map (·.2)) us) (λ_ s'=>∃ O' H',Inv X pins O' H' s'/\Q O' H') X.xe s
section
variable{X:Cx}{pos:Pos}
def oW(i:Nat):TG:=λv O H Q=>Q (O.set i (some v)) H
theorem cL{i:Nat}{x:Str}(hN:X.N.Nodup)(hi:X.N[i]?=some x)(hx:Loc X.env.scope x)(hf:X.fn x=true\/X.env.scope.names.lookup x=some .local:=by first|exact .inl rfl|exact .inr rfl|assumption):PG X (.Name x pos) (oW i):=by
 intro pins s O H v u Q I r h;exact wpAny_assign_Name (vN I hN hi hx r (λs' I'=>⟨_,H,I',h⟩) hf)
def Dg:TGs:=λvs O H Q=>vs=[]/\Q O H
def Jr(t:TG)(u:TGs):TGs:=λvs O H Q=>∃ v r,vs=v::r/\t v O H λO' H'=>u r O' H' Q
theorem pK:PGs X [] Dg:=by
 intro pins s O H vs us Q I r h;obtain⟨e,h⟩:=h;subst e;cases r;exact assignInOrder_nil ⟨O,H,I,h⟩
theorem fG{e:Expr}{es:List Expr}{t:TG}{u:TGs}(h1:PG X e t)(h2:PGs X es u)
  (hs:(assignEach (e::es) X.env).map (·.2)=assign e X.env::(assignEach es X.env).map (·.2):=by rfl):PGs X (e::es) (Jr t u):=by
 intro pins s O H vs us Q I r h;obtain⟨v,vr,e1,h⟩:=h;subst e1;cases r with
 |cons r rr=>
  rw[hs];refine assignInOrder_cons (thn (h1 pins s O H _ _ _ I r h) ?_);rintro _ s1 ⟨O1,H1,I1,q1⟩;exact h2 pins s1 O1 H1 _ _ Q I1 rr q1
def Kc(K:Frag)(n:Nat)(t:TGs):TG:=λv O H Q=>∃ a xs,v=.ref a/\SqT K H a xs/\xs.length=n/\t xs O H Q
theorem ur{es:List Expr}{k:Nat}{t:TGs}{n:Nat}(hc:X.calm=true)(h:PGs X es t)
  (hn:(assignEach es X.env).length=n:=by rfl)(hst:(assignEach es X.env).findIdx? (·.1)=none:=by rfl):PG X (.Tuple es k pos) (Kc X.K n t):=by
 intro pins s O H v u Q I r hw;obtain⟨a,xs,e1,hq,hl,hw⟩:=hw;subst e1;cases r;obtain⟨its,rv,ht,hz⟩:=I.tuple hq;refine assign_Tuple_tuple (I.ok.hd hc) ht (by simp[hn,<-hl,rv.length]) hst λh' hx=>?_
 have I1:Inv X pins O H { s with heap:=h' }:=I.kept (t':=s.toks) λb o e=>hx b o (ZaB (Zas e)) e;exact h pins _ O H xs _ Q I1 (by simpa using rv) hw
def yd(te:TE)(g:TG):TS:=λD O H=>te O H λx H1=>g x O H1 D.nx
theorem ye{tg e:Expr}{te:TE}{g:TG}(he:PE X e te)(hg:PG X tg g)(hs:swapsWithSole [tg] e pos.line X.env=pure false:=by rfl)(hw:swappedStores [tg] e X.env=pure none:=by rfl)
  (h1:(assignEach [tg] X.env).map (·.2)=[assign tg X.env]:=by rfl):PS X (.Assign [tg] e pos) (yd te g):=by
 intro pins s O H D I h;refine wpAny_Assign_stores (thn (he pins s O H _ I h) ?_) hs hw;rintro v s1 ⟨x,H1,I1,r1,q1⟩;rw[h1];exact thn (hg pins s1 O H1 x v _ I1 r1 q1) λ_ s2 q=>q
theorem bx{i:Nat}{x:Str}{e:Expr}{te:TE}{pos':Pos}(hN:X.N.Nodup)(hi:X.N[i]?=some x)(hx:Loc X.env.scope x)(he:PE X e te)(hs:swapsWith e (some (.Name x pos')) pos.line X.env=pure false:=by rfl)(hf:X.fn x=true\/X.env.scope.names.lookup x=some .local:=by first|exact .inl rfl|exact .inr rfl|assumption) :
  PS X (.Assign [.Name x pos'] e pos) (yd te (oW i)):=by
 intro pins s O H D I h;refine wpAny_Assign_Name (thn (he pins s O H _ I h) ?_) hs;rintro v s1 ⟨y,H1,I1,r1,q1⟩;exact vN I1 hN hi hx r1 (λs2 I2=>⟨_,H1,I2,q1⟩) hf
end
section
variable{X:Cx}{pos:Pos}
def yf(c:TT)(tb:TS):TS:=λD O H=>∃ W:Nat->St->Hp->Prop,(∃ m,W m O H)/\∀ m O H,W m O H ->
 c O H λb H1=>if b=true then ∃ N:St->Hp->Prop,(∀ O' H',N O' H'->∃ m',m'<m/\W m' O' H')/\tb { D with nx:=N,ct:=N,bk:=D.nx } O H1 else D.nx O H1
theorem vQ{c:Expr}{body:List Stmt}{tc:TT}{tb:TS}(hp:PassesOwn (model X.prog X.w) X.A X.env X.xe)(hc:PT X c tc)(hb:PSs X body tb):PS X (.While c body [] pos) (yf tc tb):=by
 intro pins s O H D I h;obtain⟨W,⟨m0,w0⟩,turn⟩:=h;refine wpAny_While (codeAny_whileLoop (λn s'=>∃ O' H',Inv X pins O' H' s'/\W n O' H') ?_ m0 ⟨O,H,I,w0⟩);rintro n s1 ⟨O1,H1,I1,w1⟩;refine wpAny_passesOwn hp (thn (hc pins s1 O1 H1 _ I1 (turn n O1 H1 w1)) ?_);rintro b s2 ⟨H2,I2,q2⟩;cases b with
 |true=>
  obtain⟨N,hN,q2⟩:=q2;rw[Zat rfl];refine wpAny_passesOwn hp (thn (hb pins s2 O1 H2 _ I2 q2) λf s3 q3=>?_);cases f with
  |next=>
   obtain⟨O3,H3,I3,n3⟩:=q3;obtain⟨m',hm,w3⟩:=hN O3 H3 n3;exact⟨m',hm,O3,H3,I3,w3⟩
  |cont=>
   obtain⟨O3,H3,I3,n3⟩:=q3;obtain⟨m',hm,w3⟩:=hN O3 H3 n3;exact⟨m',hm,O3,H3,I3,w3⟩
  |brk=>exact q3
  |ret v=>exact q3
 |false=>
  rw[Zax Bool.false_ne_true];exact wpAny_execs_nil ⟨O1,H2,I2,q2⟩
end
structure It where
 go:Nat->Hp->Prop
 yld:Nat->Hp->V->Hp->Prop
 stop:Nat->Hp->Prop
def lK(X:Cx)(pins:List (Addr×Obj))(H:Hp)(b:Addr):Prop:=
 H b=none/\b≠X.env.locals/\b ∉ X.fs/\(b∈X.ex\/X.s₀.heap.objs.size<=b)/\(∀ x c,X.env.cells.lookup x=some c->c≠b)/\∀ p∈X.pn++pins,p.1≠b
theorem Inv.ut{X:Cx}{pins:List (Addr×Obj)}{O:St}{H H':Hp}{s:Shared}{b:Addr}(I:Inv X pins O H s)(hb:s.heap.objs.size<=b)(hn:H' b=none):lK X pins H' b:=by
 refine⟨hn,ZbY (Zau I.lt hb),I.Nt hb,.inr (ZaS I.sz hb),λx c e z=>?_,λp hp z=>?_⟩
 ·obtain⟨v,q⟩:=I.cell x c e;exact absurd (Zau q.lt (by rw[z];exact hb)) (Zbp _)
 ·exact absurd (Zau (Zas (I.pin p hp).1) (by rw[z];exact hb)) (Zbp _)
structure Turn(P:Program)(w:World)(K:Frag)(tg:Expr)(J:It)(fp:List Addr)(it:Addr)(tn:Nat->Heap->Prop):Prop where
 mem:it∈fp
 obj:∀ i h,tn i h->∀ b∈fp,∃ o,h.get? b=some o/\∀ v,o.data≠.cell v
 keep:∀ i h h',tn i h->(∀ b∈fp,∀ o,h.get? b=some o->h'.get? b=some o)->tn i h'
 item:∀ (X:Cx),X.prog=P->X.w=w->X.K=K->X.calm=true->∀ (i:Nat) (pins:List (Addr×Obj)) (s:Shared) (O:St) (H:Hp) (E:Value->Shared->Prop),Inv X pins O H s->(∀ b∈fp,lK X pins H b)->tn i s.heap->J.go i H ->
  wpAny (model P w) X.A (pyNext (.ref it)) (λr s1=>∃ u,r=some u /\
   wpAny (model P w) X.A (letOwnedTupleGo tg (.ref it) u) (λ_ s2=>∃ x H',Inv X pins O H' s2/\RelV x u/\J.yld i H x H'/\tn (i+1) s2.heap/\∀ b∈fp,H' b=none) E s1) E s
 done:∀ (X:Cx),X.prog=P->X.w=w->X.K=K->X.calm=true->∀ (i:Nat) (pins:List (Addr×Obj)) (s:Shared) (O:St) (H:Hp) (E:Value->Shared->Prop),Inv X pins O H s->(∀ b∈fp,lK X pins H b)->tn i s.heap->J.stop i H ->
  wpAny (model P w) X.A (pyNext (.ref it)) (λr s1=>r=none/\Inv X pins O H s1) E s
 self:∀ (A:Around) (i:Nat) (s:Shared) (Q:Value->Shared->Prop) (E:Value->Shared->Prop),tn i s.heap->Q (.ref it) s->wpAny (model P w) A (pyIter (.ref it)) Q E s
noncomputable abbrev TI:=St->Hp->(It->Hp->Prop)->Prop
def PIE(X:Cx)(pins:List (Addr×Obj))(O:St)(tg:Expr)(R:It->Hp->Prop)(itv:Value)(s2:Shared):Prop:=
 ∃ (it:Addr) (fp:List Addr) (tn:Nat->Heap->Prop) (J:It) (H':Hp),itv=.ref it/\Inv X pins O H' s2/\Turn X.prog X.w X.K tg J fp it tn/\tn 0 s2.heap/\(∀ b∈fp,lK X pins H' b)/\R J H'
def PI(X:Cx)(tg iter:Expr)(wi:TI):Prop:=
 ∀ (pins:List (Addr×Obj)) (s:Shared) (O:St) (H:Hp) (R:It->Hp->Prop),Inv X pins O H s->wi O H R ->
  wpAny (model X.prog X.w) X.A (eval iter X.env) (λv s1=>wpAny (model X.prog X.w) X.A (pyIter v) (PIE X pins O tg R) X.xe s1) X.xe s
theorem vR{M:Model}{A:Around}{E:Value->Shared->Prop}{s:Shared}{tg:Expr}{it:Addr}{u:Value}{o:Obj}{n:String}{vs:Array Value}{Q:Unit->Shared->Prop}(ho:s.heap.get? it=some o)(hc:o.cls=.type n)(hd:o.data=.fields vs)
  (hn:["enumerate","zip","dict_itemiterator","dict_reverseitemiterator","odict_iterator","itertools.zip_longest","itertools.pairwise"].contains n=false)(hQ:Q () s):wpAny M A (letOwnedTupleGo tg (.ref it) u) Q E s:=by
 unfold letOwnedTupleGo;cases tg<;>first
  |exact Zav hQ
  |(cases u<;>first
    |exact Zav hQ
    |(refine Zai (wpAny_load ho ?_)
      rw[hc,hd];show wpAny M A (if(["enumerate","zip","dict_itemiterator","dict_reverseitemiterator","odict_iterator","itertools.zip_longest","itertools.pairwise"].contains n&&vs[0]?==some (rawInt _))=true then _ else _) Q E s
      rw[Zax (by intro h;rw[hn,Bool.false_and] at h;cases h)]
      exact Zav hQ))
def Itl(K:Frag)(a:Addr):It:=
 ⟨λi H=>∃ xs x,SqL K H a xs/\xs[i]?=some x,λi H x H'=>H'=H/\∀ xs,SqL K H a xs->xs[i]?=some x,λi H=>∃ xs,SqL K H a xs/\xs.length<=i⟩
def Itt(K:Frag)(a:Addr):It:=
 ⟨λi H=>∃ xs x,SqT K H a xs/\xs[i]?=some x,λi H x H'=>H'=H/\∀ xs,SqT K H a xs->xs[i]?=some x,λi H=>∃ xs,SqT K H a xs/\xs.length<=i⟩
def Itr(lo:Int)(n:Nat):It:=⟨λi _=>i<n,λi H x H'=>H'=H/\x=.int (lo+i),λi _=>n<=i⟩
theorem Ba{P:Program}{w:World}{K:Frag}{tg:Expr}(a it:Addr):Turn P w K tg (Itl K a) [it] it (λi h=>h.IsListIter it a i) where
 mem:=by simp
 obj:=λi h st b hb=>by
  have e:b=it:=by simpa using hb
  subst e;obtain⟨o,e,c,d⟩:=st;exact⟨o,e,λv z=>by rw[d] at z;cases z⟩
 keep:=λi h h' st k=>st.at λo e=>k it (by simp) o e
 item:=by
  intro X hP hw hK hc i pins s O H E I hf st hg;subst hP hw hK;obtain⟨xs,x,hq,hx⟩:=hg;obtain⟨its,rv,p,hz⟩:=I.list hq;obtain⟨u,hu,ru⟩:=rv.get hx;obtain⟨f0,f1,f2,f3,f4,f5⟩:=hf it (by simp)
  refine wpAny_pyNext_list_item st p.isList (x:=u) (by simpa using hu) λh' st' sb=>?_
  have I1:Inv X pins O H { s with heap:=h' }:=I.turned (t':=s.toks) (λb o hb e=>(sb.2 b hb).trans e) f0 f1 f3 f4 f5;obtain⟨o,e,c,d⟩:=id st';exact⟨u,rfl,vR (s:={ s with heap:=h' }) e c d (by decide) ⟨x,H,I1,ru,⟨rfl,λys hy=>by rw[I.vO hy hq];exact hx⟩,st',λb hb=>(hf b hb).1⟩⟩
 done:=by
  intro X hP hw hK hc i pins s O H E I hf st hg;subst hP hw hK;obtain⟨xs,hq,hx⟩:=hg;obtain⟨its,rv,p,hz⟩:=I.list hq;obtain⟨f0,f1,f2,f3,f4,f5⟩:=hf it (by simp)
  have hl:=rv.length;exact wpAny_pyNext_list_end (I.ok.hd hc) st p.isList (by simp;lia) λh' eb=>⟨rfl,I.turned (t':=s.toks) (λb o hb e=>eb b o hb e) f0 f1 f3 f4 f5⟩
 self:=λ_ _ _ _ _ st h=>wpAny_pyIter_listiter st h
theorem yg{P:Program}{w:World}{K:Frag}{tg:Expr}(a it:Addr):Turn P w K tg (Itt K a) [it] it (λi h=>h.IsTupleIter it a i) where
 mem:=by simp
 obj:=λi h st b hb=>by
  have e:b=it:=by simpa using hb
  subst e;obtain⟨o,e,c,d⟩:=st;exact⟨o,e,λv z=>by rw[d] at z;cases z⟩
 keep:=λi h h' st k=>st.at λo e=>k it (by simp) o e
 item:=by
  intro X hP hw hK hc i pins s O H E I hf st hg;subst hP hw hK;obtain⟨xs,x,hq,hx⟩:=hg;obtain⟨its,rv,p,hz⟩:=I.tuple hq;obtain⟨u,hu,ru⟩:=rv.get hx;obtain⟨f0,f1,f2,f3,f4,f5⟩:=hf it (by simp)
  refine wpAny_pyNext_tuple_item st (show s.heap.IsTuple a its.toArray from p) (x:=u) (by simpa using hu) λh' st' sb=>?_
  have I1:Inv X pins O H { s with heap:=h' }:=I.turned (t':=s.toks) (λb o hb e=>(sb.2 b hb).trans e) f0 f1 f3 f4 f5;obtain⟨o,e,c,d⟩:=id st';exact⟨u,rfl,vR (s:={ s with heap:=h' }) e c d (by decide) ⟨x,H,I1,ru,⟨rfl,λys hy=>by rw[I.sV hy hq];exact hx⟩,st',λb hb=>(hf b hb).1⟩⟩
 done:=by
  intro X hP hw hK hc i pins s O H E I hf st hg;subst hP hw hK;obtain⟨xs,hq,hx⟩:=hg;obtain⟨its,rv,p,hz⟩:=I.tuple hq;obtain⟨f0,f1,f2,f3,f4,f5⟩:=hf it (by simp)
  have hl:=rv.length;exact wpAny_pyNext_tuple_end (I.ok.hd hc) st (show s.heap.IsTuple a its.toArray from p) (by simp;omega) λh' eb=>⟨rfl,I.turned (t':=s.toks) (λb o hb e=>eb b o hb e) f0 f1 f3 f4 f5⟩
 self:=λ_ _ _ _ _ st h=>wpAny_pyIter_tupleiter st h
theorem yh{P:Program}{w:World}{K:Frag}{tg:Expr}(it:Addr)(lo:Int)(n:Nat):Turn P w K tg (Itr lo n) [it] it (λi h=>IsRangeIter h it (lo+(i:Nat)*1) ((n:Int)-(i:Nat)) 1) where
 mem:=by simp
 obj:=λi h st b hb=>by
  have e:b=it:=by simpa using hb
  subst e;exact⟨_,st,λv z=>by
   have z':Data.fields _=Data.cell v:=z;cases z'⟩
 keep:=λi h h' st k=>k it (by simp) _ st
 item:=by
  intro X hP hw hK hc i pins s O H E I hf st hg;subst hP hw hK;obtain⟨f0,f1,f2,f3,f4,f5⟩:=hf it (by simp)
  have W:=Walks.range (prog:=X.prog) (w:=X.w) (I.ok.hd hc) it lo 1 n;refine W.item i s _ _ hg st λv h' tk hv st' kk=>?_;obtain⟨t,rfl⟩:=hv;have I1:Inv X pins O H { s with heap:=h',toks:=tk }:=I.turned (λb o hb e=>kk b o (by simpa using hb) e) f0 f1 f3 f4 f5
  refine⟨_,rfl,vR (s:={ s with heap:=h',toks:=tk }) (n:="range_iterator") st' rfl rfl (by decide) ⟨.int (lo+i),H,I1,⟨t,?_⟩,⟨rfl,rfl⟩,st',λb hb=>(hf b hb).1⟩⟩
  rw[Int.mul_one]
 done:=by
  intro X hP hw hK hc i pins s O H E I hf st hg;subst hP hw hK;obtain⟨f0,f1,f2,f3,f4,f5⟩:=hf it (by simp)
  exact wpAny_pyNext_range_end (I.ok.hd hc) st (by have:n<=i:=hg;omega) λh' eb=>⟨rfl,I.turned (t':=s.toks) (λb o hb e=>eb b o hb e) f0 f1 f3 f4 f5⟩
 self:=λ_ _ _ _ _ st h=>wpAny_pyIter_rangeiter st h
section
variable{X:Cx}{tg:Expr}
theorem Dh{pins:List (Addr×Obj)}{O:St}{H:Hp}{s:Shared}{R:It->Hp->Prop}{E:Value->Shared->Prop}{lo hi:Int}{t u v:Tok}{tk:Nat}(I:Inv X pins O H s)(h1:-(2^62)<=lo)(h2:lo<2^62)(h3:-(2^62)<=hi)(h4:hi<2^62)
  (q:R (Itr lo (hi-lo).toNat) H):wpAny (model X.prog X.w) X.A (pyIter (.ref s.heap.objs.size)) (PIE X pins O tg R) E { s with heap:=s.heap.push { cls:=.type "range",data:=.fields #[.int lo t,.int hi u,.int 1 v] },toks:=tk }:=by
 refine wpAny_pyIter_range (IsRange.new ..) (small_one h1 h2 h3 h4) ?_;have I1:Inv X pins O H { s with heap:=s.heap.push { cls:=.type "range",data:=.fields #[.int lo t,.int hi u,.int 1 v] },toks:=tk }:=I.kept λb o e=>Zae _ e;refine⟨(s.heap.push { cls:=.type "range",data:=.fields #[.int lo t,.int hi u,.int 1 v] }).objs.size,[(s.heap.push { cls:=.type "range",data:=.fields #[.int lo t,.int hi u,.int 1 v] }).objs.size],_,_,H,rfl,
  I1.kept (t':=tk) λb o e=>Zae _ e,yh _ lo (hi-lo).toNat,?_,λb hb=>?_,q⟩
 ·have e1:lo+((0:Nat):Int)*1=lo:=by simp
  have e2:(((hi-lo).toNat:Nat):Int)-((0:Nat):Int)=Builtin.Range.rangeSize lo hi 1:=by rw[rangeSize_one];split<;>omega
  show IsRangeIter _ _ (lo+((0:Nat):Int)*1) ((((hi-lo).toNat:Nat):Int)-((0:Nat):Int)) 1
  rw[e1,e2];exact Zar _ rfl
 ·have e:b=(s.heap.push { cls:=.type "range",data:=.fields #[.int lo t,.int hi u,.int 1 v] }).objs.size:=by simpa using hb
  subst e;exact I1.ut (Zal _) (I1.hok.fresh (Zal _))
def Js(ta:TA):TI:=λO H R=>ta O H λvs H1=>∃ j:Int,vs=[.int j]/\-(2^62)<=j/\j<2^62/\R (Itr 0 j.toNat) H1
theorem dR{a:Expr}{ta:TA}{p pos:Pos}(hg:Gl X "range")(hm:X.mg "range"=none)(ha:PA X [a] ta)(hs:starEach [a] X.env=[(false,eval a X.env)]:=by rfl):PI X tg (.Call (.Name "range" p) [a] [] pos) (Js ta):=by
 intro pins s O H R I h;refine Call_ (uq I hg hm boot_range (Zb9 (thn (ha pos pins s O H _ I h) ?_) hs rfl));rintro us s1 ⟨vs,H1,I1,r1,q1⟩;obtain⟨j,e,q1,q2,q⟩:=q1;subst e;cases r1 with
 |cons r rr=>
  cases rr;obtain⟨t,rfl⟩:=r;exact call_range_1 (Dh I1 (by omega) (by omega) q1 q2 (by simpa using q))
def Kd(wi:TI)(g:TG)(tb:TS):TS:=λD O H=>wi O H λJ H1=>∃ W:Nat->Nat->St->Hp->Prop,(∃ m,W 0 m O H1)/\∀ i m O H,W i m O H ->
 (J.stop i H/\D.nx O H)\/(J.go i H/\∃ N:St->Hp->Prop,(∀ O' H',N O' H'->∃ m',m'<m/\W (i+1) m' O' H')/\∀ x H',J.yld i H x H'->g x O H' λO2 H2=>tb { D with nx:=N,ct:=N,bk:=D.nx } O2 H2)
def qd(fp:List Addr)(h:Heap):List (Addr×Obj):=fp.filterMap λb=>(h.get? b).map λo=>(b,o)
theorem jf{fp:List Addr}{h:Heap}{b:Addr}{o:Obj}(hb:b∈fp)(e:h.get? b=some o):(b,o)∈qd fp h:=List.mem_filterMap.mpr ⟨b,hb,by rw[e];rfl⟩
theorem Bb{fp:List Addr}{h:Heap}{p:Addr×Obj}(hp:p∈qd fp h):p.1∈fp/\h.get? p.1=some p.2:=by
 obtain⟨b,hb,e⟩:=List.mem_filterMap.mp hp;cases q:h.get? b with
 |none=>rw[q] at e;cases e
 |some o=>
  rw[q] at e;have e':(b,o)=p:=Zac e;subst e';exact⟨hb,q⟩
theorem Inv.pinned{pins:List (Addr×Obj)}{O:St}{H:Hp}{s:Shared}{fp:List Addr}(I:Inv X pins O H s)(hf:∀ b∈fp,lK X pins H b)(ho:∀ b∈fp,∃ o,s.heap.get? b=some o/\∀ v,o.data≠.cell v):Inv X (pins++qd fp s.heap) O H s:=
 I.pJ λp hp=>(ZaG.mp hp).elim (λz=>I.pin p (Zan _ z)) λz=>by
  obtain⟨hb,e⟩:=Bb z;obtain⟨f0,f1,f2,_⟩:=hf p.1 hb;obtain⟨o,e',d⟩:=ho p.1 hb;rw[e] at e';cases e';exact⟨e,f0,f1,f2,d⟩
theorem Inv.gG{pins pl:List (Addr×Obj)}{O:St}{H:Hp}{s:Shared}(I:Inv X (pins++pl) O H s):Inv X pins O H s:=I.pJ λp hp=>I.pin p (Zan _ (Zbk _ hp))
theorem lL{iter:Expr}{body:List Stmt}{wi:TI}{g:TG}{tb:TS}{pos:Pos}(hp:PassesOwn (model X.prog X.w) X.A X.env X.xe)(hc:X.calm=true)(hi:PI X tg iter wi)(hg:PG X tg g)(hb:PSs X body tb)
  (hs:∀ x,foldedSetIterable iter X.env x=pure x:=by intro _;rfl):PS X (.For tg iter body [] pos) (Kd wi g tb):=by
 intro pins s O H D I h;refine wpAny_For (thn (hi pins s O H _ I h) λv s1 h1=>thn h1 λitv s2 h2=>?_) hs;obtain⟨it,fp,tn,J,H2,e,I2,T,st2,f2,W,⟨m0,w0⟩,turn⟩:=h2;subst e;have stat:∀ {H':Hp},(∀ b∈fp,H' b=none)->∀ b∈fp,lK X pins H' b:=λhn b hb=>⟨hn b hb,(f2 b hb).2⟩;refine codeAny_forLoop_any (λn s'=>∃ i O' H',Inv X pins O' H' s'/\tn i s'.heap/\(∀ b∈fp,H' b=none)/\W i n O' H') ?_ m0 ⟨0,O,H2,I2,st2,λb hb=>(f2 b hb).1,w0⟩;rintro n s3 ⟨i,O3,H3,I3,st3,fr3,w3⟩;rcases turn i n O3 H3 w3 with⟨stop,qn⟩|⟨go,N,hN,step⟩
 ·refine wpAny_passesOwn hp (thn (T.done X rfl rfl rfl hc i pins s3 O3 H3 X.xe I3 (stat fr3) st3 stop) ?_);rintro r s4 ⟨hr,I4⟩;subst hr;exact wpAny_execs_nil ⟨O3,H3,I4,qn⟩
 ·refine wpAny_passesOwn hp (thn (T.item X rfl rfl rfl hc i pins s3 O3 H3 X.xe I3 (stat fr3) st3 go) ?_);rintro r s4 ⟨u,hr,h4⟩;subst hr;refine wpAny_passesOwn hp (thn h4 ?_);rintro _ s5 ⟨x,H5,I5,r5,y5,st5,fr5⟩;have I5':=I5.pinned (stat fr5) (T.obj _ _ st5);refine wpAny_passesOwn hp (thn (hg _ s5 O3 H5 x u _ I5' r5 (step x H5 y5)) ?_);rintro _ s6 ⟨O6,H6,I6,q6⟩;refine wpAny_passesOwn hp (thn (hb _ s6 O6 H6 _ I6 q6) λf s7 q7=>?_);have again:∀ {O7:St}{H7:Hp},Inv X (pins++qd fp s5.heap) O7 H7 s7->N O7 H7->∃ m,m<n/\∃ i O' H',Inv X pins O' H' s7/\tn i s7.heap/\(∀ b∈fp,H' b=none)/\W i m O' H':=λ{O7 H7} I7 n7=>by
   obtain⟨m',hm,w7⟩:=hN O7 H7 n7;refine⟨m',hm,i+1,O7,H7,I7.gG,T.keep _ _ _ st5 λb hb o e=>(I7.pin (b,o) (Zan _ (Zan _ (jf hb e)))).1,λb hb=>?_,w7⟩;obtain⟨o,e,d⟩:=T.obj _ _ st5 b hb;exact(I7.pin (b,o) (Zan _ (Zan _ (jf hb e)))).2.1
  cases f with
  |next=>obtain⟨O7,H7,I7,n7⟩:=q7;exact again I7 n7
  |cont=>obtain⟨O7,H7,I7,n7⟩:=q7;exact again I7 n7
  |brk=>obtain⟨O7,H7,I7,q7⟩:=q7;exact⟨O7,H7,I7.gG,q7⟩
  |ret v=>obtain⟨x7,O7,H7,I7,r7,q7⟩:=q7;exact⟨x7,O7,H7,I7.gG,r7,q7⟩
end
noncomputable abbrev R2:=V->V->Hp->VK->Prop
def OpR(X:Cx)(f:Value->Value->Sem Value)(r:R2):Prop:=
 ∀ (pins:List (Addr×Obj)) (s:Shared) (O:St) (H:Hp) (x y:V) (v u:Value) (Q:VK),Inv X pins O H s->RelV x v->RelV y u->r x y H Q ->
  wpAny (model X.prog X.w) X.A (f v u) (EP X pins O Q) X.xe s
def UnR(X:Cx)(f:Value->Sem Value)(r:V->Hp->VK->Prop):Prop:=
 ∀ (pins:List (Addr×Obj)) (s:Shared) (O:St) (H:Hp) (x:V) (v:Value) (Q:VK),Inv X pins O H s->RelV x v->r x H Q ->
  wpAny (model X.prog X.w) X.A (f v) (EP X pins O Q) X.xe s
def gH(X:Cx)(f:Value)(r:List V->Hp->VK->Prop):Prop:=
 ∀ (pins:List (Addr×Obj)) (s:Shared) (O:St) (H:Hp) (xs:List V) (us:List Value) (Q:VK),Inv X pins O H s->Vals xs us->r xs H Q ->
  wpAny (model X.prog X.w) X.A (call f us) (EP X pins O Q) X.xe s
def tOp(r:R2)(ta tb:TE):TE:=λO H Q=>ta O H λx H1=>tb O H1 λy H2=>r x y H2 Q
def tUn(r:V->Hp->VK->Prop)(ta:TE):TE:=λO H Q=>ta O H λx H1=>r x H1 Q
def rI(C:Int->Int->Prop)(g:Int->Int->V):R2:=λx y H Q=>∃ i j,x=.int i/\y=.int j/\C i j/\Q (g i j) H
def rI0(g:Int->Int->V):R2:=λx y H Q=>∃ i j,x=.int i/\y=.int j/\Q (g i j) H
def rU(g:Int->V):V->Hp->VK->Prop:=λx H Q=>∃ i,x=.int i/\Q (g i) H
section
variable{X:Cx}{a b:Expr}{ta tb:TE}{pos:Pos}
theorem Ke(ha:PE X a ta)(hb:PE X b tb){pins:List (Addr×Obj)}{s:Shared}{O:St}{H:Hp}{R:V->V->Hp->Prop}(I:Inv X pins O H s)
  (h:ta O H λx H1=>tb O H1 λy H2=>R x y H2){Q:Value->Shared->Prop}{f:Value->Value->Sem Value}
  (hf:∀ v u s2 x y H2,Inv X pins O H2 s2->RelV x v->RelV y u->R x y H2->wpAny (model X.prog X.w) X.A (f v u) Q X.xe s2) :
  wpAny (model X.prog X.w) X.A (eval a X.env) (λv s₁=>wpAny (model X.prog X.w) X.A (eval b X.env) (λu s₂=>wpAny (model X.prog X.w) X.A (f v u) Q X.xe s₂) X.xe s₁) X.xe s:=by
 refine thn (ha pins s O H _ I h) ?_;rintro v s1 ⟨x,H1,I1,r1,q1⟩;refine thn (hb pins s1 O H1 _ I1 q1) ?_;rintro u s2 ⟨y,H2,I2,r2,q2⟩;exact hf v u s2 x y H2 I2 r1 r2 q2
theorem bw{op:Operator}{r:R2}(ho:OpR X (binaryOp op) r)(ha:PE X a ta)(hb:PE X b tb):PE X (.BinOp a op b pos) (tOp r ta tb):=by
 intro pins s O H Q I h;exact wpAny_BinOp (Ke ha hb I h λv u s2 x y H2 I2 rx ry q=>ho pins s2 O H2 x y v u Q I2 rx ry q)
theorem LC{op:UnaryOp}{r:V->Hp->VK->Prop}(ho:UnR X (unaryOp op) r)(ha:PE X a ta):PE X (.UnaryOp op a pos) (tUn r ta):=by
 intro pins s O H Q I h;exact UnaryOp_ (thn (ha pins s O H _ I h) λv s1 ⟨x,H1,I1,r1,q1⟩=>ho pins s1 O H1 x v Q I1 r1 q1)
theorem opI{f:Value->Value->Sem Value}{C:Int->Int->Prop}{g:Int->Int->Int}
  (rule:∀ (i j:Int) (t u:Tok) (s:Shared) (Q:Value->Shared->Prop) (E:Value->Shared->Prop),C i j->Q (.int (g i j) s.toks) { s with toks:=s.toks+1 }->wpAny (model X.prog X.w) X.A (f (.int i t) (.int j u)) Q E s) :
  OpR X f (rI C λi j=>.int (g i j)):=by
 intro pins s O H x y v u Q I rx ry h;obtain⟨i,j,rfl,rfl,hc,q⟩:=h;obtain⟨t,rfl⟩:=rx;obtain⟨t',rfl⟩:=ry;exact rule i j t t' s _ _ hc ⟨.int (g i j),H,I.tok _,⟨_,rfl⟩,q⟩
theorem Gx{f:Value->Value->Sem Value}{g:Int->Int->Int}
  (rule:∀ (i j:Int) (t u:Tok) (s:Shared) (Q:Value->Shared->Prop) (E:Value->Shared->Prop),Q (.int (g i j) s.toks) { s with toks:=s.toks+1 }->wpAny (model X.prog X.w) X.A (f (.int i t) (.int j u)) Q E s) :
  OpR X f (rI0 λi j=>.int (g i j)):=by
 intro pins s O H x y v u Q I rx ry h;obtain⟨i,j,rfl,rfl,q⟩:=h;obtain⟨t,rfl⟩:=rx;obtain⟨t',rfl⟩:=ry;exact rule i j t t' s _ _ ⟨.int (g i j),H,I.tok _,⟨_,rfl⟩,q⟩
theorem LK{f:Value->Value->Sem Value}{g:Int->Int->Bool}
  (rule:∀ (i j:Int) (t u:Tok) (s:Shared) (Q:Value->Shared->Prop) (E:Value->Shared->Prop),Q (.bool (g i j)) s->wpAny (model X.prog X.w) X.A (f (.int i t) (.int j u)) Q E s) :
  OpR X f (rI0 λi j=>.bl (g i j)):=by
 intro pins s O H x y v u Q I rx ry h;obtain⟨i,j,rfl,rfl,q⟩:=h;obtain⟨t,rfl⟩:=rx;obtain⟨t',rfl⟩:=ry;exact rule i j t t' s _ _ ⟨.bl (g i j),H,I,rfl,q⟩
def Kf(i j:Int):Prop:=0<j/\j<1073741824
def Di(i j:Int):Prop:=0<=j/\j<=1000000/\i.natAbs<2^64
theorem yj(k:Nat):(0:Int)<=2^k:=by
 rw[two_pow_cast];exact Zch _
theorem Kg:OpR X (binaryOp .Add) (rI0 λi j=>.int (i+j)):=Gx λ_ _ _ _ _ _ _ q=>add_int q
theorem yl:OpR X (binaryOp .Sub) (rI0 λi j=>.int (i-j)):=Gx λ_ _ _ _ _ _ _ q=>sub_int q
theorem mj:OpR X (binaryOp .FloorDiv) (rI Kf λi j=>.int (i/j)):=opI λi j _ _ _ _ _ hc q=>by
 have h1:(0:Int)<j:=hc.1;have h2:j<1073741824:=hc.2;exact floordiv_int (by omega) (by rw[Zcd i (by omega)];exact q) (.inl (PyProof.noPylong_small (by omega)))
theorem fP:OpR X (binaryOp .Mod) (rI (λ_ j=>0<j) λi j=>.int (i%j)):=opI λi j _ _ _ _ _ hc q=>by
 have h1:(0:Int)<j:=hc;exact mod_int' (by omega) (by rw[Int.fmod_eq_emod_of_nonneg i (by omega)];exact q)
theorem ym:OpR X (binaryOp .Pow) (rI Di λi j=>.int (i^j.toNat)):=opI λ_ _ _ _ _ _ _ hc q=>pow_int_small hc.1 hc.2.1 hc.2.2 q
theorem Dj:OpR X (binaryOp .LShift) (rI Di λi j=>.int (i*2^j.toNat)):=opI λ_ _ _ _ _ _ _ hc q=>lshift_int_small hc.1 hc.2.1 hc.2.2 q
theorem Dk:OpR X (binaryOp .RShift) (rI (λ_ j=>0<=j) λi j=>.int (i/2^j.toNat)):=opI λi j _ _ _ _ _ hc q=>
 rshift_int hc (by rw[Zcd i (yj _)];exact q)
theorem Kh:OpR X (binaryOp .BitAnd) (rI0 λi j=>.int (Builtin.bitAnd i j)):=Gx λ_ _ _ _ _ _ _ q=>and_int q
theorem LR:OpR X (binaryOp .BitOr) (rI0 λi j=>.int (Builtin.bitOr i j)):=Gx λ_ _ _ _ _ _ _ q=>or_int q
theorem unI{f:Value->Sem Value}{g:Int->Int}
  (rule:∀ (i:Int) (t:Tok) (s:Shared) (Q:Value->Shared->Prop) (E:Value->Shared->Prop),Q (.int (g i) s.toks) { s with toks:=s.toks+1 }->wpAny (model X.prog X.w) X.A (f (.int i t)) Q E s) :
  UnR X f (rU λi=>.int (g i)):=by
 intro pins s O H x v Q I rx h;obtain⟨i,rfl,q⟩:=h;obtain⟨t,rfl⟩:=rx;exact rule i t s _ _ ⟨.int (g i),H,I.tok _,⟨_,rfl⟩,q⟩
theorem Kl:UnR X (unaryOp .USub) (rU λi=>.int (-i)):=unI λ_ _ _ _ _ q=>neg_int q
end
section
variable{X:Cx}{a b c:Expr}{ta tb:TE}{pos:Pos}
theorem yo{pins:List (Addr×Obj)}{O:St}{H:Hp}{s:Shared}{Q:VK}{k k':Bool}(I:Inv X pins O H s)(q:Q (.bl k) H)(e:k=k'):EP X pins O Q (.bool k') s:=by
 subst e;exact⟨.bl k,H,I,rfl,q⟩
theorem Ma:OpR X (compareOp .Lt) (rI0 λi j=>.bl (decide (i<j))):=LK λ_ _ _ _ _ _ _ q=>lt_int q
theorem Mf:OpR X (compareOp .GtE) (rI0 λi j=>.bl (decide (j<=i))):=LK λ_ _ _ _ _ _ _ q=>ge_int q
theorem Bc:OpR X (compareOp .Lt) (λx y H Q=>∃ i j,x=.str i/\y=.str j/\Q (.bl (decide (i.cps.toList<j.cps.toList))) H):=by
 intro pins s O H x y v u Q I rx ry h;obtain⟨i,j,rfl,rfl,q⟩:=h;obtain⟨t,rfl⟩:=rx;obtain⟨t',rfl⟩:=ry;exact lt_str (yo I q rfl)
theorem Gy:OpR X (compareOp .IsNot) (λx y H Q=>y=.non/\Q (.bl (!decide (x=.non))) H):=by
 intro pins s O H x y v u Q I rx ry h;obtain⟨rfl,q⟩:=h;cases ry;refine isnot_none_gen (yo I q ?_);cases x<;>first
  |(cases rx;rfl)
  |(obtain⟨t,rfl⟩:=rx;rfl)
theorem uv:OpR X (compareOp .NotIn) (λx y H Q=>∃ i j,x=.str i/\y=.str j/\Q (.bl (!(!(Builtin.Str.occurrences j i 0 j.length 1).isEmpty))) H):=by
 intro pins s O H x y v u Q I rx ry h;obtain⟨i,j,rfl,rfl,q⟩:=h;obtain⟨t,rfl⟩:=rx;obtain⟨t',rfl⟩:=ry;exact notIn_str (yo I q rfl)
theorem OpR.or{f:Value->Value->Sem Value}{r r':R2}(h:OpR X f r)(h':OpR X f r'):OpR X f (λx y H Q=>r x y H Q\/r' x y H Q):=by
 intro pins s O H x y v u Q I rx ry q;rcases q with q|q
 ·exact h pins s O H x y v u Q I rx ry q
 ·exact h' pins s O H x y v u Q I rx ry q
theorem du(b:Expr){op:CmpOp}(h:op≠.In:=by decide)(h2:op≠.NotIn:=by decide):behindInMarks op b=false:=by
 have e1:(op==CmpOp.In)=false:=by cases op<;>first|rfl|exact absurd rfl h
 have e2:(op==CmpOp.NotIn)=false:=by cases op<;>first|rfl|exact absurd rfl h2
 cases b<;>simp[behindInMarks,e1,e2]
theorem uw{op:CmpOp}{r:R2}(ho:OpR X (compareOp op) r)(ha:PE X a ta)(hb:PE X b tb)(hm:behindInMarks op b=false):PE X (.Compare a [op] [b] pos) (tOp r ta tb):=by
 intro pins s O H Q I h;exact wpAny_Compare1 (Ke ha hb I h λv u s2 x y H2 I2 rx ry q=>ho pins s2 O H2 x y v u Q I2 rx ry q) hm
def Jt(t:TE):TT:=λO H Q=>t O H λx H'=>∃ k,x=.bl k/\Q k H'
theorem bU{op:CmpOp}{r:R2}(ho:OpR X (compareOp op) r)(ha:PE X a ta)(hb:PE X b tb)(hm:behindInMarks op b=false):PT X (.Compare a [op] [b] pos) (Jt (tOp r ta tb)):=by
 intro pins s O H Q I h;refine wpAny_isTrue_Compare1 (thn (ha pins s O H _ I h) λv s1 ⟨x,H1,I1,r1,q1⟩=>thn (hb pins s1 O H1 _ I1 q1) λu s2 ⟨y,H2,I2,r2,q2⟩=>
  thn (ho pins s2 O H2 x y v u _ I2 r1 r2 q2) λc s3 ⟨z,H3,I3,r3,k,e,q3⟩=>?_) hm
 subst e;cases r3;exact wpAny_truthy_bool ⟨H3,I3,q3⟩
theorem ux:(sizeLine:Nat)<2^63:=by rw[sizeLine_eq];decide
theorem yp:OpR X (binaryOp .Add) (λx y H Q=>∃ i j,x=.str i/\y=.str j/\i.length+j.length<=sizeLine/\Q (.str (i++j)) H):=by
 intro pins s O H x y v u Q I rx ry h;obtain⟨i,j,rfl,rfl,hz,q⟩:=h;obtain⟨t,rfl⟩:=rx;obtain⟨t',rfl⟩:=ry;exact add_str (λt' tk=>⟨.str (i++j),H,I.tok _,⟨_,rfl⟩,q⟩) hz
theorem vals1{x:V}{us:List Value}(r:Vals [x] us):∃ u,us=[u]/\RelV x u:=by
 cases r with
 |cons r1 r2=>cases r2;exact⟨_,rfl,r1⟩
theorem vals2{x y:V}{us:List Value}(r:Vals [x,y] us):∃ u w',us=[u,w']/\RelV x u/\RelV y w':=by
 cases r with
 |cons r1 r2=>
  cases r2 with
  |cons r3 r4=>cases r4;exact⟨_,_,rfl,r1,r3⟩
theorem Be(hc:X.calm=true):gH X (.builtin "max") (λxs H Q=>∃ i j,xs=[.int i,.int j]/\Q (.int (if j>i then j else i)) H):=by
 intro pins s O H xs us Q I r h;obtain⟨i,j,rfl,q⟩:=h;obtain⟨u,w',rfl,⟨t,rfl⟩,⟨t',rfl⟩⟩:=vals2 r;refine max_two_ints (I.ok.hd hc) λh' tk k=>⟨_,H,I.kept k,?_,q⟩;by_cases hj:j>i
 ·rw[Zat hj,Zat hj];exact⟨_,rfl⟩
 ·rw[Zax hj,Zax hj];exact⟨_,rfl⟩
theorem Bf(hc:X.calm=true):gH X (.builtin "min") (λxs H Q=>∃ i j,xs=[.int i,.int j]/\Q (.int (if j<i then j else i)) H):=by
 intro pins s O H xs us Q I r h;obtain⟨i,j,rfl,q⟩:=h;obtain⟨u,w',rfl,⟨t,rfl⟩,⟨t',rfl⟩⟩:=vals2 r;refine min_two_ints (I.ok.hd hc) λh' tk k=>⟨_,H,I.kept k,?_,q⟩;by_cases hj:j<i
 ·rw[Zat hj,Zat hj];exact⟨_,rfl⟩
 ·rw[Zax hj,Zax hj];exact⟨_,rfl⟩
def Mi(K:Frag)(x:V)(H:Hp)(n:Nat):Prop:=
 match x with
 |.str y=>y.length<=sizeLine/\n=y.length
 |.byt y=>y.size<=sizeLine/\n=y.size
 |.ref p=>(∃ xs,SqL K H p xs/\n=xs.length)\/∃ xs,SqT K H p xs/\n=xs.length
 |_=>False
theorem bH:gH X (.builtin "len") (λxs H Q=>∃ x n,xs=[x]/\Mi X.K x H n/\Q (.int n) H):=by
 intro pins s O H xs us Q I r h;obtain⟨x,n,rfl,e,q⟩:=h;obtain⟨u,rfl,rx⟩:=vals1 r;have hl:=ux;have hs:sizeLine=16777216:=sizeLine_eq;cases x with
 |str y=>
  obtain⟨t,rfl⟩:=rx;obtain⟨hy,e'⟩:y.length<=sizeLine/\n=y.length:=e;subst e';exact len_str (by lia) ⟨.int _,H,I.tok _,⟨_,rfl⟩,q⟩
 |byt y=>
  obtain⟨t,rfl⟩:=rx;obtain⟨hy,e'⟩:y.size<=sizeLine/\n=y.size:=e;subst e';exact PySem.W.len_bytes (by lia) ⟨.int _,H,I.tok _,⟨_,rfl⟩,q⟩
 |ref p=>
  cases rx;have e':(∃ xs,SqL X.K H p xs/\n=xs.length)\/∃ xs,SqT X.K H p xs/\n=xs.length:=e;rcases e' with⟨xs,hx,e'⟩|⟨xs,hx,e'⟩
  ·subst e';obtain⟨its,r',pl,hz⟩:=I.list hx;have hlen:=r'.length;exact Calls.call_len_list pl.isList (by simp only[List.size_toArray];lia) ⟨.int xs.length,H,I.tok _,⟨_,by simp only[List.size_toArray];rw[hlen]⟩,q⟩
  ·subst e';obtain⟨its,r',pl,hz⟩:=I.tuple hx;have hlen:=r'.length;exact len_tuple pl (by simp only[List.size_toArray];lia) ⟨.int xs.length,H,I.tok _,⟨_,by simp only[List.size_toArray];rw[hlen]⟩,q⟩
 |_=>exact(show False from e).elim
end
theorem nW.some_of{v:V}{o:Option Value}(r:nW (some v) o):∃ u,o=some u/\RelV v u:=by
 cases o with
 |none=>exact(show False from r).elim
 |some u=>exact⟨u,rfl,r⟩
structure cz(k:Nat)(A:Around):Prop where
 hd:A.handled=none
 dp:A.depth+3*k+5<recursionLimit
 un:A.units+16*k+200<cLine
theorem cz.mono{j k:Nat}{A:Around}(r:cz k A)(h:j<=k):cz j A:=⟨r.hd,by have:=r.dp;lia,by have:=r.un;lia⟩
theorem cz.deeper{k:Nat}{A:Around}(r:cz (k+1) A)(env:Env):cz k (A.deeper env):=
 ⟨r.hd,by have:=r.dp;show A.depth+1+3*k+5<_;lia,by have:=r.un;show A.units+3+16*k+200<_;lia⟩
theorem cz.in1{k:Nat}{A:Around}(r:cz (k+1) A):cz k A.in1:=
 ⟨r.hd,by have:=r.dp;show A.depth+3*k+5<_;omega,by have:=r.un;show A.units+1+16*k+200<_;omega⟩
theorem cz.depth{k:Nat}{A:Around}(r:cz k A):A.depth<recursionLimit:=by have:=r.dp;omega
theorem cz.units{k:Nat}{A:Around}(r:cz k A):A.units+64<cLine:=by have:=r.un;omega
def lr:TA:=λ_ H Q=>Q [] H
def dw(ta:TE)(tr:TA):TA:=λO H Q=>ta O H λx H1=>tr O H1 λxs H2=>Q (x::xs) H2
section
variable{X:Cx}{e:Expr}{es:List Expr}{te:TE}{t:TA}{pos:Pos}
theorem aA:PA X [] lr:=λ_ _ _ _ H Q I h=>Calls.spliced_nil ⟨[],H,I,.nil,h⟩
theorem ak(ha:PE X e te)(hr:PA X es t)(hs:starEach (e::es) X.env=(false,eval e X.env)::starEach es X.env:=by rfl):PA X (e::es) (dw te t):=by
 intro pos pins s O H Q I h;rw[hs];show wpAny _ _ (spliced ((false,eval e X.env)::backTo pos (starEach es X.env))) _ _ s
 refine Calls.spliced_cons (thn (ha pins s O H _ I h) ?_);rintro u s1 ⟨x,H1,I1,r1,q1⟩;exact thn (hr pos pins s1 O H1 _ I1 q1) λus s2 ⟨xs,H2,I2,r2,q2⟩=>⟨x::xs,H2,I2,.cons r1 r2,q2⟩
def Km(t:TA):TE:=λO H Q=>t O H λxs H1=>xs.length<=sizeLine/\∀ p,H1 p=none->Q (.ref p) (upd H1 p (.tup xs))
def Mj(t:TA):TE:=λO H Q=>t O H λxs H1=>xs.length<=sizeLine/\∀ p,H1 p=none->Q (.ref p) (upd H1 p (.lst xs))
theorem nY{x1}(h:PA X es t):PE X (.Tuple es x1 pos) (Km t):=by
 intro pins s O H Q I hq;refine wpAny_Tuple_spliced (thn (h pos pins s O H _ I hq) λus s1 ⟨xs,H1,I1,r,z,q⟩=>⟨by rw[<-r.length];exact z,?_⟩)
 have hf:H1 s1.heap.objs.size=none:=I1.hok.fresh (Zal _);refine⟨.ref s1.heap.objs.size,upd H1 s1.heap.objs.size (.tup xs),I1.laid (t':=s1.toks) (λb u e=>Zae _ e) (Zal _) ?_,rfl,q _ hf⟩;exact⟨z,us,r,fj.mk (Zar _ rfl)⟩
theorem jH(h:PA X es t):PE X (.List es pos) (Mj t):=by
 intro pins s O H Q I hq;refine wpAny_List_spliced (thn (h pos pins s O H _ I hq) λus s1 ⟨xs,H1,I1,r,z,q⟩=>⟨by rw[<-r.length];exact z,?_⟩)
 have hf:H1 s1.heap.objs.size=none:=I1.hok.fresh (Zal _);refine⟨.ref s1.heap.objs.size,upd H1 s1.heap.objs.size (.lst xs),I1.laid (t':=s1.toks) (λb u e=>Zae _ e) (Zal _) ?_,rfl,q _ hf⟩;exact⟨z,us,0,r,Zar _ rfl⟩
end
noncomputable abbrev Sp:=List V->Hp->VK->XK->Prop
noncomputable abbrev CXT:=List Env->Hp->Shared->XK->Value->Shared->Prop
structure Gz(P:Program)(w:World)(K:Frag)(mg:Str->Option Value)(base:Heap)(A:Around)(outer:List Env)(s:Shared)(H:Hp):Prop where
 frames:A.frames=some outer
 mod:Mod K mg base
 bs:∀ b o,base.get? b=some o->s.heap.get? b=some o/\H b=none
 bsz:base.objs.size<=s.heap.objs.size
 lJ:s.heap.FunFrames base outer
 frf:∀ b∈frs outer,H b=none
 hok:HOk P w H s.heap
 bare:AllBare s.gens
def CE(outer:List Env)(P:Program)(w:World)(H:Hp)(s:Shared)(Q:VK)(u:Value)(s':Shared):Prop:=
 ∃ v H',s'.os=s.os/\AllBare s'.gens/\Un (frs outer) [] H H' s.heap s'.heap/\HOk P w H' s'.heap/\RelV v u/\Q v H'
def CR(CX:CXT)(outer:List Env)(P:Program)(w:World)(H:Hp)(s:Shared)(Q:VK)(E:XK)(r:Result)(s':Shared):Prop:=
 match r with
 |.ok (.ret u)=>CE outer P w H s Q u s'
 |.ok _=>False
 |.error e=>CX outer H s E e s'
structure qe(P:Program)(w:World)(K:Frag)(mg:Str->Option Value)(base:Heap)(CX:CXT)(k:Nat)(f:Addr)(fd:FuncData)(ps:List Str)(sp:Sp):Prop where
 len:∀ vs H Q E,sp vs H Q E->vs.length=ps.length
 run:∀ (A:Around) (outer:List Env) (s:Shared) (H:Hp) (args:Args) (us:List Value) (vs:List V) (Q:VK) (E:XK),cz k A->Gz P w K mg base A outer s H->BindsTo s fd args (ps.zip us)->Vals vs us->sp vs H Q E ->
  codeAny (model P w) A (.call (.ref f) args) (CR CX outer P w H s Q E) s
section
variable{X:Cx}{pins:List (Addr×Obj)}{O:St}{H:Hp}{s s':Shared}
theorem Inv.env0(I:Inv X pins O H s):Gz X.prog X.w X.K X.mg X.base X.A X.stack s H:=
 ⟨I.ok.frames,I.ok.mod,I.bs,ZaS I.ok.bsz I.sz,I.stack,I.zx,I.hok,I.bare⟩
theorem Inv.after{Q:VK}{u:Value}(I:Inv X pins O H s)(h:CE X.stack X.prog X.w H s Q u s'):EP X pins O Q u s':=by
 obtain⟨v,H',os,bare,un,hok,r,q⟩:=h;obtain⟨hh,g,d,t,os'⟩:=s';obtain rfl:os'=s.os:=os;exact⟨v,H',I.call (h':=hh) (g':=g) (d':=d) (t':=t) (ch:=[]) un hok bare (λb z=>absurd z (by simp)),r,q⟩
end
def qg(sp:Sp)(dvs:List V)(E:XK)(t:TA):TE:=λO H Q=>t O H λvs H1=>sp (vs++dvs) H1 Q E
def Binds(K:Frag)(fd:FuncData)(ps:List Str)(ds:List Value):Prop:=
 ∀ (s:Shared) (us:List Value),K.In s.heap->(us++ds).length=ps.length->BindsTo s fd ⟨us,[]⟩ (ps.zip (us++ds))
theorem Binds.all{K:Frag}{fd:FuncData}{ps:List Str}(h:∀ us:List Value,us.length=ps.length->bindArgs fd ⟨us,[]⟩=pure (ps.zip us)):Binds K fd ps []:=λs us _ hl=>by
 rw[ZaX] at hl ⊢;exact .of_eq (h us hl)
def yr(CX:CXT)(X:Cx)(E:XK):Prop:=∀ (pins:List (Addr×Obj)) (O:St) (H:Hp) (s:Shared) (e:Value) (s':Shared),Inv X pins O H s->CX X.stack H s E e s'->X.xe e s'
section
variable{X:Cx}{CX:CXT}{k:Nat}{f:Addr}{fd:FuncData}{ps:List Str}{sp:Sp}{dvs:List V}{ds:List Value}{E:XK}{x:Str}{p pos:Pos}{e:Expr}{es:List Expr}{t:TA}
theorem Ko{pins:List (Addr×Obj)}{O:St}{H:Hp}{s:Shared}{Q:VK}{us:List Value}{vs:List V}(F:qe X.prog X.w X.K X.mg X.base CX k f fd ps sp)(hr:cz k X.A)(hb:Binds X.K fd ps ds)(hd:Vals dvs ds)(hx:yr CX X E)
  (I:Inv X pins O H s)(r:Vals vs us)(h:sp (vs++dvs) H Q E):wpAny (model X.prog X.w) X.A (call (.ref f) us) (EP X pins O Q) X.xe s:=by
 have r2:Vals (vs++dvs) (us++ds):=r.append hd;have hl:(us++ds).length=ps.length:=by rw[<-r2.length];exact F.len _ _ _ _ h
 refine wpAny_call (codeAny_mono (F.run X.A X.stack s H ⟨us,[]⟩ (us++ds) (vs++dvs) Q E hr I.env0 (hb s us I.kIn hl) r2 h) λr s' hq=>?_);cases r with
 |error e=>exact hx pins O H s e s' I hq
 |ok fl=>
  cases fl with
  |ret u=>exact I.after hq
  |next=>exact False.elim hq
  |brk=>exact False.elim hq
  |cont=>exact False.elim hq
theorem GC(F:qe X.prog X.w X.K X.mg X.base CX k f fd ps sp)(hr:cz k X.A)(hg:Gl X x)(hm:X.mg x=some (.ref f))(hk:keepIn X.K (.ref f)=true)(hb:Binds X.K fd ps ds)(hd:Vals dvs ds)(hx:yr CX X E)
  (ha:PA X (e::es) t)(hdb:(x==("__debug__":Str))=false:=by decide)(he:starEach (e::es) X.env=(false,eval e X.env)::starEach es X.env:=by rfl)(hpl:(backTo pos (starEach es X.env)).any (·.1)=false:=by rfl) :
  PE X (.Call (.Name x p) (e::es) [] pos) (qg sp dvs E t):=by
 intro pins s O H Q I h;refine wpAny_Call_Name_kw (Gu I hg hm ?_ hdb);refine PySem.W.callWith_K (h₀:=X.base) I.ok.mod.kin hk (thn (ha pos pins s O H _ I h) λus s1 ⟨vs,H1,I1,r,q⟩=>⟨I1.kIn,?_⟩) he hpl;exact Ko F hr hb hd hx I1 r q
end
structure bV(N P:List Str)(sc:Scope):Prop where
 kind:sc.kind=.function
 co:sc.isCoroutine=false
 gen:sc.isGenerator=false
 nd:N.Nodup
 pre:N.take P.length=P
 par:∀ x∈P,sc.names.lookup x=some .local\/sc.names.lookup x=some .cell
 nofree:∀ y∈sc.names,y.2≠.free
theorem sX{kindOf:Str->Option NameKind}{x:Str}:∀ {binds:List (Str×Value)}{m:Str->Option Value},(∀ v,(x,v) ∉ binds)->bindL kindOf binds m x=m x
 |[],_,_=>rfl
 |(n,v)::r,m,h=>by
  unfold bindL;rw[sX λw hw=>h w (Zak _ hw)];split
  ·have:x≠n:=by rintro rfl;exact h v Zaj
   simp[this]
  ·rfl
theorem sY{kindOf:Str->Option NameKind}{x:Str}:∀ {binds:List (Str×Value)}{m:Str->Option Value},(∀ v,(x,v) ∉ binds)->bindC kindOf binds m x=m x
 |[],_,_=>rfl
 |(n,v)::r,m,h=>by
  unfold bindC;rw[sY λw hw=>h w (Zak _ hw)];split
  ·rfl
  ·have:x≠n:=by rintro rfl;exact h v Zaj
   simp[this]
theorem sZ{kindOf:Str->Option NameKind}{x:Str}{v:Value}:∀ {P:List Str}{vs:List Value}{i:Nat}{m:Str->Option Value},P.Nodup->P[i]?=some x->vs[i]?=some v->kindOf x=some .local ->
  bindL kindOf (P.zip vs) m x=some v
 |[],_,_,_,_,h,_,_=>by simp at h
 |_::_,[],_,_,_,_,h,_=>by simp at h
 |p::P,w::vs,0,m,nd,h1,h2,hk=>by
  simp at h1 h2;subst h1;subst h2;show bindL kindOf ((p,w)::P.zip vs) m p=_
  unfold bindL;rw[sX λv hv=>(ZaM.mp nd).1 (Zcw hv).1,Zat hk];simp
 |p::P,w::vs,i+1,m,nd,h1,h2,hk=>by
  show bindL kindOf ((p,w)::P.zip vs) m x=_
  unfold bindL;exact sZ (i:=i) (ZaM.mp nd).2 (by simpa using h1) (by simpa using h2) hk
theorem tu{kindOf:Str->Option NameKind}{x:Str}{v:Value}:∀ {P:List Str}{vs:List Value}{i:Nat}{m:Str->Option Value},P.Nodup->P[i]?=some x->vs[i]?=some v->kindOf x≠some .local ->
  bindC kindOf (P.zip vs) m x=some v
 |[],_,_,_,_,h,_,_=>by simp at h
 |_::_,[],_,_,_,_,h,_=>by simp at h
 |p::P,w::vs,0,m,nd,h1,h2,hk=>by
  simp at h1 h2;subst h1;subst h2;show bindC kindOf ((p,w)::P.zip vs) m p=_
  unfold bindC;rw[sY λv hv=>(ZaM.mp nd).1 (Zcw hv).1,Zax hk];simp
 |p::P,w::vs,i+1,m,nd,h1,h2,hk=>by
  show bindC kindOf ((p,w)::P.zip vs) m x=_
  unfold bindC;exact tu (i:=i) (ZaM.mp nd).2 (by simpa using h1) (by simpa using h2) hk
def start(N:List Str)(vs:List V):St:=vs.map some++List.replicate (N.length-vs.length) none
def vU(CX:CXT)(P:Program)(w:World)(K:Frag)(mg:Str->Option Value)(base:Heap)(N:List Str)(qual:Str)(scope:Scope)(f:Addr)(cd:Value)(A:Around)(outer:List Env)(s:Shared)(H:Hp)(E:XK):Cx where
 prog:=P
 w:=w
 K:=K
 mg:=mg
 base:=base
 A:=A.deeper (envOfC qual scope s.heap.objs.size f cd)
 N:=N
 s₀:=s
 H₀:=H
 env:=envOfC qual scope s.heap.objs.size f cd
 outer:=outer
 stack:=envOfC qual scope s.heap.objs.size f cd::outer
 ex:=[]
 calm:=true
 fn:=λ_=>true
 pn:=[]
 xe:=λe s'=>wpAny (model P w) (A.deeper (envOfC qual scope s.heap.objs.size f cd)) (leaving (envOfC qual scope s.heap.objs.size f cd) e) (λ_ s''=>CX outer H s E e s'') (λe' s''=>CX outer H s E e' s'') s'
theorem vV{sc:Scope}{n:Nat}{x:Str}(h:sc.names.lookup x=some .cell):∃ c,(cellsFrom n sc.names []).lookup x=some c:=by
 have q:=PySem.W.cellsFrom_some sc.names n [] (.inl h);exact Option.isSome_iff_exists.mp q
theorem Bg{CX:CXT}{P:Program}{w:World}{K:Frag}{mg:Str->Option Value}{base:Heap}{N ps:List Str}{qual:Str}{scope:Scope}{f:Addr}{cd:Value}{A:Around}{outer:List Env}{s s1:Shared}{H:Hp}{E:XK}{us:List Value}{vs:List V}
  (S:bV N ps scope)(hd:A.handled=none)(e0:Gz P w K mg base A outer s H)(hl:vs.length=ps.length)(r:Vals vs us)
  (x:InCallC s s.heap.objs.size (bindL (envOfC qual scope s.heap.objs.size f cd).kindOf (ps.zip us) λ_=>none) (cellsFrom (s.heap.objs.size+1) scope.names []) (bindC (envOfC qual scope s.heap.objs.size f cd).kindOf (ps.zip us) λ_=>none) s1) :
  Inv (vU CX P w K mg base N qual scope f cd A outer s H E) [] (start N vs) H s1:=by
 have hpl:ps.length<=N.length:=by have:=Zba List.length S.pre;rw[Zb2] at this;lia
 obtain⟨h1,tk,rfl,hk⟩:=x.done;have noA:∀ b:Addr,b ∉ (vU CX P w K mg base N qual scope f cd A outer s H E).ex:=λb z=>absurd (show b∈([]:List Addr) from z) (by simp)
 refine⟨⟨e0.mod,S.kind,rfl,rfl,Zal _,λy z c h1 h2=>?_,λy hy=>?_,λy c _ h=>?_,λ_=>hd,Around.frames_deeper e0.frames,.inr ⟨rfl,rfl⟩,λb z=>absurd z (noA b),e0.bs,e0.bsz,λb _ _=>noA b,λb z=>absurd z (noA b),e0.lJ,e0.frf⟩,
  rfl,e0.bare,Un.kept hk,⟨_,x.toInCall.ns,λi y v h1 h2 h3=>?_⟩,λy c h=>⟨_,x.cell y c h⟩,e0.hok.fresh (Zal _),λy c h=>?_,λp hp=>absurd (show p∈([]:List (Addr×Obj)) from hp) (by simp),e0.hok.kept hk,?_⟩
 ·exact name_of_addr x.apart (ZaT h1) (ZaT h2)
 ·have hy:scope.names.lookup y=some .cell\/scope.names.lookup y=some .free:=hy;rcases hy with hy|hy
  ·exact vV hy
  ·exact absurd rfl (S.nofree _ (ZaT hy))
 ·exact ZaA (x.above y c (ZaT h))
 ·have hi:i<vs.length:=by
   unfold start at h2;by_cases hi:i<vs.length
   ·exact hi
   ·rw[Zap (by simpa using hi)] at h2
    rw[Za5] at h2;split at h2<;>cases h2
  have ha:vs[i]?=some v:=by
   unfold start at h2;rw[Zah (by simpa using hi),Zaf] at h2
   cases e:vs[i]? with
   |none=>rw[e] at h2;cases h2
   |some a=>rw[e] at h2;cases h2;rfl
  obtain⟨u,hu,rv⟩:=r.get ha;have hp:ps[i]?=some y:=by
   rw[<-S.pre,List.getElem?_take_of_lt (by lia)];exact h1
  have ndP:ps.Nodup:=by rw[<-S.pre];exact S.nd.sublist (List.take_sublist _ _)
  refine⟨u,rv,?_⟩;rcases S.par y (Zao hp) with k|k
  ·exact .inl ⟨k,sZ ndP hp hu k⟩
  ·obtain⟨c,e⟩:=vV (n:=s.heap.objs.size+1) k;refine .inr ⟨.inl k,c,e,?_⟩;have q:=x.cell y c e;rw[tu ndP hp hu (by show scope.names.lookup y≠_;rw[k];decide)] at q
   exact q
 ·exact e0.hok.fresh (ZaA (x.above y c (ZaT h)))
 ·unfold start;show _=N.length
  rw[Zaz,Zab,Zbq];lia
theorem Ju{CX:CXT}{P:Program}{w:World}{K:Frag}{mg:Str->Option Value}{base:Heap}{k:Nat}{f:Addr}{name qual:Str}{params:Arguments}{body:List Stmt}{scope:Scope}{dV kV doc pm cdv ct oc:Value}{an od:Option Addr}
  {osl:Array (Option Value)}{N ps:List Str}{sp:Sp}(lk:K.lookup f=some ⟨oc,od,.func (fnOf name qual params body scope dV kV doc pm an cdv ct),osl⟩)(hcd:codeIn K cdv qual=true)(S:bV N ps scope)
  (len:∀ vs H Q E,sp vs H Q E->vs.length=ps.length)
  (hbody:∀ (A:Around) (outer:List Env) (s:Shared) (H:Hp) (vs:List V) (Q:VK) (E:XK),cz k (A.deeper (envOfC qual scope s.heap.objs.size f cdv))->sp vs H Q E ->
   ∃ t,PSs (vU CX P w K mg base N qual scope f cdv A outer s H E) body t/\t { nx:=λ_ H'=>Q .non H',rt:=Q } (start N vs) H) :
  qe P w K mg base CX (k+1) f (fnOf name qual params body scope dV kV doc pm an cdv ct) ps sp:=by
 refine⟨len,λA outer s H args us vs Q E hr e0 hb r hsp=>?_⟩;have hl:=len _ _ _ _ hsp;have KX:K.In s.heap:=e0.mod.kin.keeps λb o e=>(e0.bs b o e).1;have lim:s.heap.NoLimit:=e0.mod.nolimit.keeps λb o e=>(e0.bs b o e).1;have hkind:∀ y∈ps.zip us,scope.names.lookup y.1=some .local\/(scope.names.lookup y.1=some .cell/\((cellsFrom (s.heap.objs.size+1) scope.names []).lookup y.1).isSome=true):=λ⟨n,v⟩ hy=>by
  rcases S.par n (Zcw hy).1 with q|q
  ·exact .inl q
  ·exact .inr ⟨q,PySem.W.cellsFrom_some _ _ _ (.inl q)⟩
 refine codeAny_call_function hr.depth (KX _ _ lk) rfl S.co S.gen rfl (PySem.W.codeRec_of KX hcd) (hb _ _ _ _ ?_);refine wpAny_newFunctionEnv_cells S.kind hkind λenv he s1 x=>?_;subst he;refine⟨lim.keeps x.toInCall.keep,codeAny_func ?_⟩;obtain⟨t,ht,hq⟩:=hbody A outer s H vs Q E (hr.deeper _) hsp;have I:Inv (vU CX P w K mg base N qual scope f cdv A outer s H E) [] (start N vs) H s1:=Bg S hr.hd e0 hl r x;refine ZaO (ht [] s1 (start N vs) H _ I hq) (λfl s' hs=>?_) λe s' hs=>hs;have fin:∀ {O':St}{H':Hp}{v:V}{u:Value},Inv (vU CX P w K mg base N qual scope f cdv A outer s H E) [] O' H' s'->RelV v u->Q v H'->CE outer P w H s Q u s':=
  λ{O' H' v u} J rv q=>⟨v,H',J.os,J.bare,J.base,J.hok,rv,q⟩
 cases fl with
 |ret u=>
  obtain⟨v,O',H',J,rv,q⟩:=hs;exact fin J rv q
 |next=>
  obtain⟨O',H',J,q⟩:=hs;exact fin (v:=V.non) (u:=Value.none) J rfl q
 |brk=>
  obtain⟨_,_,_,q⟩:=hs;exact False.elim q
 |cont=>
  obtain⟨_,_,_,q⟩:=hs;exact False.elim q
section
variable{X:Cx}{x:Str}{p pos:Pos}{e:Expr}{es:List Expr}{t:TA}{id T:String}{r:List V->Hp->VK->Prop}
def tCB(r:List V->Hp->VK->Prop)(t:TA):TE:=λO H Q=>t O H λvs H1=>r vs H1 Q
theorem bf(hc:gH X (.builtin id) r)(hg:Gl X x)(hm:X.mg x=none)(hv:bootBuiltins x=some (.builtin id))(ha:PA X (e::es) t)(hn:x≠"__name__":=by decide)(hdb:(x==("__debug__":Str))=false:=by decide)
  (he:starEach (e::es) X.env=(false,eval e X.env)::starEach es X.env:=by rfl)(hpl:(backTo pos (starEach es X.env)).any (·.1)=false:=by rfl):PE X (.Call (.Name x p) (e::es) [] pos) (tCB r t):=by
 intro pins s O H Q I h;refine wpAny_Call_Name_kw (uq I hg hm hv ?_ hn hdb);exact PyProof.Rows.callWith_builtin1 (thn (ha pos pins s O H _ I h) λus s1 ⟨vs,H1,I1,r1,q1⟩=>hc pins s1 O H1 vs us Q I1 r1 q1) he hpl
theorem gB(hc:gH X (.type T) r)(hg:Gl X x)(hm:X.mg x=none)(hv:bootBuiltins x=some (.type T))(ha:PA X (e::es) t)(hn:x≠"__name__":=by decide)(hdb:(x==("__debug__":Str))=false:=by decide)
  (he:starEach (e::es) X.env=(false,eval e X.env)::starEach es X.env:=by rfl)(hpl:(backTo pos (starEach es X.env)).any (·.1)=false:=by rfl):PE X (.Call (.Name x p) (e::es) [] pos) (tCB r t):=by
 intro pins s O H Q I h;refine wpAny_Call_Name_kw (uq I hg hm hv ?_ hn hdb);exact Zb9 (thn (ha pos pins s O H _ I h) λus s1 ⟨vs,H1,I1,r1,q1⟩=>hc pins s1 O H1 vs us Q I1 r1 q1) he hpl
end
end L2
namespace HT
open PySem PyProof.Rows
section
variable{prog:Program}{w:World}{A:Around}{E:Value->Shared->Prop}{s:Shared}
theorem GF{t b:Addr}{vs ws:List Value}{Q:Value->Shared->Prop}(ht:IsTup s.heap t vs.toArray)(hb:IsTup s.heap b ws.toArray)(hv:vs≠[])
  (h1:ws=[]->Q (.ref t) s)(h2:ws≠[]->Q (.ref s.heap.objs.size) { s with heap:=s.heap.push { cls:=.type "tuple",data:=.seq (vs++ws).toArray } })
  (hsz:vs.length+ws.length<=sizeLine):wpAny (model prog w) A (binaryOp .Add (.ref t) (.ref b)) Q E s:=by
 obtain⟨⟨cls,dd,data,sl⟩,ho,hc,n,hd⟩:=id ht;obtain⟨⟨cls2,dd2,data2,sl2⟩,ho2,hc2,n2,hd2⟩:=id hb;simp only at hc hd hc2 hd2;subst hc hd hc2 hd2;have e:vs.toArray++ws.toArray=(vs++ws).toArray:=by simp
 by_cases hw:ws=[]
 ·exact concat_meets ⟨_,ho,rfl⟩ ⟨_,ho2,rfl⟩ noFill_tuple_add seq_tuple_add PySem.F.slot_tuple_add PySem.F.entry_tuple_add (PySem.F.args_tuple_add_2 _ _)
   (tuple_addW1 t b vs.toArray ws.toArray n n2 dd dd2 sl sl2 (by simpa using hv) (by simp[hw])) ⟨ho,ho2,h1 hw⟩
 ·refine concat_meets ⟨_,ho,rfl⟩ ⟨_,ho2,rfl⟩ noFill_tuple_add seq_tuple_add PySem.F.slot_tuple_add PySem.F.entry_tuple_add (PySem.F.args_tuple_add_2 _ _)
   (tuple_addW2 t b vs.toArray ws.toArray n n2 dd dd2 sl sl2 (by simpa using hv) (by simpa using hw) (by rw[List.size_toArray,List.size_toArray];exact hsz)) ⟨ho,ho2,?_⟩
  rw[e];exact h2 hw
end
end HT
namespace L2
open PySem PySem.Spec PyProof.Rows
noncomputable abbrev TO:=St->Hp->(Option Int->Hp->Prop)->Prop
def PO(X:Cx)(e:Option Expr)(t:TO):Prop:=
 ∀ (pins:List (Addr×Obj)) (s:Shared) (O:St) (H:Hp) (Q:Option Int->Hp->Prop),Inv X pins O H s->t O H Q ->
  wpAny (model X.prog X.w) X.A (evalPart e X.env) (λu s'=>∃ o H',Inv X pins O H' s'/\IsPart u o/\Q o H') X.xe s
def zy:TO:=λ_ H Q=>Q none H
def Jv(t:TE):TO:=λO H Q=>t O H λx H1=>∃ i,x=.int i/\Q (some i) H1
section
variable{X:Cx}{e:Expr}{te:TE}{p2:Pos}
theorem zA:PO X none zy:=by
 intro pins s O H Q I h;rw[evalPart_none];exact Zav ⟨none,H,I,.none,h⟩
theorem GJ(h:PE X e te):PO X (some e) (Jv te):=by
 intro pins s O H Q I hw;rw[evalPart_some];refine thn (h pins s O H _ I hw) ?_;rintro u s1 ⟨x,H1,I1,r1,q1⟩;obtain⟨i,rfl,q⟩:=q1;obtain⟨t,rfl⟩:=r1;exact⟨some i,H1,I1,.int i t,q⟩
def Jw(K:Frag):R2:=λx y H Q=>∃ a b xs ys,x=.ref a/\y=.ref b/\SqT K H a xs/\SqT K H b ys/\xs≠[]/\xs.length+ys.length<=sizeLine /\
 (ys=[]->Q (.ref a) H)/\(ys≠[]->∀ p,H p=none->Q (.ref p) (upd H p (.tup (xs++ys))))
theorem Vals.uy{xs:List V}{us:List Value}(r:Vals xs us):us=[]↔xs=[]:=by
 cases r with
 |nil=>simp
 |cons _ _=>simp
theorem GK:OpR X (binaryOp .Add) (Jw X.K):=by
 intro pins s O H x y v u Q I rx ry h;obtain⟨a,b,xs,ys,rfl,rfl,ha,hb,hx,hz,q1,q2⟩:=h;cases rx;cases ry;obtain⟨its,r1,p1,_⟩:=I.tuple ha;obtain⟨its2,r2,p2,_⟩:=I.tuple hb;refine HT.GF p1 p2 (λz=>hx (r1.uy.mp z)) (λz=>⟨.ref a,H,I,rfl,q1 (r2.uy.mp z)⟩) (λz=>?_) (by rw[<-r1.length,<-r2.length];exact hz)
 refine⟨.ref s.heap.objs.size,_,I.laid (t':=s.toks) (o:=.tup (xs++ys)) (λb ob q=>Zae _ q) (Zal _) ?_,rfl,q2 (λw=>z (r2.uy.mpr w)) _ (I.hok.fresh (Zal _))⟩;exact⟨by rw[Zaz];exact hz,_,r1.append r2,fj.new _ _⟩
end
def ixN(n:Nat)(i:Int):Option Nat:=if 0<=i then(if i<n then some i.toNat else none) else if -(n:Int)<=i then some (i+n).toNat else none
def atI{α:Type}(xs:List α)(i:Int):Option α:=(ixN xs.length i).bind λj=>xs[j]?
theorem GP{n:Nat}{i:Int}{j:Nat}(h:ixN n i=some j):seqIndex? i n=some j/\j<n/\-(n:Int)<=i/\i<n:=by
 unfold ixN at h;by_cases h0:0<=i
 ·rw[Zat h0] at h;by_cases h1:i<n
  ·rw[Zat h1] at h;have e:i.toNat=j:=Zac h;exact⟨by rw[seqIndex_of h0 h1,e],by lia,by lia,h1⟩
  ·rw[Zax h1] at h;cases h
 ·rw[Zax h0] at h;by_cases h1:-(n:Int)<=i
  ·rw[Zat h1] at h;have e:(i+n).toNat=j:=Zac h;exact⟨by rw[seqIndex_neg (by lia) h1,e],by lia,h1,by lia⟩
  ·rw[Zax h1] at h;cases h
theorem uz{α:Type}{xs:List α}{i:Int}{v:α}(h:atI xs i=some v):∃ j,seqIndex? i xs.length=some j/\xs[j]?=some v/\j<xs.length/\-(xs.length:Int)<=i/\i<xs.length:=by
 unfold atI at h;cases e:ixN xs.length i with
 |none=>rw[e] at h;cases h
 |some j=>
  rw[e] at h;obtain⟨h1,h2,h3,h4⟩:=GP e;exact⟨j,h1,h,h2,h3,h4⟩
theorem j8{α:Type}{xs:List α}{j:Nat}{v:α}(h:xs[j]?=some v):atI xs (j:Int)=some v:=by
 have hj:j<xs.length:=(Zad.mp h).1;have e:ixN xs.length (j:Int)=some j:=by
  unfold ixN;rw[Zat (by lia),Zat (by lia)];simp
 unfold atI;rw[e];exact h
def GQ(b:Expr):Prop:=∀ o i,subscripted b false o i=operate [o,i] (getItem o i)
def IxR(X:Cx)(r:R2):Prop:=
 ∀ (value slice:Expr) (pins:List (Addr×Obj)) (s:Shared) (O:St) (H:Hp) (x y:V) (v u:Value) (Q:VK),Inv X pins O H s->RelV x v->RelV y u->r x y H Q ->
  subscripted slice false v u=operate [v,u] (getItem v u)->wpAny (model X.prog X.w) X.A (subscriptTail value slice v u) (EP X pins O Q) X.xe s
def MtR(X:Cx)(id:String)(r:V->List V->Hp->VK->Prop):Prop:=
 ∀ (pins:List (Addr×Obj)) (s:Shared) (O:St) (H:Hp) (x:V) (xs:List V) (v:Value) (us:List Value) (Q:VK),Inv X pins O H s->RelV x v->Vals xs us->r x xs H Q ->
  wpAny (model X.prog X.w) X.A (call (.builtin id) (v::us)) (EP X pins O Q) X.xe s
section
variable{X:Cx}{a b:Expr}{ta tb:TE}{pos:Pos}
theorem IxR.or{r r':R2}(h:IxR X r)(h':IxR X r'):IxR X (λx y H Q=>r x y H Q\/r' x y H Q):=by
 intro value slice pins s O H x y v u Q I rx ry q hs;rcases q with q|q
 ·exact h value slice pins s O H x y v u Q I rx ry q hs
 ·exact h' value slice pins s O H x y v u Q I rx ry q hs
theorem dY{r:R2}(hr:IxR X r)(ha:PE X a ta)(hb:PE X b tb)(hs:GQ b):PE X (.Subscript a b pos) (tOp r ta tb):=by
 intro pins s O H Q I h;exact Subscript_ (Ke ha hb I h λv u s2 x y H2 I2 rx ry q=>hr a b pins s2 O H2 x y v u Q I2 rx ry q (hs _ _))
def Ml(K:Frag):R2:=λx y H Q=>∃ p xs i v,x=.ref p/\y=.int i/\SqL K H p xs/\atI xs i=some v/\Q v H
def Mm(K:Frag):R2:=λx y H Q=>∃ p xs i v,x=.ref p/\y=.int i/\SqT K H p xs/\atI xs i=some v/\Q v H
def Mp:R2:=λx y H Q=>∃ z i c,x=.str z/\y=.int i/\z.length<=sizeLine/\atI z.cps.toList i=some c/\Q (.str ⟨#[c]⟩) H
theorem GR:IxR X (Ml X.K):=by
 intro value slice pins s O H x y v u Q I rx ry h hs;obtain⟨p,xs,i,z,rfl,rfl,hq,he,q⟩:=h;cases rx;obtain⟨t,rfl⟩:=ry;obtain⟨its,r,pl,hz⟩:=I.list hq;obtain⟨j,h1,h2,h3,h4,h5⟩:=uz he;obtain⟨w,ew,rw'⟩:=r.get h2;have hl:=r.length;have hn:=ux;have fin:EP X pins O Q w s:=⟨z,H,I,rw',q⟩;by_cases h0:0<=i
 ·have hj:i.toNat=j:=by
   rw[seqIndex_of h0 h5] at h1;exact Zac h1
  exact item_listR pl.isList h0 (by lia) (by rw[hj];simpa using ew) fin hs
 ·have hj:(i+(its.toArray.size:Int)).toNat=j:=by
   rw[seqIndex_neg (by lia) h4] at h1
   rw[List.size_toArray,<-hl];exact Zac h1
  exact subscriptTail_builtinR (x:=w) pl.isList.typeIs slot_list_getitem.lookup
   (wpAny_getItem_list_neg (Q:=λr s'=>r=w/\EP X pins O Q r s') pl.isList (by lia) (by rw[List.size_toArray]<;>lia) (by lia) (by rw[hj];simpa using ew) ⟨rfl,fin⟩) hs
theorem Kp:IxR X (Mm X.K):=by
 intro value slice pins s O H x y v u Q I rx ry h hs;obtain⟨p,xs,i,z,rfl,rfl,hq,he,q⟩:=h;cases rx;obtain⟨t,rfl⟩:=ry;obtain⟨its,r,pl,hz⟩:=I.tuple hq;obtain⟨j,h1,h2,h3,h4,h5⟩:=uz he;obtain⟨w,ew,rw'⟩:=r.get h2;have hl:=r.length;have hn:=ux;have fin:EP X pins O Q w s:=⟨z,H,I,rw',q⟩;exact subscriptTail_builtinR (x:=w) pl.typeIs slot_tuple_getitem.lookup
  (getItem_tuple (j:=j) (Q:=λr s'=>r=w/\EP X pins O Q r s') pl (by omega) (by omega) (by rw[List.size_toArray,<-hl];exact h1) (by simpa using ew) ⟨rfl,fin⟩) hs
theorem Kq:IxR X Mp:=by
 intro value slice pins s O H x y v u Q I rx ry h hs;obtain⟨z,i,c,rfl,rfl,hz,he,q⟩:=h;obtain⟨t,rfl⟩:=rx;obtain⟨t',rfl⟩:=ry;obtain⟨j,h1,h2,h3,h4,h5⟩:=uz he;have hl:z.cps.toList.length=z.length:=by simp[Str.length]
 rw[hl] at h1 h4 h5;have hn:=ux;exact tail_any (typeIs_str s z t) slot_str_getitem.lookup (getItem_str (c:=c) (by
  have e1:decide (i < -(2^63:Int))=false:=decide_eq_false (by lia)
  have e2:decide (i>=2^63)=false:=decide_eq_false (by lia)
  rw[e1,e2,Bool.or_false]) (by rw[h1];simpa using h2) ⟨.str ⟨#[c]⟩,H,I.tok _,⟨_,rfl⟩,q⟩) hs
def rIx(K:Frag):R2:=λx y H Q=>Ml K x y H Q\/Mm K x y H Q\/Mp x y H Q
theorem cU:IxR X (rIx X.K):=GR.or (Kp.or Kq)
def N8:V->Bool
 |.non=>true
 |.bl _=>true
 |.int _=>true
 |.str _=>true
 |_=>false
def eqV:V->V->Bool
 |.non,.non=>true
 |.bl a,.bl b=>a==b
 |.bl a,.int b=>(if a then 1 else 0)==b
 |.int a,.bl b=>a==(if b then 1 else 0)
 |.int a,.int b=>a==b
 |.str a,.str b=>a==b
 |_,_=>false
theorem uA:gH X (.type "list") (λxs H Q=>∃ p ys,xs=[.ref p]/\(SqL X.K H p ys\/SqT X.K H p ys)/\∀ l,H l=none->Q (.ref l) (upd H l (.lst ys))):=by
 intro pins s O H xs us Q I r h;obtain⟨p,ys,rfl,hq,q⟩:=h;obtain⟨u,rfl,rx⟩:=vals1 r;cases rx;have fin:∀ (its:List Value),Vals ys its->ys.length<=sizeLine->∀ (h':Heap) (c':Nat),(∀ b o',s.heap.get? b=some o'->h'.get? b=some o') ->
   h'.get? s.heap.objs.size=some { cls:=.type "list",dict:=none,data:=.seq its.toArray c',slots:=#[] }->EP X pins O Q (.ref s.heap.objs.size) { s with heap:=h' }:=λits r' hz h' c' kp e=>
  ⟨.ref s.heap.objs.size,_,I.laid (t':=s.toks) kp (Zal _) (show bR X.prog X.w _ h' _ (.lst ys) from⟨hz,its,c',r',e⟩),rfl,q _ (I.hok.fresh (Zal _))⟩
 rcases hq with hq|hq
 ·obtain⟨its,r',pl,hz⟩:=I.list hq;have hlen:=r'.length;obtain⟨o,ho,hc,n,hd⟩:=pl.isList;exact call_list_seq p (.inl rfl) ho hc hd (λh' c' kp e=>fin its r' hz h' c' kp e) (by simp only[List.size_toArray]<;>omega)
 ·obtain⟨its,r',pl,hz⟩:=I.tuple hq;have hlen:=r'.length;obtain⟨o,ho,hc,n,hd⟩:=pl;exact call_list_seq p (.inr rfl) ho hc hd (λh' c' kp e=>fin its r' hz h' c' kp e) (by simp only[List.size_toArray]<;>omega)
def tyV(K:Frag)(T:String)(x:V)(H:Hp):Prop:=match x with
 |.str _=>T="str"
 |.int _=>T="int"
 |.ref p=>(T="list"/\∃ xs,SqL K H p xs)\/(T="tuple"/\∃ o,K.lookup p=some o/\o.cls=.type "tuple"/\o.dict=none) \/
   (T="dict"/\((∃ kvs,H p=some (.dK kvs))\/∃ kvs,H p=some (.dT kvs)))\/(T="set"/\∃ S n,H p=some (.set S n))
 |_=>False
theorem Kr{pins:List (Addr×Obj)}{O:St}{H:Hp}{s:Shared}{T:String}{x:V}{v:Value}(I:Inv X pins O H s)(r:RelV x v)(ty:tyV X.K T x H) :
  s.TypeIs v T/\∀ a,v=.ref a->∃ ob,s.heap.get? a=some ob/\ob.dict=none:=by
 cases x with
 |str z=>
  obtain⟨t,rfl⟩:=r;cases (show T="str" from ty);exact⟨typeIs_str s z t,λ_ e=>nomatch e⟩
 |int i=>
  obtain⟨t,rfl⟩:=r;cases (show T="int" from ty);exact⟨typeIs_int s i t,λ_ e=>nomatch e⟩
 |ref p=>
  cases r;rcases ty with⟨rfl,xs,hq⟩|⟨rfl,o,hk,hc,hd⟩|⟨rfl,hk⟩|⟨rfl,S,n,hk⟩
  ·obtain⟨its,_,pl,_⟩:=I.list hq;refine⟨pl.isList.typeIs,λa e=>?_⟩;cases e;obtain⟨o,n,e,c,hd,_⟩:=pl;exact⟨o,e,hd⟩
  ·refine⟨⟨o,I.kIn p o hk,hc⟩,λa e=>?_⟩;cases e;exact⟨o,I.kIn _ o hk,hd⟩
  ·have z:∃ o,s.heap.get? p=some o/\o.ExactDict:=by
    rcases hk with⟨kvs,hk⟩|⟨kvs,hk⟩
    ·obtain⟨_,_,_,_,o,_,_,e,ex,_⟩:=I.hok p _ hk;exact⟨o,e,ex⟩
    ·obtain⟨_,_,_,_,o,_,_,e,ex,_⟩:=I.hok p _ hk;exact⟨o,e,ex⟩
   obtain⟨o,e,ex⟩:=z;refine⟨⟨o,e,ex.1⟩,λa e2=>?_⟩;cases e2;exact⟨o,e,ex.2.1⟩
  ·obtain⟨o,_,_,_,e,ex,_⟩:=I.hok p _ hk;refine⟨⟨o,e,ex.1⟩,λa e2=>?_⟩;cases e2;exact⟨o,e,ex.2.1⟩
 |_=>exact False.elim ty
def tBM(K:Frag)(T:String)(r:V->List V->Hp->VK->Prop)(to:TE)(t:TA):TE:=λO H Q=>to O H λx H1=>tyV K T x H1/\t O H1 λxs H2=>r x xs H2 Q
variable{o e:Expr}{es:List Expr}{to:TE}{t:TA}{name:Str}{apos cpos:Pos}{T id:String}{r:V->List V->Hp->VK->Prop}
theorem tD(pa:PlainAttrs T)(slot:Slot T name id)(hty:typeOf (.builtin id)=pure (.type "method_descriptor"))(hm:MtR X id r)(ho:PE X o to)(ha:PA X (e::es) t)
  (hbase:attributeBase o name X.env (eval o X.env)=eval o X.env:=by rfl)
  (hfew:((backTo cpos (starEach (e::es) X.env)).all (λx=>!x.1)&&(backToKw cpos (keywordEach [] X.env)).all (λx=>x.1.isSome)
   && decide ((e::es).length+([]:List Keyword).length+(if([]:List Keyword).isEmpty then 0 else 1)<30))=true:=by rfl)
  (hline:(apos.endLine==cpos.line)=true:=by rfl)(hs:starEach (e::es) X.env=(false,eval e X.env)::starEach es X.env:=by rfl)(hplain:(backTo cpos (starEach es X.env)).any (·.1)=false:=by rfl) :
  PE X (.Call (.Attribute o name apos) (e::es) [] cpos) (tBM X.K T r to t):=by
 intro pins s O H Q I h;refine wpAny_Call_method_late hbase hfew hline rfl (thn (ho pins s O H _ I h) ?_);rintro v s1 ⟨x,H1,I1,r1,ty,q1⟩;obtain⟨h1,h2⟩:=Kr I1 r1 ty;refine⟨T,id,pa,slot,hty,h1,h2,?_⟩;have hA:=ha cpos pins s1 O H1 _ I1 q1;rw[hs] at hA ⊢;refine Calls.callWith_builtin (by show(false||(backTo cpos (starEach es X.env)).any (·.1))=false;rw[hplain]<;>rfl) (Calls.evalArgs_plain ?_)
 exact thn hA λus s2 ⟨vs,H2,I2,r2,q2⟩=>hm pins s2 O H2 x vs v us Q I2 r1 r2 q2
end
def MtM(X:Cx)(id:String)(r:V->List V->Hp->VK->Prop):Prop:=
 ∀ (pins:List (Addr×Obj)) (s:Shared) (O:St) (H:Hp) (x:V) (xs:List V) (v:Value) (us:List Value) (Q:VK),Inv X pins O H s->RelV x v->Vals xs us->r x xs H Q ->
  wpAny (model X.prog X.w) X.A (call (.builtin id) (v::us)) (EP X pins O Q) X.xe s
theorem Vals.one:∀ {x:V}{us:List Value},Vals [x] us->∃ u,us=[u]/\RelV x u
 |_,_,.cons r .nil=>⟨_,rfl,r⟩
theorem Vals.two:∀ {x y:V}{us:List Value},Vals [x,y] us->∃ u v,us=[u,v]/\RelV x u/\RelV y v
 |_,_,_,.cons r (.cons q .nil)=>⟨_,_,rfl,r,q⟩
section
variable{X:Cx}{pins:List (Addr×Obj)}{O:St}{H:Hp}{s:Shared}{l:Addr}{xs ys:List V}
theorem Inv.Mq{its its':List Value}{n:Nat}{f:Array Value->Array Value}{t':Nat}(I:Inv X pins O H s)(hH:H l=some (.lst xs))
  (e:s.heap.get? l=some { cls:=.type "list",data:=.seq its.toArray n })(hf:f its.toArray=its'.toArray)(hv:Vals ys its')(hz:ys.length<=sizeLine) :
  Inv X pins O (upd H l (.lst ys)) { s with heap:=s.heap.update l (Obj.mapSeq f),toks:=t' }:=by
 have q:=PySem.IsL.update e f;rw[hf] at q;refine I.write (x:=l) (e:=l) (by rw[hH];exact trivial) (.inl rfl) (λb' u hb hu=>(Heap.get?_update_other s.heap (Obj.mapSeq f) (Zbm hb)).trans hu) ⟨_,q⟩ ?_
 exact⟨hz,its',_,hv,q⟩
theorem Inv.Mr(I:Inv X pins O H s)(hH:H l=some (.lst xs)):xs.length<=sizeLine/\∃ (its:List Value) (n:Nat),Vals xs its/\xs.length=its.length/\s.heap.get? l=some { cls:=.type "list",data:=.seq its.toArray n }:=by
 obtain⟨z,its,n,r,e⟩:=I.hok l _ hH;exact⟨z,its,n,r,r.length,e⟩
end
section
variable{X:Cx}
def pL:V->List V->Hp->VK->Prop:=λx vs H Q=>∃ l xs y,x=.ref l/\vs=[y]/\H l=some (.lst xs)/\xs.length<sizeLine/\Q .non (upd H l (.lst (xs++[y])))
theorem gC:MtM X "list.append" pL:=by
 intro pins s O H x vs v us Q I rx rv h;obtain⟨l,xs,y,rfl,rfl,hH,hz,q⟩:=h;cases rx;obtain⟨u,rfl,ru⟩:=rv.one;obtain⟨z,its,n,r,hl,e⟩:=I.Mr hH;refine call_meets F.slot_list_append ⟨_,e,rfl⟩ F.entry_list_append (F.args_list_append_2 _ _) (PySem.list_append l its.toArray n u (by rw[List.size_toArray];lia)) ⟨e,?_⟩
 refine⟨.non,_,I.Mq (its':=its++[u]) hH e (by simp) (r.append (.cons ru .nil)) ?_,rfl,q⟩
 rw[Zaz,List.length_singleton];lia
end
end L2
namespace Att
open PySem PySem.W PySem.Calls PyProof.Rows
theorem pA{P:Params}{h:Heap}:∀ (ns:List Int) (vs:List Value),WellAll P h vs (ns.map WData.int)->IntsAre vs ns:=by
 intro ns;induction ns with
 |nil=>
  intro vs w;rw[Zci] at w;cases w;exact .nil
 |cons n ns ih=>
  intro vs w;rw[Zaw] at w;cases w with
  |cons a b=>
   cases a;exact .cons _ _ (ih _ b)
theorem Bh{l:OpenLaw}{n:Nat}(hn:l.most=some n){P:Params}{h:Heap}{args:List WData}{vals:List Value}
  (hpre:l.row.toRowW.claim.pre args=true)(hwl:WellAll P h vals args) :
  ∃ a vs ns,vals=[Value.ref a]/\args=[WData.list (ns.map WData.int)]/\h.get? a=some { cls:=.type "list",data:=.seq vs.toArray }/\IntsAre vs ns/\ns.length<=n:=by
 have hsh:WShape.hasAll [] args [.list .int]=true:=(pre_splitW hpre).1;have hc:l.pre.holds [] { args:=args }=true:=(pre_splitW hpre).2;obtain⟨d,r,rfl,h1,h2⟩:=hasAllW_cons hsh;obtain rfl:=hasAllW_nil h2;obtain⟨xs,rfl,h3⟩:=hasW_list h1;obtain⟨ns,rfl⟩:=items_int h3;have hlen:ns.length<=n:=by
  unfold OpenLaw.pre at hc;have h4:(WTm.not (.lt (.lit (.int (n:Int))) (.len (.arg 0)))).holds [] { args:=[.list (ns.map .int)] }=true:=by
   have h4:=(holds_andW hc).1;rw[hn] at h4;exact h4
  have h5:=condW_of h4 (w_not (w_lt w_lit (w_len_list (w_arg rfl))));rw[Zab] at h5;refine Zct λq=>?_;have q':(n:Int)<((ns.length:Nat):Int):=by omega
  first
   |(rw[decide_eq_true q'] at h5;exact absurd h5 (by decide))
   |(simp at h5;omega)
 cases hwl with
 |cons w1 w2=>
  cases w2;cases w1 with
  |list ho hall=>exact⟨_,_,ns,rfl,rfl,ho,pA ns _ hall,hlen⟩
theorem Bj(l:OpenLaw)(args:List WData):l.row.toRowW.claim.post args (.bool true) args=true:=
 postW_of (r:=l.row.toRowW) (X:=(true==true))
  (show WShape.has [] (.bool true) .bool=true by first|rfl|decide|simp[WShape.has,WShape.arms,WShape.armsAll])
  (show(WTm.eq .res (.lit (.bool true))).value [] { args:=args,res:=some (.bool true),after:=args }=some (.bool (true==true)) from w_eq_bool (w_res rfl) w_lit) rfl
theorem vW{l:OpenLaw}{n:Nat}{q:Program}{loose:List Str}{XP:(Str->Option Value)->Heap->Prop}{YP:World->Heap->Prop}{d:DefRec}
  (hn:l.most=some n)(hdf:d.params.defaults=[])
  (call:∀ (w:World) (s₀ s₁:Shared) (mg mb:Str->Option Value) (fa:Addr) (o:Obj) (pm cd doc:Value) (a:Addr) (vs:List Value) (ns:List Int),
   Ground q loose [] XP w s₀ mg mb s₁.heap->YP w s₁.heap ->
   s₁.heap.get? fa=some o->o.data=.func (docDef d.name d.params d.body d.scope pm cd doc)->s₁.heap.CodeRec cd d.name->mg d.name=some (.ref fa) ->
   s₁.heap.get? a=some { cls:=.type "list",data:=.seq vs.toArray }->IntsAre vs ns->ns.length<=n->s₁.gens=#[] ->
   codeAny (model l.prog w) callerA (.call (.ref fa) ⟨[.ref a],[]⟩) (λr s'=>r=.ok (.ret (.bool true))/\OldK s₁.heap s'.heap/\s'.os=s₁.os/\AllBare s'.gens) s₁) :
  WalkO q loose XP YP l.row.toRowW d [] (λf vs=>PySem.call f vs):=by
 intro w s₀ s₁ mg mb G Y fa o pm cd doc dV kV ho hd hcd hD hmg hg args vals as hpre hlay hrd hwl hlo;obtain rfl:dV=.none:=Dflts.none hD hdf;obtain rfl:kV=.none:=Dflts.noKw hD;obtain⟨a,vs,ns,rfl,rfl,hobj,hints,hlen⟩:=Bh hn hpre hwl;refine enter_call (codeAny_mono (call w s₀ s₁ mg mb fa o pm cd doc a vs ns G Y ho (fd_plain hd) hcd hmg hobj hints hlen hg) λr s' hq=>?_);obtain⟨rfl,h2,h3,h4⟩:=hq;exact⟨.inl ⟨.bool true,.bool true,[],rfl,λ_=>rfl,.bool true,Bj l _,λ_=>⟨List.Pairwise.nil,λ_ hm=>(nomatch hm)⟩⟩,h2,h3,h4⟩
end Att
namespace L2
open PySem PySem.Spec PyProof.Rows
theorem j9:∀ {vs:List Value}{ns:List Int},IntsAre vs ns->Vals (ns.map V.int) vs
 |_,_,.nil=>.nil
 |_,_,.cons n t h=>.cons ⟨t,rfl⟩ (j9 h)
def bN(s:Stmt):Arguments:=match s with
 |.FunctionDef _ a _ _ _ _ _ _ _ _=>a
 |_=>{ posonlyargs:=[],args:=[],vararg:=none,kwonlyargs:=[],kw_defaults:=[],kwarg:=none,defaults:=[] }
def bF(s:Stmt):List Stmt:=match s with
 |.FunctionDef _ _ b _ _ _ _ _ _ _=>b
 |_=>[]
def aJ(s:Stmt):Scope:=match s with
 |.FunctionDef _ _ _ _ _ _ sc _ _ _=>sc
 |_=>{ kind:=.function,names:=[],isGenerator:=false,isCoroutine:=false }
noncomputable abbrev CX0:CXT:=λ_ _ _ _ _ _=>False
noncomputable abbrev E0:XK:=λ_ _ _=>False
theorem Jx{X:Cx}:yr CX0 X E0:=λ_ _ _ _ _ _ _ h=>h.elim
structure Fun(K:Frag)(x qual:Str)(st:Stmt)(f:Addr)(fd:FuncData):Prop where
 ex:∃ (oc:Value) (od:Option Addr) (kV doc pm:Value) (an:Option Addr) (cdv ct:Value) (osl:Array (Option Value)),
  fd=fnOf x qual (bN st) (bF st) (aJ st) .none kV doc pm an cdv ct/\K.lookup f=some ⟨oc,od,.func fd,osl⟩/\codeIn K cdv qual=true
 kp:keepIn K (.ref f)=true
section
variable{P:Program}{w:World}{K:Frag}{mg:Str->Option Value}{base:Heap}
theorem Fun.ok{x qual:Str}{st:Stmt}{f:Addr}{fd:FuncData}{N ps:List Str}{k:Nat}{sp:Sp}(F:Fun K x qual st f fd)(S:bV N ps (aJ st))(len:∀ vs H Q E,sp vs H Q E->vs.length=ps.length)
  (hbody:∀ (cdv:Value) (A:Around) (outer:List Env) (s:Shared) (H:Hp) (vs:List V) (Q:VK) (E:XK),cz k (A.deeper (envOfC qual (aJ st) s.heap.objs.size f cdv))->sp vs H Q E ->
   ∃ t,PSs (vU CX0 P w K mg base N qual (aJ st) f cdv A outer s H E).nox (bF st) t/\t { nx:=λ_ H'=>Q .non H',rt:=Q } (start N vs) H):qe P w K mg base CX0 (k+1) f fd ps sp:=by
 obtain⟨oc,od,kV,doc,pm,an,cdv,ct,osl,rfl,lk,hcd⟩:=F.ex;refine Ju lk hcd S len λA outer s H vs Q E hr hsp=>?_;obtain⟨t,h,q⟩:=hbody cdv A outer s H vs Q E hr hsp;exact⟨t,h.nox,q⟩
theorem Fun.binds{x qual:Str}{st:Stmt}{f:Addr}{fd:FuncData}{ps:List Str}(F:Fun K x qual st f fd)
  (h:∀ (kV doc pm:Value) (an:Option Addr) (cdv ct:Value) (us:List Value),us.length=ps.length->bindArgs (fnOf x qual (bN st) (bF st) (aJ st) .none kV doc pm an cdv ct) ⟨us,[]⟩=pure (ps.zip us)):Binds K fd ps []:=by
 obtain⟨oc,od,kV,doc,pm,an,cdv,ct,osl,rfl,lk,hcd⟩:=F.ex;exact .all (h kV doc pm an cdv ct)
theorem fu{x qual:Str}{st:Stmt}{f:Addr}{oc:Value}{od an:Option Addr}{osl:Array (Option Value)}{kV doc pm cdv ct:Value}(l:K.lookup f=some ⟨oc,od,.func (fnOf x qual (bN st) (bF st) (aJ st) .none kV doc pm an cdv ct),osl⟩)
  (c:codeIn K cdv qual=true)(k:keepIn K (.ref f)=true):Fun K x qual st f (fnOf x qual (bN st) (bF st) (aJ st) .none kV doc pm an cdv ct):=⟨⟨oc,od,kV,doc,pm,an,cdv,ct,osl,rfl,l,c⟩,k⟩
end
theorem mq{A:Around}{k:Nat}(hr:cz k A):A.units+1<cLine:=Zbf (Nat.add_le_add_left (by decide:1<=64) _) hr.units
theorem bY{n:Nat}(h:n<=1000):n<sizeLine:=Zbf h (by decide)
section
variable{X:Cx}
theorem pv(i:Nat){x:Str}{pos:Pos}(hN:X.N[i]?=some x:=by rfl)(hv:Vis X.env.scope x:=by first|exact Or.inl rfl|exact Or.inr (Or.inl rfl)|exact Or.inr (Or.inr rfl))(hd:(x==("__debug__":Str))=false:=by decide)
  (hcd:(x==("__classdict__":Str))=false:=by decide):PE X (.Name x pos) (iw i):=yc hN hv hd hcd
end
theorem GX{c A B:Prop}[Decidable c](h1:c->A)(h2:¬c->B):if c then A else B:=by
 by_cases h:c
 ·rw[Zat h];exact h1 h
 ·rw[Zax h];exact h2 h
def aB(H H':Hp):Prop:=∀ b o,H b=some o->H' b=some o
theorem aB.refl(H:Hp):aB H H:=λ_ _ h=>h
theorem aB.trans{H H1 H2:Hp}(a:aB H H1)(b:aB H1 H2):aB H H2:=λc o h=>b c o (a c o h)
theorem aB.free{H H':Hp}(e:aB H H'){l:Addr}(h:H' l=Option.none):H l=Option.none:=by
 cases q:H l with
 |none=>rfl
 |some o=>
  rw[e l o q] at h;cases h
theorem aB.seq{K:Frag}{H H':Hp}{a:Addr}{xs:List V}(e:aB H H')(h:SqL K H a xs):SqL K H' a xs:=by
 rcases h with(h|⟨o,h⟩)|h
 ·exact .inl (.inl (e _ _ h))
 ·exact .inl (.inr ⟨o,e _ _ h⟩)
 ·exact .inr h
end L2
set_option maxHeartbeats 4000000
namespace Mth
def sub(l m:List Bool):Bool:=(List.range l.length).all λi=>!l.getD i false||m.getD i false
def pl(W:Nat)(c:Int×Int):Nat:=c.2.toNat*W+c.1.toNat
def cellOf(W:Nat)(i:Nat):Int×Int:=(((i%W:Nat):Int),((i/W:Nat):Int))
end Mth
namespace L2
open PySem PySem.Spec PyProof.Rows
theorem lM{env:Env}:∀ (names:List (Str×NameKind)) (cs:List (Str×Addr)),(∀ x∈names,x.2=.free->∃ c,env.cells.lookup x.1=some c) ->
  (∀ x c,cs.lookup x=some c->env.cells.lookup x=some c) ->
  ∃ cl,(forIn names cs λx s=>if(x.snd==NameKind.free)=true then do let d <-cellOf env x.fst;pure (ForInStep.yield ((x.fst,d)::s)) else pure (ForInStep.yield s):Sem _)=pure cl /\
   (∀ x c,cl.lookup x=some c->env.cells.lookup x=some c)/\(∀ x c,cs.lookup x=some c->cl.lookup x=some c)/\∀ x,(x,NameKind.free)∈names->∃ c,cl.lookup x=some c
 |[],cs,_,h2=>⟨cs,rfl,h2,λ_ _ e=>e,λ_ h=>nomatch h⟩
 |(n,k)::r,cs,h1,h2=>by
  rw[List.forIn_cons];by_cases hk:k=.free
  ·subst hk;obtain⟨c,hc⟩:=h1 (n,.free) Zaj rfl;have ec:cellOf env n=pure c:=by unfold cellOf;simp only[hc]
   obtain⟨cl,e,p1,p2,p3⟩:=lM r ((n,c)::cs) (λx hx=>h1 x (Zak _ hx)) (λx d e=>by
    rw[ZbH] at e;by_cases hx:x=n
    ·subst hx;simp at e;subst e;exact hc
    ·have hb:(x==n)=false:=beq_eq_false_iff_ne.mpr hx;rw[hb] at e;exact h2 x d e)
   refine⟨cl,?_,p1,λx d e'=>?_,λx hx=>?_⟩
   ·simp only[beq_self_eq_true,ZbE,ec];exact e
   ·by_cases hx:x=n
    ·subst hx;have:=h2 _ _ e';rw[hc] at this;cases this;exact p2 x c (by simp)
    ·have hb:(x==n)=false:=beq_eq_false_iff_ne.mpr hx;exact p2 x d (by rw[ZbH,hb];exact e')
   ·rcases Zaq.mp hx with e|hx
    ·cases e;exact⟨c,p2 n c (by simp)⟩
    ·exact p3 x hx
  ·obtain⟨cl,e,p1,p2,p3⟩:=lM r cs (λx hx=>h1 x (Zak _ hx)) h2;have hb:(k==NameKind.free)=false:=by simpa using hk
   refine⟨cl,?_,p1,p2,λx hx=>?_⟩
   ·simp only[hb,Zby,Zbb];exact e
   ·rcases Zaq.mp hx with e|hx
    ·cases e;exact absurd rfl hk
    ·exact p3 x hx
theorem qi{scope:Scope}{env:Env}(h:∀ x∈scope.names,x.2=.free->∃ c,env.cells.lookup x.1=some c):∃ cl,closureFor scope env=pure cl /\
  (∀ x c,cl.lookup x=some c->env.cells.lookup x=some c)/\∀ x,(x,NameKind.free)∈scope.names->∃ c,cl.lookup x=some c:=by
 obtain⟨cl,e,p1,_,p3⟩:=lM scope.names [] h (λ_ _ e=>nomatch e);refine⟨cl,?_,p1,p3⟩;simp only[closureFor];rw[e];rfl
noncomputable abbrev ju(env:Env)(x:Str×NameKind):Str×NameKind:=if(x.2==NameKind.free&&env.scope.kind==.function&&env.kindOf x.1==some .cell)=true then(x.1,NameKind.cell) else x
theorem Bl(env:Env)(x:Str×NameKind):(ju env x).1=x.1:=by unfold ju;split<;>rfl
theorem my{env:Env}:∀ (names:List (Str×NameKind)) (x:Str),(names.map (ju env)).lookup x=(names.lookup x).map λk=>(ju env (x,k)).2
 |[],x=>rfl
 |(n,k)::r,x=>by
  rw[Zaw];have e1:ju env (n,k)=(n,(ju env (n,k)).2):=by
   have:=Bl env (n,k);cases h:ju env (n,k) with
   |mk a b=>rw[h] at this;cases this;rfl
  rw[e1,ZbH,ZbH,my r x];by_cases hx:x=n
  ·subst hx;simp
  ·have hb:(x==n)=false:=beq_eq_false_iff_ne.mpr hx;rw[hb]
theorem rY(scope:Scope)(env:Env):(relabel scope env).names=scope.names.map (ju env):=by
 unfold relabel;show List.map _ _=_
 refine Zbw λx _=>?_;obtain⟨n,k⟩:=x;rfl
theorem gJ(scope:Scope)(env:Env)(x:Str):(relabel scope env).names.lookup x=(scope.names.lookup x).map λk=>(ju env (x,k)).2:=by
 rw[rY,my]
theorem fY{scope:Scope}{env:Env}{x:Str}{k:NameKind}(hk:k≠.free)(h:scope.names.lookup x=some k):(relabel scope env).names.lookup x=some k:=by
 rw[gJ,h];simp[ju,hk]
theorem mz{scope:Scope}{env:Env}{x:Str}(h:scope.names.lookup x=some .free):(relabel scope env).names.lookup x=some .cell\/(relabel scope env).names.lookup x=some .free:=by
 rw[gJ,h];simp only[Zbc,ju];split
 ·exact .inl rfl
 ·exact .inr rfl
theorem yt{scope:Scope}{env:Env}{x:Str}(h0:scope.names.lookup x≠some .cell)(h:(relabel scope env).names.lookup x=some .cell\/(relabel scope env).names.lookup x=some .free):scope.names.lookup x=some .free:=by
 rw[gJ] at h;cases e:scope.names.lookup x with
 |none=>rw[e] at h;simp at h
 |some k=>
  by_cases hk:k=.free
  ·rw[hk]
  ·rw[e] at h;simp[ju,hk] at h;subst h;exact absurd e h0
theorem lookup_mem{β:Type}:∀ {l:List (Str×β)}{x:Str}{v:β},l.lookup x=some v->(x,v)∈l
 |[],_,_,h=>nomatch h
 |(n,k)::r,x,v,h=>by
  rw[ZbH] at h;by_cases hx:x=n
  ·subst hx;simp at h;subst h;exact Zaj
  ·have hb:(x==n)=false:=beq_eq_false_iff_ne.mpr hx;rw[hb] at h;exact Zak _ (lookup_mem h)
noncomputable abbrev Cx.comp(X:Cx)(N:List Str)(scope:Scope)(cl:List (Str×Addr))(C:Addr)(s2:Shared)(H2:Hp)(fp:List Addr):Cx where
 prog:=X.prog
 w:=X.w
 K:=X.K
 mg:=X.mg
 base:=X.base
 A:=X.A
 N:=N
 s₀:=s2
 H₀:=H2
 env:=compEnvC scope cl C X.env
 outer:=X.stack
 stack:=X.stack
 ex:=fp
 fn:=λ_=>false
 calm:=X.calm
 pn:=[]
 xe:=λ_ _=>False
def jJ(XN N:List Str)(xs scope:Scope)(fr:List (Option Nat)):Bool:=
 decide (fr.length=N.length)&&(scope.kind==.function)&&(scope.names.all λx=>!(x.2==.cell))&&(scope.names.all λx=>!(x.2==.local)||scope.names.lookup x.1==some .local) &&
 (scope.names.all λx=>!(x.2==.free)||(xs.names.lookup x.1==some .cell||xs.names.lookup x.1==some .free)) &&
 (List.range N.length).all λj=>match fr[j]?,N[j]? with
  |some (some i),some x=>decide (XN[i]?=some x)&&(scope.names.lookup x==some .free)
  |_,_=>true
theorem gZ{XN N:List Str}{xs scope:Scope}{fr:List (Option Nat)}(h:jJ XN N xs scope fr=true) :
  fr.length=N.length/\scope.kind=.function/\(∀ x∈scope.names,x.2≠.cell)/\(∀ x∈scope.names,x.2=.local->scope.names.lookup x.1=some .local) /\
  (∀ x∈scope.names,x.2=.free->xs.names.lookup x.1=some .cell\/xs.names.lookup x.1=some .free) /\
  ∀ (j i:Nat) (x:Str),fr[j]?=some (some i)->N[j]?=some x->XN[i]?=some x/\scope.names.lookup x=some .free:=by
 unfold jJ at h;simp only[Bool.and_eq_true,decide_eq_true_eq,Za2] at h;obtain⟨⟨⟨⟨⟨h1,h2⟩,h3⟩,h4⟩,h5⟩,h6⟩:=h;refine⟨h1,by simpa using h2,λx hx=>by simpa using h3 x hx,λx hx e=>?_,λx hx e=>?_,λj i x e1 e2=>?_⟩
 ·have:=h4 x hx;simp[e] at this;exact this
 ·have:=h5 x hx;simp[e] at this;exact this
 ·have hj:j<N.length:=(Zad.mp e2).1;have:=h6 j (ZaI.mpr hj);rw[e1,e2] at this;simpa using this
def frσ(fr:List (Option Nat))(O:St):St:=fr.map λo=>match o with
 |some i=>match O[i]? with
  |some v=>v
  |none=>none
 |none=>none
theorem zB{fr:List (Option Nat)}{O:St}{j:Nat}{v:V}(h:(frσ fr O)[j]?=some (some v)):∃ i,fr[j]?=some (some i)/\O[i]?=some (some v):=by
 unfold frσ at h;rw[Zaf] at h;cases e:fr[j]? with
 |none=>rw[e] at h;cases h
 |some o=>
  rw[e] at h;cases o with
  |none=>cases h
  |some i=>
   simp only[Zbc] at h;cases e2:O[i]? with
   |none=>rw[e2] at h;cases h
   |some w=>rw[e2] at h;exact⟨i,rfl,by simpa[e2] using h⟩
def Dl(X:Cx)(ifs:List Expr)(t:TT):Prop:=
 ∀ (pins:List (Addr×Obj)) (s:Shared) (O:St) (H:Hp) (Q:Bool->Hp->Prop),Inv X pins O H s->t O H Q ->
  wpAny (model X.prog X.w) X.A (forIn ifs true λc r=>if r=true then do let ok <-isTrue c X.env (eval c X.env);pure (ForInStep.yield ok) else pure (ForInStep.yield r)) (TP X pins O Q) X.xe s
def Ms:TT:=λ_ H Q=>Q true H
theorem Dm{X:Cx}:Dl X [] Ms:=λ_ _ _ H _ I h=>wpAny_tests_nil ⟨H,I,h⟩
theorem uB{X:Cx}{c:Expr}{t:TT}(h:PT X c t):Dl X [c] t:=λpins s O H Q I hw=>wpAny_tests_one (h pins s O H Q I hw)
def Mu(D:Addr)(tc:TT)(te:TE):TS:=λE O H=>tc O H λb H1=>if b=true then te O H1 λv H2=>∃ ys,H2 D=some (.lst ys)/\ys.length<sizeLine/\E.nx O (upd H2 D (.lst (ys++[v]))) else E.nx O H1
def endC(Q:VK)(D:Addr):Ends:={ nx:=λ_ H=>Q (.ref D) H,rt:=λ_ _=>False }
def tE(wi:TI)(fr:List (Option Nat))(g:TG)(tc:TT)(te:TE):TE:=λO H Q=>wi O H λJ H1=>∀ D,H1 D=none->∃ W:Nat->Nat->St->Hp->Prop,(∃ m,W 0 m (frσ fr O) (upd H1 D (.lst [])))/\∀ i m O H,W i m O H ->
 (J.stop i H/\(endC Q D).nx O H)\/(J.go i H/\∃ N:St->Hp->Prop,(∀ O' H',N O' H'->∃ m',m'<m/\W (i+1) m' O' H')/\∀ x H',J.yld i H x H'->g x O H' λO2 H2=>Mu D tc te { endC Q D with nx:=N,ct:=N,bk:=(endC Q D).nx } O2 H2)
section
variable{prog:Program}{w:World}{A:Around}{R:Result->Shared->Prop}{s:Shared}
theorem Bm{elt target iter:Expr}{ifs:List Expr}{scope:Scope}{pos:Pos}{it acc:Value}{env:Env}(I:Nat->Shared->Prop)
  (turn:∀ n s,I n s->wpAny (model prog w) A (pyNext it) (λr s₁=>match r with
   |none=>R (.ok .next) s₁
   |some v=>wpAny (model prog w) A (letOwnedTupleGo target it v) (λ_ s₁=>wpAny (model prog w) A (assign target env v) (λ_ s₂=>
     wpAny (model prog w) A (forIn ifs true λc r=>if r=true then do let ok <-isTrue c env (eval c env);pure (ForInStep.yield ok) else pure (ForInStep.yield r)) (λok s₃=>
      if ok=true then wpAny (model prog w) A (eval elt env) (λx s₄=>
       wpAny (model prog w) A (call (.builtin "list.append") [acc,x]) (λ_ s₅=>∃ m,m<n/\I m s₅) (notedBy (model prog w) A env λe s'=>R (.error e) s') s₄) (notedBy (model prog w) A env λe s'=>R (.error e) s') s₃
      else ∃ m,m<n/\I m s₃) (notedBy (model prog w) A env λe s'=>R (.error e) s') s₂) (notedBy (model prog w) A env λe s'=>R (.error e) s') s₁) (notedBy (model prog w) A env λe s'=>R (.error e) s') s₁) (notedBy (model prog w) A env λe s'=>R (.error e) s') s)
  (n:Nat)(h:I n s) :
  codeAny (model prog w) A (.compLoop (.ListComp elt [⟨target,iter,ifs,0⟩] scope pos) 0 it acc env) R s:=by
 refine codeAny_loop rfl I (λn s hI=>?_) n h;show wpAny _ A ((compTurn (.ListComp elt [⟨target,iter,ifs,0⟩] scope pos) 0 it acc env).onRaise (λx=>do noteFrame x env;theTreesLotGoes x)) _ _ s
 refine wpAny_noted ?_;rw[compTurn_list];refine Zai (wpAny_standAt (Zai (ZaO (turn n s hI) (λr s₁ h₁=>?_) λ_ _ h'=>h')));cases r with
 |none=>exact Zav h₁
 |some v=>
  refine Zai (ZaO h₁ (λ_ s₁' h₁'=>?_) λ_ _ h'=>h');refine Zai (ZaO h₁' (λ_ s₂ h₂=>Zai (ZaO h₂ (λok s₃ h₃=>?_) λ_ _ h'=>h')) λ_ _ h'=>h');cases ok with
  |false=>exact Zav ⟨rfl,h₃⟩
  |true=>
   exact Zai (Zai (ZaO h₃ (λx s₄ h₄=>Zai (ZaO h₄ (λ_ s₅ h₅=>Zav (Zav ⟨rfl,h₅⟩)) λ_ _ h'=>h')) λ_ _ h'=>h'))
end
structure Apart(X:Cx)(pins:List (Addr×Obj))(C:Addr):Prop where
 ne:C≠X.env.locals
 ab:X.s₀.heap.objs.size<=C
 cells:∀ x c,X.env.cells.lookup x=some c->c≠C
 pins:∀ p∈X.pn++pins,p.1≠C
section
variable{X:Cx}{elt tg iter:Expr}{ifs:List Expr}{scope:Scope}{pos pos':Pos}{wi:TI}{g:TG}{tc:TT}{te:TE}{pins:List (Addr×Obj)}{O:St}{H:Hp}{s:Shared}
theorem vX(N:List Str)(fr:List (Option Nat))(hc:X.calm=true)(hi:PI X tg iter wi)(hg:∀ cl C s2 H2 fp,PG (X.comp N scope cl C s2 H2 fp) tg g)
  (ht:∀ cl C s2 H2 fp,Dl (X.comp N scope cl C s2 H2 fp) ifs tc)(he:∀ cl C s2 H2 fp,PE (X.comp N scope cl C s2 H2 fp) elt te)
  (ok:jJ X.N N X.env.scope scope fr=true)(hs:∀ x,foldedSetIterable iter X.env x=pure x){Q:VK}{Q':Value->Shared->Prop}{use:Option (Value->Sem Unit)}
  (I:Inv X pins O H s)(h:tE wi fr g tc te O H Q)
  (fin:∀ D C s' H',Inv X pins O H' s'->H' C=none->Apart X pins C->(∃ m,s'.heap.Ns C m)->Q (.ref D) H'->compPost (model X.prog X.w) X.A X.xe use Q' (.ref D) C (.ok .next) s') :
  wpAny (model X.prog X.w) X.A (comprehension (.ListComp elt [⟨tg,iter,ifs,0⟩] scope pos) scope X.env pos' (newList []) false (eval iter X.env) use) Q' X.xe s:=by
 obtain⟨o1,o2,o3,o4,o5,o6⟩:=gZ ok;obtain⟨cl,hclos,c1,c2⟩:=qi (scope:=scope) (env:=X.env) (λx hx hf=>I.ok.has x.1 (o5 x hx hf));refine wpAny_comprehension_free (use:=use) rfl hs hclos o2 o4 (thn (hi pins s O H _ I h) λxv s1 h1=>thn h1 λitv s2 h2=>?_);obtain⟨it,fp,tn,J,H2,rfl,I2,T,st2,f2,hW⟩:=h2;refine wpAny_newObj_type (wpAny_newFunctionEnv o3 (by intro y hy;simp at hy) (λh₁ hns₁ hsb₁=>?_) o2)
 dsimp only at hns₁ hsb₁ ⊢;generalize hHH:s2.heap.push { cls:=.type "list",dict:=none,data:=.seq ([]:List Value).toArray }=HH at hns₁ hsb₁ ⊢
 have hC:HH.objs.size=s2.heap.objs.size+1:=by rw[<-hHH,ZbW]
 have hDC:s2.heap.objs.size≠HH.objs.size:=by rw[hC];exact ZaB (Zb3 _)
 have hCle:s2.heap.objs.size<=HH.objs.size:=by rw[hC];exact ZbT _
 have neC:∀ b,b<s2.heap.objs.size->b≠HH.objs.size:=λb hb=>by rw[hC];exact ZaB (Zbt hb)
 have old:∀ b o,s2.heap.get? b=some o->h₁.get? b=some o:=λb o e=>hsb₁.extBut b o (neC b (Zas e)) (Zae _ (hHH▸Zae _ e));have atD:h₁.get? s2.heap.objs.size=some { cls:=.type "list",data:=.seq ([]:List Value).toArray }:=hsb₁.extBut _ _ hDC (Zae _ (hHH▸Zar _ rfl));have ltf:∀ b∈fp,b<s2.heap.objs.size:=λb hb=>let⟨o,e,_⟩:=T.obj _ _ st2 b hb;Zas e;have ltc:∀ x c,X.env.cells.lookup x=some c->c<s2.heap.objs.size:=λx c e=>let⟨v,q⟩:=I2.cell x c e;q.lt;have ltp:∀ p∈X.pn++pins,p.1<s2.heap.objs.size:=λp hp=>Zas (I2.pin p hp).1;have fresh:H2 s2.heap.objs.size=none:=I2.hok.fresh (Zal _);have freshC:H2 HH.objs.size=none:=I2.hok.fresh hCle;have ap:Apart X pins HH.objs.size:=⟨ZbY (Zau I2.lt hCle),ZaS I2.sz hCle,λx c e=>neC c (ltc x c e),λp hp=>neC _ (ltp p hp)⟩;have okY:(X.comp N scope cl HH.objs.size s2 H2 fp).Ok:={
  mod:=I2.ok.mod
  kind:=o2
  glob:=I2.ok.glob
  blt:=I2.ok.blt
  above:=hCle
  inj:=λx y c a b=>I2.ok.inj x y c (c1 _ _ a) (c1 _ _ b)
  has:=λx hx=>c2 x (lookup_mem (yt (λz=>o3 _ (lookup_mem z) rfl) hx))
  cab:=λx c hx _=>by cases hx
  hd:=I2.ok.hd
  frames:=I2.ok.frames
  stk:=.inl rfl
  exf:=λb hb=>⟨neC b (ltf b hb),λx c e=>(f2 b hb).2.2.2.2.1 x c (c1 x c e)⟩
  bs:=I2.bs
  bsz:=ZaS I2.ok.bsz I2.sz
  noex:=λb o e hb=>by
   rcases(f2 b hb).2.2.2.1 with z|z
   ·exact I2.ok.noex b o e z
   ·exact absurd (Zau (Zas e) (ZaS I2.ok.bsz z)) (Zbp _)
  exfs:=λb hb hf=>by
   rcases Zaq.mp (I2.xZ b hf) with z|z
   ·exact(f2 b hb).2.1 z
   ·exact(f2 b hb).2.2.1 z
  lJ:=I2.stack
  frf:=I2.zx }
 have IY:Inv (X.comp N scope cl HH.objs.size s2 H2 fp) [] (frσ fr O) (upd H2 s2.heap.objs.size (.lst [])) { s2 with heap:=h₁,toks:=s2.toks+([]:List (Str×Value)).length }:={
  ok:=okY
  os:=rfl
  bare:=I2.bare
  base:=Un.laid old (Zal _) fresh
  loc:=by
   refine⟨_,hns₁,λj x v e1 e2 e3=>?_⟩;obtain⟨i,f1,f2'⟩:=zB e2;obtain⟨g1,g2⟩:=o6 j i x f1 e1;have k2:=o5 _ (lookup_mem g2) rfl;obtain⟨m2,hm2,l2⟩:=I2.loc;obtain⟨u,ru,lk⟩:=l2 i x v g1 f2' (.inr k2);refine⟨u,ru,.inr ⟨mz g2,?_⟩⟩;obtain⟨c,hcl⟩:=c2 x (lookup_mem g2);refine⟨c,hcl,?_⟩;rcases lk with⟨k,_⟩|⟨_,c',e',z⟩
   ·rcases k2 with k2|k2
    ·rw[show X.env.kindOf x=X.env.scope.names.lookup x from rfl,k2] at k;cases k
    ·rw[show X.env.kindOf x=X.env.scope.names.lookup x from rfl,k2] at k;cases k
   ·rw[c1 x c hcl] at e';cases e';obtain⟨oc,hoc,hd⟩:=z;exact⟨oc,old c oc hoc,hd⟩
  cell:=λx c e=>by
   obtain⟨v,oc,hoc,hd⟩:=I2.cell x c (c1 x c e);exact⟨v,oc,old c oc hoc,hd⟩
  free:=(ao (Zbm hDC)).trans freshC
  freeC:=λx c e=>by
   rw[ao (ZaB (ltc x c (c1 x c e)))];exact I2.freeC x c (c1 x c e)
  pin:=λp hp=>by cases hp
  hok:=I2.hok.laid old (Zal _) ⟨ZaW _,[],0,.nil,atD⟩
  len:=by unfold frσ;rw[Zab];exact o1 }
 have stat:∀ {H':Hp}{pp:List (Addr×Obj)},pp=[]->(∀ b∈fp,H' b=none)->∀ b∈fp,lK (X.comp N scope cl HH.objs.size s2 H2 fp) pp H' b:=λ{H' pp} hp hn b hb=>by
  subst hp;exact⟨hn b hb,neC b (ltf b hb),λz=>okY.exfs b hb z,.inl hb,λx c e=>(f2 b hb).2.2.2.2.1 x c (c1 x c e),λp hp=>by cases hp⟩
 have back:∀ {O':St}{H':Hp}{s':Shared},Inv (X.comp N scope cl HH.objs.size s2 H2 fp) [] O' H' s'->Inv X pins O H' s':=λ{O' H' s'} I'=>
  I2.call' (ch:=fp) I'.os I'.base I'.hok I'.bare λb hb=>⟨(f2 b hb).2.2.2.1,(f2 b hb).2.1,(f2 b hb).2.2.2.2.1,(f2 b hb).2.2.2.2.2⟩
 have loop:∀ s₃:Shared,s₃={ s2 with heap:=h₁,toks:=s2.toks+([]:List (Str×Value)).length } ->
   codeAny (model X.prog X.w) X.A (.compLoop (.ListComp elt [⟨tg,iter,ifs,0⟩] scope pos) 0 (.ref it) (.ref s2.heap.objs.size) (compEnvC scope cl HH.objs.size X.env))
    (compPost (model X.prog X.w) X.A X.xe use Q' (.ref s2.heap.objs.size) HH.objs.size) s₃:=by
  rintro s₃ rfl;obtain⟨W,⟨m0,w0⟩,turn⟩:=hW s2.heap.objs.size fresh;refine Bm (λn s'=>∃ i O' H',Inv (X.comp N scope cl HH.objs.size s2 H2 fp) [] O' H' s'/\tn i s'.heap/\(∀ b∈fp,H' b=none)/\W i n O' H') ?_ m0
   ⟨0,_,_,IY,T.keep _ _ _ st2 λb _ o e=>old b o e,λb hb=>by rw[ao (ZaB (ltf b hb))];exact(f2 b hb).1,w0⟩
  rintro n s3 ⟨i,O3,H3,I3,st3,fr3,w3⟩;rcases turn i n O3 H3 w3 with⟨stop,q⟩|⟨go,Nx,hN,step⟩
  ·refine thn (T.done (X.comp N scope cl HH.objs.size s2 H2 fp) rfl rfl rfl hc i [] s3 O3 H3 _ I3 (stat rfl fr3) st3 stop) ?_;rintro r s4 ⟨hr,I4⟩;subst hr;obtain⟨m4,hm4,_⟩:=I4.loc;exact fin _ _ s4 H3 (back I4) I4.free ap ⟨m4,hm4⟩ q
  ·refine thn (T.item (X.comp N scope cl HH.objs.size s2 H2 fp) rfl rfl rfl hc i [] s3 O3 H3 _ I3 (stat rfl fr3) st3 go) ?_;rintro r s4 ⟨u,hr,h4⟩;subst hr;refine thn h4 ?_;rintro _ s5 ⟨x,H5,I5,r5,y5,st5,fr5⟩;have I5':=I5.pinned (stat rfl fr5) (T.obj _ _ st5);refine ZaO (hg cl HH.objs.size s2 H2 fp _ s5 O3 H5 x u _ I5' r5 (step x H5 y5)) (?_) λ_ _ f=>f.elim;rintro _ s6 ⟨O6,H6,I6,q6⟩;have again:∀ {s7:Shared}{O7:St}{H7:Hp},Inv (X.comp N scope cl HH.objs.size s2 H2 fp) ([]++qd fp s5.heap) O7 H7 s7->Nx O7 H7 ->
     ∃ m,m<n/\∃ i O' H',Inv (X.comp N scope cl HH.objs.size s2 H2 fp) [] O' H' s7/\tn i s7.heap/\(∀ b∈fp,H' b=none)/\W i m O' H':=λ{s7 O7 H7} I7 n7=>by
    obtain⟨m',hm,w7⟩:=hN O7 H7 n7;refine⟨m',hm,i+1,O7,H7,I7.gG,T.keep _ _ _ st5 λb hb o e=>(I7.pin (b,o) (Zan _ (Zan _ (jf hb e)))).1,λb hb=>?_,w7⟩;obtain⟨o,e,d⟩:=T.obj _ _ st5 b hb;exact(I7.pin (b,o) (Zan _ (Zan _ (jf hb e)))).2.1
   refine ZaO (ht cl HH.objs.size s2 H2 fp _ s6 O6 H6 _ I6 q6) (?_) λ_ _ f=>f.elim;rintro b s7 ⟨H7,I7,q7⟩;cases b with
   |false=>
    rw[Zax (by decide)] at q7 ⊢
    exact again I7 q7
   |true=>
    rw[Zat rfl] at q7 ⊢;refine ZaO (he cl HH.objs.size s2 H2 fp _ s7 O6 H7 _ I7 q7) (?_) λ_ _ f=>f.elim;rintro y s8 ⟨v,H8,I8,r8,q8⟩;obtain⟨ys,e8,l8,n8⟩:=q8;refine ZaO (gC (X:=X.comp N scope cl HH.objs.size s2 H2 fp) _ s8 O6 H8 (.ref s2.heap.objs.size) [v] (.ref s2.heap.objs.size) [y] (λ_ H9=>Nx O6 H9) I8 rfl (.cons r8 .nil) ⟨_,ys,v,rfl,rfl,e8,l8,n8⟩) (?_) λ_ _ f=>f.elim;rintro _ s9 ⟨_,H9,I9,_,n9⟩;exact again I9 n9
 exact codeAny_compStart_list (loop _ rfl) (T.self _ 0 _ _ _ (T.keep _ _ _ st2 λb _ o e=>old b o e) (loop _ rfl))
theorem pM(N:List Str)(fr:List (Option Nat))(hc:X.calm=true)(hi:PI X tg iter wi)(hg:∀ cl C s2 H2 fp,PG (X.comp N scope cl C s2 H2 fp) tg g)
  (ht:∀ cl C s2 H2 fp,Dl (X.comp N scope cl C s2 H2 fp) ifs tc)(he:∀ cl C s2 H2 fp,PE (X.comp N scope cl C s2 H2 fp) elt te)
  (ok:jJ X.N N X.env.scope scope fr=true:=by kernel_rfl)(hs:∀ x,foldedSetIterable iter X.env x=pure x:=by intro _;rfl) :
  PE X (.ListComp elt [⟨tg,iter,ifs,0⟩] scope pos) (tE wi fr g tc te):=by
 intro pins s O H Q I h;rw[eval_ListComp];refine vX (use:=none) N fr hc hi hg ht he ok hs I h λD C s' H' I' hn ap hm q=>?_;obtain⟨m,hm⟩:=hm;exact⟨m,hm,λh' sb=>⟨.ref D,H',I'.turned (t':=s'.toks) (λb o hb e=>(sb.2 b hb).trans e) hn ap.ne (.inr ap.ab) ap.cells ap.pins,rfl,q⟩⟩
theorem zE{i:Nat}{y:Str}{py spos:Pos}(N:List Str)(fr:List (Option Nat))(hc:X.calm=true)(hN:X.N.Nodup)(hiy:X.N[i]?=some y)(hy:X.env.scope.names.lookup y=some .local)(hi:PI X tg iter wi)
  (hg:∀ cl C s2 H2 fp,PG (X.comp N scope cl C s2 H2 fp) tg g)(ht:∀ cl C s2 H2 fp,Dl (X.comp N scope cl C s2 H2 fp) ifs tc)(he:∀ cl C s2 H2 fp,PE (X.comp N scope cl C s2 H2 fp) elt te)
  (ok:jJ X.N N X.env.scope scope fr=true:=by kernel_rfl)(hs:∀ x,foldedSetIterable iter X.env x=pure x:=by intro _;rfl)
  (hsw:swapsWith (.ListComp elt [⟨tg,iter,ifs,0⟩] scope pos) (some (.Name y py)) spos.line X.env=pure true:=by rfl) :
  PS X (.Assign [.Name y py] (.ListComp elt [⟨tg,iter,ifs,0⟩] scope pos) spos) (yd (tE wi fr g tc te) (oW i)):=by
 intro pins s O H D I h;rw[exec_Assign_Name_used _ _ _ _ hsw];refine Zai (wpAny_standAt (Zai ?_));show wpAny _ X.A (do let _ <-comprehension (.ListComp elt [⟨tg,iter,ifs,0⟩] scope pos) scope X.env _ (newList []) false (eval iter X.env) (some (assign (.Name y py) X.env))) _ _ s
 refine Zai (ZaO (vX (use:=some (assign (.Name y py) X.env)) (Q':=λ_ s'=>SP X pins D .next s') N fr hc hi hg ht he ok hs I h λDa C s' H' I' hn ap hm q=>?_) (λ_ s' hq=>Zav (Zav hq)) λ_ _ e=>e);obtain⟨m,hm⟩:=hm;show wpAny _ X.A (assign (.Name y py) X.env (.ref Da)) _ _ _
 refine wpAny_assign_Name (sU I' hN hiy (.inl hy) (v:=.ref Da) rfl (λs'' I'' hsb=>?_) (.inr hy));obtain⟨a,sb,ha⟩:=hsb;have hne:C≠a:=by
  rcases ha with z|z
  ·rw[z];exact ap.ne
  ·exact Zbm (ap.cells y a z)
 exact⟨m,hm.sameBut sb hne,λh' sb'=>⟨_,H',I''.turned (t':=s''.toks) (λb o hb e=>(sb'.2 b hb).trans e) hn ap.ne (.inr ap.ab) ap.cells ap.pins,q⟩⟩
end
section
variable{X:Cx}{pins:List (Addr×Obj)}{O:List (Option V)}{H:Hp}{s:Shared}{h':Heap}
theorem Inv.mD{t':Nat}{ch:List Addr}(I:Inv X pins O H s)(k:∀ b o,b ∉ ch->s.heap.get? b=some o->h'.get? b=some o)(hf:∀ b∈ch,lK X pins H b):Inv X pins O H { s with heap:=h',toks:=t' }:=by
 have nit:∀ b u,H b=some u->b ∉ ch:=λb u e z=>by rw[(hf b z).1] at e;cases e
 refine I.step (g':=s.gens) (d':=s.drawn) (ch:=ch) (λb hb=>⟨(hf b hb).2.2.2.1,(hf b hb).2.1,(hf b hb).2.2.2.2.1,(hf b hb).2.2.2.2.2⟩) (λb o _ _ hc e _=>k b o hc e) (λb o _ _ hc e _=>⟨o.slots,k b o hc e⟩) (λ_ _ _ _ n=>n)
  (λb o hc e=>⟨o,k b o hc e⟩) (λ_ _ e=>e) (λ_ _ _ e=>e) (λb ps e=>⟨#[],by rw[e];simp⟩) (λm hm=>?_) (λb u e=>?_) I.bare
 ·obtain⟨o,es,ep,ho,r⟩:=hm;exact⟨o,es,ep,k _ o (λz=>(hf _ z).2.1 rfl) ho,r⟩
 ·refine(I.hok b u e).stay (λc v hc q=>k c v ?_ q) (λ_ q=>q) λ_ _ q=>q;rcases hc with z|z
  ·rw[z];exact nit b u e
  ·exact nit c _ z
theorem Inv.Bo{t':Nat}{ch:List Addr}{a:Addr}{o:HO}(I:Inv X pins O H s)(k:∀ b o,b ∉ ch->s.heap.get? b=some o->h'.get? b=some o)(hf:∀ b∈ch,lK X pins H b)(ha:s.heap.objs.size<=a)
  (new:bR X.prog X.w (upd H a o) h' a o):Inv X pins O (upd H a o) { s with heap:=h',toks:=t' }:=by
 have hn:H a=none:=I.hok.fresh ha;have nit:∀ b u,H b=some u->b ∉ ch:=λb u e z=>by rw[(hf b z).1] at e;cases e
 have ne:∀ b ob,s.heap.get? b=some ob->b≠a:=λb ob e z=>by rw[z] at e;exact absurd (Zau (Zas e) ha) (Zbp _)
 refine I.step (g':=s.gens) (d':=s.drawn) (ch:=ch) (λb hb=>⟨(hf b hb).2.2.2.1,(hf b hb).2.1,(hf b hb).2.2.2.2.1,(hf b hb).2.2.2.2.2⟩) (λb o _ _ hc e _=>k b o hc e) (λb o _ _ hc e _=>⟨o.slots,k b o hc e⟩) (λb ob _ e n=>by rw[ao (ne b ob e)];exact n)
  (λb o hc e=>⟨o,k b o hc e⟩) (λb xs e=>by rw[ao (aO e hn)];exact e) (λb ob u e=>by rw[ao (aO e hn)];exact e) (λb ps e=>⟨#[],by rw[ao (aO e hn),e];simp⟩) (λm hm=>?_) (λb u e=>?_) I.bare
 ·obtain⟨o,es,ep,ho,r⟩:=hm;exact⟨o,es,ep,k _ o (λz=>(hf _ z).2.1 rfl) ho,r⟩
 ·by_cases hb:b=a
  ·subst hb;rw[aq] at e;cases e;exact new
  ·rw[ao hb] at e;refine(I.hok b u e).stay (λc v hc q=>k c v ?_ q) (λc q=>by rw[ao (aO q hn)];exact q) λc xs q=>by rw[ao (aO q hn)];exact q
   rcases hc with z|z
   ·rw[z];exact nit b u e
   ·exact nit c _ z
end
def Itf(f:Nat->V)(n:Nat):It:=⟨λi _=>i<n,λi H x H'=>H'=H/\x=f i,λi _=>i=n⟩
def sgn(z:Str)(i:Nat):V:=.str ⟨#[z.cps.getD i 0]⟩
theorem tG{P:Program}{w:World}{A:Around}(hh:A.handled=none)(it:Addr)(z:Str)(t:Tok):Walks P w A it [it] [it] z.cps.size (SignAt z) (λi h=>h.IsStrIter it (strIterType z) z t i):=by
 unfold strIterType;split
 ·exact Walks.strAscii hh it z t
 ·exact Walks.strWide hh it z t
theorem Dn{P:Program}{w:World}{K:Frag}{tg:Expr}(it:Addr)(z:Str)(t:Tok):Turn P w K tg (Itf (sgn z) z.cps.size) [it] it (λi h=>h.IsStrIter it (strIterType z) z t i) where
 mem:=by simp
 obj:=λi h st b hb=>by
  have e:b=it:=by simpa using hb
  subst e;obtain⟨o,e,c,d⟩:=st;exact⟨o,e,λv z=>by rw[d] at z;cases z⟩
 keep:=λi h h' st k=>let⟨o,e,r⟩:=st;⟨o,k it (by simp) o e,r⟩
 item:=by
  intro X hP hw hK hc i pins s O H E I hf st hg;subst hP hw hK;obtain⟨f0,f1,f2,f3,f4,f5⟩:=hf it (by simp)
  have W:=tG (P:=X.prog) (w:=X.w) (I.ok.hd hc) it z t;refine W.item i s _ _ hg st λv h' tk hv st' kk=>?_;obtain⟨c,u,hx,rfl⟩:=hv;have I1:Inv X pins O H { s with heap:=h',toks:=tk }:=I.turned (λb o hb e=>kk b o (by simpa using hb) e) f0 f1 f3 f4 f5
  obtain⟨o,e,cc,d⟩:=id st';have ec:z.cps.getD i 0=c:=by rw[ZaH,hx];rfl
  refine⟨_,rfl,vR (s:={ s with heap:=h',toks:=tk }) e cc d (by unfold strIterType;split<;>decide) ⟨sgn z i,H,I1,⟨u,?_⟩,⟨rfl,rfl⟩,st',λb hb=>(hf b hb).1⟩⟩
  rw[ec]
 done:=by
  intro X hP hw hK hc i pins s O H E I hf st hg;subst hP hw hK;have hg':i=z.cps.size:=hg;subst hg';obtain⟨f0,f1,f2,f3,f4,f5⟩:=hf it (by simp)
  have W:=tG (P:=X.prog) (w:=X.w) (I.ok.hd hc) it z t;exact W.done s _ _ st λh' tk kk=>⟨rfl,I.turned (λb o hb e=>kk b o (by simpa using hb) e) f0 f1 f3 f4 f5⟩
 self:=λA i s Q E st h=>by
  unfold strIterType at st;split at st
  ·exact wpAny_pyIter_striter_ascii st h
  ·exact wpAny_pyIter_striter_wide st h
section
variable{e:Expr}
def stepV(xs:List V)(lo hi st:Option Int):List V:=(sliceRange (sliceBounds lo hi st xs.length).1 (sliceBounds lo hi st xs.length).2.1 (sliceBounds lo hi st xs.length).2.2).filterMap (xs[·]?)
theorem nZ{xs:List V}{its:List Value}(r:Vals xs its):∀ js:List Nat,Vals (js.filterMap (xs[·]?)) (js.filterMap (its[·]?))
 |[]=>.nil
 |j::js=>by
  cases e:xs[j]? with
  |none=>
   rw[Zbu e,Zbu (r.none_of e)];exact nZ r js
  |some v=>
   obtain⟨u,hu,ru⟩:=r.get e;rw[Zbg e,Zbg hu];exact .cons ru (nZ r js)
end
structure cF(K:Frag)(mg:Str->Option Value)(x:Str)(st:Stmt)(ps:List Str):Prop where
 ex:∃ (f:Addr) (fd:FuncData),mg x=some (.ref f)/\Fun K x x st f fd/\Binds K fd ps []
def FnAt(P:Program)(w:World)(K:Frag)(mg:Str->Option Value)(base:Heap)(x:Str)(k:Nat)(ps:List Str)(sp:Sp):Prop:=
 ∃ (f:Addr) (fd:FuncData),mg x=some (.ref f)/\keepIn K (.ref f)=true/\Binds K fd ps []/\qe P w K mg base CX0 k f fd ps sp
theorem cF.ok{P:Program}{w:World}{K:Frag}{mg:Str->Option Value}{base:Heap}{x:Str}{st:Stmt}{ps N:List Str}{k:Nat}{sp:Sp}(D:cF K mg x st ps)(S:bV N ps (aJ st))(len:∀ vs H Q E,sp vs H Q E->vs.length=ps.length)
  (hbody:∀ (f:Addr) (cdv:Value) (A:Around) (outer:List Env) (s:Shared) (H:Hp) (vs:List V) (Q:VK) (E:XK),cz k (A.deeper (envOfC x (aJ st) s.heap.objs.size f cdv))->sp vs H Q E ->
   ∃ t,PSs (vU CX0 P w K mg base N x (aJ st) f cdv A outer s H E).nox (bF st) t/\t { nx:=λ_ H'=>Q .non H',rt:=Q } (start N vs) H):FnAt P w K mg base x (k+1) ps sp:=by
 obtain⟨f,fd,e,F,b⟩:=D.ex;exact⟨f,fd,e,F.kp,b,F.ok S len λcdv A outer s H vs Q E=>hbody f cdv A outer s H vs Q E⟩
section
variable{X:Cx}{k:Nat}{ps:List Str}{sp:Sp}{x:Str}{p pos:Pos}{e:Expr}{es:List Expr}{t:TA}
theorem bC(G:FnAt X.prog X.w X.K X.mg X.base x k ps sp)(hr:cz k X.A)(hg:Gl X x)(ha:PA X (e::es) t)(hdb:(x==("__debug__":Str))=false:=by decide)
  (he:starEach (e::es) X.env=(false,eval e X.env)::starEach es X.env:=by rfl)(hpl:(backTo pos (starEach es X.env)).any (·.1)=false:=by rfl):PE X (.Call (.Name x p) (e::es) [] pos) (qg sp [] E0 t):=by
 obtain⟨f,fd,e1,e2,e3,e4⟩:=G;exact GC e4 hr hg e1 e2 e3 .nil Jx ha hdb he hpl
end
section
variable{X:Cx}{N:List Str}{scope:Scope}{cl:List (Str×Addr)}{C:Addr}{s2:Shared}{H2:Hp}{fp:List Addr}{x:Str}{pos:Pos}
theorem pvl(i:Nat)(hN:N[i]?=some x:=by rfl)(hv:scope.names.lookup x=some .local:=by rfl)(hd:(x==("__debug__":Str))=false:=by decide)(hcd:(x==("__classdict__":Str))=false:=by decide) :
  PE (X.comp N scope cl C s2 H2 fp) (.Name x pos) (iw i):=yc hN (.inl (fY (by decide) hv)) hd hcd
theorem pvf(i:Nat)(hN:N[i]?=some x:=by rfl)(hv:scope.names.lookup x=some .free:=by rfl)(hd:(x==("__debug__":Str))=false:=by decide)(hcd:(x==("__classdict__":Str))=false:=by decide) :
  PE (X.comp N scope cl C s2 H2 fp) (.Name x pos) (iw i):=yc hN (.inr (mz hv)) hd hcd
theorem glc(h:scope.names.lookup x=some .globalImplicit):Gl (X.comp N scope cl C s2 H2 fp) x:=fY (by decide) h
theorem gK{i:Nat}(hN:N.Nodup)(hi:N[i]?=some x)(hx:scope.names.lookup x=some .local):PG (X.comp N scope cl C s2 H2 fp) (.Name x pos) (oW i):=
 cL hN hi (.inl (fY (by decide) hx)) (.inr (fY (by decide) hx))
end
theorem tyL{K:Frag}{H:Hp}{p:Addr}{xs:List V}(h:H p=some (.lst xs)):tyV K "list" (.ref p) H:=.inl ⟨rfl,xs,SqL.of h⟩
theorem cI{H:Hp}{p:Addr}{o:HO}(h:H p=none):aB H (upd H p o):=λb u e=>by rw[ao (aO e h)];exact e
theorem tH{H H1:Hp}{p:Addr}{o:HO}(h:H p=none)(s:aB H H1):aB H (upd H1 p o):=λb u e=>by rw[ao (aO e h)];exact s b u e
theorem aB.tup{K:Frag}{H H':Hp}{a:Addr}{xs:List V}(e:aB H H')(h:SqT K H a xs):SqT K H' a xs:=by
 rcases h with(h|⟨o,h⟩)|h
 ·exact .inl (.inl (e _ _ h))
 ·exact .inl (.inr ⟨o,e _ _ h⟩)
 ·exact .inr h
theorem Do{α:Type}{xs:List α}{i:Int}(h0:0<=i)(h:i<xs.length):∃ v,atI xs i=some v/\xs[i.toNat]?=some v:=by
 have hl:i.toNat<xs.length:=by lia
 refine⟨xs[i.toNat],?_,by simp[hl]⟩
 have:=j8 (xs:=xs) (j:=i.toNat) (v:=xs[i.toNat]) (by simp[hl])
 rwa [Int.toNat_of_nonneg h0] at this
theorem getD_mem{ns:List Int}{i:Nat}(h:i<ns.length):ns.getD i 0∈ns:=by
 rw[Zag,Zaa h];exact Zbo h
def Nv(J:It)(g:TG)(tb:TS)(D:Ends)(O:St)(H:Hp):Prop:=∃ W:Nat->Nat->St->Hp->Prop,(∃ m,W 0 m O H)/\∀ i m O H,W i m O H ->
 (J.stop i H/\D.nx O H)\/(J.go i H/\∃ N:St->Hp->Prop,(∀ O' H',N O' H'->∃ m',m'<m/\W (i+1) m' O' H')/\∀ x H',J.yld i H x H'->g x O H' λO2 H2=>tb { D with nx:=N,ct:=N,bk:=D.nx } O2 H2)
section
variable{X:Cx}{e es:Expr}{te:TE}{lo hi:Option Expr}{tl th ts:TO}{pos p2:Pos}
def Mv(K:Frag)(te:TE)(tl th ts:TO):TE:=λO H Q=>te O H λx H1=>tl O H1 λl H2=>th O H2 λu H3=>ts O H3 λk H4=>
 ∃ a xs,x=.ref a/\SqL K H4 a xs/\k≠some 0/\∀ p,H4 p=none->Q (.ref p) (upd H4 p (.lst (stepV xs l u k)))
theorem Bp(he:PE X e te)(hl:PO X lo tl)(hu:PO X hi th)(hst:PO X (some es) ts):PE X (.Subscript e (.Slice lo hi (some es) p2) pos) (Mv X.K te tl th ts):=by
 intro pins s O H Q I h;refine Subscript_ (thn (he pins s O H _ I h) ?_);rintro v s1 ⟨x,H1,I1,r1,q1⟩;refine wpAny_Slice (thn (hl pins s1 O H1 _ I1 q1) λvl s2 ⟨l,H2,I2,pl,q2⟩=>thn (hu pins s2 O H2 _ I2 q2) λvu s3 ⟨u,H3,I3,pu,q3⟩=>thn (hst pins s3 O H3 _ I3 q3) ?_);rintro vs s4 ⟨k,H4,I4,pk,q4⟩;obtain⟨a,xs,rfl,hx,hk,q⟩:=q4;cases r1;have I5:Inv X pins O H4 { s4 with heap:=s4.heap.push { cls:=.type "slice",data:=.fields #[vl,vu,vs] } }:=I4.kept (t':=s4.toks) λb ob q=>Zae _ q;obtain⟨its,r,ht,hz⟩:=I5.list hx;have hlen:=r.length;show wpAny (model X.prog X.w) X.A (subscriptTail e (.Slice lo hi (some es) p2) (.ref a) (.ref s4.heap.objs.size)) (EP X pins O Q) X.xe { s4 with heap:=s4.heap.push { cls:=.type "slice",data:=.fields #[vl,vu,vs] } }
 refine tail_any (ops:=[.ref a,.ref s4.heap.objs.size]) ht.isList.typeIs slot_list_getitem.lookup (wpAny_getItem_list_slice ht.isList (Heap.IsSliceOf.new ..) pl pu pk hk ?_ (by rw[List.size_toArray]<;>omega)) (by with_unfolding_all rfl)
 have ep:slicePick its.toArray l u k=((sliceRange (sliceBounds l u k xs.length).1 (sliceBounds l u k xs.length).2.1 (sliceBounds l u k xs.length).2.2).filterMap (its[·]?)).toArray:=by
  unfold slicePick;rw[List.size_toArray,<-hlen];simp
 rw[ep];refine⟨.ref (s4.heap.push { cls:=.type "slice",data:=.fields #[vl,vu,vs] }).objs.size,_,I5.laid (t':=s4.toks) (o:=.lst (stepV xs l u k)) (λb ob q=>Zae _ q) (Zal _) ?_,rfl,q _ (I5.hok.fresh (Zal _))⟩;have rp:=nZ r (sliceRange (sliceBounds l u k xs.length).1 (sliceBounds l u k xs.length).2.1 (sliceBounds l u k xs.length).2.2);refine⟨?_,_,0,rp,Zar _ rfl⟩;have:=slicePick_size_le its.toArray l u k;rw[ep,List.size_toArray,List.size_toArray,<-rp.length] at this;exact ZaS this (by omega)
end
theorem Ks{n:Nat}{i:Int}(h0:0<=i)(h:i<n):ixN n i=some i.toNat:=by
 unfold ixN;rw[Zat h0,Zat h]
def SameBut(p:Addr)(H H':Hp):Prop:=∀ b o,H b=some o->b≠p->H' b=some o
theorem SameBut.refl(p:Addr)(H:Hp):SameBut p H H:=λ_ _ e _=>e
section
variable{X:Cx}{N:List Str}{scope:Scope}{cl:List (Str×Addr)}{C:Addr}{s2:Shared}{H2:Hp}{fp:List Addr}
theorem GZ{es:List Expr}{k:Nat}{t:TGs}{n:Nat}{pos:Pos}(hc:X.calm=true)(h:PGs (X.comp N scope cl C s2 H2 fp) es t)
  (hn:(assignEach es (X.comp N scope cl C s2 H2 fp).env).length=n:=by rfl)(hst:(assignEach es (X.comp N scope cl C s2 H2 fp).env).findIdx? (·.1)=none:=by rfl):PG (X.comp N scope cl C s2 H2 fp) (.Tuple es k pos) (Kc X.K n t):=ur hc h hn hst
end
section
theorem mF{xs:List V}{its:List Value}(r:Vals xs its){j:Nat}(h:j<its.toArray.size):∃ x,xs[j]?=some x/\RelV x its.toArray[j]:=by
 have hl:j<its.length:=by simpa using h
 have hx:j<xs.length:=by rw[r.length];exact hl
 obtain⟨u,hu,ru⟩:=r.get (i:=j) (x:=xs[j]) (by simp[hx])
 refine⟨xs[j],by simp[hx],?_⟩
 have:its.toArray[j]=u:=by
  rw[Zaa hl] at hu;simpa using hu
 rw[this];exact ru
end
section
variable{k:Nat}
theorem yu{A:Around}(hr:cz k A):A.units+32<cLine:=Zbf (Nat.add_le_add_left (by decide:32<=64) _) hr.units
end
def uC(H:Hp)(xs:List V)(ps:List (Int×Int)):Prop:=xs.length=ps.length/\∀ (j:Nat) (c:Int×Int),ps[j]?=some c->∃ a,xs[j]?=some (.ref a)/\H a=some (.tup [.int c.1,.int c.2])
section
variable{κ:Type}[DecidableEq κ]
def pB(kvs:List (κ×V))(k:κ):Option V:=(kvs.find? λkv=>decide (kv.1=k)).map (·.2)
def putK(kvs:List (κ×V))(k:κ)(v:V):List (κ×V):=
 if(kvs.any λkv=>decide (kv.1=k))=true then kvs.map (λkv=>if kv.1=k then(kv.1,v) else kv) else kvs++[(k,v)]
theorem mG{p:κ×V}{r:List (κ×V)}{k:κ}(e:p.1=k):pB (p::r) k=some p.2:=by simp[pB,Zbz,e]
theorem jK{p:κ×V}{r:List (κ×V)}{k:κ}(e:¬p.1=k):pB (p::r) k=pB r k:=by simp[pB,Zbz,e]
theorem vY(k:κ):∀ kvs:List (κ×V),(kvs.any λkv=>decide (kv.1=k))=(pB kvs k).isSome
 |[]=>rfl
 |p::r=>by
  rw[Zbx];by_cases e:p.1=k
  ·simp only[mG e,decide_eq_true e,Bool.true_or,ZbL]
  ·rw[jK e,decide_eq_false e,Bool.false_or];exact vY k r
theorem g8(kvs:List (κ×V))(k:κ)(v:V):(putK kvs k v).length<=kvs.length+1:=by
 unfold putK;split
 ·rw[Zab];omega
 ·rw[Zaz,ZaJ,List.length_nil];omega
theorem nW.iD{o:Option V}{u:Option Value}(r:nW o u):o.isSome=u.isSome:=by
 cases o with
 |none=>cases u with
  |none=>rfl
  |some _=>exact(show False from r).elim
 |some _=>cases u with
  |none=>exact(show False from r).elim
  |some _=>rfl
theorem nW.getD{o:Option V}{u:Option Value}{d:V}{d':Value}(r:nW o u)(rd:RelV d d'):RelV (o.getD d) (u.getD d'):=by
 cases o with
 |none=>cases u with
  |none=>exact rd
  |some _=>exact(show False from r).elim
 |some _=>cases u with
  |none=>exact(show False from r).elim
  |some _=>exact r
theorem KV.val{kvs:List (κ×V)}{vs:List (κ×Value)}(r:KV kvs vs)(k:κ):nW (pB kvs k) (valueAt vs k):=by
 unfold KV at r;induction r with
 |nil=>exact True.intro
 |@cons p q ps qs h t ih=>
  obtain⟨h1,h2⟩:=h;by_cases e:p.1=k
  ·have e':q.1=k:=h1.symm.trans e;have b:valueAt (q::qs) k=some q.2:=by simp[valueAt,Zbz,e']
   rw[mG e,b];exact h2
  ·have e':¬q.1=k:=λz=>e (h1.trans z);have b:valueAt (q::qs) k=valueAt qs k:=by simp[valueAt,Zbz,e']
   rw[jK e,b];exact ih
theorem KV.any{kvs:List (κ×V)}{vs:List (κ×Value)}(r:KV kvs vs)(k:κ):(kvs.any λkv=>decide (kv.1=k))=vs.any λkv=>decide (kv.1=k):=by
 unfold KV at r;induction r with
 |nil=>rfl
 |cons h t ih=>rw[Zbx,Zbx,ih,h.1]
theorem KV.repl{kvs:List (κ×V)}{vs:List (κ×Value)}(r:KV kvs vs)(k:κ){y:V}{u:Value}(ry:RelV y u) :
  KV (kvs.map λkv=>if kv.1=k then(kv.1,y) else kv) (vs.map λkv=>if kv.1=k then(kv.1,u) else kv):=by
 unfold KV at r ⊢;induction r with
 |nil=>exact .nil
 |@cons p q ps qs h t ih=>
  rw[Zaw,Zaw];refine .cons ?_ ih;obtain⟨h1,h2⟩:=h;by_cases e:p.1=k
  ·rw[Zat e,Zat (h1.symm.trans e)];exact⟨h1,ry⟩
  ·rw[Zax e,Zax (λz=>e (h1.trans z))];exact⟨h1,h2⟩
theorem KV.put{kvs:List (κ×V)}{vs:List (κ×Value)}(r:KV kvs vs)(k:κ){y:V}{u:Value}(ry:RelV y u):KV (putK kvs k y) (stored vs k u):=by
 unfold putK stored;rw[r.any k];by_cases e:(vs.any λkv=>decide (kv.1=k))=true
 ·rw[Zat e,Zat e];exact r.repl k ry
 ·rw[Zax e,Zax e];exact Paired.snoc r ⟨rfl,ry⟩
theorem KV.keys{kvs:List (κ×V)}{vs:List (κ×Value)}(r:KV kvs vs):kvs.map (·.1)=vs.map (·.1):=by
 unfold KV at r;induction r with
 |nil=>rfl
 |cons h t ih=>rw[Zaw,Zaw,ih,h.1]
theorem KV.length{kvs:List (κ×V)}{vs:List (κ×Value)}(r:KV kvs vs):kvs.length=vs.length:=Zcs r
end
theorem qj{P:Program}{w:World}{k:Key}{u:Value}(r:RelV (kV k) u):(bu P w).is k u=true:=by
 cases k with
 |inl i=>obtain⟨t,e⟩:=(show ∃ t,u=Value.int i t from r);subst e;exact vK P w i t
 |inr x=>obtain⟨t,e⟩:=(show ∃ t,u=Value.str x t from r);subst e;exact vL P w x t
theorem tL{P:Program}{w:World}:∀ {ks:List Key}{us:List Value},Vals (ks.map kV) us->ItemsAre (bu P w) ks us
 |[],_,r=>by rw[Zci] at r;cases r;exact .nil
 |k::ks,_,r=>by
  rw[Zaw] at r;cases r with
  |cons h t=>exact .cons (qj h) (tL t)
noncomputable abbrev KT(H:Hp):List (List Key×V)->List (List Key×Addr×Value)->Prop:=Paired λp q=>p.1=q.1/\H q.2.1=some (.tup (p.1.map kV))/\RelV p.2 q.2.2
theorem KT.val{H:Hp}{kvs:List (List Key×V)}{xs:List (List Key×Addr×Value)}(r:KT H kvs xs)(k:List Key):nW (pB kvs k) ((atKey xs k).map (·.2)):=by
 induction r with
 |nil=>exact True.intro
 |@cons p q ps qs h t ih=>
  obtain⟨h1,_,h2⟩:=h;by_cases e:p.1=k
  ·have e':q.1=k:=h1.symm.trans e;have b:atKey (q::qs) k=some q.2:=by simp[atKey,Zbz,e']
   rw[mG e,b];exact h2
  ·have e':¬q.1=k:=λz=>e (h1.trans z);have b:atKey (q::qs) k=atKey qs k:=by simp[atKey,Zbz,e']
   rw[jK e,b];exact ih
theorem KT.repl{H:Hp}{kvs:List (List Key×V)}{xs:List (List Key×Addr×Value)}(r:KT H kvs xs)(k:List Key){y:V}{u:Value}(ry:RelV y u) :
  KT H (kvs.map λkv=>if kv.1=k then(kv.1,y) else kv) (xs.map (putAt k u)):=by
 induction r with
 |nil=>exact .nil
 |@cons p q ps qs h t ih=>
  rw[Zaw,Zaw];refine .cons ?_ ih;obtain⟨h1,h2,h3⟩:=h;unfold putAt;by_cases e:p.1=k
  ·rw[Zat e,Zat (h1.symm.trans e)];exact⟨h1,h2,ry⟩
  ·rw[Zax e,Zax (λz=>e (h1.trans z))];exact⟨h1,h2,h3⟩
theorem KT.put{H:Hp}{kvs:List (List Key×V)}{xs:List (List Key×Addr×Value)}(r:KT H kvs xs)(k:List Key){b:Addr}{y:V}{u:Value}(hb:H b=some (.tup (k.map kV)))(ry:RelV y u) :
  KT H (putK kvs k y) (storedH xs k b u):=by
 have e:(kvs.any λkv=>decide (kv.1=k))=(atKey xs k).isSome:=by
  rw[vY,(r.val k).iD,Zco]
 unfold putK storedH;rw[e];by_cases q:(atKey xs k).isSome=true
 ·rw[Zat q,Zat q];exact r.repl k ry
 ·rw[Zax q,Zax q];exact Paired.snoc r ⟨rfl,hb,ry⟩
theorem KT.keeps{H H':Hp}{kvs:List (List Key×V)}{xs:List (List Key×Addr×Value)}(r:KT H kvs xs)(ht:∀ b ys,H b=some (.tup ys)->H' b=some (.tup ys)):KT H' kvs xs:=
 Paired.J5 r λ_ _ z=>⟨z.1,ht _ _ z.2.1,z.2.2⟩
section
variable{P:Program}{w:World}{H:Hp}{h:Heap}{a:Addr}
theorem Jy{u:HO}(ok:HOk P w H h)(e:Rd H a u):bR P w H h a u:=e.ok ok
theorem oX{kvs:List (Key×V)}(ok:HOk P w H h)(e:Rd H a (.dK kvs)):kvs.length<=sizeLine/\(a==sysModules)=false/\∃ vs,KV kvs vs/\h.DictOf (bu P w) a vs:=
 show bR P w H h a (.dK kvs) from Jy ok e
theorem Jz{kvs:List (Key×V)}(ok:HOk P w H h)(e:H a=some (.dK kvs)):kvs.length<=sizeLine/\(a==sysModules)=false/\∃ vs,KV kvs vs/\h.DictOf (bu P w) a vs:=oX ok (.inl e)
theorem lN{ks:List Key}(ok:HOk P w H h)(e:H a=some (.tup (ks.map kV))):(tupleKind (bu P w)).is h ks a:=by
 obtain⟨_,its,r,⟨o,h1,h2,n,h3⟩,_⟩:=(show bR P w H h a (.tup (ks.map kV)) from ok a _ e);exact⟨o,its.toArray,n,h1,h2,h3,by simpa using tL r⟩
theorem ql{kvs:List (List Key×V)}(ok:HOk P w H h)(e:Rd H a (.dT kvs)):kvs.length<=sizeLine/\(a==sysModules)=false /\
  ∃ xs,KT H kvs xs/\h.DictOfH (tupleKind (bu P w)) a xs:=by
 obtain⟨z,y,xs,r,o,es,ep,h1,h2,h3,h4,h5⟩:=(show bR P w H h a (.dT kvs) from Jy ok e);refine⟨z,y,xs,r,o,es,ep,h1,h2,h3,h4,λx hx=>?_,h5⟩;have all:∀ {l:List (List Key×V)}{m:List (List Key×Addr×Value)},KT H l m->∀ x∈m,(tupleKind (bu P w)).is h x.1 x.2.1:=by
  intro l m q;induction q with
  |nil=>intro x hx;exact nomatch hx
  |@cons p q ps qs hq t ih=>
   intro x hx;rcases Zaq.mp hx with e|hx
   ·subst e;exact lN ok (by rw[<-hq.1];exact hq.2.1)
   ·exact ih x hx
 exact all r x hx
theorem JB{kvs:List (List Key×V)}(ok:HOk P w H h)(e:H a=some (.dT kvs)):kvs.length<=sizeLine/\(a==sysModules)=false /\
  ∃ xs,KT H kvs xs/\h.DictOfH (tupleKind (bu P w)) a xs:=ql ok (.inl e)
end
def mH(H:Hp)(a:Addr)(y:V)(r:Option V):Prop:=
 (∃ kvs k,Rd H a (.dK kvs)/\y=kV k/\r=pB kvs k)\/∃ kvs k b,Rd H a (.dT kvs)/\y=.ref b/\H b=some (.tup (k.map kV))/\r=pB kvs k
def mJ(H:Hp)(a:Addr)(y v:V)(H':Hp):Prop:=
 (∃ kvs k,H a=some (.dK kvs)/\y=kV k/\kvs.length<sizeLine/\H'=upd H a (.dK (putK kvs k v))) \/
 ∃ kvs k b,H a=some (.dT kvs)/\y=.ref b/\H b=some (.tup (k.map kV))/\kvs.length<sizeLine/\H'=upd H a (.dT (putK kvs k v))
theorem mJ.k{H:Hp}{a:Addr}{kvs:List (Key×V)}{k:Key}{v:V}(e:H a=some (.dK kvs))(hl:kvs.length<sizeLine):mJ H a (kV k) v (upd H a (.dK (putK kvs k v))):=.inl ⟨kvs,k,e,rfl,hl,rfl⟩
theorem mJ.t{H:Hp}{a b:Addr}{kvs:List (List Key×V)}{k:List Key}{v:V}(e:H a=some (.dT kvs))(eb:H b=some (.tup (k.map kV)))(hl:kvs.length<sizeLine) :
  mJ H a (.ref b) v (upd H a (.dT (putK kvs k v))):=.inr ⟨kvs,k,b,e,rfl,eb,hl,rfl⟩
section
variable{X:Cx}{pins:List (Addr×Obj)}{O:St}{H:Hp}{s:Shared}{a:Addr}{y v:V}{u r:Value}{o:Option V}{A:Around}{E:Value->Shared->Prop}
theorem Inv.big(I:Inv X pins O H s):sysModules<s.heap.objs.size:=by
 have h:mainGlobals<s.heap.objs.size:=(I.mod.glob.keeps I.bk).lt;exact ZbA (by decide) h
theorem Bq{Q:Value->Shared->Prop}(hu:A.units+1<cLine)(I:Inv X pins O H s)(g:mH H a y (some v))(ry:RelV y u)(h:∀ w' s',Inv X pins O H s'->RelV v w'->Q w' s') :
  wpAny (model X.prog X.w) A (getItem (.ref a) u) Q E s:=by
 rcases g with⟨kvs,k,e,ey,l⟩|⟨kvs,k,b,e,ey,eb,l⟩
 ·subst ey;obtain⟨z,hd,vs,rel,dd⟩:=oX I.hok e;obtain⟨w',hw,rw'⟩:=nW.some_of (v:=v) (o:=valueAt vs k) (by rw[l];exact rel.val k)
  exact wpAny_getItem_of (qj ry) dd.mapOf hw (h w' _ (I.tok _) rw')
 ·subst ey;cases (show u=Value.ref b from ry);obtain⟨z,hd,xs,rel,dd⟩:=ql I.hok e;obtain⟨w',hw,rw'⟩:=nW.some_of (v:=v) (o:=(atKey xs k).map (·.2)) (by rw[l];exact rel.val k)
  obtain⟨p,hp,hp2⟩:=Za9.mp hw;refine wpAny_getItem_heap (tupleKind_room_in1 hu) (lN I.hok eb) dd hp ?_;rw[hp2];exact h w' _ (I.tok _) rw'
theorem Ny{Q:Value->Shared->Prop}(hu:A.units+1<cLine)(I:Inv X pins O H s)(g:mH H a y o)(ry:RelV y u)(h:∀ s',Inv X pins O H s'->Q (.bool o.isSome) s') :
  wpAny (model X.prog X.w) A (compareOp .In u (.ref a)) Q E s:=by
 rcases g with⟨kvs,k,e,ey,l⟩|⟨kvs,k,b,e,ey,eb,l⟩
 ·subst ey;obtain⟨z,hd,vs,rel,dd⟩:=oX I.hok e;refine wpAny_in_of (qj ry) hd dd.mapOf ?_;rw[<-(rel.val k).iD,<-l];exact h _ (I.tok _)
 ·subst ey;cases (show u=Value.ref b from ry);obtain⟨z,hd,xs,rel,dd⟩:=ql I.hok e;refine wpAny_in_heap (tupleKind_room_in1 hu) (lN I.hok eb) hd dd ?_;have q:=(rel.val k).iD;rw[Zco] at q;rw[<-q,<-l];exact h _ (I.tok _)
theorem Ha{Q:Value->Shared->Prop}(hu:A.units+1<cLine)(I:Inv X pins O H s)(g:mH H a y o)(ry:RelV y u)(h:∀ s',Inv X pins O H s'->Q (.bool (!o.isSome)) s') :
  wpAny (model X.prog X.w) A (compareOp .NotIn u (.ref a)) Q E s:=by
 rcases g with⟨kvs,k,e,ey,l⟩|⟨kvs,k,b,e,ey,eb,l⟩
 ·subst ey;obtain⟨z,hd,vs,rel,dd⟩:=oX I.hok e;refine wpAny_notIn_of (qj ry) hd dd.mapOf ?_;rw[<-(rel.val k).iD,<-l];exact h _ (I.tok _)
 ·subst ey;cases (show u=Value.ref b from ry);obtain⟨z,hd,xs,rel,dd⟩:=ql I.hok e;refine wpAny_notIn_heap (tupleKind_room_in1 hu) (lN I.hok eb) hd dd ?_;have q:=(rel.val k).iD;rw[Zco] at q;rw[<-q,<-l];exact h _ (I.tok _)
theorem pN{h':Heap}{t':Nat}{ob:HO}(I:Inv X pins O H s)(mu:Mut (H a))(hs:Heap.SameBut a s.heap h')(he:∃ q,h'.get? a=some q)(new:bR X.prog X.w (upd H a ob) h' a ob) :
  Inv X pins O (upd H a ob) { s with heap:=h',toks:=t' }:=
 I.write (x:=a) (e:=a) mu (.inl rfl) (λb q hb z=>(hs.2 b hb).trans z) he new
theorem Dq{P:Program}{w:World}{H':Hp}{h':Heap}{kvs:List (Key×V)}{vs:List (Key×Value)}(z:kvs.length<=sizeLine)(hd:(a==sysModules)=false)(rel:KV kvs vs)(dd:h'.DictOf (bu P w) a vs) :
  bR P w H' h' a (.dK kvs):=⟨z,hd,vs,rel,dd⟩
theorem Br{H':Hp}{Q:Unit->Shared->Prop}(hu:A.units+1<cLine)(I:Inv X pins O H s)(g:mJ H a y v H')(ry:RelV y u)(rv:RelV v r)(h:∀ s',Inv X pins O H' s'->Q () s') :
  wpAny (model X.prog X.w) A (setItem (.ref a) u r) Q E s:=by
 rcases g with⟨kvs,k,e,ey,l,eH⟩|⟨kvs,k,b,e,ey,eb,l,eH⟩
 ·subst ey eH;obtain⟨z,hd,vs,rel,dd⟩:=Jz I.hok e;have hz:vs.length<=sizeLine:=by rw[<-rel.length];exact z
  have hl:(putK kvs k v).length<=sizeLine:=by have:=g8 kvs k v;lia
  refine wpAny_setItem_pairs (hsz:=hz) (qj ry) dd λh' dd' hs=>h _ ?_;have he:∃ q,h'.get? a=some q:=let⟨q,_,_,hq,_⟩:=dd';⟨q,hq⟩;exact pN I (by rw[e];exact True.intro) hs he (Dq hl hd (rel.put k rv) dd')
 ·subst ey eH;cases (show u=Value.ref b from ry);obtain⟨z,hd,xs,rel,dd⟩:=JB I.hok e;have hz:xs.length<=sizeLine:=by rw[<-Zcs rel];exact z
  have hl:(putK kvs k v).length<=sizeLine:=by have:=g8 kvs k v;lia
  refine wpAny_setItem_heap (hsz:=hz) (tupleKind_room_in1 hu) (lN I.hok eb) dd λh' dd' hs=>h _ ?_;obtain⟨q,es,ep,hq,h2,h3,h4,_,h5⟩:=dd';refine pN I (by rw[e];exact True.intro) hs ⟨q,hq⟩ ⟨hl,hd,_,(rel.put k eb rv).keeps λc ys ec=>?_,q,es,ep,hq,h2,h3,h4,h5⟩
  rw[ao (Jj ec e (λz=>nomatch z))];exact ec
end
def Ku(i:Expr):Prop:=∀ ov iv,subscripted i false ov iv=operate [ov,iv] (getItem ov iv)
theorem Hb{prog:Program}{w:World}{A:Around}{E:Value->Shared->Prop}{s:Shared}{env:Env}{value slice:Expr}{pos:Pos}{T id:String}{Q:Value->Shared->Prop}
  (hl:typeLookup (.type T) "__getitem__"=pure (some (.builtin id)))(hs:Ku slice)
  (h:wpAny (model prog w) A (eval value env) (λo s₁=>wpAny (model prog w) A (eval slice env) (λi s₂=>s₂.TypeIs o T/\wpAny (model prog w) A (getItem o i) Q E s₂) E s₁) E s) :
  wpAny (model prog w) A (eval (.Subscript value slice pos) env) Q E s:=by
 refine Subscript_ (ZaO h (λo s₁ h₁=>ZaO h₁ (λi s₂ h₂=>?_) λ_ _ x=>x) λ_ _ x=>x);obtain⟨hT,h₂⟩:=h₂;unfold subscriptTail;refine Zai ?_;rw[getitemInPython_of_ne hT.not_modules];refine Zai (wpAny_specialOf hT hl ?_);have fin:wpAny (model prog w) A (subscripted slice false o i) (λr s₃=>wpAny (model prog w) A (letTemporaryGo value o r>>=λ_=>pure r) Q E s₃) E s₂:=by
  rw[hs o i];exact wpAny_operating (ZaO h₂ (λr s₃ h₃=>Zai (wpAny_letTemporaryGo (Zav h₃))) λ_ _ x=>x)
 first
  |exact Zav (Zai fin)
  |exact Zai (Zav (Zai fin))
  |exact Zai fin
theorem vZ{X:Cx}{pins:List (Addr×Obj)}{O:St}{H:Hp}{s:Shared}{a:Addr}{y:V}{o:Option V}(I:Inv X pins O H s)(g:mH H a y o):s.TypeIs (.ref a) "dict":=by
 rcases g with⟨kvs,k,e,_,_⟩|⟨kvs,k,b,e,_,_,_⟩
 ·obtain⟨_,_,vs,_,dd⟩:=oX I.hok e;exact dd.typeIs
 ·obtain⟨_,_,xs,_,dd⟩:=ql I.hok e;exact dd.typeIs
def Dr(td ty:TE):TE:=λO H Q=>td O H λx H1=>ty O H1 λy H2=>∃ a v,x=.ref a/\mH H2 a y (some v)/\Q v H2
def Ds(td ty tv:TE):TS:=λD O H=>tv O H λv H1=>td O H1 λx H2=>ty O H2 λy H3=>∃ a H4,x=.ref a/\mJ H3 a y v H4/\D.nx O H4
section
variable{X:Cx}{o i value:Expr}{pos pos':Pos}{td ty tv:TE}
theorem Hc(hu:X.A.units+1<cLine)(ho:PE X o td)(hi:PE X i ty)(hs:Ku i):PE X (.Subscript o i pos) (Dr td ty):=by
 intro pins s O H Q I h;refine Hb PySem.F.slot_dict_getitem.lookup hs (thn (ho pins s O H _ I h) λu s1 ⟨x,H1,I1,rx,q1⟩=>thn (hi pins s1 O H1 _ I1 q1) ?_);rintro iv s2 ⟨y,H2,I2,ry,a,v,ex,g,q2⟩;subst ex;obtain rfl:u=Value.ref a:=rx;exact⟨vZ I2 g,Bq hu I2 g ry λw' s3 I3 rw'=>⟨v,H2,I3,rw',q2⟩⟩
theorem mK(hu:X.A.units+1<cLine)(ho:PE X o td)(hi:PE X i ty)(hv:PE X value tv)(hs:swapsWith value (some (.Subscript o i pos')) pos.line X.env=pure false) :
  PS X (.Assign [.Subscript o i pos'] value pos) (Ds td ty tv):=by
 intro pins s O H D I h;refine wpAny_Assign_Subscript (thn (hv pins s O H _ I h) λr s1 ⟨v,H1,I1,rv,q1⟩=>thn (ho pins s1 O H1 _ I1 q1) λu s2 ⟨x,H2,I2,rx,q2⟩=>thn (hi pins s2 O H2 _ I2 q2) ?_) hs;rintro iv s3 ⟨y,H3,I3,ry,a,H4,ex,g,q3⟩;subst ex;obtain rfl:u=Value.ref a:=rx;exact Br hu I3 g ry rv λs4 I4=>⟨O,H4,I4,q3⟩
end
theorem v9{P:Program}{w:World}{H:Hp}(h:Heap)(hb:sysModules<h.objs.size):bR P w H (h.push { cls:=.type "dict",data:=.dict #[] }) h.objs.size (.dK []):=
 ⟨ZaW _,beq_eq_false_iff_ne.mpr (Zbm (ZaB hb)),[],.nil,Heap.DictOf.new h⟩
theorem Dt{P:Program}{w:World}{H:Hp}(h:Heap)(hb:sysModules<h.objs.size):bR P w H (h.push { cls:=.type "dict",data:=.dict #[] }) h.objs.size (.dT []):=
 ⟨ZaW _,beq_eq_false_iff_ne.mpr (Zbm (ZaB hb)),[],.nil,_,#[],0,Zar _ rfl,⟨rfl,rfl,rfl⟩,rfl,rfl,ZcE⟩
def Du:TE:=λ_ H Q=>∀ p,H p=none->Q (.ref p) (upd H p (.dK []))
section
variable{X:Cx}{pos:Pos}
theorem mL:PE X (.Dict [] [] pos) Du:=λpins s O H Q I h=>
 wpAny_Dict_empty ⟨.ref s.heap.objs.size,_,I.laid (a:=s.heap.objs.size) (o:=.dK []) (t':=s.toks) (λ_ _ q=>Zae _ q) (Zal _) (v9 s.heap I.big),rfl,h _ (I.hok.fresh (Zal _))⟩
end
def Dv:List (TE×TE)->St->Hp->(List (V×V)->Hp->Prop)->Prop
 |[],_,H,Q=>Q [] H
 |(tk,tv)::r,O,H,Q=>tk O H λx H1=>tv O H1 λy H2=>Dv r O H2 λps H3=>Q ((x,y)::ps) H3
noncomputable abbrev VV:List (V×V)->List (Value×Value)->Prop:=Paired λp q=>RelV p.1 q.1/\RelV p.2 q.2
def PPs(X:Cx)(pos:Pos)(keys:List (Option Expr))(values:List Expr)(trs:List (TE×TE)):Prop:=
 ∀ (pins:List (Addr×Obj)) (s:Shared) (O:St) (H:Hp) (Q:List (V×V)->Hp->Prop),Inv X pins O H s->Dv trs O H Q ->
  wpAny (model X.prog X.w) X.A (evalPairs (pairTrees keys values X.env pos)) (λvs s'=>∃ ps H',Inv X pins O H' s'/\VV ps vs/\Q ps H') X.xe s
structure M1(X:Cx)(o:Expr)(m:Str)(apos:Pos)(e:Expr)(cpos:Pos):Prop where
 base:attributeBase o m X.env (eval o X.env)=eval o X.env
 few:((backTo cpos (starEach [e] X.env)).all (λx=>!x.1)&&(backToKw cpos (keywordEach [] X.env)).all (λx=>x.1.isSome)
  && decide (([e]:List Expr).length+([]:List Keyword).length+(if([]:List Keyword).isEmpty then 0 else 1)<30))=true
 line:(apos.endLine==cpos.line)=true
 trees:backTo cpos (starEach [e] X.env)=[(false,eval e X.env)]
def IsD(H:Hp)(a:Addr):Prop:=(∃ kvs,Rd H a (.dK kvs))\/∃ kvs,Rd H a (.dT kvs)
theorem Dw{X:Cx}{pins:List (Addr×Obj)}{O:St}{H:Hp}{s:Shared}{a:Addr}(I:Inv X pins O H s)(d:IsD H a) :
  s.TypeIs (.ref a) "dict"/\(∀ b,Value.ref a=.ref b->∃ ob,s.heap.get? b=some ob/\ob.dict=none)/\(a==sysModules)=false:=by
 rcases d with⟨kvs,e⟩|⟨kvs,e⟩
 ·obtain⟨_,hd,vs,_,dd⟩:=oX I.hok e;refine⟨dd.typeIs,λb q=>?_,hd⟩;cases q;obtain⟨ob,_,_,h1,h2,_⟩:=dd;exact⟨ob,h1,h2.2.1⟩
 ·obtain⟨_,hd,xs,_,dd⟩:=ql I.hok e;refine⟨dd.typeIs,λb q=>?_,hd⟩;cases q;obtain⟨ob,_,_,h1,h2,_⟩:=dd;exact⟨ob,h1,h2.2.1⟩
section
variable{X:Cx}{pins:List (Addr×Obj)}{O:St}{H:Hp}{s:Shared}{a:Addr}{y:V}{u:Value}{o:Option V}{A:Around}{E:Value->Shared->Prop}
theorem Kv{Q:Value->Shared->Prop}(hu:A.units+1<cLine)(I:Inv X pins O H s)(g:mH H a y o)(ry:RelV y u)(h:∀ w' s',Inv X pins O H s'->RelV (o.getD .non) w'->Q w' s') :
  wpAny (model X.prog X.w) A (call (.builtin "dict.get") [.ref a,u]) Q E s:=by
 rcases g with⟨kvs,k,e,ey,l⟩|⟨kvs,k,b,e,ey,eb,l⟩
 ·subst ey;obtain⟨z,hd,vs,rel,dd⟩:=oX I.hok e;refine call_meetsIn ZbZ dd.typeIs PySem.F.entry_dict_get (PySem.F.args_dict_get_2 _ _) (meets_dict_get (bu X.prog X.w) a (qj ry) hd) ⟨_,dd.mapOf,h _ _ (I.tok _) ?_⟩;rw[l];exact(rel.val k).getD rfl
 ·subst ey;cases (show u=Value.ref b from ry);obtain⟨z,hd,xs,rel,dd⟩:=ql I.hok e;refine call_meetsIn ZbZ dd.typeIs PySem.F.entry_dict_get (PySem.F.args_dict_get_2 _ _) (meetsH_dict_get (tupleKind (bu X.prog X.w)) a b hd) ⟨tupleKind_room_in1 hu,k,xs,lN I.hok eb,dd,h _ _ (I.tok _) ?_⟩;rw[l];exact(rel.val k).getD rfl
end
def yw(td ty:TE):TE:=λO H Q=>td O H λx H1=>∃ a,x=.ref a/\IsD H1 a/\ty O H1 λy H2=>∃ o,mH H2 a y o/\Q (o.getD .non) H2
section
variable{X:Cx}{o e:Expr}{apos cpos:Pos}{td ty:TE}
theorem Dy(hu:X.A.units+1<cLine)(ho:PE X o td)(he:PE X e ty)(m:M1 X o "get" apos e cpos):PE X (.Call (.Attribute o "get" apos) [e] [] cpos) (yw td ty):=by
 intro pins s O H Q I h;refine wpAny_Call_method m.base m.few m.line PySem.F.plainAttrs_dict ZbZ PySem.F.type_dict_get (thn (ho pins s O H _ I h) ?_);rintro u s1 ⟨x,H1,I1,rx,a,ex,d,q1⟩;subst ex;obtain rfl:u=Value.ref a:=rx;obtain⟨t1,t2,_⟩:=Dw I1 d;refine⟨t1,t2,?_⟩;rw[m.trees];refine Calls.callWith_builtin rfl (Calls.evalArgs_plain (Calls.spliced_cons (thn (he pins s1 O H1 _ I1 q1) λiv s2 ⟨y,H2,I2,ry,ov,g,q2⟩=>Calls.spliced_nil ?_)));exact Kv hu I2 g ry λw' s3 I3 rw'=>⟨_,H2,I3,rw',q2⟩
end
end L2
namespace L2.MP
open PySem PySem.Spec PyProof.Rows
inductive PV where
 |non|bl (b:Bool)|int (i:Int)|str (x:Str)|ty (n:String)
 |tup (l:List PV)|lst (l:List PV)|dk (l:List (Key×PV))|dt (l:List (List Key×PV))
 |exc (c:Str) (fs:List (Str×PV))
noncomputable instance:Inhabited PV:=⟨.non⟩
def PV.flat:PV->Bool
 |.non|.bl _|.int _|.str _|.ty _=>true
 |_=>false
def n6:Nat->PV->Bool
 |0,p=>p.flat
 |n+1,.tup l=>l.all (n6 n)
 |_+1,p=>p.flat
def PV.still(p:PV):Bool:=n6 5 p
inductive Res(α:Type) where
 |ok (a:α)|ex (z:PV)
def bnd{α β:Type}(x:Option (Res α))(k:α->Option (Res β)):Option (Res β):=match x with
 |some (.ok a)=>k a
 |some (.ex z)=>some (.ex z)
 |none=>none
def XO(e C:Addr)(d:Option Addr):HO:=.ext λh=>∃ vs:Array Value,h.get? e=some { cls:=.ref C,dict:=d,data:=.fields vs }
structure XNm(K:Frag)(C:Addr)(c:Str):Prop where
 ns:nsIn K mainGlobals c=some (some (.ref C))
 cl:∃ cd,PySem.W.clsIn K C=some cd/\cd.name=c
inductive Rep(K:Frag)(F:Hp):V->PV->Prop
 |non:Rep K F .non .non
 |bl {b:Bool}:Rep K F (.bl b) (.bl b)
 |int {i:Int}:Rep K F (.int i) (.int i)
 |str {x:Str}:Rep K F (.str x) (.str x)
 |ty {n:String}:Rep K F (.ty n) (.ty n)
 |tup {a:Addr}{xs:List V}{l:List PV} (h:F a=some (.tup xs)) (hl:xs.length=l.length) (hr:∀ (j:Nat) x p,xs[j]?=some x->l[j]?=some p->Rep K F x p):Rep K F (.ref a) (.tup l)
 |lst {a:Addr}{xs:List V}{l:List PV} (h:SqL K F a xs) (hl:xs.length=l.length) (hr:∀ (j:Nat) x p,xs[j]?=some x->l[j]?=some p->Rep K F x p):Rep K F (.ref a) (.lst l)
 |dk {a:Addr}{xs:List (Key×V)}{l:List (Key×PV)} (h:Rd F a (.dK xs)) (hl:xs.map (·.1)=l.map (·.1)) (hr:∀ (j:Nat) x p,xs[j]?=some x->l[j]?=some p->Rep K F x.2 p.2):Rep K F (.ref a) (.dk l)
 |dt {a:Addr}{xs:List (List Key×V)}{l:List (List Key×PV)} (h:Rd F a (.dT xs)) (hl:xs.map (·.1)=l.map (·.1)) (hr:∀ (j:Nat) x p,xs[j]?=some x->l[j]?=some p->Rep K F x.2 p.2):Rep K F (.ref a) (.dt l)
 |exc {a C dx:Addr}{c:Str}{xs:List (Str×V)}{l:List (Str×PV)} (nm:XNm K C c) (h:F a=some (XO a C (some dx))) (hd:F dx=some (.xd xs)) (hl:xs.map (·.1)=l.map (·.1)) (hr:∀ (j:Nat) x p,xs[j]?=some x->l[j]?=some p->Rep K F x.2 p.2):Rep K F (.ref a) (.exc c l)
 |exc0 {a C:Addr}{c:Str} (nm:XNm K C c) (h:F a=some (XO a C none)):Rep K F (.ref a) (.exc c [])
def aZ(K:Frag)(F:Hp)(xs:List V)(l:List PV):Prop:=xs.length=l.length/\∀ (j:Nat) x p,xs[j]?=some x->l[j]?=some p->Rep K F x p
section
variable{K:Frag}{F F':Hp}{v:V}{p:PV}{xs ys:List V}{l m:List PV}
theorem _root_.L2.Rd.same{F F':Hp}{a:Addr}{u:HO}(h:Rd F a u)(s:aB F F'):Rd F' a u:=h.imp (s _ _) λ⟨o,e⟩=>⟨o,s _ _ e⟩
theorem Rep.up(h:Rep K F v p)(s:aB F F'):Rep K F' v p:=by
 induction h with
 |non=>exact .non
 |bl=>exact .bl
 |int=>exact .int
 |str=>exact .str
 |ty=>exact .ty
 |tup h hl _ ih=>exact .tup (s _ _ h) hl ih
 |lst h hl _ ih=>exact .lst (s.seq h) hl ih
 |dk h hl _ ih=>exact .dk (h.same s) hl ih
 |dt h hl _ ih=>exact .dt (h.same s) hl ih
 |exc nm h hd hl _ ih=>exact .exc nm (s _ _ h) (s _ _ hd) hl ih
 |exc0 nm h=>exact .exc0 nm (s _ _ h)
theorem aZ.up(h:aZ K F xs l)(s:aB F F'):aZ K F' xs l:=⟨h.1,λj x p a b=>(h.2 j x p a b).up s⟩
theorem Rep.free(h:Rep K F v p)(hf:p.flat=true):Rep K F' v p:=by
 cases h with
 |non=>exact .non
 |bl=>exact .bl
 |int=>exact .int
 |str=>exact .str
 |ty=>exact .ty
 |tup=>cases hf
 |lst=>cases hf
 |dk=>cases hf
 |dt=>cases hf
 |exc=>cases hf
 |exc0=>cases hf
theorem aZ.nil:aZ K F [] []:=⟨rfl,λj x p h=>by simp at h⟩
theorem aZ.cons(h:Rep K F v p)(t:aZ K F xs l):aZ K F (v::xs) (p::l):=by
 refine⟨by simp[t.1],λj x q a b=>?_⟩
 cases j with
 |zero=>simp at a b;subst a b;exact h
 |succ j=>exact t.2 j x q (by simpa using a) (by simpa using b)
theorem aZ.append(h:aZ K F xs l)(t:aZ K F ys m):aZ K F (xs++ys) (l++m):=by
 refine⟨by rw[Zaz,Zaz,h.1,t.1],λj x p a b=>?_⟩
 by_cases hj:j<xs.length
 ·rw[Zah hj] at a;rw[Zah (by rw[<-h.1];exact hj)] at b
  exact h.2 j x p a b
 ·rw[Zap (by lia)] at a
  rw[Zap (by rw[<-h.1];lia),<-h.1] at b
  exact t.2 _ x p a b
theorem aZ.snoc(h:aZ K F xs l)(t:Rep K F v p):aZ K F (xs++[v]) (l++[p]):=h.append (aZ.nil.cons t)
theorem aZ.get(h:aZ K F xs l){j:Nat}(e:l[j]?=some p):∃ x,xs[j]?=some x/\Rep K F x p:=by
 have hj:j<xs.length:=by rw[h.1];exact(Zad.mp e).1
 exact⟨xs[j],by simp[hj],h.2 j _ p (by simp[hj]) e⟩
theorem aZ.got(h:aZ K F xs l){j:Nat}(e:xs[j]?=some v):∃ p,l[j]?=some p/\Rep K F v p:=by
 have hj:j<l.length:=by rw[<-h.1];exact(Zad.mp e).1
 exact⟨l[j],by simp[hj],h.2 j v _ e (by simp[hj])⟩
theorem aZ.take(h:aZ K F xs l)(n:Nat):aZ K F (xs.take n) (l.take n):=by
 refine⟨by simp[h.1],λj x p a b=>?_⟩
 rw[List.getElem?_take] at a b;split at a
 ·rename_i hj;rw[Zat hj] at b;exact h.2 j x p a b
 ·cases a
theorem aZ.drop(h:aZ K F xs l)(n:Nat):aZ K F (xs.drop n) (l.drop n):=by
 refine⟨by simp[h.1],λj x p a b=>?_⟩
 rw[List.getElem?_drop] at a b;exact h.2 _ x p a b
theorem aZ.fH(h:aZ K F xs (p::l)):∃ v ys,xs=v::ys/\Rep K F v p/\aZ K F ys l:=by
 obtain⟨hl,hr⟩:=h
 match xs,hl,hr with
 |[],hl,_=>simp at hl
 |v::ys,hl,hr=>exact⟨v,ys,rfl,hr 0 v p rfl rfl,by simpa using hl,λj x q a b=>hr (j+1) x q (by simpa using a) (by simpa using b)⟩
theorem aZ.kh(h:aZ K F xs []):xs=[]:=by
 have:=h.1;simpa using this
theorem aZ.mO:∀ (ns:List Int),aZ K F (ns.map V.int) (ns.map PV.int)
 |[]=>.nil
 |n::ns=>(aZ.mO ns).cons .int
theorem Rep.aW{i:Int}(h:Rep K F v (.int i)):v=.int i:=by cases h;rfl
theorem Rep.iy{b:Bool}(h:Rep K F v (.bl b)):v=.bl b:=by cases h;rfl
theorem Rep.bG{z:Str}(h:Rep K F v (.str z)):v=.str z:=by cases h;rfl
theorem Rep.dg(h:Rep K F v .non):v=.non:=by cases h;rfl
theorem Rep.bK(h:Rep K F v (.tup l)):∃ a xs,v=.ref a/\SqT K F a xs/\aZ K F xs l:=by cases h with|tup h hl hr=>exact⟨_,_,rfl,SqT.of h,hl,hr⟩
theorem Rep.wg(h:Rep K F v (.tup l)):∃ a xs,v=.ref a/\F a=some (.tup xs)/\aZ K F xs l:=by cases h with|tup h hl hr=>exact⟨_,_,rfl,h,hl,hr⟩
theorem Rep.bJ(h:Rep K F v (.lst l)):∃ a xs,v=.ref a/\SqL K F a xs/\aZ K F xs l:=by cases h with|lst h hl hr=>exact⟨_,_,rfl,h,hl,hr⟩
end
structure Cf where
 io:Addr->Prop
 nw:Prop
 H0:Hp
 F0:Hp
 E:XK
inductive Sl where
 |sh (p:PV)|ow (p:PV)|dp (p:PV)
noncomputable abbrev Rho:=List (Option Sl)
def Own(K:Frag)(F H:Hp)(a:Addr):PV->Prop
 |.lst l=>∃ xs,H a=some (.lst xs)/\aZ K F xs l
 |.dk l=>∃ xs,H a=some (.dK xs)/\xs.map (·.1)=l.map (·.1)/\∀ (j:Nat) x p,xs[j]?=some x->l[j]?=some p->Rep K F x.2 p.2
 |.dt l=>∃ xs,H a=some (.dT xs)/\xs.map (·.1)=l.map (·.1)/\∀ (j:Nat) x p,xs[j]?=some x->l[j]?=some p->Rep K F x.2 p.2
 |_=>False
inductive Dp(K:Frag)(F H:Hp):(Addr->Prop)->V->PV->Prop
 |fr {P:Addr->Prop}{v:V}{p:PV} (h:Rep K F v p) (st:p.still=true):Dp K F H P v p
 |lst {P:Addr->Prop}{S:Nat->Addr->Prop}{a:Addr}{xs:List V}{l:List PV} (h:H a=some (.lst xs)) (hp:P a) (hs:∀ j b,S j b->P b/\b≠a) (dj:∀ i j b,S i b->S j b->i=j) (hl:xs.length=l.length)
   (hr:∀ (j:Nat) x p,xs[j]?=some x->l[j]?=some p->Dp K F H (S j) x p):Dp K F H P (.ref a) (.lst l)
 |tup {P:Addr->Prop}{S:Nat->Addr->Prop}{a:Addr}{xs:List V}{l:List PV} (h:H a=some (.tup xs)) (hs:∀ j b,S j b->P b) (dj:∀ i j b,S i b->S j b->i=j) (hl:xs.length=l.length)
   (hr:∀ (j:Nat) x p,xs[j]?=some x->l[j]?=some p->Dp K F H (S j) x p):Dp K F H P (.ref a) (.tup l)
 |dk {P:Addr->Prop}{S:Nat->Addr->Prop}{a:Addr}{xs:List (Key×V)}{l:List (Key×PV)} (h:H a=some (.dK xs)) (hp:P a) (hs:∀ j b,S j b->P b/\b≠a) (dj:∀ i j b,S i b->S j b->i=j) (hl:xs.map (·.1)=l.map (·.1))
   (hr:∀ (j:Nat) x p,xs[j]?=some x->l[j]?=some p->Dp K F H (S j) x.2 p.2):Dp K F H P (.ref a) (.dk l)
 |dt {P:Addr->Prop}{S:Nat->Addr->Prop}{a:Addr}{xs:List (List Key×V)}{l:List (List Key×PV)} (h:H a=some (.dT xs)) (hp:P a) (hs:∀ j b,S j b->P b/\b≠a) (dj:∀ i j b,S i b->S j b->i=j) (hl:xs.map (·.1)=l.map (·.1))
   (hr:∀ (j:Nat) x p,xs[j]?=some x->l[j]?=some p->Dp K F H (S j) x.2 p.2):Dp K F H P (.ref a) (.dt l)
section
variable{K:Frag}{F F' H H':Hp}{v:V}{p:PV}{P P':Addr->Prop}
theorem Dp.mono(h:Dp K F H P v p)(m:∀ b,P b->P' b):Dp K F H P' v p:=by
 cases h with
 |fr h st=>exact .fr h st
 |lst h hp hs dj hl hr=>exact .lst h (m _ hp) (λj b q=>⟨m _ (hs j b q).1,(hs j b q).2⟩) dj hl hr
 |tup h hs dj hl hr=>exact .tup h (λj b q=>m _ (hs j b q)) dj hl hr
 |dk h hp hs dj hl hr=>exact .dk h (m _ hp) (λj b q=>⟨m _ (hs j b q).1,(hs j b q).2⟩) dj hl hr
 |dt h hp hs dj hl hr=>exact .dt h (m _ hp) (λj b q=>⟨m _ (hs j b q).1,(hs j b q).2⟩) dj hl hr
theorem Dp.up(h:Dp K F H P v p)(sf:aB F F')(sh:∀ b o,P b->H b=some o->H' b=some o)(ht:∀ b ys,H b=some (.tup ys)->H' b=some (.tup ys)):Dp K F' H' P v p:=by
 induction h with
 |fr h st=>exact .fr (h.up sf) st
 |lst h hp hs dj hl _ ih=>exact .lst (sh _ _ hp h) hp hs dj hl λj x p e1 e2=>ih j x p e1 e2 λb o q=>sh b o (hs j b q).1
 |tup h hs dj hl _ ih=>exact .tup (ht _ _ h) hs dj hl λj x p e1 e2=>ih j x p e1 e2 λb o q=>sh b o (hs j b q)
 |dk h hp hs dj hl _ ih=>exact .dk (sh _ _ hp h) hp hs dj hl λj x p e1 e2=>ih j x p e1 e2 λb o q=>sh b o (hs j b q).1
 |dt h hp hs dj hl _ ih=>exact .dt (sh _ _ hp h) hp hs dj hl λj x p e1 e2=>ih j x p e1 e2 λb o q=>sh b o (hs j b q).1
theorem Dp.seen(h:Dp K F H P v p)(sf:aB F F')(sh:∀ b o,P b->H b=some o->F' b=some o)(ht:∀ b ys,H b=some (.tup ys)->F' b=some (.tup ys)):Rep K F' v p:=by
 induction h with
 |fr h st=>exact h.up sf
 |lst h hp hs dj hl _ ih=>exact .lst (SqL.of (sh _ _ hp h)) hl λj x p e1 e2=>ih j x p e1 e2 λb o q=>sh b o (hs j b q).1
 |tup h hs dj hl _ ih=>exact .tup (ht _ _ h) hl λj x p e1 e2=>ih j x p e1 e2 λb o q=>sh b o (hs j b q)
 |dk h hp hs dj hl _ ih=>exact .dk (.inl (sh _ _ hp h)) hl λj x p e1 e2=>ih j x p e1 e2 λb o q=>sh b o (hs j b q).1
 |dt h hp hs dj hl _ ih=>exact .dt (.inl (sh _ _ hp h)) hl λj x p e1 e2=>ih j x p e1 e2 λb o q=>sh b o (hs j b q).1
end
structure RD(K:Frag)(C:Cf)(F H:Hp)(O:St)(Z:Rho)(P:Nat->Addr->Prop):Prop where
 own:∀ i b,P i b->F b=none/\(∃ o,H b=some o/\∀ ys,o≠.tup ys)/\C.nw/\C.H0 b=none
 dis:∀ i j b,P i b->P j b->i=j
 ow:∀ (i j:Nat) q b,P i b->Z[j]?=some (some (.ow q))->O[j]?≠some (some (.ref b))
 dp:∀ (i:Nat) p,Z[i]?=some (some (.dp p))->∃ v,O[i]?=some (some v)/\Dp K F H (P i) v p
theorem RD.no{K:Frag}{C:Cf}{F H:Hp}{O:St}{Z:Rho}(h:∀ (i:Nat) p,Z[i]?≠some (some (.dp p))):RD K C F H O Z (λ_ _=>False):=
 ⟨λ_ _ q=>q.elim,λ_ _ _ q=>q.elim,λ_ _ _ _ q=>q.elim,λi p e=>absurd e (h i p)⟩
def Frz(H:Hp)(b:Addr)(o:HO):Prop:=H b=none\/∃ ys,o=.tup ys
structure RB(C:Cf)(F H:Hp):Prop where
 sub:aB F H
 keep:∀ b o,C.H0 b=some o->¬C.io b->H b=some o
 new:∀ b o,F b=some o->C.F0 b=some o\/Frz C.H0 b o
 ios:∀ b,C.io b->H b≠none/\C.H0 b≠none
structure RE(K:Frag)(C:Cf)(F H:Hp)(O:St)(Z:Rho):Prop where
 rb:RB C F H
 len:O.length=Z.length
 sh:∀ (i:Nat) p,Z[i]?=some (some (.sh p))->∃ v,O[i]?=some (some v)/\Rep K F v p
 ow:∀ (i:Nat) p,Z[i]?=some (some (.ow p))->∃ a,O[i]?=some (some (.ref a))/\Own K F H a p/\F a=none/\(C.io a\/(C.nw/\C.H0 a=none))
 dis:∀ (i j:Nat) p q a,Z[i]?=some (some (.ow p))->Z[j]?=some (some (.ow q))->O[i]?=some (some (.ref a))->O[j]?=some (some (.ref a))->i=j
 dd:∃ P,RD K C F H O Z P
structure Up(F H F' H':Hp):Prop where
 ff:aB F F'
 hh:aB H H'
 fr:∀ b o,F' b=some o->F b=some o\/Frz H b o
 fh:aB F' H'
section
variable{K:Frag}{C:Cf}{F F1 F2 F' H H1 H2 H':Hp}{O:St}{Z:Rho}{a:Addr}{p:PV}{v:V}
theorem Up.refl(s:aB F H):Up F H F H:=⟨aB.refl _,aB.refl _,λ_ _ h=>.inl h,s⟩
theorem Up.trans(a:Up F H F1 H1)(b:Up F1 H1 F2 H2):Up F H F2 H2:=
 ⟨a.ff.trans b.ff,a.hh.trans b.hh,λc o h=>(b.fr c o h).elim (a.fr c o) λn=>.inr (n.imp (λn=>a.hh.free n) id),b.fh⟩
theorem Own.ne(h:Own K F H a p):∃ o,H a=some o:=by
 cases p with
 |lst l=>obtain⟨xs,e,_⟩:=h;exact⟨_,e⟩
 |dk l=>obtain⟨xs,e,_⟩:=h;exact⟨_,e⟩
 |dt l=>obtain⟨xs,e,_⟩:=h;exact⟨_,e⟩
 |_=>exact h.elim
theorem Own.qm{ys:List V}(h:Own K F H a p)(e:H a=some (.tup ys)):False:=by
 cases p with
 |lst l=>obtain⟨xs,e',_⟩:=h;rw[e] at e';cases e'
 |dk l=>obtain⟨xs,e',_⟩:=h;rw[e] at e';cases e'
 |dt l=>obtain⟨xs,e',_⟩:=h;rw[e] at e';cases e'
 |_=>exact h.elim
theorem RD.up{P:Nat->Addr->Prop}(d:RD K C F H O Z P)(u:Up F H F' H'):RD K C F' H' O Z P where
 own:=λi b q=>by
  obtain⟨a1,⟨o',a2,a3⟩,a4⟩:=d.own i b q;refine⟨?_,⟨o',u.hh _ _ a2,a3⟩,a4⟩;cases e:F' b with
  |none=>rfl
  |some o=>
   rcases u.fr b o e with z|z|⟨ys,z⟩
   ·rw[a1] at z;cases z
   ·rw[a2] at z;cases z
   ·subst z;have w:=u.fh _ _ e;rw[u.hh _ _ a2] at w;cases w;exact absurd rfl (a3 ys)
 dis:=d.dis
 ow:=d.ow
 dp:=λi p e=>let⟨v,e1,e2⟩:=d.dp i p e;⟨v,e1,e2.up u.ff (λb o _ q=>u.hh b o q) λb ys q=>u.hh b _ q⟩
theorem Own.up(h:Own K F H a p)(sf:aB F F')(sh:∀ o,H a=some o->H' a=some o):Own K F' H' a p:=by
 cases p with
 |lst l=>obtain⟨xs,e,r⟩:=h;exact⟨xs,sh _ e,r.up sf⟩
 |dk l=>obtain⟨xs,e,r,q⟩:=h;exact⟨xs,sh _ e,r,λj x p a b=>(q j x p a b).up sf⟩
 |dt l=>obtain⟨xs,e,r,q⟩:=h;exact⟨xs,sh _ e,r,λj x p a b=>(q j x p a b).up sf⟩
 |_=>exact h.elim
theorem Own.frozen(h:Own K F H a p)(hn:F a=none):∃ o,H a=some o/\Rep K (upd F a o) (.ref a) p:=by
 have s:∀ o,aB F (upd F a o):=λo=>cI hn;cases p with
 |lst l=>obtain⟨xs,e,r⟩:=h;exact⟨_,e,.lst (SqL.of aq) r.1 (r.up (s _)).2⟩
 |dk l=>obtain⟨xs,e,r,q⟩:=h;exact⟨_,e,.dk (.inl aq) r λj x p a b=>(q j x p a b).up (s _)⟩
 |dt l=>obtain⟨xs,e,r,q⟩:=h;exact⟨_,e,.dt (.inl aq) r λj x p a b=>(q j x p a b).up (s _)⟩
 |_=>exact h.elim
theorem Own.lent(h:Own K F H a p)(s:aB F H):Rep K H (.ref a) p:=by
 cases p with
 |lst l=>obtain⟨xs,e,r⟩:=h;exact .lst (SqL.of e) r.1 (r.up s).2
 |dk l=>obtain⟨xs,e,r,q⟩:=h;exact .dk (.inl e) r λj x p a b=>(q j x p a b).up s
 |dt l=>obtain⟨xs,e,r,q⟩:=h;exact .dt (.inl e) r λj x p a b=>(q j x p a b).up s
 |_=>exact h.elim
theorem RB.up(h:RB C F H)(u:Up F H F' H'):RB C F' H' where
 sub:=u.fh
 keep:=λb o e n=>u.hh _ _ (h.keep b o e n)
 new:=λb o e=>(u.fr b o e).elim (h.new b o) λn=>.inr (n.imp (λn=>by
  cases q:C.H0 b with
  |none=>rfl
  |some o'=>
   by_cases hi:C.io b
   ·exact absurd n (h.ios b hi).1
   ·rw[h.keep b o' q hi] at n;cases n) id)
 ios:=λb hb=>⟨λn=>(h.ios b hb).1 (u.hh.free n),(h.ios b hb).2⟩
theorem RB.oY(h:RB C F H){b:Addr}(n:H b=none):C.H0 b=none:=by
 cases q:C.H0 b with
 |none=>rfl
 |some o'=>
  by_cases hi:C.io b
  ·exact absurd n (h.ios b hi).1
  ·rw[h.keep b o' q hi] at n;cases n
theorem RE.up(h:RE K C F H O Z)(u:Up F H F' H'):RE K C F' H' O Z where
 rb:=h.rb.up u
 len:=h.len
 sh:=λi p e=>let⟨v,e1,e2⟩:=h.sh i p e;⟨v,e1,e2.up u.ff⟩
 ow:=λi p e=>by
  obtain⟨a,e1,e2,e3,e4⟩:=h.ow i p e;refine⟨a,e1,e2.up u.ff λo q=>u.hh _ _ q,?_,e4⟩;cases q:F' a with
  |none=>rfl
  |some o=>
   obtain⟨o',eo⟩:=e2.ne;rcases u.fr a o q with z|z|⟨ys,z⟩
   ·rw[e3] at z;cases z
   ·rw[eo] at z;cases z
   ·subst z;exact absurd (u.fh _ _ q) (λw=>by rw[u.hh _ _ eo] at w;cases w;exact e2.qm eo)
 dis:=h.dis
 dd:=let⟨P,d⟩:=h.dd;⟨P,d.up u⟩
theorem get_set{α:Type}{l:List α}{i j:Nat}{x y:α}(h:(l.set i x)[j]?=some y):(i=j/\x=y)\/(i≠j/\l[j]?=some y):=by
 rw[ZbU] at h;by_cases e:i=j
 ·subst e;rw[Zat rfl] at h;split at h
  ·exact .inl ⟨rfl,Zac h⟩
  ·cases h
 ·rw[Zax e] at h;exact .inr ⟨e,h⟩
theorem bI{α:Type}{l:List α}{j:Nat}{y:α}(h:l[j]?=some y):j<l.length:=(Zad.mp h).1
theorem RE.set(h:RE K C F H O Z)(i:Nat)(r:Rep K F v p):RE K C F H (O.set i (some v)) (Z.set i (some (.sh p))) where
 rb:=h.rb
 len:=by simp[h.len]
 sh:=λj q e=>by
  rcases get_set e with⟨e1,e2⟩|⟨e1,e2⟩
  ·subst e1;cases e2;have:=bI e;exact⟨v,by rw[ZaQ (by rw[h.len];simpa using this)],r⟩
  ·obtain⟨w,e3,e4⟩:=h.sh j q e2;exact⟨w,by rw[Zam e1];exact e3,e4⟩
 ow:=λj q e=>by
  rcases get_set e with⟨e1,e2⟩|⟨e1,e2⟩
  ·cases e2
  ·obtain⟨w,e3,e4⟩:=h.ow j q e2;exact⟨w,by rw[Zam e1];exact e3,e4⟩
 dis:=λj k q q' a e e' f f'=>by
  rcases get_set e with⟨e1,e2⟩|⟨e1,e2⟩
  ·cases e2
  ·rcases get_set e' with⟨e1',e2'⟩|⟨e1',e2'⟩
   ·cases e2'
   ·rw[Zam e1] at f;rw[Zam e1'] at f';exact h.dis j k q q' a e2 e2' f f'
 dd:=let⟨P,d⟩:=h.dd;⟨P,d.own,d.dis,λj k q b z e f=>by
   rcases get_set e with⟨e1,e2⟩|⟨e1,e2⟩
   ·cases e2
   ·rw[Zam e1] at f;exact d.ow j k q b z e2 f,λj q e=>by
   rcases get_set e with⟨e1,e2⟩|⟨e1,e2⟩
   ·cases e2
   ·obtain⟨w,e3,e4⟩:=d.dp j q e2;exact⟨w,by rw[Zam e1];exact e3,e4⟩⟩
theorem RE.Nz(h:RE K C F H O Z)(i:Nat)(r:Own K F H a p)(hn:F a=none)(nw:C.nw)(h0:C.H0 a=none)(ha:∀ (j:Nat) q,Z[j]?=some (some (.ow q))->j≠i->O[j]?≠some (some (.ref a)))(hd:∃ P,RD K C F H O Z P/\∀ j,¬P j a) :
  RE K C F H (O.set i (some (.ref a))) (Z.set i (some (.ow p))) where
 rb:=h.rb
 len:=by simp[h.len]
 sh:=λj q e=>by
  rcases get_set e with⟨e1,e2⟩|⟨e1,e2⟩
  ·cases e2
  ·obtain⟨w,e3,e4⟩:=h.sh j q e2;exact⟨w,by rw[Zam e1];exact e3,e4⟩
 ow:=λj q e=>by
  rcases get_set e with⟨e1,e2⟩|⟨e1,e2⟩
  ·subst e1;cases e2;have:=bI e;exact⟨a,by rw[ZaQ (by rw[h.len];simpa using this)],r,hn,.inr ⟨nw,h0⟩⟩
  ·obtain⟨w,e3,e4⟩:=h.ow j q e2;exact⟨w,by rw[Zam e1];exact e3,e4⟩
 dis:=λj k q q' b e e' f f'=>by
  rcases get_set e with⟨e1,e2⟩|⟨e1,e2⟩
  ·rcases get_set e' with⟨e1',e2'⟩|⟨e1',e2'⟩
   ·exact e1.symm.trans e1'
   ·subst e1;have:=bI e;rw[ZaQ (by rw[h.len];simpa using this)] at f
    cases f;rw[Zam e1'] at f';exact absurd f' (ha k q' e2' (Zbm e1'))
  ·rcases get_set e' with⟨e1',e2'⟩|⟨e1',e2'⟩
   ·subst e1';have:=bI e';rw[ZaQ (by rw[h.len];simpa using this)] at f'
    cases f';rw[Zam e1] at f;exact absurd f (ha j q e2 (Zbm e1))
   ·rw[Zam e1] at f;rw[Zam e1'] at f';exact h.dis j k q q' b e2 e2' f f'
 dd:=let⟨P,d,na⟩:=hd;⟨P,d.own,d.dis,λj k q b z e f=>by
   rcases get_set e with⟨e1,e2⟩|⟨e1,e2⟩
   ·subst e1;have:=bI e;rw[ZaQ (by rw[h.len];simpa using this)] at f
    cases f;exact na j z
   ·rw[Zam e1] at f;exact d.ow j k q b z e2 f,λj q e=>by
   rcases get_set e with⟨e1,e2⟩|⟨e1,e2⟩
   ·cases e2
   ·obtain⟨w,e3,e4⟩:=d.dp j q e2;exact⟨w,by rw[Zam e1];exact e3,e4⟩⟩
theorem RE.Kw(h:RE K C F H O Z)(n:H a=none)(u:Up F H F' H'):∃ P,RD K C F' H' O Z P/\∀ j,¬P j a:=by
 obtain⟨P,d⟩:=h.dd;exact⟨P,d.up u,λj z=>by obtain⟨_,⟨o,e,_⟩,_⟩:=d.own j a z;rw[n] at e;cases e⟩
theorem RE.apart(h:RE K C F H O Z)(n:H a=none)(j:Nat)(q:PV)(e:Z[j]?=some (some (.ow q))):O[j]?≠some (some (.ref a)):=λf=>by
 obtain⟨b,e1,e2,_⟩:=h.ow j q e;rw[e1] at f;cases f;obtain⟨o,eo⟩:=e2.ne;rw[eo] at n;cases n
theorem RE.write(h:RE K C F H O Z){i:Nat}{o:HO}{p':PV}(e:Z[i]?=some (some (.ow p)))(ea:O[i]?=some (some (.ref a)))(r:Own K F (upd H a o) a p') :
  RE K C F (upd H a o) O (Z.set i (some (.ow p'))):=by
 obtain⟨a',e1,e2,e3,e4⟩:=h.ow i p e;rw[ea] at e1;cases e1;have ne:∀ b u,F b=some u->b≠a:=λb u q z=>by rw[z,e3] at q;cases q
 refine⟨⟨λb u q=>by rw[ao (ne b u q)];exact h.rb.sub b u q,λb u q n=>?_,h.rb.new,λb hb=>⟨?_,(h.rb.ios b hb).2⟩⟩,by simp[h.len],λj q f=>?_,λj q f=>?_,λj k q q' b f f' g g'=>?_,?_⟩
 ·have:b≠a:=λz=>by
   subst z;rcases e4 with z|z
   ·exact n z
   ·rw[z.2] at q;cases q
  rw[ao this];exact h.rb.keep b u q n
 ·by_cases hba:b=a
  ·subst hba;rw[aq];simp
  ·rw[ao hba];exact(h.rb.ios b hb).1
 ·rcases get_set f with⟨e1,f2⟩|⟨e1,f2⟩
  ·cases f2
  ·exact h.sh j q f2
 ·rcases get_set f with⟨e1,f2⟩|⟨e1,f2⟩
  ·subst e1;cases f2;exact⟨a,ea,r,e3,e4⟩
  ·obtain⟨b,g1,g2,g3,g4⟩:=h.ow j q f2;refine⟨b,g1,g2.up (aB.refl _) λu qq=>?_,g3,g4⟩;have:b≠a:=λz=>by subst z;exact e1 (h.dis i j p q b e f2 ea g1)
   rw[ao this];exact qq
 ·have key:∀ (j:Nat) q,(Z.set i (some (Sl.ow p')))[j]?=some (some (.ow q))->∃ q0,Z[j]?=some (some (.ow q0)):=λj q f=>by
   rcases get_set f with⟨e1,f2⟩|⟨e1,f2⟩
   ·subst e1;exact⟨p,e⟩
   ·exact⟨q,f2⟩
  obtain⟨q0,k0⟩:=key j q f;obtain⟨q1,k1⟩:=key k q' f';exact h.dis j k q0 q1 b k0 k1 g g'
 ·obtain⟨P,d⟩:=h.dd;have na:∀ j b,P j b->b≠a:=λj b z e'=>by subst e';exact d.ow j i p b z e ea
  refine⟨P,λj b z=>?_,d.dis,λj k q b z f g=>?_,λj q f=>?_⟩
  ·rw[ao (na j b z)];exact d.own j b z
  ·rcases get_set f with⟨f1,f2⟩|⟨f1,f2⟩
   ·subst f1;exact d.ow j i p b z e g
   ·exact d.ow j k q b z f2 g
  ·rcases get_set f with⟨f1,f2⟩|⟨f1,f2⟩
   ·cases f2
   ·obtain⟨w,e3,e5⟩:=d.dp j q f2;exact⟨w,e3,e5.up (aB.refl _) (λb o z q=>by rw[ao (na j b z)];exact q) λb ys q=>by rw[ao λz=>by subst z;exact e2.qm q];exact q⟩
theorem RE.frz(h:RE K C F H O Z){i:Nat}(e:Z[i]?=some (some (.ow p)))(hio:∀ a,O[i]?=some (some (.ref a))->¬C.io a):∃ F',aB F F'/\RE K C F' H O (Z.set i (some (.sh p))):=by
 obtain⟨a,e1,e2,e3,e4⟩:=h.ow i p e;obtain⟨o,eo,r⟩:=e2.frozen e3;have h0:C.H0 a=none:=(e4.resolve_left (hio a e1)).2;have sf:aB F (upd F a o):=cI e3;have li:=bI e;refine⟨upd F a o,sf,⟨⟨λb u q=>?_,h.rb.keep,λb u q=>?_,h.rb.ios⟩,by simp[h.len],λj q f=>?_,λj q f=>?_,λj k q q' b f f' g g'=>?_,?_⟩⟩
 ·by_cases hb:b=a
  ·subst hb;rw[aq] at q;cases q;exact eo
  ·rw[ao hb] at q;exact h.rb.sub b u q
 ·by_cases hb:b=a
  ·subst hb;exact .inr (.inl h0)
  ·rw[ao hb] at q;exact h.rb.new b u q
 ·rcases get_set f with⟨f1,f2⟩|⟨f1,f2⟩
  ·subst f1;cases f2;exact⟨_,e1,r⟩
  ·obtain⟨v,g1,g2⟩:=h.sh j q f2;exact⟨v,g1,g2.up sf⟩
 ·rcases get_set f with⟨f1,f2⟩|⟨f1,f2⟩
  ·cases f2
  ·obtain⟨b,g1,g2,g3,g4⟩:=h.ow j q f2;refine⟨b,g1,g2.up sf λ_ z=>z,?_,g4⟩;have:b≠a:=λz=>by subst z;exact f1 (h.dis i j p q b e f2 e1 g1)
   rw[ao this];exact g3
 ·rcases get_set f with⟨f1,f2⟩|⟨f1,f2⟩
  ·cases f2
  ·rcases get_set f' with⟨f1',f2'⟩|⟨f1',f2'⟩
   ·cases f2'
   ·exact h.dis j k q q' b f2 f2' g g'
 ·obtain⟨P,d⟩:=h.dd;have na:∀ j b,P j b->b≠a:=λj b z e'=>by subst e';exact d.ow j i p b z e e1
  refine⟨P,λj b z=>?_,d.dis,λj k q b z f g=>?_,λj q f=>?_⟩
  ·rw[ao (na j b z)];exact d.own j b z
  ·rcases get_set f with⟨f1,f2⟩|⟨f1,f2⟩
   ·cases f2
   ·exact d.ow j k q b z f2 g
  ·rcases get_set f with⟨f1,f2⟩|⟨f1,f2⟩
   ·cases f2
   ·obtain⟨w,e3,e5⟩:=d.dp j q f2;exact⟨w,e3,e5.up sf (λ_ _ _ q=>q) λ_ _ q=>q⟩
end
structure Cg extends Cf where
 XR:Hp->Value->Option Addr->PV->Prop
def PX(C:Cg)(F:Hp)(z:PV):Prop:=∀ e d F' H',aB F F'->RB C.toCf F' H'->C.XR F' e d z->C.E e d H'
def Pr{α:Type}(C:Cg)(F:Hp)(ok:α->Prop):Res α->Prop
 |.ok a=>ok a
 |.ex z=>PX C F z
noncomputable abbrev Rel(α:Type):=Hp->Hp->V->α->Prop
def aF(K:Frag):Rel PV:=λF _ v p=>Rep K F v p
def aH(K:Frag):Rel PV:=λ_ H v p=>Rep K H v p
def aV(K:Frag):Rel (List PV):=λF H v l=>∃ a xs,v=.ref a/\SqL K H a xs/\aZ K F xs l
def UpM{α:Type}(A:Rel α):Prop:=∀ F H F' H' v a,Up F H F' H'->A F H v a->A F' H' v a
theorem aF.up{K:Frag}:UpM (aF K):=λ_ _ _ _ _ _ u h=>Rep.up h u.ff
theorem aH.up{K:Frag}:UpM (aH K):=λ_ _ _ _ _ _ u h=>Rep.up h u.hh
theorem aV.up{K:Frag}:UpM (aV K):=λ_ _ _ _ _ _ u h=>let⟨a,xs,e,s,r⟩:=h;⟨a,xs,e,u.hh.seq s,r.up u.ff⟩
noncomputable abbrev Fn(α:Type):=Rho->Option (Res α)
def MJ{α:Type}(K:Frag)(C:Cg)(A:Rel α)(te:TE)(f:Fn α):Prop:=
 ∀ F H O Z Q r,RE K C.toCf F H O Z->f Z=some r->Pr C F (λa=>∀ v F' H',Up F H F' H'->A F' H' v a->Q v H') r->te O H Q
def MT(K:Frag)(C:Cg)(tt:TT)(f:Fn Bool):Prop:=
 ∀ F H O Z Q r,RE K C.toCf F H O Z->f Z=some r->Pr C F (λb=>∀ F' H',Up F H F' H'->Q b H') r->tt O H Q
def MA(K:Frag)(C:Cg)(ta:TA)(f:Fn (List PV)):Prop:=
 ∀ F H O Z Q r,RE K C.toCf F H O Z->f Z=some r->Pr C F (λl=>∀ xs F' H',Up F H F' H'->aZ K F' xs l->Q xs H') r->ta O H Q
def MAL(K:Frag)(C:Cg)(ta:TA)(f:Fn (List PV)):Prop:=
 ∀ F H O Z Q r,RE K C.toCf F H O Z->f Z=some r->Pr C F (λl=>∀ xs F' H',Up F H F' H'->aZ K H' xs l->Q xs H') r->ta O H Q
def MO(K:Frag)(C:Cg)(te:TE)(f:Fn PV):Prop:=
 ∀ F H O Z Q r,RE K C.toCf F H O Z->f Z=some r->Pr C F (λp=>∀ a F' H',Up F H F' H'->H a=none->F' a=none->Own K F' H' a p->Q (.ref a) H') r->te O H Q
theorem bj{α β:Type}{x:Option (Res α)}{k:α->Option (Res β)}{r:Res β}(h:bnd x k=some r):(∃ z,x=some (.ex z)/\r=.ex z)\/∃ a,x=some (.ok a)/\k a=some r:=by
 match x,h with
 |some (.ok a),h=>exact .inr ⟨a,rfl,h⟩
 |some (.ex z),h=>exact .inl ⟨z,rfl,(Zac h).symm⟩
theorem PX.up{C:Cg}{F F1:Hp}{z:PV}(h:PX C F z)(s:aB F F1):PX C F1 z:=λe d F' H' a b c=>h e d F' H' (s.trans a) b c
theorem Pr.mono{α:Type}{C:Cg}{F F1:Hp}{ok ok':α->Prop}{r:Res α}(h:Pr C F ok r)(s:aB F F1)(k:∀ a,ok a->ok' a):Pr C F1 ok' r:=by
 cases r with
 |ok a=>exact k a h
 |ex z=>exact PX.up h s
section
variable{K:Frag}{C:Cg}{α β γ:Type}{A:Rel α}{B:Rel β}{D:Rel γ}{ta tb:TE}{f:Fn α}{g:Fn β}{F H:Hp}{O:St}{Z:Rho}{Q:VK}
theorem MJ.run{ok:β->Prop}{k:α->Option (Res β)}{r:Res β}(h:MJ K C A ta f)(R:RE K C.toCf F H O Z)(hb:bnd (f Z) k=some r)(P:Pr C F ok r)
  (go:∀ p v F1 H1,k p=some r->Up F H F1 H1->A F1 H1 v p->Q v H1):ta O H Q:=by
 rcases bj hb with⟨z,e,rfl⟩|⟨p,e,hk⟩
 ·exact h F H O Z Q _ R e P
 ·exact h F H O Z Q _ R e λv F1 H1 u a=>go p v F1 H1 hk u a
theorem MT.run{tt:TT}{f:Fn Bool}{Q:Bool->Hp->Prop}{ok:β->Prop}{k:Bool->Option (Res β)}{r:Res β}(h:MT K C tt f)(R:RE K C.toCf F H O Z)(hb:bnd (f Z) k=some r)(P:Pr C F ok r)
  (go:∀ b F1 H1,k b=some r->Up F H F1 H1->Q b H1):tt O H Q:=by
 rcases bj hb with⟨z,e,rfl⟩|⟨p,e,hk⟩
 ·exact h F H O Z Q _ R e P
 ·exact h F H O Z Q _ R e λF1 H1 u=>go p F1 H1 hk u
theorem MA.run{t:TA}{f:Fn (List PV)}{Q:List V->Hp->Prop}{ok:β->Prop}{k:List PV->Option (Res β)}{r:Res β}(h:MA K C t f)(R:RE K C.toCf F H O Z)(hb:bnd (f Z) k=some r)(P:Pr C F ok r)
  (go:∀ l xs F1 H1,k l=some r->Up F H F1 H1->aZ K F1 xs l->Q xs H1):t O H Q:=by
 rcases bj hb with⟨z,e,rfl⟩|⟨p,e,hk⟩
 ·exact h F H O Z Q _ R e P
 ·exact h F H O Z Q _ R e λxs F1 H1 u a=>go p xs F1 H1 hk u a
theorem MAL.run{t:TA}{f:Fn (List PV)}{Q:List V->Hp->Prop}{ok:β->Prop}{k:List PV->Option (Res β)}{r:Res β}(h:MAL K C t f)(R:RE K C.toCf F H O Z)(hb:bnd (f Z) k=some r)(P:Pr C F ok r)
  (go:∀ l xs F1 H1,k l=some r->Up F H F1 H1->aZ K H1 xs l->Q xs H1):t O H Q:=by
 rcases bj hb with⟨z,e,rfl⟩|⟨p,e,hk⟩
 ·exact h F H O Z Q _ R e P
 ·exact h F H O Z Q _ R e λxs F1 H1 u a=>go p xs F1 H1 hk u a
theorem Pr.later{D:Rel γ}{r:Res γ}{F1 H1:Hp}(P:Pr C F (λa=>∀ v F' H',Up F H F' H'->D F' H' v a->Q v H') r)(u:Up F H F1 H1):Pr C F1 (λa=>∀ v F' H',Up F1 H1 F' H'->D F' H' v a->Q v H') r:=
 P.mono u.ff λ_ h v F' H' u' d=>h v F' H' (u.trans u') d
theorem Pr.Dz{Q:Bool->Hp->Prop}{r:Res Bool}{F1 H1:Hp}(P:Pr C F (λb=>∀ F' H',Up F H F' H'->Q b H') r)(u:Up F H F1 H1):Pr C F1 (λb=>∀ F' H',Up F1 H1 F' H'->Q b H') r:=
 P.mono u.ff λ_ h F' H' u'=>h F' H' (u.trans u')
theorem Pr.uD{r:Res PV}{F1 H1:Hp}(P:Pr C F (λp=>∀ a F' H',Up F H F' H'->H a=none->F' a=none->Own K F' H' a p->Q (.ref a) H') r)(u:Up F H F1 H1) :
  Pr C F1 (λp=>∀ a F' H',Up F1 H1 F' H'->H1 a=none->F' a=none->Own K F' H' a p->Q (.ref a) H') r:=
 P.mono u.ff λ_ h a F' H' u' n1 n2 d=>h a F' H' (u.trans u') (u.hh.free n1) n2 d
theorem Pr.Ky{Q:List V->Hp->Prop}{r:Res (List PV)}{F1 H1:Hp}(P:Pr C F (λl=>∀ xs F' H',Up F H F' H'->aZ K F' xs l->Q xs H') r)(u:Up F H F1 H1):Pr C F1 (λl=>∀ xs F' H',Up F1 H1 F' H'->aZ K F' xs l->Q xs H') r:=
 P.mono u.ff λ_ h xs F' H' u' d=>h xs F' H' (u.trans u') d
theorem Pr.Kz{Q:List V->Hp->Prop}{r:Res (List PV)}{F1 H1:Hp}(P:Pr C F (λl=>∀ xs F' H',Up F H F' H'->aZ K H' xs l->Q xs H') r)(u:Up F H F1 H1):Pr C F1 (λl=>∀ xs F' H',Up F1 H1 F' H'->aZ K H' xs l->Q xs H') r:=
 P.mono u.ff λ_ h xs F' H' u' d=>h xs F' H' (u.trans u') d
def mV(i:Nat):Fn PV:=λZ=>match Z[i]? with
 |some (some (.sh p))=>some (.ok p)
 |_=>none
theorem au(i:Nat):MJ K C (aF K) (iw i) (mV i):=by
 intro F H O Z Q r R e P;unfold mV at e;split at e
 ·rename_i p hp;cases e;obtain⟨v,e1,e2⟩:=R.sh i p hp;exact⟨v,e1,P v F H (Up.refl R.rb.sub) e2⟩
 ·cases e
def mVL(i:Nat):Fn PV:=λZ=>match Z[i]? with
 |some (some (.sh p))=>some (.ok p)
 |some (some (.ow p))=>some (.ok p)
 |_=>none
theorem bz(i:Nat):MJ K C (aH K) (iw i) (mVL i):=by
 intro F H O Z Q r R e P;unfold mVL at e;split at e
 ·rename_i p hp;cases e;obtain⟨v,e1,e2⟩:=R.sh i p hp;exact⟨v,e1,P v F H (Up.refl R.rb.sub) (e2.up R.rb.sub)⟩
 ·rename_i p hp;cases e;obtain⟨a,e1,e2,e3,_⟩:=R.ow i p hp;exact⟨_,e1,P _ F H (Up.refl R.rb.sub) (e2.lent R.rb.sub)⟩
 ·cases e
def oZ:PV->Option (Res (List PV))
 |.lst l=>some (.ok l)
 |_=>none
theorem zF{f:Fn PV}(h:MJ K C (aF K) ta f):MJ K C (aV K) ta (λZ=>bnd (f Z) oZ):=by
 intro F H O Z Q r R e P;refine h.run R e P λp v F1 H1 hk u a=>?_
 match p,hk with
 |.lst l,hk=>
  cases hk;obtain⟨b,xs,rfl,s,rr⟩:=Rep.bJ a;exact P _ F1 H1 u ⟨b,xs,rfl,u.fh.seq s,rr⟩
theorem dZ(i:Nat):MJ K C (aV K) (iw i) (λZ=>bnd (mVL i Z) oZ):=by
 intro F H O Z Q r R e P;rcases bj e with⟨z,e1,rfl⟩|⟨p,e1,hk⟩
 ·unfold mVL at e1;split at e1<;>cases e1
 ·unfold mVL at e1
  match p,hk with
  |.lst l,hk=>
   cases hk;split at e1
   ·rename_i q hq;cases e1;obtain⟨v,e2,e3⟩:=R.sh i _ hq;obtain⟨b,xs,rfl,s,rr⟩:=Rep.bJ e3;exact⟨_,e2,P _ F H (Up.refl R.rb.sub) ⟨b,xs,rfl,R.rb.sub.seq s,rr⟩⟩
   ·rename_i q hq;cases e1;obtain⟨a,e2,⟨xs,e3,rr⟩,_⟩:=R.ow i _ hq;exact⟨_,e2,P _ F H (Up.refl R.rb.sub) ⟨a,xs,rfl,SqL.of e3,rr⟩⟩
   ·cases e1
theorem bT{f:Fn PV}(h:MJ K C (aF K) ta f):MJ K C (aH K) ta f:=by
 intro F H O Z Q r R e P;refine h F H O Z Q r R e ?_;exact P.mono (aB.refl _) λ_ k v F' H' u d=>k v F' H' u (Rep.up d u.fh)
def mC(p:PV):Fn PV:=λ_=>some (.ok p)
theorem KC{v:V}{p:PV}(h:∀ F,Rep K F v p):MJ K C (aF K) (tC v) (mC p):=by
 intro F H O Z Q r R e P;cases e;exact P v F H (Up.refl R.rb.sub) (h F)
theorem aM{i:Int}:MJ K C (aF K) (tC (.int i)) (mC (.int i)):=KC λ_=>.int
theorem JC{i:Bool}:MJ K C (aF K) (tC (.bl i)) (mC (.bl i)):=KC λ_=>.bl
theorem DG:MJ K C (aF K) (tC .non) (mC .non):=KC λ_=>.non
theorem dM{f:Fn PV}(h:MO K C ta f):MJ K C (aF K) ta f:=by
 intro F H O Z Q r R e P;refine h F H O Z Q r R e (P.mono (aB.refl _) λp k a F' H' u n1 n2 o=>?_);obtain⟨ob,eo,rr⟩:=o.frozen n2;refine k _ (upd F' a ob) H' ⟨u.ff.trans (cI n2),u.hh,λb x q=>?_,λb x q=>?_⟩ rr
 ·by_cases hb:b=a
  ·subst hb;exact .inr (.inl n1)
  ·rw[ao hb] at q;exact u.fr b x q
 ·by_cases hb:b=a
  ·subst hb;rw[aq] at q;cases q;exact eo
  ·rw[ao hb] at q;exact u.fh b x q
theorem uE{f:Fn PV}(h:MO K C ta f):MJ K C (aV K) ta (λZ=>bnd (f Z) oZ):=zF (dM h)
def m2{α β γ:Type}(op:α->β->Option (Res γ))(f:Fn α)(g:Fn β):Fn γ:=λZ=>bnd (f Z) λa=>bnd (g Z) λb=>op a b
def R2M(C:Cg)(A:Rel α)(B:Rel β)(D:Rel γ)(r:R2)(op:α->β->Option (Res γ)):Prop:=
 ∀ F H x y a b res Q,aB F H->A F H x a->B F H y b->op a b=some res->Pr C F (λc=>∀ v F' H',Up F H F' H'->D F' H' v c->Q v H') res->r x y H Q
theorem aK{op:α->β->Option (Res γ)}{r2:R2}(up:UpM A)(rule:R2M C A B D r2 op)(ha:MJ K C A ta f)(hb:MJ K C B tb g):MJ K C D (tOp r2 ta tb) (m2 op f g):=by
 intro F H O Z Q r R e P;refine ha.run R e P λp v F1 H1 hk u a=>?_;refine hb.run (R.up u) hk (P.later u) λq w F2 H2 hk2 u2 b=>?_;exact rule F2 H2 v w p q r Q u2.fh (up _ _ _ _ _ _ u2 a) b hk2 (P.later (u.trans u2))
def m1{α γ:Type}(op:α->Option (Res γ))(f:Fn α):Fn γ:=λZ=>bnd (f Z) op
def zG(f g:Fn PV):Fn PV:=λZ=>bnd (f Z) λa=>match a with
 |.bl true=>g Z
 |.bl false=>some (.ok (.bl false))
 |_=>none
theorem KD{f g:Fn PV}(ha:MJ K C (aF K) ta f)(hb:MJ K C (aF K) tb g):MJ K C (aF K) (Jm ta tb) (zG f g):=by
 intro F H O Z Q r R e P;refine ha.run R e P λp v F1 H1 hk u a=>?_
 match p,hk with
 |.bl true,hk=>
  cases Rep.iy a;refine⟨true,rfl,?_⟩;rw[Zat rfl];exact hb F1 H1 O Z Q r (R.up u) hk (P.later u)
 |.bl false,hk=>
  cases Rep.iy a;cases hk;refine⟨false,rfl,?_⟩;rw[Zax (by decide)]
  exact P _ F1 H1 u .bl
def gY:PV->Option (Res Bool)
 |.bl b=>some (.ok b)
 |_=>none
theorem bO{f:Fn PV}(ha:MJ K C (aF K) ta f):MT K C (Jt ta) (m1 gY f):=by
 intro F H O Z Q r R e P;refine ha.run R e P λp v F1 H1 hk u a=>?_
 match p,hk with
 |.bl b,hk=>
  cases Rep.iy a;cases hk;exact⟨b,rfl,P F1 H1 u⟩
theorem KH{f:Fn PV}(ha:MJ K C (aF K) ta f):MT K C (tB ta) (m1 gY f):=bO ha
def Hd(f g:Fn Bool):Fn Bool:=λZ=>bnd (f Z) λa=>if a=true then g Z else some (.ok false)
def mOr(f g:Fn Bool):Fn Bool:=λZ=>bnd (f Z) λa=>if a=true then some (.ok true) else g Z
variable{c d:TT}{fc gc:Fn Bool}
theorem KJ(ha:MT K C c fc)(hb:MT K C d gc):MT K C (Ly c d) (Hd fc gc):=by
 intro F H O Z Q r R e P;refine ha.run R e P λb F1 H1 hk u=>?_;cases b with
 |true=>rw[Zat rfl] at hk ⊢;exact hb F1 H1 O Z Q r (R.up u) hk (P.Dz u)
 |false=>rw[Zax (by decide)] at hk ⊢;cases hk;exact P F1 H1 u
theorem JD(ha:MT K C c fc)(hb:MT K C d gc):MT K C (tOr c d) (mOr fc gc):=by
 intro F H O Z Q r R e P;refine ha.run R e P λb F1 H1 hk u=>?_;cases b with
 |true=>rw[Zat rfl] at hk ⊢;cases hk;exact P F1 H1 u
 |false=>rw[Zax (by decide)] at hk ⊢;exact hb F1 H1 O Z Q r (R.up u) hk (P.Dz u)
def bW:Fn (List PV):=λ_=>some (.ok [])
def aN(f:Fn PV)(g:Fn (List PV)):Fn (List PV):=λZ=>bnd (f Z) λa=>bnd (g Z) λl=>some (.ok (a::l))
theorem bc:MA K C lr bW:=λF H O Z Q r R e P=>by
 cases e;exact P [] F H (Up.refl R.rb.sub) .nil
theorem aG{f:Fn PV}{g:Fn (List PV)}{t:TA}(ha:MJ K C (aF K) ta f)(hb:MA K C t g):MA K C (dw ta t) (aN f g):=by
 intro F H O Z Q r R e P;refine ha.run R e P λp v F1 H1 hk u a=>?_;refine hb.run (R.up u) hk (P.Ky u) λl xs F2 H2 hk2 u2 b=>?_;cases hk2;exact P _ F2 H2 (u.trans u2) (b.cons (Rep.up a u2.ff))
theorem Hf:MAL K C lr bW:=λF H O Z Q r R e P=>by
 cases e;exact P [] F H (Up.refl R.rb.sub) .nil
theorem qp{f:Fn PV}{g:Fn (List PV)}{t:TA}(ha:MJ K C (aH K) ta f)(hb:MAL K C t g):MAL K C (dw ta t) (aN f g):=by
 intro F H O Z Q r R e P;refine ha.run R e P λp v F1 H1 hk u a=>?_;refine hb.run (R.up u) hk (P.Kz u) λl xs F2 H2 hk2 u2 b=>?_;cases hk2;exact P _ F2 H2 (u.trans u2) (b.cons (Rep.up a u2.hh))
theorem Up.rZ{F H:Hp}{a:Addr}{o:HO}(s:aB F H)(h:H a=none):Up F H F (upd H a o):=⟨aB.refl _,cI h,λ_ _ q=>.inl q,s.trans (cI h)⟩
theorem Up.new{F H:Hp}{a:Addr}{o:HO}(s:aB F H)(h:H a=none):Up F H (upd F a o) (upd H a o):=by
 have hf:F a=none:=s.free h;refine⟨cI hf,cI h,λb u q=>?_,λb u q=>?_⟩
 ·by_cases hb:b=a
  ·subst hb;exact .inr (.inl h)
  ·rw[ao hb] at q;exact .inl q
 ·by_cases hb:b=a
  ·subst hb;rw[aq] at q ⊢;exact q
  ·rw[ao hb] at q ⊢;exact s b u q
def Bs(f:Fn (List PV)):Fn PV:=λZ=>bnd (f Z) λl=>if l.length<=sizeLine then some (.ok (.tup l)) else none
def qt(f:Fn (List PV)):Fn PV:=λZ=>bnd (f Z) λl=>if l.length<=sizeLine then some (.ok (.lst l)) else none
theorem yx{t:TA}{f:Fn (List PV)}(h:MA K C t f):MJ K C (aF K) (Km t) (Bs f):=by
 intro F H O Z Q r R e P;refine h.run R e P λl xs F1 H1 hk u a=>?_;split at hk
 ·rename_i hl;cases hk;refine⟨by rw[a.1];exact hl,λp hp=>?_⟩
  have un:=Up.new (o:=.tup xs) u.fh hp;exact P _ _ _ (u.trans un) (.tup aq a.1 (a.up un.ff).2)
 ·cases hk
theorem jL{t:TA}{f:Fn (List PV)}(h:MA K C t f):MO K C (Mj t) (qt f):=by
 intro F H O Z Q r R e P;refine h.run R e P λl xs F1 H1 hk u a=>?_;split at hk
 ·rename_i hl;cases hk;refine⟨by rw[a.1];exact hl,λp hp=>?_⟩
  exact P _ _ _ (u.trans (Up.rZ u.fh hp)) (u.hh.free hp) (u.fh.free hp) ⟨xs,aq,a⟩
 ·cases hk
def spM(K:Frag)(XR:Hp->Value->Option Addr->PV->Prop)(m:List PV->Option (Res PV)):Sp:=λvs H Q E=>∃ ps F r,aB F H/\aZ K F vs ps/\m ps=some r/\match r with
 |.ok p=>∀ v F' H',Up F H F' H'->Rep K F' v p->Q v H'
 |.ex z=>∀ e d F' H',Up F H F' H'->XR F' e d z->E e d H'
def spO(K:Frag)(XR:Hp->Value->Option Addr->PV->Prop)(m:List PV->Option (Res PV)):Sp:=λvs H Q E=>∃ ps F r,aB F H/\aZ K F vs ps/\m ps=some r/\match r with
 |.ok p=>∀ a F' H',Up F H F' H'->H a=none->F' a=none->Own K F' H' a p->Q (.ref a) H'
 |.ex z=>∀ e d F' H',Up F H F' H'->XR F' e d z->E e d H'
def dz(m:List PV->Option (Res PV))(f:Fn (List PV)):Fn PV:=λZ=>bnd (f Z) m
theorem fZ{t:TA}{f:Fn (List PV)}{m:List PV->Option (Res PV)}(h:MA K C t f):MJ K C (aF K) (qg (spM K C.XR m) [] C.E t) (dz m f):=by
 intro F H O Z Q r R e P;refine h.run R e P λl xs F1 H1 hk u a=>?_;refine⟨l,F1,r,u.fh,by rw[ZaX];exact a,hk,?_⟩
 cases r with
 |ok p=>exact λv F' H' u' rv=>P v F' H' (u.trans u') rv
 |ex z=>exact λe d F' H' u' x=>P e d F' H' (u.trans u').ff (R.rb.up (u.trans u')) x
theorem uF{t:TA}{f:Fn (List PV)}{m:List PV->Option (Res PV)}(h:MA K C t f):MO K C (qg (spO K C.XR m) [] C.E t) (dz m f):=by
 intro F H O Z Q r R e P;refine h.run R e P λl xs F1 H1 hk u a=>?_;refine⟨l,F1,r,u.fh,by rw[ZaX];exact a,hk,?_⟩
 cases r with
 |ok p=>exact λv F' H' u' n1 n2 rv=>P v F' H' (u.trans u') (u.hh.free n1) n2 rv
 |ex z=>exact λe d F' H' u' x=>P e d F' H' (u.trans u').ff (R.rb.up (u.trans u')) x
end
inductive Out where
 |nx (Z:Rho)|rt (p:PV)|ro (p:PV)|rd (p:PV)|bk (Z:Rho)|ct (Z:Rho)|ex (z:PV)
noncomputable abbrev Sn:=Rho->Option Out
def PO'(K:Frag)(C:Cg)(F:Hp)(D:Ends):Out->Prop
 |.nx Z=>∀ F' H' O,aB F F'->RE K C.toCf F' H' O Z->D.nx O H'
 |.bk Z=>∀ F' H' O,aB F F'->RE K C.toCf F' H' O Z->D.bk O H'
 |.ct Z=>∀ F' H' O,aB F F'->RE K C.toCf F' H' O Z->D.ct O H'
 |.rt p=>∀ v F' H',aB F F'->RB C.toCf F' H'->Rep K F' v p->D.rt v H'
 |.ro p=>∀ a F' H',aB F F'->RB C.toCf F' H'->Own K F' H' a p->F' a=none->C.H0 a=none->D.rt (.ref a) H'
 |.rd p=>∀ v F' H' S,aB F F'->RB C.toCf F' H'->Dp K F' H' S v p->(∀ b,S b->F' b=none/\(∃ o,H' b=some o/\∀ ys,o≠.tup ys)/\C.H0 b=none)->D.rt v H'
 |.ex z=>PX C F z
def MS(K:Frag)(C:Cg)(t:TS)(f:Sn):Prop:=∀ F H O Z D o,RE K C.toCf F H O Z->f Z=some o->PO' K C F D o->t D O H
def dB{α:Type}(x:Option (Res α))(k:α->Option Out):Option Out:=match x with
 |some (.ok a)=>k a
 |some (.ex z)=>some (.ex z)
 |none=>none
theorem Hg{α:Type}{a:α}{k:α->Option Out}:dB (some (.ok a)) k=k a:=rfl
theorem b8{α:Type}{x:Option (Res α)}{k:α->Option Out}{o:Out}(h:dB x k=some o):(∃ z,x=some (.ex z)/\o=.ex z)\/∃ a,x=some (.ok a)/\k a=some o:=by
 match x,h with
 |some (.ok a),h=>exact .inr ⟨a,rfl,h⟩
 |some (.ex z),h=>exact .inl ⟨z,rfl,(Zac h).symm⟩
section
variable{K:Frag}{C:Cg}{α:Type}{A:Rel α}{ta te:TE}{F H:Hp}{O:St}{Z:Rho}{D:Ends}{t u:TS}{f g:Sn}{o:Out}
theorem PO'.up{F1:Hp}(h:PO' K C F D o)(s:aB F F1):PO' K C F1 D o:=by
 cases o with
 |nx Z=>exact λF' H' O a=>h F' H' O (s.trans a)
 |bk Z=>exact λF' H' O a=>h F' H' O (s.trans a)
 |ct Z=>exact λF' H' O a=>h F' H' O (s.trans a)
 |rt p=>exact λv F' H' a=>h v F' H' (s.trans a)
 |ro p=>exact λv F' H' a=>h v F' H' (s.trans a)
 |rd p=>exact λv F' H' S a=>h v F' H' S (s.trans a)
 |ex z=>exact PX.up h s
theorem MJ.jM{fe:Fn α}{Q:VK}{k:α->Option Out}(h:MJ K C A ta fe)(R:RE K C.toCf F H O Z)(hb:dB (fe Z) k=some o)(P:PO' K C F D o)
  (go:∀ p v F1 H1,k p=some o->Up F H F1 H1->A F1 H1 v p->Q v H1):ta O H Q:=by
 rcases b8 hb with⟨z,e,rfl⟩|⟨p,e,hk⟩
 ·exact h F H O Z Q _ R e P
 ·exact h F H O Z Q _ R e λv F1 H1 u a=>go p v F1 H1 hk u a
theorem MO.jM{fe:Fn PV}{Q:VK}{k:PV->Option Out}(h:MO K C ta fe)(R:RE K C.toCf F H O Z)(hb:dB (fe Z) k=some o)(P:PO' K C F D o)
  (go:∀ p a F1 H1,k p=some o->Up F H F1 H1->H a=none->F1 a=none->Own K F1 H1 a p->Q (.ref a) H1):ta O H Q:=by
 rcases b8 hb with⟨z,e,rfl⟩|⟨p,e,hk⟩
 ·exact h F H O Z Q _ R e P
 ·exact h F H O Z Q _ R e λa F1 H1 u n1 n2 w=>go p a F1 H1 hk u n1 n2 w
theorem MT.jM{tt:TT}{fe:Fn Bool}{Q:Bool->Hp->Prop}{k:Bool->Option Out}(h:MT K C tt fe)(R:RE K C.toCf F H O Z)(hb:dB (fe Z) k=some o)(P:PO' K C F D o)
  (go:∀ b F1 H1,k b=some o->Up F H F1 H1->Q b H1):tt O H Q:=by
 rcases b8 hb with⟨z,e,rfl⟩|⟨p,e,hk⟩
 ·exact h F H O Z Q _ R e P
 ·exact h F H O Z Q _ R e λF1 H1 u=>go p F1 H1 hk u
def jN:Sn:=λZ=>some (.nx Z)
def bA(f g:Sn):Sn:=λZ=>match f Z with
 |some (.nx Z')=>g Z'
 |x=>x
theorem gf:MS K C Jo jN:=λF H O Z D o R e P=>by
 cases e;exact P F H O (aB.refl _) R
theorem aR(h1:MS K C t f)(h2:MS K C u g):MS K C (Ka t u) (bA f g):=by
 intro F H O Z D o R e P;unfold bA at e;split at e
 ·rename_i Z' h;refine h1 F H O Z _ _ R h ?_;exact λF' H' O' s R'=>h2 F' H' O' Z' D o R' e (P.up s)
 ·rename_i x hx;cases o with
  |nx Z'=>exact absurd e (hx Z')
  |bk Z=>exact h1 F H O _ _ _ R e P
  |ct Z=>exact h1 F H O _ _ _ R e P
  |rt p=>exact h1 F H O _ _ _ R e P
  |ro p=>exact h1 F H O _ _ _ R e P
  |rd p=>exact h1 F H O _ _ _ R e P
  |ex z=>exact h1 F H O _ _ _ R e P
def DK:Sn:=λZ=>some (.ct Z)
theorem Hh:MS K C Jq DK:=λF H O Z D o R e P=>by
 cases e;exact P F H O (aB.refl _) R
def MG(K:Frag)(C:Cg)(g:TG)(tg:PV->Rho->Option Rho):Prop:=
 ∀ F H O Z v p Z' Q,RE K C.toCf F H O Z->Rep K F v p->tg p Z=some Z'->(∀ O',RE K C.toCf F H O' Z'->Q O' H)->g v O H Q
def MGs(K:Frag)(C:Cg)(g:TGs)(tg:List PV->Rho->Option Rho):Prop:=
 ∀ F H O Z vs ps Z' Q,RE K C.toCf F H O Z->aZ K F vs ps->tg ps Z=some Z'->(∀ O',RE K C.toCf F H O' Z'->Q O' H)->g vs O H Q
def gN(i:Nat):PV->Rho->Option Rho:=λp Z=>some (Z.set i (some (.sh p)))
theorem aU(i:Nat):MG K C (oW i) (gN i):=λF H O Z v p Z' Q R r e k=>by
 cases e;exact k _ (R.set i r)
def gsNil:List PV->Rho->Option Rho
 |[],Z=>some Z
 |_::_,_=>none
def gsCons(t:PV->Rho->Option Rho)(u:List PV->Rho->Option Rho):List PV->Rho->Option Rho
 |[],_=>none
 |p::l,Z=>match t p Z with
  |some Z'=>u l Z'
  |none=>none
theorem pO:MGs K C Dg gsNil:=λF H O Z vs ps Z' Q R r e k=>by
 cases ps with
 |nil=>cases e;exact⟨r.kh,k O R⟩
 |cons p l=>cases e
theorem fJ{g:TG}{gs:TGs}{tg:PV->Rho->Option Rho}{tgs:List PV->Rho->Option Rho}(h:MG K C g tg)(hs:MGs K C gs tgs):MGs K C (Jr g gs) (gsCons tg tgs):=λF H O Z vs ps Z' Q R r e k=>by
 cases ps with
 |nil=>cases e
 |cons p l=>
  obtain⟨v,ys,rfl,r1,r2⟩:=r.fH;have e':(match tg p Z with
   |some Z'=>tgs l Z'
   |none=>none)=some Z':=e
  split at e'
  ·rename_i Z1 h1;exact⟨v,ys,rfl,h F H O Z v p Z1 _ R r1 h1 λO' R'=>hs F H O' Z1 ys l Z' Q R' r2 e' k⟩
  ·cases e'
def gT(n:Nat)(t:List PV->Rho->Option Rho):PV->Rho->Option Rho:=λp Z=>match p with
 |.tup l=>if l.length=n then t l Z else none
 |_=>none
theorem uG{n:Nat}{gs:TGs}{tgs:List PV->Rho->Option Rho}(hs:MGs K C gs tgs):MG K C (Kc K n gs) (gT n tgs):=λF H O Z v p Z' Q R r e k=>by
 unfold gT at e;split at e
 ·rename_i l;split at e
  ·rename_i hn;obtain⟨a,xs,rfl,hq,rr⟩:=r.bK;exact⟨a,xs,rfl,R.rb.sub.tup hq,by rw[rr.1];exact hn,hs F H O Z xs l Z' Q R rr e k⟩
  ·cases e
 ·cases e
def dX(fe:Fn PV)(tg:PV->Rho->Option Rho):Sn:=λZ=>dB (fe Z) λp=>match tg p Z with
 |some Z'=>some (.nx Z')
 |none=>none
theorem cj{fe:Fn PV}{gt:TG}{tg:PV->Rho->Option Rho}(h:MJ K C (aF K) te fe)(hg:MG K C gt tg):MS K C (yd te gt) (dX fe tg):=by
 intro F H O Z D o R e P;refine h.jM R e P λp v F1 H1 hk u a=>?_;split at hk
 ·rename_i Z' h1;cases hk;exact hg F1 H1 O Z v p Z' _ (R.up u) a h1 λO' R'=>P F1 H1 O' u.ff R'
 ·cases hk
def jw(i:Nat)(fe:Fn PV):Sn:=λZ=>dB (fe Z) λp=>some (.nx (Z.set i (some (.ow p))))
theorem gh{i:Nat}{fe:Fn PV}(nw:C.nw)(h:MO K C te fe):MS K C (yd te (oW i)) (jw i fe):=by
 intro F H O Z D o R e P;refine h.jM R e P λp a F1 H1 hk u n1 n2 w=>?_;cases hk;exact P F1 H1 _ u.ff ((R.up u).Nz i w n2 nw (R.rb.oY n1) (λj q hj _=>R.apart n1 j q hj) (R.Kw n1 u))
def pC(fe:Fn PV):Sn:=λZ=>dB (fe Z) λp=>some (.rt p)
theorem jg{fe:Fn PV}(h:MJ K C (aF K) te fe):MS K C (Az te) (pC fe):=by
 intro F H O Z D o R e P;refine h.jM R e P λp v F1 H1 hk u a=>?_;cases hk;exact P v F1 H1 u.ff (R.rb.up u) a
def zH(fe:Fn PV):Sn:=λZ=>dB (fe Z) λp=>some (.ro p)
theorem Hi{fe:Fn PV}(h:MO K C te fe):MS K C (Az te) (zH fe):=by
 intro F H O Z D o R e P;refine h.jM R e P λp a F1 H1 hk u n1 n2 w=>?_;cases hk;exact P a F1 H1 u.ff (R.rb.up u) w n2 (R.rb.oY n1)
def ownAt(i:Nat)(Z:Rho):Option PV:=match Z[i]? with
 |some (some (.ow p))=>some p
 |_=>none
theorem aX{i:Nat}{p:PV}(h:ownAt i Z=some p):Z[i]?=some (some (.ow p)):=by
 unfold ownAt at h;split at h
 ·rename_i q hq;cases h;exact hq
 ·cases h
def jO(i:Nat):Sn:=λZ=>match ownAt i Z with
 |some p=>some (.ro p)
 |none=>none
theorem qu(i:Nat)(hio:∀ a,¬C.io a):MS K C (Az (iw i)) (jO i):=by
 intro F H O Z D o R e P;unfold jO at e;split at e
 ·rename_i p hp;cases e;obtain⟨a,e1,e2,e3,e4⟩:=R.ow i p (aX hp);exact⟨_,e1,P a F H (aB.refl _) R.rb e2 e3 (e4.resolve_left (hio a)).2⟩
 ·cases e
def Bt(i:Nat)(Z:Rho):Rho:=match ownAt i Z with
 |some p=>Z.set i (some (.sh p))
 |none=>Z
theorem KN(i:Nat)(hio:∀ a,¬C.io a)(h:MS K C t f):MS K C t (λZ=>f (Bt i Z)):=by
 intro F H O Z D o R e P;have e:f (Bt i Z)=some o:=e;unfold Bt at e;cases hp:ownAt i Z with
 |none=>rw[hp] at e;exact h F H O Z D o R e P
 |some p=>
  rw[hp] at e;obtain⟨F',s,R'⟩:=R.frz (aX hp) λa _=>hio a;exact h F' H O _ D o R' e (P.up s)
def wj(i:Nat)(fe:Fn PV):Sn:=λZ=>match ownAt i Z with
 |some (.lst l)=>dB (fe Z) λp=>if l.length<sizeLine then some (.nx (Z.set i (some (.ow (.lst (l++[p])))))) else none
 |_=>none
theorem yz{i:Nat}{fe:Fn PV}(h:MJ K C (aF K) te fe):MS K C (sW (tBM K "list" pL (iw i) (dw te lr))) (wj i fe):=by
 intro F H O Z D o R e P;unfold wj at e;split at e
 ·rename_i l hl;obtain⟨a,g1,⟨xs,g2,g3⟩,g4,g5⟩:=R.ow i _ (aX hl);refine⟨_,g1,tyL g2,h.jM R e P λp v F1 H1 hk u w=>?_⟩;split at hk
  ·rename_i hlen;cases hk;obtain⟨a',k1,⟨ys,k2,k3⟩,k4,k5⟩:=(R.up u).ow i _ (aX hl);rw[g1] at k1;cases k1;refine⟨a,ys,v,rfl,rfl,k2,by rw[k3.1];exact hlen,?_⟩
   exact P F1 _ O u.ff ((R.up u).write (aX hl) g1 ⟨_,aq,k3.snoc w⟩)
  ·cases hk
 ·cases e
def oh(fc:Fn Bool)(f g:Sn):Sn:=λZ=>dB (fc Z) λb=>if b=true then f Z else g Z
theorem lC{c:TT}{fc:Fn Bool}(hc:MT K C c fc)(h1:MS K C t f)(h2:MS K C u g):MS K C (Lz c t u) (oh fc f g):=by
 intro F H O Z D o R e P;refine hc.jM R e P λb F1 H1 hk uu=>?_;cases b with
 |true=>rw[Zat rfl] at hk ⊢;exact h1 F1 H1 O Z D o (R.up uu) hk (P.up uu.ff)
 |false=>rw[Zax (by decide)] at hk ⊢;exact h2 F1 H1 O Z D o (R.up uu) hk (P.up uu.ff)
structure ItR(K:Frag)(J:It)(F:Hp)(l:List PV):Prop where
 stop:∀ F' H',aB F F'->aB F' H'->J.stop l.length H'
 go:∀ i F' H',i<l.length->aB F F'->aB F' H'->J.go i H'
 yld:∀ i F' H' x H'',i<l.length->aB F F'->aB F' H'->J.yld i H' x H''->∃ F'' p,Up F' H' F'' H''/\l[i]?=some p/\Rep K F'' x p
def MI(K:Frag)(C:Cg)(wi:TI)(f:Fn (List PV)):Prop:=
 ∀ F H O Z R' r,RE K C.toCf F H O Z->f Z=some r->Pr C F (λl=>∀ J F' H',Up F H F' H'->ItR K J F' l->R' J H') r->wi O H R'
def loop(tg:PV->Rho->Option Rho)(body:Sn):List PV->Rho->Option Out
 |[],Z=>some (.nx Z)
 |x::xs,Z=>match tg x Z with
  |none=>none
  |some Z1=>match body Z1 with
   |some (.nx Z2)=>loop tg body xs Z2
   |some (.ct Z2)=>loop tg body xs Z2
   |some (.bk Z2)=>some (.nx Z2)
   |x=>x
def sr(it:Fn (List PV))(tg:PV->Rho->Option Rho)(body:Sn):Sn:=λZ=>dB (it Z) λl=>loop tg body l Z
theorem tM{J:It}{gt:TG}{tg:PV->Rho->Option Rho}{l:List PV}(hg:MG K C gt tg)(hb:MS K C t f)(hJ:ItR K J F l)(R:RE K C.toCf F H O Z)(e:loop tg f l Z=some o)(P:PO' K C F D o):Nv J gt t D O H:=by
 refine⟨λi m O' H'=>∃ F' Z',m=l.length-i/\i<=l.length/\aB F F'/\RE K C.toCf F' H' O' Z'/\loop tg f (l.drop i) Z'=some o,⟨l.length,F,Z,by simp,ZaW _,aB.refl _,R,by rw[ZbX];exact e⟩,?_⟩
 rintro i m O' H' ⟨F',Z',rfl,hi,s,R',e'⟩;by_cases hlt:i<l.length
 ·refine .inr ⟨hJ.go i F' H' hlt s R'.rb.sub,λO2 H2=>∃ F2 Z2,aB F F2/\RE K C.toCf F2 H2 O2 Z2/\loop tg f (l.drop (i+1)) Z2=some o,λO2 H2 ⟨F2,Z2,s2,R2,e2⟩=>⟨l.length-(i+1),by omega,F2,Z2,rfl,hlt,s2,R2,e2⟩,λx H'' y=>?_⟩
  obtain⟨F'',p,u,ep,rx⟩:=hJ.yld i F' H' x H'' hlt s R'.rb.sub y;have ed:l.drop i=p::l.drop (i+1):=by
   rw[ZaY hlt];rw[Zaa hlt] at ep;rw[Zac ep]
  rw[ed,loop] at e';split at e'
  ·cases e'
  ·rename_i Z1 h1;refine hg F'' H'' O' Z' x p Z1 _ (R'.up u) rx h1 λO1 R1=>?_;have sF:aB F F'':=s.trans u.ff;split at e'
   ·rename_i Z2 h2;exact hb F'' H'' O1 Z1 _ _ R1 h2 λF3 H3 O3 s3 R3=>⟨F3,Z2,sF.trans s3,R3,e'⟩
   ·rename_i Z2 h2;exact hb F'' H'' O1 Z1 _ _ R1 h2 λF3 H3 O3 s3 R3=>⟨F3,Z2,sF.trans s3,R3,e'⟩
   ·rename_i Z2 h2;cases e';exact hb F'' H'' O1 Z1 _ _ R1 h2 λF3 H3 O3 s3 R3=>P F3 H3 O3 (sF.trans s3) R3
   ·rename_i n1 n2 n3;cases o with
    |nx Z2=>exact absurd e' (n1 Z2)
    |ct Z2=>exact absurd e' (n2 Z2)
    |bk Z2=>exact absurd e' (n3 Z2)
    |rt p=>exact hb F'' H'' O1 Z1 _ _ R1 e' (PO'.up (D:=D) P sF)
    |ro p=>exact hb F'' H'' O1 Z1 _ _ R1 e' (PO'.up (D:=D) P sF)
    |rd p=>exact hb F'' H'' O1 Z1 _ _ R1 e' (PO'.up (D:=D) P sF)
    |ex z=>exact hb F'' H'' O1 Z1 _ _ R1 e' (PX.up P sF)
 ·have ei:i=l.length:=by omega
  subst ei;rw[Zcu] at e';cases e';exact .inl ⟨hJ.stop F' H' s R'.rb.sub,P F' H' O' s R'⟩
theorem ou{wi:TI}{it:Fn (List PV)}{gt:TG}{tg:PV->Rho->Option Rho}(hi:MI K C wi it)(hg:MG K C gt tg)(hb:MS K C t f):MS K C (Kd wi gt t) (sr it tg f):=by
 intro F H O Z D o R e P;rcases b8 e with⟨z,e1,rfl⟩|⟨l,e1,hk⟩
 ·exact hi F H O Z _ _ R e1 P
 ·exact hi F H O Z _ _ R e1 λJ F' H' u hJ=>tM hg hb hJ (R.up u) hk (P.up u.ff)
def iG(fc:Fn Bool)(body:Sn):Nat->Rho->Option Out
 |0,_=>none
 |n+1,Z=>dB (fc Z) λb=>if b=true then(match body Z with
   |some (.nx Z2)=>iG fc body n Z2
   |some (.ct Z2)=>iG fc body n Z2
   |some (.bk Z2)=>some (.nx Z2)
   |x=>x) else some (.nx Z)
theorem DN{c:TT}{fc:Fn Bool}(n:Nat)(hc:MT K C c fc)(hb:MS K C t f):MS K C (yf c t) (iG fc f n):=by
 intro F H O Z D o R e P;refine⟨λm O' H'=>∃ F' Z',aB F F'/\RE K C.toCf F' H' O' Z'/\iG fc f m Z'=some o,⟨n,F,Z,aB.refl _,R,e⟩,?_⟩;rintro m O' H' ⟨F',Z',s,R',e'⟩;cases m with
 |zero=>cases e'
 |succ m=>
  refine hc.jM R' e' (P.up s) λb F1 H1 hk u=>?_;have sF:aB F F1:=s.trans u.ff;have R1:=R'.up u;cases b with
  |false=>
   rw[Zax (by decide)] at hk ⊢
   cases hk;exact P F1 H1 O' sF R1
  |true=>
   rw[Zat rfl] at hk ⊢;refine⟨λO2 H2=>∃ F2 Z2,aB F F2/\RE K C.toCf F2 H2 O2 Z2/\iG fc f m Z2=some o,λO2 H2 ⟨F2,Z2,s2,R2,e2⟩=>⟨m,Zb3 _,F2,Z2,s2,R2,e2⟩,?_⟩;split at hk
   ·rename_i Z2 h2;exact hb F1 H1 O' Z' _ _ R1 h2 λF3 H3 O3 s3 R3=>⟨F3,Z2,sF.trans s3,R3,hk⟩
   ·rename_i Z2 h2;exact hb F1 H1 O' Z' _ _ R1 h2 λF3 H3 O3 s3 R3=>⟨F3,Z2,sF.trans s3,R3,hk⟩
   ·rename_i Z2 h2;cases hk;exact hb F1 H1 O' Z' _ _ R1 h2 λF3 H3 O3 s3 R3=>P F3 H3 O3 (sF.trans s3) R3
   ·rename_i n1 n2 n3;cases o with
    |nx Z2=>exact absurd hk (n1 Z2)
    |ct Z2=>exact absurd hk (n2 Z2)
    |bk Z2=>exact absurd hk (n3 Z2)
    |rt p=>exact hb F1 H1 O' Z' _ _ R1 hk (PO'.up (D:=D) P sF)
    |ro p=>exact hb F1 H1 O' Z' _ _ R1 hk (PO'.up (D:=D) P sF)
    |rd p=>exact hb F1 H1 O' Z' _ _ R1 hk (PO'.up (D:=D) P sF)
    |ex z=>exact hb F1 H1 O' Z' _ _ R1 hk (PX.up P sF)
end
def eqL(f:PV->PV->Option Bool):List PV->List PV->Option Bool
 |[],[]=>some true
 |[],_::_=>some false
 |_::_,[]=>some false
 |x::xs,y::ys=>match f x y,eqL f xs ys with
  |some a,some b=>some (a&&b)
  |_,_=>none
def eqF:Nat->PV->PV->Option Bool
 |_,.non,.non=>some true
 |_,.non,.bl _=>some false
 |_,.non,.int _=>some false
 |_,.non,.str _=>some false
 |_,.bl _,.non=>some false
 |_,.bl a,.bl b=>some (decide (a=b))
 |_,.bl _,.str _=>some false
 |_,.int _,.non=>some false
 |_,.int a,.int b=>some (decide (a=b))
 |_,.int _,.str _=>some false
 |_,.str _,.non=>some false
 |_,.str _,.bl _=>some false
 |_,.str _,.int _=>some false
 |_,.str a,.str b=>some (decide (a=b))
 |_,.non,.tup _=>some false
 |_,.tup _,.non=>some false
 |_,.non,.lst _=>some false
 |_,.lst _,.non=>some false
 |_,.int _,.tup _=>some false
 |_,.tup _,.int _=>some false
 |_,.str _,.tup _=>some false
 |_,.tup _,.str _=>some false
 |_,.int _,.lst _=>some false
 |_,.lst _,.int _=>some false
 |_,.str _,.lst _=>some false
 |_,.lst _,.str _=>some false
 |_,.lst _,.tup _=>some false
 |_,.tup _,.lst _=>some false
 |n+1,.tup l,.tup m=>eqL (eqF n) l m
 |n+1,.lst l,.lst m=>if l.length=m.length then eqL (eqF n) l m else some false
 |_,_,_=>none
theorem jP{f:PV->PV->Option Bool}(h:∀ p r,f p p=some r->r=true):∀ {l:List PV}{r:Bool},eqL f l l=some r->r=true
 |[],r,e=>by cases e;rfl
 |x::xs,r,e=>by
  rw[eqL] at e;split at e
  ·rename_i a b h1 h2;cases e;rw[h x a h1,jP h h2];rfl
  ·cases e
theorem wk:∀ (n:Nat) (p:PV) (r:Bool),eqF n p p=some r->r=true
 |n,p,r,e=>by
  induction n generalizing p r with
  |zero=>cases p<;>first|(cases (show some true=some r from e);rfl)|(cases (show some (decide _)=some r from e);exact decide_eq_true rfl)|cases (show none=some r from e)
  |succ n ih=>
   cases p with
   |tup l=>exact jP ih e
   |lst l=>
    have e:(if l.length=l.length then eqL (eqF n) l l else some false)=some r:=e;rw[Zat rfl] at e;exact jP ih e
   |_=>first|(cases (show some true=some r from e);rfl)|(cases (show some (decide _)=some r from e);exact decide_eq_true rfl)|cases (show none=some r from e)
theorem uH{f:PV->PV->Option Bool}:∀ {l m:List PV}{r:Bool},eqL f l m=some r->∃ e:Nat->Bool,(∀ (j:Nat) x y,l[j]?=some x->m[j]?=some y->f x y=some (e j))/\r=((List.range (min l.length m.length)).all e&&l.length==m.length)
 |[],[],r,h=>⟨λ_=>true,λj x y a=>by simp at a,by cases h;rfl⟩
 |[],_::_,r,h=>⟨λ_=>true,λj x y a=>by simp at a,by cases h;simp⟩
 |_::_,[],r,h=>⟨λ_=>true,λj x y _ a=>by simp at a,by cases h;simp⟩
 |x::xs,y::ys,r,h=>by
  rw[eqL] at h;split at h
  ·rename_i a b h1 h2;cases h;obtain⟨e,e1,e2⟩:=uH h2;refine⟨λj=>match j with|0=>a|j+1=>e j,λj x' y' a' b'=>?_,?_⟩
   ·cases j with
    |zero=>simp at a' b';subst a' b';exact h1
    |succ j=>exact e1 j x' y' (by simpa using a') (by simpa using b')
   ·rw[e2,ZaJ,ZaJ,Nat.succ_min_succ,List.range_succ_eq_map,List.all_cons,List.all_map];have:((xs.length+1==ys.length+1):Bool)=(xs.length==ys.length):=by
     rw[Zca];simp
    rw[this];cases a<;>simp[Function.comp_def]
  ·cases h
section
variable{X:Cx}{pins:List (Addr×Obj)}{O:St}{H:Hp}{s:Shared}
theorem Rep.kinds(I:Inv X pins O H s){a:Addr}{xs ys:List V}(h1:SqL X.K H a xs)(h2:SqT X.K H a ys):False:=by
 obtain⟨_,_,p1,_⟩:=I.list h1;obtain⟨_,_,p2,_⟩:=I.tuple h2;obtain⟨o,n,e,c,_⟩:=p1;obtain⟨o',e',c',_⟩:=p2;rw[e] at e';cases e';rw[c] at c';exact absurd c' (by decide)
theorem wu{xs:List V}{l m:List PV}(h1:xs.length=l.length)(h2:xs.length=m.length)(h:∀ (j:Nat) x p q,xs[j]?=some x->l[j]?=some p->m[j]?=some q->p=q):l=m:=by
 apply ZbC
 intro j;by_cases hj:j<xs.length
 ·have hl:j<l.length:=by lia
  have hm:j<m.length:=by lia
  rw[Zaa hl,Zaa hm,h j xs[j] l[j] m[j] (by simp[hj]) (by simp[hl]) (by simp[hm])]
 ·rw[ZaF (by lia),ZaF (by lia)]
def HO.isDict:HO->Bool
 |.dK _=>true
 |.dT _=>true
 |_=>false
theorem Hj{H:Hp}{a:Addr}{u v:HO}(hu:HO.isDict u=true)(hv:HO.isDict v=true)(h:Rd H a u)(h':Rd H a v):u=v:=by
 rcases h with h|⟨o,h⟩<;>rcases h' with h'|⟨o',h'⟩<;>rw[h] at h'<;>cases h'
 ·rfl
 ·cases hu
 ·cases hv
 ·rfl
theorem uI{H:Hp}{a:Addr}{u v:HO}(h:Rd H a u)(h':Rd H a v)(hu:HO.isDict u=true:=by rfl)(hv:HO.isDict v=true:=by rfl):u=v:=Hj hu hv h h'
theorem Rep.noDict(I:Inv X pins O H s){a:Addr}{ks:List (Key×V)}{ts:List (List Key×V)}(h1:Rd H a (.dK ks)\/Rd H a (.dT ts))(h2:(∃ xs,SqL X.K H a xs)\/∃ xs,SqT X.K H a xs):False:=by
 have d:∃ o es ep,s.heap.get? a=some o/\o.data=.dict es ep:=by
  rcases h1 with h1|h1
  ·obtain⟨_,_,_,_,o,es,ep,e,x,d,_⟩:=h1.ok I.hok;exact⟨o,es,ep,e,d⟩
  ·obtain⟨_,_,_,_,o,es,ep,e,x,d,_⟩:=h1.ok I.hok;exact⟨o,es,ep,e,d⟩
 obtain⟨o,es,ep,e,d⟩:=d;rcases h2 with⟨xs,h2⟩|⟨xs,h2⟩
 ·obtain⟨_,_,p1,_⟩:=I.list h2;obtain⟨o',n,e',_,_,d'⟩:=p1;rw[e] at e';cases e';rw[d] at d';cases d'
 ·obtain⟨_,_,p1,_⟩:=I.tuple h2;obtain⟨o',e',_,n,d'⟩:=p1;rw[e] at e';cases e';rw[d] at d';cases d'
theorem XO.at(I:Inv X pins O H s){a C:Addr}{d:Option Addr}(h:H a=some (XO a C d)):∃ vs:Array Value,s.heap.get? a=some { cls:=.ref C,dict:=d,data:=.fields vs }:=(I.hok _ _ h).1
theorem XO.inj(I:Inv X pins O H s){a C C':Addr}{d d':Option Addr}(h:H a=some (XO a C d))(h':H a=some (XO a C' d')):C=C'/\d=d':=by
 obtain⟨vs,e⟩:=XO.at I h;obtain⟨vs',e'⟩:=XO.at I h';rw[e] at e';cases e';exact⟨rfl,rfl⟩
theorem XO.noSeq(I:Inv X pins O H s){a C:Addr}{d:Option Addr}(h:H a=some (XO a C d))(h2:(∃ xs,SqL X.K H a xs)\/∃ xs,SqT X.K H a xs):False:=by
 obtain⟨vs,e⟩:=XO.at I h;rcases h2 with⟨xs,h2⟩|⟨xs,h2⟩
 ·obtain⟨_,_,p1,_⟩:=I.list h2;obtain⟨o',n,e',_,_,d'⟩:=p1;rw[e] at e';cases e';cases d'
 ·obtain⟨_,_,p1,_⟩:=I.tuple h2;obtain⟨o',e',_,n,d'⟩:=p1;rw[e] at e';cases e';cases d'
theorem XNm.inj{K:Frag}{C:Addr}{c c':Str}(a:XNm K C c)(b:XNm K C c'):c=c':=by
 obtain⟨cd,h1,h2⟩:=a.cl;obtain⟨cd',h1',h2'⟩:=b.cl;rw[h1] at h1';cases h1';exact h2.symm.trans h2'
theorem Rep.inj(I:Inv X pins O H s){x:V}{p:PV}(h:Rep X.K H x p):∀ {q:PV},Rep X.K H x q->p=q:=by
 have pairs:∀ {κ:Type}{xs:List (κ×V)}{l m:List (κ×PV)},xs.map (·.1)=l.map (·.1)->xs.map (·.1)=m.map (·.1)->(∀ (j:Nat) x p q,xs[j]?=some x->l[j]?=some p->m[j]?=some q->p.2=q.2)->l=m:=by
  intro κ xs l m h1 h2 h3;have l1:xs.length=l.length:=by simpa using Zba List.length h1
  have l2:xs.length=m.length:=by simpa using Zba List.length h2
  apply ZbC
  intro j;by_cases hj:j<xs.length
  ·have hl:j<l.length:=by lia
   have hm:j<m.length:=by lia
   rw[Zaa hl,Zaa hm];have k:=Zba (·[j]?) (h1.symm.trans h2);simp[hl,hm] at k;have v:=h3 j xs[j] l[j] m[j] (by simp[hj]) (by simp[hl]) (by simp[hm])
   rw[Prod.ext k v]
  ·rw[ZaF (by lia),ZaF (by lia)]
 induction h with
 |non=>intro q h';cases h';rfl
 |bl=>intro q h';cases h';rfl
 |int=>intro q h';cases h';rfl
 |str=>intro q h';cases h';rfl
 |ty=>intro q h';cases h';rfl
 |@tup a xs l h hl _ ih=>
  intro q h';have h:=SqT.of (K:=X.K) h;cases h' with
  |tup h2 hl2 hr2=>
   cases I.sV h (SqT.of (K:=X.K) h2);rw[wu hl hl2 λj x p q e1 e2 e3=>ih j x p e1 e2 (hr2 j x q e1 e3)]
  |lst h2=>exact(Rep.kinds I h2 h).elim
  |dk h2=>exact(Rep.noDict I (ts:=[]) (.inl h2) (.inr ⟨_,h⟩)).elim
  |dt h2=>exact(Rep.noDict I (ks:=[]) (.inr h2) (.inr ⟨_,h⟩)).elim
  |exc _ h2=>exact(XO.noSeq I h2 (.inr ⟨_,h⟩)).elim
  |exc0 _ h2=>exact(XO.noSeq I h2 (.inr ⟨_,h⟩)).elim
 |@lst a xs l h hl _ ih=>
  intro q h';cases h' with
  |tup h2=>exact(Rep.kinds I h (SqT.of h2)).elim
  |lst h2 hl2 hr2=>
   cases I.vO h h2;rw[wu hl hl2 λj x p q e1 e2 e3=>ih j x p e1 e2 (hr2 j x q e1 e3)]
  |dk h2=>exact(Rep.noDict I (ts:=[]) (.inl h2) (.inl ⟨_,h⟩)).elim
  |dt h2=>exact(Rep.noDict I (ks:=[]) (.inr h2) (.inl ⟨_,h⟩)).elim
  |exc _ h2=>exact(XO.noSeq I h2 (.inl ⟨_,h⟩)).elim
  |exc0 _ h2=>exact(XO.noSeq I h2 (.inl ⟨_,h⟩)).elim
 |@dk a xs l h hl _ ih=>
  intro q h';cases h' with
  |tup h2=>exact(Rep.noDict I (ts:=[]) (.inl h) (.inr ⟨_,SqT.of h2⟩)).elim
  |lst h2=>exact(Rep.noDict I (ts:=[]) (.inl h) (.inl ⟨_,h2⟩)).elim
  |dk h2 hl2 hr2=>
   cases (uI h h2);rw[pairs hl hl2 λj x p q e1 e2 e3=>ih j x p e1 e2 (hr2 j x q e1 e3)]
  |dt h2=>cases uI h h2
  |exc _ h2=>rcases h with h|⟨o,h⟩<;>rw[h] at h2<;>cases h2
  |exc0 _ h2=>rcases h with h|⟨o,h⟩<;>rw[h] at h2<;>cases h2
 |@dt a xs l h hl _ ih=>
  intro q h';cases h' with
  |tup h2=>exact(Rep.noDict I (ks:=[]) (.inr h) (.inr ⟨_,SqT.of h2⟩)).elim
  |lst h2=>exact(Rep.noDict I (ks:=[]) (.inr h) (.inl ⟨_,h2⟩)).elim
  |dk h2=>cases uI h h2
  |dt h2 hl2 hr2=>
   cases (uI h h2);rw[pairs hl hl2 λj x p q e1 e2 e3=>ih j x p e1 e2 (hr2 j x q e1 e3)]
  |exc _ h2=>rcases h with h|⟨o,h⟩<;>rw[h] at h2<;>cases h2
  |exc0 _ h2=>rcases h with h|⟨o,h⟩<;>rw[h] at h2<;>cases h2
 |@exc a C dx c xs l nm h hd hl _ ih=>
  intro q h';cases h' with
  |tup h2=>exact(XO.noSeq I h (.inr ⟨_,SqT.of h2⟩)).elim
  |lst h2=>exact(XO.noSeq I h (.inl ⟨_,h2⟩)).elim
  |dk h2=>rcases h2 with h2|⟨o,h2⟩<;>rw[h] at h2<;>cases h2
  |dt h2=>rcases h2 with h2|⟨o,h2⟩<;>rw[h] at h2<;>cases h2
  |exc nm2 h2 hd2 hl2 hr2=>
   obtain⟨rfl,e⟩:=XO.inj I h h2;cases e;rw[hd] at hd2;cases hd2;cases XNm.inj nm nm2;rw[pairs hl hl2 λj x p q e1 e2 e3=>ih j x p e1 e2 (hr2 j x q e1 e3)]
  |exc0 nm2 h2=>cases (XO.inj I h h2).2
 |@exc0 a C c nm h=>
  intro q h';cases h' with
  |tup h2=>exact(XO.noSeq I h (.inr ⟨_,SqT.of h2⟩)).elim
  |lst h2=>exact(XO.noSeq I h (.inl ⟨_,h2⟩)).elim
  |dk h2=>rcases h2 with h2|⟨o,h2⟩<;>rw[h] at h2<;>cases h2
  |dt h2=>rcases h2 with h2|⟨o,h2⟩<;>rw[h] at h2<;>cases h2
  |exc nm2 h2=>cases (XO.inj I h h2).2
  |exc0 nm2 h2=>
   obtain⟨rfl,_⟩:=XO.inj I h h2;cases XNm.inj nm nm2;rfl
theorem DP(I:Inv X pins O H s):∀ {A:Around}{x y:V}{p q:PV}{r:Bool}{u v:Value},A.units<cLine->eqF 0 p q=some r->Rep X.K H x p->Rep X.K H y q->RelV x u->RelV y v ->
  SeqAt.RcAt A s u v r/\SeqAt.EqAt A s u v r/\SeqAt.RcNeAt A s u v (!r):=by
 intro A x y p q r u v hu e rx ry ru rv;have hu0:A.units<cLine:=hu
 match p,q,e with
 |.non,.non,e=>
  have e:=Zac e;subst e;cases Rep.dg rx;cases Rep.dg ry;cases ru;cases rv;exact⟨SeqAt.RcAt.none_none,SeqAt.EqAt.same _,SeqAt.RcNeAt.none_none⟩
 |.non,.bl b,e=>
  have e:=Zac e;subst e;cases Rep.dg rx;cases Rep.iy ry;cases ru;cases rv;exact⟨SeqAt.RcAt.none_bool _,SeqAt.EqAt.none_bool _,SeqAt.RcNeAt.none_bool _⟩
 |.non,.int b,e=>
  have e:=Zac e;subst e;cases Rep.dg rx;cases Rep.aW ry;cases ru;obtain⟨tb,rfl⟩:=rv;exact⟨SeqAt.RcAt.none_int _ _,SeqAt.EqAt.none_int _ _,SeqAt.RcNeAt.none_int _ _⟩
 |.non,.str b,e=>
  have e:=Zac e;subst e;cases Rep.dg rx;cases Rep.bG ry;cases ru;obtain⟨tb,rfl⟩:=rv;exact⟨SeqAt.RcAt.none_str _ _,SeqAt.EqAt.none_str _ _,SeqAt.RcNeAt.none_str _ _⟩
 |.bl a,.non,e=>
  have e:=Zac e;subst e;cases Rep.iy rx;cases Rep.dg ry;cases ru;cases rv;exact⟨SeqAt.RcAt.bool_none _,SeqAt.EqAt.bool_none _,SeqAt.RcNeAt.bool_none _⟩
 |.bl a,.bl b,e=>
  have e:=Zac e;subst e;cases Rep.iy rx;cases Rep.iy ry;cases ru;cases rv;rw[<-Zb0];exact⟨SeqAt.RcAt.bool_bool _ _,SeqAt.EqAt.bool_bool _ _,SeqAt.RcNeAt.bool_bool _ _⟩
 |.bl a,.str b,e=>
  have e:=Zac e;subst e;cases Rep.iy rx;cases Rep.bG ry;cases ru;obtain⟨tb,rfl⟩:=rv;exact⟨SeqAt.RcAt.bool_str _ _ _,SeqAt.EqAt.bool_str _ _ _,SeqAt.RcNeAt.bool_str _ _ _⟩
 |.int a,.non,e=>
  have e:=Zac e;subst e;cases Rep.aW rx;cases Rep.dg ry;obtain⟨ta,rfl⟩:=ru;cases rv;exact⟨SeqAt.RcAt.int_none _ _,SeqAt.EqAt.int_none _ _,SeqAt.RcNeAt.int_none _ _⟩
 |.int a,.int b,e=>
  have e:=Zac e;subst e;cases Rep.aW rx;cases Rep.aW ry;obtain⟨ta,rfl⟩:=ru;obtain⟨tb,rfl⟩:=rv;rw[<-Zb0];exact⟨SeqAt.RcAt.int_int _ _ _ _,SeqAt.EqAt.int_int _ _ _ _,SeqAt.RcNeAt.int_int _ _ _ _⟩
 |.int a,.str b,e=>
  have e:=Zac e;subst e;cases Rep.aW rx;cases Rep.bG ry;obtain⟨ta,rfl⟩:=ru;obtain⟨tb,rfl⟩:=rv;exact⟨SeqAt.RcAt.int_str _ _ _ _,SeqAt.EqAt.int_str _ _ _ _,SeqAt.RcNeAt.int_str _ _ _ _⟩
 |.str a,.non,e=>
  have e:=Zac e;subst e;cases Rep.bG rx;cases Rep.dg ry;obtain⟨ta,rfl⟩:=ru;cases rv;exact⟨SeqAt.RcAt.str_none _ _,SeqAt.EqAt.str_none _ _,SeqAt.RcNeAt.str_none _ _⟩
 |.str a,.bl b,e=>
  have e:=Zac e;subst e;cases Rep.bG rx;cases Rep.iy ry;obtain⟨ta,rfl⟩:=ru;cases rv;exact⟨SeqAt.RcAt.str_bool _ _ _,SeqAt.EqAt.str_bool _ _ _,SeqAt.RcNeAt.str_bool _ _ _⟩
 |.str a,.int b,e=>
  have e:=Zac e;subst e;cases Rep.bG rx;cases Rep.aW ry;obtain⟨ta,rfl⟩:=ru;obtain⟨tb,rfl⟩:=rv;exact⟨SeqAt.RcAt.str_int _ _ _ _,SeqAt.EqAt.str_int _ _ _ _,SeqAt.RcNeAt.str_int _ _ _ _⟩
 |.str a,.str b,e=>
  have e:=Zac e;subst e;cases Rep.bG rx;cases Rep.bG ry;obtain⟨ta,rfl⟩:=ru;obtain⟨tb,rfl⟩:=rv;rw[<-Zb0];exact⟨SeqAt.RcAt.str_str _ _ _ _,SeqAt.EqAt.str_str _ _ _ _,SeqAt.RcNeAt.str_str _ _ _ _⟩
 |.tup a,.non,e=>
  have e:=Zac e;subst e;obtain⟨aa,xsa,rfl,ha,_⟩:=rx.bK;cases ru;obtain⟨_,_,pa,_⟩:=I.tuple ha;cases Rep.dg ry;cases rv;exact⟨SeqAt.RcAt.tuple_none pa hu0,SeqAt.EqAt.tuple_none pa hu0,SeqAt.RcNeAt.tuple_none pa hu0⟩
 |.non,.tup b,e=>
  have e:=Zac e;subst e;cases Rep.dg rx;cases ru;obtain⟨ab,xsb,rfl,hb,_⟩:=ry.bK;cases rv;obtain⟨_,_,pb,_⟩:=I.tuple hb;exact⟨SeqAt.RcAt.none_tuple pb hu0,SeqAt.EqAt.none_tuple pb hu0,SeqAt.RcNeAt.none_tuple pb hu0⟩
 |.tup a,.int b,e=>
  have e:=Zac e;subst e;obtain⟨aa,xsa,rfl,ha,_⟩:=rx.bK;cases ru;obtain⟨_,_,pa,_⟩:=I.tuple ha;cases Rep.aW ry;obtain⟨tb,rfl⟩:=rv;exact⟨SeqAt.RcAt.tuple_int _ _ pa hu0,SeqAt.EqAt.tuple_int _ _ pa hu0,SeqAt.RcNeAt.tuple_int _ _ pa hu0⟩
 |.int a,.tup b,e=>
  have e:=Zac e;subst e;cases Rep.aW rx;obtain⟨ta,rfl⟩:=ru;obtain⟨ab,xsb,rfl,hb,_⟩:=ry.bK;cases rv;obtain⟨_,_,pb,_⟩:=I.tuple hb;exact⟨SeqAt.RcAt.int_tuple _ _ pb hu0,SeqAt.EqAt.int_tuple _ _ pb hu0,SeqAt.RcNeAt.int_tuple _ _ pb hu0⟩
 |.tup a,.str b,e=>
  have e:=Zac e;subst e;obtain⟨aa,xsa,rfl,ha,_⟩:=rx.bK;cases ru;obtain⟨_,_,pa,_⟩:=I.tuple ha;cases Rep.bG ry;obtain⟨tb,rfl⟩:=rv;exact⟨SeqAt.RcAt.tuple_str _ _ pa hu0,SeqAt.EqAt.tuple_str _ _ pa hu0,SeqAt.RcNeAt.tuple_str _ _ pa hu0⟩
 |.str a,.tup b,e=>
  have e:=Zac e;subst e;cases Rep.bG rx;obtain⟨ta,rfl⟩:=ru;obtain⟨ab,xsb,rfl,hb,_⟩:=ry.bK;cases rv;obtain⟨_,_,pb,_⟩:=I.tuple hb;exact⟨SeqAt.RcAt.str_tuple _ _ pb hu0,SeqAt.EqAt.str_tuple _ _ pb hu0,SeqAt.RcNeAt.str_tuple _ _ pb hu0⟩
 |.lst a,.non,e=>
  have e:=Zac e;subst e;obtain⟨aa,xsa,rfl,ha,_⟩:=rx.bJ;cases ru;obtain⟨_,_,pa,_⟩:=I.list ha;cases Rep.dg ry;cases rv;exact⟨SeqAt.RcAt.list_none pa.isList hu0,SeqAt.EqAt.list_none pa.isList hu0,SeqAt.RcNeAt.list_none pa.isList hu0⟩
 |.non,.lst b,e=>
  have e:=Zac e;subst e;cases Rep.dg rx;cases ru;obtain⟨ab,xsb,rfl,hb,_⟩:=ry.bJ;cases rv;obtain⟨_,_,pb,_⟩:=I.list hb;exact⟨SeqAt.RcAt.none_list pb.isList hu0,SeqAt.EqAt.none_list pb.isList hu0,SeqAt.RcNeAt.none_list pb.isList hu0⟩
 |.lst a,.int b,e=>
  have e:=Zac e;subst e;obtain⟨aa,xsa,rfl,ha,_⟩:=rx.bJ;cases ru;obtain⟨_,_,pa,_⟩:=I.list ha;cases Rep.aW ry;obtain⟨tb,rfl⟩:=rv;exact⟨SeqAt.RcAt.list_int _ _ pa.isList hu0,SeqAt.EqAt.list_int _ _ pa.isList hu0,SeqAt.RcNeAt.list_int _ _ pa.isList hu0⟩
 |.int a,.lst b,e=>
  have e:=Zac e;subst e;cases Rep.aW rx;obtain⟨ta,rfl⟩:=ru;obtain⟨ab,xsb,rfl,hb,_⟩:=ry.bJ;cases rv;obtain⟨_,_,pb,_⟩:=I.list hb;exact⟨SeqAt.RcAt.int_list _ _ pb.isList hu0,SeqAt.EqAt.int_list _ _ pb.isList hu0,SeqAt.RcNeAt.int_list _ _ pb.isList hu0⟩
 |.lst a,.str b,e=>
  have e:=Zac e;subst e;obtain⟨aa,xsa,rfl,ha,_⟩:=rx.bJ;cases ru;obtain⟨_,_,pa,_⟩:=I.list ha;cases Rep.bG ry;obtain⟨tb,rfl⟩:=rv;exact⟨SeqAt.RcAt.list_str _ _ pa.isList hu0,SeqAt.EqAt.list_str _ _ pa.isList hu0,SeqAt.RcNeAt.list_str _ _ pa.isList hu0⟩
 |.str a,.lst b,e=>
  have e:=Zac e;subst e;cases Rep.bG rx;obtain⟨ta,rfl⟩:=ru;obtain⟨ab,xsb,rfl,hb,_⟩:=ry.bJ;cases rv;obtain⟨_,_,pb,_⟩:=I.list hb;exact⟨SeqAt.RcAt.str_list _ _ pb.isList hu0,SeqAt.EqAt.str_list _ _ pb.isList hu0,SeqAt.RcNeAt.str_list _ _ pb.isList hu0⟩
 |.lst a,.tup b,e=>
  have e:=Zac e;subst e;obtain⟨aa,xsa,rfl,ha,_⟩:=rx.bJ;cases ru;obtain⟨_,_,pa,_⟩:=I.list ha;obtain⟨ab,xsb,rfl,hb,_⟩:=ry.bK;cases rv;obtain⟨_,_,pb,_⟩:=I.tuple hb;exact⟨SeqAt.RcAt.list_tuple pa.isList pb hu0,SeqAt.EqAt.list_tuple pa.isList pb hu0,SeqAt.RcNeAt.list_tuple pa.isList pb hu0⟩
 |.tup a,.lst b,e=>
  have e:=Zac e;subst e;obtain⟨aa,xsa,rfl,ha,_⟩:=rx.bK;cases ru;obtain⟨_,_,pa,_⟩:=I.tuple ha;obtain⟨ab,xsb,rfl,hb,_⟩:=ry.bJ;cases rv;obtain⟨_,_,pb,_⟩:=I.list hb;exact⟨SeqAt.RcAt.tuple_list pa pb.isList hu0,SeqAt.EqAt.tuple_list pa pb.isList hu0,SeqAt.RcNeAt.tuple_list pa pb.isList hu0⟩
def DQ:PV->PV->Bool
 |.tup _,.tup _=>true
 |.lst _,.lst _=>true
 |_,_=>false
theorem DR{n:Nat}{p q:PV}(h:DQ p q=false):eqF (n+1) p q=eqF 0 p q:=by
 cases p<;>cases q<;>first|rfl|cases h
theorem Bu:∀ {p q:PV},DQ p q=true->(∃ l m,p=.tup l/\q=.tup m)\/∃ l m,p=.lst l/\q=.lst m
 |.tup l,q,h=>by
  cases q with
  |tup m=>exact .inl ⟨l,m,rfl,rfl⟩
  |_=>cases h
 |.lst l,q,h=>by
  cases q with
  |lst m=>exact .inr ⟨l,m,rfl,rfl⟩
  |_=>cases h
theorem DW(I:Inv X pins O H s):∀ (n:Nat) {A:Around}{x y:V}{p q:PV}{r:Bool}{u v:Value},A.units+n<cLine->eqF n p q=some r->Rep X.K H x p->Rep X.K H y q->RelV x u->RelV y v ->
  SeqAt.RcAt A s u v r/\SeqAt.EqAt A s u v r/\SeqAt.RcNeAt A s u v (!r):=by
 intro n;induction n with
 |zero=>exact λhu e=>DP I (by lia) e
 |succ n ih=>
  intro A x y p q r u v hu e rx ry ru rv;have hu0:A.units<cLine:=by lia
  cases hr:DQ p q with
  |false=>exact DP I hu0 (by rw[<-DR hr];exact e) rx ry ru rv
  |true=>
  rcases Bu hr with⟨l,m,rfl,rfl⟩|⟨l,m,rfl,rfl⟩
  ·have e:eqL (eqF n) l m=some r:=e;obtain⟨a,xs,rfl,ha,r1⟩:=rx.bK;obtain⟨b,ys,rfl,hb,r2⟩:=ry.bK;cases ru;cases rv;obtain⟨i1,v1,t1,_⟩:=I.tuple ha;obtain⟨i2,v2,t2,_⟩:=I.tuple hb;obtain⟨g,g1,g2⟩:=uH e;have hj:∀ j (h1:j<i1.toArray.size) (h2:j<i2.toArray.size),SeqAt.EqAt A.in1 s i1.toArray[j] i2.toArray[j] (g j):=λj h1 h2=>by
    obtain⟨x,hx,rx'⟩:=mF v1 h1;obtain⟨y,hy,ry'⟩:=mF v2 h2;obtain⟨p',hp,rp⟩:=r1.got hx;obtain⟨q',hq,rq⟩:=r2.got hy;exact(ih (A:=A.in1) (show A.units+1+n<cLine by lia) (g1 j p' q' hp hq) rp rq rx' ry').2.1
   have rc:=SeqAt.RcAt.tuples (A:=A) (e:=g) t1 t2 hu0 hj;have rn:=SeqAt.RcNeAt.tuples (A:=A) (e:=g) t1 t2 hu0 hj;rw[List.size_toArray,List.size_toArray,<-v1.length,<-v2.length,r1.1,r2.1,<-g2] at rc rn;refine⟨rc,?_,rn⟩;by_cases hab:a=b
   ·subst hab;have epq:PV.tup l=PV.tup m:=Rep.inj I rx ry;cases epq;have er:=jP (wk n) e;subst er;exact SeqAt.EqAt.same _
   ·exact .of_refs hab rc
  ·obtain⟨a,xs,rfl,ha,r1⟩:=rx.bJ;obtain⟨b,ys,rfl,hb,r2⟩:=ry.bJ;cases ru;cases rv;obtain⟨i1,v1,t1,_⟩:=I.list ha;obtain⟨i2,v2,t2,_⟩:=I.list hb;have e:(if l.length=m.length then eqL (eqF n) l m else some false)=some r:=e;split at e
   ·rename_i hlm;obtain⟨g,g1,g2⟩:=uH e;have hz:i1.toArray.size=i2.toArray.size:=by rw[List.size_toArray,List.size_toArray,<-v1.length,<-v2.length,r1.1,r2.1];exact hlm
    have hj:∀ j (h1:j<i1.toArray.size) (h2:j<i2.toArray.size),SeqAt.EqAt A.in1 s i1.toArray[j] i2.toArray[j] (g j):=λj h1 h2=>by
     obtain⟨x,hx,rx'⟩:=mF v1 h1;obtain⟨y,hy,ry'⟩:=mF v2 h2;obtain⟨p',hp,rp⟩:=r1.got hx;obtain⟨q',hq,rq⟩:=r2.got hy;exact(ih (A:=A.in1) (show A.units+1+n<cLine by lia) (g1 j p' q' hp hq) rp rq rx' ry').2.1
    have rc:=SeqAt.RcAt.lists (A:=A) (e:=g) t1.isList t2.isList hz hu0 hj;have e2:r=(List.range l.length).all g:=by rw[g2,<-hlm,Nat.min_self,beq_self_eq_true,Bool.and_true]
    have rn:=SeqAt.RcNeAt.lists (A:=A) (e:=g) t1.isList t2.isList hz hu0 hj;rw[List.size_toArray,<-v1.length,r1.1,<-e2] at rc rn;refine⟨rc,?_,rn⟩;by_cases hab:a=b
    ·subst hab;have epq:PV.lst l=PV.lst m:=Rep.inj I rx ry;cases epq;have er:=jP (wk n) e;subst er;exact SeqAt.EqAt.same _
    ·exact .of_refs hab rc
   ·rename_i hlm;cases e;have hz:(i1.toArray.size != i2.toArray.size)=true:=by rw[List.size_toArray,List.size_toArray,<-v1.length,<-v2.length,r1.1,r2.1];simpa using hlm
    have rc:=SeqAt.RcAt.lists_lengths (A:=A) t1.isList t2.isList hz hu0;have hab:a≠b:=λz=>by
     subst z;have epq:PV.lst l=PV.lst m:=Rep.inj I rx ry;cases epq;exact hlm rfl
    exact⟨rc,.of_refs hab rc,SeqAt.RcNeAt.lists_lengths (A:=A) t1.isList t2.isList hz hu0⟩
end
section
variable{X:Cx}{k:Nat}
theorem OpR.or{f:Value->Value->Sem Value}{r r':R2}(h:OpR X f r)(h':OpR X f r'):OpR X f (λx y H Q=>r x y H Q\/r' x y H Q):=by
 intro pins s O H x y v u Q I rx ry q;rcases q with q|q
 ·exact h pins s O H x y v u Q I rx ry q
 ·exact h' pins s O H x y v u Q I rx ry q
def KQ(K:Frag):R2:=λx y H Q=>∃ p q r,Rep K H x p/\Rep K H y q/\eqF 32 p q=some r/\Q (.bl r) H
def Mw(K:Frag):R2:=λx y H Q=>∃ p q r,Rep K H x p/\Rep K H y q/\eqF 32 p q=some r/\Q (.bl (!r)) H
theorem lO(hr:cz k X.A):OpR X (compareOp .Eq) (KQ X.K):=by
 intro pins s O H x y v u Q I rx ry h;obtain⟨p,q,r,h1,h2,e,h3⟩:=h;exact(DW I 32 (yu hr) e h1 h2 rx ry).1 X.prog X.w X.xe _ ⟨.bl r,H,I,rfl,h3⟩
theorem qw(hr:cz k X.A):OpR X (compareOp .NotEq) (Mw X.K):=by
 intro pins s O H x y v u Q I rx ry h;obtain⟨p,q,r,h1,h2,e,h3⟩:=h;exact(DW I 32 (yu hr) e h1 h2 rx ry).2.2 X.prog X.w X.xe _ ⟨.bl (!r),H,I,rfl,h3⟩
def inF(p:PV):List PV->Option Bool
 |[]=>some false
 |x::xs=>match eqF 31 x p,inF p xs with
  |some a,some b=>some (a||b)
  |_,_=>none
theorem zJ{p:PV}:∀ {l:List PV}{r:Bool},inF p l=some r->∃ e:Nat->Bool,(∀ (j:Nat) x,l[j]?=some x->eqF 31 x p=some (e j))/\r=(List.range l.length).any e
 |[],r,h=>⟨λ_=>true,λj x a=>by simp at a,by cases h;rfl⟩
 |x::xs,r,h=>by
  rw[inF] at h;split at h
  ·rename_i a b h1 h2;cases h;obtain⟨e,e1,e2⟩:=zJ h2;refine⟨λj=>match j with|0=>a|j+1=>e j,λj x' a'=>?_,?_⟩
   ·cases j with
    |zero=>simp at a';subst a';exact h1
    |succ j=>exact e1 j x' (by simpa using a')
   ·rw[e2,ZaJ,List.range_succ_eq_map,Zbx,List.any_map];rfl
  ·cases h
def Mx(K:Frag)(neg:Bool):R2:=λx y H Q=>∃ p l r,Rep K H x p/\(Rep K H y (.lst l)\/Rep K H y (.tup l))/\inF p l=some r/\Q (.bl (if neg=true then !r else r)) H
theorem ww{pins:List (Addr×Obj)}{O:St}{H:Hp}{s:Shared}(I:Inv X pins O H s)(hr:cz k X.A){x:V}{v:Value}{p:PV}{xs:List V}{its:List Value}{l:List PV}{r:Bool}(rx:RelV x v)(h1:Rep X.K H x p)(rv:Vals xs its)(hl:aZ X.K H xs l)(e:inF p l=some r) :
  ∃ f:Value->Bool,(∀ y,y∈its.toArray->SeqAt.EqAt X.A.in1 s y v (f y))/\its.toArray.any f=r:=by
 obtain⟨g,g1,g2⟩:=zJ e;have key:∀ w'∈its,∃ j,∃ hj:j<its.length,its[j]=w':=λw' hw=>by
  obtain⟨j,hj,e⟩:=List.mem_iff_getElem.mp hw;exact⟨j,hj,e⟩
 have look:∀ (j:Nat) (hj:j<its.length),∃ z q,l[j]?=some q/\RelV z its[j]/\Rep X.K H z q/\eqF 31 q p=some (g j):=λj hj=>by
  obtain⟨z,hz,rz⟩:=mF rv (j:=j) (by simpa using hj)
  obtain⟨q,hq,rq⟩:=hl.got hz;exact⟨z,q,hq,by simpa using rz,rq,g1 j q hq⟩
 classical
 let f:Value->Bool:=λw'=>if h:∃ j,∃ hj:j<its.length,its[j]=w' then g (Classical.choose h) else false
 have fe:∀ (j:Nat) (hj:j<its.length),f its[j]=g j:=λj hj=>by
  have hx:∃ i,∃ hi:i<its.length,its[i]=its[j]:=⟨j,hj,rfl⟩;show(if h:∃ i,∃ hi:i<its.length,its[i]=its[j] then g (Classical.choose h) else false)=g j
  rw[dif_pos hx];obtain⟨h1',h2'⟩:=Classical.choose_spec hx;generalize Classical.choose hx=i at h1' h2' ⊢
  obtain⟨z,q,_,rz,rq,eq1⟩:=look i h1';obtain⟨z',q',_,rz',rq',eq2⟩:=look j hj;rw[h2'] at rz;cases rz.inj rz';cases Rep.inj I rq rq';rw[eq1] at eq2;exact Zac eq2
 refine⟨f,λy hy=>?_,?_⟩
 ·obtain⟨j,hj,e1⟩:=key y (by simpa using hy)
  obtain⟨z,q,_,rz,rq,eq1⟩:=look j hj;rw[<-e1,fe j hj];exact(DW I 31 (A:=X.A.in1) (show X.A.units+1+31<cLine by have:=yu hr;lia) eq1 rq h1 rz rx).2.1
 ·have hlen:its.length=l.length:=by rw[<-rv.length,hl.1]
  rw[g2,show its.toArray.any f=its.any f by simp,Zca,Zb4,Zb4]
  constructor
  ·rintro⟨w',hw,hf⟩;obtain⟨j,hj,e1⟩:=key w' hw;exact⟨j,ZaI.mpr (by lia),by rw[<-fe j hj,e1];exact hf⟩
  ·rintro⟨j,hj,hf⟩;have hj':j<its.length:=by rw[hlen];exact ZaI.mp hj
   exact⟨its[j],Zbo hj',by rw[fe j hj'];exact hf⟩
theorem Bv(hr:cz k X.A):OpR X (compareOp .NotIn) (Mx X.K true):=by
 intro pins s O H x y v u Q I rx ry h;obtain⟨p,l,r,h1,h2,e,q⟩:=h;rcases h2 with h2|h2
 ·obtain⟨a,xs,rfl,hq,rr⟩:=h2.bJ;cases ry;obtain⟨its,rv,pl,_⟩:=I.list hq;obtain⟨f,f1,f2⟩:=ww I hr rx h1 rv rr e;exact SeqAt.notIn_listAt f pl.isList f1 (by rw[f2];exact⟨.bl _,H,I,rfl,q⟩)
 ·obtain⟨a,xs,rfl,hq,rr⟩:=h2.bK;cases ry;obtain⟨its,rv,pl,_⟩:=I.tuple hq;obtain⟨f,f1,f2⟩:=ww I hr rx h1 rv rr e;exact SeqAt.notIn_tupleAt f pl f1 (by rw[f2];exact⟨.bl _,H,I,rfl,q⟩)
def uJ(K:Frag):R2:=λx y H Q=>Mx K true x y H Q\/∃ i j,x=.str i/\y=.str j/\Q (.bl (!(!(Builtin.Str.occurrences j i 0 j.length 1).isEmpty))) H
theorem Bw(hr:cz k X.A):OpR X (compareOp .NotIn) (uJ X.K):=OpR.or (Bv hr) uv
def DX(K:Frag):R2:=λx y H Q=>rI0 (λi j=>.int (i+j)) x y H Q\/(∃ i j,x=.str i/\y=.str j/\i.length+j.length<=sizeLine/\Q (.str (i++j)) H)\/Jw K x y H Q
theorem d7:OpR X (binaryOp .Add) (DX X.K):=OpR.or Kg (OpR.or yp GK)
def My:R2:=λx y H Q=>rI0 (λi j=>.bl (decide (i<j))) x y H Q\/∃ i j,x=.str i/\y=.str j/\Q (.bl (decide (i.cps.toList<j.cps.toList))) H
theorem DY:OpR X (compareOp .Lt) My:=OpR.or Ma Bc
end
theorem noS{α:Type}{r:α}{C:Prop}(e:(none:Option α)=some r):C:=by cases e
def opI(c:Int->Int->Bool)(f:Int->Int->PV):PV->PV->Option (Res PV)
 |.int i,.int j=>if c i j=true then some (.ok (f i j)) else none
 |_,_=>none
def cT:Int->Int->Bool:=λ_ _=>true
def KR:Int->Int->Bool:=λ_ j=>decide (0<j/\j<1073741824)
def Mz:Int->Int->Bool:=λ_ j=>decide (0<j)
def Ea:Int->Int->Bool:=λi j=>decide (0<=j/\j<=1000000/\i.natAbs<2^64)
def MF:Int->Int->Bool:=λ_ j=>decide (0<=j)
def tO:=opI cT λi j=>.int (i-j)
def o7:=opI KR λi j=>.int (i/j)
def gM:=opI Mz λi j=>.int (i%j)
def tQ:=opI Ea λi j=>.int (i^j.toNat)
def wy:=opI Ea λi j=>.int (i*2^j.toNat)
def wz:=opI MF λi j=>.int (i/2^j.toNat)
def zK:=opI cT λi j=>.int (Builtin.bitAnd i j)
def Hk:=opI cT λi j=>.int (Builtin.bitOr i j)
def Hl:=opI cT λi j=>.bl (decide (j<=i))
def fV:PV->PV->Option (Res PV)
 |.int i,.int j=>some (.ok (.int (i+j)))
 |.str i,.str j=>if i.length+j.length<=sizeLine then some (.ok (.str (i++j))) else none
 |.tup l,.tup m=>if l≠[]/\l.length+m.length<=sizeLine then some (.ok (.tup (l++m))) else none
 |_,_=>none
def Eb:PV->PV->Option (Res PV)
 |.int i,.int j=>some (.ok (.bl (decide (i<j))))
 |.str i,.str j=>some (.ok (.bl (decide (i.cps.toList<j.cps.toList))))
 |_,_=>none
def mQ(p q:PV):Option (Res PV):=match eqF 32 p q with
 |some r=>some (.ok (.bl r))
 |none=>none
def pD(p q:PV):Option (Res PV):=match eqF 32 p q with
 |some r=>some (.ok (.bl (!r)))
 |none=>none
def inU(p:PV):PV->Option Bool
 |.lst l=>inF p l
 |.tup l=>inF p l
 |.str j=>match p with
  |.str i=>some (!(Builtin.Str.occurrences j i 0 j.length 1).isEmpty)
  |_=>none
 |_=>none
def kE(p q:PV):Option (Res PV):=match inU p q with
 |some r=>some (.ok (.bl (!r)))
 |none=>none
def PV.tR:PV->Bool
 |.non=>true
 |_=>false
def yC(p q:PV):Option (Res PV):=match q with
 |.non=>some (.ok (.bl (!p.tR)))
 |_=>none
def ofO(x:Option PV):Option (Res PV):=match x with
 |some p=>some (.ok p)
 |none=>none
def jQ:PV->PV->Option (Res PV)
 |.lst l,.int i=>ofO (atI l i)
 |.tup l,.int i=>ofO (atI l i)
 |.str z,.int i=>if z.length<=sizeLine then ofO ((atI z.cps.toList i).map λc=>.str ⟨#[c]⟩) else none
 |_,_=>none
def qx:List PV->PV->Option (Res PV)
 |l,.int i=>ofO (atI l i)
 |_,_=>none
section
variable{K:Frag}{C:Cg}{F H:Hp}
theorem MK{i j:Int}(h:KR i j=true):Kf i j:=of_decide_eq_true (p:=0<j/\j<1073741824) h
theorem JF{i j:Int}(h:Ea i j=true):Di i j:=of_decide_eq_true (p:=0<=j/\j<=1000000/\i.natAbs<2^64) h
theorem tU{c:Int->Int->Bool}{f:Int->Int->PV}{cond:Int->Int->Prop}{fv:Int->Int->V}(hc:∀ i j,c i j=true->cond i j)(hf:∀ i j F,Rep K F (fv i j) (f i j)):R2M C (aF K) (aF K) (aF K) (rI cond fv) (opI c f):=by
 intro F H x y a b res Q s ha hb e P;have inv:(∃ i j,a=.int i/\b=.int j):=by
  clear P ha hb
  cases a<;>first|exact noS e|(cases b<;>first|exact noS e|exact⟨_,_,rfl,rfl⟩)
 obtain⟨i,j,rfl,rfl⟩:=inv;cases Rep.aW ha;cases Rep.aW hb;have e:(if c i j=true then some (Res.ok (f i j)) else none)=some res:=e;split at e
 ·rename_i h;cases e;exact⟨i,j,rfl,rfl,hc i j h,P _ F H (Up.refl s) (hf i j F)⟩
 ·cases e
theorem uK{f:Int->Int->PV}{fv:Int->Int->V}(hf:∀ i j F,Rep K F (fv i j) (f i j)):R2M C (aF K) (aF K) (aF K) (rI0 fv) (opI cT f):=by
 intro F H x y a b res Q s ha hb e P;have inv:(∃ i j,a=.int i/\b=.int j):=by
  clear P ha hb
  cases a<;>first|exact noS e|(cases b<;>first|exact noS e|exact⟨_,_,rfl,rfl⟩)
 obtain⟨i,j,rfl,rfl⟩:=inv;cases Rep.aW ha;cases Rep.aW hb;cases e;exact⟨i,j,rfl,rfl,P _ F H (Up.refl s) (hf i j F)⟩
theorem Ec:R2M C (aF K) (aF K) (aF K) (rI0 λi j=>.int (i-j)) tO:=uK λ_ _ _=>.int
theorem wA:R2M C (aF K) (aF K) (aF K) (rI Kf λi j=>.int (i/j)) o7:=tU (λ_ _ h=>MK h) λ_ _ _=>.int
theorem jx:R2M C (aF K) (aF K) (aF K) (rI (λ_ j=>0<j) λi j=>.int (i%j)) gM:=tU (λ_ _ h=>of_decide_eq_true h) λ_ _ _=>.int
theorem Ed:R2M C (aF K) (aF K) (aF K) (rI Di λi j=>.int (i^j.toNat)) tQ:=tU (λ_ _ h=>JF h) λ_ _ _=>.int
theorem JG:R2M C (aF K) (aF K) (aF K) (rI Di λi j=>.int (i*2^j.toNat)) wy:=tU (λ_ _ h=>JF h) λ_ _ _=>.int
theorem JH:R2M C (aF K) (aF K) (aF K) (rI (λ_ j=>0<=j) λi j=>.int (i/2^j.toNat)) wz:=tU (λ_ _ h=>of_decide_eq_true h) λ_ _ _=>.int
theorem MN:R2M C (aF K) (aF K) (aF K) (rI0 λi j=>.int (Builtin.bitAnd i j)) zK:=uK λ_ _ _=>.int
theorem NB:R2M C (aF K) (aF K) (aF K) (rI0 λi j=>.int (Builtin.bitOr i j)) Hk:=uK λ_ _ _=>.int
theorem NK:R2M C (aF K) (aF K) (aF K) (rI0 λi j=>.bl (decide (j<=i))) Hl:=uK λ_ _ _=>.bl
theorem jy:R2M C (aF K) (aF K) (aF K) (DX K) fV:=by
 intro F H x y a b res Q s ha hb e P;have inv:(∃ i j,a=.int i/\b=.int j)\/(∃ i j,a=.str i/\b=.str j)\/(∃ l m,a=.tup l/\b=.tup m):=by
  clear P ha hb
  cases a<;>first|exact noS e|(cases b<;>first|exact noS e|exact .inl ⟨_,_,rfl,rfl⟩|exact .inr (.inl ⟨_,_,rfl,rfl⟩)|exact .inr (.inr ⟨_,_,rfl,rfl⟩))
 rcases inv with⟨i,j,rfl,rfl⟩|⟨i,j,rfl,rfl⟩|⟨l,m,rfl,rfl⟩
 ·cases Rep.aW ha;cases Rep.aW hb;cases e;exact .inl ⟨i,j,rfl,rfl,P _ F H (Up.refl s) .int⟩
 ·cases Rep.bG ha;cases Rep.bG hb;have e:(if i.length+j.length<=sizeLine then some (Res.ok (PV.str (i++j))) else none)=some res:=e;split at e
  ·rename_i h;cases e;exact .inr (.inl ⟨i,j,rfl,rfl,h,P _ F H (Up.refl s) .str⟩)
  ·cases e
 ·have e:(if l≠[]/\l.length+m.length<=sizeLine then some (Res.ok (PV.tup (l++m))) else none)=some res:=e;split at e
  ·rename_i h;cases e;obtain⟨a1,xs,rfl,h1,r1⟩:=Rep.bK ha;obtain⟨a2,ys,rfl,h2,r2⟩:=Rep.bK hb;have hx:xs≠[]:=λz=>h.1 (by have:=r1.1;rw[z] at this;simpa using this.symm)
   refine .inr (.inr ⟨a1,a2,xs,ys,rfl,rfl,s.tup h1,s.tup h2,hx,by rw[r1.1,r2.1];exact h.2,λz=>?_,λ_ p hp=>?_⟩)
   ·subst z;have hm:m=[]:=by have:=r2.1;simpa using this.symm
    subst hm;rw[ZaX] at P;exact P _ F H (Up.refl s) ha
   ·have un:=Up.new (o:=.tup (xs++ys)) s hp;exact P _ _ _ un (.tup aq (r1.append r2).1 ((r1.append r2).up un.ff).2)
  ·cases e
theorem M3:R2M C (aF K) (aF K) (aF K) My Eb:=by
 intro F H x y a b res Q s ha hb e P;have inv:(∃ i j,a=.int i/\b=.int j)\/(∃ i j,a=.str i/\b=.str j):=by
  clear P ha hb
  cases a<;>first|exact noS e|(cases b<;>first|exact noS e|exact .inl ⟨_,_,rfl,rfl⟩|exact .inr ⟨_,_,rfl,rfl⟩)
 rcases inv with⟨i,j,rfl,rfl⟩|⟨i,j,rfl,rfl⟩
 ·cases Rep.aW ha;cases Rep.aW hb;cases e;exact .inl ⟨i,j,rfl,rfl,P _ F H (Up.refl s) .bl⟩
 ·cases Rep.bG ha;cases Rep.bG hb;cases e;exact .inr ⟨i,j,rfl,rfl,P _ F H (Up.refl s) .bl⟩
theorem yD:R2M C (aH K) (aH K) (aF K) (KQ K) mQ:=by
 intro F H x y a b res Q s ha hb e P;unfold mQ at e;split at e
 ·rename_i r h;cases e;exact⟨a,b,r,ha,hb,h,P _ F H (Up.refl s) .bl⟩
 ·cases e
theorem Ef:R2M C (aH K) (aH K) (aF K) (Mw K) pD:=by
 intro F H x y a b res Q s ha hb e P;unfold pD at e;split at e
 ·rename_i r h;cases e;exact⟨a,b,r,ha,hb,h,P _ F H (Up.refl s) .bl⟩
 ·cases e
theorem Hm:R2M C (aH K) (aH K) (aF K) (uJ K) kE:=by
 intro F H x y a b res Q s ha hb e P;unfold kE at e;split at e
 ·rename_i r h;cases e
  match b,h with
  |.lst l,h=>exact .inl ⟨a,l,r,ha,.inl hb,h,P _ F H (Up.refl s) .bl⟩
  |.tup l,h=>exact .inl ⟨a,l,r,ha,.inr hb,h,P _ F H (Up.refl s) .bl⟩
  |.str j,h=>
   match a,h with
   |.str i,h=>
    cases h;exact .inr ⟨i,j,Rep.bG ha,Rep.bG hb,P _ F H (Up.refl s) .bl⟩
 ·cases e
theorem Eg{v:V}{p:PV}(h:Rep K F v p):decide (v=.non)=p.tR:=by
 cases h<;>first|rfl|exact decide_eq_false (by intro z;cases z)
theorem KY:R2M C (aH K) (aF K) (aF K) (λx y H Q=>y=.non/\Q (.bl (!decide (x=.non))) H) yC:=by
 intro F H x y a b res Q s ha hb e P
 match b,e with
 |.non,e=>
  cases e;rw[Eg ha];exact⟨Rep.dg hb,P _ F H (Up.refl s) .bl⟩
theorem uL{xs:List V}{l:List PV}{i:Int}{p:PV}(r:aZ K F xs l)(h:atI l i=some p):∃ v,atI xs i=some v/\Rep K F v p:=by
 unfold atI at h ⊢;rw[r.1];cases e:ixN l.length i with
 |none=>rw[e] at h;cases h
 |some j=>
  rw[e] at h;exact r.get h
theorem mR{x:Option PV}{res:Res PV}(h:ofO x=some res):∃ p,x=some p/\res=.ok p:=by
 cases x with
 |none=>cases h
 |some p=>cases h;exact⟨p,rfl,rfl⟩
theorem oA:R2M C (aF K) (aF K) (aF K) (rIx K) jQ:=by
 intro F H x y a b res Q s ha hb e P;have inv:(∃ l i,a=.lst l/\b=.int i)\/(∃ l i,a=.tup l/\b=.int i)\/(∃ z i,a=.str z/\b=.int i):=by
  clear P ha hb
  cases a<;>first|exact noS e|(cases b<;>first|exact noS e|exact .inl ⟨_,_,rfl,rfl⟩|exact .inr (.inl ⟨_,_,rfl,rfl⟩)|exact .inr (.inr ⟨_,_,rfl,rfl⟩))
 rcases inv with⟨l,i,rfl,rfl⟩|⟨l,i,rfl,rfl⟩|⟨z,i,rfl,rfl⟩
 ·cases Rep.aW hb;obtain⟨p,e1,rfl⟩:=mR e;obtain⟨a1,xs,rfl,h1,r1⟩:=Rep.bJ ha;obtain⟨v,e2,rv⟩:=uL r1 e1;exact .inl ⟨a1,xs,i,v,rfl,rfl,s.seq h1,e2,P _ F H (Up.refl s) rv⟩
 ·cases Rep.aW hb;obtain⟨p,e1,rfl⟩:=mR e;obtain⟨a1,xs,rfl,h1,r1⟩:=Rep.bK ha;obtain⟨v,e2,rv⟩:=uL r1 e1;exact .inr (.inl ⟨a1,xs,i,v,rfl,rfl,s.tup h1,e2,P _ F H (Up.refl s) rv⟩)
 ·cases Rep.aW hb;cases Rep.bG ha;have e:(if z.length<=sizeLine then ofO ((atI z.cps.toList i).map λc=>PV.str ⟨#[c]⟩) else none)=some res:=e;split at e
  ·rename_i hz;obtain⟨p,e1,rfl⟩:=mR e;cases e2:atI z.cps.toList i with
   |none=>rw[e2] at e1;cases e1
   |some c=>
    rw[e2] at e1;cases e1;exact .inr (.inr ⟨z,i,c,rfl,rfl,hz,e2,P _ F H (Up.refl s) .str⟩)
  ·cases e
theorem wB:R2M C (aV K) (aF K) (aF K) (rIx K) qx:=by
 intro F H x y a b res Q s ha hb e P
 match b,e with
 |.int i,e=>
  cases Rep.aW hb;obtain⟨p,e1,rfl⟩:=mR e;obtain⟨a1,xs,rfl,h1,r1⟩:=ha;obtain⟨v,e2,rv⟩:=uL r1 e1;exact .inl ⟨a1,xs,i,v,rfl,rfl,h1,e2,P _ F H (Up.refl s) rv⟩
variable{te:TE}
def MP'(K:Frag)(C:Cg)(t:TO)(f:Fn (Option Int)):Prop:=
 ∀ F H O Z Q r,RE K C.toCf F H O Z->f Z=some r->Pr C F (λo=>∀ F' H',Up F H F' H'->Q o H') r->t O H Q
def mPn:Fn (Option Int):=λ_=>some (.ok none)
def asInt:PV->Option (Res (Option Int))
 |.int i=>some (.ok (some i))
 |_=>none
theorem zL:MP' K C zy mPn:=λF H O Z Q r R e P=>by
 cases e;exact P F H (Up.refl R.rb.sub)
theorem Hn{f:Fn PV}(h:MJ K C (aF K) te f):MP' K C (Jv te) (m1 asInt f):=by
 intro F H O Z Q r R e P;refine h.run R e P λp v F1 H1 hk u a=>?_
 match p,hk with
 |.int i,hk=>
  cases Rep.aW a;cases hk;exact⟨i,rfl,P F1 H1 u⟩
theorem MP'.run{β:Type}{t:TO}{f:Fn (Option Int)}{O:St}{Z:Rho}{Q:Option Int->Hp->Prop}{ok:β->Prop}{k:Option Int->Option (Res β)}{r:Res β}(h:MP' K C t f)(R:RE K C.toCf F H O Z)(hb:bnd (f Z) k=some r)(P:Pr C F ok r)
  (go:∀ o F1 H1,k o=some r->Up F H F1 H1->Q o H1):t O H Q:=by
 rcases bj hb with⟨z,e,rfl⟩|⟨p,e,hk⟩
 ·exact h F H O Z Q _ R e P
 ·exact h F H O Z Q _ R e λF1 H1 u=>go p F1 H1 hk u
end
def JK(K:Frag)(tl:TE):TI:=λO H R=>tl O H λx H1=>(∃ a,x=.ref a/\(∃ xs,SqL K H1 a xs)/\R (Itl K a) H1)\/(∃ a,x=.ref a/\(∃ xs,SqT K H1 a xs)/\R (Itt K a) H1)\/∃ z,x=.str z/\R (Itf (sgn z) z.cps.size) H1
theorem zM{X:Cx}{tg l:Expr}{tl:TE}(hl:PE X l tl):PI X tg l (JK X.K tl):=by
 intro pins s O H R I h;refine thn (hl pins s O H _ I h) ?_;rintro v s1 ⟨x,H1,I1,r1,q1⟩;have keep:∀ (o:Obj),Inv X pins O H1 { s1 with heap:=s1.heap.push o }:=λo=>I1.kept (t':=s1.toks) λb ob e=>Zae _ e;have fp:∀ b∈[s1.heap.objs.size],lK X pins H1 b:=λb hb=>by
  have e:b=s1.heap.objs.size:=by simpa using hb
  subst e;exact I1.ut (Zal _) (I1.hok.fresh (Zal _))
 rcases q1 with⟨a,rfl,⟨xs,hq⟩,q⟩|⟨a,rfl,⟨xs,hq⟩,q⟩|⟨z,rfl,q⟩
 ·cases r1;obtain⟨its,rv,p,hz⟩:=I1.list hq;exact wpAny_pyIter_list p.isList ⟨_,[_],_,_,H1,rfl,keep _,Ba a _,⟨_,Zar _ rfl,rfl,rfl⟩,fp,q⟩
 ·cases r1;obtain⟨its,rv,p,hz⟩:=I1.tuple hq;exact wpAny_pyIter_tuple (show s1.heap.IsTuple a its.toArray from p) ⟨_,[_],_,_,H1,rfl,keep _,yg a _,⟨_,Zar _ rfl,rfl,rfl⟩,fp,q⟩
 ·obtain⟨t,rfl⟩:=r1;exact wpAny_pyIter_strU ⟨_,[_],_,_,H1,rfl,keep _,Dn _ z t,⟨_,Zar _ rfl,rfl,rfl⟩,fp,q⟩
section
variable{K:Frag}{C:Cg}{F H:Hp}{O:St}{Z:Rho}{te:TE}{tA:TA}{a:Addr}{xs:List V}{l:List PV}
def signs(z:Str):List PV:=z.cps.toList.map λc=>.str ⟨#[c]⟩
def tV:PV->Option (Res (List PV))
 |.lst l=>some (.ok l)
 |.tup l=>some (.ok l)
 |.str z=>some (.ok (signs z))
 |_=>none
theorem Eh(h:SqL K F a xs)(r:aZ K F xs l):ItR K (Itl K a) F l where
 stop:=λF' H' s s'=>⟨xs,(s.trans s').seq h,by rw[r.1];exact Zal _⟩
 go:=λi F' H' hi s s'=>⟨xs,xs[i]'(by rw[r.1];exact hi),(s.trans s').seq h,by simp⟩
 yld:=λi F' H' x H'' hi s s' y=>by
  obtain⟨rfl,y⟩:=y;have e:=y xs ((s.trans s').seq h);obtain⟨p,e2,rp⟩:=r.got e;exact⟨F',p,Up.refl s',e2,rp.up s⟩
theorem Ho(h:SqT K F a xs)(r:aZ K F xs l):ItR K (Itt K a) F l where
 stop:=λF' H' s s'=>⟨xs,(s.trans s').tup h,by rw[r.1];exact Zal _⟩
 go:=λi F' H' hi s s'=>⟨xs,xs[i]'(by rw[r.1];exact hi),(s.trans s').tup h,by simp⟩
 yld:=λi F' H' x H'' hi s s' y=>by
  obtain⟨rfl,y⟩:=y;have e:=y xs ((s.trans s').tup h);obtain⟨p,e2,rp⟩:=r.got e;exact⟨F',p,Up.refl s',e2,rp.up s⟩
theorem Hq(z:Str):ItR K (Itf (sgn z) z.cps.size) F (signs z) where
 stop:=λF' H' s s'=>by simp[signs,Itf]
 go:=λi F' H' hi s s'=>by simpa[signs,Itf] using hi
 yld:=λi F' H' x H'' hi s s' y=>by
  obtain⟨rfl,rfl⟩:=y;have hi':i<z.cps.size:=by simpa[signs] using hi
  refine⟨F',.str ⟨#[z.cps.getD i 0]⟩,Up.refl s',?_,.str⟩;unfold signs;rw[Zaf,Zb1,ZaH,ZaZ hi'];rfl
theorem zN{f:Fn PV}(h:MJ K C (aF K) te f):MI K C (JK K te) (m1 tV f):=by
 intro F H O Z R' r R e P;refine h.run R e P λp v F1 H1 hk u a=>?_
 match p,hk with
 |.lst l,hk=>
  cases hk;obtain⟨b,xs,rfl,h1,r1⟩:=Rep.bJ a;exact .inl ⟨b,rfl,⟨xs,u.fh.seq h1⟩,P _ F1 H1 u (Eh h1 r1)⟩
 |.tup l,hk=>
  cases hk;obtain⟨b,xs,rfl,h1,r1⟩:=Rep.bK a;exact .inr (.inl ⟨b,rfl,⟨xs,u.fh.tup h1⟩,P _ F1 H1 u (Ho h1 r1)⟩)
 |.str z,hk=>
  cases hk;cases Rep.bG a;exact .inr (.inr ⟨z,rfl,P _ F1 H1 u (Hq z)⟩)
def pF(lo:Int)(n:Nat):List PV:=(List.range n).map λ(i:Nat)=>.int (lo+(i:Int))
theorem ie(lo:Int)(n:Nat):(pF lo n).length=n:=by simp[pF]
theorem Hr(lo:Int)(n:Nat):ItR K (Itr lo n) F (pF lo n) where
 stop:=λF' H' s s'=>by rw[ie];exact Zal _
 go:=λi F' H' hi s s'=>by rw[ie] at hi;exact hi
 yld:=λi F' H' x H'' hi s s' y=>by
  obtain⟨rfl,rfl⟩:=y;rw[ie] at hi;refine⟨F',.int (lo+i),Up.refl s',?_,.int⟩;unfold pF;rw[Zaf,ZaU hi];rfl
def iz:List PV->Option (Res (List PV))
 |[.int j]=>if -(2^62)<=j/\j<2^62 then some (.ok (pF 0 j.toNat)) else none
 |_=>none
theorem ig{f:Fn (List PV)}(h:MA K C tA f):MI K C (Js tA) (m1 iz f):=by
 intro F H O Z R' r R e P;refine h.run R e P λl xs F1 H1 hk u a=>?_;have inv:∃ j,l=[.int j]:=by
  clear P u a
  rcases l with _|⟨x,_|⟨y,l⟩⟩<;>first|exact noS hk|(cases x<;>first|exact noS hk|exact⟨_,rfl⟩)
 obtain⟨j,rfl⟩:=inv;have hk:(if -(2^62)<=j/\j<2^62 then some (Res.ok (pF 0 j.toNat)) else none)=some r:=hk;split at hk
 ·rename_i hj;cases hk;obtain⟨v,ys,rfl,r1,r2⟩:=a.fH;cases r2.kh;cases Rep.aW r1;exact⟨j,rfl,hj.1,hj.2,P _ F1 H1 u (Hr 0 j.toNat)⟩
 ·cases hk
def NoO(Z:Rho):Prop:=∀ (j:Nat) q,Z[j]?≠some (some (.ow q))/\Z[j]?≠some (some (.dp q))
def Wr(T:List Nat)(tg:PV->Rho->Option Rho):Prop:=∀ x Z Z',tg x Z=some Z'->Z'.length=Z.length/\(∀ j,j ∉ T->Z'[j]?=Z[j]?)/\(NoO Z->NoO Z')
def WrS(T:List Nat)(tg:List PV->Rho->Option Rho):Prop:=∀ x Z Z',tg x Z=some Z'->Z'.length=Z.length/\(∀ j,j ∉ T->Z'[j]?=Z[j]?)/\(NoO Z->NoO Z')
theorem jh(i:Nat):Wr [i] (gN i):=λx Z Z' e=>by
 cases e;refine⟨by simp,λj hj=>?_,λh j q=>⟨λe=>?_,λe=>?_⟩⟩
 ·rw[Zam (by simpa using Zbm (by simpa using hj))]
 ·rcases get_set e with⟨_,e2⟩|⟨_,e2⟩
  ·cases e2
  ·exact(h j q).1 e2
 ·rcases get_set e with⟨_,e2⟩|⟨_,e2⟩
  ·cases e2
  ·exact(h j q).2 e2
theorem Hs:WrS [] gsNil:=λx Z Z' e=>by
 cases x with
 |nil=>cases e;exact⟨rfl,λ_ _=>rfl,λh=>h⟩
 |cons p l=>cases e
theorem wC{T U:List Nat}{t:PV->Rho->Option Rho}{u:List PV->Rho->Option Rho}(h:Wr T t)(hs:WrS U u):WrS (T++U) (gsCons t u):=λx Z Z' e=>by
 cases x with
 |nil=>cases e
 |cons p l=>
  have e:(match t p Z with
   |some Z'=>u l Z'
   |none=>none)=some Z':=e
  split at e
  ·rename_i Z1 h1;obtain⟨a1,a2,a3⟩:=h p Z Z1 h1;obtain⟨b1,b2,b3⟩:=hs l Z1 Z' e;exact⟨b1.trans a1,λj hj=>(b2 j λz=>hj (Zan _ z)).trans (a2 j λz=>hj (Zbk _ z)),λz=>b3 (a3 z)⟩
  ·cases e
theorem KZ{n:Nat}{U:List Nat}{u:List PV->Rho->Option Rho}(hs:WrS U u):Wr U (gT n u):=λx Z Z' e=>by
 unfold gT at e;split at e
 ·split at e
  ·exact hs _ Z Z' e
  ·cases e
 ·cases e
def shOnly:Option Sl->Option Sl
 |some (.sh p)=>some (.sh p)
 |_=>none
def frR(fr:List (Option Nat))(Z:Rho):Rho:=fr.map λo=>match o with
 |some i=>match Z[i]? with
  |some v=>shOnly v
  |none=>none
 |none=>none
def d8(tg:PV->Rho->Option Rho)(tst:Fn Bool)(el:Fn PV)(Zb:Rho):List PV->Option (Res (List PV))
 |[]=>some (.ok [])
 |x::xs=>match tg x Zb with
  |none=>none
  |some Z1=>bnd (tst Z1) λb=>if b=true then bnd (el Z1) λp=>bnd (d8 tg tst el Zb xs) λr=>some (.ok (p::r)) else d8 tg tst el Zb xs
def jR(it:Fn (List PV))(fr:List (Option Nat))(tg:PV->Rho->Option Rho)(tst:Fn Bool)(el:Fn PV):Fn PV:=λZ=>bnd (it Z) λl=>
 if l.length<=sizeLine then bnd (d8 tg tst el (frR fr Z) l) λr=>some (.ok (.lst r)) else none
def Ht:Fn Bool:=λ_=>some (.ok true)
theorem Ei:MT K C Ms Ht:=λF H O Z Q r R e P=>by
 cases e;exact P F H (Up.refl R.rb.sub)
theorem RE.block(R:RE K C.toCf F H O Z)(fr:List (Option Nat)):RE K C.toCf F H (frσ fr O) (frR fr Z)/\NoO (frR fr Z):=by
 have nd:∀ (j:Nat) q,(frR fr Z)[j]?≠some (some (.dp q)):=λj q e=>by
  unfold frR at e;rw[Zaf] at e;cases e1:fr[j]? with
  |none=>rw[e1] at e;cases e
  |some o=>
   rw[e1] at e;cases o with
   |none=>cases e
   |some i=>
    simp only[Zbc,Zcp] at e;split at e
    ·rename_i v hv;unfold shOnly at e;split at e<;>cases e
    ·cases e
 have no:∀ (j:Nat) q,(frR fr Z)[j]?≠some (some (.ow q)):=λj q e=>by
  unfold frR at e;rw[Zaf] at e;cases e1:fr[j]? with
  |none=>rw[e1] at e;cases e
  |some o=>
   rw[e1] at e;cases o with
   |none=>cases e
   |some i=>
    simp only[Zbc,Zcp] at e;split at e
    ·rename_i v hv;unfold shOnly at e;split at e<;>cases e
    ·cases e
 refine⟨⟨R.rb,by unfold frσ frR;simp,λj p e=>?_,λj p e=>absurd e (no j p),λi j p q a e=>absurd e (no i p),_,RD.no nd⟩,λj q=>⟨no j q,nd j q⟩⟩
 unfold frR at e;rw[Zaf] at e;unfold frσ;rw[Zaf];cases e1:fr[j]? with
 |none=>rw[e1] at e;cases e
 |some o=>
  rw[e1] at e;cases o with
  |none=>cases e
  |some i=>
   simp only[Zbc,Zcp] at e ⊢;split at e
   ·rename_i v hv;unfold shOnly at e;split at e
    ·cases e;obtain⟨w,e2,e3⟩:=R.sh i _ hv;exact⟨w,by rw[e2],e3⟩
    ·cases e
   ·cases e
theorem RE.other(R:RE K C.toCf F H O Z){D:Addr}{o:HO}(hf:F D=none)(h0:C.H0 D=none)(no:NoO Z):RE K C.toCf F (upd H D o) O Z where
 rb:=⟨λb u q=>by rw[ao (aO q hf)];exact R.rb.sub b u q,λb u q n=>by rw[ao (aO q h0)];exact R.rb.keep b u q n,R.rb.new,λb hb=>⟨by
  have:=(R.rb.ios b hb);by_cases hbD:b=D
  ·subst hbD;exact absurd h0 this.2
  ·rw[ao hbD];exact this.1,(R.rb.ios b hb).2⟩⟩
 len:=R.len
 sh:=R.sh
 ow:=λi p e=>absurd e (no i p).1
 dis:=λi j p q a e=>absurd e (no i p).1
 dd:=⟨_,RD.no λi p=>(no i p).2⟩
theorem RE.weak{Z':Rho}(R:RE K C.toCf F H O Z')(hl:Z.length=Z'.length)(h:∀ (j:Nat) s,Z[j]?=some (some s)->Z'[j]?=some (some s)):RE K C.toCf F H O Z where
 rb:=R.rb
 len:=by rw[R.len,hl]
 sh:=λi p e=>R.sh i p (h i _ e)
 ow:=λi p e=>R.ow i p (h i _ e)
 dis:=λi j p q a e e'=>R.dis i j p q a (h i _ e) (h j _ e')
 dd:=let⟨P,d⟩:=R.dd;⟨P,d.own,d.dis,λi j q b z e=>d.ow i j q b z (h j _ e),λi p e=>d.dp i p (h i _ e)⟩
structure ItH(K:Frag)(J:It)(F H:Hp)(l:List PV):Prop where
 stop:∀ F' H',aB F F'->aB F' H'->aB H H'->J.stop l.length H'
 go:∀ i F' H',i<l.length->aB F F'->aB F' H'->aB H H'->J.go i H'
 yld:∀ i F' H' x H'',i<l.length->aB F F'->aB F' H'->aB H H'->J.yld i H' x H''->∃ F'' p,Up F' H' F'' H''/\l[i]?=some p/\Rep K F'' x p
def MIH(K:Frag)(C:Cg)(wi:TI)(f:Fn (List PV)):Prop:=
 ∀ F H O Z R' r,RE K C.toCf F H O Z->f Z=some r->Pr C F (λl=>∀ J F' H',Up F H F' H'->ItH K J F' H' l->R' J H') r->wi O H R'
theorem MI.h{wi:TI}{f:Fn (List PV)}(h:MI K C wi f):MIH K C wi f:=λF H O Z R' r R e P=>
 h F H O Z R' r R e (Pr.mono P (aB.refl _) λl q J F' H' u x=>q J F' H' u ⟨λa b c d _=>x.stop a b c d,λi a b hi c d _=>x.go i a b hi c d,λi a b y z hi c d _=>x.yld i a b y z hi c d⟩)
theorem gD{α β γ:Type}{x:Option (Res α)}{f:α->Option (Res β)}{g:β->Option (Res γ)}:bnd (bnd x f) g=bnd x λa=>bnd (f a) g:=by
 match x with
 |some (.ok a)=>rfl
 |some (.ex z)=>rfl
 |none=>rfl
theorem Ej{wi:TI}{it:Fn (List PV)}{fr:List (Option Nat)}{gt:TG}{tg:PV->Rho->Option Rho}{T:List Nat}{tc:TT}{tst:Fn Bool}{el:Fn PV}(hi:MIH K C wi it)(hg:MG K C gt tg)(hT:Wr T tg)(ht:MT K C tc tst)(he:MJ K C (aF K) te el)
  (hfr:T.all (λj=>fr[j]?==some none)=true:=by rfl):MO K C (tE wi fr gt tc te) (jR it fr tg tst el):=by
 intro F H O Z Q r R e P;rcases bj e with⟨z,e1,rfl⟩|⟨l,e1,hk⟩
 ·exact hi F H O Z _ _ R e1 P
 split at hk
 case isFalse=>cases hk
 rename_i hlen;refine hi F H O Z _ _ R e1 λJ F1 H1 u hJ D hD=>?_;have R1:=R.up u;obtain⟨Rb,no⟩:=R1.block fr;have hD0:C.H0 D=none:=R1.rb.oY hD;have hFD:F1 D=none:=u.fh.free hD;have hρ:∀ (j:Nat),j∈T->(frR fr Z)[j]?=some none:=λj hj=>by
  have:=Za2.mp hfr j hj;unfold frR;rw[Zaf,show fr[j]?=some none by simpa using this]
  rfl
 refine⟨λi m O' H'=>∃ F' ys acc,m=l.length-i/\i<=l.length/\aB F1 F'/\(∀ b o,F' b=some o->F1 b=some o\/Frz H1 b o)/\aB H1 H'/\H' D=some (.lst ys)/\F' D=none/\aZ K F' ys acc/\acc.length<=i /\
   RE K C.toCf F' H' O' (frR fr Z)/\bnd (d8 tg tst el (frR fr Z) (l.drop i)) (λr=>some (.ok (.lst (acc++r))))=some r,
  ⟨l.length,F1,[],[],by simp,ZaW _,aB.refl _,λ_ _ q=>.inl q,cI hD,aq,hFD,.nil,Zal _,Rb.other hFD hD0 no,by rw[ZbX];exact hk⟩,?_⟩
 rintro i m O' H' ⟨F',ys,acc,rfl,hil,s1,fr1,sH,eD,nD,ra,hacc,R',e'⟩;by_cases hlt:i<l.length
 case neg=>
  have ei:i=l.length:=by omega
  subst ei;rw[Zcu] at e';have e':some (Res.ok (PV.lst (acc++[])))=some r:=e';rw[ZaX] at e';cases e';exact .inl ⟨hJ.stop F' H' s1 R'.rb.sub sH,P D F' H' (u.trans ⟨s1,sH,fr1,R'.rb.sub⟩) (u.hh.free hD) nD ⟨ys,eD,ra⟩⟩
 refine .inr ⟨hJ.go i F' H' hlt s1 R'.rb.sub sH,λO2 H2=>∃ F2 ys acc,aB F1 F2/\(∀ b o,F2 b=some o->F1 b=some o\/Frz H1 b o)/\aB H1 H2/\H2 D=some (.lst ys)/\F2 D=none/\aZ K F2 ys acc/\acc.length<=i+1 /\
   RE K C.toCf F2 H2 O2 (frR fr Z)/\bnd (d8 tg tst el (frR fr Z) (l.drop (i+1))) (λr=>some (.ok (.lst (acc++r))))=some r,
  λO2 H2 ⟨F2,ys,acc,z⟩=>⟨l.length-(i+1),by omega,F2,ys,acc,rfl,hlt,z⟩,λx H'' y=>?_⟩
 obtain⟨F'',p,u2,ep,rx⟩:=hJ.yld i F' H' x H'' hlt s1 R'.rb.sub sH y;have ed:l.drop i=p::l.drop (i+1):=by
  rw[ZaY hlt];rw[Zaa hlt] at ep;rw[Zac ep]
 rw[ed,d8] at e';split at e'
 ·cases e'
 rename_i Z1 h1;obtain⟨w1,w2,w3⟩:=hT p _ Z1 h1;have no1:=w3 no;have weak:∀ (j:Nat) s,(frR fr Z)[j]?=some (some s)->Z1[j]?=some (some s):=λj s ej=>by
  rw[w2 j λz=>by rw[hρ j z] at ej;cases ej];exact ej
 refine hg F'' H'' O' (frR fr Z) x p Z1 _ (R'.up u2) rx h1 λO1 R1'=>?_;have stay:∀ {F3 H3:Hp},Up F' H' F3 H3->aB F1 F3/\(∀ b o,F3 b=some o->F1 b=some o\/Frz H1 b o)/\aB H1 H3/\H3 D=some (.lst ys)/\F3 D=none/\aZ K F3 ys acc:=λ{F3 H3} u3=>by
  refine⟨s1.trans u3.ff,λb o q=>?_,sH.trans u3.hh,u3.hh _ _ eD,?_,ra.up u3.ff⟩
  ·rcases u3.fr b o q with z|z
   ·exact fr1 b o z
   ·exact .inr (z.imp (λz=>sH.free z) id)
  ·cases q:F3 D with
   |none=>rfl
   |some o=>
    rcases u3.fr D o q with z|z|⟨ys,z⟩
    ·rw[nD] at z;cases z
    ·rw[eD] at z;cases z
    ·subst z;have w:=u3.fh _ _ q;rw[u3.hh _ _ eD] at w;cases w
 have Pl:∀ {F3 H3:Hp},Up F' H' F3 H3->∀ {z:PV},r=.ex z->PX C F3 z:=λ{F3 H3} u3 {z} ez=>by
  subst ez;exact PX.up P (u.ff.trans (s1.trans u3.ff))
 rw[gD] at e';rcases bj e' with⟨z',e4,ez⟩|⟨b,e4,e5⟩
 ·exact ht F'' H'' O1 Z1 _ _ R1' e4 (Pl u2 ez)
 refine ht F'' H'' O1 Z1 _ _ R1' e4 λF3 H3 u3=>?_;have u23:=u2.trans u3;cases b with
 |false=>
  rw[Zax (by decide)] at e5 ⊢
  obtain⟨a1,a2,a3,a4,a5,a6⟩:=stay u23;exact⟨F3,ys,acc,a1,a2,a3,a4,a5,a6,by omega,(R1'.up u3).weak w1.symm weak,e5⟩
 |true=>
  rw[Zat rfl] at e5 ⊢;rw[gD] at e5;rcases bj e5 with⟨z',e6,ez⟩|⟨q,e6,e7⟩
  ·exact he F3 H3 O1 Z1 _ _ (R1'.up u3) e6 (Pl u23 ez)
  refine he F3 H3 O1 Z1 _ _ (R1'.up u3) e6 λv F4 H4 u4 rv=>?_;have u24:=u23.trans u4;obtain⟨a1,a2,a3,a4,a5,a6⟩:=stay u24;refine⟨ys,a4,by rw[a6.1];omega,F4,ys++[v],acc++[q],a1,a2,tH hD a3,aq,a5,a6.snoc rv,by simp;omega,((R1'.up (u3.trans u4)).other a5 hD0 no1).weak w1.symm weak,?_⟩
  rw[gD] at e7;rw[<-e7];congr 1
  funext rr
  show some (Res.ok (PV.lst (acc++[q]++rr)))=some (Res.ok (PV.lst (acc++q::rr)))
  rw[Za3];rfl
theorem pP{wi:TI}{it:Fn (List PV)}{fr:List (Option Nat)}{gt:TG}{tg:PV->Rho->Option Rho}{T:List Nat}{tc:TT}{tst:Fn Bool}{el:Fn PV}(hi:MI K C wi it)(hg:MG K C gt tg)(hT:Wr T tg)(ht:MT K C tc tst)(he:MJ K C (aF K) te el)
  (hfr:T.all (λj=>fr[j]?==some none)=true:=by rfl):MO K C (tE wi fr gt tc te) (jR it fr tg tst el):=Ej hi.h hg hT ht he hfr
end
def tyN:PV->Option String
 |.non=>some "NoneType"
 |.bl _=>some "bool"
 |.int _=>some "int"
 |.str _=>some "str"
 |.tup _=>some "tuple"
 |.lst _=>some "list"
 |.dk _=>some "dict"
 |.dt _=>some "dict"
 |_=>none
def NP(t T:String):Option Bool:=
 if t=T then some true else
 if T="int" then some (t=="bool") else
 if T="bool"\/T="str"\/T="tuple"\/T="list"\/T="dict" then some false else none
def isI(p:PV)(T:String):Option Bool:=match tyN p with
 |some t=>NP t T
 |none=>none
section
variable{K:Frag}{C:Cg}{α β γ:Type}{A:Rel α}{B:Rel β}{D:Rel γ}{ta tb:TE}{f:Fn α}{g:Fn β}{rr:List V->Hp->VK->Prop}
def R1M(C:Cg)(A:Rel α)(D:Rel γ)(rr:List V->Hp->VK->Prop)(op:α->Option (Res γ)):Prop:=
 ∀ F H x a res Q,aB F H->A F H x a->op a=some res->Pr C F (λc=>∀ v F' H',Up F H F' H'->D F' H' v c->Q v H') res->rr [x] H Q
theorem cA{op:α->Option (Res γ)}(rule:R1M C A D rr op)(ha:MJ K C A ta f):MJ K C D (tCB rr (dw ta lr)) (m1 op f):=by
 intro F H O Z Q r R e P;refine ha.run R e P λp v F1 H1 hk u a=>?_;exact rule F1 H1 v p r Q u.fh a hk (P.later u)
def R1O(K:Frag)(C:Cg)(A:Rel α)(rr:List V->Hp->VK->Prop)(op:α->Option (Res PV)):Prop:=
 ∀ F H x a res Q,aB F H->A F H x a->op a=some res->Pr C F (λp=>∀ a F' H',Up F H F' H'->H a=none->F' a=none->Own K F' H' a p->Q (.ref a) H') res->rr [x] H Q
theorem qy{op:α->Option (Res PV)}(rule:R1O K C A rr op)(ha:MJ K C A ta f):MO K C (tCB rr (dw ta lr)) (m1 op f):=by
 intro F H O Z Q r R e P;refine ha.run R e P λp v F1 H1 hk u a=>?_;exact rule F1 H1 v p r Q u.fh a hk (P.uD u)
def R2B(C:Cg)(A:Rel α)(B:Rel β)(D:Rel γ)(rr:List V->Hp->VK->Prop)(op:α->β->Option (Res γ)):Prop:=
 ∀ F H x y a b res Q,aB F H->A F H x a->B F H y b->op a b=some res->Pr C F (λc=>∀ v F' H',Up F H F' H'->D F' H' v c->Q v H') res->rr [x,y] H Q
theorem Ek{op:α->β->Option (Res γ)}(up:UpM A)(rule:R2B C A B D rr op)(ha:MJ K C A ta f)(hb:MJ K C B tb g):MJ K C D (tCB rr (dw ta (dw tb lr))) (m2 op f g):=by
 intro F H O Z Q r R e P;refine ha.run R e P λp v F1 H1 hk u a=>?_;refine hb.run (R.up u) hk (P.later u) λq w F2 H2 hk2 u2 b=>?_;exact rule F2 H2 v w p q r Q u2.fh (up _ _ _ _ _ _ u2 a) b hk2 (P.later (u.trans u2))
def dq:PV->Option (Res PV)
 |.str z=>if z.length<=sizeLine then some (.ok (.int z.length)) else none
 |.lst l=>some (.ok (.int l.length))
 |.tup l=>some (.ok (.int l.length))
 |_=>none
theorem eY:R1M C (aH K) (aF K) (λxs H Q=>∃ x n,xs=[x]/\Mi K x H n/\Q (.int n) H) dq:=by
 intro F H x a res Q s ha e P
 match a,e with
 |.str z,e=>
  cases Rep.bG ha;have e:(if z.length<=sizeLine then some (Res.ok (PV.int z.length)) else none)=some res:=e;split at e
  ·rename_i hz;cases e;exact⟨_,_,rfl,⟨hz,rfl⟩,P _ F H (Up.refl s) .int⟩
  ·cases e
 |.lst l,e=>
  cases e;obtain⟨b,xs,rfl,h1,r1⟩:=Rep.bJ ha;rw[<-r1.1] at P;exact⟨_,_,rfl,.inl ⟨xs,h1,rfl⟩,P _ F H (Up.refl s) .int⟩
 |.tup l,e=>
  cases e;obtain⟨b,xs,rfl,h1,r1⟩:=Rep.bK ha;rw[<-r1.1] at P;exact⟨_,_,rfl,.inr ⟨xs,h1,rfl⟩,P _ F H (Up.refl s) .int⟩
def El:PV->PV->Option (Res PV)
 |.int i,.int j=>some (.ok (.int (if j>i then j else i)))
 |_,_=>none
def Em:PV->PV->Option (Res PV)
 |.int i,.int j=>some (.ok (.int (if j<i then j else i)))
 |_,_=>none
theorem M4:R2B C (aF K) (aF K) (aF K) (λxs H Q=>∃ i j,xs=[.int i,.int j]/\Q (.int (if j>i then j else i)) H) El:=by
 intro F H x y a b res Q s ha hb e P;have inv:(∃ i j,a=.int i/\b=.int j):=by
  clear P ha hb
  cases a<;>first|exact noS e|(cases b<;>first|exact noS e|exact⟨_,_,rfl,rfl⟩)
 obtain⟨i,j,rfl,rfl⟩:=inv;cases Rep.aW ha;cases Rep.aW hb;cases e;exact⟨i,j,rfl,P _ F H (Up.refl s) .int⟩
theorem M5:R2B C (aF K) (aF K) (aF K) (λxs H Q=>∃ i j,xs=[.int i,.int j]/\Q (.int (if j<i then j else i)) H) Em:=by
 intro F H x y a b res Q s ha hb e P;have inv:(∃ i j,a=.int i/\b=.int j):=by
  clear P ha hb
  cases a<;>first|exact noS e|(cases b<;>first|exact noS e|exact⟨_,_,rfl,rfl⟩)
 obtain⟨i,j,rfl,rfl⟩:=inv;cases Rep.aW ha;cases Rep.aW hb;cases e;exact⟨i,j,rfl,P _ F H (Up.refl s) .int⟩
def yE(l:List PV):Option (Res PV):=some (.ok (.lst l))
theorem K1:R1O K C (aV K) (λxs H Q=>∃ p ys,xs=[.ref p]/\(SqL K H p ys\/SqT K H p ys)/\∀ l,H l=none->Q (.ref l) (upd H l (.lst ys))) yE:=by
 intro F H x a res Q s ha e P;cases e;obtain⟨b,xs,rfl,h1,r1⟩:=ha;exact⟨b,xs,rfl,.inl h1,λl hl=>P l F _ (Up.rZ s hl) hl (s.free hl) ⟨_,aq,r1⟩⟩
def wD(f:Fn PV):Fn (List PV):=λZ=>bnd (f Z) oZ
def iB(i:Nat):Fn (List PV):=λZ=>bnd (mVL i Z) oZ
def M6(i:Nat)(f:Sn):Sn:=λZ=>f (Bt i Z)
def En:PV->Option (Res PV)
 |.int i=>some (.ok (.int (-i)))
 |_=>none
theorem K3{f:Fn PV}(ha:MJ K C (aF K) ta f):MJ K C (aF K) (tUn (rU λi=>.int (-i)) ta) (m1 En f):=by
 intro F H O Z Q r R e P;refine ha.run R e P λp v F1 H1 hk u a=>?_
 match p,hk with
 |.int i,hk=>
  cases Rep.aW a;cases hk;exact⟨i,rfl,P _ F1 H1 u .int⟩
end
noncomputable abbrev XR0:Hp->Value->Option Addr->PV->Prop:=λ_ _ _ _=>False
noncomputable abbrev C0(io:Addr->Prop)(H0 F0:Hp):Cg:=⟨⟨io,True,H0,F0,E0⟩,XR0⟩
def startR(ps:List PV)(k:Nat):Rho:=ps.map (λp=>some (.sh p))++List.replicate k none
def fin:Option Out->Option (Res PV)
 |some (.nx _)=>some (.ok .non)
 |some (.rt p)=>some (.ok p)
 |some (.ex z)=>some (.ex z)
 |_=>none
def sy:Option Out->Option (Res PV)
 |some (.ro p)=>some (.ok p)
 |some (.ex z)=>some (.ex z)
 |_=>none
section
variable{K:Frag}{XR:Hp->Value->Option Addr->PV->Prop}{N:List Str}{vs:List V}{H:Hp}{Q:VK}{E:XK}{t:TS}{b:Sn}{m:List PV->Option (Res PV)}
theorem mU{E:XK}{F:Hp}{ps:List PV}{n:Nat}(s:aB F H)(r:aZ K F vs ps)(hN:N.length=vs.length+n):RE K ⟨λ_=>False,True,H,F,E⟩ F H (start N vs) (startR ps n) where
 rb:=⟨s,λ_ _ h _=>h,λ_ _ h=>.inl h,λ_ h=>h.elim⟩
 len:=by unfold start startR;rw[Zaz,Zaz,Zab,Zab,Zbq,Zbq,r.1,hN];have:=r.1;lia
 sh:=λi p e=>by
  unfold startR at e;unfold start;by_cases hi:i<ps.length
  ·rw[Zah (by simpa using hi),Zaf] at e
   rw[Zah (by rw[Zab,r.1];exact hi),Zaf]
   cases h:ps[i]? with
   |none=>rw[h] at e;cases e
   |some q=>
    rw[h] at e;cases e;obtain⟨x,hx,rx⟩:=r.get h;exact⟨x,by rw[hx];rfl,rx⟩
  ·rw[Zap (by simpa using hi),Za5] at e
   split at e<;>cases e
 ow:=λi p e=>by
  exfalso;unfold startR at e;by_cases hi:i<ps.length
  ·rw[Zah (by simpa using hi),Zaf] at e
   cases h:ps[i]? with
   |none=>rw[h] at e;cases e
   |some q=>rw[h] at e;cases e
  ·rw[Zap (by simpa using hi),Za5] at e
   split at e<;>cases e
 dd:=⟨_,RD.no λi p e=>by
  unfold startR at e;by_cases hi:i<ps.length
  ·rw[Zah (by simpa using hi),Zaf] at e
   cases h:ps[i]? with
   |none=>rw[h] at e;cases e
   |some q=>rw[h] at e;cases e
  ·rw[Zap (by simpa using hi),Za5] at e
   split at e<;>cases e⟩
 dis:=λi j p q a e=>by
  exfalso;unfold startR at e;by_cases hi:i<ps.length
  ·rw[Zah (by simpa using hi),Zaf] at e
   cases h:ps[i]? with
   |none=>rw[h] at e;cases e
   |some q=>rw[h] at e;cases e
  ·rw[Zap (by simpa using hi),Za5] at e
   split at e<;>cases e
theorem mW{k n:Nat}(hk:N.length=k+n)(hm:∀ ps r,m ps=some r->ps.length=k/\fin (b (startR ps n))=some r)(h:spM K XR0 m vs H Q E)(hS:∀ (io:Addr->Prop) (H0 F0:Hp),(∀ a,¬io a)->MS K (C0 io H0 F0) t b) :
  t { nx:=λ_ H'=>Q .non H',rt:=Q } (start N vs) H:=by
 obtain⟨ps,F,r,s,rp,e,P⟩:=h;obtain⟨hl,e⟩:=hm ps r e;have R:=mU (E:=E0) (N:=N) (n:=n) s rp (by rw[rp.1,hl];exact hk)
 have up:∀ {F' H':Hp},aB F F'->RB ⟨λ_=>False,True,H,F,E0⟩ F' H'->Up F H F' H':=λs' rb=>⟨s',λc o q=>rb.keep c o q id,rb.new,rb.sub⟩;have M:=hS (λ_=>False) H F (λ_ h=>h);cases ho:b (startR ps n) with
 |none=>rw[ho] at e;cases e
 |some o=>
  rw[ho] at e;refine M F H _ _ _ o R ho ?_;cases o with
  |nx Z=>cases e;exact λF' H' O s' R'=>P .non F' H' (up s' R'.rb) .non
  |rt p=>cases e;exact λv F' H' s' rb rv=>P v F' H' (up s' rb) rv
  |ex z=>exact λ_ _ _ _ _ _ x=>x.elim
  |ro p=>cases e
  |rd p=>cases e
  |bk Z=>cases e
  |ct Z=>cases e
theorem uM{k n:Nat}(hk:N.length=k+n)(hm:∀ ps r,m ps=some r->ps.length=k/\sy (b (startR ps n))=some r)(h:spO K XR0 m vs H Q E)(hS:∀ (io:Addr->Prop) (H0 F0:Hp),(∀ a,¬io a)->MS K (C0 io H0 F0) t b) :
  t { nx:=λ_ H'=>Q .non H',rt:=Q } (start N vs) H:=by
 obtain⟨ps,F,r,s,rp,e,P⟩:=h;obtain⟨hl,e⟩:=hm ps r e;have R:=mU (E:=E0) (N:=N) (n:=n) s rp (by rw[rp.1,hl];exact hk)
 have up:∀ {F' H':Hp},aB F F'->RB ⟨λ_=>False,True,H,F,E0⟩ F' H'->Up F H F' H':=λs' rb=>⟨s',λc o q=>rb.keep c o q id,rb.new,rb.sub⟩;have M:=hS (λ_=>False) H F (λ_ h=>h);cases ho:b (startR ps n) with
 |none=>rw[ho] at e;cases e
 |some o=>
  rw[ho] at e;refine M F H _ _ _ o R ho ?_;cases o with
  |ro p=>cases e;exact λa F' H' s' rb w n1 n2=>P a F' H' (up s' rb) n2 n1 w
  |ex z=>exact λ_ _ _ _ _ _ x=>x.elim
  |nx Z=>cases e
  |rt p=>cases e
  |rd p=>cases e
  |bk Z=>cases e
  |ct Z=>cases e
theorem kI(h:spM K XR m vs H Q E){k:Nat}(hm:∀ ps r,m ps=some r->ps.length=k):vs.length=k:=by
 obtain⟨ps,F,r,s,rp,e,P⟩:=h;rw[rp.1];exact hm ps r e
theorem uN(h:spO K XR m vs H Q E){k:Nat}(hm:∀ ps r,m ps=some r->ps.length=k):vs.length=k:=by
 obtain⟨ps,F,r,s,rp,e,P⟩:=h;rw[rp.1];exact hm ps r e
end
section
variable{X:Cx}{k:Nat}{N:List Str}{scope:Scope}{cl:List (Str×Addr)}{C:Addr}{s2:Shared}{H2:Hp}{fp:List Addr}
theorem uO:IxR (X.comp N scope cl C s2 H2 fp) (rIx X.K):=cU
theorem Hu(hr:cz k X.A):OpR (X.comp N scope cl C s2 H2 fp) (compareOp .Eq) (KQ X.K):=lO hr
theorem yF(hr:cz k X.A):OpR (X.comp N scope cl C s2 H2 fp) (compareOp .NotIn) (uJ X.K):=Bw hr
end
section
variable{K:Frag}{C:Cg}{te:TE}
def wF(xs:List PV)(lo hi st:Option Int):List PV:=(sliceRange (sliceBounds lo hi st xs.length).1 (sliceBounds lo hi st xs.length).2.1 (sliceBounds lo hi st xs.length).2.2).filterMap (xs[·]?)
theorem aZ.picks{F:Hp}{xs:List V}{l:List PV}(h:aZ K F xs l):∀ js:List Nat,aZ K F (js.filterMap (xs[·]?)) (js.filterMap (l[·]?))
 |[]=>.nil
 |j::js=>by
  by_cases hj:j<xs.length
  ·have hl:j<l.length:=by rw[<-h.1];exact hj
   rw[Zbg (Zaa hj),Zbg (Zaa hl)];exact(aZ.picks h js).cons (h.2 j _ _ (Zaa hj) (Zaa hl))
  ·have hl:¬j<l.length:=by rw[<-h.1];exact hj
   rw[Zbu (ZaF (by omega)),Zbu (ZaF (by omega))]
   exact aZ.picks h js
def Hv(f:Fn (List PV))(lo hi st:Fn (Option Int)):Fn PV:=λZ=>bnd (f Z) λl=>bnd (lo Z) λa=>bnd (hi Z) λb=>bnd (st Z) λc=>if c=some 0 then none else some (.ok (.lst (wF l a b c)))
theorem K4{f:Fn (List PV)}{lo hi st:Fn (Option Int)}{tl th ts:TO}(h:MJ K C (aV K) te f)(hl:MP' K C tl lo)(hh:MP' K C th hi)(hs:MP' K C ts st):MO K C (Mv K te tl th ts) (Hv f lo hi st):=by
 intro F H O Z Q r R e P;refine h.run R e P λl v F1 H1 hk u a=>?_;refine hl.run (R.up u) hk (P.uD u) λo F2 H2 hk2 u2=>?_;refine hh.run (R.up (u.trans u2)) hk2 (P.uD (u.trans u2)) λo2 F3 H3 hk3 u3=>?_;refine hs.run (R.up (u.trans (u2.trans u3))) hk3 (P.uD (u.trans (u2.trans u3))) λo3 F4 H4 hk4 u4=>?_;split at hk4
 ·cases hk4
 ·rename_i hz;cases hk4;obtain⟨b,xs,rfl,h1,r1⟩:=a;have u24:=u2.trans (u3.trans u4);refine⟨b,xs,rfl,u24.hh.seq h1,hz,λp hp=>?_⟩;refine P p F4 _ (u.trans (u24.trans (Up.rZ u4.fh hp))) ((u.hh.trans u24.hh).free hp) (u4.fh.free hp) ⟨_,aq,?_⟩;unfold stepV wF;rw[r1.1];exact(r1.up u24.ff).picks _
end
def M7(j:Nat):Option Out->Option (Res PV)
 |some (.nx Z)=>match ownAt j Z with
  |some p=>some (.ok p)
  |none=>none
 |_=>none
section
variable{N:List Str}{vs:List V}
theorem fK{i:Nat}{x:V}(h:vs[i]?=some x):(start N vs)[i]?=some (some x):=by
 unfold start;rw[Zah (by rw[Zab];exact bI h),Zaf,h]
 rfl
end
def uP:List Int->Int
 |[]=>0
 |[x]=>x
 |x::y::r=>if x<uP (y::r) then uP (y::r) else x
theorem pQ:∀ {ns:List Int},ns≠[]->uP ns∈ns/\∀ a∈ns,a<=uP ns
 |[],h=>absurd rfl h
 |[x],_=>⟨Zaj,λa ha=>by rw[ZaC.mp ha];exact Int.le_refl _⟩
 |x::y::r,_=>by
  obtain⟨h1,h2⟩:=pQ (ns:=y::r) (by simp)
  unfold uP;split
  ·rename_i h;refine⟨Zak _ h1,λa ha=>?_⟩;rcases Zaq.mp ha with q|q
   ·subst q;omega
   ·exact h2 a q
  ·rename_i h;refine⟨Zaj,λa ha=>?_⟩;rcases Zaq.mp ha with q|q
   ·subst q;omega
   ·have:=h2 a q;omega
theorem jT:∀ {ns:List Int}{us:List Value},Vals (ns.map V.int) us->IntsAre us ns
 |[],us,r=>by rw[Zci] at r;cases r;exact .nil
 |n::ns,us,r=>by
  rw[Zaw] at r;cases r with
  |cons r1 r2=>
   obtain⟨t,e⟩:=r1;subst e;exact .cons n t (jT r2)
section
variable{X:Cx}
def M8(G:List Int->Int)(K:Frag):List V->Hp->VK->Prop:=λxs H Q=>∃ (p:Addr) (ns:List Int),xs=[.ref p]/\SqL K H p (ns.map V.int)/\ns≠[]/\Q (.int (G ns)) H
theorem Bx(hc:X.calm=true):gH X (.builtin "max") (M8 uP X.K):=by
 intro pins s O H xs us Q I rv h;obtain⟨p,ns,rfl,hq,hne,q⟩:=h;obtain⟨u,rfl,ru⟩:=rv.one;cases ru;obtain⟨its,r,pl,hz⟩:=I.list hq;have hi:=jT r;obtain⟨ys,e⟩:=hi.allInts.items;have hns:ns=ys.toList.map (·.1):=by rw[<-hi.numsOf,<-nums_intItems,<-e]
 have hl0:0<ns.length:=by cases ns with|nil=>exact absurd rfl hne|cons=>simp
 have hsz:0<ys.size:=by
  have h3:=hl0;rw[hns,Zab,ZaD] at h3;exact h3
 have pl':=pl.isList;rw[e] at pl';refine max_intList (I.ok.hd hc) pl' hsz λv h' tk hv hk=>?_;obtain⟨t,rfl⟩:=intItems_at hv;obtain⟨h1,h2⟩:=argBest_gt (numAt ys) (ys.size-1);have hin:numAt ys (argBest (λi j=>decide (numAt ys i>numAt ys j)) (ys.size-1))∈ns:=by
  rw[hns,numAt_eq];exact getD_mem (by rw[Zab,ZaD];omega)
 have hle:∀ a,a∈ns->a<=numAt ys (argBest (λi j=>decide (numAt ys i>numAt ys j)) (ys.size-1)):=λa ha=>by
  rw[hns] at ha;obtain⟨j,hj,rfl⟩:=mem_getD ha;rw[Zab,ZaD] at hj;rw[<-numAt_eq];exact h2 j (by omega)
 have em:numAt ys (argBest (λi j=>decide (numAt ys i>numAt ys j)) (ys.size-1))=uP ns:=Int.le_antisymm ((pQ hne).2 _ hin) (hle _ (pQ hne).1);rw[em];exact⟨.int _,H,I.kept hk,⟨t,rfl⟩,q⟩
end
def cV:List PV->Option (List Int)
 |[]=>some []
 |.int n::l=>(cV l).map (n::·)
 |_=>none
theorem kJ{K:Frag}{F:Hp}:∀ {l:List PV}{ns:List Int}{xs:List V},cV l=some ns->aZ K F xs l->xs=ns.map V.int
 |[],ns,xs,h,r=>by
  cases h;exact List.length_eq_zero_iff.mp (by simpa using r.1)
 |.int n::l,ns,xs,h,r=>by
  cases hl:cV l with
  |none=>simp only[cV,hl] at h;cases h
  |some ms=>
   simp only[cV,hl] at h;cases h;obtain⟨v,ys,rfl,r1,r2⟩:=r.fH;cases Rep.aW r1;rw[kJ hl r2];rfl
def oE(G:List Int->Int)(l:List PV):Option (Res PV):=match cV l with
 |some (n::ns)=>some (.ok (.int (G (n::ns))))
 |_=>none
theorem K5{K:Frag}{C:Cg}{G:List Int->Int}:R1M C (aV K) (aF K) (M8 G K) (oE G):=by
 intro F H x a res Q s ha e P;unfold oE at e;split at e
 ·rename_i n ns hb;cases e;obtain⟨b,xs,rfl,h1,r1⟩:=ha;rw[kJ hb r1] at h1;exact⟨b,n::ns,rfl,h1,by simp,P _ F H (Up.refl s) .int⟩
 ·cases e
section
def tW:Fn PV:=λ_=>some (.ok (.dk []))
end
theorem qz:typeLookup (.type "list") "keys"=pure none:=am_miss_of_fast (by decide +kernel)
theorem pG:typeLookup (.type "tuple") "keys"=pure none:=am_miss_of_fast (by decide +kernel)
theorem d9:entryFor table "dict.update.loop"=some Builtin.«dict.update.loop»:=entryFor_of_tree (by kernel_rfl)
theorem bD:plainId "dict.update.loop"=true:=by decide +kernel
section
variable{prog:Program}{w:World}{A:Around}{E:Value->Shared->Prop}{s:Shared}{a:Addr}{o:Obj}{xs:Array Value}{k:Nat}{name:Str}{Q:Option Value->Shared->Prop}
theorem lQ(hx:s.heap.get? a=some o)(hc:o.cls=.type "list")(hdat:o.data=.seq xs k)(hd:o.dict=none)(hmiss:typeLookup (.type "list") name=pure none)(hname:(["__module__","__name__","__qualname__","__doc__","__annotations__"]:List Str).contains name=false)(hA:A.handled=none)
  (h:∀ h' tk,(∀ b ob,s.heap.get? b=some ob->h'.get? b=some ob)->Q none { s with heap:=h',toks:=tk })(hsz:name.length+100<=sizeLine:=by size_fits) :
  wpAny (model prog w) A (getAttr? (.ref a) name) Q E s:=by
 obtain⟨c,dct,dat,sl⟩:=o;simp only at hc hdat hd;subst hc hdat hd;obtain⟨hp,g,d,tk,os⟩:=s;have hT:∀ tk',(⟨hp,g,d,tk',os⟩:Shared).TypeIs (.ref a) "list":=λ_=>⟨_,hx,rfl⟩;have f1:=sub_AttributeError;have f3:=ZbK.lookup;have f4:=ZbK.bind (.ref a);have f5:=am_list_getattr_none;unfold getAttr? getAttrBy? getAttrBy;repeat (any_goals (first|assumption|exact hT _|((with_reducible show wpAny _ _ (call (Value.builtin "list.__getattribute__") _ _) _ _ _);refine call_meets ZbK (hT _) am_entry_list_getattribute (F.args_list_getattribute_2 _ _) (meets_getattribute_miss_list a xs k sl name _ hmiss hname hsz) ⟨hx,hA,λh' tk' e hx'=>?_⟩)|wp_step))
 obtain⟨t',u',he⟩:=hx'.there;show wpAny _ _ (getattributeRaised _ _ _ _ _ _ _) _ _ _
 unfold getattributeRaised;repeat (any_goals (first|assumption|wp_step))
 exact h _ _ hx'.keeps
theorem lu(hx:s.heap.get? a=some o)(hc:o.cls=.type "tuple")(hdat:o.data=.seq xs k)(hd:o.dict=none)(hmiss:typeLookup (.type "tuple") name=pure none)(hname:(["__module__","__name__","__qualname__","__doc__","__annotations__"]:List Str).contains name=false)(hA:A.handled=none)
  (h:∀ h' tk,(∀ b ob,s.heap.get? b=some ob->h'.get? b=some ob)->Q none { s with heap:=h',toks:=tk })(hsz:name.length+100<=sizeLine:=by size_fits) :
  wpAny (model prog w) A (getAttr? (.ref a) name) Q E s:=by
 obtain⟨c,dct,dat,sl⟩:=o;simp only at hc hdat hd;subst hc hdat hd;obtain⟨hp,g,d,tk,os⟩:=s;have hT:∀ tk',(⟨hp,g,d,tk',os⟩:Shared).TypeIs (.ref a) "tuple":=λ_=>⟨_,hx,rfl⟩;have f1:=sub_AttributeError;have f3:=ZbG.lookup;have f4:=ZbG.bind (.ref a);have f5:=am_tuple_getattr_none;unfold getAttr? getAttrBy? getAttrBy;repeat (any_goals (first|assumption|exact hT _|((with_reducible show wpAny _ _ (call (Value.builtin "tuple.__getattribute__") _ _) _ _ _);refine call_meets ZbG (hT _) am_entry_tuple_getattribute (F.args_tuple_getattribute_2 _ _) (meets_getattribute_miss_tuple a xs k sl name _ hmiss hname hsz) ⟨hx,hA,λh' tk' e hx'=>?_⟩)|wp_step))
 obtain⟨t',u',he⟩:=hx'.there;show wpAny _ _ (getattributeRaised _ _ _ _ _ _ _) _ _ _
 unfold getattributeRaised;repeat (any_goals (first|assumption|wp_step))
 exact h _ _ hx'.keeps
end
section
variable{X:Cx}{pins:List (Addr×Obj)}{O:St}{H H':Hp}{s:Shared}{d:Addr}{y v:V}{u r:Value}{A:Around}{E:Value->Shared->Prop}
theorem By{Q:Unit->Shared->Prop}(hu:A.units<cLine)(I:Inv X pins O H s)(g:mJ H d y v H')(ry:RelV y u)(rv:RelV v r)(h:∀ h' tk,Heap.SameBut d s.heap h'->Inv X pins O H' { s with heap:=h',toks:=tk }->Q () { s with heap:=h',toks:=tk }) :
  wpAny (model X.prog X.w) A (dictSet d u r) Q E s:=by
 rcases g with⟨kvs,k,e,ey,l,eH⟩|⟨kvs,k,b,e,ey,eb,l,eH⟩
 ·subst ey eH;obtain⟨z,hd,vs,rel,dd⟩:=Jz I.hok e;have hz:vs.length<=sizeLine:=by rw[<-rel.length];exact z
  have hl:(putK kvs k v).length<=sizeLine:=by have:=g8 kvs k v;omega
  refine wpAny_dictSet_pairs (hsz:=hz) (qj ry) dd λh' dd' hs=>h h' _ hs ?_;have he:∃ q,h'.get? d=some q:=let⟨q,_,_,hq,_⟩:=dd';⟨q,hq⟩;exact pN I (by rw[e];exact True.intro) hs he (Dq hl hd (rel.put k rv) dd')
 ·subst ey eH;cases (show u=Value.ref b from ry);obtain⟨z,hd,xs,rel,dd⟩:=JB I.hok e;have hz:xs.length<=sizeLine:=by rw[<-Zcs rel];exact z
  have hl:(putK kvs k v).length<=sizeLine:=by have:=g8 kvs k v;omega
  refine wpAny_dictSet_heap (hsz:=hz) (show(tupleKind (bu X.prog X.w)).room A from hu) (lN I.hok eb) dd λh' dd' hs=>h h' _ hs ?_;obtain⟨q,es,ep,hq,h2,h3,h4,_,h5⟩:=dd';refine pN I (by rw[e];exact True.intro) hs ⟨q,hq⟩ ⟨hl,hd,_,(rel.put k eb rv).keeps λc ys ec=>?_,q,es,ep,hq,h2,h3,h4,h5⟩
  rw[ao (Jj ec e (λz=>nomatch z))];exact ec
theorem mJ.other(g:mJ H d y v H'){b:Addr}(hb:b≠d):H' b=H b:=by
 rcases g with⟨kvs,k,e,ey,l,rfl⟩|⟨kvs,k,b',e,ey,eb,l,rfl⟩
 ·exact ao hb
 ·exact ao hb
def tX(d:Addr):List (V×V)->Hp->(Hp->Prop)->Prop
 |[],H,Q=>Q H
 |(y,v)::r,H,Q=>∃ H',mJ H d y v H'/\tX d r H' Q
def uC(K:Frag)(H:Hp)(ys:List V)(ps:List (V×V)):Prop:=ys.length=ps.length/\∀ (j:Nat) x p,ys[j]?=some x->ps[j]?=some p->∃ T,x=.ref T/\SqT K H T [p.1,p.2]
theorem SqT.but{K:Frag}{T:Addr}{xs:List V}(h:SqT K H T xs)(hb:∀ b,b≠d->H' b=H b)(hn:T≠d):SqT K H' T xs:=by
 rcases h with(h|⟨o,h⟩)|h
 ·exact .inl (.inl (by rw[hb T hn];exact h))
 ·exact .inl (.inr ⟨o,by rw[hb T hn];exact h⟩)
 ·exact .inr h
theorem Eo{it:Addr}{fp:List Addr}{n:Nat}{P:Nat->Value->Prop}{St:Nat->Heap->Prop}{ps:List (V×V)}{R:Result->Shared->Prop}{H0:Hp}(hc:X.calm=true)(W:Walks X.prog X.w A.in1 it fp [it] n P St)(hu:A.in1.units<cLine)
  (hn:ps.length=n)(hd:d ∉ fp)(hit:∀ H,H d≠none->(∀ b,b≠d->H b=H0 b)->lK X pins H it)
  (hp:∀ (i:Nat) v p,P i v->ps[i]?=some p->∃ T,v=.ref T/\T≠d/\SqT X.K H0 T [p.1,p.2]) :
  ∀ (k i:Nat) (s:Shared) (H:Hp),n-i=k->i<=n->St i s.heap->Inv X pins O H s->H d≠none->(∀ b,b≠d->H b=H0 b)->∀ tk,tX d (ps.drop i) H (λH'=>∀ s',Inv X pins O H' s'->R (.ok (.ret .none)) s') ->
   codeAny (model X.prog X.w) A (.builtin "dict.update.loop" ⟨[.ref d,.ref it,.int i tk,.none],[]⟩) R s:=by
 intro k;induction k with
 |zero=>
  intro i s H hk hi hst I hHd hb tk hR;have hin:i=n:=by omega
  subst hin;refine codeAny_builtin d9 ?_;rw[Zbs bD _];show wpAny _ A.in1 (pyNext (.ref it)>>=_) _ _ s
  refine Zai (W.done s _ _ hst λh' tk' hk'=>?_);show wpAny _ _ (Builtin.Dict.addKeywords d []>>=_) _ _ _
  rw[ZbQ (by omega)] at hR
  exact Zai (Zav (Zav (hR _ (I.mD hk' λb hb'=>by rw[ZaC.mp hb'];exact hit H hHd hb))))
 |succ k ih=>
  intro i s H hk hi hst I hHd hb tk hR;have hlt:i<n:=by omega
  have hlp:i<ps.length:=by omega
  have hdr:ps.drop i=ps[i]::ps.drop (i+1):=ZaY hlp;rw[hdr] at hR;refine codeAny_builtin d9 ?_;rw[Zbs bD _];show wpAny _ A.in1 (pyNext (.ref it)>>=_) _ _ s
  refine Zai (W.item i s _ _ hlt hst λv h' tk' hP hst' hk'=>?_);obtain⟨T,rfl,hT,hq⟩:=hp i v ps[i] hP (by simp[hlp])
  have I1:Inv X pins O H { s with heap:=h',toks:=tk' }:=I.mD hk' λb hb'=>by rw[ZaC.mp hb'];exact hit H hHd hb
  obtain⟨its,rv,ht,_⟩:=I1.tuple (SqT.but hq hb hT);obtain⟨u1,u2,rfl,r1,r2⟩:∃ u1 u2,its=[u1,u2]/\RelV ps[i].1 u1/\RelV ps[i].2 u2:=by
   cases rv with
   |cons a t=>cases t with
    |cons b t=>cases t;exact⟨_,_,rfl,a,b⟩
  obtain⟨H',g,hR⟩:=hR;refine Zai (wpAny_holding (Zai (wpAny_tryCatch ?_)));unfold Builtin.Dict.pairItems;refine Zai (wpAny_typeOf ht.typeIs ?_);rw[Zat (by decide)]
  obtain⟨o,h1,_,m,h2⟩:=ht;refine Zai (wpAny_seqItems h1 h2 (Zav ?_));show wpAny _ A.in1 (holding [u1,u2] (dictSet d u1 u2)) _ _ _
  refine wpAny_holding (By hu I1 g r1 r2 λh2' tk2 hs2 I2=>?_);refine Zav ⟨plainId_quiet bD _,?_⟩;have:=ih (i+1) { s with heap:=h2',toks:=tk2 } H' (by omega) hlt (W.frame _ _ _ hst' λb hb' o e=>(hs2.2 b λz=>hd (by rw[<-z];exact hb')).trans e) I2
   (by rcases g with⟨_,_,_,_,_,rfl⟩|⟨_,_,_,_,_,_,_,rfl⟩<;>rw[aq]<;>simp) (λb hb'=>(mJ.other g hb').trans (hb b hb')) 0 hR
  exact this
end
theorem wI:∀ {xs:List V}{us:List Value}{i:Nat}{u:Value},Vals xs us->us[i]?=some u->∃ x,xs[i]?=some x/\RelV x u
 |[],_,i,u,r,h=>by cases r;simp at h
 |x::xs,_,i,u,r,h=>by
  cases r with
  |cons a t=>
   cases i with
   |zero=>simp at h;subst h;exact⟨x,rfl,a⟩
   |succ i=>obtain⟨y,h1,h2⟩:=wI (i:=i) t (by simpa using h);exact⟨y,by simpa using h1,h2⟩
def yG(K:Frag)(n:HO):List V->Hp->VK->Prop:=λxs H Q=>∃ p ys ps,xs=[.ref p]/\(SqL K H p ys\/H p=some (.tup ys))/\uC K H ys ps/\∀ d,H d=none->tX d ps (upd H d n) λH'=>Q (.ref d) H'
section
variable{X:Cx}
theorem yH{n:HO}(hc:X.calm=true)(hu:X.A.units+64<cLine)(hn:n=.dK []\/n=.dT []):gH X (.type "dict") (yG X.K n):=by
 intro pins s O H xs us Q I rv h;obtain⟨p,ys,ps,rfl,hq,hps,q⟩:=h;obtain⟨u,rfl,ru⟩:=rv.one;cases ru;have hh:X.A.handled=none:=I.ok.hd hc;refine callType_codes (Q₁:=λobj s₁=>obj=.ref s.heap.objs.size/\s₁={ s with heap:=s.heap.push { cls:=.type "dict",data:=.dict #[] } }) F.kt_called_dict (F.kt_typeCall_dict_1 _) F.entry_dict_init (kt_code_dict_new _ ⟨rfl,rfl⟩) ?_;rintro obj s₁ ⟨rfl,rfl⟩;have ok:bR X.prog X.w (upd H s.heap.objs.size n) (s.heap.push { cls:=.type "dict",data:=.dict #[] }) s.heap.objs.size n:=by
  rcases hn with rfl|rfl
  ·exact v9 s.heap I.big
  ·exact Dt s.heap I.big
 have hfree:H s.heap.objs.size=none:=I.hok.fresh (Zal _);have I1:Inv X pins O (upd H s.heap.objs.size n) { s with heap:=s.heap.push { cls:=.type "dict",data:=.dict #[] } }:=I.laid (a:=s.heap.objs.size) (o:=n) (t':=s.toks) (λ_ _ q=>Zae _ q) (Zal _) ok;have q:=q _ hfree;have hd1:(s.heap.push { cls:=.type "dict",data:=.dict #[] }).get? s.heap.objs.size=some { cls:=.type "dict",data:=.dict #[] }:=Zar _ rfl;have tyD:({ s with heap:=s.heap.push { cls:=.type "dict",data:=.dict #[] } }:Shared).TypeIs (.ref s.heap.objs.size) "dict":=⟨_,hd1,rfl⟩;refine⟨tyD,F.args_dict_init_2 _ _,?_⟩;unfold Builtin.«dict.__init__»;refine Zai ?_;unfold Builtin.Dict.selfAndRest;refine Zai (wpAny_notOrdered_dict tyD ?_);show wpAny _ _ (pure (s.heap.objs.size,[Value.ref p])) _ _ _
 refine Zav ?_;show wpAny _ _ (Builtin.Dict.updateFrom "dict.__init__" s.heap.objs.size (.ref p) [] .none) _ _ _
 unfold Builtin.Dict.updateFrom;have same:aB H (upd H s.heap.objs.size n):=cI hfree;have hnd:∀ (j:Nat) x pr,ys[j]?=some x->ps[j]?=some pr->∃ T,x=.ref T/\T≠s.heap.objs.size/\SqT X.K (upd H s.heap.objs.size n) T [pr.1,pr.2]:=λj x pr e1 e2=>by
  obtain⟨T,rfl,hT⟩:=hps.2 j x pr e1 e2;obtain⟨its,_,ht,_⟩:=I.tuple hT;exact⟨T,rfl,ZaB ht.lt,same.tup hT⟩
 have fin:∀ (h2:Heap) (tk:Nat) (o:Obj) (St:Nat->Heap->Prop) (its:List Value),(∀ b ob,(s.heap.push { cls:=.type "dict",data:=.dict #[] }).get? b=some ob->h2.get? b=some ob)->Vals ys its ->
   Walks X.prog X.w X.A.in1.in1 h2.objs.size [h2.objs.size,p] [h2.objs.size] its.toArray.size (λi v=>its.toArray[i]?=some v) St->St 0 (h2.push o)->p≠s.heap.objs.size->(∀ b,o.cls≠.ref b) ->
   codeAny (model X.prog X.w) X.A.in1 (.builtin "dict.update.loop" ⟨[.ref s.heap.objs.size,.ref h2.objs.size,.int (0:Nat) 0,.none],[]⟩) (wants (λr s₂=>r=.none/\EP X pins O Q (.ref s.heap.objs.size) s₂) X.xe) { s with heap:=h2.push o,toks:=tk }:=by
  intro h2 tk o St its hk rv W h0 hp _;have I2:Inv X pins O (upd H s.heap.objs.size n) { s with heap:=h2,toks:=tk }:=I1.kept hk;have I3:Inv X pins O (upd H s.heap.objs.size n) { s with heap:=h2.push o,toks:=tk }:=I2.kept (t':=tk) λb ob e=>Zae _ e;have lt1:s.heap.objs.size<h2.objs.size:=Zas (hk _ _ hd1);have hn2:upd H s.heap.objs.size n h2.objs.size=none:=I2.hok.fresh (Zal _);refine Eo (A:=X.A.in1) (ps:=ps) (H0:=upd H s.heap.objs.size n) hc W (show X.A.units+2<cLine by lia) ?_ ?_ (λHx hx1 hx2=>?_) (λi v pr hv hpr=>?_) _ 0 _ _ rfl (ZaW _) h0 I3 (by rw[aq];simp) (λ_ _=>rfl) 0 ?_
  ·rw[List.size_toArray,<-rv.length];exact hps.1.symm
  ·intro z;rcases Zaq.mp z with z|z
   ·exact absurd z (ZaB lt1)
   ·exact absurd (ZaC.mp z).symm hp
  ·exact I2.ut (Zal _) (by rw[hx2 _ (ZbY lt1)];exact hn2)
  ·rw[List.getElem?_toArray] at hv;obtain⟨y,hy,ry⟩:=wI rv hv;obtain⟨T,rfl,h1,h2⟩:=hnd i y pr hy hpr;cases ry;exact⟨T,rfl,h1,h2⟩
  ·rw[ZbX];have mono:∀ (ps:List (V×V)) (Hx:Hp) (P1 P2:Hp->Prop),(∀ H,P1 H->P2 H)->tX s.heap.objs.size ps Hx P1->tX s.heap.objs.size ps Hx P2:=by
    intro ps;induction ps with
    |nil=>exact λHx P1 P2 hP h=>hP _ h
    |cons a r ih=>exact λHx P1 P2 hP ⟨H',g,h⟩=>⟨H',g,ih _ _ _ hP h⟩
   exact mono _ _ _ _ (λHx hQ s' Is=>⟨rfl,.ref _,Hx,Is,rfl,hQ⟩) q
 rcases hq with hq|hq
 ·obtain⟨its,rv,pl,hz⟩:=I1.list (same.seq hq);have hp:p≠s.heap.objs.size:=λz=>by
   obtain⟨o,m,e,c,_⟩:=pl;rw[z,hd1] at e;cases e;exact absurd (show Value.type "dict"=Value.type "list" from c) (by decide)
  obtain⟨o,m,e,c,dn,dt⟩:=id pl;refine Zai (wpAny_typeOf (show Shared.TypeIs _ (.ref p) "list" from⟨_,e,c⟩) ?_);rw[Zat (by decide)]
  refine Zai (lQ e c dt dn qz (by decide +kernel) hh λh2 tk hk=>?_)
  rw[Zat (show(none:Option Value).isNone=true from rfl)];refine Zai (wpAny_rule (Zai (wpAny_pyIter_list ((pl.keeps hk).isList) ?_)));refine Zav ⟨plainId_quiet bD _,fin h2 tk _ _ its hk rv (Walks.list (A:=X.A.in1.in1) hh _ p (ZaB (pl.keeps hk).lt) its.toArray) ⟨⟨_,Zar _ rfl,rfl,rfl⟩,(pl.keeps λb ob eb=>Zae _ (hk b ob eb)).isList⟩ hp (λb z=>nomatch z)⟩
 ·obtain⟨_,its,rv,tn⟩:=(show bR X.prog X.w _ _ p (.tup ys) from I1.hok p _ (same _ _ hq));have hp:p≠s.heap.objs.size:=λz=>by
   obtain⟨⟨o,e,c,_⟩,_⟩:=tn;rw[z,hd1] at e;cases e;exact absurd (show Value.type "dict"=Value.type "tuple" from c) (by decide)
  obtain⟨⟨o,e,c,m,dt⟩,dn⟩:=id tn;refine Zai (wpAny_typeOf (show Shared.TypeIs _ (.ref p) "tuple" from⟨_,e,c⟩) ?_);rw[Zat (by decide)]
  refine Zai (lu e c dt (dn o e) pG (by decide +kernel) hh λh2 tk hk=>?_)
  rw[Zat (show(none:Option Value).isNone=true from rfl)];have tp:({ s with heap:=h2,toks:=tk }:Shared).heap.IsTuple p its.toArray:=⟨o,hk _ _ e,c,m,dt⟩;refine Zai (wpAny_rule (Zai (wpAny_pyIter_tuple tp ?_)));refine Zav ⟨plainId_quiet bD _,fin h2 tk _ _ its hk rv (Walks.tuple (A:=X.A.in1.in1) hh _ p (ZaB (Zas (hk _ _ e))) its.toArray) ⟨⟨_,Zar _ rfl,rfl,rfl⟩,⟨o,Zae _ (hk _ _ e),c,m,dt⟩⟩ hp (λb z=>nomatch z)⟩
end
section
variable{κ:Type}[DecidableEq κ]
def gO:List (κ×PV)->κ->Option PV
 |[],_=>none
 |(a,p)::l,k=>if a=k then some p else gO l k
def jU:List (κ×PV)->κ->PV->List (κ×PV)
 |[],k,p=>[(k,p)]
 |(a,q)::l,k,p=>if a=k then(a,p)::(if(l.any λe=>decide (e.1=k))=true then jU l k p else l) else(a,q)::jU l k p
inductive dN(K:Frag)(F:Hp):List (κ×V)->List (κ×PV)->Prop
 |nil:dN K F [] []
 |cons {k:κ}{v:V}{p:PV}{xs:List (κ×V)}{l:List (κ×PV)} (h:Rep K F v p) (t:dN K F xs l):dN K F ((k,v)::xs) ((k,p)::l)
variable{K:Frag}{F:Hp}{xs:List (κ×V)}{l:List (κ×PV)}{k:κ}
theorem dN.of:∀ {xs:List (κ×V)}{l:List (κ×PV)},xs.map (·.1)=l.map (·.1)->(∀ (j:Nat) x p,xs[j]?=some x->l[j]?=some p->Rep K F x.2 p.2)->dN K F xs l
 |[],[],_,_=>.nil
 |[],_::_,h,_=>by simp at h
 |_::_,[],h,_=>by simp at h
 |(a,v)::xs,(b,p)::l,h,hr=>by
  simp only[Zaw,List.cons.injEq] at h;obtain⟨h1,h2⟩:=h;have h1:a=b:=h1;subst h1;exact .cons (hr 0 _ _ rfl rfl) (dN.of h2 λj x p e1 e2=>hr (j+1) x p (by simpa using e1) (by simpa using e2))
theorem dN.keys(h:dN K F xs l):xs.map (·.1)=l.map (·.1):=by
 induction h with
 |nil=>rfl
 |cons h t ih=>simp[ih]
theorem dN.len(h:dN K F xs l):xs.length=l.length:=by
 have:=Zba List.length h.keys;simpa using this
theorem dN.at(h:dN K F xs l):∀ (j:Nat) x p,xs[j]?=some x->l[j]?=some p->Rep K F x.2 p.2:=by
 induction h with
 |nil=>intro j x p e;simp at e
 |cons h t ih=>
  intro j x p e1 e2;cases j with
  |zero=>simp at e1 e2;subst e1 e2;exact h
  |succ j=>exact ih j x p (by simpa using e1) (by simpa using e2)
theorem dN.none(h:dN K F xs l)(e:gO l k=none):pB xs k=none:=by
 induction h with
 |nil=>rfl
 |@cons a v p xs l h t ih=>
  unfold gO at e;split at e
  ·cases e
  ·rename_i hk;rw[jK hk];exact ih e
theorem dN.some{p:PV}(h:dN K F xs l)(e:gO l k=some p):∃ v,pB xs k=some v/\Rep K F v p:=by
 induction h with
 |nil=>cases e
 |@cons a v q xs l h t ih=>
  unfold gO at e;split at e
  ·rename_i hk;cases e;exact⟨v,mG hk,h⟩
  ·rename_i hk;obtain⟨w,h1,h2⟩:=ih e;exact⟨w,by rw[jK hk];exact h1,h2⟩
theorem dN.any(h:dN K F xs l):(xs.any λe=>decide (e.1=k))=l.any λe=>decide (e.1=k):=by
 induction h with
 |nil=>rfl
 |cons h t ih=>simp only[Zbx,ih]
theorem dN.repl{v:V}{p:PV}(h:dN K F xs l)(r:Rep K F v p):(l.any λe=>decide (e.1=k))=true->dN K F (xs.map λkv=>if kv.1=k then(kv.1,v) else kv) (jU l k p):=by
 induction h with
 |nil=>intro z;cases z
 |@cons a w q xs l h t ih=>
  intro z;unfold jU;rw[Zaw];by_cases hk:a=k
  ·rw[Zat hk,Zat hk];refine .cons r ?_;by_cases hl:(l.any λe=>decide (e.1=k))=true
   ·rw[Zat hl];exact ih hl
   ·rw[Zax hl];have hx:∀ e∈xs,¬e.1=k:=λe he z=>hl (by rw[<-t.any];exact Zb4.mpr ⟨e,he,by simpa using z⟩)
    rw[show xs.map (λkv=>if kv.1=k then(kv.1,v) else kv)=xs from by
     conv=>rhs;rw[<-List.map_id xs]
     exact Zbw λe he=>by rw[Zax (hx e he)];rfl]
    exact t
  ·rw[Zax hk,Zax hk];refine .cons h (ih ?_);rw[Zbx] at z;simpa[hk] using z
theorem dN.snoc{v:V}{p:PV}(h:dN K F xs l)(r:Rep K F v p):(l.any λe=>decide (e.1=k))=false->dN K F (xs++[(k,v)]) (jU l k p):=by
 induction h with
 |nil=>intro _;exact .cons r .nil
 |@cons a w q xs l h t ih=>
  intro z;rw[Zbx,Bool.or_eq_false_iff] at z;have hk:¬a=k:=by simpa using z.1
  unfold jU;rw[Zax hk];exact .cons h (ih z.2)
theorem dN.put{v:V}{p:PV}(h:dN K F xs l)(r:Rep K F v p):dN K F (putK xs k v) (jU l k p):=by
 unfold putK;by_cases z:(xs.any λe=>decide (e.1=k))=true
 ·rw[Zat z];exact h.repl r (by rw[<-h.any];exact z)
 ·rw[Zax z];exact h.snoc r (by rw[<-h.any];exact Bool.not_eq_true _▸z)
end
def qC:PV->Option Key
 |.int i=>some (.inl i)
 |.str x=>some (.inr x)
 |_=>none
def ji:List PV->Option (List Key)
 |[]=>some []
 |p::l=>match qC p,ji l with
  |some k,some ks=>some (k::ks)
  |_,_=>none
def yI:Key->PV
 |.inl i=>.int i
 |.inr x=>.str x
theorem qD{K:Frag}{F:Hp}{p:PV}{k:Key}{v:V}(h:qC p=some k)(r:Rep K F v p):v=kV k:=by
 cases p with
 |int i=>cases h;cases Rep.aW r;rfl
 |str x=>cases h;cases Rep.bG r;rfl
 |_=>cases h
theorem oF{K:Frag}{F:Hp}:∀ {l:List PV}{ks:List Key}{xs:List V},ji l=some ks->aZ K F xs l->xs=ks.map kV
 |[],ks,xs,h,r=>by cases h;exact r.kh
 |p::l,ks,xs,h,r=>by
  unfold ji at h;split at h
  ·rename_i k ks' h1 h2;cases h;obtain⟨v,ys,rfl,r1,r2⟩:=r.fH;rw[qD h1 r1,oF h2 r2];rfl
  ·cases h
def PV.isD:PV->Bool
 |.dk _=>true
 |.dt _=>true
 |_=>false
def DLk(K:Frag)(F H:Hp)(a:Addr):PV->Prop
 |.dk l=>∃ xs,Rd H a (.dK xs)/\xs.map (·.1)=l.map (·.1)/\∀ (j:Nat) x p,xs[j]?=some x->l[j]?=some p->Rep K F x.2 p.2
 |.dt l=>∃ xs,Rd H a (.dT xs)/\xs.map (·.1)=l.map (·.1)/\∀ (j:Nat) x p,xs[j]?=some x->l[j]?=some p->Rep K F x.2 p.2
 |_=>False
theorem DLk.up{K:Frag}{F H F' H':Hp}{a:Addr}{p:PV}(o:DLk K F H a p)(sf:aB F F')(sh:aB H H'):DLk K F' H' a p:=by
 cases p with
 |dk l=>obtain⟨xs,e,r,q⟩:=o;exact⟨xs,e.same sh,r,λj x p a b=>(q j x p a b).up sf⟩
 |dt l=>obtain⟨xs,e,r,q⟩:=o;exact⟨xs,e.same sh,r,λj x p a b=>(q j x p a b).up sf⟩
 |_=>exact o.elim
theorem Own.look{K:Frag}{F H:Hp}{a:Addr}{p:PV}(o:Own K F H a p)(d:p.isD=true):DLk K F H a p:=by
 cases p with
 |dk l=>obtain⟨xs,e,r⟩:=o;exact⟨xs,.inl e,r⟩
 |dt l=>obtain⟨xs,e,r⟩:=o;exact⟨xs,.inl e,r⟩
 |_=>cases d
def aD(K:Frag):Rel PV:=λF H v p=>p.isD=true/\∃ a,v=.ref a/\DLk K F H a p
theorem aD.up{K:Frag}:UpM (aD K):=λ_ _ _ _ _ _ u ⟨h1,b,e,o⟩=>⟨h1,b,e,o.up u.ff u.hh⟩
def asD(p:PV):Option (Res PV):=if p.isD=true then some (.ok p) else none
theorem Rep.own{K:Frag}{F H:Hp}{v:V}{p:PV}(r:Rep K F v p)(s:aB F H)(d:p.isD=true):∃ a,v=.ref a/\DLk K F H a p:=by
 cases r with
 |dk h hl hr=>exact⟨_,rfl,_,h.same s,hl,hr⟩
 |dt h hl hr=>exact⟨_,rfl,_,h.same s,hl,hr⟩
 |_=>cases d
section
variable{K:Frag}{C:Cg}{ta tb te:TE}{f g h:Fn PV}
def uQ(f:Fn PV):Fn PV:=λZ=>bnd (f Z) asD
def cG(i:Nat):Fn PV:=λZ=>bnd (mVL i Z) asD
theorem Ep(h:MJ K C (aF K) ta f):MJ K C (aD K) ta (uQ f):=by
 intro F H O Z Q r R e P;refine h.run R e P λp v F1 H1 hk u a=>?_;unfold asD at hk;split at hk
 ·rename_i hd;cases hk;exact P v F1 H1 u ⟨hd,Rep.own a u.fh hd⟩
 ·cases hk
theorem cC(i:Nat):MJ K C (aD K) (iw i) (cG i):=by
 intro F H O Z Q r R e P;unfold cG at e;rcases bj e with⟨z,e1,rfl⟩|⟨p,e1,hk⟩
 ·unfold mVL at e1;split at e1<;>cases e1
 ·unfold asD at hk;split at hk
  case isFalse=>cases hk
  rename_i hd;cases hk;unfold mVL at e1;split at e1
  ·rename_i q hq;cases e1;obtain⟨v,e2,e3⟩:=R.sh i _ hq;exact⟨v,e2,P v F H (Up.refl R.rb.sub) ⟨hd,Rep.own e3 R.rb.sub hd⟩⟩
  ·rename_i q hq;cases e1;obtain⟨a,e2,e3,_⟩:=R.ow i _ hq;exact⟨_,e2,P _ F H (Up.refl R.rb.sub) ⟨hd,a,rfl,e3.look hd⟩⟩
  ·cases e1
def dU:PV->PV->Option (Option PV)
 |.dk l,k=>(qC k).map (gO l)
 |.dt l,.tup ks=>(ji ks).map (gO l)
 |_,_=>none
theorem mX{F H:Hp}{a:Addr}{d k:PV}{y:V}{r:Option PV}(s:aB F H)(o:DLk K F H a d)(ry:Rep K F y k)(e:dU d k=some r) :
  ∃ o,mH H a y o/\(r=none->o=none)/\∀ p,r=some p->∃ v,o=some v/\Rep K F v p:=by
 have inv:(∃ l,d=.dk l)\/∃ l ks,d=.dt l/\k=.tup ks:=by
  clear o ry
  cases d<;>first|exact noS e|exact .inl ⟨_,rfl⟩|(cases k<;>first|exact noS e|exact .inr ⟨_,_,rfl,rfl⟩)
 rcases inv with⟨l,rfl⟩|⟨l,ks,rfl,rfl⟩
 ·obtain⟨xs,h1,h2,h3⟩:=o;have D:=dN.of (K:=K) (F:=F) h2 h3;have e:(qC k).map (gO l)=some r:=e;cases hk:qC k with
  |none=>rw[hk] at e;cases e
  |some k'=>
   rw[hk] at e;cases e;cases qD hk ry;exact⟨_,.inl ⟨_,_,h1,rfl,rfl⟩,λn=>D.none n,λp q=>D.some q⟩
 ·obtain⟨xs,h1,h2,h3⟩:=o;have D:=dN.of (K:=K) (F:=F) h2 h3;have e:(ji ks).map (gO l)=some r:=e;cases hk:ji ks with
  |none=>rw[hk] at e;cases e
  |some k'=>
   rw[hk] at e;cases e;obtain⟨b,ys,rfl,hb,rr⟩:=Rep.wg ry;cases oF hk rr;exact⟨_,.inr ⟨_,_,_,h1,rfl,s _ _ hb,rfl⟩,λn=>D.none n,λp q=>D.some q⟩
def gP(d k:PV):Option (Res PV):=match dU d k with
 |some (some p)=>some (.ok p)
 |_=>none
def JL:R2:=λx y H Q=>∃ a v,x=.ref a/\mH H a y (some v)/\Q v H
theorem K6:R2M C (aD K) (aF K) (aF K) JL gP:=by
 intro F H x y a b res Q s ha hb e P;obtain⟨_,ad,rfl,o⟩:=ha;unfold gP at e;split at e
 ·rename_i p hp;cases e;obtain⟨ov,g,_,g2⟩:=mX s o hb hp;obtain⟨v,rfl,rv⟩:=g2 p rfl;exact⟨ad,v,rfl,g,P v F H (Up.refl s) rv⟩
 ·cases e
def tY(k d:PV):Option (Res PV):=(dU d k).map λr=>.ok (.bl r.isSome)
def iH(k d:PV):Option (Res PV):=(dU d k).map λr=>.ok (.bl (!r.isSome))
theorem JM:R2M C (aF K) (aD K) (aF K) (λy x H Q=>∃ a o,x=.ref a/\mH H a y o/\Q (.bl o.isSome) H) tY:=by
 intro F H x y a b res Q s ha hb e P;obtain⟨_,ad,rfl,o⟩:=hb;unfold tY at e;cases hp:dU b a with
 |none=>rw[hp] at e;cases e
 |some r=>
  rw[hp] at e;cases e;obtain⟨ov,g,g1,g2⟩:=mX s o ha hp;have es:ov.isSome=r.isSome:=by
   cases r with
   |none=>rw[g1 rfl];rfl
   |some p=>obtain⟨v,rfl,_⟩:=g2 p rfl;rfl
  exact⟨ad,ov,rfl,g,by rw[es];exact P _ F H (Up.refl s) .bl⟩
theorem wJ:R2M C (aF K) (aD K) (aF K) (λy x H Q=>∃ a o,x=.ref a/\mH H a y o/\Q (.bl (!o.isSome)) H) iH:=by
 intro F H x y a b res Q s ha hb e P;obtain⟨_,ad,rfl,o⟩:=hb;unfold iH at e;cases hp:dU b a with
 |none=>rw[hp] at e;cases e
 |some r=>
  rw[hp] at e;cases e;obtain⟨ov,g,g1,g2⟩:=mX s o ha hp;have es:ov.isSome=r.isSome:=by
   cases r with
   |none=>rw[g1 rfl];rfl
   |some p=>obtain⟨v,rfl,_⟩:=g2 p rfl;rfl
  exact⟨ad,ov,rfl,g,by rw[es];exact P _ F H (Up.refl s) .bl⟩
theorem DLk.isD{F H:Hp}{a:Addr}{p:PV}(o:DLk K F H a p)(d:p.isD=true):IsD H a:=by
 cases p with
 |dk l=>obtain⟨xs,e,_⟩:=o;exact .inl ⟨xs,e⟩
 |dt l=>obtain⟨xs,e,_⟩:=o;exact .inr ⟨xs,e⟩
 |_=>cases d
def uR(f g:Fn PV):Fn PV:=λZ=>bnd (f Z) λd=>bnd (g Z) λk=>(dU d k).map λr=>.ok (r.getD .non)
theorem Er(ha:MJ K C (aD K) ta f)(hb:MJ K C (aF K) tb g):MJ K C (aF K) (yw ta tb) (uR f g):=by
 intro F H O Z Q r R e P;refine ha.run R e P ?_;rintro d v F1 H1 hk u ⟨hd,a,ea,o⟩;subst ea;refine⟨a,rfl,o.isD hd,?_⟩;refine hb.run (R.up u) hk (P.later u) λk w F2 H2 hk2 u2 b=>?_;cases hp:dU d k with
 |none=>rw[hp] at hk2;cases hk2
 |some q=>
  rw[hp] at hk2;cases hk2;obtain⟨ov,g,g1,g2⟩:=mX u2.fh (o.up u2.ff u2.hh) b hp;refine⟨ov,g,P _ F2 H2 (u.trans u2) ?_⟩;cases q with
  |none=>rw[g1 rfl];exact .non
  |some p=>obtain⟨v,rfl,rv⟩:=g2 p rfl;exact rv
def uT:PV->PV->PV->Option PV
 |.dk l,k,p=>match qC k with
  |some k=>if l.length<sizeLine then some (.dk (jU l k p)) else none
  |none=>none
 |.dt l,.tup ks,p=>match ji ks with
  |some k=>if l.length<sizeLine then some (.dt (jU l k p)) else none
  |none=>none
 |_,_,_=>none
theorem uU{F H:Hp}{a:Addr}{d k p d':PV}{y v:V}(s:aB F H)(o:Own K F H a d)(ry:Rep K F y k)(rv:Rep K F v p)(e:uT d k p=some d') :
  ∃ ob,mJ H a y v (upd H a ob)/\Own K F (upd H a ob) a d':=by
 have inv:(∃ l,d=.dk l)\/∃ l ks,d=.dt l/\k=.tup ks:=by
  clear o ry rv
  cases d<;>first|exact noS e|exact .inl ⟨_,rfl⟩|(cases k<;>first|exact noS e|exact .inr ⟨_,_,rfl,rfl⟩)
 rcases inv with⟨l,rfl⟩|⟨l,ks,rfl,rfl⟩
 ·obtain⟨xs,h1,h2,h3⟩:=o;have D:=dN.of (K:=K) (F:=F) h2 h3;have e:(match qC k with|some k=>if l.length<sizeLine then some (PV.dk (jU l k p)) else none|none=>none)=some d':=e
  split at e
  case h_2=>cases e
  rename_i k' hk;split at e
  case isFalse=>cases e
  rename_i hz;cases e;cases qD hk ry;have D':=D.put (k:=k') rv;exact⟨_,mJ.k h1 (by rw[D.len];exact hz),_,aq,D'.keys,D'.at⟩
 ·obtain⟨xs,h1,h2,h3⟩:=o;have D:=dN.of (K:=K) (F:=F) h2 h3;have e:(match ji ks with|some k=>if l.length<sizeLine then some (PV.dt (jU l k p)) else none|none=>none)=some d':=e
  split at e
  case h_2=>cases e
  rename_i k' hk;split at e
  case isFalse=>cases e
  rename_i hz;cases e;obtain⟨b,ys,rfl,hb,rr⟩:=Rep.wg ry;cases oF hk rr;have D':=D.put (k:=k') rv;exact⟨_,mJ.t h1 (s _ _ hb) (by rw[D.len];exact hz),_,aq,D'.keys,D'.at⟩
def mY(i:Nat)(fe fk:Fn PV):Sn:=λZ=>dB (fe Z) λp=>match ownAt i Z with
 |some d=>dB (fk Z) λk=>match uT d k p with
  |some d'=>some (.nx (Z.set i (some (.ow d'))))
  |none=>none
 |none=>none
theorem uV{i:Nat}{fe fk:Fn PV}(he:MJ K C (aF K) te fe)(hk:MJ K C (aF K) tb fk):MS K C (Ds (iw i) tb te) (mY i fe fk):=by
 intro F H O Z D o R e P;refine he.jM R e P λp v F1 H1 hk1 u a=>?_;split at hk1
 case h_2=>cases hk1
 rename_i d hd;obtain⟨b,g1,_⟩:=R.ow i _ (aX hd);refine⟨_,g1,hk.jM (R.up u) hk1 (P.up u.ff) λk w F2 H2 hk2 u2 rk=>?_⟩;split at hk2
 case h_2=>cases hk2
 rename_i d' hd';cases hk2;have R2:=R.up (u.trans u2);obtain⟨a',k1,k2,_⟩:=R2.ow i _ (aX hd);rw[g1] at k1;cases k1;obtain⟨ob,g,w'⟩:=uU u2.fh k2 rk (Rep.up a u2.ff) hd';exact⟨b,_,rfl,g,P F2 _ O (u.trans u2).ff (R2.write (aX hd) g1 w')⟩
theorem pR:MO K C Du tW:=by
 intro F H O Z Q r R e P;cases e;intro p hp;exact P p F _ (Up.rZ R.rb.sub hp) hp (R.rb.sub.free hp) ⟨[],aq,rfl,λj x p h=>by simp at h⟩
def asPair:PV->Option (PV×PV)
 |.tup [a,b]=>some (a,b)
 |_=>none
def gj:List PV->Option (List (PV×PV))
 |[]=>some []
 |p::l=>match asPair p,gj l with
  |some a,some r=>some (a::r)
  |_,_=>none
def dI(d:PV):List (PV×PV)->Option PV
 |[]=>some d
 |(k,p)::r=>match uT d k p with
  |some d'=>dI d' r
  |none=>none
theorem qF{F H:Hp}(s:aB F H):∀ {l:List PV}{ps:List (PV×PV)}{xs:List V},gj l=some ps->aZ K F xs l ->
  ∃ vs:List (V×V),uC K H xs vs/\vs.length=ps.length/\∀ (j:Nat) x p,vs[j]?=some x->ps[j]?=some p->Rep K F x.1 p.1/\Rep K F x.2 p.2
 |[],ps,xs,h,r=>by
  cases h;cases r.kh;exact⟨[],⟨rfl,λj x p e=>by simp at e⟩,rfl,λj x p e=>by simp at e⟩
 |p::l,ps,xs,h,r=>by
  unfold gj at h;split at h
  ·rename_i a r' h1 h2;cases h;obtain⟨v,ys,rfl,r1,r2⟩:=r.fH;obtain⟨vs,g1,g2,g3⟩:=qF s h2 r2;unfold asPair at h1;split at h1
   ·rename_i pa pb;cases h1;obtain⟨b,zs,rfl,hb,rr⟩:=Rep.bK r1;obtain⟨v1,zs1,rfl,q1,rr⟩:=rr.fH;obtain⟨v2,zs2,rfl,q2,rr⟩:=rr.fH;cases rr.kh;refine⟨(v1,v2)::vs,⟨by simp[g1.1],λj x p e1 e2=>?_⟩,by simp[g2],λj x p e1 e2=>?_⟩
    ·cases j with
     |zero=>simp at e1 e2;subst e1 e2;exact⟨b,rfl,s.tup hb⟩
     |succ j=>exact g1.2 j x p (by simpa using e1) (by simpa using e2)
    ·cases j with
     |zero=>simp at e1 e2;subst e1 e2;exact⟨q1,q2⟩
     |succ j=>exact g3 j x p (by simpa using e1) (by simpa using e2)
   ·cases h1
  ·cases h
theorem qG{F:Hp}{a:Addr}{Q:Hp->Prop}:∀ {ps:List (PV×PV)}{vs:List (V×V)}{H:Hp}{d d':PV},aB F H->F a=none->Own K F H a d->vs.length=ps.length->(∀ (j:Nat) x p,vs[j]?=some x->ps[j]?=some p->Rep K F x.1 p.1/\Rep K F x.2 p.2) ->
  dI d ps=some d'->(∀ H',aB F H'->(∀ b,b≠a->H' b=H b)->Own K F H' a d'->Q H')->tX a vs H Q
 |[],vs,H,d,d',s,hn,o,hl,hr,e,q=>by
  cases vs with
  |nil=>cases e;exact q H s (λ_ _=>rfl) o
  |cons v vs=>simp at hl
 |(k,p)::ps,vs,H,d,d',s,hn,o,hl,hr,e,q=>by
  cases vs with
  |nil=>simp at hl
  |cons v vs=>
   unfold dI at e;split at e
   case h_2=>cases e
   rename_i d1 h1;obtain⟨r1,r2⟩:=hr 0 v (k,p) rfl rfl;obtain⟨ob,g,o1⟩:=uU s o r1 r2 h1;refine⟨_,g,qG (H:=upd H a ob) (λb u z=>by rw[ao (aO z hn)];exact s b u z) hn o1 (by simpa using hl) (λj x p e1 e2=>hr (j+1) x p (by simpa using e1) (by simpa using e2)) e λH' s' hb o'=>?_⟩
   exact q H' s' (λb hb'=>(hb b hb').trans (ao hb')) o'
def kO(d:PV)(l:List PV):Option (Res PV):=match gj l with
 |some ps=>(dI d ps).map .ok
 |none=>none
theorem zO{n:HO}{d:PV}(hd:∀ F H a,H a=some n->Own K F H a d):R1O K C (aV K) (yG K n) (kO d):=by
 intro F H x l res Q s ha e P;obtain⟨b,xs,rfl,h1,r1⟩:=ha;unfold kO at e;split at e
 case h_2=>cases e
 rename_i ps hps;cases hd':dI d ps with
 |none=>rw[hd'] at e;cases e
 |some d'=>
  rw[hd'] at e;cases e;obtain⟨vs,g1,g2,g3⟩:=qF (H:=H) s hps r1;refine⟨b,xs,vs,rfl,.inl h1,g1,λa na=>?_⟩;refine qG (F:=F) (s.trans (cI na)) (s.free na) (hd _ _ _ aq) g2 g3 hd' λH' s' hb o'=>?_;exact P a F H' ⟨aB.refl _,λc o q=>by rw[hb c (aO q na),ao (aO q na)];exact q,λ_ _ q=>.inl q,s'⟩ na (s.free na) o'
theorem zP{F H:Hp}{a:Addr}(h:H a=some (.dK [])):Own K F H a (.dk []):=⟨[],h,rfl,λj x p e=>by simp at e⟩
end
section
variable{K:Frag}{C:Cg}{ta tb:TE}{f g:Fn PV}
theorem kW(ha:MJ K C (aD K) ta f)(hb:MJ K C (aF K) tb g):MJ K C (aF K) (Dr ta tb) (m2 gP f g):=aK (r2:=JL) aD.up K6 ha hb
end
section
variable{X:Cx}
theorem Es{k:Nat}(hr:cz k X.A):OpR X (compareOp .In) (λy x H Q=>∃ a o,x=.ref a/\mH H a y o/\Q (.bl o.isSome) H):=by
 intro pins s O H x y v u Q I rx ry h;obtain⟨a,o,rfl,g,q⟩:=h;cases ry;exact Ny (mq hr) I g rx λs3 I3=>⟨.bl o.isSome,H,I3,rfl,q⟩
theorem tZ{k:Nat}(hr:cz k X.A):OpR X (compareOp .NotIn) (λy x H Q=>∃ a o,x=.ref a/\mH H a y o/\Q (.bl (!o.isSome)) H):=by
 intro pins s O H x y v u Q I rx ry h;obtain⟨a,o,rfl,g,q⟩:=h;cases ry;exact Ha (mq hr) I g rx λs3 I3=>⟨.bl (!o.isSome),H,I3,rfl,q⟩
theorem qH{k:Nat}(hr:cz k X.A)(hc:X.calm=true):gH X (.type "dict") (yG X.K (.dK [])):=yH hc hr.units (.inl rfl)
end
section
variable{X:Cx}{k:Nat}{N:List Str}{scope:Scope}{cl:List (Str×Addr)}{C:Addr}{s2:Shared}{H2:Hp}{fp:List Addr}
theorem yJ(hr:cz k X.A):OpR (X.comp N scope cl C s2 H2 fp) (compareOp .NotIn) (λy x H Q=>∃ a o,x=.ref a/\mH H a y o/\Q (.bl (!o.isSome)) H):=tZ hr
theorem iI{X:Cx}{k:Nat}{o i:Expr}{pos:Pos}{td ty:TE}(hr:cz k X.A)(ho:PE X o td)(hi:PE X i ty)(hs:Ku i):PE X (.Subscript o i pos) (Dr td ty):=Hc (mq hr) ho hi hs
theorem BJ{X:Cx}{k:Nat}{o e:Expr}{apos cpos:Pos}{td ty:TE}(hr:cz k X.A)(ho:PE X o td)(he:PE X e ty)(m:M1 X o "get" apos e cpos):PE X (.Call (.Attribute o "get" apos) [e] [] cpos) (yw td ty):=Dy (mq hr) ho he m
end
section
variable{X:Cx}
def CR(a b c:Int):Prop:=0<=a/\a<2^30/\-(2^30)<=b/\b<2^30/\0<c/\c<2^30
noncomputable instance(a b c:Int):Decidable (CR a b c):=inferInstanceAs (Decidable (_/\_))
def JN:List V->Hp->VK->Prop:=λxs H Q=>∃ j:Int,xs=[.int j]/\-(2^30)<=j/\j<2^30/\∀ r,H r=none->Q (.ref r) (upd H r (.rng 0 j))
theorem BK:gH X (.type "range") JN:=by
 intro pins s O H xs us Q I rv h;obtain⟨j,rfl,h1,h2,q⟩:=h;obtain⟨u,rfl,ru⟩:=rv.one;obtain⟨t,rfl⟩:=ru;refine call_range_1 ?_;exact⟨.ref s.heap.objs.size,_,I.laid (a:=s.heap.objs.size) (o:=.rng 0 j) (t':=s.toks+1+1) (λ_ _ q=>Zae _ q) (Zal _) ⟨_,_,_,Zar _ rfl⟩,rfl,q _ (I.hok.fresh (Zal _))⟩
def wK(j:Int):List V:=(List.range j.toNat).map λi=>.int (i:Nat)
theorem uW:(2:Nat)^23<=sizeLine/\sizeLine<=2^24:=by decide
theorem Et(j:Int):Builtin.Range.rangeSize 0 j 1=(j.toNat:Int):=by rw[rangeSize_one];split<;>omega
theorem j9{acc:Array Value}{n:Nat}(h:ItemsOf (λi v=>∃ t,v=.int (0+(i:Nat)*1) t) acc n):Vals ((List.range n).map λi=>V.int (i:Nat)) acc.toList:=by
 obtain⟨hs,hv⟩:=h;have go:∀ (l:List Value) (k:Nat),(∀ (i:Nat) v,l[i]?=some v->∃ t,v=Value.int (((k+i:Nat):Int)) t)->Vals ((List.range' k l.length).map λi=>V.int (i:Nat)) l:=by
  intro l;induction l with
  |nil=>intro k _;exact .nil
  |cons v l ih=>
   intro k h;rw[ZaJ,List.range'_succ,Zaw];obtain⟨t,e⟩:=h 0 v rfl;refine .cons ⟨t,by rw[e];rfl⟩ (ih (k+1) λi v hv=>?_)
   obtain⟨t,e⟩:=h (i+1) v (by simpa using hv)
   exact⟨t,by rw[e];congr 2;omega⟩
 have:=go acc.toList 0 λi v e=>by
  obtain⟨t,e2⟩:=hv i v (by simpa using e)
  exact⟨t,by rw[e2];congr 1;omega⟩
 rwa [ZaD,hs,<-List.range_eq_range'] at this
def Eu(mk:List V->HO):List V->Hp->VK->Prop:=λxs H Q=>∃ p j,xs=[.ref p]/\H p=some (.rng 0 j)/\-(2^30)<=j/\j<=1000000/\∀ l,H l=none->Q (.ref l) (upd H l (mk (wK j)))
theorem BL{j:Int}(h:j<=1000000)(h0:-(2^62)<=j):Builtin.Range.small 0 j 1=true:=small_one (by decide) (by decide) h0 (by omega)
theorem BP(hc:X.calm=true):gH X (.type "list") (Eu .lst):=by
 intro pins s O H xs us Q I rv h;obtain⟨p,j,rfl,hp,h0,hj,q⟩:=h;obtain⟨u,rfl,ru⟩:=rv.one;cases ru;obtain⟨t,u,v,hr⟩:=(show bR X.prog X.w H s.heap p (.rng 0 j) from I.hok p _ hp);have big:=uW;refine call_list_range (I.ok.hd hc) hr (BL hj (by omega)) (Et j) (by omega) λh' tk acc c' hk hS hacc=>?_
 have hv:=j9 hacc;refine⟨.ref s.heap.objs.size,_,I.laid (a:=s.heap.objs.size) (t':=tk) (o:=.lst (wK j)) hk (Zal _) (show bR X.prog X.w _ _ _ (.lst (wK j)) from⟨?_,acc.toList,c',hv,by simpa using hS⟩),rfl,q _ (I.hok.fresh (Zal _))⟩
 unfold wK;rw[Zab,ZaE];omega
end
section
variable{K:Frag}{C:Cg}{F:Hp}{te:TE}{f:Fn PV}
def Ew(mk:List PV->PV):PV->Option (Res PV)
 |.int j=>if -(2^30)<=j/\j<=1000000 then some (.ok (mk ((List.range j.toNat).map λi=>.int (i:Nat)))) else none
 |_=>none
theorem yK(n:Nat):aZ K F ((List.range n).map λi=>V.int (i:Nat)) ((List.range n).map λi=>PV.int (i:Nat)):=by
 refine⟨by simp,λj x p a b=>?_⟩
 rw[Zaf] at a b;cases h:(List.range n)[j]? with
 |none=>rw[h] at a;cases a
 |some i=>rw[h] at a b;cases a;cases b;exact .int
theorem Hw(h:MJ K C (aF K) te f):MO K C (tCB (Eu .lst) (dw (tCB JN (dw te lr)) lr)) (m1 (Ew .lst) f):=by
 intro F H O Z Q r R e P;refine h.run R e P λp v F1 H1 hk u a=>?_
 match p,hk with
 |.int j,hk=>
  have hk:(if -(2^30)<=j/\j<=1000000 then some (Res.ok (PV.lst ((List.range j.toNat).map λi=>PV.int (i:Nat)))) else none)=some r:=hk;split at hk
  ·rename_i hj;cases hk;cases Rep.aW a;refine⟨j,rfl,hj.1,by omega,λrr hr=>⟨rr,j,rfl,aq,hj.1,hj.2,λl hl=>?_⟩⟩
   have u1:=Up.rZ (o:=.rng 0 j) u.fh hr;have un:=Up.rZ (o:=.lst (wK j)) u1.fh hl;exact P l _ _ (u.trans (u1.trans un)) (u.hh.free (u1.hh.free hl)) (u1.fh.free hl) ⟨_,aq,yK _⟩
  ·cases hk
end
def POk(K:Frag)(C:Cg)(F:Hp)(D:Ends)(i:Nat)(c:Option (Option V)):Out->Prop
 |.nx Z=>∀ F' H' O,aB F F'->RE K C.toCf F' H' O Z->O[i]?=c->D.nx O H'
 |.bk Z=>∀ F' H' O,aB F F'->RE K C.toCf F' H' O Z->O[i]?=c->D.bk O H'
 |.ct Z=>∀ F' H' O,aB F F'->RE K C.toCf F' H' O Z->O[i]?=c->D.ct O H'
 |o=>PO' K C F D o
def MSk(K:Frag)(C:Cg)(i:Nat)(t:TS)(f:Sn):Prop:=∀ F H O Z D o,RE K C.toCf F H O Z->f Z=some o->POk K C F D i (O[i]?) o->t D O H
def MGk(K:Frag)(C:Cg)(i:Nat)(g:TG)(tg:PV->Rho->Option Rho):Prop:=
 ∀ F H O Z v p Z' Q,RE K C.toCf F H O Z->Rep K F v p->tg p Z=some Z'->(∀ O',RE K C.toCf F H O' Z'->O'[i]?=O[i]?->Q O' H)->g v O H Q
section
variable{K:Frag}{C:Cg}{i:Nat}{te:TE}{F H:Hp}{O:St}{Z:Rho}{D:Ends}{t u:TS}{f g:Sn}{o:Out}{c:Option (Option V)}
theorem POk.up{F1:Hp}(h:POk K C F D i c o)(s:aB F F1):POk K C F1 D i c o:=by
 cases o with
 |nx Z=>exact λF' H' O a=>h F' H' O (s.trans a)
 |bk Z=>exact λF' H' O a=>h F' H' O (s.trans a)
 |ct Z=>exact λF' H' O a=>h F' H' O (s.trans a)
 |rt p=>exact λv F' H' a=>h v F' H' (s.trans a)
 |ro p=>exact λv F' H' a=>h v F' H' (s.trans a)
 |rd p=>exact λv F' H' S a=>h v F' H' S (s.trans a)
 |ex z=>exact PX.up h s
theorem mZ(j:Nat)(h:j≠i):MGk K C i (oW j) (gN j):=λF H O Z v p Z' Q R r e k=>by
 cases e;exact k _ (R.set j r) (Zam h)
theorem MT.Ex{tt:TT}{fe:Fn Bool}{Q:Bool->Hp->Prop}{k:Bool->Option Out}(h:MT K C tt fe)(R:RE K C.toCf F H O Z)(hb:dB (fe Z) k=some o)(P:POk K C F D i c o)
  (go:∀ b F1 H1,k b=some o->Up F H F1 H1->Q b H1):tt O H Q:=by
 rcases b8 hb with⟨z,e,rfl⟩|⟨p,e,hk⟩
 ·exact h F H O Z Q _ R e P
 ·exact h F H O Z Q _ R e λF1 H1 u=>go p F1 H1 hk u
theorem MJ.Ex{α:Type}{A:Rel α}{ta:TE}{fe:Fn α}{Q:VK}{k:α->Option Out}(h:MJ K C A ta fe)(R:RE K C.toCf F H O Z)(hb:dB (fe Z) k=some o)(P:POk K C F D i c o)
  (go:∀ p v F1 H1,k p=some o->Up F H F1 H1->A F1 H1 v p->Q v H1):ta O H Q:=by
 rcases b8 hb with⟨z,e,rfl⟩|⟨p,e,hk⟩
 ·exact h F H O Z Q _ R e P
 ·exact h F H O Z Q _ R e λv F1 H1 u a=>go p v F1 H1 hk u a
theorem pU{fe:Fn PV}{gt:TG}{tg:PV->Rho->Option Rho}(h:MJ K C (aF K) te fe)(hg:MGk K C i gt tg):MSk K C i (yd te gt) (dX fe tg):=by
 intro F H O Z D o R e P;refine h.Ex R e P λp v F1 H1 hk u a=>?_;split at hk
 ·rename_i Z' h1;cases hk;exact hg F1 H1 O Z v p Z' _ (R.up u) a h1 λO' R' k=>P F1 H1 O' u.ff R' k
 ·cases hk
theorem m7(h1:MSk K C i t f)(h2:MSk K C i u g):MSk K C i (Ka t u) (bA f g):=by
 intro F H O Z D o R e P;unfold bA at e;split at e
 ·rename_i Z' h;refine h1 F H O Z _ _ R h ?_;exact λF' H' O' s R' k=>h2 F' H' O' Z' D o R' e (by rw[k];exact P.up s)
 ·rename_i x hx;cases o with
  |nx Z'=>exact absurd e (hx Z')
  |bk Z=>exact h1 F H O _ _ _ R e P
  |ct Z=>exact h1 F H O _ _ _ R e P
  |rt p=>exact h1 F H O _ _ _ R e P
  |ro p=>exact h1 F H O _ _ _ R e P
  |rd p=>exact h1 F H O _ _ _ R e P
  |ex z=>exact h1 F H O _ _ _ R e P
end
def New(H F' H':Hp)(S:Addr->Prop):Prop:=∀ b,S b->H b=none/\F' b=none/\∃ o,H' b=some o/\∀ ys,o≠.tup ys
def MD(K:Frag)(C:Cg)(te:TE)(f:Fn PV):Prop:=
 ∀ F H O Z Q r,RE K C.toCf F H O Z->f Z=some r->Pr C F (λp=>∀ v F' H' S,Up F H F' H'->Dp K F' H' S v p->New H F' H' S->Q v H') r->te O H Q
def spD(K:Frag)(XR:Hp->Value->Option Addr->PV->Prop)(m:List PV->Option (Res PV)):Sp:=λvs H Q E=>∃ ps F r,aB F H/\aZ K F vs ps/\m ps=some r/\match r with
 |.ok p=>∀ v F' H' S,Up F H F' H'->Dp K F' H' S v p->New H F' H' S->Q v H'
 |.ex z=>∀ e d F' H',Up F H F' H'->XR F' e d z->E e d H'
section
variable{K:Frag}{C:Cg}{te:TE}{F F1 F2 H H1 H2:Hp}{O:St}{Z:Rho}{D:Ends}{t u:TS}{f g:Sn}{o:Out}{S:Addr->Prop}{v:V}{p:PV}
theorem New.up(n:New H F1 H1 S)(u:Up F1 H1 F2 H2):New H F2 H2 S:=λb q=>by
 obtain⟨n0,n1,o,n2,n3⟩:=n b q;refine⟨n0,?_,o,u.hh _ _ n2,n3⟩;cases e:F2 b with
 |none=>rfl
 |some o'=>
  rcases u.fr b o' e with z|z|⟨ys,z⟩
  ·rw[n1] at z;cases z
  ·rw[n2] at z;cases z
  ·subst z;have w:=u.fh _ _ e;rw[u.hh _ _ n2] at w;cases w;exact absurd rfl (n3 ys)
theorem Dp.stay(d:Dp K F1 H1 S v p)(u:Up F1 H1 F2 H2):Dp K F2 H2 S v p:=d.up u.ff (λb o _ q=>u.hh b o q) λb ys q=>u.hh b _ q
def sE(F H:Hp)(S:Addr->Prop):Hp:=λb=>@ite _ (S b\/∃ ys,H b=some (.tup ys)) (Classical.propDecidable _) (H b) (F b)
theorem ik{b:Addr}(h:S b\/∃ ys,H b=some (.tup ys)):sE F H S b=H b:=@if_pos _ (Classical.propDecidable _) h _ _ _
theorem fL{b:Addr}(h:¬(S b\/∃ ys,H b=some (.tup ys))):sE F H S b=F b:=@if_neg _ (Classical.propDecidable _) h _ _ _
theorem gF(s:aB F H):aB F (sE F H S):=λb o e=>by
 by_cases h:S b\/∃ ys,H b=some (.tup ys)
 ·rw[ik h];exact s b o e
 ·rw[fL h];exact e
theorem qI(s:aB F H):aB (sE F H S) H:=λb o e=>by
 by_cases h:S b\/∃ ys,H b=some (.tup ys)
 ·rw[ik h] at e;exact e
 ·rw[fL h] at e;exact s b o e
theorem wL(d:Dp K F H S v p)(s:aB F H):Rep K (sE F H S) v p:=
 d.seen (gF s) (λb o q e=>by rw[ik (.inl q)];exact e) λb ys e=>by rw[ik (.inr ⟨ys,e⟩)];exact e
theorem Hy(u:Up F H F1 H1)(n:New H F1 H1 S):Up F H (sE F1 H1 S) H1 where
 ff:=u.ff.trans (gF u.fh)
 hh:=u.hh
 fr:=λb o e=>by
  by_cases h:S b\/∃ ys,H1 b=some (.tup ys)
  ·rw[ik h] at e;rcases h with h|⟨ys,h⟩
   ·exact .inr (.inl (n b h).1)
   ·rw[h] at e;cases e;exact .inr (.inr ⟨ys,rfl⟩)
  ·rw[fL h] at e;exact u.fr b o e
 fh:=qI u.fh
theorem yL{fe:Fn PV}(h:MD K C te fe):MJ K C (aF K) te fe:=λF H O Z Q r R e P=>
 h F H O Z Q r R e (Pr.mono P (aB.refl _) λp q v F' H' S u d n=>q v _ H' (Hy u n) (wL d u.fh))
def wM(fe:Fn PV):Fn PV:=λZ=>bnd (fe Z) λp=>match p with
 |.lst l=>if l.all PV.still=true then some (.ok (.lst l)) else none
 |_=>none
theorem JP{fe:Fn PV}(h:MO K C te fe):MD K C te (wM fe):=by
 intro F H O Z Q r R e P;rcases bj e with⟨z,e1,rfl⟩|⟨p,e1,hk⟩
 ·exact h F H O Z Q _ R e1 P
 ·split at hk
  ·rename_i l;split at hk
   ·rename_i hl;cases hk;refine h F H O Z Q _ R e1 λa F' H' u n1 n2 w=>?_;obtain⟨xs,e2,e3⟩:=w;refine P _ F' H' (λb=>b=a) u ?_ ?_
    ·refine .lst (S:=λ_ _=>False) e2 rfl (λj b q=>q.elim) (λi j b q=>q.elim) e3.1 λj x p e4 e5=>.fr (e3.2 j x p e4 e5) ?_;exact Za2.mp hl p (Zao e5)
    ·rintro b rfl;exact⟨n1,n2,_,e2,λys q=>by cases q⟩
   ·cases hk
  ·cases hk
def qJ(fe:Fn PV):Fn PV:=λZ=>bnd (fe Z) λp=>if p.still=true then some (.ok p) else none
theorem wN{fe:Fn PV}(h:MJ K C (aF K) te fe):MD K C te (qJ fe):=by
 intro F H O Z Q r R e P;rcases bj e with⟨z,e1,rfl⟩|⟨p,e1,hk⟩
 ·exact h F H O Z Q _ R e1 P
 ·split at hk
  ·rename_i hp;cases hk;exact h F H O Z Q _ R e1 λv F' H' u w=>P v F' H' (λ_=>False) u (.fr w hp) λb q=>q.elim
  ·cases hk
theorem m8{t:TA}{fe:Fn (List PV)}{m:List PV->Option (Res PV)}(h:MA K C t fe):MD K C (qg (spD K C.XR m) [] C.E t) (dz m fe):=by
 intro F H O Z Q r R e P;refine h.run R e P λl xs F1 H1 hk u a=>?_;refine⟨l,F1,r,u.fh,by rw[ZaX];exact a,hk,?_⟩
 cases r with
 |ok p=>exact λv F' H' S u' d n=>P v F' H' S (u.trans u') d λb q=>⟨u.hh.free (n b q).1,(n b q).2⟩
 |ex z=>exact λe d F' H' u' x=>P e d F' H' (u.trans u').ff (R.rb.up (u.trans u')) x
def Dps(K:Frag)(F H:Hp)(S:Nat->Addr->Prop)(xs:List V)(l:List PV):Prop:=
 xs.length=l.length/\(∀ i j b,S i b->S j b->i=j)/\∀ (j:Nat) x p,xs[j]?=some x->l[j]?=some p->Dp K F H (S j) x p
def m9(i:Nat)(Z:Rho):Option PV:=match Z[i]? with
 |some (some (.dp p))=>some p
 |_=>none
theorem cM{i:Nat}{p:PV}(h:m9 i Z=some p):Z[i]?=some (some (.dp p)):=by
 unfold m9 at h;split at h
 ·rename_i q hq;cases h;exact hq
 ·cases h
theorem RE.NQ{C:Cf}(R:RE K C F H O Z)(i:Nat)(u:Up F H F1 H1)(d:Dp K F1 H1 S v p)(n:New H F1 H1 S)(nw:C.nw):RE K C F1 H1 (O.set i (some v)) (Z.set i (some (.dp p))) where
 rb:=R.rb.up u
 len:=by simp[R.len]
 sh:=λj q e=>by
  rcases get_set e with⟨e1,e2⟩|⟨e1,e2⟩
  ·cases e2
  ·obtain⟨w,e3,e4⟩:=(R.up u).sh j q e2;exact⟨w,by rw[Zam e1];exact e3,e4⟩
 ow:=λj q e=>by
  rcases get_set e with⟨e1,e2⟩|⟨e1,e2⟩
  ·cases e2
  ·obtain⟨w,e3,e4⟩:=(R.up u).ow j q e2;exact⟨w,by rw[Zam e1];exact e3,e4⟩
 dis:=λj k q q' b e e' f f'=>by
  rcases get_set e with⟨e1,e2⟩|⟨e1,e2⟩
  ·cases e2
  ·rcases get_set e' with⟨e1',e2'⟩|⟨e1',e2'⟩
   ·cases e2'
   ·rw[Zam e1] at f;rw[Zam e1'] at f';exact R.dis j k q q' b e2 e2' f f'
 dd:=by
  obtain⟨P,d0⟩:=R.dd;have d1:=d0.up u;refine⟨λj b=>if j=i then S b else P j b,λj b q=>?_,λj k b a1 a2=>?_,λj k q b z e f=>?_,λj q e=>?_⟩
  ·by_cases hj:j=i
   ·simp only[hj,ZbE] at q;obtain⟨c1,c2,c3⟩:=n b q;exact⟨c2,c3,nw,R.rb.oY c1⟩
   ·simp only[hj,Zbb] at q;exact d1.own j b q
  ·by_cases hj:j=i<;>by_cases hk:k=i
   ·rw[hj,hk]
   ·simp only[hj,hk,ZbE,Zbb] at a1 a2;obtain⟨_,⟨o,c,_⟩,_⟩:=d0.own k b a2;rw[(n b a1).1] at c;cases c
   ·simp only[hj,hk,ZbE,Zbb] at a1 a2;obtain⟨_,⟨o,c,_⟩,_⟩:=d0.own j b a1;rw[(n b a2).1] at c;cases c
   ·simp only[hj,hk,Zbb] at a1 a2;exact d0.dis j k b a1 a2
  ·rcases get_set e with⟨e1,e2⟩|⟨e1,e2⟩
   ·cases e2
   ·rw[Zam e1] at f;by_cases hj:j=i
    ·simp only[hj,ZbE] at z;exact R.apart (n b z).1 k q e2 f
    ·simp only[hj,Zbb] at z;exact d0.ow j k q b z e2 f
  ·rcases get_set e with⟨e1,e2⟩|⟨e1,e2⟩
   ·subst e1;cases e2;have:=bI e;refine⟨v,by rw[ZaQ (by rw[R.len];simpa using this)],?_⟩
    simp only[ZbE];exact d
   ·obtain⟨w,e3,e4⟩:=d1.dp j q e2;refine⟨w,by rw[Zam e1];exact e3,?_⟩
    simp only[Zbm e1,Zbb];exact e4
def t6(i:Nat)(fe:Fn PV):Sn:=λZ=>dB (fe Z) λp=>some (.nx (Z.set i (some (.dp p))))
theorem uX{i:Nat}{fe:Fn PV}(nw:C.nw)(h:MD K C te fe):MS K C (yd te (oW i)) (t6 i fe):=by
 intro F H O Z D o R e P;rcases b8 e with⟨z,e1,rfl⟩|⟨p,e1,hk⟩
 ·exact h F H O Z _ _ R e1 P
 ·cases hk;exact h F H O Z _ _ R e1 λv F1 H1 S u d n=>P F1 H1 _ u.ff (R.NQ i u d n nw)
theorem RE.Ey{C:Cf}(R:RE K C F H O Z){i:Nat}(e:Z[i]?=some (some (.dp p))):∃ S v,O[i]?=some (some v)/\Dp K F H S v p/\(∀ b,S b->F b=none/\(∃ o,H b=some o/\∀ ys,o≠.tup ys)/\C.H0 b=none)/\RE K C (sE F H S) H O (Z.set i (some (.sh p))):=by
 obtain⟨P,d⟩:=R.dd;obtain⟨v,e1,e2⟩:=d.dp i p e;have li:=bI e;have sf:aB F (sE F H (P i)):=gF R.rb.sub;refine⟨P i,v,e1,e2,λb q=>⟨(d.own i b q).1,(d.own i b q).2.1,(d.own i b q).2.2.2⟩,⟨⟨qI R.rb.sub,R.rb.keep,λb o q=>?_,R.rb.ios⟩,by simp[R.len],λj q f=>?_,λj q f=>?_,λj k q q' b f f' g g'=>?_,?_⟩⟩
 ·by_cases h:P i b\/∃ ys,H b=some (.tup ys)
  ·rw[ik h] at q;rcases h with h|⟨ys,h⟩
   ·exact .inr (.inl (d.own i b h).2.2.2)
   ·rw[h] at q;cases q;exact .inr (.inr ⟨ys,rfl⟩)
  ·rw[fL h] at q;exact R.rb.new b o q
 ·rcases get_set f with⟨f1,f2⟩|⟨f1,f2⟩
  ·subst f1;cases f2;exact⟨v,e1,wL e2 R.rb.sub⟩
  ·obtain⟨w,g1,g2⟩:=R.sh j q f2;exact⟨w,g1,g2.up sf⟩
 ·rcases get_set f with⟨f1,f2⟩|⟨f1,f2⟩
  ·cases f2
  ·obtain⟨b,g1,g2,g3,g4⟩:=R.ow j q f2;refine⟨b,g1,g2.up sf λ_ z=>z,?_,g4⟩;rw[fL]
   ·exact g3
   ·rintro(z|⟨ys,z⟩)
    ·exact d.ow i j q b z f2 g1
    ·exact g2.qm z
 ·rcases get_set f with⟨f1,f2⟩|⟨f1,f2⟩
  ·cases f2
  ·rcases get_set f' with⟨f1',f2'⟩|⟨f1',f2'⟩
   ·cases f2'
   ·exact R.dis j k q q' b f2 f2' g g'
 ·refine⟨λj b=>j≠i/\P j b,λj b z=>?_,λj k b a1 a2=>d.dis j k b a1.2 a2.2,λj k q b z f g=>?_,λj q f=>?_⟩
  ·obtain⟨c1,c2,c3⟩:=d.own j b z.2;refine⟨?_,c2,c3⟩;rw[fL]
   ·exact c1
   ·rintro(y|⟨ys,y⟩)
    ·exact z.1 (d.dis j i b z.2 y)
    ·obtain⟨o,c4,c5⟩:=c2;rw[y] at c4;cases c4;exact c5 ys rfl
  ·rcases get_set f with⟨f1,f2⟩|⟨f1,f2⟩
   ·cases f2
   ·exact d.ow j k q b z.2 f2 g
  ·rcases get_set f with⟨f1,f2⟩|⟨f1,f2⟩
   ·cases f2
   ·obtain⟨w,g1,g2⟩:=d.dp j q f2;refine⟨w,g1,(g2.up sf (λ_ _ _ q=>q) λ_ _ q=>q).mono λb z=>⟨Zbm f1,z⟩⟩
def mFz(i:Nat)(fe:Fn PV):Fn PV:=λZ=>match m9 i Z with
 |some p=>bnd (fe (Z.set i (some (.sh p)))) λq=>if q.flat=true then some (.ok q) else none
 |none=>none
theorem M9{i:Nat}{fe:Fn PV}(h:MJ K C (aF K) te fe):MJ K C (aF K) te (mFz i fe):=by
 intro F H O Z Q r R e P;unfold mFz at e;split at e
 ·rename_i p hp;obtain⟨S,v,_,_,_,R'⟩:=R.Ey (cM hp);have sf:aB F (sE F H S):=gF R.rb.sub;rcases bj e with⟨z,e1,rfl⟩|⟨q,e1,hk⟩
  ·exact h _ H O _ Q _ R' e1 (PX.up P sf)
  ·split at hk
   ·rename_i hq;cases hk;exact h _ H O _ Q _ R' e1 λw F1 H1 u rw'=>P w F H1 ⟨aB.refl _,u.hh,λ_ _ z=>.inl z,R.rb.sub.trans u.hh⟩ (Rep.free rw' hq)
   ·cases hk
 ·cases e
def oG(i:Nat):Sn:=λZ=>match m9 i Z with
 |some p=>some (.rd p)
 |none=>none
theorem Ez(i:Nat):MS K C (Az (iw i)) (oG i):=by
 intro F H O Z D o R e P;unfold oG at e;split at e
 ·rename_i p hp;cases e;obtain⟨S,v,e1,e2,e3,_⟩:=R.Ey (cM hp);exact⟨_,e1,P v F H S (aB.refl _) R.rb e2 e3⟩
 ·cases e
end
section
variable{K:Frag}{C:Cg}{F H:Hp}{O:St}{Z:Rho}{f g:Sn}{o:Out}{S:Addr->Prop}{v:V}{p:PV}
theorem Dp.bJ{l:List PV}(d:Dp K F H S v (.lst l)):∃ (T:Nat->Addr->Prop) (a:Addr) (xs:List V),v=.ref a/\H a=some (.lst xs)/\S a/\(∀ j b,T j b->S b/\b≠a)/\Dps K F H T xs l:=by
 cases d with
 |fr h st=>cases st
 |lst h hp hs dj hl hr=>exact⟨_,_,_,rfl,h,hp,hs,hl,dj,hr⟩
theorem RE.yM{C:Cf}(R:RE K C F H O Z){P:Nat->Addr->Prop}(d:RD K C F H O Z P){i:Nat}(e:Z[i]?=some (some (.dp p)))(e1:O[i]?=some (some v)){a:Addr}{ob:HO}(ha:P i a)(ho:∀ ys,ob≠.tup ys){p':PV}{S':Addr->Prop}
  (hd:Dp K F (upd H a ob) S' v p')(hS:∀ b,S' b->P i b\/(F b=none/\(∃ o,H b=some o/\∀ ys,o≠.tup ys)/\C.nw/\C.H0 b=none/\(∀ j,¬P j b)/\∀ (j:Nat) q,Z[j]?=some (some (.ow q))->O[j]?≠some (some (.ref b)))) :
  RE K C F (upd H a ob) O (Z.set i (some (.dp p'))):=by
 obtain⟨c1,⟨oa,c2,c3⟩,c4,c5⟩:=d.own i a ha;have hio:¬C.io a:=λz=>(R.rb.ios a z).2 c5;refine⟨⟨λb o q=>by rw[ao (λz=>by subst z;rw[c1] at q;cases q)];exact R.rb.sub b o q,λb o q z=>by rw[ao (λy=>by subst y;rw[c5] at q;cases q)];exact R.rb.keep b o q z,R.rb.new,λb z=>?_⟩,by simp[R.len],λj q f=>?_,λj q f=>?_,λj k q q' b f f' g g'=>?_,?_⟩
 ·refine⟨?_,(R.rb.ios b z).2⟩;rw[ao (λy=>by subst y;exact hio z)];exact(R.rb.ios b z).1
 ·rcases get_set f with⟨f1,f2⟩|⟨f1,f2⟩
  ·cases f2
  ·exact R.sh j q f2
 ·rcases get_set f with⟨f1,f2⟩|⟨f1,f2⟩
  ·cases f2
  ·obtain⟨b,g1,g2,g3,g4⟩:=R.ow j q f2;have nb:b≠a:=λz=>by subst z;exact d.ow i j q b ha f2 g1
   refine⟨b,g1,?_,g3,g4⟩;cases q with
   |lst l=>obtain⟨xs,k1,k2⟩:=g2;exact⟨xs,by rw[ao nb];exact k1,k2⟩
   |dk l=>obtain⟨xs,k1,k2⟩:=g2;exact⟨xs,by rw[ao nb];exact k1,k2⟩
   |dt l=>obtain⟨xs,k1,k2⟩:=g2;exact⟨xs,by rw[ao nb];exact k1,k2⟩
   |_=>exact g2.elim
 ·rcases get_set f with⟨f1,f2⟩|⟨f1,f2⟩
  ·cases f2
  ·rcases get_set f' with⟨f1',f2'⟩|⟨f1',f2'⟩
   ·cases f2'
   ·exact R.dis j k q q' b f2 f2' g g'
 ·have up:∀ b o,H b=some o->(∀ ys,o≠.tup ys)->∃ o',upd H a ob b=some o'/\∀ ys,o'≠.tup ys:=λb o q z=>by
   by_cases h:b=a
   ·subst h;exact⟨ob,aq,ho⟩
   ·exact⟨o,by rw[ao h];exact q,z⟩
  refine⟨λj b=>if j=i then S' b else P j b,λj b z=>?_,λj k b a1 a2=>?_,λj k q b z f g=>?_,λj q f=>?_⟩
  ·by_cases hj:j=i
   ·simp only[hj,ZbE] at z;rcases hS b z with w|⟨w1,⟨o,w2,w2'⟩,w3,w4,_⟩
    ·obtain⟨k1,⟨o,k2,k3⟩,k4⟩:=d.own i b w;exact⟨k1,up b o k2 k3,k4⟩
    ·exact⟨w1,up b o w2 w2',w3,w4⟩
   ·simp only[hj,Zbb] at z;obtain⟨k1,⟨o,k2,k3⟩,k4⟩:=d.own j b z;exact⟨k1,up b o k2 k3,k4⟩
  ·by_cases hj:j=i<;>by_cases hk:k=i
   ·rw[hj,hk]
   ·simp only[hj,hk,ZbE,Zbb] at a1 a2;rcases hS b a1 with w|⟨_,_,_,_,w,_⟩
    ·rw[hj];exact d.dis i k b w a2
    ·exact absurd a2 (w k)
   ·simp only[hj,hk,ZbE,Zbb] at a1 a2;rcases hS b a2 with w|⟨_,_,_,_,w,_⟩
    ·rw[hk];exact d.dis j i b a1 w
    ·exact absurd a1 (w j)
   ·simp only[hj,hk,Zbb] at a1 a2;exact d.dis j k b a1 a2
  ·rcases get_set f with⟨f1,f2⟩|⟨f1,f2⟩
   ·cases f2
   ·by_cases hj:j=i
    ·simp only[hj,ZbE] at z;rcases hS b z with w|⟨_,_,_,_,_,w⟩
     ·exact d.ow i k q b w f2 g
     ·exact w k q f2 g
    ·simp only[hj,Zbb] at z;exact d.ow j k q b z f2 g
  ·rcases get_set f with⟨f1,f2⟩|⟨f1,f2⟩
   ·subst f1;cases f2;refine⟨v,e1,?_⟩;simp only[ZbE];exact hd
   ·obtain⟨w,g1,g2⟩:=d.dp j q f2;refine⟨w,g1,?_⟩;simp only[Zbm f1,Zbb];refine g2.up (aB.refl _) (λb o z q=>?_) λb ys q=>?_
    ·rw[ao (λy=>by subst y;exact f1 (d.dis i j b ha z))];exact q
    ·rw[ao (λy=>by subst y;rw[c2] at q;cases q;exact c3 ys rfl)];exact q
end
section
variable{K:Frag}{C:Cg}{te tb:TE}{F F1 F2 H H1 H2:Hp}{O:St}{Z:Rho}{D:Ends}{u:TS}{f:Sn}{o:Out}{S:Addr->Prop}{v:V}{p:PV}
theorem Dp.bK{l:List PV}(d:Dp K F H S v (.tup l))(hl:(PV.tup l).still=false):∃ (T:Nat->Addr->Prop) (a:Addr) (xs:List V),v=.ref a/\H a=some (.tup xs)/\(∀ j b,T j b->S b)/\Dps K F H T xs l:=by
 cases d with
 |fr h st=>rw[hl] at st;cases st
 |tup h hs dj hl hr=>exact⟨_,_,_,rfl,h,hs,hl,dj,hr⟩
theorem Dps.put{T:Nat->Addr->Prop}{xs:List V}{l:List PV}(h:Dps K F H T xs l){j:Nat}{b:Addr}{ob:HO}(hb:T j b)(nt:∀ ys,H b≠some (.tup ys)){x:V}{q:PV}(ex:xs[j]?=some x)(d:Dp K F (upd H b ob) (T j) x q):Dps K F (upd H b ob) T xs (l.set j q):=by
 refine⟨by simp[h.1],h.2.1,λk y r e1 e2=>?_⟩
 rcases get_set e2 with⟨f1,f2⟩|⟨f1,f2⟩
 ·subst f1;subst f2;rw[ex] at e1;cases e1;exact d
 ·exact(h.2.2 k y r e1 f2).up (aB.refl _) (λc o z e=>by rw[ao (λw=>by subst w;exact f1 (h.2.1 j k c hb z))];exact e) λc ys e=>by rw[ao (λw=>by subst w;exact nt ys e)];exact e
def wO(i:Nat)(fi fe:Fn PV):Sn:=λZ=>match m9 i Z with
 |some (.lst l)=>dB (fi Z) λk=>match k with
  |.int k=>match ixN l.length k with
   |some j=>match l[j]? with
    |some (.lst row)=>dB (fe Z) λq=>if q.still=true/\row.length<sizeLine then some (.nx (Z.set i (some (.dp (.lst (l.set j (.lst (row++[q])))))))) else none
    |_=>none
   |none=>none
  |_=>none
 |some (.tup l)=>if(PV.tup l).still=false then dB (fi Z) λk=>match k with
  |.int k=>match ixN l.length k with
   |some j=>match l[j]? with
    |some (.lst row)=>dB (fe Z) λq=>if q.still=true/\row.length<sizeLine/\(PV.tup (l.set j (.lst (row++[q])))).still=false then some (.nx (Z.set i (some (.dp (.tup (l.set j (.lst (row++[q])))))))) else none
    |_=>none
   |none=>none
  |_=>none else none
 |_=>none
theorem Dp.snoc{b:Addr}{T:Nat->Addr->Prop}{ys:List V}{row:List PV}{q:PV}(e:H b=some (.lst ys))(sb:S b)(ht:∀ j c,T j c->S c/\c≠b)(d:Dps K F H T ys row)(r:Rep K F v q)(st:q.still=true):Dp K F (upd H b (.lst (ys++[v]))) S (.ref b) (.lst (row++[q])):=by
 refine .lst (S:=λj c=>j<ys.length/\T j c) aq sb (λj c z=>ht j c z.2) (λi j c z z'=>d.2.1 i j c z.2 z'.2) (by simp[d.1]) λj x p e1 e2=>?_
 by_cases hj:j<ys.length
 ·rw[Zah hj] at e1;rw[Zah (by rw[<-d.1];exact hj)] at e2
  refine((d.2.2 j x p e1 e2).up (aB.refl _) (λc o z e=>by rw[ao (ht j c z).2];exact e) λc zs e'=>?_).mono λc z=>⟨hj,z⟩
  rw[ao (λw=>by subst w;rw[e] at e';cases e')];exact e'
 ·rw[Zap (by omega)] at e1
  rw[Zap (by rw[<-d.1];omega)] at e2
  have ej:j=ys.length:=by
   have:=bI e1;simp at this;omega
  rw[ej,Zcj] at e1;rw[ej,d.1,Zcj] at e2;cases e1;cases e2;exact .fr r st
theorem Hz{i:Nat}{fi fe:Fn PV}(hi:MJ K C (aF K) tb fi)(h:MJ K C (aF K) te fe):MS K C (sW (tBM K "list" pL (tOp (rIx K) (iw i) tb) (dw te lr))) (wO i fi fe):=by
 intro F H O Z D o R e P;unfold wO at e;split at e
 ·rename_i l hl;obtain⟨S,v,e1,_,_,_⟩:=R.Ey (cM hl);refine⟨v,e1,hi.jM R e P λk w F1 H1 hk u a=>?_⟩;split at hk
  case h_2=>cases hk
  rename_i k;cases Rep.aW a;split at hk
  case h_2=>cases hk
  rename_i j hj;split at hk
  case h_2=>cases hk
  rename_i row hrow;obtain⟨P1,d1⟩:=(R.up u).dd;obtain⟨v',e1',dp1⟩:=d1.dp i _ (cM hl);rw[e1] at e1';cases e1';obtain⟨T,a,xs,rfl,ha,sa,ht,ds⟩:=dp1.bJ;have hjx:j<xs.length:=by rw[ds.1];exact bI hrow
  obtain⟨x,ex⟩:∃ x,xs[j]?=some x:=⟨_,Zaa hjx⟩;obtain⟨T2,b,ys,rfl,hb,sb,ht2,ds2⟩:=(ds.2.2 j x _ ex hrow).bJ;refine .inl ⟨a,xs,k,.ref b,rfl,rfl,SqL.of ha,by unfold atI;rw[ds.1,hj];exact ex,tyL hb,?_⟩
  refine h.jM (R.up u) hk (P.up u.ff) λq w F2 H2 hk2 u2 rw'=>?_;split at hk2
  case isFalse=>cases hk2
  rename_i hq;cases hk2;have hb2:=u2.hh _ _ hb;refine⟨b,ys,w,rfl,rfl,hb2,by rw[ds2.1];exact hq.2,?_⟩
  have R2:=R.up (u.trans u2);have d2:RD K C.toCf F2 H2 O Z P1:=d1.up u2;have pb:P1 i b:=(ht j b sb).1;have dsx:Dps K F2 H2 T xs l:=⟨ds.1,ds.2.1,λk y r c1 c2=>(ds.2.2 k y r c1 c2).stay u2⟩;have ds2x:Dps K F2 H2 T2 ys row:=⟨ds2.1,ds2.2.1,λk y r c1 c2=>(ds2.2.2 k y r c1 c2).stay u2⟩;have nt:∀ zs,H2 b≠some (.tup zs):=λzs z=>by rw[hb2] at z;cases z
  have nab:a≠b:=λz=>(ht j b sb).2 z.symm;refine P F2 _ O (u.trans u2).ff (R2.yM d2 (cM hl) e1 pb (λys z=>by cases z) (S':=P1 i) ?_ λc z=>.inl z)
  have pu:=dsx.put (q:=.lst (row++[q])) (ob:=.lst (ys++[w])) sb nt ex (Dp.snoc hb2 sb ht2 ds2x rw' hq.1);exact .lst (by rw[ao nab];exact u2.hh _ _ ha) sa ht pu.2.1 pu.1 pu.2.2
 ·rename_i l hl;split at e
  case isFalse=>cases e
  rename_i hst;obtain⟨S,v,e1,_,_,_⟩:=R.Ey (cM hl);refine⟨v,e1,hi.jM R e P λk w F1 H1 hk u a=>?_⟩;split at hk
  case h_2=>cases hk
  rename_i k;cases Rep.aW a;split at hk
  case h_2=>cases hk
  rename_i j hj;split at hk
  case h_2=>cases hk
  rename_i row hrow;obtain⟨P1,d1⟩:=(R.up u).dd;obtain⟨v',e1',dp1⟩:=d1.dp i _ (cM hl);rw[e1] at e1';cases e1';obtain⟨T,a,xs,rfl,ha,ht,ds⟩:=dp1.bK hst;have hjx:j<xs.length:=by rw[ds.1];exact bI hrow
  obtain⟨x,ex⟩:∃ x,xs[j]?=some x:=⟨_,Zaa hjx⟩;obtain⟨T2,b,ys,rfl,hb,sb,ht2,ds2⟩:=(ds.2.2 j x _ ex hrow).bJ;refine .inr (.inl ⟨a,xs,k,.ref b,rfl,rfl,SqT.of ha,by unfold atI;rw[ds.1,hj];exact ex,tyL hb,?_⟩)
  refine h.jM (R.up u) hk (P.up u.ff) λq w F2 H2 hk2 u2 rw'=>?_;split at hk2
  case isFalse=>cases hk2
  rename_i hq;cases hk2;have hb2:=u2.hh _ _ hb;refine⟨b,ys,w,rfl,rfl,hb2,by rw[ds2.1];exact hq.2.1,?_⟩
  have R2:=R.up (u.trans u2);have d2:RD K C.toCf F2 H2 O Z P1:=d1.up u2;have pb:P1 i b:=ht j b sb;have dsx:Dps K F2 H2 T xs l:=⟨ds.1,ds.2.1,λk y r c1 c2=>(ds.2.2 k y r c1 c2).stay u2⟩;have ds2x:Dps K F2 H2 T2 ys row:=⟨ds2.1,ds2.2.1,λk y r c1 c2=>(ds2.2.2 k y r c1 c2).stay u2⟩;have nt:∀ zs,H2 b≠some (.tup zs):=λzs z=>by rw[hb2] at z;cases z
  have nab:a≠b:=λz=>by subst z;rw[u2.hh _ _ ha] at hb2;cases hb2
  refine P F2 _ O (u.trans u2).ff (R2.yM d2 (cM hl) e1 pb (λys z=>by cases z) (S':=P1 i) ?_ λc z=>.inl z)
  have pu:=dsx.put (q:=.lst (row++[q])) (ob:=.lst (ys++[w])) sb nt ex (Dp.snoc hb2 sb ht2 ds2x rw' hq.1);exact .tup (by rw[ao nab];exact u2.hh _ _ ha) ht pu.2.1 pu.1 pu.2.2
 ·cases e
def wQ(i:Nat)(fe:Fn PV):Sn:=λZ=>match m9 i Z with
 |some (.lst l)=>dB (fe Z) λq=>if l.length<sizeLine then some (.nx (Z.set i (some (.dp (.lst (l++[q])))))) else none
 |_=>none
theorem HB{i:Nat}{fe:Fn PV}(h:MD K C te fe):MS K C (sW (tBM K "list" pL (iw i) (dw te lr))) (wQ i fe):=by
 intro F H O Z D o R e P;unfold wQ at e;split at e
 ·rename_i l hl;obtain⟨P0,d0⟩:=R.dd;obtain⟨v0,e1,dp0⟩:=d0.dp i _ (cM hl);obtain⟨T,a,xs,rfl,ha,sa,ht,ds⟩:=dp0.bJ;refine⟨_,e1,tyL ha,?_⟩;rcases b8 e with⟨z,e2,rfl⟩|⟨q,e2,hk⟩
  ·exact h F H O Z _ _ R e2 P
  split at hk
  case isFalse=>cases hk
  rename_i hlen;cases hk;refine h F H O Z _ _ R e2 λw F1 H1 S u d n=>?_;have ha1:=u.hh _ _ ha;refine⟨a,xs,w,rfl,rfl,ha1,by rw[ds.1];exact hlen,?_⟩
  have R1:=R.up u;have d1:RD K C.toCf F1 H1 O Z P0:=d0.up u;have na:∀ b,S b->b≠a:=λb z y=>by subst y;have:=(n b z).1;rw[ha] at this;cases this
  have nP:∀ b,S b->∀ j,¬P0 j b:=λb z j y=>by obtain⟨_,⟨o,c,_⟩,_⟩:=d0.own j b y;rw[(n b z).1] at c;cases c
  refine P F1 _ O u.ff (R1.yM d1 (cM hl) e1 sa (λys z=>by cases z) (S':=λb=>P0 i b\/S b) ?_ λb z=>?_)
  ·refine .lst (S:=λj b=>if j=xs.length then S b else j<xs.length/\T j b) aq (.inl sa) (λj b z=>?_) (λj k b z z'=>?_) (by simp[ds.1]) λj x p c1 c2=>?_
   ·by_cases hj:j=xs.length
    ·simp only[hj,ZbE] at z;exact⟨.inr z,na b z⟩
    ·simp only[hj,Zbb] at z;exact⟨.inl (ht j b z.2).1,(ht j b z.2).2⟩
   ·by_cases hj:j=xs.length<;>by_cases hk:k=xs.length
    ·rw[hj,hk]
    ·simp only[hj,hk,ZbE,Zbb] at z z';exact absurd (ht k b z'.2).1 (nP b z i)
    ·simp only[hj,hk,ZbE,Zbb] at z z';exact absurd (ht j b z.2).1 (nP b z' i)
    ·simp only[hj,hk,Zbb] at z z';exact ds.2.1 j k b z.2 z'.2
   ·have tups:∀ b zs,H1 b=some (.tup zs)->upd H1 a (.lst (xs++[w])) b=some (.tup zs):=λb zs c=>by
     rw[ao (λy=>by subst y;rw[ha1] at c;cases c)];exact c
    by_cases hj:j<xs.length
    ·rw[Zah hj] at c1;rw[Zah (by rw[<-ds.1];exact hj)] at c2
     simp only[show ¬j=xs.length by omega,Zbb]
     exact(((ds.2.2 j x p c1 c2).stay u).up (aB.refl _) (λb o z c=>by rw[ao (ht j b z).2];exact c) tups).mono λb z=>⟨hj,z⟩
    ·rw[Zap (by omega)] at c1
     rw[Zap (by rw[<-ds.1];omega)] at c2
     have ej:j=xs.length:=by
      have:=bI c1;simp at this;omega
     rw[ej,Zcj] at c1;rw[ej,ds.1,Zcj] at c2;cases c1;cases c2;simp only[ej,ZbE];exact d.up (aB.refl _) (λb o z c=>by rw[ao (na b z)];exact c) tups
  ·rcases z with z|z
   ·exact .inl z
   ·refine .inr ⟨(n b z).2.1,(n b z).2.2,(d0.own i a sa).2.2.1,R.rb.oY (n b z).1,nP b z,λj q f=>?_⟩;exact R.apart (n b z).1 j q f
 ·cases e
end
def qK:Option Out->Option (Res PV)
 |some (.rd p)=>some (.ok p)
 |some (.ex z)=>some (.ex z)
 |_=>none
section
variable{K:Frag}{XR:Hp->Value->Option Addr->PV->Prop}{N:List Str}{vs:List V}{H:Hp}{Q:VK}{E:XK}{t:TS}{b:Sn}{m:List PV->Option (Res PV)}
theorem uY{k n:Nat}(hk:N.length=k+n)(hm:∀ ps r,m ps=some r->ps.length=k/\qK (b (startR ps n))=some r)(h:spD K XR0 m vs H Q E)(hS:∀ (io:Addr->Prop) (H0 F0:Hp),(∀ a,¬io a)->MS K (C0 io H0 F0) t b) :
  t { nx:=λ_ H'=>Q .non H',rt:=Q } (start N vs) H:=by
 obtain⟨ps,F,r,s,rp,e,P⟩:=h;obtain⟨hl,e⟩:=hm ps r e;have R:=mU (E:=E0) (N:=N) (n:=n) s rp (by rw[rp.1,hl];exact hk)
 have up:∀ {F' H':Hp},aB F F'->RB ⟨λ_=>False,True,H,F,E0⟩ F' H'->Up F H F' H':=λs' rb=>⟨s',λc o q=>rb.keep c o q id,rb.new,rb.sub⟩;have M:=hS (λ_=>False) H F (λ_ h=>h);cases ho:b (startR ps n) with
 |none=>rw[ho] at e;cases e
 |some o=>
  rw[ho] at e;refine M F H _ _ _ o R ho ?_;cases o with
  |rd p=>cases e;exact λv F' H' S s' rb d n=>P v F' H' S (up s' rb) d λb q=>⟨(n b q).2.2,(n b q).1,(n b q).2.1⟩
  |ex z=>exact λ_ _ _ _ _ _ x=>x.elim
  |nx Z=>cases e
  |rt p=>cases e
  |ro p=>cases e
  |bk Z=>cases e
  |ct Z=>cases e
theorem uZ(h:spD K XR m vs H Q E){k:Nat}(hm:∀ ps r,m ps=some r->ps.length=k):vs.length=k:=by
 obtain⟨ps,F,r,s,rp,e,P⟩:=h;rw[rp.1];exact hm ps r e
end
end L2.MP
namespace L2
open PySem PySem.Spec PyProof PyProof.Rows
namespace MP
end MP
def fW:HO->Prop
 |.dK _=>True
 |.dT _=>True
 |_=>False
section
variable{X:Cx}{pins:List (Addr×Obj)}{O:St}{H:Hp}{s:Shared}{a:Addr}{u:HO}{raw:Obj}
theorem fW.mut(hu:fW u)(e:H a=some u):Mut (H a):=by
 rw[e];cases u<;>first|trivial|exact hu.elim
theorem K7(I:Inv X pins O H s)(e:H a=some u)(hu:fW u):∃ raw,s.heap.get? a=some raw:=by
 have:=I.hok a u e;cases u with
 |dK kvs=>obtain⟨_,_,_,_,o,es,ep,h1,_⟩:=this;exact⟨o,h1⟩
 |dT kvs=>obtain⟨_,_,_,_,o,es,ep,h1,_⟩:=this;exact⟨o,h1⟩
 |_=>exact hu.elim
theorem Inv.hold(I:Inv X pins O H s)(e:H a=some u)(hu:fW u):∃ raw,s.heap.get? a=some raw/\Inv X pins O (upd H a (.frz raw u)) s:=by
 obtain⟨raw,hr⟩:=K7 I e hu;refine⟨raw,hr,I.write (t':=s.toks) (h':=s.heap) (hu.mut e) (.inl rfl) (λb o _ q=>q) ⟨raw,hr⟩ ⟨hr,?_⟩⟩;refine(I.hok a u e).stay (λb o _ q=>q) (λb q=>?_) (λb xs q=>?_) (λb ob q=>?_)
 ·rw[ao (λz=>by subst z;rw[e] at q;cases q;exact hu)];exact q
 ·rw[ao (λz=>by subst z;rw[e] at q;cases q;exact hu)];exact q
 ·rw[ao (λz=>by subst z;rw[e] at q;cases q;exact hu)];exact q
theorem Inv.loose(I:Inv X pins O H s)(e:H a=some (.frz raw u))(hu:fW u)(h0:∀ o v,X.H₀ a≠some (.frz o v)):Inv X pins O (upd H a u) s where
 ok:=I.ok
 os:=I.os
 bare:=I.bare
 base:={
  keep:=I.base.keep
  slot:=I.base.slot
  free:=λb o q n hx=>by
   have:=I.base.free b o q n hx;rw[ao (λz=>by subst z;rw[e] at this;cases this)];exact this
  there:=I.base.there
  tups:=λb xs q=>by
   have:=I.base.tups b xs q;rw[ao (λz=>by subst z;rw[e] at this;cases this)];exact this
  frzs:=λb o v q=>by
   rw[ao (λz=>by subst z;exact h0 o v q)];exact I.base.frzs b o v q
  tbls:=λb ps q=>by
   obtain⟨more,r⟩:=I.base.tbls b ps q;exact⟨more,by rw[ao (λz=>by subst z;rw[e] at r;cases r)];exact r⟩ }
 loc:=I.loc
 cell:=I.cell
 free:=by rw[ao (λz=>by have:=I.free;rw[z,e] at this;cases this)];exact I.free
 freeC:=λx c q=>by
  have:=I.freeC x c q;rw[ao (λz=>by subst z;rw[e] at this;cases this)];exact this
 pin:=λp hp=>by
  obtain⟨p1,p2,p3⟩:=I.pin p hp;exact⟨p1,by rw[ao (λz=>by rw[z,e] at p2;cases p2)];exact p2,p3⟩
 hok:=λb o q=>by
  have ho:∀ c y,H c=some (.own y)->upd H a u c=some (.own y):=λc y r=>by rw[ao (λz=>by subst z;rw[e] at r;cases r)];exact r
  have ht:∀ c xs,H c=some (.tup xs)->upd H a u c=some (.tup xs):=λc xs r=>by rw[ao (λz=>by subst z;rw[e] at r;cases r)];exact r
  by_cases hb:b=a
  ·subst hb;rw[aq] at q;cases q;exact(I.hok b _ e).2.stay (λ_ _ _ q=>q) (λc r=>ho c b r) ht (λc ob r=>by rw[ao (λz=>by subst z;rw[e] at r;cases r;exact hu)];exact r)
  ·rw[ao hb] at q;exact(I.hok b o q).stay (λ_ _ _ q=>q) (λc r=>ho c b r) ht (λc ob r=>by rw[ao (λz=>by subst z;rw[e] at r;cases r;exact hu)];exact r)
 len:=I.len
def Ends.loose(D:Ends)(a:Addr)(raw:Obj)(u:HO):Ends where
 nx:=λO H=>H a=some (.frz raw u)/\D.nx O (upd H a u)
 bk:=λO H=>H a=some (.frz raw u)/\D.bk O (upd H a u)
 ct:=λO H=>H a=some (.frz raw u)/\D.ct O (upd H a u)
 rt:=λv H=>H a=some (.frz raw u)/\D.rt v (upd H a u)
def EY(i:Nat)(t:TS):TS:=λD O H=>∃ a u,O[i]?=some (some (.ref a))/\fW u/\(((∃ raw,H a=some (.frz raw u))/\t D O H)\/(H a=some u/\∀ raw,t (D.loose a raw u) O (upd H a (.frz raw u))))
theorem HD{st:Stmt}{t:TS}(i:Nat)(h:PS X st t):PS X st (EY i t):=by
 intro pins s O H D I q;obtain⟨a,u,_,hu,⟨_,q⟩|⟨e,q⟩⟩:=q
 ·exact h pins s O H D I q
 ·have h0:∀ o v,X.H₀ a≠some (.frz o v):=λo v z=>by
   have:=I.base.frzs a o v z;rw[e] at this;cases this;exact hu
  obtain⟨raw,_,I2⟩:=I.hold e hu;refine thn (h pins s O _ _ I2 (q raw)) λf s' r=>?_;cases f with
  |next=>obtain⟨O',H',I',e',r⟩:=r;exact⟨O',_,I'.loose e' hu h0,r⟩
  |brk=>obtain⟨O',H',I',e',r⟩:=r;exact⟨O',_,I'.loose e' hu h0,r⟩
  |cont=>obtain⟨O',H',I',e',r⟩:=r;exact⟨O',_,I'.loose e' hu h0,r⟩
  |ret w=>obtain⟨v,O',H',I',rv,e',r⟩:=r;exact⟨v,O',_,I'.loose e' hu h0,rv,r⟩
def Fb(i:Nat)(t:TE):TE:=λO H Q=>∃ a u,O[i]?=some (some (.ref a))/\fW u/\(((∃ raw,H a=some (.frz raw u))/\t O H Q)\/(H a=some u/\∀ raw,t O (upd H a (.frz raw u)) λv H'=>H' a=some (.frz raw u)/\Q v (upd H' a u)))
theorem zQ{e:Expr}{t:TE}(i:Nat)(h:PE X e t):PE X e (Fb i t):=by
 intro pins s O H Q I q;obtain⟨a,u,_,hu,⟨_,q⟩|⟨e',q⟩⟩:=q
 ·exact h pins s O H Q I q
 ·have h0:∀ o v,X.H₀ a≠some (.frz o v):=λo v z=>by
   have:=I.base.frzs a o v z;rw[e'] at this;cases this;exact hu
  obtain⟨raw,_,I2⟩:=I.hold e' hu;refine thn (h pins s O _ _ I2 (q raw)) λw s' ⟨v,H',I',rv,e2,r⟩=>⟨v,_,I'.loose e2 hu h0,rv,r⟩
end
def Itd(a:Addr)(raw:Obj)(kvs:List (Key×V)):It:=
 ⟨λi H=>H a=some (.frz raw (.dK kvs))/\i<kvs.length,λi H x H'=>H'=H/\∃ kv,kvs[i]?=some kv/\x=kV kv.1,λi H=>H a=some (.frz raw (.dK kvs))/\i=kvs.length⟩
theorem u0{P:Program}{w:World}{k:Key}{u:Value}(h:(bu P w).is k u=true):RelV (kV k) u:=by
 rcases bQ h with⟨i,t,rfl,rfl⟩|⟨x,t,rfl,rfl⟩
 ·exact⟨t,rfl⟩
 ·exact⟨t,rfl⟩
theorem kY{P:Program}{w:World}{H:Hp}{h:Heap}{a:Addr}{raw:Obj}{kvs:List (Key×V)}(ok:HOk P w H h)(e:H a=some (.frz raw (.dK kvs))){es:Array DictEntry}{ep:Nat}(hd:raw.data=.dict es ep):(a==sysModules)=false/\∃ vs,KV kvs vs/\h.DictAt (bu P w) a vs ep:=by
 obtain⟨hr,_,hs,vs,kv,o,es',ep',h1,h2,h3,h4⟩:=(show bR P w H h a (.frz raw (.dK kvs)) from ok a _ e);rw[hr] at h1;cases h1;rw[hd] at h3;cases h3;exact⟨hs,vs,kv,raw,es,hr,h2,hd,h4⟩
theorem BR{P:Program}{w:World}{K:Frag}{tg:Expr}(a it:Addr)(raw:Obj)(kvs:List (Key×V)){es:Array DictEntry}{ep:Nat}(hd:raw.data=.dict es ep) :
  Turn P w K tg (Itd a raw kvs) [it] it (λi h=>h.IsKeyIter it a i kvs.length ep) where
 mem:=by simp
 obj:=λi h st b hb=>by
  have e:b=it:=by simpa using hb
  subst e;obtain⟨o,e,c,d⟩:=st;exact⟨o,e,λv z=>by rw[d] at z;cases z⟩
 keep:=λi h h' st k=>st.at λo q=>k it (by simp) o q
 item:=by
  intro X hP hw hK hc i pins s O H E I hf st hg;subst hP hw hK;obtain⟨e,hi⟩:=hg;obtain⟨f0,f1,f2,f3,f4,f5⟩:=hf it (by simp)
  obtain⟨_,vs,kv,dd⟩:=kY I.hok e hd;have hl:=kv.length;have hne:a≠it:=λz=>by subst z;rw[e] at f0;cases f0
  have W:=Walks.dictKeys (prog:=X.prog) (w:=X.w) (A:=X.A) (knd:=bu X.prog X.w) (I.ok.hd hc) it a hne vs ep;refine W.item i s _ _ (by omega) ⟨by rw[<-hl];exact st,dd⟩ λv h' tk hv st' kk=>?_
  obtain⟨k,x,hx,hk⟩:=hv;have I1:Inv X pins O H { s with heap:=h',toks:=tk }:=I.turned (λb o hb e=>kk b o (by simpa using hb) e) f0 f1 f3 f4 f5
  obtain⟨o,eo,cc,dd'⟩:=id st'.1;obtain⟨p,hp⟩:∃ p,kvs[i]?=some p:=⟨_,Zaa hi⟩;have ek:p.1=k:=by
   have h1:(kvs.map (·.1))[i]?=some p.1:=by rw[Zaf,hp];rfl
   have h2:(vs.map (·.1))[i]?=some k:=by rw[Zaf,hx];rfl
   rw[kv.keys,h2] at h1;exact(Zac h1).symm
  refine⟨_,rfl,vR (s:={ s with heap:=h',toks:=tk }) eo cc dd' (by decide) ⟨kV p.1,H,I1,by rw[ek];exact u0 hk,⟨rfl,p,hp,rfl⟩,by rw[hl];exact st'.1,λb hb=>(hf b hb).1⟩⟩
 done:=by
  intro X hP hw hK hc i pins s O H E I hf st hg;subst hP hw hK;obtain⟨e,hi⟩:=hg;obtain⟨f0,f1,f2,f3,f4,f5⟩:=hf it (by simp)
  obtain⟨_,vs,kv,dd⟩:=kY I.hok e hd;have hl:=kv.length;have hne:a≠it:=λz=>by subst z;rw[e] at f0;cases f0
  have W:=Walks.dictKeys (prog:=X.prog) (w:=X.w) (A:=X.A) (knd:=bu X.prog X.w) (I.ok.hd hc) it a hne vs ep;subst hi;refine W.done s _ _ ⟨by rw[<-hl];exact st,dd⟩ λh' tk kk=>⟨rfl,I.turned (λb o hb e=>kk b o (by simpa using hb) e) f0 f1 f3 f4 f5⟩
 self:=λA i s Q E st h=>wpAny_pyIter_keyiter st h
def JQ(tl:TE):TI:=λO H R=>tl O H λx H1=>∃ a raw kvs,x=.ref a/\H1 a=some (.frz raw (.dK kvs))/\R (Itd a raw kvs) H1
theorem zR{X:Cx}{tg l:Expr}{tl:TE}(hl:PE X l tl):PI X tg l (JQ tl):=by
 intro pins s O H R I h;refine thn (hl pins s O H _ I h) ?_;rintro v s1 ⟨x,H1,I1,r1,q1⟩;obtain⟨a,raw,kvs,e,ha,q⟩:=q1;subst e;cases r1;obtain⟨es,ep,hd⟩:∃ es ep,raw.data=.dict es ep:=by
  obtain⟨hr,_,hs,vs,kv,o,es',ep',h1,h2,h3,h4⟩:=(show bR X.prog X.w H1 s1.heap a (.frz raw (.dK kvs)) from I1.hok a _ ha);rw[hr] at h1;cases h1;exact⟨_,_,h3⟩
 obtain⟨hs,vs,kv,dd⟩:=kY I1.hok ha hd;refine wpAny_pyIter_dict hs dd ?_;refine⟨s1.heap.objs.size,[s1.heap.objs.size],_,_,H1,rfl,I1.kept (t':=s1.toks) λb o e=>Zae _ e,BR a _ raw kvs hd,⟨_,Zar _ rfl,rfl,by rw[kv.length];rfl⟩,λb hb=>?_,q⟩
 have e:b=s1.heap.objs.size:=by simpa using hb
 subst e;exact I1.ut (Zal _) (I1.hok.fresh (Zal _))
end L2
namespace L2.MP
open PySem PySem.Spec PyProof.Rows
structure Sw(F F':Hp)(a:Addr)(u:HO):Prop where
 ne:∀ b,b≠a->F' b=F b
 l:Rd F a u
 r:Rd F' a u
 d:fW u
section
variable{K:Frag}{F F' H H':Hp}{a:Addr}{u:HO}{v:V}{p:PV}
theorem Sw.other(w:Sw F F' a u){b:Addr}{o:HO}(e:F b=some o)(h1:¬fW o)(h2:∀ raw x,fW x->o≠.frz raw x):F' b=some o:=by
 rw[w.ne b λz=>?_]
 ·exact e
 ·subst z;rcases w.l with q|⟨raw,q⟩
  ·rw[e] at q;cases q;exact h1 w.d
  ·rw[e] at q;cases q;exact h2 raw u w.d rfl
theorem Sw.rd(w:Sw F F' a u){b:Addr}{o:HO}(h:Rd F b o)(ho:fW o):Rd F' b o:=by
 by_cases hb:b=a
 ·subst hb;have:o=u:=by
   rcases h with h|⟨r,h⟩<;>rcases w.l with q|⟨r',q⟩<;>rw[h] at q<;>cases q
   ·rfl
   ·exact ho.elim
   ·exact w.d.elim
   ·rfl
  rw[this];exact w.r
 ·rcases h with h|⟨r,h⟩
  ·exact .inl (by rw[w.ne b hb];exact h)
  ·exact .inr ⟨r,by rw[w.ne b hb];exact h⟩
theorem Sw.sq(w:Sw F F' a u){b:Addr}{xs:List V}(h:SqL K F b xs):SqL K F' b xs:=by
 rcases h with(h|⟨o,h⟩)|h
 ·exact .inl (.inl (w.other h (λz=>z) λ_ _ _ z=>by cases z))
 ·exact .inl (.inr ⟨o,w.other h (λz=>z) λ_ x hx z=>by cases z;exact hx⟩)
 ·exact .inr h
theorem Rep.sw(w:Sw F F' a u)(h:Rep K F v p):Rep K F' v p:=by
 induction h with
 |non=>exact .non
 |bl=>exact .bl
 |int=>exact .int
 |str=>exact .str
 |ty=>exact .ty
 |tup h hl _ ih=>exact .tup (w.other h (λz=>z) λ_ _ _ z=>by cases z) hl ih
 |lst h hl _ ih=>exact .lst (w.sq h) hl ih
 |dk h hl _ ih=>exact .dk (w.rd h trivial) hl ih
 |dt h hl _ ih=>exact .dt (w.rd h trivial) hl ih
 |exc nm h hd hl _ ih=>exact .exc nm (w.other h (λz=>z) λ_ _ _ z=>by cases z) (w.other hd (λz=>z) λ_ _ _ z=>by cases z) hl ih
 |exc0 nm h=>exact .exc0 nm (w.other h (λz=>z) λ_ _ _ z=>by cases z)
theorem aZ.sw{xs:List V}{l:List PV}(w:Sw F F' a u)(h:aZ K F xs l):aZ K F' xs l:=⟨h.1,λj x p a b=>(h.2 j x p a b).sw w⟩
theorem Own.sw{b:Addr}(w:Sw F F' a u)(e:H' b=H b)(h:Own K F H b p):Own K F' H' b p:=by
 cases p with
 |lst l=>obtain⟨xs,q,r⟩:=h;exact⟨xs,by rw[e];exact q,r.sw w⟩
 |dk l=>obtain⟨xs,q,r,s⟩:=h;exact⟨xs,by rw[e];exact q,r,λj x p a b=>(s j x p a b).sw w⟩
 |dt l=>obtain⟨xs,q,r,s⟩:=h;exact⟨xs,by rw[e];exact q,r,λj x p a b=>(s j x p a b).sw w⟩
 |_=>exact h.elim
theorem Dp.sw{P:Addr->Prop}(w:Sw F F' a u)(wH:Sw H H' a u)(h:Dp K F H P v p):(∀ b,P b->b≠a)->Dp K F' H' P v p:=by
 induction h with
 |fr h st=>exact λ_=>.fr (h.sw w) st
 |lst h hp hs dj hl _ ih=>exact λn=>.lst (by rw[wH.ne _ (n _ hp)];exact h) hp hs dj hl λj x p e1 e2=>ih j x p e1 e2 λb q=>n b (hs j b q).1
 |tup h hs dj hl _ ih=>exact λn=>.tup (wH.other h (λz=>z) λ_ _ _ z=>by cases z) hs dj hl λj x p e1 e2=>ih j x p e1 e2 λb q=>n b (hs j b q)
 |dk h hp hs dj hl _ ih=>exact λn=>.dk (by rw[wH.ne _ (n _ hp)];exact h) hp hs dj hl λj x p e1 e2=>ih j x p e1 e2 λb q=>n b (hs j b q).1
 |dt h hp hs dj hl _ ih=>exact λn=>.dt (by rw[wH.ne _ (n _ hp)];exact h) hp hs dj hl λj x p e1 e2=>ih j x p e1 e2 λb q=>n b (hs j b q).1
theorem RE.sw{C C':Cf}{O:St}{Z:Rho}(w:Sw F F' a u)(wH:Sw H H' a u)(fa:F a≠none)(hio:C'.io=C.io)(hnw:C'.nw=C.nw)(h0:∀ b,b≠a->C'.H0 b=C.H0 b)(rb:RB C' F' H')(R:RE K C F H O Z):RE K C' F' H' O Z where
 rb:=rb
 len:=R.len
 sh:=λi p e=>let⟨v,e1,r⟩:=R.sh i p e;⟨v,e1,r.sw w⟩
 ow:=λi p e=>by
  obtain⟨b,e1,e2,e3,e4⟩:=R.ow i p e;have nb:b≠a:=λz=>by subst z;exact fa e3
  exact⟨b,e1,e2.sw w (wH.ne b nb),by rw[w.ne b nb];exact e3,by rw[hio,hnw,h0 b nb];exact e4⟩
 dis:=R.dis
 dd:=by
  obtain⟨P,d⟩:=R.dd;have nb:∀ i b,P i b->b≠a:=λi b q z=>by subst z;exact fa (d.own i b q).1
  refine⟨P,λi b q=>?_,d.dis,d.ow,λi p e=>?_⟩
  ·obtain⟨c1,⟨o,c2,c3⟩,c4,c5⟩:=d.own i b q;exact⟨by rw[w.ne b (nb i b q)];exact c1,⟨o,by rw[wH.ne b (nb i b q)];exact c2,c3⟩,by rw[hnw];exact c4,by rw[h0 b (nb i b q)];exact c5⟩
  ·obtain⟨v,e1,e2⟩:=d.dp i p e;exact⟨v,e1,e2.sw w wH (nb i)⟩
end
def bL(G:Hp)(a:Addr)(raw:Obj)(u:HO):Hp:=λb=>@ite _ (b=a/\G a=some u) (Classical.propDecidable _) (some (.frz raw u)) (G b)
theorem cJ{G:Hp}{a b:Addr}{raw:Obj}{u:HO}(h:b≠a):bL G a raw u b=G b:=@if_neg _ (Classical.propDecidable _) (λz=>h z.1) _ _ _
theorem oH{G:Hp}{a:Addr}{raw:Obj}{u:HO}(h:G a=some u):bL G a raw u a=some (.frz raw u):=@if_pos _ (Classical.propDecidable _) ⟨rfl,h⟩ _ _ _
theorem lR{G:Hp}{a:Addr}{raw:Obj}{u:HO}(h:G a≠some u):bL G a raw u a=G a:=@if_neg _ (Classical.propDecidable _) (λz=>h z.2) _ _ _
def K8(F:Hp)(O:St)(i:Nat):Prop:=∃ a raw u,O[i]?=some (some (.ref a))/\F a=some (.frz raw u)/\fW u
def MSh(K:Frag)(C:Cg)(i:Nat)(t:TS)(f:Sn):Prop:=∀ F H O Z D o,RE K C.toCf F H O Z->K8 F O i->f Z=some o->PO' K C F D o->t D O H
def MOh(K:Frag)(C:Cg)(i:Nat)(te:TE)(f:Fn PV):Prop:=
 ∀ F H O Z Q r,RE K C.toCf F H O Z->K8 F O i->f Z=some r->Pr C F (λp=>∀ a F' H',Up F H F' H'->H a=none->F' a=none->Own K F' H' a p->Q (.ref a) H') r->te O H Q
def qL(i:Nat)(f:Sn):Sn:=λZ=>match Z[i]? with
 |some (some (.sh p))=>if p.isD=true then(match f Z with
  |some (.rd _)=>none
  |x=>x) else none
 |_=>none
section
variable{K:Frag}{t:TS}{f:Sn}
theorem zT{io:Addr->Prop}{H0 F0 F H:Hp}{O:St}{Z:Rho}{a:Addr}{u:HO}{raw:Obj}(R:RE K (C0 io H0 F0).toCf F H O Z)(fa:F a=some u)(hu:fW u) :
  RE K (C0 io (bL H0 a raw u) (bL F0 a raw u)).toCf (upd F a (.frz raw u)) (upd H a (.frz raw u)) O Z/\H a=some u:=by
 have ha:=R.rb.sub _ _ fa;have w:Sw F (upd F a (.frz raw u)) a u:=⟨λb hb=>ao hb,.inl fa,.inr ⟨raw,aq⟩,hu⟩;have wH:Sw H (upd H a (.frz raw u)) a u:=⟨λb hb=>ao hb,.inl ha,.inr ⟨raw,aq⟩,hu⟩;have nt:∀ ys,u≠.tup ys:=λys z=>by subst z;exact hu
 have rb2:RB (C0 io (bL H0 a raw u) (bL F0 a raw u)).toCf (upd F a (.frz raw u)) (upd H a (.frz raw u)):=by
  refine⟨λb o q=>?_,λb o q n=>?_,λb o q=>?_,λb q=>?_⟩
  ·by_cases hb:b=a
   ·subst hb;rw[aq] at q ⊢;exact q
   ·rw[ao hb] at q ⊢;exact R.rb.sub b o q
  ·by_cases hb:b=a
   ·subst hb;rw[aq];by_cases hh:H0 b=some u
    ·have q:bL H0 b raw u b=some o:=q;rw[oH hh] at q;exact q
    ·have q:bL H0 b raw u b=some o:=q;rw[lR hh] at q;have:=R.rb.keep b o q n;rw[ha] at this;exact absurd (q.trans this.symm) hh
   ·have q:bL H0 a raw u b=some o:=q;rw[cJ hb] at q;rw[ao hb];exact R.rb.keep b o q n
  ·by_cases hb:b=a
   ·subst hb;rw[aq] at q;cases q;rcases R.rb.new b u fa with z|z|⟨ys,z⟩
    ·exact .inl (oH z)
    ·refine .inr (.inl ?_);show bL H0 b raw u b=none
     rw[lR (by rw[show H0 b=none from z];intro y;cases y)];exact z
    ·exact absurd z (nt ys)
   ·rw[ao hb] at q;rcases R.rb.new b o q with z|z|z
    ·exact .inl ((cJ hb).trans z)
    ·exact .inr (.inl ((cJ hb).trans z))
    ·exact .inr (.inr z)
  ·obtain⟨q1,q2⟩:=R.rb.ios b q;refine⟨?_,?_⟩
   ·by_cases hb:b=a
    ·subst hb;rw[aq];intro z;cases z
    ·rw[ao hb];exact q1
   ·show bL H0 a raw u b≠none
    by_cases hb:b=a
    ·subst hb;by_cases hh:H0 b=some u
     ·rw[oH hh];intro z;cases z
     ·rw[lR hh];exact q2
    ·rw[cJ hb];exact q2
 have R2:RE K (C0 io (bL H0 a raw u) (bL F0 a raw u)).toCf (upd F a (.frz raw u)) (upd H a (.frz raw u)) O Z:=RE.sw (C:=(C0 io H0 F0).toCf) w wH (by rw[fa];intro z;cases z) rfl rfl (λb hb=>cJ hb) rb2 R
 exact⟨R2,ha⟩
theorem Fd{io:Addr->Prop}{H0 F0:Hp}{Pc:Hp->Prop}(i:Nat)(hP:Pc H0)(hh:∀ H0 a raw u,fW u->Pc H0->Pc (bL H0 a raw u))(h:∀ H0 F0,Pc H0->MSh K (C0 io H0 F0) i t f):MS K (C0 io H0 F0) (EY i t) (qL i f):=by
 intro F H O Z D o R e P;unfold qL at e;split at e
 case h_2=>cases e
 rename_i p hp;split at e
 case isFalse=>cases e
 rename_i hd;obtain⟨e',nrd⟩:f Z=some o/\∀ q,o≠.rd q:=by
  split at e
  ·cases e
  ·rename_i x hx;exact⟨e,λq z=>by subst z;exact hx q e⟩
 obtain⟨v,ev,rv⟩:=R.sh i p hp;obtain⟨a,u,rfl,rd,hu⟩:∃ a u,v=.ref a/\Rd F a u/\fW u:=by
  cases rv with
  |dk h=>exact⟨_,_,rfl,h,trivial⟩
  |dt h=>exact⟨_,_,rfl,h,trivial⟩
  |_=>cases hd
 refine⟨a,u,ev,hu,?_⟩;rcases rd with fa|⟨raw,fa⟩
 case inr=>exact .inl ⟨⟨raw,R.rb.sub _ _ fa⟩,h H0 F0 hP F H O Z D o R ⟨a,raw,u,ev,fa,hu⟩ e' P⟩
 refine .inr ⟨R.rb.sub _ _ fa,λraw=>?_⟩;have ha:=R.rb.sub _ _ fa;have w:Sw F (upd F a (.frz raw u)) a u:=⟨λb hb=>ao hb,.inl fa,.inr ⟨raw,aq⟩,hu⟩;have wH:Sw H (upd H a (.frz raw u)) a u:=⟨λb hb=>ao hb,.inl ha,.inr ⟨raw,aq⟩,hu⟩;have nt:∀ ys,u≠.tup ys:=λys z=>by subst z;exact hu
 obtain⟨R2,_⟩:=zT (raw:=raw) R fa hu;have back:∀ {F3 H3:Hp},aB (upd F a (.frz raw u)) F3->RB (C0 io (bL H0 a raw u) (bL F0 a raw u)).toCf F3 H3->H3 a=some (.frz raw u)/\Sw F3 (upd F3 a u) a u/\Sw H3 (upd H3 a u) a u/\aB F (upd F3 a u)/\RB (C0 io H0 F0).toCf (upd F3 a u) (upd H3 a u):=by
  intro F3 H3 s3 rb3;have f3:F3 a=some (.frz raw u):=s3 _ _ aq;have h3:=rb3.sub _ _ f3;refine⟨h3,⟨λb hb=>ao hb,.inr ⟨raw,f3⟩,.inl aq,hu⟩,⟨λb hb=>ao hb,.inr ⟨raw,h3⟩,.inl aq,hu⟩,λb o q=>?_,λb o q=>?_,λb o q n=>?_,λb o q=>?_,λb q=>?_⟩
  ·by_cases hb:b=a
   ·subst hb;rw[aq,<-q,fa]
   ·rw[ao hb];exact s3 b o (by rw[ao hb];exact q)
  ·by_cases hb:b=a
   ·subst hb;rw[aq] at q ⊢;exact q
   ·rw[ao hb] at q ⊢;exact rb3.sub b o q
  ·by_cases hb:b=a
   ·subst hb;have:=R.rb.keep b o q n;rw[ha] at this;rw[aq];exact this
   ·rw[ao hb];exact rb3.keep b o ((cJ hb).trans q) n
  ·by_cases hb:b=a
   ·subst hb;rw[aq] at q;cases q;exact R.rb.new b u fa
   ·rw[ao hb] at q;rcases rb3.new b o q with z|z|z
    ·exact .inl ((cJ hb).symm.trans z)
    ·exact .inr (.inl ((cJ hb).symm.trans z))
    ·exact .inr (.inr z)
  ·refine⟨?_,(R.rb.ios b q).2⟩;by_cases hb:b=a
   ·subst hb;rw[aq];intro z;cases z
   ·rw[ao hb];exact(rb3.ios b q).1
 have backR:∀ {F3 H3:Hp}{O3:St}{Z3:Rho},aB (upd F a (.frz raw u)) F3->RE K (C0 io (bL H0 a raw u) (bL F0 a raw u)).toCf F3 H3 O3 Z3->H3 a=some (.frz raw u)/\aB F (upd F3 a u)/\RE K (C0 io H0 F0).toCf (upd F3 a u) (upd H3 a u) O3 Z3:=by
  intro F3 H3 O3 Z3 s3 R3;obtain⟨b1,b2,b3,b4,b5⟩:=back s3 R3.rb;have f3:F3 a=some (.frz raw u):=s3 _ _ aq;exact⟨b1,b4,RE.sw (C:=(C0 io (bL H0 a raw u) (bL F0 a raw u)).toCf) b2 b3 (by rw[f3];intro z;cases z) rfl rfl (λb hb=>(cJ hb).symm) b5 R3⟩
 refine h (bL H0 a raw u) (bL F0 a raw u) (hh _ _ _ _ hu hP) _ _ O Z _ o R2 ⟨a,raw,u,ev,aq,hu⟩ e' ?_;cases o with
 |nx Z3=>exact λF3 H3 O3 s3 R3=>let⟨b1,b2,b3⟩:=backR s3 R3;⟨b1,P _ _ _ b2 b3⟩
 |bk Z3=>exact λF3 H3 O3 s3 R3=>let⟨b1,b2,b3⟩:=backR s3 R3;⟨b1,P _ _ _ b2 b3⟩
 |ct Z3=>exact λF3 H3 O3 s3 R3=>let⟨b1,b2,b3⟩:=backR s3 R3;⟨b1,P _ _ _ b2 b3⟩
 |rt q=>exact λv F3 H3 s3 rb3 r=>let⟨b1,b2,b3,b4,b5⟩:=back s3 rb3;⟨b1,P v _ _ b4 b5 (r.sw b2)⟩
 |ro q=>
  intro b F3 H3 s3 rb3 ow nb n0;obtain⟨b1,b2,b3,b4,b5⟩:=back s3 rb3;have f3:F3 a=some (.frz raw u):=s3 _ _ aq;have hb:b≠a:=λz=>by subst z;rw[f3] at nb;cases nb
  exact⟨b1,P b _ _ b4 b5 (ow.sw b2 (b3.ne b hb)) (by rw[ao hb];exact nb) ((cJ hb).symm.trans n0)⟩
 |rd q=>exact absurd rfl (nrd q)
 |ex z=>exact λ_ _ _ _ _ _ x=>x.elim
theorem HF{io:Addr->Prop}{H0 F0:Hp}(i:Nat)(h:∀ H0 F0,MSh K (C0 io H0 F0) i t f):MS K (C0 io H0 F0) (EY i t) (qL i f):=Fd (Pc:=λ_=>True) i trivial (λ_ _ _ _ _ _=>trivial) λH0 F0 _=>h H0 F0
end
def qM(l:List (Key×PV)):List PV:=l.map λkv=>yI kv.1
def pW:PV->Option (Res (List PV))
 |.dk l=>some (.ok (qM l))
 |_=>none
def HJ(K:Frag)(C:Cg)(i:Nat)(wi:TI)(f:Fn (List PV)):Prop:=
 ∀ F H O Z R' r,RE K C.toCf F H O Z->K8 F O i->f Z=some r->Pr C F (λl=>∀ J F' H',Up F H F' H'->ItR K J F' l->R' J H') r->wi O H R'
section
variable{K:Frag}{C:Cg}{te:TE}{t:TS}{f:Sn}{F H:Hp}{O:St}{Z:Rho}{D:Ends}{o:Out}
theorem zU{k:Key}:Rep K F (kV k) (yI k):=by
 cases k with
 |inl i=>exact .int
 |inr z=>exact .str
theorem wR(i:Nat):HJ K C i (JQ (iw i)) (m1 pW (mV i)):=by
 intro F H O Z R' r R hh e P;rcases bj e with⟨z,e1,rfl⟩|⟨p,e1,hk⟩
 ·unfold mV at e1;split at e1
  ·cases e1
  ·cases e1
 obtain⟨a,raw,u,ev,fa,hu⟩:=hh;have hp:Z[i]?=some (some (.sh p)):=by
  unfold mV at e1;split at e1
  ·rename_i q hq;cases e1;exact hq
  ·cases e1
 match p,hk with
 |.dk l,hk=>
  cases hk;obtain⟨v,ev',rv⟩:=R.sh i _ hp;rw[ev] at ev';cases ev';cases rv with
  |@dk _ xs _ h hl hr=>
   have hx:u=.dK xs:=by
    rcases h with h|⟨o,h⟩
    ·rw[fa] at h;cases h
    ·rw[fa] at h;cases h;rfl
   subst hx;have len:xs.length=l.length:=by have:=Zba List.length hl;simpa using this
   refine⟨_,ev,a,raw,xs,rfl,R.rb.sub _ _ fa,P _ F H (Up.refl R.rb.sub) ⟨λF' H' s s'=>?_,λj F' H' hj s s'=>?_,λj F' H' x H'' hj s s' y=>?_⟩⟩
   ·exact⟨s' _ _ (s _ _ fa),by unfold qM;rw[Zab];exact len.symm⟩
   ·refine⟨s' _ _ (s _ _ fa),?_⟩;unfold qM at hj;rw[Zab] at hj;omega
   ·obtain⟨rfl,kv,hkv,rfl⟩:=y;have hl2:(l.map (·.1))[j]?=some kv.1:=by rw[<-hl,Zaf,hkv];rfl
    refine⟨F',yI kv.1,Up.refl s',?_,zU⟩;unfold qM;rw[Zaf] at hl2 ⊢;cases q:l[j]? with
    |none=>rw[q] at hl2;cases hl2
    |some w=>
     rw[q] at hl2;show some (yI w.1)=some (yI kv.1)
     rw[show w.1=kv.1 from Zac hl2]
theorem HN{i:Nat}{wi:TI}{it:Fn (List PV)}{gt:TG}{tg:PV->Rho->Option Rho}(hi:HJ K C i wi it)(hg:MG K C gt tg)(hb:MS K C t f):MSh K C i (Kd wi gt t) (sr it tg f):=by
 intro F H O Z D o R hh e P;rcases b8 e with⟨z,e1,rfl⟩|⟨l,e1,hk⟩
 ·exact hi F H O Z _ _ R hh e1 P
 ·exact hi F H O Z _ _ R hh e1 λJ F' H' u hJ=>tM hg hb hJ (R.up u) hk (P.up u.ff)
theorem o8{wi:TI}{it:Fn (List PV)}{fr:List (Option Nat)}{gt:TG}{tg:PV->Rho->Option Rho}{T:List Nat}{tc:TT}{tst:Fn Bool}{el:Fn PV}{i0:Nat}(hi:HJ K C i0 wi it)(hg:MG K C gt tg)(hT:Wr T tg)(ht:MT K C tc tst)(he:MJ K C (aF K) te el)
  (hfr:T.all (λj=>fr[j]?==some none)=true:=by rfl):MOh K C i0 (tE wi fr gt tc te) (jR it fr tg tst el):=by
 intro F H O Z Q r R hh e P;rcases bj e with⟨z,e1,rfl⟩|⟨l,e1,hk⟩
 ·exact hi F H O Z _ _ R hh e1 P
 split at hk
 case isFalse=>cases hk
 rename_i hlen;refine hi F H O Z _ _ R hh e1 λJ F1 H1 u hJ D hD=>?_;have R1:=R.up u;obtain⟨Rb,no⟩:=R1.block fr;have hD0:C.H0 D=none:=R1.rb.oY hD;have hFD:F1 D=none:=u.fh.free hD;have hρ:∀ (j:Nat),j∈T->(frR fr Z)[j]?=some none:=λj hj=>by
  have:=Za2.mp hfr j hj;unfold frR;rw[Zaf,show fr[j]?=some none by simpa using this]
  rfl
 refine⟨λi m O' H'=>∃ F' ys acc,m=l.length-i/\i<=l.length/\aB F1 F'/\(∀ b o,F' b=some o->F1 b=some o\/Frz H1 b o)/\aB H1 H'/\H' D=some (.lst ys)/\F' D=none/\aZ K F' ys acc/\acc.length<=i /\
   RE K C.toCf F' H' O' (frR fr Z)/\bnd (d8 tg tst el (frR fr Z) (l.drop i)) (λr=>some (.ok (.lst (acc++r))))=some r,
  ⟨l.length,F1,[],[],by simp,ZaW _,aB.refl _,λ_ _ q=>.inl q,cI hD,aq,hFD,.nil,Zal _,Rb.other hFD hD0 no,by rw[ZbX];exact hk⟩,?_⟩
 rintro i m O' H' ⟨F',ys,acc,rfl,hil,s1,fr1,sH,eD,nD,ra,hacc,R',e'⟩;by_cases hlt:i<l.length
 case neg=>
  have ei:i=l.length:=by omega
  subst ei;rw[Zcu] at e';have e':some (Res.ok (PV.lst (acc++[])))=some r:=e';rw[ZaX] at e';cases e';exact .inl ⟨hJ.stop F' H' s1 R'.rb.sub,P D F' H' (u.trans ⟨s1,sH,fr1,R'.rb.sub⟩) (u.hh.free hD) nD ⟨ys,eD,ra⟩⟩
 refine .inr ⟨hJ.go i F' H' hlt s1 R'.rb.sub,λO2 H2=>∃ F2 ys acc,aB F1 F2/\(∀ b o,F2 b=some o->F1 b=some o\/Frz H1 b o)/\aB H1 H2/\H2 D=some (.lst ys)/\F2 D=none/\aZ K F2 ys acc/\acc.length<=i+1 /\
   RE K C.toCf F2 H2 O2 (frR fr Z)/\bnd (d8 tg tst el (frR fr Z) (l.drop (i+1))) (λr=>some (.ok (.lst (acc++r))))=some r,
  λO2 H2 ⟨F2,ys,acc,z⟩=>⟨l.length-(i+1),by omega,F2,ys,acc,rfl,hlt,z⟩,λx H'' y=>?_⟩
 obtain⟨F'',p,u2,ep,rx⟩:=hJ.yld i F' H' x H'' hlt s1 R'.rb.sub y;have ed:l.drop i=p::l.drop (i+1):=by
  rw[ZaY hlt];rw[Zaa hlt] at ep;rw[Zac ep]
 rw[ed,d8] at e';split at e'
 ·cases e'
 rename_i Z1 h1;obtain⟨w1,w2,w3⟩:=hT p _ Z1 h1;have no1:=w3 no;have weak:∀ (j:Nat) s,(frR fr Z)[j]?=some (some s)->Z1[j]?=some (some s):=λj s ej=>by
  rw[w2 j λz=>by rw[hρ j z] at ej;cases ej];exact ej
 refine hg F'' H'' O' (frR fr Z) x p Z1 _ (R'.up u2) rx h1 λO1 R1'=>?_;have stay:∀ {F3 H3:Hp},Up F' H' F3 H3->aB F1 F3/\(∀ b o,F3 b=some o->F1 b=some o\/Frz H1 b o)/\aB H1 H3/\H3 D=some (.lst ys)/\F3 D=none/\aZ K F3 ys acc:=λ{F3 H3} u3=>by
  refine⟨s1.trans u3.ff,λb o q=>?_,sH.trans u3.hh,u3.hh _ _ eD,?_,ra.up u3.ff⟩
  ·rcases u3.fr b o q with z|z
   ·exact fr1 b o z
   ·exact .inr (z.imp (λz=>sH.free z) id)
  ·cases q:F3 D with
   |none=>rfl
   |some o=>
    rcases u3.fr D o q with z|z|⟨ys,z⟩
    ·rw[nD] at z;cases z
    ·rw[eD] at z;cases z
    ·subst z;have w:=u3.fh _ _ q;rw[u3.hh _ _ eD] at w;cases w
 have Pl:∀ {F3 H3:Hp},Up F' H' F3 H3->∀ {z:PV},r=.ex z->PX C F3 z:=λ{F3 H3} u3 {z} ez=>by
  subst ez;exact PX.up P (u.ff.trans (s1.trans u3.ff))
 rw[gD] at e';rcases bj e' with⟨z',e4,ez⟩|⟨b,e4,e5⟩
 ·exact ht F'' H'' O1 Z1 _ _ R1' e4 (Pl u2 ez)
 refine ht F'' H'' O1 Z1 _ _ R1' e4 λF3 H3 u3=>?_;have u23:=u2.trans u3;cases b with
 |false=>
  rw[Zax (by decide)] at e5 ⊢
  obtain⟨a1,a2,a3,a4,a5,a6⟩:=stay u23;exact⟨F3,ys,acc,a1,a2,a3,a4,a5,a6,by omega,(R1'.up u3).weak w1.symm weak,e5⟩
 |true=>
  rw[Zat rfl] at e5 ⊢;rw[gD] at e5;rcases bj e5 with⟨z',e6,ez⟩|⟨q,e6,e7⟩
  ·exact he F3 H3 O1 Z1 _ _ (R1'.up u3) e6 (Pl u23 ez)
  refine he F3 H3 O1 Z1 _ _ (R1'.up u3) e6 λv F4 H4 u4 rv=>?_;have u24:=u23.trans u4;obtain⟨a1,a2,a3,a4,a5,a6⟩:=stay u24;refine⟨ys,a4,by rw[a6.1];omega,F4,ys++[v],acc++[q],a1,a2,tH hD a3,aq,a5,a6.snoc rv,by simp;omega,((R1'.up (u3.trans u4)).other a5 hD0 no1).weak w1.symm weak,?_⟩
  rw[gD] at e7;rw[<-e7];congr 1
  funext rr
  show some (Res.ok (PV.lst (acc++[q]++rr)))=some (Res.ok (PV.lst (acc++q::rr)))
  rw[Za3];rfl
def lU(i:Nat)(f:Fn PV):Fn PV:=λZ=>match Z[i]? with
 |some (some (.sh p))=>if p.isD=true then f Z else none
 |_=>none
theorem zV{io:Addr->Prop}{H0 F0:Hp}{fe:Fn PV}(i:Nat)(h:∀ H0 F0,MOh K (C0 io H0 F0) i te fe):MO K (C0 io H0 F0) (Fb i te) (lU i fe):=by
 intro F H O Z Q r R e P;unfold lU at e;split at e
 case h_2=>cases e
 rename_i p hp;split at e
 case isFalse=>cases e
 rename_i hd;obtain⟨v,ev,rv⟩:=R.sh i p hp;obtain⟨a,u,rfl,rd,hu⟩:∃ a u,v=.ref a/\Rd F a u/\fW u:=by
  cases rv with
  |dk h=>exact⟨_,_,rfl,h,trivial⟩
  |dt h=>exact⟨_,_,rfl,h,trivial⟩
  |_=>cases hd
 refine⟨a,u,ev,hu,?_⟩;rcases rd with fa|⟨raw,fa⟩
 case inr=>exact .inl ⟨⟨raw,R.rb.sub _ _ fa⟩,h H0 F0 F H O Z Q r R ⟨a,raw,u,ev,fa,hu⟩ e P⟩
 refine .inr ⟨R.rb.sub _ _ fa,λraw=>?_⟩;have ha:=R.rb.sub _ _ fa;obtain⟨R2,_⟩:=zT (raw:=raw) R fa hu;refine h (bL H0 a raw u) (bL F0 a raw u) _ _ O Z _ r R2 ⟨a,raw,u,ev,aq,hu⟩ e ?_;cases r with
 |ex z=>exact λ_ _ _ _ _ _ x=>x.elim
 |ok q=>
  intro b F3 H3 u3 n1 n2 ow;have f3:F3 a=some (.frz raw u):=u3.ff _ _ aq;have h3:=u3.fh _ _ f3;have hb:b≠a:=λz=>by subst z;rw[f3] at n2;cases n2
  refine⟨h3,P b (upd F3 a u) (upd H3 a u) ⟨λc o' q=>?_,λc o' q=>?_,λc o' q=>?_,λc o' q=>?_⟩ (by rw[ao hb] at n1;exact n1) (by rw[ao hb];exact n2) (ow.sw ⟨λc hc=>ao hc,.inr ⟨raw,f3⟩,.inl aq,hu⟩ (ao hb))⟩
  ·by_cases hc:c=a
   ·subst hc;rw[aq,<-q,fa]
   ·rw[ao hc];exact u3.ff c o' (by rw[ao hc];exact q)
  ·by_cases hc:c=a
   ·subst hc;rw[aq,<-q,ha]
   ·rw[ao hc];exact u3.hh c o' (by rw[ao hc];exact q)
  ·by_cases hc:c=a
   ·subst hc;rw[aq] at q;cases q;exact .inl fa
   ·rw[ao hc] at q;rcases u3.fr c o' q with z|z|z
    ·rw[ao hc] at z;exact .inl z
    ·rw[ao hc] at z;exact .inr (.inl z)
    ·exact .inr (.inr z)
  ·by_cases hc:c=a
   ·subst hc;rw[aq] at q ⊢;exact q
   ·rw[ao hc] at q ⊢;exact u3.fh c o' q
end
structure JR(a c:Addr)(F H F' H':Hp):Prop where
 ff:aB F F'
 hb:∀ b o,H b=some o->b≠a->b≠c->H' b=some o
 fr:∀ b o,F' b=some o->F b=some o\/Frz H b o
 fh:aB F' H'
def yN(K:Frag)(F:Hp)(a c:Addr)(p q:PV)(xs:List V)(l:List PV):Prop:=
 xs.length=l.length/\xs[0]?=some (.ref a)/\l[0]?=some p/\xs[1]?=some (.ref c)/\l[1]?=some q/\∀ (k:Nat) x r,2<=k->xs[k]?=some x->l[k]?=some r->Rep K F x r
def wU(K:Frag)(m:List PV->Option (Res PV)):Sp:=λvs H Q _=>∃ ps F a c p q p' q',aB F H/\yN K F a c p q vs ps/\a≠c/\Own K F H a p/\F a=none/\Own K F H c q/\F c=none/\m ps=some (.ok (.tup [p',q']))/\∀ F' H',JR a c F H F' H'->Own K F' H' a p'->F' a=none->Own K F' H' c q'->F' c=none->Q .non H'
def cW(ps:List PV)(n:Nat):Rho:=(ps.mapIdx λk p=>some (if k<2 then Sl.ow p else Sl.sh p))++List.replicate n none
def qN:Option Out->Option (Res PV)
 |some (.nx Z)=>match ownAt 0 Z,ownAt 1 Z with
  |some p,some q=>some (.ok (.tup [p,q]))
  |_,_=>none
 |_=>none
section
variable{K:Frag}{C:Cg}{N:List Str}{vs:List V}{H F:Hp}{Q:VK}{E:XK}{t:TS}{b:Sn}{m:List PV->Option (Res PV)}{ps:List PV}{a c:Addr}{p q:PV}{n:Nat}
theorem jj{i:Nat}{s:Sl}(e:(cW ps n)[i]?=some (some s)):∃ q,ps[i]?=some q/\s=if i<2 then Sl.ow q else Sl.sh q:=by
 unfold cW at e;by_cases hi:i<ps.length
 ·rw[Zah (by simpa using hi),List.getElem?_mapIdx] at e
  cases h:ps[i]? with
  |none=>rw[h] at e;cases e
  |some q=>rw[h] at e;exact⟨q,rfl,(Zac (Zac e)).symm⟩
 ·rw[Zap (by simpa using hi),Za5] at e
  split at e<;>cases e
theorem jV{i:Nat}{x:PV}(r:yN K F a c p q vs ps)(e:(cW ps n)[i]?=some (some (.ow x))):(i=0/\x=p)\/(i=1/\x=q):=by
 obtain⟨q',e1,e2⟩:=jj e;by_cases hij:i<2
 ·rw[Zat hij] at e2;cases e2;rcases(show i=0\/i=1 by omega) with rfl|rfl
  ·rw[r.2.2.1] at e1;cases e1;exact .inl ⟨rfl,rfl⟩
  ·rw[r.2.2.2.2.1] at e1;cases e1;exact .inr ⟨rfl,rfl⟩
 ·rw[Zax hij] at e2;cases e2
theorem wV(s:aB F H)(r:yN K F a c p q vs ps)(ac:a≠c)(w:Own K F H a p)(hn:F a=none)(w2:Own K F H c q)(hn2:F c=none)(hN:N.length=vs.length+n):RE K ⟨λb=>b=a\/b=c,False,H,F,E⟩ F H (start N vs) (cW ps n) where
 rb:=⟨s,λ_ _ h _=>h,λ_ _ h=>.inl h,λb hb=>by
  obtain⟨o,eo⟩:=w.ne;obtain⟨o2,eo2⟩:=w2.ne;have h1:H b≠none:=by
   rcases hb with rfl|rfl
   ·rw[eo];simp
   ·rw[eo2];simp
  exact⟨h1,h1⟩⟩
 len:=by unfold start cW;rw[Zaz,Zaz,Zab,List.length_mapIdx,Zbq,Zbq,r.1,hN];have:=r.1;omega
 sh:=λi x e=>by
  obtain⟨q',e1,e2⟩:=jj e;by_cases hij:i<2
  ·rw[Zat hij] at e2;cases e2
  ·rw[Zax hij] at e2;cases e2;have hi:i<vs.length:=by rw[r.1];exact bI e1
   exact⟨vs[i],fK (by simp[hi]),r.2.2.2.2.2 i _ _ (by omega) (by simp[hi]) e1⟩
 ow:=λi x e=>by
  rcases jV r e with⟨rfl,rfl⟩|⟨rfl,rfl⟩
  ·exact⟨a,fK r.2.1,w,hn,.inl (.inl rfl)⟩
  ·exact⟨c,fK r.2.2.2.1,w2,hn2,.inl (.inr rfl)⟩
 dis:=λi k x y d e e' f f'=>by
  rcases jV r e with⟨rfl,_⟩|⟨rfl,_⟩<;>rcases jV r e' with⟨rfl,_⟩|⟨rfl,_⟩
  ·rfl
  ·rw[fK r.2.1] at f;rw[fK r.2.2.2.1] at f';cases f;cases f';exact absurd rfl ac
  ·rw[fK r.2.2.2.1] at f;rw[fK r.2.1] at f';cases f;cases f';exact absurd rfl ac
  ·rfl
 dd:=⟨_,RD.no λi x e=>by
  obtain⟨q',e1,e2⟩:=jj e;by_cases hij:i<2
  ·rw[Zat hij] at e2;cases e2
  ·rw[Zax hij] at e2;cases e2⟩
noncomputable abbrev C2(a c:Addr)(H0 F0:Hp):Cg:=⟨⟨λb=>b=a\/b=c,False,H0,F0,E0⟩,XR0⟩
theorem BV{k:Nat}(hk:N.length=k+n)(hm:∀ ps r,m ps=some r->ps.length=k/\qN (b (cW ps n))=some r)(h:wU K m vs H Q E)(hS:∀ (a c:Addr) (H0 F0:Hp),MSk K (C2 a c H0 F0) 0 t b) :
  t { nx:=λ_ H'=>Q .non H',rt:=Q } (start N vs) H:=by
 obtain⟨ps,F,a,c,p,q,p',q',s,rp,ac,w,hn,w2,hn2,e,P⟩:=h;obtain⟨hl,e⟩:=hm ps _ e;have R:=wV (E:=E0) (N:=N) (n:=n) s rp ac w hn w2 hn2 (by rw[rp.1,hl];exact hk)
 cases ho:b (cW ps n) with
 |none=>rw[ho] at e;cases e
 |some o=>
  rw[ho] at e;refine hS a c H F F H _ _ _ o R ho ?_;cases o with
  |nx Z=>
   intro F' H' O s' R' kk;rw[fK rp.2.1] at kk;have e:(match ownAt 0 Z,ownAt 1 Z with|some p,some q=>some (Res.ok (PV.tup [p,q]))|_,_=>none)=some (.ok (.tup [p',q'])):=e
   split at e
   ·rename_i x y h0 h1;cases e;obtain⟨b0,e1,e2,e3,e4⟩:=R'.ow 0 _ (aX h0);obtain⟨b1,f1,f2,f3,f4⟩:=R'.ow 1 _ (aX h1);rw[kk] at e1;cases e1;have hc:b1=c:=by
     rcases f4 with(z|z)|z
     ·subst z;exact absurd (R'.dis 0 1 _ _ _ (aX h0) (aX h1) kk f1) (by decide)
     ·exact z
     ·exact z.1.elim
    subst hc;exact P F' H' ⟨s',λb o q h1 h2=>R'.rb.keep b o q λz=>z.elim h1 h2,R'.rb.new,R'.rb.sub⟩ e2 e3 f2 f3
   ·cases e
  |_=>cases e
theorem BW(h:wU K m vs H Q E){k:Nat}(hm:∀ ps r,m ps=some r->ps.length=k):vs.length=k:=by
 obtain⟨ps,F,a,c,p,q,p',q',s,rp,ac,w,hn,w2,hn2,e,P⟩:=h;rw[rp.1];exact hm ps _ e
theorem RE.Nb{F' H':Hp}{O:St}{Z:Rho}{p' q':PV}{i j:Nat}(R:RE K C.toCf F H O Z)(ij:i≠j)(e:Z[i]?=some (some (.ow p)))(ea:O[i]?=some (some (.ref a)))(f0:Z[j]?=some (some (.ow q)))(fc:O[j]?=some (some (.ref c)))
  (u:JR a c F H F' H')(w:Own K F' H' a p')(hn:F' a=none)(w2:Own K F' H' c q')(hn2:F' c=none):RE K C.toCf F' H' O ((Z.set i (some (.ow p'))).set j (some (.ow q'))):=by
 obtain⟨a1,e1,e2,e3,e4⟩:=R.ow i p e;rw[ea] at e1;cases e1;obtain⟨c1,g1,g2,g3,g4⟩:=R.ow j q f0;rw[fc] at g1;cases g1;have own:∀ {b:Addr},b≠a->b≠c->∀ {x:PV},Own K F H b x->F b=none->Own K F' H' b x/\F' b=none:=λ{b} ha hc {x} ox fb=>by
  refine⟨ox.up u.ff λo q=>u.hb b o q ha hc,?_⟩;cases hF:F' b with
  |none=>rfl
  |some o=>
   obtain⟨ob,eob⟩:=ox.ne;rcases u.fr b o hF with z|z|⟨ys,z⟩
   ·rw[fb] at z;cases z
   ·rw[eob] at z;cases z
   ·subst z;have w:=u.fh _ _ hF;rw[u.hb b _ eob ha hc] at w;cases w;exact(ox.qm eob).elim
 have key:∀ {k:Nat}{x:PV},((Z.set i (some (Sl.ow p'))).set j (some (Sl.ow q')))[k]?=some (some (.ow x))->(k=j/\x=q')\/(k=i/\x=p')\/(k≠i/\k≠j/\Z[k]?=some (some (.ow x))):=λ{k x} f=>by
  rcases get_set f with⟨h1,h2⟩|⟨h1,h2⟩
  ·cases h2;exact .inl ⟨h1.symm,rfl⟩
  ·rcases get_set h2 with⟨h3,h4⟩|⟨h3,h4⟩
   ·cases h4;exact .inr (.inl ⟨h3.symm,rfl⟩)
   ·exact .inr (.inr ⟨Zbm h3,Zbm h1,h4⟩)
 have key':∀ {k:Nat}{x:PV},((Z.set i (some (Sl.ow p'))).set j (some (Sl.ow q')))[k]?=some (some (.ow x))->∃ y,Z[k]?=some (some (.ow y)):=λ{k x} f=>by
  rcases key f with⟨rfl,_⟩|⟨rfl,_⟩|⟨_,_,h⟩
  ·exact⟨q,f0⟩
  ·exact⟨p,e⟩
  ·exact⟨x,h⟩
 refine⟨⟨u.fh,λb o h n=>?_,λb o h=>?_,λb hb=>⟨?_,(R.rb.ios b hb).2⟩⟩,by simp[R.len],λk x f=>?_,λk x f=>?_,λk l x y b f f' h h'=>?_,?_⟩
 ·have h1:b≠a:=λz=>by
   subst z;rcases e4 with z|z
   ·exact n z
   ·rw[z.2] at h;cases h
  have h2:b≠c:=λz=>by
   subst z;rcases g4 with z|z
   ·exact n z
   ·rw[z.2] at h;cases h
  exact u.hb b o (R.rb.keep b o h n) h1 h2
 ·rcases u.fr b o h with z|z
  ·exact R.rb.new b o z
  ·exact .inr (z.imp (λz=>R.rb.oY z) id)
 ·by_cases hba:b=a
  ·subst hba;obtain⟨o,eo⟩:=w.ne;rw[eo];simp
  ·by_cases hbc:b=c
   ·subst hbc;obtain⟨o,eo⟩:=w2.ne;rw[eo];simp
   ·cases hb':H b with
    |none=>exact absurd hb' (R.rb.ios b hb).1
    |some o=>rw[u.hb b o hb' hba hbc];simp
 ·rcases get_set f with⟨h1,h2⟩|⟨h1,h2⟩
  ·cases h2
  ·rcases get_set h2 with⟨h3,h4⟩|⟨h3,h4⟩
   ·cases h4
   ·obtain⟨v,k1,k2⟩:=R.sh k x h4;exact⟨v,k1,k2.up u.ff⟩
 ·rcases key f with⟨rfl,rfl⟩|⟨rfl,rfl⟩|⟨k1,k2,h⟩
  ·exact⟨c,fc,w2,hn2,g4⟩
  ·exact⟨a,ea,w,hn,e4⟩
  ·obtain⟨b,h1,h2,h3,h4⟩:=R.ow k x h;have ha:b≠a:=λz=>by subst z;exact k1 (R.dis i k p x b e h ea h1).symm
   have hc:b≠c:=λz=>by subst z;exact k2 (R.dis j k q x b f0 h fc h1).symm
   exact⟨b,h1,(own ha hc h2 h3).1,(own ha hc h2 h3).2,h4⟩
 ·obtain⟨y1,k1⟩:=key' f;obtain⟨y2,k2⟩:=key' f';exact R.dis k l y1 y2 b k1 k2 h h'
 ·obtain⟨P,d⟩:=R.dd;have na:∀ k b,P k b->b≠a:=λk b z e'=>by subst e';exact d.ow k i p b z e ea
  have nc:∀ k b,P k b->b≠c:=λk b z e'=>by subst e';exact d.ow k j q b z f0 fc
  refine⟨P,λk b z=>?_,d.dis,λk l x b z f h=>?_,λk x f=>?_⟩
  ·obtain⟨a1,⟨o',a2,a3⟩,a4⟩:=d.own k b z;have hb':=u.hb b _ a2 (na k b z) (nc k b z);refine⟨?_,⟨o',hb',a3⟩,a4⟩;cases hF:F' b with
   |none=>rfl
   |some o=>
    rcases u.fr b o hF with w|w|⟨ys,w⟩
    ·rw[a1] at w;cases w
    ·rw[a2] at w;cases w
    ·subst w;have w:=u.fh _ _ hF;rw[hb'] at w;cases w;exact absurd rfl (a3 ys)
  ·obtain⟨y,k1⟩:=key' f;exact d.ow k l y b z k1 h
  ·rcases get_set f with⟨h1,h2⟩|⟨h1,h2⟩
   ·cases h2
   ·rcases get_set h2 with⟨h3,h4⟩|⟨h3,h4⟩
    ·cases h4
    ·obtain⟨w',k1,k2⟩:=d.dp k x h4;exact⟨w',k1,k2.up u.ff (λb o z q=>u.hb b o q (na k b z) (nc k b z)) λb ys q=>u.hb b _ q (λz=>by subst z;exact e2.qm q) λz=>by subst z;exact g2.qm q⟩
def pX(i j:Nat)(g:Fn (List PV)):Fn (List PV):=λZ=>match ownAt i Z,ownAt j Z with
 |some p,some q=>bnd (g Z) λl=>some (.ok (p::q::l))
 |_,_=>none
def BX(i j:Nat)(m:List PV->Option (Res PV))(g:Fn (List PV)):Sn:=λZ=>dB (pX i j g Z) λl=>match m l with
 |some (.ok (.tup [p',q']))=>some (.nx ((Z.set i (some (.ow p'))).set j (some (.ow q'))))
 |_=>none
theorem K9{i j:Nat}{ts:TA}{g:Fn (List PV)}{m:List PV->Option (Res PV)}(ij:i≠j)(h:MA K C ts g):MS K C (sW (qg (wU K m) [] C.E (dw (iw i) (dw (iw j) ts)))) (BX i j m g):=by
 intro F H O Z D o R e P;unfold BX pX at e;cases hp:ownAt i Z with
 |none=>rw[hp] at e;cases e
 |some p=>
 cases hq:ownAt j Z with
 |none=>rw[hp,hq] at e;cases e
 |some q=>
 rw[hp,hq] at e;have ep:=aX hp;have eq:=aX hq;obtain⟨a,ea,_⟩:=R.ow i p ep;obtain⟨c,ec,_⟩:=R.ow j q eq;refine⟨_,ea,_,ec,?_⟩;rcases b8 e with⟨z,e1,rfl⟩|⟨l,e1,e2⟩
 ·rcases bj e1 with⟨z',e3,ez⟩|⟨l,e3,e4⟩
  ·cases ez;exact h F H O Z _ _ R e3 P
  ·cases e4
 ·rcases bj e1 with⟨z',e3,ez⟩|⟨l',e3,e4⟩
  ·cases ez
  cases e4;refine h F H O Z _ _ R e3 λxs F1 H1 u rr=>?_;have R1:=R.up u;obtain⟨a',ea',w1,n1,_⟩:=R1.ow i p ep;obtain⟨c',ec',w2,n2,_⟩:=R1.ow j q eq;rw[ea] at ea';cases ea';rw[ec] at ec';cases ec';have ac:a≠c:=λz=>by subst z;exact ij (R.dis i j p q a ep eq ea ec)
  split at e2
  ·rename_i p' q' hm;cases e2;refine⟨p::q::l',F1,a,c,p,q,p',q',u.fh,⟨by simp[rr.1],rfl,rfl,rfl,rfl,λk x r hk ex er=>?_⟩,ac,w1,n1,w2,n2,hm,λF2 H2 u2 o1 m1 o2 m2=>?_⟩
   ·obtain⟨k,rfl⟩:∃ k',k=k'+2:=⟨k-2,by omega⟩
    exact rr.2 k x r (by simpa using ex) (by simpa using er)
   ·exact P F2 H2 O (u.ff.trans u2.ff) (R1.Nb ij ep ea eq ec u2 o1 m1 o2 m2)
  ·cases e2
theorem wW{k i:Nat}{te tb:TE}{fe fk:Fn PV}(he:MJ K C (aF K) te fe)(hk:MJ K C (aF K) tb fk):MSk K C k (Ds (iw i) tb te) (mY i fe fk):=by
 intro F H O Z D o R e P;refine he.Ex R e P λp v F1 H1 hk1 u a=>?_;split at hk1
 case h_2=>cases hk1
 rename_i d hd;obtain⟨b,g1,_⟩:=R.ow i _ (aX hd);refine⟨_,g1,hk.Ex (R.up u) hk1 (P.up u.ff) λkk w F2 H2 hk2 u2 rk=>?_⟩;split at hk2
 case h_2=>cases hk2
 rename_i d' hd';cases hk2;have R2:=R.up (u.trans u2);obtain⟨a',k1,k2,_⟩:=R2.ow i _ (aX hd);rw[g1] at k1;cases k1;obtain⟨ob,g,w'⟩:=uU u2.fh k2 rk (Rep.up a u2.ff) hd';exact⟨b,_,rfl,g,P F2 _ O (u.trans u2).ff (R2.write (aX hd) g1 w') rfl⟩
theorem BZ{k:Nat}{c:TT}{fc:Fn Bool}{f:Sn}(n:Nat)(hc:MT K C c fc)(hb:MSk K C k t f):MSk K C k (yf c t) (iG fc f n):=by
 intro F H O Z D o R e P;refine⟨λm O' H'=>∃ F' Z',aB F F'/\RE K C.toCf F' H' O' Z'/\O'[k]?=O[k]?/\iG fc f m Z'=some o,⟨n,F,Z,aB.refl _,R,rfl,e⟩,?_⟩;rintro m O' H' ⟨F',Z',s,R',kk,e'⟩;cases m with
 |zero=>cases e'
 |succ m=>
  refine hc.Ex R' e' (P.up s) λb F1 H1 hk u=>?_;have sF:aB F F1:=s.trans u.ff;have R1:=R'.up u;cases b with
  |false=>
   rw[Zax (by decide)] at hk ⊢
   cases hk;exact P F1 H1 O' sF R1 kk
  |true=>
   rw[Zat rfl] at hk ⊢;refine⟨λO2 H2=>∃ F2 Z2,aB F F2/\RE K C.toCf F2 H2 O2 Z2/\O2[k]?=O[k]?/\iG fc f m Z2=some o,λO2 H2 ⟨F2,Z2,s2,R2,k2,e2⟩=>⟨m,Zb3 _,F2,Z2,s2,R2,k2,e2⟩,?_⟩;split at hk
   ·rename_i Z2 h2;exact hb F1 H1 O' Z' _ _ R1 h2 λF3 H3 O3 s3 R3 k3=>⟨F3,Z2,sF.trans s3,R3,k3.trans kk,hk⟩
   ·rename_i Z2 h2;exact hb F1 H1 O' Z' _ _ R1 h2 λF3 H3 O3 s3 R3 k3=>⟨F3,Z2,sF.trans s3,R3,k3.trans kk,hk⟩
   ·rename_i Z2 h2;cases hk;exact hb F1 H1 O' Z' _ _ R1 h2 λF3 H3 O3 s3 R3 k3=>P F3 H3 O3 (sF.trans s3) R3 (k3.trans kk)
   ·rename_i n1 n2 n3;cases o with
    |nx Z2=>exact absurd hk (n1 Z2)
    |ct Z2=>exact absurd hk (n2 Z2)
    |bk Z2=>exact absurd hk (n3 Z2)
    |rt p=>exact hb F1 H1 O' Z' _ _ R1 hk (POk.up (D:=D) (c:=O[k]?) P sF)
    |ro p=>exact hb F1 H1 O' Z' _ _ R1 hk (POk.up (D:=D) (c:=O[k]?) P sF)
    |rd p=>exact hb F1 H1 O' Z' _ _ R1 hk (POk.up (D:=D) (c:=O[k]?) P sF)
    |ex z=>exact hb F1 H1 O' Z' _ _ R1 hk (PX.up P sF)
end
end L2.MP
namespace L2
open PySem PySem.Spec PyProof PyProof.Rows
def srt(ns:List Int):List Int:=ns.mergeSort λa b=>decide (a<=b)
theorem dC(ns:List Int):(srt ns).Perm ns:=List.mergeSort_perm ns _
theorem lV(ns:List Int):(srt ns).Pairwise (·<=·):=by
 have:=List.pairwise_mergeSort (le:=λa b:Int=>decide (a<=b)) (λa b c h1 h2=>by simp at h1 h2 ⊢;omega) (λa b=>by simp;omega) ns
 exact this.imp λh=>by simpa using h
theorem jW:∀ {l m:List Int},l.Perm m->l.Pairwise (·<=·)->m.Pairwise (·<=·)->l=m
 |[],m,p,_,_=>p.nil_eq
 |a::l,[],p,_,_=>absurd p.eq_nil (by simp)
 |a::l,b::m,p,hl,hm=>by
  have hab:a=b:=by
   have h1:b∈a::l:=p.symm.subset Zaj;have h2:a∈b::m:=p.subset Zaj;have l1:=(ZaK.mp hl).1;have m1:=(ZaK.mp hm).1;rcases Zaq.mp h1 with e|h1
   ·exact e.symm
   ·rcases Zaq.mp h2 with e|h2
    ·exact e
    ·have:=l1 b h1;have:=m1 a h2;omega
  subst hab;rw[jW (List.Perm.cons_inv p) (ZaK.mp hl).2 (ZaK.mp hm).2]
theorem ni{vs:List Value}{ns:List Int}(h:IntsAre vs ns):Vals (ns.map V.int) vs:=by
 induction h with
 |nil=>exact .nil
 |cons n t _ ih=>exact .cons ⟨t,rfl⟩ ih
def JS(K:Frag):List V->Hp->VK->Prop:=λxs H Q=>∃ p ns,xs=[.ref p]/\SqL K H p (ns.map V.int)/\ns.length<64/\∀ l,H l=none->Q (.ref l) (upd H l (.lst ((srt ns).map V.int)))
section
variable{X:Cx}
theorem wX:gH X (.builtin "sorted") (JS X.K):=by
 intro pins s O H xs us Q I rv h;obtain⟨p,ns,rfl,hq,h64,q⟩:=h;obtain⟨u,rfl,ru⟩:=rv.one;cases ru;obtain⟨its,r,pl,hz⟩:=I.list hq;have hi:=MP.jT r;have hl:its.length=ns.length:=by have:=r.length;simpa using this.symm
 refine sorted_ints pl.isList hi (by omega) λout ns' a1 a2 a3=>?_
 obtain⟨e,he⟩:=sortedAll_at s.heap its out;have en:ns'=srt ns:=jW (a2.trans (dC ns).symm) a3 (lV ns);subst en;have fresh:H (s.heap.objs.size+1)=none:=I.hok.fresh (ZbT _);refine⟨.ref (s.heap.objs.size+1),upd H (s.heap.objs.size+1) (.lst ((srt ns).map V.int)),I.laid (t':=s.toks) (λb o=>sortedAll_old) (ZbT _) ⟨?_,out.toList,e,ni a1,by rw[Array.toArray_toList];exact he⟩,rfl,q _ fresh⟩
 rw[Zab,(dC ns).length_eq];exact ZaS (ZaA h64) (by decide)
end
namespace MP
def qO(l:List PV):Option (Res PV):=match cV l with
 |some ns=>if ns.length<64 then some (.ok (.lst ((srt ns).map .int))) else none
 |none=>none
section
variable{K:Frag}{C:Cg}
theorem La:R1O K C (aV K) (JS K) qO:=by
 intro F H x a res Q s ha e P;unfold qO at e;cases h:cV a with
 |none=>rw[h] at e;cases e
 |some ns=>
  rw[h] at e;have e:(if ns.length<64 then some (Res.ok (PV.lst ((srt ns).map .int))) else none)=some res:=e;split at e
  ·rename_i h64;cases e;obtain⟨b,xs,rfl,h1,r1⟩:=ha;have ex:xs=ns.map V.int:=kJ h r1;subst ex;exact⟨b,ns,rfl,h1,h64,λl hl=>P l F _ (Up.rZ s hl) hl (s.free hl) ⟨_,aq,aZ.mO _⟩⟩
  ·cases e
end
end MP
def Itp(a:Addr)(raw:Obj)(kvs:List (Key×V)):It:=
 ⟨λi H=>H a=some (.frz raw (.dK kvs))/\i<kvs.length,λi H x H'=>∃ p kv,H p=none/\kvs[i]?=some kv/\x=.ref p/\H'=upd H p (.tup [kV kv.1,kv.2]),λi H=>H a=some (.frz raw (.dK kvs))/\i=kvs.length⟩
theorem Lb{P:Program}{w:World}{kvs:List (Key×V)}{vs:List (Key×Value)}(r:KV kvs vs){i:Nat}{p:Key×V}(e:kvs[i]?=some p):∃ u,vs[i]?=some (p.1,u)/\RelV p.2 u:=by
 induction r generalizing i with
 |nil=>cases i<;>cases e
 |@cons a b as bs h t ih=>
  cases i with
  |zero=>
   cases e;obtain⟨b1,b2⟩:=b;obtain⟨h1,h2⟩:=h;exact⟨b2,by rw[List.getElem?_cons_zero,h1],h2⟩
  |succ i=>rw[List.getElem?_cons_succ] at e;obtain⟨u,q1,q2⟩:=ih e;exact⟨u,by rw[List.getElem?_cons_succ];exact q1,q2⟩
theorem yO{P:Program}{w:World}{K:Frag}{elts:List Expr}{x1:Nat}{pos:Pos}(a it:Addr)(raw:Obj)(kvs:List (Key×V)){es:Array DictEntry}{ep:Nat}(hd:raw.data=.dict es ep) :
  Turn P w K (.Tuple elts x1 pos) (Itp a raw kvs) [it] it (λi h=>∃ ok ov,IsItemIter h it a i kvs.length ep ok ov) where
 mem:=by simp
 obj:=λi h st b hb=>by
  have e:b=it:=by simpa using hb
  subst e;obtain⟨ok,ov,e⟩:=st;exact⟨_,e,λv z=>by cases z⟩
 keep:=λi h h' st k=>by
  obtain⟨ok,ov,e⟩:=st;exact⟨ok,ov,k it (by simp) _ e⟩
 item:=by
  intro X hP hw hK hc i pins s O H E I hf st hg;subst hP hw hK;obtain⟨e,hi⟩:=hg;obtain⟨ok,ov,ei⟩:=st;obtain⟨f0,f1,f2,f3,f4,f5⟩:=hf it (by simp)
  obtain⟨_,vs,kv,dd⟩:=kY I.hok e hd;have hl:=kv.length;obtain⟨p,hp⟩:∃ p,kvs[i]?=some p:=⟨_,Zaa hi⟩;obtain⟨u,hu,ru⟩:=Lb (P:=X.prog) (w:=X.w) kv hp;refine wpAny_pyNext_items_item (knd:=bu X.prog X.w) (by rw[<-hl];exact ei) dd hu λkey h3 hk e3 n3 sz3 k3=>?_
  refine⟨_,rfl,wpAny_letOwnedTupleGo_items e3 λh4 e4 s4=>?_⟩;have ilt:it<s.heap.objs.size:=Zas ei;have hT2:IsPair h4 s.heap.objs.size key u:=(s4.2 _ (ZbY ilt)).trans n3;refine⟨.ref s.heap.objs.size,upd H s.heap.objs.size (.tup [kV p.1,p.2]),I.Bo (ch:=[it]) (λb' o hb q=>?_) hf (Zal _) ⟨by show 2<=sizeLine;decide,[key,u],.cons (u0 hk) (.cons ru .nil),fj.mk hT2⟩,rfl,⟨_,p,I.hok.fresh (Zal _),hp,rfl,rfl⟩,⟨key,u,by rw[hl];exact e4⟩,λb' hb=>?_⟩
  ·have q1:b'≠it:=λe=>hb (by simp[e])
   exact(s4.2 b' q1).trans (k3 b' o q1 q)
  ·have e:b'=it:=by simpa using hb
   subst e;rw[ao (ZaB ilt)];exact f0
 done:=by
  intro X hP hw hK hc i pins s O H E I hf st hg;subst hP hw hK;obtain⟨e,hi⟩:=hg;obtain⟨ok,ov,ei⟩:=st;obtain⟨_,vs,kv,dd⟩:=kY I.hok e hd;have hl:=kv.length;refine wpAny_pyNext_items_end (knd:=bu X.prog X.w) (I.ok.hd hc) (by rw[<-hl];exact ei) dd (by rw[ZbF];omega) λh' k=>⟨rfl,?_⟩
  exact I.mD (t':=s.toks) (ch:=[it]) (λb' o hb q=>k b' o (λe=>hb (by simp[e])) q) hf
 self:=λA i s Q E st h=>by
  obtain⟨ok,ov,e⟩:=st;exact PySem.W.kcp_self e h
def Fe(tl:TE):TI:=λO H R=>tl O H λx H1=>∃ a raw kvs,x=.ref a/\H1 a=some (.frz raw (.dK kvs))/\R (Itp a raw kvs) H1
theorem Ff{X:Cx}{o:Expr}{apos cpos tpos:Pos}{elts:List Expr}{x1:Nat}{tl:TE}(hl:PE X o tl)(hbase:attributeBase o "items" X.env (eval o X.env)=eval o X.env:=by rfl)(hline:(apos.endLine==cpos.line)=true:=by rfl) :
  PI X (.Tuple elts x1 tpos) (.Call (.Attribute o "items" apos) [] [] cpos) (Fe tl):=by
 intro pins s O H R I h;refine wpAny_Call_method (T:="dict") (id:="dict.items") hbase rfl hline PySem.F.plainAttrs_dict PySem.F.slot_dict_items PySem.F.type_dict_items (thn (hl pins s O H _ I h) ?_);rintro u s1 ⟨x,H1,I1,rx,q1⟩;obtain⟨a,raw,kvs,e,ha,q⟩:=q1;subst e;obtain rfl:u=Value.ref a:=rx;obtain⟨t1,t2,_⟩:=Dw I1 (.inl ⟨kvs,.inr ⟨raw,ha⟩⟩);refine⟨t1,t2,?_⟩;obtain⟨es,ep,hd⟩:∃ es ep,raw.data=.dict es ep:=by
  obtain⟨hr,_,hs,vs,kv,o,es',ep',h1,h2,h3,h4⟩:=(show bR X.prog X.w H1 s1.heap a (.frz raw (.dK kvs)) from I1.hok a _ ha);rw[hr] at h1;cases h1;exact⟨_,_,h3⟩
 obtain⟨hs,vs,kv,dd⟩:=kY I1.hok ha hd;show wpAny _ _ (callWith cpos (.builtin "dict.items") [.ref a] [] []) _ _ s1
 refine method_meetsIn PySem.F.slot_dict_items PySem.F.entry_dict_items rfl (PySem.evalArgs_none ⟨rfl,t1,PySem.F.args_dict_items_1 _,_,meets_dict_items (bu X.prog X.w) a hs,⟨vs,Heap.DictAt.dictOf dd⟩,?_⟩);have hsz:(s1.heap.push { cls:=.type "dict_items",data:=.fields #[.ref a] }).objs.size=s1.heap.objs.size+1:=ZbW ..;refine wpAny_pyIter_items (knd:=bu X.prog X.w) (d:=a) (kvs:=vs) (ep:=ep) ⟨_,Zar _ rfl,rfl,rfl⟩ (dd.push _) ?_;refine⟨(s1.heap.push { cls:=.type "dict_items",data:=.fields #[.ref a] }).objs.size,[(s1.heap.push { cls:=.type "dict_items",data:=.fields #[.ref a] }).objs.size],_,_,H1,rfl,I1.kept (t':=s1.toks) λb o e=>Zae _ (Zae _ e),yO a _ raw kvs hd,⟨.none,.none,?_⟩,λb hb=>?_,q⟩
 ·rw[kv.length];exact Zar _ rfl
 ·have e:b=s1.heap.objs.size+1:=by simpa[hsz] using hb
  subst e;exact I1.ut (ZbT _) (I1.hok.fresh (ZbT _))
namespace MP
def lW(l:List (Key×PV)):List PV:=l.map λkv=>.tup [yI kv.1,kv.2]
def qP:PV->Option (Res (List PV))
 |.dk l=>some (.ok (lW l))
 |_=>none
section
variable{K:Frag}{C:Cg}
theorem Cd(i:Nat):HJ K C i (Fe (iw i)) (m1 qP (mV i)):=by
 intro F H O Z R' r R hh e P;rcases bj e with⟨z,e1,rfl⟩|⟨p,e1,hk⟩
 ·unfold mV at e1;split at e1
  ·cases e1
  ·cases e1
 obtain⟨a,raw,u,ev,fa,hu⟩:=hh;have hp:Z[i]?=some (some (.sh p)):=by
  unfold mV at e1;split at e1
  ·rename_i q hq;cases e1;exact hq
  ·cases e1
 match p,hk with
 |.dk l,hk=>
  cases hk;obtain⟨v,ev',rv⟩:=R.sh i _ hp;rw[ev] at ev';cases ev';cases rv with
  |@dk _ xs _ h hl hr=>
   have hx:u=.dK xs:=by
    rcases h with h|⟨o,h⟩
    ·rw[fa] at h;cases h
    ·rw[fa] at h;cases h;rfl
   subst hx;have len:xs.length=l.length:=by have:=Zba List.length hl;simpa using this
   refine⟨_,ev,a,raw,xs,rfl,R.rb.sub _ _ fa,P _ F H (Up.refl R.rb.sub) ⟨λF' H' s s'=>?_,λj F' H' hj s s'=>?_,λj F' H' x H'' hj s s' y=>?_⟩⟩
   ·exact⟨s' _ _ (s _ _ fa),by unfold lW;rw[Zab];exact len.symm⟩
   ·refine⟨s' _ _ (s _ _ fa),?_⟩;unfold lW at hj;rw[Zab] at hj;omega
   ·obtain⟨p,kv,hp,hkv,rfl,rfl⟩:=y;have hl2:(l.map (·.1))[j]?=some kv.1:=by rw[<-hl,Zaf,hkv];rfl
    rw[Zaf] at hl2;cases q:l[j]? with
    |none=>rw[q] at hl2;cases hl2
    |some w=>
     rw[q] at hl2;have ew:w.1=kv.1:=Zac hl2;have un:=Up.new (o:=.tup [kV kv.1,kv.2]) s' hp;refine⟨_,.tup [yI w.1,w.2],un,?_,.tup aq rfl λn x p' hx hp'=>?_⟩
     ·unfold lW;rw[Zaf,q];rfl
     ·match n with
      |0=>simp at hx hp';subst hx hp';rw[ew];exact zU
      |1=>simp at hx hp';subst hx hp';exact(hr j _ _ hkv q).up (s.trans un.ff)
      |n+2=>simp at hx
end
end MP
def iJ:List Key->Option (List Int)
 |[]=>some []
 |.inl n::ks=>(iJ ks).map (n::·)
 |.inr _::_=>none
theorem nq:∀ {ks:List Key}{ns:List Int},iJ ks=some ns->ns.length=ks.length
 |[],ns,e=>by cases e;rfl
 |.inl n::ks,ns,e=>by
  simp only[iJ,Za9] at e;obtain⟨ms,e,rfl⟩:=e;simp[nq e]
 |.inr _::_,ns,e=>by cases e
theorem nu{P:Program}{w:World}:∀ {ks:List Key}{ns:List Int}{vs:List Value},iJ ks=some ns->vs.length=ks.length->(∀ (j:Nat) v,vs[j]?=some v->∃ k,ks[j]?=some k/\(bu P w).is k v=true)->IntsAre vs ns
 |[],ns,vs,e,hl,h=>by
  cases e;cases vs with
  |nil=>exact .nil
  |cons v vs=>cases hl
 |.inl n::ks,ns,vs,e,hl,h=>by
  simp only[iJ,Za9] at e;obtain⟨ms,e,rfl⟩:=e;cases vs with
  |nil=>cases hl
  |cons v vs=>
   obtain⟨k,e0,hk⟩:=h 0 v rfl;cases e0;obtain⟨t,rfl⟩:RelV (kV (.inl n)) v:=u0 hk;exact .cons n t (nu (P:=P) (w:=w) e (by simpa using hl) λj v hv=>h (j+1) v hv)
 |.inr _::_,ns,vs,e,hl,h=>by cases e
theorem u5{h:Heap}{vs:List Value}{out:Array Value}{b:Addr}{o:Obj}(hb:h.get? b=some o):(sortedHeap (h.push (seqObj "list" vs.toArray 0)) h.objs.size vs out).get? b=some o:=by
 have hlt:b<h.objs.size:=Zas hb;rw[sortedHeap_old (ZaB hlt) (by rw[size_push'];exact Zbt hlt)]
 exact Zae _ hb
def Fg:List V->Hp->VK->Prop:=λxs H Q=>∃ p kvs ns,xs=[.ref p]/\Rd H p (.dK kvs)/\iJ (kvs.map (·.1))=some ns/\ns.length<64/\∀ l,H l=none->Q (.ref l) (upd H l (.lst ((srt ns).map V.int)))
section
variable{X:Cx}
theorem u6(hc:X.calm=true):gH X (.builtin "sorted") Fg:=by
 intro pins s O H xs us Q I rv h;obtain⟨p,kvs,ns,rfl,e,hk,h64,q⟩:=h;obtain⟨u,rfl,ru⟩:=rv.one;cases ru;obtain⟨z,hd,vs,rel,dd⟩:=oX I.hok e;obtain⟨o,es,ep,d1,d2,d3,d4⟩:=dd;have hl:=rel.length;have hn:ns.length=kvs.length:=by have:=nq hk;simpa using this
 refine Calls.call_function_entry kind_sorted plain_sorted entry_sorted (args_sorted1 _) ?_;unfold Builtin.«sorted»;refine Zai (m:=checkCount "sorted" 1 1 _) (Zav ?_);refine Zai (PySem.W.kdu_collect (PySem.W.kdl_dict (knd:=bu X.prog X.w) (kvs:=vs) (ep:=ep) hd) (I.ok.hd hc) ⟨o,es,d1,d2,d3,d4⟩ (by omega) λh' tk acc hold hacc=>?_)
 have hla:acc.toList.length=vs.length:=by rw[ZaD];exact hacc.1
 have hia:IntsAre acc.toList ns:=nu (P:=X.prog) (w:=X.w) hk (by rw[hla,Zab,hl]) λj v hv=>by
  obtain⟨k,x,q1,q2⟩:=hacc.2 j v (by rw[<-Zb1];exact hv)
  refine⟨k,?_,q2⟩;rw[rel.keys,Zaf,q1];rfl
 refine Zai (wpAny_newList ?_ (by rw[hla];omega))
 have hoL:(h'.push (seqObj "list" acc.toList.toArray 0)).get? h'.objs.size=some (seqObj "list" acc.toList.toArray 0):=Zar _ rfl;show wpAny _ _ _ _ _ { s with heap:=h'.push (seqObj "list" acc.toList.toArray 0),toks:=tk }
 refine Zai (wpAny_holding (wpAny_call_entry slot_list_sort ⟨_,hoL,rfl⟩ entry_list_sort (list_sort_tree hoL hia (by omega) λout ns' a1 a2 a3=>⟨_,rfl,?_⟩) (args_list_sort _)))
 refine Zav ⟨_,rfl,?_⟩;obtain⟨e',he⟩:=sortedHeap_at (out:=out) hoL;have en:ns'=srt ns:=jW (a2.trans (dC ns).symm) a3 (lV ns);subst en;have I1:Inv X pins O H { s with heap:=h',toks:=tk }:=I.kept hold;have fresh:H h'.objs.size=none:=I1.hok.fresh (Zal _);refine⟨.ref h'.objs.size,upd H h'.objs.size (.lst ((srt ns).map V.int)),I1.laid (t':=tk) (λb o=>u5) (Zal _) ⟨?_,out.toList,e',ni a1,by rw[Array.toArray_toList];exact he⟩,rfl,q _ fresh⟩
 rw[Zab,(dC ns).length_eq];exact ZaS (ZaA h64) (by decide)
end
namespace MP
def nA:PV->Option (Res PV)
 |.dk l=>match iJ (l.map (·.1)) with
  |some ns=>if ns.length<64 then some (.ok (.lst ((srt ns).map .int))) else none
  |none=>none
 |_=>none
section
variable{K:Frag}{C:Cg}
theorem HQ:R1O K C (aD K) Fg nA:=by
 intro F H x a res Q s ha e P
 match a,e with
 |.dk l,e=>
  obtain⟨_,ad,rfl,xs,h1,h2,h3⟩:=ha;replace e:(match iJ (l.map (·.1)) with
   |some ns=>if ns.length<64 then some (Res.ok (PV.lst ((srt ns).map .int))) else none
   |none=>none)=some res:=e
  cases h:iJ (l.map (·.1)) with
  |none=>rw[h] at e;cases e
  |some ns=>
   rw[h] at e;have e:(if ns.length<64 then some (Res.ok (PV.lst ((srt ns).map .int))) else none)=some res:=e;split at e
   ·rename_i h64;cases e;exact⟨ad,xs,ns,rfl,h1,by rw[h2];exact h,h64,λl' hl=>P l' F _ (Up.rZ s hl) hl (s.free hl) ⟨_,aq,aZ.mO _⟩⟩
   ·cases e
end
end MP
end L2
namespace L2.MP
open PySem PySem.Spec PyProof.Rows
section
variable{K:Frag}{C:Cg}{te:TE}{F F' G H H1 H':Hp}{O:St}{Z:Rho}{D:Ends}{t:TS}{f:Sn}{o:Out}{S:Addr->Prop}{v:V}{p:PV}
theorem Rep.n6:∀ {n:Nat}{v:V}{p:PV},Rep K F v p->MP.n6 n p=true->(∀ b ys,F b=some (.tup ys)->G b=some (.tup ys))->Rep K G v p
 |0,v,p,h,hs,g=>h.free hs
 |n+1,v,p,h,hs,g=>by
  cases h with
  |non=>exact .non
  |bl=>exact .bl
  |int=>exact .int
  |str=>exact .str
  |ty=>exact .ty
  |tup h hl hr=>exact .tup (g _ _ h) hl λj x p a b=>(hr j x p a b).n6 (n:=n) (Za2.mp hs p (Zao b)) g
  |lst=>cases hs
  |dk=>cases hs
  |dt=>cases hs
  |exc=>cases hs
  |exc0=>cases hs
theorem Dp.toG(d:Dp K F H S v p)(g:∀ b ys,F b=some (.tup ys)->G b=some (.tup ys)):Dp K G H S v p:=by
 induction d with
 |fr h st=>exact .fr (h.n6 st g) st
 |lst h hp hs dj hl _ ih=>exact .lst h hp hs dj hl ih
 |tup h hs dj hl _ ih=>exact .tup h hs dj hl ih
 |dk h hp hs dj hl _ ih=>exact .dk h hp hs dj hl ih
 |dt h hp hs dj hl _ ih=>exact .dt h hp hs dj hl ih
def u9(m:List PV->Option (Res PV))(f:Fn (List PV)):Fn PV:=λZ=>bnd (f Z) λl=>match m l with
 |some (.ok p)=>some (.ok p)
 |_=>none
theorem Fi{t:TA}{f:Fn (List PV)}{m:List PV->Option (Res PV)}(h:MAL K C t f):MD K C (qg (spD K C.XR m) [] C.E t) (u9 m f):=by
 intro F H O Z Q r R e P;refine h.run R e P λl xs F1 H1 hk u a=>?_;split at hk
 ·rename_i p hp;cases hk;refine⟨l,H1,.ok p,aB.refl _,by rw[ZaX];exact a,hp,λv F' H' S u' d n=>?_⟩
  have s1:aB F1 H':=u.fh.trans u'.hh;refine P v (sE F1 H' λ_=>False) H' S ⟨u.ff.trans (gF s1),u.hh.trans u'.hh,λb o q=>?_,qI s1⟩ (d.toG λb ys q=>?_) λb q=>?_
  ·by_cases hb:False\/∃ ys,H' b=some (.tup ys)
   ·rw[ik hb] at q;obtain⟨ys,z⟩:=hb.resolve_left id;rw[z] at q;cases q;exact .inr (.inr ⟨ys,rfl⟩)
   ·rw[fL hb] at q;exact u.fr b o q
  ·have:=u'.fh _ _ q;rw[ik (.inr ⟨ys,this⟩)];exact this
  ·obtain⟨n1,n2,o,n3,n4⟩:=n b q;refine⟨u.hh.free n1,?_,o,n3,n4⟩;rw[fL]
   ·exact u.fh.free n1
   ·rintro(z|⟨ys,z⟩)
    ·exact z
    ·rw[n3] at z;cases z;exact n4 ys rfl
 ·cases hk
def qQ(i:Nat)(f:Sn):Sn:=λZ=>match m9 i Z with
 |some p=>f (Z.set i (some (.sh p)))
 |none=>none
theorem zW(i:Nat)(h:MS K C t f):MS K C t (qQ i f):=by
 intro F H O Z D o R e P;unfold qQ at e;split at e
 ·rename_i p hp;obtain⟨S,v,_,_,_,R'⟩:=R.Ey (cM hp);exact h _ H O _ D o R' e (P.up (gF R.rb.sub))
 ·cases e
def NT(C:Cf)(js:List Nat)(Z:Rho)(O:St)(H F' H':Hp)(S:Addr->Prop):Prop:=∀ b,S b->(H b=none\/∃ i p,i∈js/\Z[i]?=some (some (.ow p))/\O[i]?=some (some (.ref b)))/\F' b=none/\(∃ o,H' b=some o/\∀ ys,o≠.tup ys)/\C.H0 b=none
def MDo(K:Frag)(C:Cg)(js:List Nat)(ta:TA)(f:Fn (List PV)):Prop:=
 ∀ F H O Z Q r,RE K C.toCf F H O Z->f Z=some r->Pr C F (λl=>∀ xs F' H' S,Up F H F' H'->Dps K F' H' S xs l->NT C.toCf js Z O H F' H' (λb=>∃ j,S j b)->Q xs H') r->ta O H Q
theorem vd:MDo K C [] lr bW:=λF H O Z Q r R e P=>by
 cases e;exact P [] F H (λ_ _=>False) (Up.refl R.rb.sub) ⟨rfl,λ_ _ _ q=>q.elim,λj x p e=>by simp at e⟩ λb ⟨_,q⟩=>q.elim
theorem qR{js:List Nat}{fe:Fn PV}{fs:Fn (List PV)}{ts:TA}(h:MD K C te fe)(hs:MDo K C js ts fs):MDo K C js (dw te ts) (aN fe fs):=by
 intro F H O Z Q r R e P;rcases bj e with⟨z,e1,rfl⟩|⟨p,e1,hk⟩
 ·exact h F H O Z _ _ R e1 P
 refine h F H O Z _ _ R e1 λv F1 H1 S u d n=>?_;rcases bj hk with⟨z,e2,rfl⟩|⟨l,e2,hk2⟩
 ·exact hs F1 H1 O Z _ _ (R.up u) e2 (PX.up P u.ff)
 refine hs F1 H1 O Z _ _ (R.up u) e2 λxs F2 H2 S2 u2 d2 n2=>?_;cases hk2;have ap:∀ b j,S b->S2 j b->False:=λb j a1 a2=>by
  obtain⟨c0,_,o,c1,_⟩:=n b a1;rcases(n2 b ⟨j,a2⟩).1 with c2|⟨i,q,_,c2,c3⟩
  ·rw[c1] at c2;cases c2
  ·exact R.apart c0 i q c2 c3
 refine P (v::xs) F2 H2 (λj b=>match j with|0=>S b|j+1=>S2 j b) (u.trans u2) ⟨by simp[d2.1],λi j b a1 a2=>?_,λj x q a1 a2=>?_⟩ ?_
 ·match i,j,a1,a2 with
  |0,0,_,_=>rfl
  |0,j+1,a1,a2=>exact(ap b j a1 a2).elim
  |i+1,0,a1,a2=>exact(ap b i a2 a1).elim
  |i+1,j+1,a1,a2=>exact Zba (·+1) (d2.2.1 i j b a1 a2)
 ·match j,a1,a2 with
  |0,a1,a2=>cases a1;cases a2;exact d.stay u2
  |j+1,a1,a2=>exact d2.2.2 j x q (by simpa using a1) (by simpa using a2)
 ·rintro b ⟨j,q⟩
  match j,q with
  |0,q=>
   obtain⟨c0,c1,o,c2,c3⟩:=(n.up u2) b q;exact⟨.inl c0,c1,⟨o,c2,c3⟩,R.rb.oY c0⟩
  |j+1,q=>
   obtain⟨c1,c2⟩:=n2 b ⟨j,q⟩;exact⟨c1.imp (λz=>u.hh.free z) id,c2⟩
def PV.kZ:PV->Bool
 |.lst l=>l.all PV.still
 |.dk l=>l.all λkv=>kv.2.still
 |.dt l=>l.all λkv=>kv.2.still
 |_=>false
def jX(i:Nat):Fn PV:=λZ=>match ownAt i Z with
 |some p=>if p.kZ=true then some (.ok p) else none
 |none=>none
theorem Own.dp{a:Addr}(w:Own K F H a p)(h:p.kZ=true):Dp K F H (λb=>b=a) (.ref a) p:=by
 cases p with
 |lst l=>
  obtain⟨xs,e2,e3⟩:=w;exact .lst (S:=λ_ _=>False) e2 rfl (λj b q=>q.elim) (λi j b q=>q.elim) e3.1 λj x p e4 e5=>.fr (e3.2 j x p e4 e5) (Za2.mp h p (Zao e5))
 |dk l=>
  obtain⟨xs,e2,e3,e4⟩:=w;exact .dk (S:=λ_ _=>False) e2 rfl (λj b q=>q.elim) (λi j b q=>q.elim) e3 λj x p e5 e6=>.fr (e4 j x p e5 e6) (Za2.mp h p (Zao e6))
 |dt l=>
  obtain⟨xs,e2,e3,e4⟩:=w;exact .dt (S:=λ_ _=>False) e2 rfl (λj b q=>q.elim) (λi j b q=>q.elim) e3 λj x p e5 e6=>.fr (e4 j x p e5 e6) (Za2.mp h p (Zao e6))
 |_=>cases h
theorem nC{js:List Nat}(i:Nat){fs:Fn (List PV)}{ts:TA}(hio:∀ a,¬C.io a)(hi:i ∉ js)(hs:MDo K C js ts fs):MDo K C (i::js) (dw (iw i) ts) (aN (jX i) fs):=by
 intro F H O Z Q r R e P;rcases bj e with⟨z,e1,rfl⟩|⟨p,e1,hk⟩
 ·unfold jX at e1;split at e1
  ·split at e1<;>cases e1
  ·cases e1
 have hp:Z[i]?=some (some (.ow p))/\p.kZ=true:=by
  unfold jX at e1;split at e1
  ·rename_i q hq;split at e1
   ·rename_i sh;cases e1;exact⟨aX hq,sh⟩
   ·cases e1
  ·cases e1
 obtain⟨a,ea,w,na,e4⟩:=R.ow i p hp.1;refine⟨_,ea,?_⟩;rcases bj hk with⟨z,e2,rfl⟩|⟨l,e2,hk2⟩
 ·exact hs F H O Z _ _ R e2 P
 refine hs F H O Z _ _ R e2 λxs F2 H2 S2 u2 d2 n2=>?_;cases hk2;obtain⟨a',ea',w2,na2,_⟩:=(R.up u2).ow i p hp.1;rw[ea] at ea';cases ea';obtain⟨ob,eob⟩:=w.ne;have ap:∀ j,S2 j a->False:=λj q=>by
  rcases(n2 a ⟨j,q⟩).1 with c|⟨k,q',hk',c2,c3⟩
  ·rw[eob] at c;cases c
  ·have:=R.dis i k p q' a hp.1 c2 ea c3;subst this;exact hi hk'
 refine P (.ref a::xs) F2 H2 (λj b=>match j with|0=>b=a|j+1=>S2 j b) u2 ⟨by simp[d2.1],λi j b a1 a2=>?_,λj x q a1 a2=>?_⟩ ?_
 ·match i,j,a1,a2 with
  |0,0,_,_=>rfl
  |0,j+1,a1,a2=>cases a1;exact(ap j a2).elim
  |i+1,0,a1,a2=>cases a2;exact(ap i a1).elim
  |i+1,j+1,a1,a2=>exact Zba (·+1) (d2.2.1 i j b a1 a2)
 ·match j,a1,a2 with
  |0,a1,a2=>cases a1;cases a2;exact w2.dp hp.2
  |j+1,a1,a2=>exact d2.2.2 j x q (by simpa using a1) (by simpa using a2)
 ·rintro b ⟨j,q⟩
  match j,q with
  |0,q=>
   cases q;obtain⟨ob2,eob2⟩:=w2.ne;exact⟨.inr ⟨i,p,Zaj,hp.1,ea⟩,na2,⟨ob2,eob2,λys z=>by subst z;exact w2.qm eob2⟩,(e4.resolve_left (hio a)).2⟩
  |j+1,q=>
   obtain⟨c1,c2⟩:=n2 b ⟨j,q⟩;exact⟨c1.imp id λ⟨k,q',hk',z⟩=>⟨k,q',Zak _ hk',z⟩,c2⟩
def t7(fs:Fn (List PV)):Sn:=λZ=>dB (fs Z) λl=>if l.length<=sizeLine then some (.rd (.tup l)) else none
theorem vf{js:List Nat}{fs:Fn (List PV)}{ts:TA}(h:MDo K C js ts fs):MS K C (Az (Km ts)) (t7 fs):=by
 intro F H O Z D o R e P;rcases b8 e with⟨z,e1,rfl⟩|⟨l,e1,hk⟩
 ·exact h F H O Z _ _ R e1 P
 split at hk
 ·rename_i hl;cases hk;refine h F H O Z _ _ R e1 λxs F1 H1 S u d n=>⟨by rw[d.1];exact hl,λa ha=>?_⟩
  have u2:Up F1 H1 F1 (upd H1 a (.tup xs)):=⟨aB.refl _,cI ha,λ_ _ q=>.inl q,λb o q=>by rw[ao (λz=>by subst z;have:=u.fh _ _ q;rw[ha] at this;cases this)];exact u.fh b o q⟩
  refine P (.ref a) F1 _ (λb=>∃ j,S j b) u.ff (R.rb.up (u.trans u2)) (.tup aq (λj b q=>⟨j,q⟩) d.2.1 d.1 λj x p a1 a2=>(d.2.2 j x p a1 a2).stay u2) λb q=>?_;obtain⟨_,c1,⟨o,c2,c3⟩,c4⟩:=n b q;exact⟨c1,⟨o,u2.hh _ _ c2,c3⟩,c4⟩
 ·cases hk
end
open PySem PySem.Spec PyProof PyProof.Rows
def JT(i j:Int):Prop:=i.natAbs<2^9000/\j.natAbs<2^9000
def JV(i j:Int):Bool:=decide (i.natAbs<2^9000/\j.natAbs<2^9000)
section
variable{K:Frag}{C:Cg}
theorem vg{X:Cx}:OpR X (binaryOp .Mult) (rI JT λi j=>.int (i*j)):=_root_.L2.opI λ_ _ _ _ _ _ _ hc q=>mul_int q (PySem.IntMulOk.of_le (PyProof.Rows.intBits_le hc.1) (PyProof.Rows.intBits_le hc.2) (by decide))
def oJ:=MP.opI JV λi j=>.int (i*j)
theorem yP:R2M C (aF K) (aF K) (aF K) (rI JT λi j=>.int (i*j)) oJ:=tU (λ_ _ h=>of_decide_eq_true (p:=_/\_) h) λ_ _ _=>.int
end
end L2.MP
namespace L2
open PySem PySem.Spec PyProof PyProof.Rows
open PySem PySem.W PyProof.Rows
def eZ{α:Type}(lt:Nat->Nat->Bool):KasT α->α
 |.ret a=>a
 |.ask i j k=>eZ lt (k (lt i j))
def kIn{α:Type}(n:Nat)(P:α->Prop):KasT α->Prop
 |.ret a=>P a
 |.ask i j k=>i<n/\j<n/\∀ b,kIn n P (k b)
theorem kIn.then{α β:Type}{n:Nat}{P:α->Prop}{P':β->Prop}{f:α->KasT β}:∀ {t:KasT α},kIn n P t->(∀ a,P a->kIn n P' (f a))->kIn n P' (t.bind f)
 |.ret a,h,hf=>hf a h
 |.ask i j k,h,hf=>⟨h.1,h.2.1,λb=>kIn.then (h.2.2 b) hf⟩
theorem kIn.run{α:Type}{n:Nat}{P:α->Prop}{lt:Nat->Nat->Bool}{cmp:Nat->Nat->(Bool->Shared->Prop)->Shared->Prop}{Q:α->Shared->Prop}{s:Shared}(hc:∀ i j C,i<n->j<n->C (lt i j) s->cmp i j C s):∀ {t:KasT α},kIn n P t->Q (eZ lt t) s->t.kasWp cmp Q s
 |.ret _,_,q=>q
 |.ask i j k,h,q=>hc i j _ h.1 h.2.1 (kIn.run hc (h.2.2 (lt i j)) q)
def Bd(n:Nat)(p:Array Nat):Prop:=∀ x∈p.toList,x<n
section
variable{n:Nat}{p:Array Nat}
theorem Bd.get(h:Bd n p)(n0:0<n)(i:Nat):p.getD i 0<n:=by
 by_cases hi:i<p.size
 ·have e:p.getD i 0=p[i]:=by simp[Array.getD,hi]
  rw[e];exact h _ (Array.getElem_mem_toList hi)
 ·have e:p.getD i 0=0:=by simp[Array.getD,hi]
  rw[e];exact n0
theorem Bd.perm{q:Array Nat}(h:Bd n p)(e:q.Perm p):Bd n q:=λx hx=>h x ((Zce.mp e).mem_iff.mp hx)
theorem Bd.rev(h:Bd n p)(i j:Nat):Bd n (kas_rev p i j):=h.perm (mirror_perm _ _ _ _)
theorem yQ(n0:0<n)(h:Bd n p):∀ f m,kIn n (λ_=>True) (kas_asc p f m)
 |0,_=>trivial
 |f+1,m=>⟨h.get n0 _,h.get n0 _,λb=>by
  cases b with
  |true=>exact trivial
  |false=>exact yQ n0 h f (m+1)⟩
theorem pY(n0:0<n):∀ f (p:Array Nat) m q,Bd n p->kIn n (λr=>Bd n r.1) (kas_desc f p m q)
 |0,_,_,_,h=>h
 |f+1,p,m,q,h=>⟨h.get n0 _,h.get n0 _,λb=>by
  cases b with
  |true=>
   show kIn n _ (if q>0 then _ else _)
   split
   ·exact pY n0 f _ _ _ (h.rev _ _)
   ·exact pY n0 f _ _ _ h
  |false=>exact⟨h.get n0 _,h.get n0 _,λc=>by
   cases c with
   |true=>exact h
   |false=>exact pY n0 f _ _ _ h⟩⟩
theorem wY(n0:0<n)(h:Bd n p)(a b:Nat):kIn n (λr=>Bd n r.2) (kas_tail3 a b p):=(yQ n0 (h.rev 0 a) _ _).then λ_ _=>h.rev 0 a
theorem o9(n0:0<n)(h:Bd n p)(a b:Nat):kIn n (λr=>Bd n r.2) (kas_descPart a b p):=(pY n0 _ _ _ _ h).then λr hr=>by
 split
 ·exact wY n0 (Bd.rev hr _ _) _ _
 ·exact wY n0 hr _ _
theorem Fj(n0:0<n)(h:Bd n p)(b:Nat):kIn n (λr=>Bd n r.2) (kas_count b p):=(yQ n0 h _ _).then λm _=>by
 split
 ·exact h
 ·split
  ·exact⟨h.get n0 _,h.get n0 _,λc=>by
    cases c with
    |true=>exact h
    |false=>exact o9 n0 (h.rev 0 m) _ _⟩
  ·exact o9 n0 h _ _
theorem qT(n0:0<n)(h:Bd n p)(k:Nat):∀ f l r,kIn n (λ_=>True) (kas_place p k f l r)
 |0,_,_=>trivial
 |f+1,l,r=>by
  show kIn n _ (if l>=r then _ else _)
  split
  ·exact trivial
  ·exact⟨h.get n0 _,h.get n0 _,λc=>by
    cases c with
    |true=>exact qT n0 h k f _ _
    |false=>exact qT n0 h k f _ _⟩
theorem Fl(n0:0<n):∀ f (p:Array Nat) k,Bd n p->kIn n (Bd n) (kas_bin f p k)
 |0,_,_,h=>h
 |f+1,p,k,h=>(qT n0 h k _ _ _).then λl _=>Fl n0 f _ _ (h.perm (bubble_perm _ _ _))
theorem HR(n0:0<n):kIn n (Bd n) (kas_sort n):=(Fj n0 (p:=List.toArray (List.range n)) (λx hx=>by simpa using hx) _).then λr hr=>by
 split
 ·exact Fl n0 _ _ _ hr
 ·exact hr
end
open PySem PySem.Spec PySem.W PyProof PyProof.Rows
open PySem PySem.Spec PySem.W PyProof PyProof.Rows
theorem wZ{α:Type}{f:α->V}{g:α->Value}:∀ {l:List α},(∀ i∈l,RelV (f i) (g i))->Vals (l.map f) (l.map g)
 |[],_=>.nil
 |i::l,h=>.cons (h i Zaj) (wZ λj hj=>h j (Zak _ hj))
namespace MP
end MP
end L2
namespace L2.MP
open PySem PySem.Spec PyProof.Rows
end L2.MP
namespace L2
open PySem PySem.F PySem.Spec PyProof PyProof.Rows
namespace MP
end MP
open PySem PySem.Spec PyProof PyProof.Rows
namespace MP
end MP
open PySem PySem.Spec PySem.W PyProof PyProof.Rows
namespace MP
end MP
end L2
namespace L2.MP
open PySem PySem.Spec PyProof.Rows
end L2.MP
namespace L2
open PySem PySem.Spec PyProof PyProof.Rows
namespace MP
end MP
end L2
namespace L2.MP
open PySem PySem.Spec PyProof.Rows
end L2.MP
namespace L2.TS
open PySem PySem.Spec PyProof.Rows
section
variable{r:Keyed->Nat}{la lb out:List Keyed}{ia ib:Nat}
def Srt(r:Keyed->Nat)(l:List Keyed):Prop:=l.Pairwise λx y=>r x<r y
structure Mg(r:Keyed->Nat)(la lb out:List Keyed)(ia ib:Nat):Prop where
 so:Srt r out
 lt:∀ o∈out,∀ z∈la.drop ia++lb.drop ib,r o<r z
 pm:out.Perm (la.take ia++lb.take ib)
end
section
variable{r:Keyed->Nat}{a b:Array Keyed}
def Good(r:Keyed->Nat)(a b out:Array Keyed):Prop:=Srt r out.toList/\out.toList.Perm (a.toList++b.toList)
structure In(r:Keyed->Nat)(a b out:Array Keyed)(ia ib:Nat):Prop where
 mg:Mg r a.toList b.toList out.toList ia ib
 ha:ia+1<a.size
 hb:ib<b.size
end
noncomputable abbrev T7:=Option (Array Keyed)×Nat×Nat×Array Keyed×Nat×Nat×Nat
noncomputable abbrev T6:=Option (Array Keyed)×Nat×Nat×Array Keyed×Nat×Nat
noncomputable abbrev T5:=Option (Array Keyed)×Nat×Nat×Array Keyed×Nat
section
variable{r:Keyed->Nat}{la lb out:List Keyed}{na nb:Nat}
structure Mh(r:Keyed->Nat)(la lb out:List Keyed)(na nb:Nat):Prop where
 so:Srt r out.reverse
 lt:∀ o∈out,∀ z∈la.take na++lb.take nb,r z<r o
 pm:out.Perm (la.drop na++lb.drop nb)
end
section
variable{r:Keyed->Nat}{a b:Array Keyed}
structure Ih(r:Keyed->Nat)(a b out:Array Keyed)(na nb:Nat):Prop where
 mh:Mh r a.toList b.toList out.toList na nb
 a0:1<=na
 a1:na<=a.size
 b0:2<=nb
 b1:nb<=b.size
def H7(r:Keyed->Nat)(a b:Array Keyed)(n:Nat):ForInStep T7->Prop
 |.done (some o,_)=>Good r a b o
 |.done (none,na,nb,out,_)=>Ih r a b out na nb/\na+nb<=n
 |.yield (none,na,nb,out,_)=>Ih r a b out na nb/\na+nb<=n
 |.yield (some _,_)=>False
def H6(r:Keyed->Nat)(a b:Array Keyed)(n:Nat):ForInStep T6->Prop
 |.done (some o,_)=>Good r a b o
 |.done (none,na,nb,out,_)=>Ih r a b out na nb/\na+nb<=n
 |.yield (none,na,nb,out,_)=>Ih r a b out na nb/\na+nb<=n
 |.yield (some _,_)=>False
def H5(r:Keyed->Nat)(a b:Array Keyed)(n:Nat):ForInStep T5->Prop
 |.done (some o,_)=>Good r a b o
 |.done (none,_)=>False
 |.yield (none,na,nb,out,_)=>Ih r a b out na nb/\na+nb<=n
 |.yield (some _,_)=>False
end
def Rk(r:Keyed->Nat)(a:Array Keyed)(k:Nat):Nat:=match a[k]? with
 |some x=>r x
 |none=>0
def HS(r:Keyed->Nat)(a:Array Keyed)(i j:Nat):Prop:=∀ p q,i<=p->p<q->q<j->Rk r a p<Rk r a q
section
variable{r:Keyed->Nat}
theorem HS.snoc{a:Array Keyed}{i j:Nat}(h:HS r a i j)(hij:i<j)(l:Rk r a (j-1)<Rk r a j):HS r a i (j+1):=λp q h1 h2 h3=>by
 by_cases e:q=j
 ·subst e;by_cases e2:p=q-1
  ·rw[e2];exact l
  ·exact ZbA (h p (q-1) h1 (by lia) (by lia)) l
 ·exact h p q h1 h2 (by lia)
end
def HW(pw:Nat):StateT SortSt Sem (ForInStep (Option Unit×Unit)):=do
 let s <-get
 match(if(pendingOf s).size>1 then(pendingOf s)[(pendingOf s).size-2]? else none) with
 |some x=>if x.2.2<=pw then pure (.done (none,())) else do
  let ok <-mergeAt' ((pendingOf s).size-2)
  if(!ok)=true then pure (.done (some (),())) else pure (.yield (none,()))
 |none=>pure (.done (none,()))
def zX(lo n:Nat):StateT SortSt Sem (ForInStep (Option Unit×Nat)):=do
 modify λs=>setPending s ((pendingOf s).push (lo,n,0))
 pure (.yield (none,lo+n))
def lay(size lo n:Nat):StateT SortSt Sem (ForInStep (Option Unit×Nat)):=do
 let s <-get
 match(pendingOf s).back? with
 |some x=>do
  let c <-forIn [0:size] ((none:Option Unit),()) λ_ _=>HW (power' size (2*x.1+x.2.1) (2*x.1+x.2.1+x.2.1+n) size)
  match c.1 with
  |some r=>pure (.done (some r,lo))
  |none=>do
   modify λs=>setPending s ((pendingOf s).modify ((pendingOf s).size-1) λy=>(y.1,y.2.1,power' size (2*x.1+x.2.1) (2*x.1+x.2.1+x.2.1+n) size))
   zX lo n
 |none=>zX lo n
noncomputable abbrev Pd:=Nat×Nat×Nat
def Rn(r:Keyed->Nat)(a:Array Keyed):Nat->List Pd->Nat->Prop
 |s,[],e=>s=e
 |s,x::l,e=>x.1=s/\1<=x.2.1/\HS r a s (s+x.2.1)/\Rn r a (s+x.2.1) l e
end L2.TS
namespace L2
open PySem PySem.Spec PyProof PyProof.Rows
namespace MP
end MP
open PySem PySem.Spec PySem.W PyProof PyProof.Rows
noncomputable abbrev Sk:=Str×List Int
open PySem PySem.Spec PySem.W PyProof PyProof.Rows
open PySem PySem.Spec PySem.W PyProof PyProof.Rows
end L2
namespace L2.MP
open PySem PySem.Spec PySem.W PyProof PyProof.Rows
theorem lX{l:List PV}:∀ {ns:List Int},cV l=some ns->l=ns.map PV.int:=by
 induction l with
 |nil=>intro ns h;cases h;rfl
 |cons a l ih=>
  intro ns h;have inv:∃ n,a=.int n:=by
   clear ih
   cases a<;>first|exact noS h|exact⟨_,rfl⟩
  obtain⟨n,rfl⟩:=inv;have h:(cV l).map (n::·)=some ns:=h;obtain⟨q,e1,rfl⟩:=Za9.mp h;rw[ih e1];rfl
end L2.MP
namespace L2
open PySem PySem.Spec PyProof PyProof.Rows
namespace MP
end MP
namespace MP
end MP
namespace MP
end MP
end L2
namespace L2.MP
section
variable{α:Type}{us:List α}
theorem len0(h:us.length=0):us=[]:=List.length_eq_zero_iff.mp h
theorem HX{n:Nat}(h:us.length=n+1):∃ a vs,us=a::vs/\vs.length=n:=by
 cases us with
 |nil=>cases h
 |cons a vs=>exact⟨a,vs,rfl,Nat.succ.inj h⟩
theorem HY(h:us.length=1):∃ a,us=[a]:=by
 obtain⟨a,vs,rfl,h2⟩:=HX h;cases len0 h2;exact⟨a,rfl⟩
theorem qU(h:us.length=2):∃ a b,us=[a,b]:=by
 obtain⟨a,vs,rfl,h2⟩:=HX h;obtain⟨b,rfl⟩:=HY h2;exact⟨a,b,rfl⟩
theorem Fo(h:us.length=3):∃ a b c,us=[a,b,c]:=by
 obtain⟨a,vs,rfl,h2⟩:=HX h;obtain⟨b,c,rfl⟩:=qU h2;exact⟨a,b,c,rfl⟩
theorem NZ(h:us.length=4):∃ a b c d,us=[a,b,c,d]:=by
 obtain⟨a,vs,rfl,h2⟩:=HX h;obtain⟨b,c,d,rfl⟩:=Fo h2;exact⟨a,b,c,d,rfl⟩
end
end L2.MP
namespace L2
open PySem PySem.Spec PyProof PyProof.Rows
end L2
namespace L2.MP
open PySem PySem.Spec PyProof PyProof.Rows
end L2.MP
namespace L2.SE
open PySem
def Inc(xs:Array Nat):Prop:=xs.toList.Pairwise (·<·)
theorem Inc.lt{xs:Array Nat}(h:Inc xs){i j d e:Nat}(hij:i<j)(hj:j<xs.size):xs.getD i d<xs.getD j e:=by
 have q:=Za0.mp h i j (by rw[ZaD];omega) (by rw[ZaD];exact hj) hij
 rw[ZaH,ZaH,ZaZ (by omega),ZaZ hj]
 simpa using q
theorem Fp{xs:Array Nat}(h:Inc xs)(j:Nat):∀ (fuel lo hi:Nat),lo<=hi->hi<=xs.size->hi-lo<=fuel->(∀ i,i<lo->xs.getD i j<j)->(∀ i,hi<=i->i<xs.size->j<=xs.getD i j) ->
  SetTable.below.go xs j fuel lo hi<=xs.size/\(∀ i,i<SetTable.below.go xs j fuel lo hi->xs.getD i j<j)/\(∀ i,SetTable.below.go xs j fuel lo hi<=i->i<xs.size->j<=xs.getD i j)
 |0,lo,hi,h1,h2,h3,h4,h5=>by
  have e:lo=hi:=by omega
  subst e;exact⟨h2,h4,h5⟩
 |fuel+1,lo,hi,h1,h2,h3,h4,h5=>by
  unfold SetTable.below.go;by_cases c:lo<hi
  ·rw[Zat c];dsimp only;have m1:lo<=(lo+hi)/2:=by omega
   have m2:(lo+hi)/2<hi:=by omega
   by_cases d:xs.getD ((lo+hi)/2) j<j
   ·rw[Zat d];refine Fp h j fuel _ _ (by omega) h2 (by omega) (λi hi'=>?_) h5
    rcases Zcx i ((lo+hi)/2) with q|q
    ·exact ZbA (h.lt q (by omega)) d
    ·have:i=(lo+hi)/2:=by omega
     rw[this];exact d
   ·rw[Zax d];refine Fp h j fuel _ _ m1 (by omega) (by omega) h4 λi hi' hs=>?_
    rcases Zcx ((lo+hi)/2) i with q|q
    ·exact ZaA (Zbf (Zct d) (h.lt q hs))
    ·have:i=(lo+hi)/2:=by omega
     rw[this];exact Zct d
  ·rw[Zax c];have e:lo=hi:=by omega
   subst e;exact⟨h2,h4,h5⟩
theorem w5{xs:Array Nat}(h:Inc xs)(j:Nat):SetTable.below xs j<=xs.size/\(∀ i,i<SetTable.below xs j->xs.getD i j<j)/\(∀ i,SetTable.below xs j<=i->i<xs.size->j<=xs.getD i j):=
 Fp h j xs.size 0 xs.size (ZaW _) (Zal _) (by omega) (λi hi=>absurd hi (Zbd _)) λi h1 h2=>absurd h2 (by omega)
theorem gd{xs:Array Nat}{i:Nat}(h:i<xs.size)(d e:Nat):xs.getD i d=xs.getD i e:=by
 rw[ZaH,ZaH,ZaZ h];rfl
structure Good(b:Bool)(t:SetTable):Prop where
 led:t.led=b
 dum:t.dummies=#[]
 inc:Inc t.place
theorem zY(j:Nat):SetTable.has #[] j=false:=rfl
theorem Ce{t:SetTable}(hd:t.dummies=#[]){j:Nat}:t.slot j=.empty\/∃ i,t.slot j=.live i:=by
 unfold SetTable.slot;dsimp only;split
 ·exact .inr ⟨_,rfl⟩
 ·rw[hd,zY];exact .inl rfl
theorem w6{t:SetTable}(hd:t.dummies=#[]){h:Int}:∀ (fuel:Nat) (p:SetTable.Probe) (m:SetTable.Met),p.dummy=none->SetTable.probe.go t (λ_=>h+1) h fuel p=some m->∃ j,m=.empty j none/\t.slot j=.empty
 |0,_,_,_,e=>nomatch e
 |fuel+1,p,m,hp,e=>by
  unfold SetTable.probe.go at e;rcases Ce hd (j:=p.j) with q|⟨i,q⟩
  ·rw[q] at e;cases e;exact⟨p.j,by rw[hp],q⟩
  ·rw[q] at e;replace e:(if(h+1==h)=true then some (SetTable.Met.candidate p.j i (t.advance p)) else SetTable.probe.go t (λ_=>h+1) h fuel (t.advance p))=some m:=e;rw[Zax (by simp;omega)] at e
   refine w6 hd fuel _ m ?_ e;unfold SetTable.advance;split<;>exact hp
theorem Ia{t:SetTable}(hd:t.dummies=#[]){h:Int}{j:Nat}{b:Bool}(e:t.freeSlot h=some (j,b)):t.slot j=.empty:=by
 unfold SetTable.freeSlot at e;cases q:t.probe (λ_=>h+1) h (t.probeStart h) with
 |none=>rw[q] at e;cases e
 |some m=>
  obtain⟨j',rfl,hs⟩:=w6 hd _ _ _ rfl q;rw[q] at e;cases e;exact hs
theorem Fq{b:Bool}{t:SetTable}(g:Good b t){j:Nat}(hj:t.slot j=.empty):Good b (t.put j).1:=by
 have hn:∀ i,t.place[i]?=some j->False:=λi e=>by
  obtain⟨hl,e'⟩:=Zcf.mp e;obtain⟨a1,a2,a3⟩:=w5 g.inc j;have ed:t.place.getD i j=j:=by rw[ZaH,e];rfl
  have hb:SetTable.below t.place j=i:=by
   rcases ZbV (SetTable.below t.place j) i with q|q|q
   ·have:=g.inc.lt (d:=j) (e:=j) q hl;have:=a3 _ (Zal _) (by omega);omega
   ·exact q
   ·have:=a2 _ q;omega
  unfold SetTable.slot at hj;dsimp only at hj;rw[hb,e,Zat (by simp)] at hj
  cases hj
 refine⟨g.led,by show(if SetTable.has t.dummies j then _ else t.dummies)=_;rw[g.dum,zY];rfl,?_⟩
 show List.Pairwise _ (SetTable.insertAt t.place (SetTable.below t.place j) j).toList
 obtain⟨a1,a2,a3⟩:=w5 g.inc j;rw[SetTable.toList_insertAt,Za8];have key:∀ x∈t.place.toList.drop (SetTable.below t.place j),j<x:=λx hx=>by
  obtain⟨i,hi,rfl⟩:=Zcb hx;rw[Zb5,ZaD] at hi;rw[List.getElem_drop,Array.getElem_toList];have q:=a3 (SetTable.below t.place j+i) (by omega) (by omega)
  rw[ZaH,ZaZ (by omega)] at q
  have q:j<=t.place[SetTable.below t.place j+i]:=q;refine Nat.lt_of_le_of_ne q λe=>hn _ (Zcf.mpr ⟨by omega,e.symm⟩)
 have key2:∀ x∈t.place.toList.take (SetTable.below t.place j),x<j:=λx hx=>by
  obtain⟨i,hi,rfl⟩:=Zcb hx;rw[Zb2,ZaD] at hi;rw[List.getElem_take,Array.getElem_toList];have q:=a2 i (by omega)
  rw[ZaH,ZaZ (by omega)] at q
  exact q
 refine⟨List.Pairwise.sublist (List.take_sublist _ _) g.inc,ZaK.mpr ⟨key,List.Pairwise.sublist (List.drop_sublist _ _) g.inc⟩,λx hx y hy=>?_⟩;rcases Zaq.mp hy with rfl|hy
 ·exact key2 x hx
 ·exact ZbA (key2 x hx) (key y hy)
theorem gm{b:Bool}{t:SetTable}(g:t.led=b)(n:Nat):Good b (t.standIn n):=⟨g,rfl,by
 show List.Pairwise _ (Array.range n).toList
 rw[Array.toList_range];exact ZbR⟩
theorem xf{b:Bool}{t:SetTable}(g:Good b t)(es:Array (Int×Value))(h:Int)(x:Value):Good b (layNew t es h x).2.1:=by
 unfold layNew;cases q:t.freeSlot h with
 |none=>exact gm g.led _
 |some p=>
  obtain⟨j,w⟩:=p;have g1:=Fq g (Ia g.dum q);show Good b (SetTable.orStandIn _ _)
  unfold SetTable.orStandIn;split
  ·exact g1
  ·exact gm g1.led _
theorem Ft{mask finger moves:Nat}{led plain:Bool}{hs:Array Int}{t:SetTable}{o:Array Nat}(e:SetTable.laid mask finger moves led plain hs=some (t,o)):Good led t:=by
 unfold SetTable.laid at e;cases q:SetTable.layClean mask hs with
 |none=>rw[q] at e;cases e
 |some ow=>
  rw[q] at e;cases e;refine⟨rfl,rfl,?_⟩;show List.Pairwise _ (List.map _ _)
  rw[ZaV,List.pairwise_filterMap];refine ZbR.imp λ{a b} hab x hx y hy=>?_;obtain⟨_,_,rfl⟩:=Za9.mp hx;obtain⟨_,_,rfl⟩:=Za9.mp hy;exact hab
theorem yR{b:Bool}{t:SetTable}(g:Good b t)(es:Array (Int×Value))(n:Nat):Good b (relayAll t es n).2.1:=by
 unfold relayAll;cases q:t.relaid (es.map (·.1)) n with
 |none=>exact gm g.led _
 |some p=>
  obtain⟨t',o⟩:=p;have g1:=Ft q;rw[g.led] at g1;dsimp only;split
  ·exact g1
  ·exact gm g.led _
theorem yS(b:Bool):Good b (.fresh 0 0 b):=⟨rfl,rfl,List.Pairwise.nil⟩
open PySem PySem.Spec PyProof PyProof.Rows
section
variable{prog:Program}{w:World}{K:Type}[DecidableEq K](knd:KeyKind prog w K)
def Apart(l:List (Int×Value)):Prop:=l.Pairwise λe f=>∀ k,knd.is k e.2=true->knd.is k f.2=true->False
structure Els(S:K->Bool)(es:Array (Int×Value)):Prop where
 el:ElemsOf knd es.toList
 ap:Apart knd es.toList
 mem:∀ k,S k=true↔∃ e∈es.toList,knd.is k e.2=true
def lw(h:Heap)(a:Addr)(b:Bool)(S:K->Bool)(n:Nat):Prop:=
 ∃ o es ep t,h.get? a=some o/\o.ExactSet/\o.data=.set es ep t/\Els knd S es/\es.size<scanBound/\t.fits es.size=true/\Good b t/\es.size<=n
variable{knd}{S:K->Bool}{A:Around}{E:Value->Shared->Prop}{s:Shared}{a:Addr}{b:Bool}{n:Nat}
theorem Els.perm{es es':Array (Int×Value)}(h:Els knd S es)(p:es'.toList.Perm es.toList):Els knd S es':=
 ⟨h.el.perm p,(p.symm.pairwise_iff λ{x y} q k u v=>q k v u).mp h.ap,λk=>(h.mem k).trans ⟨λ⟨e,u,v⟩=>⟨e,p.mem_iff.mpr u,v⟩,λ⟨e,u,v⟩=>⟨e,p.mem_iff.mp u,v⟩⟩⟩
theorem Els.push{es es':Array (Int×Value)}(h:Els knd S es){k:K}{x:Value}(hk:knd.is k x=true)(hx:x.scannable=true)(hn:S k=false)(p:es'.toList.Perm (es.toList++[(knd.hash k,x)])):Els knd (λk'=>S k'||decide (k'=k)) es':=by
 refine⟨(h.el.push hk hx).perm p,(p.symm.pairwise_iff λ{x y} q k u v=>q k v u).mp (Za8.mpr ⟨h.ap,List.pairwise_singleton _ _,λe he f hf k' u v=>?_⟩),mem_push_iff hk h.mem p⟩;rw[ZaC] at hf;subst hf;have e:k'=k:=knd.inj x k' k v hk;subst e;rw[(h.mem k').mpr ⟨_,he,u⟩] at hn;cases hn
theorem lay{h:Heap}{o:Obj}{es:Array (Int×Value)}{ep:Nat}{t:SetTable}(ho:h.get? a=some o)(hex:o.ExactSet)(hd:o.data=.set es ep t){es':Array (Int×Value)}{t':SetTable}
  (x:Els knd S es')(hb:es'.size<scanBound)(hf:t'.fits es'.size=true)(g:Good b t')(hn:es'.size<=n) :
  (h.update a (Obj.putSet es' t')).get? a=some { o with data:=.set es' (ep+1) t' }/\lw knd (h.update a (Obj.putSet es' t')) a b S n:=by
 have q:=(SetOf_store (knd:=knd) ho hex hd x.el x.mem hb hf).1;exact⟨q,_,es',ep+1,t',q,hex,rfl,x,hb,hf,g,hn⟩
theorem zZ{gw:Bool->Sem Unit}(hgw:∀ (c:Bool) (z:Shared) (P:Unit->Shared->Prop),P () z->wpAny (model prog w) A (gw c) P E z)
  {o:Obj}{es:Array (Int×Value)}{ep:Nat}{t:SetTable}(ho:s.heap.get? a=some o)(hex:o.ExactSet)(hd:o.data=.set es ep t){fs:Array (Int×Value)}{u:SetTable}
  (x:Els knd S fs)(hb:fs.size<scanBound)(hf:u.fits fs.size=true)(g:Good b u)(hn:fs.size<=n){wd:Bool}{R:Option Bool->Shared->Prop}
  (h:∀ h',Heap.SameBut a s.heap h'->lw knd h' a b S n->R (some true) { s with heap:=h' }) :
  wpAny (model prog w) A (storeSet a fs u>>=λ_=>if(!wd&&u.tooFull)=true then(gw (relayAll u fs (SetTable.grown fs.size)).2.2>>=λ_=>storeSet a (relayAll u fs (SetTable.grown fs.size)).1 (relayAll u fs (SetTable.grown fs.size)).2.1>>=λ_=>pure (some true)) else pure (some true)) R E s:=by
 obtain⟨q1,q2⟩:=lay (n:=n) ho hex hd x hb hf g hn;have sb:=Zbn s.heap a (Obj.putSet fs u);refine Zai (wpAny_storeSet_of ho hd ?_ (fits_of_scanBound hb));by_cases c:(!wd&&u.tooFull)=true
 ·rw[Zat c];have p:=relayAll_perm u fs (SetTable.grown fs.size);have f2:=relayAll_fits u fs (SetTable.grown fs.size);have g2:=yR g fs (SetTable.grown fs.size);generalize relayAll u fs (SetTable.grown fs.size)=rl at p f2 g2 ⊢
  obtain⟨fs2,u2,w2⟩:=rl;have z:fs2.size=fs.size:=by rw[<-ZaD,p.length_eq,ZaD]
  refine Zai (hgw _ _ _ (Zai (wpAny_storeSet_of q1 rfl (Zav (h _ (sb.trans (Zbn _ a _)) ?_)) (fits_of_scanBound (z▸hb)))));exact(lay (n:=n) q1 hex rfl (x.perm p) (z▸hb) f2 g2 (z▸hn)).2
 ·rw[Zax c];exact Zav (h _ sb q2)
theorem Ld{k:K}{x:Value}{Q:Bool->Shared->Prop}(hkey:knd.is k x=true)(hsc:x.scannable=true)(hS:lw knd s.heap a b S n)(room:n+1<scanBound)
  (h:∀ r h',Heap.SameBut a s.heap h'->lw knd h' a b (λk'=>S k'||decide (k'=k)) (n+1)->Q r { s with heap:=h' }) :
  wpAny (model prog w) A (setAddHashed a x (knd.hash k)) Q E s:=by
 obtain⟨o,es,ep,t,ho,hex,hd,el,hb,hf,g,hn⟩:=hS;unfold setAddHashed setAddHashedIn;refine wpAny_holding (Zai (wpAny_setState_of ho hd hf ?_));dsimp only;rw[byScan_of hsc hb el.el,Zat rfl];unfold setAddByScan;refine Zai (Zai (wpAny_rule (Zai (wpAny_setScan_of hkey ho hd hf el.el ?_))));cases hr:List.findIdx? (λe=>knd.is k e.2) es.toList with
 |some j=>
  obtain⟨hj,hpj,_⟩:=List.findIdx?_eq_some_iff_getElem.mp hr;have hSk:S k=true:=(el.mem k).mpr ⟨_,Zbo hj,hpj⟩;refine Zav (Zav ?_);refine h false s.heap (Heap.SameBut.refl a s.heap) ⟨o,es,ep,t,ho,hex,hd,⟨el.el,el.ap,λk'=>?_⟩,hb,hf,g,Nat.le_succ_of_le hn⟩;rw[<-el.mem k',Bool.or_eq_true,decide_eq_true_eq];exact⟨λq=>q.elim id λe=>e▸hSk,.inl⟩
 |none=>
  have hSk:S k=false:=by
   cases hk:S k with
   |false=>rfl
   |true=>
    obtain⟨e,he,hp⟩:=(el.mem k).mp hk;rw[List.findIdx?_eq_none_iff.mp hr e he] at hp;cases hp
  have p:=layNew_perm t es (knd.hash k) x;have f2:=layNew_fits t es (knd.hash k) x;have g2:=xf g es (knd.hash k) x;dsimp only;generalize layNew t es (knd.hash k) x=L at p f2 g2 ⊢
  obtain⟨fs,u,wd,gv⟩:=L;dsimp only at p f2 g2 ⊢;rw[Zcq] at p;have z:fs.size=es.size+1:=by rw[<-ZaD,p.length_eq,Zaz,ZaD];rfl
  have X:=el.push hkey hsc hSk p;have hb2:fs.size<scanBound:=by omega
  have hgw:∀ (c:Bool) (y:Shared) (P:Unit->Shared->Prop),P () y->wpAny (model prog w) A (match c with|true=>rule "set.scan.the-table-gave-way"|false=>pure ()) P E y:=λc y P q=>by
   cases c
   ·exact Zav q
   ·exact wpAny_rule q
  refine Zai (hgw _ _ _ ?_);by_cases c:u.plain=true
  ·rw[Zat c,hashByValue_scannable 8 hsc];refine Zai (Zav (zZ hgw ho hex hd X hb2 ?_ ?_ (n:=n+1) (by omega) λh' u1 u2=>Zav (h true h' u1 u2)))
   ·split
    ·exact f2
    ·exact SetTable.fits_plain_off f2
   ·split
    ·exact g2
    ·exact⟨g2.led,g2.dum,g2.inc⟩
  ·rw[Zax c];refine Zai (Zav ?_);rw[Zat rfl];exact zZ hgw ho hex hd X hb2 f2 g2 (n:=n+1) (by omega) λh' u1 u2=>Zav (h true h' u1 u2)
end
open PySem PySem.Spec PyProof PyProof.Rows
def byT(w:World):Bool:=w.params.followText "set-order"
noncomputable abbrev sG(b:Bool):Obj:={ cls:=.type "set",dict:=none,data:=.set #[] 0 (.fresh 0 0 b) }
section
variable{prog:Program}{w:World}{K:Type}[DecidableEq K]{knd:KeyKind prog w K}{S:K->Bool}{A:Around}{E:Value->Shared->Prop}{s:Shared}{a:Addr}{b:Bool}{n:Nat}
theorem lw.at{h h':Heap}(x:lw knd h a b S n)(e:∀ o,h.get? a=some o->h'.get? a=some o):lw knd h' a b S n:=
 let⟨o,es,ep,t,ho,r⟩:=x;⟨o,es,ep,t,e o ho,r⟩
theorem lw.fresh{h:Heap}:lw knd (h.push (sG b)) h.objs.size b (λ_=>false) 0:=
 ⟨_,#[],0,.fresh 0 0 b,Zar _ rfl,⟨rfl,rfl,rfl⟩,rfl,⟨λe he=>by simp at he,List.Pairwise.nil,λk=>by simp⟩,by decide,by rfl,yS b,Zal _⟩
def seen(key:Nat->K)(i:Nat):K->Bool:=λk=>(List.range i).any λj=>decide (k=key j)
theorem Ci(key:Nat->K)(i:Nat):(λk=>seen key i k||decide (k=key i))=seen key (i+1):=by
 funext k
 unfold seen;rw[Zcy,List.any_append,Zbx,List.any_nil,Bool.or_false]
theorem Le(x:Value){Q:Value->Shared->Prop}(h:Q (.ref s.heap.objs.size) { s with heap:=s.heap.push (sG (!byT w)) }) :
  codeAny (model prog w) A (.call (.builtin "set.__new__") ⟨[.type "set",x],[]⟩) (wants Q E) s:=by
 refine codeAny_of_tree ?_;show wpAny _ A.in1 (checkBuiltinCall "set.__new__" ⟨[.type "set",x],[]⟩>>=λ_=>again (.builtin "set.__new__" ⟨[.type "set",x],[]⟩)) _ _ s
 refine Zai (wpAny_of_eq (F.newCall_set_1 x) (Zav ⟨plainId_quiet F.plain_set_new _,codeAny_builtin F.entry_set_new ?_⟩));rw[Zbs F.plain_set_new _];unfold Builtin.«set.__new__» Builtin.Frozenset.newClass;have hs:=sub_set_self;obtain⟨hp,g,d,tk,os⟩:=s;dsimp only at h ⊢
 wp_walk
 refine wpAny_askSetting (Zav ?_);dsimp only;simp only[newObj];exact Zai (wpAny_alloc (Zav (Zav h)))
end
section
variable{prog:Program}{w:World}{K:Type}[DecidableEq K]{knd:KeyKind prog w K}{A:Around}{R:Result->Shared->Prop}{I:Addr}{fp wr:List Addr}{G:Array GenState->Array GenState->Prop}{n:Nat}{P:Nat->Value->Prop}{St:Nat->Shared->Prop}{b:Bool}
theorem Ib(W:WalksS prog w A.in1 I fp wr G n P St)(D:Addr)(hD:D ∉ fp)(key:Nat->K)(hv:∀ i v,P i v->knd.is (key i) v=true/\v.scannable=true)(hb:n+1<scanBound) :
  ∀ (k i:Nat) (s:Shared),n-i=k->i<=n->St i s->lw knd s.heap D b (seen key i) i->(∀ s',Moved (D::wr) G s s'->lw knd s'.heap D b (seen key n) n->R (.ok (.ret .none)) s') ->
   codeAny (model prog w) A (.builtin "set.update.loop" ⟨[.ref D,.ref I],[]⟩) R s:=by
 have hDw:D ∉ wr:=λq=>hD (W.sub _ q);have up:∀ c∈wr,c∈D::wr:=λc q=>Zak _ q;intro k;induction k with
 |zero=>
  intro i s hk hi st X r;obtain rfl:i=n:=by omega
  refine codeAny_builtin F.entry_set_update_loop ?_;rw[Zbs ZbM _];refine Zai (m:=pyNext (.ref I)) (W.done s _ _ st λs' hm=>?_);exact Zav (r s' (hm.mono up) (X.at λo e=>hm.heap D o hDw e))
 |succ k ih=>
  intro i s hk hi st X r;refine codeAny_builtin F.entry_set_update_loop ?_;rw[Zbs ZbM _];refine Zai (m:=pyNext (.ref I)) (W.item i s _ _ (by omega) st λv s' hP st' hm=>?_)
  obtain⟨q1,q2⟩:=hv i v hP;have X':=X.at (h':=s'.heap) λo e=>hm.heap D o hDw e;refine Zai (m:=holding [v] (setAdd D v)) (wpAny_holding ?_);unfold setAdd;refine wpAny_holding (Zai (knd.pyHash q1 ?_));refine Ld (s:={ s' with toks:=s'.toks+1 }) q1 q2 X' (by omega) λ_ h' sb X2=>?_
  rw[Ci] at X2;refine Zav ⟨plainId_quiet ZbM _,ih (i+1) _ (by omega) (by omega) (W.frame _ s' _ _ st' (ZbT _) λc hc o e=>?_) X2 λs2 hm2 X3=>?_⟩
  ·rw[sb.2 c λz=>hD (z▸hc)];exact e
  ·refine r s2 (Moved.trans W.gtrans ((hm.mono up).then_heap (ZbT _) λc o hc e=>?_) hm2) X3;rw[sb.2 c λz=>hc (by rw[z];exact Zaj)];exact e
end
section
variable{prog:Program}{w:World}{K:Type}[DecidableEq K]{knd:KeyKind prog w K}{A:Around}{E:Value->Shared->Prop}{s:Shared}
theorem Lf{l:Addr}{items:Array Value}{key:Nat->K}{Q:Value->Shared->Prop}(hh:A.handled=none)(hl:s.heap.IsList l items)(hv:∀ i v,items[i]?=some v->knd.is (key i) v=true/\v.scannable=true)(hb:items.size+1<scanBound)
  (h:∀ (h':Heap) (tk:Nat),lw knd h' s.heap.objs.size (!byT w) (seen key items.size) items.size->(∀ c o,s.heap.get? c=some o->h'.get? c=some o)->Q (.ref s.heap.objs.size) { s with heap:=h',toks:=tk }) :
  wpAny (model prog w) A (call (.type "set") [.ref l]) Q E s:=by
 obtain⟨c,tl,m1⟩:=ZbB.mro;have m2:=ZbB.made;have m3:=ZbB.sub;have m4:=ZbB.notType;have m5:=ZbB.canCreate;have m6:=F.typeCall_set_1 (.ref l);refine wpAny_call (codeAny_of_tree ?_);show wpAny _ _ (callAny (Value.type "set") _) _ _ _
 refine Zav ⟨Code.quiet_builtin _ (by decide +kernel),codeAny_builtin F.entry_type_call ?_⟩
 rw[Around.under_plain (weight_type_call_type "set" [.ref l] []) rfl];repeat (any_goals (first|assumption|wp_step))
 refine codeAny_mono (Le (.ref l) (E:=E) (Q:=λobj s₁=>obj=.ref s.heap.objs.size/\s₁={ s with heap:=s.heap.push (sG (!byT w)) }) ⟨rfl,rfl⟩) λr s₁ hr=>?_
 match r,hr with
 |.error e,hr=>exact hr
 |.ok (.ret obj),⟨e1,e2⟩=>
  subst e1;subst e2;have hS:(s.heap.push (sG (!byT w))).get? s.heap.objs.size=some (sG (!byT w)):=Zar _ rfl;have hT:Shared.TypeIs { s with heap:=s.heap.push (sG (!byT w)) } (.ref s.heap.objs.size) "set":=⟨_,hS,rfl⟩;have i1:=ZbB.init.lookup;have i2:=ZbB.init.bind (.ref s.heap.objs.size);repeat (any_goals (first|assumption|wp_step))
  refine codeAny_mono (codeAny_call_builtin (R:=wants (λr s₂=>r=.none/\∃ h' tk,s₂={ s with heap:=h',toks:=tk }/\lw knd h' s.heap.objs.size (!byT w) (seen key items.size) items.size/\∀ c o,s.heap.get? c=some o->h'.get? c=some o) E) ZbB.init.plain F.entry_set_init (check_set_init_1 hT ?_)) λr₂ s₂ hr₂=>?_
  ·obtain⟨ol,hol,hcl,nl,hdl⟩:=hl;obtain⟨oc,od,oda,osl⟩:=ol;simp only at hcl hdl;subst hcl;subst hdl;have hol':=Zae (sG (!byT w)) hol;have z1:=F.sub_list_set;have z2:=F.sub_list_frozenset;have z3:(Value.type "list"==Value.type "dict")=false:=by decide
   have hl1:(s.heap.push (sG (!byT w))).IsList l items:=⟨_,hol',rfl,nl,rfl⟩;unfold Builtin.«set.__init__» noKeywords Builtin.Frozenset.updateFrom;generalize hPI:pyIter=PI
   wp_walk
   subst hPI;refine wpAny_pyIter_list hl1 (Zai (wpAny_runValue ?_));have lt:=Zas hol;have ne:l≠(s.heap.push (sG (!byT w))).objs.size:=by
    rw[ZbW];exact ZaB (Zbt lt)
   have hf:s.heap.objs.size ∉ [(s.heap.push (sG (!byT w))).objs.size,l]:=λq=>by
    rw[ZbW] at q;rcases Zaq.mp q with e|q
    ·exact absurd e (ZaB (Zb3 _))
    ·exact absurd (ZaC.mp q) (ZbY lt)
   refine Ib (b:=!byT w) ((Walks.list (A:=A.in1.in1.in1) (by simp[hh]) _ l ne items).toS) s.heap.objs.size hf key hv hb (items.size-0) 0 _ rfl (ZaW _) ⟨⟨_,Zar _ rfl,rfl,rfl⟩,hl1.push _⟩ ?_ ?_
   ·exact(lw.fresh (knd:=knd) (b:=!byT w) (h:=s.heap)).at λo e=>Zae _ e
   ·intro s' hm X;rw[Moved.eq_with hm];refine Zav (Zav ⟨rfl,_,_,rfl,X,λc o e=>?_⟩);have lc:=Zas e;refine hm.heap c o (λq=>?_) (Zae _ (Zae _ e));rcases Zaq.mp q with q|q
    ·exact absurd q (ZaB lc)
    ·rw[ZbW] at q;exact absurd (ZaC.mp q) (ZaB (Zbt lc))
  ·match r₂,hr₂ with
   |.error e,hr=>exact hr
   |.ok (.ret _),⟨e1,h',tk,e2,X,k⟩=>
    subst e1;subst e2;repeat (any_goals (first|assumption|wp_step))
    exact h _ _ X k
end
open PySem PySem.Spec PyProof PyProof.Rows
def It(h:Heap)(I:Addr)(f:Value)(i:Nat)(a:Addr)(n ep:Nat):Prop:=∃ o,h.get? I=some o/\o.cls=.type "set_iterator"/\o.data=.fields #[f,.int i 0,.ref a,.int n 0,.int ep 0]
open PySem PySem.Spec PyProof PyProof.Rows
open PySem PySem.Spec PyProof PyProof.Rows
open PySem PySem.Spec PyProof PyProof.Rows
def slots(t:SetTable):Nat->Nat
 |0=>0
 |i+1=>t.place.getD i 0+1
end L2.SE
namespace L2
open PySem PySem.Spec PyProof PyProof.Rows
def dd:List Int->List Int
 |[]=>[]
 |x::l=>if x∈l then dd l else x::dd l
theorem jY:∀ {l:List Int}{x:Int},x∈dd l↔x∈l
 |[],x=>Iff.rfl
 |y::l,x=>by
  unfold dd;split
  ·rename_i h;rw[jY,Zaq];exact⟨.inr,λq=>q.elim (λe=>e▸h) id⟩
  ·rw[Zaq,Zaq,jY]
theorem nF:∀ l:List Int,(dd l).Nodup
 |[]=>ZcE
 |y::l=>by
  unfold dd;split
  ·exact nF l
  ·rename_i h;exact ZaM.mpr ⟨λq=>h (jY.mp q),nF l⟩
theorem qW:∀ {l m:List Int},l.Nodup->m.Nodup->(∀ x,x∈l↔x∈m)->l.Perm m
 |[],m,_,_,h=>by
  have:m=[]:=List.eq_nil_iff_forall_not_mem.mpr λx q=>nomatch (h x).mpr q;rw[this]
 |a::l,m,hl,hm,h=>by
  obtain⟨s,t,rfl⟩:=List.append_of_mem ((h a).mp Zaj);have hm':=(Zcv (a:=a) (l₁:=s) (l₂:=t)).nodup hm;obtain⟨n1,n2⟩:=ZaM.mp hm';obtain⟨n3,n4⟩:=ZaM.mp hl;refine((qW n4 n2 λx=>?_).cons a).trans Zcv.symm;have q:=h x;rw[Zaq,(Zcv (a:=a) (l₁:=s) (l₂:=t)).mem_iff,Zaq] at q;constructor
  ·intro hx;exact(q.mp (.inr hx)).resolve_left λe=>n3 (e▸hx)
  ·intro hx;exact(q.mpr (.inr hx)).resolve_left λe=>n1 (e▸hx)
theorem z6:∀ {vs:List Value},(∀ v∈vs,∃ k t,v=Value.int k t)->vs.Pairwise (λu v=>∀ k t t',u=.int k t->v=.int k t'->False) ->
  ∃ ms:List Int,IntsAre vs ms/\ms.Nodup/\∀ k,k∈ms↔∃ t,Value.int k t∈vs
 |[],_,_=>⟨[],.nil,ZcE,λk=>⟨λq=>absurd q List.not_mem_nil,λq=>absurd q.choose_spec List.not_mem_nil⟩⟩
 |v::vs,h,p=>by
  obtain⟨k,t,rfl⟩:=h v Zaj;obtain⟨p1,p2⟩:=ZaK.mp p;obtain⟨ms,h1,h2,h3⟩:=z6 (λv q=>h v (Zak _ q)) p2;refine⟨k::ms,.cons k t h1,ZaM.mpr ⟨λq=>?_,h2⟩,λx=>?_⟩
  ·obtain⟨t',q⟩:=(h3 k).mp q;exact p1 _ q k t t' rfl rfl
  ·rw[Zaq,h3];constructor
   ·rintro(rfl|⟨t',q⟩)
    ·exact⟨t,Zaj⟩
    ·exact⟨t',Zak _ q⟩
   ·rintro⟨t',q⟩;rcases Zaq.mp q with e|q
    ·cases e;exact .inl rfl
    ·exact .inr ⟨t',q⟩
theorem Fv{P:Program}{w:World}{S:Int->Bool}{es:Array (Int×Value)}(x:SE.Els (intKind P w) S es){vs:List Value}(p:vs.Perm (es.toList.map (·.2))):∃ ms:List Int,IntsAre vs ms/\ms.Nodup/\∀ k,k∈ms↔S k=true:=by
 have h0:∀ v∈vs,∃ k t,v=Value.int k t:=λv q=>by
  obtain⟨e,he,rfl⟩:=Zay.mp (p.mem_iff.mp q);obtain⟨⟨k,hk,_⟩,_⟩:=x.el e he;obtain⟨t,ht⟩:=Zcn hk;exact⟨k,t,ht⟩
 have h1:(es.toList.map (·.2)).Pairwise (λu v=>∀ k t t',u=.int k t->v=.int k t'->False):=by
  rw[ZaV];refine x.ap.imp λ{e f} q k t t' e1 e2=>q k ?_ ?_
  ·rw[e1];exact intKind_is _ _ _ _
  ·rw[e2];exact intKind_is _ _ _ _
 obtain⟨ms,a,b,c⟩:=z6 h0 ((p.symm.pairwise_iff λ{u v} q k t t' e1 e2=>q k t' t e2 e1).mp h1);refine⟨ms,a,b,λk=>?_⟩;rw[c,x.mem];constructor
 ·rintro⟨t,q⟩;obtain⟨e,he,e2⟩:=Zay.mp (p.mem_iff.mp q);exact⟨e,he,by rw[e2];exact intKind_is _ _ _ _⟩
 ·rintro⟨e,he,q⟩;obtain⟨t,ht⟩:=Zcn q;exact⟨t,p.mem_iff.mpr (Zay.mpr ⟨e,he,ht⟩)⟩
def Ie(P:Program)(w:World)(a:Addr)(ns:List Int):Heap->Prop:=λh=>SE.lw (intKind P w) h a (!SE.byT w) (SE.seen (λi=>ns.getD i 0) ns.length) ns.length
def Ig(K:Frag)(P:Program)(w:World):List V->Hp->VK->Prop:=λxs H Q=>∃ p ns,xs=[.ref p]/\SqL K H p (ns.map V.int)/\ns.length<64/\∀ l,H l=none->Q (.ref l) (upd H l (.ext (Ie P w l ns)))
theorem Cj{ns:List Int}{k:Int}:SE.seen (λi=>ns.getD i 0) ns.length k=true↔k∈ns:=by
 unfold SE.seen;rw[Zb4];constructor
 ·rintro⟨i,hi,q⟩;have hi:=ZaI.mp hi;rw[decide_eq_true_eq] at q;subst q;show ns.getD i 0∈ns
  rw[Zag,Zaa hi];exact Zbo hi
 ·intro q;obtain⟨i,hi,rfl⟩:=Zcb q;refine⟨i,ZaI.mpr hi,?_⟩;rw[decide_eq_true_eq];show ns[i]=ns.getD i 0
  rw[Zag,Zaa hi];rfl
section
variable{X:Cx}
theorem Fw(hc:X.calm=true):gH X (.type "set") (Ig X.K X.prog X.w):=by
 intro pins s O H xs us Q I rv h;obtain⟨p,ns,rfl,hq,h64,q⟩:=h;obtain⟨u,rfl,ru⟩:=rv.one;cases ru;obtain⟨its,r,pl,hz⟩:=I.list hq;have hi:=MP.jT r;have hl:its.length=ns.length:=by have:=r.length;simpa using this.symm
 refine SE.Lf (knd:=intKind X.prog X.w) (key:=λi=>ns.getD i 0) (I.ok.hd hc) pl.isList (λi v e=>?_) (by rw[List.size_toArray,hl];exact ZbA (Nat.succ_lt_succ h64) (by decide)) λh' tk G k=>?_
 ·obtain⟨t,rfl⟩:=IntsAre.int_at hi i v (by rw[<-Zb1] at e;exact e)
  exact⟨intKind_is _ _ _ _,rfl⟩
 ·have zz:its.toArray.size=ns.length:=by rw[List.size_toArray,hl]
  rw[zz] at G;have fresh:H s.heap.objs.size=none:=I.hok.fresh (Zal _);have ex:∃ o,h'.get? s.heap.objs.size=some o:=by obtain⟨o,_,_,_,ho,_⟩:=G;exact⟨o,ho⟩
  exact⟨.ref s.heap.objs.size,upd H s.heap.objs.size (.ext (Ie X.prog X.w s.heap.objs.size ns)),I.laid (t':=tk) k (Zal _) ⟨G,ex,λh1 h2 g e=>SE.lw.at g e⟩,rfl,q _ fresh⟩
end
namespace MP
end MP
def z7:V->List V->Hp->VK->Prop:=λx vs H Q=>∃ l xs n y,x=.ref l/\vs=[.int n,y]/\H l=some (.lst xs)/\xs.length<sizeLine/\0<=n/\n<2^62/\Q .non (upd H l (.lst (xs.take n.toNat++y::xs.drop n.toNat)))
theorem yU(its:List Value)(n:Int)(u:Value)(h0:0<=n):(λxs:Array Value=>have k:=if n<0 then(n+((xs.size:Nat):Int)).toNat else min n.toNat xs.size;(xs.extract 0 k).push u++xs.extract k) its.toArray=(its.take n.toNat++u::its.drop n.toNat).toArray:=by
 show(its.toArray.extract 0 (if n<0 then _ else min n.toNat its.toArray.size)).push u++its.toArray.extract (if n<0 then _ else min n.toNat its.toArray.size)=_
 rw[Zax (by omega)]
 refine Array.toList_inj.mp ?_;rw[Zcc,Zcq,Array.toList_extract,Array.toList_extract,Zcm,Zcm,List.size_toArray,ZbX,Nat.sub_zero];show its.take (min n.toNat its.length)++[u]++(its.drop (min n.toNat its.length)).take _=its.take n.toNat++u::its.drop n.toNat
 rw[Za3,show(its.drop (min n.toNat its.length)).take (its.length-min n.toNat its.length)=its.drop (min n.toNat its.length) from ZbS (by rw[Zb5];exact Zal _)]
 rcases Nat.le_total n.toNat its.length with q|q
 ·rw[Nat.min_eq_left q];rfl
 ·rw[Nat.min_eq_right q,ZbS (Zal _),ZbQ (Zal _),ZbS q,ZbQ q];rfl
section
variable{X:Cx}
theorem Ck:MtM X "list.insert" z7:=by
 intro pins s O H x vs v us Q I rx rv h;obtain⟨l,xs,n,y,rfl,rfl,hH,hz,n0,n1,q⟩:=h;cases rx;obtain⟨u1,u2,rfl,r1,r2⟩:=rv.two;obtain⟨t,rfl⟩:=r1;obtain⟨z,its,m,r,hl,e⟩:=I.Mr hH;refine call_meets F.slot_list_insert ⟨_,e,rfl⟩ F.entry_list_insert (F.args_list_insert_3 _ _ _) (PySem.AutoListH.list_insert_list_int_val_1 l its.toArray m n t u2 ?_ (by rw[List.size_toArray];omega)) ⟨e,?_⟩
 ·unfold Builtin.List.listFitsIndex;simp;omega
 ·refine⟨.non,_,I.Mq (its':=its.take n.toNat++u2::its.drop n.toNat) hH e (yU its n u2 n0) ?_ ?_,rfl,q⟩
  ·exact(r.take _).append (.cons r2 (r.drop _))
  ·rw[Zaz,ZaJ,Zb2,Zb5];omega
end
namespace MP
def Fx(i:Nat)(fi fe:Fn PV):Sn:=λZ=>match ownAt i Z with
 |some (.lst l)=>dB (fi Z) λk=>match k with
  |.int n=>dB (fe Z) λp=>if 0<=n/\n<2^62/\l.length<sizeLine then some (.nx (Z.set i (some (.ow (.lst (l.take n.toNat++p::l.drop n.toNat)))))) else none
  |_=>none
 |_=>none
section
variable{K:Frag}{C:Cg}{ti te:TE}
theorem Lg{i:Nat}{fi fe:Fn PV}(hi:MJ K C (aF K) ti fi)(h:MJ K C (aF K) te fe):MS K C (sW (tBM K "list" z7 (iw i) (dw ti (dw te lr)))) (Fx i fi fe):=by
 intro F H O Z D o R e P;unfold Fx at e;split at e
 ·rename_i l hl;obtain⟨a,g1,⟨xs,g2,g3⟩,g4,g5⟩:=R.ow i _ (aX hl);refine⟨_,g1,tyL g2,hi.jM R e P λk w F1 H1 hk u rw'=>?_⟩;split at hk
  ·rename_i n;cases Rep.aW rw';refine h.jM (R.up u) hk (P.up u.ff) λp v F2 H2 hk2 u2 rv=>?_;split at hk2
   ·rename_i hc;cases hk2;obtain⟨a',k1,⟨ys,k2,k3⟩,k4,k5⟩:=(R.up (u.trans u2)).ow i _ (aX hl);rw[g1] at k1;cases k1;refine⟨a,ys,n,v,rfl,rfl,k2,by rw[k3.1];exact hc.2.2,hc.1,hc.2.1,?_⟩
    refine P F2 _ O (u.trans u2).ff ((R.up (u.trans u2)).write (aX hl) g1 ⟨_,aq,?_⟩);exact(k3.take _).append ((k3.drop _).cons rv)
   ·cases hk2
  ·cases hk
 ·cases e
end
end MP
end L2
namespace L2.MP
open PySem PySem.Spec PyProof.Rows
open PySem PySem.Spec PyProof PyProof.Rows
open PySem PySem.Spec PyProof PyProof.Rows
open PySem PySem.Spec PyProof PyProof.Rows
end L2.MP
namespace L2
open PySem PySem.Spec PyProof PyProof.Rows
namespace MP
end MP
namespace MP
end MP
end L2
namespace L2.MP
open PySem PySem.Spec PyProof.Rows
open PySem PySem.Spec PyProof.Rows PySem.Calls Builtin Builtin.ObjectAttr
open PySem PySem.Spec PyProof.Rows PySem.Calls Builtin Builtin.ObjectAttr
noncomputable abbrev Lh:List Value:=[.type "ValueError",.type "Exception",.type "BaseException",.type "object"]
def Li:List Value->Bool
 |.ref _::r=>Li r
 |l=>l==Lh
def XN(e C:Addr)(d:Option Addr):HO:=.ext λh=>∃ vs:Array Value,h.get? e=some { cls:=.ref C,dict:=d,data:=.fields vs }/\1<vs.size/\vs[1]?=some .none
def XD(dx:Addr)(fs:List (Str×V)):HO:=.ext λh=>fs.length<=1000/\∃ mA,h.Ns1 dx mA/\(∀ f,nW (fs.lookup f) (mA f))/\PySem.Within mA (fs.map (·.1))
noncomputable abbrev THs:=Value->Option Addr->TS
def XRS(K:Frag):Hp->Value->Option Addr->PV->Prop:=λF ev d z=>∃ c l Ca dx xs,z=.exc c l/\ev=.ref Ca/\d=some dx/\XNm K Ca c/\F dx=some (.xd xs)/\xs.map (·.1)=l.map (·.1)/\∀ (j:Nat) x p,xs[j]?=some x->l[j]?=some p->Rep K F x.2 p.2
def spI(Ca:Addr)(fs:List Str):Sp:=λvs H Q _=>∃ e args,vs=.ref e::args/\args.length=fs.length/\H e=some (XN e Ca none) /\
 ∀ dx H',H dx=none->H' e=some (XN e Ca (some dx))->H' dx=some (XD dx (fs.zip args))->(∀ b,b≠e->b≠dx->H' b=H b)->Q .non H'
noncomputable abbrev CE(K:Frag)(E:XK)(io:Addr->Prop)(H0 F0:Hp):Cg:=⟨⟨io,True,H0,F0,E⟩,XRS K⟩
open PySem PySem.Spec PyProof.Rows PySem.Calls PySem.W Builtin Builtin.ObjectAttr
open PySem PySem.Spec PyProof PyProof.Rows
end L2.MP
namespace L2
open PySem PySem.Spec PySem.W PyProof PyProof.Rows
noncomputable abbrev Tk:=Int×List Int
noncomputable abbrev Cx.inK(X:Cx):Cx:={ X with A:=X.A.in1.in1,xe:=λ_ _=>False }
section
variable{X:Cx}{pins:List (Addr×Obj)}{O:St}{H:Hp}{s:Shared}{h':Heap}
theorem Cx.Ok.inK(o:X.Ok):X.inK.Ok:=⟨o.mod,o.kind,o.glob,o.blt,o.above,o.inj,o.has,o.cab,o.hd,o.frames,o.stk,o.exf,o.bs,o.bsz,o.noex,o.exfs,o.lJ,o.frf⟩
theorem Cx.Ok.Lj(o:X.inK.Ok):X.Ok:=⟨o.mod,o.kind,o.glob,o.blt,o.above,o.inj,o.has,o.cab,o.hd,o.frames,o.stk,o.exf,o.bs,o.bsz,o.noex,o.exfs,o.lJ,o.frf⟩
theorem Inv.inK(I:Inv X pins O H s):Inv X.inK pins O H s:=⟨I.ok.inK,I.os,I.bare,I.base,I.loc,I.cell,I.free,I.freeC,I.pin,I.hok,I.len⟩
theorem Inv.Lj(I:Inv X.inK pins O H s):Inv X pins O H s:=⟨I.ok.Lj,I.os,I.bare,I.base,I.loc,I.cell,I.free,I.freeC,I.pin,I.hok,I.len⟩
theorem Inv.adopt{t':Nat}{a:Addr}{o:HO}(I:Inv X pins O H s)(f:lK X pins H a)(k:∀ b o,b≠a->s.heap.get? b=some o->h'.get? b=some o)(new:bR X.prog X.w (upd H a o) h' a o):Inv X pins O (upd H a o) { s with heap:=h',toks:=t' }:=by
 have hn:=f.1;have nc:∀ {b:Addr},b ∉ [a]->b≠a:=λh z=>h (by simp[z])
 refine I.step (g':=s.gens) (d':=s.drawn) (ch:=[a]) (λb hb=>?_) (λb o _ _ hc e _=>k b o (nc hc) e) (λb o _ _ hc e _=>⟨o.slots,k b o (nc hc) e⟩) (λb ob hc e n=>by rw[ao (nc hc)];exact n)
  (λb o hc e=>⟨o,k b o (nc hc) e⟩) (λb xs e=>by rw[ao (aO e hn)];exact e) (λb ob u e=>by rw[ao (aO e hn)];exact e) (λb ps e=>⟨#[],by rw[ao (aO e hn),e];simp⟩) (λm hm=>?_) (λb u e=>?_) I.bare
 ·have e:b=a:=by simpa using hb
  subst e;exact⟨f.2.2.2.1,f.2.1,f.2.2.2.2.1,f.2.2.2.2.2⟩
 ·obtain⟨o,es,ep,ho,r⟩:=hm;exact⟨o,es,ep,k _ o (λz=>f.2.1 z.symm) ho,r⟩
 ·by_cases hb:b=a
  ·subst hb;rw[aq] at e;cases e;exact new
  ·rw[ao hb] at e;refine(I.hok b u e).stay (λc v hc q=>k c v ?_ q) (λc q=>by rw[ao (aO q hn)];exact q) λc xs q=>by rw[ao (aO q hn)];exact q
   rcases hc with z|z
   ·rw[z];exact hb
   ·exact aO z hn
end
def pZ(X:Cx)(pins:List (Addr×Obj))(O:St)(f:Value)(r:List V->Hp->VK->Prop):Prop:=
 ∀ (pins2:List (Addr×Obj)) (s:Shared) (H:Hp) (xs:List V) (us:List Value) (Q:VK),(∀ p∈pins,p∈pins2)->Inv X pins2 O H s->Vals xs us->r xs H Q->wpAny (model X.prog X.w) X.A (call f us) (EP X pins2 O Q) X.xe s
def qX(rk:List V->Hp->VK->Prop):List V->List V->Hp->(List V->Hp->Prop)->Prop
 |[],ks,H,R=>R ks H
 |x::xs,ks,H,R=>rk [x] H λk H1=>qX rk xs (ks++[k]) H1 R
section
variable{X:Cx}{pins:List (Addr×Obj)}{O:St}{H:Hp}{s:Shared}{f:Value}{rk:List V->Hp->VK->Prop}{kS a:Addr}
structure t8(X:Cx)(pins:List (Addr×Obj))(kS a:Addr):Prop where
 ne:kS≠a
 k:∀ H:Hp,H kS=none->lK X pins H kS
 a:∀ H:Hp,H a=none->lK X pins H a
theorem pg{xs:Array Value}{n:Nat}(v:Option Value):(seqObj "list" xs n).data≠.cell v:=λz=>by cases z
theorem t8.pin(M:t8 X pins kS a){ks as:Array Value}{e e1:Nat}(I:Inv X pins O H s)(h1:s.heap.get? kS=some (seqObj "list" ks e))(h2:s.heap.get? a=some (seqObj "list" as e1))(n1:H kS=none)(n2:H a=none) :
  Inv X (pins++[(kS,seqObj "list" ks e),(a,seqObj "list" as e1)]) O H s:=
 I.pJ λp hp=>(ZaG.mp hp).elim (λz=>I.pin p (Zan _ z)) λz=>by
  rcases Zaq.mp z with rfl|z
  ·obtain⟨f0,f1,f2,_⟩:=M.k H n1;exact⟨h1,f0,f1,f2,pg⟩
  ·rw[ZaC.mp z];obtain⟨f0,f1,f2,_⟩:=M.a H n2;exact⟨h2,f0,f1,f2,pg⟩
theorem Cm(hk:pZ X.inK pins O f rk)(M:t8 X pins kS a){vs:List Value}{xs:List V}{R:List V->Hp->Prop}{e1:Nat}(rv:Vals xs vs)(hz:vs.length<sizeLine)(h1:s.heap.get? kS=some (seqObj "list" #[] 0))(h2:s.heap.get? a=some (seqObj "list" #[] e1))(n1:H kS=none)(n2:H a=none)
  (I:Inv X pins O H s)(h:qX rk xs [] H R){b:Bool}{P:PySem.Fin->Shared->Prop}{E:Value->Shared->Prop}
  (done:∀ (ks:List V) (kA:Array Value) (e:Nat) (H':Hp) (s':Shared),Inv X pins O H' s'->s'.heap.get? kS=some (seqObj "list" kA e)->s'.heap.get? a=some (seqObj "list" #[] e1)->H' kS=none->H' a=none->Vals ks kA.toList->ks.length=vs.length->R ks H' ->
   wpAny (model X.prog X.w) X.A.in1.in1 (ksk_end a b vs.toArray e1 (.ref kS) kA) P E s') :
  wpAny (model X.prog X.w) X.A.in1.in1 (ksk_rest a f b vs.toArray e1 (.ref kS)) P E s:=by
 unfold ksk_rest;refine Zai (wpAny_rule ?_);rw[List.forIn_toArray];refine Zai (ksk_fold (λi s'=>∃ (ks:List V) (kA:Array Value) (e:Nat) (H':Hp),Inv X (pins++[(kS,seqObj "list" kA e),(a,seqObj "list" #[] e1)]) O H' s'/\Vals ks kA.toList/\ks.length=i/\qX rk (xs.drop i) ks H' R) vs 0 s
  ⟨[],#[],0,H,M.pin I h1 h2 n1 n2,.nil,rfl,h⟩ ?step ?fin)
 case step=>
  rintro j x s' hx ⟨ks,kA,e,H',I',vk,hl,hr⟩;simp only[Nat.zero_add] at hl hr ⊢;have hj:j<vs.length:=(Zad.mp hx).1;have hjx:j<xs.length:=by rw[rv.length];exact hj
  rw[ZaY hjx] at hr;have hr:rk [xs[j]] H' λk H1=>qX rk (xs.drop (j+1)) (ks++[k]) H1 R:=hr;have rx:RelV xs[j] x:=by
   obtain⟨u,h1,h2⟩:=rv.get (Zaa hjx);rw[hx] at h1;cases h1;exact h2
  have kz:kA.size=j:=by
   rw[<-hl,vk.length];simp
  refine Zai (wpAny_attempt (ZaO (hk _ s' H' [xs[j]] [x] _ (λp hp=>Zbk _ hp) I'.inK (.cons rx .nil) hr) (λv s'' he=>?_) λ_ _ hF=>hF.elim));obtain⟨k,H2,I2,rk2,hr2⟩:=he;have I2:=I2.Lj;have nk:=I2.pin (kS,seqObj "list" kA e) (Zan _ (Zan _ (.head _)));have na:=I2.pin (a,seqObj "list" #[] e1) (Zan _ (Zan _ (.tail _ (.head _))));have s1:=Zbn s''.heap kS (Obj.mapSeq (·.push v));obtain⟨c2,hc2⟩:∃ c2,(s''.heap.update kS (Obj.mapSeq (·.push v))).get? kS=some (seqObj "list" (kA.push v) c2):=⟨_,get?_update_seq nk.1 (·.push v)⟩;refine Zai (listUpdate_at nk.1 rfl ?_ (by rw[kz];exact ZaA (ZbA hj hz)) (ZaS (Zcz (Array.size_push ..)) (by rw[kz];exact Nat.succ_le_succ (ZaA (ZbA hj hz)))))
  refine Zav ⟨rfl,ks++[k],kA.push v,c2,H2,?_,by rw[Zcq];exact vk.append (.cons rk2 .nil),by rw[Zaz,hl];rfl,hr2⟩
  have I3:Inv X pins O H2 { s'' with heap:=s''.heap.update kS (Obj.mapSeq (·.push v)),toks:=s''.toks }:=I2.gG.mD (ch:=[kS]) (λb o hb q=>by rw[s1.2 b (λz=>hb (by simp[z]))];exact q) λb hb=>by rw[ZaC.mp hb];exact M.k H2 nk.2.1
  exact M.pin I3 hc2 ((s1.2 a M.ne.symm).trans na.1) nk.2.1 na.2.1
 case fin=>
  rintro s' ⟨ks,kA,e,H',I',vk,hl,hr⟩;rw[Nat.zero_add] at hl hr;have nk:=I'.pin (kS,seqObj "list" kA e) (Zan _ (Zan _ (.head _)));have na:=I'.pin (a,seqObj "list" #[] e1) (Zan _ (Zan _ (.tail _ (.head _))));rw[List.drop_eq_nil_of_le (by rw[rv.length];exact Zal _)] at hr
  refine Zai (listItems_at nk.1 rfl ?_);exact done ks kA e H' s' I'.gG nk.1 na.1 nk.2.1 na.2.1 vk hl hr
theorem Fy{ks vs:List Value}(hk:ks.length=vs.length)(h:vs.length<2):((ks.toArray.zip vs.toArray).map (·.2)).toList=(List.range vs.length).map λi=>vs.getD i .none:=by
 cases vs with
 |nil=>simp
 |cons v l=>
  cases l with
  |nil=>
   cases ks with
   |nil=>cases hk
   |cons k ks=>
    cases ks with
    |nil=>simp[Zcy]
    |cons=>simp at hk
  |cons u l=>simp at h;omega
theorem vh{q:Addr}(hk:pZ X.inK pins O (.ref q) rk){p:Addr}{xs:List V}{Q:VK}{R:List V->Hp->Prop}(I:Inv X pins O H s)(hq:SqL X.K H p xs)(hz:xs.length<sizeLine)(h:qX rk xs [] H R)
  (fin:∀ {kS a:Addr} (_:t8 X pins kS a) {vs:List Value}{ks:List V}{kA:Array Value}{e e1:Nat}{H':Hp}{s':Shared} (_:Inv X pins O H' s') (_:s'.heap.get? kS=some (seqObj "list" kA e)) (_:s'.heap.get? a=some (seqObj "list" #[] e1)) (_:H' kS=none) (_:H' a=none) (_:Vals xs vs) (_:Vals ks kA.toList) (_:ks.length=vs.length) (_:vs.length<sizeLine) (_:R ks H')
   {P:PySem.Fin->Shared->Prop}{E:Value->Shared->Prop} (_:∀ (l:List V) s',Inv X pins O (upd H' a (.lst l)) s'->Q (.ref a) (upd H' a (.lst l))->P (.done (.ret .none)) s'),wpAny (model X.prog X.w) X.A.in1.in1 (ksk_end a false vs.toArray e1 (.ref kS) kA) P E s') :
  wpAny (model X.prog X.w) X.A (call (.builtin "sorted") [.ref p] [(Str.ofString "key",.ref q)]) (EP X pins O Q) X.xe s:=by
 obtain⟨vs,rv,pl,_⟩:=I.list hq;have hz:vs.length<sizeLine:=by rw[<-rv.length];exact hz
 refine call_function_entry_kw kind_sorted plain_sorted entry_sorted (ksk_s1 _ _) ?_;unfold Builtin.«sorted»;refine Zai (m:=checkCount "sorted" 1 1 _) (Zav ?_);refine Zai (collect_list pl.isList ?_ (ZaA hz));refine Zai (wpAny_newList ?_ (ZaA hz));have hsz:((s.heap.push (seqObj "list" #[] 0)).update s.heap.objs.size (Obj.mapSeq (·++vs.toArray))).objs.size=s.heap.objs.size+1:=by
  rw[Heap.size_update,size_push']
 have hoL:(((s.heap.push (seqObj "list" #[] 0)).update s.heap.objs.size (Obj.mapSeq (·++vs.toArray))).push (seqObj "list" vs.toArray 0)).get? (s.heap.objs.size+1)=some (seqObj "list" vs.toArray 0):=by
  rw[<-hsz];exact Zar _ rfl
 have keep:∀ b o,s.heap.get? b=some o->(((s.heap.push (seqObj "list" #[] 0)).update s.heap.objs.size (Obj.mapSeq (·++vs.toArray))).push (seqObj "list" vs.toArray 0)).get? b=some o:=λb o q=>by
  have hlt:b<s.heap.objs.size:=Zas q;rw[Heap.get?_push_ne _ _ _ (by rw[hsz];exact ZaB (Zbt hlt)),Heap.get?_update_ne _ _ _ _ (ZaB hlt),Heap.get?_push_ne _ _ _ (ZaB hlt)]
  exact q
 show wpAny _ _ _ _ _ { s with heap:=((s.heap.push (seqObj "list" #[] 0)).update s.heap.objs.size (Obj.mapSeq (·++vs.toArray))).push (seqObj "list" vs.toArray 0) }
 rw[hsz];have hsz2:(((s.heap.push (seqObj "list" #[] 0)).update s.heap.objs.size (Obj.mapSeq (·++vs.toArray))).push (seqObj "list" vs.toArray 0)).objs.size=s.heap.objs.size+2:=by
  rw[size_push',hsz]
 generalize ((s.heap.push (seqObj "list" #[] 0)).update s.heap.objs.size (Obj.mapSeq (·++vs.toArray))).push (seqObj "list" vs.toArray 0)=g at hoL keep hsz2
 refine Zai (wpAny_holding (wpAny_call_entry_kw slot_list_sort ⟨_,hoL,rfl⟩ entry_list_sort ?_ (ksk_l1 _ _)));show wpAny (model X.prog X.w) X.A.in1.in1 (Builtin.«list.sort» ⟨[.ref (s.heap.objs.size+1)],_⟩) _ _ _
 rw[ksk_t1];have s1:=Zbn g (s.heap.objs.size+1) (Obj.mapSeq λ_=>(#[]:Array Value));obtain⟨e1,ho1⟩:∃ e1,(g.update (s.heap.objs.size+1) (Obj.mapSeq λ_=>(#[]:Array Value))).get? (s.heap.objs.size+1)=some (seqObj "list" #[] e1):=⟨_,get?_update_seq hoL λ_=>#[]⟩;have hkS:((g.update (s.heap.objs.size+1) (Obj.mapSeq λ_=>(#[]:Array Value))).push (seqObj "tuple" vs.toArray 0)).objs.size=s.heap.objs.size+3:=by rw[size_push',Heap.size_update,hsz2]
 unfold ksk_tree;refine Zai (listItems_at hoL rfl ?_);refine Zai (listUpdate_at hoL rfl ?_ (by rw[List.size_toArray];exact ZaA hz) (ZaW _))
 refine Zai (seqEpoch_at ho1 rfl ?_);refine Zai (wpAny_newTuple ?_ (by show vs.length<=_;exact ZaA hz))
 refine Zai (wpAny_newList ?_ (ZaW _));refine wpAny_holding ?_;rw[hkS];have fresh:∀ b,s.heap.objs.size<=b->H b=none:=λb hb=>I.hok.fresh hb;have keep2:∀ b o,s.heap.get? b=some o->(((g.update (s.heap.objs.size+1) (Obj.mapSeq λ_=>(#[]:Array Value))).push (seqObj "tuple" vs.toArray 0)).push (seqObj "list" #[] 0)).get? b=some o:=λb o q=>
  Zae _ (Zae _ (by rw[s1.2 b (ZaB (Zbt (Zas q)))];exact keep b o q))
 have M:t8 X pins (s.heap.objs.size+3) (s.heap.objs.size+1):=⟨λz=>absurd (Nat.add_left_cancel z:3=1) (by decide),λH h=>I.ut (Nat.le_add_right _ _) h,λH h=>I.ut (Nat.le_add_right _ _) h⟩
 refine Cm (s:={ s with heap:=((g.update (s.heap.objs.size+1) (Obj.mapSeq λ_=>(#[]:Array Value))).push (seqObj "tuple" vs.toArray 0)).push (seqObj "list" #[] 0) }) hk M rv hz (by
   have:=Zar ((g.update (s.heap.objs.size+1) (Obj.mapSeq λ_=>(#[]:Array Value))).push (seqObj "tuple" vs.toArray 0)) (o:=seqObj "list" #[] 0) rfl;rw[hkS] at this;exact this) (Zae _ (Zae _ ho1)) (fresh _ (by omega)) (fresh _ (by omega)) (I.kept (t':=s.toks) keep2) h ?_
 intro ks kA e H' s' I' g1 g2 n1 n2 vk hl hr;exact fin M I' g1 g2 n1 n2 rv vk hl hz hr λl s2 I2 hQ=>⟨_,rfl,Zav ⟨_,rfl,.ref _,_,I2,rfl,hQ⟩⟩
end
namespace MP
end MP
def z8(P:Program)(w:World):List V->Hp->VK->Prop:=λxs H Q=>∃ p ns,xs=[.ref p]/\H p=some (.ext (Ie P w p ns))/\ns.length<64/\Q (.int ((dd ns).length:Nat)) H
theorem Cp{X:Cx}:gH X (.builtin "len") (z8 X.prog X.w):=by
 intro pins s O H xs us Q I rv h;obtain⟨p,ns,rfl,hp,h64,q⟩:=h;obtain⟨u,rfl,ru⟩:=rv.one;cases ru;have G:Ie X.prog X.w p ns s.heap:=(I.hok p _ hp).1;obtain⟨o,es,ep,t,ho,hex,hd,el,sb,hf,gd,hn⟩:=G;obtain⟨ms,m1,m2,m3⟩:=Fv el (List.Perm.refl _);have pp:ms.Perm (dd ns):=qW m2 (nF ns) λx=>by rw[m3,Cj,jY]
 have hl:=IntsAre.length m1;rw[Zab,ZaD,pp.length_eq] at hl;refine call_len_set ho hex hd hf (by omega) ⟨.int ((dd ns).length:Nat),H,I.tok _,⟨_,by rw[<-hl]⟩,q⟩
end L2
namespace L2.MP
open PySem PySem.Spec PySem.W PyProof.Rows
def oK(l:List PV):Option (Res PV):=match cV l with
 |some ns=>if ns.length<64 then some (.ok (.int ((dd ns).length:Nat))) else none
 |none=>none
section
variable{K:Frag}{C:Cg}{P:Program}{w:World}{ta:TE}{f:Fn (List PV)}
theorem Lk:R1M C (aV K) (aF K) (λxs H Q=>Ig K P w xs H λx H2=>z8 P w [x] H2 Q) oK:=by
 intro F H x a res Q s ha e hP;unfold oK at e;cases h:cV a with
 |none=>rw[h] at e;cases e
 |some ns=>
  rw[h] at e;have e:(if ns.length<64 then some (Res.ok (PV.int ((dd ns).length:Nat))) else none)=some res:=e;split at e
  ·rename_i h64;cases e;obtain⟨b,xs,rfl,h1,r1⟩:=ha;have ex:xs=ns.map V.int:=kJ h r1;subst ex;refine⟨b,ns,rfl,h1,h64,λl hl=>⟨l,ns,rfl,aq,h64,?_⟩⟩;exact hP _ F _ (Up.rZ s hl) .int
  ·cases e
theorem Ii(ha:MJ K C (aV K) ta f):MJ K C (aF K) (tCB (z8 P w) (dw (tCB (Ig K P w) (dw ta lr)) lr)) (m1 oK f):=cA (rr:=λxs H Q=>Ig K P w xs H λx H2=>z8 P w [x] H2 Q) Lk ha
end
end L2.MP
namespace L2
open PySem PySem.Spec PySem.W PyProof PyProof.Rows
section
variable{X:Cx}{pins:List (Addr×Obj)}{O:St}{H:Hp}{s:Shared}{P cc:Addr}{lpos:Pos}{q:Str}{params:Arguments}{body:Expr}{scope:Scope}{cl:List (Str×Addr)}
def Ij(X:Cx)(pins:List (Addr×Obj))(O:St)(H:Hp)(q:Str)(params:Arguments)(body:Expr)(scope:Scope)(cl:List (Str×Addr))(v:Value)(s':Shared):Prop:=
 ∃ (f c:Addr) (oc:Obj) (vs:Array Value) (t:Tok) (ctv:Value) (H2:Hp),v=.ref f/\Inv X pins O H2 s'/\s'.heap.get? f=some (kla_obj "<lambda>" q params body scope cl ((X.mg "__name__").getD .none) c ctv)/\lK X pins H2 f /\
  H2 c=some (.frz oc (.own 0))/\oc.data=.fields vs/\vs[1]?=some (.str q t)/\∀ b o,H b=some o->H2 b=some o
theorem Fz(I:Inv X pins O H s)(hP:H P=some (.tab lpos q))(hq:q=X.env.qual++"<lambda>")(hdef:defaultsOf params X.env=([],[]))(hcl:closureFor scope X.env=pure cl)(hcode:X.env.code=.ref cc)(C:CodeHd X.base cc P)(hB:X.base.BuiltinsAt X.mg P) :
  wpAny (model X.prog X.w) X.A (eval (.Lambda params body scope lpos) X.env) (Ij X pins O H q params body scope cl) X.xe s:=by
 subst hq;obtain⟨ps,hp,tr,z⟩:=(show bR X.prog X.w H s.heap P (.tab lpos _) from I.hok P _ hP);have hg:s.heap.Ns mainGlobals X.mg:=I.mod.glob.keeps I.bk;have C':CodeHd s.heap cc P:=C.keeps I.bk;have hB':s.heap.BuiltinsAt X.mg P:=hB.keeps I.bk;have hgP:mainGlobals≠P:=λz=>by
  obtain⟨o,es,ep,e,_⟩:=I.mod.glob;have:=(I.bs _ _ e).2;rw[z,hP] at this;cases this
 refine kla_eval hdef ?_;rcases z with z|⟨c,oc,vs,t,z1,z2,z3,z4⟩
 ·refine kla_makeFunction (mg:=X.mg) hcl I.ok.glob hg hcode C' hp tr z hgP hB' λc ctv h' tk hx hge hlt hrec htb=>?_;obtain⟨c',oc,vs,t,ec,hoc,hd,hv⟩:=hrec;cases ec;have hn:H c=none:=I.hok.fresh hge;have cP:c≠P:=λz=>by rw[z,hP] at hn;cases hn
  have keep:∀ b o,b≠P->s.heap.get? b=some o->(h'.push (kla_obj "<lambda>" (X.env.qual++"<lambda>") params body scope cl ((X.mg "__name__").getD .none) c ctv)).get? b=some o:=λb o nb e=>Zae _ (hx b o nb e);have same:∀ b o,H b=some o->upd H c (.frz oc (.own 0)) b=some o:=λb o e=>by rw[ao (aO e hn)];exact e
  have szl:s.heap.objs.size<=h'.objs.size:=ZaS hge (ZaA hlt);have J:Inv X pins O (upd H c (.frz oc (.own 0))) { s with heap:=h'.push (kla_obj "<lambda>" (X.env.qual++"<lambda>") params body scope cl ((X.mg "__name__").getD .none) c ctv),toks:=tk }:=by
   have nP:∀ b,H b=none->b≠P:=λb e z=>by rw[z,hP] at e;cases e
   refine I.un ⟨λb o e n _ _=>keep b o (nP b n) e,λb o e n _ _=>⟨o.slots,keep b o (nP b n) e⟩,λb o e n _=>?_,λb o e _=>?_,λb xs e=>same b _ e,λb o u e=>same b _ e,λb ps e=>⟨#[],by rw[same b _ e];simp⟩⟩ λb o e=>?_
   ·rw[ao (λz=>by rw[z] at e;exact absurd (Zau (Zas e) hge) (Zbp _))];exact n
   ·by_cases hb:b=P
    ·subst hb;exact⟨_,Zae _ htb⟩
    ·exact⟨o,keep b o hb e⟩
   ·by_cases hb:b=c
    ·subst hb;rw[aq] at e;cases e;exact⟨Zae _ hoc,⟨oc,Zae _ hoc⟩⟩
    ·rw[ao hb] at e;by_cases hb2:b=P
     ·subst hb2;rw[hP] at e;cases e;refine⟨ps++#[rawInt lpos.line,rawInt lpos.col,.ref c],Zae _ htb,?_,.inr ⟨c,oc,vs,t,?_,aq,hd,hv⟩⟩
      ·rw[Zcc];exact TriplesOk_snoc _ _ _ _ tr
      ·rw[Zcc];exact codeAmong_snoc _ tr z
     ·refine(I.hok b o e).stay (λd v hc r=>keep d v ?_ r) (λd r=>same d _ r) (λd xs r=>same d _ r) (λd ob r=>same d _ r);rcases hc with hc|hc
      ·rw[hc];exact hb2
      ·exact λz=>by rw[z,hP] at hc;cases hc
  exact⟨_,c,oc,vs,t,ctv,_,rfl,J,Zar _ rfl,I.ut szl (by
   rw[ao (ZbY hlt)];exact I.hok.fresh szl),aq,hd,hv,same⟩
 ·refine kla_makeFunctionHit (mg:=X.mg) hcl I.ok.glob hg hcode C' hp tr z1 hB' λctv h' tk hk hsz=>?_;have J:Inv X pins O H { s with heap:=h'.push { cls:=.type "function",data:=.func (kla_fn "<lambda>" (X.env.qual++"<lambda>") params body scope cl ((X.mg "__name__").getD .none) (.ref c) ctv) },toks:=tk }:=I.kept λb o e=>Zae _ (hk b o e);exact⟨_,c,oc,vs,t,ctv,H,rfl,J,Zar _ rfl,I.ut hsz (I.hok.fresh hsz),z2,z3,z4,λ_ _ e=>e⟩
end
end L2
namespace L2.MP
open PySem PySem.Spec PySem.W PyProof PyProof.Rows
def spT(P:Addr)(lpos:Pos)(q:Str)(sp:Sp):Sp:=λvs H Q E=>H P=some (.tab lpos q)/\sp vs H Q E
section
variable{K:Frag}{N:List Str}{vs:List V}{H:Hp}{Q:VK}{E:XK}{m:List PV->Option (Res PV)}{t:TS}{b:Sn}{PT:Addr}{lpos:Pos}{qn:Str}
theorem xg{k n:Nat}(hk:N.length=k+n)(hm:∀ ps r,m ps=some r->ps.length=k/\fin (b (startR ps n))=some r)(h:spT PT lpos qn (spM K XR0 m) vs H Q E)(hS:∀ (io:Addr->Prop) (H0 F0:Hp),(∀ a,¬io a)->H0 PT=some (.tab lpos qn)->MS K (C0 io H0 F0) t b) :
  t { nx:=λ_ H'=>Q .non H',rt:=Q } (start N vs) H:=by
 obtain⟨hT,ps,F,r,s,rp,e,P⟩:=h;obtain⟨hl,e⟩:=hm ps r e;have R:=mU (E:=E0) (N:=N) (n:=n) s rp (by rw[rp.1,hl];exact hk)
 have up:∀ {F' H':Hp},aB F F'->RB ⟨λ_=>False,True,H,F,E0⟩ F' H'->Up F H F' H':=λs' rb=>⟨s',λc o q=>rb.keep c o q id,rb.new,rb.sub⟩;have M:=hS (λ_=>False) H F (λ_ h=>h) hT;cases ho:b (startR ps n) with
 |none=>rw[ho] at e;cases e
 |some o=>
  rw[ho] at e;refine M F H _ _ _ o R ho ?_;cases o with
  |nx Z=>cases e;exact λF' H' O s' R'=>P .non F' H' (up s' R'.rb) .non
  |rt p=>cases e;exact λv F' H' s' rb rv=>P v F' H' (up s' rb) rv
  |ex z=>exact λ_ _ _ _ _ _ x=>x.elim
  |ro p=>cases e
  |rd p=>cases e
  |bk Z=>cases e
  |ct Z=>cases e
theorem Ik{sp:Sp}(h:spT PT lpos qn sp vs H Q E):sp vs H Q E:=h.2
end
end L2.MP
namespace L2
open PySem PySem.Spec PySem.W PyProof PyProof.Rows
section
variable{P:Program}{w:World}{K:Frag}{mg mb:Str->Option Value}{k:Nat}{fa a PT cc:Addr}{fd:FuncData}{x:Str}{sp:Sp}{s₁:Shared}{vs:List Value}{ns:List Int}{lpos:Pos}{qn:Str}
def qY(K:Frag)(PT a:Addr)(lpos:Pos)(qn:Str)(vs:List Value)(ns:List Int):Hp:=λb=>
 if b=PT then some (.tab lpos qn) else if b=a then(match K.lookup a with
  |some _=>none
  |none=>some (.frz { cls:=.type "list",data:=.seq vs.toArray } (.lst (ns.map V.int)))) else none
theorem Il:qY K PT a lpos qn vs ns PT=some (.tab lpos qn):=Zat rfl
theorem Cq{b:Addr}(h1:b≠PT)(h2:b≠a):qY K PT a lpos qn vs ns b=none:=by unfold qY;rw[Zax h1,Zax h2]
theorem xj{b:Addr}{u:HO}(h:qY K PT a lpos qn vs ns b=some u):(b=PT/\u=.tab lpos qn)\/(b≠PT/\b=a/\K.lookup a=none/\u=.frz { cls:=.type "list",data:=.seq vs.toArray } (.lst (ns.map V.int))):=by
 unfold qY at h;by_cases h1:b=PT
 ·rw[Zat h1] at h;cases h;exact .inl ⟨h1,rfl⟩
 ·rw[Zax h1] at h;by_cases h2:b=a
  ·rw[Zat h2] at h;cases e:K.lookup a with
   |some o=>rw[e] at h;cases h
   |none=>rw[e] at h;cases h;exact .inr ⟨h1,h2,rfl,rfl⟩
  ·rw[Zax h2] at h;cases h
theorem Cr(KX:K.In s₁.heap)(hns:s₁.heap.Ns mainGlobals mg)(hb:s₁.heap.Ns builtinsNs mb)(hbb:∀ x:Str,x≠"__name__"->mb x=bootBuiltins x)(hlim:s₁.heap.NoLimit)(hg:s₁.gens=#[])
  (ha:s₁.heap.get? a=some { cls:=.type "list",data:=.seq vs.toArray })(hi:IntsAre vs ns)(hl:ns.length<=sizeLine)(hr:cz k callerA)
  (hP:s₁.heap.get? PT=some { cls:=.none,data:=.fields #[] })(hC:CodeHd s₁.heap cc PT)(hBI:s₁.heap.BuiltinsAt mg PT)(hPK:K.lookup PT=none)
  (F:∀ base:Heap,K.In base->base.Ns mainGlobals mg->CodeHd base cc PT->base.BuiltinsAt mg PT->qe P w K mg base CX0 k fa fd [x] sp)(hbind:∀ (s:Shared) (u:Value),BindsTo s fd ⟨[u],[]⟩ [(x,u)])
  (hsp:∀ H:Hp,H PT=some (.tab lpos qn)->SqL K H a (ns.map V.int)->sp [.ref a] H (λv H'=>v=.bl true/\H' PT=some (.tab lpos qn)) λ_ _ _=>False) :
  codeAny (model P w) callerA (.call (.ref fa) ⟨[.ref a],[]⟩) (λr s'=>r=.ok (.ret (.bool true))/\OldK s₁.heap s'.heap/\s'.os=s₁.os/\AllBare s'.gens) s₁:=by
 have rv:=j9 hi;have lenV:=hi.length;have aP:a≠PT:=λz=>by rw[z,hP] at ha;cases ha
 obtain⟨H,eH⟩:∃ H,qY K PT a lpos qn vs ns=H:=⟨_,rfl⟩;have HP:H PT=some (.tab lpos qn):=by rw[<-eH];exact Il
 have inv:∀ {b:Addr},b≠PT->b≠a->H b=none:=λh1 h2=>by rw[<-eH];exact Cq h1 h2
 have cs:∀ {b:Addr}{u:HO},H b=some u->(b=PT/\u=.tab lpos qn)\/(b≠PT/\b=a/\K.lookup a=none/\u=.frz { cls:=.type "list",data:=.seq vs.toArray } (.lst (ns.map V.int))):=λh=>xj (by rw[eH];exact h)
 have hok:HOk P w H s₁.heap:=λb u e=>by
  rcases cs e with⟨rfl,rfl⟩|⟨_,rfl,_,rfl⟩
  ·exact⟨#[],hP,trivial,.inl rfl⟩
  ·exact⟨ha,by rw[Zab];exact hl,vs,_,rv,ha⟩
 have hS:SqL K H a (ns.map V.int):=by
  cases e:K.lookup a with
  |some o=>
   have z:=KX a o e;rw[ha] at z;cases z;exact .inr ⟨_,vs.toArray,_,e,rfl,rfl,rfl,by rw[List.size_toArray,lenV];exact hl,by simpa using rv⟩
  |none=>
   refine .inl (.inr ⟨{ cls:=.type "list",data:=.seq vs.toArray },?_⟩);rw[<-eH];unfold qY;rw[Zax aP,Zat rfl,e]
 have other:∀ {b:Addr}{o:Obj},s₁.heap.get? b=some o->o.cls≠.type "list"->b≠PT->(pq s₁.heap H).get? b=some o:=λ{b o} e hc hb=>qb e (inv hb λz=>by rw[z,ha] at e;cases e;exact hc rfl)
 have dct:∀ {b:Addr}{o:Obj}{es:Array DictEntry}{ep:Nat},s₁.heap.get? b=some o->o.data=.dict es ep->(pq s₁.heap H).get? b=some o:=λ{b o es ep} e d=>qb e (inv (λz=>by rw[z,hP] at e;cases e;cases d) λz=>by rw[z,ha] at e;cases e;cases d)
 have nsB:∀ {b:Addr}{m:Str->Option Value},s₁.heap.Ns b m->(pq s₁.heap H).Ns b m:=λ{b m} ⟨o,es,ep,e,d,r⟩=>⟨o,es,ep,dct e d,d,r⟩;have kB:K.In (pq s₁.heap H):=λb o e=>qb (KX b o e) (by
  cases q:H b with
  |none=>rfl
  |some u=>
   rcases cs q with⟨rfl,_⟩|⟨_,rfl,z,_⟩
   ·rw[hPK] at e;cases e
   ·rw[z] at e;cases e)
 have cB:CodeHd (pq s₁.heap H) cc PT:=by
  obtain⟨o,us,file,tf,flags,tg,inF,text,tt,e1,e2,e3,e4,e5,e6,e7,e8,e9,e10⟩:=hC;exact⟨o,us,file,tf,flags,tg,inF,text,tt,other e1 (by rw[e2];decide) e10,e2,e3,e4,e5,e6,e7,e8,e9,e10⟩
 have bB:(pq s₁.heap H).BuiltinsAt mg PT:=by
  obtain⟨bm,o,b1,b2,b3,b4,b5,b6,b7⟩:=hBI;exact⟨bm,o,b1,b2,b3,b4,other b5 (by rw[b6];decide) b4,b6,b7⟩
 have hM:Mod K mg (pq s₁.heap H):=⟨kB,nsB hns,⟨mb,nsB hb,hbb⟩,let⟨mc,h1,h2⟩:=hlim;⟨mc,nsB h1,h2⟩⟩;have e0:Gz P w K mg (pq s₁.heap H) callerA [] s₁ H:=⟨rfl,hM,λb o e=>Gr e,Zcz (Ay _ _),trivial,λb hb=>absurd (show b∈([]:List Addr) from hb) (by simp),hok,.of_eq hg⟩
 refine codeAny_mono ((F _ kB (nsB hns) cB bB).run callerA [] s₁ H ⟨[.ref a],[]⟩ [.ref a] [.ref a] _ _ hr e0 (hbind s₁ (.ref a)) (.cons rfl .nil) (hsp H HP hS)) λr s' h=>?_
 match r,h with
 |.error e,h=>exact h.elim
 |.ok (.ret u),h=>
  obtain⟨v,H',os,bare,un,hok',r',rfl,hT⟩:=h;obtain rfl:u=Value.bool true:=r';have tabl:=hC.tab hP;have eff:∀ b o,s₁.heap.get? b=some o->b≠PT->s'.heap.get? b=some o:=λb o e hb=>by
   cases q:H b with
   |none=>exact un.keep b o e q (by intro z;exact absurd (show b∈([]:List Addr) from z) (by simp)) (by simp)
   |some u=>
    rcases cs q with⟨z,_⟩|⟨_,rfl,_,rfl⟩
    ·exact absurd z hb
    ·obtain⟨e2,_⟩:=hok' _ _ (un.frzs _ _ _ q);rw[ha] at e;cases e;exact e2
  obtain⟨ps,hp,_⟩:=(show bR P w H' s'.heap PT (.tab lpos qn) from hok' PT _ hT);refine⟨rfl,⟨λb o e=>?_,λb o e=>?_⟩,os,bare⟩
  ·by_cases hb:b=PT
   ·subst hb;rw[hP] at e;cases e;exact .inr (.inl ⟨tabl.isCodeTable,rfl,#[],ps,rfl,by rw[Array.empty_append];exact hp⟩)
   ·exact .inl (eff b o e hb)
  ·by_cases hb:b=PT
   ·subst hb;exact⟨_,hp⟩
   ·exact⟨o,eff b o e hb⟩
end
theorem FJ{l:PySem.W.OpenLaw}{n k:Nat}{q:Program}{loose:List Str}{XP:(Str->Option Value)->Heap->Prop}{YP:World->Heap->Prop}{d:DefRec}{K:Params->Frag}{sp:World->Sp}{x:Str}{PT cc:Addr}{lpos:Pos}{qn:Str}
  (hn:l.most=some n)(hn2:n<=sizeLine)(hdf:d.params.defaults=[])(hr:cz k callerA)(hY:∀ (w:World) (h:Heap),YP w h->(K w.params).In h)
  (hPT:∀ (w:World) (h:Heap),YP w h->h.get? PT=some { cls:=.none,data:=.fields #[] }/\CodeHd h cc PT)(hPK:∀ w:World,(K w.params).lookup PT=none)
  (F:∀ (w:World) (mg:Str->Option Value) (fa:Addr) (h:Heap),(K w.params).In h->h.Ns mainGlobals mg->mg d.name=some (.ref fa) ->
   ∃ fd:FuncData,(∀ (s:Shared) (u:Value),BindsTo s fd ⟨[u],[]⟩ [(x,u)]) /\
    ∀ base:Heap,(K w.params).In base->base.Ns mainGlobals mg->CodeHd base cc PT->base.BuiltinsAt mg PT->qe l.prog w (K w.params) mg base CX0 k fa fd [x] (sp w))
  (hsp:∀ (w:World) (H:Hp) (a:Addr) (ns:List Int),ns.length<=n->H PT=some (.tab lpos qn)->SqL (K w.params) H a (ns.map V.int)->sp w [.ref a] H (λv H'=>v=.bl true/\H' PT=some (.tab lpos qn)) λ_ _ _=>False) :
  PySem.W.WalkO q loose XP YP l.row.toRowW d [] (λf vs=>PySem.call f vs):=by
 refine Att.vW hn hdf λw s₀ s₁ mg mb fa o pm cd doc a vs ns G Y ho hd hcd hmg hobj hints hlen hg=>?_;have KX:=hY w _ Y;obtain⟨hP,hC⟩:=hPT w _ Y;obtain⟨fd,hb,hF⟩:=F w mg fa _ KX G.T.g hmg;have hBI:s₁.heap.BuiltinsAt mg PT:=by
  obtain⟨bm,ob,b1,b2,b3,b4,b5,b6⟩:=G.T.bmain;refine⟨bm,ob,b1,b2,λz=>?_,λz=>?_,b3,b4,b5,b6⟩
  ·obtain⟨o,es,ep,e,hd,_⟩:=G.T.g;rw[z,e] at b3;cases b3;rw[hd] at b6;cases b6
  ·rw[z,hP] at b3;cases b3;cases b4
 exact Cr KX G.T.g G.T.b G.T.builtins G.T.nolimit hg hobj hints (ZaS hlen hn2) hr hP hC hBI (hPK w) hF hb λH hT hS=>hsp w H a ns hlen hT hS
def aQ(K:Frag)(PT:Addr):Frag:=K.filter λp=>!(p.1==PT)
theorem jk(PT:Addr):∀ K:Frag,(aQ K PT).lookup PT=none
 |[]=>rfl
 |(b,o)::K=>by
  unfold aQ;rw[Zbj];by_cases h:b=PT
  ·rw[Zax (by simp[h])];exact jk PT K
  ·rw[Zat (by simp[h])]
   have:=jk PT K;unfold aQ at this;simp only[List.lookup,show(PT==b)=false from beq_eq_false_iff_ne.mpr (Zbm h)];exact this
theorem lY{PT b:Addr}{o:Obj}:∀ {K:Frag},(aQ K PT).lookup b=some o->K.lookup b=some o
 |[],h=>h
 |(c,u)::K,h=>by
  unfold aQ at h;rw[Zbj] at h;by_cases hc:c=PT
  ·rw[Zax (by simp[hc])] at h
   have nb:b≠PT:=λz=>by subst z;have:=jk b K;unfold aQ at this;rw[this] at h;cases h
   simp only[List.lookup,show(b==c)=false from beq_eq_false_iff_ne.mpr (by rw[hc];exact nb)]
   exact lY h
  ·rw[Zat (by simp[hc])] at h
   simp only[List.lookup] at h ⊢;split at h
   ·exact h
   ·exact lY h
theorem yV{K:Frag}{PT:Addr}{h:Heap}(X:K.In h):(aQ K PT).In h:=λb o e=>X b o (lY e)
section
variable{K:Frag}{PT:Addr}
theorem jm{b:Addr}(hb:b≠PT):∀ K:Frag,(aQ K PT).lookup b=K.lookup b
 |[]=>rfl
 |(c,u)::K=>by
  unfold aQ;rw[Zbj];have ih:=jm hb K;unfold aQ at ih;by_cases hc:c=PT
  ·rw[Zax (by simp[hc]),ih]
   simp only[List.lookup,show(b==c)=false from beq_eq_false_iff_ne.mpr (by rw[hc];exact hb)]
  ·rw[Zat (by simp[hc])]
   simp only[List.lookup,ih]
theorem iM{b:Addr}{oc:Value}{od:Option Addr}{fd:FuncData}{sl:Array (Option Value)}(tK:K.lookup PT=some (tabObj #[]))(h:K.lookup b=some ⟨oc,od,.func fd,sl⟩):(aQ K PT).lookup b=some ⟨oc,od,.func fd,sl⟩:=by
 rw[jm (λz=>by rw[z,tK] at h;cases h) K];exact h
theorem dD{a:Addr}{x:Str}{r:Option Value}(tK:K.lookup PT=some (tabObj #[]))(h:nsIn K a x=some r):nsIn (aQ K PT) a x=some r:=by
 unfold nsIn at h ⊢;rw[jm (λz=>by rw[z,tK] at h;cases h) K];exact h
theorem dh{c:Value}{x:Str}(tK:K.lookup PT=some (tabObj #[]))(h:codeIn K c x=true):codeIn (aQ K PT) c x=true:=by
 unfold codeIn at h ⊢;cases c with
 |ref c=>
  have hc:c≠PT:=λz=>by
   rw[z] at h;simp only[tK] at h;cases h
  simp only[jm hc K];exact h
 |_=>cases h
theorem di{b:Addr}{oc:Value}{od:Option Addr}{fd:FuncData}{sl:Array (Option Value)}(h:(aQ K PT).lookup b=some ⟨oc,od,.func fd,sl⟩):keepIn (aQ K PT) (.ref b)=true:=by
 unfold keepIn;simp only[h]
end
def xm(qual:Str)(scope:Scope)(L f:Addr)(cd:Value)(cl:List (Str×Addr)):Env:=newEnv scope L mainGlobals cl (qual++".<locals>.") (some f) cd none builtinsNs
def cxL(P:Program)(w:World)(K:Frag)(mg:Str->Option Value)(base:Heap)(N:List Str)(qual:Str)(scope:Scope)(f:Addr)(cd:Value)(cl:List (Str×Addr))(A:Around)(outer:List Env)(s:Shared)(H:Hp):Cx where
 prog:=P
 w:=w
 K:=K
 mg:=mg
 base:=base
 A:=A.deeper (xm qual scope s.heap.objs.size f cd cl)
 N:=N
 s₀:=s
 H₀:=H
 env:=xm qual scope s.heap.objs.size f cd cl
 outer:=outer
 stack:=xm qual scope s.heap.objs.size f cd cl::outer
 ex:=[]
 calm:=true
 fn:=λ_=>false
 pn:=[]
 xe:=λe s'=>wpAny (model P w) (A.deeper (xm qual scope s.heap.objs.size f cd cl)) (leaving (xm qual scope s.heap.objs.size f cd cl) e) (λ_ s''=>CX0 outer H s E0 e s'') (λe' s''=>CX0 outer H s E0 e' s'') s'
section
variable{X:Cx}{pins:List (Addr×Obj)}{O:St}{H:Hp}{s:Shared}{N:List Str}{p qual:Str}{scope:Scope}{fr:List (Option Nat)}{f:Addr}{cd:Value}{cl:List (Str×Addr)}{u:Value}{v:V}
theorem Im{h':Heap}{tk:Nat}(I:Inv X pins O H s)(hd:X.A.handled=none)(ok:jJ X.N N X.env.scope scope fr=true)(hp:scope.names.lookup p=some .local)(hN:N[0]?=some p)(hf:fr[0]?=some none)
  (c1:∀ x c,cl.lookup x=some c->X.env.cells.lookup x=some c)(c2:∀ x,(x,NameKind.free)∈scope.names->∃ c,cl.lookup x=some c)
  (hns:h'.Ns s.heap.objs.size (λx=>[(p,u)].reverse.lookup x))(hsb:Heap.SameBut s.heap.objs.size (s.heap.push { cls:=.type "frame",data:=.dict #[] }) h')(r:RelV v u) :
  Inv (cxL X.prog X.w X.K X.mg X.base N qual scope f cd cl X.A X.stack s H) [] ((frσ fr O).set 0 (some v)) H { s with heap:=h',toks:=tk }:=by
 obtain⟨o1,o2,o3,o4,o5,o6⟩:=gZ ok;have e0:=I.env0;have old:∀ b o,s.heap.get? b=some o->h'.get? b=some o:=λb o e=>hsb.extBut b o (ZaB (Zas e)) (Zae _ e);have noA:∀ b:Addr,b ∉ (cxL X.prog X.w X.K X.mg X.base N qual scope f cd cl X.A X.stack s H).ex:=λb z=>absurd (show b∈([]:List Addr) from z) (by simp)
 refine⟨⟨e0.mod,o2,rfl,rfl,Zal _,λy z c a b=>I.ok.inj y z c (c1 _ _ a) (c1 _ _ b),λy hy=>?_,λy c z _=>(nomatch z),λ_=>hd,Around.frames_deeper e0.frames,.inr ⟨rfl,rfl⟩,λb z=>absurd z (noA b),e0.bs,e0.bsz,λb _ _=>noA b,λb z=>absurd z (noA b),e0.lJ,e0.frf⟩,
  rfl,e0.bare,Un.kept old,⟨_,hns,λj x w e1 e2 e3=>?_⟩,λx c e=>?_,e0.hok.fresh (Zal _),λx c e=>I.freeC x c (c1 x c e),λp hp=>absurd (show p∈([]:List (Addr×Obj)) from hp) (by simp),e0.hok.kept old,?_⟩
 ·have hy:scope.names.lookup y=some .cell\/scope.names.lookup y=some .free:=hy;rcases hy with hy|hy
  ·exact absurd rfl (o3 _ (ZaT hy))
  ·exact c2 y (ZaT hy)
 ·cases j with
  |zero=>
   have e1:N[0]?=some x:=e1;rw[hN] at e1;cases e1;have e2:w=v:=by
    cases hz:frσ fr O with
    |nil=>rw[hz] at e2;cases e2
    |cons a l=>rw[hz] at e2;cases e2;rfl
   subst e2;refine⟨u,r,.inl ⟨hp,?_⟩⟩;show List.lookup p [(p,u)]=some u
   simp
  |succ j=>
   rw[Zam (by omega)] at e2
   obtain⟨i,f1,f2⟩:=zB e2;obtain⟨g1,g2⟩:=o6 _ i x f1 e1;have k2:=o5 _ (ZaT g2) rfl;obtain⟨m2,hm2,l2⟩:=I.loc;obtain⟨u',ru,lk⟩:=l2 i x w g1 f2 (.inr k2);refine⟨u',ru,.inr ⟨.inr g2,?_⟩⟩;obtain⟨c,hcl⟩:=c2 x (ZaT g2);refine⟨c,hcl,?_⟩;rcases lk with⟨k,_⟩|⟨_,c',e',z⟩
   ·rcases k2 with k2|k2
    ·rw[show X.env.kindOf x=X.env.scope.names.lookup x from rfl,k2] at k;cases k
    ·rw[show X.env.kindOf x=X.env.scope.names.lookup x from rfl,k2] at k;cases k
   ·rw[c1 x c hcl] at e';cases e';obtain⟨oc,hoc,hd⟩:=z;exact⟨oc,old c oc hoc,hd⟩
 ·obtain⟨v,oc,hoc,hd⟩:=I.cell x c (c1 x c e);exact⟨v,oc,old c oc hoc,hd⟩
 ·rw[List.length_set];unfold frσ;rw[Zab];exact o1
theorem Cu{k:Nat}{c:Addr}{name:Str}{params:Arguments}{body:Expr}{pm ctv:Value}{oc:Obj}{cvs:Array Value}{tq:Tok}{Q:VK}{te:TE}
  (ok:jJ X.N N X.env.scope scope fr=true)(hco:scope.isCoroutine=false)(hgen:scope.isGenerator=false)(hp:scope.names.lookup p=some .local)(hN:N[0]?=some p)(hf0:fr[0]?=some none)
  (c1:∀ x c,cl.lookup x=some c->X.env.cells.lookup x=some c)(c2:∀ x,(x,NameKind.free)∈scope.names->∃ c,cl.lookup x=some c)
  (hr:cz (k+1) X.A)(I:Inv X pins O H s)(hf:s.heap.get? f=some (kla_obj name qual params body scope cl pm c ctv))(hc:s.heap.get? c=some oc)(hd:oc.data=.fields cvs)(hq:cvs[1]?=some (.str qual tq))
  (hb:bindArgs (kla_fn name qual params body scope cl pm (.ref c) ctv) ⟨[u],[]⟩=pure [(p,u)])(r:RelV v u)
  (hbody:∀ (A:Around) (outer:List Env) (s:Shared) (H:Hp),cz k (A.deeper (xm qual scope s.heap.objs.size f (.ref c) cl))->PE (cxL X.prog X.w X.K X.mg X.base N qual scope f (.ref c) cl A outer s H) body te)
  (h:te ((frσ fr O).set 0 (some v)) H Q):wpAny (model X.prog X.w) X.A (call (.ref f) [u]) (EP X pins O Q) X.xe s:=by
 obtain⟨o1,o2,o3,o4,o5,o6⟩:=gZ ok;refine wpAny_call (codeAny_mono (R:=λr s'=>CR CX0 X.stack X.prog X.w H s Q E0 r s') ?_ λr s' hq=>?_)
 ·refine kla_callFunE (Zbf (by omega) hr.dp) hf rfl hco hgen rfl ⟨c,oc,cvs,tq,rfl,hc,hd,hq⟩ ?_
  rw[hb];refine Zav ?_;refine wpAny_newFunctionEnv o3 (by intro y hy;rw[ZaC.mp hy];exact hp) (λh₁ hns₁ hsb₁=>?_) o2
  have J:=Im (qual:=qual) (f:=f) (cd:=.ref c) (tk:=s.toks+[(p,u)].length) I hr.hd ok hp hN hf0 c1 c2 hns₁ hsb₁ r;refine⟨I.nolimit.keeps λb o e=>hsb₁.extBut b o (ZaB (Zas e)) (Zae _ e),?_⟩;show codeAny (model X.prog X.w) X.A (.expr body (xm qual scope s.heap.objs.size f (.ref c) cl)) _ _
  refine kla_codeExpr (ZaO (hbody X.A X.stack s H (hr.deeper _) [] _ _ H _ J h) (λv s' hs=>?_) λe s' hs=>hs);obtain⟨y,H',J',rv,q⟩:=hs;exact⟨y,H',J'.os,J'.bare,J'.base,J'.hok,rv,q⟩
 ·cases r with
  |error e=>exact Jx pins O H s e s' I hq
  |ok fl=>
   cases fl with
   |ret u=>exact I.after hq
   |next=>exact False.elim hq
   |brk=>exact False.elim hq
   |cont=>exact False.elim hq
end
section
variable{lt:Nat->Nat->Bool}
theorem iQ{α β:Type}{f:α->KasT β}:∀ (t:KasT α),eZ lt (t.bind f)=eZ lt (f (eZ lt t))
 |.ret _=>rfl
 |.ask i j k=>iQ (k (lt i j))
theorem vm(p:Array Nat)(i j:Nat):(kas_rev p i j).Perm p:=mirror_perm _ _ _ _
theorem p6:∀ f (p:Array Nat) m q,(eZ lt (kas_desc f p m q)).1.Perm p
 |0,p,_,_=>ZbN p
 |f+1,p,m,q=>by
  show(eZ lt (if lt (p.getD m 0) (p.getD (m-1) 0)=true then(if q>0 then kas_desc f (kas_rev p (m-(q+1)) m) (m+1) 0 else kas_desc f p (m+1) 0) else .ask (p.getD (m-1) 0) (p.getD m 0) λd=>if d=true then .ret (p,m,q) else kas_desc f p (m+1) (q+1))).1.Perm p
  split
  ·split
   ·exact(p6 f _ _ _).trans (vm _ _ _)
   ·exact p6 f _ _ _
  ·show(eZ lt (if lt (p.getD (m-1) 0) (p.getD m 0)=true then .ret (p,m,q) else kas_desc f p (m+1) (q+1))).1.Perm p
   split
   ·exact ZbN p
   ·exact p6 f _ _ _
theorem xn(p:Array Nat)(a b:Nat):(eZ lt (kas_tail3 a b p)).2.Perm p:=by
 unfold kas_tail3;rw[iQ];exact vm _ _ _
theorem ph(p:Array Nat)(a b:Nat):(eZ lt (kas_descPart a b p)).2.Perm p:=by
 unfold kas_descPart;rw[iQ];have h:=p6 (lt:=lt) (b-(a+1)) p (a+1) 0;split
 ·exact(xn _ _ _).trans ((vm _ _ _).trans h)
 ·exact(xn _ _ _).trans h
theorem xq(p:Array Nat)(b:Nat):(eZ lt (kas_count b p)).2.Perm p:=by
 unfold kas_count;rw[iQ];split
 ·exact ZbN p
 ·split
  ·unfold eZ;dsimp only;split
   ·exact ZbN p
   ·exact(ph _ _ _).trans (vm _ _ _)
  ·exact ph _ _ _
theorem FN:∀ f (p:Array Nat) k,(eZ lt (kas_bin f p k)).Perm p
 |0,p,_=>ZbN p
 |f+1,p,k=>by
  show(eZ lt ((kas_place p k k 0 k).bind λl=>kas_bin f (bubble p k (k-l)) (k+1))).Perm p
  rw[iQ];exact(FN f _ _).trans (bubble_perm _ _ _)
theorem Io(n:Nat):(eZ lt (kas_sort n)).toList.Perm (List.range n):=by
 have h:(eZ lt (kas_sort n)).Perm (List.toArray (List.range n)):=by
  unfold kas_sort;rw[iQ];split
  ·exact(FN _ _ _).trans (xq _ _)
  ·exact xq _ _
 exact Zce.mp h
end
def gQ(ns:List Int):List Nat:=if ns.length<2 then List.range ns.length else(eZ (λi j=>decide (ns.getD i 0<ns.getD j 0)) (kas_sort ns.length)).toList
theorem oM(ns:List Int):(gQ ns).Perm (List.range ns.length):=by
 unfold gQ;split
 ·exact List.Perm.refl _
 ·exact Io _
theorem vo{ns:List Int}:∀ i∈gQ ns,i<ns.length:=λi hi=>ZaI.mp ((oM ns).mem_iff.mp hi)
section
variable{X:Cx}{pins:List (Addr×Obj)}{O:St}{H:Hp}{s:Shared}{rk:List V->Hp->VK->Prop}{kS a:Addr}
theorem Cv(M:t8 X pins kS a){vs:List Value}{xs:List V}{kA:Array Value}{e e1:Nat}{ns:List Int}(I:Inv X pins O H s)(h1:s.heap.get? kS=some (seqObj "list" kA e))(h2:s.heap.get? a=some (seqObj "list" #[] e1))(n1:H kS=none)(n2:H a=none)
  (rv:Vals xs vs)(vk:Vals (ns.map V.int) kA.toList)(hl:ns.length=vs.length)(h64:vs.length<64)
  {P:PySem.Fin->Shared->Prop}{E:Value->Shared->Prop}(h:∀ s',Inv X pins O (upd H a (.lst ((gQ ns).map λj=>xs.getD j (.bl false)))) s'->P (.done (.ret .none)) s') :
  wpAny (model X.prog X.w) X.A.in1.in1 (ksk_end a false vs.toArray e1 (.ref kS) kA) P E s:=by
 have hz:vs.length<sizeLine:=Zau h64 (by decide)
 have ia:=MP.jT vk;have kl:kA.toList.length=vs.length:=by rw[<-vk.length,Zab];exact hl
 have ks2:kA.size=vs.length:=by rw[<-kl];simp
 have ar:kA=kA.toList.toArray:=by simp
 have ol:(gQ ns).length=vs.length:=by rw[(oM ns).length_eq,ZaE,hl]
 have tail:∀ st:SortSt,failedOf st=none->(arrOf st).map (·.2)=List.toArray ((gQ ns).map λi=>vs.getD i .none)->wpAny (model X.prog X.w) X.A.in1.in1 (ksk_tail a false e1 (.ref kS) st) P E s:=λst hf hm=>by
  unfold ksk_tail;dsimp only;have s1:=Zbn s.heap kS (Obj.mapSeq λ_=>(#[]:Array Value));have na1:(s.heap.update kS (Obj.mapSeq λ_=>(#[]:Array Value))).get? a=some (seqObj "list" #[] e1):=(s1.2 a M.ne.symm).trans h2;refine Zai (listUpdate_at h1 rfl ?_ (by rw[ks2];exact ZaA hz) (ZaW _))
  refine Zai (wpAny_letGo ?_);refine Zai (seqEpoch_at na1 rfl ?_);rw[hm,hf];refine Zai (listUpdate_at na1 rfl ?_ (ZaW _) ?_)
  ·simp only[bne_self_eq_false,Zby,Zbb];refine Zav (h _ ?_);obtain⟨c2,hc2⟩:∃ c2,((s.heap.update kS (Obj.mapSeq λ_=>(#[]:Array Value))).update a (Obj.mapSeq λ_=>List.toArray ((gQ ns).map λi=>vs.getD i .none))).get? a=some (seqObj "list" (List.toArray ((gQ ns).map λi=>vs.getD i .none)) c2):=⟨_,get?_update_seq na1 λ_=>_⟩;have I1:Inv X pins O H { s with heap:=s.heap.update kS (Obj.mapSeq λ_=>(#[]:Array Value)),toks:=s.toks }:=I.mD (ch:=[kS]) (λb o hb q=>by rw[s1.2 b (λz=>hb (by simp[z]))];exact q) λb hb=>by rw[ZaC.mp hb];exact M.k H n1
   have s2:=Zbn (s.heap.update kS (Obj.mapSeq λ_=>(#[]:Array Value))) a (Obj.mapSeq λ_=>List.toArray ((gQ ns).map λi=>vs.getD i .none));refine I1.adopt (t':=s.toks) (M.a H n2) (λb o hb q=>by rw[s2.2 b hb];exact q) ⟨?_,(gQ ns).map λi=>vs.getD i .none,c2,wZ λj hj=>?_,hc2⟩
   ·rw[Zab,ol];exact ZaA hz
   ·have hj:=vo j hj;have hx:j<xs.length:=by rw[rv.length];omega
    obtain⟨u,f1,f2⟩:=rv.get (Zaa hx);rw[Zag (l:=xs),Zaa hx,Zag (l:=vs),f1];exact f2
  ·show(List.toArray ((gQ ns).map λi=>vs.getD i .none)).size<=_
   rw[List.size_toArray,Zab,ol];exact Nat.le_succ_of_le (ZaA hz)
 unfold ksk_end;dsimp only;simp only[Zby,Zbb];by_cases h2:vs.toArray.size<2
 ·rw[Zat h2,Zat h2];refine Zai (Zav ?_);rw[StateT.run_pure];refine Zai (Zav ?_);dsimp only;refine tail _ rfl ?_;show(kA.zip vs.toArray).map (·.2)=_
  rw[List.size_toArray] at h2;have eo:gQ ns=List.range vs.length:=by unfold gQ;rw[Zat (by omega),hl]
  apply Array.toList_inj.mp
  rw[eo,ar,Fy kl h2]
 ·rw[Zax h2,Zax h2];rw[List.size_toArray] at h2;rw[ksk_kind ia (by omega)]
  refine Zai (Zav ?_);have gi:∀ i,i<vs.length->∃ t,kA.toList.getD i .none=.int (ns.getD i 0) t:=λi hi=>by
   have hn:(ns.map V.int)[i]?=some (.int (ns.getD i 0)):=by rw[Zaf,Zag,Zaa (by omega)];rfl
   obtain⟨u,e1,t,e2⟩:=vk.get hn;exact⟨t,by rw[Zag,e1];exact e2⟩
  have run:=kat_run (prog:=X.prog) (w:=X.w) (A:=X.A.in1.in1) (E:=E) (κ:=oneType') (ks:=kA.toList) (vs:=vs) (s:=s)
   (Q:=λst' s'=>s'=s/\failedOf st'=none/\(arrOf st').map (·.2)=List.toArray ((gQ ns).map λi=>vs.getD i .none))
   (G:=λr s'=>r=eZ (λi j=>decide (ns.getD i 0<ns.getD j 0)) (kas_sort vs.length)/\s'=s)
   kl (by omega) h64 (λr st' s' r1 r2 r3 r4=>⟨r4.2,r3,by
    rw[kat_snds kl r2,r4.1];unfold gQ;rw[Zax (by omega),hl]⟩)
   ((HR (n:=vs.length) (by omega)).run (lt:=λi j=>decide (ns.getD i 0<ns.getD j 0)) (λi j C hi hj hc=>by
    obtain⟨t,et⟩:=gi i hi;obtain⟨t2,et2⟩:=gi j hj;show wpAny _ _ (keyLt' oneType' (kA.toList.getD i .none) (kA.toList.getD j .none)) _ _ _
    rw[et,et2];exact kat_lt_int hc) ⟨rfl,rfl⟩)
  rw[ar];refine Zai (ZaO run ?_ λ_ _ e=>e);rintro⟨⟨⟩,st'⟩ s' ⟨rfl,hf,hm⟩;exact tail st' hf hm
def FP(K:Frag)(rk:List V->Hp->VK->Prop)(x:V)(H:Hp)(Q:VK):Prop:=∃ (p:Addr) (xs:List V),x=.ref p/\SqL K H p xs/\xs.length<64 /\
 qX rk xs [] H λks H'=>∃ ns:List Int,ks=ns.map V.int/\∀ l,H' l=none->Q (.ref l) (upd H' l (.lst ((gQ ns).map λj=>xs.getD j (.bl false))))
theorem vp{q:Addr}(hk:pZ X.inK pins O (.ref q) rk){x:V}{u:Value}{Q:VK}(I:Inv X pins O H s)(rx:RelV x u)(h:FP X.K rk x H Q) :
  wpAny (model X.prog X.w) X.A (call (.builtin "sorted") [u] [(Str.ofString "key",.ref q)]) (EP X pins O Q) X.xe s:=by
 obtain⟨p,xs,rfl,hq,h64,h⟩:=h;cases rx;refine vh hk I hq (Zau h64 (by decide)) h λ{_ _} M {_ _ _ _ _ _ _} I' g1 g2 n1 n2 rv vk hl hz hr {_ _} done=>?_
 obtain⟨ns,rfl,hQ⟩:=hr;exact Cv M I' g1 g2 n1 n2 rv vk (by rw[Zab] at hl;exact hl) (by rw[<-rv.length];exact h64) λs2 I2=>done _ s2 I2 (hQ _ n2)
end
def yW(fr:List (Option Nat))(O:St)(te:TE)(c:Addr)(oc:Obj):List V->Hp->VK->Prop:=λxs H Q=>∃ x,xs=[x]/\H c=some (.frz oc (.own 0))/\te ((frσ fr O).set 0 (some x)) H Q
def uc(K:Frag)(P:Addr)(lpos:Pos)(q:Str)(fr:List (Option Nat))(te:TE)(ta:TA):TE:=λO H Q=>ta O H λvs H1=>H1 P=some (.tab lpos q) /\
 ∀ (c:Addr) (oc:Obj) (H2:Hp),H2 c=some (.frz oc (.own 0))->(∀ b o,H1 b=some o->H2 b=some o)->∃ x,vs=[x]/\FP K (yW fr O te c oc) x H2 Q
section
variable{X:Cx}{k:Nat}{N:List Str}{fr:List (Option Nat)}{P cc:Addr}{lpos p pos kp:Pos}{q y:Str}{params:Arguments}{body l:Expr}{scope:Scope}{te:TE}{ta:TA}
theorem xu(ok:jJ X.N N X.env.scope scope fr=true)(hco:scope.isCoroutine=false)(hgen:scope.isGenerator=false)(hy:scope.names.lookup y=some .local)(hN:N[0]?=some y)(hf0:fr[0]?=some none)
  (hr:cz (k+3) X.A)(hg:Gl X "sorted")(hm:X.mg "sorted"=none)(ha:PA X [l] ta)
  (hq:q=X.env.qual++"<lambda>")(hdef:defaultsOf params X.env=([],[]))(hcode:X.env.code=.ref cc)(C:CodeHd X.base cc P)(hB:X.base.BuiltinsAt X.mg P)
  (hb:∀ (cl:List (Str×Addr)) (pm ctv:Value) (c:Addr) (u:Value),bindArgs (kla_fn "<lambda>" q params body scope cl pm (.ref c) ctv) ⟨[u],[]⟩=pure [(y,u)])
  (hbody:∀ (cl:List (Str×Addr)) (f c:Addr) (A:Around) (outer:List Env) (s:Shared) (H:Hp),cz k (A.deeper (xm q scope s.heap.objs.size f (.ref c) cl))->PE (cxL X.prog X.w X.K X.mg X.base N q scope f (.ref c) cl A outer s H) body te)
  (hs:starEach [l] X.env=[(false,eval l X.env)]:=by rfl) :
  PE X (.Call (.Name "sorted" p) [l] [⟨some "key",.Lambda params body scope lpos,kp⟩] pos) (uc X.K P lpos q fr te ta):=by
 intro pins s O H Q I h;obtain⟨o1,o2,o3,o4,o5,o6⟩:=gZ ok;obtain⟨cl,hcl,c1,c2⟩:=qi (scope:=scope) (env:=X.env) (λx hx hf=>I.ok.has x.1 (o5 x hx hf));have he:eval (.Call (.Name "sorted" p) [l] [⟨some "key",.Lambda params body scope lpos,kp⟩] pos) X.env=(do callWith pos (<-eval (.Name "sorted" p) X.env) [] (backTo pos (starEach [l] X.env)) (backToKw pos (keywordEach [⟨some "key",.Lambda params body scope lpos,kp⟩] X.env))):=rfl
 rw[he];refine Zai (uq I hg hm boot_sorted (callWith_builtin_kwB (by rw[hs];rfl) rfl ?_))
 have hbk:backTo pos (starEach [l] X.env)=[(false,eval l X.env)]:=by rw[hs];rfl
 have ha':=ha pos pins s O H _ I h;rw[hbk] at ha' ⊢;refine evalArgs_kwB rfl (thn ha' ?_);rintro us s1 ⟨vs,H1,I1,r1,hP,q1⟩;refine kws_cons (ZaO (Fz I1 hP hq hdef hcl hcode C hB) (λv s2 hm=>kws_nil ?_) λ_ _ e=>e);obtain⟨f,c,oc,cvs,t,ctv,H2,rfl,I2,hf,fp,hc,hd,hv,same⟩:=hm;obtain⟨x,rfl,qq⟩:=q1 c oc H2 hc same;have I3:Inv X (pins++[(f,kla_obj "<lambda>" q params body scope cl ((X.mg "__name__").getD .none) c ctv)]) O H2 s2:=I2.pJ λp hp=>(ZaG.mp hp).elim (λz=>I2.pin p (Zan _ z)) λz=>by
  rw[ZaC.mp z];exact⟨hf,fp.1,fp.2.1,fp.2.2.1,λv z=>by cases z⟩
 have hk:pZ X.inK (pins++[(f,kla_obj "<lambda>" q params body scope cl ((X.mg "__name__").getD .none) c ctv)]) O (.ref f) (yW fr O te c oc):=λpins2 s H xs us Q hsub J r ⟨x,hx,h1,h2⟩=>by
  subst hx;cases r with
  |cons r rr=>
   cases rr;exact Cu (X:=X.inK) ok hco hgen hy hN hf0 c1 c2 hr.in1.in1 J (J.pin _ (Zan _ (hsub _ (Zan _ (.head _))))).1 (J.hok c _ h1).1 hd hv (hb _ _ _ _ _) r (λA outer s H hr=>hbody cl f c A outer s H hr) h2
 cases r1 with
 |cons r rr=>
  cases rr;exact ZaO (vp hk I3 r qq) (λv s3 ⟨y,H3,I4,ry,z⟩=>⟨y,H3,I4.gG,ry,z⟩) λ_ _ e=>e
end
end L2
namespace L2.MP
open PySem PySem.Spec PySem.W PyProof PyProof.Rows
def jz(g:PV->Option (Res PV)):List PV->Option (List Int)
 |[]=>some []
 |p::l=>match g p with
  |some (.ok (.int n))=>(jz g l).map (n::·)
  |_=>none
def nG(fr:List (Option Nat))(fe:Fn PV)(f:Fn (List PV)):Fn PV:=λZ=>bnd (f Z) λl=>match jz (λp=>fe ((frR fr Z).set 0 (some (.sh p)))) l with
 |some ns=>if l.length<64 then some (.ok (.lst ((gQ ns).map λj=>l.getD j .non))) else none
 |none=>none
theorem ud{g:PV->Option (Res PV)}:∀ {l:List PV}{ns:List Int},jz g l=some ns->ns.length=l.length
 |[],ns,e=>by cases e;rfl
 |p::l,ns,e=>by
  unfold jz at e;split at e
  case h_2=>cases e
  cases h:jz g l with
  |none=>rw[h] at e;cases e
  |some ms=>rw[h] at e;cases e;rw[ZaJ,ZaJ,ud h]
section
variable{K:Frag}{C:Cg}{te ta:TE}{fe:Fn PV}{c:Addr}{oc:Obj}{fr:List (Option Nat)}{O:St}{Z:Rho}
theorem qZ(h:MJ K C (aF K) te fe){R:List V->Hp->Prop}:∀ {l:List PV}{xs ks:List V}{ns:List Int}{F H:Hp},H c=some (.frz oc (.own 0))->RE K C.toCf F H (frσ fr O) (frR fr Z)->aZ K F xs l->jz (λp=>fe ((frR fr Z).set 0 (some (.sh p)))) l=some ns ->
  (∀ F' H',Up F H F' H'->R (ks++ns.map V.int) H')->qX (yW fr O te c oc) xs ks H R
 |[],xs,ks,ns,F,H,hc,Rb,r,e,g=>by
  cases e;cases r.kh;have:=g F H (Up.refl Rb.rb.sub);rw[Zci,ZaX] at this;exact this
 |p::l,xs,ks,ns,F,H,hc,Rb,r,e,g=>by
  obtain⟨v,ys,rfl,r1,r2⟩:=r.fH;unfold jz at e;split at e
  case h_2=>cases e
  rename_i n hq;cases hl:jz (λp=>fe ((frR fr Z).set 0 (some (.sh p)))) l with
  |none=>rw[hl] at e;cases e
  |some ms=>
   rw[hl] at e;cases e;refine⟨v,rfl,hc,h F H _ _ _ (.ok (.int n)) (Rb.set 0 r1) hq λw F' H' u rw'=>?_⟩;have ew:w=.int n:=by cases rw';rfl
   subst ew;refine qZ h (ks:=ks++[.int n]) (u.hh _ _ hc) (Rb.up u) (aZ.up r2 u.ff) hl λF2 H2 u2=>?_;have:=g F2 H2 (u.trans u2);rw[Zaw] at this;rw[Za3];exact this
theorem xx{P:Addr}{lpos:Pos}{q:Str}{f:Fn (List PV)}(h:MJ K C (aF K) te fe)(hT:C.H0 P=some (.tab lpos q))(hio:¬C.io P)(ha:MJ K C (aV K) ta f) :
  MO K C (uc K P lpos q fr te (dw ta lr)) (nG fr fe f):=by
 intro F H O Z Q r R e Pq;refine ha.run R e Pq λl v F1 H1 hk u a=>?_;refine⟨(R.up u).rb.keep P _ hT hio,λc oc H2 hc same=>?_⟩;split at hk
 case h_2=>cases hk
 rename_i ns hns;split at hk
 case isFalse=>cases hk
 rename_i h64;cases hk;obtain⟨b,xs,rfl,h1,r1⟩:=a;have s2:aB F1 H2:=λb o z=>same b o (u.fh b o z);have u12:Up F1 H1 F1 H2:=⟨aB.refl _,same,λ_ _ z=>.inl z,s2⟩;have tl:=ud hns;refine⟨.ref b,rfl,b,xs,rfl,u12.hh.seq h1,by rw[r1.1];exact h64,qZ h hc (((R.up u).up u12).block fr).1 r1 hns λF' H' u'=>?_⟩
 rw[List.nil_append];have uu:=(u.trans u12).trans u';refine⟨ns,rfl,λa ha=>?_⟩;refine Pq a F' _ (uu.trans (Up.rZ u'.fh ha)) (uu.hh.free ha) (u'.fh.free ha) ⟨_,aq,by simp,λj x p e1 e2=>?_⟩
 rw[Zaf] at e1 e2;cases ej:(gQ ns)[j]? with
 |none=>rw[ej] at e1;cases e1
 |some i=>
  rw[ej] at e1 e2;cases e1;cases e2;have hi:=vo i (Zao ej);have hx:i<xs.length:=by rw[r1.1];omega
  have hl:i<l.length:=by omega
  show Rep K F' (xs.getD i (V.bl false)) (l.getD i PV.non)
  rw[Zag,Zaa hx,Zag,Zaa hl];exact Rep.up (r1.2 i _ _ (Zaa hx) (Zaa hl)) u'.ff
end
theorem xF{P:Program}{w:World}{K:Frag}{mg:Str->Option Value}{base:Heap}{N:List Str}{q:Str}{scope:Scope}{f:Addr}{cd:Value}{cl:List (Str×Addr)}{A:Around}{outer:List Env}{s:Shared}{H:Hp}:OpR (cxL P w K mg base N q scope f cd cl A outer s H) (binaryOp .Add) (DX K):=d7
end L2.MP
namespace L2
open PySem PySem.Spec PySem.W PyProof PyProof.Rows
theorem Fun.okC{P:Program}{w:World}{K:Frag}{mg:Str->Option Value}{base:Heap}{x qual:Str}{st:Stmt}{f cc:Addr}{fd:FuncData}{N ps:List Str}{k:Nat}{sp:Sp}(F:Fun K x qual st f fd)(S:bV N ps (aJ st))(len:∀ vs H Q E,sp vs H Q E->vs.length=ps.length)
  (hcc:∀ (oc:Value) (od:Option Addr) (fd:FuncData) (osl:Array (Option Value)),K.lookup f=some ⟨oc,od,.func fd,osl⟩->fd.code=.ref cc)
  (hbody:∀ (A:Around) (outer:List Env) (s:Shared) (H:Hp) (vs:List V) (Q:VK) (E:XK),cz k (A.deeper (envOfC qual (aJ st) s.heap.objs.size f (.ref cc)))->sp vs H Q E ->
   ∃ t,PSs (vU CX0 P w K mg base N qual (aJ st) f (.ref cc) A outer s H E).nox (bF st) t/\t { nx:=λ_ H'=>Q .non H',rt:=Q } (start N vs) H):qe P w K mg base CX0 (k+1) f fd ps sp:=by
 obtain⟨oc,od,kV,doc,pm,an,cdv,ct,osl,rfl,lk,hcd⟩:=F.ex;have z:cdv=.ref cc:=hcc oc od _ osl lk;subst z;refine Ju lk hcd S len λA outer s H vs Q E hr hsp=>?_;obtain⟨t,h,q⟩:=hbody A outer s H vs Q E hr hsp;exact⟨t,h.nox,q⟩
end L2
namespace MM
open PySem PySem.Spec PyProof.Rows L2 L2.MP
def Tv{α:Type}(x:Option (Res α))(Q:α->Prop):Prop:=∃ a,x=some (.ok a)/\Q a
def Out.calm:Out->Prop
 |.ex _=>False
 |_=>True
def To(x:Option Out)(Q:Out->Prop):Prop:=∃ o,x=some o/\Out.calm o/\Q o
def yX(k:Rho->Prop)(Q:Out->Prop):Out->Prop
 |.nx Z=>k Z
 |o=>Q o
section
variable{α β γ:Type}{Q:α->Prop}{QS:Out->Prop}{k:β->Prop}{f:Fn PV}{g h:Fn PV}{Z:Rho}{a:β}{z p:PV}{i:Nat}{s t:Sn}
theorem onNx_nx{k:Rho->Prop}:yX k QS (.nx Z)=k Z:=rfl
theorem onNx_rt{k:Rho->Prop}:yX k QS (.rt p)=QS (.rt p):=rfl
theorem onNx_ro{k:Rho->Prop}:yX k QS (.ro p)=QS (.ro p):=rfl
theorem onNx_rd{k:Rho->Prop}:yX k QS (.rd p)=QS (.rd p):=rfl
theorem onNx_bk{k:Rho->Prop}:yX k QS (.bk Z)=QS (.bk Z):=rfl
theorem onNx_ct{k:Rho->Prop}:yX k QS (.ct Z)=QS (.ct Z):=rfl
theorem tv_some{a:α}:Tv (some (.ok a)) Q=Q a:=by
 refine propext ⟨?_,λq=>⟨a,rfl,q⟩⟩;rintro⟨r',e,q⟩;cases e;exact q
theorem to_nx:To (some (.nx Z)) QS=QS (.nx Z):=propext ⟨λ⟨_,e,_,q⟩=>by cases e;exact q,λq=>⟨_,rfl,trivial,q⟩⟩
theorem to_rt:To (some (.rt p)) QS=QS (.rt p):=propext ⟨λ⟨_,e,_,q⟩=>by cases e;exact q,λq=>⟨_,rfl,trivial,q⟩⟩
theorem to_ro:To (some (.ro p)) QS=QS (.ro p):=propext ⟨λ⟨_,e,_,q⟩=>by cases e;exact q,λq=>⟨_,rfl,trivial,q⟩⟩
theorem to_rd:To (some (.rd p)) QS=QS (.rd p):=propext ⟨λ⟨_,e,_,q⟩=>by cases e;exact q,λq=>⟨_,rfl,trivial,q⟩⟩
theorem to_bk:To (some (.bk Z)) QS=QS (.bk Z):=propext ⟨λ⟨_,e,_,q⟩=>by cases e;exact q,λq=>⟨_,rfl,trivial,q⟩⟩
theorem to_ct:To (some (.ct Z)) QS=QS (.ct Z):=propext ⟨λ⟨_,e,_,q⟩=>by cases e;exact q,λq=>⟨_,rfl,trivial,q⟩⟩
theorem tv_bnd{x:Option (Res β)}{kk:β->Option (Res α)}:Tv (bnd x kk) Q=Tv x (λb=>Tv (kk b) Q):=by
 refine propext ⟨?_,?_⟩
 ·rintro⟨r,e,q⟩;rcases bj e with⟨z,e1,e2⟩|⟨b,e1,e2⟩
  ·cases e2
  ·exact⟨_,e1,r,e2,q⟩
 ·rintro⟨b,e,q⟩;subst e;exact q
theorem to_bnd{x:Option (Res β)}{kk:β->Option Out}:To (dB x kk) QS=Tv x (λb=>To (kk b) QS):=by
 refine propext ⟨?_,?_⟩
 ·rintro⟨r,e,c,q⟩;rcases b8 e with⟨z,e1,rfl⟩|⟨b,e1,e2⟩
  ·exact c.elim
  ·exact⟨_,e1,r,e2,c,q⟩
 ·rintro⟨b,e,q⟩;subst e;exact q
theorem to_seq:To (bA s t Z) QS=To (s Z) (yX (λZ'=>To (t Z') QS) QS):=by
 refine propext ⟨?_,?_⟩
 ·rintro⟨r,e,c,q⟩;unfold bA at e;split at e
  ·rename_i Z' h;exact⟨_,h,trivial,r,e,c,q⟩
  ·rename_i x hx;refine⟨r,e,c,?_⟩;cases r with
   |nx Z'=>exact absurd e (hx Z')
   |_=>exact q
 ·rintro⟨o,e,c,q⟩;unfold bA To;rw[e];cases o with
  |nx Z'=>exact q
  |_=>exact⟨_,rfl,c,q⟩
theorem jo:Tv (none:Option (Res α)) Q=False:=propext ⟨λ⟨_,e,_⟩=>(nomatch e),λh=>h.elim⟩
theorem z9:To none QS=False:=propext ⟨λ⟨_,e,_⟩=>(nomatch e),λh=>h.elim⟩
theorem tv_m2{op:β->γ->Option (Res α)}{f:Fn β}{g:Fn γ}:Tv (m2 op f g Z) Q=Tv (f Z) (λa=>Tv (g Z) (λb=>Tv (op a b) Q)):=by
 unfold m2;simp only[tv_bnd]
theorem tv_m1{op:β->Option (Res α)}{f:Fn β}:Tv (m1 op f Z) Q=Tv (f Z) (λa=>Tv (op a) Q):=by unfold m1;rw[tv_bnd]
theorem tv_var{Q:PV->Prop}:Tv (mV i Z) Q=∃ p,Z[i]?=some (some (.sh p))/\Q p:=by
 refine propext ⟨?_,λ⟨p,e,q⟩=>⟨_,by unfold mV;rw[e],q⟩⟩
 rintro⟨r,e,q⟩;unfold mV at e;split at e
 ·rename_i p hp;cases e;exact⟨_,hp,q⟩
 ·cases e
theorem tv_lend{Q:PV->Prop}:Tv (mVL i Z) Q=∃ s,Z[i]?=some (some s)/\(match s with|.sh p=>Q p|.ow p=>Q p|.dp _=>False):=by
 refine propext ⟨?_,?_⟩
 ·rintro⟨r,e,q⟩;unfold mVL at e;split at e
  ·rename_i p hp;cases e;exact⟨_,hp,q⟩
  ·rename_i p hp;cases e;exact⟨_,hp,q⟩
  ·cases e
 ·rintro⟨s,e,q⟩;cases s with
  |sh p=>exact⟨_,by unfold mVL;rw[e],q⟩
  |ow p=>exact⟨_,by unfold mVL;rw[e],q⟩
  |dp p=>exact q.elim
theorem tv_c{Q:PV->Prop}:Tv (mC p Z) Q=Q p:=tv_some
theorem tv_view{Q:List PV->Prop}:Tv (wD f Z) Q=Tv (f Z) (λa=>Tv (oZ a) Q):=tv_bnd
theorem tv_viewN{Q:List PV->Prop}:Tv (iB i Z) Q=Tv (mVL i Z) (λa=>Tv (oZ a) Q):=tv_bnd
theorem tv_asLst{l:List PV}{Q:List PV->Prop}:Tv (oZ (.lst l)) Q=Q l:=tv_some
theorem tv_nil{Q:List PV->Prop}:Tv (bW Z) Q=Q []:=tv_some
theorem tv_cons{g:Fn (List PV)}{Q:List PV->Prop}:Tv (aN f g Z) Q=Tv (f Z) (λa=>Tv (g Z) (λl=>Q (a::l))):=by
 unfold aN;simp only[tv_bnd,tv_some]
theorem bM{c:Prop}[Decidable c]{a:α}:Tv (if c then some (.ok a) else none) Q=(c/\Q a):=by
 by_cases h:c
 ·rw[Zat h,tv_some];simp[h]
 ·rw[Zax h,jo];simp[h]
theorem tv_tup{f:Fn (List PV)}{Q:PV->Prop}:Tv (Bs f Z) Q=Tv (f Z) (λl=>l.length<=sizeLine/\Q (.tup l)):=by
 unfold Bs;simp only[tv_bnd,bM]
theorem tv_lst{f:Fn (List PV)}{Q:PV->Prop}:Tv (qt f Z) Q=Tv (f Z) (λl=>l.length<=sizeLine/\Q (.lst l)):=by
 unfold qt;simp only[tv_bnd,bM]
theorem tv_call{m:List PV->Option (Res PV)}{f:Fn (List PV)}{Q:PV->Prop}:Tv (dz m f Z) Q=Tv (f Z) (λl=>Tv (m l) Q):=tv_bnd
theorem tv_ite{c:Prop}[Decidable c]{x y:Option (Res α)}:Tv (if c then x else y) Q=if c then Tv x Q else Tv y Q:=by split<;>rfl
theorem to_ite{c:Prop}[Decidable c]{x y:Option Out}:To (if c then x else y) QS=if c then To x QS else To y QS:=by split<;>rfl
theorem tv_mAnd{c d:Fn Bool}{Q:Bool->Prop}:Tv (Hd c d Z) Q=Tv (c Z) (λb=>if b=true then Tv (d Z) Q else Q false):=by
 unfold Hd;simp only[tv_bnd,tv_ite,tv_some]
theorem tv_mOr{c d:Fn Bool}{Q:Bool->Prop}:Tv (mOr c d Z) Q=Tv (c Z) (λb=>if b=true then Q true else Tv (d Z) Q):=by
 unfold mOr;simp only[tv_bnd,tv_ite,tv_some]
theorem tv_and{Q:PV->Prop}:Tv (zG f g Z) Q=Tv (f Z) (λa=>∃ b,a=.bl b/\if b=true then Tv (g Z) Q else Q (.bl false)):=by
 unfold zG;rw[tv_bnd];congr 1;funext a
 refine propext ⟨?_,?_⟩
 ·rintro⟨r,e,q⟩;split at e
  ·exact⟨true,rfl,by rw[Zat rfl];exact⟨r,e,q⟩⟩
  ·cases e;exact⟨false,rfl,by rw[Zax (by decide)];exact q⟩
  ·cases e
 ·rintro⟨b,e,q⟩;subst e;cases b with
  |true=>rw[Zat rfl] at q;exact q
  |false=>rw[Zax (by decide)] at q;exact⟨_,rfl,q⟩
theorem tv_comp{it:Fn (List PV)}{fr:List (Option Nat)}{tg:PV->Rho->Option Rho}{tst:Fn Bool}{el:Fn PV}{Q:PV->Prop}:Tv (jR it fr tg tst el Z) Q=Tv (it Z) (λl=>l.length<=sizeLine/\Tv (d8 tg tst el (frR fr Z) l) (λr=>Q (.lst r))):=by
 unfold jR;rw[tv_bnd];congr 1;funext l
 by_cases hl:l.length<=sizeLine
 ·rw[Zat hl,tv_bnd];simp only[tv_some,hl,true_and]
 ·rw[Zax hl,jo];simp[hl]
theorem to_next:To (jN Z) QS=QS (.nx Z):=to_nx
theorem to_cont:To (DK Z) QS=QS (.ct Z):=to_ct
theorem to_ret:To (pC f Z) QS=Tv (f Z) (λp=>QS (.rt p)):=by unfold pC;simp only[to_bnd,to_rt]
theorem to_retO:To (zH f Z) QS=Tv (f Z) (λp=>QS (.ro p)):=by unfold zH;simp only[to_bnd,to_ro]
theorem to_setO:To (jw i f Z) QS=Tv (f Z) (λp=>QS (.nx (Z.set i (some (.ow p))))):=by unfold jw;simp only[to_bnd,to_nx]
theorem to_asg{tg:PV->Rho->Option Rho}:To (dX f tg Z) QS=Tv (f Z) (λp=>∃ Z',tg p Z=some Z'/\QS (.nx Z')):=by
 unfold dX;rw[to_bnd];congr 1;funext a
 cases e:tg a Z with
 |none=>rw[z9];exact propext ⟨λh=>h.elim,λ⟨_,z,_⟩=>nomatch z⟩
 |some Z'=>rw[to_nx];exact propext ⟨λq=>⟨Z',rfl,q⟩,λ⟨_,z,q⟩=>by cases z;exact q⟩
theorem to_asgN:To (dX f (gN i) Z) QS=Tv (f Z) (λp=>QS (.nx (Z.set i (some (.sh p))))):=by
 rw[to_asg];congr 1;funext a
 exact propext ⟨λ⟨Z',e,q⟩=>by cases e;exact q,λq=>⟨_,rfl,q⟩⟩
theorem to_if{c:Fn Bool}:To (oh c s t Z) QS=Tv (c Z) (λb=>if b=true then To (s Z) QS else To (t Z) QS):=by
 unfold oh;simp only[to_bnd,to_ite]
theorem to_for{it:Fn (List PV)}{tg:PV->Rho->Option Rho}:To (sr it tg s Z) QS=Tv (it Z) (λl=>To (loop tg s l Z) QS):=to_bnd
theorem to_retOw:To (jO i Z) QS=∃ p,Z[i]?=some (some (.ow p))/\QS (.ro p):=by
 refine propext ⟨?_,λ⟨p,e,q⟩=>⟨.ro p,by unfold jO ownAt;rw[e],trivial,q⟩⟩
 rintro⟨r,e,c,q⟩;unfold jO at e;split at e
 ·rename_i p hp;cases e;exact⟨p,aX hp,q⟩
 ·cases e
theorem to_app:To (wj i f Z) QS=∃ l,Z[i]?=some (some (.ow (.lst l)))/\Tv (f Z) (λp=>l.length<sizeLine/\QS (.nx (Z.set i (some (.ow (.lst (l++[p]))))))):=by
 refine propext ⟨?_,?_⟩
 ·rintro⟨r,e,c,q⟩;unfold wj at e;split at e
  ·rename_i l hl;refine⟨l,aX hl,?_⟩;rcases b8 e with⟨z,e1,rfl⟩|⟨p,e1,e2⟩
   ·exact c.elim
   ·split at e2
    ·rename_i hlen;cases e2;exact⟨_,e1,hlen,q⟩
    ·cases e2
  ·cases e
 ·rintro⟨l,e,p,e1,h,q⟩;have eo:ownAt i Z=some (.lst l):=by unfold ownAt;rw[e]
  unfold To wj;rw[eo];exact⟨.nx _,by simp only[e1,dB];exact Zat h,trivial,q⟩
theorem to_frz:To (M6 i s Z) QS=To (s (Bt i Z)) QS:=rfl
theorem iC{c:Int->Int->Bool}{F:Int->Int->PV}{x y:Int}{Q:PV->Prop}:Tv (MP.opI c F (.int x) (.int y)) Q=(c x y=true/\Q (F x y)):=bM
theorem tv_sub{x y:Int}{Q:PV->Prop}:Tv (tO (.int x) (.int y)) Q=Q (.int (x-y)):=by unfold tO;rw[iC];simp[cT]
theorem tv_and'{x y:Int}{Q:PV->Prop}:Tv (zK (.int x) (.int y)) Q=Q (.int (Builtin.bitAnd x y)):=by unfold zK;rw[iC];simp[cT]
theorem tv_or'{x y:Int}{Q:PV->Prop}:Tv (Hk (.int x) (.int y)) Q=Q (.int (Builtin.bitOr x y)):=by unfold Hk;rw[iC];simp[cT]
theorem tv_ge{x y:Int}{Q:PV->Prop}:Tv (Hl (.int x) (.int y)) Q=Q (.bl (decide (y<=x))):=by unfold Hl;rw[iC];simp[cT]
theorem tv_div{x y:Int}{Q:PV->Prop}:Tv (o7 (.int x) (.int y)) Q=((0<y/\y<1073741824)/\Q (.int (x/y))):=by unfold o7;rw[iC];simp[KR]
theorem tv_mod{x y:Int}{Q:PV->Prop}:Tv (gM (.int x) (.int y)) Q=(0<y/\Q (.int (x%y))):=by unfold gM;rw[iC];simp[Mz]
theorem tv_pow{x y:Int}{Q:PV->Prop}:Tv (tQ (.int x) (.int y)) Q=((0<=y/\y<=1000000/\x.natAbs<2^64)/\Q (.int (x^y.toNat))):=by unfold tQ;rw[iC];simp[Ea]
theorem tv_shl{x y:Int}{Q:PV->Prop}:Tv (wy (.int x) (.int y)) Q=((0<=y/\y<=1000000/\x.natAbs<2^64)/\Q (.int (x*2^y.toNat))):=by unfold wy;rw[iC];simp[Ea]
theorem tv_shr{x y:Int}{Q:PV->Prop}:Tv (wz (.int x) (.int y)) Q=(0<=y/\Q (.int (x/2^y.toNat))):=by unfold wz;rw[iC];simp[MF]
theorem tv_add{x y:Int}{Q:PV->Prop}:Tv (fV (.int x) (.int y)) Q=Q (.int (x+y)):=tv_some
theorem tv_addS{x y:Str}{Q:PV->Prop}:Tv (fV (.str x) (.str y)) Q=(x.length+y.length<=sizeLine/\Q (.str (x++y))):=bM
theorem tv_addT{x y:List PV}{Q:PV->Prop}:Tv (fV (.tup x) (.tup y)) Q=((x≠[]/\x.length+y.length<=sizeLine)/\Q (.tup (x++y))):=bM
theorem tv_lt{x y:Int}{Q:PV->Prop}:Tv (Eb (.int x) (.int y)) Q=Q (.bl (decide (x<y))):=tv_some
theorem tv_ltS{x y:Str}{Q:PV->Prop}:Tv (Eb (.str x) (.str y)) Q=Q (.bl (decide (x.cps.toList<y.cps.toList))):=tv_some
theorem tv_eq{p q:PV}{Q:PV->Prop}:Tv (mQ p q) Q=∃ r,eqF 32 p q=some r/\Q (.bl r):=by
 refine propext ⟨?_,λ⟨r,e,k⟩=>⟨_,by unfold mQ;rw[e],k⟩⟩
 rintro⟨r,e,k⟩;unfold mQ at e;split at e
 ·rename_i b hb;cases e;exact⟨b,hb,k⟩
 ·cases e
theorem tv_ne{p q:PV}{Q:PV->Prop}:Tv (pD p q) Q=∃ r,eqF 32 p q=some r/\Q (.bl (!r)):=by
 refine propext ⟨?_,λ⟨r,e,k⟩=>⟨_,by unfold pD;rw[e],k⟩⟩
 rintro⟨r,e,k⟩;unfold pD at e;split at e
 ·rename_i b hb;cases e;exact⟨b,hb,k⟩
 ·cases e
theorem eqF_int(n:Nat)(i j:Int):eqF n (.int i) (.int j)=some (decide (i=j)):=by cases n<;>rfl
theorem eqF_str(n:Nat)(i j:Str):eqF n (.str i) (.str j)=some (decide (i=j)):=by cases n<;>rfl
theorem eqF_bl(n:Nat)(i j:Bool):eqF n (.bl i) (.bl j)=some (decide (i=j)):=by cases n<;>rfl
theorem tv_eqI{x y:Int}{Q:PV->Prop}:Tv (mQ (.int x) (.int y)) Q=Q (.bl (decide (x=y))):=by rw[tv_eq,eqF_int];simp
theorem tv_eqS{x y:Str}{Q:PV->Prop}:Tv (mQ (.str x) (.str y)) Q=Q (.bl (decide (x=y))):=by rw[tv_eq,eqF_str];simp
theorem tv_neI{x y:Int}{Q:PV->Prop}:Tv (pD (.int x) (.int y)) Q=Q (.bl (!decide (x=y))):=by rw[tv_ne,eqF_int];simp
theorem tv_neS{x y:Str}{Q:PV->Prop}:Tv (pD (.str x) (.str y)) Q=Q (.bl (!decide (x=y))):=by rw[tv_ne,eqF_str];simp
theorem tv_notin{p q:PV}{Q:PV->Prop}:Tv (kE p q) Q=∃ r,inU p q=some r/\Q (.bl (!r)):=by
 refine propext ⟨?_,λ⟨r,e,k⟩=>⟨_,by unfold kE;rw[e],k⟩⟩
 rintro⟨r,e,k⟩;unfold kE at e;split at e
 ·rename_i b hb;cases e;exact⟨b,hb,k⟩
 ·cases e
theorem tv_notN{p:PV}{Q:PV->Prop}:Tv (yC p .non) Q=Q (.bl (!p.tR)):=tv_some
theorem vq{x:Option PV}{Q:PV->Prop}:Tv (ofO x) Q=∃ p,x=some p/\Q p:=by
 refine propext ⟨?_,λ⟨p,e,k⟩=>⟨_,by subst e;rfl,k⟩⟩
 rintro⟨r,e,k⟩;obtain⟨p,e1,e2⟩:=mR e;cases e2;exact⟨_,e1,k⟩
theorem tv_ixL{l:List PV}{n:Int}{Q:PV->Prop}:Tv (jQ (.lst l) (.int n)) Q=∃ p,atI l n=some p/\Q p:=vq
theorem tv_ixT{l:List PV}{n:Int}{Q:PV->Prop}:Tv (jQ (.tup l) (.int n)) Q=∃ p,atI l n=some p/\Q p:=vq
theorem tv_ixV{l:List PV}{n:Int}{Q:PV->Prop}:Tv (qx l (.int n)) Q=∃ p,atI l n=some p/\Q p:=vq
theorem tv_ixS{z:Str}{n:Int}{Q:PV->Prop}:Tv (jQ (.str z) (.int n)) Q=(z.length<=sizeLine/\∃ c,atI z.cps.toList n=some c/\Q (.str ⟨#[c]⟩)):=by
 show Tv (if z.length<=sizeLine then _ else none) Q=_
 by_cases hz:z.length<=sizeLine
 ·rw[Zat hz,vq];simp only[hz,true_and];refine propext ⟨?_,λ⟨c,e,k⟩=>⟨_,by rw[e];rfl,k⟩⟩
  rintro⟨p,e,k⟩;cases e1:atI z.cps.toList n with
  |none=>rw[e1] at e;cases e
  |some c=>rw[e1] at e;cases e;exact⟨c,rfl,k⟩
 ·rw[Zax hz];exact propext ⟨λ⟨r,e,q⟩=>(nomatch e),λ⟨z,_⟩=>absurd z hz⟩
theorem tv_lenS{z:Str}{Q:PV->Prop}:Tv (dq (.str z)) Q=(z.length<=sizeLine/\Q (.int z.length)):=bM
theorem tv_lenL{l:List PV}{Q:PV->Prop}:Tv (dq (.lst l)) Q=Q (.int l.length):=tv_some
theorem tv_lenT{l:List PV}{Q:PV->Prop}:Tv (dq (.tup l)) Q=Q (.int l.length):=tv_some
theorem tv_asBl{b:Bool}{Q:Bool->Prop}:Tv (gY (.bl b)) Q=Q b:=tv_some
theorem tv_max{x y:Int}{Q:PV->Prop}:Tv (El (.int x) (.int y)) Q=Q (.int (if y>x then y else x)):=tv_some
theorem tv_min{x y:Int}{Q:PV->Prop}:Tv (Em (.int x) (.int y)) Q=Q (.int (if y<x then y else x)):=tv_some
theorem tv_list{l:List PV}{Q:PV->Prop}:Tv (yE l) Q=Q (.lst l):=tv_some
theorem tv_asSeqL{l:List PV}{Q:List PV->Prop}:Tv (tV (.lst l)) Q=Q l:=tv_some
theorem tv_asSeqT{l:List PV}{Q:List PV->Prop}:Tv (tV (.tup l)) Q=Q l:=tv_some
theorem tv_asSeqS{z:Str}{Q:List PV->Prop}:Tv (tV (.str z)) Q=Q (signs z):=tv_some
theorem tv_rng1{j:Int}{Q:List PV->Prop}:Tv (iz [.int j]) Q=((-(2^62)<=j/\j<2^62)/\Q (pF 0 j.toNat)):=bM
theorem tv_pn{Q:Option Int->Prop}:Tv (mPn Z) Q=Q none:=tv_some
theorem tv_asInt{x:Int}{Q:Option Int->Prop}:Tv (asInt (.int x)) Q=Q (some x):=tv_some
theorem tv_slK{f:Fn (List PV)}{lo hi st:Fn (Option Int)}{Q:PV->Prop}:Tv (Hv f lo hi st Z) Q=Tv (f Z) (λl=>Tv (lo Z) (λa=>Tv (hi Z) (λb=>Tv (st Z) (λc=>c≠some 0/\Q (.lst (wF l a b c)))))):=by
 have ite:∀ {c:Prop} [Decidable c] {r:PV},Tv (if c then none else some (.ok r)) Q=(¬c/\Q r):=λ{c} _ {r}=>by
  by_cases h:c
  ·rw[Zat h,jo];simp[h]
  ·rw[Zax h,tv_some];simp[h]
 unfold Hv;simp only[tv_bnd,ite,ne_eq]
end
section
variable{Z:Rho}{j:Nat}
theorem finIO_nx{p:PV}:(M7 j (some (.nx Z))=some (.ok p))=(Z[j]?=some (some (.ow p))):=by
 show((match ownAt j Z with|some p=>some (Res.ok p)|none=>none)=some (.ok p))=_
 cases h:ownAt j Z with
 |none=>exact propext ⟨λe=>(nomatch e),λe=>by unfold ownAt at h;rw[e] at h;cases h⟩
 |some q=>exact propext ⟨λe=>by cases e;exact aX h,λe=>by rw[aX h] at e;cases e;rfl⟩
end
def turn(I:Rho->Prop)(QS:Out->Prop):Out->Prop
 |.nx Z=>I Z
 |.ct Z=>I Z
 |.bk Z=>QS (.nx Z)
 |o=>QS o
theorem turn_nx{I:Rho->Prop}{QS:Out->Prop}{Z:Rho}:turn I QS (.nx Z)=I Z:=rfl
theorem turn_ct{I:Rho->Prop}{QS:Out->Prop}{Z:Rho}:turn I QS (.ct Z)=I Z:=rfl
theorem turn_bk{I:Rho->Prop}{QS:Out->Prop}{Z:Rho}:turn I QS (.bk Z)=QS (.nx Z):=rfl
theorem turn_rt{I:Rho->Prop}{QS:Out->Prop}{p:PV}:turn I QS (.rt p)=QS (.rt p):=rfl
theorem turn_ro{I:Rho->Prop}{QS:Out->Prop}{p:PV}:turn I QS (.ro p)=QS (.ro p):=rfl
theorem turn_rd{I:Rho->Prop}{QS:Out->Prop}{p:PV}:turn I QS (.rd p)=QS (.rd p):=rfl
theorem Ip{tg:PV->Rho->Option Rho}{body:Sn}{QS:Out->Prop}(I:Nat->Rho->Prop):∀ {l:List PV}{Z:Rho},I 0 Z ->
  (∀ (i:Nat) x Z,l[i]?=some x->I i Z->∃ Z1,tg x Z=some Z1/\To (body Z1) (turn (I (i+1)) QS)) ->
  (∀ Z',I l.length Z'->QS (.nx Z'))->To (loop tg body l Z) QS:=by
 intro l;induction l generalizing I with
 |nil=>exact λh0 _ hd=>⟨_,rfl,trivial,hd _ h0⟩
 |cons x xs ih=>
  intro Z h0 hs hd;obtain⟨Z1,e1,o,e2,c,q⟩:=hs 0 x Z rfl h0;unfold To;rw[loop,e1];simp only[e2];cases o with
  |nx Z2=>exact ih (λi=>I (i+1)) q (λi y Z e=>hs (i+1) y Z (by simpa using e)) hd
  |ct Z2=>exact ih (λi=>I (i+1)) q (λi y Z e=>hs (i+1) y Z (by simpa using e)) hd
  |bk Z2=>exact⟨_,rfl,trivial,q⟩
  |rt p=>exact⟨_,rfl,trivial,q⟩
  |ro p=>exact⟨_,rfl,trivial,q⟩
  |rd p=>exact⟨_,rfl,trivial,q⟩
  |ex z=>exact c.elim
theorem gR{j:Nat}{body:Sn}{QS:Out->Prop}(I:Nat->Rho->Prop){l:List PV}{Z:Rho}(h0:I 0 Z)
  (hs:∀ (i:Nat) x Z,l[i]?=some x->I i Z->To (body (Z.set j (some (.sh x)))) (turn (I (i+1)) QS))(hd:∀ Z',I l.length Z'->QS (.nx Z')):To (loop (gN j) body l Z) QS:=
 Ip I h0 (λi x Z e hI=>⟨_,rfl,hs i x Z e hI⟩) hd
theorem q9{fc:Fn Bool}{body:Sn}{QS:Out->Prop}(I:Nat->Rho->Prop):∀ {n:Nat}{Z:Rho},I n Z ->
  (∀ (n:Nat) Z,I n Z->Tv (fc Z) (λb=>if b=true then 0<n/\To (body Z) (turn (I (n-1)) QS) else QS (.nx Z)))->To (iG fc body (n+1) Z) QS:=by
 intro n;induction n with
 |zero=>
  intro Z h0 hs;rw[iG,to_bnd];obtain⟨b,e,q⟩:=hs 0 Z h0;refine⟨b,e,?_⟩;cases b with
  |true=>exact absurd q.1 (Zbp _)
  |false=>exact⟨_,rfl,trivial,q⟩
 |succ n ih=>
  intro Z h0 hs;rw[iG,to_bnd];obtain⟨b,e,q⟩:=hs (n+1) Z h0;refine⟨b,e,?_⟩;cases b with
  |false=>exact⟨_,rfl,trivial,q⟩
  |true=>
   obtain⟨_,o,e2,c,q2⟩:=q;show To (if true=true then _ else _) QS
   rw[Zat rfl];simp only[e2];cases o with
   |nx Z2=>exact ih q2 hs
   |ct Z2=>exact ih q2 hs
   |bk Z2=>exact⟨_,rfl,trivial,q2⟩
   |rt p=>exact⟨_,rfl,trivial,q2⟩
   |ro p=>exact⟨_,rfl,trivial,q2⟩
   |rd p=>exact⟨_,rfl,trivial,q2⟩
   |ex z=>exact c.elim
theorem yZ{x:Option Out}{r:Res PV}(h:To x λo=>fin (some o)=some r):fin x=some r:=by
 obtain⟨o,e,_,q⟩:=h;rw[e];exact q
theorem Ir{x:Option Out}{r:Res PV}(h:To x λo=>sy (some o)=some r):sy x=some r:=by
 obtain⟨o,e,_,q⟩:=h;rw[e];exact q
theorem za{x:Option Out}{P:PV->Prop}(h:To x λo=>∃ p,fin (some o)=some (.ok p)/\P p):∃ p,fin x=some (.ok p)/\P p:=by
 obtain⟨o,e,_,q⟩:=h;rw[e];exact q
theorem Aa{x:Option Out}{P:PV->Prop}(h:To x λo=>∃ p,sy (some o)=some (.ok p)/\P p):∃ p,sy x=some (.ok p)/\P p:=by
 obtain⟨o,e,_,q⟩:=h;rw[e];exact q
theorem fin_nx{Z:Rho}:fin (some (.nx Z))=some (.ok .non):=rfl
theorem fin_rt{p:PV}:fin (some (.rt p))=some (.ok p):=rfl
theorem finO_ro{p:PV}:sy (some (.ro p))=some (.ok p):=rfl
theorem tv_compN{tg:PV->Rho->Option Rho}{tst:Fn Bool}{el:Fn PV}{Zb:Rho}{Q:List PV->Prop}:Tv (d8 tg tst el Zb []) Q=Q []:=tv_some
theorem tv_compC{j:Nat}{tst:Fn Bool}{el:Fn PV}{Zb:Rho}{x:PV}{xs:List PV}{Q:List PV->Prop}:Tv (d8 (gN j) tst el Zb (x::xs)) Q =
  Tv (tst (Zb.set j (some (.sh x)))) (λb=>if b=true then Tv (el (Zb.set j (some (.sh x)))) (λp=>Tv (d8 (gN j) tst el Zb xs) (λr=>Q (p::r))) else Tv (d8 (gN j) tst el Zb xs) Q):=by
 rw[d8];simp only[gN,tv_bnd,tv_ite,tv_some]
theorem tv_yes{Z:Rho}{Q:Bool->Prop}:Tv (Ht Z) Q=Q true:=tv_some
theorem iR{α:Type}{x:Option (Res α)}{q:α}(h:Tv x λp=>p=q):x=some (.ok q):=by
 obtain⟨p,e,rfl⟩:=h;exact e
def szP(w h:Int):PV:=.tup [.int w,.int h]
def cellP(c:Int×Int):PV:=.tup [.int c.1,.int c.2]
theorem snocI(l:List Int)(a:Int):l.map PV.int++[PV.int a]=(l++[a]).map PV.int:=by rw[Za1];rfl
theorem snocS(l:List Str)(a:Str):l.map PV.str++[PV.str a]=(l++[a]).map PV.str:=by rw[Za1];rfl
theorem snocC(l:List (Int×Int))(a b:Int):l.map cellP++[PV.tup [.int a,.int b]]=(l++[(a,b)]).map cellP:=by rw[Za1];rfl
theorem is_non_int:isI .non "int"=some false:=rfl
theorem is_non_bool:isI .non "bool"=some false:=rfl
theorem is_non_str:isI .non "str"=some false:=rfl
theorem is_non_list:isI .non "list"=some false:=rfl
theorem is_non_tuple:isI .non "tuple"=some false:=rfl
theorem is_non_dict:isI .non "dict"=some false:=rfl
theorem is_bl_int{b:Bool}:isI (.bl b) "int"=some true:=rfl
theorem is_bl_bool{b:Bool}:isI (.bl b) "bool"=some true:=rfl
theorem is_bl_str{b:Bool}:isI (.bl b) "str"=some false:=rfl
theorem is_bl_list{b:Bool}:isI (.bl b) "list"=some false:=rfl
theorem is_bl_tuple{b:Bool}:isI (.bl b) "tuple"=some false:=rfl
theorem is_bl_dict{b:Bool}:isI (.bl b) "dict"=some false:=rfl
theorem is_int_int{i:Int}:isI (.int i) "int"=some true:=rfl
theorem is_int_bool{i:Int}:isI (.int i) "bool"=some false:=rfl
theorem is_int_str{i:Int}:isI (.int i) "str"=some false:=rfl
theorem is_int_list{i:Int}:isI (.int i) "list"=some false:=rfl
theorem is_int_tuple{i:Int}:isI (.int i) "tuple"=some false:=rfl
theorem is_int_dict{i:Int}:isI (.int i) "dict"=some false:=rfl
theorem is_str_int{z:Str}:isI (.str z) "int"=some false:=rfl
theorem is_str_bool{z:Str}:isI (.str z) "bool"=some false:=rfl
theorem is_str_str{z:Str}:isI (.str z) "str"=some true:=rfl
theorem is_str_list{z:Str}:isI (.str z) "list"=some false:=rfl
theorem is_str_tuple{z:Str}:isI (.str z) "tuple"=some false:=rfl
theorem is_str_dict{z:Str}:isI (.str z) "dict"=some false:=rfl
theorem is_tup_int{l:List PV}:isI (.tup l) "int"=some false:=rfl
theorem is_tup_bool{l:List PV}:isI (.tup l) "bool"=some false:=rfl
theorem is_tup_str{l:List PV}:isI (.tup l) "str"=some false:=rfl
theorem is_tup_list{l:List PV}:isI (.tup l) "list"=some false:=rfl
theorem is_tup_tuple{l:List PV}:isI (.tup l) "tuple"=some true:=rfl
theorem is_tup_dict{l:List PV}:isI (.tup l) "dict"=some false:=rfl
theorem is_lst_int{l:List PV}:isI (.lst l) "int"=some false:=rfl
theorem is_lst_bool{l:List PV}:isI (.lst l) "bool"=some false:=rfl
theorem is_lst_str{l:List PV}:isI (.lst l) "str"=some false:=rfl
theorem is_lst_list{l:List PV}:isI (.lst l) "list"=some true:=rfl
theorem is_lst_tuple{l:List PV}:isI (.lst l) "tuple"=some false:=rfl
theorem is_lst_dict{l:List PV}:isI (.lst l) "dict"=some false:=rfl
theorem xG{α:Type}{g:α->PV}[DecidableEq α](h:∀ a b,eqF 31 (g a) (g b)=some (decide (a=b)))(a:α):∀ l:List α,inF (g a) (l.map g)=some (decide (a∈l))
 |[]=>rfl
 |x::xs=>by
  rw[Zaw,inF,h x a,xG h a xs];simp only[Zaq,Bool.decide_or];congr 2
  exact decide_eq_decide.mpr ⟨λe=>e.symm,λe=>e.symm⟩
theorem Iu{α:Type}{g:α->PV}[DecidableEq α](h:∀ a b,eqF 31 (g a) (g b)=some (decide (a=b)))(a:α)(l:List α)[Decidable (a∈l)]:inF (g a) (l.map g)=some (decide (a∈l)):=by
 rw[xG h a l];congr 1
 exact decide_eq_decide.mpr Iff.rfl
theorem Cw{ns:List Int}{i:Int}(h0:0<=i)(h:i<ns.length):atI (ns.map PV.int) i=some (.int (ns.getD i.toNat 0)):=by
 obtain⟨v,e1,e2⟩:=Do (xs:=ns.map PV.int) h0 (by rw[Zab];exact h)
 rw[e1];rw[Zaf] at e2;have hl:i.toNat<ns.length:=by lia
 rw[Zaa hl] at e2;rw[Zag,Zaa hl];exact e2.symm
theorem atI_0{p:PV}{l:List PV}:atI (p::l) 0=some p:=j8 (j:=0) rfl
theorem atI_1{p q:PV}{l:List PV}:atI (p::q::l) 1=some q:=j8 (j:=1) rfl
theorem atI_2{p q r:PV}{l:List PV}:atI (p::q::r::l) 2=some r:=j8 (j:=2) rfl
theorem atI_3{p q r s:PV}{l:List PV}:atI (p::q::r::s::l) 3=some s:=j8 (j:=3) rfl
theorem tv_lstI{G:List Int->Int}{l:List PV}{Q:PV->Prop}:Tv (oE G l) Q=∃ n ns,cV l=some (n::ns)/\Q (.int (G (n::ns))):=by
 refine propext ⟨?_,λ⟨n,ns,e,k⟩=>⟨_,by unfold oE;rw[e],k⟩⟩
 rintro⟨r,e,k⟩;unfold oE at e;split at e
 ·rename_i n ns h;cases e;exact⟨n,ns,h,k⟩
 ·cases e
theorem tv_newD{Z:Rho}{Q:PV->Prop}:Tv (tW Z) Q=Q (.dk []):=tv_some
theorem is_dk_int{l:List (Key×PV)}:isI (.dk l) "int"=some false:=rfl
theorem is_dk_str{l:List (Key×PV)}:isI (.dk l) "str"=some false:=rfl
theorem tv_neg{i:Int}{Q:PV->Prop}:Tv (En (.int i)) Q=Q (.int (-i)):=tv_some
section
variable{Z:Rho}{f g h:Fn PV}{i:Nat}{Q:PV->Prop}{QS:Out->Prop}{d k p:PV}{l:List PV}
theorem FQ:Tv (asD p) Q=(p.isD=true/\Q p):=bM
theorem tv_viewD:Tv (uQ f Z) Q=Tv (f Z) (λp=>p.isD=true/\Q p):=by unfold uQ;rw[tv_bnd];simp only[FQ]
theorem tv_viewDN:Tv (cG i Z) Q=Tv (mVL i Z) (λp=>p.isD=true/\Q p):=by unfold cG;rw[tv_bnd];simp only[FQ]
theorem vy{α:Type}{o:Option α}{F:α->PV}:Tv (o.map λr=>Res.ok (F r)) Q=∃ r,o=some r/\Q (F r):=by
 cases o with
 |none=>exact propext ⟨(λ⟨_,e,_⟩=>by cases e),(λ⟨_,e,_⟩=>by cases e)⟩
 |some r=>exact propext ⟨λ⟨_,e,q⟩=>by cases e;exact⟨r,rfl,q⟩,λ⟨_,e,q⟩=>by cases e;exact⟨_,rfl,q⟩⟩
theorem tv_dget1:Tv (uR f g Z) Q=Tv (f Z) (λd=>Tv (g Z) (λk=>∃ r,dU d k=some r/\Q (r.getD .non))):=by
 unfold uR;simp only[tv_bnd,vy]
theorem tv_opDGet:Tv (gP d k) Q=∃ p,dU d k=some (some p)/\Q p:=by
 unfold gP;split
 ·rename_i p h;rw[h,tv_some];exact propext ⟨λq=>⟨p,rfl,q⟩,λ⟨_,e,q⟩=>by cases e;exact q⟩
 ·rename_i h;rw[jo];exact propext ⟨λz=>z.elim,λ⟨p,e,_⟩=>(h p e).elim⟩
theorem tv_opDIn:Tv (tY k d) Q=∃ r,dU d k=some r/\Q (.bl r.isSome):=by unfold tY;rw[vy]
theorem tv_opDNotIn:Tv (iH k d) Q=∃ r,dU d k=some r/\Q (.bl (!r.isSome)):=by unfold iH;rw[vy]
theorem tv_dictP:Tv (kO d l) Q=∃ ps d',gj l=some ps/\dI d ps=some d'/\Q d':=by
 unfold kO;split
 ·rename_i ps h;rw[h];refine propext ⟨?_,?_⟩
  ·rintro⟨r,e,q⟩;cases h2:dI d ps with
   |none=>rw[h2] at e;cases e
   |some d'=>rw[h2] at e;cases e;exact⟨ps,_,rfl,h2,q⟩
  ·rintro⟨ps',d',e1,e2,q⟩;cases e1;exact⟨d',by rw[e2];rfl,q⟩
 ·rename_i h;rw[jo];exact propext ⟨λz=>z.elim,λ⟨ps,_,e,_⟩=>by rw[h] at e;cases e⟩
theorem tv_ofR{mk:List PV->PV}{j:Int}:Tv (Ew mk (.int j)) Q=((-(2^30)<=j/\j<=1000000)/\Q (mk ((List.range j.toNat).map λi=>.int (i:Nat)))):=bM
theorem to_dput:To (mY i f g Z) QS=Tv (f Z) (λp=>∃ d,Z[i]?=some (some (.ow d))/\Tv (g Z) (λk=>∃ d',uT d k p=some d'/\QS (.nx (Z.set i (some (.ow d')))))):=by
 unfold mY;rw[to_bnd];congr 1;funext p
 refine propext ⟨?_,?_⟩
 ·rintro⟨r,e,c,q⟩;split at e
  ·rename_i d hd;refine⟨d,aX hd,?_⟩;rcases b8 e with⟨z,e1,rfl⟩|⟨k,e1,e2⟩
   ·exact c.elim
   ·split at e2
    ·rename_i d' h';cases e2;exact⟨k,e1,d',h',q⟩
    ·cases e2
  ·cases e
 ·rintro⟨d,e,k,e1,d',h1,q⟩;refine⟨.nx (Z.set i (some (.ow d'))),?_,trivial,q⟩;have eo:ownAt i Z=some d:=by unfold ownAt;rw[e]
  rw[eo];simp only[e1,Hg,h1]
end
section
variable{l:List (Key×PV)}{t:List (List Key×PV)}{ks:List PV}{n:Int}{z:Str}{p:PV}
theorem dF_int:dU (.dk l) (.int n)=some (gO l (.inl n)):=rfl
theorem dF_str:dU (.dk l) (.str z)=some (gO l (.inr z)):=rfl
theorem dF_tup:dU (.dt t) (.tup ks)=(ji ks).map (gO t):=rfl
theorem zb:uT (.dk l) (.int n) p=if l.length<sizeLine then some (.dk (jU l (.inl n) p)) else none:=rfl
theorem isD_dk:(PV.dk l).isD=true:=rfl
theorem isD_dt:(PV.dt t).isD=true:=rfl
end
section
variable{f g:Fn PV}{Z:Rho}{Q:PV->Prop}{QS:Out->Prop}{i:Nat}{p:PV}
theorem tv_deep:Tv (wM f Z) Q=Tv (f Z) (λp=>∃ l,p=.lst l/\l.all PV.still=true/\Q (.lst l)):=by
 unfold wM;rw[tv_bnd];congr 1;funext p
 refine propext ⟨?_,?_⟩
 ·rintro⟨r,e,q⟩;cases p with
  |lst l=>
   have e:(if l.all PV.still=true then some (Res.ok (PV.lst l)) else none)=some (.ok r):=e;split at e
   ·rename_i h;cases e;exact⟨l,rfl,h,q⟩
   ·cases e
  |_=>cases e
 ·rintro⟨l,rfl,h,q⟩;exact⟨_,Zat h,q⟩
theorem tv_still:Tv (qJ f Z) Q=Tv (f Z) (λp=>p.still=true/\Q p):=by
 unfold qJ;rw[tv_bnd];congr 1;funext p
 exact bM
theorem to_setD:To (t6 i f Z) QS=Tv (f Z) (λp=>QS (.nx (Z.set i (some (.dp p))))):=by unfold t6;simp only[to_bnd,to_nx]
theorem to_retDp:To (oG i Z) QS=∃ p,Z[i]?=some (some (.dp p))/\QS (.rd p):=by
 refine propext ⟨?_,λ⟨p,e,q⟩=>⟨.rd p,by unfold oG m9;rw[e],trivial,q⟩⟩
 rintro⟨r,e,c,q⟩;unfold oG at e;split at e
 ·rename_i p hp;cases e;exact⟨p,cM hp,q⟩
 ·cases e
theorem tv_fz:Tv (mFz i f Z) Q=∃ p,Z[i]?=some (some (.dp p))/\Tv (f (Z.set i (some (.sh p)))) (λq=>q.flat=true/\Q q):=by
 refine propext ⟨?_,λ⟨p,e,r,e2,c,q⟩=>⟨r,by unfold mFz m9;rw[e];simp only[e2,bnd];rw[Zat c],q⟩⟩
 rintro⟨r,e,q⟩;unfold mFz at e;split at e
 ·rename_i p hp;rcases bj e with⟨z,_,e3⟩|⟨a,e3,e4⟩
  ·cases e3
  ·split at e4
   ·rename_i c;cases e4;exact⟨p,cM hp,r,e3,c,q⟩
   ·cases e4
 ·cases e
theorem finT_rd:qK (some (.rd p))=some (.ok p):=rfl
theorem Iv{x:Option Out}{r:Res PV}(h:To x λo=>qK (some o)=some r):qK x=some r:=by
 obtain⟨o,e,_,q⟩:=h;rw[e];exact q
theorem Ab{x:Option Out}{P:PV->Prop}(h:To x λo=>∃ p,qK (some o)=some (.ok p)/\P p):∃ p,qK x=some (.ok p)/\P p:=by
 obtain⟨o,e,_,q⟩:=h;rw[e];exact q
theorem Iw{l:List PV}(h:Z[i]?=some (some (.dp (.lst l))))(hs:Tv (f Z) λq=>l.length<sizeLine/\QS (.nx (Z.set i (some (.dp (.lst (l++[q]))))))):To (wQ i f Z) QS:=by
 obtain⟨r,e,c,q⟩:=hs;have ho:m9 i Z=some (.lst l):=by unfold m9;rw[h]
 unfold wQ;rw[ho];exact⟨.nx (Z.set i (some (.dp (.lst (l++[r]))))),by simp only[e,dB];rw[Zat c],trivial,q⟩
theorem Iz{l:List PV}{n:Int}{j:Nat}{row:List PV}{q:PV}(h:Z[i]?=some (some (.dp (.lst l))))(hi:f Z=some (.ok (.int n)))(hj:ixN l.length n=some j)(hr:l[j]?=some (.lst row))(he:g Z=some (.ok q))(st:q.still=true)(hl:row.length<sizeLine)
  (hs:QS (.nx (Z.set i (some (.dp (.lst (l.set j (.lst (row++[q])))))))) ):To (wO i f g Z) QS:=by
 have ho:m9 i Z=some (.lst l):=by unfold m9;rw[h]
 unfold wO;rw[ho];exact⟨.nx (Z.set i (some (.dp (.lst (l.set j (.lst (row++[q]))))))),by simp only[hi,dB,hj,hr,he];rw[Zat ⟨st,hl⟩],trivial,hs⟩
end
section
variable{f:Fn PV}{Z:Rho}{Q:PV->Prop}{QS:Out->Prop}{i j:Nat}{s:Sn}{p:PV}
theorem tv_dkeys{l:List (Key×PV)}{Q:List PV->Prop}:Tv (pW (.dk l)) Q=Q (qM l):=tv_some
theorem tv_ditems{l:List (Key×PV)}{Q:List PV->Prop}:Tv (qP (.dk l)) Q=Q (lW l):=tv_some
theorem tv_sort{l:List PV}:Tv (qO l) Q=∃ ns,cV l=some ns/\ns.length<64/\Q (.lst ((srt ns).map .int)):=by
 unfold qO;split
 ·rename_i ns h;rw[h,bM];exact propext ⟨λq=>⟨ns,rfl,q⟩,λ⟨_,e,q⟩=>by cases e;exact q⟩
 ·rename_i h;rw[jo];exact propext ⟨λz=>z.elim,λ⟨_,e,_⟩=>by rw[h] at e;cases e⟩
theorem lX:∀ ns:List Int,cV (ns.map .int)=some ns
 |[]=>rfl
 |n::ns=>by show(cV (ns.map .int)).map (n::·)=_;rw[lX ns];rfl
theorem tv_sortD{l:List (Key×PV)}:Tv (nA (.dk l)) Q=∃ ns,iJ (l.map (·.1))=some ns/\ns.length<64/\Q (.lst ((srt ns).map .int)):=by
 show Tv (match iJ (l.map (·.1)) with
  |some ns=>if ns.length<64 then some (.ok (.lst ((srt ns).map .int))) else none
  |none=>none) Q=_
 split
 ·rename_i ns h;rw[h,bM];exact propext ⟨λq=>⟨ns,rfl,q⟩,λ⟨_,e,q⟩=>by cases e;exact q⟩
 ·rename_i h;rw[jo];exact propext ⟨λz=>z.elim,λ⟨_,e,_⟩=>by rw[h] at e;cases e⟩
theorem tv_holdE:Tv (lU i f Z) Q=∃ p,Z[i]?=some (some (.sh p))/\p.isD=true/\Tv (f Z) Q:=by
 refine propext ⟨?_,λ⟨p,e,d,r,e2,q⟩=>⟨r,by unfold lU;rw[e];simp only;rw[Zat d];exact e2,q⟩⟩
 rintro⟨r,e,q⟩;unfold lU at e;split at e
 ·rename_i p hp;split at e
  ·rename_i d;exact⟨p,hp,d,r,e,q⟩
  ·cases e
 ·cases e
def Ac(QS:Out->Prop):Out->Prop
 |.rd _=>False
 |o=>QS o
theorem holdQ_nx:Ac QS (.nx Z)=QS (.nx Z):=rfl
theorem holdQ_rt:Ac QS (.rt p)=QS (.rt p):=rfl
theorem holdQ_ro:Ac QS (.ro p)=QS (.ro p):=rfl
theorem to_hold:To (qL i s Z) QS=∃ p,Z[i]?=some (some (.sh p))/\p.isD=true/\To (s Z) (Ac QS):=by
 refine propext ⟨?_,λ⟨p,e,d,o,e2,c,q⟩=>⟨o,?_,c,?_⟩⟩
 ·rintro⟨o,e,c,q⟩;unfold qL at e;split at e
  ·rename_i p hp;split at e
   ·rename_i d;refine⟨p,hp,d,o,?_⟩;split at e
    ·cases e
    ·rename_i x hx;refine⟨e,c,?_⟩;cases o with
     |rd y=>exact(hx y e).elim
     |_=>exact q
   ·cases e
  ·cases e
 ·unfold qL;rw[e];simp only;rw[Zat d,e2];cases o with
  |rd y=>exact q.elim
  |_=>rfl
 ·cases o with
  |rd y=>exact q.elim
  |_=>exact q
theorem to_io2{m:List PV->Option (Res PV)}{f:Fn (List PV)}:To (BX i j m f Z) QS=∃ p q,Z[i]?=some (some (.ow p))/\Z[j]?=some (some (.ow q))/\Tv (f Z) (λl=>∃ p' q',m (p::q::l)=some (.ok (.tup [p',q']))/\QS (.nx ((Z.set i (some (.ow p'))).set j (some (.ow q'))))):=by
 refine propext ⟨λh=>?_,?_⟩
 ·unfold BX at h;rw[to_bnd] at h;obtain⟨l,e,o,e2,c,h⟩:=h;unfold pX at e;split at e
  ·rename_i p q h1 h2;rcases bj e with⟨z,_,e3⟩|⟨l',e3,e4⟩
   ·cases e3
   ·cases e4;split at e2
    ·rename_i p' q' hm;cases e2;exact⟨p,q,aX h1,aX h2,l',e3,p',q',hm,h⟩
    ·cases e2
  ·cases e
 ·rintro⟨p,q,e1,e2,l,e3,p',q',e4,h⟩;have o1:ownAt i Z=some p:=by unfold ownAt;rw[e1]
  have o2:ownAt j Z=some q:=by unfold ownAt;rw[e2]
  refine⟨.nx ((Z.set i (some (.ow p'))).set j (some (.ow q'))),?_,trivial,h⟩;unfold BX pX;rw[o1,o2];simp only[e3,bnd,dB,e4]
theorem tv_callT{m:List PV->Option (Res PV)}{f:Fn (List PV)}:Tv (u9 m f Z) Q=Tv (f Z) (λl=>Tv (m l) Q):=by
 unfold u9;rw[tv_bnd];congr 1;funext l
 refine propext ⟨?_,λ⟨r,e,q⟩=>⟨r,by rw[e],q⟩⟩
 rintro⟨r,e,q⟩;split at e
 ·rename_i p hp;cases e;exact⟨_,hp,q⟩
 ·cases e
theorem to_frzD:To (qQ i s Z) QS=∃ p,Z[i]?=some (some (.dp p))/\To (s (Z.set i (some (.sh p)))) QS:=by
 refine propext ⟨?_,λ⟨p,e,r,e2,q⟩=>⟨r,by unfold qQ m9;rw[e];exact e2,q⟩⟩
 rintro⟨r,e,q⟩;unfold qQ at e;split at e
 ·rename_i p hp;exact⟨p,cM hp,r,e,q⟩
 ·cases e
theorem tv_ownD:Tv (jX i Z) Q=∃ p,Z[i]?=some (some (.ow p))/\p.kZ=true/\Q p:=by
 refine propext ⟨?_,λ⟨p,e,h,q⟩=>⟨p,by unfold jX ownAt;rw[e];simp only;rw[Zat h],q⟩⟩
 rintro⟨r,e,q⟩;unfold jX at e;split at e
 ·rename_i p hp;split at e
  ·rename_i h;cases e;exact⟨_,aX hp,h,q⟩
  ·cases e
 ·cases e
theorem to_retT{f:Fn (List PV)}:To (t7 f Z) QS=Tv (f Z) (λl=>l.length<=sizeLine/\QS (.rd (.tup l))):=by
 unfold t7;rw[to_bnd];congr 1;funext l
 by_cases h:l.length<=sizeLine
 ·rw[Zat h,to_rd];simp[h]
 ·rw[Zax h,z9];simp[h]
theorem tv_mulL{x y:Int}:Tv (oJ (.int x) (.int y)) Q=((x.natAbs<2^9000/\y.natAbs<2^9000)/\Q (.int (x*y))):=by unfold oJ;rw[iC];simp[JV]
theorem ue{x:Option Out}{P:PV->Prop}(h:To x λo=>∃ p,qN (some o)=some (.ok p)/\P p):∃ p,qN x=some (.ok p)/\P p:=by
 obtain⟨o,e,_,q⟩:=h;rw[e];exact q
end
def nH:Sn:=
 (pC (m2 mQ (m2 zK (mV 0) (mV 1)) (mVL 0)))
def nJ:List PV->Option (Res PV)
 |[a0,a1]=>fin (nH (startR [a0,a1] 0))
 |_=>none
def rm:Sn:=
 (t7 (aN (qJ (mV 7)) (aN (jX 3) (aN (jX 4) bW))))
def rA:Sn:=
 (wj 3 (m2 gP (cG 1) (mV 7)))
def rB:Sn:=
 (bA (mY 4 (mV 6) (mV 7))
     (bA (oh (m1 gY (m2 iH (mV 7) (cG 1)))
      rm
      jN)
     rA))
def rC:Sn:=
 (bA (oh (m1 gY (m2 tY (mV 7) (cG 4)))
      DK
      jN)
     rB)
def rD:Sn:=
 (dX (m2 fV (mV 5) (mC (.int 1))) (gN 5))
def rE:Sn:=
 (bA (dX (m2 qx (iB 3) (mV 5)) (gN 6))
    (bA (sr (m1 tV (m2 gP (cG 0) (mV 6))) (gN 7)
     rC)
    rD))
def rF:Sn:=
 (t7 (aN (qJ (mC .non)) (aN (jX 3) (aN (jX 4) bW))))
def rG:Sn:=
 (bA (jw 3 (m1 yE (iB 2)))
   (bA (jw 4 tW)
   (bA (dX (mC (.int 0)) (gN 5))
   (bA (iG (m1 gY (m2 Eb (mV 5) (m1 dq (mVL 3))))
    rE 200)
   rF))))
def gU:List PV->Option (Res PV)
 |[a0,a1,a2]=>qK (rG (startR [a0,a1,a2] 5))
 |_=>none
def lD:Sn:=
 (bA (dX (m2 gP (cG 2) (mV 4)) (gN 5))
    (bA (dX (uR (cG 0) (mV 5)) (gN 6))
    (bA (mY 0 (mV 4) (mV 5))
    (bA (mY 1 (mV 5) (mV 4))
    (dX (mV 6) (gN 4))))))
def fM:Sn:=
 (bA (dX (mV 3) (gN 4))
   (iG (m1 gY (m2 yC (mVL 4) (mC .non)))
    lD 200))
def cX:List PV->Option (Res PV)
 |[a0,a1,a2,a3]=>qN (fM (cW [a0,a1,a2,a3] 3))
 |_=>none
def jZ:Sn:=
 (bA (t6 4 (u9 gU (aN (mVL 0) (aN (mVL 2) (aN (qt (aN (mV 3) bW)) bW)))))
    (qQ 4 (BX 1 2 cX (aN (m2 jQ (mV 4) (mC (.int 2))) (aN (m2 jQ (mV 4) (mC (.int 0))) bW)))))
def j4:Sn:=
 (jO 1)
def jq:Sn:=
 (bA (jw 1 tW)
   (bA (jw 2 tW)
   (bA (qL 0 (sr (m1 pW (mV 0)) (gN 3)
    jZ))
   j4)))
def eE:List PV->Option (Res PV)
 |[a0]=>sy (jq (startR [a0] 4))
 |_=>none
def eF:Sn:=
 (bA (dX (m1 (kO (.dk [])) (wD (lU 1 (jR (m1 qP (mV 1)) [none,none] (gT 2 (gsCons (gN 0) (gsCons (gN 1) gsNil))) Ht (Bs (aN (mV 1) (aN (mV 0) bW))))))) (gN 2))
   (bA (t6 3 (dz gU (aN (mV 0) (aN (mV 2) (aN (lU 0 (jR (m1 pW (mV 0)) [none,some 1] (gN 0) (m1 gY (m2 iH (mV 0) (cG 1))) (mV 0))) bW)))))
   (qQ 3 (pC (Bs (aN (m1 qO (wD (m2 jQ (mV 3) (mC (.int 1))))) (aN (m1 nA (uQ (m2 jQ (mV 3) (mC (.int 2))))) bW)))))))
def cN:List PV->Option (Res PV)
 |[a0,a1]=>fin (eF (startR [a0,a1] 2))
 |_=>none
def eG:Sn:=
 (zH (jR (m1 iz (aN (mV 1) bW)) [none,some 0,some 1] (gN 0) (m1 gY (dz nJ (aN (m2 jQ (mV 1) (mV 2)) (aN (m2 jQ (mV 1) (mV 0)) bW)))) (mV 0)))
def eN:List PV->Option (Res PV)
 |[a0,a1]=>sy (eG (startR [a0,a1] 0))
 |_=>none
def lE:Sn:=
 (bA (mY 3 (m2 gP (cG 3) (m2 gP (cG 1) (mV 4))) (mV 4))
     (wO 2 (m2 gP (cG 3) (mV 4)) (mV 4)))
def lF:Sn:=
 (bA (mY 3 (mFz 2 (m1 dq (mVL 2))) (mV 4))
     (wQ 2 (wM (qt (aN (mV 4) bW)))))
def lG:Sn:=
 (oh (m1 gY (m2 tY (mV 4) (cG 1)))
     lE
     lF)
def lH:Sn:=
 (oG 2)
def iu:Sn:=
 (bA (t6 2 (wM (qt bW)))
   (bA (jw 3 tW)
   (bA (sr (m1 iz (aN (mV 0) bW)) (gN 4)
    lG)
   lH)))
def dW:List PV->Option (Res PV)
 |[a0,a1]=>qK (iu (startR [a0,a1] 3))
 |_=>none
def dJ:Sn:=
 (bA (dX (m1 (kO (.dk [])) (wD (jR (m1 iz (aN (m1 dq (mVL 0)) bW)) [none,some 0] (gN 0) Ht (Bs (aN (mV 0) (aN (dz eN (aN (mV 1) (aN (mV 0) bW))) bW)))))) (gN 1))
   (bA (dX (dz eE (aN (mV 1) bW)) (gN 2))
   (bA (dX (dz cN (aN (mV 1) (aN (mV 2) bW))) (gN 3))
   (bA (jw 4 (jR (m1 tV (m2 jQ (mV 3) (mC (.int 0)))) [none,some 3] (gN 0) (m1 gY (m2 kE (mVL 0) (m2 jQ (mV 1) (mC (.int 1))))) (mV 0)))
   (t7 (aN (dz dW (aN (m1 dq (mVL 0)) (aN (mV 2) bW))) (aN (jX 4) bW)))))))
def bZ:List PV->Option (Res PV)
 |[a0]=>qK (dJ (startR [a0] 4))
 |_=>none
def iT:Sn:=
 (pC (m2 jQ (mV 0) (mV 1)))
def iU:Sn:=
 (pC (mC (.int 0)))
def gV:Sn:=
 (bA (oh (m1 gY (m2 Eb (mV 1) (m1 dq (mVL 0))))
    iT
    jN)
   iU)
def bh:List PV->Option (Res PV)
 |[a0,a1]=>fin (gV (startR [a0,a1] 0))
 |_=>none
def gn:Sn:=
 (pC (m2 gM (m2 oJ (m2 fV (m2 fV (m2 gM (mV 0) (m2 tQ (mC (.int 10)) (mC (.int 30)))) (m2 oJ (mV 1) (mV 1))) (mC (.int 1))) (mC (.int 314159265358979323846264338327))) (m2 fV (m2 tQ (mC (.int 10)) (mC (.int 30))) (mC (.int 57)))))
def cH:List PV->Option (Res PV)
 |[a0,a1]=>fin (gn (startR [a0,a1] 0))
 |_=>none
def jA:Sn:=
 (jO 3)
def jB:Sn:=
 (dX (m2 tO (mV 2) (m2 wy (mC (.int 1)) (mV 8))) (gN 2))
def jC:Sn:=
 (bA (dX (m2 jQ (mV 6) (m2 gM (m2 o7 (mV 5) (m2 fV (mC (.int 7)) (mV 7))) (m1 dq (mVL 6)))) (gN 8))
     (oh (m1 gY (m2 mQ (m2 gM (m2 wz (mV 2) (mV 8)) (mC (.int 2))) (mC (.int 1))))
      jB
      jN))
def jD:Sn:=
 (sr (m1 iz (aN (m2 fV (mC (.int 1)) (m2 gM (m2 o7 (mV 5) (mC (.int 100))) (mC (.int 3)))) bW)) (gN 7)
     jC)
def jE:Sn:=
 (bA (dX (dz cH (aN (dz bh (aN (mV 0) (aN (m2 fV (mC (.int 2)) (mV 4)) bW))) (aN (m2 fV (mC (.int 300)) (mV 4)) bW))) (gN 5))
    (bA (wj 3 (mV 2))
    (bA (dX (jR (m1 iz (aN (mV 1) bW)) [none,some 2] (gN 0) (m1 gY (m2 mQ (m2 gM (m2 wz (mV 1) (mV 0)) (mC (.int 2))) (mC (.int 1)))) (mV 0)) (gN 6))
    (bA (oh (m1 gY (m2 mQ (mVL 6) (qt bW)))
     jA
     jN)
    jD))))
def jF:Sn:=
 (jO 3)
def fD:Sn:=
 (bA (dX (m2 tO (m2 wy (mC (.int 1)) (mV 1)) (mC (.int 1))) (gN 2))
   (bA (jw 3 (qt bW))
   (bA (sr (m1 iz (aN (m2 Em (mC (.int 40)) (m2 El (mC (.int 1)) (m2 tO (m1 dq (mVL 0)) (mC (.int 2))))) bW)) (gN 4)
    jE)
   jF)))
def dF:List PV->Option (Res PV)
 |[a0,a1]=>sy (fD (startR [a0,a1] 7))
 |_=>none
def iW:Sn:=
 (dX (m2 fV (m2 qx (iB 1) (mV 4)) (mC (.int 1))) (gN 3))
def iY:Sn:=
 (oh (Hd (m1 gY (m2 pD (m2 Hk (m2 jQ (mV 0) (mV 4)) (m2 jQ (mV 0) (mV 2))) (m2 jQ (mV 0) (mV 4)))) (m1 gY (m2 Hl (m2 qx (iB 1) (mV 4)) (mV 3))))
      iW
      jN)
def iZ:Sn:=
 (wj 1 (mV 3))
def jb:Sn:=
 (bA (dX (mC (.int 1)) (gN 3))
    (bA (sr (m1 iz (aN (mV 2) bW)) (gN 4)
     iY)
    iZ))
def jc:Sn:=
 (pC (m1 (oE uP) (iB 1)))
def eO:Sn:=
 (bA (jw 1 (qt bW))
   (bA (sr (m1 iz (aN (m1 dq (mVL 0)) bW)) (gN 2)
    jb)
   jc))
def cY:List PV->Option (Res PV)
 |[a0]=>fin (eO (startR [a0] 4))
 |_=>none
def Ad:Sn:=
 (Fx 2 (m2 gM (m2 o7 (mV 3) (mC (.int 10))) (m1 dq (mVL 2))) (m2 qx (iB 2) (m2 gM (m2 o7 (mV 3) (mC (.int 10))) (m1 dq (mVL 2)))))
def IK:Sn:=
 (pC (mC (.bl false)))
def IV:Sn:=
 (pC (mC (.bl false)))
def Ae:Sn:=
 (bA (dX (nG [none,some 3] (m2 gM (m2 oJ (m2 fV (mV 0) (mC (.int 1))) (mV 1)) (m2 fV (m2 tQ (mC (.int 10)) (mC (.int 30))) (mC (.int 57)))) (iB 2)) (gN 7))
   (bA (dX (dz bZ (aN (mV 7) bW)) (gT 2 (gsCons (gN 4) (gsCons (gN 5) gsNil))))
   (pC (zG (m2 mQ (m1 dq (mVL 4)) (dz cY (aN (mV 7) bW))) (m2 mQ (m1 dq (mVL 5)) (m1 dq (mVL 4)))))))
def Af:Sn:=
 (bA (dX (Hv (iB 2) mPn mPn (m1 asInt (m1 En (mC (.int 1))))) (gN 6))
   (bA (dX (dz bZ (aN (mV 6) bW)) (gT 2 (gsCons (gN 4) (gsCons (gN 5) gsNil))))
   (bA (oh (mOr (m1 gY (m2 pD (m1 dq (mVL 4)) (m1 oK (iB 6)))) (m1 gY (m2 pD (m1 dq (mVL 5)) (m1 dq (mVL 4)))))
    IV
    jN)
   Ae)))
def vz:Sn:=
 (bA (M6 2 (dX (dz bZ (aN (mV 2) bW)) (gT 2 (gsCons (gN 4) (gsCons (gN 5) gsNil)))))
   (bA (oh (mOr (m1 gY (m2 pD (mVL 4) (qt (aN (m1 (Ew .lst) (m1 dq (mVL 2))) bW)))) (m1 gY (m2 pD (m1 dq (mVL 5)) (mC (.int 1)))))
    IK
    jN)
   Af))
def Ag:Sn:=
 (bA (dX (m2 qx (wD (qt (aN (m2 fV (mC (.int 1)) (m2 gM (m2 o7 (dz bh (aN (mV 0) (aN (mC (.int 0)) bW))) (mC (.int 8))) (mC (.int 9)))) (aN (mC (.int 576)) (aN (mC (.int 24)) (aN (mC (.int 40)) bW)))))) (m2 gM (dz bh (aN (mV 0) (aN (mC (.int 0)) bW))) (mC (.int 4)))) (gN 1))
   (bA (jw 2 (dz dF (aN (mV 0) (aN (mV 1) bW))))
   (bA (dX (dz cH (aN (dz bh (aN (mV 0) (aN (mC (.int 1)) bW))) (aN (mC (.int 7)) bW))) (gN 3))
   (bA (oh (m1 gY (m2 mQ (m2 gM (mV 3) (mC (.int 3))) (mC (.int 0))))
    Ad
    jN)
   vz))))
def uf:List PV->Option (Res PV)
 |[a0]=>fin (Ag (startR [a0] 7))
 |_=>none
local macro_rules|`(tactic| walk_at "rd")=>do
 let ids:=("onNx_nx onNx_rt onNx_ro onNx_rd onNx_bk onNx_ct tv_some to_nx to_rt to_ro to_rd to_bk to_ct tv_ite to_ite turn_nx turn_ct turn_bk turn_rt turn_ro turn_rd tv_bnd to_bnd to_seq tv_m2 tv_m1 tv_var tv_lend tv_c tv_view tv_viewN tv_asLst tv_nil tv_cons tv_tup tv_lst tv_call tv_mAnd tv_mOr tv_and tv_comp tv_compN tv_compC tv_yes to_next to_cont to_ret to_retO to_hold to_frzD to_retT tv_ownD tv_callT holdQ_nx holdQ_rt holdQ_ro tv_holdE tv_dkeys tv_ditems tv_sort tv_sortD to_io2 to_setO to_setD to_retDp tv_deep tv_still tv_fz to_asgN to_asg to_if to_for to_retOw to_app to_frz tv_neg tv_newD tv_viewD tv_viewDN tv_dget1 tv_opDGet tv_opDIn tv_opDNotIn tv_dictP tv_ofR tv_mulL to_dput dF_int dF_str dF_tup isD_dk isD_dt is_dk_int is_dk_str tv_lstI finIO_nx tv_sub tv_and' tv_or' tv_ge tv_div tv_mod tv_pow tv_shl tv_shr tv_add tv_addS tv_addT tv_lt tv_ltS tv_eqI tv_eqS tv_neI tv_neS tv_eq tv_ne tv_notin tv_notN tv_ixL tv_ixT tv_ixV tv_ixS tv_lenS tv_lenL tv_lenT tv_asBl tv_max tv_min tv_list tv_asSeqL tv_asSeqT tv_asSeqS tv_rng1 tv_pn tv_asInt tv_slK startR fin_nx fin_rt finO_ro finT_rd gN gT gsCons gsNil szP cellP List.map_cons List.map_nil List.replicate_succ List.replicate_zero List.cons_append List.nil_append List.append_nil List.getElem?_cons_zero List.getElem?_cons_succ List.set_cons_zero List.set_cons_succ List.length_cons List.length_nil Nat.zero_le true_and and_true Option.some.injEq Sl.sh.injEq Sl.ow.injEq Sl.dp.injEq Res.ok.injEq PV.int.injEq PV.str.injEq PV.bl.injEq PV.lst.injEq PV.tup.injEq exists_eq_left' exists_eq_left exists_eq and_assoc exists_and_left if_true if_false not_true_eq_false not_false_eq_true Bool.false_eq_true Bool.not_true Bool.not_false decide_eq_true_eq Bool.not_eq_true' decide_eq_false_iff_not reduceCtorEq is_non_int is_non_bool is_non_str is_non_list is_non_tuple is_non_dict is_bl_int is_bl_bool is_bl_str is_bl_list is_bl_tuple is_bl_dict is_int_int is_int_bool is_int_str is_int_list is_int_tuple is_int_dict is_str_int is_str_bool is_str_str is_str_list is_str_tuple is_str_dict is_tup_int is_tup_bool is_tup_str is_tup_list is_tup_tuple is_tup_dict is_lst_int is_lst_bool is_lst_str is_lst_list is_lst_tuple is_lst_dict Int.reduceAdd Int.reduceSub Int.reduceMul Int.reduceNeg Int.reduceToNat atI_0 atI_1 atI_2 atI_3 snocI snocS snocC eqF_int eqF_str eqF_bl frR shOnly".splitOn " ").toArray.map λs=>Lean.mkIdent s.toName
 `(tactic| simp(maxSteps:=2000000) only[$[$ids:ident],*])
theorem xH{f:PV->PV->Option Bool}:∀ {l:List PV},(∀ x∈l,f x x=some true)->eqL f l l=some true
 |[],_=>rfl
 |x::xs,h=>by rw[eqL,h x Zaj,xH λy hy=>h y (Zak _ hy)];rfl
theorem xJ{n:Nat}{l:List PV}(h:∀ x∈l,eqF n x x=some true):eqF (n+1) (.lst l) (.lst l)=some true:=by
 exact(Zat rfl).trans (xH h)
theorem xK(n:Nat)(z:Int):eqF n (.int z) (.int z)=some true:=by rw[eqF_int,decide_eq_true rfl]
theorem Ah{α:Type}{j:Nat}{tst:Fn Bool}{el:Fn PV}{Zb:Rho}(g f:α->PV)(t:α->Bool):∀ (l:List α),(∀ a∈l,Tv (tst (Zb.set j (some (.sh (g a))))) λb=>b=t a)->(∀ a∈l,t a=true->Tv (el (Zb.set j (some (.sh (g a))))) λp=>p=f a)->d8 (gN j) tst el Zb (l.map g)=some (.ok ((l.filter t).map f))
 |[],_,_=>rfl
 |a::l,h,h2=>by
  have e0:=iR (h a Zaj);have ih:=Ah g f t l (λb hb=>h b (Zak _ hb)) λb hb=>h2 b (Zak _ hb);rw[Zaw,d8];simp only[gN,bnd,e0,ih];cases ht:t a with
  |true=>
   have e1:=iR (h2 a Zaj ht);simp only[ZbE,e1,Zbj,ht,Zaw]
  |false=>simp only[Zby,Zbb,Zbj,ht]
theorem Cy(a b:Nat):Builtin.bitOr (a:Int) (b:Int)=((a ||| b:Nat):Int):=by
 have n1:∀ x:Nat,¬0<=Builtin.bitNot (x:Int):=λx=>by unfold Builtin.bitNot;omega
 unfold Builtin.bitOr;rw[bitAnd_nn (n1 a) (n1 b),bitNot_bitNot,bitNot_bitNot,bitNot_bitNot,ZaN,ZaN]
theorem IW{lo:Int}{n i:Nat}{x:PV}(h:(pF lo n)[i]?=some x):i<n/\x=.int (lo+(i:Int)):=by
 have hi:i<n:=by simpa[pF] using bI h
 unfold pF at h;rw[Zaf,ZaU hi] at h;exact⟨hi,(Zac h).symm⟩
theorem cu:∀ {l k:List Nat},l.Nodup->(∀ x∈l,x∈k)->l.length<=k.length
 |[],k,_,_=>ZaW _
 |a::l,k,nd,h=>by
  have ha:a∈k:=h a Zaj;have nd':=ZaM.mp nd;have:=cu (l:=l) (k:=k.erase a) nd'.2 λx hx=>(List.mem_erase_of_ne (λe:x=a=>nd'.1 (by rw[<-e];exact hx))).mpr (h x (Zak _ hx))
  rw[List.length_erase_of_mem ha] at this;have:0<k.length:=List.length_pos_of_mem ha;simp only[ZaJ];lia
structure Mt(G:Nat->Nat->Prop)(m:Nat->Option Nat):Prop where
 ok:∀ {j i},m j=some i->i<j/\G i j
 inj:∀ {j k i},m j=some i->m k=some i->j=k
inductive Anc(m:Nat->Option Nat):Nat->Nat->Prop
 |one {i j} (h:m j=some i):Anc m i j
 |more {i j k} (h:m j=some k) (a:Anc m i k):Anc m i j
section
variable{G:Nat->Nat->Prop}{m:Nat->Option Nat}
theorem Anc.rel(M:Mt G m)(tr:∀ {i j k},G i j->G j k->G i k){i j:Nat}(a:Anc m i j):G i j:=by
 induction a with
 |one h=>exact(M.ok h).2
 |more h _ ih=>exact tr ih (M.ok h).2
theorem Anc.of(M:Mt G m){i j:Nat}(a:Anc m i j):∃ x,x<=j/\m x=some i:=by
 induction a with
 |one h=>exact⟨_,Zal _,h⟩
 |more h _ ih=>obtain⟨x,h1,h2⟩:=ih;exact⟨x,by have:=(M.ok h).1;omega,h2⟩
theorem Ai(M:Mt G m):∀ j,∃ r,m r=none/\(r=j\/Anc m r j):=by
 intro j;induction j using Nat.strongRecOn with
 |_ j ih=>
  cases h:m j with
  |none=>exact⟨j,h,.inl rfl⟩
  |some i=>
   obtain⟨r,h1,h2⟩:=ih i (M.ok h).1;refine⟨r,h1,.inr ?_⟩;rcases h2 with rfl|h2
   ·exact .one h
   ·exact .more h h2
theorem ug(M:Mt G m){r:Nat}(hr:m r=none):∀ j i,i<j->(r=i\/Anc m r i)->(r=j\/Anc m r j)->Anc m i j:=by
 intro j;induction j using Nat.strongRecOn with
 |_ j ih=>
  intro i hij hi hj;have le:∀ {a b:Nat},Anc m a b->a<b:=λ{a b} h=>by
   induction h with
   |one h=>exact(M.ok h).1
   |more h _ ih=>have:=(M.ok h).1;omega
  rcases hj with rfl|hj
  ·rcases hi with rfl|hi
   ·omega
   ·have:=le hi;omega
  ·obtain⟨k,hk,hrk⟩:∃ k,m j=some k/\(r=k\/Anc m r k):=by
    cases hj with
    |one h=>exact⟨r,h,.inl rfl⟩
    |more h a=>exact⟨_,h,.inr a⟩
   have kj:=(M.ok hk).1;rcases ZbV i k with h|h|h
   ·exact .more hk (ih k kj i h hi hrk)
   ·subst h;exact .one hk
   ·obtain⟨x,h1,h2⟩:=(ih i hij k h hrk hi).of M;have:=M.inj h2 hk;omega
theorem N5(M:Mt G m)(tr:∀ {i j k},G i j->G j k->G i k){n:Nat}{A:List Nat}(nd:A.Nodup)(lt:∀ a∈A,a<n)(ap:∀ a∈A,∀ b∈A,a<b->¬G a b) :
  A.length<=((List.range n).filter λj=>(m j).isNone).length:=by
 have le:∀ {a b:Nat},Anc m a b->a<b:=λ{a b} h=>by
  induction h with
  |one h=>exact(M.ok h).1
  |more h _ ih=>have:=(M.ok h).1;omega
 have:∃ f:Nat->Nat,∀ j,m (f j)=none/\(f j=j\/Anc m (f j) j):=⟨λj=>Classical.choose (Ai M j),λj=>Classical.choose_spec (Ai M j)⟩;obtain⟨f,hf⟩:=this;have inj:∀ a∈A,∀ b∈A,f a=f b->a=b:=λa ha b hb e=>by
  rcases ZbV a b with h|h|h
  ·exact absurd ((ug M (hf a).1 b a h (hf a).2 (by rw[e];exact(hf b).2)).rel M tr) (ap a ha b hb h)
  ·exact h
  ·exact absurd ((ug M (hf b).1 a b h (hf b).2 (by rw[<-e];exact(hf a).2)).rel M tr) (ap b hb a ha h)
 have nd2:(A.map f).Nodup:=by
  rw[List.Nodup,ZaV];exact nd.imp_of_mem λ{a b} ha hb hne e=>hne (inj a ha b hb e)
 have:=cu (l:=A.map f) (k:=(List.range n).filter λj=>(m j).isNone) nd2 λx hx=>by
  obtain⟨a,ha,rfl⟩:=Zay.mp hx;refine ZaL.mpr ⟨ZaI.mpr ?_,by rw[(hf a).1];rfl⟩
  rcases(hf a).2 with e|e
  ·rw[e];exact lt a ha
  ·exact ZbA (le e) (lt a ha)
 simpa using this
end
noncomputable abbrev Dg:PV:=.dk []
noncomputable abbrev Ja:PV->Option (Res PV):=nA
def lk:List (Nat×Nat)->Nat->Option Nat
 |[],_=>none
 |p::l,k=>if p.1=k then some p.2 else lk l k
def ptN:List (Nat×Nat)->Nat->Nat->List (Nat×Nat)
 |[],k,v=>[(k,v)]
 |p::l,k,v=>if p.1=k then(k,v)::l else p::ptN l k v
theorem cQ(k v j:Nat):∀ l,lk (ptN l k v) j=if j=k then some v else lk l j
 |[]=>by
  unfold ptN lk lk;by_cases h:j=k
  ·rw[Zat h,Zat h.symm]
  ·rw[Zax h,Zax (Zbm h)]
 |p::l=>by
  unfold ptN;by_cases h:p.1=k
  ·rw[Zat h];unfold lk;by_cases hj:j=k
   ·rw[Zat hj,Zat hj.symm]
   ·rw[Zax hj,Zax (Zbm hj),Zax (λe=>hj (e.symm.trans h))]
  ·rw[Zax h];unfold lk;rw[cQ k v j l];by_cases hj:j=k
   ·rw[Zat hj,Zax (λe=>h (e.trans hj)),Zat hj]
   ·simp only[Zax hj]
theorem FT(k v:Nat):∀ l,lk l k=none->ptN l k v=l++[(k,v)]
 |[],_=>rfl
 |p::l,h=>by
  unfold lk at h;split at h
  ·cases h
  ·rename_i hp;unfold ptN;rw[Zax hp,FT k v l h];rfl
theorem lg{k:Nat}:∀ {l},lk l k=none↔k ∉ l.map (·.1)
 |[]=>by simp[lk]
 |p::l=>by
  unfold lk;by_cases h:p.1=k
  ·simp[h]
  ·rw[Zax h,lg];simp[Zbm h]
theorem zc{k v:Nat}:∀ {l},lk l k=some v->(k,v)∈l
 |p::l,h=>by
  unfold lk at h;split at h
  ·rename_i hp;cases h;subst hp;exact Zaj
  ·exact Zak _ (zc h)
theorem xM{k v:Nat}:∀ {l:List (Nat×Nat)},(l.map (·.1)).Nodup->(k,v)∈l->lk l k=some v
 |p::l,nd,h=>by
  rw[Zaw,ZaM] at nd;unfold lk;rcases Zaq.mp h with e|h
  ·subst e;rw[Zat rfl]
  ·rw[Zax λe=>nd.1 (by rw[e];exact Zay.mpr ⟨_,h,rfl⟩)];exact xM nd.2 h
theorem p7(k v:Nat):∀ l,(ptN l k v).map (·.1)=if lk l k=none then l.map (·.1)++[k] else l.map (·.1)
 |[]=>rfl
 |p::l=>by
  unfold ptN lk;by_cases h:p.1=k
  ·rw[Zat h,Zat h];simp[h]
  ·rw[Zax h,Zax h,Zaw,p7 k v l];split<;>simp
theorem zf(k v:Nat)(l:List (Nat×Nat)):(ptN l k v).length<=l.length+1:=by
 have:=Zba List.length (p7 k v l);rw[Zab] at this;rw[this];split<;>simp
def kvQ{κ:Type}(fk:Nat->κ)(fv:Nat->PV)(l:List (Nat×Nat)):List (κ×PV):=l.map λp=>(fk p.1,fv p.2)
theorem j5{κ:Type}[DecidableEq κ]{fk:Nat->κ}{fv:Nat->PV}(inj:∀ a b,fk a=fk b->a=b)(k:Nat):∀ l,gO (kvQ fk fv l) (fk k)=(lk l k).map fv
 |[]=>rfl
 |p::l=>by
  show gO ((fk p.1,fv p.2)::kvQ fk fv l) _=_
  unfold gO lk;by_cases h:p.1=k
  ·subst h;rw[Zat rfl,Zat rfl];rfl
  ·rw[Zax (λe=>h (inj _ _ e)),Zax h];exact j5 inj k l
theorem rH{κ:Type}[DecidableEq κ]{fk:Nat->κ}{fv:Nat->PV}(inj:∀ a b,fk a=fk b->a=b)(k v:Nat):∀ {l:List (Nat×Nat)},(l.map (·.1)).Nodup->jU (kvQ fk fv l) (fk k) (fv v)=kvQ fk fv (ptN l k v)
 |[],_=>rfl
 |p::l,nd=>by
  rw[Zaw,ZaM] at nd;show jU ((fk p.1,fv p.2)::kvQ fk fv l) _ _=_
  unfold jU ptN;by_cases h:p.1=k
  ·subst h;have:((kvQ fk fv l).any λe=>decide (e.1=fk p.1))=false:=by
    rw[List.any_eq_false];intro x hx;obtain⟨q,hq,rfl⟩:=Zay.mp hx;simp only[decide_eq_true_eq];exact λe=>nd.1 (by rw[<-inj _ _ e];exact Zay.mpr ⟨q,hq,rfl⟩)
   rw[Zat rfl,Zat rfl,this];rfl
  ·rw[Zax (λe=>h (inj _ _ e)),Zax h,rH inj k v nd.2];rfl
theorem Aj{κ:Type}{fk:Nat->κ}{fv:Nat->PV}(l:List (Nat×Nat)):(kvQ fk fv l).length=l.length:=by simp[kvQ]
def iK(a:Nat):Key:=.inl (a:Int)
def iV(a:Nat):PV:=.int (a:Int)
theorem oN(a b:Nat)(e:iK a=iK b):a=b:=by have:=Sum.inl.inj e;omega
theorem JW{a b:Nat}(h:a≠b):(Sum.inl (a:Int):Key)≠.inl (b:Int):=λe=>h (by have:=Sum.inl.inj e;omega)
structure Gv where
 gv:Nat->PV
 GD:List (Nat×Nat)->PV
 srtd:List (Nat×Nat)->List PV
 still:∀ g,(gv g).still=true
 nn:∀ g,(gv g).tR=false
 nil:GD []=Dg
 isD:∀ l,(GD l).isD=true
 sh:∀ l,PV.kZ (GD l)=true
 find:∀ l g,dU (GD l) (gv g)=some ((lk l g).map iV)
 put:∀ l g a,(l.map (·.1)).Nodup->l.length<sizeLine->uT (GD l) (gv g) (iV a)=some (GD (ptN l g a))
 srt:∀ l (Q:PV->Prop),l.length<64->Q (.lst (srtd l))->Tv (Ja (GD l)) Q
def Gv.GA(G:Gv)(l:List (Nat×Nat)):PV:=.dk (kvQ iK G.gv l)
def Gv.GL(G:Gv)(l:List Nat):List PV:=l.map G.gv
theorem Gv.Nf(G:Gv)(l:List (Nat×Nat))(a:Nat):dU (G.GA l) (.int (a:Int))=some ((lk l a).map G.gv):=by
 unfold Gv.GA;rw[dF_int];exact Zba some (j5 oN a l)
theorem Gv.N6(G:Gv){l:List (Nat×Nat)}{a g:Nat}(nd:(l.map (·.1)).Nodup)(h:l.length<sizeLine):uT (G.GA l) (.int (a:Int)) (G.gv g)=some (G.GA (ptN l a g)):=by
 unfold Gv.GA;rw[zb,Zat (by rw[Aj];exact h)];exact Zba (λz=>some (PV.dk z)) (rH oN a g nd)
def aC(l:List Nat):List PV:=l.map λ(n:Nat)=>.int (n:Int)
theorem jr(l:List Nat):PV.kZ (.lst (aC l))=true:=Za2.mpr λp hp=>by
 obtain⟨n,_,rfl⟩:=Zay.mp hp;rfl
def wiP(G:Gv)(n:Nat)(W:Nat->List Nat):PV:=.dk ((List.range n).map λ(i:Nat)=>((.inl (i:Int):Key),PV.lst (G.GL (W i))))
theorem rJ{f:Nat->PV}{k:Nat}:∀ {l:List Nat},k∈l->gO (l.map λ(i:Nat)=>((.inl (i:Int):Key),f i)) (.inl (k:Int))=some (f k)
 |i::l,h=>by
  rw[Zaw];unfold gO;by_cases e:i=k
  ·subst e;rw[Zat rfl]
  ·rw[Zax (JW e)];exact rJ ((Zaq.mp h).resolve_left (Zbm e))
theorem Ng{G:Gv}{n k:Nat}{W:Nat->List Nat}(h:k<n):dU (wiP G n W) (.int (k:Int))=some (some (.lst (G.GL (W k)))):=by
 unfold wiP;rw[dF_int,rJ (f:=λi=>.lst (G.GL (W i))) (ZaI.mpr h)]
structure Wk(n:Nat)(W:Nat->List Nat)(B:List (Nat×Nat))(S R:List Nat)(cb:List (Nat×Nat)):Prop where
 eq:R=S++cb.map λp=>(lk B p.1).getD 0
 pr:∀ p∈cb,lk B p.1≠none
 nd:(cb.map (·.1)).Nodup
 wish:∀ p∈cb,p.1∈W p.2
 back:∀ (k:Nat) p,cb[k]?=some p->∃ i,i<S.length+k/\R[i]?=some p.2
 lt:∀ a∈R,a<n
section
variable{n:Nat}{W:Nat->List Nat}{B:List (Nat×Nat)}{S R:List Nat}{cb:List (Nat×Nat)}
theorem Wk.len(h:Wk n W B S R cb):R.length=S.length+cb.length:=by rw[h.eq];simp
theorem Wk.rK{N:Nat}(h:Wk n W B S R cb)(wl:∀ i g,g∈W i->g<N):cb.length<=N:=by
 have:=cu (l:=cb.map (·.1)) (k:=List.range N) h.nd λx hx=>by
  obtain⟨p,hp,rfl⟩:=Zay.mp hx;exact ZaI.mpr (wl _ _ (h.wish p hp))
 simpa using this
theorem Wk.start(h:∀ a∈S,a<n):Wk n W B S S []:=⟨by simp,λp h=>by simp at h,by simp,λp h=>by simp at h,λk p e=>by simp at e,h⟩
theorem Wk.more(h:Wk n W B S R cb){a g b i:Nat}(ha:R[i]?=some a)(hg:g∈W a)(hn:lk cb g=none)(hb:lk B g=some b)(bl:b<n):Wk n W B S (R++[b]) (cb++[(g,a)]) where
 eq:=by rw[Za1,Zaw,Zci,hb,<-Za3,<-h.eq];rfl
 pr:=λp hp=>by
  rcases ZaG.mp hp with hp|hp
  ·exact h.pr p hp
  ·simp at hp;subst hp;rw[hb];simp
 nd:=by
  rw[Za1,Zbl];refine⟨h.nd,by simp,λx hx y hy=>?_⟩
  simp at hy;subst hy;exact λe=>lg.mp hn (e▸hx)
 wish:=λp hp=>by
  rcases ZaG.mp hp with hp|hp
  ·exact h.wish p hp
  ·simp at hp;subst hp;exact hg
 back:=λk p e=>by
  have hl:=h.len;by_cases hk:k<cb.length
  ·rw[Zah hk] at e;obtain⟨j,h1,h2⟩:=h.back k p e;refine⟨j,h1,?_⟩;rw[Zah (by omega)];exact h2
  ·rw[Zap (by omega)] at e
   have:k=cb.length:=by
    rcases Zcx (k-cb.length) 1 with q|q
    ·omega
    ·rw[ZaF (by simpa using q)] at e;cases e
   subst this;simp at e;subst e;have hi:i<R.length:=(Zad.mp ha).1;exact⟨i,by omega,by rw[Zah hi];exact ha⟩
 lt:=λx hx=>by
  rcases ZaG.mp hx with hx|hx
  ·exact h.lt x hx
  ·simp at hx;subst hx;exact bl
end
def gvP(G:Gv):Option Nat->PV
 |none=>.non
 |some g=>G.gv g
def Nh(n:Nat)(W:Nat->List Nat)(B:List (Nat×Nat))(S:List Nat)(g:Option Nat)(R:List Nat)(cb:List (Nat×Nat)):Prop:=
 match g with
 |none=>Wk n W B S R cb/\∀ a∈R,∀ x∈W a,x∈cb.map (·.1)
 |some g=>∃ (cb':List (Nat×Nat)) (a i:Nat),cb=cb'++[(g,a)]/\Wk n W B S R cb'/\R[i]?=some a/\g∈W a/\lk cb' g=none/\lk B g=none
theorem Cz{l:List Nat}{i:Nat}{x:PV}(h:(aC l)[i]?=some x):∃ g,l[i]?=some g/\x=.int (g:Int):=by
 unfold aC at h;rw[Zaf] at h;cases e:l[i]? with
 |none=>rw[e] at h;cases h
 |some g=>rw[e] at h;cases h;exact⟨g,rfl,rfl⟩
theorem Ln{G:Gv}{l:List Nat}{i:Nat}{x:PV}(h:(G.GL l)[i]?=some x):∃ g,l[i]?=some g/\x=G.gv g:=by
 unfold Gv.GL at h;rw[Zaf] at h;cases e:l[i]? with
 |none=>rw[e] at h;cases h
 |some g=>rw[e] at h;cases h;exact⟨g,rfl,rfl⟩
theorem lq(l:List Nat)(b:Nat):aC l++[.int (b:Int)]=aC (l++[b]):=by simp[aC]
theorem gW{l:List Nat}{i a:Nat}(h:l[i]?=some a):atI (aC l) (i:Int)=some (.int (a:Int)):=by
 exact j8 (by unfold aC;rw[Zaf,h];rfl)
theorem uh{G:Gv}{n N:Nat}{W:Nat->List Nat}{B:List (Nat×Nat)}{S:List Nat}(hN:N<=120)(hS:S.length<=60)(sl:∀ a∈S,a<n)(wl:∀ i g,g∈W i->g<N)(bl:∀ g b,lk B g=some b->b<n) :
  ∃ g R cb,gU [wiP G n W,G.GD B,.lst (aC S)]=some (.ok (.tup [gvP G g,.lst (aC R),G.GD cb]))/\Nh n W B S g R cb:=by
 have big:∀ {k:Nat},k<=900->k<sizeLine:=λh=>bY (by lia)
 suffices h:∃ p,gU [wiP G n W,G.GD B,.lst (aC S)]=some (.ok p)/\∃ g R cb,p=.tup [gvP G g,.lst (aC R),G.GD cb]/\Nh n W B S g R cb by
  obtain⟨p,e,g,R,cb,rfl,h⟩:=h;exact⟨g,R,cb,e,h⟩
 refine Ab ?_;unfold rG;rw[show startR [wiP G n W,G.GD B,.lst (aC S)] 5=[some (.sh (wiP G n W)),some (.sh (G.GD B)),some (.sh (.lst (aC S))),none,none,none,none,none] from rfl];walk_at "rd"
 refine q9 (n:=199) (I:=λk Z=>∃ (R:List Nat) (cb:List (Nat×Nat)) (pl:Nat) (v6 v7:Option Sl),Z=[some (.sh (wiP G n W)),some (.sh (G.GD B)),some (.sh (.lst (aC S))),some (.ow (.lst (aC R))),some (.ow (G.GD cb)),some (.sh (.int (pl:Int))),v6,v7]/\k+pl=199/\pl<=R.length/\Wk n W B S R cb/\∀ i a,i<pl->R[i]?=some a->∀ x∈W a,x∈cb.map (·.1)) ⟨S,[],0,none,none,by rw[G.nil];rfl,rfl,ZaW _,Wk.start sl,λi a h=>absurd h (Zbd _)⟩ ?_
 rintro k Z ⟨R,cb,pl,v6,v7,rfl,hk,hpl,hw,hc⟩;have hR:=hw.len;have hcb:=hw.rK wl;walk_at "rd"
 by_cases hlt:(pl:Int)<((aC R).length:Int)
 case neg=>
  rw[Zax hlt];have hpl2:pl=R.length:=by simp only[aC,Zab] at hlt;lia
  unfold rF;walk_at "rd"
  refine⟨rfl,jr R,G.sh cb,ZaA (big (by lia)),none,R,cb,rfl,hw,λa ha x hx=>?_⟩
  obtain⟨i,hi⟩:=ZaP ha;exact hc i a (by rw[hpl2];exact(Zad.mp hi).1) hi x hx
 case pos=>
  rw[Zat hlt];have hp2:pl<R.length:=by simp only[aC,Zab] at hlt;lia
  obtain⟨a,ha⟩:∃ a,R[pl]?=some a:=⟨_,Zaa hp2⟩;have al:a<n:=hw.lt a (Zao ha);refine⟨by lia,?_⟩
  unfold rE;walk_at "rd"
  refine⟨.int (a:Int),gW ha,rfl,_,Ng al,?_⟩;rw[tv_asSeqL];refine gR (I:=λj Z=>∃ (R:List Nat) (cb:List (Nat×Nat)) (v7:Option Sl),Z=[some (.sh (wiP G n W)),some (.sh (G.GD B)),some (.sh (.lst (aC S))),some (.ow (.lst (aC R))),some (.ow (G.GD cb)),some (.sh (.int (pl:Int))),some (.sh (.int (a:Int))),v7]/\R[pl]?=some a/\Wk n W B S R cb/\(∀ i a,i<pl->R[i]?=some a->∀ x∈W a,x∈cb.map (·.1))/\∀ i x,i<j->(W a)[i]?=some x->x∈cb.map (·.1)) ⟨R,cb,v7,rfl,ha,hw,hc,λi x h=>absurd h (Zbd _)⟩ ?_ ?_
  case refine_2=>
   rintro Z ⟨R,cb,v7,rfl,ha,hw,hc,hj⟩;have hR:=hw.len;have hcb:=hw.rK wl;have hp3:pl<R.length:=(Zad.mp ha).1;walk_at "rd"
   unfold rD;walk_at "rd"
   refine⟨R,cb,pl+1,some (.sh (.int a)),v7,by simp,by lia,hp3,hw,λi b hi hb x hx=>?_⟩
   by_cases e:i=pl
   ·subst e;rw[ha] at hb;cases hb;obtain⟨i,hi⟩:=ZaP hx;exact hj i x (by simpa[Gv.GL] using(Zad.mp hi).1) hi
   ·exact hc i b (by lia) hb x hx
  rintro j y Z ey ⟨R,cb,v7,rfl,ha,hw,hc,hj⟩;obtain⟨g,eg,rfl⟩:=Ln ey;have hR:=hw.len;have hcb:=hw.rK wl;have hg:g∈W a:=Zao eg;unfold rC;walk_at "rd"
  refine⟨G.isD _,_,G.find _ _,?_⟩;cases hk2:lk cb g with
  |some z=>
   rw[Zbc,ZbL,Zat rfl];refine⟨R,cb,_,rfl,ha,hw,hc,λi x hi hx=>?_⟩;by_cases e:i=j
   ·subst e;rw[eg] at hx;cases hx;exact Zay.mpr ⟨_,zc hk2,rfl⟩
   ·exact hj i x (by lia) hx
  |none=>
   rw[ZcA,Zck,Zax (by decide)]
   unfold rB;walk_at "rd"
   refine⟨_,G.put _ _ _ hw.nd (big (by lia)),G.isD _,_,G.find _ _,?_⟩
   rw[FT _ _ _ hk2];cases hb:lk B g with
   |none=>
    rw[ZcA,Zck,Zat (by decide)]
    unfold rm;walk_at "rd"
    exact⟨G.still g,jr R,G.sh _,ZaA (big (by lia)),some g,R,_,rfl,cb,a,pl,rfl,hw,ha,hg,hk2,hb⟩
   |some b=>
    rw[Zbc,ZbL,Zax (by decide)]
    unfold rA;walk_at "rd"
    have hp3:pl<R.length:=(Zad.mp ha).1;have sub:∀ x,x∈cb.map (·.1)->x∈(cb++[(g,a)]).map (·.1):=λx hx=>by rw[Za1];exact Zbk _ hx
    refine⟨G.isD _,.int (b:Int),by rw[G.find,hb];rfl,by simp only[aC,Zab];exact big (by lia),R++[b],cb++[(g,a)],_,by rw[lq],by rw[Zah hp3];exact ha,hw.more ha hg hk2 hb (bl g b hb),λi c hi hc' x hx=>?_,λi x hi hx=>?_⟩
    ·rw[Zah (by lia)] at hc'
     exact sub x (hc i c hi hc' x hx)
    ·by_cases e:i=j
     ·subst e;rw[eg] at hx;cases hx;simp
     ·exact sub x (hj i x (by lia) hx)
structure Pm(n:Nat)(W:Nat->List Nat)(A B:List (Nat×Nat)):Prop where
 ndA:(A.map (·.1)).Nodup
 ndB:(B.map (·.1)).Nodup
 iff:∀ a g,lk A a=some g↔lk B g=some a
 ok:∀ {a g},lk A a=some g->g∈W a/\a<n
structure Bk(n:Nat)(W:Nat->List Nat)(B:List (Nat×Nat))(s:Nat)(cb:List (Nat×Nat)):Prop where
 nd:(cb.map (·.1)).Nodup
 wish:∀ p∈cb,p.1∈W p.2
 back:∀ (k:Nat) p,cb[k]?=some p->p.2=s\/∃ (j:Nat) (q:Nat×Nat),j<k/\cb[j]?=some q/\lk B q.1=some p.2
 lt:∀ p∈cb,p.2<n
theorem Wk.bk{n:Nat}{W:Nat->List Nat}{B:List (Nat×Nat)}{s:Nat}{R:List Nat}{cb:List (Nat×Nat)}(h:Wk n W B [s] R cb){g a i:Nat}(ha:R[i]?=some a)(hg:g∈W a)(hn:lk cb g=none):Bk n W B s (cb++[(g,a)]) where
 nd:=by
  rw[Za1,Zbl];refine⟨h.nd,by simp,λx hx y hy=>?_⟩
  simp at hy;subst hy;exact λe=>lg.mp hn (e▸hx)
 wish:=λp hp=>by
  rcases ZaG.mp hp with hp|hp
  ·exact h.wish p hp
  ·simp at hp;subst hp;exact hg
 back:=λk p e=>by
  have hl:=h.len;obtain⟨j,hj,ej⟩:∃ j,j<1+k/\R[j]?=some p.2:=by
   by_cases hk:k<cb.length
   ·rw[Zah hk] at e;exact h.back k p e
   ·rw[Zap (by lia)] at e
    have:k=cb.length:=by
     rcases Zcx (k-cb.length) 1 with q|q
     ·lia
     ·rw[ZaF (by simpa using q)] at e;cases e
    subst this;simp at e;subst e;have hi:i<R.length:=(Zad.mp ha).1;exact⟨i,by simp at hl;lia,ha⟩
  have hjR:j<R.length:=(Zad.mp ej).1;rw[h.eq] at ej;cases j with
  |zero=>left;simpa using ej.symm
  |succ j=>
   right
   rw[Zap (by simp)] at ej
   simp only[ZaJ,List.length_nil,Nat.zero_add,Nat.add_sub_cancel,Zaf] at ej;cases q:cb[j]? with
   |none=>rw[q] at ej;cases ej
   |some p'=>
    rw[q] at ej;have ej:some ((lk B p'.1).getD 0)=some p.2:=ej;have hp':=h.pr p' (Zao q);have jl:j<cb.length:=(Zad.mp q).1;refine⟨j,p',by lia,by rw[Zah jl];exact q,?_⟩
    cases z:lk B p'.1 with
    |none=>exact absurd z hp'
    |some b=>rw[z] at ej;exact Zba some (Zac ej)
 lt:=λp hp=>by
  rcases ZaG.mp hp with hp|hp
  ·obtain⟨k,hk⟩:=ZaP hp;obtain⟨j,_,ej⟩:=h.back k p hk;exact h.lt _ (Zao ej)
  ·simp at hp;subst hp;exact h.lt _ (Zao ha)
structure Jp(n N:Nat)(W:Nat->List Nat)(A0 B0:List (Nat×Nat))(s:Nat)(cb:List (Nat×Nat))(Dd:Nat->Prop)(k x:Nat)(A B:List (Nat×Nat)):Prop where
 ndA:(A.map (·.1)).Nodup
 ndB:(B.map (·.1)).Nodup
 kA:∀ a∈A.map (·.1),a<n
 kB:∀ a∈B.map (·.1),a<N
 old:∀ (i:Nat) p b,i<k->cb[i]?=some p->lk A0 b=some p.1->lk A b=some p.1
 st:lk A s=none
 iff:∀ a g,g≠x->(lk A a=some g↔lk B g=some a)
 no:∀ a,lk A a≠some x
 ok:∀ {a g},lk A a=some g->g∈W a/\a<n
 xd:∀ d,Dd d->lk B0 x≠some d
 bd:∀ g d,Dd d->lk B0 g=some d->lk B g=some d
 more:∀ b,lk A0 b≠none->lk A b≠none
 less:∀ b,lk A b≠none->lk A0 b≠none
def eQ(W:Nat->List Nat)(B:List (Nat×Nat))(Dd:Nat->Prop):Prop:=∀ d,Dd d->∀ g∈W d,∃ d',lk B g=some d'/\Dd d'
section
variable{n N:Nat}{W:Nat->List Nat}{A0 B0 A B:List (Nat×Nat)}{s k x a:Nat}{cb:List (Nat×Nat)}{Dd:Nat->Prop}
theorem rM{l:List (Nat×Nat)}(h:(l.map (·.1)).Nodup)(k v:Nat):((ptN l k v).map (·.1)).Nodup:=by
 rw[p7];split
 ·rename_i e;rw[Zbl];refine⟨h,by simp,λx hx y hy=>?_⟩
  simp at hy;subst hy;exact λz=>lg.mp e (z▸hx)
 ·exact h
theorem Ak{l:List (Nat×Nat)}{k v n:Nat}(h:∀ a∈l.map (·.1),a<n)(hk:k<n):∀ a∈(ptN l k v).map (·.1),a<n:=by
 rw[p7];split
 ·intro a ha;rcases ZaG.mp ha with ha|ha
  ·exact h a ha
  ·simp at ha;subst ha;exact hk
 ·exact h
theorem nM{l:List (Nat×Nat)}{n:Nat}(nd:(l.map (·.1)).Nodup)(h:∀ a∈l.map (·.1),a<n):l.length<=n:=by
 have:=cu (l:=l.map (·.1)) (k:=List.range n) nd λx hx=>ZaI.mpr (h x hx);simpa using this
theorem Jp.last(P:Pm n W A0 B0)(b:Bk n W B0 s cb)(c:eQ W B0 Dd)(j:Jp n N W A0 B0 s cb Dd k x A B)(e:cb[k]?=some (x,a))(hl:lk A a=none):Pm n W (ptN A a x) (ptN B x a)/\lk (ptN A a x) s≠none/\(∀ b,lk A0 b≠none->lk (ptN A a x) b≠none)/\(∀ b,lk (ptN A a x) b≠none->b=s\/lk A0 b≠none)/\eQ W (ptN B x a) Dd:=by
 have xa:x∈W a:=b.wish _ (Zao e);have as:a=s:=by
  rcases b.back k _ e with h|⟨i,q,hi,eq,hq⟩
  ·exact h
  ·exact absurd hl (j.more a (by rw[(P.iff _ _).mpr hq];simp))
 refine⟨⟨rM j.ndA _ _,rM j.ndB _ _,λb' g=>?_,λ{b' g} h=>?_⟩,by rw[cQ,Zat as.symm];simp,λb' hb=>?_,λb' hb=>?_,λd hd g hg=>?_⟩
 ·rw[cQ,cQ];by_cases hb:b'=a
  ·subst hb;rw[Zat rfl];by_cases hx:g=x
   ·subst hx;simp
   ·rw[Zax hx];refine⟨λz=>absurd (Zac z).symm hx,λz=>?_⟩;rw[(j.iff _ _ hx).mpr z] at hl;cases hl
  ·rw[Zax hb];by_cases hx:g=x
   ·subst hx;rw[Zat rfl];exact⟨λz=>absurd z (j.no b'),λz=>absurd (Zac z).symm hb⟩
   ·rw[Zax hx];exact j.iff _ _ hx
 ·rw[cQ] at h;split at h
  ·rename_i hb;cases h;subst hb;exact⟨xa,b.lt _ (Zao e)⟩
  ·exact j.ok h
 ·rw[cQ];split
  ·simp
  ·exact j.more b' hb
 ·rw[cQ] at hb;split at hb
  ·rename_i e';exact .inl (e'.trans as)
  ·exact .inr (j.less b' hb)
 ·obtain⟨d',h1,h2⟩:=c d hd g hg;refine⟨d',?_,h2⟩;rw[cQ,Zax λz=>by subst z;exact j.xd d' h2 h1]
  exact j.bd g d' h2 h1
theorem Jp.step(P:Pm n W A0 B0)(wl:∀ i g,g∈W i->g<N)(b:Bk n W B0 s cb)(c:eQ W B0 Dd)(j:Jp n N W A0 B0 s cb Dd k x A B)(e:cb[k]?=some (x,a)){y:Nat}(hl:lk A a=some y):∃ k2 a2,k2<k/\cb[k2]?=some (y,a2)/\Jp n N W A0 B0 s cb Dd k2 y (ptN A a x) (ptN B x a):=by
 have xa:x∈W a:=b.wish _ (Zao e);have an:a<n:=b.lt _ (Zao e);have sa:s≠a:=λz=>by subst z;rw[j.st] at hl;cases hl
 obtain⟨i,q,hi,eq,hq⟩:=(b.back k _ e).resolve_left (Zbm sa);have hA0:=(P.iff _ _).mpr hq;have yq:y=q.1:=by have:=j.old i q a hi eq hA0;rw[hl] at this;exact Zac this
 subst yq;have nx:∀ (i':Nat) p,i'<k->cb[i']?=some p->p.1≠x:=λi' p h1 h2 z=>by
  have e1:(cb.map (·.1))[i']?=some x:=by rw[Zaf,h2];exact Zba some z
  have e2:(cb.map (·.1))[k]?=some x:=by rw[Zaf,e];rfl
  have l1:i'<(cb.map (·.1)).length:=(Zad.mp e1).1;have:=(List.getElem?_inj l1 b.nd).mp (e1.trans e2.symm);lia
 have da:¬Dd a:=λhd=>by
  obtain⟨d',h1,h2⟩:=c a hd x xa;exact j.xd d' h2 h1
 have ny:=nx i q hi eq;refine⟨i,q.2,hi,eq,rM j.ndA _ _,rM j.ndB _ _,Ak j.kA an,Ak j.kB (wl _ _ xa),λi' p b' h1 h2 h3=>?_,by rw[cQ,Zax sa];exact j.st,λb' g hg=>?_,λb'=>?_,λ{b' g} h=>?_,λd hd z=>?_,λg d hd z=>?_,λb' hb'=>?_,λb' hb'=>?_⟩
 ·rw[cQ,Zax λz=>?_]
  ·exact j.old i' p b' (by lia) h2 h3
  ·subst z;rw[hA0] at h3;have z:q.1=p.1:=Zac h3;have e1:(cb.map (·.1))[i']?=some q.1:=by rw[Zaf,h2];exact Zba some z.symm
   have e2:(cb.map (·.1))[i]?=some q.1:=by rw[Zaf,eq];rfl
   have l1:i'<(cb.map (·.1)).length:=(Zad.mp e1).1;have:=(List.getElem?_inj l1 b.nd).mp (e1.trans e2.symm);lia
 ·rw[cQ,cQ];by_cases hb:b'=a
  ·subst hb;rw[Zat rfl];by_cases hx:g=x
   ·subst hx;simp
   ·rw[Zax hx];refine⟨λz=>absurd (Zac z).symm hx,λz=>?_⟩;rw[(j.iff _ _ hx).mpr z] at hl;exact absurd (Zac hl) hg
  ·rw[Zax hb];by_cases hx:g=x
   ·subst hx;rw[Zat rfl];exact⟨λz=>absurd z (j.no b'),λz=>absurd (Zac z).symm hb⟩
   ·rw[Zax hx];exact j.iff _ _ hx
 ·rw[cQ];split
  ·exact λz=>ny (Zac z).symm
  ·rename_i hb;exact λz=>hb (by have h1:=(j.iff _ _ ny).mp z;have h2:=(j.iff _ _ ny).mp hl;rw[h1] at h2;exact Zac h2)
 ·rw[cQ] at h;split at h
  ·rename_i hb;cases h;subst hb;exact⟨xa,an⟩
  ·exact j.ok h
 ·rw[hq] at z;cases z;exact da hd
 ·rw[cQ,Zax λw=>by subst w;exact j.xd d hd z]
  exact j.bd g d hd z
 ·rw[cQ];split
  ·simp
  ·exact j.more b' hb'
 ·rw[cQ] at hb';split at hb'
  ·rename_i e';subst e';exact j.less _ (by rw[hl];simp)
  ·exact j.less b' hb'
end
theorem CG{G:Gv}{A B cb:List (Nat×Nat)}:cX [G.GA A,G.GD B,G.GD cb,.non]=some (.ok (.tup [G.GA A,G.GD B])):=by
 suffices h:∃ p,cX [G.GA A,G.GD B,G.GD cb,.non]=some (.ok p)/\p=.tup [G.GA A,G.GD B] by
  obtain⟨p,e,rfl⟩:=h;exact e
 show ∃ p,qN (fM (cW [G.GA A,G.GD B,G.GD cb,.non] 3))=some (.ok p)/\p=.tup [G.GA A,G.GD B]
 refine ue ?_;unfold fM;rw[show cW [G.GA A,G.GD B,G.GD cb,.non] 3=[some (.ow (G.GA A)),some (.ow (G.GD B)),some (.sh (G.GD cb)),some (.sh .non),none,none,none] from rfl];walk_at "rd"
 refine q9 (n:=199) (I:=λ_ Z=>Z=[some (.ow (G.GA A)),some (.ow (G.GD B)),some (.sh (G.GD cb)),some (.sh .non),some (.sh .non),none,none]) rfl ?_;rintro k Z rfl;walk_at "rd"
 rw[Zax (show ¬PV.non.tR=false by decide)]
 exact⟨_,rfl,rfl⟩
theorem Jb{G:Gv}{n N:Nat}{W:Nat->List Nat}{A0 B0 cb:List (Nat×Nat)}{s g a:Nat}{Dd:Nat->Prop}(hn:n<=60)(hN:N<=120)(wl:∀ i g,g∈W i->g<N)(P:Pm n W A0 B0)(b:Bk n W B0 s (cb++[(g,a)]))(c:eQ W B0 Dd)(hs:lk A0 s=none)(hg:lk B0 g=none) :
  ∃ A B,cX [G.GA A0,G.GD B0,G.GD (cb++[(g,a)]),G.gv g]=some (.ok (.tup [G.GA A,G.GD B]))/\Pm n W A B/\lk A s≠none/\(∀ b,lk A0 b≠none->lk A b≠none)/\(∀ b,lk A b≠none->b=s\/lk A0 b≠none)/\eQ W B Dd:=by
 have big:∀ {k:Nat},k<=900->k<sizeLine:=λh=>bY (by lia)
 suffices h:∃ p,cX [G.GA A0,G.GD B0,G.GD (cb++[(g,a)]),G.gv g]=some (.ok p)/\∃ A B,p=.tup [G.GA A,G.GD B]/\Pm n W A B/\lk A s≠none/\(∀ b,lk A0 b≠none->lk A b≠none)/\(∀ b,lk A b≠none->b=s\/lk A0 b≠none)/\eQ W B Dd by
  obtain⟨p,e,A,B,rfl,h⟩:=h;exact⟨A,B,e,h⟩
 generalize hcb:cb++[(g,a)]=cbx at b ⊢
 have e0:cbx[cb.length]?=some (g,a):=by rw[<-hcb];simp
 have hlen:cbx.length<=N:=nM b.nd λx hx=>by
  obtain⟨p,hp,rfl⟩:=Zay.mp hx;exact wl _ _ (b.wish p hp)
 have kl:∀ {l:List (Nat×Nat)}{k:Nat},k∈l.map (·.1)->∃ v,lk l k=some v:=λ{l k} h=>by
  cases e:lk l k with
  |none=>exact absurd h (lg.mp e)
  |some v=>exact⟨v,rfl⟩
 have j0:Jp n N W A0 B0 s cbx Dd cb.length g A0 B0:=by
  refine⟨P.ndA,P.ndB,λx hx=>?_,λx hx=>?_,λi p b' h1 h2 h3=>h3,hs,λa' g' _=>P.iff a' g',λa' z=>?_,P.ok,λd _ z=>?_,λg' d _ z=>z,λb' z=>z,λb' z=>z⟩
  ·obtain⟨v,hv⟩:=kl hx;exact(P.ok hv).2
  ·obtain⟨v,hv⟩:=kl hx;exact wl _ _ (P.ok ((P.iff _ _).mpr hv)).1
  ·rw[(P.iff _ _).mp z] at hg;cases hg
  ·rw[hg] at z;cases z
 refine ue ?_;unfold fM;rw[show cW [G.GA A0,G.GD B0,G.GD cbx,G.gv g] 3=[some (.ow (G.GA A0)),some (.ow (G.GD B0)),some (.sh (G.GD cbx)),some (.sh (G.gv g)),none,none,none] from rfl];walk_at "rd"
 refine q9 (n:=199) (I:=λm Z=>∃ (A B:List (Nat×Nat)) (y:Option Nat) (v5 v6:Option Sl),Z=[some (.ow (G.GA A)),some (.ow (G.GD B)),some (.sh (G.GD cbx)),some (.sh (G.gv g)),some (.sh (gvP G y)),v5,v6] /\
  match y with
  |none=>Pm n W A B/\lk A s≠none/\(∀ b,lk A0 b≠none->lk A b≠none)/\(∀ b,lk A b≠none->b=s\/lk A0 b≠none)/\eQ W B Dd
  |some x=>∃ k a,cbx[k]?=some (x,a)/\k<m/\Jp n N W A0 B0 s cbx Dd k x A B) ⟨A0,B0,some g,none,none,rfl,cb.length,a,e0,by have:=(Zad.mp e0).1;lia,j0⟩ ?_
 rintro m Z ⟨A,B,y,v5,v6,rfl,hy⟩;cases y with
 |none=>
  rw[show gvP G none=.non from rfl];walk_at "rd"
  rw[Zax (show ¬PV.non.tR=false by decide)]
  exact⟨_,rfl,A,B,rfl,hy⟩
 |some x=>
  obtain⟨k,a',ek,km,j⟩:=hy;rw[show gvP G (some x)=G.gv x from rfl];walk_at "rd"
  rw[Zat (G.nn x)];refine⟨by lia,?_⟩
  unfold lD;have lc:lk cbx x=some a':=xM b.nd (Zao ek);have lA:=nM j.ndA j.kA;have lB:=nM j.ndB j.kB;walk_at "rd"
  refine⟨G.isD _,.int (a':Int),by rw[G.find,lc];rfl,rfl,_,G.Nf _ _,_,G.N6 j.ndA (big (by lia)),_,G.put _ _ _ j.ndB (big (by lia)),ptN A a' x,ptN B x a',lk A a',some (.sh (.int (a':Int))),some (.sh ((Option.map G.gv (lk A a')).getD PV.non)),?_,?_⟩
  ·cases lk A a'<;>rfl
  ·cases hl:lk A a' with
   |none=>exact j.last P b c ek hl
   |some y=>
    obtain⟨k2,a2,h1,h2,h3⟩:=j.step P wl b c ek hl;exact⟨k2,a2,h2,by lia,h3⟩
theorem Al(G:Gv)(n:Nat)(W:Nat->List Nat):qM ((List.range n).map λ(i:Nat)=>((.inl (i:Int):Key),PV.lst (G.GL (W i))))=aC (List.range n):=by
 unfold qM aC;rw[ZcB];rfl
theorem Jc{G:Gv}{n N:Nat}{W:Nat->List Nat}(hn:n<=60)(hN:N<=120)(wl:∀ i g,g∈W i->g<N) :
  ∃ A B,eE [wiP G n W]=some (.ok (G.GA A))/\Pm n W A B/\∃ Dd,eQ W B Dd/\∀ a,a<n->lk A a=none->Dd a:=by
 have big:∀ {k:Nat},k<=900->k<sizeLine:=λh=>bY (by omega)
 suffices h:∃ p,eE [wiP G n W]=some (.ok p)/\∃ A B,p=G.GA A/\Pm n W A B/\∃ Dd,eQ W B Dd/\∀ a,a<n->lk A a=none->Dd a by
  obtain⟨p,e,A,B,rfl,h⟩:=h;exact⟨A,B,e,h⟩
 refine Aa ?_;unfold jq;rw[show startR [wiP G n W] 4=[some (.sh (wiP G n W)),none,none,none,none] from rfl];walk_at "rd"
 refine⟨rfl,?_⟩;rw[show wiP G n W=.dk ((List.range n).map λ(i:Nat)=>((.inl (i:Int):Key),PV.lst (G.GL (W i)))) from rfl,tv_dkeys,Al,<-show wiP G n W=.dk ((List.range n).map λ(i:Nat)=>((.inl (i:Int):Key),PV.lst (G.GL (W i)))) from rfl];refine gR (I:=λj Z=>∃ (A B:List (Nat×Nat)) (v3 v4:Option Sl),Z=[some (.sh (wiP G n W)),some (.ow (G.GA A)),some (.ow (G.GD B)),v3,v4]/\Pm n W A B/\(∀ a,j<=a->lk A a=none)/\∃ Dd,eQ W B Dd/\∀ a,a<j->lk A a=none->Dd a)
  ⟨[],[],none,none,by rw[G.nil];rfl,⟨by simp,by simp,λa g=>by simp[lk],λ{a g} h=>by simp[lk] at h⟩,λa _=>rfl,λ_=>False,λd h=>h.elim,λa h=>absurd h (Zbd _)⟩ ?_ ?_
 case refine_2=>
  rintro Z ⟨A,B,v3,v4,rfl,P,un,Dd,c,hd⟩;walk_at "rd"
  unfold j4;walk_at "rd"
  exact⟨A,rfl,B,P,Dd,c,λa ha=>hd a (by simpa[aC] using ha)⟩
 rintro j y Z ey ⟨A,B,v3,v4,rfl,P,un,Dd,c,hd⟩;obtain⟨s,es,rfl⟩:=Cz ey;have hs:s=j/\s<n:=by
  have hj:j<n:=by simpa using(Zad.mp es).1
  rw[ZaU hj] at es;cases es;exact⟨rfl,hj⟩
 obtain⟨rfl,sn⟩:=hs;obtain⟨g,R,cb,ew,he⟩:=uh (G:=G) (B:=B) (S:=[s]) hN (by simp) (λa ha=>by simp at ha;omega) wl λg b h=>(P.ok ((P.iff _ _).mpr h)).2
 unfold jZ;walk_at "rd"
 refine⟨ZaA (big (by omega)),?_⟩
 rw[show[PV.int (s:Int)]=aC [s] from rfl,ew];walk_at "rd"
 cases g with
 |none=>
  obtain⟨hw,hc⟩:=he;refine⟨_,_,CG,A,B,_,_,rfl,P,λa ha=>un a (by omega),λd=>Dd d\/d∈R,λd hd' g hg=>?_,λa ha hl=>?_⟩
  ·rcases hd' with h|h
   ·obtain⟨d',h1,h2⟩:=c d h g hg;exact⟨d',h1,.inl h2⟩
   ·obtain⟨p,hp,rfl⟩:=Zay.mp (hc d h g hg);cases e:lk B p.1 with
    |none=>exact absurd e (hw.pr p hp)
    |some b=>
     refine⟨b,rfl,.inr ?_⟩;rw[hw.eq];exact Zan _ (Zay.mpr ⟨p,hp,by rw[e];rfl⟩)
  ·by_cases e:a=s
   ·right;subst e;rw[hw.eq];simp
   ·exact .inl (hd a (by omega) hl)
 |some g=>
  obtain⟨cb',a,i,rfl,hw,ha,hg,hk,hb⟩:=he;obtain⟨A',B',e1,P',h1,h2,h3,c'⟩:=Jb (G:=G) hn hN wl P (hw.bk ha hg hk) c (un s (Zal _)) hb;refine⟨_,_,e1,A',B',_,_,rfl,P',λb hb'=>?_,Dd,c',λb hb' hl=>?_⟩
  ·cases e:lk A' b with
   |none=>rfl
   |some z=>
    rcases h3 b (by rw[e];simp) with h|h
    ·omega
    ·exact absurd (un b (by omega)) h
  ·by_cases e:b=s
   ·subst e;exact absurd hl h1
   ·refine hd b (by omega) ?_
    cases z:lk A b with
    |none=>rfl
    |some z'=>exact absurd hl (h2 b (by rw[z];simp))
theorem jd{α:Type}{tg:PV->Rho->Option Rho}{tst:Fn Bool}{el:Fn PV}{Zb:Rho}(src:α->PV)(t:α->Bool)(f:α->PV):∀ (l:List α),
  (∀ x∈l,∃ Z1,tg (src x) Zb=some Z1/\tst Z1=some (.ok (t x))/\(t x=true->el Z1=some (.ok (f x))))->d8 tg tst el Zb (l.map src)=some (.ok ((l.filter t).map f))
 |[],_=>rfl
 |x::xs,h=>by
  obtain⟨Z1,e1,e2,e3⟩:=h x Zaj;have ih:=jd src t f xs λy hy=>h y (Zak _ hy);rw[Zaw,d8,e1];simp only[e2,bnd];cases ht:t x with
  |true=>simp only[ZbE,e3 ht,ih,bnd,Zbj,ht,Zaw]
  |false=>simp only[Zby,Zbb,ih,Zbj,ht]
def sI(l B:List (Nat×Nat)):List (Nat×Nat):=l.foldl (λB p=>ptN B p.2 p.1) B
theorem Am{g a:Nat}:∀ (l:List (Nat×Nat)) {B:List (Nat×Nat)},(l.map (·.2)).Nodup->(lk (sI l B) g=some a↔(a,g)∈l\/(lk B g=some a/\g ∉ l.map (·.2)))
 |[],B,_=>by simp[sI]
 |p::l,B,nd=>by
  rw[Zaw,ZaM] at nd;show lk (sI l (ptN B p.2 p.1)) g=some a↔_
  rw[Am l nd.2,cQ];by_cases h:g=p.2
  ·subst h;rw[Zat rfl];constructor
   ·rintro(h|⟨h,_⟩)
    ·exact .inl (Zak _ h)
    ·cases h;exact .inl Zaj
   ·rintro(h|⟨_,h⟩)
    ·rcases Zaq.mp h with e|h
     ·right;rw[<-e];exact⟨rfl,by rw[show(a,p.2).2=p.2 from rfl];exact nd.1⟩
     ·exact absurd (Zay.mpr ⟨_,h,rfl⟩) nd.1
    ·simp at h
  ·rw[Zax h];constructor
   ·rintro(q|⟨q1,q2⟩)
    ·exact .inl (Zak _ q)
    ·exact .inr ⟨q1,by simp only[Zaw,Zaq,not_or];exact⟨h,q2⟩⟩
   ·rintro(q|⟨q1,q2⟩)
    ·rcases Zaq.mp q with e|q
     ·rw[<-e] at h;exact absurd rfl h
     ·exact .inl q
    ·simp only[Zaw,Zaq,not_or] at q2;exact .inr ⟨q1,q2.2⟩
theorem An{G:Gv}:∀ (l:List (Nat×Nat)) {B:List (Nat×Nat)},(B.map (·.1)).Nodup->B.length+l.length<=900->dI (G.GD B) (l.map λp=>(G.gv p.2,PV.int (p.1:Int)))=some (G.GD (sI l B))
 |[],_,_,_=>rfl
 |p::l,B,nd,h=>by
  have h1:=G.put B p.2 p.1 nd (bY (by simp at h;lia))
  rw[Zaw];unfold dI;rw[show PV.int (p.1:Int)=iV p.1 from rfl,h1];exact An l (rM nd _ _) (by have:=zf p.2 p.1 B;simp at h;lia)
theorem xN{G:Gv}:∀ (l:List (Nat×Nat)),gj (l.map λp=>PV.tup [G.gv p.2,.int (p.1:Int)])=some (l.map λp=>(G.gv p.2,PV.int (p.1:Int)))
 |[]=>rfl
 |p::l=>by
  rw[Zaw];unfold gj;rw[xN l];rfl
theorem Pm.Ni{n:Nat}{W:Nat->List Nat}{A B:List (Nat×Nat)}(P:Pm n W A B):(A.map (·.2)).Nodup:=by
 have h:=P.ndA;rw[List.Nodup,ZaV] at h ⊢;refine h.imp_of_mem λ{p q} hp hq hne e=>hne ?_;have h1:=(P.iff _ _).mp (xM P.ndA (show(p.1,p.2)∈A from hp));have h2:=(P.iff _ _).mp (xM P.ndA (show(q.1,q.2)∈A from hq));rw[e,h2] at h1;exact(Zac h1).symm
theorem Pm.rev{n:Nat}{W:Nat->List Nat}{A B:List (Nat×Nat)}(P:Pm n W A B)(g a:Nat):lk (sI A []) g=some a↔lk B g=some a:=by
 rw[Am A P.Ni,<-P.iff];simp only[lk,reduceCtorEq,false_and,or_false];exact⟨λh=>xM P.ndA h,λh=>zc h⟩
def dG(n:Nat)(A:List (Nat×Nat)):List Nat:=(List.range n).filter λa=>(lk A a).isNone
theorem j6(l:List Nat):cV (aC l)=some (l.map λ(n:Nat)=>(n:Int)):=by
 rw[show aC l=(l.map λ(n:Nat)=>(n:Int)).map PV.int by simp[aC]]
 exact lX _
theorem FW(G:Gv)(l:List (Nat×Nat)):lW (kvQ iK G.gv l)=l.map λp=>PV.tup [.int (p.1:Int),G.gv p.2]:=by
 unfold lW kvQ;rw[ZcB];rfl
theorem Wk.ndR{n:Nat}{W:Nat->List Nat}{A B B':List (Nat×Nat)}{R:List Nat}{cb:List (Nat×Nat)}(P:Pm n W A B)(hB:∀ g a,lk B' g=some a↔lk B g=some a)(hw:Wk n W B' (dG n A) R cb):R.Nodup:=by
 rw[hw.eq,Zbl];refine⟨Zcl ZbJ List.nodup_range,?_,λa ha b hb e=>?_⟩
 ·have h:=hw.nd;rw[List.Nodup,ZaV] at h ⊢;refine h.imp_of_mem λ{p q} hp hq hne e=>hne ?_;cases e1:lk B' p.1 with
  |none=>exact absurd e1 (hw.pr p hp)
  |some a=>
   cases e2:lk B' q.1 with
   |none=>exact absurd e2 (hw.pr q hq)
   |some b=>
    rw[e1,e2] at e;have e:a=b:=e;subst e;have h1:=(P.iff _ _).mpr ((hB _ _).mp e1);have h2:=(P.iff _ _).mpr ((hB _ _).mp e2);rw[h1] at h2;exact Zac h2
 ·subst e;obtain⟨p,hp,e1⟩:=Zay.mp hb;cases e2:lk B' p.1 with
  |none=>exact absurd e2 (hw.pr p hp)
  |some z=>
   rw[e2] at e1;have e1:z=a:=e1;subst e1;have h1:=(P.iff _ _).mpr ((hB _ _).mp e2);have:=(ZaL.mp ha).2;rw[h1] at this;cases this
theorem FZ{G:Gv}{n N:Nat}{W:Nat->List Nat}{A B:List (Nat×Nat)}{Dd:Nat->Prop}(hn:n<=60)(hN:N<=120)(wl:∀ i g,g∈W i->g<N)(P:Pm n W A B)(c:eQ W B Dd)(hd:∀ a,a<n->lk A a=none->Dd a) :
  ∃ B' R cb,cN [wiP G n W,G.GA A]=some (.ok (.tup [.lst ((srt (R.map λ(n:Nat)=>(n:Int))).map .int),.lst (G.srtd cb)]))/\(∀ g a,lk B' g=some a↔lk B g=some a)/\Wk n W B' (dG n A) R cb/\∀ a∈R,∀ x∈W a,x∈cb.map (·.1):=by
 have big:∀ {k:Nat},k<=900->k<sizeLine:=λh=>bY (by lia)
 have kl:∀ {l:List (Nat×Nat)}{k:Nat},k∈l.map (·.1)->∃ v,lk l k=some v:=λ{l k} h=>by
  cases e:lk l k with
  |none=>exact absurd h (lg.mp e)
  |some v=>exact⟨v,rfl⟩
 have lA:A.length<=n:=nM P.ndA λx hx=>by obtain⟨v,hv⟩:=kl hx;exact(P.ok hv).2
 obtain⟨g,R,cb,ew,he⟩:=uh (G:=G) (B:=sI A []) (S:=dG n A) hN (by have:(dG n A).length<=(List.range n).length:=Zbr _ _;rw[ZaE] at this;lia) (λa ha=>by simpa[dG] using(ZaL.mp ha).1) wl λg b h=>(P.ok ((P.iff _ _).mpr ((P.rev g b).mp h))).2
 have stay:∀ {R cb},Wk n W (sI A []) (dG n A) R cb->(∀ a∈R,Dd a):=λ{R cb} hw=>by
  intro a ha;obtain⟨i,hi⟩:=ZaP ha;induction i using Nat.strongRecOn generalizing a with
  |_ i ih=>
   rw[hw.eq] at hi;by_cases hl:i<(dG n A).length
   ·rw[Zah hl] at hi;have:=ZaL.mp (Zao hi);exact hd a (by simpa using this.1) (by simpa using this.2)
   ·rw[Zap (by lia),Zaf] at hi
    cases q:cb[i-(dG n A).length]? with
    |none=>rw[q] at hi;cases hi
    |some p=>
     rw[q] at hi;have hi:some ((lk (sI A []) p.1).getD 0)=some a:=hi;obtain⟨j,h1,h2⟩:=hw.back _ p q;have dj:=ih j (by lia) p.2 (Zao h2) h2
     obtain⟨d',e1,e2⟩:=c p.2 dj p.1 (hw.wish p (Zao q));rw[(P.rev _ _).mpr e1] at hi;cases hi;exact e2
 have hg:g=none:=by
  cases g with
  |none=>rfl
  |some g=>
   obtain⟨cb',a,i,rfl,hw,ha,hg,hk,hb⟩:=he;obtain⟨d',e1,_⟩:=c a (stay hw a (Zao ha)) g hg;rw[(P.rev _ _).mpr e1] at hb;cases hb
 subst hg;obtain⟨hw,hc⟩:=he;refine⟨sI A [],R,cb,?_,P.rev,hw,hc⟩;refine yZ ?_;unfold eF;rw[show startR [wiP G n W,G.GA A] 2=[some (.sh (wiP G n W)),some (.sh (G.GA A)),none,none] from rfl];walk_at "rd"
 rw[show G.GA A=.dk (kvQ iK G.gv A) from rfl,tv_ditems,FW,jd (λp:Nat×Nat=>PV.tup [.int (p.1:Int),G.gv p.2]) (λ_=>true) (λp=>PV.tup [G.gv p.2,.int (p.1:Int)]) A λp _=>⟨_,rfl,rfl,λ_=>iR (by walk_at "rd";exact ZaA (big (by lia)))⟩,tv_some,List.filter_eq_self.mpr (λ_ _=>rfl)]
 have pa:dI Dg (A.map λp=>(G.gv p.2,PV.int (p.1:Int)))=some (G.GD (sI A [])):=by
  have h:=An (G:=G) A (B:=[]) (by simp) (by simp;lia)
  rw[G.nil] at h;exact h
 refine⟨rfl,by rw[Zab];exact ZaA (big (by lia)),_,xN A,_,pa,rfl,?_⟩
 rw[show wiP G n W=.dk ((List.range n).map λ(i:Nat)=>((.inl (i:Int):Key),PV.lst (G.GL (W i)))) from rfl,tv_dkeys,Al,<-show wiP G n W=.dk ((List.range n).map λ(i:Nat)=>((.inl (i:Int):Key),PV.lst (G.GL (W i)))) from rfl];refine⟨by simp only[aC,Zab,ZaE];exact ZaA (big (by lia)),?_⟩
 rw[show aC (List.range n)=(List.range n).map λ(i:Nat)=>PV.int (i:Int) from rfl,jd (λi:Nat=>PV.int (i:Int)) (λa=>(lk A a).isNone) (λi:Nat=>PV.int (i:Int)) (List.range n) λa _=>⟨_,rfl,iR (by
  walk_at "rd"
  rw[show gO (kvQ iK G.gv A) (.inl (a:Int))=(lk A a).map G.gv from j5 oN a A];cases lk A a<;>rfl),λ_=>iR (by walk_at "rd")⟩,tv_some,show((List.range n).filter λa=>(lk A a).isNone).map (λ(i:Nat)=>PV.int (i:Int))=aC (dG n A) from rfl,ew]
 walk_at "rd"
 have hR:=hw.len;have hcb:=hw.rK wl;have hf:(dG n A).length<=(List.range n).length:=Zbr _ _;rw[ZaE] at hf;have nR:R.length<=n:=by
  have:=cu (l:=R) (k:=List.range n) (Wk.ndR P P.rev hw) λx hx=>ZaI.mpr (hw.lt x hx);simpa using this
 refine⟨_,j6 R,by rw[Zab];lia,G.isD _,G.srt cb _ (by lia) ?_⟩
 exact⟨ZaA (big (by lia)),rfl⟩
theorem CJ{n:Nat}{G:Nat->Nat->Prop}{W:Nat->List Nat}{A B B':List (Nat×Nat)}{R:List Nat}{cb:List (Nat×Nat)}(wG:∀ a g,g∈W a↔g<a/\G g a)(wl:∀ i g,g∈W i->g<n)(tr:∀ {i j k},G i j->G j k->G i k)(P:Pm n W A B)(hB:∀ g a,lk B' g=some a↔lk B g=some a)(hw:Wk n W B' (dG n A) R cb)(hc:∀ a∈R,∀ x∈W a,x∈cb.map (·.1)) :
  R.Nodup/\(∀ a∈R.filter (λa=>!(cb.map (·.1)).contains a),∀ b∈R.filter (λa=>!(cb.map (·.1)).contains a),a<b->¬G a b)/\(R.filter λa=>!(cb.map (·.1)).contains a).length=(dG n A).length:=by
 have nd:R.Nodup:=Wk.ndR P hB hw;have ap:∀ a∈R.filter (λa=>!(cb.map (·.1)).contains a),∀ b∈R.filter (λa=>!(cb.map (·.1)).contains a),a<b->¬G a b:=λa ha b hb hab hg=>by
  have h1:=(ZaL.mp ha).2;have h2:=hc b (ZaL.mp hb).1 a ((wG b a).mpr ⟨hab,hg⟩);rw[Za4.mpr h2] at h1;cases h1
 refine⟨nd,ap,Nat.le_antisymm ?_ ?_⟩
 ·have M:Mt G (lk A):=⟨λ{j i} h=>(wG _ _).mp (P.ok h).1,λ{j k i} h1 h2=>by
   have a1:=(P.iff _ _).mp h1;rw[(P.iff _ _).mp h2] at a1;exact(Zac a1).symm⟩
  exact N5 M tr (Zcl ZbJ nd) (λa ha=>hw.lt a (ZaL.mp ha).1) ap
 ·have h1:=hw.len;have h2:(R.filter λa=>(cb.map (·.1)).contains a).length<=(cb.map (·.1)).length:=cu (Zcl ZbJ nd) λx hx=>Za4.mp (ZaL.mp hx).2;have h3:R.length=(R.filter λa=>(cb.map (·.1)).contains a).length+(R.filter λa=>!(cb.map (·.1)).contains a).length:=by
   rw[<-Zb7,<-Zb7,List.length_eq_countP_add_countP (λa=>(cb.map (·.1)).contains a)];congr 2
   funext a
   cases (cb.map (·.1)).contains a<;>rfl
  rw[Zab] at h2;omega
theorem ul:∀ (l:List (Nat×Nat)),iJ ((kvQ iK iV l).map (·.1))=some ((l.map (·.1)).map λ(n:Nat)=>(n:Int))
 |[]=>rfl
 |p::l=>by
  show(iJ ((kvQ iK iV l).map (·.1))).map ((p.1:Int)::·)=_
  rw[ul l];rfl
def gvI:Gv where
 gv:=iV
 GD l:=.dk (kvQ iK iV l)
 srtd l:=(srt ((l.map (·.1)).map λ(n:Nat)=>(n:Int))).map .int
 still _:=rfl
 nn _:=rfl
 nil:=rfl
 isD _:=rfl
 sh l:=Za2.mpr λp hp=>by
  obtain⟨n,_,rfl⟩:=Zay.mp hp;rfl
 find l g:=by
  show dU (.dk (kvQ iK iV l)) (.int (g:Int))=_
  rw[dF_int];exact Zba some (j5 oN g l)
 put l g a nd h:=by
  show uT (.dk (kvQ iK iV l)) (.int (g:Int)) (iV a)=_
  rw[zb,Zat (by rw[Aj];exact h)]
  exact Zba (λz=>some (PV.dk z)) (rH oN g a nd)
 srt l Q h q:=by
  show Tv (nA (.dk (kvQ iK iV l))) Q
  rw[tv_sortD];exact⟨_,ul l,by simpa using h,q⟩
noncomputable abbrev kvP(l:List (Nat×Nat)):List (Key×PV):=kvQ iK iV l
theorem p8(k:Nat)(l:List (Nat×Nat)):gO (kvP l) (.inl (k:Int))=(lk l k).map λv=>.int (v:Int):=j5 oN k l
theorem Nj{l:List (Nat×Nat)}{k:Nat}:dU (.dk (kvP l)) (.int (k:Int))=some ((lk l k).map λv=>.int (v:Int)):=by rw[dF_int,p8]
theorem JX{l:List (Nat×Nat)}{k v:Nat}(nd:(l.map (·.1)).Nodup)(h:l.length<sizeLine):uT (.dk (kvP l)) (.int (k:Int)) (.int (v:Int))=some (.dk (kvP (ptN l k v))):=gvI.put l k v nd h
def inN(st:List Nat)(i j:Nat):Prop:=st.getD j 0 &&& st.getD i 0=st.getD j 0
theorem zg{st:List Nat}{i j k:Nat}(h1:inN st i j)(h2:inN st j k):inN st i k:=by
 unfold inN at *;rw[<-h2,Nat.and_assoc,h1]
def Ao(st:List Nat)(j:Nat):List Nat:=(List.range j).filter λi=>decide (st.getD j 0 &&& st.getD i 0=st.getD j 0)
theorem CK{st:List Nat}(a g:Nat):g∈Ao st a↔g<a/\inN st g a:=by
 unfold Ao inN;rw[ZaL,ZaI,decide_eq_true_eq]
theorem Ga(a b:Nat):Builtin.bitAnd (a:Int) (b:Int)=((a &&& b:Nat):Int):=by
 rw[bitAnd_pp (Zch _) (Zch _),ZaN,ZaN]
theorem CN(x y:Nat):nJ [.int (x:Int),.int (y:Int)]=some (.ok (.bl (decide (x &&& y=x)))):=by
 show fin (nH (startR [.int (x:Int),.int (y:Int)] 0))=_
 refine yZ ?_;unfold nH;walk_at "rd"
 rw[Ga];exact decide_eq_decide.mpr ⟨λh=>by omega,λh=>by rw[h]⟩
theorem fB(n:Nat):pF 0 (n:Int).toNat=(List.range n).map λ(i:Nat)=>PV.int (i:Int):=by
 unfold pF;rw[ZaN];refine Zbw λi _=>?_;rw[Int.zero_add]
theorem gq{l:List Nat}{i:Nat}(h:i<l.length):l[i]?=some (l.getD i 0):=by
 rw[Zag,Zaa h];rfl
theorem Gb{st:List Nat}{j:Nat}(hl:st.length<=60)(hj:j<st.length):eN [.lst (aC st),.int (j:Int)]=some (.ok (.lst (aC (Ao st j)))):=by
 show sy (eG (startR [.lst (aC st),.int (j:Int)] 0))=_
 refine Ir ?_;unfold eG;walk_at "rd"
 have big:∀ {k:Nat},k<=900->k<sizeLine:=λh=>bY (by omega)
 rw[fB,jd (λi:Nat=>PV.int (i:Int)) (λi=>decide (st.getD j 0 &&& st.getD i 0=st.getD j 0)) (λi:Nat=>PV.int (i:Int)) (List.range j) λi hi=>⟨_,rfl,iR (by
  have il:i<st.length:=by have:=ZaI.mp hi;omega
  walk_at "rd"
  refine⟨_,gW (gq hj),_,gW (gq il),?_⟩;rw[CN];walk_at "rd"),λ_=>iR (by walk_at "rd")⟩,tv_some]
 exact⟨by omega,by omega,by rw[Zab,ZaE];exact ZaA (big (by omega)),rfl⟩
theorem Aq{p:PV}{k:Key}:∀ {l:List (Key×PV)},gO l k=none->jU l k p=l++[(k,p)]
 |[],_=>rfl
 |(a,q)::l,h=>by
  unfold gO at h;split at h
  ·cases h
  ·rename_i hp;unfold jU;rw[Zax hp,Aq h];rfl
theorem xO{f:Nat->PV}{k:Nat}:∀ {l:List Nat},k ∉ l->gO (l.map λ(i:Nat)=>((.inl (i:Int):Key),f i)) (.inl (k:Int))=none
 |[],_=>rfl
 |i::l,h=>by
  rw[Zaw];unfold gO;rw[Zax (JW λe=>h (by rw[e];exact Zaj))]
  exact xO λz=>h (Zak _ z)
theorem Gd(f:Nat->PV):∀ (l l0:List Nat),(l0++l).Nodup->l0.length+l.length<=900->dI (.dk (l0.map λ(i:Nat)=>((.inl (i:Int):Key),f i))) (l.map λ(i:Nat)=>(PV.int (i:Int),f i))=some (.dk ((l0++l).map λ(i:Nat)=>((.inl (i:Int):Key),f i)))
 |[],l0,_,_=>by rw[ZaX];rfl
 |i::l,l0,nd,hl=>by
  simp only[ZaJ] at hl;rw[Zaw];unfold dI;have hi:i ∉ l0:=λz=>(Zbl.mp nd).2.2 i z i Zaj rfl;rw[zb,Zat (by rw[Zab];exact bY (by omega)),Aq (xO hi)]
  have:=Gd f l (l0++[i]) (by rw[Za3];exact nd) (by rw[Zaz];simp;omega)
  rw[Za1,Za3] at this;exact this
theorem xP(f:Nat->PV):∀ (l:List Nat),gj (l.map λ(i:Nat)=>PV.tup [.int (i:Int),f i])=some (l.map λ(i:Nat)=>(PV.int (i:Int),f i))
 |[]=>rfl
 |i::l=>by
  rw[Zaw];unfold gj;rw[xP f l];rfl
def ofN(st:List Nat)(i j:Nat):Prop:=j<st.length/\inN st i j
def vA(st:List Nat)(j:Nat):List Nat:=if j<st.length then Ao st j else[]
theorem nO{st:List Nat}(a g:Nat):g∈vA st a↔g<a/\ofN st g a:=by
 unfold vA ofN;split
 ·rename_i h;rw[CK];simp[h]
 ·rename_i h;simp[h]
theorem Ge(x:Int)(ns:List Int):inU (.int x) (.lst (ns.map .int))=some (ns.contains x):=by
 show inF (.int x) (ns.map .int)=_
 rw[Iu (g:=PV.int) (eqF_int 31),List.contains_eq_mem]
structure Chs(n:Nat)(A:List (Nat×Nat))(L:List (List Nat)):Prop where
 ne:∀ r∈L,r≠[]
 link:∀ r∈L,∀ (t x y:Nat),r[t]?=some x->r[t+1]?=some y->lk A y=some x
 inc:∀ r∈L,r.Pairwise (·<·)
 all:∀ i,i<n↔i∈L.flatten
 nd:L.flatten.Nodup
 hd:(L.map λr=>r.headD 0).Pairwise (·<·)
theorem Chs.nil(A:List (Nat×Nat)):Chs 0 A []:=⟨λr h=>by simp at h,λr h=>by simp at h,λr h=>by simp at h,λi=>by simp,by simp,by simp⟩
theorem um{r:List Nat}(h:r≠[]):r.headD 0∈r:=by
 cases r with
 |nil=>exact absurd rfl h
 |cons a l=>simp
theorem Chs.new{n:Nat}{A:List (Nat×Nat)}{L:List (List Nat)}(h:Chs n A L):Chs (n+1) A (L++[[n]]):=by
 have lt:∀ i∈L.flatten,i<n:=λi hi=>(h.all i).mpr hi;refine⟨λr hr=>?_,λr hr t x y e1 e2=>?_,λr hr=>?_,λi=>?_,?_,?_⟩
 ·rcases ZaG.mp hr with q|q
  ·exact h.ne r q
  ·simp at q;subst q;simp
 ·rcases ZaG.mp hr with q|q
  ·exact h.link r q t x y e1 e2
  ·simp at q;subst q;simp at e2
 ·rcases ZaG.mp hr with q|q
  ·exact h.inc r q
  ·simp at q;subst q;simp
 ·rw[List.flatten_append,ZaG];simp only[Zcr,List.flatten_nil,ZaX,ZaC,<-h.all];omega
 ·rw[List.flatten_append,Zbl];refine⟨h.nd,by simp,λx hx y hy e=>?_⟩
  simp at hy;have:=lt x hx;omega
 ·rw[Za1,Za8];refine⟨h.hd,by simp,λx hx y hy=>?_⟩
  obtain⟨r,hr,rfl⟩:=Zay.mp hx;simp at hy;subst hy;exact lt _ (ZbI.mpr ⟨r,hr,um (h.ne r hr)⟩)
theorem xQ(j:Nat):∀ {L:List (List Nat)}{k:Nat}{r:List Nat},L[k]?=some r->(L.set k (r++[j])).flatten.Perm (L.flatten++[j])
 |[],k,r,e=>by simp at e
 |a::L,0,r,e=>by
  have e:a=r:=by simpa using e
  subst e;simp only[List.set_cons_zero,Zcr,Za3];exact List.Perm.append_left _ List.perm_append_comm
 |a::L,k+1,r,e=>by
  simp only[List.set_cons_succ,Zcr,Za3];exact List.Perm.append_left _ (xQ j (by simpa using e))
theorem Chs.more{n g k:Nat}{A:List (Nat×Nat)}{L:List (List Nat)}{r:List Nat}(h:Chs n A L)(inj:∀ a b g,lk A a=some g->lk A b=some g->a=b)(ha:lk A n=some g)(hk:L[k]?=some r)(hg:g∈r):Chs (n+1) A (L.set k (r++[n])):=by
 have lt:∀ i∈L.flatten,i<n:=λi hi=>(h.all i).mpr hi;have mr:r∈L:=Zao hk;have rl:∀ i∈r,i<n:=λi hi=>lt i (ZbI.mpr ⟨r,mr,hi⟩);have last:∀ t x,t+1=r.length->r[t]?=some x->x=g:=λt x ht hx=>by
  obtain⟨s,hs⟩:=ZaP hg;by_cases e:s=t
  ·subst e;rw[hx] at hs;exact Zac hs
  ·have sl:s<r.length:=(Zad.mp hs).1;have s1:s+1<r.length:=by omega
   have e2:r[s+1]?=some r[s+1]:=Zaa s1;have:=inj _ _ _ (h.link r mr s g _ hs e2) ha;have:=rl _ (Zbo s1);omega
 have pm:=xQ n hk;have rows:∀ q∈L.set k (r++[n]),q∈L\/q=r++[n]:=λq hq=>List.mem_or_eq_of_mem_set hq;refine⟨λq hq=>?_,λq hq t x y e1 e2=>?_,λq hq=>?_,λi=>?_,?_,?_⟩
 ·rcases rows q hq with z|z
  ·exact h.ne q z
  ·subst z;simp
 ·rcases rows q hq with z|z
  ·exact h.link q z t x y e1 e2
  ·subst z;by_cases h1:t+1<r.length
   ·rw[Zah h1] at e2;rw[Zah (by omega)] at e1
    exact h.link r mr t x y e1 e2
   ·rw[Zap (by omega)] at e2
    have:t+1-r.length=0:=by
     rcases Nat.eq_zero_or_pos (t+1-r.length) with q|q
     ·exact q
     ·rw[ZaF (by simp;omega)] at e2;cases e2
    rw[this] at e2;have e2:n=y:=by simpa using e2
    subst e2;rw[Zah (by omega)] at e1
    rw[last t x (by omega) e1]
    exact ha
 ·rcases rows q hq with z|z
  ·exact h.inc q z
  ·subst z;rw[Za8];refine⟨h.inc r mr,by simp,λx hx y hy=>?_⟩
   simp at hy;subst hy;exact rl x hx
 ·rw[pm.mem_iff,ZaG,<-h.all];simp;omega
 ·rw[pm.nodup_iff,Zbl];refine⟨h.nd,by simp,λx hx y hy e=>?_⟩
  simp at hy;have:=lt x hx;omega
 ·have e:(L.set k (r++[n])).map (λr=>r.headD 0)=L.map λr=>r.headD 0:=by
   rw[List.map_set];apply ZbC
   intro i;rw[ZbU];split
   ·rename_i e;subst e;rw[Zat (by rw[Zab];exact(Zad.mp hk).1),Zaf,hk]
    have:=h.ne r mr;cases r with
    |nil=>exact absurd rfl this
    |cons a l=>rfl
   ·rfl
  rw[e];exact h.hd
def vB(r:List Nat):PV:=.lst (aC r)
theorem zj{n:Nat}{A:List (Nat×Nat)}(hn:n<=60)(lt:∀ a g,lk A a=some g->g<a)(inj:∀ a b g,lk A a=some g->lk A b=some g->a=b) :
  ∃ L:List (List Nat),dW [.int (n:Int),.dk (kvP A)]=some (.ok (.lst (L.map vB)))/\L.length=(dG n A).length/\Chs n A L:=by
 have big:∀ {k:Nat},k<=900->k<sizeLine:=λh=>bY (by omega)
 suffices h:∃ p,dW [.int (n:Int),.dk (kvP A)]=some (.ok p)/\∃ L:List (List Nat),p=.lst (L.map vB)/\L.length=(dG n A).length/\Chs n A L by
  obtain⟨p,e,L,rfl,h⟩:=h;exact⟨L,e,h⟩
 show ∃ p,qK (iu (startR [.int (n:Int),.dk (kvP A)] 3))=some (.ok p)/\∃ L:List (List Nat),p=.lst (L.map vB)/\L.length=(dG n A).length/\Chs n A L
 refine Ab ?_;unfold iu;rw[show startR [PV.int (n:Int),.dk (kvP A)] 3=[some (.sh (.int (n:Int))),some (.sh (.dk (kvP A))),none,none,none] from rfl];walk_at "rd"
 refine⟨rfl,by omega,by omega,?_⟩
 refine gR (I:=λj Z=>∃ (L:List (List Nat)) (C:List (Nat×Nat)) (v4:Option Sl),Z=[some (.sh (.int (n:Int))),some (.sh (.dk (kvP A))),some (.dp (.lst (L.map vB))),some (.ow (.dk (kvP C))),v4]/\L.length=(dG j A).length/\Chs j A L/\(C.map (·.1)).Nodup/\C.length<=j/\∀ i,i<j->∃ k r,lk C i=some k/\L[k]?=some r/\i∈r) ⟨[],[],none,rfl,rfl,Chs.nil A,by simp,Zal _,λi h=>absurd h (Zbd _)⟩ ?_ ?_
 case refine_2=>
  rintro Z ⟨L,C,v4,rfl,h1,h2,h3,h4,h5⟩;rw[ie,ZaN] at h1 h2;walk_at "rd"
  unfold lH;walk_at "rd"
  exact⟨L,rfl,h1,h2⟩
 rintro j y Z ey ⟨L,C,v4,rfl,h1,h2,h3,h4,h5⟩;obtain⟨jn,hy⟩:=IW ey;have hy:y=.int (j:Int):=by rw[hy];congr 1;omega
 subst hy;have jn:j<n:=by omega
 have hL:L.length<=60:=by
  have:(dG j A).length<=(List.range j).length:=Zbr _ _;rw[ZaE] at this;omega
 have rlen:∀ r∈L,r.length<=j:=λr hr=>by
  have nd:r.Nodup:=(h2.inc r hr).imp λh=>ZaB h;have:=cu (l:=r) (k:=List.range j) nd λx hx=>ZaI.mpr ((h2.all x).mpr (ZbI.mpr ⟨r,hr,hx⟩));simpa using this
 have fs:(dG (j+1) A).length=(dG j A).length+if(lk A j).isNone then 1 else 0:=by
  unfold dG;rw[Zcy,List.filter_append,Zaz];congr 1
  rw[Zbj];cases lk A j<;>rfl
 unfold lG;walk_at "rd"
 rw[p8];cases ha:lk A j with
 |none=>
  rw[ha] at fs;rw[ZcA,Zck,Zax (by decide)]
  unfold lF;walk_at "rd"
  rw[Zab];refine⟨rfl,_,JX h3 (big (by omega)),Iw (l:=L.map vB) rfl ?_⟩
  walk_at "rd"
  have pl:=zf j L.length C;refine⟨ZaA (big (by omega)),rfl,by rw[Zab];exact big (by omega),L++[[j]],ptN C j L.length,_,by rw[Za1];rfl,by rw[Zaz,h1,fs];rfl,h2.new,rM h3 _ _,by omega,λi hi=>?_⟩
  by_cases e:i=j
  ·exact⟨L.length,by rw[cQ,Zat e],[j],by simp,by simp[e]⟩
  ·obtain⟨k,r,k1,k2,k3⟩:=h5 i (by omega)
   exact⟨k,by rw[cQ,Zax e];exact k1,r,by rw[Zah (Zad.mp k2).1];exact k2,k3⟩
 |some g=>
  rw[ha] at fs;rw[Zbc,ZbL,Zat rfl];unfold lE;walk_at "rd"
  obtain⟨k,row,k2,hrow,kg⟩:=h5 g (lt j g ha);have k1:k<L.length:=(Zad.mp hrow).1;have rl:=rlen row (Zao hrow);have nrl:(aC row).length=row.length:=by simp[aC]
  have pl:=zf j k C;refine⟨.int (g:Int),by rw[p8,ha];rfl,.int (k:Int),by rw[Nj,k2];rfl,_,JX h3 (big (by omega)),?_⟩
  refine Iz (l:=L.map vB) (n:=(k:Int)) (j:=k) (row:=aC row) (q:=.int (j:Int)) rfl (iR ?_) ?_ (by rw[Zaf,hrow];rfl) (iR ?_) rfl (by rw[nrl];exact big (by omega)) ?_
  ·walk_at "rd"
   exact⟨_,by rw[p8,cQ,Zat rfl];rfl,rfl⟩
  ·rw[Zab];have:=Ks (n:=L.length) (i:=(k:Int)) (by omega) (by omega)
   simpa using this
  ·walk_at "rd"
  ·walk_at "rd"
   refine⟨L.set k (row++[j]),ptN C j k,some (.sh (.int (j:Int))),by rw[lq,List.map_set];rfl,by rw[List.length_set,h1,fs];rfl,h2.more inj ha hrow kg,rM h3 _ _,by omega,λi hi=>?_⟩
   by_cases e:i=j
   ·exact⟨k,by rw[cQ,Zat e],row++[j],by rw[ZbU,Zat rfl,Zat k1],by simp[e]⟩
   ·obtain⟨k',r',q1,q2,q3⟩:=h5 i (by omega)
    by_cases ek:k'=k
    ·subst ek;rw[hrow] at q2;cases q2;exact⟨k',by rw[cQ,Zax e];exact q1,row++[j],by rw[ZbU,Zat rfl,Zat k1],Zbk _ q3⟩
    ·exact⟨k',by rw[cQ,Zax e];exact q1,r',by rw[Zam (Zbm ek)];exact q2,q3⟩
theorem oO{st:List Nat}(hl:st.length<=60):∃ (L:List (List Nat)) (B:List Nat) (A:List (Nat×Nat)),bZ [.lst (aC st)]=some (.ok (.tup [.lst (L.map vB),.lst (aC B)]))/\L.length=B.length/\Chs st.length A L/\(∀ a g,lk A a=some g->inN st g a)/\B.Pairwise (·<·)/\(∀ b∈B,b<st.length)/\∀ a∈B,∀ b∈B,a<b->¬inN st a b:=by
 have big:∀ {k:Nat},k<=900->k<sizeLine:=λh=>bY (by omega)
 have wl:∀ i g,g∈vA st i->g<st.length:=λi g h=>by
  have:=(nO i g).mp h;have:=this.2.1;omega
 have tr:∀ {i j k},ofN st i j->ofN st j k->ofN st i k:=λh1 h2=>⟨h2.1,zg h1.2 h2.2⟩;obtain⟨A,B,em,P,Dd,c,hd⟩:=Jc (G:=gvI) hl (by omega) wl
 obtain⟨B',R,cb,es,hB,hw,hc⟩:=FZ (G:=gvI) hl (by omega) wl P c hd
 obtain⟨nd,hap,hlen⟩:=CJ nO wl tr P hB hw hc;have inj:∀ a b g,lk A a=some g->lk A b=some g->a=b:=λa b g h1 h2=>by
  have q:=(P.iff _ _).mp h1;rw[(P.iff _ _).mp h2] at q;exact(Zac q).symm
 obtain⟨L,ec,hL,ch⟩:=zj hl (λa g h=>((nO _ _).mp (P.ok h).1).1) inj;have ec:dW [.int (st.length:Int),gvI.GA A]=some (.ok (.lst (L.map vB))):=ec;have sm:∀ x∈srt (R.map λ(n:Nat)=>(n:Int)),∃ n:Nat,n∈R/\x=(n:Int):=λx hx=>by
  obtain⟨n,hn,rfl⟩:=Zay.mp ((dC _).mem_iff.mp hx);exact⟨n,hn,rfl⟩
 have slt:(srt (R.map λ(n:Nat)=>(n:Int))).Pairwise (·<·):=by
  have h1:=lV (R.map λ(n:Nat)=>(n:Int));have h2:(srt (R.map λ(n:Nat)=>(n:Int))).Nodup:=by
   rw[(dC _).nodup_iff,List.Nodup,ZaV];exact nd.imp λh e=>h (by omega)
  exact h1.imp₂ (λh e=>by omega) h2
 generalize hF:((srt (R.map λ(n:Nat)=>(n:Int))).filter λx=>!(srt ((cb.map (·.1)).map λ(n:Nat)=>(n:Int))).contains x)=FL
 have fm:∀ x∈FL,∃ n:Nat,n∈R/\x=(n:Int)/\n ∉ cb.map (·.1):=λx hx=>by
  rw[<-hF] at hx;obtain⟨h1,h2⟩:=ZaL.mp hx;obtain⟨n,hn,rfl⟩:=sm x h1;refine⟨n,hn,rfl,λz=>?_⟩;have:(srt ((cb.map (·.1)).map λ(n:Nat)=>(n:Int))).contains (n:Int)=true:=Za4.mpr ((dC _).mem_iff.mpr (Zay.mpr ⟨n,z,rfl⟩));rw[this] at h2;cases h2
 have eB:FL.map PV.int=aC (FL.map Int.toNat):=by
  unfold aC;rw[ZcB];refine Zbw λx hx=>?_;obtain⟨n,_,rfl,_⟩:=fm x hx;rfl
 refine⟨L,FL.map Int.toNat,A,?_,?_,ch,λa g h=>((nO _ _).mp (P.ok h).1).2.2,?_,λb hb=>?_,λa ha b hb hab z=>?_⟩
 ·show qK (dJ (startR [.lst (aC st)] 4))=_
  refine Iv ?_;unfold dJ;walk_at "rd"
  have nl:((aC st).length:Int)=(st.length:Int):=by simp[aC]
  rw[nl,fB,jd (λi:Nat=>PV.int (i:Int)) (λ_=>true) (λi:Nat=>PV.tup [.int (i:Int),.lst (aC (vA st i))]) (List.range st.length) λi hi=>⟨_,rfl,rfl,λ_=>iR (by
   have il:i<st.length:=ZaI.mp hi;walk_at "rd"
   rw[Gb hl il];walk_at "rd"
   exact⟨ZaA (big (by omega)),by unfold vA;rw[Zat il]⟩)⟩,tv_some,List.filter_eq_self.mpr (λ_ _=>rfl)]
  refine⟨by omega,by omega,by rw[Zab,ZaE];exact ZaA (big (by omega)),_,xP (λi=>.lst (aC (vA st i))) _,_,Gd (λi=>.lst (aC (vA st i))) _ [] (by simpa using List.nodup_range) (by simp;omega),?_⟩
  rw[List.nil_append,show PV.dk ((List.range st.length).map λ(i:Nat)=>((.inl (i:Int):Key),PV.lst (aC (vA st i))))=wiP gvI st.length (vA st) from rfl,em,tv_some,es,tv_some];walk_at "rd"
  have hR:=hw.len;have hcb:=hw.rK wl;have hf:(dG st.length A).length<=(List.range st.length).length:=Zbr _ _;rw[ZaE] at hf;refine⟨by rw[Zab,(dC _).length_eq,Zab];exact ZaA (big (by omega)),?_⟩
  rw[jd PV.int (λx=>!(srt ((cb.map (·.1)).map λ(n:Nat)=>(n:Int))).contains x) PV.int _ λx _=>⟨_,rfl,iR (by
   walk_at "rd"
   exact⟨_,Ge _ _,rfl⟩),λ_=>iR (by walk_at "rd")⟩,tv_some,ec,tv_some,hF,eB]
  exact⟨jr _,ZaA (big (by decide)),rfl⟩
 ·rw[Zab,hL,<-hlen,<-hF];have e1:∀ x:Nat,(srt ((cb.map (·.1)).map λ(n:Nat)=>(n:Int))).contains (x:Int)=(cb.map (·.1)).contains x:=λx=>by
   rw[Zca,Za4,Za4,(dC _).mem_iff,Zay];exact⟨λ⟨y,hy,e⟩=>by rw[show y=x by omega] at hy;exact hy,λh=>⟨x,h,rfl⟩⟩
  rw[((dC (R.map λ(n:Nat)=>(n:Int))).filter _).length_eq,List.filter_map,Zab];exact(Zba List.length (List.filter_congr λx _=>by show(!(srt ((cb.map (·.1)).map λ(n:Nat)=>(n:Int))).contains (x:Int))=_;rw[e1])).symm
 ·rw[ZaV];have:FL.Pairwise (·<·):=by rw[<-hF];exact slt.sublist ZbJ
  refine this.imp_of_mem λ{x y} hx hy h=>?_;obtain⟨n,_,rfl,_⟩:=fm x hx;obtain⟨m,_,rfl,_⟩:=fm y hy;simpa using h
 ·obtain⟨x,hx,rfl⟩:=Zay.mp hb;obtain⟨n,hn,rfl,_⟩:=fm x hx;exact hw.lt n hn
 ·obtain⟨x,hx,rfl⟩:=Zay.mp ha;obtain⟨y,hy,rfl⟩:=Zay.mp hb;obtain⟨n,hn,rfl,q1⟩:=fm x hx;obtain⟨m,hm,rfl,q2⟩:=fm y hy;have im:∀ {n:Nat},n∈R->n ∉ cb.map (·.1)->n∈R.filter λa=>!(cb.map (·.1)).contains a:=λ{n} h1 h2=>ZaL.mpr ⟨h1,by simpa using h2⟩
  exact hap n (im hn q1) m (im hm q2) hab ⟨hw.lt m hm,z⟩
theorem Gf:∀ {l m:List Nat},l.Pairwise (·<·)->m.Pairwise (·<·)->(∀ x,x∈l↔x∈m)->l=m
 |[],[],_,_,_=>rfl
 |[],b::m,_,_,h=>absurd ((h b).mpr Zaj) (by simp)
 |a::l,[],_,_,h=>absurd ((h a).mp Zaj) (by simp)
 |a::l,b::m,h1,h2,h=>by
  have p1:=ZaK.mp h1;have p2:=ZaK.mp h2;have e:a=b:=by
   rcases Zaq.mp ((h a).mp Zaj) with e|e
   ·exact e
   ·rcases Zaq.mp ((h b).mpr Zaj) with e'|e'
    ·exact e'.symm
    ·have:=p2.1 a e;have:=p1.1 b e';omega
  subst e;rw[Gf p1.2 p2.2 λx=>⟨λhx=>?_,λhx=>?_⟩]
  ·have:=p1.1 x hx;rcases Zaq.mp ((h x).mp (Zak _ hx)) with e|e
   ·omega
   ·exact e
  ·have:=p2.1 x hx;rcases Zaq.mp ((h x).mpr (Zak _ hx)) with e|e
   ·omega
   ·exact e
theorem nQ{α:Type}[DecidableEq α]:∀ {l k:List α},l.Nodup->(∀ x∈l,x∈k)->l.length<=k.length
 |[],_,_,_=>ZaW _
 |x::l,k,nd,h=>by
  have n:=ZaM.mp nd;have hx:=h x Zaj;have:=nQ (l:=l) (k:=k.erase x) n.2 λy hy=>(List.mem_erase_of_ne λ(e:y=x)=>n.1 (e▸hy)).mpr (h y (Zak _ hy));rw[List.length_erase_of_mem hx] at this;have:0<k.length:=List.length_pos_of_mem hx;show l.length+1<=_
  omega
section
variable{st:List Nat}{A:List (Nat×Nat)}{L:List (List Nat)}{B:List Nat}
theorem oR(hA:∀ a g,lk A a=some g->inN st g a){r:List Nat}(inc:r.Pairwise (·<·))(link:∀ t x y,r[t]?=some x->r[t+1]?=some y->lk A y=some x){x y:Nat}(hx:x∈r)(hy:y∈r)(h:x<y):inN st x y:=by
 obtain⟨i,hi⟩:=ZaP hx;obtain⟨j,hj⟩:=ZaP hy;have hij:i<j:=by
  by_cases q:i<j
  ·exact q
  ·by_cases e:i=j
   ·subst e;rw[hi] at hj;cases hj;omega
   ·obtain⟨hi',ei⟩:=Zad.mp hi;obtain⟨hj',ej⟩:=Zad.mp hj;have:=Za0.mp inc j i hj' hi' (by omega)
    omega
 have go:∀ d y,r[i+1+d]?=some y->inN st x y:=λd=>by
  induction d with
  |zero=>exact λy hy=>hA _ _ (link i x y hi hy)
  |succ d ih=>
   intro y hy;have:i+1+d<r.length:=by have:=(Zad.mp hy).1;omega
   exact zg (ih _ (Zaa this)) (hA _ _ (link _ _ _ (Zaa this) hy))
 exact go (j-i-1) y (by rw[show i+1+(j-i-1)=j by omega];exact hj)
theorem Jd(hn:1<=st.length)(nest:∀ i j,i<j->j<st.length->inN st i j)(len:L.length=B.length)(ch:Chs st.length A L)(inc:B.Pairwise (·<·))(lt:∀ b∈B,b<st.length)(ap:∀ a∈B,∀ b∈B,a<b->¬inN st a b) :
  L=[List.range st.length]/\B.length=1:=by
 have hB:B.length<=1:=by
  match B,inc,lt,ap with
  |[],_,_,_=>exact ZaW _
  |[_],_,_,_=>exact Zal _
  |a::b::t,inc,lt,ap=>
   have hab:=(ZaK.mp inc).1 b Zaj;exact absurd (nest a b hab (lt b (by simp))) (ap a (by simp) b (by simp) hab)
 have h0:0∈L.flatten:=(ch.all 0).mp hn
 match L,len,ch,h0 with
 |[],_,_,h0=>simp at h0
 |[r],len,ch,_=>
  refine⟨?_,by rw[<-len];rfl⟩
  rw[Gf (ch.inc r (by simp)) ZbR λx=>?_]
  rw[ZaI,ch.all x];simp
 |_::_::_,len,_,_=>simp at len;omega
theorem Gg{i j:Nat}(h1:inN st i j)(h2:inN st j i):st.getD i 0=st.getD j 0:=by
 unfold inN at h1 h2;rw[Nat.and_comm,h1] at h2;exact h2.symm
theorem Nk(up:∀ i j,i<j->j<st.length->inN st j i)(len:L.length=B.length)(ch:Chs st.length A L)(hA:∀ a g,lk A a=some g->inN st g a)(inc:B.Pairwise (·<·))(lt:∀ b∈B,b<st.length)(ap:∀ a∈B,∀ b∈B,a<b->¬inN st a b)
  {D:List Nat}(nd:D.Nodup)(mem:∀ x,x∈D↔x∈st):L.length=D.length:=by
 have get:∀ {i},i<st.length->st.getD i 0∈st:=λ{i} hi=>by rw[Zag,Zaa hi];exact Zbo hi
 have h1:B.length<=D.length:=by
  rw[<-Zab (f:=λi=>st.getD i 0)];refine nQ ?_ λx hx=>?_
  ·rw[List.Nodup,ZaV];refine inc.imp_of_mem λ{a b} ha hb hab e=>ap a ha b hb hab ?_;unfold inN;rw[e,ZcC]
  ·obtain⟨b,hb,rfl⟩:=Zay.mp hx;exact(mem _).mpr (get (lt b hb))
 have h2:D.length<=(L.map λr=>st.getD (r.headD 0) 0).length:=nQ nd λx hx=>by
  obtain⟨i,hi⟩:=ZaP ((mem x).mp hx);have il:=(Zad.mp hi).1;have ex:st.getD i 0=x:=by rw[Zag,hi];rfl
  obtain⟨r,hr,ir⟩:=ZbI.mp ((ch.all i).mp il);refine Zay.mpr ⟨r,hr,?_⟩;have hh:=um (ch.ne r hr);have hl:r.headD 0<=i:=by
   have:=ch.inc r hr;cases r with
   |nil=>cases ir
   |cons a r=>
    rcases Zaq.mp ir with e|e
    ·exact Zcz e.symm
    ·exact ZaA ((ZaK.mp this).1 i e)
  rw[<-ex];by_cases e:r.headD 0=i
  ·rw[e]
  ·exact Gg (oR hA (ch.inc r hr) (ch.link r hr) hh ir (by omega)) (up _ _ (by omega) il)
 rw[Zab] at h2;omega
theorem Je{best:Nat->Nat}(tot:∀ i j,i<st.length->j<st.length->inN st i j\/inN st j i)(hn:1<=st.length)(len:L.length=B.length)(ch:Chs st.length A L)(hA:∀ a g,lk A a=some g->inN st g a)(inc:B.Pairwise (·<·))(lt:∀ b∈B,b<st.length)(ap:∀ a∈B,∀ b∈B,a<b->¬inN st a b)
  (b1:∀ k,k<st.length->1<=best k)(b2:∀ j k,j<k->k<st.length->¬inN st j k->best j+1<=best k)(b3:∀ k,k<st.length->best k=1\/∃ j,j<k/\¬inN st j k/\best k=best j+1) :
  (∃ k,k<st.length/\L.length<=best k)/\∀ k,k<st.length->best k<=L.length:=by
 constructor
 ·have go:∀ (t:List Nat) (x c:Nat),(x::t).Pairwise (·<·)->(∀ b∈x::t,b<st.length)->(∀ a∈x::t,∀ b∈x::t,a<b->¬inN st a b)->c<=best x->∃ y,y<st.length/\c+t.length<=best y:=λt=>by
   induction t with
   |nil=>exact λx c _ h _ hc=>⟨x,h x (by simp),hc⟩
   |cons z t ih=>
    intro x c p h a hc;have p1:=ZaK.mp p;have xz:=p1.1 z Zaj;have:=b2 x z xz (h z (by simp)) (a x (by simp) z (by simp) xz)
    obtain⟨y,hy,e⟩:=ih z (c+1) p1.2 (λb hb=>h b (Zak _ hb)) (λa' ha b hb=>a a' (Zak _ ha) b (Zak _ hb)) (by omega)
    exact⟨y,hy,by rw[ZaJ];omega⟩
  have h0:0∈L.flatten:=(ch.all 0).mp hn
  match B,len,inc,lt,ap with
  |[],len,_,_,_=>
   rw[List.eq_nil_of_length_eq_zero len] at h0;simp at h0
  |x::t,len,inc,lt,ap=>
   obtain⟨y,hy,e⟩:=go t x 1 inc lt ap (b1 x (lt x (by simp)))
   exact⟨y,hy,by rw[len,ZaJ];omega⟩
 ·intro k hk;have path:∀ k,k<st.length->∃ p:List Nat,p.length=best k/\k∈p/\(∀ x∈p,x<=k)/\p.Nodup/\∀ a∈p,∀ b∈p,a<b->¬inN st a b:=λk=>by
   induction k using Nat.strongRecOn with
   |_ k ih=>
    intro hk;rcases b3 k hk with e|⟨j,hj,nj,e⟩
    ·exact⟨[k],e.symm,by simp,by simp,by simp,λa ha b hb h=>by rw[ZaC.mp ha,ZaC.mp hb] at h;omega⟩
    ·obtain⟨p,p1,p2,p3,p4,p5⟩:=ih j hj (by omega)
     refine⟨k::p,by rw[ZaJ,p1,e],Zaj,λx hx=>?_,ZaM.mpr ⟨λz=>?_,p4⟩,λa ha b hb h=>?_⟩
     ·rcases Zaq.mp hx with e|e
      ·exact Zcz e
      ·have:=p3 x e;omega
     ·have:=p3 k z;omega
     ·rcases Zaq.mp hb with eb|eb
      ·subst eb;rcases Zaq.mp ha with ea|ea
       ·omega
       ·by_cases q:a=j
        ·rw[q];exact nj
        ·have aj:=p3 a ea;have n1:=p5 a ea j p2 (by omega)
         intro z;rcases tot a j (by omega) (by omega) with t|t
         ·exact n1 t
         ·exact nj (zg t z)
      ·rcases Zaq.mp ha with ea|ea
       ·subst ea;have:=p3 b eb;omega
       ·exact p5 a ea b eb h
  obtain⟨p,p1,p2,p3,p4,p5⟩:=path k hk;rw[<-p1];have cn:∀ x∈p,∃ r∈L,x∈r:=λx hx=>ZbI.mp ((ch.all x).mp (by have:=p3 x hx;omega))
  let c:Nat->List Nat:=λx=>(L.find? λr=>r.contains x).getD []
  have cs:∀ x∈p,c x∈L/\x∈c x:=λx hx=>by
   obtain⟨r,hr,xr⟩:=cn x hx;cases e:L.find? λr=>r.contains x with
   |none=>exact absurd (Za4.mpr xr) (by simpa using List.find?_eq_none.mp e r hr)
   |some q=>
    have e1:c x=q:=by show(L.find? λr=>r.contains x).getD []=q;rw[e];rfl
    rw[e1];have h2:=List.find?_some (p:=λr:List Nat=>r.contains x) e;exact⟨List.mem_of_find?_eq_some e,Za4.mp h2⟩
  rw[<-Zab (f:=c)];refine nQ ?_ λx hx=>by
   obtain⟨y,hy,rfl⟩:=Zay.mp hx;exact(cs y hy).1
  rw[List.Nodup,ZaV];refine p4.imp_of_mem λ{a b} ha hb hne e=>?_;obtain⟨q1,q2⟩:=cs a ha;obtain⟨q3,q4⟩:=cs b hb;rw[<-e] at q4;rcases Nat.lt_or_gt_of_ne hne with h|h
  ·exact p5 a ha b hb h (oR hA (ch.inc _ q1) (ch.link _ q1) q2 q4 h)
  ·exact p5 b hb a ha h (oR hA (ch.inc _ q1) (ch.link _ q1) q4 q2 h)
end
theorem Lp:10^250<=2^9000:=by
 have h:(10^50)^5<=(2^167)^5:=Nat.pow_le_pow_left (by decide) 5
 rw[<-Nat.pow_mul,<-Nat.pow_mul] at h;exact ZaS h (Zb6 (by decide) (by decide))
theorem rN{x:Int}(h0:0<=x)(h:x<10^250):x.natAbs<2^9000:=by
 refine Zau ?_ Lp;have e:((x.natAbs:Nat):Int)=x:=by omega
 have:((x.natAbs:Nat):Int)<((10^250:Nat):Int):=by rw[e];exact h
 exact Int.ofNat_lt.mp this
theorem Ar(c k:Int)(k0:0<=k)(k1:k<=1000):∃ n:Nat,cH [.int c,.int k]=some (.ok (.int (n:Int)))/\n<10^30+57:=by
 suffices h:∃ p,cH [.int c,.int k]=some (.ok p)/\∃ n:Nat,p=.int (n:Int)/\n<10^30+57 by
  obtain⟨p,e,n,rfl,h⟩:=h;exact⟨n,e,h⟩
 show ∃ p,fin (gn (startR [.int c,.int k] 0))=_/\_
 refine za ?_;unfold gn;have kk:k*k<=1000*1000:=Int.mul_le_mul k1 k1 k0 (by decide)
 have kk0:0<=k*k:=Int.mul_nonneg k0 k0;walk_at "rd"
 have m0:0<=c%10^30:=Zbv _ (by decide)
 have m1:c%10^30<10^30:=Zbh _ (by decide)
 generalize c%10^30=x at m0 m1
 have q0:0<=(x+k*k+1)*314159265358979323846264338327%(10^30+57):=Zbv _ (by decide)
 have q1:(x+k*k+1)*314159265358979323846264338327%(10^30+57)<10^30+57:=Zbh _ (by decide)
 generalize (x+k*k+1)*314159265358979323846264338327%(10^30+57)=y at q0 q1
 have hb:(10:Int)^30+1000*1000+1<10^250:=by decide +kernel
 exact⟨by decide,by decide,by decide,by decide,rN k0 (by omega),rN k0 (by omega),rN (by omega) (by omega),rN (by decide) (by decide +kernel),by decide,by decide,by decide,by decide,y.toNat,by omega,by omega⟩
theorem grown{t j:Nat}(h:t<10^(31*j))(hj:j<=7):(t:Int)<10^250:=by
 have:t<10^250:=Zau h (Zb6 (by decide) (by omega))
 have:((t:Nat):Int)<((10^250:Nat):Int):=Int.ofNat_lt.mpr this;exact this
theorem Jf(a b:Nat):Builtin.bitOr (a:Int) (b:Int)=((a ||| b:Nat):Int):=Cy a b
theorem Gh{α β:Type}{f:α->Option β}{g:α->β}:∀ {l:List α},(∀ x∈l,f x=some (g x))->l.filterMap f=l.map g
 |[],_=>rfl
 |a::l,h=>by
  rw[Zbg (h a Zaj),Gh λx hx=>h x (Zak _ hx)];rfl
theorem Gi(l:List PV):wF l none none (some (-1))=l.reverse:=by
 unfold wF;show(sliceRange ((l.length:Int)-1) (-1) (-1)).filterMap (l[·]?)=_
 unfold sliceRange;rw[Zax (by decide)]
 dsimp only;have e:(if((l.length:Int)-1)>-1 then(((l.length:Int)-1)-(-1)-(-1)-1)/(-(-1)) else 0).toNat=l.length:=by
  split
  ·rw[show(-(-1):Int)=1 from rfl,Int.ediv_one];omega
  ·omega
 rw[e,List.filterMap_map];apply ZbC
 intro i;have all:(List.range l.length).filterMap ((l[·]?) ∘ λ(k:Nat)=>((l.length:Int)-1+-1*(k:Int)).toNat)=(List.range l.length).map λk=>l.getD (l.length-1-k) .non:=by
  refine Gh λk hk=>?_;have hk:=ZaI.mp hk;have:((l.length:Int)-1+-1*(k:Int)).toNat=l.length-1-k:=by omega
  simp only[Function.comp,this];rw[Zag,Zaa (by omega)];rfl
 rw[all,Zaf];by_cases hi:i<l.length
 ·rw[ZaU hi,List.getElem?_reverse hi,Zbc,Zag,Zaa (by omega)];rfl
 ·rw[ZaF (by simpa using hi),ZaF (by simpa using hi)];rfl
theorem CP(l:List Nat):(aC l).reverse=aC l.reverse:=by unfold aC;rw[List.map_reverse]
theorem Lq{i:Nat}{fi fe:Fn PV}{Z:Rho}{l:List PV}{QS:Out->Prop}(h:Z[i]?=some (some (.ow (.lst l))))(q:Tv (fi Z) λk=>∃ n,k=.int n/\Tv (fe Z) λp=>0<=n/\n<2^62/\l.length<sizeLine/\QS (.nx (Z.set i (some (.ow (.lst (l.take n.toNat++p::l.drop n.toNat))))))):To (Fx i fi fe Z) QS:=by
 have ho:ownAt i Z=some (.lst l):=by unfold ownAt;rw[h]
 unfold Fx;rw[ho];simp only[to_bnd];obtain⟨k,e,q⟩:=q;refine⟨k,e,?_⟩;obtain⟨n,rfl,q⟩:=q;simp only[to_bnd];obtain⟨p,e2,h1,h2,h3,q⟩:=q;refine⟨p,e2,?_⟩;show To (if _ then _ else _) QS
 rw[Zat ⟨h1,h2,h3⟩,to_nx];exact q
theorem Gj(a:Nat):∀ b:Nat,a+b=(a ^^^ b)+2*(a &&& b):=by
 induction a using Nat.strongRecOn with
 |_ a ih=>
  intro b;by_cases h:a=0
  ·subst h;simp
  ·have this:=ih (a/2) (by omega) (b/2)
   have e1:(a ^^^ b)/2=(a/2) ^^^ (b/2):=Nat.xor_div_two;have e2:(a &&& b)/2=(a/2) &&& (b/2):=Nat.and_div_two;have t1:=ZcD a b 0;have t2:=ZbO a b 0;rw[<-e1,<-e2] at this;simp only[Nat.testBit_zero] at t1 t2;generalize a ^^^ b=x at *
   generalize a &&& b=y at *
   rcases Zcg a with p|p<;>rcases Zcg b with q|q<;>rw[p,q] at t1 t2<;>simp at t1 t2<;>omega
theorem Lr{s a:Nat}(h:s.testBit a=true):(s-2^a) &&& s=s-2^a:=by
 have e:(s ^^^ 2^a) &&& 2^a=0:=ZbD λp=>by
  rw[ZbO,ZcD,Nat.zero_testBit,Nat.testBit_two_pow];by_cases q:a=p
  ·subst q;rw[h];simp
  ·simp[q]
 have x:=Gj (s ^^^ 2^a) (2^a);rw[e,Nat.xor_assoc,Nat.xor_self,Nat.xor_zero] at x;have:s-2^a=s ^^^ 2^a:=by omega
 rw[this];refine ZbD λp=>?_;rw[ZbO,ZcD,Nat.testBit_two_pow];by_cases q:a=p
 ·subst q;rw[h];simp
 ·simp[q]
theorem JZ{a b:Nat}:a ||| b=a↔b &&& a=b:=by
 constructor
 ·intro h;rw[<-h,Nat.and_comm];refine ZbD λp=>?_;rw[ZbO,Nat.testBit_or];cases a.testBit p<;>cases b.testBit p<;>rfl
 ·intro h;refine ZbD λp=>?_;have:=Zba (λn=>n.testBit p) h;simp only[ZbO] at this;rw[Nat.testBit_or];cases ha:a.testBit p<;>cases hb:b.testBit p<;>rw[ha,hb] at this<;>simp_all
theorem Gk{a b c:Nat}(h1:a &&& b=a)(h2:b &&& c=b):a &&& c=a:=by rw[<-h1,Nat.and_assoc,h2]
theorem oU(ns:List Int)(k:Nat):∃ n:Int,bh [.lst (ns.map .int),.int k]=some (.ok (.int n)):=by
 suffices h:∃ p,bh [.lst (ns.map .int),.int k]=some (.ok p)/\∃ n,p=.int n by
  obtain⟨p,e,n,rfl⟩:=h;exact⟨n,e⟩
 refine za ?_;unfold gV;walk_at "rd"
 rw[Zab];refine GX (λh=>?_) (λh=>?_)
 ·unfold iT;walk_at "rd"
  exact⟨_,Cw (by omega) h,_,rfl⟩
 ·unfold iU;walk_at "rd"
  exact⟨_,rfl⟩
def Nst(st:List Nat):Prop:=st.Pairwise λa b=>b &&& a=b
theorem Av(s a:Nat):((s:Int)/2^a%2=1)↔s.testBit a=true:=by
 rw[Nat.testBit_eq_decide_div_mod_eq,decide_eq_true_iff];have:(s:Int)/2^a%2=((s/2^a%2:Nat):Int):=by push_cast;rfl
 rw[this];omega
theorem CQ(ns:List Int)(c:Nat)(hc:c<=576):∃ st:List Nat,dF [.lst (ns.map .int),.int c]=some (.ok (.lst (aC st)))/\1<=st.length/\st.length<=40/\(∀ s∈st,s<2^c)/\Nst st:=by
 suffices hh:∃ p,dF [.lst (ns.map .int),.int c]=some (.ok p)/\∃ st:List Nat,p=.lst (aC st)/\1<=st.length/\st.length<=40/\(∀ s∈st,s<2^c)/\Nst st by
  obtain⟨p,e,st,rfl,h⟩:=hh;exact⟨st,e,h⟩
 have big:∀ {k:Nat},k<=900->k<sizeLine:=λh=>bY (by omega)
 refine Aa (x:=fD (startR [.lst (ns.map .int),.int c] 7)) ?_;unfold fD;rw[show startR [.lst (ns.map .int),.int c] 7=[some (.sh (.lst (ns.map .int))),some (.sh (.int c)),none,none,none,none,none,none,none] from rfl];walk_at "rd"
 have key:∀ x:Int,∃ m:Nat,(if(if x-2>1 then x-2 else 1)<40 then(if x-2>1 then x-2 else 1) else 40)=(m:Int)/\1<=m/\m<=40:=λx=>by
  refine⟨(if(if x-2>1 then x-2 else 1)<40 then(if x-2>1 then x-2 else 1) else 40).toNat,?_,?_,?_⟩<;>split<;>split<;>omega
 obtain⟨m,em,ma,mb⟩:=key ((ns.map PV.int).length:Int);rw[em];have two:∀ a:Nat,(1*2^((a:Int)).toNat:Int)=((2^a:Nat):Int):=λa=>by simp
 have p2:0<2^c:=Nat.pow_pos (by decide)
 rw[two,show((2^c:Nat):Int)-1=((2^c-1:Nat):Int) by omega,fB]
 refine⟨by omega,by omega,by decide,by omega,by omega,?_⟩
 refine gR (λi Z=>∃ (st:List Nat) (s:Nat) (v4 v5 v6 v7 v8:Option Sl),Z=[some (.sh (.lst (ns.map .int))),some (.sh (.int c)),some (.sh (.int s)),some (.ow (.lst (aC st))),v4,v5,v6,v7,v8]/\st.length=i/\(∀ x∈st,x<2^c)/\s<2^c/\Nst st/\∀ x∈st,s &&& x=s) ⟨[],2^c-1,none,none,none,none,none,rfl,rfl,by simp,by omega,List.Pairwise.nil,by simp⟩ ?_ ?_
 ·rintro i x Z hx ⟨st,s,v4,v5,v6,v7,v8,rfl,sl,sb,s2,nst,sx⟩;have il:i<m:=by have:=(Zad.mp hx).1;rw[Zab,ZaE] at this;exact this
  rw[Zaf,ZaU il] at hx;cases hx;obtain⟨cc,ec⟩:=oU ns (2+i);obtain⟨q,eq,q1⟩:=Ar cc (300+(i:Int)) (by omega) (by omega)
  have nst':Nst (st++[s]):=Za8.mpr ⟨nst,List.pairwise_singleton _ _,λa ha b hb=>by rw[ZaC.mp hb];exact sx a ha⟩
  have sb':∀ x∈st++[s],x<2^c:=λx hx=>by
   rcases ZaG.mp hx with h|h
   ·exact sb x h
   ·rw[ZaC.mp h];exact s2
  have l':(st++[s]).length=i+1:=by rw[Zaz,sl];rfl
  unfold jE;walk_at "rd"
  rw[show(2+(i:Int))=((2+i:Nat):Int) by push_cast;rfl,ec]
  walk_at "rd"
  rw[eq];walk_at "rd"
  rw[lq,fB];rw[Ah (λ(i:Nat)=>PV.int (i:Int)) (λ(i:Nat)=>PV.int (i:Int)) (λa=>s.testBit a) (List.range c) (λa _=>by
   walk_at "rd"
   refine⟨by omega,by decide,?_⟩
   rw[ZaN,Zca,decide_eq_true_iff];exact Av s a) (λa _ _=>by walk_at "rd")]
  refine⟨by unfold aC;rw[Zab];exact big (by omega),by omega,by omega,by rw[Zab,ZaE];exact ZaA (big (by omega)),?_⟩
  rw[tv_some];generalize hsp:(List.range c).filter (λa=>s.testBit a)=sp
  have spl:sp.length<=576:=by rw[<-hsp];exact ZaS (Zbr _ _) (by rw[ZaE];exact hc)
  have spb:∀ a∈sp,a<c:=λa ha=>by rw[<-hsp] at ha;exact ZaI.mp (ZaL.mp ha).1
  cases sp with
  |nil=>
   refine⟨true,rfl,?_⟩;rw[Zat rfl];unfold jA;walk_at "rd"
   exact⟨_,rfl,by omega,by omega,sb',nst'⟩
  |cons a0 sp0=>
   refine⟨false,rfl,?_⟩;rw[Zax (by decide)]
   generalize hs0:a0::sp0=sp at *
   have sp1:1<=sp.length:=by rw[<-hs0];simp
   unfold jD;walk_at "rd"
   have t0:=Zbv ((q:Int)/100) (b:=3) (by decide)
   have t1:=Zbh ((q:Int)/100) (b:=3) (by decide)
   obtain⟨w,ew⟩:=ZbP (show 0<=1+(q:Int)/100%3 by omega)
   rw[ew,fB];refine⟨by decide,by decide,by omega,by omega,by omega,?_⟩
   refine gR (λj Z=>∃ (s':Nat) (v7 v8:Option Sl),Z=[some (.sh (.lst (ns.map .int))),some (.sh (.int c)),some (.sh (.int s')),some (.ow (.lst (aC (st++[s])))),some (.sh (.int i)),some (.sh (.int q)),some (.sh (.lst (sp.map λ(i:Nat)=>PV.int (i:Int)))),v7,v8]/\s'<2^c/\s' &&& s=s') ⟨s,v7,v8,rfl,s2,ZcC _⟩ ?_ ?_
   ·rintro j x Z hx ⟨s',v7,v8,rfl,s3,s4⟩;have jl:j<w:=by have:=(Zad.mp hx).1;rw[Zab,ZaE] at this;exact this
    rw[Zaf,ZaU jl] at hx;cases hx;unfold jC;walk_at "rd"
    rw[Zab];have i0:0<=(q:Int)/(7+(j:Int))%(sp.length:Int):=Zbv _ (by omega)
    have i1:=Zbh ((q:Int)/(7+(j:Int))) (show 0<(sp.length:Int) by omega)
    obtain⟨k,ek⟩:=ZbP i0;rw[ek] at i1 ⊢;have kl:k<sp.length:=by omega
    have ea:atI (sp.map λ(i:Nat)=>PV.int (i:Int)) (k:Int)=some (.int (sp[k]:Nat)):=gW (l:=sp) (Zaa kl);have ac:=spb _ (Zbo kl);generalize sp[k]=a at ea ac
    refine⟨by omega,by omega,by omega,_,ea,?_⟩
    walk_at "rd"
    rw[ZaN];refine⟨by omega,by decide,GX (λh=>?_) (λ_=>⟨s',_,_,rfl,s3,s4⟩)⟩
    have tb:=(Av s' a).mp h;have ge:2^a<=s':=Nat.ge_two_pow_of_testBit tb;unfold jB;walk_at "rd"
    rw[two,show(s':Int)-((2^a:Nat):Int)=((s'-2^a:Nat):Int) by omega]
    exact⟨by omega,by omega,by decide,s'-2^a,_,_,rfl,Zbf (Nat.sub_le _ _) s3,Gk (Lr tb) s4⟩
   ·rintro Z ⟨s',v7,v8,rfl,s3,s4⟩;rw[turn_nx];exact⟨_,s',_,_,_,_,_,rfl,l',sb',s3,nst',λx hx=>by
     rcases ZaG.mp hx with h|h
     ·exact Gk s4 (sx x h)
     ·rw[ZaC.mp h];exact s4⟩
 ·rintro Z ⟨st,s,v4,v5,v6,v7,v8,rfl,sl,sb,s2,nst,sx⟩;rw[Zab,ZaE] at sl;unfold jF;walk_at "rd"
  exact⟨st,rfl,by omega,by omega,sb,nst⟩
theorem zm{st:List Nat}(hn:1<=st.length)(hl:st.length<=60):∃ (M:Nat) (best:Nat->Nat),cY [.lst (aC st)]=some (.ok (.int M))/\(∀ k,k<st.length->1<=best k)/\(∀ j k,j<k->k<st.length->¬inN st j k->best j+1<=best k)/\(∀ k,k<st.length->best k=1\/∃ j,j<k/\¬inN st j k/\best k=best j+1)/\(∃ k,k<st.length/\best k=M)/\∀ k,k<st.length->best k<=M:=by
 have big:∀ {k:Nat},k<=900->k<sizeLine:=λh=>bY (by omega)
 suffices hh:∃ p,cY [.lst (aC st)]=some (.ok p)/\∃ (M:Nat) (best:Nat->Nat),p=.int M/\(∀ k,k<st.length->1<=best k)/\(∀ j k,j<k->k<st.length->¬inN st j k->best j+1<=best k)/\(∀ k,k<st.length->best k=1\/∃ j,j<k/\¬inN st j k/\best k=best j+1)/\(∃ k,k<st.length/\best k=M)/\∀ k,k<st.length->best k<=M by
  obtain⟨p,e,M,best,rfl,h⟩:=hh;exact⟨M,best,e,h⟩
 have gs:∀ {j:Nat},j<st.length->atI (aC st) (j:Int)=some (.int ((st.getD j 0:Nat):Int)):=λ{j} hj=>gW (gq hj);have ln:(aC st).length=st.length:=Zab _;refine za (x:=eO (startR [.lst (aC st)] 4)) ?_;unfold eO;rw[show startR [.lst (aC st)] 4=[some (.sh (.lst (aC st))),none,none,none,none] from rfl];walk_at "rd"
 rw[ln,fB];refine⟨by omega,by omega,?_⟩
 refine gR (λk Z=>∃ (bs:List Nat) (v2 v3 v4:Option Sl),Z=[some (.sh (.lst (aC st))),some (.ow (.lst (aC bs))),v2,v3,v4]/\bs.length=k/\(∀ i,i<k->1<=bs.getD i 0)/\(∀ j i,j<i->i<k->¬inN st j i->bs.getD j 0+1<=bs.getD i 0)/\∀ i,i<k->bs.getD i 0=1\/∃ j,j<i/\¬inN st j i/\bs.getD i 0=bs.getD j 0+1) ⟨[],none,none,none,rfl,rfl,λ_ h=>absurd h (Zbd _),λ_ _ _ h=>absurd h (Zbd _),λ_ h=>absurd h (Zbd _)⟩ ?_ ?_
 ·rintro k x Z hx ⟨bs,v2,v3,v4,rfl,bl,h1,h2,h3⟩;have kl:k<st.length:=by have:=(Zad.mp hx).1;rw[Zab,ZaE] at this;exact this
  rw[Zaf,ZaU kl] at hx;cases hx;have gb:∀ {j:Nat},j<bs.length->atI (aC bs) (j:Int)=some (.int ((bs.getD j 0:Nat):Int)):=λ{j} hj=>gW (gq hj);unfold jb;walk_at "rd"
  rw[fB];refine⟨by omega,by omega,?_⟩
  refine gR (λj Z=>∃ (h:Nat) (v4:Option Sl),Z=[some (.sh (.lst (aC st))),some (.ow (.lst (aC bs))),some (.sh (.int k)),some (.sh (.int h)),v4]/\1<=h/\(∀ i,i<j->¬inN st i k->bs.getD i 0+1<=h)/\(h=1\/∃ i,i<j/\¬inN st i k/\h=bs.getD i 0+1)) ⟨1,v4,rfl,Zal _,λ_ h=>absurd h (Zbd _),.inl rfl⟩ ?_ ?_
  ·rintro j x Z hx ⟨h,v4,rfl,g1,g2,g3⟩;have jl:j<k:=by have:=(Zad.mp hx).1;rw[Zab,ZaE] at this;exact this
   rw[Zaf,ZaU jl] at hx;cases hx;unfold iY;walk_at "rd"
   refine⟨_,gs (by omega),_,gs kl,?_⟩
   rw[tv_or',Jf];refine⟨_,gs (by omega),_,eqF_int _ _ _,?_⟩
   by_cases e:st.getD j 0 ||| st.getD k 0=st.getD j 0
   ·rw[Zax (by rw[e];simp)]
    have ij:inN st j k:=JZ.mp e;refine⟨h,_,rfl,g1,λi hi hn=>?_,?_⟩
    ·by_cases q:i=j
     ·subst q;exact absurd ij hn
     ·exact g2 i (by omega) hn
    ·rcases g3 with z|⟨i,z1,z2⟩
     ·exact .inl z
     ·exact .inr ⟨i,by omega,z2⟩
   ·have nij:¬inN st j k:=λz=>e (JZ.mpr z);rw[Zat (decide_eq_false (by omega))]
    refine⟨_,gb (by omega),?_⟩
    walk_at "rd"
    refine GX (λge=>?_) (λge=>⟨h,_,rfl,g1,λi hi hn=>?_,?_⟩)
    ·unfold iW;walk_at "rd"
     refine⟨_,gb (by omega),?_⟩
     walk_at "rd"
     refine⟨bs.getD j 0+1,_,rfl,by omega,λi hi hn=>?_,.inr ⟨j,by omega,nij,rfl⟩⟩
     by_cases q:i=j
     ·rw[q];exact Zal _
     ·have:=g2 i (by omega) hn;omega
    ·by_cases q:i=j
     ·rw[q];omega
     ·exact g2 i (by omega) hn
    ·rcases g3 with z|⟨i,z1,z2⟩
     ·exact .inl z
     ·exact .inr ⟨i,by omega,z2⟩
  ·rintro Z ⟨h,v4,rfl,g1,g2,g3⟩;rw[Zab,ZaE] at g2 g3;unfold iZ;walk_at "rd"
   rw[lq];have e1:∀ {i},i<k->(bs++[h]).getD i 0=bs.getD i 0:=λ{i} hi=>by rw[Zag,Zah (by omega),<-Zag]
   have e2:(bs++[h]).getD k 0=h:=by rw[Zag,Zap (by omega),bl,Zcj];rfl
   refine⟨by unfold aC;rw[Zab];exact big (by omega),bs++[h],_,_,_,rfl,by rw[Zaz,bl];rfl,λi hi=>?_,λj i hj hi hn=>?_,λi hi=>?_⟩
   ·by_cases e:i=k
    ·rw[e,e2];exact g1
    ·rw[e1 (by omega)];exact h1 i (by omega)
   ·by_cases e:i=k
    ·subst e;rw[e2,e1 hj];exact g2 j hj hn
    ·rw[e1 (by omega),e1 (by omega)];exact h2 j i hj (by omega) hn
   ·by_cases e:i=k
    ·subst e;rw[e2];rcases g3 with z|⟨j,z1,z2,z3⟩
     ·exact .inl z
     ·exact .inr ⟨j,z1,z2,by rw[e1 z1];exact z3⟩
    ·rw[e1 (by omega)]
     rcases h3 i (by omega) with z|⟨j,z1,z2,z3⟩
     ·exact .inl z
     ·exact .inr ⟨j,z1,z2,by rw[e1 (by omega)];exact z3⟩
 ·rintro Z ⟨bs,v2,v3,v4,rfl,bl,h1,h2,h3⟩;rw[Zab,ZaE] at bl h1 h2 h3;unfold jc;walk_at "rd"
  have ne:(bs.map λ(n:Nat)=>(n:Int))≠[]:=λz=>by have:=Zba List.length z;rw[Zab] at this;simp at this;rw[this] at bl;simp at bl;omega
  obtain⟨mm,mx⟩:=pQ ne;obtain⟨y,hy,ey⟩:=Zay.mp mm;have ey:(y:Int)=uP (bs.map λ(n:Nat)=>(n:Int)):=ey;cases hz:bs.map λ(n:Nat)=>(n:Int) with
  |nil=>exact absurd hz ne
  |cons n ns=>
   refine⟨n,ns,by rw[j6,hz],y,by rw[<-hz];exact ey.symm,λi=>bs.getD i 0,h1,h2,h3,?_,λk hk=>?_⟩
   ·obtain⟨k,hk⟩:=ZaP hy;exact⟨k,by rw[<-bl];exact(Zad.mp hk).1,by show bs.getD k 0=y;rw[Zag,hk];rfl⟩
   ·have hb:bs.getD k 0∈bs:=Zao (gq (by rw[bl];exact hk))
    have:=mx _ (Zay.mpr ⟨_,hb,rfl⟩);show bs.getD k 0<=y
    omega
theorem Gm(st:List Nat)(k:Nat)(hk:k<st.length):(aC st).take k++PV.int ((st.getD k 0:Nat):Int)::(aC st).drop k=aC (st.take k++st.getD k 0::st.drop k):=by
 unfold aC;rw[Za1,Zaw,List.map_take,List.map_drop]
theorem Jg{st:List Nat}(h:Nst st){k:Nat}(hk:k<st.length):Nst (st.take k++st.getD k 0::st.drop k):=by
 have e:st.drop k=st.getD k 0::st.drop (k+1):=by
  rw[ZaY hk,Zag,Zaa hk];rfl
 have h2:Nst (st.take k++st.drop k):=by rw[List.take_append_drop];exact h
 obtain⟨a,b,c⟩:=Za8.mp h2;rw[e] at b c ⊢;refine Za8.mpr ⟨a,ZaK.mpr ⟨λx hx=>?_,b⟩,λx hx y hy=>?_⟩
 ·rcases Zaq.mp hx with q|q
  ·rw[q];exact ZcC _
  ·exact(ZaK.mp b).1 x q
 ·rcases Zaq.mp hy with q|q
  ·rw[q];exact c x hx _ Zaj
  ·exact c x hx y q
theorem Ls{st:List Nat}(h:Nst st){i j:Nat}(hij:i<j)(hj:j<st.length):inN st i j:=by
 have:=Za0.mp h i j (by omega) hj hij
 unfold inN;rw[Zag,Zag,Zaa hj,Zaa (show i<st.length by omega)]
 exact this
theorem Jh{st:List Nat}(h:Nst st){i j:Nat}(hij:i<j)(hj:j<st.reverse.length):inN st.reverse j i:=by
 have:=Za0.mp (List.pairwise_reverse.mpr (show st.Pairwise (λa b=>b &&& a=b) from h)) i j (by omega) hj hij
 unfold inN;rw[Zag,Zag,Zaa hj,Zaa (show i<st.reverse.length by omega)]
 exact this
theorem Ji{st su:List Nat}(h:Nst st)(p:su.Perm st){i j:Nat}(hi:i<su.length)(hj:j<su.length):inN su i j\/inN su j i:=by
 have hs:st.Pairwise λa b=>b &&& a=b\/a &&& b=a:=h.imp λz=>.inl z;have hp:su.Pairwise λa b=>b &&& a=b\/a &&& b=a:=(p.pairwise_iff λ{x y} z=>z.symm).mpr hs;have g:∀ {i},(hi:i<su.length)->su.getD i 0=su[i]:=λ{i} hi=>by rw[Zag,Zaa hi];rfl
 unfold inN;rw[g hi,g hj];rcases ZbV i j with q|q|q
 ·exact Za0.mp hp i j hi hj q
 ·subst q;exact .inl (ZcC _)
 ·exact(Za0.mp hp j i hj hi q).symm
theorem zp(n:Nat)(l:List Nat):eqF (n+1) (.lst (aC l)) (.lst (aC l))=some true:=xJ λp hp=>by
 obtain⟨m,_,rfl⟩:=Zay.mp hp;exact xK _ _
theorem zq{fr:List (Option Nat)}{fe:Fn PV}{f:Fn (List PV)}{Z:Rho}{Q:PV->Prop}{l:List PV}{ns:List Int}(hf:f Z=some (.ok l))(hk:jz (λp=>fe ((frR fr Z).set 0 (some (.sh p)))) l=some ns)(h64:l.length<64)(q:Q (.lst ((gQ ns).map λj=>l.getD j .non))):Tv (nG fr fe f Z) Q:=by
 unfold nG;exact⟨_,by simp only[hf,bnd,hk];rw[Zat h64],q⟩
theorem uo{g:PV->Option (Res PV)}{k:Nat->Int}:∀ {l:List Nat},(∀ x∈l,g (.int (x:Int))=some (.ok (.int (k x))))->jz g (aC l)=some (l.map k)
 |[],_=>rfl
 |a::l,h=>by
  show jz g (PV.int (a:Int)::aC l)=_
  unfold jz;rw[h a Zaj,uo λx hx=>h x (Zak _ hx)];rfl
theorem CT{st:List Nat}{ns:List Int}(h:ns.length=st.length):(gQ ns).map (λj=>(aC st).getD j .non)=aC ((gQ ns).map λj=>st.getD j 0):=by
 unfold aC;rw[ZcB];refine Zbw λj hj=>?_;have hj:=vo j hj;rw[Zag,Zaf,gq (by omega)];rfl
theorem CV{st:List Nat}(ns:List Int)(h:ns.length=st.length):((gQ ns).map λj=>st.getD j 0).Perm st:=by
 have p:=(oM ns).map λj=>st.getD j 0;refine p.trans (List.Perm.of_eq ?_);rw[h];apply ZbC
 intro i;rw[Zaf];by_cases hi:i<st.length
 ·rw[ZaU hi,gq hi];rfl
 ·rw[ZaF (by simpa using hi),ZaF (by simpa using hi)];rfl
theorem N7{x:Nat}(h:x<2^576):((x:Int)+1).natAbs<2^9000:=by
 have e:((x:Int)+1).natAbs=x+1:=by omega
 rw[e];exact Zbf h (Nat.pow_lt_pow_right (by decide) (by decide))
theorem law_main(ns:List Int)(hn:ns.length<=63):uf [.lst (ns.map .int)]=some (.ok (.bl true)):=by
 have big:∀ {k:Nat},k<=900->k<sizeLine:=λh=>bY (by lia)
 obtain⟨c0,e0⟩:=oU ns 0;obtain⟨c1,e1⟩:=oU ns 1;have e0:bh [.lst (ns.map .int),.int 0]=_:=e0;have e1:bh [.lst (ns.map .int),.int 1]=_:=e1;obtain⟨q,eq,q1⟩:=Ar c1 7 (by decide) (by decide)
 have cel:∃ c:Nat,atI [PV.int (1+c0/8%9),.int 576,.int 24,.int 40] (c0%4)=some (.int (c:Int))/\c<=576:=by
  have z0:=Zbv (c0/8) (b:=9) (by decide)
  have z1:=Zbh (c0/8) (b:=9) (by decide)
  have:=Zbv c0 (b:=4) (by decide)
  have:=Zbh c0 (b:=4) (by decide)
  rcases(show c0%4=0\/c0%4=1\/c0%4=2\/c0%4=3 by lia) with h|h|h|h<;>rw[h]
  ·exact⟨(1+c0/8%9).toNat,by rw[Int.toNat_of_nonneg (by lia)];exact atI_0,by lia⟩
  ·exact⟨576,atI_1,by lia⟩
  ·exact⟨24,atI_2,by lia⟩
  ·exact⟨40,atI_3,by lia⟩
 obtain⟨c,ec,hc⟩:=cel;obtain⟨st0,en,l1,l40,sb,nst⟩:=CQ ns c hc;refine yZ (x:=Ag (startR [.lst (ns.map .int)] 7)) ?_;unfold Ag;rw[show startR [.lst (ns.map .int)] 7=[some (.sh (.lst (ns.map .int))),none,none,none,none,none,none,none] from rfl];walk_at "rd"
 rw[e0];walk_at "rd"
 have main:∀ st:List Nat,1<=st.length->st.length<=41->(∀ s∈st,s<2^c)->Nst st->To (vz [some (.sh (.lst (ns.map .int))),some (.sh (.int c)),some (.ow (.lst (aC st))),some (.sh (.int q)),none,none,none,none]) λo=>fin (some o)=some (.ok (.bl true)):=λst l1 l41 sb nst=>by
  have ln:(aC st).length=st.length:=Zab _;obtain⟨L,B,A,ef,len,ch,hA,inc,lt,ap⟩:=oO (st:=st) (by lia)
  obtain⟨eL,eB⟩:=Jd l1 (λi j hij hj=>Ls nst hij hj) len ch inc lt ap;unfold vz;rw[to_seq,to_frz,show Bt 2 [some (.sh (.lst (ns.map .int))),some (.sh (.int c)),some (.ow (.lst (aC st))),some (.sh (.int q)),none,none,none,none]=[some (.sh (.lst (ns.map .int))),some (.sh (.int c)),some (.sh (.lst (aC st))),some (.sh (.int q)),none,none,none,none] from rfl];walk_at "rd"
  rw[ef];walk_at "rd"
  have lB:(aC B).length=1:=by rw[<-eB];exact Zab _
  rw[ln,ZaN,eL];refine⟨by lia,by lia,big (by decide) |> ZaA,true,xJ (n:=31) (l:=[.lst (aC (List.range st.length))]) λp hp=>by rw[ZaC.mp hp];exact zp 30 _,?_⟩
  rw[Zax (by decide),Zax (by lia)]
  obtain⟨L2,B2,A2,ef2,qU,ch2,hA2,inc2,lt2,ap2⟩:=oO (st:=st.reverse) (by rw[List.length_reverse];lia)
  have ddm:∀ x:Nat,x∈(dd (st.reverse.map λ(n:Nat)=>(n:Int))).map Int.toNat↔x∈st.reverse:=λx=>by
   rw[Zay];constructor
   ·rintro⟨z,hz,e⟩;obtain⟨y,hy,e2⟩:=Zay.mp (jY.mp hz);have:y=x:=by lia
    rw[<-this];exact hy
   ·exact λhx=>⟨(x:Int),jY.mpr (Zay.mpr ⟨x,hx,rfl⟩),ZaN x⟩
  have ddn:((dd (st.reverse.map λ(n:Nat)=>(n:Int))).map Int.toNat).Nodup:=by
   rw[List.Nodup,ZaV];refine(nF _).imp_of_mem λ{a b} ha hb hne e=>hne ?_;obtain⟨y,_,e1⟩:=Zay.mp (jY.mp ha);obtain⟨z,_,e2⟩:=Zay.mp (jY.mp hb);lia
  have u2:=Nk (λi j hij hj=>Jh nst hij hj) qU ch2 hA2 inc2 lt2 ap2 ddn ddm;rw[Zab] at u2;unfold Af;walk_at "rd"
  rw[Gi,CP,ef2];walk_at "rd"
  have eU:oK (aC st.reverse)=some (.ok (.int (L2.length:Nat))):=by
   unfold oK;rw[j6];show(if _ then _ else _)=_
   rw[Zat (by rw[Zab,List.length_reverse];lia),u2]
  have lB2:(aC B2).length=B2.length:=Zab _;rw[eU,tv_some,Zab];refine⟨by decide,true,xK _ _,?_⟩
  rw[Zax (by decide),Zax (by rw[lB2,<-qU];simp)]
  unfold Ae;walk_at "rd"
  refine zq (l:=aC st) (ns:=st.map λ(n:Nat)=>((n:Int)+1)*(q:Int)%(10^30+57)) rfl (uo λx hx=>iR ?_) (by rw[ln];lia) ?_
  ·rw[show frR [none,some 3] [some (Sl.sh (PV.lst (ns.map PV.int))),some (Sl.sh (PV.int (c:Int))),some (Sl.sh (PV.lst (aC st))),some (Sl.sh (PV.int (q:Int))),some (Sl.sh (PV.lst (L2.map vB))),some (Sl.sh (PV.lst (aC B2))),some (Sl.sh (PV.lst (aC st.reverse))),none]=[none,some (.sh (.int (q:Int)))] from rfl];walk_at "rd"
   have xb:=sb x hx;have hb:(10:Int)^30+57<10^250:=by decide +kernel
   have q2:(q:Int)<10^30+57:=by exact_mod_cast q1
   exact⟨N7 (Zau xb (Zb6 (by decide) hc)),rN (by lia) (by lia),by decide,by decide,by decide,by decide⟩
  ·rw[CT (by rw[Zab])]
   generalize hsu:(gQ (st.map λ(n:Nat)=>((n:Int)+1)*(q:Int)%(10^30+57))).map (λj=>st.getD j 0)=su
   have pm:su.Perm st:=by rw[<-hsu];exact CV _ (by rw[Zab])
   have lsu:su.length=st.length:=pm.length_eq;obtain⟨L3,B3,A3,ef3,Fo,ch3,hA3,inc3,lt3,ap3⟩:=oO (st:=su) (by lia)
   obtain⟨M,best,eg,b1,b2,b3,⟨kk,k1,k2⟩,b5⟩:=zm (st:=su) (by lia) (by lia)
   obtain⟨⟨k3,k4,k5⟩,g2⟩:=Je (λi j hi hj=>Ji nst pm hi hj) (by lia) Fo ch3 hA3 inc3 lt3 ap3 b1 b2 b3
   have eM:L3.length=M:=by
    have:=b5 k3 k4;have:=g2 kk k1;lia
   have lB3:(aC B3).length=B3.length:=Zab _;rw[ef3];walk_at "rd"
   rw[eg];walk_at "rd"
   rw[Zab,Zat (by lia),lB3,<-Fo]
 refine⟨by decide,by decide,by decide,big (by decide) |> ZaA,by decide,_,ec,?_⟩
 rw[en,tv_some,e1,tv_some,eq,tv_some];walk_at "rd"
 refine⟨by decide,GX (λ_=>?_) (λ_=>main st0 l1 (by lia) sb nst)⟩
 have ln:(aC st0).length=st0.length:=Zab _;unfold Ad;refine Lq rfl ?_;walk_at "rd"
 rw[ln];have i0:0<=(q:Int)/10%(st0.length:Int):=Zbv _ (by lia)
 have i1:=Zbh ((q:Int)/10) (show 0<(st0.length:Int) by lia)
 obtain⟨k,ek⟩:=ZbP i0;rw[ek] at i1 ⊢;have kl:k<st0.length:=by lia
 have gk:atI (aC st0) (k:Int)=some (.int ((st0.getD k 0:Nat):Int)):=gW (gq kl);refine⟨by decide,by decide,by lia,by decide,by decide,by lia,_,gk,by lia,by lia,big (by lia),?_⟩
 rw[ZaN,Gm st0 k kl];refine main _ ?_ ?_ (λx hx=>?_) (Jg nst kl)
 ·rw[Zaz,ZaJ];lia
 ·rw[Zaz,ZaJ,Zb2,Zb5];lia
 ·rcases ZaG.mp hx with h|h
  ·exact sb x (List.mem_of_mem_take h)
  ·rcases Zaq.mp h with h|h
   ·rw[h];exact sb _ (Zao (gq kl))
   ·exact sb x (List.mem_of_mem_drop h)
def top(i:Nat):Stmt:=PySem.Challenge.pw_lostblock_k25_order_tells.main.body.getD i (.Pass ⟨0,0,0,0⟩)
noncomputable abbrev LP:Pos:=⟨102,46,102,109⟩
noncomputable abbrev LQ:Str:=(envOfC "law" (aJ (top 16)) 0 0 .none).qual++"<lambda>"
def eD(P:Params)(x:Str)(t:Tok)(v:Value):DictEntry:={ hash:=PyData.keyHash P x,key:=.str x t,val:=v }
def fO(n:Str)(i:Nat)(pm:Value)(c:Nat):Obj:={ cls:=.type "function",data:=.func (fnOf n n (bN (top i)) (bF (top i)) (aJ (top i)) .none .none .none pm none (.ref c) .none) }
def cO(n:Str)(t1 t2 t3:Tok)(l k:Int)(a:Nat)(m:Int)(b:Nat)(u v:Value)(c:Nat)(z:Int)(t4:Tok):Obj:={ cls:=.type "code",data:=.fields #[.str n t1,.str n t2,.str "/claim/cut.py" t3,.int l 0,.int k 0,.int 0 0,.int 0 0,.int 3 0,.ref a,.bool true,.int m 0,.ref b,.none,u,v,.ref c,.int z 0,.int l 0,.str "/claim/cut.py" t4] }
def KK:Params->Frag:=λP=>(nat_lit 3,{ cls:=.type "dict",data:=.dict #[eD P "__name__" 165 (.str "law_lostblock_k25_order_tells" 268),eD P "__doc__" 166 .none,eD P "__package__" 167 .none,eD P "__loader__" 168 (.builtin "__main__.__loader__#opaque"),eD P "__spec__" 169 .none,eD P "__annotations__" 170 (.ref 6),eD P "__builtins__" 171 (.ref 4),eD P "__file__" 173 (.str "/claim/cut.py" 172),eD P "__cached__" 174 .none,eD P "within" 196 (.ref 21),eD P "walked" 212 (.ref 28),eD P "pair_anew" 225 (.ref 35),eD P "most_pairs" 236 (.ref 42),eD P "short_of_givers" 242 (.ref 47),eD P "states_ahead" 250 (.ref 52),eD P "chains_by" 261 (.ref 59),eD P "fewest_blocks" 267 (.ref 64),eD P "_law_cell_at" 277 (.ref 71),eD P "_law_mixed" 285 (.ref 78),eD P "_law_nested" 291 (.ref 83),eD P "_law_growing" 302 (.ref 90),eD P "law" 316 (.ref 97)] 22 })::(nat_lit 20,cO "within" 189 190 191 2 2 15 181 16 (.ref 17) (.ref 18) 19 194 195)::(nat_lit 21,fO "within" 1 (.str "lostblock.boards" 187) 20)::(nat_lit 27,cO "walked" 199 200 201 5 3 22 181 23 (.ref 24) (.ref 25) 26 210 211)::(nat_lit 28,fO "walked" 3 (.str "lostblock.matching" 197) 27)::(nat_lit 34,cO "pair_anew" 213 214 215 20 4 29 181 30 (.ref 31) (.ref 32) 33 223 224)::(nat_lit 35,fO "pair_anew" 4 (.str "lostblock.matching" 197) 34)::(nat_lit 41,cO "most_pairs" 226 227 228 28 1 36 181 37 (.ref 38) (.ref 39) 40 234 235)::(nat_lit 42,fO "most_pairs" 5 (.str "lostblock.matching" 197) 41)::(nat_lit 46,cO "short_of_givers" 237 238 239 35 2 43 181 44 .none .none 45 240 241)::(nat_lit 47,fO "short_of_givers" 6 (.str "lostblock.matching" 197) 46)::(nat_lit 51,cO "states_ahead" 245 246 247 40 2 48 181 49 .none .none 50 248 249)::(nat_lit 52,fO "states_ahead" 8 (.str "lostblock.chains" 243) 51)::(nat_lit 58,cO "chains_by" 251 252 253 42 2 53 181 54 (.ref 55) (.ref 56) 57 259 260)::(nat_lit 59,fO "chains_by" 9 (.str "lostblock.chains" 243) 58)::(nat_lit 63,cO "fewest_blocks" 262 263 264 53 1 60 181 61 .none .none 62 265 266)::(nat_lit 64,fO "fewest_blocks" 10 (.str "lostblock.chains" 243) 63)::(nat_lit 70,cO "_law_cell_at" 270 271 272 60 2 65 181 66 (.ref 67) (.ref 68) 69 275 276)::(nat_lit 71,fO "_law_cell_at" 12 (.str "law_lostblock_k25_order_tells" 268) 70)::(nat_lit 77,cO "_law_mixed" 278 279 280 64 2 72 181 73 (.ref 74) (.ref 75) 76 283 284)::(nat_lit 78,fO "_law_mixed" 13 (.str "law_lostblock_k25_order_tells" 268) 77)::(nat_lit 82,cO "_law_nested" 286 287 288 66 2 79 181 80 .none .none 81 289 290)::(nat_lit 83,fO "_law_nested" 14 (.str "law_lostblock_k25_order_tells" 268) 82)::(nat_lit 89,cO "_law_growing" 292 293 294 80 1 84 181 85 (.ref 86) (.ref 87) 88 300 301)::(nat_lit 90,fO "_law_growing" 15 (.str "law_lostblock_k25_order_tells" 268) 89)::(nat_lit 92,PySem.W.tabObj #[])::(nat_lit 96,cO "law" 303 304 305 89 1 91 181 92 (.ref 93) (.ref 94) 95 314 315)::(nat_lit 97,fO "law" 16 (.str "law_lostblock_k25_order_tells" 268) 96)::[]
structure Txt(mg:Str->Option Value):Prop where
 tt:True
 Gn:mg "dict"=none
 eX:mg "len"=none
 Gp:mg "list"=none
 J0:mg "max"=none
 Nm:mg "min"=none
 gA:mg "range"=none
 Np:mg "set"=none
 rO:mg "sorted"=none
section
seal PE PA PS PSs PG PGs PI PPs MJ MT MA MAL MO MS MG MGs MI
variable{P:Program}{w:World}{K:Frag}{mg:Str->Option Value}{base:Heap}
theorem CW:bV ["one","other"] ["one","other"] (aJ (top 1)):=by walk_at "s"
theorem CZ(T:Txt mg)(D:cF K mg "within" (top 1) ["one","other"]):FnAt P w K mg base "within" 1 ["one","other"] (spM K XR0 nJ):=by
 refine D.ok CW (λvs H Q E h=>kI h λps r e=>match ps,e with|[_,_],_=>rfl) (λf cdv A outer s H vs Q E hr h=>?_)
 refine⟨_,(aY (cR (uw (lO hr) (bw Kh (pv 0) (pv 1)) (pv 0) (du _)))),mW (b:=nH) (k:=2) (n:=0) rfl (λps r e=>match ps,e with|[_,_],e=>⟨rfl,e⟩) h λio H0 F0 hio=>?_⟩
 exact(jg (aK aH.up yD (bT (aK aF.up MN (au 0) (au 1))) (bz 0)))
theorem fC:bV ["wishes","asker_of","starts","askers","came_by","place","asker","giver"] ["wishes","asker_of","starts"] (aJ (top 3)):=by walk_at "s"
theorem Dc(T:Txt mg)(D:cF K mg "walked" (top 3) ["wishes","asker_of","starts"]):FnAt P w K mg base "walked" 1 ["wishes","asker_of","starts"] (spD K XR0 gU):=by
 refine D.ok fC (λvs H Q E h=>uZ h λps r e=>match ps,e with|[_,_,_],_=>rfl) (λf cdv A outer s H vs Q E hr h=>?_)
 refine⟨_,(az (bx (i:=3) fC.nd rfl (Or.inl rfl) (gB uA rfl T.Gp (by decide +kernel) (ak (pv 2) aA)))
   (az (bx (i:=4) fC.nd rfl (Or.inl rfl) mL)
   (az (bx (i:=5) fC.nd rfl (Or.inl rfl) aL)
   (az (vQ Zbe (bU DY (pv 5) (bf bH rfl T.eX (by decide +kernel) (ak (pv 3) aA)) (du _))
    (az (bx (i:=6) fC.nd rfl (Or.inl rfl) (dY cU (pv 3) (pv 5) (λ_ _=>rfl)))
    (az (lL Zbe rfl (zM (iI hr (pv 0) (pv 6) (λ_ _=>rfl))) (cL (i:=7) fC.nd rfl (Or.inl rfl))
     (az (lz (bU (Es hr) (pv 7) (pv 4) (by with_unfolding_all rfl))
      (aY vP)
      fX)
     (az (mK (mq hr) (pv 4) (pv 7) (pv 6) rfl)
     (az (lz (bU (tZ hr) (pv 7) (pv 1) (by with_unfolding_all rfl))
      (aY (cR (nY (ak (pv 7) (ak (pv 3) (ak (pv 4) aA))))))
      fX)
     (aY (je (tD Za6 Zbi PySem.F.type_list_append gC (pv 3) (ak (iI hr (pv 1) (pv 7) (λ_ _=>rfl)) aA))))))))
    (aY (bx (i:=5) fC.nd rfl (Or.inl rfl) (bw d7 (pv 5) aL))))))
   (aY (cR (nY (ak De (ak (pv 3) (ak (pv 4) aA)))))))))),uY (b:=rG) (k:=3) (n:=5) rfl (λps r e=>match ps,e with|[_,_,_],e=>⟨rfl,e⟩) h λio H0 F0 hio=>?_⟩
 exact(aR (gh (i:=3) trivial (qy K1 (dZ 2)))
   (aR (gh (i:=4) trivial pR)
   (aR (cj aM (aU 5))
   (aR (DN 200 (bO (aK aF.up M3 (au 5) (cA eY (bz 3))))
    (aR (cj (aK aV.up wB (dZ 3) (au 5)) (aU 6))
    (aR (ou (zN (kW (cC 0) (au 6))) (aU 7)
     (aR (lC (bO (aK aF.up JM (au 7) (cC 4)))
      Hh
      gf)
     (aR (uV (au 6) (au 7))
     (aR (lC (bO (aK aF.up wJ (au 7) (cC 1)))
      (vf (qR (wN (au 7)) (nC 3 hio (by decide) (nC 4 hio (by decide) vd))))
      gf)
     (yz (kW (cC 1) (au 7)))))))
    (cj (aK aF.up jy (au 5) aM) (aU 5)))))
   (vf (qR (wN DG) (nC 3 hio (by decide) (nC 4 hio (by decide) vd))))))))
theorem eV:bV ["giver_of","asker_of","came_by","free","giver","asker","left"] ["giver_of","asker_of","came_by","free"] (aJ (top 4)):=by walk_at "s"
theorem vC(T:Txt mg)(D:cF K mg "pair_anew" (top 4) ["giver_of","asker_of","came_by","free"]):FnAt P w K mg base "pair_anew" 1 ["giver_of","asker_of","came_by","free"] (wU K cX):=by
 refine D.ok eV (λvs H Q E h=>BW h λps r e=>match ps,e with|[_,_,_,_],_=>rfl) (λf cdv A outer s H vs Q E hr h=>?_)
 refine⟨_,(az (bx (i:=4) eV.nd rfl (Or.inl rfl) (pv 3))
   (aY (vQ Zbe (bU Gy (pv 4) De (du _))
    (az (bx (i:=5) eV.nd rfl (Or.inl rfl) (iI hr (pv 2) (pv 4) (λ_ _=>rfl)))
    (az (bx (i:=6) eV.nd rfl (Or.inl rfl) (BJ hr (pv 0) (pv 5) ⟨rfl,rfl,rfl,rfl⟩))
    (az (mK (mq hr) (pv 0) (pv 5) (pv 4) rfl)
    (az (mK (mq hr) (pv 1) (pv 4) (pv 5) rfl)
    (aY (bx (i:=4) eV.nd rfl (Or.inl rfl) (pv 6)))))))))),BV (b:=fM) (k:=4) (n:=3) rfl (λps r e=>match ps,e with|[_,_,_,_],e=>⟨rfl,e⟩) h λa c H0 F0=>?_⟩
 exact(m7 (pU (au 3) (mZ 4 (by decide)))
   (BZ 200 (bO (aK aH.up KY (bz 4) DG))
    (m7 (pU (kW (cC 2) (au 4)) (mZ 5 (by decide)))
    (m7 (pU (Er (cC 0) (au 5)) (mZ 6 (by decide)))
    (m7 (wW (au 4) (au 5))
    (m7 (wW (au 5) (au 4))
    (pU (au 6) (mZ 4 (by decide)))))))))
theorem dH:bV ["wishes","giver_of","asker_of","asker","way"] ["wishes"] (aJ (top 5)):=by walk_at "s"
theorem sJ(T:Txt mg)(D:cF K mg "most_pairs" (top 5) ["wishes"])(rP:FnAt P w K mg base "walked" 1 ["wishes","asker_of","starts"] (spD K XR0 gU))(xT:FnAt P w K mg base "pair_anew" 1 ["giver_of","asker_of","came_by","free"] (wU K cX)):FnAt P w K mg base "most_pairs" 2 ["wishes"] (spO K XR0 eE):=by
 refine D.ok dH (λvs H Q E h=>uN h λps r e=>match ps,e with|[_],_=>rfl) (λf cdv A outer s H vs Q E hr h=>?_)
 refine⟨_,(az (bx (i:=1) dH.nd rfl (Or.inl rfl) mL)
   (az (bx (i:=2) dH.nd rfl (Or.inl rfl) mL)
   (az (HD 0 (lL Zbe rfl (zR (pv 0)) (cL (i:=3) dH.nd rfl (Or.inl rfl))
    (az (bx (i:=4) dH.nd rfl (Or.inl rfl) (bC rP (hr.mono (by decide)) rfl (ak (pv 0) (ak (pv 2) (ak (jH (ak (pv 3) aA)) aA)))))
    (aY (je (bC xT (hr.mono (by decide)) rfl (ak (pv 1) (ak (pv 2) (ak (dY cU (pv 4) aL (λ_ _=>rfl)) (ak (dY cU (pv 4) aL (λ_ _=>rfl)) aA))))))))))
   (aY (cR (pv 1)))))),uM (b:=jq) (k:=1) (n:=4) rfl (λps r e=>match ps,e with|[_],e=>⟨rfl,e⟩) h λio H0 F0 hio=>?_⟩
 exact(aR (gh (i:=1) trivial pR)
   (aR (gh (i:=2) trivial pR)
   (aR (HF 0 (λ_ _=>HN (wR 0) (aU 3)
    (aR (uX (i:=4) trivial (Fi (qp (bz 0) (qp (bz 2) (qp (bT (dM (jL (aG (au 3) bc)))) Hf)))))
    (zW 4 (K9 (by decide) (aG (aK aF.up oA (au 4) aM) (aG (aK aF.up oA (au 4) aM) bc)))))))
   (qu 1 hio))))
theorem dO:bV ["wishes","giver_of","asker_of","way"] ["wishes","giver_of"] (aJ (top 6)):=by walk_at "s"
theorem lZ(T:Txt mg)(D:cF K mg "short_of_givers" (top 6) ["wishes","giver_of"])(rP:FnAt P w K mg base "walked" 1 ["wishes","asker_of","starts"] (spD K XR0 gU)):FnAt P w K mg base "short_of_givers" 2 ["wishes","giver_of"] (spM K XR0 cN):=by
 refine D.ok dO (λvs H Q E h=>kI h λps r e=>match ps,e with|[_,_],_=>rfl) (λf cdv A outer s H vs Q E hr h=>?_)
 refine⟨_,(az (bx (i:=2) dO.nd rfl (Or.inl rfl) (gB (qH hr rfl) rfl T.Gn (by decide +kernel) (ak (zQ 1 (pM ["asker","giver"] [none,none] rfl (Ff (pv 1)) (λ_ _ _ _ _=>(GZ (n:=2) rfl (fG (gK (i:=0) (by decide +kernel) rfl rfl) (fG (gK (i:=1) (by decide +kernel) rfl rfl) pK)))) (λ_ _ _ _ _=>Dm) (λ_ _ _ _ _=>(nY (ak (pvl 1) (ak (pvl 0) aA)))))) aA)))
   (az (bx (i:=3) dO.nd rfl (Or.inl rfl) (bC rP (hr.mono (by decide)) rfl (ak (pv 0) (ak (pv 2) (ak (zQ 0 (pM ["asker","giver_of"] [none,some 1] rfl (zR (pv 0)) (λ_ _ _ _ _=>(gK (i:=0) (by decide +kernel) rfl rfl)) (λ_ _ _ _ _=>(uB (bU (yJ hr) (pvl 0) (pvf 1) (by with_unfolding_all rfl)))) (λ_ _ _ _ _=>(pvl 0)))) aA)))))
   (aY (cR (nY (ak (bf wX rfl T.rO (by decide +kernel) (ak (dY cU (pv 3) aL (λ_ _=>rfl)) aA)) (ak (bf (u6 rfl) rfl T.rO (by decide +kernel) (ak (dY cU (pv 3) aL (λ_ _=>rfl)) aA)) aA))))))),mW (b:=eF) (k:=2) (n:=2) rfl (λps r e=>match ps,e with|[_,_],e=>⟨rfl,e⟩) h λio H0 F0 hio=>?_⟩
 exact(aR (cj (dM (qy (zO λ_ _ _=>zP) (uE (zV 1 (λ_ _=>o8 (Cd 1) (uG (fJ (aU 0) (fJ (aU 1) pO))) (KZ (wC (jh 0) (wC (jh 1) Hs))) Ei (yx (aG (au 1) (aG (au 0) bc)))))))) (aU 2))
   (aR (uX (i:=3) trivial (m8 (aG (au 0) (aG (au 2) (aG (dM (zV 0 (λ_ _=>o8 (wR 0) (aU 0) (jh 0) (bO (aK aF.up wJ (au 0) (cC 1))) (au 0)))) bc)))))
   (zW 3 (jg (yx (aG (dM (qy La (zF (aK aF.up oA (au 3) aM)))) (aG (dM (qy HQ (Ep (aK aF.up oA (au 3) aM)))) bc)))))))
theorem pH:bV ["states","number"] ["states","number"] (aJ (top 8)):=by walk_at "s"
theorem pI(T:Txt mg)(D:cF K mg "states_ahead" (top 8) ["states","number"])(Gq:FnAt P w K mg base "within" 1 ["one","other"] (spM K XR0 nJ)):FnAt P w K mg base "states_ahead" 2 ["states","number"] (spO K XR0 eN):=by
 refine D.ok pH (λvs H Q E h=>uN h λps r e=>match ps,e with|[_,_],_=>rfl) (λf cdv A outer s H vs Q E hr h=>?_)
 refine⟨_,(aY (cR (pM ["earlier","states","number"] [none,some 0,some 1] rfl (dR rfl T.gA (ak (pv 1) aA)) (λ_ _ _ _ _=>(gK (i:=0) (by decide +kernel) rfl rfl)) (λ_ _ _ _ _=>(uB (J6 (bC Gq (hr.mono (by decide)) (glc rfl) (ak (dY uO (pvf 1) (pvf 2) (λ_ _=>rfl)) (ak (dY uO (pvf 1) (pvl 0) (λ_ _=>rfl)) aA)))))) (λ_ _ _ _ _=>(pvl 0))))),uM (b:=eG) (k:=2) (n:=0) rfl (λps r e=>match ps,e with|[_,_],e=>⟨rfl,e⟩) h λio H0 F0 hio=>?_⟩
 exact(Hi (pP (ig (aG (au 1) bc)) (aU 0) (jh 0) (KH (fZ (aG (aK aF.up oA (au 1) (au 2)) (aG (aK aF.up oA (au 1) (au 0)) bc)))) (au 0)))
theorem gr:bV ["many","ahead_of","chains","chain_of","number"] ["many","ahead_of"] (aJ (top 9)):=by walk_at "s"
theorem vD(T:Txt mg)(D:cF K mg "chains_by" (top 9) ["many","ahead_of"]):FnAt P w K mg base "chains_by" 1 ["many","ahead_of"] (spD K XR0 dW):=by
 refine D.ok gr (λvs H Q E h=>uZ h λps r e=>match ps,e with|[_,_],_=>rfl) (λf cdv A outer s H vs Q E hr h=>?_)
 refine⟨_,(az (bx (i:=2) gr.nd rfl (Or.inl rfl) (jH aA))
   (az (bx (i:=3) gr.nd rfl (Or.inl rfl) mL)
   (az (lL Zbe rfl (dR rfl T.gA (ak (pv 0) aA)) (cL (i:=4) gr.nd rfl (Or.inl rfl))
    (aY (lz (bU (Es hr) (pv 4) (pv 1) (by with_unfolding_all rfl))
     (az (mK (mq hr) (pv 3) (pv 4) (iI hr (pv 3) (iI hr (pv 1) (pv 4) (λ_ _=>rfl)) (λ_ _=>rfl)) rfl)
     (aY (je (tD Za6 Zbi PySem.F.type_list_append gC (dY cU (pv 2) (iI hr (pv 3) (pv 4) (λ_ _=>rfl)) (λ_ _=>rfl)) (ak (pv 4) aA)))))
     (az (mK (mq hr) (pv 3) (pv 4) (bf bH rfl T.eX (by decide +kernel) (ak (pv 2) aA)) rfl)
     (aY (je (tD Za6 Zbi PySem.F.type_list_append gC (pv 2) (ak (jH (ak (pv 4) aA)) aA))))))))
   (aY (cR (pv 2)))))),uY (b:=iu) (k:=2) (n:=3) rfl (λps r e=>match ps,e with|[_,_],e=>⟨rfl,e⟩) h λio H0 F0 hio=>?_⟩
 exact(aR (uX (i:=2) trivial (JP (jL bc)))
   (aR (gh (i:=3) trivial pR)
   (aR (ou (ig (aG (au 0) bc)) (aU 4)
    (lC (bO (aK aF.up JM (au 4) (cC 1)))
     (aR (uV (kW (cC 3) (kW (cC 1) (au 4))) (au 4))
     (Hz (kW (cC 3) (au 4)) (au 4)))
     (aR (uV (M9 (i:=2) (cA eY (bz 2))) (au 4))
     (HB (JP (jL (aG (au 4) bc)))))))
   (Ez 2))))
theorem cD:bV ["states","wishes","ahead_of","short","apart"] ["states"] (aJ (top 10)):=by walk_at "s"
theorem oV(T:Txt mg)(D:cF K mg "fewest_blocks" (top 10) ["states"])(rQ:FnAt P w K mg base "states_ahead" 2 ["states","number"] (spO K XR0 eN))(vJ:FnAt P w K mg base "most_pairs" 2 ["wishes"] (spO K XR0 eE))(nT:FnAt P w K mg base "short_of_givers" 2 ["wishes","giver_of"] (spM K XR0 cN))(xU:FnAt P w K mg base "chains_by" 1 ["many","ahead_of"] (spD K XR0 dW)):FnAt P w K mg base "fewest_blocks" 3 ["states"] (spD K XR0 bZ):=by
 refine D.ok cD (λvs H Q E h=>uZ h λps r e=>match ps,e with|[_],_=>rfl) (λf cdv A outer s H vs Q E hr h=>?_)
 refine⟨_,(az (bx (i:=1) cD.nd rfl (Or.inl rfl) (gB (qH hr rfl) rfl T.Gn (by decide +kernel) (ak (pM ["number","states"] [none,some 0] rfl (dR rfl T.gA (ak (bf bH rfl T.eX (by decide +kernel) (ak (pv 0) aA)) aA)) (λ_ _ _ _ _=>(gK (i:=0) (by decide +kernel) rfl rfl)) (λ_ _ _ _ _=>Dm) (λ_ _ _ _ _=>(nY (ak (pvl 0) (ak (bC rQ (hr.mono (by decide)) (glc rfl) (ak (pvf 1) (ak (pvl 0) aA))) aA))))) aA)))
   (az (bx (i:=2) cD.nd rfl (Or.inl rfl) (bC vJ (hr.mono (by decide)) rfl (ak (pv 1) aA)))
   (az (bx (i:=3) cD.nd rfl (Or.inr rfl) (bC nT (hr.mono (by decide)) rfl (ak (pv 1) (ak (pv 2) aA))))
   (az (zE (i:=4) ["number","short"] [none,some 3] rfl cD.nd rfl rfl (zM (dY cU (pv 3) aL (λ_ _=>rfl))) (λ_ _ _ _ _=>(gK (i:=0) (by decide +kernel) rfl rfl)) (λ_ _ _ _ _=>(uB (bU (yF hr) (pvl 0) (dY uO (pvf 1) aL (λ_ _=>rfl)) (by with_unfolding_all rfl)))) (λ_ _ _ _ _=>(pvl 0)))
   (aY (cR (nY (ak (bC xU (hr.mono (by decide)) rfl (ak (bf bH rfl T.eX (by decide +kernel) (ak (pv 0) aA)) (ak (pv 2) aA))) (ak (pv 4) aA))))))))),uY (b:=dJ) (k:=1) (n:=4) rfl (λps r e=>match ps,e with|[_],e=>⟨rfl,e⟩) h λio H0 F0 hio=>?_⟩
 exact(aR (cj (dM (qy (zO λ_ _ _=>zP) (uE (pP (ig (aG (cA eY (bz 0)) bc)) (aU 0) (jh 0) Ei (yx (aG (au 0) (aG (dM (uF (aG (au 1) (aG (au 0) bc)))) bc))))))) (aU 1))
   (aR (cj (dM (uF (aG (au 1) bc))) (aU 2))
   (aR (cj (fZ (aG (au 1) (aG (au 2) bc))) (aU 3))
   (aR (gh (i:=4) trivial (pP (zN (aK aF.up oA (au 3) aM)) (aU 0) (jh 0) (bO (aK aH.up Hm (bz 0) (bT (aK aF.up oA (au 1) aM)))) (au 0)))
   (vf (qR (m8 (aG (cA eY (bz 0)) (aG (au 2) bc))) (nC 4 hio (by decide) vd)))))))
theorem vG:bV ["_law_script","_law_k"] ["_law_script","_law_k"] (aJ (top 12)):=by walk_at "s"
theorem vH(T:Txt mg)(D:cF K mg "_law_cell_at" (top 12) ["_law_script","_law_k"]):FnAt P w K mg base "_law_cell_at" 1 ["_law_script","_law_k"] (spM K XR0 bh):=by
 refine D.ok vG (λvs H Q E h=>kI h λps r e=>match ps,e with|[_,_],_=>rfl) (λf cdv A outer s H vs Q E hr h=>?_)
 refine⟨_,(az (lz (bU DY (pv 1) (bf bH rfl T.eX (by decide +kernel) (ak (pv 0) aA)) (du _))
    (aY (cR (dY cU (pv 0) (pv 1) (λ_ _=>rfl))))
    fX)
   (aY (cR aL))),mW (b:=gV) (k:=2) (n:=0) rfl (λps r e=>match ps,e with|[_,_],e=>⟨rfl,e⟩) h λio H0 F0 hio=>?_⟩
 exact(aR (lC (bO (aK aF.up M3 (au 1) (cA eY (bz 0))))
    (jg (aK aF.up oA (au 0) (au 1)))
    gf)
   (jg aM))
theorem zr:bV ["_law_cell","_law_k"] ["_law_cell","_law_k"] (aJ (top 13)):=by walk_at "s"
theorem zu(T:Txt mg)(D:cF K mg "_law_mixed" (top 13) ["_law_cell","_law_k"]):FnAt P w K mg base "_law_mixed" 1 ["_law_cell","_law_k"] (spM K XR0 cH):=by
 refine D.ok zr (λvs H Q E h=>kI h λps r e=>match ps,e with|[_,_],_=>rfl) (λf cdv A outer s H vs Q E hr h=>?_)
 refine⟨_,(aY (cR (bw fP (bw vg (bw d7 (bw d7 (bw fP (pv 0) (bw ym aL aL)) (bw vg (pv 1) (pv 1))) aL) aL) (bw d7 (bw ym aL aL) aL)))),mW (b:=gn) (k:=2) (n:=0) rfl (λps r e=>match ps,e with|[_,_],e=>⟨rfl,e⟩) h λio H0 F0 hio=>?_⟩
 exact(jg (aK aF.up jx (aK aF.up yP (aK aF.up jy (aK aF.up jy (aK aF.up jx (au 0) (aK aF.up Ed aM aM)) (aK aF.up yP (au 1) (au 1))) aM) aM) (aK aF.up jy (aK aF.up Ed aM aM) aM)))
theorem cg:bV ["_law_script","_law_cells","_law_state","_law_nested_here","_law_k","_law_number","_law_spots","_law_j","_law_at"] ["_law_script","_law_cells"] (aJ (top 14)):=by walk_at "s"
theorem xR(T:Txt mg)(D:cF K mg "_law_nested" (top 14) ["_law_script","_law_cells"])(jt:FnAt P w K mg base "_law_mixed" 1 ["_law_cell","_law_k"] (spM K XR0 cH))(cZ:FnAt P w K mg base "_law_cell_at" 1 ["_law_script","_law_k"] (spM K XR0 bh)):FnAt P w K mg base "_law_nested" 2 ["_law_script","_law_cells"] (spO K XR0 dF):=by
 refine D.ok cg (λvs H Q E h=>uN h λps r e=>match ps,e with|[_,_],_=>rfl) (λf cdv A outer s H vs Q E hr h=>?_)
 refine⟨_,(az (bx (i:=2) cg.nd rfl (Or.inr rfl) (bw yl (bw Dj aL (pv 1)) aL))
   (az (bx (i:=3) cg.nd rfl (Or.inl rfl) (jH aA))
   (az (lL Zbe rfl (dR rfl T.gA (ak (bf (Bf rfl) rfl T.Nm (by decide +kernel) (ak aL (ak (bf (Be rfl) rfl T.J0 (by decide +kernel) (ak aL (ak (bw yl (bf bH rfl T.eX (by decide +kernel) (ak (pv 0) aA)) aL) aA))) aA))) aA)) (cL (i:=4) cg.nd rfl (Or.inl rfl))
    (az (bx (i:=5) cg.nd rfl (Or.inl rfl) (bC jt (hr.mono (by decide)) rfl (ak (bC cZ (hr.mono (by decide)) rfl (ak (pv 0) (ak (bw d7 aL (pv 4)) aA))) (ak (bw d7 aL (pv 4)) aA))))
    (az (je (tD Za6 Zbi PySem.F.type_list_append gC (pv 3) (ak (pv 2) aA)))
    (az (zE (i:=6) ["_law_at","_law_state"] [none,some 2] rfl cg.nd rfl rfl (dR rfl T.gA (ak (pv 1) aA)) (λ_ _ _ _ _=>(gK (i:=0) (by decide +kernel) rfl rfl)) (λ_ _ _ _ _=>(uB (bU (Hu hr) (bw fP (bw Dk (pvf 1) (pvl 0)) aL) aL (du _)))) (λ_ _ _ _ _=>(pvl 0)))
    (az (lz (bU (lO hr) (pv 6) (jH aA) (du _))
     (aY (cR (pv 3)))
     fX)
    (aY (lL Zbe rfl (dR rfl T.gA (ak (bw d7 aL (bw fP (bw mj (pv 5) aL) aL)) aA)) (cL (i:=7) cg.nd rfl (Or.inl rfl))
     (az (bx (i:=8) cg.nd rfl (Or.inl rfl) (dY cU (pv 6) (bw fP (bw mj (pv 5) (bw d7 aL (pv 7))) (bf bH rfl T.eX (by decide +kernel) (ak (pv 6) aA))) (λ_ _=>rfl)))
     (aY (lz (bU (lO hr) (bw fP (bw Dk (pv 2) (pv 8)) aL) aL (du _))
      (aY (bx (i:=2) cg.nd rfl (Or.inr rfl) (bw yl (pv 2) (bw Dj aL (pv 8)))))
      fX))))))))))
   (aY (cR (pv 3)))))),uM (b:=fD) (k:=2) (n:=7) rfl (λps r e=>match ps,e with|[_,_],e=>⟨rfl,e⟩) h λio H0 F0 hio=>?_⟩
 exact(aR (cj (aK aF.up Ec (aK aF.up JG aM (au 1)) aM) (aU 2))
   (aR (gh (i:=3) trivial (jL bc))
   (aR (ou (ig (aG (Ek aF.up M5 aM (Ek aF.up M4 aM (aK aF.up Ec (cA eY (bz 0)) aM))) bc)) (aU 4)
    (aR (cj (fZ (aG (fZ (aG (au 0) (aG (aK aF.up jy aM (au 4)) bc))) (aG (aK aF.up jy aM (au 4)) bc))) (aU 5))
    (aR (yz (au 2))
    (aR (cj (dM (pP (ig (aG (au 1) bc)) (aU 0) (jh 0) (bO (aK aH.up yD (bT (aK aF.up jx (aK aF.up JH (au 1) (au 0)) aM)) (bT aM))) (au 0))) (aU 6))
    (aR (lC (bO (aK aH.up yD (bz 6) (bT (dM (jL bc)))))
     (qu 3 hio)
     gf)
    (ou (ig (aG (aK aF.up jy aM (aK aF.up jx (aK aF.up wA (au 5) aM) aM)) bc)) (aU 7)
     (aR (cj (aK aF.up oA (au 6) (aK aF.up jx (aK aF.up wA (au 5) (aK aF.up jy aM (au 7))) (cA eY (bz 6)))) (aU 8))
     (lC (bO (aK aH.up yD (bT (aK aF.up jx (aK aF.up JH (au 2) (au 8)) aM)) (bT aM)))
      (cj (aK aF.up Ec (au 2) (aK aF.up JG aM (au 8))) (aU 2))
      gf))))))))
   (qu 3 hio))))
theorem dm:bV ["_law_states","_law_best","_law_k","_law_here","_law_j"] ["_law_states"] (aJ (top 15)):=by walk_at "s"
theorem vI(T:Txt mg)(D:cF K mg "_law_growing" (top 15) ["_law_states"]):FnAt P w K mg base "_law_growing" 1 ["_law_states"] (spM K XR0 cY):=by
 refine D.ok dm (λvs H Q E h=>kI h λps r e=>match ps,e with|[_],_=>rfl) (λf cdv A outer s H vs Q E hr h=>?_)
 refine⟨_,(az (bx (i:=1) dm.nd rfl (Or.inl rfl) (jH aA))
   (az (lL Zbe rfl (dR rfl T.gA (ak (bf bH rfl T.eX (by decide +kernel) (ak (pv 0) aA)) aA)) (cL (i:=2) dm.nd rfl (Or.inl rfl))
    (az (bx (i:=3) dm.nd rfl (Or.inl rfl) aL)
    (az (lL Zbe rfl (dR rfl T.gA (ak (pv 2) aA)) (cL (i:=4) dm.nd rfl (Or.inl rfl))
     (aY (lz (PW.pt (J7 (bU (qw hr) (bw LR (dY cU (pv 0) (pv 4) (λ_ _=>rfl)) (dY cU (pv 0) (pv 2) (λ_ _=>rfl))) (dY cU (pv 0) (pv 4) (λ_ _=>rfl)) (du _)) (Gw (bU Mf (dY cU (pv 1) (pv 4) (λ_ _=>rfl)) (pv 3) (du _)))))
      (aY (bx (i:=3) dm.nd rfl (Or.inl rfl) (bw d7 (dY cU (pv 1) (pv 4) (λ_ _=>rfl)) aL)))
      fX)))
    (aY (je (tD Za6 Zbi PySem.F.type_list_append gC (pv 1) (ak (pv 3) aA)))))))
   (aY (cR (bf (Bx rfl) rfl T.J0 (by decide +kernel) (ak (pv 1) aA)))))),mW (b:=eO) (k:=1) (n:=4) rfl (λps r e=>match ps,e with|[_],e=>⟨rfl,e⟩) h λio H0 F0 hio=>?_⟩
 exact(aR (gh (i:=1) trivial (jL bc))
   (aR (ou (ig (aG (cA eY (bz 0)) bc)) (aU 2)
    (aR (cj aM (aU 3))
    (aR (ou (ig (aG (au 2) bc)) (aU 4)
     (lC (KJ (bO (aK aH.up Ef (bT (aK aF.up NB (aK aF.up oA (au 0) (au 4)) (aK aF.up oA (au 0) (au 2)))) (bT (aK aF.up oA (au 0) (au 4))))) (bO (aK aF.up NK (aK aV.up wB (dZ 1) (au 4)) (au 3))))
      (cj (aK aF.up jy (aK aV.up wB (dZ 1) (au 4)) aM) (aU 3))
      gf))
    (yz (au 3)))))
   (jg (cA K5 (dZ 1)))))
theorem fQ:bV ["_law_script","_law_cells","_law_nested_here","_law_number","_law_chains","_law_apart","_law_rising","_law_drawn"] ["_law_script"] (aJ (top 16)):=by walk_at "s"
theorem Lw(T:Txt mg){f:Addr}{fd:FuncData}(F:Fun K "law" "law" (top 16) f fd)(hmf:mg "law"=some (.ref f))(hcc:∀ (f:Addr) (oc:Value) (od:Option Addr) (fd:FuncData) (osl:Array (Option Value)),mg "law"=some (.ref f)->K.lookup f=some ⟨oc,od,.func fd,osl⟩->fd.code=.ref 96)(hCd:PySem.W.CodeHd base 96 92)(hBI:base.BuiltinsAt mg 92)(cZ:FnAt P w K mg base "_law_cell_at" 1 ["_law_script","_law_k"] (spM K XR0 bh))(sO:FnAt P w K mg base "_law_nested" 2 ["_law_script","_law_cells"] (spO K XR0 dF))(jt:FnAt P w K mg base "_law_mixed" 1 ["_law_cell","_law_k"] (spM K XR0 cH))(fU:FnAt P w K mg base "fewest_blocks" 3 ["states"] (spD K XR0 bZ))(rR:FnAt P w K mg base "_law_growing" 1 ["_law_states"] (spM K XR0 cY)):qe P w K mg base CX0 5 f fd ["_law_script"] (spT 92 LP LQ (spM K XR0 uf)):=by
 refine F.okC fQ (λvs H Q E h=>kI (Ik h) λps r e=>match ps,e with|[_],_=>rfl) (λoc od fd osl=>hcc f oc od fd osl hmf) (λA outer s H vs Q E hr h=>?_)
 refine⟨_,(az (bx (i:=1) fQ.nd rfl (Or.inl rfl) (dY cU (jH (ak (bw d7 aL (bw fP (bw mj (bC cZ (hr.mono (by decide)) rfl (ak (pv 0) (ak aL aA))) aL) aL)) (ak aL (ak aL (ak aL aA))))) (bw fP (bC cZ (hr.mono (by decide)) rfl (ak (pv 0) (ak aL aA))) aL) (λ_ _=>rfl)))
   (az (bx (i:=2) fQ.nd rfl (Or.inl rfl) (bC sO (hr.mono (by decide)) rfl (ak (pv 0) (ak (pv 1) aA))))
   (az (bx (i:=3) fQ.nd rfl (Or.inr rfl) (bC jt (hr.mono (by decide)) rfl (ak (bC cZ (hr.mono (by decide)) rfl (ak (pv 0) (ak aL aA))) (ak aL aA))))
   (az (lz (bU (lO hr) (bw fP (pv 3) aL) aL (du _))
    (aY (je (tD Za6 PySem.F.slot_list_insert PySem.F.type_list_insert Ck (pv 2) (ak (bw fP (bw mj (pv 3) aL) (bf bH rfl T.eX (by decide +kernel) (ak (pv 2) aA))) (ak (dY cU (pv 2) (bw fP (bw mj (pv 3) aL) (bf bH rfl T.eX (by decide +kernel) (ak (pv 2) aA))) (λ_ _=>rfl)) aA)))))
    fX)
   (az (ye (bC fU (hr.mono (by decide)) rfl (ak (pv 2) aA)) (ur (n:=2) rfl (fG (cL (i:=4) fQ.nd rfl (Or.inl rfl)) (fG (cL (i:=5) fQ.nd rfl (Or.inl rfl)) pK))))
   (az (lz (PW.pt (Jl (bU (qw hr) (pv 4) (jH (ak (gB (BP rfl) rfl T.Gp (by decide +kernel) (ak (gB BK rfl T.gA (by decide +kernel) (ak (bf bH rfl T.eX (by decide +kernel) (ak (pv 2) aA)) aA)) aA)) aA)) (du _)) (Df (bU (qw hr) (bf bH rfl T.eX (by decide +kernel) (ak (pv 5) aA)) aL (du _)))))
    (aY (cR Jk))
    fX)
   (az (bx (i:=6) fQ.nd rfl (Or.inl rfl) (Bp (pv 2) zA zA (GJ (LC Kl aL))))
   (az (ye (bC fU (hr.mono (by decide)) rfl (ak (pv 6) aA)) (ur (n:=2) rfl (fG (cL (i:=4) fQ.nd rfl (Or.inl rfl)) (fG (cL (i:=5) fQ.nd rfl (Or.inl rfl)) pK))))
   (az (lz (PW.pt (Jl (bU (qw hr) (bf bH rfl T.eX (by decide +kernel) (ak (pv 4) aA)) (bf Cp rfl T.eX (by decide +kernel) (ak (gB (Fw rfl) rfl T.Np (by decide +kernel) (ak (pv 6) aA)) aA)) (du _)) (Df (bU (qw hr) (bf bH rfl T.eX (by decide +kernel) (ak (pv 5) aA)) (bf bH rfl T.eX (by decide +kernel) (ak (pv 4) aA)) (du _)))))
    (aY (cR Jk))
    fX)
   (az (bx (i:=7) fQ.nd rfl (Or.inl rfl) (xu (k:=1) (N:=["_law_one","_law_number"]) (fr:=[none,some 3]) (y:="_law_one") (q:=LQ) (by kernel_rfl) rfl rfl rfl rfl rfl (hr.mono (by decide)) rfl T.rO (ak (pv 2) aA) rfl rfl rfl hCd hBI (by exact λ_ _ _ _ _=>rfl) (by exact λ_ _ _ _ _ _ _ hr=>(bw fP (bw vg (bw xF (pv 0) aL) (pv 1)) (bw xF (bw ym aL aL) aL)))))
   (az (ye (bC fU (hr.mono (by decide)) rfl (ak (pv 7) aA)) (ur (n:=2) rfl (fG (cL (i:=4) fQ.nd rfl (Or.inl rfl)) (fG (cL (i:=5) fQ.nd rfl (Or.inl rfl)) pK))))
   (aY (cR (J9 (uw (lO hr) (bf bH rfl T.eX (by decide +kernel) (ak (pv 4) aA)) (bC rR (hr.mono (by decide)) rfl (ak (pv 7) aA)) (du _)) (J8 (uw (lO hr) (bf bH rfl T.eX (by decide +kernel) (ak (pv 5) aA)) (bf bH rfl T.eX (by decide +kernel) (ak (pv 4) aA)) (du _))))))))))))))))),xg (b:=Ag) (k:=1) (n:=7) rfl (λps r e=>match ps,e with|[_],e=>⟨rfl,e⟩) h λio H0 F0 hio hT=>?_⟩
 exact(aR (cj (aK aV.up wB (uE (jL (aG (aK aF.up jy aM (aK aF.up jx (aK aF.up wA (fZ (aG (au 0) (aG aM bc))) aM) aM)) (aG aM (aG aM (aG aM bc)))))) (aK aF.up jx (fZ (aG (au 0) (aG aM bc))) aM)) (aU 1))
   (aR (gh (i:=2) trivial (uF (aG (au 0) (aG (au 1) bc))))
   (aR (cj (fZ (aG (fZ (aG (au 0) (aG aM bc))) (aG aM bc))) (aU 3))
   (aR (lC (bO (aK aH.up yD (bT (aK aF.up jx (au 3) aM)) (bT aM)))
    (Lg (aK aF.up jx (aK aF.up wA (au 3) aM) (cA eY (bz 2))) (aK aV.up wB (dZ 2) (aK aF.up jx (aK aF.up wA (au 3) aM) (cA eY (bz 2)))))
    gf)
   (aR (KN 2 hio (cj (yL (m8 (aG (au 2) bc))) (uG (fJ (aU 4) (fJ (aU 5) pO)))))
   (aR (lC (JD (bO (aK aH.up Ef (bz 4) (bT (dM (jL (aG (dM (Hw (cA eY (bz 2)))) bc)))))) (bO (aK aH.up Ef (bT (cA eY (bz 5))) (bT aM))))
    (jg JC)
    gf)
   (aR (cj (dM (K4 (dZ 2) zL zL (Hn (K3 aM)))) (aU 6))
   (aR (cj (yL (m8 (aG (au 6) bc))) (uG (fJ (aU 4) (fJ (aU 5) pO))))
   (aR (lC (JD (bO (aK aH.up Ef (bT (cA eY (bz 4))) (bT (Ii (dZ 6))))) (bO (aK aH.up Ef (bT (cA eY (bz 5))) (bT (cA eY (bz 4))))))
    (jg JC)
    gf)
   (aR (cj (dM (xx (aK aF.up jx (aK aF.up yP (aK aF.up jy (au 0) aM) (au 1)) (aK aF.up jy (aK aF.up Ed aM aM) aM)) hT (hio _) (dZ 2))) (aU 7))
   (aR (cj (yL (m8 (aG (au 7) bc))) (uG (fJ (aU 4) (fJ (aU 5) pO))))
   (jg (KD (aK aH.up yD (bT (cA eY (bz 4))) (bT (fZ (aG (au 7) bc)))) (aK aH.up yD (bT (cA eY (bz 5))) (bT (cA eY (bz 4)))))))))))))))))
end
theorem Lx{l:PySem.W.OpenLaw}{w:World}{K:Frag}{h:Heap}{mg:Str->Option Value}{fa f0 f1 f2 f3 f4 f5 f6 f7 f8 f9 f10 f11 f12:Addr}(X:(aQ K 92).In h)(G:h.Ns mainGlobals mg)(hfa:mg "law"=some (.ref fa))
  {od0 an0 od1 an1 od2 an2 od3 an3 od4 an4 od5 an5 od6 an6 od7 an7 od8 an8 od9 an9 od10 an10 od11 an11 od12 an12:Option Addr}{sl0 sl1 sl2 sl3 sl4 sl5 sl6 sl7 sl8 sl9 sl10 sl11 sl12:Array (Option Value)}{oc0 kV0 dc0 pm0 cd0 ct0 oc1 kV1 dc1 pm1 cd1 ct1 oc2 kV2 dc2 pm2 cd2 ct2 oc3 kV3 dc3 pm3 cd3 ct3 oc4 kV4 dc4 pm4 cd4 ct4 oc5 kV5 dc5 pm5 cd5 ct5 oc6 kV6 dc6 pm6 cd6 ct6 oc7 kV7 dc7 pm7 cd7 ct7 oc8 kV8 dc8 pm8 cd8 ct8 oc9 kV9 dc9 pm9 cd9 ct9 oc10 kV10 dc10 pm10 cd10 ct10 oc11 kV11 dc11 pm11 cd11 ct11 oc12 kV12 dc12 pm12 cd12 ct12:Value}
  (a0:nsIn K mainGlobals "within"=some (some (.ref f0)))(l0:K.lookup f0=some ⟨oc0,od0,.func (fnOf "within" "within" (bN (top 1)) (bF (top 1)) (aJ (top 1)) .none kV0 dc0 pm0 an0 cd0 ct0),sl0⟩)(c0:codeIn K cd0 "within"=true)(k0:keepIn K (.ref f0)=true)
  (a1:nsIn K mainGlobals "walked"=some (some (.ref f1)))(l1:K.lookup f1=some ⟨oc1,od1,.func (fnOf "walked" "walked" (bN (top 3)) (bF (top 3)) (aJ (top 3)) .none kV1 dc1 pm1 an1 cd1 ct1),sl1⟩)(c1:codeIn K cd1 "walked"=true)(k1:keepIn K (.ref f1)=true)
  (a2:nsIn K mainGlobals "pair_anew"=some (some (.ref f2)))(l2:K.lookup f2=some ⟨oc2,od2,.func (fnOf "pair_anew" "pair_anew" (bN (top 4)) (bF (top 4)) (aJ (top 4)) .none kV2 dc2 pm2 an2 cd2 ct2),sl2⟩)(c2:codeIn K cd2 "pair_anew"=true)(k2:keepIn K (.ref f2)=true)
  (a3:nsIn K mainGlobals "most_pairs"=some (some (.ref f3)))(l3:K.lookup f3=some ⟨oc3,od3,.func (fnOf "most_pairs" "most_pairs" (bN (top 5)) (bF (top 5)) (aJ (top 5)) .none kV3 dc3 pm3 an3 cd3 ct3),sl3⟩)(c3:codeIn K cd3 "most_pairs"=true)(k3:keepIn K (.ref f3)=true)
  (a4:nsIn K mainGlobals "short_of_givers"=some (some (.ref f4)))(l4:K.lookup f4=some ⟨oc4,od4,.func (fnOf "short_of_givers" "short_of_givers" (bN (top 6)) (bF (top 6)) (aJ (top 6)) .none kV4 dc4 pm4 an4 cd4 ct4),sl4⟩)(c4:codeIn K cd4 "short_of_givers"=true)(k4:keepIn K (.ref f4)=true)
  (a5:nsIn K mainGlobals "states_ahead"=some (some (.ref f5)))(l5:K.lookup f5=some ⟨oc5,od5,.func (fnOf "states_ahead" "states_ahead" (bN (top 8)) (bF (top 8)) (aJ (top 8)) .none kV5 dc5 pm5 an5 cd5 ct5),sl5⟩)(c5:codeIn K cd5 "states_ahead"=true)(k5:keepIn K (.ref f5)=true)
  (a6:nsIn K mainGlobals "chains_by"=some (some (.ref f6)))(l6:K.lookup f6=some ⟨oc6,od6,.func (fnOf "chains_by" "chains_by" (bN (top 9)) (bF (top 9)) (aJ (top 9)) .none kV6 dc6 pm6 an6 cd6 ct6),sl6⟩)(c6:codeIn K cd6 "chains_by"=true)(k6:keepIn K (.ref f6)=true)
  (a7:nsIn K mainGlobals "fewest_blocks"=some (some (.ref f7)))(l7:K.lookup f7=some ⟨oc7,od7,.func (fnOf "fewest_blocks" "fewest_blocks" (bN (top 10)) (bF (top 10)) (aJ (top 10)) .none kV7 dc7 pm7 an7 cd7 ct7),sl7⟩)(c7:codeIn K cd7 "fewest_blocks"=true)(k7:keepIn K (.ref f7)=true)
  (a8:nsIn K mainGlobals "_law_cell_at"=some (some (.ref f8)))(l8:K.lookup f8=some ⟨oc8,od8,.func (fnOf "_law_cell_at" "_law_cell_at" (bN (top 12)) (bF (top 12)) (aJ (top 12)) .none kV8 dc8 pm8 an8 cd8 ct8),sl8⟩)(c8:codeIn K cd8 "_law_cell_at"=true)(k8:keepIn K (.ref f8)=true)
  (a9:nsIn K mainGlobals "_law_mixed"=some (some (.ref f9)))(l9:K.lookup f9=some ⟨oc9,od9,.func (fnOf "_law_mixed" "_law_mixed" (bN (top 13)) (bF (top 13)) (aJ (top 13)) .none kV9 dc9 pm9 an9 cd9 ct9),sl9⟩)(c9:codeIn K cd9 "_law_mixed"=true)(k9:keepIn K (.ref f9)=true)
  (a10:nsIn K mainGlobals "_law_nested"=some (some (.ref f10)))(l10:K.lookup f10=some ⟨oc10,od10,.func (fnOf "_law_nested" "_law_nested" (bN (top 14)) (bF (top 14)) (aJ (top 14)) .none kV10 dc10 pm10 an10 cd10 ct10),sl10⟩)(c10:codeIn K cd10 "_law_nested"=true)(k10:keepIn K (.ref f10)=true)
  (a11:nsIn K mainGlobals "_law_growing"=some (some (.ref f11)))(l11:K.lookup f11=some ⟨oc11,od11,.func (fnOf "_law_growing" "_law_growing" (bN (top 15)) (bF (top 15)) (aJ (top 15)) .none kV11 dc11 pm11 an11 cd11 ct11),sl11⟩)(c11:codeIn K cd11 "_law_growing"=true)(k11:keepIn K (.ref f11)=true)
  (a12:nsIn K mainGlobals "law"=some (some (.ref f12)))(l12:K.lookup f12=some ⟨oc12,od12,.func (fnOf "law" "law" (bN (top 16)) (bF (top 16)) (aJ (top 16)) .none kV12 dc12 pm12 an12 cd12 ct12),sl12⟩)(c12:codeIn K cd12 "law"=true)(k12:keepIn K (.ref f12)=true)
  (rT:nsIn K mainGlobals "dict"=some none)(xV:nsIn K mainGlobals "len"=some none)(rW:nsIn K mainGlobals "list"=some none)(xW:nsIn K mainGlobals "max"=some none)(xX:nsIn K mainGlobals "min"=some none)(nU:nsIn K mainGlobals "range"=some none)(xY:nsIn K mainGlobals "set"=some none)(j7:nsIn K mainGlobals "sorted"=some none)(tK:K.lookup 92=some (PySem.W.tabObj #[]))(tq:cd12=.ref 96) :
  ∃ fd:FuncData,(∀ (s:Shared) (v:Value),BindsTo s fd ⟨[v],[]⟩ [("_law_script",v)])/\∀ base:Heap,(aQ K 92).In base->base.Ns mainGlobals mg->PySem.W.CodeHd base 96 92->base.BuiltinsAt mg 92->qe l.prog w (aQ K 92) mg base CX0 5 fa fd ["_law_script"] (spT 92 LP LQ (spM (aQ K 92) XR0 uf)):=by
 have a0:=dD tK a0;have l0:=iM tK l0;have c0:=dh tK c0;have k0:=di l0;have a1:=dD tK a1;have l1:=iM tK l1;have c1:=dh tK c1;have k1:=di l1;have a2:=dD tK a2;have l2:=iM tK l2;have c2:=dh tK c2;have k2:=di l2;have a3:=dD tK a3;have l3:=iM tK l3;have c3:=dh tK c3;have k3:=di l3;have a4:=dD tK a4;have l4:=iM tK l4;have c4:=dh tK c4;have k4:=di l4;have a5:=dD tK a5;have l5:=iM tK l5;have c5:=dh tK c5;have k5:=di l5;have a6:=dD tK a6;have l6:=iM tK l6;have c6:=dh tK c6;have k6:=di l6;have a7:=dD tK a7;have l7:=iM tK l7;have c7:=dh tK c7;have k7:=di l7;have a8:=dD tK a8;have l8:=iM tK l8;have c8:=dh tK c8;have k8:=di l8;have a9:=dD tK a9;have l9:=iM tK l9;have c9:=dh tK c9;have k9:=di l9;have a10:=dD tK a10;have l10:=iM tK l10;have c10:=dh tK c10;have k10:=di l10;have a11:=dD tK a11;have l11:=iM tK l11;have c11:=dh tK c11;have k11:=di l11;have a12:=dD tK a12;have l12:=iM tK l12;have c12:=dh tK c12;have k12:=di l12;have rT:=dD tK rT;have xV:=dD tK xV;have rW:=dD tK rW;have xW:=dD tK xW;have xX:=dD tK xX;have nU:=dD tK nU;have xY:=dD tK xY;have j7:=dD tK j7;have hcc:∀ (f:Addr) (oc:Value) (od:Option Addr) (fd:FuncData) (osl:Array (Option Value)),mg "law"=some (.ref f)->(aQ K 92).lookup f=some ⟨oc,od,.func fd,osl⟩->fd.code=.ref 96:=λf oc od fd osl e1 e2=>by
  rw[ZaR X G a12] at e1;cases e1;rw[l12] at e2;cases e2;exact tq
 have e:=hfa.symm.trans (ZaR X G a12);cases e;have T:Txt mg:=⟨trivial,Za7 X G rT,Za7 X G xV,Za7 X G rW,Za7 X G xW,Za7 X G xX,Za7 X G nU,Za7 X G xY,Za7 X G j7⟩;have F0:=fu (st:=top 1) l0 c0 k0;have D0:cF (aQ K 92) mg "within" (top 1) ["one","other"]:=⟨⟨_,_,ZaR X G a0,F0,F0.binds λ_ _ _ _ _ _ us hl=>by obtain⟨_,_,rfl⟩:=qU hl;rfl⟩⟩
 have F1:=fu (st:=top 3) l1 c1 k1;have D1:cF (aQ K 92) mg "walked" (top 3) ["wishes","asker_of","starts"]:=⟨⟨_,_,ZaR X G a1,F1,F1.binds λ_ _ _ _ _ _ us hl=>by obtain⟨_,_,_,rfl⟩:=Fo hl;rfl⟩⟩
 have F2:=fu (st:=top 4) l2 c2 k2;have D2:cF (aQ K 92) mg "pair_anew" (top 4) ["giver_of","asker_of","came_by","free"]:=⟨⟨_,_,ZaR X G a2,F2,F2.binds λ_ _ _ _ _ _ us hl=>by obtain⟨_,_,_,_,rfl⟩:=NZ hl;rfl⟩⟩
 have F3:=fu (st:=top 5) l3 c3 k3;have D3:cF (aQ K 92) mg "most_pairs" (top 5) ["wishes"]:=⟨⟨_,_,ZaR X G a3,F3,F3.binds λ_ _ _ _ _ _ us hl=>by obtain⟨_,rfl⟩:=HY hl;rfl⟩⟩
 have F4:=fu (st:=top 6) l4 c4 k4;have D4:cF (aQ K 92) mg "short_of_givers" (top 6) ["wishes","giver_of"]:=⟨⟨_,_,ZaR X G a4,F4,F4.binds λ_ _ _ _ _ _ us hl=>by obtain⟨_,_,rfl⟩:=qU hl;rfl⟩⟩
 have F5:=fu (st:=top 8) l5 c5 k5;have D5:cF (aQ K 92) mg "states_ahead" (top 8) ["states","number"]:=⟨⟨_,_,ZaR X G a5,F5,F5.binds λ_ _ _ _ _ _ us hl=>by obtain⟨_,_,rfl⟩:=qU hl;rfl⟩⟩
 have F6:=fu (st:=top 9) l6 c6 k6;have D6:cF (aQ K 92) mg "chains_by" (top 9) ["many","ahead_of"]:=⟨⟨_,_,ZaR X G a6,F6,F6.binds λ_ _ _ _ _ _ us hl=>by obtain⟨_,_,rfl⟩:=qU hl;rfl⟩⟩
 have F7:=fu (st:=top 10) l7 c7 k7;have D7:cF (aQ K 92) mg "fewest_blocks" (top 10) ["states"]:=⟨⟨_,_,ZaR X G a7,F7,F7.binds λ_ _ _ _ _ _ us hl=>by obtain⟨_,rfl⟩:=HY hl;rfl⟩⟩
 have F8:=fu (st:=top 12) l8 c8 k8;have D8:cF (aQ K 92) mg "_law_cell_at" (top 12) ["_law_script","_law_k"]:=⟨⟨_,_,ZaR X G a8,F8,F8.binds λ_ _ _ _ _ _ us hl=>by obtain⟨_,_,rfl⟩:=qU hl;rfl⟩⟩
 have F9:=fu (st:=top 13) l9 c9 k9;have D9:cF (aQ K 92) mg "_law_mixed" (top 13) ["_law_cell","_law_k"]:=⟨⟨_,_,ZaR X G a9,F9,F9.binds λ_ _ _ _ _ _ us hl=>by obtain⟨_,_,rfl⟩:=qU hl;rfl⟩⟩
 have F10:=fu (st:=top 14) l10 c10 k10;have D10:cF (aQ K 92) mg "_law_nested" (top 14) ["_law_script","_law_cells"]:=⟨⟨_,_,ZaR X G a10,F10,F10.binds λ_ _ _ _ _ _ us hl=>by obtain⟨_,_,rfl⟩:=qU hl;rfl⟩⟩
 have F11:=fu (st:=top 15) l11 c11 k11;have D11:cF (aQ K 92) mg "_law_growing" (top 15) ["_law_states"]:=⟨⟨_,_,ZaR X G a11,F11,F11.binds λ_ _ _ _ _ _ us hl=>by obtain⟨_,rfl⟩:=HY hl;rfl⟩⟩
 have F12:=fu (st:=top 16) l12 c12 k12;refine⟨fnOf "law" "law" (bN (top 16)) (bF (top 16)) (aJ (top 16)) .none kV12 dc12 pm12 an12 cd12 ct12,λs v=>.of_eq rfl,λbase _ _ hCd hBI=>?_⟩;have G0:=CZ (P:=l.prog) (w:=w) (base:=base) T D0;have G1:=Dc (P:=l.prog) (w:=w) (base:=base) T D1;have G2:=vC (P:=l.prog) (w:=w) (base:=base) T D2;have G3:=sJ (P:=l.prog) (w:=w) (base:=base) T D3 G1 G2;have G4:=lZ (P:=l.prog) (w:=w) (base:=base) T D4 G1;have G5:=pI (P:=l.prog) (w:=w) (base:=base) T D5 G0;have G6:=vD (P:=l.prog) (w:=w) (base:=base) T D6;have G7:=oV (P:=l.prog) (w:=w) (base:=base) T D7 G5 G3 G4 G6;have G8:=vH (P:=l.prog) (w:=w) (base:=base) T D8;have G9:=zu (P:=l.prog) (w:=w) (base:=base) T D9;have G10:=xR (P:=l.prog) (w:=w) (base:=base) T D10 G9 G8;have G11:=vI (P:=l.prog) (w:=w) (base:=base) T D11;exact Lw (P:=l.prog) (w:=w) (base:=base) T F12 (ZaR X G a12) hcc hCd hBI G8 G10 G9 G7 G11
theorem walk{l:PySem.W.OpenLaw}{q:Program}{loose:List Str}{XP:(Str->Option Value)->Heap->Prop}{YP:World->Heap->Prop}{d:DefRec}{K:Params->Frag}(hn:l.most=some 63)(hdf:d.params.defaults=[])
  (hY:∀ (w:World) (h:Heap),YP w h->(K w.params).In h)(hPT:∀ (w:World) (h:Heap),YP w h->h.get? 92=some (PySem.W.tabObj #[])/\PySem.W.CodeHd h 96 92)
  (F:∀ (w:World) (mg:Str->Option Value) (fa:Addr) (h:Heap),(aQ (K w.params) 92).In h->h.Ns mainGlobals mg->mg d.name=some (.ref fa) ->
   ∃ fd:FuncData,(∀ (s:Shared) (u:Value),BindsTo s fd ⟨[u],[]⟩ [("_law_script",u)])/\∀ base:Heap,(aQ (K w.params) 92).In base->base.Ns mainGlobals mg->PySem.W.CodeHd base 96 92->base.BuiltinsAt mg 92->qe l.prog w (aQ (K w.params) 92) mg base CX0 5 fa fd ["_law_script"] (spT 92 LP LQ (spM (aQ (K w.params) 92) XR0 uf)))
  (main:∀ ns:List Int,ns.length<=63->uf [.lst (ns.map PV.int)]=some (.ok (.bl true))) :
  PySem.W.WalkO q loose XP YP l.row.toRowW d [] (λf vs=>PySem.call f vs):=
 L2.FJ (n:=63) (k:=5) (x:="_law_script") (K:=λP=>aQ (K P) 92) (PT:=92) (cc:=96) (lpos:=LP) (qn:=LQ) (sp:=λw=>spT 92 LP LQ (spM (aQ (K w.params) 92) XR0 uf)) hn (by decide) hdf ⟨rfl,by decide,by decide⟩ (λw h Y=>yV (hY w h Y)) hPT (λw=>jk _ _) F (λw H a ns hl hT hS=>⟨hT,[.lst (ns.map PV.int)],H,.ok (.bl true),aB.refl _,aZ.nil.cons (.lst hS (aZ.mO (K:=(aQ (K w.params) 92)) (F:=H) ns).1 (aZ.mO ns).2),main ns hl,λv F' H' u rv=>⟨Rep.iy rv,u.hh _ _ hT⟩⟩)
end MM
open PySem PySem.W PyProof.Rows
set_option maxRecDepth 100000 in
set_option maxHeartbeats 0 in
theorem PySem.Challenge.cw_lostblock_k25_order_tells_holds : PySem.Challenge.rw_lostblock_k25_order_tells.Holds := by
 w_on;o_law;o_head (kHook MM.KK [3,20,21,27,28,34,35,41,42,46,47,51,52,58,59,63,64,70,71,77,78,82,83,89,90,92,96,97] (λ_=>by kernel_rfl));(case hw=>w_witness2)
 k_fill
 refine MM.walk (l:=PySem.Challenge.rw_lostblock_k25_order_tells) rfl rfl (λw h Y=>PySem.W.kIn_of Y) ?PT ?F MM.law_main
 case PT=>
  intro w h Y;have KX:=PySem.W.kIn_of Y;exact⟨KX 92 _ (by k_is),_,_,_,_,_,_,_,_,_,KX 96 _ (by k_is),rfl,rfl,rfl,rfl,rfl,rfl,rfl,rfl,by decide⟩
 case F=>
  intro w mg fa h KX G hmg;refine' MM.Lx KX G hmg ?a0 ?l0 ?c0 ?k0 ?a1 ?l1 ?c1 ?k1 ?a2 ?l2 ?c2 ?k2 ?a3 ?l3 ?c3 ?k3 ?a4 ?l4 ?c4 ?k4 ?a5 ?l5 ?c5 ?k5 ?a6 ?l6 ?c6 ?k6 ?a7 ?l7 ?c7 ?k7 ?a8 ?l8 ?c8 ?k8 ?a9 ?l9 ?c9 ?k9 ?a10 ?l10 ?c10 ?k10 ?a11 ?l11 ?c11 ?k11 ?a12 ?l12 ?c12 ?k12 ?rT ?xV ?rW ?xW ?xX ?nU ?xY ?j7 ?tK ?tq
  (case a0=>k_is)
  (case l0=>k_is)
  (case c0=>k_is)
  (case k0=>k_is)
  (case a1=>k_is)
  (case l1=>k_is)
  (case c1=>k_is)
  (case k1=>k_is)
  (case a2=>k_is)
  (case l2=>k_is)
  (case c2=>k_is)
  (case k2=>k_is)
  (case a3=>k_is)
  (case l3=>k_is)
  (case c3=>k_is)
  (case k3=>k_is)
  (case a4=>k_is)
  (case l4=>k_is)
  (case c4=>k_is)
  (case k4=>k_is)
  (case a5=>k_is)
  (case l5=>k_is)
  (case c5=>k_is)
  (case k5=>k_is)
  (case a6=>k_is)
  (case l6=>k_is)
  (case c6=>k_is)
  (case k6=>k_is)
  (case a7=>k_is)
  (case l7=>k_is)
  (case c7=>k_is)
  (case k7=>k_is)
  (case a8=>k_is)
  (case l8=>k_is)
  (case c8=>k_is)
  (case k8=>k_is)
  (case a9=>k_is)
  (case l9=>k_is)
  (case c9=>k_is)
  (case k9=>k_is)
  (case a10=>k_is)
  (case l10=>k_is)
  (case c10=>k_is)
  (case k10=>k_is)
  (case a11=>k_is)
  (case l11=>k_is)
  (case c11=>k_is)
  (case k11=>k_is)
  (case a12=>k_is)
  (case l12=>k_is)
  (case c12=>k_is)
  (case k12=>k_is)
  (case rT=>k_is)
  (case xV=>k_is)
  (case rW=>k_is)
  (case xW=>k_is)
  (case xX=>k_is)
  (case nU=>k_is)
  (case xY=>k_is)
  (case j7=>k_is)
  (case tK=>k_is)
  (case tq=>first|rfl|decide +kernel|k_is)
#print axioms PySem.Challenge.cw_lostblock_k25_order_tells_holds
