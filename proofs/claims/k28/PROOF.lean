import PyProof.Rows.All
import Wide.All
import OpenK.AllK
import Wide.FinOn
import Lean
import PyProof.EqAt
import PyProof.EqKinds
import PyProof.TupleCall
import PySem.Challenge.RW_lostblock_k28_whole_fewest_strokes
set_option Elab.async false
set_option linter.all false
set_option maxRecDepth 100000
def PySem.W.Fast.tw15756132781051674615:=()
def PySem.W.Fast.tw15205876670494305776:=()
def PySem.W.Fast.tw4966476276027516394:=()
def PySem.W.Fast.tw404336852559706958:=()
def PySem.W.Fast.tw915193402232706488:=()
def PySem.W.Fast.tw18129084144028099399:=()
def PySem.W.Fast.tw6690115582973330574:=()
def PySem.W.Fast.tw6800786551389590481:=()
def PySem.W.Fast.tw11852037326539774238:=()
def PySem.W.Fast.tw7814562133532930893:=()
def PySem.W.Fast.tw2292151580814192359:=()
def PySem.W.Fast.tw319370288154052490:=()
local macro_rules|`(command| def $d:declId $s:optDeclSig $v:declVal)=>`(command| noncomputable def $d:declId $s:optDeclSig $v:declVal)
open PySem.W (Frag keepIn fnOf codeIn nsIn)
def Zaa:=@PySem.wpAny_bind
def Zab:=@List.getElem?_eq_some_iff
def Zac:=@Option.some.inj
def Zad:=@if_neg
def Zae:=@PySem.wpAny_pure
def Zaf:=@if_pos
def Zag:=@List.mem_of_getElem?
def Zah:=@PySem.Heap.get?_push_of_some
def Zai:=@List.mem_map
def Zaj:=@List.mem_append
def Zak:=@Nat.le_refl
def Zal:=@List.getElem?_append_left
def Zam:=@List.Pairwise.sublist
def Zan:=@PyProof.Rows.wpS_bind
def Zao:=@PySem.Heap.lt_size
def Zap:=@List.map_cons
def Zaq:=@PySem.Heap.get?_push_size
def Zar:=@List.getElem?_set_ne
def Zas:=@List.pairwise_append
def Zat:=@List.getElem?_append_right
def Zau:=@PyProof.Rows.wpS_pure
def Zav:=@Nat.lt_of_lt_of_le
def Zaw:=@decide_eq_false
def Zax:=@decide_eq_true
def Zay:=@List.append_assoc
def Zaz:=@List.mem_range
def ZaA:=@List.mem_cons
def ZaB:=@List.mem_filter
def ZaC:=@PySem.W.mg_of
def ZaD:=@Array.getElem?_eq_getElem
def ZaE:=@Nat.le_trans
def ZaF:=@List.length_cons
def ZaG:=@Nat.ne_of_lt
def ZaH:=@Array.getElem?_toList
def ZaI:=@PySem.PassesOwn.never
def ZaJ:=@List.take_append_drop
def ZaK:=@decide_eq_true_eq
def ZaL:=@List.mem_singleton
def ZaM:=@List.mem_append_right
def ZaN:=@List.getElem?_eq_none
def ZaO:=@Nat.le_of_lt
def ZaP:=@Int.toNat_natCast
def ZaQ:=@List.all_eq_true
def ZaR:=@List.mem_of_mem_take
def ZaS:=@List.drop_eq_getElem_cons
def ZaT:=@List.take_sublist
def ZaU:=@Array.toList_append
def ZaV:=@List.take_of_length_le
def ZaW:=@List.mem_of_mem_drop
def ZaX:=@List.drop_sublist
def ZaY:=@List.pairwise_map
def ZaZ:=@Array.length_toList
def Za0:=@List.map_congr_left
def Za1:=@List.pairwise_iff_getElem
def Za2:=@List.getElem?_set_self
def Za3:=@PySem.wpAny_newObj_type
def Za4:=@Int.emod_lt_of_pos
def Za5:=@PySem.W.mg_none_of
def Za6:=@PyProof.Rows.wpS_mono
def Za7:=@List.length_filter_le
def Za8:=@List.Perm.append_left
def Za9:=@Int.eq_ofNat_of_zero_le
def Zba:=@Nat.zero_le
def Zbb:=@PySem.F.slot_dict_itemiterator_next
def Zbc:=@List.append_nil
def Zbd:=@PySem.F.slot_dict_keyiterator_next
def Zbe:=@PyProof.Rows.wpS_forRange
def Zbf:=@Bool.false_eq_true
def Zbg:=@congrArg
def Zbh:=@if_false
def Zbi:=@List.map_append
def Zbj:=@PySem.wpAny_holding
def Zbk:=@Array.perm_iff_toList_perm
def Zbl:=@List.getElem?_of_mem
def Zbm:=@Int.natCast_nonneg
def Zbn:=@List.drop_of_length_le
def Zbo:=@List.drop_zero
def Zbp:=@Nat.min_eq_left
def Zbq:=@Int.emod_nonneg
def Zbr:=@Ne.symm
def Zbs:=@List.getElem?_range
def Zbt:=@Bool.false_ne_true
def Zbu:=@PyProof.Rows.callWith_type1
def Zbv:=@List.nodup_cons
def Zbw:=@List.getElem?_replicate
def Zbx:=@PySem.wpAny_mono
def Zby:=@Bool.and_eq_true
def Zbz:=@Option.map_some
def ZbA:=@List.take_take
def ZbB:=@List.ext_getElem?
def ZbC:=@Array.toList_push
def ZbD:=@List.nodup_append
def ZbE:=@List.length_nil
def ZbF:=@PySem.W.kia_one
def ZbG:=@List.cons.injEq
def ZbH:=@PySem.Heap.SameBut.update
def ZbI:=@List.filter_sublist
def ZbJ:=@if_true
def ZbK:=@Option.map_eq_some_iff
def ZbL:=@List.mem_append_left
def ZbM:=@Nat.testBit_and
def ZbN:=@PySem.F.slot_list_append
def ZbO:=@Nat.lt_irrefl
def ZbP:=@PySem.mem_of_lookup
def ZbQ:=@Nat.add_sub_cancel_left
def ZbR:=@List.filter_eq_self
def ZbS:=@PySem.F.plainAttrs_list
def ZbT:=@List.length_take
def ZbU:=@List.mem_reverse
def ZbV:=@List.nodup_range
def ZbW:=@Array.getElem?_eq_none
def ZbX:=@List.Perm.append_right
def ZbY:=@List.find?_cons
def ZbZ:=@List.any_cons
set_option compiler.extract_closed false
set_option bootstrap.genMatcherCode false
set_option genSizeOf false
local macro_rules|`(tactic| omega)=>`(tactic| first|(grind only)|omega (config:={}))
local macro_rules|`(tactic| lia)=>`(tactic| first|lia -verbose|omega (config:={}))
namespace L2
open PySem PySem.Spec PyProof.Rows
noncomputable abbrev Key:=Sum Int Str
def Al:Key->Value->Bool
 |.inl k,v=>Value.isInt k v
 |.inr x,v=>Value.isStrOf x v
def YB(w:World):Key->Int
 |.inl k=>hashInt k
 |.inr x=>hashStr w x
theorem dH:∀ {k:Key}{v:Value},Al k v=true->(∃ i t,k=Sum.inl i/\v=Value.int i t)\/(∃ x t,k=Sum.inr x/\v=Value.str x t)
 |.inl i,v,h=>by
  obtain⟨t,e⟩:=Value.isInt_shape (k:=i) (v:=v) h;exact .inl ⟨i,t,rfl,e⟩
 |.inr x,v,h=>by
  obtain⟨t,e⟩:=Value.isStrOf_shape (x:=x) (v:=v) h;exact .inr ⟨x,t,rfl,e⟩
theorem Mp(i:Int)(t:Tok):Al (.inl i) (.int i t)=true:=by simp[Al,Value.isInt]
theorem Mq(x:Str)(t:Tok):Al (.inr x) (.str x t)=true:=by simp[Al,Value.isStrOf]
theorem Vy(a b:Int):decide ((Sum.inl a:Key)=Sum.inl b)=(a==b):=by
 by_cases e:a=b
 ·subst e;simp
 ·have h:¬(Sum.inl a:Key)=Sum.inl b:=λq=>e (Sum.inl.inj q);rw[Zaw h];exact(beq_eq_false_iff_ne.mpr e).symm
theorem Vz(a b:Str):decide ((Sum.inr a:Key)=Sum.inr b)=decide (a=b):=by
 by_cases e:a=b
 ·subst e;simp
 ·have h:¬(Sum.inr a:Key)=Sum.inr b:=λq=>e (Sum.inr.inj q);rw[Zaw h,Zaw e]
theorem VB(a:Int)(b:Str):decide ((Sum.inl a:Key)=Sum.inr b)=false:=Zaw (λq=>nomatch q)
theorem VD(a:Str)(b:Int):decide ((Sum.inr a:Key)=Sum.inl b)=false:=Zaw (λq=>nomatch q)
def dq(prog:Program)(w:World):PySem.KeyKind prog w Key where
 is:=Al
 hash:=YB w
 inj:=λv a b ha hb=>by
  rcases dH ha with⟨i,t,rfl,rfl⟩|⟨x,t,rfl,rfl⟩
  ·rcases dH hb with⟨j,u,rfl,e⟩|⟨y,u,rfl,e⟩
   ·injection e with e1 _;rw[e1]
   ·exact nomatch e
  ·rcases dH hb with⟨j,u,rfl,e⟩|⟨y,u,rfl,e⟩
   ·exact nomatch e
   ·injection e with e1 _;rw[e1]
 byValue:=λk v h=>by
  rcases dH h with⟨i,t,rfl,rfl⟩|⟨x,t,rfl,rfl⟩<;>rfl
 pyHash:=λhv h=>by
  rcases dH hv with⟨i,t,rfl,rfl⟩|⟨x,t,rfl,rfl⟩
  ·exact wpAny_pyHash_int h
  ·exact wpAny_pyHash_str h
 eqBool:=λhu hv h=>by
  rcases dH hu with⟨i,t,rfl,rfl⟩|⟨x,t,rfl,rfl⟩
  ·rcases dH hv with⟨j,u,rfl,rfl⟩|⟨y,u,rfl,rfl⟩
   ·rw[Vy] at h;exact wpAny_eqBool_int h
   ·rw[VB] at h;exact SeqAt.EqAt.int_str i t y u _ _ _ _ h
  ·rcases dH hv with⟨j,u,rfl,rfl⟩|⟨y,u,rfl,rfl⟩
   ·rw[VD] at h;exact SeqAt.EqAt.str_int x t j u _ _ _ _ h
   ·rw[Vz] at h;exact wpAny_eqBool_str h
 «strs»:=λk x t v h=>by
  rcases dH h with⟨i,u,rfl,e⟩|⟨y,u,rfl,e⟩
  ·exact nomatch e
  ·injection e with e1 _
   subst e1;cases v<;>rfl
theorem Fl(prog:Program)(w:World)(i:Int)(t:Tok):(dq prog w).is (.inl i) (.int i t)=true:=Mp i t
theorem Fo(prog:Program)(w:World)(x:Str)(t:Tok):(dq prog w).is (.inr x) (.str x t)=true:=Mq x t
inductive V where
 |non|bl (b:Bool)|int (i:Int)|str (x:Str)|byt (b:Array UInt8)|flt (b:UInt64)|ref (a:Addr)|ty (n:String)
 deriving DecidableEq
def RelV:V->Value->Prop
 |.non,u=>u=Value.none
 |.bl b,u=>u=Value.bool b
 |.int i,u=>∃ t,u=Value.int i t
 |.str x,u=>∃ t,u=Value.str x t
 |.byt b,u=>∃ t,u=Value.bytes b t
 |.flt b,u=>∃ t,u=Value.float b t
 |.ref a,u=>u=Value.ref a
 |.ty n,u=>u=Value.type n
noncomputable abbrev Vals:List V->List Value->Prop:=Paired RelV
theorem Vals.length{xs:List V}{us:List Value}(r:Vals xs us):xs.length=us.length:=Paired.length r
theorem Vals.get:∀ {xs:List V}{us:List Value}{i:Nat}{x:V},Vals xs us->xs[i]?=some x->∃ u,us[i]?=some u/\RelV x u
 |_,_,_,_,.nil,e=>by simp at e
 |_,_,0,_,.cons r _,e=>by simp at e;subst e;exact⟨_,rfl,r⟩
 |_,_,i+1,x,.cons _ t,e=>by
  obtain⟨u,h1,h2⟩:=Vals.get (i:=i) (x:=x) t (by simpa using e)
  exact⟨u,by simpa using h1,h2⟩
theorem Vals.append:∀ {xs ys:List V}{us ws:List Value},Vals xs us->Vals ys ws->Vals (xs++ys) (us++ws)
 |_,_,_,_,.nil,s=>s
 |_,_,_,_,.cons r t,s=>.cons r (Vals.append t s)
theorem Vals.take:∀ {xs:List V}{us:List Value} (n:Nat),Vals xs us->Vals (xs.take n) (us.take n)
 |_,_,0,_=>.nil
 |_,_,_+1,.nil=>.nil
 |_,_,n+1,.cons r t=>.cons r (Vals.take n t)
theorem Vals.drop:∀ {xs:List V}{us:List Value} (n:Nat),Vals xs us->Vals (xs.drop n) (us.drop n)
 |_,_,0,r=>r
 |_,_,_+1,.nil=>.nil
 |_,_,n+1,.cons _ t=>Vals.drop n t
def wJ:Option V->Option Value->Prop
 |some v,some u=>RelV v u
 |none,none=>True
 |_,_=>False
def KV{κ:Type}:List (κ×V)->List (κ×Value)->Prop:=Paired λ(p:κ×V) (q:κ×Value)=>p.1=q.1/\RelV p.2 q.2
def kV:Key->V
 |.inl i=>.int i
 |.inr x=>.str x
inductive HO where
 |lst (xs:List V)
 |tup (xs:List V)
 |dK (kvs:List (Key×V))|dT (kvs:List (List Key×V))
 |set (S:Int->Bool) (n:Nat)
 |ins (C dx:Addr) (fs:List (Str×V))
 |own (x:Addr)
 |xd (fs:List (Str×V))
 |met (f x:Addr)
 |rng (lo hi:Int)
 |frz (o:Obj) (u:HO)
 |tbl (ps:Array Value)
 |ext (φ:Heap->Prop)
noncomputable abbrev Hp:=Addr->Option HO
def upd(H:Hp)(a:Addr)(o:HO):Hp:=λb=>if b=a then some o else H b
theorem aN{H:Hp}{a:Addr}{o:HO}:upd H a o a=some o:=by unfold upd;rw[Zaf rfl]
theorem aG{H:Hp}{a b:Addr}{o:HO}(h:b≠a):upd H a o b=H b:=by unfold upd;rw[Zad h]
theorem Oe{H:Hp}{a b:Addr}{o u:HO}(h:H a=some o)(h':H b=some u)(d:o≠u):a≠b:=by
 intro e;subst e;rw[h] at h';exact d (Zac h')
theorem bR{H:Hp}{a b:Addr}{o:HO}(h:H a=some o)(h':H b=none):a≠b:=by
 intro e;subst e;rw[h] at h';cases h'
def gq(h:Heap)(a:Addr)(items:Array Value):Prop:=IsTup h a items/\∀ o,h.get? a=some o->o.dict=none
theorem gq.new(h:Heap)(items:Array Value):gq (h.push { cls:=.type "tuple",data:=.seq items }) h.objs.size items:=⟨IsTup.new h items,λo e=>by rw[Zaq _ rfl] at e;cases e;rfl⟩
theorem gq.mk{h:Heap}{a:Addr}{items:Array Value}{n:Nat}(e:h.get? a=some { cls:=.type "tuple",data:=.seq items n }):gq h a items:=⟨⟨_,e,rfl,_,rfl⟩,λo q=>by rw[e] at q;cases q;rfl⟩
theorem gq.lt{h:Heap}{a:Addr}{items:Array Value}(x:gq h a items):a<h.objs.size:=x.1.lt
theorem gq.at'{h h':Heap}{a:Addr}{items:Array Value}(x:gq h a items)(e:∀ o,h.get? a=some o->h'.get? a=some o):gq h' a items:=by
 obtain⟨⟨o,h1,r⟩,d⟩:=x;exact⟨⟨o,e o h1,r⟩,λu q=>by rw[e o h1] at q;cases q;exact d o h1⟩
section
variable(P:Program)(w:World)
def dW(H:Hp)(h:Heap)(a:Addr):HO->Prop
 |.lst xs=>xs.length<=sizeLine/\∃ (its:List Value) (n:Nat),Vals xs its/\h.get? a=some { cls:=.type "list",data:=.seq its.toArray n }
 |.tup xs=>xs.length<=sizeLine/\∃ its:List Value,Vals xs its/\gq h a its.toArray
 |.dK kvs=>kvs.length<=sizeLine/\(a==sysModules)=false/\∃ vs,KV kvs vs/\h.DictOf (dq P w) a vs
 |.dT kvs=>kvs.length<=sizeLine/\(a==sysModules)=false/\∃ xs:List (List Key×Addr×Value),
   Paired (λ(p:List Key×V) (q:List Key×Addr×Value)=>p.1=q.1/\H q.2.1=some (.tup (p.1.map kV))/\RelV p.2 q.2.2) kvs xs /\
   ∃ o es ep,h.get? a=some o/\o.ExactDict/\o.data=.dict es ep/\es.toList=xs.map (entryOfKey (tupleKind (dq P w)))/\(xs.map (·.1)).Nodup
 |.set S n=>h.SetOf (intKind P w) a S n
 |.ins C dx fs=>H dx=some (.own a)/\fs.length<=1000/\dx≠a/\h.get? a=some (PySem.W.instObj C dx) /\
   ∃ mA,h.Ns1 dx mA/\(∀ f,wJ (fs.lookup f) (mA f))/\PySem.Within mA (fs.map (·.1))
 |.own _=>∃ o,h.get? a=some o
 |.xd fs=>∃ mA,h.Ns1 a mA/\∀ f,wJ (fs.lookup f) (mA f)
 |.rng lo hi=>∃ t u v,h.get? a=some { cls:=.type "range",data:=.fields #[.int lo t,.int hi u,.int 1 v] }
 |.frz o u=>h.get? a=some o/\dW H h a u
 |.tbl ps=>h.get? a=some { cls:=.none,data:=.fields ps }
 |.met f x=>h.get? a=some (PySem.W.methodObj (.ref f) (.ref x))
 |.ext φ=>φ h/\(∃ o,h.get? a=some o)/\∀ h1 h2:Heap,φ h1->(∀ o,h1.get? a=some o->h2.get? a=some o)->φ h2
def HOk(H:Hp)(h:Heap):Prop:=∀ a o,H a=some o->dW P w H h a o
end
section
variable{P:Program}{w:World}{H H':Hp}{h h':Heap}{a:Addr}{o:HO}
theorem dW.lt(x:dW P w H h a o):a<h.objs.size:=by
 cases o with
 |lst xs=>obtain⟨_,_,_,_,e⟩:=x;exact Zao e
 |tup xs=>obtain⟨_,_,_,p⟩:=x;exact p.lt
 |dK kvs=>obtain⟨_,_,_,_,o,_,_,e,_⟩:=x;exact Zao e
 |dT kvs=>obtain⟨_,_,_,_,o,_,_,e,_⟩:=x;exact Zao e
 |set S n=>obtain⟨o,_,_,_,e,_⟩:=x;exact Zao e
 |ins C dx fs=>obtain⟨_,_,_,e,_⟩:=x;exact Zao e
 |own y=>obtain⟨_,e⟩:=x;exact Zao e
 |xd fs=>obtain⟨_,⟨_,_,_,e,_⟩,_⟩:=x;exact Zao e
 |rng lo hi=>obtain⟨_,_,_,e⟩:=x;exact Zao e
 |frz ob u=>obtain⟨e,_⟩:=x;exact Zao e
 |tbl ps=>exact Zao (show h.get? a=some _ from x)
 |met f y=>exact Zao (show h.get? a=some _ from x)
 |ext φ=>obtain⟨_,⟨_,e⟩,_⟩:=x;exact Zao e
theorem Paired.VF{α β:Type}{F G:α->β->Prop}:∀ {l₁:List α}{l₂:List β},Paired F l₁ l₂->(∀ a b,F a b->G a b)->Paired G l₁ l₂
 |_,_,.nil,_=>.nil
 |_,_,.cons r t,f=>.cons (f _ _ r) (Paired.VF t f)
theorem dW.stay(x:dW P w H h a o)(k:∀ b u,(b=a\/H b=some (.own a))->h.get? b=some u->h'.get? b=some u)
  (ho:∀ b,H b=some (.own a)->H' b=some (.own a))(ht:∀ b xs,H b=some (.tup xs)->H' b=some (.tup xs)):dW P w H' h' a o:=by
 induction o with
 |lst xs=>obtain⟨z,its,n,r,e⟩:=x;exact⟨z,its,n,r,k _ _ (.inl rfl) e⟩
 |tup xs=>obtain⟨z,its,r,c⟩:=x;exact⟨z,its,r,c.at' λo e=>k _ _ (.inl rfl) e⟩
 |dK kvs=>obtain⟨z,y,vs,r,ob,es,ep,e,c⟩:=x;exact⟨z,y,vs,r,ob,es,ep,k _ _ (.inl rfl) e,c⟩
 |dT kvs=>
  obtain⟨z,y,xs,r,ob,es,ep,e,c⟩:=x;exact⟨z,y,xs,Paired.VF r λp q z=>⟨z.1,ht _ _ z.2.1,z.2.2⟩,ob,es,ep,k _ _ (.inl rfl) e,c⟩
 |set S n=>obtain⟨ob,es,ep,t,e,c⟩:=x;exact⟨ob,es,ep,t,k _ _ (.inl rfl) e,c⟩
 |ins C dx fs=>
  obtain⟨d,z,ne,e,mA,⟨od,es,ep,e2,c⟩,r⟩:=x;exact⟨ho _ d,z,ne,k _ _ (.inl rfl) e,mA,⟨od,es,ep,k _ _ (.inr d) e2,c⟩,r⟩
 |own y=>obtain⟨ob,e⟩:=x;exact⟨ob,k _ _ (.inl rfl) e⟩
 |xd fs=>obtain⟨mA,⟨od,es,ep,e,c⟩,r⟩:=x;exact⟨mA,⟨od,es,ep,k _ _ (.inl rfl) e,c⟩,r⟩
 |rng lo hi=>obtain⟨t,u,v,e⟩:=x;exact⟨t,u,v,k _ _ (.inl rfl) e⟩
 |frz ob u ih=>obtain⟨e,q⟩:=x;exact⟨k _ _ (.inl rfl) e,ih q⟩
 |tbl ps=>
  have e:h.get? a=some { cls:=.none,data:=.fields ps }:=x;show h'.get? a=some { cls:=.none,data:=.fields ps }
  exact k a _ (.inl rfl) e
 |met f y=>
  have e:h.get? a=some (PySem.W.methodObj (.ref f) (.ref y)):=x;show h'.get? a=some (PySem.W.methodObj (.ref f) (.ref y))
  exact k a _ (.inl rfl) e
 |ext φ=>obtain⟨p,⟨o,e⟩,st⟩:=x;exact⟨st _ _ p λo q=>k _ _ (.inl rfl) q,⟨o,k _ _ (.inl rfl) e⟩,st⟩
theorem HOk.lt(x:HOk P w H h)(e:H a=some o):a<h.objs.size:=(x a o e).lt
theorem HOk.fresh(x:HOk P w H h)(e:h.objs.size<=a):H a=none:=by
 cases q:H a with
 |none=>rfl
 |some u=>exact absurd (Zav (x.lt q) e) (ZbO _)
theorem HOk.kept(x:HOk P w H h)(k:∀ b u,h.get? b=some u->h'.get? b=some u):HOk P w H h':=λa o e=>
 (x a o e).stay (λb u _ q=>k b u q) (λ_ q=>q) λ_ _ q=>q
theorem HOk.laid(x:HOk P w H h)(k:∀ b u,h.get? b=some u->h'.get? b=some u)(hp:h.objs.size<=a)(new:dW P w (upd H a o) h' a o):HOk P w (upd H a o) h':=λb u e=>by
 have hn:=x.fresh hp;by_cases hb:b=a
 ·subst hb;rw[aN] at e;cases e;exact new
 ·rw[aG hb] at e;exact(x b u e).stay (λc v _ q=>k c v q) (λc q=>by rw[aG (bR q hn)];exact q) λc xs q=>by rw[aG (bR q hn)];exact q
end
def Rd(H:Hp)(a:Addr)(u:HO):Prop:=H a=some u\/∃ o,H a=some (.frz o u)
theorem Rd.ok{P:Program}{w:World}{H:Hp}{h:Heap}{a:Addr}{u:HO}(r:Rd H a u)(x:HOk P w H h):dW P w H h a u:=by
 rcases r with r|⟨o,r⟩
 ·exact x a u r
 ·obtain⟨_,q⟩:=x a _ r;exact q
def Mut:Option HO->Prop
 |some (.lst _)=>True
 |some (.dK _)=>True
 |some (.dT _)=>True
 |some (.set _ _)=>True
 |some (.ins _ _ _)=>True
 |some (.ext _)=>True
 |_=>False
section
variable{P:Program}{w:World}{H:Hp}{h h':Heap}{x e:Addr}{o':HO}
theorem HOk.write(ok:HOk P w H h)(mu:Mut (H x))(he:e=x\/H e=some (.own x))(k:∀ b u,b≠e->h.get? b=some u->h'.get? b=some u)(heo:∃ u,h'.get? e=some u)
  (new:dW P w (upd H x o') h' x o'):HOk P w (upd H x o') h':=λb u q=>by
 have nown:∀ c y,H c=some (.own y)->c≠x:=λc y r z=>by subst z;rw[r] at mu;exact mu
 have ntup:∀ c xs,H c=some (.tup xs)->c≠x:=λc xs r z=>by subst z;rw[r] at mu;exact mu
 by_cases hb:b=x
 ·subst hb;rw[aN] at q;cases q;exact new
 ·rw[aG hb] at q;by_cases hbe:b=e
  ·have q':H b=some (.own x):=by
    rcases he with z|z
    ·exact absurd (hbe.trans z) hb
    ·rw[hbe];exact z
   rw[q] at q';cases q';obtain⟨v,hv⟩:=heo;exact⟨v,by rw[hbe];exact hv⟩
  ·refine(ok b u q).stay (λc v hc r=>k c v ?_ r) (λc r=>by rw[aG (nown c b r)];exact r) λc xs r=>by rw[aG (ntup c xs r)];exact r
   rcases hc with rfl|hc
   ·exact hbe
   ·rintro rfl;rcases he with z|z
    ·exact nown c b hc z
    ·rw[hc] at z;cases z;exact hb rfl
end
structure Un(fs ex:List Addr)(H H':Hp)(h h':Heap):Prop where
 keep:∀ b o,h.get? b=some o->H b=none->b ∉ fs->b ∉ ex->h'.get? b=some o
 slot:∀ b o,h.get? b=some o->H b=none->b∈fs->b ∉ ex->∃ sl,h'.get? b=some { o with slots:=sl }
 free:∀ b o,h.get? b=some o->H b=none->b ∉ ex->H' b=none
 there:∀ b o,h.get? b=some o->b ∉ ex->∃ o',h'.get? b=some o'
 tups:∀ b xs,H b=some (.tup xs)->H' b=some (.tup xs)
 frzs:∀ b o u,H b=some (.frz o u)->H' b=some (.frz o u)
 tbls:∀ b ps,H b=some (.tbl ps)->∃ more,H' b=some (.tbl (ps++more))
section
variable{fs ex:List Addr}{H H1:Hp}{h h1 h':Heap}{a x e:Addr}{o:HO}
theorem Un.any(u:Un fs ex H H1 h h1){b:Addr}{ob:Obj}(q:h.get? b=some ob)(n:H b=none)(hx:b ∉ ex):∃ sl,h1.get? b=some { ob with slots:=sl }:=by
 by_cases hb:b∈fs
 ·exact u.slot b ob q n hb hx
 ·exact⟨ob.slots,u.keep b ob q n hb hx⟩
theorem Un.kept(k:∀ b u,h.get? b=some u->h'.get? b=some u):Un fs ex H H h h':=
 ⟨λb ob q _ _ _=>k b ob q,λb ob q _ _ _=>⟨ob.slots,k b ob q⟩,λ_ _ _ n _=>n,λb ob q _=>⟨ob,k b ob q⟩,λ_ _ q=>q,λ_ _ _ q=>q,λ_ ps q=>⟨#[],by rw[q];simp⟩⟩
theorem Un.refl:Un fs ex H H h h:=Un.kept λ_ _ q=>q
theorem Un.laid(k:∀ b u,h.get? b=some u->h'.get? b=some u)(hp:h.objs.size<=a)(hn:H a=none):Un fs ex H (upd H a o) h h' where
 keep:=λb u q _ _ _=>k b u q
 slot:=λb u q _ _ _=>⟨u.slots,k b u q⟩
 free:=λb u q n _=>by rw[aG (ZaG (Zav (Zao q) hp))];exact n
 there:=λb u q _=>⟨u,k b u q⟩
 tups:=λb xs q=>by rw[aG (bR q hn)];exact q
 frzs:=λb u xs q=>by rw[aG (bR q hn)];exact q
 tbls:=λb ps q=>⟨#[],by rw[aG (bR q hn),q];simp⟩
theorem Un.write(mu:Mut (H x))(he:e=x\/H e=some (.own x))(k:∀ b u,b≠e->h.get? b=some u->h'.get? b=some u)(heo:∃ u,h'.get? e=some u):Un fs ex H (upd H x o) h h':=by
 have hx:∀ b,H b=none->b≠x:=λb n z=>by subst z;rw[n] at mu;exact mu
 have hb:∀ b,H b=none->b≠e:=λb n z=>by
  subst z;rcases he with r|r
  ·exact hx b n r
  ·rw[n] at r;cases r
 have hm:∀ b u,H b=some u->¬Mut (some u)->b≠x:=λb u q nm z=>by subst z;rw[q] at mu;exact nm mu
 refine⟨λb u q n _ _=>k b u (hb b n) q,λb u q n _ _=>⟨u.slots,k b u (hb b n) q⟩,λb u q n _=>by rw[aG (hx b n)];exact n,λb u q _=>?_,
  λb xs q=>by rw[aG (hm b _ q λz=>z)];exact q,λb u xs q=>by rw[aG (hm b _ q λz=>z)];exact q,λb ps q=>⟨#[],by rw[aG (hm b _ q λz=>z),q];simp⟩⟩
 by_cases hbe:b=e
 ·subst hbe;exact heo
 ·exact⟨u,k b u hbe q⟩
end
def trk(h:Heap)(H:Hp):List Addr:=(List.range h.objs.size).filter λa=>(H a).isSome
def Cp(h:Heap)(H:Hp):Heap:=PySem.W.hideAll h (trk h H)
theorem Mr(h:Heap)(H:Hp):(Cp h H).objs.size=h.objs.size:=PySem.W.hideAll_size _ _
theorem Og{h:Heap}{H:Hp}{b:Addr}{o:Obj}(e:h.get? b=some o)(n:H b=none):(Cp h H).get? b=some o:=
 PySem.W.hideAll_get _ e λhm=>by
  have q:(H b).isSome=true:=(ZaB.mp hm).2;rw[n] at q;simp at q
theorem RX{h:Heap}{H:Hp}{b:Addr}{o:Obj}(e:(Cp h H).get? b=some o):h.get? b=some o/\H b=none:=by
 have e':h.get? b=some o:=PySem.W.of_hideAll (trk h H) e;refine⟨e',?_⟩;cases q:H b with
 |none=>rfl
 |some x=>
  have hm:b∈trk h H:=ZaB.mpr ⟨Zaz.mpr (Zao e'),by simp[q]⟩
  have z:(Cp h H).get? b=none:=PySem.W.hideAll_none (trk h H) hm;rw[z] at e;cases e
def RZ(g h:Heap)(L:Addr):List (Addr×Obj):=(List.range h.objs.size).filterMap λa=>if a=L\/(g.get? a).isSome=true then none else(h.get? a).map λo=>(a,o)
def rest(g h:Heap)(L d:Addr):List (Addr×Obj):=(RZ g h L).filter λp=>decide (p.1≠d)
structure Mod(K:Frag)(mg:Str->Option Value)(base:Heap):Prop where
 kin:K.In base
 glob:base.Ns mainGlobals mg
 blt:∃ mb,base.Ns builtinsNs mb/\∀ x:Str,x≠"__name__"->mb x=bootBuiltins x
 nolimit:base.NoLimit
structure Cx where
 prog:Program
 w:World
 K:Frag
 mg:Str->Option Value
 base:Heap
 A:Around
 N:List Str
 s₀:Shared
 H₀:Hp
 env:Env
 outer:List Env
 stack:List Env
 ex:List Addr
 fn:Str->Bool
 calm:Bool
 pn:List (Addr×Obj)
 xe:Value->Shared->Prop
def frs(l:List Env):List Addr:=l.filterMap (·.frame)
noncomputable abbrev Cx.fs(X:Cx):List Addr:=frs X.outer
def Vis(sc:Scope)(x:Str):Prop:=sc.names.lookup x=some .local\/sc.names.lookup x=some .cell\/sc.names.lookup x=some .free
def Loc(sc:Scope)(x:Str):Prop:=sc.names.lookup x=some .local\/sc.names.lookup x=some .cell
def Look(env:Env)(h:Heap)(m:Str->Option Value)(x:Str)(u:Value):Prop:=
 (env.kindOf x=some .local/\m x=some u)\/((env.kindOf x=some .cell\/env.kindOf x=some .free)/\∃ c,env.cells.lookup x=some c/\h.IsCell c (some u))
structure Cx.Ok(X:Cx):Prop where
 mod:Mod X.K X.mg X.base
 kind:X.env.scope.kind=.function
 glob:X.env.globals=mainGlobals
 blt:X.env.builtins=builtinsNs
 above:X.s₀.heap.objs.size<=X.env.locals
 inj:∀ x y c,X.env.cells.lookup x=some c->X.env.cells.lookup y=some c->x=y
 has:∀ x,(X.env.kindOf x=some .cell\/X.env.kindOf x=some .free)->∃ c,X.env.cells.lookup x=some c
 cab:∀ x c,X.fn x=true->X.env.cells.lookup x=some c->X.s₀.heap.objs.size<=c
 hd:X.calm=true->X.A.handled=none
 frames:X.A.frames=some X.stack
 stk:X.stack=X.outer\/(X.stack=X.env::X.outer/\X.env.frame=some X.env.locals)
 exf:∀ b∈X.ex,b≠X.env.locals/\∀ x c,X.env.cells.lookup x=some c->c≠b
 bs:∀ b o,X.base.get? b=some o->X.s₀.heap.get? b=some o/\X.H₀ b=none
 bsz:X.base.objs.size<=X.s₀.heap.objs.size
 noex:∀ b o,X.base.get? b=some o->b ∉ X.ex
 exfs:∀ b∈X.ex,b ∉ X.fs
 wK:X.s₀.heap.FunFrames X.base X.outer
 frf:∀ b∈X.fs,X.H₀ b=none
structure Inv(X:Cx)(pins:List (Addr×Obj))(σ:List (Option V))(H:Hp)(s:Shared):Prop where
 ok:X.Ok
 os:s.os=X.s₀.os
 bare:AllBare s.gens
 base:Un X.fs X.ex X.H₀ H X.s₀.heap s.heap
 loc:∃ m,s.heap.Ns X.env.locals m/\∀ (i:Nat) (x:Str) (v:V),X.N[i]?=some x->σ[i]?=some (some v)->Vis X.env.scope x->∃ u,RelV v u/\Look X.env s.heap m x u
 cell:∀ x c,X.env.cells.lookup x=some c->∃ v,s.heap.IsCell c v
 free:H X.env.locals=none
 freeC:∀ x c,X.env.cells.lookup x=some c->H c=none
 pin:∀ p∈X.pn++pins,s.heap.get? p.1=some p.2/\H p.1=none/\p.1≠X.env.locals/\p.1 ∉ X.fs/\∀ v,p.2.data≠.cell v
 hok:HOk X.prog X.w H s.heap
 len:σ.length=X.N.length
section
variable{X:Cx}{pins:List (Addr×Obj)}{σ:List (Option V)}{H H':Hp}{s:Shared}{h':Heap}
theorem Cx.Ok.YC(ok:X.Ok){b:Addr}{o:Obj}(e:X.base.get? b=some o):b ∉ X.fs:=λhb=>by
 have:=(ok.wK.mem hb).1;rw[e] at this;cases this
theorem Inv.bs(I:Inv X pins σ H s):∀ b o,X.base.get? b=some o->s.heap.get? b=some o/\H b=none:=λb o e=>
 ⟨I.base.keep b o (I.ok.bs b o e).1 (I.ok.bs b o e).2 (I.ok.YC e) (I.ok.noex b o e),I.base.free b o (I.ok.bs b o e).1 (I.ok.bs b o e).2 (I.ok.noex b o e)⟩
theorem Inv.bk(I:Inv X pins σ H s):∀ b o,X.base.get? b=some o->s.heap.get? b=some o:=λb o e=>(I.bs b o e).1
theorem Inv.mod(I:Inv X pins σ H s):Mod X.K X.mg X.base:=I.ok.mod
theorem Inv.kIn(I:Inv X pins σ H s):X.K.In s.heap:=I.ok.mod.kin.keeps I.bk
theorem Inv.lt(I:Inv X pins σ H s):X.env.locals<s.heap.objs.size:=let⟨_,hn,_⟩:=I.loc;hn.lt
theorem Inv.sz(I:Inv X pins σ H s):X.s₀.heap.objs.size<=s.heap.objs.size:=ZaE I.ok.above (ZaO I.lt)
theorem Inv.YD(I:Inv X pins σ H s){a:Addr}(h:s.heap.objs.size<=a):a ∉ X.fs:=λhb=>by
 obtain⟨_,o,ho,_⟩:=I.ok.wK.mem hb;exact absurd (Zav (Zao ho) (ZaE I.sz h)) (ZbO _)
theorem Inv.cne(I:Inv X pins σ H s):∀ x c,X.env.cells.lookup x=some c->c≠X.env.locals:=λx c e z=>by
 obtain⟨v,o,ho,hd⟩:=I.cell x c e;obtain⟨m,⟨o',es,ep,ho',hd',_⟩,_⟩:=I.loc;rw[z,ho'] at ho;cases ho;rw[hd'] at hd;cases hd
theorem Inv.wK(I:Inv X pins σ H s):s.heap.FunFrames X.base X.outer:=by
 have all:∀ (l:List Env),(∀ b∈frs l,b∈X.fs)->X.s₀.heap.FunFrames X.base l->s.heap.FunFrames X.base l:=by
  intro l;induction l with
  |nil=>intro _ _;trivial
  |cons env r ih=>
   intro hs hl;obtain⟨hk,⟨L,o,hf,hn,ho,hd⟩,hr⟩:=hl;have hL:L∈X.fs:=hs L (by unfold frs;rw[List.filterMap_cons,hf];exact List.mem_cons_self)
   obtain⟨sl,e⟩:=I.base.slot L o ho (I.ok.frf L hL) hL λz=>I.ok.exfs L z hL;exact⟨hk,⟨L,_,hf,hn,e,hd⟩,ih (λb hb=>hs b (by unfold frs;rw[List.filterMap_cons,hf];exact List.mem_cons_of_mem _ hb)) hr⟩
 exact all X.outer (λ_ hb=>hb) I.ok.wK
theorem Inv.stack(I:Inv X pins σ H s):s.heap.FunFrames X.base X.stack:=by
 rcases I.ok.stk with e|⟨e,hf⟩
 ·rw[e];exact I.wK
 ·rw[e];obtain⟨m,hn,_⟩:=I.loc;refine .cons (by rw[I.ok.kind];decide) hf hn ?_ I.wK
  exact Heap.get?_none_of_le (ZaE I.ok.bsz I.ok.above)
theorem Inv.Jh(I:Inv X pins σ H s):∀ b∈frs X.stack,b∈X.env.locals::X.fs:=λb hb=>by
 rcases I.ok.stk with e|⟨e,hf⟩
 ·rw[e] at hb;exact List.mem_cons_of_mem _ hb
 ·rw[e] at hb;unfold frs at hb;rw[List.filterMap_cons,hf] at hb;exact hb
theorem Inv.Kp(I:Inv X pins σ H s):∀ b∈frs X.stack,H b=none:=λb hb=>by
 rcases ZaA.mp (I.Jh b hb) with e|hb
 ·rw[e];exact I.free
 ·obtain⟨_,o,ho,_⟩:=I.ok.wK.mem hb;exact I.base.free b o ho (I.ok.frf b hb) λz=>I.ok.exfs b z hb
theorem Inv.step{g':Array GenState}{t':Nat}{d':Drawn}{ch:List Addr}(I:Inv X pins σ H s)
  (hch:∀ b∈ch,(b∈X.ex\/X.s₀.heap.objs.size<=b)/\b≠X.env.locals/\(∀ x c,X.env.cells.lookup x=some c->c≠b)/\∀ p∈X.pn++pins,p.1≠b)
  (keep:∀ b o,b≠X.env.locals->b ∉ X.fs->b ∉ ch->s.heap.get? b=some o->H b=none->h'.get? b=some o)
  (slot:∀ b o,b≠X.env.locals->b∈X.fs->b ∉ ch->s.heap.get? b=some o->H b=none->∃ sl,h'.get? b=some { o with slots:=sl })(free:∀ b o,b ∉ ch->s.heap.get? b=some o->H b=none->H' b=none)
  (there:∀ b o,b ∉ ch->s.heap.get? b=some o->∃ o',h'.get? b=some o')
  (tups:∀ b xs,H b=some (.tup xs)->H' b=some (.tup xs))(frzs:∀ b o u,H b=some (.frz o u)->H' b=some (.frz o u))(tbls:∀ b ps,H b=some (.tbl ps)->∃ more,H' b=some (.tbl (ps++more)))
  (ns:∀ m,s.heap.Ns X.env.locals m->h'.Ns X.env.locals m)(hok:HOk X.prog X.w H' h')(hg:AllBare g') :
  Inv X pins σ H' { s with heap:=h',gens:=g',drawn:=d',toks:=t' }:=by
 have neL:∀ b o,X.s₀.heap.get? b=some o->b≠X.env.locals:=λb o e=>ZaG (Zav (Zao e) I.ok.above);have neC:∀ b o,X.s₀.heap.get? b=some o->b ∉ X.ex->b ∉ ch:=λb o e hx hb=>by
  rcases(hch b hb).1 with z|z
  ·exact hx z
  ·exact absurd (Zav (Zao e) z) (ZbO _)
 have cellK:∀ x c,X.env.cells.lookup x=some c->∀ v,s.heap.IsCell c v->h'.IsCell c v:=λx c e v ⟨o,ho,hd⟩=>by
  have nch:c ∉ ch:=λz=>(hch c z).2.2.1 x c e rfl;by_cases hc:c∈X.fs
  ·obtain⟨sl,q⟩:=slot c o (I.cne x c e) hc nch ho (I.freeC x c e);exact⟨_,q,hd⟩
  ·exact⟨o,keep c o (I.cne x c e) hc nch ho (I.freeC x c e),hd⟩
 refine⟨I.ok,I.os,hg,⟨λb o e n hb hx=>?_,λb o e n hb hx=>?_,λb o e n hx=>?_,λb o e hx=>?_,λb xs e=>tups b xs (I.base.tups b xs e),λb o xs e=>frzs b o xs (I.base.frzs b o xs e),λb ps e=>?_⟩,?_,λx c e=>?_,?_,λx c e=>?_,λp hp=>?_,hok,I.len⟩
 ·exact keep b o (neL b o e) hb (neC b o e hx) (I.base.keep b o e n hb hx) (I.base.free b o e n hx)
 ·obtain⟨sl,e1⟩:=I.base.slot b o e n hb hx;obtain⟨sl',e2⟩:=slot b _ (neL b o e) hb (neC b o e hx) e1 (I.base.free b o e n hx);exact⟨sl',e2⟩
 ·obtain⟨o',e1⟩:=I.base.there b o e hx;exact free b o' (neC b o e hx) e1 (I.base.free b o e n hx)
 ·obtain⟨o',e1⟩:=I.base.there b o e hx;exact there b o' (neC b o e hx) e1
 ·obtain⟨m1,e1⟩:=I.base.tbls b ps e;obtain⟨m2,e2⟩:=tbls b _ e1;exact⟨m1++m2,by rw[e2,Array.append_assoc]⟩
 ·obtain⟨m,hn,hl⟩:=I.loc;refine⟨m,ns m hn,λi x v e1 e2 e3=>?_⟩;obtain⟨u,r,l⟩:=hl i x v e1 e2 e3;refine⟨u,r,?_⟩;rcases l with l|⟨k,c,e,z⟩
  ·exact .inl l
  ·exact .inr ⟨k,c,e,cellK x c e _ z⟩
 ·obtain⟨v,z⟩:=I.cell x c e;exact⟨v,cellK x c e v z⟩
 ·obtain⟨m,⟨o,_,_,ho,_⟩,_⟩:=I.loc;exact free _ o (λz=>(hch _ z).2.1 rfl) ho I.free
 ·obtain⟨v,o,ho,hd⟩:=I.cell x c e;exact free c o (λz=>(hch c z).2.2.1 x c e rfl) ho (I.freeC x c e)
 ·obtain⟨e,n,ne,nf,d⟩:=I.pin p hp;have nch:p.1 ∉ ch:=λz=>(hch p.1 z).2.2.2 p hp rfl;exact⟨keep p.1 p.2 ne nf nch e n,free p.1 p.2 nch e n,ne,nf,d⟩
theorem Inv.un{t':Nat}(I:Inv X pins σ H s)(u:Un X.fs [] H H' s.heap h')(hok:HOk X.prog X.w H' h'):Inv X pins σ H' { s with heap:=h',toks:=t' }:=by
 obtain⟨m,⟨o,es,ep,ho,r⟩,_⟩:=id I.loc;obtain⟨sl,hL⟩:=u.any ho I.free (by simp)
 exact I.step (g':=s.gens) (d':=s.drawn) (ch:=[]) (λ_ z=>nomatch z) (λb o _ hb _ e n=>u.keep b o e n hb (by simp)) (λb o _ hb _ e n=>u.slot b o e n hb (by simp)) (λb o _ e n=>u.free b o e n (by simp)) (λb o _ e=>u.there b o e (by simp)) u.tups u.frzs u.tbls (λm' hm=>by
  obtain⟨o',es',ep',ho',r'⟩:=hm;rw[ho] at ho';cases ho';exact⟨_,es',ep',hL,r'⟩) hok I.bare
theorem Inv.call{g':Array GenState}{t':Nat}{d':Drawn}{ch:List Addr}(I:Inv X pins σ H s)(u:Un (frs X.stack) ch H H' s.heap h')(hok:HOk X.prog X.w H' h')(hg:AllBare g')
  (hch:∀ b∈ch,(b∈X.ex\/X.s₀.heap.objs.size<=b)/\b≠X.env.locals/\(∀ x c,X.env.cells.lookup x=some c->c≠b)/\∀ p∈X.pn++pins,p.1≠b) :
  Inv X pins σ H' { s with heap:=h',gens:=g',drawn:=d',toks:=t' }:=by
 obtain⟨m,⟨o,es,ep,ho,r⟩,_⟩:=id I.loc;obtain⟨sl,hL⟩:=u.any ho I.free λz=>(hch _ z).2.1 rfl;exact I.step (ch:=ch) hch (λb o hL hb hc e n=>u.keep b o e n (λz=>(ZaA.mp (I.Jh b z)).elim hL hb) hc) (λb o _ _ hc e n=>u.any e n hc) (λb o hc e n=>u.free b o e n hc) (λb o hc e=>u.there b o e hc) u.tups u.frzs u.tbls (λm' hm=>by
  obtain⟨o',es',ep',ho',r'⟩:=hm;rw[ho] at ho';cases ho';exact⟨_,es',ep',hL,r'⟩) hok hg
theorem Inv.turned{t':Nat}{it:Addr}(I:Inv X pins σ H s)(k:∀ b o,b≠it->s.heap.get? b=some o->h'.get? b=some o)(hn:H it=none)(hL:it≠X.env.locals)
  (h1:it∈X.ex\/X.s₀.heap.objs.size<=it)(h2:∀ x c,X.env.cells.lookup x=some c->c≠it)(h3:∀ p∈X.pn++pins,p.1≠it):Inv X pins σ H { s with heap:=h',toks:=t' }:=by
 have nit:∀ b u,H b=some u->b≠it:=λb u e z=>by rw[z,hn] at e;cases e
 refine I.step (g':=s.gens) (d':=s.drawn) (ch:=[it]) (λb hb=>?_) (λb o _ _ hc e _=>k b o (λz=>hc (by simp[z])) e) (λb o _ _ hc e _=>⟨o.slots,k b o (λz=>hc (by simp[z])) e⟩) (λ_ _ _ _ n=>n)
  (λb o hc e=>⟨o,k b o (λz=>hc (by simp[z])) e⟩) (λ_ _ e=>e) (λ_ _ _ e=>e) (λb ps e=>⟨#[],by rw[e];simp⟩) (λm hm=>?_) (λb u e=>?_) I.bare
 ·have e:b=it:=by simpa using hb
  subst e;exact⟨h1,hL,h2,h3⟩
 ·obtain⟨o,es,ep,ho,r⟩:=hm;exact⟨o,es,ep,k _ o (Zbr hL) ho,r⟩
 ·refine(I.hok b u e).stay (λc v hc q=>k c v ?_ q) (λ_ q=>q) λ_ _ q=>q;rcases hc with z|z
  ·rw[z];exact nit b u e
  ·exact nit c _ z
theorem Inv.tok(I:Inv X pins σ H s)(t:Nat):Inv X pins σ H { s with toks:=t }:=I.un (h':=s.heap) (t':=t) Un.refl I.hok
theorem Inv.kept{t':Nat}(I:Inv X pins σ H s)(k:∀ b u,s.heap.get? b=some u->h'.get? b=some u):Inv X pins σ H { s with heap:=h',toks:=t' }:=I.un (Un.kept k) (I.hok.kept k)
theorem Inv.laid{a:Addr}{o:HO}{t':Nat}(I:Inv X pins σ H s)(k:∀ b u,s.heap.get? b=some u->h'.get? b=some u)(hp:s.heap.objs.size<=a)(new:dW X.prog X.w (upd H a o) h' a o) :
  Inv X pins σ (upd H a o) { s with heap:=h',toks:=t' }:=I.un (Un.laid k hp (I.hok.fresh hp)) (I.hok.laid k hp new)
theorem Inv.write{x e:Addr}{o:HO}{t':Nat}(I:Inv X pins σ H s)(mu:Mut (H x))(he:e=x\/H e=some (.own x))(k:∀ b u,b≠e->s.heap.get? b=some u->h'.get? b=some u)(heo:∃ u,h'.get? e=some u)
  (new:dW X.prog X.w (upd H x o) h' x o):Inv X pins σ (upd H x o) { s with heap:=h',toks:=t' }:=I.un (Un.write mu he k heo) (I.hok.write mu he k heo new)
theorem Inv.Kq{pins':List (Addr×Obj)}(I:Inv X pins σ H s)(h:∀ p∈pins',s.heap.get? p.1=some p.2/\H p.1=none/\p.1≠X.env.locals/\p.1 ∉ X.fs/\∀ v,p.2.data≠.cell v):Inv X pins' σ H s:=
 ⟨I.ok,I.os,I.bare,I.base,I.loc,I.cell,I.free,I.freeC,λp hp=>(Zaj.mp hp).elim (λz=>I.pin p (ZbL _ z)) (h p),I.hok,I.len⟩
theorem Fp{N:List Str}(hN:N.Nodup){i j:Nat}{x:Str}(a:N[i]?=some x)(b:N[j]?=some x):i=j:=by
 obtain⟨h1,e1⟩:=Zab.mp a;obtain⟨h2,e2⟩:=Zab.mp b;exact(List.getElem_inj hN).mp (e1.trans e2.symm)
theorem Ms{M:Model}{A:Around}{E:Value->Shared->Prop}{i:Nat}{x:Str}{v:V}{u:Value}{Q:Unit->Shared->Prop}(I:Inv X pins σ H s)(hN:X.N.Nodup)(hi:X.N[i]?=some x)(hx:Loc X.env.scope x)(r:RelV v u)
  (h:∀ s',Inv X pins (σ.set i (some v)) H s'->(∃ a,Heap.SameBut a s.heap s'.heap/\(a=X.env.locals\/X.env.cells.lookup x=some a))->Q () s')(hf:X.fn x=true\/X.env.scope.names.lookup x=some .local:=by first|exact .inl rfl|exact .inr rfl|assumption):wpAny M A (storeName X.env x u) Q E s:=by
 obtain⟨m,hn,hl⟩:=id I.loc;have hcls:(X.env.scope.kind==.class||(X.env.scope.kind==.module&&X.env.locals != X.env.globals))=false:=by rw[I.ok.kind];rfl
 have hiσ:i<σ.length:=by rw[I.len];exact(Zab.mp hi).1
 have cne:=I.cne;have tracked:∀ {a:Addr}{h':Heap},(∃ o,s.heap.get? a=some o/\H a=none)->Heap.SameBut a s.heap h'->HOk X.prog X.w H h':=λ{a h'} ha hs b ob e=>by
  obtain⟨_,_,hfree⟩:=ha;refine(I.hok b ob e).stay (λc w' hc q=>(hs.2 c ?_).trans q) (λ_ q=>q) λ_ _ q=>q;rintro rfl;rcases hc with rfl|hc
  ·rw[hfree] at e;cases e
  ·rw[hfree] at hc;cases hc
 rcases hx with hk|hk
 ·refine wpAny_storeName_local hk hn (λh' hn' hs=>?_) hcls;obtain⟨oL,_,_,hoL,_⟩:=id hn;refine h _ ⟨I.ok,I.os,I.bare,⟨λb o e n hb hx=>?_,λb o e n hb hx=>?_,I.base.free,λb o e hx=>?_,I.base.tups,I.base.frzs,I.base.tbls⟩,⟨_,hn',λj y v' e1 e2 e3=>?_⟩,λy c e=>?_,I.free,I.freeC,λp hp=>?_,tracked ⟨oL,hoL,I.free⟩ hs,by simpa using I.len⟩ ⟨_,hs,.inl rfl⟩
  ·exact(hs.2 b (ZaG (Zav (Zao e) I.ok.above))).trans (I.base.keep b o e n hb hx)
  ·obtain⟨sl,e1⟩:=I.base.slot b o e n hb hx;exact⟨sl,(hs.2 b (ZaG (Zav (Zao e) I.ok.above))).trans e1⟩
  ·obtain⟨o',e1⟩:=I.base.there b o e hx;exact⟨o',(hs.2 b (ZaG (Zav (Zao e) I.ok.above))).trans e1⟩
  ·by_cases hj:j=i
   ·subst hj;rw[hi] at e1;cases e1;rw[Za2 hiσ] at e2;cases e2;exact⟨u,r,.inl ⟨hk,by simp⟩⟩
   ·rw[Zar (Zbr hj)] at e2;obtain⟨u',r',q⟩:=hl j y v' e1 e2 e3;refine⟨u',r',?_⟩;rcases q with⟨k,e⟩|⟨k,c,e,z⟩
    ·refine .inl ⟨k,?_⟩;have:y≠x:=λe=>hj (Fp hN e1 (e▸hi));simp[this,e]
    ·exact .inr ⟨k,c,e,z.sameBut hs (cne y c e)⟩
  ·obtain⟨w',z⟩:=I.cell y c e;exact⟨w',z.sameBut hs (cne y c e)⟩
  ·obtain⟨e,n,ne,nf,d⟩:=I.pin p hp;exact⟨(hs.2 p.1 ne).trans e,n,ne,nf,d⟩
 ·have hfn:X.fn x=true:=by
   rcases hf with z|z
   ·exact z
   ·rw[z] at hk;cases hk
  obtain⟨c,hc⟩:=I.ok.has x (.inl hk);obtain⟨w',z⟩:=I.cell x c hc;refine wpAny_storeName_cell I.ok.kind hk hc z (λh' hc' hs=>?_);obtain⟨oc,hoc,hocd⟩:=id z;refine h { s with heap:=h' } ⟨I.ok,I.os,I.bare,⟨λb o e n hb hx=>?_,λb o e n hb hx=>?_,I.base.free,λb o e hx=>?_,I.base.tups,I.base.frzs,I.base.tbls⟩,⟨m,hn.sameBut hs (Zbr (cne x c hc)),λj y v' e1 e2 e3=>?_⟩,λy c' e=>?_,I.free,I.freeC,λp hp=>?_,tracked ⟨oc,hoc,I.freeC x c hc⟩ hs,by simpa using I.len⟩ ⟨c,hs,.inr hc⟩
  ·exact(hs.2 b (ZaG (Zav (Zao e) (I.ok.cab x c hfn hc)))).trans (I.base.keep b o e n hb hx)
  ·obtain⟨sl,e1⟩:=I.base.slot b o e n hb hx;exact⟨sl,(hs.2 b (ZaG (Zav (Zao e) (I.ok.cab x c hfn hc)))).trans e1⟩
  ·obtain⟨o',e1⟩:=I.base.there b o e hx;exact⟨o',(hs.2 b (ZaG (Zav (Zao e) (I.ok.cab x c hfn hc)))).trans e1⟩
  ·by_cases hj:j=i
   ·subst hj;rw[hi] at e1;cases e1;rw[Za2 hiσ] at e2;cases e2;exact⟨u,r,.inr ⟨.inl hk,c,hc,hc'⟩⟩
   ·rw[Zar (Zbr hj)] at e2;obtain⟨u',r',q⟩:=hl j y v' e1 e2 e3;refine⟨u',r',?_⟩;rcases q with q|⟨k,c',e,z'⟩
    ·exact .inl q
    ·refine .inr ⟨k,c',e,z'.sameBut hs ?_⟩;rintro rfl;exact hj (Fp hN e1 (I.ok.inj _ _ _ e hc▸hi))
  ·by_cases hcc:c'=c
   ·subst hcc;exact⟨_,hc'⟩
   ·obtain⟨w2,z2⟩:=I.cell y c' e;exact⟨w2,z2.sameBut hs hcc⟩
  ·obtain⟨e,n,ne,nf,d⟩:=I.pin p hp;refine⟨(hs.2 p.1 ?_).trans e,n,ne,nf,d⟩;intro q;rw[q,hoc] at e;have q':oc=p.2:=Zac e;exact d w' (by rw[<-q'];exact hocd)
theorem Fq{M:Model}{A:Around}{E:Value->Shared->Prop}{i:Nat}{x:Str}{v:V}{u:Value}{Q:Unit->Shared->Prop}(I:Inv X pins σ H s)(hN:X.N.Nodup)(hi:X.N[i]?=some x)(hx:Loc X.env.scope x)(r:RelV v u)
  (h:∀ s',Inv X pins (σ.set i (some v)) H s'->Q () s')(hf:X.fn x=true\/X.env.scope.names.lookup x=some .local:=by first|exact .inl rfl|exact .inr rfl|assumption):wpAny M A (storeName X.env x u) Q E s:=
 Ms I hN hi hx r (λs' I' _=>h s' I') hf
theorem Inv.call'{s':Shared}{ch:List Addr}(I:Inv X pins σ H s)(ho:s'.os=s.os)(u:Un (frs X.stack) ch H H' s.heap s'.heap)(hok:HOk X.prog X.w H' s'.heap)(hg:AllBare s'.gens)
  (hch:∀ b∈ch,(b∈X.ex\/X.s₀.heap.objs.size<=b)/\b≠X.env.locals/\(∀ x c,X.env.cells.lookup x=some c->c≠b)/\∀ p∈X.pn++pins,p.1≠b):Inv X pins σ H' s':=by
 obtain⟨h',g',d',t',o'⟩:=s';have e:o'=s.os:=ho;subst e;exact I.call (g':=g') (t':=t') (d':=d') u hok hg hch
end
noncomputable abbrev XK:=Value->Option Addr->Hp->Prop
noncomputable abbrev St:=List (Option V)
noncomputable abbrev VK:=V->Hp->Prop
noncomputable abbrev TE:=St->Hp->VK->Prop
noncomputable abbrev TT:=St->Hp->(Bool->Hp->Prop)->Prop
noncomputable abbrev TA:=St->Hp->(List V->Hp->Prop)->Prop
structure Ends where
 nx:St->Hp->Prop
 rt:VK
 bk:St->Hp->Prop:=λ_ _=>False
 ct:St->Hp->Prop:=λ_ _=>False
noncomputable abbrev TS:=Ends->St->Hp->Prop
def EP(X:Cx)(pins:List (Addr×Obj))(σ:St)(Q:VK)(u:Value)(s':Shared):Prop:=∃ v H',Inv X pins σ H' s'/\RelV v u/\Q v H'
def TP(X:Cx)(pins:List (Addr×Obj))(σ:St)(Q:Bool->Hp->Prop)(b:Bool)(s':Shared):Prop:=∃ H',Inv X pins σ H' s'/\Q b H'
def AP(X:Cx)(pins:List (Addr×Obj))(σ:St)(Q:List V->Hp->Prop)(us:List Value)(s':Shared):Prop:=∃ vs H',Inv X pins σ H' s'/\Vals vs us/\Q vs H'
def SP(X:Cx)(pins:List (Addr×Obj))(D:Ends)(f:Flow)(s':Shared):Prop:=
 match f with
 |.next=>∃ σ' H',Inv X pins σ' H' s'/\D.nx σ' H'
 |.brk=>∃ σ' H',Inv X pins σ' H' s'/\D.bk σ' H'
 |.cont=>∃ σ' H',Inv X pins σ' H' s'/\D.ct σ' H'
 |.ret u=>∃ v σ' H',Inv X pins σ' H' s'/\RelV v u/\D.rt v H'
def PE(X:Cx)(e:Expr)(t:TE):Prop:=
 ∀ (pins:List (Addr×Obj)) (s:Shared) (σ:St) (H:Hp) (Q:VK),Inv X pins σ H s->t σ H Q->wpAny (model X.prog X.w) X.A (eval e X.env) (EP X pins σ Q) X.xe s
def PT(X:Cx)(e:Expr)(t:TT):Prop:=
 ∀ (pins:List (Addr×Obj)) (s:Shared) (σ:St) (H:Hp) (Q:Bool->Hp->Prop),Inv X pins σ H s->t σ H Q->wpAny (model X.prog X.w) X.A (isTrue e X.env (eval e X.env)) (TP X pins σ Q) X.xe s
def PW(X:Cx)(e:Expr)(t:TT):Prop:=
 ∀ (whole:Sem Value) (pins:List (Addr×Obj)) (s:Shared) (σ:St) (H:Hp) (Q:Bool->Hp->Prop),Inv X pins σ H s->t σ H Q->wpAny (model X.prog X.w) X.A (isTrue e X.env whole) (TP X pins σ Q) X.xe s
theorem PW.pt{X:Cx}{e:Expr}{t:TT}(h:PW X e t):PT X e t:=h _
def PA(X:Cx)(es:List Expr)(t:TA):Prop:=
 ∀ (pos:Pos) (pins:List (Addr×Obj)) (s:Shared) (σ:St) (H:Hp) (Q:List V->Hp->Prop),Inv X pins σ H s->t σ H Q->wpAny (model X.prog X.w) X.A (spliced (backTo pos (starEach es X.env))) (AP X pins σ Q) X.xe s
def PS(X:Cx)(st:Stmt)(t:TS):Prop:=
 ∀ (pins:List (Addr×Obj)) (s:Shared) (σ:St) (H:Hp) (D:Ends),Inv X pins σ H s->t D σ H->wpAny (model X.prog X.w) X.A (exec st X.env) (SP X pins D) X.xe s
def PSs(X:Cx)(st:List Stmt)(t:TS):Prop:=
 ∀ (pins:List (Addr×Obj)) (s:Shared) (σ:St) (H:Hp) (D:Ends),Inv X pins σ H s->t D σ H->wpAny (model X.prog X.w) X.A (execs st X.env) (SP X pins D) X.xe s
theorem thn{α:Type}{t:Sem α}{Q Q':α->Shared->Prop}{M:Model}{A:Around}{E:Value->Shared->Prop}{s:Shared}(h:wpAny M A t Q E s)(hQ:∀ a s,Q a s->Q' a s):wpAny M A t Q' E s:=Zbx h hQ λ_ _ x=>x
section
variable{X:Cx}
def m5(i:Nat):TE:=λσ H Q=>∃ v,σ[i]?=some (some v)/\Q v H
def tC(v:V):TE:=λ_ H Q=>Q v H
theorem Ji{i:Nat}{x:Str}{pos:Pos}(hN:X.N[i]?=some x)(hv:Vis X.env.scope x)(hd:(x==("__debug__":Str))=false:=by decide)(hcd:(x==("__classdict__":Str))=false:=by decide):PE X (.Name x pos) (m5 i):=by
 intro pins s σ H Q I h;obtain⟨v,e,h⟩:=h;obtain⟨m,hn,hl⟩:=I.loc;obtain⟨u,r,l⟩:=hl i x v hN e hv;have fin:EP X pins σ Q u s:=⟨v,H,I,r,h⟩;rcases l with⟨hk,hm⟩|⟨hk,c,hc,hcell⟩
 ·exact wpAny_Name (wpAny_loadName_local I.ok.kind hk hn hm fin) hd
 ·rcases hk with hk|hk
  ·exact wpAny_Name (wpAny_loadName_cell I.ok.kind hk hc hcell fin) hd
  ·exact wpAny_Name (wpAny_loadName_free I.ok.kind hk hc hcell fin hcd) hd
theorem au{i j pos}:PE X (.Constant (.int i) j pos) (tC (.int i)):=λ_ _ _ H _ I h=>wpAny_Constant_int ⟨.int i,H,I.tok _,⟨_,rfl⟩,h⟩
theorem lM{b j pos}:PE X (.Constant (.bool b) j pos) (tC (.bl b)):=λ_ _ _ H _ I h=>Constant_bool ⟨.bl b,H,I,rfl,h⟩
theorem Cq{j pos}:PE X (.Constant .none j pos) (tC .non):=λ_ _ _ H _ I h=>Constant_none ⟨.non,H,I,rfl,h⟩
theorem mQ{x j pos}:PE X (.Constant (.str x) j pos) (tC (.str x)):=λ_ _ _ H _ I h=>Calls.Constant_str ⟨.str x,H,I.tok _,⟨_,rfl⟩,h⟩
def Gl(X:Cx)(x:Str):Prop:=X.env.kindOf x=some .globalImplicit
theorem Kr{E:Value->Shared->Prop}{pins:List (Addr×Obj)}{s:Shared}{σ:St}{H:Hp}{x:Str}{u:Value}{pos:Pos}{Q:Value->Shared->Prop}(I:Inv X pins σ H s)(hg:Gl X x)(hm:X.mg x=some u)(h:Q u s)
  (hd:(x==("__debug__":Str))=false:=by decide):wpAny (model X.prog X.w) X.A (eval (.Name x pos) X.env) Q E s:=
 Calls.Name_function_global I.ok.kind hg (Calls.loadGlobal_global (by rw[I.ok.glob];exact I.mod.glob.keeps I.bk) hm h) hd
theorem rP{E:Value->Shared->Prop}{pins:List (Addr×Obj)}{s:Shared}{σ:St}{H:Hp}{x:Str}{u:Value}{pos:Pos}{Q:Value->Shared->Prop}(I:Inv X pins σ H s)(hg:Gl X x)(hm:X.mg x=none)(hv:bootBuiltins x=some u)(h:Q u s)
  (hn:x≠"__name__":=by decide)(hd:(x==("__debug__":Str))=false:=by decide):wpAny (model X.prog X.w) X.A (eval (.Name x pos) X.env) Q E s:=by
 obtain⟨mb,h1,h2⟩:=I.mod.blt;exact Calls.Name_function_global I.ok.kind hg (Calls.loadGlobal_builtin (by rw[I.ok.glob];exact I.mod.glob.keeps I.bk) hm (by rw[I.ok.blt];exact h1.keeps I.bk) ((h2 x hn).trans hv) h) hd
theorem R4{x:Str}{v:V}{u:Value}{pos:Pos}(hg:Gl X x)(hm:X.mg x=some u)(r:RelV v u)(hd:(x==("__debug__":Str))=false:=by decide):PE X (.Name x pos) (tC v):=
 λ_ _ _ H _ I h=>Kr I hg hm ⟨v,H,I,r,h⟩ hd
theorem R5{x:Str}{v:V}{u:Value}{pos:Pos}(hg:Gl X x)(hm:X.mg x=none)(hv:bootBuiltins x=some u)(r:RelV v u)(hn:x≠"__name__":=by decide)(hd:(x==("__debug__":Str))=false:=by decide):PE X (.Name x pos) (tC v):=
 λ_ _ _ H _ I h=>rP I hg hm hv ⟨v,H,I,r,h⟩ hn hd
variable{a b:Expr}{ta tb:TE}{pos:Pos}
def tB(t:TE):TT:=λσ H Q=>t σ H λx H1=>∃ c,x=.bl c/\Q c H1
theorem jz{e:Expr}{t:TE}(h:PE X e t)(he:∀ whole,isTrue e X.env whole=(do let v <-whole;standAt e.pos;holding [v] (truthy v)):=by intro _;rfl):PT X e (tB t):=by
 intro pins s σ H Q I hw;refine isTrue_plain (thn (h pins s σ H _ I hw) ?_) (he _);rintro v s1 ⟨x,H1,I1,r1,q1⟩;obtain⟨d,rfl,q⟩:=q1;cases r1;exact wpAny_truthy_bool ⟨H1,I1,q⟩
variable{tA tB':TT}{rest:List Expr}
def Xl(t u:TT):TT:=λσ H Q=>t σ H λc H1=>if c=true then u σ H1 Q else Q false H1
def tOr(t u:TT):TT:=λσ H Q=>t σ H λc H1=>if c=true then Q true H1 else u σ H1 Q
def Xm(t:TT):TT:=λσ H Q=>t σ H λc H1=>Q (!c) H1
theorem wX(ha:PT X a tA):PW X (.BoolOp .And [a] pos) tA:=by
 intro wh pins s σ H Q I h;refine isTrue_and (thn (ha pins s σ H Q I h) λc s1 e=>?_);cases c with
 |true=>exact isTrue_and_nil e
 |false=>exact e
theorem vG(ha:PT X a tA):PW X (.BoolOp .Or [a] pos) tA:=by
 intro wh pins s σ H Q I h;refine isTrue_or (thn (ha pins s σ H Q I h) λc s1 e=>?_);cases c with
 |false=>exact isTrue_or_nil e
 |true=>exact e
theorem Cr(ha:PT X a tA)(hb:PW X (.BoolOp .And (b::rest) pos) tB'):PW X (.BoolOp .And (a::b::rest) pos) (Xl tA tB'):=by
 intro wh pins s σ H Q I h;refine isTrue_and (thn (ha pins s σ H _ I h) ?_);rintro c s1 ⟨H1,I1,q1⟩;cases c with
 |true=>exact hb wh pins s1 σ H1 Q I1 q1
 |false=>exact⟨H1,I1,q1⟩
theorem qX(ha:PT X a tA)(hb:PW X (.BoolOp .Or (b::rest) pos) tB'):PW X (.BoolOp .Or (a::b::rest) pos) (tOr tA tB'):=by
 intro wh pins s σ H Q I h;refine isTrue_or (thn (ha pins s σ H _ I h) ?_);rintro c s1 ⟨H1,I1,q1⟩;cases c with
 |true=>exact⟨H1,I1,q1⟩
 |false=>exact hb wh pins s1 σ H1 Q I1 q1
theorem jA(ha:PT X a tA):PT X (.UnaryOp .Not a pos) (Xm tA):=by
 intro pins s σ H Q I h;exact isTrue_not (ha pins s σ H (λc H1=>Q (!c) H1) I h)
def U3(ta tb:TE):TE:=λσ H Q=>ta σ H λx H1=>∃ c,x=.bl c/\if c=true then tb σ H1 Q else Q (.bl false) H1
theorem Oh{op}{t:TE}(h:PE X a t):PE X (.BoolOp op [a] pos) t:=λpins s σ H Q I hw=>BoolOp_one (h pins s σ H Q I hw)
theorem Cu(ha:PE X a ta)(hb:PE X (.BoolOp .And (b::rest) pos) tb):PE X (.BoolOp .And (a::b::rest) pos) (U3 ta tb):=by
 intro pins s σ H Q I h;refine BoolOp_and (thn (ha pins s σ H _ I h) ?_);rintro v s1 ⟨x,H1,I1,r1,q1⟩;obtain⟨c,rfl,q1⟩:=q1;cases r1;refine wpAny_truthy_bool ?_;cases c with
 |true=>exact hb pins s1 σ H1 Q I1 q1
 |false=>exact⟨.bl false,H1,I1,rfl,q1⟩
def tIf(t:TT)(ta tb:TE):TE:=λσ H Q=>t σ H λc H1=>if c=true then ta σ H1 Q else tb σ H1 Q
theorem Ft{c:Expr}(hc:PT X c tA)(ha:PE X a ta)(hb:PE X b tb):PE X (.IfExp c a b pos) (tIf tA ta tb):=by
 intro pins s σ H Q I h;refine wpAny_IfExp (thn (hc pins s σ H _ I h) ?_);rintro d s1 ⟨H1,I1,q1⟩;cases d with
 |true=>exact ha pins s1 σ H1 Q I1 q1
 |false=>exact hb pins s1 σ H1 Q I1 q1
end
def SqL(K:Frag)(H:Hp)(a:Addr)(xs:List V):Prop:=
 Rd H a (.lst xs) \/
  ∃ (o:Obj) (its:Array Value) (n:Nat),K.lookup a=some o/\o.cls=.type "list"/\o.dict=none/\o.data=.seq its n/\its.size<=sizeLine/\Vals xs its.toList
def SqT(K:Frag)(H:Hp)(a:Addr)(xs:List V):Prop:=
 Rd H a (.tup xs) \/
  ∃ (o:Obj) (its:Array Value) (n:Nat),K.lookup a=some o/\o.cls=.type "tuple"/\o.data=.seq its n/\its.size<=sizeLine/\Vals xs its.toList
def YF:Value->Option V
 |.none=>some .non
 |.bool b=>some (.bl b)
 |.int i _=>some (.int i)
 |.str x _=>some (.str x)
 |.bytes b _=>some (.byt b)
 |.float b _=>some (.flt b)
 |.ref a=>some (.ref a)
 |.type n=>some (.ty n)
 |_=>none
theorem RelV.abs{x:V}{u:Value}(r:RelV x u):YF u=some x:=by
 cases x with
 |non=>cases r;rfl
 |bl _=>cases r;rfl
 |int _=>obtain⟨t,rfl⟩:=r;rfl
 |str _=>obtain⟨t,rfl⟩:=r;rfl
 |byt _=>obtain⟨t,rfl⟩:=r;rfl
 |flt _=>obtain⟨t,rfl⟩:=r;rfl
 |ref _=>cases r;rfl
 |ty _=>cases r;rfl
theorem RelV.inj{x y:V}{u:Value}(r:RelV x u)(q:RelV y u):x=y:=Zac (r.abs.symm.trans q.abs)
theorem Vals.inj:∀ {xs ys:List V}{us:List Value},Vals xs us->Vals ys us->xs=ys
 |_,_,_,.nil,.nil=>rfl
 |_,_,_,.cons r t,.cons r' t'=>by rw[r.inj r',Vals.inj t t']
section
variable{X:Cx}{pins:List (Addr×Obj)}{σ:St}{H:Hp}{s:Shared}{a:Addr}{xs ys:List V}
theorem SqL.of{K:Frag}(h:H a=some (.lst xs)):SqL K H a xs:=.inl (.inl h)
theorem SqT.of{K:Frag}(h:H a=some (.tup xs)):SqT K H a xs:=.inl (.inl h)
theorem Inv.list(I:Inv X pins σ H s)(h:SqL X.K H a xs):∃ its:List Value,Vals xs its/\PlainL s.heap a its.toArray/\xs.length<=sizeLine:=by
 rcases h with h|⟨o,its,n,hk,hc,hd,hs,hz,r⟩
 ·obtain⟨z,its,n,r,e⟩:=h.ok I.hok;exact⟨its,r,⟨_,n,e,rfl,rfl,rfl⟩,z⟩
 ·refine⟨its.toList,r,⟨o,n,I.kIn a o hk,hc,hd,by simpa using hs⟩,?_⟩
  have e:=r.length;simp only[ZaZ] at e;lia
theorem Inv.tuple(I:Inv X pins σ H s)(h:SqT X.K H a xs):∃ its:List Value,Vals xs its/\IsTup s.heap a its.toArray/\xs.length<=sizeLine:=by
 rcases h with h|⟨o,its,n,hk,hc,hs,hz,r⟩
 ·obtain⟨z,its,r,p⟩:=h.ok I.hok;exact⟨its,r,p.1,z⟩
 ·refine⟨its.toList,r,⟨o,I.kIn a o hk,hc,n,by simpa using hs⟩,?_⟩
  have e:=r.length;simp only[ZaZ] at e;omega
theorem Inv.pG(I:Inv X pins σ H s)(h:SqL X.K H a xs)(h':SqL X.K H a ys):xs=ys:=by
 obtain⟨its,r,⟨o,n,e,_,_,d⟩,_⟩:=I.list h;obtain⟨its',r',⟨o',n',e',_,_,d'⟩,_⟩:=I.list h';rw[e] at e';cases e';rw[d] at d';injection d' with d1 _
 have:its=its':=by simpa using Zbg Array.toList d1
 subst this;exact r.inj r'
theorem Inv.Am(I:Inv X pins σ H s)(h:SqT X.K H a xs)(h':SqT X.K H a ys):xs=ys:=by
 obtain⟨its,r,⟨o,e,_,n,d⟩,_⟩:=I.tuple h;obtain⟨its',r',⟨o',e',_,n',d'⟩,_⟩:=I.tuple h';rw[e] at e';cases e';rw[d] at d';injection d' with d1 _
 have:its=its':=by simpa using Zbg Array.toList d1
 subst this;exact r.inj r'
end
noncomputable abbrev Cx.wish(X:Cx)(E:Value->Shared->Prop):Cx:={ X with xe:=E }
noncomputable abbrev Cx.nox(X:Cx):Cx:=X.wish λ_ _=>False
theorem Cx.Ok.wish{X:Cx}(ok:X.Ok)(E:Value->Shared->Prop):(X.wish E).Ok:=
 ⟨ok.mod,ok.kind,ok.glob,ok.blt,ok.above,ok.inj,ok.has,ok.cab,ok.hd,ok.frames,ok.stk,ok.exf,ok.bs,ok.bsz,ok.noex,ok.exfs,ok.wK,ok.frf⟩
theorem Cx.Ok.pH{X:Cx}{E:Value->Shared->Prop}(ok:(X.wish E).Ok):X.Ok:=
 ⟨ok.mod,ok.kind,ok.glob,ok.blt,ok.above,ok.inj,ok.has,ok.cab,ok.hd,ok.frames,ok.stk,ok.exf,ok.bs,ok.bsz,ok.noex,ok.exfs,ok.wK,ok.frf⟩
section
variable{X:Cx}{pins:List (Addr×Obj)}{σ:St}{H:Hp}{s:Shared}{E:Value->Shared->Prop}
theorem Inv.wish(I:Inv X pins σ H s)(E:Value->Shared->Prop):Inv (X.wish E) pins σ H s:=⟨I.ok.wish E,I.os,I.bare,I.base,I.loc,I.cell,I.free,I.freeC,I.pin,I.hok,I.len⟩
theorem Inv.pH(I:Inv (X.wish E) pins σ H s):Inv X pins σ H s:=⟨I.ok.pH,I.os,I.bare,I.base,I.loc,I.cell,I.free,I.freeC,I.pin,I.hok,I.len⟩
theorem SP.pH{D:Ends}{f:Flow}{s':Shared}(h:SP (X.wish E) pins D f s'):SP X pins D f s':=by
 cases f with
 |next=>obtain⟨σ',H',I,q⟩:=h;exact⟨σ',H',I.pH,q⟩
 |brk=>obtain⟨σ',H',I,q⟩:=h;exact⟨σ',H',I.pH,q⟩
 |cont=>obtain⟨σ',H',I,q⟩:=h;exact⟨σ',H',I.pH,q⟩
 |ret u=>obtain⟨v,σ',H',I,r,q⟩:=h;exact⟨v,σ',H',I.pH,r,q⟩
theorem PSs.nox{st:List Stmt}{t:TS}(h:PSs X.nox st t):PSs X st t:=λpins s σ H D I hw=>
 Zbx (h pins s σ H D (I.wish _) hw) (λ_ _ q=>q.pH) λ_ _ z=>False.elim z
end
section
variable{X:Cx}{st:Stmt}{rest:List Stmt}{t u:TS}{e:Expr}{te:TE}{pos:Pos}
def U4:TS:=λD σ H=>D.nx σ H
def VG(t u:TS):TS:=λD σ H=>t { D with nx:=u D } σ H
theorem bY:PSs X [] U4:=λ_ _ σ H _ I h=>wpAny_execs_nil ⟨σ,H,I,h⟩
theorem aB(h1:PS X st t)(h2:PSs X rest u):PSs X (st::rest) (VG t u):=by
 intro pins s σ H D I h;refine wpAny_execs_cons (thn (h1 pins s σ H { D with nx:=u D } I h) λf s1 q=>?_);cases f with
 |next=>
  obtain⟨σ',H',I',q⟩:=q;exact h2 pins s1 σ' H' D I' q
 |ret v=>exact q
 |brk=>exact q
 |cont=>exact q
theorem aP(h1:PS X st t):PSs X [st] t:=by
 intro pins s σ H D I h;refine wpAny_execs_cons (thn (h1 pins s σ H D I h) λf s1 q=>?_);cases f with
 |next=>exact wpAny_execs_nil q
 |ret v=>exact q
 |brk=>exact q
 |cont=>exact q
def U5:TS:=λD σ H=>D.ct σ H
theorem Fv:PS X (.Continue pos) U5:=λ_ _ σ H _ I h=>wpAny_Continue ⟨σ,H,I,h⟩
theorem Inv.quiet{pins:List (Addr×Obj)}{σ:St}{H:Hp}{s:Shared}(I:Inv X pins σ H s):interactive X.env=false:=by simp[interactive,I.ok.kind]
def Fw(te:TE):TS:=λD σ H=>te σ H λ_ H1=>D.nx σ H1
theorem tR(he:PE X e te)(hs:swapsWith e none pos.line X.env=pure false:=by rfl):PS X (.Expr e pos) (Fw te):=by
 intro pins s σ H D I h;exact wpAny_Expr_any (thn (he pins s σ H _ I h) λv s1 ⟨x,H1,I1,r1,q1⟩=>⟨σ,H1,I1,q1⟩) I.quiet hs
def Jj(te:TE):TS:=λD σ H=>te σ H D.rt
theorem bw(he:PE X e te):PS X (.Return (some e) pos) (Jj te):=by
 intro pins s σ H D I h;exact wpAny_Return_some (thn (he pins s σ H _ I h) λv s1 ⟨x,H1,I1,r1,q1⟩=>⟨x,σ,H1,I1,r1,q1⟩)
def Xn(c:TT)(t u:TS):TS:=λD σ H=>c σ H λb H1=>if b=true then t D σ H1 else u D σ H1
theorem dZ{c:Expr}{a b:List Stmt}{tc:TT}(hc:PT X c tc)(ha:PSs X a t)(hb:PSs X b u):PS X (.If c a b pos) (Xn tc t u):=by
 intro pins s σ H D I h;refine wpAny_If (thn (hc pins s σ H _ I h) ?_);rintro d s1 ⟨H1,I1,q1⟩;cases d with
 |true=>exact ha pins s1 σ H1 D I1 q1
 |false=>exact hb pins s1 σ H1 D I1 q1
def Oi:TS:=λ_ _ _=>False
theorem Oj:PS X st Oi:=λ_ _ _ _ _ _ h=>h.elim
end
noncomputable abbrev TG:=V->St->Hp->(St->Hp->Prop)->Prop
noncomputable abbrev TGs:=List V->St->Hp->(St->Hp->Prop)->Prop
def PG(X:Cx)(target:Expr)(t:TG):Prop:=
 ∀ (pins:List (Addr×Obj)) (s:Shared) (σ:St) (H:Hp) (v:V) (u:Value) (Q:St->Hp->Prop),Inv X pins σ H s->RelV v u->t v σ H Q ->
  wpAny (model X.prog X.w) X.A (assign target X.env u) (λ_ s'=>∃ σ' H',Inv X pins σ' H' s'/\Q σ' H') X.xe s
def PGs(X:Cx)(ts:List Expr)(t:TGs):Prop:=
 ∀ (pins:List (Addr×Obj)) (s:Shared) (σ:St) (H:Hp) (vs:List V) (us:List Value) (Q:St->Hp->Prop),Inv X pins σ H s->Vals vs us->t vs σ H Q ->
  wpAny (model X.prog X.w) X.A (assignInOrder ((assignEach ts X.env).map (·.2)) us) (λ_ s'=>∃ σ' H',Inv X pins σ' H' s'/\Q σ' H') X.xe s
section
variable{X:Cx}{pos:Pos}
def xO(i:Nat):TG:=λv σ H Q=>Q (σ.set i (some v)) H
theorem bN{i:Nat}{x:Str}(hN:X.N.Nodup)(hi:X.N[i]?=some x)(hx:Loc X.env.scope x)(hf:X.fn x=true\/X.env.scope.names.lookup x=some .local:=by first|exact .inl rfl|exact .inr rfl|assumption):PG X (.Name x pos) (xO i):=by
 intro pins s σ H v u Q I r h;exact wpAny_assign_Name (Fq I hN hi hx r (λs' I'=>⟨_,H,I',h⟩) hf)
def Xo:TGs:=λvs σ H Q=>vs=[]/\Q σ H
def U6(t:TG)(u:TGs):TGs:=λvs σ H Q=>∃ v r,vs=v::r/\t v σ H λσ' H'=>u r σ' H' Q
theorem jM:PGs X [] Xo:=by
 intro pins s σ H vs us Q I r h;obtain⟨e,h⟩:=h;subst e;cases r;exact assignInOrder_nil ⟨σ,H,I,h⟩
theorem cB{e:Expr}{es:List Expr}{t:TG}{u:TGs}(h1:PG X e t)(h2:PGs X es u)
  (hs:(assignEach (e::es) X.env).map (·.2)=assign e X.env::(assignEach es X.env).map (·.2):=by rfl):PGs X (e::es) (U6 t u):=by
 intro pins s σ H vs us Q I r h;obtain⟨v,vr,e1,h⟩:=h;subst e1;cases r with
 |cons r rr=>
  rw[hs];refine assignInOrder_cons (thn (h1 pins s σ H _ _ _ I r h) ?_);rintro _ s1 ⟨σ1,H1,I1,q1⟩;exact h2 pins s1 σ1 H1 _ _ Q I1 rr q1
def VH(K:Frag)(n:Nat)(t:TGs):TG:=λv σ H Q=>∃ a xs,v=.ref a/\SqT K H a xs/\xs.length=n/\t xs σ H Q
theorem xP{es:List Expr}{k:Nat}{t:TGs}{n:Nat}(hc:X.calm=true)(h:PGs X es t)
  (hn:(assignEach es X.env).length=n:=by rfl)(hst:(assignEach es X.env).findIdx? (·.1)=none:=by rfl):PG X (.Tuple es k pos) (VH X.K n t):=by
 intro pins s σ H v u Q I r hw;obtain⟨a,xs,e1,hq,hl,hw⟩:=hw;subst e1;cases r;obtain⟨its,rv,ht,hz⟩:=I.tuple hq;refine assign_Tuple_tuple (I.ok.hd hc) ht (by simp[hn,<-hl,rv.length]) hst λh' hx=>?_
 have I1:Inv X pins σ H { s with heap:=h' }:=I.kept (t':=s.toks) λb o e=>hx b o (ZaG (Zao e)) e;exact h pins _ σ H xs _ Q I1 (by simpa using rv) hw
def Mt(te:TE)(g:TG):TS:=λD σ H=>te σ H λx H1=>g x σ H1 D.nx
theorem Cv{tg e:Expr}{te:TE}{g:TG}(he:PE X e te)(hg:PG X tg g)(hs:swapsWithSole [tg] e pos.line X.env=pure false:=by rfl)(hw:swappedStores [tg] e X.env=pure none:=by rfl)
  (h1:(assignEach [tg] X.env).map (·.2)=[assign tg X.env]:=by rfl):PS X (.Assign [tg] e pos) (Mt te g):=by
 intro pins s σ H D I h;refine wpAny_Assign_stores (thn (he pins s σ H _ I h) ?_) hs hw;rintro v s1 ⟨x,H1,I1,r1,q1⟩;rw[h1];exact thn (hg pins s1 σ H1 x v _ I1 r1 q1) λ_ s2 q=>q
theorem aX{i:Nat}{x:Str}{e:Expr}{te:TE}{pos':Pos}(hN:X.N.Nodup)(hi:X.N[i]?=some x)(hx:Loc X.env.scope x)(he:PE X e te)(hs:swapsWith e (some (.Name x pos')) pos.line X.env=pure false:=by rfl)(hf:X.fn x=true\/X.env.scope.names.lookup x=some .local:=by first|exact .inl rfl|exact .inr rfl|assumption) :
  PS X (.Assign [.Name x pos'] e pos) (Mt te (xO i)):=by
 intro pins s σ H D I h;refine wpAny_Assign_Name (thn (he pins s σ H _ I h) ?_) hs;rintro v s1 ⟨y,H1,I1,r1,q1⟩;exact Fq I1 hN hi hx r1 (λs2 I2=>⟨_,H1,I2,q1⟩) hf
end
section
variable{X:Cx}{pos:Pos}
def Jk(c:TT)(tb:TS):TS:=λD σ H=>∃ W:Nat->St->Hp->Prop,(∃ m,W m σ H)/\∀ m σ H,W m σ H ->
 c σ H λb H1=>if b=true then ∃ N:St->Hp->Prop,(∀ σ' H',N σ' H'->∃ m',m'<m/\W m' σ' H')/\tb { D with nx:=N,ct:=N,bk:=D.nx } σ H1 else D.nx σ H1
theorem m6{c:Expr}{body:List Stmt}{tc:TT}{tb:TS}(hp:PassesOwn (model X.prog X.w) X.A X.env X.xe)(hc:PT X c tc)(hb:PSs X body tb):PS X (.While c body [] pos) (Jk tc tb):=by
 intro pins s σ H D I h;obtain⟨W,⟨m0,w0⟩,turn⟩:=h;refine wpAny_While (codeAny_whileLoop (λn s'=>∃ σ' H',Inv X pins σ' H' s'/\W n σ' H') ?_ m0 ⟨σ,H,I,w0⟩);rintro n s1 ⟨σ1,H1,I1,w1⟩;refine wpAny_passesOwn hp (thn (hc pins s1 σ1 H1 _ I1 (turn n σ1 H1 w1)) ?_);rintro b s2 ⟨H2,I2,q2⟩;cases b with
 |true=>
  obtain⟨N,hN,q2⟩:=q2;rw[Zaf rfl];refine wpAny_passesOwn hp (thn (hb pins s2 σ1 H2 _ I2 q2) λf s3 q3=>?_);cases f with
  |next=>
   obtain⟨σ3,H3,I3,n3⟩:=q3;obtain⟨m',hm,w3⟩:=hN σ3 H3 n3;exact⟨m',hm,σ3,H3,I3,w3⟩
  |cont=>
   obtain⟨σ3,H3,I3,n3⟩:=q3;obtain⟨m',hm,w3⟩:=hN σ3 H3 n3;exact⟨m',hm,σ3,H3,I3,w3⟩
  |brk=>exact q3
  |ret v=>exact q3
 |false=>
  rw[Zad Zbt];exact wpAny_execs_nil ⟨σ1,H2,I2,q2⟩
end
structure It where
 go:Nat->Hp->Prop
 yld:Nat->Hp->V->Hp->Prop
 stop:Nat->Hp->Prop
def xQ(X:Cx)(pins:List (Addr×Obj))(H:Hp)(b:Addr):Prop:=
 H b=none/\b≠X.env.locals/\b ∉ X.fs/\(b∈X.ex\/X.s₀.heap.objs.size<=b)/\(∀ x c,X.env.cells.lookup x=some c->c≠b)/\∀ p∈X.pn++pins,p.1≠b
theorem Inv.Fx{X:Cx}{pins:List (Addr×Obj)}{σ:St}{H H':Hp}{s:Shared}{b:Addr}(I:Inv X pins σ H s)(hb:s.heap.objs.size<=b)(hn:H' b=none):xQ X pins H' b:=by
 refine⟨hn,Nat.ne_of_gt (Zav I.lt hb),I.YD hb,.inr (ZaE I.sz hb),λx c e z=>?_,λp hp z=>?_⟩
 ·obtain⟨v,q⟩:=I.cell x c e;exact absurd (Zav q.lt (by rw[z];exact hb)) (ZbO _)
 ·exact absurd (Zav (Zao (I.pin p hp).1) (by rw[z];exact hb)) (ZbO _)
structure Turn(P:Program)(w:World)(K:Frag)(tg:Expr)(J:It)(fp:List Addr)(it:Addr)(tn:Nat->Heap->Prop):Prop where
 mem:it∈fp
 obj:∀ i h,tn i h->∀ b∈fp,∃ o,h.get? b=some o/\∀ v,o.data≠.cell v
 keep:∀ i h h',tn i h->(∀ b∈fp,∀ o,h.get? b=some o->h'.get? b=some o)->tn i h'
 item:∀ (X:Cx),X.prog=P->X.w=w->X.K=K->X.calm=true->∀ (i:Nat) (pins:List (Addr×Obj)) (s:Shared) (σ:St) (H:Hp) (E:Value->Shared->Prop),Inv X pins σ H s->(∀ b∈fp,xQ X pins H b)->tn i s.heap->J.go i H ->
  wpAny (model P w) X.A (pyNext (.ref it)) (λr s1=>∃ u,r=some u /\
   wpAny (model P w) X.A (letOwnedTupleGo tg (.ref it) u) (λ_ s2=>∃ x H',Inv X pins σ H' s2/\RelV x u/\J.yld i H x H'/\tn (i+1) s2.heap/\∀ b∈fp,H' b=none) E s1) E s
 done:∀ (X:Cx),X.prog=P->X.w=w->X.K=K->X.calm=true->∀ (i:Nat) (pins:List (Addr×Obj)) (s:Shared) (σ:St) (H:Hp) (E:Value->Shared->Prop),Inv X pins σ H s->(∀ b∈fp,xQ X pins H b)->tn i s.heap->J.stop i H ->
  wpAny (model P w) X.A (pyNext (.ref it)) (λr s1=>r=none/\Inv X pins σ H s1) E s
 self:∀ (A:Around) (i:Nat) (s:Shared) (Q:Value->Shared->Prop) (E:Value->Shared->Prop),tn i s.heap->Q (.ref it) s->wpAny (model P w) A (pyIter (.ref it)) Q E s
noncomputable abbrev TI:=St->Hp->(It->Hp->Prop)->Prop
def PIE(X:Cx)(pins:List (Addr×Obj))(σ:St)(tg:Expr)(R:It->Hp->Prop)(itv:Value)(s2:Shared):Prop:=
 ∃ (it:Addr) (fp:List Addr) (tn:Nat->Heap->Prop) (J:It) (H':Hp),itv=.ref it/\Inv X pins σ H' s2/\Turn X.prog X.w X.K tg J fp it tn/\tn 0 s2.heap/\(∀ b∈fp,xQ X pins H' b)/\R J H'
def PI(X:Cx)(tg iter:Expr)(wi:TI):Prop:=
 ∀ (pins:List (Addr×Obj)) (s:Shared) (σ:St) (H:Hp) (R:It->Hp->Prop),Inv X pins σ H s->wi σ H R ->
  wpAny (model X.prog X.w) X.A (eval iter X.env) (λv s1=>wpAny (model X.prog X.w) X.A (pyIter v) (PIE X pins σ tg R) X.xe s1) X.xe s
theorem Fy{M:Model}{A:Around}{E:Value->Shared->Prop}{s:Shared}{tg:Expr}{it:Addr}{u:Value}{o:Obj}{n:String}{vs:Array Value}{Q:Unit->Shared->Prop}(ho:s.heap.get? it=some o)(hc:o.cls=.type n)(hd:o.data=.fields vs)
  (hn:["enumerate","zip","dict_itemiterator","dict_reverseitemiterator","odict_iterator","itertools.zip_longest","itertools.pairwise"].contains n=false)(hQ:Q () s):wpAny M A (letOwnedTupleGo tg (.ref it) u) Q E s:=by
 unfold letOwnedTupleGo;cases tg<;>first
  |exact Zae hQ
  |(cases u<;>first
    |exact Zae hQ
    |(refine Zaa (wpAny_load ho ?_)
      rw[hc,hd];show wpAny M A (if(["enumerate","zip","dict_itemiterator","dict_reverseitemiterator","odict_iterator","itertools.zip_longest","itertools.pairwise"].contains n&&vs[0]?==some (rawInt _))=true then _ else _) Q E s
      rw[Zad (by intro h;rw[hn,Bool.false_and] at h;cases h)]
      exact Zae hQ))
def Itl(K:Frag)(a:Addr):It:=
 ⟨λi H=>∃ xs x,SqL K H a xs/\xs[i]?=some x,λi H x H'=>H'=H/\∀ xs,SqL K H a xs->xs[i]?=some x,λi H=>∃ xs,SqL K H a xs/\xs.length<=i⟩
def Itt(K:Frag)(a:Addr):It:=
 ⟨λi H=>∃ xs x,SqT K H a xs/\xs[i]?=some x,λi H x H'=>H'=H/\∀ xs,SqT K H a xs->xs[i]?=some x,λi H=>∃ xs,SqT K H a xs/\xs.length<=i⟩
def Itr(lo:Int)(n:Nat):It:=⟨λi _=>i<n,λi H x H'=>H'=H/\x=.int (lo+i),λi _=>n<=i⟩
theorem Mu{P:Program}{w:World}{K:Frag}{tg:Expr}(a it:Addr):Turn P w K tg (Itl K a) [it] it (λi h=>h.IsListIter it a i) where
 mem:=by simp
 obj:=λi h st b hb=>by
  have e:b=it:=by simpa using hb
  subst e;obtain⟨o,e,c,d⟩:=st;exact⟨o,e,λv z=>by rw[d] at z;cases z⟩
 keep:=λi h h' st k=>st.at λo e=>k it (by simp) o e
 item:=by
  intro X hP hw hK hc i pins s σ H E I hf st hg;subst hP hw hK;obtain⟨xs,x,hq,hx⟩:=hg;obtain⟨its,rv,p,hz⟩:=I.list hq;obtain⟨u,hu,ru⟩:=rv.get hx;obtain⟨f0,f1,f2,f3,f4,f5⟩:=hf it (by simp)
  refine wpAny_pyNext_list_item st p.isList (x:=u) (by simpa using hu) λh' st' sb=>?_
  have I1:Inv X pins σ H { s with heap:=h' }:=I.turned (t':=s.toks) (λb o hb e=>(sb.2 b hb).trans e) f0 f1 f3 f4 f5;obtain⟨o,e,c,d⟩:=id st';exact⟨u,rfl,Fy (s:={ s with heap:=h' }) e c d (by decide) ⟨x,H,I1,ru,⟨rfl,λys hy=>by rw[I.pG hy hq];exact hx⟩,st',λb hb=>(hf b hb).1⟩⟩
 done:=by
  intro X hP hw hK hc i pins s σ H E I hf st hg;subst hP hw hK;obtain⟨xs,hq,hx⟩:=hg;obtain⟨its,rv,p,hz⟩:=I.list hq;obtain⟨f0,f1,f2,f3,f4,f5⟩:=hf it (by simp)
  have hl:=rv.length;exact wpAny_pyNext_list_end (I.ok.hd hc) st p.isList (by simp;lia) λh' eb=>⟨rfl,I.turned (t':=s.toks) (λb o hb e=>eb b o hb e) f0 f1 f3 f4 f5⟩
 self:=λ_ _ _ _ _ st h=>wpAny_pyIter_listiter st h
theorem Jl{P:Program}{w:World}{K:Frag}{tg:Expr}(a it:Addr):Turn P w K tg (Itt K a) [it] it (λi h=>h.IsTupleIter it a i) where
 mem:=by simp
 obj:=λi h st b hb=>by
  have e:b=it:=by simpa using hb
  subst e;obtain⟨o,e,c,d⟩:=st;exact⟨o,e,λv z=>by rw[d] at z;cases z⟩
 keep:=λi h h' st k=>st.at λo e=>k it (by simp) o e
 item:=by
  intro X hP hw hK hc i pins s σ H E I hf st hg;subst hP hw hK;obtain⟨xs,x,hq,hx⟩:=hg;obtain⟨its,rv,p,hz⟩:=I.tuple hq;obtain⟨u,hu,ru⟩:=rv.get hx;obtain⟨f0,f1,f2,f3,f4,f5⟩:=hf it (by simp)
  refine wpAny_pyNext_tuple_item st (show s.heap.IsTuple a its.toArray from p) (x:=u) (by simpa using hu) λh' st' sb=>?_
  have I1:Inv X pins σ H { s with heap:=h' }:=I.turned (t':=s.toks) (λb o hb e=>(sb.2 b hb).trans e) f0 f1 f3 f4 f5;obtain⟨o,e,c,d⟩:=id st';exact⟨u,rfl,Fy (s:={ s with heap:=h' }) e c d (by decide) ⟨x,H,I1,ru,⟨rfl,λys hy=>by rw[I.Am hy hq];exact hx⟩,st',λb hb=>(hf b hb).1⟩⟩
 done:=by
  intro X hP hw hK hc i pins s σ H E I hf st hg;subst hP hw hK;obtain⟨xs,hq,hx⟩:=hg;obtain⟨its,rv,p,hz⟩:=I.tuple hq;obtain⟨f0,f1,f2,f3,f4,f5⟩:=hf it (by simp)
  have hl:=rv.length;exact wpAny_pyNext_tuple_end (I.ok.hd hc) st (show s.heap.IsTuple a its.toArray from p) (by simp;omega) λh' eb=>⟨rfl,I.turned (t':=s.toks) (λb o hb e=>eb b o hb e) f0 f1 f3 f4 f5⟩
 self:=λ_ _ _ _ _ st h=>wpAny_pyIter_tupleiter st h
theorem Jm{P:Program}{w:World}{K:Frag}{tg:Expr}(it:Addr)(lo:Int)(n:Nat):Turn P w K tg (Itr lo n) [it] it (λi h=>IsRangeIter h it (lo+(i:Nat)*1) ((n:Int)-(i:Nat)) 1) where
 mem:=by simp
 obj:=λi h st b hb=>by
  have e:b=it:=by simpa using hb
  subst e;exact⟨_,st,λv z=>by
   have z':Data.fields _=Data.cell v:=z;cases z'⟩
 keep:=λi h h' st k=>k it (by simp) _ st
 item:=by
  intro X hP hw hK hc i pins s σ H E I hf st hg;subst hP hw hK;obtain⟨f0,f1,f2,f3,f4,f5⟩:=hf it (by simp)
  have W:=Walks.range (prog:=X.prog) (w:=X.w) (I.ok.hd hc) it lo 1 n;refine W.item i s _ _ hg st λv h' tk hv st' kk=>?_;obtain⟨t,rfl⟩:=hv;have I1:Inv X pins σ H { s with heap:=h',toks:=tk }:=I.turned (λb o hb e=>kk b o (by simpa using hb) e) f0 f1 f3 f4 f5
  refine⟨_,rfl,Fy (s:={ s with heap:=h',toks:=tk }) (n:="range_iterator") st' rfl rfl (by decide) ⟨.int (lo+i),H,I1,⟨t,?_⟩,⟨rfl,rfl⟩,st',λb hb=>(hf b hb).1⟩⟩
  rw[Int.mul_one]
 done:=by
  intro X hP hw hK hc i pins s σ H E I hf st hg;subst hP hw hK;obtain⟨f0,f1,f2,f3,f4,f5⟩:=hf it (by simp)
  exact wpAny_pyNext_range_end (I.ok.hd hc) st (by have:n<=i:=hg;omega) λh' eb=>⟨rfl,I.turned (t':=s.toks) (λb o hb e=>eb b o hb e) f0 f1 f3 f4 f5⟩
 self:=λ_ _ _ _ _ st h=>wpAny_pyIter_rangeiter st h
section
variable{X:Cx}{tg:Expr}
theorem Fz{pins:List (Addr×Obj)}{σ:St}{H:Hp}{s:Shared}{R:It->Hp->Prop}{E:Value->Shared->Prop}{lo hi:Int}{t u v:Tok}{tk:Nat}(I:Inv X pins σ H s)(h1:-(2^62)<=lo)(h2:lo<2^62)(h3:-(2^62)<=hi)(h4:hi<2^62)
  (q:R (Itr lo (hi-lo).toNat) H):wpAny (model X.prog X.w) X.A (pyIter (.ref s.heap.objs.size)) (PIE X pins σ tg R) E { s with heap:=s.heap.push { cls:=.type "range",data:=.fields #[.int lo t,.int hi u,.int 1 v] },toks:=tk }:=by
 refine wpAny_pyIter_range (IsRange.new ..) (small_one h1 h2 h3 h4) ?_;have I1:Inv X pins σ H { s with heap:=s.heap.push { cls:=.type "range",data:=.fields #[.int lo t,.int hi u,.int 1 v] },toks:=tk }:=I.kept λb o e=>Zah _ e;refine⟨(s.heap.push { cls:=.type "range",data:=.fields #[.int lo t,.int hi u,.int 1 v] }).objs.size,[(s.heap.push { cls:=.type "range",data:=.fields #[.int lo t,.int hi u,.int 1 v] }).objs.size],_,_,H,rfl,
  I1.kept (t':=tk) λb o e=>Zah _ e,Jm _ lo (hi-lo).toNat,?_,λb hb=>?_,q⟩
 ·have e1:lo+((0:Nat):Int)*1=lo:=by simp
  have e2:(((hi-lo).toNat:Nat):Int)-((0:Nat):Int)=Builtin.Range.rangeSize lo hi 1:=by rw[rangeSize_one];split<;>omega
  show IsRangeIter _ _ (lo+((0:Nat):Int)*1) ((((hi-lo).toNat:Nat):Int)-((0:Nat):Int)) 1
  rw[e1,e2];exact Zaq _ rfl
 ·have e:b=(s.heap.push { cls:=.type "range",data:=.fields #[.int lo t,.int hi u,.int 1 v] }).objs.size:=by simpa using hb
  subst e;exact I1.Fx (Zak _) (I1.hok.fresh (Zak _))
def U7(ta:TA):TI:=λσ H R=>ta σ H λvs H1=>∃ j:Int,vs=[.int j]/\-(2^62)<=j/\j<2^62/\R (Itr 0 j.toNat) H1
def U8(ta:TA):TI:=λσ H R=>ta σ H λvs H1=>∃ i j:Int,vs=[.int i,.int j]/\(-(2^62)<=i/\i<2^62/\-(2^62)<=j/\j<2^62)/\R (Itr i (j-i).toNat) H1
theorem qJ{a:Expr}{ta:TA}{p pos:Pos}(hg:Gl X "range")(hm:X.mg "range"=none)(ha:PA X [a] ta)(hs:starEach [a] X.env=[(false,eval a X.env)]:=by rfl):PI X tg (.Call (.Name "range" p) [a] [] pos) (U7 ta):=by
 intro pins s σ H R I h;refine Call_ (rP I hg hm boot_range (Zbu (thn (ha pos pins s σ H _ I h) ?_) hs rfl));rintro us s1 ⟨vs,H1,I1,r1,q1⟩;obtain⟨j,e,q1,q2,q⟩:=q1;subst e;cases r1 with
 |cons r rr=>
  cases rr;obtain⟨t,rfl⟩:=r;exact call_range_1 (Fz I1 (by omega) (by omega) q1 q2 (by simpa using q))
theorem m7{a b:Expr}{ta:TA}{p pos:Pos}(hg:Gl X "range")(hm:X.mg "range"=none)(ha:PA X [a,b] ta)(hs:starEach [a,b] X.env=[(false,eval a X.env),(false,eval b X.env)]:=by rfl)(hs2:starEach [b] X.env=[(false,eval b X.env)]:=by rfl) :
  PI X tg (.Call (.Name "range" p) [a,b] [] pos) (U8 ta):=by
 intro pins s σ H R I h;refine Call_ (rP I hg hm boot_range (Zbu (thn (ha pos pins s σ H _ I h) ?_) (by rw[hs,hs2]) (by rw[hs2];rfl)))
 rintro us s1 ⟨vs,H1,I1,r1,q1⟩;obtain⟨i,j,e,⟨q1,q2,q3,q4⟩,q⟩:=q1;subst e;cases r1 with
 |cons r rr=>
  cases rr with
  |cons r' rr=>
   cases rr;obtain⟨t,rfl⟩:=r;obtain⟨t',rfl⟩:=r';exact call_range_2 (Fz I1 q1 q2 q3 q4 q)
def VJ(wi:TI)(g:TG)(tb:TS):TS:=λD σ H=>wi σ H λJ H1=>∃ W:Nat->Nat->St->Hp->Prop,(∃ m,W 0 m σ H1)/\∀ i m σ H,W i m σ H ->
 (J.stop i H/\D.nx σ H)\/(J.go i H/\∃ N:St->Hp->Prop,(∀ σ' H',N σ' H'->∃ m',m'<m/\W (i+1) m' σ' H')/\∀ x H',J.yld i H x H'->g x σ H' λσ2 H2=>tb { D with nx:=N,ct:=N,bk:=D.nx } σ2 H2)
def xR(fp:List Addr)(h:Heap):List (Addr×Obj):=fp.filterMap λb=>(h.get? b).map λo=>(b,o)
theorem nQ{fp:List Addr}{h:Heap}{b:Addr}{o:Obj}(hb:b∈fp)(e:h.get? b=some o):(b,o)∈xR fp h:=List.mem_filterMap.mpr ⟨b,hb,by rw[e];rfl⟩
theorem Mv{fp:List Addr}{h:Heap}{p:Addr×Obj}(hp:p∈xR fp h):p.1∈fp/\h.get? p.1=some p.2:=by
 obtain⟨b,hb,e⟩:=List.mem_filterMap.mp hp;cases q:h.get? b with
 |none=>rw[q] at e;cases e
 |some o=>
  rw[q] at e;have e':(b,o)=p:=Zac e;subst e';exact⟨hb,q⟩
theorem Inv.pinned{pins:List (Addr×Obj)}{σ:St}{H:Hp}{s:Shared}{fp:List Addr}(I:Inv X pins σ H s)(hf:∀ b∈fp,xQ X pins H b)(ho:∀ b∈fp,∃ o,s.heap.get? b=some o/\∀ v,o.data≠.cell v):Inv X (pins++xR fp s.heap) σ H s:=
 I.Kq λp hp=>(Zaj.mp hp).elim (λz=>I.pin p (ZaM _ z)) λz=>by
  obtain⟨hb,e⟩:=Mv z;obtain⟨f0,f1,f2,_⟩:=hf p.1 hb;obtain⟨o,e',d⟩:=ho p.1 hb;rw[e] at e';cases e';exact⟨e,f0,f1,f2,d⟩
theorem Inv.tU{pins pl:List (Addr×Obj)}{σ:St}{H:Hp}{s:Shared}(I:Inv X (pins++pl) σ H s):Inv X pins σ H s:=I.Kq λp hp=>I.pin p (ZaM _ (ZbL _ hp))
theorem gr{iter:Expr}{body:List Stmt}{wi:TI}{g:TG}{tb:TS}{pos:Pos}(hp:PassesOwn (model X.prog X.w) X.A X.env X.xe)(hc:X.calm=true)(hi:PI X tg iter wi)(hg:PG X tg g)(hb:PSs X body tb)
  (hs:∀ x,foldedSetIterable iter X.env x=pure x:=by intro _;rfl):PS X (.For tg iter body [] pos) (VJ wi g tb):=by
 intro pins s σ H D I h;refine wpAny_For (thn (hi pins s σ H _ I h) λv s1 h1=>thn h1 λitv s2 h2=>?_) hs;obtain⟨it,fp,tn,J,H2,e,I2,T,st2,f2,W,⟨m0,w0⟩,turn⟩:=h2;subst e;have stat:∀ {H':Hp},(∀ b∈fp,H' b=none)->∀ b∈fp,xQ X pins H' b:=λhn b hb=>⟨hn b hb,(f2 b hb).2⟩;refine codeAny_forLoop_any (λn s'=>∃ i σ' H',Inv X pins σ' H' s'/\tn i s'.heap/\(∀ b∈fp,H' b=none)/\W i n σ' H') ?_ m0 ⟨0,σ,H2,I2,st2,λb hb=>(f2 b hb).1,w0⟩;rintro n s3 ⟨i,σ3,H3,I3,st3,fr3,w3⟩;rcases turn i n σ3 H3 w3 with⟨stop,qn⟩|⟨go,N,hN,step⟩
 ·refine wpAny_passesOwn hp (thn (T.done X rfl rfl rfl hc i pins s3 σ3 H3 X.xe I3 (stat fr3) st3 stop) ?_);rintro r s4 ⟨hr,I4⟩;subst hr;exact wpAny_execs_nil ⟨σ3,H3,I4,qn⟩
 ·refine wpAny_passesOwn hp (thn (T.item X rfl rfl rfl hc i pins s3 σ3 H3 X.xe I3 (stat fr3) st3 go) ?_);rintro r s4 ⟨u,hr,h4⟩;subst hr;refine wpAny_passesOwn hp (thn h4 ?_);rintro _ s5 ⟨x,H5,I5,r5,y5,st5,fr5⟩;have I5':=I5.pinned (stat fr5) (T.obj _ _ st5);refine wpAny_passesOwn hp (thn (hg _ s5 σ3 H5 x u _ I5' r5 (step x H5 y5)) ?_);rintro _ s6 ⟨σ6,H6,I6,q6⟩;refine wpAny_passesOwn hp (thn (hb _ s6 σ6 H6 _ I6 q6) λf s7 q7=>?_);have again:∀ {σ7:St}{H7:Hp},Inv X (pins++xR fp s5.heap) σ7 H7 s7->N σ7 H7->∃ m,m<n/\∃ i σ' H',Inv X pins σ' H' s7/\tn i s7.heap/\(∀ b∈fp,H' b=none)/\W i m σ' H':=λ{σ7 H7} I7 n7=>by
   obtain⟨m',hm,w7⟩:=hN σ7 H7 n7;refine⟨m',hm,i+1,σ7,H7,I7.tU,T.keep _ _ _ st5 λb hb o e=>(I7.pin (b,o) (ZaM _ (ZaM _ (nQ hb e)))).1,λb hb=>?_,w7⟩;obtain⟨o,e,d⟩:=T.obj _ _ st5 b hb;exact(I7.pin (b,o) (ZaM _ (ZaM _ (nQ hb e)))).2.1
  cases f with
  |next=>obtain⟨σ7,H7,I7,n7⟩:=q7;exact again I7 n7
  |cont=>obtain⟨σ7,H7,I7,n7⟩:=q7;exact again I7 n7
  |brk=>obtain⟨σ7,H7,I7,q7⟩:=q7;exact⟨σ7,H7,I7.tU,q7⟩
  |ret v=>obtain⟨x7,σ7,H7,I7,r7,q7⟩:=q7;exact⟨x7,σ7,H7,I7.tU,r7,q7⟩
end
noncomputable abbrev R2:=V->V->Hp->VK->Prop
def OpR(X:Cx)(f:Value->Value->Sem Value)(r:R2):Prop:=
 ∀ (pins:List (Addr×Obj)) (s:Shared) (σ:St) (H:Hp) (x y:V) (v u:Value) (Q:VK),Inv X pins σ H s->RelV x v->RelV y u->r x y H Q ->
  wpAny (model X.prog X.w) X.A (f v u) (EP X pins σ Q) X.xe s
def UnR(X:Cx)(f:Value->Sem Value)(r:V->Hp->VK->Prop):Prop:=
 ∀ (pins:List (Addr×Obj)) (s:Shared) (σ:St) (H:Hp) (x:V) (v:Value) (Q:VK),Inv X pins σ H s->RelV x v->r x H Q ->
  wpAny (model X.prog X.w) X.A (f v) (EP X pins σ Q) X.xe s
def qY(X:Cx)(f:Value)(r:List V->Hp->VK->Prop):Prop:=
 ∀ (pins:List (Addr×Obj)) (s:Shared) (σ:St) (H:Hp) (xs:List V) (us:List Value) (Q:VK),Inv X pins σ H s->Vals xs us->r xs H Q ->
  wpAny (model X.prog X.w) X.A (call f us) (EP X pins σ Q) X.xe s
def tOp(r:R2)(ta tb:TE):TE:=λσ H Q=>ta σ H λx H1=>tb σ H1 λy H2=>r x y H2 Q
def tUn(r:V->Hp->VK->Prop)(ta:TE):TE:=λσ H Q=>ta σ H λx H1=>r x H1 Q
def rI(C:Int->Int->Prop)(g:Int->Int->V):R2:=λx y H Q=>∃ i j,x=.int i/\y=.int j/\C i j/\Q (g i j) H
def rI0(g:Int->Int->V):R2:=λx y H Q=>∃ i j,x=.int i/\y=.int j/\Q (g i j) H
def rU(g:Int->V):V->Hp->VK->Prop:=λx H Q=>∃ i,x=.int i/\Q (g i) H
section
variable{X:Cx}{a b:Expr}{ta tb:TE}{pos:Pos}
theorem VL(ha:PE X a ta)(hb:PE X b tb){pins:List (Addr×Obj)}{s:Shared}{σ:St}{H:Hp}{R:V->V->Hp->Prop}(I:Inv X pins σ H s)
  (h:ta σ H λx H1=>tb σ H1 λy H2=>R x y H2){Q:Value->Shared->Prop}{f:Value->Value->Sem Value}
  (hf:∀ v u s2 x y H2,Inv X pins σ H2 s2->RelV x v->RelV y u->R x y H2->wpAny (model X.prog X.w) X.A (f v u) Q X.xe s2) :
  wpAny (model X.prog X.w) X.A (eval a X.env) (λv s₁=>wpAny (model X.prog X.w) X.A (eval b X.env) (λu s₂=>wpAny (model X.prog X.w) X.A (f v u) Q X.xe s₂) X.xe s₁) X.xe s:=by
 refine thn (ha pins s σ H _ I h) ?_;rintro v s1 ⟨x,H1,I1,r1,q1⟩;refine thn (hb pins s1 σ H1 _ I1 q1) ?_;rintro u s2 ⟨y,H2,I2,r2,q2⟩;exact hf v u s2 x y H2 I2 r1 r2 q2
theorem aO{op:Operator}{r:R2}(ho:OpR X (binaryOp op) r)(ha:PE X a ta)(hb:PE X b tb):PE X (.BinOp a op b pos) (tOp r ta tb):=by
 intro pins s σ H Q I h;exact wpAny_BinOp (VL ha hb I h λv u s2 x y H2 I2 rx ry q=>ho pins s2 σ H2 x y v u Q I2 rx ry q)
theorem U9{op:UnaryOp}{r:V->Hp->VK->Prop}(ho:UnR X (unaryOp op) r)(ha:PE X a ta):PE X (.UnaryOp op a pos) (tUn r ta):=by
 intro pins s σ H Q I h;exact UnaryOp_ (thn (ha pins s σ H _ I h) λv s1 ⟨x,H1,I1,r1,q1⟩=>ho pins s1 σ H1 x v Q I1 r1 q1)
theorem opI{f:Value->Value->Sem Value}{C:Int->Int->Prop}{g:Int->Int->Int}
  (rule:∀ (i j:Int) (t u:Tok) (s:Shared) (Q:Value->Shared->Prop) (E:Value->Shared->Prop),C i j->Q (.int (g i j) s.toks) { s with toks:=s.toks+1 }->wpAny (model X.prog X.w) X.A (f (.int i t) (.int j u)) Q E s) :
  OpR X f (rI C λi j=>.int (g i j)):=by
 intro pins s σ H x y v u Q I rx ry h;obtain⟨i,j,rfl,rfl,hc,q⟩:=h;obtain⟨t,rfl⟩:=rx;obtain⟨t',rfl⟩:=ry;exact rule i j t t' s _ _ hc ⟨.int (g i j),H,I.tok _,⟨_,rfl⟩,q⟩
theorem R6{f:Value->Value->Sem Value}{g:Int->Int->Int}
  (rule:∀ (i j:Int) (t u:Tok) (s:Shared) (Q:Value->Shared->Prop) (E:Value->Shared->Prop),Q (.int (g i j) s.toks) { s with toks:=s.toks+1 }->wpAny (model X.prog X.w) X.A (f (.int i t) (.int j u)) Q E s) :
  OpR X f (rI0 λi j=>.int (g i j)):=by
 intro pins s σ H x y v u Q I rx ry h;obtain⟨i,j,rfl,rfl,q⟩:=h;obtain⟨t,rfl⟩:=rx;obtain⟨t',rfl⟩:=ry;exact rule i j t t' s _ _ ⟨.int (g i j),H,I.tok _,⟨_,rfl⟩,q⟩
theorem R7{f:Value->Value->Sem Value}{g:Int->Int->Bool}
  (rule:∀ (i j:Int) (t u:Tok) (s:Shared) (Q:Value->Shared->Prop) (E:Value->Shared->Prop),Q (.bool (g i j)) s->wpAny (model X.prog X.w) X.A (f (.int i t) (.int j u)) Q E s) :
  OpR X f (rI0 λi j=>.bl (g i j)):=by
 intro pins s σ H x y v u Q I rx ry h;obtain⟨i,j,rfl,rfl,q⟩:=h;obtain⟨t,rfl⟩:=rx;obtain⟨t',rfl⟩:=ry;exact rule i j t t' s _ _ ⟨.bl (g i j),H,I,rfl,q⟩
def VM(i j:Int):Prop:=0<j/\j<1073741824
def Ol(i j:Int):Prop:=0<=j/\j<=1000000/\i.natAbs<2^64
def FJ(i j:Int):Prop:=(-(2^64)<i/\i<2^64)\/(-(2^64)<j/\j<2^64)
theorem FJ.ok{i j:Int}(h:FJ i j):IntMulOk i j:=by
 rcases h with⟨h1,h2⟩|⟨h1,h2⟩
 ·exact .of_left (intBits_le_64 h1 h2)
 ·exact .of_right (intBits_le_64 h1 h2)
theorem Jo(k:Nat):(0:Int)<=2^k:=by
 rw[two_pow_cast];exact Zbm _
theorem VN:OpR X (binaryOp .Add) (rI0 λi j=>.int (i+j)):=R6 λ_ _ _ _ _ _ _ q=>add_int q
theorem j7:OpR X (binaryOp .Sub) (rI0 λi j=>.int (i-j)):=R6 λ_ _ _ _ _ _ _ q=>sub_int q
theorem VP:OpR X (binaryOp .Mult) (rI FJ λi j=>.int (i*j)):=opI λ_ _ _ _ _ _ _ hc q=>mul_int q hc.ok
theorem tV:OpR X (binaryOp .FloorDiv) (rI VM λi j=>.int (i/j)):=opI λi j _ _ _ _ _ hc q=>by
 have h1:(0:Int)<j:=hc.1;have h2:j<1073741824:=hc.2;exact floordiv_int (by omega) (by rw[Int.fdiv_eq_ediv_of_nonneg i (by omega)];exact q) (.inl (PyProof.noPylong_small (by omega)))
theorem fG:OpR X (binaryOp .Mod) (rI (λ_ j=>0<j) λi j=>.int (i%j)):=opI λi j _ _ _ _ _ hc q=>by
 have h1:(0:Int)<j:=hc;exact mod_int' (by omega) (by rw[Int.fmod_eq_emod_of_nonneg i (by omega)];exact q)
theorem VR:OpR X (binaryOp .Pow) (rI Ol λi j=>.int (i^j.toNat)):=opI λ_ _ _ _ _ _ _ hc q=>pow_int_small hc.1 hc.2.1 hc.2.2 q
theorem xT:OpR X (binaryOp .LShift) (rI Ol λi j=>.int (i*2^j.toNat)):=opI λ_ _ _ _ _ _ _ hc q=>lshift_int_small hc.1 hc.2.1 hc.2.2 q
theorem rQ:OpR X (binaryOp .RShift) (rI (λ_ j=>0<=j) λi j=>.int (i/2^j.toNat)):=opI λi j _ _ _ _ _ hc q=>
 rshift_int hc (by rw[Int.fdiv_eq_ediv_of_nonneg i (Jo _)];exact q)
theorem jB:OpR X (binaryOp .BitAnd) (rI0 λi j=>.int (Builtin.bitAnd i j)):=R6 λ_ _ _ _ _ _ _ q=>and_int q
theorem Va:OpR X (binaryOp .BitOr) (rI0 λi j=>.int (Builtin.bitOr i j)):=R6 λ_ _ _ _ _ _ _ q=>or_int q
theorem unI{f:Value->Sem Value}{g:Int->Int}
  (rule:∀ (i:Int) (t:Tok) (s:Shared) (Q:Value->Shared->Prop) (E:Value->Shared->Prop),Q (.int (g i) s.toks) { s with toks:=s.toks+1 }->wpAny (model X.prog X.w) X.A (f (.int i t)) Q E s) :
  UnR X f (rU λi=>.int (g i)):=by
 intro pins s σ H x v Q I rx h;obtain⟨i,rfl,q⟩:=h;obtain⟨t,rfl⟩:=rx;exact rule i t s _ _ ⟨.int (g i),H,I.tok _,⟨_,rfl⟩,q⟩
theorem Om:UnR X (unaryOp .USub) (rU λi=>.int (-i)):=unI λ_ _ _ _ _ q=>neg_int q
end
section
variable{X:Cx}{a b c:Expr}{ta tb tc:TE}{pos:Pos}
theorem Cw{pins:List (Addr×Obj)}{σ:St}{H:Hp}{s:Shared}{Q:VK}{k k':Bool}(I:Inv X pins σ H s)(q:Q (.bl k) H)(e:k=k'):EP X pins σ Q (.bool k') s:=by
 subst e;exact⟨.bl k,H,I,rfl,q⟩
theorem Xp:OpR X (compareOp .Lt) (rI0 λi j=>.bl (decide (i<j))):=R7 λ_ _ _ _ _ _ _ q=>lt_int q
theorem Xq:OpR X (compareOp .LtE) (rI0 λi j=>.bl (decide (i<=j))):=R7 λ_ _ _ _ _ _ _ q=>le_int q
theorem FN:OpR X (compareOp .Gt) (rI0 λi j=>.bl (decide (j<i))):=R7 λ_ _ _ _ _ _ _ q=>gt_int q
theorem Xr:OpR X (compareOp .GtE) (rI0 λi j=>.bl (decide (j<=i))):=R7 λ_ _ _ _ _ _ _ q=>ge_int q
theorem Mw:OpR X (compareOp .Lt) (λx y H Q=>∃ i j,x=.str i/\y=.str j/\Q (.bl (decide (i.cps.toList<j.cps.toList))) H):=by
 intro pins s σ H x y v u Q I rx ry h;obtain⟨i,j,rfl,rfl,q⟩:=h;obtain⟨t,rfl⟩:=rx;obtain⟨t',rfl⟩:=ry;exact lt_str (Cw I q rfl)
theorem R8:OpR X (compareOp .IsNot) (λx y H Q=>y=.non/\Q (.bl (!decide (x=.non))) H):=by
 intro pins s σ H x y v u Q I rx ry h;obtain⟨rfl,q⟩:=h;cases ry;refine isnot_none_gen (Cw I q ?_);cases x<;>first
  |(cases rx;rfl)
  |(obtain⟨t,rfl⟩:=rx;rfl)
theorem Cy:OpR X (compareOp .NotIn) (λx y H Q=>∃ i j,x=.str i/\y=.str j/\Q (.bl (!(!(Builtin.Str.occurrences j i 0 j.length 1).isEmpty))) H):=by
 intro pins s σ H x y v u Q I rx ry h;obtain⟨i,j,rfl,rfl,q⟩:=h;obtain⟨t,rfl⟩:=rx;obtain⟨t',rfl⟩:=ry;exact notIn_str (Cw I q rfl)
theorem OpR.or{f:Value->Value->Sem Value}{r r':R2}(h:OpR X f r)(h':OpR X f r'):OpR X f (λx y H Q=>r x y H Q\/r' x y H Q):=by
 intro pins s σ H x y v u Q I rx ry q;rcases q with q|q
 ·exact h pins s σ H x y v u Q I rx ry q
 ·exact h' pins s σ H x y v u Q I rx ry q
theorem bI(b:Expr){op:CmpOp}(h:op≠.In:=by decide)(h2:op≠.NotIn:=by decide):behindInMarks op b=false:=by
 have e1:(op==CmpOp.In)=false:=by cases op<;>first|rfl|exact absurd rfl h
 have e2:(op==CmpOp.NotIn)=false:=by cases op<;>first|rfl|exact absurd rfl h2
 cases b<;>simp[behindInMarks,e1,e2]
theorem jN{op:CmpOp}{r:R2}(ho:OpR X (compareOp op) r)(ha:PE X a ta)(hb:PE X b tb)(hm:behindInMarks op b=false):PE X (.Compare a [op] [b] pos) (tOp r ta tb):=by
 intro pins s σ H Q I h;exact wpAny_Compare1 (VL ha hb I h λv u s2 x y H2 I2 rx ry q=>ho pins s2 σ H2 x y v u Q I2 rx ry q) hm
def Oo(t:TE):TT:=λσ H Q=>t σ H λx H'=>∃ k,x=.bl k/\Q k H'
theorem bj{op:CmpOp}{r:R2}(ho:OpR X (compareOp op) r)(ha:PE X a ta)(hb:PE X b tb)(hm:behindInMarks op b=false):PT X (.Compare a [op] [b] pos) (Oo (tOp r ta tb)):=by
 intro pins s σ H Q I h;refine wpAny_isTrue_Compare1 (thn (ha pins s σ H _ I h) λv s1 ⟨x,H1,I1,r1,q1⟩=>thn (hb pins s1 σ H1 _ I1 q1) λu s2 ⟨y,H2,I2,r2,q2⟩=>
  thn (ho pins s2 σ H2 x y v u _ I2 r1 r2 q2) λc s3 ⟨z,H3,I3,r3,k,e,q3⟩=>?_) hm
 subst e;cases r3;exact wpAny_truthy_bool ⟨H3,I3,q3⟩
def Oq(r r':R2)(ta tb tc:TE):TE:=λσ H Q=>ta σ H λx H1=>tb σ H1 λy H2=>r x y H2 λz H3=>∃ k,z=.bl k /\
 (if k=true then tc σ H3 λw' H4=>r' y w' H4 Q else Q (.bl false) H3)
theorem FP{op op':CmpOp}{r r':R2}(ho:OpR X (compareOp op) r)(ho':OpR X (compareOp op') r')(ha:PE X a ta)(hb:PE X b tb)(hc:PE X c tc)
  (hm:lastMarks [op,op'] [b,c]=false:=by with_unfolding_all rfl):PT X (.Compare a [op,op'] [b,c] pos) (Oo (Oq r r' ta tb tc)):=by
 intro pins s σ H Q I h;refine isTrue_chain (thn (ha pins s σ H _ I h) λv s1 ⟨x,H1,I1,r1,q1⟩=>test_link (thn (hb pins s1 σ H1 _ I1 q1) λu s2 ⟨y,H2,I2,r2,q2⟩=>
  thn (ho pins s2 σ H2 x y v u _ I2 r1 r2 q2) λd s3 ⟨z,H3,I3,r3,k,e,q3⟩=>?_)) hm
 subst e;cases r3;refine wpAny_truthy_bool ?_;cases k with
 |false=>
  obtain⟨k',e',q'⟩:=q3;cases e';exact ite_ff ⟨H3,I3,q'⟩
 |true=>
  refine ite_tt (test_last (thn (hc pins s3 σ H3 _ I3 q3) λw' s4 ⟨z',H4,I4,r4,q4⟩=>thn (ho' pins s4 σ H4 y z' u w' _ I4 r2 r4 q4) ?_));rintro d' s5 ⟨z2,H5,I5,r5,k2,e2,q5⟩;subst e2;cases r5;exact wpAny_truthy_bool ⟨H5,I5,q5⟩
theorem Cz:(sizeLine:Nat)<2^63:=by rw[sizeLine_eq];decide
theorem Jq:OpR X (binaryOp .Add) (λx y H Q=>∃ i j,x=.str i/\y=.str j/\i.length+j.length<=sizeLine/\Q (.str (i++j)) H):=by
 intro pins s σ H x y v u Q I rx ry h;obtain⟨i,j,rfl,rfl,hz,q⟩:=h;obtain⟨t,rfl⟩:=rx;obtain⟨t',rfl⟩:=ry;exact add_str (λt' tk=>⟨.str (i++j),H,I.tok _,⟨_,rfl⟩,q⟩) hz
theorem vals1{x:V}{us:List Value}(r:Vals [x] us):∃ u,us=[u]/\RelV x u:=by
 cases r with
 |cons r1 r2=>cases r2;exact⟨_,rfl,r1⟩
theorem An:qY X (.type "int") (λxs H Q=>(∃ i,xs=[.int i]/\Q (.int i) H)\/∃ k,xs=[.bl k]/\Q (.int (if k then 1 else 0)) H):=by
 intro pins s σ H xs us Q I r h;rcases h with⟨i,rfl,q⟩|⟨k,rfl,q⟩
 ·obtain⟨u,rfl,t,rfl⟩:=vals1 r;exact call_int_int ⟨.int i,H,I,⟨_,rfl⟩,q⟩
 ·obtain⟨u,rfl,r1⟩:=vals1 r;cases r1;exact call_int_bool ⟨.int (if k then 1 else 0),H,I.tok _,⟨_,rfl⟩,q⟩
def Xu(K:Frag)(x:V)(H:Hp)(n:Nat):Prop:=
 match x with
 |.str y=>y.length<=sizeLine/\n=y.length
 |.byt y=>y.size<=sizeLine/\n=y.size
 |.ref p=>(∃ xs,SqL K H p xs/\n=xs.length)\/∃ xs,SqT K H p xs/\n=xs.length
 |_=>False
theorem fH:qY X (.builtin "len") (λxs H Q=>∃ x n,xs=[x]/\Xu X.K x H n/\Q (.int n) H):=by
 intro pins s σ H xs us Q I r h;obtain⟨x,n,rfl,e,q⟩:=h;obtain⟨u,rfl,rx⟩:=vals1 r;have hl:=Cz;have hs:sizeLine=16777216:=sizeLine_eq;cases x with
 |str y=>
  obtain⟨t,rfl⟩:=rx;obtain⟨hy,e'⟩:y.length<=sizeLine/\n=y.length:=e;subst e';exact len_str (by lia) ⟨.int _,H,I.tok _,⟨_,rfl⟩,q⟩
 |byt y=>
  obtain⟨t,rfl⟩:=rx;obtain⟨hy,e'⟩:y.size<=sizeLine/\n=y.size:=e;subst e';exact PySem.W.len_bytes (by lia) ⟨.int _,H,I.tok _,⟨_,rfl⟩,q⟩
 |ref p=>
  cases rx;have e':(∃ xs,SqL X.K H p xs/\n=xs.length)\/∃ xs,SqT X.K H p xs/\n=xs.length:=e;rcases e' with⟨xs,hx,e'⟩|⟨xs,hx,e'⟩
  ·subst e';obtain⟨its,r',pl,hz⟩:=I.list hx;have hlen:=r'.length;exact Calls.call_len_list pl.isList (by simp only[List.size_toArray];lia) ⟨.int xs.length,H,I.tok _,⟨_,by simp only[List.size_toArray];rw[hlen]⟩,q⟩
  ·subst e';obtain⟨its,r',pl,hz⟩:=I.tuple hx;have hlen:=r'.length;exact len_tuple pl (by simp only[List.size_toArray];lia) ⟨.int xs.length,H,I.tok _,⟨_,by simp only[List.size_toArray];rw[hlen]⟩,q⟩
 |_=>exact(show False from e).elim
end
theorem wJ.some_of{v:V}{o:Option Value}(r:wJ (some v) o):∃ u,o=some u/\RelV v u:=by
 cases o with
 |none=>exact(show False from r).elim
 |some u=>exact⟨u,rfl,r⟩
structure fW(k:Nat)(A:Around):Prop where
 hd:A.handled=none
 dp:A.depth+3*k+5<recursionLimit
 un:A.units+16*k+200<cLine
theorem fW.mono{j k:Nat}{A:Around}(r:fW k A)(h:j<=k):fW j A:=⟨r.hd,by have:=r.dp;lia,by have:=r.un;lia⟩
theorem fW.deeper{k:Nat}{A:Around}(r:fW (k+1) A)(env:Env):fW k (A.deeper env):=
 ⟨r.hd,by have:=r.dp;show A.depth+1+3*k+5<_;lia,by have:=r.un;show A.units+3+16*k+200<_;lia⟩
theorem fW.depth{k:Nat}{A:Around}(r:fW k A):A.depth<recursionLimit:=by have:=r.dp;omega
theorem fW.units{k:Nat}{A:Around}(r:fW k A):A.units+64<cLine:=by have:=r.un;omega
def wL:TA:=λ_ H Q=>Q [] H
def j8(ta:TE)(tr:TA):TA:=λσ H Q=>ta σ H λx H1=>tr σ H1 λxs H2=>Q (x::xs) H2
section
variable{X:Cx}{e:Expr}{es:List Expr}{te:TE}{t:TA}{pos:Pos}
theorem aL:PA X [] wL:=λ_ _ _ _ H Q I h=>Calls.spliced_nil ⟨[],H,I,.nil,h⟩
theorem ak(ha:PE X e te)(hr:PA X es t)(hs:starEach (e::es) X.env=(false,eval e X.env)::starEach es X.env:=by rfl):PA X (e::es) (j8 te t):=by
 intro pos pins s σ H Q I h;rw[hs];show wpAny _ _ (spliced ((false,eval e X.env)::backTo pos (starEach es X.env))) _ _ s
 refine Calls.spliced_cons (thn (ha pins s σ H _ I h) ?_);rintro u s1 ⟨x,H1,I1,r1,q1⟩;exact thn (hr pos pins s1 σ H1 _ I1 q1) λus s2 ⟨xs,H2,I2,r2,q2⟩=>⟨x::xs,H2,I2,.cons r1 r2,q2⟩
def R9(t:TA):TE:=λσ H Q=>t σ H λxs H1=>xs.length<=sizeLine/\∀ p,H1 p=none->Q (.ref p) (upd H1 p (.tup xs))
def V0(t:TA):TE:=λσ H Q=>t σ H λxs H1=>xs.length<=sizeLine/\∀ p,H1 p=none->Q (.ref p) (upd H1 p (.lst xs))
theorem d7{x1}(h:PA X es t):PE X (.Tuple es x1 pos) (R9 t):=by
 intro pins s σ H Q I hq;refine wpAny_Tuple_spliced (thn (h pos pins s σ H _ I hq) λus s1 ⟨xs,H1,I1,r,z,q⟩=>⟨by rw[<-r.length];exact z,?_⟩)
 have hf:H1 s1.heap.objs.size=none:=I1.hok.fresh (Zak _);refine⟨.ref s1.heap.objs.size,upd H1 s1.heap.objs.size (.tup xs),I1.laid (t':=s1.toks) (λb u e=>Zah _ e) (Zak _) ?_,rfl,q _ hf⟩;exact⟨z,us,r,gq.mk (Zaq _ rfl)⟩
theorem mR(h:PA X es t):PE X (.List es pos) (V0 t):=by
 intro pins s σ H Q I hq;refine wpAny_List_spliced (thn (h pos pins s σ H _ I hq) λus s1 ⟨xs,H1,I1,r,z,q⟩=>⟨by rw[<-r.length];exact z,?_⟩)
 have hf:H1 s1.heap.objs.size=none:=I1.hok.fresh (Zak _);refine⟨.ref s1.heap.objs.size,upd H1 s1.heap.objs.size (.lst xs),I1.laid (t':=s1.toks) (λb u e=>Zah _ e) (Zak _) ?_,rfl,q _ hf⟩;exact⟨z,us,0,r,Zaq _ rfl⟩
end
noncomputable abbrev Sp:=List V->Hp->VK->XK->Prop
noncomputable abbrev CXT:=List Env->Hp->Shared->XK->Value->Shared->Prop
structure Sd(P:Program)(w:World)(K:Frag)(mg:Str->Option Value)(base:Heap)(A:Around)(outer:List Env)(s:Shared)(H:Hp):Prop where
 frames:A.frames=some outer
 mod:Mod K mg base
 bs:∀ b o,base.get? b=some o->s.heap.get? b=some o/\H b=none
 bsz:base.objs.size<=s.heap.objs.size
 wK:s.heap.FunFrames base outer
 frf:∀ b∈frs outer,H b=none
 hok:HOk P w H s.heap
 bare:AllBare s.gens
def CE(outer:List Env)(P:Program)(w:World)(H:Hp)(s:Shared)(Q:VK)(u:Value)(s':Shared):Prop:=
 ∃ v H',s'.os=s.os/\AllBare s'.gens/\Un (frs outer) [] H H' s.heap s'.heap/\HOk P w H' s'.heap/\RelV v u/\Q v H'
def CR(CX:CXT)(outer:List Env)(P:Program)(w:World)(H:Hp)(s:Shared)(Q:VK)(E:XK)(r:Result)(s':Shared):Prop:=
 match r with
 |.ok (.ret u)=>CE outer P w H s Q u s'
 |.ok _=>False
 |.error e=>CX outer H s E e s'
structure z8(P:Program)(w:World)(K:Frag)(mg:Str->Option Value)(base:Heap)(CX:CXT)(k:Nat)(f:Addr)(fd:FuncData)(ps:List Str)(sp:Sp):Prop where
 len:∀ vs H Q E,sp vs H Q E->vs.length=ps.length
 run:∀ (A:Around) (outer:List Env) (s:Shared) (H:Hp) (args:Args) (us:List Value) (vs:List V) (Q:VK) (E:XK),fW k A->Sd P w K mg base A outer s H->BindsTo s fd args (ps.zip us)->Vals vs us->sp vs H Q E ->
  codeAny (model P w) A (.call (.ref f) args) (CR CX outer P w H s Q E) s
section
variable{X:Cx}{pins:List (Addr×Obj)}{σ:St}{H:Hp}{s s':Shared}
theorem Inv.env0(I:Inv X pins σ H s):Sd X.prog X.w X.K X.mg X.base X.A X.stack s H:=
 ⟨I.ok.frames,I.ok.mod,I.bs,ZaE I.ok.bsz I.sz,I.stack,I.Kp,I.hok,I.bare⟩
theorem Inv.after{Q:VK}{u:Value}(I:Inv X pins σ H s)(h:CE X.stack X.prog X.w H s Q u s'):EP X pins σ Q u s':=by
 obtain⟨v,H',os,bare,un,hok,r,q⟩:=h;obtain⟨hh,g,d,t,os'⟩:=s';obtain rfl:os'=s.os:=os;exact⟨v,H',I.call (h':=hh) (g':=g) (d':=d) (t':=t) (ch:=[]) un hok bare (λb z=>absurd z (by simp)),r,q⟩
end
def xU(sp:Sp)(dvs:List V)(E:XK)(t:TA):TE:=λσ H Q=>t σ H λvs H1=>sp (vs++dvs) H1 Q E
def Binds(K:Frag)(fd:FuncData)(ps:List Str)(ds:List Value):Prop:=
 ∀ (s:Shared) (us:List Value),K.In s.heap->(us++ds).length=ps.length->BindsTo s fd ⟨us,[]⟩ (ps.zip (us++ds))
theorem Binds.all{K:Frag}{fd:FuncData}{ps:List Str}(h:∀ us:List Value,us.length=ps.length->bindArgs fd ⟨us,[]⟩=pure (ps.zip us)):Binds K fd ps []:=λs us _ hl=>by
 rw[Zbc] at hl ⊢;exact .of_eq (h us hl)
def Jr(CX:CXT)(X:Cx)(E:XK):Prop:=∀ (pins:List (Addr×Obj)) (σ:St) (H:Hp) (s:Shared) (e:Value) (s':Shared),Inv X pins σ H s->CX X.stack H s E e s'->X.xe e s'
section
variable{X:Cx}{CX:CXT}{k:Nat}{f:Addr}{fd:FuncData}{ps:List Str}{sp:Sp}{dvs:List V}{ds:List Value}{E:XK}{x:Str}{p pos:Pos}{e:Expr}{es:List Expr}{t:TA}
theorem V1{pins:List (Addr×Obj)}{σ:St}{H:Hp}{s:Shared}{Q:VK}{us:List Value}{vs:List V}(F:z8 X.prog X.w X.K X.mg X.base CX k f fd ps sp)(hr:fW k X.A)(hb:Binds X.K fd ps ds)(hd:Vals dvs ds)(hx:Jr CX X E)
  (I:Inv X pins σ H s)(r:Vals vs us)(h:sp (vs++dvs) H Q E):wpAny (model X.prog X.w) X.A (call (.ref f) us) (EP X pins σ Q) X.xe s:=by
 have r2:Vals (vs++dvs) (us++ds):=r.append hd;have hl:(us++ds).length=ps.length:=by rw[<-r2.length];exact F.len _ _ _ _ h
 refine wpAny_call (codeAny_mono (F.run X.A X.stack s H ⟨us,[]⟩ (us++ds) (vs++dvs) Q E hr I.env0 (hb s us I.kIn hl) r2 h) λr s' hq=>?_);cases r with
 |error e=>exact hx pins σ H s e s' I hq
 |ok fl=>
  cases fl with
  |ret u=>exact I.after hq
  |next=>exact False.elim hq
  |brk=>exact False.elim hq
  |cont=>exact False.elim hq
theorem Sg(F:z8 X.prog X.w X.K X.mg X.base CX k f fd ps sp)(hr:fW k X.A)(hg:Gl X x)(hm:X.mg x=some (.ref f))(hk:keepIn X.K (.ref f)=true)(hb:Binds X.K fd ps ds)(hd:Vals dvs ds)(hx:Jr CX X E)
  (ha:PA X (e::es) t)(hdb:(x==("__debug__":Str))=false:=by decide)(he:starEach (e::es) X.env=(false,eval e X.env)::starEach es X.env:=by rfl)(hpl:(backTo pos (starEach es X.env)).any (·.1)=false:=by rfl) :
  PE X (.Call (.Name x p) (e::es) [] pos) (xU sp dvs E t):=by
 intro pins s σ H Q I h;refine wpAny_Call_Name_kw (Kr I hg hm ?_ hdb);refine PySem.W.callWith_K (h₀:=X.base) I.ok.mod.kin hk (thn (ha pos pins s σ H _ I h) λus s1 ⟨vs,H1,I1,r,q⟩=>⟨I1.kIn,?_⟩) he hpl;exact V1 F hr hb hd hx I1 r q
end
structure bJ(N P:List Str)(sc:Scope):Prop where
 kind:sc.kind=.function
 co:sc.isCoroutine=false
 gen:sc.isGenerator=false
 nd:N.Nodup
 pre:N.take P.length=P
 par:∀ x∈P,sc.names.lookup x=some .local\/sc.names.lookup x=some .cell
 nofree:∀ y∈sc.names,y.2≠.free
theorem Ao{kindOf:Str->Option NameKind}{x:Str}:∀ {binds:List (Str×Value)}{m:Str->Option Value},(∀ v,(x,v) ∉ binds)->bindL kindOf binds m x=m x
 |[],_,_=>rfl
 |(n,v)::r,m,h=>by
  unfold bindL;rw[Ao λw hw=>h w (List.mem_cons_of_mem _ hw)];split
  ·have:x≠n:=by rintro rfl;exact h v List.mem_cons_self
   simp[this]
  ·rfl
theorem Aq{kindOf:Str->Option NameKind}{x:Str}:∀ {binds:List (Str×Value)}{m:Str->Option Value},(∀ v,(x,v) ∉ binds)->bindC kindOf binds m x=m x
 |[],_,_=>rfl
 |(n,v)::r,m,h=>by
  unfold bindC;rw[Aq λw hw=>h w (List.mem_cons_of_mem _ hw)];split
  ·rfl
  ·have:x≠n:=by rintro rfl;exact h v List.mem_cons_self
   simp[this]
theorem Ar{kindOf:Str->Option NameKind}{x:Str}{v:Value}:∀ {P:List Str}{vs:List Value}{i:Nat}{m:Str->Option Value},P.Nodup->P[i]?=some x->vs[i]?=some v->kindOf x=some .local ->
  bindL kindOf (P.zip vs) m x=some v
 |[],_,_,_,_,h,_,_=>by simp at h
 |_::_,[],_,_,_,_,h,_=>by simp at h
 |p::P,w::vs,0,m,nd,h1,h2,hk=>by
  simp at h1 h2;subst h1;subst h2;show bindL kindOf ((p,w)::P.zip vs) m p=_
  unfold bindL;rw[Ao λv hv=>(Zbv.mp nd).1 (List.of_mem_zip hv).1,Zaf hk];simp
 |p::P,w::vs,i+1,m,nd,h1,h2,hk=>by
  show bindL kindOf ((p,w)::P.zip vs) m x=_
  unfold bindL;exact Ar (i:=i) (Zbv.mp nd).2 (by simpa using h1) (by simpa using h2) hk
theorem Av{kindOf:Str->Option NameKind}{x:Str}{v:Value}:∀ {P:List Str}{vs:List Value}{i:Nat}{m:Str->Option Value},P.Nodup->P[i]?=some x->vs[i]?=some v->kindOf x≠some .local ->
  bindC kindOf (P.zip vs) m x=some v
 |[],_,_,_,_,h,_,_=>by simp at h
 |_::_,[],_,_,_,_,h,_=>by simp at h
 |p::P,w::vs,0,m,nd,h1,h2,hk=>by
  simp at h1 h2;subst h1;subst h2;show bindC kindOf ((p,w)::P.zip vs) m p=_
  unfold bindC;rw[Aq λv hv=>(Zbv.mp nd).1 (List.of_mem_zip hv).1,Zad hk];simp
 |p::P,w::vs,i+1,m,nd,h1,h2,hk=>by
  show bindC kindOf ((p,w)::P.zip vs) m x=_
  unfold bindC;exact Av (i:=i) (Zbv.mp nd).2 (by simpa using h1) (by simpa using h2) hk
def start(N:List Str)(vs:List V):St:=vs.map some++List.replicate (N.length-vs.length) none
def Js(CX:CXT)(P:Program)(w:World)(K:Frag)(mg:Str->Option Value)(base:Heap)(N:List Str)(qual:Str)(scope:Scope)(f:Addr)(cd:Value)(A:Around)(outer:List Env)(s:Shared)(H:Hp)(E:XK):Cx where
 prog:=P
 w:=w
 K:=K
 mg:=mg
 base:=base
 A:=A.deeper (envOfC qual scope s.heap.objs.size f cd)
 N:=N
 s₀:=s
 H₀:=H
 env:=envOfC qual scope s.heap.objs.size f cd
 outer:=outer
 stack:=envOfC qual scope s.heap.objs.size f cd::outer
 ex:=[]
 calm:=true
 fn:=λ_=>true
 pn:=[]
 xe:=λe s'=>wpAny (model P w) (A.deeper (envOfC qual scope s.heap.objs.size f cd)) (leaving (envOfC qual scope s.heap.objs.size f cd) e) (λ_ s''=>CX outer H s E e s'') (λe' s''=>CX outer H s E e' s'') s'
theorem FQ{sc:Scope}{n:Nat}{x:Str}(h:sc.names.lookup x=some .cell):∃ c,(cellsFrom n sc.names []).lookup x=some c:=by
 have q:=PySem.W.cellsFrom_some sc.names n [] (.inl h);exact Option.isSome_iff_exists.mp q
theorem Mx{CX:CXT}{P:Program}{w:World}{K:Frag}{mg:Str->Option Value}{base:Heap}{N ps:List Str}{qual:Str}{scope:Scope}{f:Addr}{cd:Value}{A:Around}{outer:List Env}{s s1:Shared}{H:Hp}{E:XK}{us:List Value}{vs:List V}
  (S:bJ N ps scope)(hd:A.handled=none)(e0:Sd P w K mg base A outer s H)(hl:vs.length=ps.length)(r:Vals vs us)
  (x:InCallC s s.heap.objs.size (bindL (envOfC qual scope s.heap.objs.size f cd).kindOf (ps.zip us) λ_=>none) (cellsFrom (s.heap.objs.size+1) scope.names []) (bindC (envOfC qual scope s.heap.objs.size f cd).kindOf (ps.zip us) λ_=>none) s1) :
  Inv (Js CX P w K mg base N qual scope f cd A outer s H E) [] (start N vs) H s1:=by
 have hpl:ps.length<=N.length:=by have:=Zbg List.length S.pre;rw[ZbT] at this;lia
 obtain⟨h1,tk,rfl,hk⟩:=x.done;have noA:∀ b:Addr,b ∉ (Js CX P w K mg base N qual scope f cd A outer s H E).ex:=λb z=>absurd (show b∈([]:List Addr) from z) (by simp)
 refine⟨⟨e0.mod,S.kind,rfl,rfl,Zak _,λy z c h1 h2=>?_,λy hy=>?_,λy c _ h=>?_,λ_=>hd,Around.frames_deeper e0.frames,.inr ⟨rfl,rfl⟩,λb z=>absurd z (noA b),e0.bs,e0.bsz,λb _ _=>noA b,λb z=>absurd z (noA b),e0.wK,e0.frf⟩,
  rfl,e0.bare,Un.kept hk,⟨_,x.toInCall.ns,λi y v h1 h2 h3=>?_⟩,λy c h=>⟨_,x.cell y c h⟩,e0.hok.fresh (Zak _),λy c h=>?_,λp hp=>absurd (show p∈([]:List (Addr×Obj)) from hp) (by simp),e0.hok.kept hk,?_⟩
 ·exact name_of_addr x.apart (ZbP h1) (ZbP h2)
 ·have hy:scope.names.lookup y=some .cell\/scope.names.lookup y=some .free:=hy;rcases hy with hy|hy
  ·exact FQ hy
  ·exact absurd rfl (S.nofree _ (ZbP hy))
 ·exact ZaO (x.above y c (ZbP h))
 ·have hi:i<vs.length:=by
   unfold start at h2;by_cases hi:i<vs.length
   ·exact hi
   ·rw[Zat (by simpa using hi)] at h2
    rw[Zbw] at h2;split at h2<;>cases h2
  have ha:vs[i]?=some v:=by
   unfold start at h2;rw[Zal (by simpa using hi),List.getElem?_map] at h2
   cases e:vs[i]? with
   |none=>rw[e] at h2;cases h2
   |some a=>rw[e] at h2;cases h2;rfl
  obtain⟨u,hu,rv⟩:=r.get ha;have hp:ps[i]?=some y:=by
   rw[<-S.pre,List.getElem?_take_of_lt (by lia)];exact h1
  have ndP:ps.Nodup:=by rw[<-S.pre];exact S.nd.sublist (ZaT _ _)
  refine⟨u,rv,?_⟩;rcases S.par y (Zag hp) with k|k
  ·exact .inl ⟨k,Ar ndP hp hu k⟩
  ·obtain⟨c,e⟩:=FQ (n:=s.heap.objs.size+1) k;refine .inr ⟨.inl k,c,e,?_⟩;have q:=x.cell y c e;rw[Av ndP hp hu (by show scope.names.lookup y≠_;rw[k];decide)] at q
   exact q
 ·exact e0.hok.fresh (ZaO (x.above y c (ZbP h)))
 ·unfold start;show _=N.length
  rw[List.length_append,List.length_map,List.length_replicate];lia
theorem Xv{CX:CXT}{P:Program}{w:World}{K:Frag}{mg:Str->Option Value}{base:Heap}{k:Nat}{f:Addr}{name qual:Str}{params:Arguments}{body:List Stmt}{scope:Scope}{dV kV doc pm cdv ct oc:Value}{an od:Option Addr}
  {osl:Array (Option Value)}{N ps:List Str}{sp:Sp}(lk:K.lookup f=some ⟨oc,od,.func (fnOf name qual params body scope dV kV doc pm an cdv ct),osl⟩)(hcd:codeIn K cdv qual=true)(S:bJ N ps scope)
  (len:∀ vs H Q E,sp vs H Q E->vs.length=ps.length)
  (hbody:∀ (A:Around) (outer:List Env) (s:Shared) (H:Hp) (vs:List V) (Q:VK) (E:XK),fW k (A.deeper (envOfC qual scope s.heap.objs.size f cdv))->sp vs H Q E ->
   ∃ t,PSs (Js CX P w K mg base N qual scope f cdv A outer s H E) body t/\t { nx:=λ_ H'=>Q .non H',rt:=Q } (start N vs) H) :
  z8 P w K mg base CX (k+1) f (fnOf name qual params body scope dV kV doc pm an cdv ct) ps sp:=by
 refine⟨len,λA outer s H args us vs Q E hr e0 hb r hsp=>?_⟩;have hl:=len _ _ _ _ hsp;have KX:K.In s.heap:=e0.mod.kin.keeps λb o e=>(e0.bs b o e).1;have lim:s.heap.NoLimit:=e0.mod.nolimit.keeps λb o e=>(e0.bs b o e).1;have hkind:∀ y∈ps.zip us,scope.names.lookup y.1=some .local\/(scope.names.lookup y.1=some .cell/\((cellsFrom (s.heap.objs.size+1) scope.names []).lookup y.1).isSome=true):=λ⟨n,v⟩ hy=>by
  rcases S.par n (List.of_mem_zip hy).1 with q|q
  ·exact .inl q
  ·exact .inr ⟨q,PySem.W.cellsFrom_some _ _ _ (.inl q)⟩
 refine codeAny_call_function hr.depth (KX _ _ lk) rfl S.co S.gen rfl (PySem.W.codeRec_of KX hcd) (hb _ _ _ _ ?_);refine wpAny_newFunctionEnv_cells S.kind hkind λenv he s1 x=>?_;subst he;refine⟨lim.keeps x.toInCall.keep,codeAny_func ?_⟩;obtain⟨t,ht,hq⟩:=hbody A outer s H vs Q E (hr.deeper _) hsp;have I:Inv (Js CX P w K mg base N qual scope f cdv A outer s H E) [] (start N vs) H s1:=Mx S hr.hd e0 hl r x;refine Zbx (ht [] s1 (start N vs) H _ I hq) (λfl s' hs=>?_) λe s' hs=>hs;have fin:∀ {σ':St}{H':Hp}{v:V}{u:Value},Inv (Js CX P w K mg base N qual scope f cdv A outer s H E) [] σ' H' s'->RelV v u->Q v H'->CE outer P w H s Q u s':=
  λ{σ' H' v u} J rv q=>⟨v,H',J.os,J.bare,J.base,J.hok,rv,q⟩
 cases fl with
 |ret u=>
  obtain⟨v,σ',H',J,rv,q⟩:=hs;exact fin J rv q
 |next=>
  obtain⟨σ',H',J,q⟩:=hs;exact fin (v:=V.non) (u:=Value.none) J rfl q
 |brk=>
  obtain⟨_,_,_,q⟩:=hs;exact False.elim q
 |cont=>
  obtain⟨_,_,_,q⟩:=hs;exact False.elim q
section
variable{X:Cx}{x:Str}{p pos:Pos}{e:Expr}{es:List Expr}{t:TA}{id T:String}{r:List V->Hp->VK->Prop}
def tCB(r:List V->Hp->VK->Prop)(t:TA):TE:=λσ H Q=>t σ H λvs H1=>r vs H1 Q
theorem cu(hc:qY X (.builtin id) r)(hg:Gl X x)(hm:X.mg x=none)(hv:bootBuiltins x=some (.builtin id))(ha:PA X (e::es) t)(hn:x≠"__name__":=by decide)(hdb:(x==("__debug__":Str))=false:=by decide)
  (he:starEach (e::es) X.env=(false,eval e X.env)::starEach es X.env:=by rfl)(hpl:(backTo pos (starEach es X.env)).any (·.1)=false:=by rfl):PE X (.Call (.Name x p) (e::es) [] pos) (tCB r t):=by
 intro pins s σ H Q I h;refine wpAny_Call_Name_kw (rP I hg hm hv ?_ hn hdb);exact PyProof.Rows.callWith_builtin1 (thn (ha pos pins s σ H _ I h) λus s1 ⟨vs,H1,I1,r1,q1⟩=>hc pins s1 σ H1 vs us Q I1 r1 q1) he hpl
theorem qK(hc:qY X (.type T) r)(hg:Gl X x)(hm:X.mg x=none)(hv:bootBuiltins x=some (.type T))(ha:PA X (e::es) t)(hn:x≠"__name__":=by decide)(hdb:(x==("__debug__":Str))=false:=by decide)
  (he:starEach (e::es) X.env=(false,eval e X.env)::starEach es X.env:=by rfl)(hpl:(backTo pos (starEach es X.env)).any (·.1)=false:=by rfl):PE X (.Call (.Name x p) (e::es) [] pos) (tCB r t):=by
 intro pins s σ H Q I h;refine wpAny_Call_Name_kw (rP I hg hm hv ?_ hn hdb);exact Zbu (thn (ha pos pins s σ H _ I h) λus s1 ⟨vs,H1,I1,r1,q1⟩=>hc pins s1 σ H1 vs us Q I1 r1 q1) he hpl
end
end L2
namespace HT
open PySem PyProof.Rows
theorem Ot(A:Around)(s:Shared)(a:Int)(t:Tok)(c:Int)(u:Tok)(prog:Program)(w:World)(E:Value->Shared->Prop)(Q:Value->Shared->Prop)(h:Q (.bool (decide (a<c))) s) :
  wpAny (model prog w) A (richCompare .Lt (.int a t) (.int c u)) Q E s:=
 (PyProof.Rows.lt_int h:wpAny (model prog w) A (compareOp .Lt (.int a t) (.int c u)) Q E s)
section
variable{prog:Program}{w:World}{A:Around}{E:Value->Shared->Prop}{s:Shared}
theorem Sh{t b:Addr}{vs ws:List Value}{Q:Value->Shared->Prop}(ht:IsTup s.heap t vs.toArray)(hb:IsTup s.heap b ws.toArray)(hv:vs≠[])
  (h1:ws=[]->Q (.ref t) s)(h2:ws≠[]->Q (.ref s.heap.objs.size) { s with heap:=s.heap.push { cls:=.type "tuple",data:=.seq (vs++ws).toArray } })
  (hsz:vs.length+ws.length<=sizeLine):wpAny (model prog w) A (binaryOp .Add (.ref t) (.ref b)) Q E s:=by
 obtain⟨⟨cls,dd,data,sl⟩,ho,hc,n,hd⟩:=id ht;obtain⟨⟨cls2,dd2,data2,sl2⟩,ho2,hc2,n2,hd2⟩:=id hb;simp only at hc hd hc2 hd2;subst hc hd hc2 hd2;have e:vs.toArray++ws.toArray=(vs++ws).toArray:=by simp
 by_cases hw:ws=[]
 ·exact concat_meets ⟨_,ho,rfl⟩ ⟨_,ho2,rfl⟩ noFill_tuple_add seq_tuple_add PySem.F.slot_tuple_add PySem.F.entry_tuple_add (PySem.F.args_tuple_add_2 _ _)
   (tuple_addW1 t b vs.toArray ws.toArray n n2 dd dd2 sl sl2 (by simpa using hv) (by simp[hw])) ⟨ho,ho2,h1 hw⟩
 ·refine concat_meets ⟨_,ho,rfl⟩ ⟨_,ho2,rfl⟩ noFill_tuple_add seq_tuple_add PySem.F.slot_tuple_add PySem.F.entry_tuple_add (PySem.F.args_tuple_add_2 _ _)
   (tuple_addW2 t b vs.toArray ws.toArray n n2 dd dd2 sl sl2 (by simpa using hv) (by simpa using hw) (by rw[List.size_toArray,List.size_toArray];exact hsz)) ⟨ho,ho2,?_⟩
  rw[e];exact h2 hw
def sIx(n d:Nat):Option Int->Nat
 |none=>d
 |some v=>if v<0 then(v+(n:Int)).toNat else min v.toNat n
theorem V2(n d:Nat)(hd:d<=n)(o:Option Int):sIx n d o<=n:=by
 cases o with
 |none=>exact hd
 |some v=>
  show(if v<0 then(v+(n:Int)).toNat else min v.toNat n)<=n
  by_cases hv:v<0
  ·rw[Zaf hv];omega
  ·rw[Zad hv];exact Nat.min_le_right _ _
theorem Ks(v:Int)(n d:Nat):(if v<0 then max (v+(n:Int)) 0 else min v (n:Int))=((sIx n d (some v):Nat):Int):=by
 show(if v<0 then max (v+(n:Int)) 0 else min v (n:Int))=(((if v<0 then(v+(n:Int)).toNat else min v.toNat n):Nat):Int)
 by_cases hv:v<0
 ·simp only[Zaf hv];omega
 ·simp only[Zad hv];omega
theorem Jt(lo hi:Option Int)(n:Nat):Builtin.Slice.sliceAdjust lo hi 1 (n:Int)=(((sIx n 0 lo:Nat):Int),((sIx n n hi:Nat):Int)):=by
 have h1:¬((1:Int)<0):=by omega
 unfold Builtin.Slice.sliceAdjust;simp only[h1,Zbh];refine Prod.ext ?_ ?_
 ·cases lo with
  |none=>rfl
  |some v=>exact Ks v n 0
 ·cases hi with
  |none=>rfl
  |some v=>exact Ks v n n
theorem Ju(i j:Nat):Builtin.Slice.slicePlaces (i:Int) (j:Int) 1=j-i:=by
 unfold Builtin.Slice.slicePlaces;have h1:(1:Int)>0:=by omega
 simp only[h1,ZbJ,Int.ediv_one];split<;>omega
theorem xV{v:Value}{o:Option Int}{Q:Option Int->Shared->Prop}(p:IsPart v o)(h:Q o s):wpAny (model prog w) A (Builtin.Slice.slicePartIndex v) Q E s:=by
 cases p with
 |none=>exact slicePart_none h
 |int i t=>exact slicePart_int h
theorem vH{sl:Addr}{vl vu:Value}{lo hi:Option Int}{n:Nat}{Q:Int×Int×Nat->Shared->Prop}(hs:s.heap.IsSliceOf sl vl vu .none)(pl:IsPart vl lo)(pu:IsPart vu hi)
  (h:Q (((sIx n 0 lo:Nat):Int),1,sIx n n hi-sIx n 0 lo) s):wpAny (model prog w) A (Builtin.Slice.sliceApplied (.ref sl) (pure (n:Int))) Q E s:=by
 obtain⟨os,hos,hcs,hds⟩:=id hs;unfold Builtin.Slice.sliceApplied Builtin.Slice.sliceFields;refine Zaa (Zaa (wpAny_field hos hds (x:=vl) rfl (Zaa (wpAny_field hos hds (x:=vu) rfl (Zaa (wpAny_field hos hds (x:=.none) rfl (Zae ?_)))))));refine Zaa (slicePart_none ?_);show wpAny _ _ (if((1:Int)==0)=true then _ else _) _ _ s
 rw[Zad (by decide)]
 refine Zaa (xV pl (Zaa (xV pu (Zaa (Zae ?_)))));show wpAny _ _ (match Builtin.Slice.sliceAdjust lo hi 1 (n:Int) with|(lo,hi)=>pure (lo,(1:Int),Builtin.Slice.slicePlaces lo hi 1)) _ _ s
 rw[Jt lo hi n];show wpAny _ _ (pure (((sIx n 0 lo:Nat):Int),(1:Int),Builtin.Slice.slicePlaces ((sIx n 0 lo:Nat):Int) ((sIx n n hi:Nat):Int) 1)) _ _ s
 rw[Ju];exact Zae h
theorem Ou(xs:Array Value)(i k:Nat):((List.range k).filterMap λ(m:Nat)=>xs[((i:Int)+(m:Int)*1).toNat]?).toArray=((xs.toList.drop i).take k).toArray:=by
 have e:(λ(m:Nat)=>xs[((i:Int)+(m:Int)*1).toNat]?)=λm=>xs[i+m]?:=by
  funext m
  have:((i:Int)+(m:Int)*1).toNat=i+m:=by omega
  rw[this]
 rw[e];have:=pick_run xs i k;rw[List.filterMap_map] at this;have e2:((λx=>xs[x]?) ∘ λx=>i+x)=λm=>xs[i+m]?:=rfl;rw[e2] at this;rw[this]
theorem tW{t sl:Addr}{items:Array Value}{vl vu:Value}{lo hi:Option Int}{Q:Value->Shared->Prop}(ht:IsTup s.heap t items)(hs:s.heap.IsSliceOf sl vl vu .none)(pl:IsPart vl lo)(pu:IsPart vu hi)
  (hw:¬(sIx items.size 0 lo=0/\sIx items.size items.size hi=items.size))
  (h:Q (.ref s.heap.objs.size) { s with heap:=s.heap.push { cls:=.type "tuple",data:=.seq ((items.toList.drop (sIx items.size 0 lo)).take (sIx items.size items.size hi-sIx items.size 0 lo)).toArray } })
  (hsz:items.size<=sizeLine):wpAny (model prog w) A (getItem (.ref t) (.ref sl)) Q E s:=by
 have htake:sizeOk (.seq ((items.toList.drop (sIx items.size 0 lo)).take (sIx items.size items.size hi-sIx items.size 0 lo)).toArray):=by
  show((items.toList.drop (sIx items.size 0 lo)).take (sIx items.size items.size hi-sIx items.size 0 lo)).toArray.size<=sizeLine
  rw[List.size_toArray,ZbT,List.length_drop,ZaZ];omega
 have hj:sIx items.size items.size hi<=items.size:=V2 _ _ (Zak _) hi;obtain⟨os,hos,hcs,hds⟩:=id hs;have hTs:s.TypeIs (.ref sl) "slice":=⟨os,hos,hcs⟩;unfold getItem
 try with_reducible refine Zbj ?_
 first|refine Zaa (Zae ?_)|skip
 refine Zaa (wpAny_sequenceKey ht.typeIs (by decide) ?_)
 refine Zaa (wpAny_callSpecial?_slot (name:=Str.ofString "__getitem__") ht.typeIs PyProof.Rows.slot_tuple_getitem
  (wpAny_call_entry PyProof.Rows.slot_tuple_getitem ht.typeIs entry_tuple_getitem ?_ (args_tuple_getitem _ _)))
 show wpAny _ _ (Builtin.Tuple.tupleItemsOf (.ref t)>>=_) _ _ s
 refine Zaa (tupleItemsOf_ ht ?_);refine Zaa (wpAny_typeOf hTs ?_);rw[Zaf (by decide)]
 refine Zaa (vH hs pl pu ?_);have hno:¬((((sIx items.size 0 lo:Nat):Int)==0&&(1:Int)==1&&(sIx items.size items.size hi-sIx items.size 0 lo)==items.size)=true):=by
  intro q;rw[Zby,Zby] at q;have q1:((sIx items.size 0 lo:Nat):Int)=0:=eq_of_beq q.1.1;have q2:sIx items.size items.size hi-sIx items.size 0 lo=items.size:=eq_of_beq q.2;exact hw ⟨by omega,by omega⟩
 show wpAny _ _ (if(((sIx items.size 0 lo:Nat):Int)==0&&(1:Int)==1&&(sIx items.size items.size hi-sIx items.size 0 lo)==items.size)=true then _ else _) _ _ s
 rw[Zad hno,Ou]
 first
  |exact Zaa (m:=Builtin.Tuple.tupleExact _) (Za3 (Zae ⟨_,rfl,Zae h⟩) htake)
  |exact Zaa (m:=Builtin.Tuple.tupleExact _) (Za3 (Zaa (Zae (Zae ⟨_,rfl,Zae h⟩))) htake)
  |exact Zaa (Zaa (m:=Builtin.Tuple.tupleExact _) (Za3 (Zae (Zae ⟨_,rfl,Zae h⟩)) htake))
  |exact Zaa (Zaa (m:=Builtin.Tuple.tupleExact _) (Za3 (Zae ⟨_,rfl,Zae h⟩) htake))
end
end HT
namespace L2
open PySem PySem.Spec PyProof.Rows
noncomputable abbrev TO:=St->Hp->(Option Int->Hp->Prop)->Prop
def PO(X:Cx)(e:Option Expr)(t:TO):Prop:=
 ∀ (pins:List (Addr×Obj)) (s:Shared) (σ:St) (H:Hp) (Q:Option Int->Hp->Prop),Inv X pins σ H s->t σ H Q ->
  wpAny (model X.prog X.w) X.A (evalPart e X.env) (λu s'=>∃ o H',Inv X pins σ H' s'/\IsPart u o/\Q o H') X.xe s
def Ku:TO:=λ_ H Q=>Q none H
def Vb(t:TE):TO:=λσ H Q=>t σ H λx H1=>∃ i,x=.int i/\Q (some i) H1
section
variable{X:Cx}{e:Expr}{te:TE}{lo hi:Option Expr}{tl th:TO}{pos p2:Pos}
theorem Kv:PO X none Ku:=by
 intro pins s σ H Q I h;rw[evalPart_none];exact Zae ⟨none,H,I,.none,h⟩
theorem Kw(h:PE X e te):PO X (some e) (Vb te):=by
 intro pins s σ H Q I hw;rw[evalPart_some];refine thn (h pins s σ H _ I hw) ?_;rintro u s1 ⟨x,H1,I1,r1,q1⟩;obtain⟨i,rfl,q⟩:=q1;obtain⟨t,rfl⟩:=r1;exact⟨some i,H1,I1,.int i t,q⟩
def SlR(X:Cx)(r:V->Option Int->Option Int->Hp->VK->Prop):Prop:=
 ∀ (pins:List (Addr×Obj)) (s:Shared) (σ:St) (H:Hp) (x:V) (v vl vu:Value) (lo hi:Option Int) (sl:Addr) (Q:VK),Inv X pins σ H s->RelV x v->s.heap.IsSliceOf sl vl vu .none->IsPart vl lo->IsPart vu hi->r x lo hi H Q ->
  ∃ T id,typeLookup (.type T) "__getitem__"=pure (some (.builtin id))/\s.TypeIs v T/\wpAny (model X.prog X.w) X.A (getItem v (.ref sl)) (EP X pins σ Q) X.xe s
def tSl(r:V->Option Int->Option Int->Hp->VK->Prop)(te:TE)(tl th:TO):TE:=λσ H Q=>te σ H λx H1=>tl σ H1 λl H2=>th σ H2 λu H3=>r x l u H3 Q
theorem FT{r:V->Option Int->Option Int->Hp->VK->Prop}(hr:SlR X r)(he:PE X e te)(hl:PO X lo tl)(hu:PO X hi th):PE X (.Subscript e (.Slice lo hi none p2) pos) (tSl r te tl th):=by
 intro pins s σ H Q I h;refine Subscript_ (thn (he pins s σ H _ I h) ?_);rintro v s1 ⟨x,H1,I1,r1,q1⟩;refine wpAny_Slice (thn (hl pins s1 σ H1 _ I1 q1) λvl s2 ⟨l,H2,I2,pl,q2⟩=>thn (hu pins s2 σ H2 _ I2 q2) ?_);rintro vu s3 ⟨u,H3,I3,pu,q3⟩;rw[evalPart_none];refine Zae ?_;have I4:Inv X pins σ H3 { s3 with heap:=s3.heap.push { cls:=.type "slice",data:=.fields #[vl,vu,.none] } }:=I3.kept (t':=s3.toks) λb ob q=>Zah _ q;obtain⟨T,id,hT,ht,hg⟩:=hr pins { s3 with heap:=s3.heap.push { cls:=.type "slice",data:=.fields #[vl,vu,.none] } } σ H3 x v vl vu l u s3.heap.objs.size Q I4 r1 (Heap.IsSliceOf.new ..) pl pu q3;show wpAny (model X.prog X.w) X.A (subscriptTail e (.Slice lo hi none p2) v (.ref s3.heap.objs.size)) (EP X pins σ Q) X.xe { s3 with heap:=s3.heap.push { cls:=.type "slice",data:=.fields #[vl,vu,.none] } }
 exact tail_any (ops:=[.ref s3.heap.objs.size,v]) ht hT hg (by with_unfolding_all rfl)
def CG(xs:List V)(lo hi:Option Int):List V:=(xs.drop (HT.sIx xs.length 0 lo)).take (HT.sIx xs.length xs.length hi-HT.sIx xs.length 0 lo)
theorem wk(xs:List V)(lo hi:Option Int):(CG xs lo hi).length<=xs.length:=by
 unfold CG;rw[ZbT,List.length_drop];omega
def Xw(K:Frag):V->Option Int->Option Int->Hp->VK->Prop:=λx lo hi H Q=>∃ a xs,x=.ref a/\SqT K H a xs /\
 ¬(HT.sIx xs.length 0 lo=0/\HT.sIx xs.length xs.length hi=xs.length)/\∀ p,H p=none->Q (.ref p) (upd H p (.tup (CG xs lo hi)))
theorem V3:SlR X (Xw X.K):=by
 intro pins s σ H x v vl vu lo hi sl Q I rx hs pl pu h;obtain⟨a,xs,rfl,hx,hw,q⟩:=h;cases rx;obtain⟨its,r,ht,hz⟩:=I.tuple hx;have hlen:its.toArray.size=xs.length:=by rw[List.size_toArray];exact r.length.symm
 refine⟨"tuple",_,PyProof.Rows.slot_tuple_getitem.lookup,ht.typeIs,?_⟩;refine HT.tW ht hs pl pu (by rw[hlen];exact hw) ?_ (by rw[hlen];exact hz)
 rw[hlen];refine⟨.ref s.heap.objs.size,_,I.laid (t':=s.toks) (o:=.tup (CG xs lo hi)) (λb ob q=>Zah _ q) (Zak _) ?_,rfl,q _ (I.hok.fresh (Zak _))⟩;exact⟨ZaE (wk xs lo hi) hz,_,(r.drop (HT.sIx xs.length 0 lo)).take (HT.sIx xs.length xs.length hi-HT.sIx xs.length 0 lo),gq.new _ _⟩
def Vc(K:Frag):R2:=λx y H Q=>∃ a b xs ys,x=.ref a/\y=.ref b/\SqT K H a xs/\SqT K H b ys/\xs≠[]/\xs.length+ys.length<=sizeLine /\
 (ys=[]->Q (.ref a) H)/\(ys≠[]->∀ p,H p=none->Q (.ref p) (upd H p (.tup (xs++ys))))
theorem Vals.CJ{xs:List V}{us:List Value}(r:Vals xs us):us=[]↔xs=[]:=by
 cases r with
 |nil=>simp
 |cons _ _=>simp
theorem Sq:OpR X (binaryOp .Add) (Vc X.K):=by
 intro pins s σ H x y v u Q I rx ry h;obtain⟨a,b,xs,ys,rfl,rfl,ha,hb,hx,hz,q1,q2⟩:=h;cases rx;cases ry;obtain⟨its,r1,p1,_⟩:=I.tuple ha;obtain⟨its2,r2,p2,_⟩:=I.tuple hb;refine HT.Sh p1 p2 (λz=>hx (r1.CJ.mp z)) (λz=>⟨.ref a,H,I,rfl,q1 (r2.CJ.mp z)⟩) (λz=>?_) (by rw[<-r1.length,<-r2.length];exact hz)
 refine⟨.ref s.heap.objs.size,_,I.laid (t':=s.toks) (o:=.tup (xs++ys)) (λb ob q=>Zah _ q) (Zak _) ?_,rfl,q2 (λw=>z (r2.CJ.mpr w)) _ (I.hok.fresh (Zak _))⟩;exact⟨by rw[List.length_append];exact hz,_,r1.append r2,gq.new _ _⟩
end
def ixN(n:Nat)(i:Int):Option Nat:=if 0<=i then(if i<n then some i.toNat else none) else if -(n:Int)<=i then some (i+n).toNat else none
def atI{α:Type}(xs:List α)(i:Int):Option α:=(ixN xs.length i).bind λj=>xs[j]?
theorem Ss{n:Nat}{i:Int}{j:Nat}(h:ixN n i=some j):seqIndex? i n=some j/\j<n/\-(n:Int)<=i/\i<n:=by
 unfold ixN at h;by_cases h0:0<=i
 ·rw[Zaf h0] at h;by_cases h1:i<n
  ·rw[Zaf h1] at h;have e:i.toNat=j:=Zac h;exact⟨by rw[seqIndex_of h0 h1,e],by lia,by lia,h1⟩
  ·rw[Zad h1] at h;cases h
 ·rw[Zad h0] at h;by_cases h1:-(n:Int)<=i
  ·rw[Zaf h1] at h;have e:(i+n).toNat=j:=Zac h;exact⟨by rw[seqIndex_neg (by lia) h1,e],by lia,h1,by lia⟩
  ·rw[Zad h1] at h;cases h
theorem CK{α:Type}{xs:List α}{i:Int}{v:α}(h:atI xs i=some v):∃ j,seqIndex? i xs.length=some j/\xs[j]?=some v/\j<xs.length/\-(xs.length:Int)<=i/\i<xs.length:=by
 unfold atI at h;cases e:ixN xs.length i with
 |none=>rw[e] at h;cases h
 |some j=>
  rw[e] at h;obtain⟨h1,h2,h3,h4⟩:=Ss e;exact⟨j,h1,h,h2,h3,h4⟩
theorem lN{α:Type}{xs:List α}{j:Nat}{v:α}(h:xs[j]?=some v):atI xs (j:Int)=some v:=by
 have hj:j<xs.length:=(Zab.mp h).1;have e:ixN xs.length (j:Int)=some j:=by
  unfold ixN;rw[Zaf (by lia),Zaf (by lia)];simp
 unfold atI;rw[e];exact h
def Su(b:Expr):Prop:=∀ o i,subscripted b false o i=operate [o,i] (getItem o i)
def IxR(X:Cx)(r:R2):Prop:=
 ∀ (value slice:Expr) (pins:List (Addr×Obj)) (s:Shared) (σ:St) (H:Hp) (x y:V) (v u:Value) (Q:VK),Inv X pins σ H s->RelV x v->RelV y u->r x y H Q ->
  subscripted slice false v u=operate [v,u] (getItem v u)->wpAny (model X.prog X.w) X.A (subscriptTail value slice v u) (EP X pins σ Q) X.xe s
def MtR(X:Cx)(id:String)(r:V->List V->Hp->VK->Prop):Prop:=
 ∀ (pins:List (Addr×Obj)) (s:Shared) (σ:St) (H:Hp) (x:V) (xs:List V) (v:Value) (us:List Value) (Q:VK),Inv X pins σ H s->RelV x v->Vals xs us->r x xs H Q ->
  wpAny (model X.prog X.w) X.A (call (.builtin id) (v::us)) (EP X pins σ Q) X.xe s
section
variable{X:Cx}{a b:Expr}{ta tb:TE}{pos:Pos}
theorem IxR.or{r r':R2}(h:IxR X r)(h':IxR X r'):IxR X (λx y H Q=>r x y H Q\/r' x y H Q):=by
 intro value slice pins s σ H x y v u Q I rx ry q hs;rcases q with q|q
 ·exact h value slice pins s σ H x y v u Q I rx ry q hs
 ·exact h' value slice pins s σ H x y v u Q I rx ry q hs
theorem bA{r:R2}(hr:IxR X r)(ha:PE X a ta)(hb:PE X b tb)(hs:Su b):PE X (.Subscript a b pos) (tOp r ta tb):=by
 intro pins s σ H Q I h;exact Subscript_ (VL ha hb I h λv u s2 x y H2 I2 rx ry q=>hr a b pins s2 σ H2 x y v u Q I2 rx ry q (hs _ _))
def Xx(K:Frag):R2:=λx y H Q=>∃ p xs i v,x=.ref p/\y=.int i/\SqL K H p xs/\atI xs i=some v/\Q v H
def Xy(K:Frag):R2:=λx y H Q=>∃ p xs i v,x=.ref p/\y=.int i/\SqT K H p xs/\atI xs i=some v/\Q v H
def Xz:R2:=λx y H Q=>∃ z i c,x=.str z/\y=.int i/\z.length<=sizeLine/\atI z.cps.toList i=some c/\Q (.str ⟨#[c]⟩) H
theorem Sv:IxR X (Xx X.K):=by
 intro value slice pins s σ H x y v u Q I rx ry h hs;obtain⟨p,xs,i,z,rfl,rfl,hq,he,q⟩:=h;cases rx;obtain⟨t,rfl⟩:=ry;obtain⟨its,r,pl,hz⟩:=I.list hq;obtain⟨j,h1,h2,h3,h4,h5⟩:=CK he;obtain⟨w,ew,rw'⟩:=r.get h2;have hl:=r.length;have hn:=Cz;have fin:EP X pins σ Q w s:=⟨z,H,I,rw',q⟩;by_cases h0:0<=i
 ·have hj:i.toNat=j:=by
   rw[seqIndex_of h0 h5] at h1;exact Zac h1
  exact item_listR pl.isList h0 (by lia) (by rw[hj];simpa using ew) fin hs
 ·have hj:(i+(its.toArray.size:Int)).toNat=j:=by
   rw[seqIndex_neg (by lia) h4] at h1
   rw[List.size_toArray,<-hl];exact Zac h1
  exact subscriptTail_builtinR (x:=w) pl.isList.typeIs slot_list_getitem.lookup
   (wpAny_getItem_list_neg (Q:=λr s'=>r=w/\EP X pins σ Q r s') pl.isList (by lia) (by rw[List.size_toArray]<;>lia) (by lia) (by rw[hj];simpa using ew) ⟨rfl,fin⟩) hs
theorem V4:IxR X (Xy X.K):=by
 intro value slice pins s σ H x y v u Q I rx ry h hs;obtain⟨p,xs,i,z,rfl,rfl,hq,he,q⟩:=h;cases rx;obtain⟨t,rfl⟩:=ry;obtain⟨its,r,pl,hz⟩:=I.tuple hq;obtain⟨j,h1,h2,h3,h4,h5⟩:=CK he;obtain⟨w,ew,rw'⟩:=r.get h2;have hl:=r.length;have hn:=Cz;have fin:EP X pins σ Q w s:=⟨z,H,I,rw',q⟩;exact subscriptTail_builtinR (x:=w) pl.typeIs slot_tuple_getitem.lookup
  (getItem_tuple (j:=j) (Q:=λr s'=>r=w/\EP X pins σ Q r s') pl (by omega) (by omega) (by rw[List.size_toArray,<-hl];exact h1) (by simpa using ew) ⟨rfl,fin⟩) hs
theorem V5:IxR X Xz:=by
 intro value slice pins s σ H x y v u Q I rx ry h hs;obtain⟨z,i,c,rfl,rfl,hz,he,q⟩:=h;obtain⟨t,rfl⟩:=rx;obtain⟨t',rfl⟩:=ry;obtain⟨j,h1,h2,h3,h4,h5⟩:=CK he;have hl:z.cps.toList.length=z.length:=by simp[Str.length]
 rw[hl] at h1 h4 h5;have hn:=Cz;exact tail_any (typeIs_str s z t) slot_str_getitem.lookup (getItem_str (c:=c) (by
  have e1:decide (i < -(2^63:Int))=false:=Zaw (by lia)
  have e2:decide (i>=2^63)=false:=Zaw (by lia)
  rw[e1,e2,Bool.or_false]) (by rw[h1];simpa using h2) ⟨.str ⟨#[c]⟩,H,I.tok _,⟨_,rfl⟩,q⟩) hs
def rIx(K:Frag):R2:=λx y H Q=>Xx K x y H Q\/Xy K x y H Q\/Xz x y H Q
theorem aY:IxR X (rIx X.K):=Sv.or (V4.or V5)
theorem CN(lo hi:Option Int)(n:Nat):(sliceBounds lo hi none n).1=((HT.sIx n 0 lo:Nat):Int)/\(sliceBounds lo hi none n).2.1=((HT.sIx n n hi:Nat):Int)/\(sliceBounds lo hi none n).2.2=1:=by
 refine⟨?_,?_,rfl⟩
 ·cases lo with
  |none=>simp[sliceBounds,HT.sIx]
  |some i=>
   simp only[sliceBounds,HT.sIx,Option.getD_none,show(1:Int)>0 by decide,ZbJ]
   by_cases h:i<0
   ·simp only[h,ZbJ]<;>lia
   ·simp only[h,Zbh]<;>lia
 ·cases hi with
  |none=>simp[sliceBounds,HT.sIx]
  |some i=>
   simp only[sliceBounds,HT.sIx,Option.getD_none,show(1:Int)>0 by decide,ZbJ]
   by_cases h:i<0
   ·simp only[h,ZbJ]<;>lia
   ·simp only[h,Zbh]<;>lia
theorem z9(its:List Value)(lo hi:Option Int):slicePick its.toArray lo hi none=((its.drop (HT.sIx its.length 0 lo)).take (HT.sIx its.length its.length hi-HT.sIx its.length 0 lo)).toArray:=by
 obtain⟨h1,h2,h3⟩:=CN lo hi its.toArray.size;unfold slicePick;rw[h1,h2,h3];simp only[sliceRange_one,pick_run,List.size_toArray]<;>rfl
def XC(K:Frag):V->Option Int->Option Int->Hp->VK->Prop:=λx lo hi H Q=>∃ a xs,x=.ref a/\SqL K H a xs/\∀ p,H p=none->Q (.ref p) (upd H p (.lst (CG xs lo hi)))
theorem Sx:SlR X (XC X.K):=by
 intro pins s σ H x v vl vu lo hi sl Q I rx hs pl pu h;obtain⟨a,xs,rfl,hx,q⟩:=h;cases rx;obtain⟨its,r,ht,hz⟩:=I.list hx;have hlen:=r.length;refine⟨"list",_,slot_list_getitem.lookup,ht.isList.typeIs,?_⟩;refine wpAny_getItem_list_slice ht.isList hs pl pu .none (by simp) ?_ (by rw[List.size_toArray]<;>lia)
 rw[z9,<-hlen];refine⟨.ref s.heap.objs.size,_,I.laid (t':=s.toks) (o:=.lst (CG xs lo hi)) (λb ob q=>Zah _ q) (Zak _) ?_,rfl,q _ (I.hok.fresh (Zak _))⟩;exact⟨ZaE (wk xs lo hi) hz,_,0,(r.drop (HT.sIx xs.length 0 lo)).take (HT.sIx xs.length xs.length hi-HT.sIx xs.length 0 lo),Zaq _ rfl⟩
def YZ:V->Bool
 |.non=>true
 |.bl _=>true
 |.int _=>true
 |.str _=>true
 |_=>false
def eqV:V->V->Bool
 |.non,.non=>true
 |.bl a,.bl b=>a==b
 |.bl a,.int b=>(if a then 1 else 0)==b
 |.int a,.bl b=>a==(if b then 1 else 0)
 |.int a,.int b=>a==b
 |.str a,.str b=>a==b
 |_,_=>false
theorem CP:qY X (.type "list") (λxs H Q=>∃ p ys,xs=[.ref p]/\(SqL X.K H p ys\/SqT X.K H p ys)/\∀ l,H l=none->Q (.ref l) (upd H l (.lst ys))):=by
 intro pins s σ H xs us Q I r h;obtain⟨p,ys,rfl,hq,q⟩:=h;obtain⟨u,rfl,rx⟩:=vals1 r;cases rx;have fin:∀ (its:List Value),Vals ys its->ys.length<=sizeLine->∀ (h':Heap) (c':Nat),(∀ b o',s.heap.get? b=some o'->h'.get? b=some o') ->
   h'.get? s.heap.objs.size=some { cls:=.type "list",dict:=none,data:=.seq its.toArray c',slots:=#[] }->EP X pins σ Q (.ref s.heap.objs.size) { s with heap:=h' }:=λits r' hz h' c' kp e=>
  ⟨.ref s.heap.objs.size,_,I.laid (t':=s.toks) kp (Zak _) (show dW X.prog X.w _ h' _ (.lst ys) from⟨hz,its,c',r',e⟩),rfl,q _ (I.hok.fresh (Zak _))⟩
 rcases hq with hq|hq
 ·obtain⟨its,r',pl,hz⟩:=I.list hq;have hlen:=r'.length;obtain⟨o,ho,hc,n,hd⟩:=pl.isList;exact call_list_seq p (.inl rfl) ho hc hd (λh' c' kp e=>fin its r' hz h' c' kp e) (by simp only[List.size_toArray]<;>omega)
 ·obtain⟨its,r',pl,hz⟩:=I.tuple hq;have hlen:=r'.length;obtain⟨o,ho,hc,n,hd⟩:=pl;exact call_list_seq p (.inr rfl) ho hc hd (λh' c' kp e=>fin its r' hz h' c' kp e) (by simp only[List.size_toArray]<;>omega)
def tyV(K:Frag)(T:String)(x:V)(H:Hp):Prop:=match x with
 |.str _=>T="str"
 |.int _=>T="int"
 |.ref p=>(T="list"/\∃ xs,SqL K H p xs)\/(T="tuple"/\∃ o,K.lookup p=some o/\o.cls=.type "tuple"/\o.dict=none) \/
   (T="dict"/\((∃ kvs,H p=some (.dK kvs))\/∃ kvs,H p=some (.dT kvs)))\/(T="set"/\∃ S n,H p=some (.set S n))
 |_=>False
theorem V6{pins:List (Addr×Obj)}{σ:St}{H:Hp}{s:Shared}{T:String}{x:V}{v:Value}(I:Inv X pins σ H s)(r:RelV x v)(ty:tyV X.K T x H) :
  s.TypeIs v T/\∀ a,v=.ref a->∃ ob,s.heap.get? a=some ob/\ob.dict=none:=by
 cases x with
 |str z=>
  obtain⟨t,rfl⟩:=r;cases (show T="str" from ty);exact⟨typeIs_str s z t,λ_ e=>nomatch e⟩
 |int i=>
  obtain⟨t,rfl⟩:=r;cases (show T="int" from ty);exact⟨typeIs_int s i t,λ_ e=>nomatch e⟩
 |ref p=>
  cases r;rcases ty with⟨rfl,xs,hq⟩|⟨rfl,o,hk,hc,hd⟩|⟨rfl,hk⟩|⟨rfl,S,n,hk⟩
  ·obtain⟨its,_,pl,_⟩:=I.list hq;refine⟨pl.isList.typeIs,λa e=>?_⟩;cases e;obtain⟨o,n,e,c,hd,_⟩:=pl;exact⟨o,e,hd⟩
  ·refine⟨⟨o,I.kIn p o hk,hc⟩,λa e=>?_⟩;cases e;exact⟨o,I.kIn _ o hk,hd⟩
  ·have z:∃ o,s.heap.get? p=some o/\o.ExactDict:=by
    rcases hk with⟨kvs,hk⟩|⟨kvs,hk⟩
    ·obtain⟨_,_,_,_,o,_,_,e,ex,_⟩:=I.hok p _ hk;exact⟨o,e,ex⟩
    ·obtain⟨_,_,_,_,o,_,_,e,ex,_⟩:=I.hok p _ hk;exact⟨o,e,ex⟩
   obtain⟨o,e,ex⟩:=z;refine⟨⟨o,e,ex.1⟩,λa e2=>?_⟩;cases e2;exact⟨o,e,ex.2.1⟩
  ·obtain⟨o,_,_,_,e,ex,_⟩:=I.hok p _ hk;refine⟨⟨o,e,ex.1⟩,λa e2=>?_⟩;cases e2;exact⟨o,e,ex.2.1⟩
 |_=>exact False.elim ty
def tBM(K:Frag)(T:String)(r:V->List V->Hp->VK->Prop)(to:TE)(t:TA):TE:=λσ H Q=>to σ H λx H1=>tyV K T x H1/\t σ H1 λxs H2=>r x xs H2 Q
variable{o e:Expr}{es:List Expr}{to:TE}{t:TA}{name:Str}{apos cpos:Pos}{T id:String}{r:V->List V->Hp->VK->Prop}
theorem Ky(pa:PlainAttrs T)(slot:Slot T name id)(hty:typeOf (.builtin id)=pure (.type "method_descriptor"))(hm:MtR X id r)(ho:PE X o to)(ha:PA X (e::es) t)
  (hbase:attributeBase o name X.env (eval o X.env)=eval o X.env:=by rfl)
  (hfew:((backTo cpos (starEach (e::es) X.env)).all (λx=>!x.1)&&(backToKw cpos (keywordEach [] X.env)).all (λx=>x.1.isSome)
   && decide ((e::es).length+([]:List Keyword).length+(if([]:List Keyword).isEmpty then 0 else 1)<30))=true:=by rfl)
  (hline:(apos.endLine==cpos.line)=true:=by rfl)(hs:starEach (e::es) X.env=(false,eval e X.env)::starEach es X.env:=by rfl)(hplain:(backTo cpos (starEach es X.env)).any (·.1)=false:=by rfl) :
  PE X (.Call (.Attribute o name apos) (e::es) [] cpos) (tBM X.K T r to t):=by
 intro pins s σ H Q I h;refine wpAny_Call_method_late hbase hfew hline rfl (thn (ho pins s σ H _ I h) ?_);rintro v s1 ⟨x,H1,I1,r1,ty,q1⟩;obtain⟨h1,h2⟩:=V6 I1 r1 ty;refine⟨T,id,pa,slot,hty,h1,h2,?_⟩;have hA:=ha cpos pins s1 σ H1 _ I1 q1;rw[hs] at hA ⊢;refine Calls.callWith_builtin (by show(false||(backTo cpos (starEach es X.env)).any (·.1))=false;rw[hplain]<;>rfl) (Calls.evalArgs_plain ?_)
 exact thn hA λus s2 ⟨vs,H2,I2,r2,q2⟩=>hm pins s2 σ H2 x vs v us Q I2 r1 r2 q2
end
def MtM(X:Cx)(id:String)(r:V->List V->Hp->VK->Prop):Prop:=
 ∀ (pins:List (Addr×Obj)) (s:Shared) (σ:St) (H:Hp) (x:V) (xs:List V) (v:Value) (us:List Value) (Q:VK),Inv X pins σ H s->RelV x v->Vals xs us->r x xs H Q ->
  wpAny (model X.prog X.w) X.A (call (.builtin id) (v::us)) (EP X pins σ Q) X.xe s
theorem Vals.one:∀ {x:V}{us:List Value},Vals [x] us->∃ u,us=[u]/\RelV x u
 |_,_,.cons r .nil=>⟨_,rfl,r⟩
theorem Vals.two:∀ {x y:V}{us:List Value},Vals [x,y] us->∃ u v,us=[u,v]/\RelV x u/\RelV y v
 |_,_,_,.cons r (.cons q .nil)=>⟨_,_,rfl,r,q⟩
section
variable{X:Cx}{pins:List (Addr×Obj)}{σ:St}{H:Hp}{s:Shared}{l:Addr}{xs ys:List V}
theorem Inv.YG{its its':List Value}{n:Nat}{f:Array Value->Array Value}{t':Nat}(I:Inv X pins σ H s)(hH:H l=some (.lst xs))
  (e:s.heap.get? l=some { cls:=.type "list",data:=.seq its.toArray n })(hf:f its.toArray=its'.toArray)(hv:Vals ys its')(hz:ys.length<=sizeLine) :
  Inv X pins σ (upd H l (.lst ys)) { s with heap:=s.heap.update l (Obj.mapSeq f),toks:=t' }:=by
 have q:=PySem.IsL.update e f;rw[hf] at q;refine I.write (x:=l) (e:=l) (by rw[hH];exact trivial) (.inl rfl) (λb' u hb hu=>(Heap.get?_update_other s.heap (Obj.mapSeq f) (Zbr hb)).trans hu) ⟨_,q⟩ ?_
 exact⟨hz,its',_,hv,q⟩
theorem Inv.YH{its:List Value}{t':Nat}(I:Inv X pins σ H s)(hv:Vals ys its)(hz:ys.length<=sizeLine) :
  Inv X pins σ (upd H s.heap.objs.size (.lst ys)) { s with heap:=s.heap.push { cls:=.type "list",data:=.seq its.toArray },toks:=t' }:=
 I.laid (λ_ _ q=>Zah _ q) (Zak _) ⟨hz,its,0,hv,Zaq _ rfl⟩
theorem Inv.fresh(I:Inv X pins σ H s):H s.heap.objs.size=none:=I.hok.fresh (Zak _)
theorem Inv.YJ(I:Inv X pins σ H s)(hH:H l=some (.lst xs)):xs.length<=sizeLine/\∃ (its:List Value) (n:Nat),Vals xs its/\xs.length=its.length/\s.heap.get? l=some { cls:=.type "list",data:=.seq its.toArray n }:=by
 obtain⟨z,its,n,r,e⟩:=I.hok l _ hH;exact⟨z,its,n,r,r.length,e⟩
end
section
variable{X:Cx}
def wY:V->List V->Hp->VK->Prop:=λx vs H Q=>∃ l xs y,x=.ref l/\vs=[y]/\H l=some (.lst xs)/\xs.length<sizeLine/\Q .non (upd H l (.lst (xs++[y])))
theorem m8:MtM X "list.append" wY:=by
 intro pins s σ H x vs v us Q I rx rv h;obtain⟨l,xs,y,rfl,rfl,hH,hz,q⟩:=h;cases rx;obtain⟨u,rfl,ru⟩:=rv.one;obtain⟨z,its,n,r,hl,e⟩:=I.YJ hH;refine call_meets F.slot_list_append ⟨_,e,rfl⟩ F.entry_list_append (F.args_list_append_2 _ _) (PySem.list_append l its.toArray n u (by rw[List.size_toArray];lia)) ⟨e,?_⟩
 refine⟨.non,_,I.YG (its':=its++[u]) hH e (by simp) (r.append (.cons ru .nil)) ?_,rfl,q⟩
 rw[List.length_append,List.length_singleton];lia
end
end L2
namespace Att
open PySem PySem.W PySem.Calls PyProof.Rows
theorem wM{P:Params}{h:Heap}:∀ (ns:List Int) (vs:List Value),WellAll P h vs (ns.map WData.int)->IntsAre vs ns:=by
 intro ns;induction ns with
 |nil=>
  intro vs w;rw[List.map_nil] at w;cases w;exact .nil
 |cons n ns ih=>
  intro vs w;rw[Zap] at w;cases w with
  |cons a b=>
   cases a;exact .cons _ _ (ih _ b)
theorem My{l:OpenLaw}{n:Nat}(hn:l.most=some n){P:Params}{h:Heap}{args:List WData}{vals:List Value}
  (hpre:l.row.toRowW.claim.pre args=true)(hwl:WellAll P h vals args) :
  ∃ a vs ns,vals=[Value.ref a]/\args=[WData.list (ns.map WData.int)]/\h.get? a=some { cls:=.type "list",data:=.seq vs.toArray }/\IntsAre vs ns/\ns.length<=n:=by
 have hsh:WShape.hasAll [] args [.list .int]=true:=(pre_splitW hpre).1;have hc:l.pre.holds [] { args:=args }=true:=(pre_splitW hpre).2;obtain⟨d,r,rfl,h1,h2⟩:=hasAllW_cons hsh;obtain rfl:=hasAllW_nil h2;obtain⟨xs,rfl,h3⟩:=hasW_list h1;obtain⟨ns,rfl⟩:=items_int h3;have hlen:ns.length<=n:=by
  unfold OpenLaw.pre at hc;have h4:(WTm.not (.lt (.lit (.int (n:Int))) (.len (.arg 0)))).holds [] { args:=[.list (ns.map .int)] }=true:=by
   have h4:=(holds_andW hc).1;rw[hn] at h4;exact h4
  have h5:=condW_of h4 (w_not (w_lt w_lit (w_len_list (w_arg rfl))));rw[List.length_map] at h5;refine Nat.le_of_not_lt λq=>?_;have q':(n:Int)<((ns.length:Nat):Int):=by omega
  first
   |(rw[Zax q'] at h5;exact absurd h5 (by decide))
   |(simp at h5;omega)
 cases hwl with
 |cons w1 w2=>
  cases w2;cases w1 with
  |list ho hall=>exact⟨_,_,ns,rfl,rfl,ho,wM ns _ hall,hlen⟩
theorem Mz(l:OpenLaw)(args:List WData):l.row.toRowW.claim.post args (.bool true) args=true:=
 postW_of (r:=l.row.toRowW) (X:=(true==true))
  (show WShape.has [] (.bool true) .bool=true by first|rfl|decide|simp[WShape.has,WShape.arms,WShape.armsAll])
  (show(WTm.eq .res (.lit (.bool true))).value [] { args:=args,res:=some (.bool true),after:=args }=some (.bool (true==true)) from w_eq_bool (w_res rfl) w_lit) rfl
theorem FW{l:OpenLaw}{n:Nat}{q:Program}{loose:List Str}{XP:(Str->Option Value)->Heap->Prop}{YP:World->Heap->Prop}{d:DefRec}
  (hn:l.most=some n)(hdf:d.params.defaults=[])
  (call:∀ (w:World) (s₀ s₁:Shared) (mg mb:Str->Option Value) (fa:Addr) (o:Obj) (pm cd doc:Value) (a:Addr) (vs:List Value) (ns:List Int),
   Ground q loose [] XP w s₀ mg mb s₁.heap->YP w s₁.heap ->
   s₁.heap.get? fa=some o->o.data=.func (docDef d.name d.params d.body d.scope pm cd doc)->s₁.heap.CodeRec cd d.name->mg d.name=some (.ref fa) ->
   s₁.heap.get? a=some { cls:=.type "list",data:=.seq vs.toArray }->IntsAre vs ns->ns.length<=n->s₁.gens=#[] ->
   codeAny (model l.prog w) callerA (.call (.ref fa) ⟨[.ref a],[]⟩) (λr s'=>r=.ok (.ret (.bool true))/\OldK s₁.heap s'.heap/\s'.os=s₁.os/\AllBare s'.gens) s₁) :
  WalkO q loose XP YP l.row.toRowW d [] (λf vs=>PySem.call f vs):=by
 intro w s₀ s₁ mg mb G Y fa o pm cd doc dV kV ho hd hcd hD hmg hg args vals as hpre hlay hrd hwl hlo;obtain rfl:dV=.none:=Dflts.none hD hdf;obtain rfl:kV=.none:=Dflts.noKw hD;obtain⟨a,vs,ns,rfl,rfl,hobj,hints,hlen⟩:=My hn hpre hwl;refine enter_call (codeAny_mono (call w s₀ s₁ mg mb fa o pm cd doc a vs ns G Y ho (fd_plain hd) hcd hmg hobj hints hlen hg) λr s' hq=>?_);obtain⟨rfl,h2,h3,h4⟩:=hq;exact⟨.inl ⟨.bool true,.bool true,[],rfl,λ_=>rfl,.bool true,Mz l _,λ_=>⟨List.Pairwise.nil,λ_ hm=>(nomatch hm)⟩⟩,h2,h3,h4⟩
end Att
namespace L2
open PySem PySem.Spec PyProof.Rows
theorem vI:∀ {vs:List Value}{ns:List Int},IntsAre vs ns->Vals (ns.map V.int) vs
 |_,_,.nil=>.nil
 |_,_,.cons n t h=>.cons ⟨t,rfl⟩ (vI h)
def Only(H:Hp):Prop:=∀ b,H b=none\/∃ o xs,H b=some (.frz o (.lst xs))
theorem Ov{P:Program}{w:World}{K:Frag}{mg mb:Str->Option Value}{CX:CXT}{k:Nat}{fa a:Addr}{fd:FuncData}{x:Str}{sp:Sp}{s₁:Shared}{vs:List Value}{ns:List Int}
  (KX:K.In s₁.heap)(hns:s₁.heap.Ns mainGlobals mg)(hb:s₁.heap.Ns builtinsNs mb)(hbb:∀ x:Str,x≠"__name__"->mb x=bootBuiltins x)(hlim:s₁.heap.NoLimit)(hg:s₁.gens=#[])
  (ha:s₁.heap.get? a=some { cls:=.type "list",data:=.seq vs.toArray })(hi:IntsAre vs ns)(hl:ns.length<=sizeLine)(hr:fW k callerA)
  (F:∀ base:Heap,K.In base->base.Ns mainGlobals mg->z8 P w K mg base CX k fa fd [x] sp)(hbind:∀ (s:Shared) (u:Value),BindsTo s fd ⟨[u],[]⟩ [(x,u)])
  (hsp:∀ H:Hp,Only H->SqL K H a (ns.map V.int)->sp [.ref a] H (λv _=>v=.bl true) λ_ _ _=>False)
  (hCX:∀ H e s',CX [] H s₁ (λ_ _ _=>False) e s'->False) :
  codeAny (model P w) callerA (.call (.ref fa) ⟨[.ref a],[]⟩) (λr s'=>r=.ok (.ret (.bool true))/\OldK s₁.heap s'.heap/\s'.os=s₁.os/\AllBare s'.gens) s₁:=by
 have rv:=vI hi;have lenV:=hi.length;have core:∀ H:Hp,Only H->SqL K H a (ns.map V.int)->HOk P w H s₁.heap->(∀ b,H b≠none->b=a)->(H a≠none->K.lookup a=none) ->
   codeAny (model P w) callerA (.call (.ref fa) ⟨[.ref a],[]⟩) (λr s'=>r=.ok (.ret (.bool true))/\OldK s₁.heap s'.heap/\s'.os=s₁.os/\AllBare s'.gens) s₁:=by
  intro H hO hS hok hA hK;have base_of:∀ {b:Addr}{o:Obj},s₁.heap.get? b=some o->H b=none->(Cp s₁.heap H).get? b=some o:=λe n=>Og e n;have noA:∀ {b:Addr}{o:Obj}{es:Array DictEntry}{ep:Nat},s₁.heap.get? b=some o->o.data=.dict es ep->H b=none:=λ{b o es ep} e d=>by
   cases q:H b with
   |none=>rfl
   |some u=>
    have e':b=a:=hA b (by rw[q];simp)
    subst e';rw[ha] at e;cases e;have d':Data.seq vs.toArray _=Data.dict es ep:=d;cases d'
  have nsK:∀ {b:Addr}{m:Str->Option Value},s₁.heap.Ns b m->(Cp s₁.heap H).Ns b m:=λ{b m} ⟨o,es,ep,e,d,r⟩=>⟨o,es,ep,base_of e (noA e d),d,r⟩;have hKb:K.In (Cp s₁.heap H):=λb o e=>base_of (KX b o e) (by
   cases q:H b with
   |none=>rfl
   |some u=>
    have e':b=a:=hA b (by rw[q];simp)
    subst e';rw[hK (by rw[q];simp)] at e;cases e)
  have hM:Mod K mg (Cp s₁.heap H):=⟨hKb,nsK hns,⟨mb,nsK hb,hbb⟩,let⟨mc,h1,h2⟩:=hlim;⟨mc,nsK h1,h2⟩⟩;have e0:Sd P w K mg (Cp s₁.heap H) callerA [] s₁ H:=⟨rfl,hM,λb o e=>RX e,Nat.le_of_eq (Mr _ _),trivial,λb hb=>absurd (show b∈([]:List Addr) from hb) (by simp),hok,.of_eq hg⟩
  refine codeAny_mono ((F _ hKb (nsK hns)).run callerA [] s₁ H ⟨[.ref a],[]⟩ [.ref a] [.ref a] _ _ hr e0 (hbind s₁ (.ref a)) (.cons rfl .nil) (hsp H hO hS)) λr s' h=>?_;cases r with
  |error e=>exact(hCX H e s' h).elim
  |ok fl=>
   cases fl with
   |next=>exact False.elim h
   |brk=>exact False.elim h
   |cont=>exact False.elim h
   |ret u=>
    obtain⟨v,H',os,bare,un,hok',r',q⟩:=h;have q':v=.bl true:=q;subst q';obtain rfl:u=Value.bool true:=r';refine⟨rfl,OldK.of_keep λb o e=>?_,os,bare⟩;cases q:H b with
    |none=>exact un.keep b o e q (by intro z;exact absurd (show b∈([]:List Addr) from z) (by simp)) (by simp)
    |some u=>
     rcases hO b with z|⟨ob,xs,z⟩
     ·rw[q] at z;cases z
     ·have z2:=un.frzs b ob _ z;obtain⟨e1,_⟩:=hok b _ z;obtain⟨e2,_⟩:=hok' b _ z2;rw[e] at e1;cases e1;exact e2
 cases hk:K.lookup a with
 |some o=>
  have e:=KX a o hk;rw[ha] at e;cases e;refine core (λ_=>none) (λ_=>.inl rfl) (.inr ⟨_,vs.toArray,_,hk,rfl,rfl,rfl,by rw[List.size_toArray,lenV];exact hl,by simpa using rv⟩) (λb u z=>by have z':(none:Option HO)=some u:=z;cases z') (λb z=>absurd rfl z) λz=>absurd rfl z
 |none=>
  refine core (λb=>if b=a then some (.frz { cls:=.type "list",data:=.seq vs.toArray } (.lst (ns.map V.int))) else none) (λb=>?_) (.inl (.inr ⟨{ cls:=.type "list",data:=.seq vs.toArray },Zaf rfl⟩)) (λb u z=>?_) (λb z=>?_) λ_=>hk
  ·by_cases hb:b=a
   ·exact .inr ⟨_,_,Zaf hb⟩
   ·exact .inl (Zad hb)
  ·by_cases hb:b=a
   ·have z':=(Zaf hb).symm.trans z;cases z';subst hb;exact⟨ha,by rw[List.length_map];exact hl,vs,_,rv,ha⟩
   ·have z':=(Zad hb).symm.trans z;cases z'
  ·by_cases hb:b=a
   ·exact hb
   ·exact absurd (Zad hb) z
theorem Sy{l:PySem.W.OpenLaw}{n k:Nat}{q:Program}{loose:List Str}{XP:(Str->Option Value)->Heap->Prop}{YP:World->Heap->Prop}{d:DefRec}{K:Params->Frag}{CX:World->CXT}{sp:World->Sp}{x:Str}
  (hn:l.most=some n)(hn2:n<=sizeLine)(hdf:d.params.defaults=[])(hr:fW k callerA)
  (hY:∀ (w:World) (h:Heap),YP w h->(K w.params).In h)
  (F:∀ (w:World) (mg:Str->Option Value) (fa:Addr) (h:Heap),(K w.params).In h->h.Ns mainGlobals mg->mg d.name=some (.ref fa) ->
   ∃ fd:FuncData,(∀ (s:Shared) (u:Value),BindsTo s fd ⟨[u],[]⟩ [(x,u)]) /\
    ∀ base:Heap,(K w.params).In base->base.Ns mainGlobals mg->z8 l.prog w (K w.params) mg base (CX w) k fa fd [x] (sp w))
  (hsp:∀ (w:World) (H:Hp) (a:Addr) (ns:List Int),ns.length<=n->Only H->SqL (K w.params) H a (ns.map V.int)->sp w [.ref a] H (λv _=>v=.bl true) λ_ _ _=>False)
  (hCX:∀ (w:World) (H:Hp) (s:Shared) (e:Value) (s':Shared),CX w [] H s (λ_ _ _=>False) e s'->False) :
  PySem.W.WalkO q loose XP YP l.row.toRowW d [] (λf vs=>PySem.call f vs):=by
 refine Att.FW hn hdf λw s₀ s₁ mg mb fa o pm cd doc a vs ns G Y ho hd hcd hmg hobj hints hlen hg=>?_;have KX:=hY w _ Y;obtain⟨fd,hb,hF⟩:=F w mg fa _ KX G.T.g hmg;exact Ov KX G.T.g G.T.b G.T.builtins G.T.nolimit hg hobj hints (ZaE hlen hn2) hr hF hb (λH hO hS=>hsp w H a ns hlen hO hS) λH e s'=>hCX w H s₁ e s'
def bG(s:Stmt):Arguments:=match s with
 |.FunctionDef _ a _ _ _ _ _ _ _ _=>a
 |_=>{ posonlyargs:=[],args:=[],vararg:=none,kwonlyargs:=[],kw_defaults:=[],kwarg:=none,defaults:=[] }
def bC(s:Stmt):List Stmt:=match s with
 |.FunctionDef _ _ b _ _ _ _ _ _ _=>b
 |_=>[]
def aM(s:Stmt):Scope:=match s with
 |.FunctionDef _ _ _ _ _ _ sc _ _ _=>sc
 |_=>{ kind:=.function,names:=[],isGenerator:=false,isCoroutine:=false }
noncomputable abbrev CX0:CXT:=λ_ _ _ _ _ _=>False
noncomputable abbrev E0:XK:=λ_ _ _=>False
theorem XD{X:Cx}:Jr CX0 X E0:=λ_ _ _ _ _ _ _ h=>h.elim
structure Fun(K:Frag)(x qual:Str)(st:Stmt)(f:Addr)(fd:FuncData):Prop where
 ex:∃ (oc:Value) (od:Option Addr) (kV doc pm:Value) (an:Option Addr) (cdv ct:Value) (osl:Array (Option Value)),
  fd=fnOf x qual (bG st) (bC st) (aM st) .none kV doc pm an cdv ct/\K.lookup f=some ⟨oc,od,.func fd,osl⟩/\codeIn K cdv qual=true
 kp:keepIn K (.ref f)=true
section
variable{P:Program}{w:World}{K:Frag}{mg:Str->Option Value}{base:Heap}
theorem Fun.ok{x qual:Str}{st:Stmt}{f:Addr}{fd:FuncData}{N ps:List Str}{k:Nat}{sp:Sp}(F:Fun K x qual st f fd)(S:bJ N ps (aM st))(len:∀ vs H Q E,sp vs H Q E->vs.length=ps.length)
  (hbody:∀ (cdv:Value) (A:Around) (outer:List Env) (s:Shared) (H:Hp) (vs:List V) (Q:VK) (E:XK),fW k (A.deeper (envOfC qual (aM st) s.heap.objs.size f cdv))->sp vs H Q E ->
   ∃ t,PSs (Js CX0 P w K mg base N qual (aM st) f cdv A outer s H E).nox (bC st) t/\t { nx:=λ_ H'=>Q .non H',rt:=Q } (start N vs) H):z8 P w K mg base CX0 (k+1) f fd ps sp:=by
 obtain⟨oc,od,kV,doc,pm,an,cdv,ct,osl,rfl,lk,hcd⟩:=F.ex;refine Xv lk hcd S len λA outer s H vs Q E hr hsp=>?_;obtain⟨t,h,q⟩:=hbody cdv A outer s H vs Q E hr hsp;exact⟨t,h.nox,q⟩
theorem Fun.binds{x qual:Str}{st:Stmt}{f:Addr}{fd:FuncData}{ps:List Str}(F:Fun K x qual st f fd)
  (h:∀ (kV doc pm:Value) (an:Option Addr) (cdv ct:Value) (us:List Value),us.length=ps.length->bindArgs (fnOf x qual (bG st) (bC st) (aM st) .none kV doc pm an cdv ct) ⟨us,[]⟩=pure (ps.zip us)):Binds K fd ps []:=by
 obtain⟨oc,od,kV,doc,pm,an,cdv,ct,osl,rfl,lk,hcd⟩:=F.ex;exact .all (h kV doc pm an cdv ct)
theorem cJ{x qual:Str}{st:Stmt}{f:Addr}{oc:Value}{od an:Option Addr}{osl:Array (Option Value)}{kV doc pm cdv ct:Value}(l:K.lookup f=some ⟨oc,od,.func (fnOf x qual (bG st) (bC st) (aM st) .none kV doc pm an cdv ct),osl⟩)
  (c:codeIn K cdv qual=true)(k:keepIn K (.ref f)=true):Fun K x qual st f (fnOf x qual (bG st) (bC st) (aM st) .none kV doc pm an cdv ct):=⟨⟨oc,od,kV,doc,pm,an,cdv,ct,osl,rfl,l,c⟩,k⟩
end
theorem qZ{A:Around}{k:Nat}(hr:fW k A):A.units+1<cLine:=Nat.lt_of_le_of_lt (Nat.add_le_add_left (by decide:1<=64) _) hr.units
theorem Aw{n:Nat}(h:n<=1000):n<sizeLine:=Nat.lt_of_le_of_lt h (by decide)
section
variable{X:Cx}
theorem pv(i:Nat){x:Str}{pos:Pos}(hN:X.N[i]?=some x:=by rfl)(hv:Vis X.env.scope x:=by first|exact Or.inl rfl|exact Or.inr (Or.inl rfl)|exact Or.inr (Or.inr rfl))(hd:(x==("__debug__":Str))=false:=by decide)
  (hcd:(x==("__classdict__":Str))=false:=by decide):PE X (.Name x pos) (m5 i):=Ji hN hv hd hcd
end
theorem rR{c A B:Prop}[Decidable c](h1:c->A)(h2:¬c->B):if c then A else B:=by
 by_cases h:c
 ·rw[Zaf h];exact h1 h
 ·rw[Zad h];exact h2 h
def aU(H H':Hp):Prop:=∀ b o,H b=some o->H' b=some o
theorem aU.refl(H:Hp):aU H H:=λ_ _ h=>h
theorem aU.trans{H H1 H2:Hp}(a:aU H H1)(b:aU H1 H2):aU H H2:=λc o h=>b c o (a c o h)
theorem aU.free{H H':Hp}(e:aU H H'){l:Addr}(h:H' l=Option.none):H l=Option.none:=by
 cases q:H l with
 |none=>rfl
 |some o=>
  rw[e l o q] at h;cases h
theorem aU.seq{K:Frag}{H H':Hp}{a:Addr}{xs:List V}(e:aU H H')(h:SqL K H a xs):SqL K H' a xs:=by
 rcases h with(h|⟨o,h⟩)|h
 ·exact .inl (.inl (e _ _ h))
 ·exact .inl (.inr ⟨o,e _ _ h⟩)
 ·exact .inr h
end L2
set_option maxHeartbeats 4000000
namespace Mth
def sub(l m:List Bool):Bool:=(List.range l.length).all λi=>!l.getD i false||m.getD i false
theorem Kz(n p:Nat):(n/2^p) &&& 1=(n.testBit p).toNat:=by
 have h:=Nat.testBit_eq_decide_div_mod_eq (x:=n) (i:=p);rw[Nat.and_one_is_mod,h];by_cases e:n/2^p%2=1
 ·simp[e]
 ·have:n/2^p%2=0:=by omega
  simp[this]
def pl(W:Nat)(c:Int×Int):Nat:=c.2.toNat*W+c.1.toNat
def cellOf(W:Nat)(i:Nat):Int×Int:=(((i%W:Nat):Int),((i/W:Nat):Int))
structure InR(W H:Nat)(c:Int×Int):Prop where
 c0:0<=c.1
 c1:c.1<W
 r0:0<=c.2
 r1:c.2<H
theorem jX(W i:Nat):pl W (cellOf W i)=i:=by
 unfold pl cellOf;simp only[ZaP];exact Nat.div_add_mod' i W
theorem vJ{W H:Nat}{i:Nat}(h:i<W*H):InR W H (cellOf W i):=by
 have hW:0<W:=by
  rcases Nat.eq_zero_or_pos W with e|e
  ·subst e;simp at h
  ·exact e
 refine⟨Zbm _,?_,Zbm _,?_⟩
 ·exact Int.ofNat_lt.mpr (Nat.mod_lt _ hW)
 ·exact Int.ofNat_lt.mpr (Nat.div_lt_of_lt_mul h)
theorem qL{W H:Nat}{c:Int×Int}(h:InR W H c):cellOf W (pl W c)=c:=by
 obtain⟨c0,c1,r0,r1⟩:=h;obtain⟨x,y⟩:=c;simp only at c0 c1 r0 r1;obtain⟨a,rfl⟩:=Za9 c0;obtain⟨b,rfl⟩:=Za9 r0;have hW:0<W:=by omega
 have ha:a<W:=by omega
 unfold cellOf pl;simp only[ZaP];rw[Nat.mul_comm b W,Nat.mul_add_mod,Nat.mod_eq_of_lt ha,Nat.mul_add_div hW,Nat.div_eq_of_lt ha,Nat.add_zero]
theorem Vd{W H:Nat}{c:Int×Int}(h:InR W H c):pl W c<W*H:=by
 obtain⟨c0,c1,r0,r1⟩:=h;unfold pl;have h1:c.1.toNat<W:=by omega
 have h2:c.2.toNat+1<=H:=by omega
 have h3:(c.2.toNat+1)*W<=H*W:=Nat.mul_le_mul_right W h2;rw[Nat.add_mul,Nat.one_mul] at h3;rw[Nat.mul_comm W H];omega
def iV(W:Nat)(ps:List (Int×Int)):Nat:=ps.foldl (λn c=>n ||| 2^pl W c) 0
theorem FZ(W:Nat):∀ (ps:List (Int×Int)) (n i:Nat),(ps.foldl (λn c=>n ||| 2^pl W c) n).testBit i=(n.testBit i||decide (∃ c∈ps,pl W c=i))
 |[],n,i=>by simp
 |c::ps,n,i=>by
  rw[List.foldl_cons,FZ W ps,Nat.testBit_or,Nat.testBit_two_pow,Bool.or_assoc];congr 1
  rw[Bool.eq_iff_iff];simp
theorem CQ(W:Nat)(ps:List (Int×Int))(i:Nat):(iV W ps).testBit i=decide (∃ c∈ps,pl W c=i):=by
 unfold iV;rw[FZ];simp
theorem Ax(W:Nat)(ps:List (Int×Int))(c:Int×Int):iV W (ps++[c])=iV W ps ||| 2^pl W c:=by
 unfold iV;rw[List.foldl_append];rfl
def pick(W k:Nat)(q:Nat->Bool):List (Int×Int):=((List.range k).filter q).map (cellOf W)
theorem j9(W k:Nat)(q:Nat->Bool):(pick W k q).length<=k:=by
 unfold pick;rw[List.length_map];exact ZaE (Za7 _ _) (by simp)
end Mth
namespace L2
open PySem PySem.Spec PyProof.Rows
theorem rT{env:Env}:∀ (names:List (Str×NameKind)) (cs:List (Str×Addr)),(∀ x∈names,x.2=.free->∃ c,env.cells.lookup x.1=some c) ->
  (∀ x c,cs.lookup x=some c->env.cells.lookup x=some c) ->
  ∃ cl,(forIn names cs λx s=>if(x.snd==NameKind.free)=true then do let d <-cellOf env x.fst;pure (ForInStep.yield ((x.fst,d)::s)) else pure (ForInStep.yield s):Sem _)=pure cl /\
   (∀ x c,cl.lookup x=some c->env.cells.lookup x=some c)/\(∀ x c,cs.lookup x=some c->cl.lookup x=some c)/\∀ x,(x,NameKind.free)∈names->∃ c,cl.lookup x=some c
 |[],cs,_,h2=>⟨cs,rfl,h2,λ_ _ e=>e,λ_ h=>nomatch h⟩
 |(n,k)::r,cs,h1,h2=>by
  rw[List.forIn_cons];by_cases hk:k=.free
  ·subst hk;obtain⟨c,hc⟩:=h1 (n,.free) List.mem_cons_self rfl;have ec:cellOf env n=pure c:=by unfold cellOf;simp only[hc]
   obtain⟨cl,e,p1,p2,p3⟩:=rT r ((n,c)::cs) (λx hx=>h1 x (List.mem_cons_of_mem _ hx)) (λx d e=>by
    rw[List.lookup_cons] at e;by_cases hx:x=n
    ·subst hx;simp at e;subst e;exact hc
    ·have hb:(x==n)=false:=beq_eq_false_iff_ne.mpr hx;rw[hb] at e;exact h2 x d e)
   refine⟨cl,?_,p1,λx d e'=>?_,λx hx=>?_⟩
   ·simp only[beq_self_eq_true,ZbJ,ec];exact e
   ·by_cases hx:x=n
    ·subst hx;have:=h2 _ _ e';rw[hc] at this;cases this;exact p2 x c (by simp)
    ·have hb:(x==n)=false:=beq_eq_false_iff_ne.mpr hx;exact p2 x d (by rw[List.lookup_cons,hb];exact e')
   ·rcases ZaA.mp hx with e|hx
    ·cases e;exact⟨c,p2 n c (by simp)⟩
    ·exact p3 x hx
  ·obtain⟨cl,e,p1,p2,p3⟩:=rT r cs (λx hx=>h1 x (List.mem_cons_of_mem _ hx)) h2;have hb:(k==NameKind.free)=false:=by simpa using hk
   refine⟨cl,?_,p1,p2,λx hx=>?_⟩
   ·simp only[hb,Zbf,Zbh];exact e
   ·rcases ZaA.mp hx with e|hx
    ·cases e;exact absurd rfl hk
    ·exact p3 x hx
theorem Jv{scope:Scope}{env:Env}(h:∀ x∈scope.names,x.2=.free->∃ c,env.cells.lookup x.1=some c):∃ cl,closureFor scope env=pure cl /\
  (∀ x c,cl.lookup x=some c->env.cells.lookup x=some c)/\∀ x,(x,NameKind.free)∈scope.names->∃ c,cl.lookup x=some c:=by
 obtain⟨cl,e,p1,_,p3⟩:=rT scope.names [] h (λ_ _ e=>nomatch e);refine⟨cl,?_,p1,p3⟩;simp only[closureFor];rw[e];rfl
noncomputable abbrev o7(env:Env)(x:Str×NameKind):Str×NameKind:=if(x.2==NameKind.free&&env.scope.kind==.function&&env.kindOf x.1==some .cell)=true then(x.1,NameKind.cell) else x
theorem MF(env:Env)(x:Str×NameKind):(o7 env x).1=x.1:=by unfold o7;split<;>rfl
theorem tX{env:Env}:∀ (names:List (Str×NameKind)) (x:Str),(names.map (o7 env)).lookup x=(names.lookup x).map λk=>(o7 env (x,k)).2
 |[],x=>rfl
 |(n,k)::r,x=>by
  rw[Zap];have e1:o7 env (n,k)=(n,(o7 env (n,k)).2):=by
   have:=MF env (n,k);cases h:o7 env (n,k) with
   |mk a b=>rw[h] at this;cases this;rfl
  rw[e1,List.lookup_cons,List.lookup_cons,tX r x];by_cases hx:x=n
  ·subst hx;simp
  ·have hb:(x==n)=false:=beq_eq_false_iff_ne.mpr hx;rw[hb]
theorem Aa(scope:Scope)(env:Env):(relabel scope env).names=scope.names.map (o7 env):=by
 unfold relabel;show List.map _ _=_
 refine Za0 λx _=>?_;obtain⟨n,k⟩:=x;rfl
theorem kh(scope:Scope)(env:Env)(x:Str):(relabel scope env).names.lookup x=(scope.names.lookup x).map λk=>(o7 env (x,k)).2:=by
 rw[Aa,tX]
theorem jO{scope:Scope}{env:Env}{x:Str}{k:NameKind}(hk:k≠.free)(h:scope.names.lookup x=some k):(relabel scope env).names.lookup x=some k:=by
 rw[kh,h];simp[o7,hk]
theorem tY{scope:Scope}{env:Env}{x:Str}(h:scope.names.lookup x=some .free):(relabel scope env).names.lookup x=some .cell\/(relabel scope env).names.lookup x=some .free:=by
 rw[kh,h];simp only[Zbz,o7];split
 ·exact .inl rfl
 ·exact .inr rfl
theorem Jw{scope:Scope}{env:Env}{x:Str}(h0:scope.names.lookup x≠some .cell)(h:(relabel scope env).names.lookup x=some .cell\/(relabel scope env).names.lookup x=some .free):scope.names.lookup x=some .free:=by
 rw[kh] at h;cases e:scope.names.lookup x with
 |none=>rw[e] at h;simp at h
 |some k=>
  by_cases hk:k=.free
  ·rw[hk]
  ·rw[e] at h;simp[o7,hk] at h;subst h;exact absurd e h0
theorem lookup_mem{β:Type}:∀ {l:List (Str×β)}{x:Str}{v:β},l.lookup x=some v->(x,v)∈l
 |[],_,_,h=>nomatch h
 |(n,k)::r,x,v,h=>by
  rw[List.lookup_cons] at h;by_cases hx:x=n
  ·subst hx;simp at h;subst h;exact List.mem_cons_self
  ·have hb:(x==n)=false:=beq_eq_false_iff_ne.mpr hx;rw[hb] at h;exact List.mem_cons_of_mem _ (lookup_mem h)
noncomputable abbrev Cx.comp(X:Cx)(N:List Str)(scope:Scope)(cl:List (Str×Addr))(C:Addr)(s2:Shared)(H2:Hp)(fp:List Addr):Cx where
 prog:=X.prog
 w:=X.w
 K:=X.K
 mg:=X.mg
 base:=X.base
 A:=X.A
 N:=N
 s₀:=s2
 H₀:=H2
 env:=compEnvC scope cl C X.env
 outer:=X.stack
 stack:=X.stack
 ex:=fp
 fn:=λ_=>false
 calm:=X.calm
 pn:=[]
 xe:=λ_ _=>False
def CT(XN N:List Str)(xs scope:Scope)(fr:List (Option Nat)):Bool:=
 decide (fr.length=N.length)&&(scope.kind==.function)&&(scope.names.all λx=>!(x.2==.cell))&&(scope.names.all λx=>!(x.2==.local)||scope.names.lookup x.1==some .local) &&
 (scope.names.all λx=>!(x.2==.free)||(xs.names.lookup x.1==some .cell||xs.names.lookup x.1==some .free)) &&
 (List.range N.length).all λj=>match fr[j]?,N[j]? with
  |some (some i),some x=>decide (XN[i]?=some x)&&(scope.names.lookup x==some .free)
  |_,_=>true
theorem Ga{XN N:List Str}{xs scope:Scope}{fr:List (Option Nat)}(h:CT XN N xs scope fr=true) :
  fr.length=N.length/\scope.kind=.function/\(∀ x∈scope.names,x.2≠.cell)/\(∀ x∈scope.names,x.2=.local->scope.names.lookup x.1=some .local) /\
  (∀ x∈scope.names,x.2=.free->xs.names.lookup x.1=some .cell\/xs.names.lookup x.1=some .free) /\
  ∀ (j i:Nat) (x:Str),fr[j]?=some (some i)->N[j]?=some x->XN[i]?=some x/\scope.names.lookup x=some .free:=by
 unfold CT at h;simp only[Zby,ZaK,ZaQ] at h;obtain⟨⟨⟨⟨⟨h1,h2⟩,h3⟩,h4⟩,h5⟩,h6⟩:=h;refine⟨h1,by simpa using h2,λx hx=>by simpa using h3 x hx,λx hx e=>?_,λx hx e=>?_,λj i x e1 e2=>?_⟩
 ·have:=h4 x hx;simp[e] at this;exact this
 ·have:=h5 x hx;simp[e] at this;exact this
 ·have hj:j<N.length:=(Zab.mp e2).1;have:=h6 j (Zaz.mpr hj);rw[e1,e2] at this;simpa using this
def frσ(fr:List (Option Nat))(σ:St):St:=fr.map λo=>match o with
 |some i=>match σ[i]? with
  |some v=>v
  |none=>none
 |none=>none
theorem SJ{fr:List (Option Nat)}{σ:St}{j:Nat}{v:V}(h:(frσ fr σ)[j]?=some (some v)):∃ i,fr[j]?=some (some i)/\σ[i]?=some (some v):=by
 unfold frσ at h;rw[List.getElem?_map] at h;cases e:fr[j]? with
 |none=>rw[e] at h;cases h
 |some o=>
  rw[e] at h;cases o with
  |none=>cases h
  |some i=>
   simp only[Zbz] at h;cases e2:σ[i]? with
   |none=>rw[e2] at h;cases h
   |some w=>rw[e2] at h;exact⟨i,rfl,by simpa[e2] using h⟩
def SM(X:Cx)(ifs:List Expr)(t:TT):Prop:=
 ∀ (pins:List (Addr×Obj)) (s:Shared) (σ:St) (H:Hp) (Q:Bool->Hp->Prop),Inv X pins σ H s->t σ H Q ->
  wpAny (model X.prog X.w) X.A (forIn ifs true λc r=>if r=true then do let ok <-isTrue c X.env (eval c X.env);pure (ForInStep.yield ok) else pure (ForInStep.yield r)) (TP X pins σ Q) X.xe s
def XF:TT:=λ_ H Q=>Q true H
theorem rW{X:Cx}:SM X [] XF:=λ_ _ _ H _ I h=>wpAny_tests_nil ⟨H,I,h⟩
theorem xW{X:Cx}{c:Expr}{t:TT}(h:PT X c t):SM X [c] t:=λpins s σ H Q I hw=>wpAny_tests_one (h pins s σ H Q I hw)
def XH(D:Addr)(tc:TT)(te:TE):TS:=λE σ H=>tc σ H λb H1=>if b=true then te σ H1 λv H2=>∃ ys,H2 D=some (.lst ys)/\ys.length<sizeLine/\E.nx σ (upd H2 D (.lst (ys++[v]))) else E.nx σ H1
def endC(Q:VK)(D:Addr):Ends:={ nx:=λ_ H=>Q (.ref D) H,rt:=λ_ _=>False }
def Gb(wi:TI)(fr:List (Option Nat))(g:TG)(tc:TT)(te:TE):TE:=λσ H Q=>wi σ H λJ H1=>∀ D,H1 D=none->∃ W:Nat->Nat->St->Hp->Prop,(∃ m,W 0 m (frσ fr σ) (upd H1 D (.lst [])))/\∀ i m σ H,W i m σ H ->
 (J.stop i H/\(endC Q D).nx σ H)\/(J.go i H/\∃ N:St->Hp->Prop,(∀ σ' H',N σ' H'->∃ m',m'<m/\W (i+1) m' σ' H')/\∀ x H',J.yld i H x H'->g x σ H' λσ2 H2=>XH D tc te { endC Q D with nx:=N,ct:=N,bk:=(endC Q D).nx } σ2 H2)
section
variable{prog:Program}{w:World}{A:Around}{R:Result->Shared->Prop}{s:Shared}
theorem MK{elt target iter:Expr}{ifs:List Expr}{scope:Scope}{pos:Pos}{it acc:Value}{env:Env}(I:Nat->Shared->Prop)
  (turn:∀ n s,I n s->wpAny (model prog w) A (pyNext it) (λr s₁=>match r with
   |none=>R (.ok .next) s₁
   |some v=>wpAny (model prog w) A (letOwnedTupleGo target it v) (λ_ s₁=>wpAny (model prog w) A (assign target env v) (λ_ s₂=>
     wpAny (model prog w) A (forIn ifs true λc r=>if r=true then do let ok <-isTrue c env (eval c env);pure (ForInStep.yield ok) else pure (ForInStep.yield r)) (λok s₃=>
      if ok=true then wpAny (model prog w) A (eval elt env) (λx s₄=>
       wpAny (model prog w) A (call (.builtin "list.append") [acc,x]) (λ_ s₅=>∃ m,m<n/\I m s₅) (notedBy (model prog w) A env λe s'=>R (.error e) s') s₄) (notedBy (model prog w) A env λe s'=>R (.error e) s') s₃
      else ∃ m,m<n/\I m s₃) (notedBy (model prog w) A env λe s'=>R (.error e) s') s₂) (notedBy (model prog w) A env λe s'=>R (.error e) s') s₁) (notedBy (model prog w) A env λe s'=>R (.error e) s') s₁) (notedBy (model prog w) A env λe s'=>R (.error e) s') s)
  (n:Nat)(h:I n s) :
  codeAny (model prog w) A (.compLoop (.ListComp elt [⟨target,iter,ifs,0⟩] scope pos) 0 it acc env) R s:=by
 refine codeAny_loop rfl I (λn s hI=>?_) n h;show wpAny _ A ((compTurn (.ListComp elt [⟨target,iter,ifs,0⟩] scope pos) 0 it acc env).onRaise (λx=>do noteFrame x env;theTreesLotGoes x)) _ _ s
 refine wpAny_noted ?_;rw[compTurn_list];refine Zaa (wpAny_standAt (Zaa (Zbx (turn n s hI) (λr s₁ h₁=>?_) λ_ _ h'=>h')));cases r with
 |none=>exact Zae h₁
 |some v=>
  refine Zaa (Zbx h₁ (λ_ s₁' h₁'=>?_) λ_ _ h'=>h');refine Zaa (Zbx h₁' (λ_ s₂ h₂=>Zaa (Zbx h₂ (λok s₃ h₃=>?_) λ_ _ h'=>h')) λ_ _ h'=>h');cases ok with
  |false=>exact Zae ⟨rfl,h₃⟩
  |true=>
   exact Zaa (Zaa (Zbx h₃ (λx s₄ h₄=>Zaa (Zbx h₄ (λ_ s₅ h₅=>Zae (Zae ⟨rfl,h₅⟩)) λ_ _ h'=>h')) λ_ _ h'=>h'))
end
structure Apart(X:Cx)(pins:List (Addr×Obj))(C:Addr):Prop where
 ne:C≠X.env.locals
 ab:X.s₀.heap.objs.size<=C
 cells:∀ x c,X.env.cells.lookup x=some c->c≠C
 pins:∀ p∈X.pn++pins,p.1≠C
section
variable{X:Cx}{elt tg iter:Expr}{ifs:List Expr}{scope:Scope}{pos pos':Pos}{wi:TI}{g:TG}{tc:TT}{te:TE}{pins:List (Addr×Obj)}{σ:St}{H:Hp}{s:Shared}
theorem Ow(N:List Str)(fr:List (Option Nat))(hc:X.calm=true)(hi:PI X tg iter wi)(hg:∀ cl C s2 H2 fp,PG (X.comp N scope cl C s2 H2 fp) tg g)
  (ht:∀ cl C s2 H2 fp,SM (X.comp N scope cl C s2 H2 fp) ifs tc)(he:∀ cl C s2 H2 fp,PE (X.comp N scope cl C s2 H2 fp) elt te)
  (ok:CT X.N N X.env.scope scope fr=true)(hs:∀ x,foldedSetIterable iter X.env x=pure x){Q:VK}{Q':Value->Shared->Prop}{use:Option (Value->Sem Unit)}
  (I:Inv X pins σ H s)(h:Gb wi fr g tc te σ H Q)
  (fin:∀ D C s' H',Inv X pins σ H' s'->H' C=none->Apart X pins C->(∃ m,s'.heap.Ns C m)->Q (.ref D) H'->compPost (model X.prog X.w) X.A X.xe use Q' (.ref D) C (.ok .next) s') :
  wpAny (model X.prog X.w) X.A (comprehension (.ListComp elt [⟨tg,iter,ifs,0⟩] scope pos) scope X.env pos' (newList []) false (eval iter X.env) use) Q' X.xe s:=by
 obtain⟨o1,o2,o3,o4,o5,o6⟩:=Ga ok;obtain⟨cl,hclos,c1,c2⟩:=Jv (scope:=scope) (env:=X.env) (λx hx hf=>I.ok.has x.1 (o5 x hx hf));refine wpAny_comprehension_free (use:=use) rfl hs hclos o2 o4 (thn (hi pins s σ H _ I h) λxv s1 h1=>thn h1 λitv s2 h2=>?_);obtain⟨it,fp,tn,J,H2,rfl,I2,T,st2,f2,hW⟩:=h2;refine Za3 (wpAny_newFunctionEnv o3 (by intro y hy;simp at hy) (λh₁ hns₁ hsb₁=>?_) o2)
 dsimp only at hns₁ hsb₁ ⊢;generalize hHH:s2.heap.push { cls:=.type "list",dict:=none,data:=.seq ([]:List Value).toArray }=HH at hns₁ hsb₁ ⊢
 have hC:HH.objs.size=s2.heap.objs.size+1:=by rw[<-hHH,Heap.size_push]
 have hDC:s2.heap.objs.size≠HH.objs.size:=by rw[hC];exact ZaG (Nat.lt_succ_self _)
 have hCle:s2.heap.objs.size<=HH.objs.size:=by rw[hC];exact Nat.le_succ _
 have neC:∀ b,b<s2.heap.objs.size->b≠HH.objs.size:=λb hb=>by rw[hC];exact ZaG (Nat.lt_succ_of_lt hb)
 have old:∀ b o,s2.heap.get? b=some o->h₁.get? b=some o:=λb o e=>hsb₁.extBut b o (neC b (Zao e)) (Zah _ (hHH▸Zah _ e));have atD:h₁.get? s2.heap.objs.size=some { cls:=.type "list",data:=.seq ([]:List Value).toArray }:=hsb₁.extBut _ _ hDC (Zah _ (hHH▸Zaq _ rfl));have ltf:∀ b∈fp,b<s2.heap.objs.size:=λb hb=>let⟨o,e,_⟩:=T.obj _ _ st2 b hb;Zao e;have ltc:∀ x c,X.env.cells.lookup x=some c->c<s2.heap.objs.size:=λx c e=>let⟨v,q⟩:=I2.cell x c e;q.lt;have ltp:∀ p∈X.pn++pins,p.1<s2.heap.objs.size:=λp hp=>Zao (I2.pin p hp).1;have fresh:H2 s2.heap.objs.size=none:=I2.hok.fresh (Zak _);have freshC:H2 HH.objs.size=none:=I2.hok.fresh hCle;have ap:Apart X pins HH.objs.size:=⟨Nat.ne_of_gt (Zav I2.lt hCle),ZaE I2.sz hCle,λx c e=>neC c (ltc x c e),λp hp=>neC _ (ltp p hp)⟩;have okY:(X.comp N scope cl HH.objs.size s2 H2 fp).Ok:={
  mod:=I2.ok.mod
  kind:=o2
  glob:=I2.ok.glob
  blt:=I2.ok.blt
  above:=hCle
  inj:=λx y c a b=>I2.ok.inj x y c (c1 _ _ a) (c1 _ _ b)
  has:=λx hx=>c2 x (lookup_mem (Jw (λz=>o3 _ (lookup_mem z) rfl) hx))
  cab:=λx c hx _=>by cases hx
  hd:=I2.ok.hd
  frames:=I2.ok.frames
  stk:=.inl rfl
  exf:=λb hb=>⟨neC b (ltf b hb),λx c e=>(f2 b hb).2.2.2.2.1 x c (c1 x c e)⟩
  bs:=I2.bs
  bsz:=ZaE I2.ok.bsz I2.sz
  noex:=λb o e hb=>by
   rcases(f2 b hb).2.2.2.1 with z|z
   ·exact I2.ok.noex b o e z
   ·exact absurd (Zav (Zao e) (ZaE I2.ok.bsz z)) (ZbO _)
  exfs:=λb hb hf=>by
   rcases ZaA.mp (I2.Jh b hf) with z|z
   ·exact(f2 b hb).2.1 z
   ·exact(f2 b hb).2.2.1 z
  wK:=I2.stack
  frf:=I2.Kp }
 have IY:Inv (X.comp N scope cl HH.objs.size s2 H2 fp) [] (frσ fr σ) (upd H2 s2.heap.objs.size (.lst [])) { s2 with heap:=h₁,toks:=s2.toks+([]:List (Str×Value)).length }:={
  ok:=okY
  os:=rfl
  bare:=I2.bare
  base:=Un.laid old (Zak _) fresh
  loc:=by
   refine⟨_,hns₁,λj x v e1 e2 e3=>?_⟩;obtain⟨i,f1,f2'⟩:=SJ e2;obtain⟨g1,g2⟩:=o6 j i x f1 e1;have k2:=o5 _ (lookup_mem g2) rfl;obtain⟨m2,hm2,l2⟩:=I2.loc;obtain⟨u,ru,lk⟩:=l2 i x v g1 f2' (.inr k2);refine⟨u,ru,.inr ⟨tY g2,?_⟩⟩;obtain⟨c,hcl⟩:=c2 x (lookup_mem g2);refine⟨c,hcl,?_⟩;rcases lk with⟨k,_⟩|⟨_,c',e',z⟩
   ·rcases k2 with k2|k2
    ·rw[show X.env.kindOf x=X.env.scope.names.lookup x from rfl,k2] at k;cases k
    ·rw[show X.env.kindOf x=X.env.scope.names.lookup x from rfl,k2] at k;cases k
   ·rw[c1 x c hcl] at e';cases e';obtain⟨oc,hoc,hd⟩:=z;exact⟨oc,old c oc hoc,hd⟩
  cell:=λx c e=>by
   obtain⟨v,oc,hoc,hd⟩:=I2.cell x c (c1 x c e);exact⟨v,oc,old c oc hoc,hd⟩
  free:=(aG (Zbr hDC)).trans freshC
  freeC:=λx c e=>by
   rw[aG (ZaG (ltc x c (c1 x c e)))];exact I2.freeC x c (c1 x c e)
  pin:=λp hp=>by cases hp
  hok:=I2.hok.laid old (Zak _) ⟨Zba _,[],0,.nil,atD⟩
  len:=by unfold frσ;rw[List.length_map];exact o1 }
 have stat:∀ {H':Hp}{pp:List (Addr×Obj)},pp=[]->(∀ b∈fp,H' b=none)->∀ b∈fp,xQ (X.comp N scope cl HH.objs.size s2 H2 fp) pp H' b:=λ{H' pp} hp hn b hb=>by
  subst hp;exact⟨hn b hb,neC b (ltf b hb),λz=>okY.exfs b hb z,.inl hb,λx c e=>(f2 b hb).2.2.2.2.1 x c (c1 x c e),λp hp=>by cases hp⟩
 have back:∀ {σ':St}{H':Hp}{s':Shared},Inv (X.comp N scope cl HH.objs.size s2 H2 fp) [] σ' H' s'->Inv X pins σ H' s':=λ{σ' H' s'} I'=>
  I2.call' (ch:=fp) I'.os I'.base I'.hok I'.bare λb hb=>⟨(f2 b hb).2.2.2.1,(f2 b hb).2.1,(f2 b hb).2.2.2.2.1,(f2 b hb).2.2.2.2.2⟩
 have loop:∀ s₃:Shared,s₃={ s2 with heap:=h₁,toks:=s2.toks+([]:List (Str×Value)).length } ->
   codeAny (model X.prog X.w) X.A (.compLoop (.ListComp elt [⟨tg,iter,ifs,0⟩] scope pos) 0 (.ref it) (.ref s2.heap.objs.size) (compEnvC scope cl HH.objs.size X.env))
    (compPost (model X.prog X.w) X.A X.xe use Q' (.ref s2.heap.objs.size) HH.objs.size) s₃:=by
  rintro s₃ rfl;obtain⟨W,⟨m0,w0⟩,turn⟩:=hW s2.heap.objs.size fresh;refine MK (λn s'=>∃ i σ' H',Inv (X.comp N scope cl HH.objs.size s2 H2 fp) [] σ' H' s'/\tn i s'.heap/\(∀ b∈fp,H' b=none)/\W i n σ' H') ?_ m0
   ⟨0,_,_,IY,T.keep _ _ _ st2 λb _ o e=>old b o e,λb hb=>by rw[aG (ZaG (ltf b hb))];exact(f2 b hb).1,w0⟩
  rintro n s3 ⟨i,σ3,H3,I3,st3,fr3,w3⟩;rcases turn i n σ3 H3 w3 with⟨stop,q⟩|⟨go,Nx,hN,step⟩
  ·refine thn (T.done (X.comp N scope cl HH.objs.size s2 H2 fp) rfl rfl rfl hc i [] s3 σ3 H3 _ I3 (stat rfl fr3) st3 stop) ?_;rintro r s4 ⟨hr,I4⟩;subst hr;obtain⟨m4,hm4,_⟩:=I4.loc;exact fin _ _ s4 H3 (back I4) I4.free ap ⟨m4,hm4⟩ q
  ·refine thn (T.item (X.comp N scope cl HH.objs.size s2 H2 fp) rfl rfl rfl hc i [] s3 σ3 H3 _ I3 (stat rfl fr3) st3 go) ?_;rintro r s4 ⟨u,hr,h4⟩;subst hr;refine thn h4 ?_;rintro _ s5 ⟨x,H5,I5,r5,y5,st5,fr5⟩;have I5':=I5.pinned (stat rfl fr5) (T.obj _ _ st5);refine Zbx (hg cl HH.objs.size s2 H2 fp _ s5 σ3 H5 x u _ I5' r5 (step x H5 y5)) (?_) λ_ _ f=>f.elim;rintro _ s6 ⟨σ6,H6,I6,q6⟩;have again:∀ {s7:Shared}{σ7:St}{H7:Hp},Inv (X.comp N scope cl HH.objs.size s2 H2 fp) ([]++xR fp s5.heap) σ7 H7 s7->Nx σ7 H7 ->
     ∃ m,m<n/\∃ i σ' H',Inv (X.comp N scope cl HH.objs.size s2 H2 fp) [] σ' H' s7/\tn i s7.heap/\(∀ b∈fp,H' b=none)/\W i m σ' H':=λ{s7 σ7 H7} I7 n7=>by
    obtain⟨m',hm,w7⟩:=hN σ7 H7 n7;refine⟨m',hm,i+1,σ7,H7,I7.tU,T.keep _ _ _ st5 λb hb o e=>(I7.pin (b,o) (ZaM _ (ZaM _ (nQ hb e)))).1,λb hb=>?_,w7⟩;obtain⟨o,e,d⟩:=T.obj _ _ st5 b hb;exact(I7.pin (b,o) (ZaM _ (ZaM _ (nQ hb e)))).2.1
   refine Zbx (ht cl HH.objs.size s2 H2 fp _ s6 σ6 H6 _ I6 q6) (?_) λ_ _ f=>f.elim;rintro b s7 ⟨H7,I7,q7⟩;cases b with
   |false=>
    rw[Zad (by decide)] at q7 ⊢
    exact again I7 q7
   |true=>
    rw[Zaf rfl] at q7 ⊢;refine Zbx (he cl HH.objs.size s2 H2 fp _ s7 σ6 H7 _ I7 q7) (?_) λ_ _ f=>f.elim;rintro y s8 ⟨v,H8,I8,r8,q8⟩;obtain⟨ys,e8,l8,n8⟩:=q8;refine Zbx (m8 (X:=X.comp N scope cl HH.objs.size s2 H2 fp) _ s8 σ6 H8 (.ref s2.heap.objs.size) [v] (.ref s2.heap.objs.size) [y] (λ_ H9=>Nx σ6 H9) I8 rfl (.cons r8 .nil) ⟨_,ys,v,rfl,rfl,e8,l8,n8⟩) (?_) λ_ _ f=>f.elim;rintro _ s9 ⟨_,H9,I9,_,n9⟩;exact again I9 n9
 exact codeAny_compStart_list (loop _ rfl) (T.self _ 0 _ _ _ (T.keep _ _ _ st2 λb _ o e=>old b o e) (loop _ rfl))
theorem gC(N:List Str)(fr:List (Option Nat))(hc:X.calm=true)(hi:PI X tg iter wi)(hg:∀ cl C s2 H2 fp,PG (X.comp N scope cl C s2 H2 fp) tg g)
  (ht:∀ cl C s2 H2 fp,SM (X.comp N scope cl C s2 H2 fp) ifs tc)(he:∀ cl C s2 H2 fp,PE (X.comp N scope cl C s2 H2 fp) elt te)
  (ok:CT X.N N X.env.scope scope fr=true:=by kernel_rfl)(hs:∀ x,foldedSetIterable iter X.env x=pure x:=by intro _;rfl) :
  PE X (.ListComp elt [⟨tg,iter,ifs,0⟩] scope pos) (Gb wi fr g tc te):=by
 intro pins s σ H Q I h;rw[eval_ListComp];refine Ow (use:=none) N fr hc hi hg ht he ok hs I h λD C s' H' I' hn ap hm q=>?_;obtain⟨m,hm⟩:=hm;exact⟨m,hm,λh' sb=>⟨.ref D,H',I'.turned (t':=s'.toks) (λb o hb e=>(sb.2 b hb).trans e) hn ap.ne (.inr ap.ab) ap.cells ap.pins,rfl,q⟩⟩
end
section
variable{X:Cx}{pins:List (Addr×Obj)}{σ:List (Option V)}{H:Hp}{s:Shared}{h':Heap}
theorem Inv.tZ{t':Nat}{ch:List Addr}(I:Inv X pins σ H s)(k:∀ b o,b ∉ ch->s.heap.get? b=some o->h'.get? b=some o)(hf:∀ b∈ch,xQ X pins H b):Inv X pins σ H { s with heap:=h',toks:=t' }:=by
 have nit:∀ b u,H b=some u->b ∉ ch:=λb u e z=>by rw[(hf b z).1] at e;cases e
 refine I.step (g':=s.gens) (d':=s.drawn) (ch:=ch) (λb hb=>⟨(hf b hb).2.2.2.1,(hf b hb).2.1,(hf b hb).2.2.2.2.1,(hf b hb).2.2.2.2.2⟩) (λb o _ _ hc e _=>k b o hc e) (λb o _ _ hc e _=>⟨o.slots,k b o hc e⟩) (λ_ _ _ _ n=>n)
  (λb o hc e=>⟨o,k b o hc e⟩) (λ_ _ e=>e) (λ_ _ _ e=>e) (λb ps e=>⟨#[],by rw[e];simp⟩) (λm hm=>?_) (λb u e=>?_) I.bare
 ·obtain⟨o,es,ep,ho,r⟩:=hm;exact⟨o,es,ep,k _ o (λz=>(hf _ z).2.1 rfl) ho,r⟩
 ·refine(I.hok b u e).stay (λc v hc q=>k c v ?_ q) (λ_ q=>q) λ_ _ q=>q;rcases hc with z|z
  ·rw[z];exact nit b u e
  ·exact nit c _ z
theorem Inv.vK{t':Nat}{ch:List Addr}{a:Addr}{o:HO}(I:Inv X pins σ H s)(k:∀ b o,b ∉ ch->s.heap.get? b=some o->h'.get? b=some o)(hf:∀ b∈ch,xQ X pins H b)(ha:s.heap.objs.size<=a)
  (new:dW X.prog X.w (upd H a o) h' a o):Inv X pins σ (upd H a o) { s with heap:=h',toks:=t' }:=by
 have hn:H a=none:=I.hok.fresh ha;have nit:∀ b u,H b=some u->b ∉ ch:=λb u e z=>by rw[(hf b z).1] at e;cases e
 have ne:∀ b ob,s.heap.get? b=some ob->b≠a:=λb ob e z=>by rw[z] at e;exact absurd (Zav (Zao e) ha) (ZbO _)
 refine I.step (g':=s.gens) (d':=s.drawn) (ch:=ch) (λb hb=>⟨(hf b hb).2.2.2.1,(hf b hb).2.1,(hf b hb).2.2.2.2.1,(hf b hb).2.2.2.2.2⟩) (λb o _ _ hc e _=>k b o hc e) (λb o _ _ hc e _=>⟨o.slots,k b o hc e⟩) (λb ob _ e n=>by rw[aG (ne b ob e)];exact n)
  (λb o hc e=>⟨o,k b o hc e⟩) (λb xs e=>by rw[aG (bR e hn)];exact e) (λb ob u e=>by rw[aG (bR e hn)];exact e) (λb ps e=>⟨#[],by rw[aG (bR e hn),e];simp⟩) (λm hm=>?_) (λb u e=>?_) I.bare
 ·obtain⟨o,es,ep,ho,r⟩:=hm;exact⟨o,es,ep,k _ o (λz=>(hf _ z).2.1 rfl) ho,r⟩
 ·by_cases hb:b=a
  ·subst hb;rw[aN] at e;cases e;exact new
  ·rw[aG hb] at e;refine(I.hok b u e).stay (λc v hc q=>k c v ?_ q) (λc q=>by rw[aG (bR q hn)];exact q) λc xs q=>by rw[aG (bR q hn)];exact q
   rcases hc with z|z
   ·rw[z];exact nit b u e
   ·exact nit c _ z
end
def Itf(f:Nat->V)(n:Nat):It:=⟨λi _=>i<n,λi H x H'=>H'=H/\x=f i,λi _=>i=n⟩
def sgn(z:Str)(i:Nat):V:=.str ⟨#[z.cps.getD i 0]⟩
theorem Ay{P:Program}{w:World}{A:Around}(hh:A.handled=none)(it:Addr)(z:Str)(t:Tok):Walks P w A it [it] [it] z.cps.size (SignAt z) (λi h=>h.IsStrIter it (strIterType z) z t i):=by
 unfold strIterType;split
 ·exact Walks.strAscii hh it z t
 ·exact Walks.strWide hh it z t
theorem Ox{P:Program}{w:World}{K:Frag}{tg:Expr}(it:Addr)(z:Str)(t:Tok):Turn P w K tg (Itf (sgn z) z.cps.size) [it] it (λi h=>h.IsStrIter it (strIterType z) z t i) where
 mem:=by simp
 obj:=λi h st b hb=>by
  have e:b=it:=by simpa using hb
  subst e;obtain⟨o,e,c,d⟩:=st;exact⟨o,e,λv z=>by rw[d] at z;cases z⟩
 keep:=λi h h' st k=>let⟨o,e,r⟩:=st;⟨o,k it (by simp) o e,r⟩
 item:=by
  intro X hP hw hK hc i pins s σ H E I hf st hg;subst hP hw hK;obtain⟨f0,f1,f2,f3,f4,f5⟩:=hf it (by simp)
  have W:=Ay (P:=X.prog) (w:=X.w) (I.ok.hd hc) it z t;refine W.item i s _ _ hg st λv h' tk hv st' kk=>?_;obtain⟨c,u,hx,rfl⟩:=hv;have I1:Inv X pins σ H { s with heap:=h',toks:=tk }:=I.turned (λb o hb e=>kk b o (by simpa using hb) e) f0 f1 f3 f4 f5
  obtain⟨o,e,cc,d⟩:=id st';have ec:z.cps.getD i 0=c:=by rw[Array.getD_eq_getD_getElem?,hx];rfl
  refine⟨_,rfl,Fy (s:={ s with heap:=h',toks:=tk }) e cc d (by unfold strIterType;split<;>decide) ⟨sgn z i,H,I1,⟨u,?_⟩,⟨rfl,rfl⟩,st',λb hb=>(hf b hb).1⟩⟩
  rw[ec]
 done:=by
  intro X hP hw hK hc i pins s σ H E I hf st hg;subst hP hw hK;have hg':i=z.cps.size:=hg;subst hg';obtain⟨f0,f1,f2,f3,f4,f5⟩:=hf it (by simp)
  have W:=Ay (P:=X.prog) (w:=X.w) (I.ok.hd hc) it z t;exact W.done s _ _ st λh' tk kk=>⟨rfl,I.turned (λb o hb e=>kk b o (by simpa using hb) e) f0 f1 f3 f4 f5⟩
 self:=λA i s Q E st h=>by
  unfold strIterType at st;split at st
  ·exact wpAny_pyIter_striter_ascii st h
  ·exact wpAny_pyIter_striter_wide st h
def Ite(K:Frag)(a:Addr):It:=
 ⟨λi H=>∃ xs x,SqL K H a xs/\xs[i]?=some x,λi H x H'=>∃ p y,H p=none/\x=.ref p/\H'=upd H p (.tup [.int i,y])/\∀ xs,SqL K H a xs->xs[i]?=some y,λi H=>∃ xs,SqL K H a xs/\xs.length<=i⟩
theorem MN{P:Program}{w:World}{K:Frag}{elts:List Expr}{x1:Nat}{pos:Pos}(a e it:Addr)(hei:e≠it) :
  Turn P w K (.Tuple elts x1 pos) (Ite K a) [e,it] e (λi h=>(∃ old,IsEnum h e it (i:Int) old)/\h.IsListIter it a i) where
 mem:=by simp
 obj:=λi h st b hb=>by
  obtain⟨⟨old,he⟩,o,ho,c,d⟩:=st;rcases ZaA.mp hb with z|z
  ·subst z;exact⟨_,he,λv q=>by cases q⟩
  ·have z:b=it:=by simpa using z
   subst z;exact⟨o,ho,λv q=>by rw[d] at q;cases q⟩
 keep:=λi h h' st k=>by
  obtain⟨⟨old,he⟩,hit⟩:=st;exact⟨⟨old,k e (by simp) _ he⟩,hit.at λo q=>k it (by simp) o q⟩
 item:=by
  intro X hP hw hK hc i pins s σ H E I hf st hg;subst hP hw hK;obtain⟨xs,x,hq,hx⟩:=hg;obtain⟨its,rv,p,hz⟩:=I.list hq;obtain⟨u,hu,ru⟩:=rv.get hx;obtain⟨⟨old,he⟩,hit⟩:=st;have hl:=p.isList;have hai:a≠it:=by
   rintro rfl;obtain⟨o1,e1,c1,_⟩:=hl;obtain⟨o2,e2,c2,_⟩:=hit;rw[e1] at e2;cases e2;rw[c1] at c2;exact absurd c2 (by decide)
  have hae:a≠e:=by
   rintro rfl;obtain⟨o1,e1,c1,_⟩:=hl;rw[he] at e1;cases e1;exact absurd (show Value.type "enumerate"=Value.type "list" from c1) (by decide)
  have D:=Draws.list (prog:=X.prog) (w:=X.w) (A:=X.A.in1) (I.ok.hd hc) it a hai its.toArray;have hlt:i<its.toArray.size:=by
   have:=(Zab.mp hu).1;simpa using this
  refine wpAny_pyNext_enum_itemD D he ⟨hit,hl⟩ hlt hei (by simp[hei,Zbr hae]) λv h1 tk hP ho hst hT hsz hk=>?_
  have ev:v=u:=by
   have hP':its.toArray[i]?=some v:=hP;rw[List.getElem?_toArray,hu] at hP';exact(Zac hP').symm
  subst ev;refine⟨_,rfl,wpAny_letOwnedTupleGo_enum ho λh2 he2 hs2=>?_⟩;have elt:e<s.heap.objs.size:=Zao he;have hT2:h2.get? s.heap.objs.size=some { cls:=.type "tuple",data:=.seq #[.int i tk,v] }:=(hs2.2 _ (Nat.ne_of_gt elt)).trans hT;refine⟨.ref s.heap.objs.size,upd H s.heap.objs.size (.tup [.int i,x]),I.vK (ch:=[e,it]) (λb o hb q=>?_) hf (Zak _) ⟨by show 2<=sizeLine;decide,[.int i tk,v],.cons ⟨tk,rfl⟩ (.cons ru .nil),gq.mk hT2⟩,rfl,⟨_,x,I.hok.fresh (Zak _),rfl,rfl,λys hy=>by rw[I.pG hy hq];exact hx⟩,⟨⟨v,by simpa using he2⟩,?_⟩,λb hb=>?_⟩
  ·have h1':b≠e:=λz=>hb (by simp[z])
   have h2':b≠it:=λz=>hb (by simp[z])
   exact(hs2.2 b h1').trans (hk b o h1' h2' q)
  ·exact hst.1.at λo q=>(hs2.2 it (Zbr hei)).trans q
  ·rw[aG ?_]
   ·exact(hf b hb).1
   ·rcases ZaA.mp hb with z|z
    ·rw[z];exact ZaG elt
    ·have z:b=it:=by simpa using z
     rw[z];obtain⟨o2,e2,_⟩:=hit;exact ZaG (Zao e2)
 done:=by
  intro X hP hw hK hc i pins s σ H E I hf st hg;subst hP hw hK;obtain⟨xs,hq,hx⟩:=hg;obtain⟨its,rv,p,hz⟩:=I.list hq;obtain⟨⟨old,he⟩,hit⟩:=st;have hl:=p.isList;have ln:=rv.length;refine wpAny_pyNext_enum_end (I.ok.hd hc) he hit hl (by rw[List.getElem?_toArray];exact List.getElem?_eq_none_iff.mpr (by omega)) λh1 eb=>⟨rfl,?_⟩
  exact I.tZ (t':=s.toks) (ch:=[e,it]) (λb o hb q=>eb b o (λz=>hb (by simp[z])) q) hf
 self:=λA i s Q E st h=>by
  obtain⟨⟨old,he⟩,_⟩:=st;exact wpAny_pyIter_enum he h
def Ve(K:Frag)(ta:TA):TI:=λσ H R=>ta σ H λvs H1=>∃ a,vs=[.ref a]/\(∃ xs,SqL K H1 a xs)/\R (Ite K a) H1
theorem SN{X:Cx}{l:Expr}{ta:TA}{elts:List Expr}{x1:Nat}{tpos p pos:Pos}(hg:Gl X "enumerate")(hm:X.mg "enumerate"=none)(ha:PA X [l] ta)(hs:starEach [l] X.env=[(false,eval l X.env)]:=by rfl) :
  PI X (.Tuple elts x1 tpos) (.Call (.Name "enumerate" p) [l] [] pos) (Ve X.K ta):=by
 intro pins s σ H R I h;refine Call_ (rP I hg hm boot_enumerate (Zbu (thn (ha pos pins s σ H _ I h) ?_) hs rfl));rintro us s1 ⟨vs,H1,I1,r1,q1⟩;obtain⟨a,e,⟨xs,hq⟩,q⟩:=q1;subst e;cases r1 with
 |cons r rr=>
  cases rr;cases r;obtain⟨its,rv,p,hz⟩:=I1.list hq;refine call_enumerate_list p.isList λh1 he hit hsz hk=>?_;refine wpAny_pyIter_enum he ?_;have I2:Inv X pins σ H1 { s1 with heap:=h1 }:=I1.kept (t':=s1.toks) hk;refine⟨s1.heap.objs.size+1,[s1.heap.objs.size+1,s1.heap.objs.size],_,_,H1,rfl,I2,MN a _ _ (by simp),⟨⟨_,he⟩,hit⟩,λb hb=>?_,q⟩
  rcases ZaA.mp hb with z|z
  ·subst z;exact I1.Fx (Nat.le_succ _) (I1.hok.fresh (Nat.le_succ _))
  ·have z:b=s1.heap.objs.size:=by simpa using z
   subst z;exact I1.Fx (Zak _) (I1.hok.fresh (Zak _))
section
variable{X:Cx}
theorem M3:OpR X (compareOp .LtE) (λx y H Q=>∃ i j,x=.str i/\y=.str j/\Q (.bl (!(decide (j.cps.toList<i.cps.toList)))) H):=by
 intro pins s σ H x y v u Q I rx ry h;obtain⟨i,j,rfl,rfl,q⟩:=h;obtain⟨t,rfl⟩:=rx;obtain⟨t',rfl⟩:=ry;exact PySem.P.le_str (Cw I q rfl)
end
structure bH(K:Frag)(mg:Str->Option Value)(x:Str)(st:Stmt)(ps:List Str):Prop where
 ex:∃ (f:Addr) (fd:FuncData),mg x=some (.ref f)/\Fun K x x st f fd/\Binds K fd ps []
def FnAt(P:Program)(w:World)(K:Frag)(mg:Str->Option Value)(base:Heap)(x:Str)(k:Nat)(ps:List Str)(sp:Sp):Prop:=
 ∃ (f:Addr) (fd:FuncData),mg x=some (.ref f)/\keepIn K (.ref f)=true/\Binds K fd ps []/\z8 P w K mg base CX0 k f fd ps sp
theorem bH.ok{P:Program}{w:World}{K:Frag}{mg:Str->Option Value}{base:Heap}{x:Str}{st:Stmt}{ps N:List Str}{k:Nat}{sp:Sp}(D:bH K mg x st ps)(S:bJ N ps (aM st))(len:∀ vs H Q E,sp vs H Q E->vs.length=ps.length)
  (hbody:∀ (f:Addr) (cdv:Value) (A:Around) (outer:List Env) (s:Shared) (H:Hp) (vs:List V) (Q:VK) (E:XK),fW k (A.deeper (envOfC x (aM st) s.heap.objs.size f cdv))->sp vs H Q E ->
   ∃ t,PSs (Js CX0 P w K mg base N x (aM st) f cdv A outer s H E).nox (bC st) t/\t { nx:=λ_ H'=>Q .non H',rt:=Q } (start N vs) H):FnAt P w K mg base x (k+1) ps sp:=by
 obtain⟨f,fd,e,F,b⟩:=D.ex;exact⟨f,fd,e,F.kp,b,F.ok S len λcdv A outer s H vs Q E=>hbody f cdv A outer s H vs Q E⟩
section
variable{X:Cx}{k:Nat}{ps:List Str}{sp:Sp}{x:Str}{p pos:Pos}{e:Expr}{es:List Expr}{t:TA}
theorem aW(G:FnAt X.prog X.w X.K X.mg X.base x k ps sp)(hr:fW k X.A)(hg:Gl X x)(ha:PA X (e::es) t)(hdb:(x==("__debug__":Str))=false:=by decide)
  (he:starEach (e::es) X.env=(false,eval e X.env)::starEach es X.env:=by rfl)(hpl:(backTo pos (starEach es X.env)).any (·.1)=false:=by rfl):PE X (.Call (.Name x p) (e::es) [] pos) (xU sp [] E0 t):=by
 obtain⟨f,fd,e1,e2,e3,e4⟩:=G;exact Sg e4 hr hg e1 e2 e3 .nil XD ha hdb he hpl
end
section
variable{X:Cx}{N:List Str}{scope:Scope}{cl:List (Str×Addr)}{C:Addr}{s2:Shared}{H2:Hp}{fp:List Addr}{x:Str}{pos:Pos}
theorem pvl(i:Nat)(hN:N[i]?=some x:=by rfl)(hv:scope.names.lookup x=some .local:=by rfl)(hd:(x==("__debug__":Str))=false:=by decide)(hcd:(x==("__classdict__":Str))=false:=by decide) :
  PE (X.comp N scope cl C s2 H2 fp) (.Name x pos) (m5 i):=Ji hN (.inl (jO (by decide) hv)) hd hcd
theorem pvf(i:Nat)(hN:N[i]?=some x:=by rfl)(hv:scope.names.lookup x=some .free:=by rfl)(hd:(x==("__debug__":Str))=false:=by decide)(hcd:(x==("__classdict__":Str))=false:=by decide) :
  PE (X.comp N scope cl C s2 H2 fp) (.Name x pos) (m5 i):=Ji hN (.inr (tY hv)) hd hcd
theorem glc(h:scope.names.lookup x=some .globalImplicit):Gl (X.comp N scope cl C s2 H2 fp) x:=jO (by decide) h
theorem di{i:Nat}(hN:N.Nodup)(hi:N[i]?=some x)(hx:scope.names.lookup x=some .local):PG (X.comp N scope cl C s2 H2 fp) (.Name x pos) (xO i):=
 bN hN hi (.inl (jO (by decide) hx)) (.inr (jO (by decide) hx))
end
section
variable{X:Cx}{x:Str}{z:Str}{pos:Pos}
theorem Gd(hg:Gl X x)(h:∃ t,X.mg x=some (.str z t))(hd:(x==("__debug__":Str))=false:=by decide):PE X (.Name x pos) (tC (.str z)):=by
 obtain⟨t,h⟩:=h;exact R4 hg h ⟨t,rfl⟩ hd
theorem xX{n:String}(hg:Gl X x)(hm:X.mg x=none)(hv:bootBuiltins x=some (.type n))(hn:x≠"__name__":=by decide)(hd:(x==("__debug__":Str))=false:=by decide):PE X (.Name x pos) (tC (.ty n)):=
 R5 hg hm hv rfl hn hd
end
theorem tyL{K:Frag}{H:Hp}{p:Addr}{xs:List V}(h:H p=some (.lst xs)):tyV K "list" (.ref p) H:=.inl ⟨rfl,xs,SqL.of h⟩
theorem dI{H:Hp}{p:Addr}{o:HO}(h:H p=none):aU H (upd H p o):=λb u e=>by rw[aG (bR e h)];exact e
theorem Az{H H1:Hp}{p:Addr}{o:HO}(h:H p=none)(s:aU H H1):aU H (upd H1 p o):=λb u e=>by rw[aG (bR e h)];exact s b u e
theorem aU.tup{K:Frag}{H H':Hp}{a:Addr}{xs:List V}(e:aU H H')(h:SqT K H a xs):SqT K H' a xs:=by
 rcases h with(h|⟨o,h⟩)|h
 ·exact .inl (.inl (e _ _ h))
 ·exact .inl (.inr ⟨o,e _ _ h⟩)
 ·exact .inr h
theorem Oz{α:Type}{xs:List α}{i:Int}(h0:0<=i)(h:i<xs.length):∃ v,atI xs i=some v/\xs[i.toNat]?=some v:=by
 have hl:i.toNat<xs.length:=by lia
 refine⟨xs[i.toNat],?_,by simp[hl]⟩
 have:=lN (xs:=xs) (j:=i.toNat) (v:=xs[i.toNat]) (by simp[hl])
 rwa [Int.toNat_of_nonneg h0] at this
theorem OD{K:Frag}{T:String}:PySem.W.kitOne K (.type T) (.type T)=some true:=by
 unfold PySem.W.kitOne;rw[Zaf (by simp)]
def YK(J:It)(g:TG)(tb:TS)(D:Ends)(σ:St)(H:Hp):Prop:=∃ W:Nat->Nat->St->Hp->Prop,(∃ m,W 0 m σ H)/\∀ i m σ H,W i m σ H ->
 (J.stop i H/\D.nx σ H)\/(J.go i H/\∃ N:St->Hp->Prop,(∀ σ' H',N σ' H'->∃ m',m'<m/\W (i+1) m' σ' H')/\∀ x H',J.yld i H x H'->g x σ H' λσ2 H2=>tb { D with nx:=N,ct:=N,bk:=D.nx } σ2 H2)
def SameBut(p:Addr)(H H':Hp):Prop:=∀ b o,H b=some o->b≠p->H' b=some o
section
variable{X:Cx}{N:List Str}{scope:Scope}{cl:List (Str×Addr)}{C:Addr}{s2:Shared}{H2:Hp}{fp:List Addr}
theorem wZ{es:List Expr}{k:Nat}{t:TGs}{n:Nat}{pos:Pos}(hc:X.calm=true)(h:PGs (X.comp N scope cl C s2 H2 fp) es t)
  (hn:(assignEach es (X.comp N scope cl C s2 H2 fp).env).length=n:=by rfl)(hst:(assignEach es (X.comp N scope cl C s2 H2 fp).env).findIdx? (·.1)=none:=by rfl):PG (X.comp N scope cl C s2 H2 fp) (.Tuple es k pos) (VH X.K n t):=xP hc h hn hst
end
theorem j9{α β:Type}(f:α->β)(xs:List α):∀ js:List Nat,(js.filterMap ((xs.map f)[·]?)).length=(js.filterMap (xs[·]?)).length
 |[]=>rfl
 |j::js=>by
  cases e:xs[j]? with
  |none=>
   have e':(xs.map f)[j]?=none:=by rw[List.getElem?_map,e];rfl
   rw[List.filterMap_cons_none e,List.filterMap_cons_none e',j9 f xs js]
  |some v=>
   have e':(xs.map f)[j]?=some (f v):=by rw[List.getElem?_map,e];rfl
   rw[List.filterMap_cons_some e,List.filterMap_cons_some e',ZaF,ZaF,j9 f xs js]
section
theorem t6{xs:List V}{its:List Value}(r:Vals xs its){j:Nat}(h:j<its.toArray.size):∃ x,xs[j]?=some x/\RelV x its.toArray[j]:=by
 have hl:j<its.length:=by simpa using h
 have hx:j<xs.length:=by rw[r.length];exact hl
 obtain⟨u,hu,ru⟩:=r.get (i:=j) (x:=xs[j]) (by simp[hx])
 refine⟨xs[j],by simp[hx],?_⟩
 have:its.toArray[j]=u:=by
  rw[List.getElem?_eq_getElem hl] at hu;simpa using hu
 rw[this];exact ru
end
section
variable{k:Nat}
theorem CV{A:Around}(hr:fW k A):A.units+32<cLine:=Nat.lt_of_le_of_lt (Nat.add_le_add_left (by decide:32<=64) _) hr.units
end
def CW(H:Hp)(xs:List V)(ps:List (Int×Int)):Prop:=xs.length=ps.length/\∀ (j:Nat) (c:Int×Int),ps[j]?=some c->∃ a,xs[j]?=some (.ref a)/\H a=some (.tup [.int c.1,.int c.2])
section
variable{κ:Type}[DecidableEq κ]
def jC(kvs:List (κ×V))(k:κ):Option V:=(kvs.find? λkv=>decide (kv.1=k)).map (·.2)
def putK(kvs:List (κ×V))(k:κ)(v:V):List (κ×V):=
 if(kvs.any λkv=>decide (kv.1=k))=true then kvs.map (λkv=>if kv.1=k then(kv.1,v) else kv) else kvs++[(k,v)]
theorem pI{p:κ×V}{r:List (κ×V)}{k:κ}(e:p.1=k):jC (p::r) k=some p.2:=by simp[jC,ZbY,e]
theorem kj{p:κ×V}{r:List (κ×V)}{k:κ}(e:¬p.1=k):jC (p::r) k=jC r k:=by simp[jC,ZbY,e]
theorem xY(k:κ):∀ kvs:List (κ×V),(kvs.any λkv=>decide (kv.1=k))=(jC kvs k).isSome
 |[]=>rfl
 |p::r=>by
  rw[ZbZ];by_cases e:p.1=k
  ·simp only[pI e,Zax e,Bool.true_or,Option.isSome_some]
  ·rw[kj e,Zaw e,Bool.false_or];exact xY k r
theorem jk(kvs:List (κ×V))(k:κ)(v:V):(putK kvs k v).length<=kvs.length+1:=by
 unfold putK;split
 ·rw[List.length_map];omega
 ·rw[List.length_append,ZaF,ZbE];omega
theorem OJ{kvs:List (κ×V)}{k:κ}(v:V)(h:jC kvs k=none):putK kvs k v=kvs++[(k,v)]:=by
 unfold putK;rw[xY,h];exact Zad (by decide)
theorem wJ.m9{o:Option V}{u:Option Value}(r:wJ o u):o.isSome=u.isSome:=by
 cases o with
 |none=>cases u with
  |none=>rfl
  |some _=>exact(show False from r).elim
 |some _=>cases u with
  |none=>exact(show False from r).elim
  |some _=>rfl
theorem wJ.getD{o:Option V}{u:Option Value}{d:V}{d':Value}(r:wJ o u)(rd:RelV d d'):RelV (o.getD d) (u.getD d'):=by
 cases o with
 |none=>cases u with
  |none=>exact rd
  |some _=>exact(show False from r).elim
 |some _=>cases u with
  |none=>exact(show False from r).elim
  |some _=>exact r
theorem KV.val{kvs:List (κ×V)}{vs:List (κ×Value)}(r:KV kvs vs)(k:κ):wJ (jC kvs k) (valueAt vs k):=by
 unfold KV at r;induction r with
 |nil=>exact True.intro
 |@cons p q ps qs h t ih=>
  obtain⟨h1,h2⟩:=h;by_cases e:p.1=k
  ·have e':q.1=k:=h1.symm.trans e;have b:valueAt (q::qs) k=some q.2:=by simp[valueAt,ZbY,e']
   rw[pI e,b];exact h2
  ·have e':¬q.1=k:=λz=>e (h1.trans z);have b:valueAt (q::qs) k=valueAt qs k:=by simp[valueAt,ZbY,e']
   rw[kj e,b];exact ih
theorem KV.any{kvs:List (κ×V)}{vs:List (κ×Value)}(r:KV kvs vs)(k:κ):(kvs.any λkv=>decide (kv.1=k))=vs.any λkv=>decide (kv.1=k):=by
 unfold KV at r;induction r with
 |nil=>rfl
 |cons h t ih=>rw[ZbZ,ZbZ,ih,h.1]
theorem KV.repl{kvs:List (κ×V)}{vs:List (κ×Value)}(r:KV kvs vs)(k:κ){y:V}{u:Value}(ry:RelV y u) :
  KV (kvs.map λkv=>if kv.1=k then(kv.1,y) else kv) (vs.map λkv=>if kv.1=k then(kv.1,u) else kv):=by
 unfold KV at r ⊢;induction r with
 |nil=>exact .nil
 |@cons p q ps qs h t ih=>
  rw[Zap,Zap];refine .cons ?_ ih;obtain⟨h1,h2⟩:=h;by_cases e:p.1=k
  ·rw[Zaf e,Zaf (h1.symm.trans e)];exact⟨h1,ry⟩
  ·rw[Zad e,Zad (λz=>e (h1.trans z))];exact⟨h1,h2⟩
theorem KV.put{kvs:List (κ×V)}{vs:List (κ×Value)}(r:KV kvs vs)(k:κ){y:V}{u:Value}(ry:RelV y u):KV (putK kvs k y) (stored vs k u):=by
 unfold putK stored;rw[r.any k];by_cases e:(vs.any λkv=>decide (kv.1=k))=true
 ·rw[Zaf e,Zaf e];exact r.repl k ry
 ·rw[Zad e,Zad e];exact Paired.snoc r ⟨rfl,ry⟩
theorem KV.length{kvs:List (κ×V)}{vs:List (κ×Value)}(r:KV kvs vs):kvs.length=vs.length:=Paired.length r
end
theorem xZ{P:Program}{w:World}{k:Key}{u:Value}(r:RelV (kV k) u):(dq P w).is k u=true:=by
 cases k with
 |inl i=>obtain⟨t,e⟩:=(show ∃ t,u=Value.int i t from r);subst e;exact Fl P w i t
 |inr x=>obtain⟨t,e⟩:=(show ∃ t,u=Value.str x t from r);subst e;exact Fo P w x t
theorem Ba{P:Program}{w:World}:∀ {ks:List Key}{us:List Value},Vals (ks.map kV) us->ItemsAre (dq P w) ks us
 |[],_,r=>by rw[List.map_nil] at r;cases r;exact .nil
 |k::ks,_,r=>by
  rw[Zap] at r;cases r with
  |cons h t=>exact .cons (xZ h) (Ba t)
noncomputable abbrev KT(H:Hp):List (List Key×V)->List (List Key×Addr×Value)->Prop:=Paired λp q=>p.1=q.1/\H q.2.1=some (.tup (p.1.map kV))/\RelV p.2 q.2.2
theorem KT.val{H:Hp}{kvs:List (List Key×V)}{xs:List (List Key×Addr×Value)}(r:KT H kvs xs)(k:List Key):wJ (jC kvs k) ((atKey xs k).map (·.2)):=by
 induction r with
 |nil=>exact True.intro
 |@cons p q ps qs h t ih=>
  obtain⟨h1,_,h2⟩:=h;by_cases e:p.1=k
  ·have e':q.1=k:=h1.symm.trans e;have b:atKey (q::qs) k=some q.2:=by simp[atKey,ZbY,e']
   rw[pI e,b];exact h2
  ·have e':¬q.1=k:=λz=>e (h1.trans z);have b:atKey (q::qs) k=atKey qs k:=by simp[atKey,ZbY,e']
   rw[kj e,b];exact ih
theorem KT.repl{H:Hp}{kvs:List (List Key×V)}{xs:List (List Key×Addr×Value)}(r:KT H kvs xs)(k:List Key){y:V}{u:Value}(ry:RelV y u) :
  KT H (kvs.map λkv=>if kv.1=k then(kv.1,y) else kv) (xs.map (putAt k u)):=by
 induction r with
 |nil=>exact .nil
 |@cons p q ps qs h t ih=>
  rw[Zap,Zap];refine .cons ?_ ih;obtain⟨h1,h2,h3⟩:=h;unfold putAt;by_cases e:p.1=k
  ·rw[Zaf e,Zaf (h1.symm.trans e)];exact⟨h1,h2,ry⟩
  ·rw[Zad e,Zad (λz=>e (h1.trans z))];exact⟨h1,h2,h3⟩
theorem KT.put{H:Hp}{kvs:List (List Key×V)}{xs:List (List Key×Addr×Value)}(r:KT H kvs xs)(k:List Key){b:Addr}{y:V}{u:Value}(hb:H b=some (.tup (k.map kV)))(ry:RelV y u) :
  KT H (putK kvs k y) (storedH xs k b u):=by
 have e:(kvs.any λkv=>decide (kv.1=k))=(atKey xs k).isSome:=by
  rw[xY,(r.val k).m9,Option.isSome_map]
 unfold putK storedH;rw[e];by_cases q:(atKey xs k).isSome=true
 ·rw[Zaf q,Zaf q];exact r.repl k ry
 ·rw[Zad q,Zad q];exact Paired.snoc r ⟨rfl,hb,ry⟩
theorem KT.keeps{H H':Hp}{kvs:List (List Key×V)}{xs:List (List Key×Addr×Value)}(r:KT H kvs xs)(ht:∀ b ys,H b=some (.tup ys)->H' b=some (.tup ys)):KT H' kvs xs:=
 Paired.VF r λ_ _ z=>⟨z.1,ht _ _ z.2.1,z.2.2⟩
section
variable{P:Program}{w:World}{H:Hp}{h:Heap}{a:Addr}
theorem Vf{u:HO}(ok:HOk P w H h)(e:Rd H a u):dW P w H h a u:=e.ok ok
theorem yc{kvs:List (Key×V)}(ok:HOk P w H h)(e:Rd H a (.dK kvs)):kvs.length<=sizeLine/\(a==sysModules)=false/\∃ vs,KV kvs vs/\h.DictOf (dq P w) a vs:=
 show dW P w H h a (.dK kvs) from Vf ok e
theorem Vg{kvs:List (Key×V)}(ok:HOk P w H h)(e:H a=some (.dK kvs)):kvs.length<=sizeLine/\(a==sysModules)=false/\∃ vs,KV kvs vs/\h.DictOf (dq P w) a vs:=yc ok (.inl e)
theorem pJ{ks:List Key}(ok:HOk P w H h)(e:H a=some (.tup (ks.map kV))):(tupleKind (dq P w)).is h ks a:=by
 obtain⟨_,its,r,⟨o,h1,h2,n,h3⟩,_⟩:=(show dW P w H h a (.tup (ks.map kV)) from ok a _ e);exact⟨o,its.toArray,n,h1,h2,h3,by simpa using Ba r⟩
theorem wu{kvs:List (List Key×V)}(ok:HOk P w H h)(e:Rd H a (.dT kvs)):kvs.length<=sizeLine/\(a==sysModules)=false /\
  ∃ xs,KT H kvs xs/\h.DictOfH (tupleKind (dq P w)) a xs:=by
 obtain⟨z,y,xs,r,o,es,ep,h1,h2,h3,h4,h5⟩:=(show dW P w H h a (.dT kvs) from Vf ok e);refine⟨z,y,xs,r,o,es,ep,h1,h2,h3,h4,λx hx=>?_,h5⟩;have all:∀ {l:List (List Key×V)}{m:List (List Key×Addr×Value)},KT H l m->∀ x∈m,(tupleKind (dq P w)).is h x.1 x.2.1:=by
  intro l m q;induction q with
  |nil=>intro x hx;exact nomatch hx
  |@cons p q ps qs hq t ih=>
   intro x hx;rcases ZaA.mp hx with e|hx
   ·subst e;exact pJ ok (by rw[<-hq.1];exact hq.2.1)
   ·exact ih x hx
 exact all r x hx
theorem O1{kvs:List (List Key×V)}(ok:HOk P w H h)(e:H a=some (.dT kvs)):kvs.length<=sizeLine/\(a==sysModules)=false /\
  ∃ xs,KT H kvs xs/\h.DictOfH (tupleKind (dq P w)) a xs:=wu ok (.inl e)
end
def t7(H:Hp)(a:Addr)(y:V)(r:Option V):Prop:=
 (∃ kvs k,Rd H a (.dK kvs)/\y=kV k/\r=jC kvs k)\/∃ kvs k b,Rd H a (.dT kvs)/\y=.ref b/\H b=some (.tup (k.map kV))/\r=jC kvs k
def t8(H:Hp)(a:Addr)(y v:V)(H':Hp):Prop:=
 (∃ kvs k,H a=some (.dK kvs)/\y=kV k/\kvs.length<sizeLine/\H'=upd H a (.dK (putK kvs k v))) \/
 ∃ kvs k b,H a=some (.dT kvs)/\y=.ref b/\H b=some (.tup (k.map kV))/\kvs.length<sizeLine/\H'=upd H a (.dT (putK kvs k v))
theorem t8.k{H:Hp}{a:Addr}{kvs:List (Key×V)}{k:Key}{v:V}(e:H a=some (.dK kvs))(hl:kvs.length<sizeLine):t8 H a (kV k) v (upd H a (.dK (putK kvs k v))):=.inl ⟨kvs,k,e,rfl,hl,rfl⟩
theorem t8.t{H:Hp}{a b:Addr}{kvs:List (List Key×V)}{k:List Key}{v:V}(e:H a=some (.dT kvs))(eb:H b=some (.tup (k.map kV)))(hl:kvs.length<sizeLine) :
  t8 H a (.ref b) v (upd H a (.dT (putK kvs k v))):=.inr ⟨kvs,k,b,e,rfl,eb,hl,rfl⟩
section
variable{X:Cx}{pins:List (Addr×Obj)}{σ:St}{H:Hp}{s:Shared}{a:Addr}{y v:V}{u r:Value}{o:Option V}{A:Around}{E:Value->Shared->Prop}
theorem Inv.big(I:Inv X pins σ H s):sysModules<s.heap.objs.size:=by
 have h:mainGlobals<s.heap.objs.size:=(I.mod.glob.keeps I.bk).lt;exact Nat.lt_trans (by decide) h
theorem M4{Q:Value->Shared->Prop}(hu:A.units+1<cLine)(I:Inv X pins σ H s)(g:t7 H a y (some v))(ry:RelV y u)(h:∀ w' s',Inv X pins σ H s'->RelV v w'->Q w' s') :
  wpAny (model X.prog X.w) A (getItem (.ref a) u) Q E s:=by
 rcases g with⟨kvs,k,e,ey,l⟩|⟨kvs,k,b,e,ey,eb,l⟩
 ·subst ey;obtain⟨z,hd,vs,rel,dd⟩:=yc I.hok e;obtain⟨w',hw,rw'⟩:=wJ.some_of (v:=v) (o:=valueAt vs k) (by rw[l];exact rel.val k)
  exact wpAny_getItem_of (xZ ry) dd.mapOf hw (h w' _ (I.tok _) rw')
 ·subst ey;cases (show u=Value.ref b from ry);obtain⟨z,hd,xs,rel,dd⟩:=wu I.hok e;obtain⟨w',hw,rw'⟩:=wJ.some_of (v:=v) (o:=(atKey xs k).map (·.2)) (by rw[l];exact rel.val k)
  obtain⟨p,hp,hp2⟩:=ZbK.mp hw;refine wpAny_getItem_heap (tupleKind_room_in1 hu) (pJ I.hok eb) dd hp ?_;rw[hp2];exact h w' _ (I.tok _) rw'
theorem YL{Q:Value->Shared->Prop}(hu:A.units+1<cLine)(I:Inv X pins σ H s)(g:t7 H a y o)(ry:RelV y u)(h:∀ s',Inv X pins σ H s'->Q (.bool o.isSome) s') :
  wpAny (model X.prog X.w) A (compareOp .In u (.ref a)) Q E s:=by
 rcases g with⟨kvs,k,e,ey,l⟩|⟨kvs,k,b,e,ey,eb,l⟩
 ·subst ey;obtain⟨z,hd,vs,rel,dd⟩:=yc I.hok e;refine wpAny_in_of (xZ ry) hd dd.mapOf ?_;rw[<-(rel.val k).m9,<-l];exact h _ (I.tok _)
 ·subst ey;cases (show u=Value.ref b from ry);obtain⟨z,hd,xs,rel,dd⟩:=wu I.hok e;refine wpAny_in_heap (tupleKind_room_in1 hu) (pJ I.hok eb) hd dd ?_;have q:=(rel.val k).m9;rw[Option.isSome_map] at q;rw[<-q,<-l];exact h _ (I.tok _)
theorem SQ{Q:Value->Shared->Prop}(hu:A.units+1<cLine)(I:Inv X pins σ H s)(g:t7 H a y o)(ry:RelV y u)(h:∀ s',Inv X pins σ H s'->Q (.bool (!o.isSome)) s') :
  wpAny (model X.prog X.w) A (compareOp .NotIn u (.ref a)) Q E s:=by
 rcases g with⟨kvs,k,e,ey,l⟩|⟨kvs,k,b,e,ey,eb,l⟩
 ·subst ey;obtain⟨z,hd,vs,rel,dd⟩:=yc I.hok e;refine wpAny_notIn_of (xZ ry) hd dd.mapOf ?_;rw[<-(rel.val k).m9,<-l];exact h _ (I.tok _)
 ·subst ey;cases (show u=Value.ref b from ry);obtain⟨z,hd,xs,rel,dd⟩:=wu I.hok e;refine wpAny_notIn_heap (tupleKind_room_in1 hu) (pJ I.hok eb) hd dd ?_;have q:=(rel.val k).m9;rw[Option.isSome_map] at q;rw[<-q,<-l];exact h _ (I.tok _)
theorem uc{h':Heap}{t':Nat}{ob:HO}(I:Inv X pins σ H s)(mu:Mut (H a))(hs:Heap.SameBut a s.heap h')(he:∃ q,h'.get? a=some q)(new:dW X.prog X.w (upd H a ob) h' a ob) :
  Inv X pins σ (upd H a ob) { s with heap:=h',toks:=t' }:=
 I.write (x:=a) (e:=a) mu (.inl rfl) (λb q hb z=>(hs.2 b hb).trans z) he new
theorem O2{P:Program}{w:World}{H':Hp}{h':Heap}{kvs:List (Key×V)}{vs:List (Key×Value)}(z:kvs.length<=sizeLine)(hd:(a==sysModules)=false)(rel:KV kvs vs)(dd:h'.DictOf (dq P w) a vs) :
  dW P w H' h' a (.dK kvs):=⟨z,hd,vs,rel,dd⟩
theorem M5{H':Hp}{Q:Unit->Shared->Prop}(hu:A.units+1<cLine)(I:Inv X pins σ H s)(g:t8 H a y v H')(ry:RelV y u)(rv:RelV v r)(h:∀ s',Inv X pins σ H' s'->Q () s') :
  wpAny (model X.prog X.w) A (setItem (.ref a) u r) Q E s:=by
 rcases g with⟨kvs,k,e,ey,l,eH⟩|⟨kvs,k,b,e,ey,eb,l,eH⟩
 ·subst ey eH;obtain⟨z,hd,vs,rel,dd⟩:=Vg I.hok e;have hz:vs.length<=sizeLine:=by rw[<-rel.length];exact z
  have hl:(putK kvs k v).length<=sizeLine:=by have:=jk kvs k v;lia
  refine wpAny_setItem_pairs (hsz:=hz) (xZ ry) dd λh' dd' hs=>h _ ?_;have he:∃ q,h'.get? a=some q:=let⟨q,_,_,hq,_⟩:=dd';⟨q,hq⟩;exact uc I (by rw[e];exact True.intro) hs he (O2 hl hd (rel.put k rv) dd')
 ·subst ey eH;cases (show u=Value.ref b from ry);obtain⟨z,hd,xs,rel,dd⟩:=O1 I.hok e;have hz:xs.length<=sizeLine:=by rw[<-Paired.length rel];exact z
  have hl:(putK kvs k v).length<=sizeLine:=by have:=jk kvs k v;lia
  refine wpAny_setItem_heap (hsz:=hz) (tupleKind_room_in1 hu) (pJ I.hok eb) dd λh' dd' hs=>h _ ?_;obtain⟨q,es,ep,hq,h2,h3,h4,_,h5⟩:=dd';refine uc I (by rw[e];exact True.intro) hs ⟨q,hq⟩ ⟨hl,hd,_,(rel.put k eb rv).keeps λc ys ec=>?_,q,es,ep,hq,h2,h3,h4,h5⟩
  rw[aG (Oe ec e (λz=>nomatch z))];exact ec
end
def V7(i:Expr):Prop:=∀ ov iv,subscripted i false ov iv=operate [ov,iv] (getItem ov iv)
theorem SX{prog:Program}{w:World}{A:Around}{E:Value->Shared->Prop}{s:Shared}{env:Env}{value slice:Expr}{pos:Pos}{T id:String}{Q:Value->Shared->Prop}
  (hl:typeLookup (.type T) "__getitem__"=pure (some (.builtin id)))(hs:V7 slice)
  (h:wpAny (model prog w) A (eval value env) (λo s₁=>wpAny (model prog w) A (eval slice env) (λi s₂=>s₂.TypeIs o T/\wpAny (model prog w) A (getItem o i) Q E s₂) E s₁) E s) :
  wpAny (model prog w) A (eval (.Subscript value slice pos) env) Q E s:=by
 refine Subscript_ (Zbx h (λo s₁ h₁=>Zbx h₁ (λi s₂ h₂=>?_) λ_ _ x=>x) λ_ _ x=>x);obtain⟨hT,h₂⟩:=h₂;unfold subscriptTail;refine Zaa ?_;rw[getitemInPython_of_ne hT.not_modules];refine Zaa (wpAny_specialOf hT hl ?_);have fin:wpAny (model prog w) A (subscripted slice false o i) (λr s₃=>wpAny (model prog w) A (letTemporaryGo value o r>>=λ_=>pure r) Q E s₃) E s₂:=by
  rw[hs o i];exact wpAny_operating (Zbx h₂ (λr s₃ h₃=>Zaa (wpAny_letTemporaryGo (Zae h₃))) λ_ _ x=>x)
 first
  |exact Zae (Zaa fin)
  |exact Zaa (Zae (Zaa fin))
  |exact Zaa fin
theorem Ge{X:Cx}{pins:List (Addr×Obj)}{σ:St}{H:Hp}{s:Shared}{a:Addr}{y:V}{o:Option V}(I:Inv X pins σ H s)(g:t7 H a y o):s.TypeIs (.ref a) "dict":=by
 rcases g with⟨kvs,k,e,_,_⟩|⟨kvs,k,b,e,_,_,_⟩
 ·obtain⟨_,_,vs,_,dd⟩:=yc I.hok e;exact dd.typeIs
 ·obtain⟨_,_,xs,_,dd⟩:=wu I.hok e;exact dd.typeIs
def O3(td ty:TE):TE:=λσ H Q=>td σ H λx H1=>ty σ H1 λy H2=>∃ a v,x=.ref a/\t7 H2 a y (some v)/\Q v H2
def O4(td ty tv:TE):TS:=λD σ H=>tv σ H λv H1=>td σ H1 λx H2=>ty σ H2 λy H3=>∃ a H4,x=.ref a/\t8 H3 a y v H4/\D.nx σ H4
section
variable{X:Cx}{o i value:Expr}{pos pos':Pos}{td ty tv:TE}
theorem S8(hu:X.A.units+1<cLine)(ho:PE X o td)(hi:PE X i ty)(hs:V7 i):PE X (.Subscript o i pos) (O3 td ty):=by
 intro pins s σ H Q I h;refine SX PySem.F.slot_dict_getitem.lookup hs (thn (ho pins s σ H _ I h) λu s1 ⟨x,H1,I1,rx,q1⟩=>thn (hi pins s1 σ H1 _ I1 q1) ?_);rintro iv s2 ⟨y,H2,I2,ry,a,v,ex,g,q2⟩;subst ex;obtain rfl:u=Value.ref a:=rx;exact⟨Ge I2 g,M4 hu I2 g ry λw' s3 I3 rw'=>⟨v,H2,I3,rw',q2⟩⟩
theorem ud(hu:X.A.units+1<cLine)(ho:PE X o td)(hi:PE X i ty)(hv:PE X value tv)(hs:swapsWith value (some (.Subscript o i pos')) pos.line X.env=pure false) :
  PS X (.Assign [.Subscript o i pos'] value pos) (O4 td ty tv):=by
 intro pins s σ H D I h;refine wpAny_Assign_Subscript (thn (hv pins s σ H _ I h) λr s1 ⟨v,H1,I1,rv,q1⟩=>thn (ho pins s1 σ H1 _ I1 q1) λu s2 ⟨x,H2,I2,rx,q2⟩=>thn (hi pins s2 σ H2 _ I2 q2) ?_) hs;rintro iv s3 ⟨y,H3,I3,ry,a,H4,ex,g,q3⟩;subst ex;obtain rfl:u=Value.ref a:=rx;exact M5 hu I3 g ry rv λs4 I4=>⟨σ,H4,I4,q3⟩
end
theorem O5{P:Program}{w:World}{H:Hp}(h:Heap)(hb:sysModules<h.objs.size):dW P w H (h.push { cls:=.type "dict",data:=.dict #[] }) h.objs.size (.dK []):=
 ⟨Zba _,beq_eq_false_iff_ne.mpr (Zbr (ZaG hb)),[],.nil,Heap.DictOf.new h⟩
theorem Gf{P:Program}{w:World}{H:Hp}(h:Heap)(hb:sysModules<h.objs.size):dW P w H (h.push { cls:=.type "dict",data:=.dict #[] }) h.objs.size (.dT []):=
 ⟨Zba _,beq_eq_false_iff_ne.mpr (Zbr (ZaG hb)),[],.nil,_,#[],0,Zaq _ rfl,⟨rfl,rfl,rfl⟩,rfl,rfl,List.nodup_nil⟩
def O6:TE:=λ_ H Q=>∀ p,H p=none->Q (.ref p) (upd H p (.dT []))
section
variable{X:Cx}{pos:Pos}
theorem ni:PE X (.Dict [] [] pos) O6:=λpins s σ H Q I h=>
 wpAny_Dict_empty ⟨.ref s.heap.objs.size,_,I.laid (a:=s.heap.objs.size) (o:=.dT []) (t':=s.toks) (λ_ _ q=>Zah _ q) (Zak _) (Gf s.heap I.big),rfl,h _ (I.hok.fresh (Zak _))⟩
end
def O7:List (TE×TE)->St->Hp->(List (V×V)->Hp->Prop)->Prop
 |[],_,H,Q=>Q [] H
 |(tk,tv)::r,σ,H,Q=>tk σ H λx H1=>tv σ H1 λy H2=>O7 r σ H2 λps H3=>Q ((x,y)::ps) H3
noncomputable abbrev VV:List (V×V)->List (Value×Value)->Prop:=Paired λp q=>RelV p.1 q.1/\RelV p.2 q.2
def PPs(X:Cx)(pos:Pos)(keys:List (Option Expr))(values:List Expr)(trs:List (TE×TE)):Prop:=
 ∀ (pins:List (Addr×Obj)) (s:Shared) (σ:St) (H:Hp) (Q:List (V×V)->Hp->Prop),Inv X pins σ H s->O7 trs σ H Q ->
  wpAny (model X.prog X.w) X.A (evalPairs (pairTrees keys values X.env pos)) (λvs s'=>∃ ps H',Inv X pins σ H' s'/\VV ps vs/\Q ps H') X.xe s
structure M1(X:Cx)(o:Expr)(m:Str)(apos:Pos)(e:Expr)(cpos:Pos):Prop where
 base:attributeBase o m X.env (eval o X.env)=eval o X.env
 few:((backTo cpos (starEach [e] X.env)).all (λx=>!x.1)&&(backToKw cpos (keywordEach [] X.env)).all (λx=>x.1.isSome)
  && decide (([e]:List Expr).length+([]:List Keyword).length+(if([]:List Keyword).isEmpty then 0 else 1)<30))=true
 line:(apos.endLine==cpos.line)=true
 trees:backTo cpos (starEach [e] X.env)=[(false,eval e X.env)]
structure M2(X:Cx)(o:Expr)(m:Str)(apos:Pos)(e f:Expr)(cpos:Pos):Prop where
 base:attributeBase o m X.env (eval o X.env)=eval o X.env
 few:((backTo cpos (starEach [e,f] X.env)).all (λx=>!x.1)&&(backToKw cpos (keywordEach [] X.env)).all (λx=>x.1.isSome)
  && decide (([e,f]:List Expr).length+([]:List Keyword).length+(if([]:List Keyword).isEmpty then 0 else 1)<30))=true
 line:(apos.endLine==cpos.line)=true
 trees:backTo cpos (starEach [e,f] X.env)=[(false,eval e X.env),(false,eval f X.env)]
def IsD(H:Hp)(a:Addr):Prop:=(∃ kvs,Rd H a (.dK kvs))\/∃ kvs,Rd H a (.dT kvs)
theorem Jx{X:Cx}{pins:List (Addr×Obj)}{σ:St}{H:Hp}{s:Shared}{a:Addr}(I:Inv X pins σ H s)(d:IsD H a) :
  s.TypeIs (.ref a) "dict"/\(∀ b,Value.ref a=.ref b->∃ ob,s.heap.get? b=some ob/\ob.dict=none)/\(a==sysModules)=false:=by
 rcases d with⟨kvs,e⟩|⟨kvs,e⟩
 ·obtain⟨_,hd,vs,_,dd⟩:=yc I.hok e;refine⟨dd.typeIs,λb q=>?_,hd⟩;cases q;obtain⟨ob,_,_,h1,h2,_⟩:=dd;exact⟨ob,h1,h2.2.1⟩
 ·obtain⟨_,hd,xs,_,dd⟩:=wu I.hok e;refine⟨dd.typeIs,λb q=>?_,hd⟩;cases q;obtain⟨ob,_,_,h1,h2,_⟩:=dd;exact⟨ob,h1,h2.2.1⟩
section
variable{X:Cx}{pins:List (Addr×Obj)}{σ:St}{H:Hp}{s:Shared}{a:Addr}{y:V}{u:Value}{o:Option V}{A:Around}{E:Value->Shared->Prop}
theorem V8{Q:Value->Shared->Prop}(hu:A.units+1<cLine)(I:Inv X pins σ H s)(g:t7 H a y o)(ry:RelV y u)(h:∀ w' s',Inv X pins σ H s'->RelV (o.getD .non) w'->Q w' s') :
  wpAny (model X.prog X.w) A (call (.builtin "dict.get") [.ref a,u]) Q E s:=by
 rcases g with⟨kvs,k,e,ey,l⟩|⟨kvs,k,b,e,ey,eb,l⟩
 ·subst ey;obtain⟨z,hd,vs,rel,dd⟩:=yc I.hok e;refine call_meetsIn PySem.F.slot_dict_get dd.typeIs PySem.F.entry_dict_get (PySem.F.args_dict_get_2 _ _) (meets_dict_get (dq X.prog X.w) a (xZ ry) hd) ⟨_,dd.mapOf,h _ _ (I.tok _) ?_⟩;rw[l];exact(rel.val k).getD rfl
 ·subst ey;cases (show u=Value.ref b from ry);obtain⟨z,hd,xs,rel,dd⟩:=wu I.hok e;refine call_meetsIn PySem.F.slot_dict_get dd.typeIs PySem.F.entry_dict_get (PySem.F.args_dict_get_2 _ _) (meetsH_dict_get (tupleKind (dq X.prog X.w)) a b hd) ⟨tupleKind_room_in1 hu,k,xs,pJ I.hok eb,dd,h _ _ (I.tok _) ?_⟩;rw[l];exact(rel.val k).getD rfl
end
def Jy(td ty:TE):TE:=λσ H Q=>td σ H λx H1=>∃ a,x=.ref a/\IsD H1 a/\ty σ H1 λy H2=>∃ o,t7 H2 a y o/\Q (o.getD .non) H2
section
variable{X:Cx}{o e:Expr}{apos cpos:Pos}{td ty:TE}
theorem O8(hu:X.A.units+1<cLine)(ho:PE X o td)(he:PE X e ty)(m:M1 X o "get" apos e cpos):PE X (.Call (.Attribute o "get" apos) [e] [] cpos) (Jy td ty):=by
 intro pins s σ H Q I h;refine wpAny_Call_method m.base m.few m.line PySem.F.plainAttrs_dict PySem.F.slot_dict_get PySem.F.type_dict_get (thn (ho pins s σ H _ I h) ?_);rintro u s1 ⟨x,H1,I1,rx,a,ex,d,q1⟩;subst ex;obtain rfl:u=Value.ref a:=rx;obtain⟨t1,t2,_⟩:=Jx I1 d;refine⟨t1,t2,?_⟩;rw[m.trees];refine Calls.callWith_builtin rfl (Calls.evalArgs_plain (Calls.spliced_cons (thn (he pins s1 σ H1 _ I1 q1) λiv s2 ⟨y,H2,I2,ry,ov,g,q2⟩=>Calls.spliced_nil ?_)));exact V8 hu I2 g ry λw' s3 I3 rw'=>⟨_,H2,I3,rw',q2⟩
end
end L2
namespace L2.MP
open PySem PySem.Spec PyProof.Rows
inductive PV where
 |non|bl (b:Bool)|int (i:Int)|str (x:Str)|ty (n:String)
 |tup (l:List PV)|lst (l:List PV)|dk (l:List (Key×PV))|dt (l:List (List Key×PV))
 |exc (c:Str) (fs:List (Str×PV))
noncomputable instance:Inhabited PV:=⟨.non⟩
def PV.flat:PV->Bool
 |.non|.bl _|.int _|.str _|.ty _=>true
 |_=>false
def pK:Nat->PV->Bool
 |0,p=>p.flat
 |n+1,.tup l=>l.all (pK n)
 |_+1,p=>p.flat
def PV.still(p:PV):Bool:=pK 5 p
inductive Res(α:Type) where
 |ok (a:α)|ex (z:PV)
def bnd{α β:Type}(x:Option (Res α))(k:α->Option (Res β)):Option (Res β):=match x with
 |some (.ok a)=>k a
 |some (.ex z)=>some (.ex z)
 |none=>none
def XO(e C:Addr)(d:Option Addr):HO:=.ext λh=>∃ vs:Array Value,h.get? e=some { cls:=.ref C,dict:=d,data:=.fields vs }
structure XNm(K:Frag)(C:Addr)(c:Str):Prop where
 ns:nsIn K mainGlobals c=some (some (.ref C))
 cl:∃ cd,PySem.W.clsIn K C=some cd/\cd.name=c
inductive Rep(K:Frag)(F:Hp):V->PV->Prop
 |non:Rep K F .non .non
 |bl {b:Bool}:Rep K F (.bl b) (.bl b)
 |int {i:Int}:Rep K F (.int i) (.int i)
 |str {x:Str}:Rep K F (.str x) (.str x)
 |ty {n:String}:Rep K F (.ty n) (.ty n)
 |tup {a:Addr}{xs:List V}{l:List PV} (h:F a=some (.tup xs)) (hl:xs.length=l.length) (hr:∀ (j:Nat) x p,xs[j]?=some x->l[j]?=some p->Rep K F x p):Rep K F (.ref a) (.tup l)
 |lst {a:Addr}{xs:List V}{l:List PV} (h:SqL K F a xs) (hl:xs.length=l.length) (hr:∀ (j:Nat) x p,xs[j]?=some x->l[j]?=some p->Rep K F x p):Rep K F (.ref a) (.lst l)
 |dk {a:Addr}{xs:List (Key×V)}{l:List (Key×PV)} (h:Rd F a (.dK xs)) (hl:xs.map (·.1)=l.map (·.1)) (hr:∀ (j:Nat) x p,xs[j]?=some x->l[j]?=some p->Rep K F x.2 p.2):Rep K F (.ref a) (.dk l)
 |dt {a:Addr}{xs:List (List Key×V)}{l:List (List Key×PV)} (h:Rd F a (.dT xs)) (hl:xs.map (·.1)=l.map (·.1)) (hr:∀ (j:Nat) x p,xs[j]?=some x->l[j]?=some p->Rep K F x.2 p.2):Rep K F (.ref a) (.dt l)
 |exc {a C dx:Addr}{c:Str}{xs:List (Str×V)}{l:List (Str×PV)} (nm:XNm K C c) (h:F a=some (XO a C (some dx))) (hd:F dx=some (.xd xs)) (hl:xs.map (·.1)=l.map (·.1)) (hr:∀ (j:Nat) x p,xs[j]?=some x->l[j]?=some p->Rep K F x.2 p.2):Rep K F (.ref a) (.exc c l)
 |exc0 {a C:Addr}{c:Str} (nm:XNm K C c) (h:F a=some (XO a C none)):Rep K F (.ref a) (.exc c [])
def bK(K:Frag)(F:Hp)(xs:List V)(l:List PV):Prop:=xs.length=l.length/\∀ (j:Nat) x p,xs[j]?=some x->l[j]?=some p->Rep K F x p
section
variable{K:Frag}{F F':Hp}{v:V}{p:PV}{xs ys:List V}{l m:List PV}
theorem _root_.L2.Rd.same{F F':Hp}{a:Addr}{u:HO}(h:Rd F a u)(s:aU F F'):Rd F' a u:=h.imp (s _ _) λ⟨o,e⟩=>⟨o,s _ _ e⟩
theorem Rep.up(h:Rep K F v p)(s:aU F F'):Rep K F' v p:=by
 induction h with
 |non=>exact .non
 |bl=>exact .bl
 |int=>exact .int
 |str=>exact .str
 |ty=>exact .ty
 |tup h hl _ ih=>exact .tup (s _ _ h) hl ih
 |lst h hl _ ih=>exact .lst (s.seq h) hl ih
 |dk h hl _ ih=>exact .dk (h.same s) hl ih
 |dt h hl _ ih=>exact .dt (h.same s) hl ih
 |exc nm h hd hl _ ih=>exact .exc nm (s _ _ h) (s _ _ hd) hl ih
 |exc0 nm h=>exact .exc0 nm (s _ _ h)
theorem bK.up(h:bK K F xs l)(s:aU F F'):bK K F' xs l:=⟨h.1,λj x p a b=>(h.2 j x p a b).up s⟩
theorem Rep.free(h:Rep K F v p)(hf:p.flat=true):Rep K F' v p:=by
 cases h with
 |non=>exact .non
 |bl=>exact .bl
 |int=>exact .int
 |str=>exact .str
 |ty=>exact .ty
 |tup=>cases hf
 |lst=>cases hf
 |dk=>cases hf
 |dt=>cases hf
 |exc=>cases hf
 |exc0=>cases hf
theorem bK.nil:bK K F [] []:=⟨rfl,λj x p h=>by simp at h⟩
theorem bK.cons(h:Rep K F v p)(t:bK K F xs l):bK K F (v::xs) (p::l):=by
 refine⟨by simp[t.1],λj x q a b=>?_⟩
 cases j with
 |zero=>simp at a b;subst a b;exact h
 |succ j=>exact t.2 j x q (by simpa using a) (by simpa using b)
theorem bK.append(h:bK K F xs l)(t:bK K F ys m):bK K F (xs++ys) (l++m):=by
 refine⟨by rw[List.length_append,List.length_append,h.1,t.1],λj x p a b=>?_⟩
 by_cases hj:j<xs.length
 ·rw[Zal hj] at a;rw[Zal (by rw[<-h.1];exact hj)] at b
  exact h.2 j x p a b
 ·rw[Zat (by lia)] at a
  rw[Zat (by rw[<-h.1];lia),<-h.1] at b
  exact t.2 _ x p a b
theorem bK.snoc(h:bK K F xs l)(t:Rep K F v p):bK K F (xs++[v]) (l++[p]):=h.append (bK.nil.cons t)
theorem bK.get(h:bK K F xs l){j:Nat}(e:l[j]?=some p):∃ x,xs[j]?=some x/\Rep K F x p:=by
 have hj:j<xs.length:=by rw[h.1];exact(Zab.mp e).1
 exact⟨xs[j],by simp[hj],h.2 j _ p (by simp[hj]) e⟩
theorem bK.got(h:bK K F xs l){j:Nat}(e:xs[j]?=some v):∃ p,l[j]?=some p/\Rep K F v p:=by
 have hj:j<l.length:=by rw[<-h.1];exact(Zab.mp e).1
 exact⟨l[j],by simp[hj],h.2 j v _ e (by simp[hj])⟩
theorem bK.take(h:bK K F xs l)(n:Nat):bK K F (xs.take n) (l.take n):=by
 refine⟨by simp[h.1],λj x p a b=>?_⟩
 rw[List.getElem?_take] at a b;split at a
 ·rename_i hj;rw[Zaf hj] at b;exact h.2 j x p a b
 ·cases a
theorem bK.drop(h:bK K F xs l)(n:Nat):bK K F (xs.drop n) (l.drop n):=by
 refine⟨by simp[h.1],λj x p a b=>?_⟩
 rw[List.getElem?_drop] at a b;exact h.2 _ x p a b
theorem bK.dJ(h:bK K F xs (p::l)):∃ v ys,xs=v::ys/\Rep K F v p/\bK K F ys l:=by
 obtain⟨hl,hr⟩:=h
 match xs,hl,hr with
 |[],hl,_=>simp at hl
 |v::ys,hl,hr=>exact⟨v,ys,rfl,hr 0 v p rfl rfl,by simpa using hl,λj x q a b=>hr (j+1) x q (by simpa using a) (by simpa using b)⟩
theorem bK.ji(h:bK K F xs []):xs=[]:=by
 have:=h.1;simpa using this
theorem bK.CZ:∀ (ns:List Int),bK K F (ns.map V.int) (ns.map PV.int)
 |[]=>.nil
 |n::ns=>(bK.CZ ns).cons .int
theorem Rep.bD{i:Int}(h:Rep K F v (.int i)):v=.int i:=by cases h;rfl
theorem Rep.iW{b:Bool}(h:Rep K F v (.bl b)):v=.bl b:=by cases h;rfl
theorem Rep.b8{z:Str}(h:Rep K F v (.str z)):v=.str z:=by cases h;rfl
theorem Rep.fX(h:Rep K F v .non):v=.non:=by cases h;rfl
theorem Rep.V9{n:String}(h:Rep K F v (.ty n)):v=.ty n:=by cases h;rfl
theorem Rep.cL(h:Rep K F v (.tup l)):∃ a xs,v=.ref a/\SqT K F a xs/\bK K F xs l:=by cases h with|tup h hl hr=>exact⟨_,_,rfl,SqT.of h,hl,hr⟩
theorem Rep.ue(h:Rep K F v (.tup l)):∃ a xs,v=.ref a/\F a=some (.tup xs)/\bK K F xs l:=by cases h with|tup h hl hr=>exact⟨_,_,rfl,h,hl,hr⟩
theorem Rep.cg(h:Rep K F v (.lst l)):∃ a xs,v=.ref a/\SqL K F a xs/\bK K F xs l:=by cases h with|lst h hl hr=>exact⟨_,_,rfl,h,hl,hr⟩
end
structure Cf where
 io:Addr->Prop
 nw:Prop
 H0:Hp
 F0:Hp
 E:XK
inductive Sl where
 |sh (p:PV)|ow (p:PV)|dp (p:PV)
noncomputable abbrev Rho:=List (Option Sl)
def Own(K:Frag)(F H:Hp)(a:Addr):PV->Prop
 |.lst l=>∃ xs,H a=some (.lst xs)/\bK K F xs l
 |.dk l=>∃ xs,H a=some (.dK xs)/\xs.map (·.1)=l.map (·.1)/\∀ (j:Nat) x p,xs[j]?=some x->l[j]?=some p->Rep K F x.2 p.2
 |.dt l=>∃ xs,H a=some (.dT xs)/\xs.map (·.1)=l.map (·.1)/\∀ (j:Nat) x p,xs[j]?=some x->l[j]?=some p->Rep K F x.2 p.2
 |_=>False
inductive Dp(K:Frag)(F H:Hp):(Addr->Prop)->V->PV->Prop
 |fr {P:Addr->Prop}{v:V}{p:PV} (h:Rep K F v p) (st:p.still=true):Dp K F H P v p
 |lst {P:Addr->Prop}{S:Nat->Addr->Prop}{a:Addr}{xs:List V}{l:List PV} (h:H a=some (.lst xs)) (hp:P a) (hs:∀ j b,S j b->P b/\b≠a) (dj:∀ i j b,S i b->S j b->i=j) (hl:xs.length=l.length)
   (hr:∀ (j:Nat) x p,xs[j]?=some x->l[j]?=some p->Dp K F H (S j) x p):Dp K F H P (.ref a) (.lst l)
 |tup {P:Addr->Prop}{S:Nat->Addr->Prop}{a:Addr}{xs:List V}{l:List PV} (h:H a=some (.tup xs)) (hs:∀ j b,S j b->P b) (dj:∀ i j b,S i b->S j b->i=j) (hl:xs.length=l.length)
   (hr:∀ (j:Nat) x p,xs[j]?=some x->l[j]?=some p->Dp K F H (S j) x p):Dp K F H P (.ref a) (.tup l)
 |dk {P:Addr->Prop}{S:Nat->Addr->Prop}{a:Addr}{xs:List (Key×V)}{l:List (Key×PV)} (h:H a=some (.dK xs)) (hp:P a) (hs:∀ j b,S j b->P b/\b≠a) (dj:∀ i j b,S i b->S j b->i=j) (hl:xs.map (·.1)=l.map (·.1))
   (hr:∀ (j:Nat) x p,xs[j]?=some x->l[j]?=some p->Dp K F H (S j) x.2 p.2):Dp K F H P (.ref a) (.dk l)
 |dt {P:Addr->Prop}{S:Nat->Addr->Prop}{a:Addr}{xs:List (List Key×V)}{l:List (List Key×PV)} (h:H a=some (.dT xs)) (hp:P a) (hs:∀ j b,S j b->P b/\b≠a) (dj:∀ i j b,S i b->S j b->i=j) (hl:xs.map (·.1)=l.map (·.1))
   (hr:∀ (j:Nat) x p,xs[j]?=some x->l[j]?=some p->Dp K F H (S j) x.2 p.2):Dp K F H P (.ref a) (.dt l)
section
variable{K:Frag}{F F' H H':Hp}{v:V}{p:PV}{P P':Addr->Prop}
theorem Dp.mono(h:Dp K F H P v p)(m:∀ b,P b->P' b):Dp K F H P' v p:=by
 cases h with
 |fr h st=>exact .fr h st
 |lst h hp hs dj hl hr=>exact .lst h (m _ hp) (λj b q=>⟨m _ (hs j b q).1,(hs j b q).2⟩) dj hl hr
 |tup h hs dj hl hr=>exact .tup h (λj b q=>m _ (hs j b q)) dj hl hr
 |dk h hp hs dj hl hr=>exact .dk h (m _ hp) (λj b q=>⟨m _ (hs j b q).1,(hs j b q).2⟩) dj hl hr
 |dt h hp hs dj hl hr=>exact .dt h (m _ hp) (λj b q=>⟨m _ (hs j b q).1,(hs j b q).2⟩) dj hl hr
theorem Dp.up(h:Dp K F H P v p)(sf:aU F F')(sh:∀ b o,P b->H b=some o->H' b=some o)(ht:∀ b ys,H b=some (.tup ys)->H' b=some (.tup ys)):Dp K F' H' P v p:=by
 induction h with
 |fr h st=>exact .fr (h.up sf) st
 |lst h hp hs dj hl _ ih=>exact .lst (sh _ _ hp h) hp hs dj hl λj x p e1 e2=>ih j x p e1 e2 λb o q=>sh b o (hs j b q).1
 |tup h hs dj hl _ ih=>exact .tup (ht _ _ h) hs dj hl λj x p e1 e2=>ih j x p e1 e2 λb o q=>sh b o (hs j b q)
 |dk h hp hs dj hl _ ih=>exact .dk (sh _ _ hp h) hp hs dj hl λj x p e1 e2=>ih j x p e1 e2 λb o q=>sh b o (hs j b q).1
 |dt h hp hs dj hl _ ih=>exact .dt (sh _ _ hp h) hp hs dj hl λj x p e1 e2=>ih j x p e1 e2 λb o q=>sh b o (hs j b q).1
theorem Dp.seen(h:Dp K F H P v p)(sf:aU F F')(sh:∀ b o,P b->H b=some o->F' b=some o)(ht:∀ b ys,H b=some (.tup ys)->F' b=some (.tup ys)):Rep K F' v p:=by
 induction h with
 |fr h st=>exact h.up sf
 |lst h hp hs dj hl _ ih=>exact .lst (SqL.of (sh _ _ hp h)) hl λj x p e1 e2=>ih j x p e1 e2 λb o q=>sh b o (hs j b q).1
 |tup h hs dj hl _ ih=>exact .tup (ht _ _ h) hl λj x p e1 e2=>ih j x p e1 e2 λb o q=>sh b o (hs j b q)
 |dk h hp hs dj hl _ ih=>exact .dk (.inl (sh _ _ hp h)) hl λj x p e1 e2=>ih j x p e1 e2 λb o q=>sh b o (hs j b q).1
 |dt h hp hs dj hl _ ih=>exact .dt (.inl (sh _ _ hp h)) hl λj x p e1 e2=>ih j x p e1 e2 λb o q=>sh b o (hs j b q).1
end
structure RD(K:Frag)(C:Cf)(F H:Hp)(σ:St)(ρ:Rho)(P:Nat->Addr->Prop):Prop where
 own:∀ i b,P i b->F b=none/\(∃ o,H b=some o/\∀ ys,o≠.tup ys)/\C.nw/\C.H0 b=none
 dis:∀ i j b,P i b->P j b->i=j
 ow:∀ (i j:Nat) q b,P i b->ρ[j]?=some (some (.ow q))->σ[j]?≠some (some (.ref b))
 dp:∀ (i:Nat) p,ρ[i]?=some (some (.dp p))->∃ v,σ[i]?=some (some v)/\Dp K F H (P i) v p
theorem RD.no{K:Frag}{C:Cf}{F H:Hp}{σ:St}{ρ:Rho}(h:∀ (i:Nat) p,ρ[i]?≠some (some (.dp p))):RD K C F H σ ρ (λ_ _=>False):=
 ⟨λ_ _ q=>q.elim,λ_ _ _ q=>q.elim,λ_ _ _ _ q=>q.elim,λi p e=>absurd e (h i p)⟩
def Frz(H:Hp)(b:Addr)(o:HO):Prop:=H b=none\/∃ ys,o=.tup ys
structure RB(C:Cf)(F H:Hp):Prop where
 sub:aU F H
 keep:∀ b o,C.H0 b=some o->¬C.io b->H b=some o
 new:∀ b o,F b=some o->C.F0 b=some o\/Frz C.H0 b o
 ios:∀ b,C.io b->H b≠none/\C.H0 b≠none
structure RE(K:Frag)(C:Cf)(F H:Hp)(σ:St)(ρ:Rho):Prop where
 rb:RB C F H
 len:σ.length=ρ.length
 sh:∀ (i:Nat) p,ρ[i]?=some (some (.sh p))->∃ v,σ[i]?=some (some v)/\Rep K F v p
 ow:∀ (i:Nat) p,ρ[i]?=some (some (.ow p))->∃ a,σ[i]?=some (some (.ref a))/\Own K F H a p/\F a=none/\(C.io a\/(C.nw/\C.H0 a=none))
 dis:∀ (i j:Nat) p q a,ρ[i]?=some (some (.ow p))->ρ[j]?=some (some (.ow q))->σ[i]?=some (some (.ref a))->σ[j]?=some (some (.ref a))->i=j
 dd:∃ P,RD K C F H σ ρ P
structure Up(F H F' H':Hp):Prop where
 ff:aU F F'
 hh:aU H H'
 fr:∀ b o,F' b=some o->F b=some o\/Frz H b o
 fh:aU F' H'
section
variable{K:Frag}{C:Cf}{F F1 F2 F' H H1 H2 H':Hp}{σ:St}{ρ:Rho}{a:Addr}{p:PV}{v:V}
theorem Up.refl(s:aU F H):Up F H F H:=⟨aU.refl _,aU.refl _,λ_ _ h=>.inl h,s⟩
theorem Up.trans(a:Up F H F1 H1)(b:Up F1 H1 F2 H2):Up F H F2 H2:=
 ⟨a.ff.trans b.ff,a.hh.trans b.hh,λc o h=>(b.fr c o h).elim (a.fr c o) λn=>.inr (n.imp (λn=>a.hh.free n) id),b.fh⟩
theorem Own.ne(h:Own K F H a p):∃ o,H a=some o:=by
 cases p with
 |lst l=>obtain⟨xs,e,_⟩:=h;exact⟨_,e⟩
 |dk l=>obtain⟨xs,e,_⟩:=h;exact⟨_,e⟩
 |dt l=>obtain⟨xs,e,_⟩:=h;exact⟨_,e⟩
 |_=>exact h.elim
theorem Own.ww{ys:List V}(h:Own K F H a p)(e:H a=some (.tup ys)):False:=by
 cases p with
 |lst l=>obtain⟨xs,e',_⟩:=h;rw[e] at e';cases e'
 |dk l=>obtain⟨xs,e',_⟩:=h;rw[e] at e';cases e'
 |dt l=>obtain⟨xs,e',_⟩:=h;rw[e] at e';cases e'
 |_=>exact h.elim
theorem RD.up{P:Nat->Addr->Prop}(d:RD K C F H σ ρ P)(u:Up F H F' H'):RD K C F' H' σ ρ P where
 own:=λi b q=>by
  obtain⟨a1,⟨o',a2,a3⟩,a4⟩:=d.own i b q;refine⟨?_,⟨o',u.hh _ _ a2,a3⟩,a4⟩;cases e:F' b with
  |none=>rfl
  |some o=>
   rcases u.fr b o e with z|z|⟨ys,z⟩
   ·rw[a1] at z;cases z
   ·rw[a2] at z;cases z
   ·subst z;have w:=u.fh _ _ e;rw[u.hh _ _ a2] at w;cases w;exact absurd rfl (a3 ys)
 dis:=d.dis
 ow:=d.ow
 dp:=λi p e=>let⟨v,e1,e2⟩:=d.dp i p e;⟨v,e1,e2.up u.ff (λb o _ q=>u.hh b o q) λb ys q=>u.hh b _ q⟩
theorem Own.up(h:Own K F H a p)(sf:aU F F')(sh:∀ o,H a=some o->H' a=some o):Own K F' H' a p:=by
 cases p with
 |lst l=>obtain⟨xs,e,r⟩:=h;exact⟨xs,sh _ e,r.up sf⟩
 |dk l=>obtain⟨xs,e,r,q⟩:=h;exact⟨xs,sh _ e,r,λj x p a b=>(q j x p a b).up sf⟩
 |dt l=>obtain⟨xs,e,r,q⟩:=h;exact⟨xs,sh _ e,r,λj x p a b=>(q j x p a b).up sf⟩
 |_=>exact h.elim
theorem Own.frozen(h:Own K F H a p)(hn:F a=none):∃ o,H a=some o/\Rep K (upd F a o) (.ref a) p:=by
 have s:∀ o,aU F (upd F a o):=λo=>dI hn;cases p with
 |lst l=>obtain⟨xs,e,r⟩:=h;exact⟨_,e,.lst (SqL.of aN) r.1 (r.up (s _)).2⟩
 |dk l=>obtain⟨xs,e,r,q⟩:=h;exact⟨_,e,.dk (.inl aN) r λj x p a b=>(q j x p a b).up (s _)⟩
 |dt l=>obtain⟨xs,e,r,q⟩:=h;exact⟨_,e,.dt (.inl aN) r λj x p a b=>(q j x p a b).up (s _)⟩
 |_=>exact h.elim
theorem Own.lent(h:Own K F H a p)(s:aU F H):Rep K H (.ref a) p:=by
 cases p with
 |lst l=>obtain⟨xs,e,r⟩:=h;exact .lst (SqL.of e) r.1 (r.up s).2
 |dk l=>obtain⟨xs,e,r,q⟩:=h;exact .dk (.inl e) r λj x p a b=>(q j x p a b).up s
 |dt l=>obtain⟨xs,e,r,q⟩:=h;exact .dt (.inl e) r λj x p a b=>(q j x p a b).up s
 |_=>exact h.elim
theorem RB.up(h:RB C F H)(u:Up F H F' H'):RB C F' H' where
 sub:=u.fh
 keep:=λb o e n=>u.hh _ _ (h.keep b o e n)
 new:=λb o e=>(u.fr b o e).elim (h.new b o) λn=>.inr (n.imp (λn=>by
  cases q:C.H0 b with
  |none=>rfl
  |some o'=>
   by_cases hi:C.io b
   ·exact absurd n (h.ios b hi).1
   ·rw[h.keep b o' q hi] at n;cases n) id)
 ios:=λb hb=>⟨λn=>(h.ios b hb).1 (u.hh.free n),(h.ios b hb).2⟩
theorem RB.uf(h:RB C F H){b:Addr}(n:H b=none):C.H0 b=none:=by
 cases q:C.H0 b with
 |none=>rfl
 |some o'=>
  by_cases hi:C.io b
  ·exact absurd n (h.ios b hi).1
  ·rw[h.keep b o' q hi] at n;cases n
theorem RE.up(h:RE K C F H σ ρ)(u:Up F H F' H'):RE K C F' H' σ ρ where
 rb:=h.rb.up u
 len:=h.len
 sh:=λi p e=>let⟨v,e1,e2⟩:=h.sh i p e;⟨v,e1,e2.up u.ff⟩
 ow:=λi p e=>by
  obtain⟨a,e1,e2,e3,e4⟩:=h.ow i p e;refine⟨a,e1,e2.up u.ff λo q=>u.hh _ _ q,?_,e4⟩;cases q:F' a with
  |none=>rfl
  |some o=>
   obtain⟨o',eo⟩:=e2.ne;rcases u.fr a o q with z|z|⟨ys,z⟩
   ·rw[e3] at z;cases z
   ·rw[eo] at z;cases z
   ·subst z;exact absurd (u.fh _ _ q) (λw=>by rw[u.hh _ _ eo] at w;cases w;exact e2.ww eo)
 dis:=h.dis
 dd:=let⟨P,d⟩:=h.dd;⟨P,d.up u⟩
theorem get_set{α:Type}{l:List α}{i j:Nat}{x y:α}(h:(l.set i x)[j]?=some y):(i=j/\x=y)\/(i≠j/\l[j]?=some y):=by
 rw[List.getElem?_set] at h;by_cases e:i=j
 ·subst e;rw[Zaf rfl] at h;split at h
  ·exact .inl ⟨rfl,Zac h⟩
  ·cases h
 ·rw[Zad e] at h;exact .inr ⟨e,h⟩
theorem cU{α:Type}{l:List α}{j:Nat}{y:α}(h:l[j]?=some y):j<l.length:=(Zab.mp h).1
theorem RE.set(h:RE K C F H σ ρ)(i:Nat)(r:Rep K F v p):RE K C F H (σ.set i (some v)) (ρ.set i (some (.sh p))) where
 rb:=h.rb
 len:=by simp[h.len]
 sh:=λj q e=>by
  rcases get_set e with⟨e1,e2⟩|⟨e1,e2⟩
  ·subst e1;cases e2;have:=cU e;exact⟨v,by rw[Za2 (by rw[h.len];simpa using this)],r⟩
  ·obtain⟨w,e3,e4⟩:=h.sh j q e2;exact⟨w,by rw[Zar e1];exact e3,e4⟩
 ow:=λj q e=>by
  rcases get_set e with⟨e1,e2⟩|⟨e1,e2⟩
  ·cases e2
  ·obtain⟨w,e3,e4⟩:=h.ow j q e2;exact⟨w,by rw[Zar e1];exact e3,e4⟩
 dis:=λj k q q' a e e' f f'=>by
  rcases get_set e with⟨e1,e2⟩|⟨e1,e2⟩
  ·cases e2
  ·rcases get_set e' with⟨e1',e2'⟩|⟨e1',e2'⟩
   ·cases e2'
   ·rw[Zar e1] at f;rw[Zar e1'] at f';exact h.dis j k q q' a e2 e2' f f'
 dd:=let⟨P,d⟩:=h.dd;⟨P,d.own,d.dis,λj k q b z e f=>by
   rcases get_set e with⟨e1,e2⟩|⟨e1,e2⟩
   ·cases e2
   ·rw[Zar e1] at f;exact d.ow j k q b z e2 f,λj q e=>by
   rcases get_set e with⟨e1,e2⟩|⟨e1,e2⟩
   ·cases e2
   ·obtain⟨w,e3,e4⟩:=d.dp j q e2;exact⟨w,by rw[Zar e1];exact e3,e4⟩⟩
theorem RE.YM(h:RE K C F H σ ρ)(i:Nat)(r:Own K F H a p)(hn:F a=none)(nw:C.nw)(h0:C.H0 a=none)(ha:∀ (j:Nat) q,ρ[j]?=some (some (.ow q))->j≠i->σ[j]?≠some (some (.ref a)))(hd:∃ P,RD K C F H σ ρ P/\∀ j,¬P j a) :
  RE K C F H (σ.set i (some (.ref a))) (ρ.set i (some (.ow p))) where
 rb:=h.rb
 len:=by simp[h.len]
 sh:=λj q e=>by
  rcases get_set e with⟨e1,e2⟩|⟨e1,e2⟩
  ·cases e2
  ·obtain⟨w,e3,e4⟩:=h.sh j q e2;exact⟨w,by rw[Zar e1];exact e3,e4⟩
 ow:=λj q e=>by
  rcases get_set e with⟨e1,e2⟩|⟨e1,e2⟩
  ·subst e1;cases e2;have:=cU e;exact⟨a,by rw[Za2 (by rw[h.len];simpa using this)],r,hn,.inr ⟨nw,h0⟩⟩
  ·obtain⟨w,e3,e4⟩:=h.ow j q e2;exact⟨w,by rw[Zar e1];exact e3,e4⟩
 dis:=λj k q q' b e e' f f'=>by
  rcases get_set e with⟨e1,e2⟩|⟨e1,e2⟩
  ·rcases get_set e' with⟨e1',e2'⟩|⟨e1',e2'⟩
   ·exact e1.symm.trans e1'
   ·subst e1;have:=cU e;rw[Za2 (by rw[h.len];simpa using this)] at f
    cases f;rw[Zar e1'] at f';exact absurd f' (ha k q' e2' (Zbr e1'))
  ·rcases get_set e' with⟨e1',e2'⟩|⟨e1',e2'⟩
   ·subst e1';have:=cU e';rw[Za2 (by rw[h.len];simpa using this)] at f'
    cases f';rw[Zar e1] at f;exact absurd f (ha j q e2 (Zbr e1))
   ·rw[Zar e1] at f;rw[Zar e1'] at f';exact h.dis j k q q' b e2 e2' f f'
 dd:=let⟨P,d,na⟩:=hd;⟨P,d.own,d.dis,λj k q b z e f=>by
   rcases get_set e with⟨e1,e2⟩|⟨e1,e2⟩
   ·subst e1;have:=cU e;rw[Za2 (by rw[h.len];simpa using this)] at f
    cases f;exact na j z
   ·rw[Zar e1] at f;exact d.ow j k q b z e2 f,λj q e=>by
   rcases get_set e with⟨e1,e2⟩|⟨e1,e2⟩
   ·cases e2
   ·obtain⟨w,e3,e4⟩:=d.dp j q e2;exact⟨w,by rw[Zar e1];exact e3,e4⟩⟩
theorem RE.Wa(h:RE K C F H σ ρ)(n:H a=none)(u:Up F H F' H'):∃ P,RD K C F' H' σ ρ P/\∀ j,¬P j a:=by
 obtain⟨P,d⟩:=h.dd;exact⟨P,d.up u,λj z=>by obtain⟨_,⟨o,e,_⟩,_⟩:=d.own j a z;rw[n] at e;cases e⟩
theorem RE.apart(h:RE K C F H σ ρ)(n:H a=none)(j:Nat)(q:PV)(e:ρ[j]?=some (some (.ow q))):σ[j]?≠some (some (.ref a)):=λf=>by
 obtain⟨b,e1,e2,_⟩:=h.ow j q e;rw[e1] at f;cases f;obtain⟨o,eo⟩:=e2.ne;rw[eo] at n;cases n
theorem RE.write(h:RE K C F H σ ρ){i:Nat}{o:HO}{p':PV}(e:ρ[i]?=some (some (.ow p)))(ea:σ[i]?=some (some (.ref a)))(r:Own K F (upd H a o) a p') :
  RE K C F (upd H a o) σ (ρ.set i (some (.ow p'))):=by
 obtain⟨a',e1,e2,e3,e4⟩:=h.ow i p e;rw[ea] at e1;cases e1;have ne:∀ b u,F b=some u->b≠a:=λb u q z=>by rw[z,e3] at q;cases q
 refine⟨⟨λb u q=>by rw[aG (ne b u q)];exact h.rb.sub b u q,λb u q n=>?_,h.rb.new,λb hb=>⟨?_,(h.rb.ios b hb).2⟩⟩,by simp[h.len],λj q f=>?_,λj q f=>?_,λj k q q' b f f' g g'=>?_,?_⟩
 ·have:b≠a:=λz=>by
   subst z;rcases e4 with z|z
   ·exact n z
   ·rw[z.2] at q;cases q
  rw[aG this];exact h.rb.keep b u q n
 ·by_cases hba:b=a
  ·subst hba;rw[aN];simp
  ·rw[aG hba];exact(h.rb.ios b hb).1
 ·rcases get_set f with⟨e1,f2⟩|⟨e1,f2⟩
  ·cases f2
  ·exact h.sh j q f2
 ·rcases get_set f with⟨e1,f2⟩|⟨e1,f2⟩
  ·subst e1;cases f2;exact⟨a,ea,r,e3,e4⟩
  ·obtain⟨b,g1,g2,g3,g4⟩:=h.ow j q f2;refine⟨b,g1,g2.up (aU.refl _) λu qq=>?_,g3,g4⟩;have:b≠a:=λz=>by subst z;exact e1 (h.dis i j p q b e f2 ea g1)
   rw[aG this];exact qq
 ·have key:∀ (j:Nat) q,(ρ.set i (some (Sl.ow p')))[j]?=some (some (.ow q))->∃ q0,ρ[j]?=some (some (.ow q0)):=λj q f=>by
   rcases get_set f with⟨e1,f2⟩|⟨e1,f2⟩
   ·subst e1;exact⟨p,e⟩
   ·exact⟨q,f2⟩
  obtain⟨q0,k0⟩:=key j q f;obtain⟨q1,k1⟩:=key k q' f';exact h.dis j k q0 q1 b k0 k1 g g'
 ·obtain⟨P,d⟩:=h.dd;have na:∀ j b,P j b->b≠a:=λj b z e'=>by subst e';exact d.ow j i p b z e ea
  refine⟨P,λj b z=>?_,d.dis,λj k q b z f g=>?_,λj q f=>?_⟩
  ·rw[aG (na j b z)];exact d.own j b z
  ·rcases get_set f with⟨f1,f2⟩|⟨f1,f2⟩
   ·subst f1;exact d.ow j i p b z e g
   ·exact d.ow j k q b z f2 g
  ·rcases get_set f with⟨f1,f2⟩|⟨f1,f2⟩
   ·cases f2
   ·obtain⟨w,e3,e5⟩:=d.dp j q f2;exact⟨w,e3,e5.up (aU.refl _) (λb o z q=>by rw[aG (na j b z)];exact q) λb ys q=>by rw[aG λz=>by subst z;exact e2.ww q];exact q⟩
end
structure Cg extends Cf where
 XR:Hp->Value->Option Addr->PV->Prop
def PX(C:Cg)(F:Hp)(z:PV):Prop:=∀ e d F' H',aU F F'->RB C.toCf F' H'->C.XR F' e d z->C.E e d H'
def Pr{α:Type}(C:Cg)(F:Hp)(ok:α->Prop):Res α->Prop
 |.ok a=>ok a
 |.ex z=>PX C F z
noncomputable abbrev Rel(α:Type):=Hp->Hp->V->α->Prop
def aF(K:Frag):Rel PV:=λF _ v p=>Rep K F v p
def aH(K:Frag):Rel PV:=λ_ H v p=>Rep K H v p
def aV(K:Frag):Rel (List PV):=λF H v l=>∃ a xs,v=.ref a/\SqL K H a xs/\bK K F xs l
def UpM{α:Type}(A:Rel α):Prop:=∀ F H F' H' v a,Up F H F' H'->A F H v a->A F' H' v a
theorem aF.up{K:Frag}:UpM (aF K):=λ_ _ _ _ _ _ u h=>Rep.up h u.ff
theorem aH.up{K:Frag}:UpM (aH K):=λ_ _ _ _ _ _ u h=>Rep.up h u.hh
theorem aV.up{K:Frag}:UpM (aV K):=λ_ _ _ _ _ _ u h=>let⟨a,xs,e,s,r⟩:=h;⟨a,xs,e,u.hh.seq s,r.up u.ff⟩
noncomputable abbrev Fn(α:Type):=Rho->Option (Res α)
def MJ{α:Type}(K:Frag)(C:Cg)(A:Rel α)(te:TE)(f:Fn α):Prop:=
 ∀ F H σ ρ Q r,RE K C.toCf F H σ ρ->f ρ=some r->Pr C F (λa=>∀ v F' H',Up F H F' H'->A F' H' v a->Q v H') r->te σ H Q
def MT(K:Frag)(C:Cg)(tt:TT)(f:Fn Bool):Prop:=
 ∀ F H σ ρ Q r,RE K C.toCf F H σ ρ->f ρ=some r->Pr C F (λb=>∀ F' H',Up F H F' H'->Q b H') r->tt σ H Q
def MA(K:Frag)(C:Cg)(ta:TA)(f:Fn (List PV)):Prop:=
 ∀ F H σ ρ Q r,RE K C.toCf F H σ ρ->f ρ=some r->Pr C F (λl=>∀ xs F' H',Up F H F' H'->bK K F' xs l->Q xs H') r->ta σ H Q
def MAL(K:Frag)(C:Cg)(ta:TA)(f:Fn (List PV)):Prop:=
 ∀ F H σ ρ Q r,RE K C.toCf F H σ ρ->f ρ=some r->Pr C F (λl=>∀ xs F' H',Up F H F' H'->bK K H' xs l->Q xs H') r->ta σ H Q
def MO(K:Frag)(C:Cg)(te:TE)(f:Fn PV):Prop:=
 ∀ F H σ ρ Q r,RE K C.toCf F H σ ρ->f ρ=some r->Pr C F (λp=>∀ a F' H',Up F H F' H'->H a=none->F' a=none->Own K F' H' a p->Q (.ref a) H') r->te σ H Q
theorem bM{α β:Type}{x:Option (Res α)}{k:α->Option (Res β)}{r:Res β}(h:bnd x k=some r):(∃ z,x=some (.ex z)/\r=.ex z)\/∃ a,x=some (.ok a)/\k a=some r:=by
 match x,h with
 |some (.ok a),h=>exact .inr ⟨a,rfl,h⟩
 |some (.ex z),h=>exact .inl ⟨z,rfl,(Zac h).symm⟩
theorem PX.up{C:Cg}{F F1:Hp}{z:PV}(h:PX C F z)(s:aU F F1):PX C F1 z:=λe d F' H' a b c=>h e d F' H' (s.trans a) b c
theorem Pr.mono{α:Type}{C:Cg}{F F1:Hp}{ok ok':α->Prop}{r:Res α}(h:Pr C F ok r)(s:aU F F1)(k:∀ a,ok a->ok' a):Pr C F1 ok' r:=by
 cases r with
 |ok a=>exact k a h
 |ex z=>exact PX.up h s
section
variable{K:Frag}{C:Cg}{α β γ:Type}{A:Rel α}{B:Rel β}{D:Rel γ}{ta tb:TE}{f:Fn α}{g:Fn β}{F H:Hp}{σ:St}{ρ:Rho}{Q:VK}
theorem MJ.run{ok:β->Prop}{k:α->Option (Res β)}{r:Res β}(h:MJ K C A ta f)(R:RE K C.toCf F H σ ρ)(hb:bnd (f ρ) k=some r)(P:Pr C F ok r)
  (go:∀ p v F1 H1,k p=some r->Up F H F1 H1->A F1 H1 v p->Q v H1):ta σ H Q:=by
 rcases bM hb with⟨z,e,rfl⟩|⟨p,e,hk⟩
 ·exact h F H σ ρ Q _ R e P
 ·exact h F H σ ρ Q _ R e λv F1 H1 u a=>go p v F1 H1 hk u a
theorem MT.run{tt:TT}{f:Fn Bool}{Q:Bool->Hp->Prop}{ok:β->Prop}{k:Bool->Option (Res β)}{r:Res β}(h:MT K C tt f)(R:RE K C.toCf F H σ ρ)(hb:bnd (f ρ) k=some r)(P:Pr C F ok r)
  (go:∀ b F1 H1,k b=some r->Up F H F1 H1->Q b H1):tt σ H Q:=by
 rcases bM hb with⟨z,e,rfl⟩|⟨p,e,hk⟩
 ·exact h F H σ ρ Q _ R e P
 ·exact h F H σ ρ Q _ R e λF1 H1 u=>go p F1 H1 hk u
theorem MA.run{t:TA}{f:Fn (List PV)}{Q:List V->Hp->Prop}{ok:β->Prop}{k:List PV->Option (Res β)}{r:Res β}(h:MA K C t f)(R:RE K C.toCf F H σ ρ)(hb:bnd (f ρ) k=some r)(P:Pr C F ok r)
  (go:∀ l xs F1 H1,k l=some r->Up F H F1 H1->bK K F1 xs l->Q xs H1):t σ H Q:=by
 rcases bM hb with⟨z,e,rfl⟩|⟨p,e,hk⟩
 ·exact h F H σ ρ Q _ R e P
 ·exact h F H σ ρ Q _ R e λxs F1 H1 u a=>go p xs F1 H1 hk u a
theorem MAL.run{t:TA}{f:Fn (List PV)}{Q:List V->Hp->Prop}{ok:β->Prop}{k:List PV->Option (Res β)}{r:Res β}(h:MAL K C t f)(R:RE K C.toCf F H σ ρ)(hb:bnd (f ρ) k=some r)(P:Pr C F ok r)
  (go:∀ l xs F1 H1,k l=some r->Up F H F1 H1->bK K H1 xs l->Q xs H1):t σ H Q:=by
 rcases bM hb with⟨z,e,rfl⟩|⟨p,e,hk⟩
 ·exact h F H σ ρ Q _ R e P
 ·exact h F H σ ρ Q _ R e λxs F1 H1 u a=>go p xs F1 H1 hk u a
theorem Pr.later{D:Rel γ}{r:Res γ}{F1 H1:Hp}(P:Pr C F (λa=>∀ v F' H',Up F H F' H'->D F' H' v a->Q v H') r)(u:Up F H F1 H1):Pr C F1 (λa=>∀ v F' H',Up F1 H1 F' H'->D F' H' v a->Q v H') r:=
 P.mono u.ff λ_ h v F' H' u' d=>h v F' H' (u.trans u') d
theorem Pr.O9{Q:Bool->Hp->Prop}{r:Res Bool}{F1 H1:Hp}(P:Pr C F (λb=>∀ F' H',Up F H F' H'->Q b H') r)(u:Up F H F1 H1):Pr C F1 (λb=>∀ F' H',Up F1 H1 F' H'->Q b H') r:=
 P.mono u.ff λ_ h F' H' u'=>h F' H' (u.trans u')
theorem Pr.yd{r:Res PV}{F1 H1:Hp}(P:Pr C F (λp=>∀ a F' H',Up F H F' H'->H a=none->F' a=none->Own K F' H' a p->Q (.ref a) H') r)(u:Up F H F1 H1) :
  Pr C F1 (λp=>∀ a F' H',Up F1 H1 F' H'->H1 a=none->F' a=none->Own K F' H' a p->Q (.ref a) H') r:=
 P.mono u.ff λ_ h a F' H' u' n1 n2 d=>h a F' H' (u.trans u') (u.hh.free n1) n2 d
theorem Pr.Wb{Q:List V->Hp->Prop}{r:Res (List PV)}{F1 H1:Hp}(P:Pr C F (λl=>∀ xs F' H',Up F H F' H'->bK K F' xs l->Q xs H') r)(u:Up F H F1 H1):Pr C F1 (λl=>∀ xs F' H',Up F1 H1 F' H'->bK K F' xs l->Q xs H') r:=
 P.mono u.ff λ_ h xs F' H' u' d=>h xs F' H' (u.trans u') d
theorem Pr.Wc{Q:List V->Hp->Prop}{r:Res (List PV)}{F1 H1:Hp}(P:Pr C F (λl=>∀ xs F' H',Up F H F' H'->bK K H' xs l->Q xs H') r)(u:Up F H F1 H1):Pr C F1 (λl=>∀ xs F' H',Up F1 H1 F' H'->bK K H' xs l->Q xs H') r:=
 P.mono u.ff λ_ h xs F' H' u' d=>h xs F' H' (u.trans u') d
def mV(i:Nat):Fn PV:=λρ=>match ρ[i]? with
 |some (some (.sh p))=>some (.ok p)
 |_=>none
theorem aj(i:Nat):MJ K C (aF K) (m5 i) (mV i):=by
 intro F H σ ρ Q r R e P;unfold mV at e;split at e
 ·rename_i p hp;cases e;obtain⟨v,e1,e2⟩:=R.sh i p hp;exact⟨v,e1,P v F H (Up.refl R.rb.sub) e2⟩
 ·cases e
def mVL(i:Nat):Fn PV:=λρ=>match ρ[i]? with
 |some (some (.sh p))=>some (.ok p)
 |some (some (.ow p))=>some (.ok p)
 |_=>none
theorem bO(i:Nat):MJ K C (aH K) (m5 i) (mVL i):=by
 intro F H σ ρ Q r R e P;unfold mVL at e;split at e
 ·rename_i p hp;cases e;obtain⟨v,e1,e2⟩:=R.sh i p hp;exact⟨v,e1,P v F H (Up.refl R.rb.sub) (e2.up R.rb.sub)⟩
 ·rename_i p hp;cases e;obtain⟨a,e1,e2,e3,_⟩:=R.ow i p hp;exact⟨_,e1,P _ F H (Up.refl R.rb.sub) (e2.lent R.rb.sub)⟩
 ·cases e
def wy:PV->Option (Res (List PV))
 |.lst l=>some (.ok l)
 |_=>none
theorem Dc{f:Fn PV}(h:MJ K C (aF K) ta f):MJ K C (aV K) ta (λρ=>bnd (f ρ) wy):=by
 intro F H σ ρ Q r R e P;refine h.run R e P λp v F1 H1 hk u a=>?_
 match p,hk with
 |.lst l,hk=>
  cases hk;obtain⟨b,xs,rfl,s,rr⟩:=Rep.cg a;exact P _ F1 H1 u ⟨b,xs,rfl,u.fh.seq s,rr⟩
theorem ug(i:Nat):MJ K C (aV K) (m5 i) (λρ=>bnd (mVL i ρ) wy):=by
 intro F H σ ρ Q r R e P;rcases bM e with⟨z,e1,rfl⟩|⟨p,e1,hk⟩
 ·unfold mVL at e1;split at e1<;>cases e1
 ·unfold mVL at e1
  match p,hk with
  |.lst l,hk=>
   cases hk;split at e1
   ·rename_i q hq;cases e1;obtain⟨v,e2,e3⟩:=R.sh i _ hq;obtain⟨b,xs,rfl,s,rr⟩:=Rep.cg e3;exact⟨_,e2,P _ F H (Up.refl R.rb.sub) ⟨b,xs,rfl,R.rb.sub.seq s,rr⟩⟩
   ·rename_i q hq;cases e1;obtain⟨a,e2,⟨xs,e3,rr⟩,_⟩:=R.ow i _ hq;exact⟨_,e2,P _ F H (Up.refl R.rb.sub) ⟨a,xs,rfl,SqL.of e3,rr⟩⟩
   ·cases e1
theorem bB{f:Fn PV}(h:MJ K C (aF K) ta f):MJ K C (aH K) ta f:=by
 intro F H σ ρ Q r R e P;refine h F H σ ρ Q r R e ?_;exact P.mono (aU.refl _) λ_ k v F' H' u d=>k v F' H' u (Rep.up d u.fh)
def mC(p:PV):Fn PV:=λ_=>some (.ok p)
theorem Pb{v:V}{p:PV}(h:∀ F,Rep K F v p):MJ K C (aF K) (tC v) (mC p):=by
 intro F H σ ρ Q r R e P;cases e;exact P v F H (Up.refl R.rb.sub) (h F)
theorem aA{i:Int}:MJ K C (aF K) (tC (.int i)) (mC (.int i)):=Pb λ_=>.int
theorem lO{i:Bool}:MJ K C (aF K) (tC (.bl i)) (mC (.bl i)):=Pb λ_=>.bl
theorem gO{i:Str}:MJ K C (aF K) (tC (.str i)) (mC (.str i)):=Pb λ_=>.str
theorem De:MJ K C (aF K) (tC .non) (mC .non):=Pb λ_=>.non
theorem ye{n:String}:MJ K C (aF K) (tC (.ty n)) (mC (.ty n)):=Pb λ_=>.ty
theorem dB{f:Fn PV}(h:MO K C ta f):MJ K C (aF K) ta f:=by
 intro F H σ ρ Q r R e P;refine h F H σ ρ Q r R e (P.mono (aU.refl _) λp k a F' H' u n1 n2 o=>?_);obtain⟨ob,eo,rr⟩:=o.frozen n2;refine k _ (upd F' a ob) H' ⟨u.ff.trans (dI n2),u.hh,λb x q=>?_,λb x q=>?_⟩ rr
 ·by_cases hb:b=a
  ·subst hb;exact .inr (.inl n1)
  ·rw[aG hb] at q;exact u.fr b x q
 ·by_cases hb:b=a
  ·subst hb;rw[aN] at q;cases q;exact eo
  ·rw[aG hb] at q;exact u.fh b x q
theorem lQ{f:Fn PV}(h:MO K C ta f):MJ K C (aV K) ta (λρ=>bnd (f ρ) wy):=Dc (dB h)
def m2{α β γ:Type}(op:α->β->Option (Res γ))(f:Fn α)(g:Fn β):Fn γ:=λρ=>bnd (f ρ) λa=>bnd (g ρ) λb=>op a b
def R2M(C:Cg)(A:Rel α)(B:Rel β)(D:Rel γ)(r:R2)(op:α->β->Option (Res γ)):Prop:=
 ∀ F H x y a b res Q,aU F H->A F H x a->B F H y b->op a b=some res->Pr C F (λc=>∀ v F' H',Up F H F' H'->D F' H' v c->Q v H') res->r x y H Q
theorem aq{op:α->β->Option (Res γ)}{r2:R2}(up:UpM A)(rule:R2M C A B D r2 op)(ha:MJ K C A ta f)(hb:MJ K C B tb g):MJ K C D (tOp r2 ta tb) (m2 op f g):=by
 intro F H σ ρ Q r R e P;refine ha.run R e P λp v F1 H1 hk u a=>?_;refine hb.run (R.up u) hk (P.later u) λq w F2 H2 hk2 u2 b=>?_;exact rule F2 H2 v w p q r Q u2.fh (up _ _ _ _ _ _ u2 a) b hk2 (P.later (u.trans u2))
def R2O(K:Frag)(C:Cg)(A:Rel α)(B:Rel β)(r:R2)(op:α->β->Option (Res PV)):Prop:=
 ∀ F H x y a b res Q,aU F H->A F H x a->B F H y b->op a b=some res->Pr C F (λp=>∀ a F' H',Up F H F' H'->H a=none->F' a=none->Own K F' H' a p->Q (.ref a) H') res->r x y H Q
theorem Pg{op:α->β->Option (Res PV)}{r2:R2}(up:UpM A)(rule:R2O K C A B r2 op)(ha:MJ K C A ta f)(hb:MJ K C B tb g):MO K C (tOp r2 ta tb) (m2 op f g):=by
 intro F H σ ρ Q r R e P;refine ha.run R e P λp v F1 H1 hk u a=>?_;refine hb.run (R.up u) hk (P.yd u) λq w F2 H2 hk2 u2 b=>?_;exact rule F2 H2 v w p q r Q u2.fh (up _ _ _ _ _ _ u2 a) b hk2 (P.yd (u.trans u2))
def m1{α γ:Type}(op:α->Option (Res γ))(f:Fn α):Fn γ:=λρ=>bnd (f ρ) op
def yg(o1 o2:PV->PV->Option (Res PV))(f g h:Fn PV):Fn PV:=λρ=>bnd (f ρ) λa=>bnd (g ρ) λb=>bnd (o1 a b) λz=>match z with
 |.bl true=>bnd (h ρ) λc=>o2 b c
 |.bl false=>some (.ok (.bl false))
 |_=>none
theorem Gg{o1 o2:PV->PV->Option (Res PV)}{r r':R2}{tc:TE}{f g h:Fn PV}(r1:R2M C (aF K) (aF K) (aF K) r o1)(r2:R2M C (aF K) (aF K) (aF K) r' o2)(ha:MJ K C (aF K) ta f)(hb:MJ K C (aF K) tb g)(hc:MJ K C (aF K) tc h) :
  MJ K C (aF K) (Oq r r' ta tb tc) (yg o1 o2 f g h):=by
 intro F H σ ρ Q r R e P;refine ha.run R e P λp v F1 H1 hk u a=>?_;refine hb.run (R.up u) hk (P.later u) λq w F2 H2 hk2 u2 b=>?_;rcases bM hk2 with⟨z,e1,rfl⟩|⟨z,e1,hk3⟩
 ·exact r1 F2 H2 v w p q _ _ u2.fh (aF.up _ _ _ _ _ _ u2 a) b e1 (PX.up P (u.trans u2).ff)
 ·refine r1 F2 H2 v w p q _ _ u2.fh (aF.up _ _ _ _ _ _ u2 a) b e1 λvz F3 H3 u3 rz=>?_
  match z,hk3 with
  |.bl true,hk3=>
   cases Rep.iW rz;refine⟨true,rfl,?_⟩;rw[Zaf rfl];have u13:=u.trans (u2.trans u3);refine hc.run (R.up u13) hk3 (P.later u13) λc wc F4 H4 hk4 u4 rc=>?_;exact r2 F4 H4 w wc q c _ Q u4.fh (Rep.up b (u3.trans u4).ff) rc hk4 (P.later (u13.trans u4))
  |.bl false,hk3=>
   cases Rep.iW rz;cases hk3;refine⟨false,rfl,?_⟩;rw[Zad (by decide)]
   exact P _ F3 H3 (u.trans (u2.trans u3)) .bl
def yh(f g:Fn PV):Fn PV:=λρ=>bnd (f ρ) λa=>match a with
 |.bl true=>g ρ
 |.bl false=>some (.ok (.bl false))
 |_=>none
theorem Df{f g:Fn PV}(ha:MJ K C (aF K) ta f)(hb:MJ K C (aF K) tb g):MJ K C (aF K) (U3 ta tb) (yh f g):=by
 intro F H σ ρ Q r R e P;refine ha.run R e P λp v F1 H1 hk u a=>?_
 match p,hk with
 |.bl true,hk=>
  cases Rep.iW a;refine⟨true,rfl,?_⟩;rw[Zaf rfl];exact hb F1 H1 σ ρ Q r (R.up u) hk (P.later u)
 |.bl false,hk=>
  cases Rep.iW a;cases hk;refine⟨false,rfl,?_⟩;rw[Zad (by decide)]
  exact P _ F1 H1 u .bl
def cV:PV->Option (Res Bool)
 |.bl b=>some (.ok b)
 |_=>none
theorem aZ{f:Fn PV}(ha:MJ K C (aF K) ta f):MT K C (Oo ta) (m1 cV f):=by
 intro F H σ ρ Q r R e P;refine ha.run R e P λp v F1 H1 hk u a=>?_
 match p,hk with
 |.bl b,hk=>
  cases Rep.iW a;cases hk;exact⟨b,rfl,P F1 H1 u⟩
theorem jD{f:Fn PV}(ha:MJ K C (aF K) ta f):MT K C (tB ta) (m1 cV f):=aZ ha
def Jz(f g:Fn Bool):Fn Bool:=λρ=>bnd (f ρ) λa=>if a=true then g ρ else some (.ok false)
def mOr(f g:Fn Bool):Fn Bool:=λρ=>bnd (f ρ) λa=>if a=true then some (.ok true) else g ρ
def rY(f:Fn Bool):Fn Bool:=λρ=>bnd (f ρ) λa=>some (.ok (!a))
variable{c d:TT}{fc gc:Fn Bool}
theorem Dg(ha:MT K C c fc)(hb:MT K C d gc):MT K C (Xl c d) (Jz fc gc):=by
 intro F H σ ρ Q r R e P;refine ha.run R e P λb F1 H1 hk u=>?_;cases b with
 |true=>rw[Zaf rfl] at hk ⊢;exact hb F1 H1 σ ρ Q r (R.up u) hk (P.O9 u)
 |false=>rw[Zad (by decide)] at hk ⊢;cases hk;exact P F1 H1 u
theorem q9(ha:MT K C c fc)(hb:MT K C d gc):MT K C (tOr c d) (mOr fc gc):=by
 intro F H σ ρ Q r R e P;refine ha.run R e P λb F1 H1 hk u=>?_;cases b with
 |true=>rw[Zaf rfl] at hk ⊢;cases hk;exact P F1 H1 u
 |false=>rw[Zad (by decide)] at hk ⊢;exact hb F1 H1 σ ρ Q r (R.up u) hk (P.O9 u)
theorem jE(ha:MT K C c fc):MT K C (Xm c) (rY fc):=by
 intro F H σ ρ Q r R e P;refine ha.run R e P λb F1 H1 hk u=>?_;cases hk;exact P F1 H1 u
def mIf{γ:Type}(f:Fn Bool)(g h:Fn γ):Fn γ:=λρ=>bnd (f ρ) λa=>if a=true then g ρ else h ρ
theorem Vh{f g:Fn γ}(hc:MT K C c fc)(ha:MJ K C D ta f)(hb:MJ K C D tb g):MJ K C D (tIf c ta tb) (mIf fc f g):=by
 intro F H σ ρ Q r R e P;refine hc.run R e P λb F1 H1 hk u=>?_;cases b with
 |true=>rw[Zaf rfl] at hk ⊢;exact ha F1 H1 σ ρ Q r (R.up u) hk (P.later u)
 |false=>rw[Zad (by decide)] at hk ⊢;exact hb F1 H1 σ ρ Q r (R.up u) hk (P.later u)
def bF:Fn (List PV):=λ_=>some (.ok [])
def aC(f:Fn PV)(g:Fn (List PV)):Fn (List PV):=λρ=>bnd (f ρ) λa=>bnd (g ρ) λl=>some (.ok (a::l))
theorem aR:MA K C wL bF:=λF H σ ρ Q r R e P=>by
 cases e;exact P [] F H (Up.refl R.rb.sub) .nil
theorem ao{f:Fn PV}{g:Fn (List PV)}{t:TA}(ha:MJ K C (aF K) ta f)(hb:MA K C t g):MA K C (j8 ta t) (aC f g):=by
 intro F H σ ρ Q r R e P;refine ha.run R e P λp v F1 H1 hk u a=>?_;refine hb.run (R.up u) hk (P.Wb u) λl xs F2 H2 hk2 u2 b=>?_;cases hk2;exact P _ F2 H2 (u.trans u2) (b.cons (Rep.up a u2.ff))
theorem S9:MAL K C wL bF:=λF H σ ρ Q r R e P=>by
 cases e;exact P [] F H (Up.refl R.rb.sub) .nil
theorem yj{f:Fn PV}{g:Fn (List PV)}{t:TA}(ha:MJ K C (aH K) ta f)(hb:MAL K C t g):MAL K C (j8 ta t) (aC f g):=by
 intro F H σ ρ Q r R e P;refine ha.run R e P λp v F1 H1 hk u a=>?_;refine hb.run (R.up u) hk (P.Wc u) λl xs F2 H2 hk2 u2 b=>?_;cases hk2;exact P _ F2 H2 (u.trans u2) (b.cons (Rep.up a u2.hh))
theorem Up.JB{F H:Hp}{a:Addr}{o:HO}(s:aU F H)(h:H a=none):Up F H F (upd H a o):=⟨aU.refl _,dI h,λ_ _ q=>.inl q,s.trans (dI h)⟩
theorem Up.new{F H:Hp}{a:Addr}{o:HO}(s:aU F H)(h:H a=none):Up F H (upd F a o) (upd H a o):=by
 have hf:F a=none:=s.free h;refine⟨dI hf,dI h,λb u q=>?_,λb u q=>?_⟩
 ·by_cases hb:b=a
  ·subst hb;exact .inr (.inl h)
  ·rw[aG hb] at q;exact .inl q
 ·by_cases hb:b=a
  ·subst hb;rw[aN] at q ⊢;exact q
  ·rw[aG hb] at q ⊢;exact s b u q
def lJ(f:Fn (List PV)):Fn PV:=λρ=>bnd (f ρ) λl=>if l.length<=sizeLine then some (.ok (.tup l)) else none
def wN(f:Fn (List PV)):Fn PV:=λρ=>bnd (f ρ) λl=>if l.length<=sizeLine then some (.ok (.lst l)) else none
theorem fJ{t:TA}{f:Fn (List PV)}(h:MA K C t f):MJ K C (aF K) (R9 t) (lJ f):=by
 intro F H σ ρ Q r R e P;refine h.run R e P λl xs F1 H1 hk u a=>?_;split at hk
 ·rename_i hl;cases hk;refine⟨by rw[a.1];exact hl,λp hp=>?_⟩
  have un:=Up.new (o:=.tup xs) u.fh hp;exact P _ _ _ (u.trans un) (.tup aN a.1 (a.up un.ff).2)
 ·cases hk
theorem nT{t:TA}{f:Fn (List PV)}(h:MA K C t f):MO K C (V0 t) (wN f):=by
 intro F H σ ρ Q r R e P;refine h.run R e P λl xs F1 H1 hk u a=>?_;split at hk
 ·rename_i hl;cases hk;refine⟨by rw[a.1];exact hl,λp hp=>?_⟩
  exact P _ _ _ (u.trans (Up.JB u.fh hp)) (u.hh.free hp) (u.fh.free hp) ⟨xs,aN,a⟩
 ·cases hk
def spM(K:Frag)(XR:Hp->Value->Option Addr->PV->Prop)(m:List PV->Option (Res PV)):Sp:=λvs H Q E=>∃ ps F r,aU F H/\bK K F vs ps/\m ps=some r/\match r with
 |.ok p=>∀ v F' H',Up F H F' H'->Rep K F' v p->Q v H'
 |.ex z=>∀ e d F' H',Up F H F' H'->XR F' e d z->E e d H'
def spO(K:Frag)(XR:Hp->Value->Option Addr->PV->Prop)(m:List PV->Option (Res PV)):Sp:=λvs H Q E=>∃ ps F r,aU F H/\bK K F vs ps/\m ps=some r/\match r with
 |.ok p=>∀ a F' H',Up F H F' H'->H a=none->F' a=none->Own K F' H' a p->Q (.ref a) H'
 |.ex z=>∀ e d F' H',Up F H F' H'->XR F' e d z->E e d H'
def bT(m:List PV->Option (Res PV))(f:Fn (List PV)):Fn PV:=λρ=>bnd (f ρ) m
theorem cj{t:TA}{f:Fn (List PV)}{m:List PV->Option (Res PV)}(h:MA K C t f):MJ K C (aF K) (xU (spM K C.XR m) [] C.E t) (bT m f):=by
 intro F H σ ρ Q r R e P;refine h.run R e P λl xs F1 H1 hk u a=>?_;refine⟨l,F1,r,u.fh,by rw[Zbc];exact a,hk,?_⟩
 cases r with
 |ok p=>exact λv F' H' u' rv=>P v F' H' (u.trans u') rv
 |ex z=>exact λe d F' H' u' x=>P e d F' H' (u.trans u').ff (R.rb.up (u.trans u')) x
theorem gD{t:TA}{f:Fn (List PV)}{m:List PV->Option (Res PV)}(h:MA K C t f):MO K C (xU (spO K C.XR m) [] C.E t) (bT m f):=by
 intro F H σ ρ Q r R e P;refine h.run R e P λl xs F1 H1 hk u a=>?_;refine⟨l,F1,r,u.fh,by rw[Zbc];exact a,hk,?_⟩
 cases r with
 |ok p=>exact λv F' H' u' n1 n2 rv=>P v F' H' (u.trans u') (u.hh.free n1) n2 rv
 |ex z=>exact λe d F' H' u' x=>P e d F' H' (u.trans u').ff (R.rb.up (u.trans u')) x
end
inductive Out where
 |nx (ρ:Rho)|rt (p:PV)|ro (p:PV)|rd (p:PV)|bk (ρ:Rho)|ct (ρ:Rho)|ex (z:PV)
noncomputable abbrev Sn:=Rho->Option Out
def PO'(K:Frag)(C:Cg)(F:Hp)(D:Ends):Out->Prop
 |.nx ρ=>∀ F' H' σ,aU F F'->RE K C.toCf F' H' σ ρ->D.nx σ H'
 |.bk ρ=>∀ F' H' σ,aU F F'->RE K C.toCf F' H' σ ρ->D.bk σ H'
 |.ct ρ=>∀ F' H' σ,aU F F'->RE K C.toCf F' H' σ ρ->D.ct σ H'
 |.rt p=>∀ v F' H',aU F F'->RB C.toCf F' H'->Rep K F' v p->D.rt v H'
 |.ro p=>∀ a F' H',aU F F'->RB C.toCf F' H'->Own K F' H' a p->F' a=none->C.H0 a=none->D.rt (.ref a) H'
 |.rd p=>∀ v F' H' S,aU F F'->RB C.toCf F' H'->Dp K F' H' S v p->(∀ b,S b->F' b=none/\(∃ o,H' b=some o/\∀ ys,o≠.tup ys)/\C.H0 b=none)->D.rt v H'
 |.ex z=>PX C F z
def MS(K:Frag)(C:Cg)(t:TS)(f:Sn):Prop:=∀ F H σ ρ D o,RE K C.toCf F H σ ρ->f ρ=some o->PO' K C F D o->t D σ H
def gw{α:Type}(x:Option (Res α))(k:α->Option Out):Option Out:=match x with
 |some (.ok a)=>k a
 |some (.ex z)=>some (.ex z)
 |none=>none
theorem Tc{α:Type}{a:α}{k:α->Option Out}:gw (some (.ok a)) k=k a:=rfl
theorem cZ{α:Type}{x:Option (Res α)}{k:α->Option Out}{o:Out}(h:gw x k=some o):(∃ z,x=some (.ex z)/\o=.ex z)\/∃ a,x=some (.ok a)/\k a=some o:=by
 match x,h with
 |some (.ok a),h=>exact .inr ⟨a,rfl,h⟩
 |some (.ex z),h=>exact .inl ⟨z,rfl,(Zac h).symm⟩
section
variable{K:Frag}{C:Cg}{α:Type}{A:Rel α}{ta te:TE}{F H:Hp}{σ:St}{ρ:Rho}{D:Ends}{t u:TS}{f g:Sn}{o:Out}
theorem PO'.up{F1:Hp}(h:PO' K C F D o)(s:aU F F1):PO' K C F1 D o:=by
 cases o with
 |nx ρ=>exact λF' H' σ a=>h F' H' σ (s.trans a)
 |bk ρ=>exact λF' H' σ a=>h F' H' σ (s.trans a)
 |ct ρ=>exact λF' H' σ a=>h F' H' σ (s.trans a)
 |rt p=>exact λv F' H' a=>h v F' H' (s.trans a)
 |ro p=>exact λv F' H' a=>h v F' H' (s.trans a)
 |rd p=>exact λv F' H' S a=>h v F' H' S (s.trans a)
 |ex z=>exact PX.up h s
theorem MJ.rZ{fe:Fn α}{Q:VK}{k:α->Option Out}(h:MJ K C A ta fe)(R:RE K C.toCf F H σ ρ)(hb:gw (fe ρ) k=some o)(P:PO' K C F D o)
  (go:∀ p v F1 H1,k p=some o->Up F H F1 H1->A F1 H1 v p->Q v H1):ta σ H Q:=by
 rcases cZ hb with⟨z,e,rfl⟩|⟨p,e,hk⟩
 ·exact h F H σ ρ Q _ R e P
 ·exact h F H σ ρ Q _ R e λv F1 H1 u a=>go p v F1 H1 hk u a
theorem MO.rZ{fe:Fn PV}{Q:VK}{k:PV->Option Out}(h:MO K C ta fe)(R:RE K C.toCf F H σ ρ)(hb:gw (fe ρ) k=some o)(P:PO' K C F D o)
  (go:∀ p a F1 H1,k p=some o->Up F H F1 H1->H a=none->F1 a=none->Own K F1 H1 a p->Q (.ref a) H1):ta σ H Q:=by
 rcases cZ hb with⟨z,e,rfl⟩|⟨p,e,hk⟩
 ·exact h F H σ ρ Q _ R e P
 ·exact h F H σ ρ Q _ R e λa F1 H1 u n1 n2 w=>go p a F1 H1 hk u n1 n2 w
theorem MT.rZ{tt:TT}{fe:Fn Bool}{Q:Bool->Hp->Prop}{k:Bool->Option Out}(h:MT K C tt fe)(R:RE K C.toCf F H σ ρ)(hb:gw (fe ρ) k=some o)(P:PO' K C F D o)
  (go:∀ b F1 H1,k b=some o->Up F H F1 H1->Q b H1):tt σ H Q:=by
 rcases cZ hb with⟨z,e,rfl⟩|⟨p,e,hk⟩
 ·exact h F H σ ρ Q _ R e P
 ·exact h F H σ ρ Q _ R e λF1 H1 u=>go p F1 H1 hk u
def dM:Sn:=λρ=>some (.nx ρ)
def bf(f g:Sn):Sn:=λρ=>match f ρ with
 |some (.nx ρ')=>g ρ'
 |x=>x
theorem bZ:MS K C U4 dM:=λF H σ ρ D o R e P=>by
 cases e;exact P F H σ (aU.refl _) R
theorem aQ(h1:MS K C t f)(h2:MS K C u g):MS K C (VG t u) (bf f g):=by
 intro F H σ ρ D o R e P;unfold bf at e;split at e
 ·rename_i ρ' h;refine h1 F H σ ρ _ _ R h ?_;exact λF' H' σ' s R'=>h2 F' H' σ' ρ' D o R' e (P.up s)
 ·rename_i x hx;cases o with
  |nx ρ'=>exact absurd e (hx ρ')
  |bk ρ=>exact h1 F H σ _ _ _ R e P
  |ct ρ=>exact h1 F H σ _ _ _ R e P
  |rt p=>exact h1 F H σ _ _ _ R e P
  |ro p=>exact h1 F H σ _ _ _ R e P
  |rd p=>exact h1 F H σ _ _ _ R e P
  |ex z=>exact h1 F H σ _ _ _ R e P
def Ph:Sn:=λρ=>some (.ct ρ)
theorem Td:MS K C U5 Ph:=λF H σ ρ D o R e P=>by
 cases e;exact P F H σ (aU.refl _) R
def MG(K:Frag)(C:Cg)(g:TG)(tg:PV->Rho->Option Rho):Prop:=
 ∀ F H σ ρ v p ρ' Q,RE K C.toCf F H σ ρ->Rep K F v p->tg p ρ=some ρ'->(∀ σ',RE K C.toCf F H σ' ρ'->Q σ' H)->g v σ H Q
def MGs(K:Frag)(C:Cg)(g:TGs)(tg:List PV->Rho->Option Rho):Prop:=
 ∀ F H σ ρ vs ps ρ' Q,RE K C.toCf F H σ ρ->bK K F vs ps->tg ps ρ=some ρ'->(∀ σ',RE K C.toCf F H σ' ρ'->Q σ' H)->g vs σ H Q
def gN(i:Nat):PV->Rho->Option Rho:=λp ρ=>some (ρ.set i (some (.sh p)))
theorem aJ(i:Nat):MG K C (xO i) (gN i):=λF H σ ρ v p ρ' Q R r e k=>by
 cases e;exact k _ (R.set i r)
def gsNil:List PV->Rho->Option Rho
 |[],ρ=>some ρ
 |_::_,_=>none
def gsCons(t:PV->Rho->Option Rho)(u:List PV->Rho->Option Rho):List PV->Rho->Option Rho
 |[],_=>none
 |p::l,ρ=>match t p ρ with
  |some ρ'=>u l ρ'
  |none=>none
theorem jP:MGs K C Xo gsNil:=λF H σ ρ vs ps ρ' Q R r e k=>by
 cases ps with
 |nil=>cases e;exact⟨r.ji,k σ R⟩
 |cons p l=>cases e
theorem cC{g:TG}{gs:TGs}{tg:PV->Rho->Option Rho}{tgs:List PV->Rho->Option Rho}(h:MG K C g tg)(hs:MGs K C gs tgs):MGs K C (U6 g gs) (gsCons tg tgs):=λF H σ ρ vs ps ρ' Q R r e k=>by
 cases ps with
 |nil=>cases e
 |cons p l=>
  obtain⟨v,ys,rfl,r1,r2⟩:=r.dJ;have e':(match tg p ρ with
   |some ρ'=>tgs l ρ'
   |none=>none)=some ρ':=e
  split at e'
  ·rename_i ρ1 h1;exact⟨v,ys,rfl,h F H σ ρ v p ρ1 _ R r1 h1 λσ' R'=>hs F H σ' ρ1 ys l ρ' Q R' r2 e' k⟩
  ·cases e'
def gT(n:Nat)(t:List PV->Rho->Option Rho):PV->Rho->Option Rho:=λp ρ=>match p with
 |.tup l=>if l.length=n then t l ρ else none
 |_=>none
theorem pL{n:Nat}{gs:TGs}{tgs:List PV->Rho->Option Rho}(hs:MGs K C gs tgs):MG K C (VH K n gs) (gT n tgs):=λF H σ ρ v p ρ' Q R r e k=>by
 unfold gT at e;split at e
 ·rename_i l;split at e
  ·rename_i hn;obtain⟨a,xs,rfl,hq,rr⟩:=r.cL;exact⟨a,xs,rfl,R.rb.sub.tup hq,by rw[rr.1];exact hn,hs F H σ ρ xs l ρ' Q R rr e k⟩
  ·cases e
 ·cases e
def cF(fe:Fn PV)(tg:PV->Rho->Option Rho):Sn:=λρ=>gw (fe ρ) λp=>match tg p ρ with
 |some ρ'=>some (.nx ρ')
 |none=>none
theorem bh{fe:Fn PV}{gt:TG}{tg:PV->Rho->Option Rho}(h:MJ K C (aF K) te fe)(hg:MG K C gt tg):MS K C (Mt te gt) (cF fe tg):=by
 intro F H σ ρ D o R e P;refine h.rZ R e P λp v F1 H1 hk u a=>?_;split at hk
 ·rename_i ρ' h1;cases hk;exact hg F1 H1 σ ρ v p ρ' _ (R.up u) a h1 λσ' R'=>P F1 H1 σ' u.ff R'
 ·cases hk
def uh(i:Nat)(fe:Fn PV):Sn:=λρ=>gw (fe ρ) λp=>some (.nx (ρ.set i (some (.ow p))))
theorem qM{i:Nat}{fe:Fn PV}(nw:C.nw)(h:MO K C te fe):MS K C (Mt te (xO i)) (uh i fe):=by
 intro F H σ ρ D o R e P;refine h.rZ R e P λp a F1 H1 hk u n1 n2 w=>?_;cases hk;exact P F1 H1 _ u.ff ((R.up u).YM i w n2 nw (R.rb.uf n1) (λj q hj _=>R.apart n1 j q hj) (R.Wa n1 u))
def eV(fe:Fn PV):Sn:=λρ=>gw (fe ρ) λp=>some (.rt p)
theorem bU{fe:Fn PV}(h:MJ K C (aF K) te fe):MS K C (Jj te) (eV fe):=by
 intro F H σ ρ D o R e P;refine h.rZ R e P λp v F1 H1 hk u a=>?_;cases hk;exact P v F1 H1 u.ff (R.rb.up u) a
def o8(fe:Fn PV):Sn:=λρ=>gw (fe ρ) λp=>some (.ro p)
theorem jQ{fe:Fn PV}(h:MO K C te fe):MS K C (Jj te) (o8 fe):=by
 intro F H σ ρ D o R e P;refine h.rZ R e P λp a F1 H1 hk u n1 n2 w=>?_;cases hk;exact P a F1 H1 u.ff (R.rb.up u) w n2 (R.rb.uf n1)
def ownAt(i:Nat)(ρ:Rho):Option PV:=match ρ[i]? with
 |some (some (.ow p))=>some p
 |_=>none
theorem bL{i:Nat}{p:PV}(h:ownAt i ρ=some p):ρ[i]?=some (some (.ow p)):=by
 unfold ownAt at h;split at h
 ·rename_i q hq;cases h;exact hq
 ·cases h
def sr(i:Nat):Sn:=λρ=>match ownAt i ρ with
 |some p=>some (.ro p)
 |none=>none
theorem Gh(i:Nat)(hio:∀ a,¬C.io a):MS K C (Jj (m5 i)) (sr i):=by
 intro F H σ ρ D o R e P;unfold sr at e;split at e
 ·rename_i p hp;cases e;obtain⟨a,e1,e2,e3,e4⟩:=R.ow i p (bL hp);exact⟨_,e1,P a F H (aU.refl _) R.rb e2 e3 (e4.resolve_left (hio a)).2⟩
 ·cases e
def M6(i:Nat)(fe:Fn PV):Sn:=λρ=>match ownAt i ρ with
 |some (.lst l)=>gw (fe ρ) λp=>if l.length<sizeLine then some (.nx (ρ.set i (some (.ow (.lst (l++[p])))))) else none
 |_=>none
theorem Wd{i:Nat}{fe:Fn PV}(h:MJ K C (aF K) te fe):MS K C (Fw (tBM K "list" wY (m5 i) (j8 te wL))) (M6 i fe):=by
 intro F H σ ρ D o R e P;unfold M6 at e;split at e
 ·rename_i l hl;obtain⟨a,g1,⟨xs,g2,g3⟩,g4,g5⟩:=R.ow i _ (bL hl);refine⟨_,g1,tyL g2,h.rZ R e P λp v F1 H1 hk u w=>?_⟩;split at hk
  ·rename_i hlen;cases hk;obtain⟨a',k1,⟨ys,k2,k3⟩,k4,k5⟩:=(R.up u).ow i _ (bL hl);rw[g1] at k1;cases k1;refine⟨a,ys,v,rfl,rfl,k2,by rw[k3.1];exact hlen,?_⟩
   exact P F1 _ σ u.ff ((R.up u).write (bL hl) g1 ⟨_,aN,k3.snoc w⟩)
  ·cases hk
 ·cases e
def ie(fc:Fn Bool)(f g:Sn):Sn:=λρ=>gw (fc ρ) λb=>if b=true then f ρ else g ρ
theorem d8{c:TT}{fc:Fn Bool}(hc:MT K C c fc)(h1:MS K C t f)(h2:MS K C u g):MS K C (Xn c t u) (ie fc f g):=by
 intro F H σ ρ D o R e P;refine hc.rZ R e P λb F1 H1 hk uu=>?_;cases b with
 |true=>rw[Zaf rfl] at hk ⊢;exact h1 F1 H1 σ ρ D o (R.up uu) hk (P.up uu.ff)
 |false=>rw[Zad (by decide)] at hk ⊢;exact h2 F1 H1 σ ρ D o (R.up uu) hk (P.up uu.ff)
structure ItR(K:Frag)(J:It)(F:Hp)(l:List PV):Prop where
 stop:∀ F' H',aU F F'->aU F' H'->J.stop l.length H'
 go:∀ i F' H',i<l.length->aU F F'->aU F' H'->J.go i H'
 yld:∀ i F' H' x H'',i<l.length->aU F F'->aU F' H'->J.yld i H' x H''->∃ F'' p,Up F' H' F'' H''/\l[i]?=some p/\Rep K F'' x p
def MI(K:Frag)(C:Cg)(wi:TI)(f:Fn (List PV)):Prop:=
 ∀ F H σ ρ R' r,RE K C.toCf F H σ ρ->f ρ=some r->Pr C F (λl=>∀ J F' H',Up F H F' H'->ItR K J F' l->R' J H') r->wi σ H R'
def loop(tg:PV->Rho->Option Rho)(body:Sn):List PV->Rho->Option Out
 |[],ρ=>some (.nx ρ)
 |x::xs,ρ=>match tg x ρ with
  |none=>none
  |some ρ1=>match body ρ1 with
   |some (.nx ρ2)=>loop tg body xs ρ2
   |some (.ct ρ2)=>loop tg body xs ρ2
   |some (.bk ρ2)=>some (.nx ρ2)
   |x=>x
def nU(it:Fn (List PV))(tg:PV->Rho->Option Rho)(body:Sn):Sn:=λρ=>gw (it ρ) λl=>loop tg body l ρ
theorem Bb{J:It}{gt:TG}{tg:PV->Rho->Option Rho}{l:List PV}(hg:MG K C gt tg)(hb:MS K C t f)(hJ:ItR K J F l)(R:RE K C.toCf F H σ ρ)(e:loop tg f l ρ=some o)(P:PO' K C F D o):YK J gt t D σ H:=by
 refine⟨λi m σ' H'=>∃ F' ρ',m=l.length-i/\i<=l.length/\aU F F'/\RE K C.toCf F' H' σ' ρ'/\loop tg f (l.drop i) ρ'=some o,⟨l.length,F,ρ,by simp,Zba _,aU.refl _,R,by rw[Zbo];exact e⟩,?_⟩
 rintro i m σ' H' ⟨F',ρ',rfl,hi,s,R',e'⟩;by_cases hlt:i<l.length
 ·refine .inr ⟨hJ.go i F' H' hlt s R'.rb.sub,λσ2 H2=>∃ F2 ρ2,aU F F2/\RE K C.toCf F2 H2 σ2 ρ2/\loop tg f (l.drop (i+1)) ρ2=some o,λσ2 H2 ⟨F2,ρ2,s2,R2,e2⟩=>⟨l.length-(i+1),by omega,F2,ρ2,rfl,hlt,s2,R2,e2⟩,λx H'' y=>?_⟩
  obtain⟨F'',p,u,ep,rx⟩:=hJ.yld i F' H' x H'' hlt s R'.rb.sub y;have ed:l.drop i=p::l.drop (i+1):=by
   rw[ZaS hlt];rw[List.getElem?_eq_getElem hlt] at ep;rw[Zac ep]
  rw[ed,loop] at e';split at e'
  ·cases e'
  ·rename_i ρ1 h1;refine hg F'' H'' σ' ρ' x p ρ1 _ (R'.up u) rx h1 λσ1 R1=>?_;have sF:aU F F'':=s.trans u.ff;split at e'
   ·rename_i ρ2 h2;exact hb F'' H'' σ1 ρ1 _ _ R1 h2 λF3 H3 σ3 s3 R3=>⟨F3,ρ2,sF.trans s3,R3,e'⟩
   ·rename_i ρ2 h2;exact hb F'' H'' σ1 ρ1 _ _ R1 h2 λF3 H3 σ3 s3 R3=>⟨F3,ρ2,sF.trans s3,R3,e'⟩
   ·rename_i ρ2 h2;cases e';exact hb F'' H'' σ1 ρ1 _ _ R1 h2 λF3 H3 σ3 s3 R3=>P F3 H3 σ3 (sF.trans s3) R3
   ·rename_i n1 n2 n3;cases o with
    |nx ρ2=>exact absurd e' (n1 ρ2)
    |ct ρ2=>exact absurd e' (n2 ρ2)
    |bk ρ2=>exact absurd e' (n3 ρ2)
    |rt p=>exact hb F'' H'' σ1 ρ1 _ _ R1 e' (PO'.up (D:=D) P sF)
    |ro p=>exact hb F'' H'' σ1 ρ1 _ _ R1 e' (PO'.up (D:=D) P sF)
    |rd p=>exact hb F'' H'' σ1 ρ1 _ _ R1 e' (PO'.up (D:=D) P sF)
    |ex z=>exact hb F'' H'' σ1 ρ1 _ _ R1 e' (PX.up P sF)
 ·have ei:i=l.length:=by omega
  subst ei;rw[List.drop_length] at e';cases e';exact .inl ⟨hJ.stop F' H' s R'.rb.sub,P F' H' σ' s R'⟩
theorem gP{wi:TI}{it:Fn (List PV)}{gt:TG}{tg:PV->Rho->Option Rho}(hi:MI K C wi it)(hg:MG K C gt tg)(hb:MS K C t f):MS K C (VJ wi gt t) (nU it tg f):=by
 intro F H σ ρ D o R e P;rcases cZ e with⟨z,e1,rfl⟩|⟨l,e1,hk⟩
 ·exact hi F H σ ρ _ _ R e1 P
 ·exact hi F H σ ρ _ _ R e1 λJ F' H' u hJ=>Bb hg hb hJ (R.up u) hk (P.up u.ff)
def ik(fc:Fn Bool)(body:Sn):Nat->Rho->Option Out
 |0,_=>none
 |n+1,ρ=>gw (fc ρ) λb=>if b=true then(match body ρ with
   |some (.nx ρ2)=>ik fc body n ρ2
   |some (.ct ρ2)=>ik fc body n ρ2
   |some (.bk ρ2)=>some (.nx ρ2)
   |x=>x) else some (.nx ρ)
theorem pN{c:TT}{fc:Fn Bool}(n:Nat)(hc:MT K C c fc)(hb:MS K C t f):MS K C (Jk c t) (ik fc f n):=by
 intro F H σ ρ D o R e P;refine⟨λm σ' H'=>∃ F' ρ',aU F F'/\RE K C.toCf F' H' σ' ρ'/\ik fc f m ρ'=some o,⟨n,F,ρ,aU.refl _,R,e⟩,?_⟩;rintro m σ' H' ⟨F',ρ',s,R',e'⟩;cases m with
 |zero=>cases e'
 |succ m=>
  refine hc.rZ R' e' (P.up s) λb F1 H1 hk u=>?_;have sF:aU F F1:=s.trans u.ff;have R1:=R'.up u;cases b with
  |false=>
   rw[Zad (by decide)] at hk ⊢
   cases hk;exact P F1 H1 σ' sF R1
  |true=>
   rw[Zaf rfl] at hk ⊢;refine⟨λσ2 H2=>∃ F2 ρ2,aU F F2/\RE K C.toCf F2 H2 σ2 ρ2/\ik fc f m ρ2=some o,λσ2 H2 ⟨F2,ρ2,s2,R2,e2⟩=>⟨m,Nat.lt_succ_self _,F2,ρ2,s2,R2,e2⟩,?_⟩;split at hk
   ·rename_i ρ2 h2;exact hb F1 H1 σ' ρ' _ _ R1 h2 λF3 H3 σ3 s3 R3=>⟨F3,ρ2,sF.trans s3,R3,hk⟩
   ·rename_i ρ2 h2;exact hb F1 H1 σ' ρ' _ _ R1 h2 λF3 H3 σ3 s3 R3=>⟨F3,ρ2,sF.trans s3,R3,hk⟩
   ·rename_i ρ2 h2;cases hk;exact hb F1 H1 σ' ρ' _ _ R1 h2 λF3 H3 σ3 s3 R3=>P F3 H3 σ3 (sF.trans s3) R3
   ·rename_i n1 n2 n3;cases o with
    |nx ρ2=>exact absurd hk (n1 ρ2)
    |ct ρ2=>exact absurd hk (n2 ρ2)
    |bk ρ2=>exact absurd hk (n3 ρ2)
    |rt p=>exact hb F1 H1 σ' ρ' _ _ R1 hk (PO'.up (D:=D) P sF)
    |ro p=>exact hb F1 H1 σ' ρ' _ _ R1 hk (PO'.up (D:=D) P sF)
    |rd p=>exact hb F1 H1 σ' ρ' _ _ R1 hk (PO'.up (D:=D) P sF)
    |ex z=>exact hb F1 H1 σ' ρ' _ _ R1 hk (PX.up P sF)
end
def eqL(f:PV->PV->Option Bool):List PV->List PV->Option Bool
 |[],[]=>some true
 |[],_::_=>some false
 |_::_,[]=>some false
 |x::xs,y::ys=>match f x y,eqL f xs ys with
  |some a,some b=>some (a&&b)
  |_,_=>none
def eqF:Nat->PV->PV->Option Bool
 |_,.non,.non=>some true
 |_,.non,.bl _=>some false
 |_,.non,.int _=>some false
 |_,.non,.str _=>some false
 |_,.bl _,.non=>some false
 |_,.bl a,.bl b=>some (decide (a=b))
 |_,.bl _,.str _=>some false
 |_,.int _,.non=>some false
 |_,.int a,.int b=>some (decide (a=b))
 |_,.int _,.str _=>some false
 |_,.str _,.non=>some false
 |_,.str _,.bl _=>some false
 |_,.str _,.int _=>some false
 |_,.str a,.str b=>some (decide (a=b))
 |_,.non,.tup _=>some false
 |_,.tup _,.non=>some false
 |_,.non,.lst _=>some false
 |_,.lst _,.non=>some false
 |_,.int _,.tup _=>some false
 |_,.tup _,.int _=>some false
 |_,.str _,.tup _=>some false
 |_,.tup _,.str _=>some false
 |_,.int _,.lst _=>some false
 |_,.lst _,.int _=>some false
 |_,.str _,.lst _=>some false
 |_,.lst _,.str _=>some false
 |_,.lst _,.tup _=>some false
 |_,.tup _,.lst _=>some false
 |n+1,.tup l,.tup m=>eqL (eqF n) l m
 |n+1,.lst l,.lst m=>if l.length=m.length then eqL (eqF n) l m else some false
 |_,_,_=>none
theorem pO{f:PV->PV->Option Bool}(h:∀ p r,f p p=some r->r=true):∀ {l:List PV}{r:Bool},eqL f l l=some r->r=true
 |[],r,e=>by cases e;rfl
 |x::xs,r,e=>by
  rw[eqL] at e;split at e
  ·rename_i a b h1 h2;cases e;rw[h x a h1,pO h h2];rfl
  ·cases e
theorem Gi:∀ (n:Nat) (p:PV) (r:Bool),eqF n p p=some r->r=true
 |n,p,r,e=>by
  induction n generalizing p r with
  |zero=>cases p<;>first|(cases (show some true=some r from e);rfl)|(cases (show some (decide _)=some r from e);exact Zax rfl)|cases (show none=some r from e)
  |succ n ih=>
   cases p with
   |tup l=>exact pO ih e
   |lst l=>
    have e:(if l.length=l.length then eqL (eqF n) l l else some false)=some r:=e;rw[Zaf rfl] at e;exact pO ih e
   |_=>first|(cases (show some true=some r from e);rfl)|(cases (show some (decide _)=some r from e);exact Zax rfl)|cases (show none=some r from e)
theorem Dh{f:PV->PV->Option Bool}:∀ {l m:List PV}{r:Bool},eqL f l m=some r->∃ e:Nat->Bool,(∀ (j:Nat) x y,l[j]?=some x->m[j]?=some y->f x y=some (e j))/\r=((List.range (min l.length m.length)).all e&&l.length==m.length)
 |[],[],r,h=>⟨λ_=>true,λj x y a=>by simp at a,by cases h;rfl⟩
 |[],_::_,r,h=>⟨λ_=>true,λj x y a=>by simp at a,by cases h;simp⟩
 |_::_,[],r,h=>⟨λ_=>true,λj x y _ a=>by simp at a,by cases h;simp⟩
 |x::xs,y::ys,r,h=>by
  rw[eqL] at h;split at h
  ·rename_i a b h1 h2;cases h;obtain⟨e,e1,e2⟩:=Dh h2;refine⟨λj=>match j with|0=>a|j+1=>e j,λj x' y' a' b'=>?_,?_⟩
   ·cases j with
    |zero=>simp at a' b';subst a' b';exact h1
    |succ j=>exact e1 j x' y' (by simpa using a') (by simpa using b')
   ·rw[e2,ZaF,ZaF,Nat.succ_min_succ,List.range_succ_eq_map,List.all_cons,List.all_map];have:((xs.length+1==ys.length+1):Bool)=(xs.length==ys.length):=by
     rw[Bool.eq_iff_iff];simp
    rw[this];cases a<;>simp[Function.comp_def]
  ·cases h
section
variable{X:Cx}{pins:List (Addr×Obj)}{σ:St}{H:Hp}{s:Shared}
theorem Rep.kinds(I:Inv X pins σ H s){a:Addr}{xs ys:List V}(h1:SqL X.K H a xs)(h2:SqT X.K H a ys):False:=by
 obtain⟨_,_,p1,_⟩:=I.list h1;obtain⟨_,_,p2,_⟩:=I.tuple h2;obtain⟨o,n,e,c,_⟩:=p1;obtain⟨o',e',c',_⟩:=p2;rw[e] at e';cases e';rw[c] at c';exact absurd c' (by decide)
theorem Gj{xs:List V}{l m:List PV}(h1:xs.length=l.length)(h2:xs.length=m.length)(h:∀ (j:Nat) x p q,xs[j]?=some x->l[j]?=some p->m[j]?=some q->p=q):l=m:=by
 apply ZbB
 intro j;by_cases hj:j<xs.length
 ·have hl:j<l.length:=by lia
  have hm:j<m.length:=by lia
  rw[List.getElem?_eq_getElem hl,List.getElem?_eq_getElem hm,h j xs[j] l[j] m[j] (by simp[hj]) (by simp[hl]) (by simp[hm])]
 ·rw[ZaN (by lia),ZaN (by lia)]
def HO.isDict:HO->Bool
 |.dK _=>true
 |.dT _=>true
 |_=>false
theorem Te{H:Hp}{a:Addr}{u v:HO}(hu:HO.isDict u=true)(hv:HO.isDict v=true)(h:Rd H a u)(h':Rd H a v):u=v:=by
 rcases h with h|⟨o,h⟩<;>rcases h' with h'|⟨o',h'⟩<;>rw[h] at h'<;>cases h'
 ·rfl
 ·cases hu
 ·cases hv
 ·rfl
theorem Di{H:Hp}{a:Addr}{u v:HO}(h:Rd H a u)(h':Rd H a v)(hu:HO.isDict u=true:=by rfl)(hv:HO.isDict v=true:=by rfl):u=v:=Te hu hv h h'
theorem Rep.noDict(I:Inv X pins σ H s){a:Addr}{ks:List (Key×V)}{ts:List (List Key×V)}(h1:Rd H a (.dK ks)\/Rd H a (.dT ts))(h2:(∃ xs,SqL X.K H a xs)\/∃ xs,SqT X.K H a xs):False:=by
 have d:∃ o es ep,s.heap.get? a=some o/\o.data=.dict es ep:=by
  rcases h1 with h1|h1
  ·obtain⟨_,_,_,_,o,es,ep,e,x,d,_⟩:=h1.ok I.hok;exact⟨o,es,ep,e,d⟩
  ·obtain⟨_,_,_,_,o,es,ep,e,x,d,_⟩:=h1.ok I.hok;exact⟨o,es,ep,e,d⟩
 obtain⟨o,es,ep,e,d⟩:=d;rcases h2 with⟨xs,h2⟩|⟨xs,h2⟩
 ·obtain⟨_,_,p1,_⟩:=I.list h2;obtain⟨o',n,e',_,_,d'⟩:=p1;rw[e] at e';cases e';rw[d] at d';cases d'
 ·obtain⟨_,_,p1,_⟩:=I.tuple h2;obtain⟨o',e',_,n,d'⟩:=p1;rw[e] at e';cases e';rw[d] at d';cases d'
theorem XO.at(I:Inv X pins σ H s){a C:Addr}{d:Option Addr}(h:H a=some (XO a C d)):∃ vs:Array Value,s.heap.get? a=some { cls:=.ref C,dict:=d,data:=.fields vs }:=(I.hok _ _ h).1
theorem XO.inj(I:Inv X pins σ H s){a C C':Addr}{d d':Option Addr}(h:H a=some (XO a C d))(h':H a=some (XO a C' d')):C=C'/\d=d':=by
 obtain⟨vs,e⟩:=XO.at I h;obtain⟨vs',e'⟩:=XO.at I h';rw[e] at e';cases e';exact⟨rfl,rfl⟩
theorem XO.noSeq(I:Inv X pins σ H s){a C:Addr}{d:Option Addr}(h:H a=some (XO a C d))(h2:(∃ xs,SqL X.K H a xs)\/∃ xs,SqT X.K H a xs):False:=by
 obtain⟨vs,e⟩:=XO.at I h;rcases h2 with⟨xs,h2⟩|⟨xs,h2⟩
 ·obtain⟨_,_,p1,_⟩:=I.list h2;obtain⟨o',n,e',_,_,d'⟩:=p1;rw[e] at e';cases e';cases d'
 ·obtain⟨_,_,p1,_⟩:=I.tuple h2;obtain⟨o',e',_,n,d'⟩:=p1;rw[e] at e';cases e';cases d'
theorem XNm.inj{K:Frag}{C:Addr}{c c':Str}(a:XNm K C c)(b:XNm K C c'):c=c':=by
 obtain⟨cd,h1,h2⟩:=a.cl;obtain⟨cd',h1',h2'⟩:=b.cl;rw[h1] at h1';cases h1';exact h2.symm.trans h2'
theorem Rep.inj(I:Inv X pins σ H s){x:V}{p:PV}(h:Rep X.K H x p):∀ {q:PV},Rep X.K H x q->p=q:=by
 have pairs:∀ {κ:Type}{xs:List (κ×V)}{l m:List (κ×PV)},xs.map (·.1)=l.map (·.1)->xs.map (·.1)=m.map (·.1)->(∀ (j:Nat) x p q,xs[j]?=some x->l[j]?=some p->m[j]?=some q->p.2=q.2)->l=m:=by
  intro κ xs l m h1 h2 h3;have l1:xs.length=l.length:=by simpa using Zbg List.length h1
  have l2:xs.length=m.length:=by simpa using Zbg List.length h2
  apply ZbB
  intro j;by_cases hj:j<xs.length
  ·have hl:j<l.length:=by lia
   have hm:j<m.length:=by lia
   rw[List.getElem?_eq_getElem hl,List.getElem?_eq_getElem hm];have k:=Zbg (·[j]?) (h1.symm.trans h2);simp[hl,hm] at k;have v:=h3 j xs[j] l[j] m[j] (by simp[hj]) (by simp[hl]) (by simp[hm])
   rw[Prod.ext k v]
  ·rw[ZaN (by lia),ZaN (by lia)]
 induction h with
 |non=>intro q h';cases h';rfl
 |bl=>intro q h';cases h';rfl
 |int=>intro q h';cases h';rfl
 |str=>intro q h';cases h';rfl
 |ty=>intro q h';cases h';rfl
 |@tup a xs l h hl _ ih=>
  intro q h';have h:=SqT.of (K:=X.K) h;cases h' with
  |tup h2 hl2 hr2=>
   cases I.Am h (SqT.of (K:=X.K) h2);rw[Gj hl hl2 λj x p q e1 e2 e3=>ih j x p e1 e2 (hr2 j x q e1 e3)]
  |lst h2=>exact(Rep.kinds I h2 h).elim
  |dk h2=>exact(Rep.noDict I (ts:=[]) (.inl h2) (.inr ⟨_,h⟩)).elim
  |dt h2=>exact(Rep.noDict I (ks:=[]) (.inr h2) (.inr ⟨_,h⟩)).elim
  |exc _ h2=>exact(XO.noSeq I h2 (.inr ⟨_,h⟩)).elim
  |exc0 _ h2=>exact(XO.noSeq I h2 (.inr ⟨_,h⟩)).elim
 |@lst a xs l h hl _ ih=>
  intro q h';cases h' with
  |tup h2=>exact(Rep.kinds I h (SqT.of h2)).elim
  |lst h2 hl2 hr2=>
   cases I.pG h h2;rw[Gj hl hl2 λj x p q e1 e2 e3=>ih j x p e1 e2 (hr2 j x q e1 e3)]
  |dk h2=>exact(Rep.noDict I (ts:=[]) (.inl h2) (.inl ⟨_,h⟩)).elim
  |dt h2=>exact(Rep.noDict I (ks:=[]) (.inr h2) (.inl ⟨_,h⟩)).elim
  |exc _ h2=>exact(XO.noSeq I h2 (.inl ⟨_,h⟩)).elim
  |exc0 _ h2=>exact(XO.noSeq I h2 (.inl ⟨_,h⟩)).elim
 |@dk a xs l h hl _ ih=>
  intro q h';cases h' with
  |tup h2=>exact(Rep.noDict I (ts:=[]) (.inl h) (.inr ⟨_,SqT.of h2⟩)).elim
  |lst h2=>exact(Rep.noDict I (ts:=[]) (.inl h) (.inl ⟨_,h2⟩)).elim
  |dk h2 hl2 hr2=>
   cases (Di h h2);rw[pairs hl hl2 λj x p q e1 e2 e3=>ih j x p e1 e2 (hr2 j x q e1 e3)]
  |dt h2=>cases Di h h2
  |exc _ h2=>rcases h with h|⟨o,h⟩<;>rw[h] at h2<;>cases h2
  |exc0 _ h2=>rcases h with h|⟨o,h⟩<;>rw[h] at h2<;>cases h2
 |@dt a xs l h hl _ ih=>
  intro q h';cases h' with
  |tup h2=>exact(Rep.noDict I (ks:=[]) (.inr h) (.inr ⟨_,SqT.of h2⟩)).elim
  |lst h2=>exact(Rep.noDict I (ks:=[]) (.inr h) (.inl ⟨_,h2⟩)).elim
  |dk h2=>cases Di h h2
  |dt h2 hl2 hr2=>
   cases (Di h h2);rw[pairs hl hl2 λj x p q e1 e2 e3=>ih j x p e1 e2 (hr2 j x q e1 e3)]
  |exc _ h2=>rcases h with h|⟨o,h⟩<;>rw[h] at h2<;>cases h2
  |exc0 _ h2=>rcases h with h|⟨o,h⟩<;>rw[h] at h2<;>cases h2
 |@exc a C dx c xs l nm h hd hl _ ih=>
  intro q h';cases h' with
  |tup h2=>exact(XO.noSeq I h (.inr ⟨_,SqT.of h2⟩)).elim
  |lst h2=>exact(XO.noSeq I h (.inl ⟨_,h2⟩)).elim
  |dk h2=>rcases h2 with h2|⟨o,h2⟩<;>rw[h] at h2<;>cases h2
  |dt h2=>rcases h2 with h2|⟨o,h2⟩<;>rw[h] at h2<;>cases h2
  |exc nm2 h2 hd2 hl2 hr2=>
   obtain⟨rfl,e⟩:=XO.inj I h h2;cases e;rw[hd] at hd2;cases hd2;cases XNm.inj nm nm2;rw[pairs hl hl2 λj x p q e1 e2 e3=>ih j x p e1 e2 (hr2 j x q e1 e3)]
  |exc0 nm2 h2=>cases (XO.inj I h h2).2
 |@exc0 a C c nm h=>
  intro q h';cases h' with
  |tup h2=>exact(XO.noSeq I h (.inr ⟨_,SqT.of h2⟩)).elim
  |lst h2=>exact(XO.noSeq I h (.inl ⟨_,h2⟩)).elim
  |dk h2=>rcases h2 with h2|⟨o,h2⟩<;>rw[h] at h2<;>cases h2
  |dt h2=>rcases h2 with h2|⟨o,h2⟩<;>rw[h] at h2<;>cases h2
  |exc nm2 h2=>cases (XO.inj I h h2).2
  |exc0 nm2 h2=>
   obtain⟨rfl,_⟩:=XO.inj I h h2;cases XNm.inj nm nm2;rfl
theorem Pj(I:Inv X pins σ H s):∀ {A:Around}{x y:V}{p q:PV}{r:Bool}{u v:Value},A.units<cLine->eqF 0 p q=some r->Rep X.K H x p->Rep X.K H y q->RelV x u->RelV y v ->
  SeqAt.RcAt A s u v r/\SeqAt.EqAt A s u v r/\SeqAt.RcNeAt A s u v (!r):=by
 intro A x y p q r u v hu e rx ry ru rv;have hu0:A.units<cLine:=hu
 match p,q,e with
 |.non,.non,e=>
  have e:=Zac e;subst e;cases Rep.fX rx;cases Rep.fX ry;cases ru;cases rv;exact⟨SeqAt.RcAt.none_none,SeqAt.EqAt.same _,SeqAt.RcNeAt.none_none⟩
 |.non,.bl b,e=>
  have e:=Zac e;subst e;cases Rep.fX rx;cases Rep.iW ry;cases ru;cases rv;exact⟨SeqAt.RcAt.none_bool _,SeqAt.EqAt.none_bool _,SeqAt.RcNeAt.none_bool _⟩
 |.non,.int b,e=>
  have e:=Zac e;subst e;cases Rep.fX rx;cases Rep.bD ry;cases ru;obtain⟨tb,rfl⟩:=rv;exact⟨SeqAt.RcAt.none_int _ _,SeqAt.EqAt.none_int _ _,SeqAt.RcNeAt.none_int _ _⟩
 |.non,.str b,e=>
  have e:=Zac e;subst e;cases Rep.fX rx;cases Rep.b8 ry;cases ru;obtain⟨tb,rfl⟩:=rv;exact⟨SeqAt.RcAt.none_str _ _,SeqAt.EqAt.none_str _ _,SeqAt.RcNeAt.none_str _ _⟩
 |.bl a,.non,e=>
  have e:=Zac e;subst e;cases Rep.iW rx;cases Rep.fX ry;cases ru;cases rv;exact⟨SeqAt.RcAt.bool_none _,SeqAt.EqAt.bool_none _,SeqAt.RcNeAt.bool_none _⟩
 |.bl a,.bl b,e=>
  have e:=Zac e;subst e;cases Rep.iW rx;cases Rep.iW ry;cases ru;cases rv;rw[<-Bool.beq_eq_decide_eq];exact⟨SeqAt.RcAt.bool_bool _ _,SeqAt.EqAt.bool_bool _ _,SeqAt.RcNeAt.bool_bool _ _⟩
 |.bl a,.str b,e=>
  have e:=Zac e;subst e;cases Rep.iW rx;cases Rep.b8 ry;cases ru;obtain⟨tb,rfl⟩:=rv;exact⟨SeqAt.RcAt.bool_str _ _ _,SeqAt.EqAt.bool_str _ _ _,SeqAt.RcNeAt.bool_str _ _ _⟩
 |.int a,.non,e=>
  have e:=Zac e;subst e;cases Rep.bD rx;cases Rep.fX ry;obtain⟨ta,rfl⟩:=ru;cases rv;exact⟨SeqAt.RcAt.int_none _ _,SeqAt.EqAt.int_none _ _,SeqAt.RcNeAt.int_none _ _⟩
 |.int a,.int b,e=>
  have e:=Zac e;subst e;cases Rep.bD rx;cases Rep.bD ry;obtain⟨ta,rfl⟩:=ru;obtain⟨tb,rfl⟩:=rv;rw[<-Bool.beq_eq_decide_eq];exact⟨SeqAt.RcAt.int_int _ _ _ _,SeqAt.EqAt.int_int _ _ _ _,SeqAt.RcNeAt.int_int _ _ _ _⟩
 |.int a,.str b,e=>
  have e:=Zac e;subst e;cases Rep.bD rx;cases Rep.b8 ry;obtain⟨ta,rfl⟩:=ru;obtain⟨tb,rfl⟩:=rv;exact⟨SeqAt.RcAt.int_str _ _ _ _,SeqAt.EqAt.int_str _ _ _ _,SeqAt.RcNeAt.int_str _ _ _ _⟩
 |.str a,.non,e=>
  have e:=Zac e;subst e;cases Rep.b8 rx;cases Rep.fX ry;obtain⟨ta,rfl⟩:=ru;cases rv;exact⟨SeqAt.RcAt.str_none _ _,SeqAt.EqAt.str_none _ _,SeqAt.RcNeAt.str_none _ _⟩
 |.str a,.bl b,e=>
  have e:=Zac e;subst e;cases Rep.b8 rx;cases Rep.iW ry;obtain⟨ta,rfl⟩:=ru;cases rv;exact⟨SeqAt.RcAt.str_bool _ _ _,SeqAt.EqAt.str_bool _ _ _,SeqAt.RcNeAt.str_bool _ _ _⟩
 |.str a,.int b,e=>
  have e:=Zac e;subst e;cases Rep.b8 rx;cases Rep.bD ry;obtain⟨ta,rfl⟩:=ru;obtain⟨tb,rfl⟩:=rv;exact⟨SeqAt.RcAt.str_int _ _ _ _,SeqAt.EqAt.str_int _ _ _ _,SeqAt.RcNeAt.str_int _ _ _ _⟩
 |.str a,.str b,e=>
  have e:=Zac e;subst e;cases Rep.b8 rx;cases Rep.b8 ry;obtain⟨ta,rfl⟩:=ru;obtain⟨tb,rfl⟩:=rv;rw[<-Bool.beq_eq_decide_eq];exact⟨SeqAt.RcAt.str_str _ _ _ _,SeqAt.EqAt.str_str _ _ _ _,SeqAt.RcNeAt.str_str _ _ _ _⟩
 |.tup a,.non,e=>
  have e:=Zac e;subst e;obtain⟨aa,xsa,rfl,ha,_⟩:=rx.cL;cases ru;obtain⟨_,_,pa,_⟩:=I.tuple ha;cases Rep.fX ry;cases rv;exact⟨SeqAt.RcAt.tuple_none pa hu0,SeqAt.EqAt.tuple_none pa hu0,SeqAt.RcNeAt.tuple_none pa hu0⟩
 |.non,.tup b,e=>
  have e:=Zac e;subst e;cases Rep.fX rx;cases ru;obtain⟨ab,xsb,rfl,hb,_⟩:=ry.cL;cases rv;obtain⟨_,_,pb,_⟩:=I.tuple hb;exact⟨SeqAt.RcAt.none_tuple pb hu0,SeqAt.EqAt.none_tuple pb hu0,SeqAt.RcNeAt.none_tuple pb hu0⟩
 |.tup a,.int b,e=>
  have e:=Zac e;subst e;obtain⟨aa,xsa,rfl,ha,_⟩:=rx.cL;cases ru;obtain⟨_,_,pa,_⟩:=I.tuple ha;cases Rep.bD ry;obtain⟨tb,rfl⟩:=rv;exact⟨SeqAt.RcAt.tuple_int _ _ pa hu0,SeqAt.EqAt.tuple_int _ _ pa hu0,SeqAt.RcNeAt.tuple_int _ _ pa hu0⟩
 |.int a,.tup b,e=>
  have e:=Zac e;subst e;cases Rep.bD rx;obtain⟨ta,rfl⟩:=ru;obtain⟨ab,xsb,rfl,hb,_⟩:=ry.cL;cases rv;obtain⟨_,_,pb,_⟩:=I.tuple hb;exact⟨SeqAt.RcAt.int_tuple _ _ pb hu0,SeqAt.EqAt.int_tuple _ _ pb hu0,SeqAt.RcNeAt.int_tuple _ _ pb hu0⟩
 |.tup a,.str b,e=>
  have e:=Zac e;subst e;obtain⟨aa,xsa,rfl,ha,_⟩:=rx.cL;cases ru;obtain⟨_,_,pa,_⟩:=I.tuple ha;cases Rep.b8 ry;obtain⟨tb,rfl⟩:=rv;exact⟨SeqAt.RcAt.tuple_str _ _ pa hu0,SeqAt.EqAt.tuple_str _ _ pa hu0,SeqAt.RcNeAt.tuple_str _ _ pa hu0⟩
 |.str a,.tup b,e=>
  have e:=Zac e;subst e;cases Rep.b8 rx;obtain⟨ta,rfl⟩:=ru;obtain⟨ab,xsb,rfl,hb,_⟩:=ry.cL;cases rv;obtain⟨_,_,pb,_⟩:=I.tuple hb;exact⟨SeqAt.RcAt.str_tuple _ _ pb hu0,SeqAt.EqAt.str_tuple _ _ pb hu0,SeqAt.RcNeAt.str_tuple _ _ pb hu0⟩
 |.lst a,.non,e=>
  have e:=Zac e;subst e;obtain⟨aa,xsa,rfl,ha,_⟩:=rx.cg;cases ru;obtain⟨_,_,pa,_⟩:=I.list ha;cases Rep.fX ry;cases rv;exact⟨SeqAt.RcAt.list_none pa.isList hu0,SeqAt.EqAt.list_none pa.isList hu0,SeqAt.RcNeAt.list_none pa.isList hu0⟩
 |.non,.lst b,e=>
  have e:=Zac e;subst e;cases Rep.fX rx;cases ru;obtain⟨ab,xsb,rfl,hb,_⟩:=ry.cg;cases rv;obtain⟨_,_,pb,_⟩:=I.list hb;exact⟨SeqAt.RcAt.none_list pb.isList hu0,SeqAt.EqAt.none_list pb.isList hu0,SeqAt.RcNeAt.none_list pb.isList hu0⟩
 |.lst a,.int b,e=>
  have e:=Zac e;subst e;obtain⟨aa,xsa,rfl,ha,_⟩:=rx.cg;cases ru;obtain⟨_,_,pa,_⟩:=I.list ha;cases Rep.bD ry;obtain⟨tb,rfl⟩:=rv;exact⟨SeqAt.RcAt.list_int _ _ pa.isList hu0,SeqAt.EqAt.list_int _ _ pa.isList hu0,SeqAt.RcNeAt.list_int _ _ pa.isList hu0⟩
 |.int a,.lst b,e=>
  have e:=Zac e;subst e;cases Rep.bD rx;obtain⟨ta,rfl⟩:=ru;obtain⟨ab,xsb,rfl,hb,_⟩:=ry.cg;cases rv;obtain⟨_,_,pb,_⟩:=I.list hb;exact⟨SeqAt.RcAt.int_list _ _ pb.isList hu0,SeqAt.EqAt.int_list _ _ pb.isList hu0,SeqAt.RcNeAt.int_list _ _ pb.isList hu0⟩
 |.lst a,.str b,e=>
  have e:=Zac e;subst e;obtain⟨aa,xsa,rfl,ha,_⟩:=rx.cg;cases ru;obtain⟨_,_,pa,_⟩:=I.list ha;cases Rep.b8 ry;obtain⟨tb,rfl⟩:=rv;exact⟨SeqAt.RcAt.list_str _ _ pa.isList hu0,SeqAt.EqAt.list_str _ _ pa.isList hu0,SeqAt.RcNeAt.list_str _ _ pa.isList hu0⟩
 |.str a,.lst b,e=>
  have e:=Zac e;subst e;cases Rep.b8 rx;obtain⟨ta,rfl⟩:=ru;obtain⟨ab,xsb,rfl,hb,_⟩:=ry.cg;cases rv;obtain⟨_,_,pb,_⟩:=I.list hb;exact⟨SeqAt.RcAt.str_list _ _ pb.isList hu0,SeqAt.EqAt.str_list _ _ pb.isList hu0,SeqAt.RcNeAt.str_list _ _ pb.isList hu0⟩
 |.lst a,.tup b,e=>
  have e:=Zac e;subst e;obtain⟨aa,xsa,rfl,ha,_⟩:=rx.cg;cases ru;obtain⟨_,_,pa,_⟩:=I.list ha;obtain⟨ab,xsb,rfl,hb,_⟩:=ry.cL;cases rv;obtain⟨_,_,pb,_⟩:=I.tuple hb;exact⟨SeqAt.RcAt.list_tuple pa.isList pb hu0,SeqAt.EqAt.list_tuple pa.isList pb hu0,SeqAt.RcNeAt.list_tuple pa.isList pb hu0⟩
 |.tup a,.lst b,e=>
  have e:=Zac e;subst e;obtain⟨aa,xsa,rfl,ha,_⟩:=rx.cL;cases ru;obtain⟨_,_,pa,_⟩:=I.tuple ha;obtain⟨ab,xsb,rfl,hb,_⟩:=ry.cg;cases rv;obtain⟨_,_,pb,_⟩:=I.list hb;exact⟨SeqAt.RcAt.tuple_list pa pb.isList hu0,SeqAt.EqAt.tuple_list pa pb.isList hu0,SeqAt.RcNeAt.tuple_list pa pb.isList hu0⟩
def Pk:PV->PV->Bool
 |.tup _,.tup _=>true
 |.lst _,.lst _=>true
 |_,_=>false
theorem Pn{n:Nat}{p q:PV}(h:Pk p q=false):eqF (n+1) p q=eqF 0 p q:=by
 cases p<;>cases q<;>first|rfl|cases h
theorem M7:∀ {p q:PV},Pk p q=true->(∃ l m,p=.tup l/\q=.tup m)\/∃ l m,p=.lst l/\q=.lst m
 |.tup l,q,h=>by
  cases q with
  |tup m=>exact .inl ⟨l,m,rfl,rfl⟩
  |_=>cases h
 |.lst l,q,h=>by
  cases q with
  |lst m=>exact .inr ⟨l,m,rfl,rfl⟩
  |_=>cases h
theorem Pu(I:Inv X pins σ H s):∀ (n:Nat) {A:Around}{x y:V}{p q:PV}{r:Bool}{u v:Value},A.units+n<cLine->eqF n p q=some r->Rep X.K H x p->Rep X.K H y q->RelV x u->RelV y v ->
  SeqAt.RcAt A s u v r/\SeqAt.EqAt A s u v r/\SeqAt.RcNeAt A s u v (!r):=by
 intro n;induction n with
 |zero=>exact λhu e=>Pj I (by lia) e
 |succ n ih=>
  intro A x y p q r u v hu e rx ry ru rv;have hu0:A.units<cLine:=by lia
  cases hr:Pk p q with
  |false=>exact Pj I hu0 (by rw[<-Pn hr];exact e) rx ry ru rv
  |true=>
  rcases M7 hr with⟨l,m,rfl,rfl⟩|⟨l,m,rfl,rfl⟩
  ·have e:eqL (eqF n) l m=some r:=e;obtain⟨a,xs,rfl,ha,r1⟩:=rx.cL;obtain⟨b,ys,rfl,hb,r2⟩:=ry.cL;cases ru;cases rv;obtain⟨i1,v1,t1,_⟩:=I.tuple ha;obtain⟨i2,v2,t2,_⟩:=I.tuple hb;obtain⟨g,g1,g2⟩:=Dh e;have hj:∀ j (h1:j<i1.toArray.size) (h2:j<i2.toArray.size),SeqAt.EqAt A.in1 s i1.toArray[j] i2.toArray[j] (g j):=λj h1 h2=>by
    obtain⟨x,hx,rx'⟩:=t6 v1 h1;obtain⟨y,hy,ry'⟩:=t6 v2 h2;obtain⟨p',hp,rp⟩:=r1.got hx;obtain⟨q',hq,rq⟩:=r2.got hy;exact(ih (A:=A.in1) (show A.units+1+n<cLine by lia) (g1 j p' q' hp hq) rp rq rx' ry').2.1
   have rc:=SeqAt.RcAt.tuples (A:=A) (e:=g) t1 t2 hu0 hj;have rn:=SeqAt.RcNeAt.tuples (A:=A) (e:=g) t1 t2 hu0 hj;rw[List.size_toArray,List.size_toArray,<-v1.length,<-v2.length,r1.1,r2.1,<-g2] at rc rn;refine⟨rc,?_,rn⟩;by_cases hab:a=b
   ·subst hab;have epq:PV.tup l=PV.tup m:=Rep.inj I rx ry;cases epq;have er:=pO (Gi n) e;subst er;exact SeqAt.EqAt.same _
   ·exact .of_refs hab rc
  ·obtain⟨a,xs,rfl,ha,r1⟩:=rx.cg;obtain⟨b,ys,rfl,hb,r2⟩:=ry.cg;cases ru;cases rv;obtain⟨i1,v1,t1,_⟩:=I.list ha;obtain⟨i2,v2,t2,_⟩:=I.list hb;have e:(if l.length=m.length then eqL (eqF n) l m else some false)=some r:=e;split at e
   ·rename_i hlm;obtain⟨g,g1,g2⟩:=Dh e;have hz:i1.toArray.size=i2.toArray.size:=by rw[List.size_toArray,List.size_toArray,<-v1.length,<-v2.length,r1.1,r2.1];exact hlm
    have hj:∀ j (h1:j<i1.toArray.size) (h2:j<i2.toArray.size),SeqAt.EqAt A.in1 s i1.toArray[j] i2.toArray[j] (g j):=λj h1 h2=>by
     obtain⟨x,hx,rx'⟩:=t6 v1 h1;obtain⟨y,hy,ry'⟩:=t6 v2 h2;obtain⟨p',hp,rp⟩:=r1.got hx;obtain⟨q',hq,rq⟩:=r2.got hy;exact(ih (A:=A.in1) (show A.units+1+n<cLine by lia) (g1 j p' q' hp hq) rp rq rx' ry').2.1
    have rc:=SeqAt.RcAt.lists (A:=A) (e:=g) t1.isList t2.isList hz hu0 hj;have e2:r=(List.range l.length).all g:=by rw[g2,<-hlm,Nat.min_self,beq_self_eq_true,Bool.and_true]
    have rn:=SeqAt.RcNeAt.lists (A:=A) (e:=g) t1.isList t2.isList hz hu0 hj;rw[List.size_toArray,<-v1.length,r1.1,<-e2] at rc rn;refine⟨rc,?_,rn⟩;by_cases hab:a=b
    ·subst hab;have epq:PV.lst l=PV.lst m:=Rep.inj I rx ry;cases epq;have er:=pO (Gi n) e;subst er;exact SeqAt.EqAt.same _
    ·exact .of_refs hab rc
   ·rename_i hlm;cases e;have hz:(i1.toArray.size != i2.toArray.size)=true:=by rw[List.size_toArray,List.size_toArray,<-v1.length,<-v2.length,r1.1,r2.1];simpa using hlm
    have rc:=SeqAt.RcAt.lists_lengths (A:=A) t1.isList t2.isList hz hu0;have hab:a≠b:=λz=>by
     subst z;have epq:PV.lst l=PV.lst m:=Rep.inj I rx ry;cases epq;exact hlm rfl
    exact⟨rc,.of_refs hab rc,SeqAt.RcNeAt.lists_lengths (A:=A) t1.isList t2.isList hz hu0⟩
end
section
variable{X:Cx}{k:Nat}
theorem OpR.or{f:Value->Value->Sem Value}{r r':R2}(h:OpR X f r)(h':OpR X f r'):OpR X f (λx y H Q=>r x y H Q\/r' x y H Q):=by
 intro pins s σ H x y v u Q I rx ry q;rcases q with q|q
 ·exact h pins s σ H x y v u Q I rx ry q
 ·exact h' pins s σ H x y v u Q I rx ry q
def XJ(K:Frag):R2:=λx y H Q=>∃ p q r,Rep K H x p/\Rep K H y q/\eqF 32 p q=some r/\Q (.bl r) H
def XM(K:Frag):R2:=λx y H Q=>∃ p q r,Rep K H x p/\Rep K H y q/\eqF 32 p q=some r/\Q (.bl (!r)) H
theorem dU(hr:fW k X.A):OpR X (compareOp .Eq) (XJ X.K):=by
 intro pins s σ H x y v u Q I rx ry h;obtain⟨p,q,r,h1,h2,e,h3⟩:=h;exact(Pu I 32 (CV hr) e h1 h2 rx ry).1 X.prog X.w X.xe _ ⟨.bl r,H,I,rfl,h3⟩
theorem Dj(hr:fW k X.A):OpR X (compareOp .NotEq) (XM X.K):=by
 intro pins s σ H x y v u Q I rx ry h;obtain⟨p,q,r,h1,h2,e,h3⟩:=h;exact(Pu I 32 (CV hr) e h1 h2 rx ry).2.2 X.prog X.w X.xe _ ⟨.bl (!r),H,I,rfl,h3⟩
def inF(p:PV):List PV->Option Bool
 |[]=>some false
 |x::xs=>match eqF 31 x p,inF p xs with
  |some a,some b=>some (a||b)
  |_,_=>none
theorem KC{p:PV}:∀ {l:List PV}{r:Bool},inF p l=some r->∃ e:Nat->Bool,(∀ (j:Nat) x,l[j]?=some x->eqF 31 x p=some (e j))/\r=(List.range l.length).any e
 |[],r,h=>⟨λ_=>true,λj x a=>by simp at a,by cases h;rfl⟩
 |x::xs,r,h=>by
  rw[inF] at h;split at h
  ·rename_i a b h1 h2;cases h;obtain⟨e,e1,e2⟩:=KC h2;refine⟨λj=>match j with|0=>a|j+1=>e j,λj x' a'=>?_,?_⟩
   ·cases j with
    |zero=>simp at a';subst a';exact h1
    |succ j=>exact e1 j x' (by simpa using a')
   ·rw[e2,ZaF,List.range_succ_eq_map,ZbZ,List.any_map];rfl
  ·cases h
def XQ(K:Frag)(neg:Bool):R2:=λx y H Q=>∃ p l r,Rep K H x p/\(Rep K H y (.lst l)\/Rep K H y (.tup l))/\inF p l=some r/\Q (.bl (if neg=true then !r else r)) H
theorem Gk{pins:List (Addr×Obj)}{σ:St}{H:Hp}{s:Shared}(I:Inv X pins σ H s)(hr:fW k X.A){x:V}{v:Value}{p:PV}{xs:List V}{its:List Value}{l:List PV}{r:Bool}(rx:RelV x v)(h1:Rep X.K H x p)(rv:Vals xs its)(hl:bK X.K H xs l)(e:inF p l=some r) :
  ∃ f:Value->Bool,(∀ y,y∈its.toArray->SeqAt.EqAt X.A.in1 s y v (f y))/\its.toArray.any f=r:=by
 obtain⟨g,g1,g2⟩:=KC e;have key:∀ w'∈its,∃ j,∃ hj:j<its.length,its[j]=w':=λw' hw=>by
  obtain⟨j,hj,e⟩:=List.mem_iff_getElem.mp hw;exact⟨j,hj,e⟩
 have look:∀ (j:Nat) (hj:j<its.length),∃ z q,l[j]?=some q/\RelV z its[j]/\Rep X.K H z q/\eqF 31 q p=some (g j):=λj hj=>by
  obtain⟨z,hz,rz⟩:=t6 rv (j:=j) (by simpa using hj)
  obtain⟨q,hq,rq⟩:=hl.got hz;exact⟨z,q,hq,by simpa using rz,rq,g1 j q hq⟩
 classical
 let f:Value->Bool:=λw'=>if h:∃ j,∃ hj:j<its.length,its[j]=w' then g (Classical.choose h) else false
 have fe:∀ (j:Nat) (hj:j<its.length),f its[j]=g j:=λj hj=>by
  have hx:∃ i,∃ hi:i<its.length,its[i]=its[j]:=⟨j,hj,rfl⟩;show(if h:∃ i,∃ hi:i<its.length,its[i]=its[j] then g (Classical.choose h) else false)=g j
  rw[dif_pos hx];obtain⟨h1',h2'⟩:=Classical.choose_spec hx;generalize Classical.choose hx=i at h1' h2' ⊢
  obtain⟨z,q,_,rz,rq,eq1⟩:=look i h1';obtain⟨z',q',_,rz',rq',eq2⟩:=look j hj;rw[h2'] at rz;cases rz.inj rz';cases Rep.inj I rq rq';rw[eq1] at eq2;exact Zac eq2
 refine⟨f,λy hy=>?_,?_⟩
 ·obtain⟨j,hj,e1⟩:=key y (by simpa using hy)
  obtain⟨z,q,_,rz,rq,eq1⟩:=look j hj;rw[<-e1,fe j hj];exact(Pu I 31 (A:=X.A.in1) (show X.A.units+1+31<cLine by have:=CV hr;lia) eq1 rq h1 rz rx).2.1
 ·have hlen:its.length=l.length:=by rw[<-rv.length,hl.1]
  rw[g2,show its.toArray.any f=its.any f by simp,Bool.eq_iff_iff,List.any_eq_true,List.any_eq_true]
  constructor
  ·rintro⟨w',hw,hf⟩;obtain⟨j,hj,e1⟩:=key w' hw;exact⟨j,Zaz.mpr (by lia),by rw[<-fe j hj,e1];exact hf⟩
  ·rintro⟨j,hj,hf⟩;have hj':j<its.length:=by rw[hlen];exact Zaz.mp hj
   exact⟨its[j],List.getElem_mem hj',by rw[fe j hj'];exact hf⟩
theorem M8(hr:fW k X.A):OpR X (compareOp .NotIn) (XQ X.K true):=by
 intro pins s σ H x y v u Q I rx ry h;obtain⟨p,l,r,h1,h2,e,q⟩:=h;rcases h2 with h2|h2
 ·obtain⟨a,xs,rfl,hq,rr⟩:=h2.cg;cases ry;obtain⟨its,rv,pl,_⟩:=I.list hq;obtain⟨f,f1,f2⟩:=Gk I hr rx h1 rv rr e;exact SeqAt.notIn_listAt f pl.isList f1 (by rw[f2];exact⟨.bl _,H,I,rfl,q⟩)
 ·obtain⟨a,xs,rfl,hq,rr⟩:=h2.cL;cases ry;obtain⟨its,rv,pl,_⟩:=I.tuple hq;obtain⟨f,f1,f2⟩:=Gk I hr rx h1 rv rr e;exact SeqAt.notIn_tupleAt f pl f1 (by rw[f2];exact⟨.bl _,H,I,rfl,q⟩)
def Dk(K:Frag):R2:=λx y H Q=>XQ K true x y H Q\/∃ i j,x=.str i/\y=.str j/\Q (.bl (!(!(Builtin.Str.occurrences j i 0 j.length 1).isEmpty))) H
theorem Bc(hr:fW k X.A):OpR X (compareOp .NotIn) (Dk X.K):=OpR.or (M8 hr) Cy
def Px(K:Frag):R2:=λx y H Q=>rI0 (λi j=>.int (i+j)) x y H Q\/(∃ i j,x=.str i/\y=.str j/\i.length+j.length<=sizeLine/\Q (.str (i++j)) H)\/Vc K x y H Q
theorem bu:OpR X (binaryOp .Add) (Px X.K):=OpR.or VN (OpR.or Jq Sq)
def Vi:R2:=λx y H Q=>rI FJ (λi j=>.int (i*j)) x y H Q\/∃ z n,x=.str z/\y=.int n/\-(2^63)<=n/\n<2^63/\z.length*n.toNat<=sizeLine/\Q (.str ⟨(List.replicate n.toNat z.cps).foldl (·++·) #[]⟩) H
theorem bQ:OpR X (binaryOp .Mult) Vi:=by
 refine OpR.or VP ?_;intro pins s σ H x y v u Q I rx ry h;obtain⟨z,n,rfl,rfl,h1,h2,h3,q⟩:=h;obtain⟨t,rfl⟩:=rx;obtain⟨t',rfl⟩:=ry;have fin:∀ t k,EP X pins σ Q (.str ⟨(List.replicate n.toNat z.cps).foldl (·++·) #[]⟩ t) { s with toks:=k }:=λt k=>⟨.str _,H,I.tok _,⟨t,rfl⟩,q⟩;have hr:(decide (n < -(2^63:Int))||decide (n>=2^63))=false:=by
  rw[Zaw (by omega),Zaw (by omega)];rfl
 refine PySem.P.mul_str hr (λh4 h5=>?_) (λh4 h5=>?_) ?_
 ·have hn:1<=n:=by omega
  have h6:z.length<=sizeLine:=by
   have:z.length*1<=z.length*n.toNat:=Nat.mul_le_mul_left _ (by omega)
   omega
  have h7:n≠1:=λe=>by subst e;simp at h5
  have h8:(z.length:Int)*n<=16777216:=by
   have e:(z.length:Int)*n=((z.length*n.toNat:Nat):Int):=by
    rw[Int.natCast_mul,Int.toNat_of_nonneg (by omega)]
   rw[e];have:z.length*n.toNat<=16777216:=h3;omega
  have h9:(z.length:Int)<=(2^63-1)/n:=by
   apply(Int.le_ediv_iff_mul_le (by omega)).mpr
   omega
  omega
 ·unfold Builtin.Str.tooLong;exact Zaw (by omega)
 ·by_cases h4:n<1
  ·rw[Zaf h4];have e:n.toNat=0:=by omega
   rw[e] at fin;exact⟨Zba _,fin _ _⟩
  ·rw[Zad h4];refine post_val_or_str ⟨?_,λt' k=>?_⟩
   ·have e1:∀ (m:Nat) (acc:Array Nat),((List.replicate m z.cps).foldl (·++·) acc).size=acc.size+m*z.cps.size:=λm=>by
     induction m with
     |zero=>intro acc;simp
     |succ m ih=>intro acc;rw[List.replicate_succ,List.foldl_cons,ih,Array.size_append,Nat.succ_mul];omega
    have h6:z.length<=sizeLine:=by
     have:z.length*1<=z.length*n.toNat:=Nat.mul_le_mul_left _ (by omega)
     omega
    split
    ·exact h6
    ·show((List.replicate n.toNat z.cps).foldl (·++·) #[]).size<=sizeLine
     rw[e1,Nat.mul_comm];show 0+z.length*n.toNat<=_
     omega
   ·have fz:=fin t' k;split
    ·rename_i h5;have e:(⟨(List.replicate n.toNat z.cps).foldl (·++·) #[]⟩:Str)=z:=by
      rcases Bool.or_eq_true _ _▸h5 with h|h
      ·have:n=1:=by simpa using h
       subst this;show(⟨#[]++z.cps⟩:Str)=z
       rw[Array.empty_append]
      ·have h1:z.length=0:=by simpa using h
       have h0:z.cps=#[]:=Array.eq_empty_of_size_eq_zero h1;have e2:∀ m:Nat,(List.replicate m (#[]:Array Nat)).foldl (·++·) #[]=#[]:=λm=>by
        induction m with
        |zero=>rfl
        |succ m ih=>rw[List.replicate_succ,List.foldl_cons];exact ih
       cases z with
       |mk c=>cases h0;rw[e2]
     rw[e] at fz;exact fz
    ·exact fz
def XS:R2:=λx y H Q=>rI0 (λi j=>.bl (decide (i<j))) x y H Q\/∃ i j,x=.str i/\y=.str j/\Q (.bl (decide (i.cps.toList<j.cps.toList))) H
theorem mU:OpR X (compareOp .Lt) XS:=OpR.or Xp Mw
def XX:R2:=λx y H Q=>rI0 (λi j=>.bl (decide (i<=j))) x y H Q\/∃ i j,x=.str i/\y=.str j/\Q (.bl (!(decide (j.cps.toList<i.cps.toList)))) H
theorem Dl:OpR X (compareOp .LtE) XX:=OpR.or Xq M3
theorem M9(l b:Addr)(i1 i2:Array Value)(n1 n2:Nat)(s1 s2:Array (Option Value))(hz:i1.size+i2.size<=sizeLine) :
  Meets (Builtin.«list.__add__» ⟨[.ref l,.ref b],[]⟩) (λ_ R s=>s.heap.get? l=some ⟨.type "list",none,.seq i1 n1,s1⟩/\s.heap.get? b=some ⟨.type "list",none,.seq i2 n2,s2⟩ /\
   R (.ok (.ret (Value.ref s.heap.objs.size))) { s with heap:=s.heap.push { cls:=Value.type "list",data:=Data.seq (i1++i2) } }):=by
 refine .of_wp λprog w A R s h=>?_;obtain⟨hp,g,d,tk,os⟩:=s;obtain⟨h1,h2,h⟩:=h;have f1:=AutoSeq1.idx_int;have f2:=AutoSeq1.sub_tuple_tuple;have f3:=AutoSeq1.sub_list_list;have f4:=AutoSeq1.sub_tuple_list;have f5:=AutoSeq1.sub_list_tuple
 wp_walk using AutoSeq1.wpAny_loadPart' h1,AutoSeq1.wpAny_loadPart' h2
 exact⟨_,rfl,h⟩
theorem Dm:OpR X (binaryOp .Add) (λx y H Q=>∃ l b xs zs,x=.ref l/\y=.ref b/\SqL X.K H l xs/\SqL X.K H b zs/\xs.length+zs.length<=sizeLine/\∀ p,H p=none->Q (.ref p) (upd H p (.lst (xs++zs)))):=by
 intro pins s σ H x y v u Q I rx ry h;obtain⟨l,b,xs,zs,rfl,rfl,hH,hB,hz,q⟩:=h;cases rx;cases ry;obtain⟨its,r,⟨⟨cl1,dd1,da1,sl1⟩,n1,g1,c1,d1,e1⟩,z1⟩:=I.list hH;obtain⟨its2,r2,⟨⟨cl2,dd2,da2,sl2⟩,n2,g2,c2,d2,e2⟩,z2⟩:=I.list hB;simp only at c1 d1 e1 c2 d2 e2;subst c1 d1 e1 c2 d2 e2;have hs:its.toArray.size+its2.toArray.size<=sizeLine:=by rw[List.size_toArray,List.size_toArray,<-r.length,<-r2.length];exact hz
 refine concat_meets ⟨_,g1,rfl⟩ ⟨_,g2,rfl⟩ noFill_list_add seq_list_add F.slot_list_add F.entry_list_add (F.args_list_add_2 _ _) (M9 l b its.toArray its2.toArray n1 n2 sl1 sl2 hs) ⟨g1,g2,?_⟩;have ea:its.toArray++its2.toArray=(its++its2).toArray:=by simp
 rw[ea];exact⟨.ref _,_,I.YH (t':=s.toks) (r.append r2) (by rw[List.length_append];lia),rfl,q _ I.fresh⟩
end
theorem noS{α:Type}{r:α}{C:Prop}(e:(none:Option α)=some r):C:=by cases e
def opI(c:Int->Int->Bool)(f:Int->Int->PV):PV->PV->Option (Res PV)
 |.int i,.int j=>if c i j=true then some (.ok (f i j)) else none
 |_,_=>none
def cT:Int->Int->Bool:=λ_ _=>true
def Py:Int->Int->Bool:=λi j=>decide ((-(2^64)<i/\i<2^64)\/(-(2^64)<j/\j<2^64))
def We:Int->Int->Bool:=λ_ j=>decide (0<j/\j<1073741824)
def X3:Int->Int->Bool:=λ_ j=>decide (0<j)
def Pz:Int->Int->Bool:=λi j=>decide (0<=j/\j<=1000000/\i.natAbs<2^64)
def X4:Int->Int->Bool:=λ_ j=>decide (0<=j)
def lR:=opI cT λi j=>.int (i-j)
def wz:=opI We λi j=>.int (i/j)
def gZ:=opI X3 λi j=>.int (i%j)
def KD:=opI Pz λi j=>.int (i^j.toNat)
def wA:=opI Pz λi j=>.int (i*2^j.toNat)
def rm:=opI X4 λi j=>.int (i/2^j.toNat)
def kE:=opI cT λi j=>.int (Builtin.bitAnd i j)
def PB:=opI cT λi j=>.int (Builtin.bitOr i j)
def Gm:=opI cT λi j=>.bl (decide (j<i))
def Tf:=opI cT λi j=>.bl (decide (j<=i))
def b7:PV->PV->Option (Res PV)
 |.int i,.int j=>some (.ok (.int (i+j)))
 |.str i,.str j=>if i.length+j.length<=sizeLine then some (.ok (.str (i++j))) else none
 |.tup l,.tup m=>if l≠[]/\l.length+m.length<=sizeLine then some (.ok (.tup (l++m))) else none
 |_,_=>none
def Wf(z:Str)(n:Nat):Str:=⟨(List.replicate n z.cps).foldl (·++·) #[]⟩
def dC:PV->PV->Option (Res PV)
 |.int i,.int j=>if Py i j=true then some (.ok (.int (i*j))) else none
 |.str z,.int n=>if -(2^63)<=n/\n<2^63/\z.length*n.toNat<=sizeLine then some (.ok (.str (Wf z n.toNat))) else none
 |_,_=>none
def vL:PV->PV->Option (Res PV)
 |.int i,.int j=>some (.ok (.bl (decide (i<j))))
 |.str i,.str j=>some (.ok (.bl (decide (i.cps.toList<j.cps.toList))))
 |_,_=>none
def JC:PV->PV->Option (Res PV)
 |.int i,.int j=>some (.ok (.bl (decide (i<=j))))
 |.str i,.str j=>some (.ok (.bl (!(decide (j.cps.toList<i.cps.toList)))))
 |_,_=>none
def iR(p q:PV):Option (Res PV):=match eqF 32 p q with
 |some r=>some (.ok (.bl r))
 |none=>none
def ym(p q:PV):Option (Res PV):=match eqF 32 p q with
 |some r=>some (.ok (.bl (!r)))
 |none=>none
def inU(p:PV):PV->Option Bool
 |.lst l=>inF p l
 |.tup l=>inF p l
 |.str j=>match p with
  |.str i=>some (!(Builtin.Str.occurrences j i 0 j.length 1).isEmpty)
  |_=>none
 |_=>none
def nW(p q:PV):Option (Res PV):=match inU p q with
 |some r=>some (.ok (.bl (!r)))
 |none=>none
def PV.Bd:PV->Bool
 |.non=>true
 |_=>false
def JD(p q:PV):Option (Res PV):=match q with
 |.non=>some (.ok (.bl (!p.Bd)))
 |_=>none
def ofO(x:Option PV):Option (Res PV):=match x with
 |some p=>some (.ok p)
 |none=>none
def cz:PV->PV->Option (Res PV)
 |.lst l,.int i=>ofO (atI l i)
 |.tup l,.int i=>ofO (atI l i)
 |.str z,.int i=>if z.length<=sizeLine then ofO ((atI z.cps.toList i).map λc=>.str ⟨#[c]⟩) else none
 |_,_=>none
def Gn:List PV->PV->Option (Res PV)
 |l,.int i=>ofO (atI l i)
 |_,_=>none
section
variable{K:Frag}{C:Cg}{F H:Hp}
theorem X5{i j:Int}(h:We i j=true):VM i j:=of_decide_eq_true (p:=0<j/\j<1073741824) h
theorem Vj{i j:Int}(h:Pz i j=true):Ol i j:=of_decide_eq_true (p:=0<=j/\j<=1000000/\i.natAbs<2^64) h
theorem X6{i j:Int}(h:Py i j=true):FJ i j:=of_decide_eq_true (p:=(-(2^64)<i/\i<2^64)\/(-(2^64)<j/\j<2^64)) h
theorem Gp{c:Int->Int->Bool}{f:Int->Int->PV}{cond:Int->Int->Prop}{fv:Int->Int->V}(hc:∀ i j,c i j=true->cond i j)(hf:∀ i j F,Rep K F (fv i j) (f i j)):R2M C (aF K) (aF K) (aF K) (rI cond fv) (opI c f):=by
 intro F H x y a b res Q s ha hb e P;have inv:(∃ i j,a=.int i/\b=.int j):=by
  clear P ha hb
  cases a<;>first|exact noS e|(cases b<;>first|exact noS e|exact⟨_,_,rfl,rfl⟩)
 obtain⟨i,j,rfl,rfl⟩:=inv;cases Rep.bD ha;cases Rep.bD hb;have e:(if c i j=true then some (Res.ok (f i j)) else none)=some res:=e;split at e
 ·rename_i h;cases e;exact⟨i,j,rfl,rfl,hc i j h,P _ F H (Up.refl s) (hf i j F)⟩
 ·cases e
theorem yo{f:Int->Int->PV}{fv:Int->Int->V}(hf:∀ i j F,Rep K F (fv i j) (f i j)):R2M C (aF K) (aF K) (aF K) (rI0 fv) (opI cT f):=by
 intro F H x y a b res Q s ha hb e P;have inv:(∃ i j,a=.int i/\b=.int j):=by
  clear P ha hb
  cases a<;>first|exact noS e|(cases b<;>first|exact noS e|exact⟨_,_,rfl,rfl⟩)
 obtain⟨i,j,rfl,rfl⟩:=inv;cases Rep.bD ha;cases Rep.bD hb;cases e;exact⟨i,j,rfl,rfl,P _ F H (Up.refl s) (hf i j F)⟩
theorem pP:R2M C (aF K) (aF K) (aF K) (rI0 λi j=>.int (i-j)) lR:=yo λ_ _ _=>.int
theorem Gq:R2M C (aF K) (aF K) (aF K) (rI VM λi j=>.int (i/j)) wz:=Gp (λ_ _ h=>X5 h) λ_ _ _=>.int
theorem jm:R2M C (aF K) (aF K) (aF K) (rI (λ_ j=>0<j) λi j=>.int (i%j)) gZ:=Gp (λ_ _ h=>of_decide_eq_true h) λ_ _ _=>.int
theorem X7:R2M C (aF K) (aF K) (aF K) (rI Ol λi j=>.int (i^j.toNat)) KD:=Gp (λ_ _ h=>Vj h) λ_ _ _=>.int
theorem Gr:R2M C (aF K) (aF K) (aF K) (rI Ol λi j=>.int (i*2^j.toNat)) wA:=Gp (λ_ _ h=>Vj h) λ_ _ _=>.int
theorem yp:R2M C (aF K) (aF K) (aF K) (rI (λ_ j=>0<=j) λi j=>.int (i/2^j.toNat)) rm:=Gp (λ_ _ h=>of_decide_eq_true h) λ_ _ _=>.int
theorem o9:R2M C (aF K) (aF K) (aF K) (rI0 λi j=>.int (Builtin.bitAnd i j)) kE:=yo λ_ _ _=>.int
theorem X8:R2M C (aF K) (aF K) (aF K) (rI0 λi j=>.int (Builtin.bitOr i j)) PB:=yo λ_ _ _=>.int
theorem PJ:R2M C (aF K) (aF K) (aF K) (rI0 λi j=>.bl (decide (j<i))) Gm:=yo λ_ _ _=>.bl
theorem YQ:R2M C (aF K) (aF K) (aF K) (rI0 λi j=>.bl (decide (j<=i))) Tf:=yo λ_ _ _=>.bl
theorem cG:R2M C (aF K) (aF K) (aF K) (Px K) b7:=by
 intro F H x y a b res Q s ha hb e P;have inv:(∃ i j,a=.int i/\b=.int j)\/(∃ i j,a=.str i/\b=.str j)\/(∃ l m,a=.tup l/\b=.tup m):=by
  clear P ha hb
  cases a<;>first|exact noS e|(cases b<;>first|exact noS e|exact .inl ⟨_,_,rfl,rfl⟩|exact .inr (.inl ⟨_,_,rfl,rfl⟩)|exact .inr (.inr ⟨_,_,rfl,rfl⟩))
 rcases inv with⟨i,j,rfl,rfl⟩|⟨i,j,rfl,rfl⟩|⟨l,m,rfl,rfl⟩
 ·cases Rep.bD ha;cases Rep.bD hb;cases e;exact .inl ⟨i,j,rfl,rfl,P _ F H (Up.refl s) .int⟩
 ·cases Rep.b8 ha;cases Rep.b8 hb;have e:(if i.length+j.length<=sizeLine then some (Res.ok (PV.str (i++j))) else none)=some res:=e;split at e
  ·rename_i h;cases e;exact .inr (.inl ⟨i,j,rfl,rfl,h,P _ F H (Up.refl s) .str⟩)
  ·cases e
 ·have e:(if l≠[]/\l.length+m.length<=sizeLine then some (Res.ok (PV.tup (l++m))) else none)=some res:=e;split at e
  ·rename_i h;cases e;obtain⟨a1,xs,rfl,h1,r1⟩:=Rep.cL ha;obtain⟨a2,ys,rfl,h2,r2⟩:=Rep.cL hb;have hx:xs≠[]:=λz=>h.1 (by have:=r1.1;rw[z] at this;simpa using this.symm)
   refine .inr (.inr ⟨a1,a2,xs,ys,rfl,rfl,s.tup h1,s.tup h2,hx,by rw[r1.1,r2.1];exact h.2,λz=>?_,λ_ p hp=>?_⟩)
   ·subst z;have hm:m=[]:=by have:=r2.1;simpa using this.symm
    subst hm;rw[Zbc] at P;exact P _ F H (Up.refl s) ha
   ·have un:=Up.new (o:=.tup (xs++ys)) s hp;exact P _ _ _ un (.tup aN (r1.append r2).1 ((r1.append r2).up un.ff).2)
  ·cases e
theorem dX:R2M C (aF K) (aF K) (aF K) Vi dC:=by
 intro F H x y a b res Q s ha hb e P;have inv:(∃ i j,a=.int i/\b=.int j)\/(∃ z n,a=.str z/\b=.int n):=by
  clear P ha hb
  cases a<;>first|exact noS e|(cases b<;>first|exact noS e|exact .inl ⟨_,_,rfl,rfl⟩|exact .inr ⟨_,_,rfl,rfl⟩)
 rcases inv with⟨i,j,rfl,rfl⟩|⟨z,n,rfl,rfl⟩
 ·cases Rep.bD ha;cases Rep.bD hb;have e:(if Py i j=true then some (Res.ok (PV.int (i*j))) else none)=some res:=e;split at e
  ·rename_i h;cases e;exact .inl ⟨i,j,rfl,rfl,X6 h,P _ F H (Up.refl s) .int⟩
  ·cases e
 ·cases Rep.b8 ha;cases Rep.bD hb;have e:(if -(2^63)<=n/\n<2^63/\z.length*n.toNat<=sizeLine then some (Res.ok (PV.str (Wf z n.toNat))) else none)=some res:=e;split at e
  ·rename_i h;cases e;exact .inr ⟨z,n,rfl,rfl,h.1,h.2.1,h.2.2,P _ F H (Up.refl s) .str⟩
  ·cases e
theorem Ab:R2M C (aF K) (aF K) (aF K) XS vL:=by
 intro F H x y a b res Q s ha hb e P;have inv:(∃ i j,a=.int i/\b=.int j)\/(∃ i j,a=.str i/\b=.str j):=by
  clear P ha hb
  cases a<;>first|exact noS e|(cases b<;>first|exact noS e|exact .inl ⟨_,_,rfl,rfl⟩|exact .inr ⟨_,_,rfl,rfl⟩)
 rcases inv with⟨i,j,rfl,rfl⟩|⟨i,j,rfl,rfl⟩
 ·cases Rep.bD ha;cases Rep.bD hb;cases e;exact .inl ⟨i,j,rfl,rfl,P _ F H (Up.refl s) .bl⟩
 ·cases Rep.b8 ha;cases Rep.b8 hb;cases e;exact .inr ⟨i,j,rfl,rfl,P _ F H (Up.refl s) .bl⟩
theorem Tg:R2M C (aF K) (aF K) (aF K) XX JC:=by
 intro F H x y a b res Q s ha hb e P;have inv:(∃ i j,a=.int i/\b=.int j)\/(∃ i j,a=.str i/\b=.str j):=by
  clear P ha hb
  cases a<;>first|exact noS e|(cases b<;>first|exact noS e|exact .inl ⟨_,_,rfl,rfl⟩|exact .inr ⟨_,_,rfl,rfl⟩)
 rcases inv with⟨i,j,rfl,rfl⟩|⟨i,j,rfl,rfl⟩
 ·cases Rep.bD ha;cases Rep.bD hb;cases e;exact .inl ⟨i,j,rfl,rfl,P _ F H (Up.refl s) .bl⟩
 ·cases Rep.b8 ha;cases Rep.b8 hb;cases e;exact .inr ⟨i,j,rfl,rfl,P _ F H (Up.refl s) .bl⟩
theorem mW:R2M C (aH K) (aH K) (aF K) (XJ K) iR:=by
 intro F H x y a b res Q s ha hb e P;unfold iR at e;split at e
 ·rename_i r h;cases e;exact⟨a,b,r,ha,hb,h,P _ F H (Up.refl s) .bl⟩
 ·cases e
theorem Th:R2M C (aH K) (aH K) (aF K) (XM K) ym:=by
 intro F H x y a b res Q s ha hb e P;unfold ym at e;split at e
 ·rename_i r h;cases e;exact⟨a,b,r,ha,hb,h,P _ F H (Up.refl s) .bl⟩
 ·cases e
theorem KH:R2M C (aH K) (aH K) (aF K) (Dk K) nW:=by
 intro F H x y a b res Q s ha hb e P;unfold nW at e;split at e
 ·rename_i r h;cases e
  match b,h with
  |.lst l,h=>exact .inl ⟨a,l,r,ha,.inl hb,h,P _ F H (Up.refl s) .bl⟩
  |.tup l,h=>exact .inl ⟨a,l,r,ha,.inr hb,h,P _ F H (Up.refl s) .bl⟩
  |.str j,h=>
   match a,h with
   |.str i,h=>
    cases h;exact .inr ⟨i,j,Rep.b8 ha,Rep.b8 hb,P _ F H (Up.refl s) .bl⟩
 ·cases e
theorem PK{v:V}{p:PV}(h:Rep K F v p):decide (v=.non)=p.Bd:=by
 cases h<;>first|rfl|exact Zaw (by intro z;cases z)
theorem Wg:R2M C (aH K) (aF K) (aF K) (λx y H Q=>y=.non/\Q (.bl (!decide (x=.non))) H) JD:=by
 intro F H x y a b res Q s ha hb e P
 match b,e with
 |.non,e=>
  cases e;rw[PK ha];exact⟨Rep.fX hb,P _ F H (Up.refl s) .bl⟩
theorem Dn{xs:List V}{l:List PV}{i:Int}{p:PV}(r:bK K F xs l)(h:atI l i=some p):∃ v,atI xs i=some v/\Rep K F v p:=by
 unfold atI at h ⊢;rw[r.1];cases e:ixN l.length i with
 |none=>rw[e] at h;cases h
 |some j=>
  rw[e] at h;exact r.get h
theorem ul{x:Option PV}{res:Res PV}(h:ofO x=some res):∃ p,x=some p/\res=.ok p:=by
 cases x with
 |none=>cases h
 |some p=>cases h;exact⟨p,rfl,rfl⟩
theorem cI:R2M C (aF K) (aF K) (aF K) (rIx K) cz:=by
 intro F H x y a b res Q s ha hb e P;have inv:(∃ l i,a=.lst l/\b=.int i)\/(∃ l i,a=.tup l/\b=.int i)\/(∃ z i,a=.str z/\b=.int i):=by
  clear P ha hb
  cases a<;>first|exact noS e|(cases b<;>first|exact noS e|exact .inl ⟨_,_,rfl,rfl⟩|exact .inr (.inl ⟨_,_,rfl,rfl⟩)|exact .inr (.inr ⟨_,_,rfl,rfl⟩))
 rcases inv with⟨l,i,rfl,rfl⟩|⟨l,i,rfl,rfl⟩|⟨z,i,rfl,rfl⟩
 ·cases Rep.bD hb;obtain⟨p,e1,rfl⟩:=ul e;obtain⟨a1,xs,rfl,h1,r1⟩:=Rep.cg ha;obtain⟨v,e2,rv⟩:=Dn r1 e1;exact .inl ⟨a1,xs,i,v,rfl,rfl,s.seq h1,e2,P _ F H (Up.refl s) rv⟩
 ·cases Rep.bD hb;obtain⟨p,e1,rfl⟩:=ul e;obtain⟨a1,xs,rfl,h1,r1⟩:=Rep.cL ha;obtain⟨v,e2,rv⟩:=Dn r1 e1;exact .inr (.inl ⟨a1,xs,i,v,rfl,rfl,s.tup h1,e2,P _ F H (Up.refl s) rv⟩)
 ·cases Rep.bD hb;cases Rep.b8 ha;have e:(if z.length<=sizeLine then ofO ((atI z.cps.toList i).map λc=>PV.str ⟨#[c]⟩) else none)=some res:=e;split at e
  ·rename_i hz;obtain⟨p,e1,rfl⟩:=ul e;cases e2:atI z.cps.toList i with
   |none=>rw[e2] at e1;cases e1
   |some c=>
    rw[e2] at e1;cases e1;exact .inr (.inr ⟨z,i,c,rfl,rfl,hz,e2,P _ F H (Up.refl s) .str⟩)
  ·cases e
theorem PL:R2M C (aV K) (aF K) (aF K) (rIx K) Gn:=by
 intro F H x y a b res Q s ha hb e P
 match b,e with
 |.int i,e=>
  cases Rep.bD hb;obtain⟨p,e1,rfl⟩:=ul e;obtain⟨a1,xs,rfl,h1,r1⟩:=ha;obtain⟨v,e2,rv⟩:=Dn r1 e1;exact .inl ⟨a1,xs,i,v,rfl,rfl,h1,e2,P _ F H (Up.refl s) rv⟩
def Be(l m:List PV):Option (Res PV):=if l.length+m.length<=sizeLine then some (.ok (.lst (l++m))) else none
def Yb(K:Frag):R2:=λx y H Q=>∃ l b xs zs,x=.ref l/\y=.ref b/\SqL K H l xs/\SqL K H b zs/\xs.length+zs.length<=sizeLine/\∀ p,H p=none->Q (.ref p) (upd H p (.lst (xs++zs)))
theorem PN:R2O K C (aV K) (aV K) (Yb K) Be:=by
 intro F H x y a b res Q s ha hb e P;unfold Be at e;split at e
 ·rename_i h;cases e;obtain⟨a1,xs,rfl,h1,r1⟩:=ha;obtain⟨a2,ys,rfl,h2,r2⟩:=hb;refine⟨a1,a2,xs,ys,rfl,rfl,h1,h2,by rw[r1.1,r2.1];exact h,λp hp=>?_⟩
  exact P p F _ (Up.JB s hp) hp (s.free hp) ⟨_,aN,r1.append r2⟩
 ·cases e
variable{te:TE}
def MP'(K:Frag)(C:Cg)(t:TO)(f:Fn (Option Int)):Prop:=
 ∀ F H σ ρ Q r,RE K C.toCf F H σ ρ->f ρ=some r->Pr C F (λo=>∀ F' H',Up F H F' H'->Q o H') r->t σ H Q
def mPn:Fn (Option Int):=λ_=>some (.ok none)
def asInt:PV->Option (Res (Option Int))
 |.int i=>some (.ok (some i))
 |_=>none
theorem KJ:MP' K C Ku mPn:=λF H σ ρ Q r R e P=>by
 cases e;exact P F H (Up.refl R.rb.sub)
theorem KN{f:Fn PV}(h:MJ K C (aF K) te f):MP' K C (Vb te) (m1 asInt f):=by
 intro F H σ ρ Q r R e P;refine h.run R e P λp v F1 H1 hk u a=>?_
 match p,hk with
 |.int i,hk=>
  cases Rep.bD a;cases hk;exact⟨i,rfl,P F1 H1 u⟩
theorem MP'.run{β:Type}{t:TO}{f:Fn (Option Int)}{σ:St}{ρ:Rho}{Q:Option Int->Hp->Prop}{ok:β->Prop}{k:Option Int->Option (Res β)}{r:Res β}(h:MP' K C t f)(R:RE K C.toCf F H σ ρ)(hb:bnd (f ρ) k=some r)(P:Pr C F ok r)
  (go:∀ o F1 H1,k o=some r->Up F H F1 H1->Q o H1):t σ H Q:=by
 rcases bM hb with⟨z,e,rfl⟩|⟨p,e,hk⟩
 ·exact h F H σ ρ Q _ R e P
 ·exact h F H σ ρ Q _ R e λF1 H1 u=>go p F1 H1 hk u
def yr(l:List PV)(lo hi:Option Int):List PV:=(l.drop (HT.sIx l.length 0 lo)).take (HT.sIx l.length l.length hi-HT.sIx l.length 0 lo)
theorem bK.cut{xs:List V}{l:List PV}(h:bK K F xs l)(lo hi:Option Int):bK K F (CG xs lo hi) (yr l lo hi):=by
 unfold CG yr;rw[h.1];exact(h.drop _).take _
def Ti(f:Fn (List PV))(lo hi:Fn (Option Int)):Fn PV:=λρ=>bnd (f ρ) λl=>bnd (lo ρ) λa=>bnd (hi ρ) λb=>some (.ok (.lst (yr l a b)))
theorem Wh{f:Fn (List PV)}{lo hi:Fn (Option Int)}{tl th:TO}(h:MJ K C (aV K) te f)(hl:MP' K C tl lo)(hh:MP' K C th hi):MO K C (tSl (XC K) te tl th) (Ti f lo hi):=by
 intro F H σ ρ Q r R e P;refine h.run R e P λl v F1 H1 hk u a=>?_;refine hl.run (R.up u) hk (P.yd u) λo F2 H2 hk2 u2=>?_;refine hh.run (R.up (u.trans u2)) hk2 (P.yd (u.trans u2)) λo2 F3 H3 hk3 u3=>?_;cases hk3;obtain⟨b,xs,rfl,h1,r1⟩:=a;have u23:=u2.trans u3;refine⟨b,xs,rfl,u23.hh.seq h1,λp hp=>?_⟩;exact P p F3 _ (u.trans (u23.trans (Up.JB u3.fh hp))) ((u.hh.trans u23.hh).free hp) (u3.fh.free hp) ⟨_,aN,(r1.up u23.ff).cut _ _⟩
def PP(a b:Option Int):PV->Option (Res PV)
 |.tup l=>if ¬(HT.sIx l.length 0 a=0/\HT.sIx l.length l.length b=l.length) then some (.ok (.tup (yr l a b))) else none
 |_=>none
def Tj(f:Fn PV)(lo hi:Fn (Option Int)):Fn PV:=λρ=>bnd (f ρ) λz=>bnd (lo ρ) λa=>bnd (hi ρ) λb=>PP a b z
theorem Wi{f:Fn PV}{lo hi:Fn (Option Int)}{tl th:TO}(h:MJ K C (aF K) te f)(hl:MP' K C tl lo)(hh:MP' K C th hi):MJ K C (aF K) (tSl (Xw K) te tl th) (Tj f lo hi):=by
 intro F H σ ρ Q r R e P;refine h.run R e P λl v F1 H1 hk u a=>?_;refine hl.run (R.up u) hk (P.later u) λo F2 H2 hk2 u2=>?_;refine hh.run (R.up (u.trans u2)) hk2 (P.later (u.trans u2)) λo2 F3 H3 hk3 u3=>?_
 match l,hk3 with
 |.tup l,hk3=>
  have hk3:(if ¬(HT.sIx l.length 0 o=0/\HT.sIx l.length l.length o2=l.length) then some (Res.ok (PV.tup (yr l o o2))) else none)=some r:=hk3;split at hk3
  ·rename_i hz;cases hk3;obtain⟨b,xs,rfl,h1,r1⟩:=Rep.cL a;have u23:=u2.trans u3;refine⟨b,xs,rfl,(u23.ff.trans u3.fh).tup h1,by rw[r1.1];exact hz,λp hp=>?_⟩
   have un:=Up.new (o:=.tup (CG xs o o2)) u3.fh hp;have rc:=(r1.up u23.ff).cut o o2;exact P _ _ _ (u.trans (u23.trans un)) (.tup aN rc.1 (rc.up un.ff).2)
  ·cases hk3
end
def Vk(K:Frag)(tl:TE):TI:=λσ H R=>tl σ H λx H1=>(∃ a,x=.ref a/\(∃ xs,SqL K H1 a xs)/\R (Itl K a) H1)\/(∃ a,x=.ref a/\(∃ xs,SqT K H1 a xs)/\R (Itt K a) H1)\/∃ z,x=.str z/\R (Itf (sgn z) z.cps.size) H1
theorem gF{X:Cx}{tg l:Expr}{tl:TE}(hl:PE X l tl):PI X tg l (Vk X.K tl):=by
 intro pins s σ H R I h;refine thn (hl pins s σ H _ I h) ?_;rintro v s1 ⟨x,H1,I1,r1,q1⟩;have keep:∀ (o:Obj),Inv X pins σ H1 { s1 with heap:=s1.heap.push o }:=λo=>I1.kept (t':=s1.toks) λb ob e=>Zah _ e;have fp:∀ b∈[s1.heap.objs.size],xQ X pins H1 b:=λb hb=>by
  have e:b=s1.heap.objs.size:=by simpa using hb
  subst e;exact I1.Fx (Zak _) (I1.hok.fresh (Zak _))
 rcases q1 with⟨a,rfl,⟨xs,hq⟩,q⟩|⟨a,rfl,⟨xs,hq⟩,q⟩|⟨z,rfl,q⟩
 ·cases r1;obtain⟨its,rv,p,hz⟩:=I1.list hq;exact wpAny_pyIter_list p.isList ⟨_,[_],_,_,H1,rfl,keep _,Mu a _,⟨_,Zaq _ rfl,rfl,rfl⟩,fp,q⟩
 ·cases r1;obtain⟨its,rv,p,hz⟩:=I1.tuple hq;exact wpAny_pyIter_tuple (show s1.heap.IsTuple a its.toArray from p) ⟨_,[_],_,_,H1,rfl,keep _,Jl a _,⟨_,Zaq _ rfl,rfl,rfl⟩,fp,q⟩
 ·obtain⟨t,rfl⟩:=r1;exact wpAny_pyIter_strU ⟨_,[_],_,_,H1,rfl,keep _,Ox _ z t,⟨_,Zaq _ rfl,rfl,rfl⟩,fp,q⟩
section
variable{K:Frag}{C:Cg}{F H:Hp}{σ:St}{ρ:Rho}{te:TE}{tA:TA}{a:Addr}{xs:List V}{l:List PV}
def signs(z:Str):List PV:=z.cps.toList.map λc=>.str ⟨#[c]⟩
def jG:PV->Option (Res (List PV))
 |.lst l=>some (.ok l)
 |.tup l=>some (.ok l)
 |.str z=>some (.ok (signs z))
 |_=>none
theorem PQ(h:SqL K F a xs)(r:bK K F xs l):ItR K (Itl K a) F l where
 stop:=λF' H' s s'=>⟨xs,(s.trans s').seq h,by rw[r.1];exact Zak _⟩
 go:=λi F' H' hi s s'=>⟨xs,xs[i]'(by rw[r.1];exact hi),(s.trans s').seq h,by simp⟩
 yld:=λi F' H' x H'' hi s s' y=>by
  obtain⟨rfl,y⟩:=y;have e:=y xs ((s.trans s').seq h);obtain⟨p,e2,rp⟩:=r.got e;exact⟨F',p,Up.refl s',e2,rp.up s⟩
theorem Tn(h:SqT K F a xs)(r:bK K F xs l):ItR K (Itt K a) F l where
 stop:=λF' H' s s'=>⟨xs,(s.trans s').tup h,by rw[r.1];exact Zak _⟩
 go:=λi F' H' hi s s'=>⟨xs,xs[i]'(by rw[r.1];exact hi),(s.trans s').tup h,by simp⟩
 yld:=λi F' H' x H'' hi s s' y=>by
  obtain⟨rfl,y⟩:=y;have e:=y xs ((s.trans s').tup h);obtain⟨p,e2,rp⟩:=r.got e;exact⟨F',p,Up.refl s',e2,rp.up s⟩
theorem Tp(z:Str):ItR K (Itf (sgn z) z.cps.size) F (signs z) where
 stop:=λF' H' s s'=>by simp[signs,Itf]
 go:=λi F' H' hi s s'=>by simpa[signs,Itf] using hi
 yld:=λi F' H' x H'' hi s s' y=>by
  obtain⟨rfl,rfl⟩:=y;have hi':i<z.cps.size:=by simpa[signs] using hi
  refine⟨F',.str ⟨#[z.cps.getD i 0]⟩,Up.refl s',?_,.str⟩;unfold signs;rw[List.getElem?_map,ZaH,Array.getD_eq_getD_getElem?,ZaD hi'];rfl
theorem gG{f:Fn PV}(h:MJ K C (aF K) te f):MI K C (Vk K te) (m1 jG f):=by
 intro F H σ ρ R' r R e P;refine h.run R e P λp v F1 H1 hk u a=>?_
 match p,hk with
 |.lst l,hk=>
  cases hk;obtain⟨b,xs,rfl,h1,r1⟩:=Rep.cg a;exact .inl ⟨b,rfl,⟨xs,u.fh.seq h1⟩,P _ F1 H1 u (PQ h1 r1)⟩
 |.tup l,hk=>
  cases hk;obtain⟨b,xs,rfl,h1,r1⟩:=Rep.cL a;exact .inr (.inl ⟨b,rfl,⟨xs,u.fh.tup h1⟩,P _ F1 H1 u (Tn h1 r1)⟩)
 |.str z,hk=>
  cases hk;cases Rep.b8 a;exact .inr (.inr ⟨z,rfl,P _ F1 H1 u (Tp z)⟩)
def pC(lo:Int)(n:Nat):List PV:=(List.range n).map λ(i:Nat)=>.int (lo+(i:Int))
theorem jn(lo:Int)(n:Nat):(pC lo n).length=n:=by simp[pC]
theorem KQ(lo:Int)(n:Nat):ItR K (Itr lo n) F (pC lo n) where
 stop:=λF' H' s s'=>by rw[jn];exact Zak _
 go:=λi F' H' hi s s'=>by rw[jn] at hi;exact hi
 yld:=λi F' H' x H'' hi s s' y=>by
  obtain⟨rfl,rfl⟩:=y;rw[jn] at hi;refine⟨F',.int (lo+i),Up.refl s',?_,.int⟩;unfold pC;rw[List.getElem?_map,Zbs hi];rfl
def vM:List PV->Option (Res (List PV))
 |[.int j]=>if -(2^62)<=j/\j<2^62 then some (.ok (pC 0 j.toNat)) else none
 |_=>none
def su:List PV->Option (Res (List PV))
 |[.int i,.int j]=>if -(2^62)<=i/\i<2^62/\-(2^62)<=j/\j<2^62 then some (.ok (pC i (j-i).toNat)) else none
 |_=>none
theorem w5{f:Fn (List PV)}(h:MA K C tA f):MI K C (U7 tA) (m1 vM f):=by
 intro F H σ ρ R' r R e P;refine h.run R e P λl xs F1 H1 hk u a=>?_;have inv:∃ j,l=[.int j]:=by
  clear P u a
  rcases l with _|⟨x,_|⟨y,l⟩⟩<;>first|exact noS hk|(cases x<;>first|exact noS hk|exact⟨_,rfl⟩)
 obtain⟨j,rfl⟩:=inv;have hk:(if -(2^62)<=j/\j<2^62 then some (Res.ok (pC 0 j.toNat)) else none)=some r:=hk;split at hk
 ·rename_i hj;cases hk;obtain⟨v,ys,rfl,r1,r2⟩:=a.dJ;cases r2.ji;cases Rep.bD r1;exact⟨j,rfl,hj.1,hj.2,P _ F1 H1 u (KQ 0 j.toNat)⟩
 ·cases hk
theorem um{f:Fn (List PV)}(h:MA K C tA f):MI K C (U8 tA) (m1 su f):=by
 intro F H σ ρ R' r R e P;refine h.run R e P λl xs F1 H1 hk u a=>?_;have inv:∃ i j,l=[.int i,.int j]:=by
  clear P u a
  rcases l with _|⟨x,_|⟨y,_|⟨z,l⟩⟩⟩<;>first|exact noS hk|(cases x<;>first|exact noS hk|(cases y<;>first|exact noS hk|exact⟨_,_,rfl⟩))
 obtain⟨i,j,rfl⟩:=inv;have hk:(if -(2^62)<=i/\i<2^62/\-(2^62)<=j/\j<2^62 then some (Res.ok (pC i (j-i).toNat)) else none)=some r:=hk;split at hk
 ·rename_i hj;cases hk;obtain⟨v,ys,rfl,r1,r2⟩:=a.dJ;obtain⟨w,zs,rfl,r3,r4⟩:=r2.dJ;cases r4.ji;cases Rep.bD r1;cases Rep.bD r3;exact⟨i,j,rfl,hj,P _ F1 H1 u (KQ i (j-i).toNat)⟩
 ·cases hk
def wB(l:List PV):List PV:=l.mapIdx λ(i:Nat) x=>.tup [.int i,x]
def JF:List PV->Option (Res (List PV))
 |[.lst l]=>some (.ok (wB l))
 |_=>none
theorem Tq{f:Fn (List PV)}(h:MA K C tA f):MI K C (Ve K tA) (m1 JF f):=by
 intro F H σ ρ R' r R e P;refine h.run R e P λl xs F1 H1 hk u a=>?_;have inv:∃ m,l=[.lst m]:=by
  clear P u a
  rcases l with _|⟨x,_|⟨y,l⟩⟩<;>first|exact noS hk|(cases x<;>first|exact noS hk|exact⟨_,rfl⟩)
 obtain⟨l,rfl⟩:=inv;cases hk;obtain⟨v,ys,rfl,r1,r2⟩:=a.dJ;cases r2.ji;obtain⟨b,xs,rfl,h1,r1⟩:=Rep.cg r1;have hl:(wB l).length=l.length:=by simp[wB]
 refine⟨b,rfl,⟨xs,u.fh.seq h1⟩,P _ F1 H1 u ⟨λF' H' s s'=>?_,λi F' H' hi s s'=>?_,λi F' H' x H'' hi s s' y=>?_⟩⟩
 ·exact⟨xs,(s.trans s').seq h1,by rw[hl,r1.1];exact Zak _⟩
 ·rw[hl] at hi;exact⟨xs,xs[i]'(by rw[r1.1];exact hi),(s.trans s').seq h1,by simp⟩
 ·obtain⟨p,y,hp,rfl,rfl,hy⟩:=y;have e:=hy xs ((s.trans s').seq h1);obtain⟨q,e2,rq⟩:=r1.got e;have un:=Up.new (o:=.tup [.int i,y]) s' hp;refine⟨_,.tup [.int i,q],un,?_,.tup aN rfl λj x p hx hp'=>?_⟩
  ·unfold wB;rw[List.getElem?_mapIdx,e2];rfl
  ·match j with
   |0=>simp at hx hp';subst hx hp';exact .int
   |1=>simp at hx hp';subst hx hp';exact rq.up (s.trans un.ff)
   |j+2=>simp at hx
def NoO(ρ:Rho):Prop:=∀ (j:Nat) q,ρ[j]?≠some (some (.ow q))/\ρ[j]?≠some (some (.dp q))
def Wr(T:List Nat)(tg:PV->Rho->Option Rho):Prop:=∀ x ρ ρ',tg x ρ=some ρ'->ρ'.length=ρ.length/\(∀ j,j ∉ T->ρ'[j]?=ρ[j]?)/\(NoO ρ->NoO ρ')
def WrS(T:List Nat)(tg:List PV->Rho->Option Rho):Prop:=∀ x ρ ρ',tg x ρ=some ρ'->ρ'.length=ρ.length/\(∀ j,j ∉ T->ρ'[j]?=ρ[j]?)/\(NoO ρ->NoO ρ')
theorem dY(i:Nat):Wr [i] (gN i):=λx ρ ρ' e=>by
 cases e;refine⟨by simp,λj hj=>?_,λh j q=>⟨λe=>?_,λe=>?_⟩⟩
 ·rw[Zar (by simpa using Zbr (by simpa using hj))]
 ·rcases get_set e with⟨_,e2⟩|⟨_,e2⟩
  ·cases e2
  ·exact(h j q).1 e2
 ·rcases get_set e with⟨_,e2⟩|⟨_,e2⟩
  ·cases e2
  ·exact(h j q).2 e2
theorem w6:WrS [] gsNil:=λx ρ ρ' e=>by
 cases x with
 |nil=>cases e;exact⟨rfl,λ_ _=>rfl,λh=>h⟩
 |cons p l=>cases e
theorem jo{T U:List Nat}{t:PV->Rho->Option Rho}{u:List PV->Rho->Option Rho}(h:Wr T t)(hs:WrS U u):WrS (T++U) (gsCons t u):=λx ρ ρ' e=>by
 cases x with
 |nil=>cases e
 |cons p l=>
  have e:(match t p ρ with
   |some ρ'=>u l ρ'
   |none=>none)=some ρ':=e
  split at e
  ·rename_i ρ1 h1;obtain⟨a1,a2,a3⟩:=h p ρ ρ1 h1;obtain⟨b1,b2,b3⟩:=hs l ρ1 ρ' e;exact⟨b1.trans a1,λj hj=>(b2 j λz=>hj (ZaM _ z)).trans (a2 j λz=>hj (ZbL _ z)),λz=>b3 (a3 z)⟩
  ·cases e
theorem Do{n:Nat}{U:List Nat}{u:List PV->Rho->Option Rho}(hs:WrS U u):Wr U (gT n u):=λx ρ ρ' e=>by
 unfold gT at e;split at e
 ·split at e
  ·exact hs _ ρ ρ' e
  ·cases e
 ·cases e
def shOnly:Option Sl->Option Sl
 |some (.sh p)=>some (.sh p)
 |_=>none
def frR(fr:List (Option Nat))(ρ:Rho):Rho:=fr.map λo=>match o with
 |some i=>match ρ[i]? with
  |some v=>shOnly v
  |none=>none
 |none=>none
def fj(tg:PV->Rho->Option Rho)(tst:Fn Bool)(el:Fn PV)(ρb:Rho):List PV->Option (Res (List PV))
 |[]=>some (.ok [])
 |x::xs=>match tg x ρb with
  |none=>none
  |some ρ1=>bnd (tst ρ1) λb=>if b=true then bnd (el ρ1) λp=>bnd (fj tg tst el ρb xs) λr=>some (.ok (p::r)) else fj tg tst el ρb xs
def jq(it:Fn (List PV))(fr:List (Option Nat))(tg:PV->Rho->Option Rho)(tst:Fn Bool)(el:Fn PV):Fn PV:=λρ=>bnd (it ρ) λl=>
 if l.length<=sizeLine then bnd (fj tg tst el (frR fr ρ) l) λr=>some (.ok (.lst r)) else none
def uo:Fn Bool:=λ_=>some (.ok true)
theorem sE:MT K C XF uo:=λF H σ ρ Q r R e P=>by
 cases e;exact P F H (Up.refl R.rb.sub)
theorem RE.block(R:RE K C.toCf F H σ ρ)(fr:List (Option Nat)):RE K C.toCf F H (frσ fr σ) (frR fr ρ)/\NoO (frR fr ρ):=by
 have nd:∀ (j:Nat) q,(frR fr ρ)[j]?≠some (some (.dp q)):=λj q e=>by
  unfold frR at e;rw[List.getElem?_map] at e;cases e1:fr[j]? with
  |none=>rw[e1] at e;cases e
  |some o=>
   rw[e1] at e;cases o with
   |none=>cases e
   |some i=>
    simp only[Zbz,Option.some.injEq] at e;split at e
    ·rename_i v hv;unfold shOnly at e;split at e<;>cases e
    ·cases e
 have no:∀ (j:Nat) q,(frR fr ρ)[j]?≠some (some (.ow q)):=λj q e=>by
  unfold frR at e;rw[List.getElem?_map] at e;cases e1:fr[j]? with
  |none=>rw[e1] at e;cases e
  |some o=>
   rw[e1] at e;cases o with
   |none=>cases e
   |some i=>
    simp only[Zbz,Option.some.injEq] at e;split at e
    ·rename_i v hv;unfold shOnly at e;split at e<;>cases e
    ·cases e
 refine⟨⟨R.rb,by unfold frσ frR;simp,λj p e=>?_,λj p e=>absurd e (no j p),λi j p q a e=>absurd e (no i p),_,RD.no nd⟩,λj q=>⟨no j q,nd j q⟩⟩
 unfold frR at e;rw[List.getElem?_map] at e;unfold frσ;rw[List.getElem?_map];cases e1:fr[j]? with
 |none=>rw[e1] at e;cases e
 |some o=>
  rw[e1] at e;cases o with
  |none=>cases e
  |some i=>
   simp only[Zbz,Option.some.injEq] at e ⊢;split at e
   ·rename_i v hv;unfold shOnly at e;split at e
    ·cases e;obtain⟨w,e2,e3⟩:=R.sh i _ hv;exact⟨w,by rw[e2],e3⟩
    ·cases e
   ·cases e
theorem RE.other(R:RE K C.toCf F H σ ρ){D:Addr}{o:HO}(hf:F D=none)(h0:C.H0 D=none)(no:NoO ρ):RE K C.toCf F (upd H D o) σ ρ where
 rb:=⟨λb u q=>by rw[aG (bR q hf)];exact R.rb.sub b u q,λb u q n=>by rw[aG (bR q h0)];exact R.rb.keep b u q n,R.rb.new,λb hb=>⟨by
  have:=(R.rb.ios b hb);by_cases hbD:b=D
  ·subst hbD;exact absurd h0 this.2
  ·rw[aG hbD];exact this.1,(R.rb.ios b hb).2⟩⟩
 len:=R.len
 sh:=R.sh
 ow:=λi p e=>absurd e (no i p).1
 dis:=λi j p q a e=>absurd e (no i p).1
 dd:=⟨_,RD.no λi p=>(no i p).2⟩
theorem RE.weak{ρ':Rho}(R:RE K C.toCf F H σ ρ')(hl:ρ.length=ρ'.length)(h:∀ (j:Nat) s,ρ[j]?=some (some s)->ρ'[j]?=some (some s)):RE K C.toCf F H σ ρ where
 rb:=R.rb
 len:=by rw[R.len,hl]
 sh:=λi p e=>R.sh i p (h i _ e)
 ow:=λi p e=>R.ow i p (h i _ e)
 dis:=λi j p q a e e'=>R.dis i j p q a (h i _ e) (h j _ e')
 dd:=let⟨P,d⟩:=R.dd;⟨P,d.own,d.dis,λi j q b z e=>d.ow i j q b z (h j _ e),λi p e=>d.dp i p (h i _ e)⟩
structure ItH(K:Frag)(J:It)(F H:Hp)(l:List PV):Prop where
 stop:∀ F' H',aU F F'->aU F' H'->aU H H'->J.stop l.length H'
 go:∀ i F' H',i<l.length->aU F F'->aU F' H'->aU H H'->J.go i H'
 yld:∀ i F' H' x H'',i<l.length->aU F F'->aU F' H'->aU H H'->J.yld i H' x H''->∃ F'' p,Up F' H' F'' H''/\l[i]?=some p/\Rep K F'' x p
def MIH(K:Frag)(C:Cg)(wi:TI)(f:Fn (List PV)):Prop:=
 ∀ F H σ ρ R' r,RE K C.toCf F H σ ρ->f ρ=some r->Pr C F (λl=>∀ J F' H',Up F H F' H'->ItH K J F' H' l->R' J H') r->wi σ H R'
theorem MI.h{wi:TI}{f:Fn (List PV)}(h:MI K C wi f):MIH K C wi f:=λF H σ ρ R' r R e P=>
 h F H σ ρ R' r R e (Pr.mono P (aU.refl _) λl q J F' H' u x=>q J F' H' u ⟨λa b c d _=>x.stop a b c d,λi a b hi c d _=>x.go i a b hi c d,λi a b y z hi c d _=>x.yld i a b y z hi c d⟩)
theorem jY{α β γ:Type}{x:Option (Res α)}{f:α->Option (Res β)}{g:β->Option (Res γ)}:bnd (bnd x f) g=bnd x λa=>bnd (f a) g:=by
 match x with
 |some (.ok a)=>rfl
 |some (.ex z)=>rfl
 |none=>rfl
theorem Qa{wi:TI}{it:Fn (List PV)}{fr:List (Option Nat)}{gt:TG}{tg:PV->Rho->Option Rho}{T:List Nat}{tc:TT}{tst:Fn Bool}{el:Fn PV}(hi:MIH K C wi it)(hg:MG K C gt tg)(hT:Wr T tg)(ht:MT K C tc tst)(he:MJ K C (aF K) te el)
  (hfr:T.all (λj=>fr[j]?==some none)=true:=by rfl):MO K C (Gb wi fr gt tc te) (jq it fr tg tst el):=by
 intro F H σ ρ Q r R e P;rcases bM e with⟨z,e1,rfl⟩|⟨l,e1,hk⟩
 ·exact hi F H σ ρ _ _ R e1 P
 split at hk
 case isFalse=>cases hk
 rename_i hlen;refine hi F H σ ρ _ _ R e1 λJ F1 H1 u hJ D hD=>?_;have R1:=R.up u;obtain⟨Rb,no⟩:=R1.block fr;have hD0:C.H0 D=none:=R1.rb.uf hD;have hFD:F1 D=none:=u.fh.free hD;have hρ:∀ (j:Nat),j∈T->(frR fr ρ)[j]?=some none:=λj hj=>by
  have:=ZaQ.mp hfr j hj;unfold frR;rw[List.getElem?_map,show fr[j]?=some none by simpa using this]
  rfl
 refine⟨λi m σ' H'=>∃ F' ys acc,m=l.length-i/\i<=l.length/\aU F1 F'/\(∀ b o,F' b=some o->F1 b=some o\/Frz H1 b o)/\aU H1 H'/\H' D=some (.lst ys)/\F' D=none/\bK K F' ys acc/\acc.length<=i /\
   RE K C.toCf F' H' σ' (frR fr ρ)/\bnd (fj tg tst el (frR fr ρ) (l.drop i)) (λr=>some (.ok (.lst (acc++r))))=some r,
  ⟨l.length,F1,[],[],by simp,Zba _,aU.refl _,λ_ _ q=>.inl q,dI hD,aN,hFD,.nil,Zak _,Rb.other hFD hD0 no,by rw[Zbo];exact hk⟩,?_⟩
 rintro i m σ' H' ⟨F',ys,acc,rfl,hil,s1,fr1,sH,eD,nD,ra,hacc,R',e'⟩;by_cases hlt:i<l.length
 case neg=>
  have ei:i=l.length:=by omega
  subst ei;rw[List.drop_length] at e';have e':some (Res.ok (PV.lst (acc++[])))=some r:=e';rw[Zbc] at e';cases e';exact .inl ⟨hJ.stop F' H' s1 R'.rb.sub sH,P D F' H' (u.trans ⟨s1,sH,fr1,R'.rb.sub⟩) (u.hh.free hD) nD ⟨ys,eD,ra⟩⟩
 refine .inr ⟨hJ.go i F' H' hlt s1 R'.rb.sub sH,λσ2 H2=>∃ F2 ys acc,aU F1 F2/\(∀ b o,F2 b=some o->F1 b=some o\/Frz H1 b o)/\aU H1 H2/\H2 D=some (.lst ys)/\F2 D=none/\bK K F2 ys acc/\acc.length<=i+1 /\
   RE K C.toCf F2 H2 σ2 (frR fr ρ)/\bnd (fj tg tst el (frR fr ρ) (l.drop (i+1))) (λr=>some (.ok (.lst (acc++r))))=some r,
  λσ2 H2 ⟨F2,ys,acc,z⟩=>⟨l.length-(i+1),by omega,F2,ys,acc,rfl,hlt,z⟩,λx H'' y=>?_⟩
 obtain⟨F'',p,u2,ep,rx⟩:=hJ.yld i F' H' x H'' hlt s1 R'.rb.sub sH y;have ed:l.drop i=p::l.drop (i+1):=by
  rw[ZaS hlt];rw[List.getElem?_eq_getElem hlt] at ep;rw[Zac ep]
 rw[ed,fj] at e';split at e'
 ·cases e'
 rename_i ρ1 h1;obtain⟨w1,w2,w3⟩:=hT p _ ρ1 h1;have no1:=w3 no;have weak:∀ (j:Nat) s,(frR fr ρ)[j]?=some (some s)->ρ1[j]?=some (some s):=λj s ej=>by
  rw[w2 j λz=>by rw[hρ j z] at ej;cases ej];exact ej
 refine hg F'' H'' σ' (frR fr ρ) x p ρ1 _ (R'.up u2) rx h1 λσ1 R1'=>?_;have stay:∀ {F3 H3:Hp},Up F' H' F3 H3->aU F1 F3/\(∀ b o,F3 b=some o->F1 b=some o\/Frz H1 b o)/\aU H1 H3/\H3 D=some (.lst ys)/\F3 D=none/\bK K F3 ys acc:=λ{F3 H3} u3=>by
  refine⟨s1.trans u3.ff,λb o q=>?_,sH.trans u3.hh,u3.hh _ _ eD,?_,ra.up u3.ff⟩
  ·rcases u3.fr b o q with z|z
   ·exact fr1 b o z
   ·exact .inr (z.imp (λz=>sH.free z) id)
  ·cases q:F3 D with
   |none=>rfl
   |some o=>
    rcases u3.fr D o q with z|z|⟨ys,z⟩
    ·rw[nD] at z;cases z
    ·rw[eD] at z;cases z
    ·subst z;have w:=u3.fh _ _ q;rw[u3.hh _ _ eD] at w;cases w
 have Pl:∀ {F3 H3:Hp},Up F' H' F3 H3->∀ {z:PV},r=.ex z->PX C F3 z:=λ{F3 H3} u3 {z} ez=>by
  subst ez;exact PX.up P (u.ff.trans (s1.trans u3.ff))
 rw[jY] at e';rcases bM e' with⟨z',e4,ez⟩|⟨b,e4,e5⟩
 ·exact ht F'' H'' σ1 ρ1 _ _ R1' e4 (Pl u2 ez)
 refine ht F'' H'' σ1 ρ1 _ _ R1' e4 λF3 H3 u3=>?_;have u23:=u2.trans u3;cases b with
 |false=>
  rw[Zad (by decide)] at e5 ⊢
  obtain⟨a1,a2,a3,a4,a5,a6⟩:=stay u23;exact⟨F3,ys,acc,a1,a2,a3,a4,a5,a6,by omega,(R1'.up u3).weak w1.symm weak,e5⟩
 |true=>
  rw[Zaf rfl] at e5 ⊢;rw[jY] at e5;rcases bM e5 with⟨z',e6,ez⟩|⟨q,e6,e7⟩
  ·exact he F3 H3 σ1 ρ1 _ _ (R1'.up u3) e6 (Pl u23 ez)
  refine he F3 H3 σ1 ρ1 _ _ (R1'.up u3) e6 λv F4 H4 u4 rv=>?_;have u24:=u23.trans u4;obtain⟨a1,a2,a3,a4,a5,a6⟩:=stay u24;refine⟨ys,a4,by rw[a6.1];omega,F4,ys++[v],acc++[q],a1,a2,Az hD a3,aN,a5,a6.snoc rv,by simp;omega,((R1'.up (u3.trans u4)).other a5 hD0 no1).weak w1.symm weak,?_⟩
  rw[jY] at e7;rw[<-e7];congr 1
  funext rr
  show some (Res.ok (PV.lst (acc++[q]++rr)))=some (Res.ok (PV.lst (acc++q::rr)))
  rw[Zay];rfl
theorem lU{wi:TI}{it:Fn (List PV)}{fr:List (Option Nat)}{gt:TG}{tg:PV->Rho->Option Rho}{T:List Nat}{tc:TT}{tst:Fn Bool}{el:Fn PV}(hi:MI K C wi it)(hg:MG K C gt tg)(hT:Wr T tg)(ht:MT K C tc tst)(he:MJ K C (aF K) te el)
  (hfr:T.all (λj=>fr[j]?==some none)=true:=by rfl):MO K C (Gb wi fr gt tc te) (jq it fr tg tst el):=Qa hi.h hg hT ht he hfr
end
def tyN:PV->Option String
 |.non=>some "NoneType"
 |.bl _=>some "bool"
 |.int _=>some "int"
 |.str _=>some "str"
 |.tup _=>some "tuple"
 |.lst _=>some "list"
 |.dk _=>some "dict"
 |.dt _=>some "dict"
 |_=>none
def Wj(t T:String):Option Bool:=
 if t=T then some true else
 if T="int" then some (t=="bool") else
 if T="bool"\/T="str"\/T="tuple"\/T="list"\/T="dict" then some false else none
theorem Tr{K:Frag}{p:PV}{t T:String}{b:Bool}(h:tyN p=some t)(e:Wj t T=some b):PySem.W.kitOne K (.type t) (.type T)=some b:=by
 have ht:t="NoneType"\/t="bool"\/t="int"\/t="str"\/t="tuple"\/t="list"\/t="dict":=by
  cases p<;>simp[tyN] at h<;>subst h<;>simp
 unfold Wj at e;split at e
 ·rename_i e1;subst e1;cases e;exact OD
 ·split at e
  ·rename_i n1 e1;subst e1;cases e;rcases ht with rfl|rfl|rfl|rfl|rfl|rfl|rfl<;>first|exact absurd rfl n1|kernel_rfl
  ·split at e
   ·rename_i n1 n2 e1;cases e;rcases e1 with rfl|rfl|rfl|rfl|rfl<;>rcases ht with rfl|rfl|rfl|rfl|rfl|rfl|rfl<;>first|exact absurd rfl n1|kernel_rfl
   ·cases e
def isI(p:PV)(T:String):Option Bool:=match tyN p with
 |some t=>Wj t T
 |none=>none
section
variable{X:Cx}
def Yc(K:Frag):List V->Hp->VK->Prop:=λxs H Q=>∃ x p T b,xs=[x,.ty T]/\Rep K H x p/\isI p T=some b/\Q (.bl b) H
theorem kI:qY X (.builtin "isinstance") (Yc X.K):=by
 intro pins s σ H xs us Q I rv h;obtain⟨x,p,T,b,rfl,rp,e,q⟩:=h;obtain⟨u,v,rfl,ru,rw'⟩:=rv.two;cases rw';have fin:∀ tk,EP X pins σ Q (.bool b) { s with toks:=tk }:=λtk=>⟨.bl b,H,I.tok _,rfl,q⟩;unfold isI at e;split at e
 case h_2=>cases e
 rename_i t ht;have ek:=Tr (K:=X.K) ht e;cases rp with
 |non=>cases ru;cases ht;exact ZbF PySem.W.kitx_none I.kIn True.intro ek (λz=>nomatch z) fin
 |bl=>cases ru;cases ht;exact ZbF PySem.W.kitx_bool I.kIn True.intro ek (λz=>nomatch z) fin
 |int=>obtain⟨t,rfl⟩:=ru;cases ht;exact ZbF PySem.W.kitx_int I.kIn True.intro ek (λz=>nomatch z) fin
 |str=>obtain⟨t,rfl⟩:=ru;cases ht;exact ZbF PySem.W.kitx_str I.kIn True.intro ek (λz=>nomatch z) fin
 |ty=>cases ht
 |tup h=>
  cases ru;cases ht;obtain⟨_,_,⟨o,h1,h2,_⟩,_⟩:=I.tuple (SqT.of h);exact ZbF PySem.W.kitx_tuple I.kIn ⟨o,h1,h2⟩ ek (λz=>nomatch z) fin
 |lst h=>
  cases ru;cases ht;obtain⟨_,_,⟨o,n,h1,h2,_⟩,_⟩:=I.list h;exact ZbF PySem.W.kitx_list I.kIn ⟨o,h1,h2⟩ ek (λz=>nomatch z) fin
 |dk h=>
  cases ru;cases ht;obtain⟨_,_,vs,_,o,es,ep,h1,h2,_⟩:=h.ok I.hok;exact ZbF PySem.W.kitx_dict I.kIn ⟨o,h1,h2.1⟩ ek (λz=>nomatch z) fin
 |dt h=>
  cases ru;cases ht;obtain⟨_,_,vs,_,o,es,ep,h1,h2,_⟩:=h.ok I.hok;exact ZbF PySem.W.kitx_dict I.kIn ⟨o,h1,h2.1⟩ ek (λz=>nomatch z) fin
 |exc=>cases ht
 |exc0=>cases ht
end
section
variable{K:Frag}{C:Cg}{α β γ:Type}{A:Rel α}{B:Rel β}{D:Rel γ}{ta tb:TE}{f:Fn α}{g:Fn β}{rr:List V->Hp->VK->Prop}
def R1M(C:Cg)(A:Rel α)(D:Rel γ)(rr:List V->Hp->VK->Prop)(op:α->Option (Res γ)):Prop:=
 ∀ F H x a res Q,aU F H->A F H x a->op a=some res->Pr C F (λc=>∀ v F' H',Up F H F' H'->D F' H' v c->Q v H') res->rr [x] H Q
theorem iY{op:α->Option (Res γ)}(rule:R1M C A D rr op)(ha:MJ K C A ta f):MJ K C D (tCB rr (j8 ta wL)) (m1 op f):=by
 intro F H σ ρ Q r R e P;refine ha.run R e P λp v F1 H1 hk u a=>?_;exact rule F1 H1 v p r Q u.fh a hk (P.later u)
def R1O(K:Frag)(C:Cg)(A:Rel α)(rr:List V->Hp->VK->Prop)(op:α->Option (Res PV)):Prop:=
 ∀ F H x a res Q,aU F H->A F H x a->op a=some res->Pr C F (λp=>∀ a F' H',Up F H F' H'->H a=none->F' a=none->Own K F' H' a p->Q (.ref a) H') res->rr [x] H Q
theorem yt{op:α->Option (Res PV)}(rule:R1O K C A rr op)(ha:MJ K C A ta f):MO K C (tCB rr (j8 ta wL)) (m1 op f):=by
 intro F H σ ρ Q r R e P;refine ha.run R e P λp v F1 H1 hk u a=>?_;exact rule F1 H1 v p r Q u.fh a hk (P.yd u)
def R2B(C:Cg)(A:Rel α)(B:Rel β)(D:Rel γ)(rr:List V->Hp->VK->Prop)(op:α->β->Option (Res γ)):Prop:=
 ∀ F H x y a b res Q,aU F H->A F H x a->B F H y b->op a b=some res->Pr C F (λc=>∀ v F' H',Up F H F' H'->D F' H' v c->Q v H') res->rr [x,y] H Q
theorem sG{op:α->β->Option (Res γ)}(up:UpM A)(rule:R2B C A B D rr op)(ha:MJ K C A ta f)(hb:MJ K C B tb g):MJ K C D (tCB rr (j8 ta (j8 tb wL))) (m2 op f g):=by
 intro F H σ ρ Q r R e P;refine ha.run R e P λp v F1 H1 hk u a=>?_;refine hb.run (R.up u) hk (P.later u) λq w F2 H2 hk2 u2 b=>?_;exact rule F2 H2 v w p q r Q u2.fh (up _ _ _ _ _ _ u2 a) b hk2 (P.later (u.trans u2))
def kJ:PV->Option (Res PV)
 |.str z=>if z.length<=sizeLine then some (.ok (.int z.length)) else none
 |.lst l=>some (.ok (.int l.length))
 |.tup l=>some (.ok (.int l.length))
 |_=>none
theorem pQ:R1M C (aH K) (aF K) (λxs H Q=>∃ x n,xs=[x]/\Xu K x H n/\Q (.int n) H) kJ:=by
 intro F H x a res Q s ha e P
 match a,e with
 |.str z,e=>
  cases Rep.b8 ha;have e:(if z.length<=sizeLine then some (Res.ok (PV.int z.length)) else none)=some res:=e;split at e
  ·rename_i hz;cases e;exact⟨_,_,rfl,⟨hz,rfl⟩,P _ F H (Up.refl s) .int⟩
  ·cases e
 |.lst l,e=>
  cases e;obtain⟨b,xs,rfl,h1,r1⟩:=Rep.cg ha;rw[<-r1.1] at P;exact⟨_,_,rfl,.inl ⟨xs,h1,rfl⟩,P _ F H (Up.refl s) .int⟩
 |.tup l,e=>
  cases e;obtain⟨b,xs,rfl,h1,r1⟩:=Rep.cL ha;rw[<-r1.1] at P;exact⟨_,_,rfl,.inr ⟨xs,h1,rfl⟩,P _ F H (Up.refl s) .int⟩
def yu(p q:PV):Option (Res PV):=match q with
 |.ty T=>match isI p T with
  |some b=>some (.ok (.bl b))
  |none=>none
 |_=>none
theorem JG:R2B C (aH K) (aF K) (aF K) (Yc K) yu:=by
 intro F H x y a b res Q s ha hb e P
 match b,e with
 |.ty T,e=>
  cases Rep.V9 hb;have e:(match isI a T with
   |some b=>some (Res.ok (PV.bl b))
   |none=>none)=some res:=e
  split at e
  ·rename_i k hk;cases e;exact⟨x,a,T,k,rfl,ha,hk,P _ F H (Up.refl s) .bl⟩
  ·cases e
def Gu:PV->Option (Res PV)
 |.int i=>some (.ok (.int i))
 |.bl b=>some (.ok (.int (if b then 1 else 0)))
 |_=>none
theorem Qc:R1M C (aF K) (aF K) (λxs H Q=>(∃ i,xs=[.int i]/\Q (.int i) H)\/∃ k,xs=[.bl k]/\Q (.int (if k then 1 else 0)) H) Gu:=by
 intro F H x a res Q s ha e P
 match a,e with
 |.int i,e=>
  cases Rep.bD ha;cases e;exact .inl ⟨i,rfl,P _ F H (Up.refl s) .int⟩
 |.bl b,e=>
  cases Rep.iW ha;cases e;exact .inr ⟨b,rfl,P _ F H (Up.refl s) .int⟩
def JH(l:List PV):Option (Res PV):=some (.ok (.lst l))
theorem Wl:R1O K C (aV K) (λxs H Q=>∃ p ys,xs=[.ref p]/\(SqL K H p ys\/SqT K H p ys)/\∀ l,H l=none->Q (.ref l) (upd H l (.lst ys))) JH:=by
 intro F H x a res Q s ha e P;cases e;obtain⟨b,xs,rfl,h1,r1⟩:=ha;exact⟨b,xs,rfl,.inl h1,λl hl=>P l F _ (Up.JB s hl) hl (s.free hl) ⟨_,aN,r1⟩⟩
def pR(f:Fn PV):Fn (List PV):=λρ=>bnd (f ρ) wy
def yw(i:Nat):Fn (List PV):=λρ=>bnd (mVL i ρ) wy
def KR:PV->Option (Res PV)
 |.int i=>some (.ok (.int (-i)))
 |_=>none
theorem Qd{f:Fn PV}(ha:MJ K C (aF K) ta f):MJ K C (aF K) (tUn (rU λi=>.int (-i)) ta) (m1 KR f):=by
 intro F H σ ρ Q r R e P;refine ha.run R e P λp v F1 H1 hk u a=>?_
 match p,hk with
 |.int i,hk=>
  cases Rep.bD a;cases hk;exact⟨i,rfl,P _ F1 H1 u .int⟩
end
noncomputable abbrev XR0:Hp->Value->Option Addr->PV->Prop:=λ_ _ _ _=>False
noncomputable abbrev C0(io:Addr->Prop)(H0 F0:Hp):Cg:=⟨⟨io,True,H0,F0,E0⟩,XR0⟩
def startR(ps:List PV)(k:Nat):Rho:=ps.map (λp=>some (.sh p))++List.replicate k none
def fin:Option Out->Option (Res PV)
 |some (.nx _)=>some (.ok .non)
 |some (.rt p)=>some (.ok p)
 |some (.ex z)=>some (.ex z)
 |_=>none
def sI:Option Out->Option (Res PV)
 |some (.ro p)=>some (.ok p)
 |some (.ex z)=>some (.ex z)
 |_=>none
section
variable{K:Frag}{XR:Hp->Value->Option Addr->PV->Prop}{N:List Str}{vs:List V}{H:Hp}{Q:VK}{E:XK}{t:TS}{b:Sn}{m:List PV->Option (Res PV)}
theorem yx{E:XK}{F:Hp}{ps:List PV}{n:Nat}(s:aU F H)(r:bK K F vs ps)(hN:N.length=vs.length+n):RE K ⟨λ_=>False,True,H,F,E⟩ F H (start N vs) (startR ps n) where
 rb:=⟨s,λ_ _ h _=>h,λ_ _ h=>.inl h,λ_ h=>h.elim⟩
 len:=by unfold start startR;rw[List.length_append,List.length_append,List.length_map,List.length_map,List.length_replicate,List.length_replicate,r.1,hN];have:=r.1;lia
 sh:=λi p e=>by
  unfold startR at e;unfold start;by_cases hi:i<ps.length
  ·rw[Zal (by simpa using hi),List.getElem?_map] at e
   rw[Zal (by rw[List.length_map,r.1];exact hi),List.getElem?_map]
   cases h:ps[i]? with
   |none=>rw[h] at e;cases e
   |some q=>
    rw[h] at e;cases e;obtain⟨x,hx,rx⟩:=r.get h;exact⟨x,by rw[hx];rfl,rx⟩
  ·rw[Zat (by simpa using hi),Zbw] at e
   split at e<;>cases e
 ow:=λi p e=>by
  exfalso;unfold startR at e;by_cases hi:i<ps.length
  ·rw[Zal (by simpa using hi),List.getElem?_map] at e
   cases h:ps[i]? with
   |none=>rw[h] at e;cases e
   |some q=>rw[h] at e;cases e
  ·rw[Zat (by simpa using hi),Zbw] at e
   split at e<;>cases e
 dd:=⟨_,RD.no λi p e=>by
  unfold startR at e;by_cases hi:i<ps.length
  ·rw[Zal (by simpa using hi),List.getElem?_map] at e
   cases h:ps[i]? with
   |none=>rw[h] at e;cases e
   |some q=>rw[h] at e;cases e
  ·rw[Zat (by simpa using hi),Zbw] at e
   split at e<;>cases e⟩
 dis:=λi j p q a e=>by
  exfalso;unfold startR at e;by_cases hi:i<ps.length
  ·rw[Zal (by simpa using hi),List.getElem?_map] at e
   cases h:ps[i]? with
   |none=>rw[h] at e;cases e
   |some q=>rw[h] at e;cases e
  ·rw[Zat (by simpa using hi),Zbw] at e
   split at e<;>cases e
theorem dN{k n:Nat}(hk:N.length=k+n)(hm:∀ ps r,m ps=some r->ps.length=k/\fin (b (startR ps n))=some r)(h:spM K XR0 m vs H Q E)(hS:∀ (io:Addr->Prop) (H0 F0:Hp),(∀ a,¬io a)->MS K (C0 io H0 F0) t b) :
  t { nx:=λ_ H'=>Q .non H',rt:=Q } (start N vs) H:=by
 obtain⟨ps,F,r,s,rp,e,P⟩:=h;obtain⟨hl,e⟩:=hm ps r e;have R:=yx (E:=E0) (N:=N) (n:=n) s rp (by rw[rp.1,hl];exact hk)
 have up:∀ {F' H':Hp},aU F F'->RB ⟨λ_=>False,True,H,F,E0⟩ F' H'->Up F H F' H':=λs' rb=>⟨s',λc o q=>rb.keep c o q id,rb.new,rb.sub⟩;have M:=hS (λ_=>False) H F (λ_ h=>h);cases ho:b (startR ps n) with
 |none=>rw[ho] at e;cases e
 |some o=>
  rw[ho] at e;refine M F H _ _ _ o R ho ?_;cases o with
  |nx ρ=>cases e;exact λF' H' σ s' R'=>P .non F' H' (up s' R'.rb) .non
  |rt p=>cases e;exact λv F' H' s' rb rv=>P v F' H' (up s' rb) rv
  |ex z=>exact λ_ _ _ _ _ _ x=>x.elim
  |ro p=>cases e
  |rd p=>cases e
  |bk ρ=>cases e
  |ct ρ=>cases e
theorem lV{k n:Nat}(hk:N.length=k+n)(hm:∀ ps r,m ps=some r->ps.length=k/\sI (b (startR ps n))=some r)(h:spO K XR0 m vs H Q E)(hS:∀ (io:Addr->Prop) (H0 F0:Hp),(∀ a,¬io a)->MS K (C0 io H0 F0) t b) :
  t { nx:=λ_ H'=>Q .non H',rt:=Q } (start N vs) H:=by
 obtain⟨ps,F,r,s,rp,e,P⟩:=h;obtain⟨hl,e⟩:=hm ps r e;have R:=yx (E:=E0) (N:=N) (n:=n) s rp (by rw[rp.1,hl];exact hk)
 have up:∀ {F' H':Hp},aU F F'->RB ⟨λ_=>False,True,H,F,E0⟩ F' H'->Up F H F' H':=λs' rb=>⟨s',λc o q=>rb.keep c o q id,rb.new,rb.sub⟩;have M:=hS (λ_=>False) H F (λ_ h=>h);cases ho:b (startR ps n) with
 |none=>rw[ho] at e;cases e
 |some o=>
  rw[ho] at e;refine M F H _ _ _ o R ho ?_;cases o with
  |ro p=>cases e;exact λa F' H' s' rb w n1 n2=>P a F' H' (up s' rb) n2 n1 w
  |ex z=>exact λ_ _ _ _ _ _ x=>x.elim
  |nx ρ=>cases e
  |rt p=>cases e
  |rd p=>cases e
  |bk ρ=>cases e
  |ct ρ=>cases e
theorem dO(h:spM K XR m vs H Q E){k:Nat}(hm:∀ ps r,m ps=some r->ps.length=k):vs.length=k:=by
 obtain⟨ps,F,r,s,rp,e,P⟩:=h;rw[rp.1];exact hm ps r e
theorem lW(h:spO K XR m vs H Q E){k:Nat}(hm:∀ ps r,m ps=some r->ps.length=k):vs.length=k:=by
 obtain⟨ps,F,r,s,rp,e,P⟩:=h;rw[rp.1];exact hm ps r e
end
section
variable{X:Cx}{k:Nat}{N:List Str}{scope:Scope}{cl:List (Str×Addr)}{C:Addr}{s2:Shared}{H2:Hp}{fp:List Addr}
theorem nY:IxR (X.comp N scope cl C s2 H2 fp) (rIx X.K):=aY
theorem Gv:OpR (X.comp N scope cl C s2 H2 fp) (binaryOp .Add) (Px X.K):=bu
theorem JK(hr:fW k X.A):OpR (X.comp N scope cl C s2 H2 fp) (compareOp .NotIn) (Dk X.K):=Bc hr
end
def Yd(j:Nat):Option Out->Option (Res PV)
 |some (.nx ρ)=>match ownAt j ρ with
  |some p=>some (.ok p)
  |none=>none
 |_=>none
section
variable{K:Frag}{C:Cg}{N:List Str}{vs:List V}
theorem jr{i:Nat}{x:V}(h:vs[i]?=some x):(start N vs)[i]?=some (some x):=by
 unfold start;rw[Zal (by rw[List.length_map];exact cU h),List.getElem?_map,h]
 rfl
def JL:Sn:=λ_=>none
theorem Qe:MS K C Oi JL:=λ_ _ _ _ _ _ _ e _=>nomatch e
end
theorem Gw:∀ {ns:List Int}{us:List Value},Vals (ns.map V.int) us->IntsAre us ns
 |[],us,r=>by rw[List.map_nil] at r;cases r;exact .nil
 |n::ns,us,r=>by
  rw[Zap] at r;cases r with
  |cons r1 r2=>
   obtain⟨t,e⟩:=r1;subst e;exact .cons n t (Gw r2)
def pU:List PV->Option (List Int)
 |[]=>some []
 |.int n::l=>(pU l).map (n::·)
 |_=>none
theorem yz:typeLookup (.type "list") "keys"=pure none:=am_miss_of_fast (by decide +kernel)
theorem wO:typeLookup (.type "tuple") "keys"=pure none:=am_miss_of_fast (by decide +kernel)
theorem ir:entryFor table "dict.update.loop"=some Builtin.«dict.update.loop»:=entryFor_of_tree (by kernel_rfl)
theorem cM:plainId "dict.update.loop"=true:=by decide +kernel
section
variable{prog:Program}{w:World}{A:Around}{E:Value->Shared->Prop}{s:Shared}{a:Addr}{o:Obj}{xs:Array Value}{k:Nat}{name:Str}{Q:Option Value->Shared->Prop}
theorem sJ(hx:s.heap.get? a=some o)(hc:o.cls=.type "list")(hdat:o.data=.seq xs k)(hd:o.dict=none)(hmiss:typeLookup (.type "list") name=pure none)(hname:(["__module__","__name__","__qualname__","__doc__","__annotations__"]:List Str).contains name=false)(hA:A.handled=none)
  (h:∀ h' tk,(∀ b ob,s.heap.get? b=some ob->h'.get? b=some ob)->Q none { s with heap:=h',toks:=tk })(hsz:name.length+100<=sizeLine:=by size_fits) :
  wpAny (model prog w) A (getAttr? (.ref a) name) Q E s:=by
 obtain⟨c,dct,dat,sl⟩:=o;simp only at hc hdat hd;subst hc hdat hd;obtain⟨hp,g,d,tk,os⟩:=s;have hT:∀ tk',(⟨hp,g,d,tk',os⟩:Shared).TypeIs (.ref a) "list":=λ_=>⟨_,hx,rfl⟩;have f1:=sub_AttributeError;have f3:=F.slot_list_getattribute.lookup;have f4:=F.slot_list_getattribute.bind (.ref a);have f5:=am_list_getattr_none;unfold getAttr? getAttrBy? getAttrBy;repeat (any_goals (first|assumption|exact hT _|((with_reducible show wpAny _ _ (call (Value.builtin "list.__getattribute__") _ _) _ _ _);refine call_meets F.slot_list_getattribute (hT _) am_entry_list_getattribute (F.args_list_getattribute_2 _ _) (meets_getattribute_miss_list a xs k sl name _ hmiss hname hsz) ⟨hx,hA,λh' tk' e hx'=>?_⟩)|wp_step))
 obtain⟨t',u',he⟩:=hx'.there;show wpAny _ _ (getattributeRaised _ _ _ _ _ _ _) _ _ _
 unfold getattributeRaised;repeat (any_goals (first|assumption|wp_step))
 exact h _ _ hx'.keeps
theorem qT(hx:s.heap.get? a=some o)(hc:o.cls=.type "tuple")(hdat:o.data=.seq xs k)(hd:o.dict=none)(hmiss:typeLookup (.type "tuple") name=pure none)(hname:(["__module__","__name__","__qualname__","__doc__","__annotations__"]:List Str).contains name=false)(hA:A.handled=none)
  (h:∀ h' tk,(∀ b ob,s.heap.get? b=some ob->h'.get? b=some ob)->Q none { s with heap:=h',toks:=tk })(hsz:name.length+100<=sizeLine:=by size_fits) :
  wpAny (model prog w) A (getAttr? (.ref a) name) Q E s:=by
 obtain⟨c,dct,dat,sl⟩:=o;simp only at hc hdat hd;subst hc hdat hd;obtain⟨hp,g,d,tk,os⟩:=s;have hT:∀ tk',(⟨hp,g,d,tk',os⟩:Shared).TypeIs (.ref a) "tuple":=λ_=>⟨_,hx,rfl⟩;have f1:=sub_AttributeError;have f3:=F.slot_tuple_getattribute.lookup;have f4:=F.slot_tuple_getattribute.bind (.ref a);have f5:=am_tuple_getattr_none;unfold getAttr? getAttrBy? getAttrBy;repeat (any_goals (first|assumption|exact hT _|((with_reducible show wpAny _ _ (call (Value.builtin "tuple.__getattribute__") _ _) _ _ _);refine call_meets F.slot_tuple_getattribute (hT _) am_entry_tuple_getattribute (F.args_tuple_getattribute_2 _ _) (meets_getattribute_miss_tuple a xs k sl name _ hmiss hname hsz) ⟨hx,hA,λh' tk' e hx'=>?_⟩)|wp_step))
 obtain⟨t',u',he⟩:=hx'.there;show wpAny _ _ (getattributeRaised _ _ _ _ _ _ _) _ _ _
 unfold getattributeRaised;repeat (any_goals (first|assumption|wp_step))
 exact h _ _ hx'.keeps
end
section
variable{X:Cx}{pins:List (Addr×Obj)}{σ:St}{H H':Hp}{s:Shared}{d:Addr}{y v:V}{u r:Value}{A:Around}{E:Value->Shared->Prop}
theorem Nb{Q:Unit->Shared->Prop}(hu:A.units<cLine)(I:Inv X pins σ H s)(g:t8 H d y v H')(ry:RelV y u)(rv:RelV v r)(h:∀ h' tk,Heap.SameBut d s.heap h'->Inv X pins σ H' { s with heap:=h',toks:=tk }->Q () { s with heap:=h',toks:=tk }) :
  wpAny (model X.prog X.w) A (dictSet d u r) Q E s:=by
 rcases g with⟨kvs,k,e,ey,l,eH⟩|⟨kvs,k,b,e,ey,eb,l,eH⟩
 ·subst ey eH;obtain⟨z,hd,vs,rel,dd⟩:=Vg I.hok e;have hz:vs.length<=sizeLine:=by rw[<-rel.length];exact z
  have hl:(putK kvs k v).length<=sizeLine:=by have:=jk kvs k v;omega
  refine wpAny_dictSet_pairs (hsz:=hz) (xZ ry) dd λh' dd' hs=>h h' _ hs ?_;have he:∃ q,h'.get? d=some q:=let⟨q,_,_,hq,_⟩:=dd';⟨q,hq⟩;exact uc I (by rw[e];exact True.intro) hs he (O2 hl hd (rel.put k rv) dd')
 ·subst ey eH;cases (show u=Value.ref b from ry);obtain⟨z,hd,xs,rel,dd⟩:=O1 I.hok e;have hz:xs.length<=sizeLine:=by rw[<-Paired.length rel];exact z
  have hl:(putK kvs k v).length<=sizeLine:=by have:=jk kvs k v;omega
  refine wpAny_dictSet_heap (hsz:=hz) (show(tupleKind (dq X.prog X.w)).room A from hu) (pJ I.hok eb) dd λh' dd' hs=>h h' _ hs ?_;obtain⟨q,es,ep,hq,h2,h3,h4,_,h5⟩:=dd';refine uc I (by rw[e];exact True.intro) hs ⟨q,hq⟩ ⟨hl,hd,_,(rel.put k eb rv).keeps λc ys ec=>?_,q,es,ep,hq,h2,h3,h4,h5⟩
  rw[aG (Oe ec e (λz=>nomatch z))];exact ec
theorem t8.other(g:t8 H d y v H'){b:Addr}(hb:b≠d):H' b=H b:=by
 rcases g with⟨kvs,k,e,ey,l,rfl⟩|⟨kvs,k,b',e,ey,eb,l,rfl⟩
 ·exact aG hb
 ·exact aG hb
def Bf(d:Addr):List (V×V)->Hp->(Hp->Prop)->Prop
 |[],H,Q=>Q H
 |(y,v)::r,H,Q=>∃ H',t8 H d y v H'/\Bf d r H' Q
def CW(K:Frag)(H:Hp)(ys:List V)(ps:List (V×V)):Prop:=ys.length=ps.length/\∀ (j:Nat) x p,ys[j]?=some x->ps[j]?=some p->∃ T,x=.ref T/\SqT K H T [p.1,p.2]
theorem SqT.but{K:Frag}{T:Addr}{xs:List V}(h:SqT K H T xs)(hb:∀ b,b≠d->H' b=H b)(hn:T≠d):SqT K H' T xs:=by
 rcases h with(h|⟨o,h⟩)|h
 ·exact .inl (.inl (by rw[hb T hn];exact h))
 ·exact .inl (.inr ⟨o,by rw[hb T hn];exact h⟩)
 ·exact .inr h
theorem Qf{it:Addr}{fp:List Addr}{n:Nat}{P:Nat->Value->Prop}{St:Nat->Heap->Prop}{ps:List (V×V)}{R:Result->Shared->Prop}{H0:Hp}(hc:X.calm=true)(W:Walks X.prog X.w A.in1 it fp [it] n P St)(hu:A.in1.units<cLine)
  (hn:ps.length=n)(hd:d ∉ fp)(hit:∀ H,H d≠none->(∀ b,b≠d->H b=H0 b)->xQ X pins H it)
  (hp:∀ (i:Nat) v p,P i v->ps[i]?=some p->∃ T,v=.ref T/\T≠d/\SqT X.K H0 T [p.1,p.2]) :
  ∀ (k i:Nat) (s:Shared) (H:Hp),n-i=k->i<=n->St i s.heap->Inv X pins σ H s->H d≠none->(∀ b,b≠d->H b=H0 b)->∀ tk,Bf d (ps.drop i) H (λH'=>∀ s',Inv X pins σ H' s'->R (.ok (.ret .none)) s') ->
   codeAny (model X.prog X.w) A (.builtin "dict.update.loop" ⟨[.ref d,.ref it,.int i tk,.none],[]⟩) R s:=by
 intro k;induction k with
 |zero=>
  intro i s H hk hi hst I hHd hb tk hR;have hin:i=n:=by omega
  subst hin;refine codeAny_builtin ir ?_;rw[Around.under_plainId cM _];show wpAny _ A.in1 (pyNext (.ref it)>>=_) _ _ s
  refine Zaa (W.done s _ _ hst λh' tk' hk'=>?_);show wpAny _ _ (Builtin.Dict.addKeywords d []>>=_) _ _ _
  rw[Zbn (by omega)] at hR
  exact Zaa (Zae (Zae (hR _ (I.tZ hk' λb hb'=>by rw[ZaL.mp hb'];exact hit H hHd hb))))
 |succ k ih=>
  intro i s H hk hi hst I hHd hb tk hR;have hlt:i<n:=by omega
  have hlp:i<ps.length:=by omega
  have hdr:ps.drop i=ps[i]::ps.drop (i+1):=ZaS hlp;rw[hdr] at hR;refine codeAny_builtin ir ?_;rw[Around.under_plainId cM _];show wpAny _ A.in1 (pyNext (.ref it)>>=_) _ _ s
  refine Zaa (W.item i s _ _ hlt hst λv h' tk' hP hst' hk'=>?_);obtain⟨T,rfl,hT,hq⟩:=hp i v ps[i] hP (by simp[hlp])
  have I1:Inv X pins σ H { s with heap:=h',toks:=tk' }:=I.tZ hk' λb hb'=>by rw[ZaL.mp hb'];exact hit H hHd hb
  obtain⟨its,rv,ht,_⟩:=I1.tuple (SqT.but hq hb hT);obtain⟨u1,u2,rfl,r1,r2⟩:∃ u1 u2,its=[u1,u2]/\RelV ps[i].1 u1/\RelV ps[i].2 u2:=by
   cases rv with
   |cons a t=>cases t with
    |cons b t=>cases t;exact⟨_,_,rfl,a,b⟩
  obtain⟨H',g,hR⟩:=hR;refine Zaa (Zbj (Zaa (wpAny_tryCatch ?_)));unfold Builtin.Dict.pairItems;refine Zaa (wpAny_typeOf ht.typeIs ?_);rw[Zaf (by decide)]
  obtain⟨o,h1,_,m,h2⟩:=ht;refine Zaa (wpAny_seqItems h1 h2 (Zae ?_));show wpAny _ A.in1 (holding [u1,u2] (dictSet d u1 u2)) _ _ _
  refine Zbj (Nb hu I1 g r1 r2 λh2' tk2 hs2 I2=>?_);refine Zae ⟨plainId_quiet cM _,?_⟩;have:=ih (i+1) { s with heap:=h2',toks:=tk2 } H' (by omega) hlt (W.frame _ _ _ hst' λb hb' o e=>(hs2.2 b λz=>hd (by rw[<-z];exact hb')).trans e) I2
   (by rcases g with⟨_,_,_,_,_,rfl⟩|⟨_,_,_,_,_,_,_,rfl⟩<;>rw[aN]<;>simp) (λb hb'=>(t8.other g hb').trans (hb b hb')) 0 hR
  exact this
end
theorem Gx:∀ {xs:List V}{us:List Value}{i:Nat}{u:Value},Vals xs us->us[i]?=some u->∃ x,xs[i]?=some x/\RelV x u
 |[],_,i,u,r,h=>by cases r;simp at h
 |x::xs,_,i,u,r,h=>by
  cases r with
  |cons a t=>
   cases i with
   |zero=>simp at h;subst h;exact⟨x,rfl,a⟩
   |succ i=>obtain⟨y,h1,h2⟩:=Gx (i:=i) t (by simpa using h);exact⟨y,by simpa using h1,h2⟩
def JM(K:Frag)(n:HO):List V->Hp->VK->Prop:=λxs H Q=>∃ p ys ps,xs=[.ref p]/\(SqL K H p ys\/H p=some (.tup ys))/\CW K H ys ps/\∀ d,H d=none->Bf d ps (upd H d n) λH'=>Q (.ref d) H'
section
variable{X:Cx}
theorem JN{n:HO}(hc:X.calm=true)(hu:X.A.units+64<cLine)(hn:n=.dK []\/n=.dT []):qY X (.type "dict") (JM X.K n):=by
 intro pins s σ H xs us Q I rv h;obtain⟨p,ys,ps,rfl,hq,hps,q⟩:=h;obtain⟨u,rfl,ru⟩:=rv.one;cases ru;have hh:X.A.handled=none:=I.ok.hd hc;refine callType_codes (Q₁:=λobj s₁=>obj=.ref s.heap.objs.size/\s₁={ s with heap:=s.heap.push { cls:=.type "dict",data:=.dict #[] } }) F.kt_called_dict (F.kt_typeCall_dict_1 _) F.entry_dict_init (kt_code_dict_new _ ⟨rfl,rfl⟩) ?_;rintro obj s₁ ⟨rfl,rfl⟩;have ok:dW X.prog X.w (upd H s.heap.objs.size n) (s.heap.push { cls:=.type "dict",data:=.dict #[] }) s.heap.objs.size n:=by
  rcases hn with rfl|rfl
  ·exact O5 s.heap I.big
  ·exact Gf s.heap I.big
 have hfree:H s.heap.objs.size=none:=I.hok.fresh (Zak _);have I1:Inv X pins σ (upd H s.heap.objs.size n) { s with heap:=s.heap.push { cls:=.type "dict",data:=.dict #[] } }:=I.laid (a:=s.heap.objs.size) (o:=n) (t':=s.toks) (λ_ _ q=>Zah _ q) (Zak _) ok;have q:=q _ hfree;have hd1:(s.heap.push { cls:=.type "dict",data:=.dict #[] }).get? s.heap.objs.size=some { cls:=.type "dict",data:=.dict #[] }:=Zaq _ rfl;have tyD:({ s with heap:=s.heap.push { cls:=.type "dict",data:=.dict #[] } }:Shared).TypeIs (.ref s.heap.objs.size) "dict":=⟨_,hd1,rfl⟩;refine⟨tyD,F.args_dict_init_2 _ _,?_⟩;unfold Builtin.«dict.__init__»;refine Zaa ?_;unfold Builtin.Dict.selfAndRest;refine Zaa (wpAny_notOrdered_dict tyD ?_);show wpAny _ _ (pure (s.heap.objs.size,[Value.ref p])) _ _ _
 refine Zae ?_;show wpAny _ _ (Builtin.Dict.updateFrom "dict.__init__" s.heap.objs.size (.ref p) [] .none) _ _ _
 unfold Builtin.Dict.updateFrom;have same:aU H (upd H s.heap.objs.size n):=dI hfree;have hnd:∀ (j:Nat) x pr,ys[j]?=some x->ps[j]?=some pr->∃ T,x=.ref T/\T≠s.heap.objs.size/\SqT X.K (upd H s.heap.objs.size n) T [pr.1,pr.2]:=λj x pr e1 e2=>by
  obtain⟨T,rfl,hT⟩:=hps.2 j x pr e1 e2;obtain⟨its,_,ht,_⟩:=I.tuple hT;exact⟨T,rfl,ZaG ht.lt,same.tup hT⟩
 have fin:∀ (h2:Heap) (tk:Nat) (o:Obj) (St:Nat->Heap->Prop) (its:List Value),(∀ b ob,(s.heap.push { cls:=.type "dict",data:=.dict #[] }).get? b=some ob->h2.get? b=some ob)->Vals ys its ->
   Walks X.prog X.w X.A.in1.in1 h2.objs.size [h2.objs.size,p] [h2.objs.size] its.toArray.size (λi v=>its.toArray[i]?=some v) St->St 0 (h2.push o)->p≠s.heap.objs.size->(∀ b,o.cls≠.ref b) ->
   codeAny (model X.prog X.w) X.A.in1 (.builtin "dict.update.loop" ⟨[.ref s.heap.objs.size,.ref h2.objs.size,.int (0:Nat) 0,.none],[]⟩) (wants (λr s₂=>r=.none/\EP X pins σ Q (.ref s.heap.objs.size) s₂) X.xe) { s with heap:=h2.push o,toks:=tk }:=by
  intro h2 tk o St its hk rv W h0 hp _;have I2:Inv X pins σ (upd H s.heap.objs.size n) { s with heap:=h2,toks:=tk }:=I1.kept hk;have I3:Inv X pins σ (upd H s.heap.objs.size n) { s with heap:=h2.push o,toks:=tk }:=I2.kept (t':=tk) λb ob e=>Zah _ e;have lt1:s.heap.objs.size<h2.objs.size:=Zao (hk _ _ hd1);have hn2:upd H s.heap.objs.size n h2.objs.size=none:=I2.hok.fresh (Zak _);refine Qf (A:=X.A.in1) (ps:=ps) (H0:=upd H s.heap.objs.size n) hc W (show X.A.units+2<cLine by lia) ?_ ?_ (λHx hx1 hx2=>?_) (λi v pr hv hpr=>?_) _ 0 _ _ rfl (Zba _) h0 I3 (by rw[aN];simp) (λ_ _=>rfl) 0 ?_
  ·rw[List.size_toArray,<-rv.length];exact hps.1.symm
  ·intro z;rcases ZaA.mp z with z|z
   ·exact absurd z (ZaG lt1)
   ·exact absurd (ZaL.mp z).symm hp
  ·exact I2.Fx (Zak _) (by rw[hx2 _ (Nat.ne_of_gt lt1)];exact hn2)
  ·rw[List.getElem?_toArray] at hv;obtain⟨y,hy,ry⟩:=Gx rv hv;obtain⟨T,rfl,h1,h2⟩:=hnd i y pr hy hpr;cases ry;exact⟨T,rfl,h1,h2⟩
  ·rw[Zbo];have mono:∀ (ps:List (V×V)) (Hx:Hp) (P1 P2:Hp->Prop),(∀ H,P1 H->P2 H)->Bf s.heap.objs.size ps Hx P1->Bf s.heap.objs.size ps Hx P2:=by
    intro ps;induction ps with
    |nil=>exact λHx P1 P2 hP h=>hP _ h
    |cons a r ih=>exact λHx P1 P2 hP ⟨H',g,h⟩=>⟨H',g,ih _ _ _ hP h⟩
   exact mono _ _ _ _ (λHx hQ s' Is=>⟨rfl,.ref _,Hx,Is,rfl,hQ⟩) q
 rcases hq with hq|hq
 ·obtain⟨its,rv,pl,hz⟩:=I1.list (same.seq hq);have hp:p≠s.heap.objs.size:=λz=>by
   obtain⟨o,m,e,c,_⟩:=pl;rw[z,hd1] at e;cases e;exact absurd (show Value.type "dict"=Value.type "list" from c) (by decide)
  obtain⟨o,m,e,c,dn,dt⟩:=id pl;refine Zaa (wpAny_typeOf (show Shared.TypeIs _ (.ref p) "list" from⟨_,e,c⟩) ?_);rw[Zaf (by decide)]
  refine Zaa (sJ e c dt dn yz (by decide +kernel) hh λh2 tk hk=>?_)
  rw[Zaf (show(none:Option Value).isNone=true from rfl)];refine Zaa (wpAny_rule (Zaa (wpAny_pyIter_list ((pl.keeps hk).isList) ?_)));refine Zae ⟨plainId_quiet cM _,fin h2 tk _ _ its hk rv (Walks.list (A:=X.A.in1.in1) hh _ p (ZaG (pl.keeps hk).lt) its.toArray) ⟨⟨_,Zaq _ rfl,rfl,rfl⟩,(pl.keeps λb ob eb=>Zah _ (hk b ob eb)).isList⟩ hp (λb z=>nomatch z)⟩
 ·obtain⟨_,its,rv,tn⟩:=(show dW X.prog X.w _ _ p (.tup ys) from I1.hok p _ (same _ _ hq));have hp:p≠s.heap.objs.size:=λz=>by
   obtain⟨⟨o,e,c,_⟩,_⟩:=tn;rw[z,hd1] at e;cases e;exact absurd (show Value.type "dict"=Value.type "tuple" from c) (by decide)
  obtain⟨⟨o,e,c,m,dt⟩,dn⟩:=id tn;refine Zaa (wpAny_typeOf (show Shared.TypeIs _ (.ref p) "tuple" from⟨_,e,c⟩) ?_);rw[Zaf (by decide)]
  refine Zaa (qT e c dt (dn o e) wO (by decide +kernel) hh λh2 tk hk=>?_)
  rw[Zaf (show(none:Option Value).isNone=true from rfl)];have tp:({ s with heap:=h2,toks:=tk }:Shared).heap.IsTuple p its.toArray:=⟨o,hk _ _ e,c,m,dt⟩;refine Zaa (wpAny_rule (Zaa (wpAny_pyIter_tuple tp ?_)));refine Zae ⟨plainId_quiet cM _,fin h2 tk _ _ its hk rv (Walks.tuple (A:=X.A.in1.in1) hh _ p (ZaG (Zao (hk _ _ e))) its.toArray) ⟨⟨_,Zaq _ rfl,rfl,rfl⟩,⟨o,Zah _ (hk _ _ e),c,m,dt⟩⟩ hp (λb z=>nomatch z)⟩
end
section
variable{κ:Type}[DecidableEq κ]
def dg:List (κ×PV)->κ->Option PV
 |[],_=>none
 |(a,p)::l,k=>if a=k then some p else dg l k
def fK:List (κ×PV)->κ->PV->List (κ×PV)
 |[],k,p=>[(k,p)]
 |(a,q)::l,k,p=>if a=k then(a,p)::(if(l.any λe=>decide (e.1=k))=true then fK l k p else l) else(a,q)::fK l k p
inductive gQ(K:Frag)(F:Hp):List (κ×V)->List (κ×PV)->Prop
 |nil:gQ K F [] []
 |cons {k:κ}{v:V}{p:PV}{xs:List (κ×V)}{l:List (κ×PV)} (h:Rep K F v p) (t:gQ K F xs l):gQ K F ((k,v)::xs) ((k,p)::l)
variable{K:Frag}{F:Hp}{xs:List (κ×V)}{l:List (κ×PV)}{k:κ}
theorem gQ.of:∀ {xs:List (κ×V)}{l:List (κ×PV)},xs.map (·.1)=l.map (·.1)->(∀ (j:Nat) x p,xs[j]?=some x->l[j]?=some p->Rep K F x.2 p.2)->gQ K F xs l
 |[],[],_,_=>.nil
 |[],_::_,h,_=>by simp at h
 |_::_,[],h,_=>by simp at h
 |(a,v)::xs,(b,p)::l,h,hr=>by
  simp only[Zap,ZbG] at h;obtain⟨h1,h2⟩:=h;have h1:a=b:=h1;subst h1;exact .cons (hr 0 _ _ rfl rfl) (gQ.of h2 λj x p e1 e2=>hr (j+1) x p (by simpa using e1) (by simpa using e2))
theorem gQ.keys(h:gQ K F xs l):xs.map (·.1)=l.map (·.1):=by
 induction h with
 |nil=>rfl
 |cons h t ih=>simp[ih]
theorem gQ.len(h:gQ K F xs l):xs.length=l.length:=by
 have:=Zbg List.length h.keys;simpa using this
theorem gQ.at(h:gQ K F xs l):∀ (j:Nat) x p,xs[j]?=some x->l[j]?=some p->Rep K F x.2 p.2:=by
 induction h with
 |nil=>intro j x p e;simp at e
 |cons h t ih=>
  intro j x p e1 e2;cases j with
  |zero=>simp at e1 e2;subst e1 e2;exact h
  |succ j=>exact ih j x p (by simpa using e1) (by simpa using e2)
theorem gQ.none(h:gQ K F xs l)(e:dg l k=none):jC xs k=none:=by
 induction h with
 |nil=>rfl
 |@cons a v p xs l h t ih=>
  unfold dg at e;split at e
  ·cases e
  ·rename_i hk;rw[kj hk];exact ih e
theorem gQ.some{p:PV}(h:gQ K F xs l)(e:dg l k=some p):∃ v,jC xs k=some v/\Rep K F v p:=by
 induction h with
 |nil=>cases e
 |@cons a v q xs l h t ih=>
  unfold dg at e;split at e
  ·rename_i hk;cases e;exact⟨v,pI hk,h⟩
  ·rename_i hk;obtain⟨w,h1,h2⟩:=ih e;exact⟨w,by rw[kj hk];exact h1,h2⟩
theorem gQ.any(h:gQ K F xs l):(xs.any λe=>decide (e.1=k))=l.any λe=>decide (e.1=k):=by
 induction h with
 |nil=>rfl
 |cons h t ih=>simp only[ZbZ,ih]
theorem gQ.repl{v:V}{p:PV}(h:gQ K F xs l)(r:Rep K F v p):(l.any λe=>decide (e.1=k))=true->gQ K F (xs.map λkv=>if kv.1=k then(kv.1,v) else kv) (fK l k p):=by
 induction h with
 |nil=>intro z;cases z
 |@cons a w q xs l h t ih=>
  intro z;unfold fK;rw[Zap];by_cases hk:a=k
  ·rw[Zaf hk,Zaf hk];refine .cons r ?_;by_cases hl:(l.any λe=>decide (e.1=k))=true
   ·rw[Zaf hl];exact ih hl
   ·rw[Zad hl];have hx:∀ e∈xs,¬e.1=k:=λe he z=>hl (by rw[<-t.any];exact List.any_eq_true.mpr ⟨e,he,by simpa using z⟩)
    rw[show xs.map (λkv=>if kv.1=k then(kv.1,v) else kv)=xs from by
     conv=>rhs;rw[<-List.map_id xs]
     exact Za0 λe he=>by rw[Zad (hx e he)];rfl]
    exact t
  ·rw[Zad hk,Zad hk];refine .cons h (ih ?_);rw[ZbZ] at z;simpa[hk] using z
theorem gQ.snoc{v:V}{p:PV}(h:gQ K F xs l)(r:Rep K F v p):(l.any λe=>decide (e.1=k))=false->gQ K F (xs++[(k,v)]) (fK l k p):=by
 induction h with
 |nil=>intro _;exact .cons r .nil
 |@cons a w q xs l h t ih=>
  intro z;rw[ZbZ,Bool.or_eq_false_iff] at z;have hk:¬a=k:=by simpa using z.1
  unfold fK;rw[Zad hk];exact .cons h (ih z.2)
theorem gQ.put{v:V}{p:PV}(h:gQ K F xs l)(r:Rep K F v p):gQ K F (putK xs k v) (fK l k p):=by
 unfold putK;by_cases z:(xs.any λe=>decide (e.1=k))=true
 ·rw[Zaf z];exact h.repl r (by rw[<-h.any];exact z)
 ·rw[Zad z];exact h.snoc r (by rw[<-h.any];exact Bool.not_eq_true _▸z)
end
def yC:PV->Option Key
 |.int i=>some (.inl i)
 |.str x=>some (.inr x)
 |_=>none
def dD:List PV->Option (List Key)
 |[]=>some []
 |p::l=>match yC p,dD l with
  |some k,some ks=>some (k::ks)
  |_,_=>none
def Ye:Key->PV
 |.inl i=>.int i
 |.inr x=>.str x
theorem yD{K:Frag}{F:Hp}{p:PV}{k:Key}{v:V}(h:yC p=some k)(r:Rep K F v p):v=kV k:=by
 cases p with
 |int i=>cases h;cases Rep.bD r;rfl
 |str x=>cases h;cases Rep.b8 r;rfl
 |_=>cases h
theorem jZ{K:Frag}{F:Hp}:∀ {l:List PV}{ks:List Key}{xs:List V},dD l=some ks->bK K F xs l->xs=ks.map kV
 |[],ks,xs,h,r=>by cases h;exact r.ji
 |p::l,ks,xs,h,r=>by
  unfold dD at h;split at h
  ·rename_i k ks' h1 h2;cases h;obtain⟨v,ys,rfl,r1,r2⟩:=r.dJ;rw[yD h1 r1,jZ h2 r2];rfl
  ·cases h
def PV.isD:PV->Bool
 |.dk _=>true
 |.dt _=>true
 |_=>false
def DLk(K:Frag)(F H:Hp)(a:Addr):PV->Prop
 |.dk l=>∃ xs,Rd H a (.dK xs)/\xs.map (·.1)=l.map (·.1)/\∀ (j:Nat) x p,xs[j]?=some x->l[j]?=some p->Rep K F x.2 p.2
 |.dt l=>∃ xs,Rd H a (.dT xs)/\xs.map (·.1)=l.map (·.1)/\∀ (j:Nat) x p,xs[j]?=some x->l[j]?=some p->Rep K F x.2 p.2
 |_=>False
theorem DLk.up{K:Frag}{F H F' H':Hp}{a:Addr}{p:PV}(o:DLk K F H a p)(sf:aU F F')(sh:aU H H'):DLk K F' H' a p:=by
 cases p with
 |dk l=>obtain⟨xs,e,r,q⟩:=o;exact⟨xs,e.same sh,r,λj x p a b=>(q j x p a b).up sf⟩
 |dt l=>obtain⟨xs,e,r,q⟩:=o;exact⟨xs,e.same sh,r,λj x p a b=>(q j x p a b).up sf⟩
 |_=>exact o.elim
theorem Own.look{K:Frag}{F H:Hp}{a:Addr}{p:PV}(o:Own K F H a p)(d:p.isD=true):DLk K F H a p:=by
 cases p with
 |dk l=>obtain⟨xs,e,r⟩:=o;exact⟨xs,.inl e,r⟩
 |dt l=>obtain⟨xs,e,r⟩:=o;exact⟨xs,.inl e,r⟩
 |_=>cases d
def aD(K:Frag):Rel PV:=λF H v p=>p.isD=true/\∃ a,v=.ref a/\DLk K F H a p
theorem aD.up{K:Frag}:UpM (aD K):=λ_ _ _ _ _ _ u ⟨h1,b,e,o⟩=>⟨h1,b,e,o.up u.ff u.hh⟩
def asD(p:PV):Option (Res PV):=if p.isD=true then some (.ok p) else none
theorem Rep.own{K:Frag}{F H:Hp}{v:V}{p:PV}(r:Rep K F v p)(s:aU F H)(d:p.isD=true):∃ a,v=.ref a/\DLk K F H a p:=by
 cases r with
 |dk h hl hr=>exact⟨_,rfl,_,h.same s,hl,hr⟩
 |dt h hl hr=>exact⟨_,rfl,_,h.same s,hl,hr⟩
 |_=>cases d
section
variable{K:Frag}{C:Cg}{ta tb te:TE}{f g h:Fn PV}
def Dq(f:Fn PV):Fn PV:=λρ=>bnd (f ρ) asD
def fu(i:Nat):Fn PV:=λρ=>bnd (mVL i ρ) asD
theorem Qg(h:MJ K C (aF K) ta f):MJ K C (aD K) ta (Dq f):=by
 intro F H σ ρ Q r R e P;refine h.run R e P λp v F1 H1 hk u a=>?_;unfold asD at hk;split at hk
 ·rename_i hd;cases hk;exact P v F1 H1 u ⟨hd,Rep.own a u.fh hd⟩
 ·cases hk
theorem eY(i:Nat):MJ K C (aD K) (m5 i) (fu i):=by
 intro F H σ ρ Q r R e P;unfold fu at e;rcases bM e with⟨z,e1,rfl⟩|⟨p,e1,hk⟩
 ·unfold mVL at e1;split at e1<;>cases e1
 ·unfold asD at hk;split at hk
  case isFalse=>cases hk
  rename_i hd;cases hk;unfold mVL at e1;split at e1
  ·rename_i q hq;cases e1;obtain⟨v,e2,e3⟩:=R.sh i _ hq;exact⟨v,e2,P v F H (Up.refl R.rb.sub) ⟨hd,Rep.own e3 R.rb.sub hd⟩⟩
  ·rename_i q hq;cases e1;obtain⟨a,e2,e3,_⟩:=R.ow i _ hq;exact⟨_,e2,P _ F H (Up.refl R.rb.sub) ⟨hd,a,rfl,e3.look hd⟩⟩
  ·cases e1
def gm:PV->PV->Option (Option PV)
 |.dk l,k=>(yC k).map (dg l)
 |.dt l,.tup ks=>(dD ks).map (dg l)
 |_,_=>none
theorem uq{F H:Hp}{a:Addr}{d k:PV}{y:V}{r:Option PV}(s:aU F H)(o:DLk K F H a d)(ry:Rep K F y k)(e:gm d k=some r) :
  ∃ o,t7 H a y o/\(r=none->o=none)/\∀ p,r=some p->∃ v,o=some v/\Rep K F v p:=by
 have inv:(∃ l,d=.dk l)\/∃ l ks,d=.dt l/\k=.tup ks:=by
  clear o ry
  cases d<;>first|exact noS e|exact .inl ⟨_,rfl⟩|(cases k<;>first|exact noS e|exact .inr ⟨_,_,rfl,rfl⟩)
 rcases inv with⟨l,rfl⟩|⟨l,ks,rfl,rfl⟩
 ·obtain⟨xs,h1,h2,h3⟩:=o;have D:=gQ.of (K:=K) (F:=F) h2 h3;have e:(yC k).map (dg l)=some r:=e;cases hk:yC k with
  |none=>rw[hk] at e;cases e
  |some k'=>
   rw[hk] at e;cases e;cases yD hk ry;exact⟨_,.inl ⟨_,_,h1,rfl,rfl⟩,λn=>D.none n,λp q=>D.some q⟩
 ·obtain⟨xs,h1,h2,h3⟩:=o;have D:=gQ.of (K:=K) (F:=F) h2 h3;have e:(dD ks).map (dg l)=some r:=e;cases hk:dD ks with
  |none=>rw[hk] at e;cases e
  |some k'=>
   rw[hk] at e;cases e;obtain⟨b,ys,rfl,hb,rr⟩:=Rep.ue ry;cases jZ hk rr;exact⟨_,.inr ⟨_,_,_,h1,rfl,s _ _ hb,rfl⟩,λn=>D.none n,λp q=>D.some q⟩
def mX(d k:PV):Option (Res PV):=match gm d k with
 |some (some p)=>some (.ok p)
 |_=>none
def Vl:R2:=λx y H Q=>∃ a v,x=.ref a/\t7 H a y (some v)/\Q v H
theorem Wm:R2M C (aD K) (aF K) (aF K) Vl mX:=by
 intro F H x y a b res Q s ha hb e P;obtain⟨_,ad,rfl,o⟩:=ha;unfold mX at e;split at e
 ·rename_i p hp;cases e;obtain⟨ov,g,_,g2⟩:=uq s o hb hp;obtain⟨v,rfl,rv⟩:=g2 p rfl;exact⟨ad,v,rfl,g,P v F H (Up.refl s) rv⟩
 ·cases e
def Bg(k d:PV):Option (Res PV):=(gm d k).map λr=>.ok (.bl r.isSome)
def nj(k d:PV):Option (Res PV):=(gm d k).map λr=>.ok (.bl (!r.isSome))
theorem Vm:R2M C (aF K) (aD K) (aF K) (λy x H Q=>∃ a o,x=.ref a/\t7 H a y o/\Q (.bl o.isSome) H) Bg:=by
 intro F H x y a b res Q s ha hb e P;obtain⟨_,ad,rfl,o⟩:=hb;unfold Bg at e;cases hp:gm b a with
 |none=>rw[hp] at e;cases e
 |some r=>
  rw[hp] at e;cases e;obtain⟨ov,g,g1,g2⟩:=uq s o ha hp;have es:ov.isSome=r.isSome:=by
   cases r with
   |none=>rw[g1 rfl];rfl
   |some p=>obtain⟨v,rfl,_⟩:=g2 p rfl;rfl
  exact⟨ad,ov,rfl,g,by rw[es];exact P _ F H (Up.refl s) .bl⟩
theorem Gy:R2M C (aF K) (aD K) (aF K) (λy x H Q=>∃ a o,x=.ref a/\t7 H a y o/\Q (.bl (!o.isSome)) H) nj:=by
 intro F H x y a b res Q s ha hb e P;obtain⟨_,ad,rfl,o⟩:=hb;unfold nj at e;cases hp:gm b a with
 |none=>rw[hp] at e;cases e
 |some r=>
  rw[hp] at e;cases e;obtain⟨ov,g,g1,g2⟩:=uq s o ha hp;have es:ov.isSome=r.isSome:=by
   cases r with
   |none=>rw[g1 rfl];rfl
   |some p=>obtain⟨v,rfl,_⟩:=g2 p rfl;rfl
  exact⟨ad,ov,rfl,g,by rw[es];exact P _ F H (Up.refl s) .bl⟩
theorem DLk.isD{F H:Hp}{a:Addr}{p:PV}(o:DLk K F H a p)(d:p.isD=true):IsD H a:=by
 cases p with
 |dk l=>obtain⟨xs,e,_⟩:=o;exact .inl ⟨xs,e⟩
 |dt l=>obtain⟨xs,e,_⟩:=o;exact .inr ⟨xs,e⟩
 |_=>cases d
def Dr(f g:Fn PV):Fn PV:=λρ=>bnd (f ρ) λd=>bnd (g ρ) λk=>(gm d k).map λr=>.ok (r.getD .non)
theorem Qh(ha:MJ K C (aD K) ta f)(hb:MJ K C (aF K) tb g):MJ K C (aF K) (Jy ta tb) (Dr f g):=by
 intro F H σ ρ Q r R e P;refine ha.run R e P ?_;rintro d v F1 H1 hk u ⟨hd,a,ea,o⟩;subst ea;refine⟨a,rfl,o.isD hd,?_⟩;refine hb.run (R.up u) hk (P.later u) λk w F2 H2 hk2 u2 b=>?_;cases hp:gm d k with
 |none=>rw[hp] at hk2;cases hk2
 |some q=>
  rw[hp] at hk2;cases hk2;obtain⟨ov,g,g1,g2⟩:=uq u2.fh (o.up u2.ff u2.hh) b hp;refine⟨ov,g,P _ F2 H2 (u.trans u2) ?_⟩;cases q with
  |none=>rw[g1 rfl];exact .non
  |some p=>obtain⟨v,rfl,rv⟩:=g2 p rfl;exact rv
def Gz:PV->PV->PV->Option PV
 |.dk l,k,p=>match yC k with
  |some k=>if l.length<sizeLine then some (.dk (fK l k p)) else none
  |none=>none
 |.dt l,.tup ks,p=>match dD ks with
  |some k=>if l.length<sizeLine then some (.dt (fK l k p)) else none
  |none=>none
 |_,_,_=>none
theorem Ds{F H:Hp}{a:Addr}{d k p d':PV}{y v:V}(s:aU F H)(o:Own K F H a d)(ry:Rep K F y k)(rv:Rep K F v p)(e:Gz d k p=some d') :
  ∃ ob,t8 H a y v (upd H a ob)/\Own K F (upd H a ob) a d':=by
 have inv:(∃ l,d=.dk l)\/∃ l ks,d=.dt l/\k=.tup ks:=by
  clear o ry rv
  cases d<;>first|exact noS e|exact .inl ⟨_,rfl⟩|(cases k<;>first|exact noS e|exact .inr ⟨_,_,rfl,rfl⟩)
 rcases inv with⟨l,rfl⟩|⟨l,ks,rfl,rfl⟩
 ·obtain⟨xs,h1,h2,h3⟩:=o;have D:=gQ.of (K:=K) (F:=F) h2 h3;have e:(match yC k with|some k=>if l.length<sizeLine then some (PV.dk (fK l k p)) else none|none=>none)=some d':=e
  split at e
  case h_2=>cases e
  rename_i k' hk;split at e
  case isFalse=>cases e
  rename_i hz;cases e;cases yD hk ry;have D':=D.put (k:=k') rv;exact⟨_,t8.k h1 (by rw[D.len];exact hz),_,aN,D'.keys,D'.at⟩
 ·obtain⟨xs,h1,h2,h3⟩:=o;have D:=gQ.of (K:=K) (F:=F) h2 h3;have e:(match dD ks with|some k=>if l.length<sizeLine then some (PV.dt (fK l k p)) else none|none=>none)=some d':=e
  split at e
  case h_2=>cases e
  rename_i k' hk;split at e
  case isFalse=>cases e
  rename_i hz;cases e;obtain⟨b,ys,rfl,hb,rr⟩:=Rep.ue ry;cases jZ hk rr;have D':=D.put (k:=k') rv;exact⟨_,t8.t h1 (s _ _ hb) (by rw[D.len];exact hz),_,aN,D'.keys,D'.at⟩
def ur(i:Nat)(fe fk:Fn PV):Sn:=λρ=>gw (fe ρ) λp=>match ownAt i ρ with
 |some d=>gw (fk ρ) λk=>match Gz d k p with
  |some d'=>some (.nx (ρ.set i (some (.ow d'))))
  |none=>none
 |none=>none
theorem Dt{i:Nat}{fe fk:Fn PV}(he:MJ K C (aF K) te fe)(hk:MJ K C (aF K) tb fk):MS K C (O4 (m5 i) tb te) (ur i fe fk):=by
 intro F H σ ρ D o R e P;refine he.rZ R e P λp v F1 H1 hk1 u a=>?_;split at hk1
 case h_2=>cases hk1
 rename_i d hd;obtain⟨b,g1,_⟩:=R.ow i _ (bL hd);refine⟨_,g1,hk.rZ (R.up u) hk1 (P.up u.ff) λk w F2 H2 hk2 u2 rk=>?_⟩;split at hk2
 case h_2=>cases hk2
 rename_i d' hd';cases hk2;have R2:=R.up (u.trans u2);obtain⟨a',k1,k2,_⟩:=R2.ow i _ (bL hd);rw[g1] at k1;cases k1;obtain⟨ob,g,w'⟩:=Ds u2.fh k2 rk (Rep.up a u2.ff) hd';exact⟨b,_,rfl,g,P F2 _ σ (u.trans u2).ff (R2.write (bL hd) g1 w')⟩
def wC:Fn PV:=λ_=>some (.ok (.dt []))
theorem qN:MO K C O6 wC:=by
 intro F H σ ρ Q r R e P;cases e;intro p hp;exact P p F _ (Up.JB R.rb.sub hp) hp (R.rb.sub.free hp) ⟨[],aN,rfl,λj x p h=>by simp at h⟩
def asPair:PV->Option (PV×PV)
 |.tup [a,b]=>some (a,b)
 |_=>none
def nZ:List PV->Option (List (PV×PV))
 |[]=>some []
 |p::l=>match asPair p,nZ l with
  |some a,some r=>some (a::r)
  |_,_=>none
def jj(d:PV):List (PV×PV)->Option PV
 |[]=>some d
 |(k,p)::r=>match Gz d k p with
  |some d'=>jj d' r
  |none=>none
theorem yE{F H:Hp}(s:aU F H):∀ {l:List PV}{ps:List (PV×PV)}{xs:List V},nZ l=some ps->bK K F xs l ->
  ∃ vs:List (V×V),CW K H xs vs/\vs.length=ps.length/\∀ (j:Nat) x p,vs[j]?=some x->ps[j]?=some p->Rep K F x.1 p.1/\Rep K F x.2 p.2
 |[],ps,xs,h,r=>by
  cases h;cases r.ji;exact⟨[],⟨rfl,λj x p e=>by simp at e⟩,rfl,λj x p e=>by simp at e⟩
 |p::l,ps,xs,h,r=>by
  unfold nZ at h;split at h
  ·rename_i a r' h1 h2;cases h;obtain⟨v,ys,rfl,r1,r2⟩:=r.dJ;obtain⟨vs,g1,g2,g3⟩:=yE s h2 r2;unfold asPair at h1;split at h1
   ·rename_i pa pb;cases h1;obtain⟨b,zs,rfl,hb,rr⟩:=Rep.cL r1;obtain⟨v1,zs1,rfl,q1,rr⟩:=rr.dJ;obtain⟨v2,zs2,rfl,q2,rr⟩:=rr.dJ;cases rr.ji;refine⟨(v1,v2)::vs,⟨by simp[g1.1],λj x p e1 e2=>?_⟩,by simp[g2],λj x p e1 e2=>?_⟩
    ·cases j with
     |zero=>simp at e1 e2;subst e1 e2;exact⟨b,rfl,s.tup hb⟩
     |succ j=>exact g1.2 j x p (by simpa using e1) (by simpa using e2)
    ·cases j with
     |zero=>simp at e1 e2;subst e1 e2;exact⟨q1,q2⟩
     |succ j=>exact g3 j x p (by simpa using e1) (by simpa using e2)
   ·cases h1
  ·cases h
theorem yF{F:Hp}{a:Addr}{Q:Hp->Prop}:∀ {ps:List (PV×PV)}{vs:List (V×V)}{H:Hp}{d d':PV},aU F H->F a=none->Own K F H a d->vs.length=ps.length->(∀ (j:Nat) x p,vs[j]?=some x->ps[j]?=some p->Rep K F x.1 p.1/\Rep K F x.2 p.2) ->
  jj d ps=some d'->(∀ H',aU F H'->(∀ b,b≠a->H' b=H b)->Own K F H' a d'->Q H')->Bf a vs H Q
 |[],vs,H,d,d',s,hn,o,hl,hr,e,q=>by
  cases vs with
  |nil=>cases e;exact q H s (λ_ _=>rfl) o
  |cons v vs=>simp at hl
 |(k,p)::ps,vs,H,d,d',s,hn,o,hl,hr,e,q=>by
  cases vs with
  |nil=>simp at hl
  |cons v vs=>
   unfold jj at e;split at e
   case h_2=>cases e
   rename_i d1 h1;obtain⟨r1,r2⟩:=hr 0 v (k,p) rfl rfl;obtain⟨ob,g,o1⟩:=Ds s o r1 r2 h1;refine⟨_,g,yF (H:=upd H a ob) (λb u z=>by rw[aG (bR z hn)];exact s b u z) hn o1 (by simpa using hl) (λj x p e1 e2=>hr (j+1) x p (by simpa using e1) (by simpa using e2)) e λH' s' hb o'=>?_⟩
   exact q H' s' (λb hb'=>(hb b hb').trans (aG hb')) o'
def ut(d:PV)(l:List PV):Option (Res PV):=match nZ l with
 |some ps=>(jj d ps).map .ok
 |none=>none
theorem Tt{n:HO}{d:PV}(hd:∀ F H a,H a=some n->Own K F H a d):R1O K C (aV K) (JM K n) (ut d):=by
 intro F H x l res Q s ha e P;obtain⟨b,xs,rfl,h1,r1⟩:=ha;unfold ut at e;split at e
 case h_2=>cases e
 rename_i ps hps;cases hd':jj d ps with
 |none=>rw[hd'] at e;cases e
 |some d'=>
  rw[hd'] at e;cases e;obtain⟨vs,g1,g2,g3⟩:=yE (H:=H) s hps r1;refine⟨b,xs,vs,rfl,.inl h1,g1,λa na=>?_⟩;refine yF (F:=F) (s.trans (dI na)) (s.free na) (hd _ _ _ aN) g2 g3 hd' λH' s' hb o'=>?_;exact P a F H' ⟨aU.refl _,λc o q=>by rw[hb c (bR q na),aG (bR q na)];exact q,λ_ _ q=>.inl q,s'⟩ na (s.free na) o'
theorem Tu{F H:Hp}{a:Addr}(h:H a=some (.dT [])):Own K F H a (.dt []):=⟨[],h,rfl,λj x p e=>by simp at e⟩
end
section
variable{K:Frag}{C:Cg}{ta tb:TE}{f g:Fn PV}
theorem uv(ha:MJ K C (aD K) ta f)(hb:MJ K C (aF K) tb g):MJ K C (aF K) (O3 ta tb) (m2 mX f g):=aq (r2:=Vl) aD.up Wm ha hb
end
section
variable{X:Cx}
theorem Qi{k:Nat}(hr:fW k X.A):OpR X (compareOp .In) (λy x H Q=>∃ a o,x=.ref a/\t7 H a y o/\Q (.bl o.isSome) H):=by
 intro pins s σ H x y v u Q I rx ry h;obtain⟨a,o,rfl,g,q⟩:=h;cases ry;exact YL (qZ hr) I g rx λs3 I3=>⟨.bl o.isSome,H,I3,rfl,q⟩
theorem Bh{k:Nat}(hr:fW k X.A):OpR X (compareOp .NotIn) (λy x H Q=>∃ a o,x=.ref a/\t7 H a y o/\Q (.bl (!o.isSome)) H):=by
 intro pins s σ H x y v u Q I rx ry h;obtain⟨a,o,rfl,g,q⟩:=h;cases ry;exact SQ (qZ hr) I g rx λs3 I3=>⟨.bl (!o.isSome),H,I3,rfl,q⟩
theorem JP{k:Nat}(hr:fW k X.A)(hc:X.calm=true):qY X (.type "dict") (JM X.K (.dT [])):=JN hc hr.units (.inr rfl)
end
section
variable{X:Cx}{k:Nat}{N:List Str}{scope:Scope}{cl:List (Str×Addr)}{C:Addr}{s2:Shared}{H2:Hp}{fp:List Addr}
theorem JQ(hr:fW k X.A):OpR (X.comp N scope cl C s2 H2 fp) (compareOp .NotIn) (λy x H Q=>∃ a o,x=.ref a/\t7 H a y o/\Q (.bl (!o.isSome)) H):=Bh hr
theorem pW{X:Cx}{k:Nat}{o i:Expr}{pos:Pos}{td ty:TE}(hr:fW k X.A)(ho:PE X o td)(hi:PE X i ty)(hs:V7 i):PE X (.Subscript o i pos) (O3 td ty):=S8 (qZ hr) ho hi hs
theorem Nf{X:Cx}{k:Nat}{o e:Expr}{apos cpos:Pos}{td ty:TE}(hr:fW k X.A)(ho:PE X o td)(he:PE X e ty)(m:M1 X o "get" apos e cpos):PE X (.Call (.Attribute o "get" apos) [e] [] cpos) (Jy td ty):=O8 (qZ hr) ho he m
end
section
def CR(a b c:Int):Prop:=0<=a/\a<2^30/\-(2^30)<=b/\b<2^30/\0<c/\c<2^30
noncomputable instance(a b c:Int):Decidable (CR a b c):=inferInstanceAs (Decidable (_/\_))
theorem vI{acc:Array Value}{n:Nat}(h:ItemsOf (λi v=>∃ t,v=.int (0+(i:Nat)*1) t) acc n):Vals ((List.range n).map λi=>V.int (i:Nat)) acc.toList:=by
 obtain⟨hs,hv⟩:=h;have go:∀ (l:List Value) (k:Nat),(∀ (i:Nat) v,l[i]?=some v->∃ t,v=Value.int (((k+i:Nat):Int)) t)->Vals ((List.range' k l.length).map λi=>V.int (i:Nat)) l:=by
  intro l;induction l with
  |nil=>intro k _;exact .nil
  |cons v l ih=>
   intro k h;rw[ZaF,List.range'_succ,Zap];obtain⟨t,e⟩:=h 0 v rfl;refine .cons ⟨t,by rw[e];rfl⟩ (ih (k+1) λi v hv=>?_)
   obtain⟨t,e⟩:=h (i+1) v (by simpa using hv)
   exact⟨t,by rw[e];congr 2;omega⟩
 have:=go acc.toList 0 λi v e=>by
  obtain⟨t,e2⟩:=hv i v (by simpa using e)
  exact⟨t,by rw[e2];congr 1;omega⟩
 rwa [ZaZ,hs,<-List.range_eq_range'] at this
end
def POk(K:Frag)(C:Cg)(F:Hp)(D:Ends)(i:Nat)(c:Option (Option V)):Out->Prop
 |.nx ρ=>∀ F' H' σ,aU F F'->RE K C.toCf F' H' σ ρ->σ[i]?=c->D.nx σ H'
 |.bk ρ=>∀ F' H' σ,aU F F'->RE K C.toCf F' H' σ ρ->σ[i]?=c->D.bk σ H'
 |.ct ρ=>∀ F' H' σ,aU F F'->RE K C.toCf F' H' σ ρ->σ[i]?=c->D.ct σ H'
 |o=>PO' K C F D o
def MSk(K:Frag)(C:Cg)(i:Nat)(t:TS)(f:Sn):Prop:=∀ F H σ ρ D o,RE K C.toCf F H σ ρ->f ρ=some o->POk K C F D i (σ[i]?) o->t D σ H
def MGk(K:Frag)(C:Cg)(i:Nat)(g:TG)(tg:PV->Rho->Option Rho):Prop:=
 ∀ F H σ ρ v p ρ' Q,RE K C.toCf F H σ ρ->Rep K F v p->tg p ρ=some ρ'->(∀ σ',RE K C.toCf F H σ' ρ'->σ'[i]?=σ[i]?->Q σ' H)->g v σ H Q
section
variable{K:Frag}{C:Cg}{i:Nat}{te:TE}{F H:Hp}{σ:St}{ρ:Rho}{D:Ends}{t u:TS}{f g:Sn}{o:Out}{c:Option (Option V)}
theorem POk.up{F1:Hp}(h:POk K C F D i c o)(s:aU F F1):POk K C F1 D i c o:=by
 cases o with
 |nx ρ=>exact λF' H' σ a=>h F' H' σ (s.trans a)
 |bk ρ=>exact λF' H' σ a=>h F' H' σ (s.trans a)
 |ct ρ=>exact λF' H' σ a=>h F' H' σ (s.trans a)
 |rt p=>exact λv F' H' a=>h v F' H' (s.trans a)
 |ro p=>exact λv F' H' a=>h v F' H' (s.trans a)
 |rd p=>exact λv F' H' S a=>h v F' H' S (s.trans a)
 |ex z=>exact PX.up h s
theorem uw(j:Nat)(h:j≠i):MGk K C i (xO j) (gN j):=λF H σ ρ v p ρ' Q R r e k=>by
 cases e;exact k _ (R.set j r) (Zar h)
theorem MT.Qj{tt:TT}{fe:Fn Bool}{Q:Bool->Hp->Prop}{k:Bool->Option Out}(h:MT K C tt fe)(R:RE K C.toCf F H σ ρ)(hb:gw (fe ρ) k=some o)(P:POk K C F D i c o)
  (go:∀ b F1 H1,k b=some o->Up F H F1 H1->Q b H1):tt σ H Q:=by
 rcases cZ hb with⟨z,e,rfl⟩|⟨p,e,hk⟩
 ·exact h F H σ ρ Q _ R e P
 ·exact h F H σ ρ Q _ R e λF1 H1 u=>go p F1 H1 hk u
theorem MJ.Qj{α:Type}{A:Rel α}{ta:TE}{fe:Fn α}{Q:VK}{k:α->Option Out}(h:MJ K C A ta fe)(R:RE K C.toCf F H σ ρ)(hb:gw (fe ρ) k=some o)(P:POk K C F D i c o)
  (go:∀ p v F1 H1,k p=some o->Up F H F1 H1->A F1 H1 v p->Q v H1):ta σ H Q:=by
 rcases cZ hb with⟨z,e,rfl⟩|⟨p,e,hk⟩
 ·exact h F H σ ρ Q _ R e P
 ·exact h F H σ ρ Q _ R e λv F1 H1 u a=>go p v F1 H1 hk u a
theorem xf{fe:Fn PV}{gt:TG}{tg:PV->Rho->Option Rho}(h:MJ K C (aF K) te fe)(hg:MGk K C i gt tg):MSk K C i (Mt te gt) (cF fe tg):=by
 intro F H σ ρ D o R e P;refine h.Qj R e P λp v F1 H1 hk u a=>?_;split at hk
 ·rename_i ρ' h1;cases hk;exact hg F1 H1 σ ρ v p ρ' _ (R.up u) a h1 λσ' R' k=>P F1 H1 σ' u.ff R' k
 ·cases hk
theorem ux(h1:MSk K C i t f)(h2:MSk K C i u g):MSk K C i (VG t u) (bf f g):=by
 intro F H σ ρ D o R e P;unfold bf at e;split at e
 ·rename_i ρ' h;refine h1 F H σ ρ _ _ R h ?_;exact λF' H' σ' s R' k=>h2 F' H' σ' ρ' D o R' e (by rw[k];exact P.up s)
 ·rename_i x hx;cases o with
  |nx ρ'=>exact absurd e (hx ρ')
  |bk ρ=>exact h1 F H σ _ _ _ R e P
  |ct ρ=>exact h1 F H σ _ _ _ R e P
  |rt p=>exact h1 F H σ _ _ _ R e P
  |ro p=>exact h1 F H σ _ _ _ R e P
  |rd p=>exact h1 F H σ _ _ _ R e P
  |ex z=>exact h1 F H σ _ _ _ R e P
end
def New(H F' H':Hp)(S:Addr->Prop):Prop:=∀ b,S b->H b=none/\F' b=none/\∃ o,H' b=some o/\∀ ys,o≠.tup ys
def MD(K:Frag)(C:Cg)(te:TE)(f:Fn PV):Prop:=
 ∀ F H σ ρ Q r,RE K C.toCf F H σ ρ->f ρ=some r->Pr C F (λp=>∀ v F' H' S,Up F H F' H'->Dp K F' H' S v p->New H F' H' S->Q v H') r->te σ H Q
def spD(K:Frag)(XR:Hp->Value->Option Addr->PV->Prop)(m:List PV->Option (Res PV)):Sp:=λvs H Q E=>∃ ps F r,aU F H/\bK K F vs ps/\m ps=some r/\match r with
 |.ok p=>∀ v F' H' S,Up F H F' H'->Dp K F' H' S v p->New H F' H' S->Q v H'
 |.ex z=>∀ e d F' H',Up F H F' H'->XR F' e d z->E e d H'
section
variable{K:Frag}{C:Cg}{te ta:TE}{F F1 F2 H H1 H2:Hp}{σ:St}{ρ:Rho}{D:Ends}{t u:TS}{f g:Sn}{o:Out}{S:Addr->Prop}{v:V}{p:PV}
theorem New.up(n:New H F1 H1 S)(u:Up F1 H1 F2 H2):New H F2 H2 S:=λb q=>by
 obtain⟨n0,n1,o,n2,n3⟩:=n b q;refine⟨n0,?_,o,u.hh _ _ n2,n3⟩;cases e:F2 b with
 |none=>rfl
 |some o'=>
  rcases u.fr b o' e with z|z|⟨ys,z⟩
  ·rw[n1] at z;cases z
  ·rw[n2] at z;cases z
  ·subst z;have w:=u.fh _ _ e;rw[u.hh _ _ n2] at w;cases w;exact absurd rfl (n3 ys)
theorem Dp.stay(d:Dp K F1 H1 S v p)(u:Up F1 H1 F2 H2):Dp K F2 H2 S v p:=d.up u.ff (λb o _ q=>u.hh b o q) λb ys q=>u.hh b _ q
def uy(F H:Hp)(S:Addr->Prop):Hp:=λb=>@ite _ (S b\/∃ ys,H b=some (.tup ys)) (Classical.propDecidable _) (H b) (F b)
theorem gH{b:Addr}(h:S b\/∃ ys,H b=some (.tup ys)):uy F H S b=H b:=@if_pos _ (Classical.propDecidable _) h _ _ _
theorem fL{b:Addr}(h:¬(S b\/∃ ys,H b=some (.tup ys))):uy F H S b=F b:=@if_neg _ (Classical.propDecidable _) h _ _ _
theorem g8(s:aU F H):aU F (uy F H S):=λb o e=>by
 by_cases h:S b\/∃ ys,H b=some (.tup ys)
 ·rw[gH h];exact s b o e
 ·rw[fL h];exact e
theorem pX(s:aU F H):aU (uy F H S) H:=λb o e=>by
 by_cases h:S b\/∃ ys,H b=some (.tup ys)
 ·rw[gH h] at e;exact e
 ·rw[fL h] at e;exact s b o e
theorem GC(d:Dp K F H S v p)(s:aU F H):Rep K (uy F H S) v p:=
 d.seen (g8 s) (λb o q e=>by rw[gH (.inl q)];exact e) λb ys e=>by rw[gH (.inr ⟨ys,e⟩)];exact e
theorem Tw(u:Up F H F1 H1)(n:New H F1 H1 S):Up F H (uy F1 H1 S) H1 where
 ff:=u.ff.trans (g8 u.fh)
 hh:=u.hh
 fr:=λb o e=>by
  by_cases h:S b\/∃ ys,H1 b=some (.tup ys)
  ·rw[gH h] at e;rcases h with h|⟨ys,h⟩
   ·exact .inr (.inl (n b h).1)
   ·rw[h] at e;cases e;exact .inr (.inr ⟨ys,rfl⟩)
  ·rw[fL h] at e;exact u.fr b o e
 fh:=pX u.fh
theorem Qk{fe:Fn PV}(h:MD K C te fe):MJ K C (aF K) te fe:=λF H σ ρ Q r R e P=>
 h F H σ ρ Q r R e (Pr.mono P (aU.refl _) λp q v F' H' S u d n=>q v _ H' (Tw u n) (GC d u.fh))
def GF(fe:Fn PV):Fn PV:=λρ=>bnd (fe ρ) λp=>match p with
 |.lst l=>if l.all PV.still=true then some (.ok (.lst l)) else none
 |_=>none
theorem Vn{fe:Fn PV}(h:MO K C te fe):MD K C te (GF fe):=by
 intro F H σ ρ Q r R e P;rcases bM e with⟨z,e1,rfl⟩|⟨p,e1,hk⟩
 ·exact h F H σ ρ Q _ R e1 P
 ·split at hk
  ·rename_i l;split at hk
   ·rename_i hl;cases hk;refine h F H σ ρ Q _ R e1 λa F' H' u n1 n2 w=>?_;obtain⟨xs,e2,e3⟩:=w;refine P _ F' H' (λb=>b=a) u ?_ ?_
    ·refine .lst (S:=λ_ _=>False) e2 rfl (λj b q=>q.elim) (λi j b q=>q.elim) e3.1 λj x p e4 e5=>.fr (e3.2 j x p e4 e5) ?_;exact ZaQ.mp hl p (Zag e5)
    ·rintro b rfl;exact⟨n1,n2,_,e2,λys q=>by cases q⟩
   ·cases hk
  ·cases hk
def yG(fe:Fn PV):Fn PV:=λρ=>bnd (fe ρ) λp=>if p.still=true then some (.ok p) else none
theorem GJ{fe:Fn PV}(h:MJ K C (aF K) te fe):MD K C te (yG fe):=by
 intro F H σ ρ Q r R e P;rcases bM e with⟨z,e1,rfl⟩|⟨p,e1,hk⟩
 ·exact h F H σ ρ Q _ R e1 P
 ·split at hk
  ·rename_i hp;cases hk;exact h F H σ ρ Q _ R e1 λv F' H' u w=>P v F' H' (λ_=>False) u (.fr w hp) λb q=>q.elim
  ·cases hk
theorem uz{t:TA}{fe:Fn (List PV)}{m:List PV->Option (Res PV)}(h:MA K C t fe):MD K C (xU (spD K C.XR m) [] C.E t) (bT m fe):=by
 intro F H σ ρ Q r R e P;refine h.run R e P λl xs F1 H1 hk u a=>?_;refine⟨l,F1,r,u.fh,by rw[Zbc];exact a,hk,?_⟩
 cases r with
 |ok p=>exact λv F' H' S u' d n=>P v F' H' S (u.trans u') d λb q=>⟨u.hh.free (n b q).1,(n b q).2⟩
 |ex z=>exact λe d F' H' u' x=>P e d F' H' (u.trans u').ff (R.rb.up (u.trans u')) x
def Dps(K:Frag)(F H:Hp)(S:Nat->Addr->Prop)(xs:List V)(l:List PV):Prop:=
 xs.length=l.length/\(∀ i j b,S i b->S j b->i=j)/\∀ (j:Nat) x p,xs[j]?=some x->l[j]?=some p->Dp K F H (S j) x p
def MDs(K:Frag)(C:Cg)(ta:TA)(f:Fn (List PV)):Prop:=
 ∀ F H σ ρ Q r,RE K C.toCf F H σ ρ->f ρ=some r->Pr C F (λl=>∀ xs F' H' S,Up F H F' H'->Dps K F' H' S xs l->New H F' H' (λb=>∃ j,S j b)->Q xs H') r->ta σ H Q
theorem Tz:MDs K C wL bF:=λF H σ ρ Q r R e P=>by
 cases e;exact P [] F H (λ_ _=>False) (Up.refl R.rb.sub) ⟨rfl,λ_ _ _ q=>q.elim,λj x p e=>by simp at e⟩ λb ⟨_,q⟩=>q.elim
theorem GK{fe:Fn PV}{fs:Fn (List PV)}{ts:TA}(h:MD K C te fe)(hs:MDs K C ts fs):MDs K C (j8 te ts) (aC fe fs):=by
 intro F H σ ρ Q r R e P;rcases bM e with⟨z,e1,rfl⟩|⟨p,e1,hk⟩
 ·exact h F H σ ρ _ _ R e1 P
 refine h F H σ ρ _ _ R e1 λv F1 H1 S u d n=>?_;rcases bM hk with⟨z,e2,rfl⟩|⟨l,e2,hk2⟩
 ·exact hs F1 H1 σ ρ _ _ (R.up u) e2 (PX.up P u.ff)
 refine hs F1 H1 σ ρ _ _ (R.up u) e2 λxs F2 H2 S2 u2 d2 n2=>?_;cases hk2;refine P (v::xs) F2 H2 (λj b=>match j with|0=>S b|j+1=>S2 j b) (u.trans u2) ⟨by simp[d2.1],λi j b a1 a2=>?_,λj x q a1 a2=>?_⟩ ?_
 ·match i,j,a1,a2 with
  |0,0,_,_=>rfl
  |0,j+1,a1,a2=>
   obtain⟨_,_,o,c1,_⟩:=n b a1;have c2:=(n2 b ⟨j,a2⟩).1;rw[c1] at c2;cases c2
  |i+1,0,a1,a2=>
   obtain⟨_,_,o,c1,_⟩:=n b a2;have c2:=(n2 b ⟨i,a1⟩).1;rw[c1] at c2;cases c2
  |i+1,j+1,a1,a2=>exact Zbg (·+1) (d2.2.1 i j b a1 a2)
 ·match j,a1,a2 with
  |0,a1,a2=>cases a1;cases a2;exact d.stay u2
  |j+1,a1,a2=>exact d2.2.2 j x q (by simpa using a1) (by simpa using a2)
 ·rintro b ⟨j,q⟩
  match j,q with
  |0,q=>exact(n.up u2) b q
  |j+1,q=>obtain⟨c1,c2⟩:=n2 b ⟨j,q⟩;exact⟨u.hh.free c1,c2⟩
theorem Wn{fs:Fn (List PV)}{ts:TA}(h:MDs K C ts fs):MD K C (R9 ts) (lJ fs):=by
 intro F H σ ρ Q r R e P;rcases bM e with⟨z,e1,rfl⟩|⟨l,e1,hk⟩
 ·exact h F H σ ρ _ _ R e1 P
 split at hk
 ·rename_i hl;cases hk;refine h F H σ ρ _ _ R e1 λxs F1 H1 S u d n=>⟨by rw[d.1];exact hl,λa ha=>?_⟩
  have sa:∀ b,(∃ j,S j b)->b≠a:=λb q e'=>by subst e';obtain⟨_,_,o,c,_⟩:=n b q;rw[ha] at c;cases c
  have u2:Up F1 H1 F1 (upd H1 a (.tup xs)):=⟨aU.refl _,dI ha,λ_ _ q=>.inl q,λb o q=>by rw[aG (λz=>by subst z;have:=u.fh _ _ q;rw[ha] at this;cases this)];exact u.fh b o q⟩
  exact P (.ref a) F1 _ (λb=>∃ j,S j b) (u.trans u2) (.tup aN (λj b q=>⟨j,q⟩) d.2.1 d.1 λj x p a1 a2=>(d.2.2 j x p a1 a2).stay u2) (n.up u2)
 ·cases hk
def uA(i:Nat)(ρ:Rho):Option PV:=match ρ[i]? with
 |some (some (.dp p))=>some p
 |_=>none
theorem dG{i:Nat}{p:PV}(h:uA i ρ=some p):ρ[i]?=some (some (.dp p)):=by
 unfold uA at h;split at h
 ·rename_i q hq;cases h;exact hq
 ·cases h
theorem RE.YS{C:Cf}(R:RE K C F H σ ρ)(i:Nat)(u:Up F H F1 H1)(d:Dp K F1 H1 S v p)(n:New H F1 H1 S)(nw:C.nw):RE K C F1 H1 (σ.set i (some v)) (ρ.set i (some (.dp p))) where
 rb:=R.rb.up u
 len:=by simp[R.len]
 sh:=λj q e=>by
  rcases get_set e with⟨e1,e2⟩|⟨e1,e2⟩
  ·cases e2
  ·obtain⟨w,e3,e4⟩:=(R.up u).sh j q e2;exact⟨w,by rw[Zar e1];exact e3,e4⟩
 ow:=λj q e=>by
  rcases get_set e with⟨e1,e2⟩|⟨e1,e2⟩
  ·cases e2
  ·obtain⟨w,e3,e4⟩:=(R.up u).ow j q e2;exact⟨w,by rw[Zar e1];exact e3,e4⟩
 dis:=λj k q q' b e e' f f'=>by
  rcases get_set e with⟨e1,e2⟩|⟨e1,e2⟩
  ·cases e2
  ·rcases get_set e' with⟨e1',e2'⟩|⟨e1',e2'⟩
   ·cases e2'
   ·rw[Zar e1] at f;rw[Zar e1'] at f';exact R.dis j k q q' b e2 e2' f f'
 dd:=by
  obtain⟨P,d0⟩:=R.dd;have d1:=d0.up u;refine⟨λj b=>if j=i then S b else P j b,λj b q=>?_,λj k b a1 a2=>?_,λj k q b z e f=>?_,λj q e=>?_⟩
  ·by_cases hj:j=i
   ·simp only[hj,ZbJ] at q;obtain⟨c1,c2,c3⟩:=n b q;exact⟨c2,c3,nw,R.rb.uf c1⟩
   ·simp only[hj,Zbh] at q;exact d1.own j b q
  ·by_cases hj:j=i<;>by_cases hk:k=i
   ·rw[hj,hk]
   ·simp only[hj,hk,ZbJ,Zbh] at a1 a2;obtain⟨_,⟨o,c,_⟩,_⟩:=d0.own k b a2;rw[(n b a1).1] at c;cases c
   ·simp only[hj,hk,ZbJ,Zbh] at a1 a2;obtain⟨_,⟨o,c,_⟩,_⟩:=d0.own j b a1;rw[(n b a2).1] at c;cases c
   ·simp only[hj,hk,Zbh] at a1 a2;exact d0.dis j k b a1 a2
  ·rcases get_set e with⟨e1,e2⟩|⟨e1,e2⟩
   ·cases e2
   ·rw[Zar e1] at f;by_cases hj:j=i
    ·simp only[hj,ZbJ] at z;exact R.apart (n b z).1 k q e2 f
    ·simp only[hj,Zbh] at z;exact d0.ow j k q b z e2 f
  ·rcases get_set e with⟨e1,e2⟩|⟨e1,e2⟩
   ·subst e1;cases e2;have:=cU e;refine⟨v,by rw[Za2 (by rw[R.len];simpa using this)],?_⟩
    simp only[ZbJ];exact d
   ·obtain⟨w,e3,e4⟩:=d1.dp j q e2;refine⟨w,by rw[Zar e1];exact e3,?_⟩
    simp only[Zbr e1,Zbh];exact e4
def wD(i:Nat)(fe:Fn PV):Sn:=λρ=>gw (fe ρ) λp=>some (.nx (ρ.set i (some (.dp p))))
theorem uB{i:Nat}{fe:Fn PV}(nw:C.nw)(h:MD K C te fe):MS K C (Mt te (xO i)) (wD i fe):=by
 intro F H σ ρ D o R e P;rcases cZ e with⟨z,e1,rfl⟩|⟨p,e1,hk⟩
 ·exact h F H σ ρ _ _ R e1 P
 ·cases hk;exact h F H σ ρ _ _ R e1 λv F1 H1 S u d n=>P F1 H1 _ u.ff (R.YS i u d n nw)
theorem RE.Ql{C:Cf}(R:RE K C F H σ ρ){i:Nat}(e:ρ[i]?=some (some (.dp p))):∃ S v,σ[i]?=some (some v)/\Dp K F H S v p/\(∀ b,S b->F b=none/\(∃ o,H b=some o/\∀ ys,o≠.tup ys)/\C.H0 b=none)/\RE K C (uy F H S) H σ (ρ.set i (some (.sh p))):=by
 obtain⟨P,d⟩:=R.dd;obtain⟨v,e1,e2⟩:=d.dp i p e;have li:=cU e;have sf:aU F (uy F H (P i)):=g8 R.rb.sub;refine⟨P i,v,e1,e2,λb q=>⟨(d.own i b q).1,(d.own i b q).2.1,(d.own i b q).2.2.2⟩,⟨⟨pX R.rb.sub,R.rb.keep,λb o q=>?_,R.rb.ios⟩,by simp[R.len],λj q f=>?_,λj q f=>?_,λj k q q' b f f' g g'=>?_,?_⟩⟩
 ·by_cases h:P i b\/∃ ys,H b=some (.tup ys)
  ·rw[gH h] at q;rcases h with h|⟨ys,h⟩
   ·exact .inr (.inl (d.own i b h).2.2.2)
   ·rw[h] at q;cases q;exact .inr (.inr ⟨ys,rfl⟩)
  ·rw[fL h] at q;exact R.rb.new b o q
 ·rcases get_set f with⟨f1,f2⟩|⟨f1,f2⟩
  ·subst f1;cases f2;exact⟨v,e1,GC e2 R.rb.sub⟩
  ·obtain⟨w,g1,g2⟩:=R.sh j q f2;exact⟨w,g1,g2.up sf⟩
 ·rcases get_set f with⟨f1,f2⟩|⟨f1,f2⟩
  ·cases f2
  ·obtain⟨b,g1,g2,g3,g4⟩:=R.ow j q f2;refine⟨b,g1,g2.up sf λ_ z=>z,?_,g4⟩;rw[fL]
   ·exact g3
   ·rintro(z|⟨ys,z⟩)
    ·exact d.ow i j q b z f2 g1
    ·exact g2.ww z
 ·rcases get_set f with⟨f1,f2⟩|⟨f1,f2⟩
  ·cases f2
  ·rcases get_set f' with⟨f1',f2'⟩|⟨f1',f2'⟩
   ·cases f2'
   ·exact R.dis j k q q' b f2 f2' g g'
 ·refine⟨λj b=>j≠i/\P j b,λj b z=>?_,λj k b a1 a2=>d.dis j k b a1.2 a2.2,λj k q b z f g=>?_,λj q f=>?_⟩
  ·obtain⟨c1,c2,c3⟩:=d.own j b z.2;refine⟨?_,c2,c3⟩;rw[fL]
   ·exact c1
   ·rintro(y|⟨ys,y⟩)
    ·exact z.1 (d.dis j i b z.2 y)
    ·obtain⟨o,c4,c5⟩:=c2;rw[y] at c4;cases c4;exact c5 ys rfl
  ·rcases get_set f with⟨f1,f2⟩|⟨f1,f2⟩
   ·cases f2
   ·exact d.ow j k q b z.2 f2 g
  ·rcases get_set f with⟨f1,f2⟩|⟨f1,f2⟩
   ·cases f2
   ·obtain⟨w,g1,g2⟩:=d.dp j q f2;refine⟨w,g1,(g2.up sf (λ_ _ _ q=>q) λ_ _ q=>q).mono λb z=>⟨Zbr f1,z⟩⟩
def Ng(i:Nat)(fe:Fn Bool):Fn Bool:=λρ=>match uA i ρ with
 |some p=>fe (ρ.set i (some (.sh p)))
 |none=>none
theorem Yg{i:Nat}{tt:TT}{fe:Fn Bool}(h:MT K C tt fe):MT K C tt (Ng i fe):=by
 intro F H σ ρ Q r R e P;unfold Ng at e;split at e
 ·rename_i p hp;obtain⟨S,v,_,_,_,R'⟩:=R.Ql (dG hp);have sf:aU F (uy F H S):=g8 R.rb.sub;cases r with
  |ex z=>exact h _ H σ _ Q _ R' e (PX.up P sf)
  |ok b=>exact h _ H σ _ Q _ R' e λF1 H1 u=>P F H1 ⟨aU.refl _,u.hh,λ_ _ z=>.inl z,R.rb.sub.trans u.hh⟩
 ·cases e
def KY(fe:Fn PV):Sn:=λρ=>gw (fe ρ) λp=>some (.rd p)
theorem TF{fe:Fn PV}(h:MD K C te fe):MS K C (Jj te) (KY fe):=by
 intro F H σ ρ D o R e P;rcases cZ e with⟨z,e1,rfl⟩|⟨p,e1,hk⟩
 ·exact h F H σ ρ _ _ R e1 P
 ·cases hk;exact h F H σ ρ _ _ R e1 λv F1 H1 S u d n=>P v F1 H1 S u.ff (R.rb.up u) d λb q=>⟨(n b q).2.1,(n b q).2.2,R.rb.uf (n b q).1⟩
def vN(i:Nat):Sn:=λρ=>match uA i ρ with
 |some p=>some (.rd p)
 |none=>none
theorem Qm(i:Nat):MS K C (Jj (m5 i)) (vN i):=by
 intro F H σ ρ D o R e P;unfold vN at e;split at e
 ·rename_i p hp;cases e;obtain⟨S,v,e1,e2,e3,_⟩:=R.Ql (dG hp);exact⟨_,e1,P v F H S (aU.refl _) R.rb e2 e3⟩
 ·cases e
end
section
variable{K:Frag}{C:Cg}{F H:Hp}{σ:St}{ρ:Rho}{f g:Sn}{o:Out}{S:Addr->Prop}{v:V}{p:PV}
theorem Dp.cg{l:List PV}(d:Dp K F H S v (.lst l)):∃ (T:Nat->Addr->Prop) (a:Addr) (xs:List V),v=.ref a/\H a=some (.lst xs)/\S a/\(∀ j b,T j b->S b/\b≠a)/\Dps K F H T xs l:=by
 cases d with
 |fr h st=>cases st
 |lst h hp hs dj hl hr=>exact⟨_,_,_,rfl,h,hp,hs,hl,dj,hr⟩
theorem RE.Du{C:Cf}(R:RE K C F H σ ρ){P:Nat->Addr->Prop}(d:RD K C F H σ ρ P){i:Nat}(e:ρ[i]?=some (some (.dp p)))(e1:σ[i]?=some (some v)){a:Addr}{ob:HO}(ha:P i a)(ho:∀ ys,ob≠.tup ys){p':PV}{S':Addr->Prop}
  (hd:Dp K F (upd H a ob) S' v p')(hS:∀ b,S' b->P i b\/(F b=none/\(∃ o,H b=some o/\∀ ys,o≠.tup ys)/\C.nw/\C.H0 b=none/\(∀ j,¬P j b)/\∀ (j:Nat) q,ρ[j]?=some (some (.ow q))->σ[j]?≠some (some (.ref b)))) :
  RE K C F (upd H a ob) σ (ρ.set i (some (.dp p'))):=by
 obtain⟨c1,⟨oa,c2,c3⟩,c4,c5⟩:=d.own i a ha;have hio:¬C.io a:=λz=>(R.rb.ios a z).2 c5;refine⟨⟨λb o q=>by rw[aG (λz=>by subst z;rw[c1] at q;cases q)];exact R.rb.sub b o q,λb o q z=>by rw[aG (λy=>by subst y;rw[c5] at q;cases q)];exact R.rb.keep b o q z,R.rb.new,λb z=>?_⟩,by simp[R.len],λj q f=>?_,λj q f=>?_,λj k q q' b f f' g g'=>?_,?_⟩
 ·refine⟨?_,(R.rb.ios b z).2⟩;rw[aG (λy=>by subst y;exact hio z)];exact(R.rb.ios b z).1
 ·rcases get_set f with⟨f1,f2⟩|⟨f1,f2⟩
  ·cases f2
  ·exact R.sh j q f2
 ·rcases get_set f with⟨f1,f2⟩|⟨f1,f2⟩
  ·cases f2
  ·obtain⟨b,g1,g2,g3,g4⟩:=R.ow j q f2;have nb:b≠a:=λz=>by subst z;exact d.ow i j q b ha f2 g1
   refine⟨b,g1,?_,g3,g4⟩;cases q with
   |lst l=>obtain⟨xs,k1,k2⟩:=g2;exact⟨xs,by rw[aG nb];exact k1,k2⟩
   |dk l=>obtain⟨xs,k1,k2⟩:=g2;exact⟨xs,by rw[aG nb];exact k1,k2⟩
   |dt l=>obtain⟨xs,k1,k2⟩:=g2;exact⟨xs,by rw[aG nb];exact k1,k2⟩
   |_=>exact g2.elim
 ·rcases get_set f with⟨f1,f2⟩|⟨f1,f2⟩
  ·cases f2
  ·rcases get_set f' with⟨f1',f2'⟩|⟨f1',f2'⟩
   ·cases f2'
   ·exact R.dis j k q q' b f2 f2' g g'
 ·have up:∀ b o,H b=some o->(∀ ys,o≠.tup ys)->∃ o',upd H a ob b=some o'/\∀ ys,o'≠.tup ys:=λb o q z=>by
   by_cases h:b=a
   ·subst h;exact⟨ob,aN,ho⟩
   ·exact⟨o,by rw[aG h];exact q,z⟩
  refine⟨λj b=>if j=i then S' b else P j b,λj b z=>?_,λj k b a1 a2=>?_,λj k q b z f g=>?_,λj q f=>?_⟩
  ·by_cases hj:j=i
   ·simp only[hj,ZbJ] at z;rcases hS b z with w|⟨w1,⟨o,w2,w2'⟩,w3,w4,_⟩
    ·obtain⟨k1,⟨o,k2,k3⟩,k4⟩:=d.own i b w;exact⟨k1,up b o k2 k3,k4⟩
    ·exact⟨w1,up b o w2 w2',w3,w4⟩
   ·simp only[hj,Zbh] at z;obtain⟨k1,⟨o,k2,k3⟩,k4⟩:=d.own j b z;exact⟨k1,up b o k2 k3,k4⟩
  ·by_cases hj:j=i<;>by_cases hk:k=i
   ·rw[hj,hk]
   ·simp only[hj,hk,ZbJ,Zbh] at a1 a2;rcases hS b a1 with w|⟨_,_,_,_,w,_⟩
    ·rw[hj];exact d.dis i k b w a2
    ·exact absurd a2 (w k)
   ·simp only[hj,hk,ZbJ,Zbh] at a1 a2;rcases hS b a2 with w|⟨_,_,_,_,w,_⟩
    ·rw[hk];exact d.dis j i b a1 w
    ·exact absurd a1 (w j)
   ·simp only[hj,hk,Zbh] at a1 a2;exact d.dis j k b a1 a2
  ·rcases get_set f with⟨f1,f2⟩|⟨f1,f2⟩
   ·cases f2
   ·by_cases hj:j=i
    ·simp only[hj,ZbJ] at z;rcases hS b z with w|⟨_,_,_,_,_,w⟩
     ·exact d.ow i k q b w f2 g
     ·exact w k q f2 g
    ·simp only[hj,Zbh] at z;exact d.ow j k q b z f2 g
  ·rcases get_set f with⟨f1,f2⟩|⟨f1,f2⟩
   ·subst f1;cases f2;refine⟨v,e1,?_⟩;simp only[ZbJ];exact hd
   ·obtain⟨w,g1,g2⟩:=d.dp j q f2;refine⟨w,g1,?_⟩;simp only[Zbr f1,Zbh];refine g2.up (aU.refl _) (λb o z q=>?_) λb ys q=>?_
    ·rw[aG (λy=>by subst y;exact f1 (d.dis i j b ha z))];exact q
    ·rw[aG (λy=>by subst y;rw[c2] at q;cases q;exact c3 ys rfl)];exact q
end
section
variable{K:Frag}{C:Cg}{te tb:TE}{F F1 F2 H H1 H2:Hp}{σ:St}{ρ:Rho}{D:Ends}{u:TS}{o:Out}{S:Addr->Prop}{v:V}{p:PV}
theorem Dp.cL{l:List PV}(d:Dp K F H S v (.tup l))(hl:(PV.tup l).still=false):∃ (T:Nat->Addr->Prop) (a:Addr) (xs:List V),v=.ref a/\H a=some (.tup xs)/\(∀ j b,T j b->S b)/\Dps K F H T xs l:=by
 cases d with
 |fr h st=>rw[hl] at st;cases st
 |tup h hs dj hl hr=>exact⟨_,_,_,rfl,h,hs,hl,dj,hr⟩
theorem Dps.put{T:Nat->Addr->Prop}{xs:List V}{l:List PV}(h:Dps K F H T xs l){j:Nat}{b:Addr}{ob:HO}(hb:T j b)(nt:∀ ys,H b≠some (.tup ys)){x:V}{q:PV}(ex:xs[j]?=some x)(d:Dp K F (upd H b ob) (T j) x q):Dps K F (upd H b ob) T xs (l.set j q):=by
 refine⟨by simp[h.1],h.2.1,λk y r e1 e2=>?_⟩
 rcases get_set e2 with⟨f1,f2⟩|⟨f1,f2⟩
 ·subst f1;subst f2;rw[ex] at e1;cases e1;exact d
 ·exact(h.2.2 k y r e1 f2).up (aU.refl _) (λc o z e=>by rw[aG (λw=>by subst w;exact f1 (h.2.1 j k c hb z))];exact e) λc ys e=>by rw[aG (λw=>by subst w;exact nt ys e)];exact e
def Bj(i:Nat)(fi fe:Fn PV):Sn:=λρ=>match uA i ρ with
 |some (.lst l)=>gw (fi ρ) λk=>match k with
  |.int k=>match ixN l.length k with
   |some j=>match l[j]? with
    |some (.lst row)=>gw (fe ρ) λq=>if q.still=true/\row.length<sizeLine then some (.nx (ρ.set i (some (.dp (.lst (l.set j (.lst (row++[q])))))))) else none
    |_=>none
   |none=>none
  |_=>none
 |some (.tup l)=>if(PV.tup l).still=false then gw (fi ρ) λk=>match k with
  |.int k=>match ixN l.length k with
   |some j=>match l[j]? with
    |some (.lst row)=>gw (fe ρ) λq=>if q.still=true/\row.length<sizeLine/\(PV.tup (l.set j (.lst (row++[q])))).still=false then some (.nx (ρ.set i (some (.dp (.tup (l.set j (.lst (row++[q])))))))) else none
    |_=>none
   |none=>none
  |_=>none else none
 |_=>none
theorem Dp.snoc{b:Addr}{T:Nat->Addr->Prop}{ys:List V}{row:List PV}{q:PV}(e:H b=some (.lst ys))(sb:S b)(ht:∀ j c,T j c->S c/\c≠b)(d:Dps K F H T ys row)(r:Rep K F v q)(st:q.still=true):Dp K F (upd H b (.lst (ys++[v]))) S (.ref b) (.lst (row++[q])):=by
 refine .lst (S:=λj c=>j<ys.length/\T j c) aN sb (λj c z=>ht j c z.2) (λi j c z z'=>d.2.1 i j c z.2 z'.2) (by simp[d.1]) λj x p e1 e2=>?_
 by_cases hj:j<ys.length
 ·rw[Zal hj] at e1;rw[Zal (by rw[<-d.1];exact hj)] at e2
  refine((d.2.2 j x p e1 e2).up (aU.refl _) (λc o z e=>by rw[aG (ht j c z).2];exact e) λc zs e'=>?_).mono λc z=>⟨hj,z⟩
  rw[aG (λw=>by subst w;rw[e] at e';cases e')];exact e'
 ·rw[Zat (by omega)] at e1
  rw[Zat (by rw[<-d.1];omega)] at e2
  have ej:j=ys.length:=by
   have:=cU e1;simp at this;omega
  rw[ej,Nat.sub_self] at e1;rw[ej,d.1,Nat.sub_self] at e2;cases e1;cases e2;exact .fr r st
theorem KZ{i:Nat}{fi fe:Fn PV}(hi:MJ K C (aF K) tb fi)(h:MJ K C (aF K) te fe):MS K C (Fw (tBM K "list" wY (tOp (rIx K) (m5 i) tb) (j8 te wL))) (Bj i fi fe):=by
 intro F H σ ρ D o R e P;unfold Bj at e;split at e
 ·rename_i l hl;obtain⟨S,v,e1,_,_,_⟩:=R.Ql (dG hl);refine⟨v,e1,hi.rZ R e P λk w F1 H1 hk u a=>?_⟩;split at hk
  case h_2=>cases hk
  rename_i k;cases Rep.bD a;split at hk
  case h_2=>cases hk
  rename_i j hj;split at hk
  case h_2=>cases hk
  rename_i row hrow;obtain⟨P1,d1⟩:=(R.up u).dd;obtain⟨v',e1',dp1⟩:=d1.dp i _ (dG hl);rw[e1] at e1';cases e1';obtain⟨T,a,xs,rfl,ha,sa,ht,ds⟩:=dp1.cg;have hjx:j<xs.length:=by rw[ds.1];exact cU hrow
  obtain⟨x,ex⟩:∃ x,xs[j]?=some x:=⟨_,List.getElem?_eq_getElem hjx⟩;obtain⟨T2,b,ys,rfl,hb,sb,ht2,ds2⟩:=(ds.2.2 j x _ ex hrow).cg;refine .inl ⟨a,xs,k,.ref b,rfl,rfl,SqL.of ha,by unfold atI;rw[ds.1,hj];exact ex,tyL hb,?_⟩
  refine h.rZ (R.up u) hk (P.up u.ff) λq w F2 H2 hk2 u2 rw'=>?_;split at hk2
  case isFalse=>cases hk2
  rename_i hq;cases hk2;have hb2:=u2.hh _ _ hb;refine⟨b,ys,w,rfl,rfl,hb2,by rw[ds2.1];exact hq.2,?_⟩
  have R2:=R.up (u.trans u2);have d2:RD K C.toCf F2 H2 σ ρ P1:=d1.up u2;have pb:P1 i b:=(ht j b sb).1;have dsx:Dps K F2 H2 T xs l:=⟨ds.1,ds.2.1,λk y r c1 c2=>(ds.2.2 k y r c1 c2).stay u2⟩;have ds2x:Dps K F2 H2 T2 ys row:=⟨ds2.1,ds2.2.1,λk y r c1 c2=>(ds2.2.2 k y r c1 c2).stay u2⟩;have nt:∀ zs,H2 b≠some (.tup zs):=λzs z=>by rw[hb2] at z;cases z
  have nab:a≠b:=λz=>(ht j b sb).2 z.symm;refine P F2 _ σ (u.trans u2).ff (R2.Du d2 (dG hl) e1 pb (λys z=>by cases z) (S':=P1 i) ?_ λc z=>.inl z)
  have pu:=dsx.put (q:=.lst (row++[q])) (ob:=.lst (ys++[w])) sb nt ex (Dp.snoc hb2 sb ht2 ds2x rw' hq.1);exact .lst (by rw[aG nab];exact u2.hh _ _ ha) sa ht pu.2.1 pu.1 pu.2.2
 ·rename_i l hl;split at e
  case isFalse=>cases e
  rename_i hst;obtain⟨S,v,e1,_,_,_⟩:=R.Ql (dG hl);refine⟨v,e1,hi.rZ R e P λk w F1 H1 hk u a=>?_⟩;split at hk
  case h_2=>cases hk
  rename_i k;cases Rep.bD a;split at hk
  case h_2=>cases hk
  rename_i j hj;split at hk
  case h_2=>cases hk
  rename_i row hrow;obtain⟨P1,d1⟩:=(R.up u).dd;obtain⟨v',e1',dp1⟩:=d1.dp i _ (dG hl);rw[e1] at e1';cases e1';obtain⟨T,a,xs,rfl,ha,ht,ds⟩:=dp1.cL hst;have hjx:j<xs.length:=by rw[ds.1];exact cU hrow
  obtain⟨x,ex⟩:∃ x,xs[j]?=some x:=⟨_,List.getElem?_eq_getElem hjx⟩;obtain⟨T2,b,ys,rfl,hb,sb,ht2,ds2⟩:=(ds.2.2 j x _ ex hrow).cg;refine .inr (.inl ⟨a,xs,k,.ref b,rfl,rfl,SqT.of ha,by unfold atI;rw[ds.1,hj];exact ex,tyL hb,?_⟩)
  refine h.rZ (R.up u) hk (P.up u.ff) λq w F2 H2 hk2 u2 rw'=>?_;split at hk2
  case isFalse=>cases hk2
  rename_i hq;cases hk2;have hb2:=u2.hh _ _ hb;refine⟨b,ys,w,rfl,rfl,hb2,by rw[ds2.1];exact hq.2.1,?_⟩
  have R2:=R.up (u.trans u2);have d2:RD K C.toCf F2 H2 σ ρ P1:=d1.up u2;have pb:P1 i b:=ht j b sb;have dsx:Dps K F2 H2 T xs l:=⟨ds.1,ds.2.1,λk y r c1 c2=>(ds.2.2 k y r c1 c2).stay u2⟩;have ds2x:Dps K F2 H2 T2 ys row:=⟨ds2.1,ds2.2.1,λk y r c1 c2=>(ds2.2.2 k y r c1 c2).stay u2⟩;have nt:∀ zs,H2 b≠some (.tup zs):=λzs z=>by rw[hb2] at z;cases z
  have nab:a≠b:=λz=>by subst z;rw[u2.hh _ _ ha] at hb2;cases hb2
  refine P F2 _ σ (u.trans u2).ff (R2.Du d2 (dG hl) e1 pb (λys z=>by cases z) (S':=P1 i) ?_ λc z=>.inl z)
  have pu:=dsx.put (q:=.lst (row++[q])) (ob:=.lst (ys++[w])) sb nt ex (Dp.snoc hb2 sb ht2 ds2x rw' hq.1);exact .tup (by rw[aG nab];exact u2.hh _ _ ha) ht pu.2.1 pu.1 pu.2.2
 ·cases e
end
def Dv:Option Out->Option (Res PV)
 |some (.rd p)=>some (.ok p)
 |some (.ex z)=>some (.ex z)
 |_=>none
section
variable{K:Frag}{XR:Hp->Value->Option Addr->PV->Prop}{N:List Str}{vs:List V}{H:Hp}{Q:VK}{E:XK}{t:TS}{b:Sn}{m:List PV->Option (Res PV)}
theorem Dw{k n:Nat}(hk:N.length=k+n)(hm:∀ ps r,m ps=some r->ps.length=k/\Dv (b (startR ps n))=some r)(h:spD K XR0 m vs H Q E)(hS:∀ (io:Addr->Prop) (H0 F0:Hp),(∀ a,¬io a)->MS K (C0 io H0 F0) t b) :
  t { nx:=λ_ H'=>Q .non H',rt:=Q } (start N vs) H:=by
 obtain⟨ps,F,r,s,rp,e,P⟩:=h;obtain⟨hl,e⟩:=hm ps r e;have R:=yx (E:=E0) (N:=N) (n:=n) s rp (by rw[rp.1,hl];exact hk)
 have up:∀ {F' H':Hp},aU F F'->RB ⟨λ_=>False,True,H,F,E0⟩ F' H'->Up F H F' H':=λs' rb=>⟨s',λc o q=>rb.keep c o q id,rb.new,rb.sub⟩;have M:=hS (λ_=>False) H F (λ_ h=>h);cases ho:b (startR ps n) with
 |none=>rw[ho] at e;cases e
 |some o=>
  rw[ho] at e;refine M F H _ _ _ o R ho ?_;cases o with
  |rd p=>cases e;exact λv F' H' S s' rb d n=>P v F' H' S (up s' rb) d λb q=>⟨(n b q).2.2,(n b q).1,(n b q).2.1⟩
  |ex z=>exact λ_ _ _ _ _ _ x=>x.elim
  |nx ρ=>cases e
  |rt p=>cases e
  |ro p=>cases e
  |bk ρ=>cases e
  |ct ρ=>cases e
theorem Dy(h:spD K XR m vs H Q E){k:Nat}(hm:∀ ps r,m ps=some r->ps.length=k):vs.length=k:=by
 obtain⟨ps,F,r,s,rp,e,P⟩:=h;rw[rp.1];exact hm ps r e
end
end L2.MP
namespace L2
open PySem PySem.Spec PyProof PyProof.Rows
def Itz(K:Frag)(a b:Addr):It:=
 ⟨λi H=>∃ xs ys x y,SqL K H a xs/\SqL K H b ys/\xs[i]?=some x/\ys[i]?=some y,
  λi H x H'=>∃ p u v,H p=none/\x=.ref p/\H'=upd H p (.tup [u,v])/\(∀ xs,SqL K H a xs->xs[i]?=some u)/\∀ ys,SqL K H b ys->ys[i]?=some v,
  λi H=>∃ xs ys,SqL K H a xs/\SqL K H b ys/\(xs.length<=i\/ys.length<=i)⟩
theorem Qn{P:Program}{w:World}{K:Frag}{elts:List Expr}{x1:Nat}{pos:Pos}(a b z TI TO i1 i2:Addr)(D:ZipApart z TI TO i1 i2 a b) :
  Turn P w K (.Tuple elts x1 pos) (Itz K a b) [z,TO,i1,i2,TI] z (λi h=>IsZip h z TI TO .none/\IsPair h TI (.ref i1) (.ref i2)/\(∃ c d,IsPair h TO c d)/\h.IsListIter i1 a i/\h.IsListIter i2 b i) where
 mem:=by simp
 obj:=λi h st c hc=>by
  obtain⟨hz,hTI,⟨c',d',hTO⟩,⟨o1,e1,_,d1⟩,⟨o2,e2,_,d2⟩⟩:=st;simp only[ZaA,List.not_mem_nil,or_false] at hc;rcases hc with rfl|rfl|rfl|rfl|rfl
  ·exact⟨_,hz,λv q=>by cases q⟩
  ·exact⟨_,hTO,λv q=>by cases q⟩
  ·exact⟨o1,e1,λv q=>by rw[d1] at q;cases q⟩
  ·exact⟨o2,e2,λv q=>by rw[d2] at q;cases q⟩
  ·exact⟨_,hTI,λv q=>by cases q⟩
 keep:=λi h h' st k=>by
  obtain⟨hz,hTI,⟨c',d',hTO⟩,h1,h2⟩:=st;exact⟨k z (by simp) _ hz,k TI (by simp) _ hTI,⟨c',d',k TO (by simp) _ hTO⟩,h1.at λo q=>k i1 (by simp) o q,h2.at λo q=>k i2 (by simp) o q⟩
 item:=by
  intro X hP hw hK hc i pins s σ H E I hf st hg;subst hP hw hK;obtain⟨xs,ys,x,y,hq,hq',hx,hy⟩:=hg;obtain⟨its,rv,p,_⟩:=I.list hq;obtain⟨its',rv',p',_⟩:=I.list hq';obtain⟨u,hu,ru⟩:=rv.get hx;obtain⟨u',hu',ru'⟩:=rv'.get hy;obtain⟨hz,hTI,⟨c',d',hTO⟩,h1,h2⟩:=st;refine wpAny_pyNext_zip_item D hz hTI hTO h1 h2 p.isList p'.isList (by rw[List.getElem?_toArray];exact hu) (by rw[List.getElem?_toArray];exact hu') λh3 z3 t3 i3 j3 n3 sz3 k3=>?_
  refine⟨_,rfl,wpAny_letOwnedTupleGo_zip z3 λh4 z4 s4=>?_⟩;have zlt:z<s.heap.objs.size:=Zao hz;have hT2:IsPair h4 s.heap.objs.size u u':=(s4.2 _ (Nat.ne_of_gt zlt)).trans n3;have flt:∀ b'∈[z,TO,i1,i2,TI],b'<s.heap.objs.size:=λb' hb=>by
   obtain⟨o1,e1,_⟩:=h1;obtain⟨o2,e2,_⟩:=h2;simp only[ZaA,List.not_mem_nil,or_false] at hb;rcases hb with rfl|rfl|rfl|rfl|rfl
   ·exact zlt
   ·exact Zao hTO
   ·exact Zao e1
   ·exact Zao e2
   ·exact Zao hTI
  refine⟨.ref s.heap.objs.size,upd H s.heap.objs.size (.tup [x,y]),I.vK (ch:=[z,TO,i1,i2,TI]) (λb' o hb q=>?_) hf (Zak _) ⟨by show 2<=sizeLine;decide,[u,u'],.cons ru (.cons ru' .nil),gq.mk hT2⟩,rfl,⟨_,x,y,I.hok.fresh (Zak _),rfl,rfl,λzs hz'=>by rw[I.pG hz' hq];exact hx,λzs hz'=>by rw[I.pG hz' hq'];exact hy⟩,⟨z4,?_,⟨u,u',(s4.2 _ D.TOz).trans t3⟩,i3.at λo q=>(s4.2 i1 D.i1z).trans q,j3.at λo q=>(s4.2 i2 D.i2z).trans q⟩,λb' hb=>?_⟩
  ·have q1:b'≠z:=λe=>hb (by simp[e])
   have q2:b'≠TO:=λe=>hb (by simp[e])
   have q3:b'≠i1:=λe=>hb (by simp[e])
   have q4:b'≠i2:=λe=>hb (by simp[e])
   exact(s4.2 b' q1).trans (k3 b' o q1 q2 q3 q4 q)
  ·exact(s4.2 _ D.TIz).trans (k3 TI _ D.TIz D.TITO D.TIi1 D.TIi2 hTI)
  ·rw[aG (ZaG (flt b' hb))];exact(hf b' hb).1
 done:=by
  intro X hP hw hK hc i pins s σ H E I hf st hg;subst hP hw hK;obtain⟨xs,ys,hq,hq',hx⟩:=hg;obtain⟨its,rv,p,_⟩:=I.list hq;obtain⟨its',rv',p',_⟩:=I.list hq';obtain⟨hz,hTI,⟨c',d',hTO⟩,h1,h2⟩:=st;have ln:=rv.length;have ln':=rv'.length;refine wpAny_pyNext_zip_end (I.ok.hd hc) D hz hTI hTO h1 h2 p.isList p'.isList (hx.imp (λq=>by rw[List.getElem?_toArray];exact List.getElem?_eq_none_iff.mpr (by lia)) λq=>by rw[List.getElem?_toArray];exact List.getElem?_eq_none_iff.mpr (by lia)) λh' k=>⟨rfl,?_⟩
  exact I.tZ (t':=s.toks) (ch:=[z,TO,i1,i2,TI]) (λb' o hb q=>k b' o (λe=>hb (by simp[e])) (λe=>hb (by simp[e])) (λe=>hb (by simp[e])) (λe=>hb (by simp[e])) q) hf
 self:=λA i s Q E st h=>wpAny_pyIter_zip st.1 h
def Yh(K:Frag)(ta:TA):TI:=λσ H R=>ta σ H λvs H1=>∃ a b,vs=[.ref a,.ref b]/\(∃ xs,SqL K H1 a xs)/\(∃ ys,SqL K H1 b ys)/\R (Itz K a b) H1
theorem Wo{X:Cx}{l m:Expr}{ta:TA}{elts:List Expr}{x1:Nat}{tpos p pos:Pos}(hg:Gl X "zip")(hm:X.mg "zip"=none)(ha:PA X [l,m] ta)(hs:starEach [l,m] X.env=(false,eval l X.env)::starEach [m] X.env:=by rfl)(hs2:starEach [m] X.env=[(false,eval m X.env)]:=by rfl) :
  PI X (.Tuple elts x1 tpos) (.Call (.Name "zip" p) [l,m] [] pos) (Yh X.K ta):=by
 intro pins s σ H R I h;refine Call_ (rP I hg hm boot_zip (Zbu (thn (ha pos pins s σ H _ I h) ?_) hs (by rw[hs2];rfl)))
 rintro us s1 ⟨vs,H1,I1,r1,q1⟩;obtain⟨a,b,e,⟨xs,hq⟩,⟨ys,hq'⟩,q⟩:=q1;subst e;cases r1 with
 |cons r rr=>
  cases rr with
  |cons r' rr=>
   cases rr;cases r;cases r';obtain⟨its,rv,p,_⟩:=I1.list hq;obtain⟨its',rv',p',_⟩:=I1.list hq';have la:a<s1.heap.objs.size:=by obtain⟨o,e,_⟩:=p.isList;exact Zao e
   have lb:b<s1.heap.objs.size:=by obtain⟨o,e,_⟩:=p'.isList;exact Zao e
   refine call_zip_2 p.isList p'.isList λh1 hz hTI hTO hi1 hi2 hsz hk=>?_;refine wpAny_pyIter_zip hz ?_;have I2:Inv X pins σ H1 { s1 with heap:=h1 }:=I1.kept (t':=s1.toks) hk;refine⟨_,[s1.heap.objs.size+4,s1.heap.objs.size+3,s1.heap.objs.size,s1.heap.objs.size+1,s1.heap.objs.size+2],_,_,H1,rfl,I2,Qn a b _ _ _ _ _ (zipApart_new la lb),⟨hz,hTI,⟨_,_,hTO⟩,hi1,hi2⟩,λc hc=>?_,q⟩;have:s1.heap.objs.size<=c:=by
    simp only[ZaA,List.not_mem_nil,or_false] at hc;rcases hc with rfl|rfl|rfl|rfl|rfl
    ·exact Nat.le_add_right _ 4
    ·exact Nat.le_add_right _ 3
    ·exact Zak _
    ·exact Nat.le_add_right _ 1
    ·exact Nat.le_add_right _ 2
   exact I1.Fx this (I1.hok.fresh this)
namespace MP
def JR(l m:List PV):List PV:=(l.zip m).map λc=>.tup [c.1,c.2]
def Qo:List PV->Option (Res (List PV))
 |[.lst l,.lst m]=>some (.ok (JR l m))
 |_=>none
section
variable{K:Frag}{C:Cg}{tA:TA}
theorem Wq{f:Fn (List PV)}(h:MA K C tA f):MI K C (Yh K tA) (m1 Qo f):=by
 intro F H σ ρ R' r R e P;refine h.run R e P λl xs F1 H1 hk u a=>?_;have inv:∃ l' m,l=[.lst l',.lst m]:=by
  clear P u a
  rcases l with _|⟨x,_|⟨y,_|⟨z,l⟩⟩⟩<;>first|exact noS hk|(cases x<;>first|exact noS hk|(cases y<;>first|exact noS hk|exact⟨_,_,rfl⟩))
 obtain⟨l,m,rfl⟩:=inv;cases hk;obtain⟨v,ys,rfl,r1,r2⟩:=a.dJ;obtain⟨v',ys',rfl,r2',r3⟩:=r2.dJ;cases r3.ji;obtain⟨b,xs,rfl,h1,r1⟩:=Rep.cg r1;obtain⟨b',xs',rfl,h2,r2⟩:=Rep.cg r2';have hl:(JR l m).length=min l.length m.length:=by simp[JR]
 refine⟨b,b',rfl,⟨xs,u.fh.seq h1⟩,⟨xs',u.fh.seq h2⟩,P _ F1 H1 u ⟨λF' H' s s'=>?_,λi F' H' hi s s'=>?_,λi F' H' x H'' hi s s' y=>?_⟩⟩
 ·refine⟨xs,xs',(s.trans s').seq h1,(s.trans s').seq h2,?_⟩;rw[hl,r1.1,r2.1];lia
 ·rw[hl] at hi;exact⟨xs,xs',xs[i]'(by rw[r1.1];lia),xs'[i]'(by rw[r2.1];lia),(s.trans s').seq h1,(s.trans s').seq h2,by simp,by simp⟩
 ·obtain⟨p,y,y',hp,rfl,rfl,hy,hy'⟩:=y;have e:=hy xs ((s.trans s').seq h1);have e':=hy' xs' ((s.trans s').seq h2);obtain⟨q,e2,rq⟩:=r1.got e;obtain⟨q',e2',rq'⟩:=r2.got e';have un:=Up.new (o:=.tup [y,y']) s' hp;refine⟨_,.tup [q,q'],un,?_,.tup aN rfl λj x p hx hp'=>?_⟩
  ·unfold JR;rw[List.getElem?_map,show(l.zip m)[i]?=some (q,q') from List.getElem?_zip_eq_some.mpr ⟨e2,e2'⟩];rfl
  ·match j with
   |0=>simp at hx hp';subst hx hp';exact rq.up (s.trans un.ff)
   |1=>simp at hx hp';subst hx hp';exact rq'.up (s.trans un.ff)
   |j+2=>simp at hx
end
end MP
def kO:HO->Prop
 |.dK _=>True
 |.dT _=>True
 |_=>False
section
variable{X:Cx}{pins:List (Addr×Obj)}{σ:St}{H:Hp}{s:Shared}{a:Addr}{u:HO}{raw:Obj}
theorem kO.mut(hu:kO u)(e:H a=some u):Mut (H a):=by
 rw[e];cases u<;>first|trivial|exact hu.elim
theorem Ws(I:Inv X pins σ H s)(e:H a=some u)(hu:kO u):∃ raw,s.heap.get? a=some raw:=by
 have:=I.hok a u e;cases u with
 |dK kvs=>obtain⟨_,_,_,_,o,es,ep,h1,_⟩:=this;exact⟨o,h1⟩
 |dT kvs=>obtain⟨_,_,_,_,o,es,ep,h1,_⟩:=this;exact⟨o,h1⟩
 |_=>exact hu.elim
theorem Inv.hold(I:Inv X pins σ H s)(e:H a=some u)(hu:kO u):∃ raw,s.heap.get? a=some raw/\Inv X pins σ (upd H a (.frz raw u)) s:=by
 obtain⟨raw,hr⟩:=Ws I e hu;refine⟨raw,hr,I.write (t':=s.toks) (h':=s.heap) (hu.mut e) (.inl rfl) (λb o _ q=>q) ⟨raw,hr⟩ ⟨hr,?_⟩⟩;refine(I.hok a u e).stay (λb o _ q=>q) (λb q=>?_) λb xs q=>?_
 ·rw[aG (λz=>by subst z;rw[e] at q;cases q;exact hu)];exact q
 ·rw[aG (λz=>by subst z;rw[e] at q;cases q;exact hu)];exact q
theorem Inv.loose(I:Inv X pins σ H s)(e:H a=some (.frz raw u))(hu:kO u)(h0:∀ o v,X.H₀ a≠some (.frz o v)):Inv X pins σ (upd H a u) s where
 ok:=I.ok
 os:=I.os
 bare:=I.bare
 base:={
  keep:=I.base.keep
  slot:=I.base.slot
  free:=λb o q n hx=>by
   have:=I.base.free b o q n hx;rw[aG (λz=>by subst z;rw[e] at this;cases this)];exact this
  there:=I.base.there
  tups:=λb xs q=>by
   have:=I.base.tups b xs q;rw[aG (λz=>by subst z;rw[e] at this;cases this)];exact this
  frzs:=λb o v q=>by
   rw[aG (λz=>by subst z;exact h0 o v q)];exact I.base.frzs b o v q
  tbls:=λb ps q=>by
   obtain⟨more,r⟩:=I.base.tbls b ps q;exact⟨more,by rw[aG (λz=>by subst z;rw[e] at r;cases r)];exact r⟩ }
 loc:=I.loc
 cell:=I.cell
 free:=by rw[aG (λz=>by have:=I.free;rw[z,e] at this;cases this)];exact I.free
 freeC:=λx c q=>by
  have:=I.freeC x c q;rw[aG (λz=>by subst z;rw[e] at this;cases this)];exact this
 pin:=λp hp=>by
  obtain⟨p1,p2,p3⟩:=I.pin p hp;exact⟨p1,by rw[aG (λz=>by rw[z,e] at p2;cases p2)];exact p2,p3⟩
 hok:=λb o q=>by
  have ho:∀ c y,H c=some (.own y)->upd H a u c=some (.own y):=λc y r=>by rw[aG (λz=>by subst z;rw[e] at r;cases r)];exact r
  have ht:∀ c xs,H c=some (.tup xs)->upd H a u c=some (.tup xs):=λc xs r=>by rw[aG (λz=>by subst z;rw[e] at r;cases r)];exact r
  by_cases hb:b=a
  ·subst hb;rw[aN] at q;cases q;exact(I.hok b _ e).2.stay (λ_ _ _ q=>q) (λc r=>ho c b r) ht
  ·rw[aG hb] at q;exact(I.hok b o q).stay (λ_ _ _ q=>q) (λc r=>ho c b r) ht
 len:=I.len
def Ends.loose(D:Ends)(a:Addr)(raw:Obj)(u:HO):Ends where
 nx:=λσ H=>H a=some (.frz raw u)/\D.nx σ (upd H a u)
 bk:=λσ H=>H a=some (.frz raw u)/\D.bk σ (upd H a u)
 ct:=λσ H=>H a=some (.frz raw u)/\D.ct σ (upd H a u)
 rt:=λv H=>H a=some (.frz raw u)/\D.rt v (upd H a u)
def Vo(i:Nat)(t:TS):TS:=λD σ H=>∃ a u,σ[i]?=some (some (.ref a))/\kO u/\(((∃ raw,H a=some (.frz raw u))/\t D σ H)\/(H a=some u/\∀ raw,t (D.loose a raw u) σ (upd H a (.frz raw u))))
theorem TJ{st:Stmt}{t:TS}(i:Nat)(h:PS X st t):PS X st (Vo i t):=by
 intro pins s σ H D I q;obtain⟨a,u,_,hu,⟨_,q⟩|⟨e,q⟩⟩:=q
 ·exact h pins s σ H D I q
 ·have h0:∀ o v,X.H₀ a≠some (.frz o v):=λo v z=>by
   have:=I.base.frzs a o v z;rw[e] at this;cases this;exact hu
  obtain⟨raw,_,I2⟩:=I.hold e hu;refine thn (h pins s σ _ _ I2 (q raw)) λf s' r=>?_;cases f with
  |next=>obtain⟨σ',H',I',e',r⟩:=r;exact⟨σ',_,I'.loose e' hu h0,r⟩
  |brk=>obtain⟨σ',H',I',e',r⟩:=r;exact⟨σ',_,I'.loose e' hu h0,r⟩
  |cont=>obtain⟨σ',H',I',e',r⟩:=r;exact⟨σ',_,I'.loose e' hu h0,r⟩
  |ret w=>obtain⟨v,σ',H',I',rv,e',r⟩:=r;exact⟨v,σ',_,I'.loose e' hu h0,rv,r⟩
def Qp(i:Nat)(t:TE):TE:=λσ H Q=>∃ a u,σ[i]?=some (some (.ref a))/\kO u/\(((∃ raw,H a=some (.frz raw u))/\t σ H Q)\/(H a=some u/\∀ raw,t σ (upd H a (.frz raw u)) λv H'=>H' a=some (.frz raw u)/\Q v (upd H' a u)))
theorem xg{e:Expr}{t:TE}(i:Nat)(h:PE X e t):PE X e (Qp i t):=by
 intro pins s σ H Q I q;obtain⟨a,u,_,hu,⟨_,q⟩|⟨e',q⟩⟩:=q
 ·exact h pins s σ H Q I q
 ·have h0:∀ o v,X.H₀ a≠some (.frz o v):=λo v z=>by
   have:=I.base.frzs a o v z;rw[e'] at this;cases this;exact hu
  obtain⟨raw,_,I2⟩:=I.hold e' hu;refine thn (h pins s σ _ _ I2 (q raw)) λw s' ⟨v,H',I',rv,e2,r⟩=>⟨v,_,I'.loose e2 hu h0,rv,r⟩
end
end L2
namespace L2.MP
open PySem PySem.Spec PyProof.Rows
structure Sw(F F':Hp)(a:Addr)(u:HO):Prop where
 ne:∀ b,b≠a->F' b=F b
 l:Rd F a u
 r:Rd F' a u
 d:kO u
section
variable{K:Frag}{F F' H H':Hp}{a:Addr}{u:HO}{v:V}{p:PV}
theorem Sw.other(w:Sw F F' a u){b:Addr}{o:HO}(e:F b=some o)(h1:¬kO o)(h2:∀ raw x,kO x->o≠.frz raw x):F' b=some o:=by
 rw[w.ne b λz=>?_]
 ·exact e
 ·subst z;rcases w.l with q|⟨raw,q⟩
  ·rw[e] at q;cases q;exact h1 w.d
  ·rw[e] at q;cases q;exact h2 raw u w.d rfl
theorem Sw.rd(w:Sw F F' a u){b:Addr}{o:HO}(h:Rd F b o)(ho:kO o):Rd F' b o:=by
 by_cases hb:b=a
 ·subst hb;have:o=u:=by
   rcases h with h|⟨r,h⟩<;>rcases w.l with q|⟨r',q⟩<;>rw[h] at q<;>cases q
   ·rfl
   ·exact ho.elim
   ·exact w.d.elim
   ·rfl
  rw[this];exact w.r
 ·rcases h with h|⟨r,h⟩
  ·exact .inl (by rw[w.ne b hb];exact h)
  ·exact .inr ⟨r,by rw[w.ne b hb];exact h⟩
theorem Sw.sq(w:Sw F F' a u){b:Addr}{xs:List V}(h:SqL K F b xs):SqL K F' b xs:=by
 rcases h with(h|⟨o,h⟩)|h
 ·exact .inl (.inl (w.other h (λz=>z) λ_ _ _ z=>by cases z))
 ·exact .inl (.inr ⟨o,w.other h (λz=>z) λ_ x hx z=>by cases z;exact hx⟩)
 ·exact .inr h
theorem Rep.sw(w:Sw F F' a u)(h:Rep K F v p):Rep K F' v p:=by
 induction h with
 |non=>exact .non
 |bl=>exact .bl
 |int=>exact .int
 |str=>exact .str
 |ty=>exact .ty
 |tup h hl _ ih=>exact .tup (w.other h (λz=>z) λ_ _ _ z=>by cases z) hl ih
 |lst h hl _ ih=>exact .lst (w.sq h) hl ih
 |dk h hl _ ih=>exact .dk (w.rd h trivial) hl ih
 |dt h hl _ ih=>exact .dt (w.rd h trivial) hl ih
 |exc nm h hd hl _ ih=>exact .exc nm (w.other h (λz=>z) λ_ _ _ z=>by cases z) (w.other hd (λz=>z) λ_ _ _ z=>by cases z) hl ih
 |exc0 nm h=>exact .exc0 nm (w.other h (λz=>z) λ_ _ _ z=>by cases z)
theorem bK.sw{xs:List V}{l:List PV}(w:Sw F F' a u)(h:bK K F xs l):bK K F' xs l:=⟨h.1,λj x p a b=>(h.2 j x p a b).sw w⟩
theorem Own.sw{b:Addr}(w:Sw F F' a u)(e:H' b=H b)(h:Own K F H b p):Own K F' H' b p:=by
 cases p with
 |lst l=>obtain⟨xs,q,r⟩:=h;exact⟨xs,by rw[e];exact q,r.sw w⟩
 |dk l=>obtain⟨xs,q,r,s⟩:=h;exact⟨xs,by rw[e];exact q,r,λj x p a b=>(s j x p a b).sw w⟩
 |dt l=>obtain⟨xs,q,r,s⟩:=h;exact⟨xs,by rw[e];exact q,r,λj x p a b=>(s j x p a b).sw w⟩
 |_=>exact h.elim
theorem Dp.sw{P:Addr->Prop}(w:Sw F F' a u)(wH:Sw H H' a u)(h:Dp K F H P v p):(∀ b,P b->b≠a)->Dp K F' H' P v p:=by
 induction h with
 |fr h st=>exact λ_=>.fr (h.sw w) st
 |lst h hp hs dj hl _ ih=>exact λn=>.lst (by rw[wH.ne _ (n _ hp)];exact h) hp hs dj hl λj x p e1 e2=>ih j x p e1 e2 λb q=>n b (hs j b q).1
 |tup h hs dj hl _ ih=>exact λn=>.tup (wH.other h (λz=>z) λ_ _ _ z=>by cases z) hs dj hl λj x p e1 e2=>ih j x p e1 e2 λb q=>n b (hs j b q)
 |dk h hp hs dj hl _ ih=>exact λn=>.dk (by rw[wH.ne _ (n _ hp)];exact h) hp hs dj hl λj x p e1 e2=>ih j x p e1 e2 λb q=>n b (hs j b q).1
 |dt h hp hs dj hl _ ih=>exact λn=>.dt (by rw[wH.ne _ (n _ hp)];exact h) hp hs dj hl λj x p e1 e2=>ih j x p e1 e2 λb q=>n b (hs j b q).1
theorem RE.sw{C C':Cf}{σ:St}{ρ:Rho}(w:Sw F F' a u)(wH:Sw H H' a u)(fa:F a≠none)(hio:C'.io=C.io)(hnw:C'.nw=C.nw)(h0:∀ b,b≠a->C'.H0 b=C.H0 b)(rb:RB C' F' H')(R:RE K C F H σ ρ):RE K C' F' H' σ ρ where
 rb:=rb
 len:=R.len
 sh:=λi p e=>let⟨v,e1,r⟩:=R.sh i p e;⟨v,e1,r.sw w⟩
 ow:=λi p e=>by
  obtain⟨b,e1,e2,e3,e4⟩:=R.ow i p e;have nb:b≠a:=λz=>by subst z;exact fa e3
  exact⟨b,e1,e2.sw w (wH.ne b nb),by rw[w.ne b nb];exact e3,by rw[hio,hnw,h0 b nb];exact e4⟩
 dis:=R.dis
 dd:=by
  obtain⟨P,d⟩:=R.dd;have nb:∀ i b,P i b->b≠a:=λi b q z=>by subst z;exact fa (d.own i b q).1
  refine⟨P,λi b q=>?_,d.dis,d.ow,λi p e=>?_⟩
  ·obtain⟨c1,⟨o,c2,c3⟩,c4,c5⟩:=d.own i b q;exact⟨by rw[w.ne b (nb i b q)];exact c1,⟨o,by rw[wH.ne b (nb i b q)];exact c2,c3⟩,by rw[hnw];exact c4,by rw[h0 b (nb i b q)];exact c5⟩
  ·obtain⟨v,e1,e2⟩:=d.dp i p e;exact⟨v,e1,e2.sw w wH (nb i)⟩
end
def du(G:Hp)(a:Addr)(raw:Obj)(u:HO):Hp:=λb=>@ite _ (b=a/\G a=some u) (Classical.propDecidable _) (some (.frz raw u)) (G b)
theorem eZ{G:Hp}{a b:Addr}{raw:Obj}{u:HO}(h:b≠a):du G a raw u b=G b:=@if_neg _ (Classical.propDecidable _) (λz=>h z.1) _ _ _
theorem vO{G:Hp}{a:Addr}{raw:Obj}{u:HO}(h:G a=some u):du G a raw u a=some (.frz raw u):=@if_pos _ (Classical.propDecidable _) ⟨rfl,h⟩ _ _ _
theorem sO{G:Hp}{a:Addr}{raw:Obj}{u:HO}(h:G a≠some u):du G a raw u a=G a:=@if_neg _ (Classical.propDecidable _) (λz=>h z.2) _ _ _
def Wt(F:Hp)(σ:St)(i:Nat):Prop:=∃ a raw u,σ[i]?=some (some (.ref a))/\F a=some (.frz raw u)/\kO u
def MSh(K:Frag)(C:Cg)(i:Nat)(t:TS)(f:Sn):Prop:=∀ F H σ ρ D o,RE K C.toCf F H σ ρ->Wt F σ i->f ρ=some o->PO' K C F D o->t D σ H
def MOh(K:Frag)(C:Cg)(i:Nat)(te:TE)(f:Fn PV):Prop:=
 ∀ F H σ ρ Q r,RE K C.toCf F H σ ρ->Wt F σ i->f ρ=some r->Pr C F (λp=>∀ a F' H',Up F H F' H'->H a=none->F' a=none->Own K F' H' a p->Q (.ref a) H') r->te σ H Q
def Bl(i:Nat)(f:Sn):Sn:=λρ=>match ρ[i]? with
 |some (some (.sh p))=>if p.isD=true then(match f ρ with
  |some (.rd _)=>none
  |x=>x) else none
 |_=>none
section
variable{K:Frag}{t:TS}{f:Sn}
theorem K1{io:Addr->Prop}{H0 F0 F H:Hp}{σ:St}{ρ:Rho}{a:Addr}{u:HO}{raw:Obj}(R:RE K (C0 io H0 F0).toCf F H σ ρ)(fa:F a=some u)(hu:kO u) :
  RE K (C0 io (du H0 a raw u) (du F0 a raw u)).toCf (upd F a (.frz raw u)) (upd H a (.frz raw u)) σ ρ/\H a=some u:=by
 have ha:=R.rb.sub _ _ fa;have w:Sw F (upd F a (.frz raw u)) a u:=⟨λb hb=>aG hb,.inl fa,.inr ⟨raw,aN⟩,hu⟩;have wH:Sw H (upd H a (.frz raw u)) a u:=⟨λb hb=>aG hb,.inl ha,.inr ⟨raw,aN⟩,hu⟩;have nt:∀ ys,u≠.tup ys:=λys z=>by subst z;exact hu
 have rb2:RB (C0 io (du H0 a raw u) (du F0 a raw u)).toCf (upd F a (.frz raw u)) (upd H a (.frz raw u)):=by
  refine⟨λb o q=>?_,λb o q n=>?_,λb o q=>?_,λb q=>?_⟩
  ·by_cases hb:b=a
   ·subst hb;rw[aN] at q ⊢;exact q
   ·rw[aG hb] at q ⊢;exact R.rb.sub b o q
  ·by_cases hb:b=a
   ·subst hb;rw[aN];by_cases hh:H0 b=some u
    ·have q:du H0 b raw u b=some o:=q;rw[vO hh] at q;exact q
    ·have q:du H0 b raw u b=some o:=q;rw[sO hh] at q;have:=R.rb.keep b o q n;rw[ha] at this;exact absurd (q.trans this.symm) hh
   ·have q:du H0 a raw u b=some o:=q;rw[eZ hb] at q;rw[aG hb];exact R.rb.keep b o q n
  ·by_cases hb:b=a
   ·subst hb;rw[aN] at q;cases q;rcases R.rb.new b u fa with z|z|⟨ys,z⟩
    ·exact .inl (vO z)
    ·refine .inr (.inl ?_);show du H0 b raw u b=none
     rw[sO (by rw[show H0 b=none from z];intro y;cases y)];exact z
    ·exact absurd z (nt ys)
   ·rw[aG hb] at q;rcases R.rb.new b o q with z|z|z
    ·exact .inl ((eZ hb).trans z)
    ·exact .inr (.inl ((eZ hb).trans z))
    ·exact .inr (.inr z)
  ·obtain⟨q1,q2⟩:=R.rb.ios b q;refine⟨?_,?_⟩
   ·by_cases hb:b=a
    ·subst hb;rw[aN];intro z;cases z
    ·rw[aG hb];exact q1
   ·show du H0 a raw u b≠none
    by_cases hb:b=a
    ·subst hb;by_cases hh:H0 b=some u
     ·rw[vO hh];intro z;cases z
     ·rw[sO hh];exact q2
    ·rw[eZ hb];exact q2
 have R2:RE K (C0 io (du H0 a raw u) (du F0 a raw u)).toCf (upd F a (.frz raw u)) (upd H a (.frz raw u)) σ ρ:=RE.sw (C:=(C0 io H0 F0).toCf) w wH (by rw[fa];intro z;cases z) rfl rfl (λb hb=>eZ hb) rb2 R
 exact⟨R2,ha⟩
theorem TQ{io:Addr->Prop}{H0 F0:Hp}(i:Nat)(h:∀ H0 F0,MSh K (C0 io H0 F0) i t f):MS K (C0 io H0 F0) (Vo i t) (Bl i f):=by
 intro F H σ ρ D o R e P;unfold Bl at e;split at e
 case h_2=>cases e
 rename_i p hp;split at e
 case isFalse=>cases e
 rename_i hd;obtain⟨e',nrd⟩:f ρ=some o/\∀ q,o≠.rd q:=by
  split at e
  ·cases e
  ·rename_i x hx;exact⟨e,λq z=>by subst z;exact hx q e⟩
 obtain⟨v,ev,rv⟩:=R.sh i p hp;obtain⟨a,u,rfl,rd,hu⟩:∃ a u,v=.ref a/\Rd F a u/\kO u:=by
  cases rv with
  |dk h=>exact⟨_,_,rfl,h,trivial⟩
  |dt h=>exact⟨_,_,rfl,h,trivial⟩
  |_=>cases hd
 refine⟨a,u,ev,hu,?_⟩;rcases rd with fa|⟨raw,fa⟩
 case inr=>exact .inl ⟨⟨raw,R.rb.sub _ _ fa⟩,h H0 F0 F H σ ρ D o R ⟨a,raw,u,ev,fa,hu⟩ e' P⟩
 refine .inr ⟨R.rb.sub _ _ fa,λraw=>?_⟩;have ha:=R.rb.sub _ _ fa;have w:Sw F (upd F a (.frz raw u)) a u:=⟨λb hb=>aG hb,.inl fa,.inr ⟨raw,aN⟩,hu⟩;have wH:Sw H (upd H a (.frz raw u)) a u:=⟨λb hb=>aG hb,.inl ha,.inr ⟨raw,aN⟩,hu⟩;have nt:∀ ys,u≠.tup ys:=λys z=>by subst z;exact hu
 obtain⟨R2,_⟩:=K1 (raw:=raw) R fa hu;have back:∀ {F3 H3:Hp},aU (upd F a (.frz raw u)) F3->RB (C0 io (du H0 a raw u) (du F0 a raw u)).toCf F3 H3->H3 a=some (.frz raw u)/\Sw F3 (upd F3 a u) a u/\Sw H3 (upd H3 a u) a u/\aU F (upd F3 a u)/\RB (C0 io H0 F0).toCf (upd F3 a u) (upd H3 a u):=by
  intro F3 H3 s3 rb3;have f3:F3 a=some (.frz raw u):=s3 _ _ aN;have h3:=rb3.sub _ _ f3;refine⟨h3,⟨λb hb=>aG hb,.inr ⟨raw,f3⟩,.inl aN,hu⟩,⟨λb hb=>aG hb,.inr ⟨raw,h3⟩,.inl aN,hu⟩,λb o q=>?_,λb o q=>?_,λb o q n=>?_,λb o q=>?_,λb q=>?_⟩
  ·by_cases hb:b=a
   ·subst hb;rw[aN,<-q,fa]
   ·rw[aG hb];exact s3 b o (by rw[aG hb];exact q)
  ·by_cases hb:b=a
   ·subst hb;rw[aN] at q ⊢;exact q
   ·rw[aG hb] at q ⊢;exact rb3.sub b o q
  ·by_cases hb:b=a
   ·subst hb;have:=R.rb.keep b o q n;rw[ha] at this;rw[aN];exact this
   ·rw[aG hb];exact rb3.keep b o ((eZ hb).trans q) n
  ·by_cases hb:b=a
   ·subst hb;rw[aN] at q;cases q;exact R.rb.new b u fa
   ·rw[aG hb] at q;rcases rb3.new b o q with z|z|z
    ·exact .inl ((eZ hb).symm.trans z)
    ·exact .inr (.inl ((eZ hb).symm.trans z))
    ·exact .inr (.inr z)
  ·refine⟨?_,(R.rb.ios b q).2⟩;by_cases hb:b=a
   ·subst hb;rw[aN];intro z;cases z
   ·rw[aG hb];exact(rb3.ios b q).1
 have backR:∀ {F3 H3:Hp}{σ3:St}{ρ3:Rho},aU (upd F a (.frz raw u)) F3->RE K (C0 io (du H0 a raw u) (du F0 a raw u)).toCf F3 H3 σ3 ρ3->H3 a=some (.frz raw u)/\aU F (upd F3 a u)/\RE K (C0 io H0 F0).toCf (upd F3 a u) (upd H3 a u) σ3 ρ3:=by
  intro F3 H3 σ3 ρ3 s3 R3;obtain⟨b1,b2,b3,b4,b5⟩:=back s3 R3.rb;have f3:F3 a=some (.frz raw u):=s3 _ _ aN;exact⟨b1,b4,RE.sw (C:=(C0 io (du H0 a raw u) (du F0 a raw u)).toCf) b2 b3 (by rw[f3];intro z;cases z) rfl rfl (λb hb=>(eZ hb).symm) b5 R3⟩
 refine h (du H0 a raw u) (du F0 a raw u) _ _ σ ρ _ o R2 ⟨a,raw,u,ev,aN,hu⟩ e' ?_;cases o with
 |nx ρ3=>exact λF3 H3 σ3 s3 R3=>let⟨b1,b2,b3⟩:=backR s3 R3;⟨b1,P _ _ _ b2 b3⟩
 |bk ρ3=>exact λF3 H3 σ3 s3 R3=>let⟨b1,b2,b3⟩:=backR s3 R3;⟨b1,P _ _ _ b2 b3⟩
 |ct ρ3=>exact λF3 H3 σ3 s3 R3=>let⟨b1,b2,b3⟩:=backR s3 R3;⟨b1,P _ _ _ b2 b3⟩
 |rt q=>exact λv F3 H3 s3 rb3 r=>let⟨b1,b2,b3,b4,b5⟩:=back s3 rb3;⟨b1,P v _ _ b4 b5 (r.sw b2)⟩
 |ro q=>
  intro b F3 H3 s3 rb3 ow nb n0;obtain⟨b1,b2,b3,b4,b5⟩:=back s3 rb3;have f3:F3 a=some (.frz raw u):=s3 _ _ aN;have hb:b≠a:=λz=>by subst z;rw[f3] at nb;cases nb
  exact⟨b1,P b _ _ b4 b5 (ow.sw b2 (b3.ne b hb)) (by rw[aG hb];exact nb) ((eZ hb).symm.trans n0)⟩
 |rd q=>exact absurd rfl (nrd q)
 |ex z=>exact λ_ _ _ _ _ _ x=>x.elim
end
def TV(K:Frag)(C:Cg)(i:Nat)(wi:TI)(f:Fn (List PV)):Prop:=
 ∀ F H σ ρ R' r,RE K C.toCf F H σ ρ->Wt F σ i->f ρ=some r->Pr C F (λl=>∀ J F' H',Up F H F' H'->ItR K J F' l->R' J H') r->wi σ H R'
section
variable{K:Frag}{C:Cg}{te:TE}{t:TS}{f:Sn}{F H:Hp}{σ:St}{ρ:Rho}{D:Ends}{o:Out}
theorem TX{k:Key}:Rep K F (kV k) (Ye k):=by
 cases k with
 |inl i=>exact .int
 |inr z=>exact .str
theorem TY{i:Nat}{wi:TI}{it:Fn (List PV)}{gt:TG}{tg:PV->Rho->Option Rho}(hi:TV K C i wi it)(hg:MG K C gt tg)(hb:MS K C t f):MSh K C i (VJ wi gt t) (nU it tg f):=by
 intro F H σ ρ D o R hh e P;rcases cZ e with⟨z,e1,rfl⟩|⟨l,e1,hk⟩
 ·exact hi F H σ ρ _ _ R hh e1 P
 ·exact hi F H σ ρ _ _ R hh e1 λJ F' H' u hJ=>Bb hg hb hJ (R.up u) hk (P.up u.ff)
theorem lX{wi:TI}{it:Fn (List PV)}{fr:List (Option Nat)}{gt:TG}{tg:PV->Rho->Option Rho}{T:List Nat}{tc:TT}{tst:Fn Bool}{el:Fn PV}{i0:Nat}(hi:TV K C i0 wi it)(hg:MG K C gt tg)(hT:Wr T tg)(ht:MT K C tc tst)(he:MJ K C (aF K) te el)
  (hfr:T.all (λj=>fr[j]?==some none)=true:=by rfl):MOh K C i0 (Gb wi fr gt tc te) (jq it fr tg tst el):=by
 intro F H σ ρ Q r R hh e P;rcases bM e with⟨z,e1,rfl⟩|⟨l,e1,hk⟩
 ·exact hi F H σ ρ _ _ R hh e1 P
 split at hk
 case isFalse=>cases hk
 rename_i hlen;refine hi F H σ ρ _ _ R hh e1 λJ F1 H1 u hJ D hD=>?_;have R1:=R.up u;obtain⟨Rb,no⟩:=R1.block fr;have hD0:C.H0 D=none:=R1.rb.uf hD;have hFD:F1 D=none:=u.fh.free hD;have hρ:∀ (j:Nat),j∈T->(frR fr ρ)[j]?=some none:=λj hj=>by
  have:=ZaQ.mp hfr j hj;unfold frR;rw[List.getElem?_map,show fr[j]?=some none by simpa using this]
  rfl
 refine⟨λi m σ' H'=>∃ F' ys acc,m=l.length-i/\i<=l.length/\aU F1 F'/\(∀ b o,F' b=some o->F1 b=some o\/Frz H1 b o)/\aU H1 H'/\H' D=some (.lst ys)/\F' D=none/\bK K F' ys acc/\acc.length<=i /\
   RE K C.toCf F' H' σ' (frR fr ρ)/\bnd (fj tg tst el (frR fr ρ) (l.drop i)) (λr=>some (.ok (.lst (acc++r))))=some r,
  ⟨l.length,F1,[],[],by simp,Zba _,aU.refl _,λ_ _ q=>.inl q,dI hD,aN,hFD,.nil,Zak _,Rb.other hFD hD0 no,by rw[Zbo];exact hk⟩,?_⟩
 rintro i m σ' H' ⟨F',ys,acc,rfl,hil,s1,fr1,sH,eD,nD,ra,hacc,R',e'⟩;by_cases hlt:i<l.length
 case neg=>
  have ei:i=l.length:=by omega
  subst ei;rw[List.drop_length] at e';have e':some (Res.ok (PV.lst (acc++[])))=some r:=e';rw[Zbc] at e';cases e';exact .inl ⟨hJ.stop F' H' s1 R'.rb.sub,P D F' H' (u.trans ⟨s1,sH,fr1,R'.rb.sub⟩) (u.hh.free hD) nD ⟨ys,eD,ra⟩⟩
 refine .inr ⟨hJ.go i F' H' hlt s1 R'.rb.sub,λσ2 H2=>∃ F2 ys acc,aU F1 F2/\(∀ b o,F2 b=some o->F1 b=some o\/Frz H1 b o)/\aU H1 H2/\H2 D=some (.lst ys)/\F2 D=none/\bK K F2 ys acc/\acc.length<=i+1 /\
   RE K C.toCf F2 H2 σ2 (frR fr ρ)/\bnd (fj tg tst el (frR fr ρ) (l.drop (i+1))) (λr=>some (.ok (.lst (acc++r))))=some r,
  λσ2 H2 ⟨F2,ys,acc,z⟩=>⟨l.length-(i+1),by omega,F2,ys,acc,rfl,hlt,z⟩,λx H'' y=>?_⟩
 obtain⟨F'',p,u2,ep,rx⟩:=hJ.yld i F' H' x H'' hlt s1 R'.rb.sub y;have ed:l.drop i=p::l.drop (i+1):=by
  rw[ZaS hlt];rw[List.getElem?_eq_getElem hlt] at ep;rw[Zac ep]
 rw[ed,fj] at e';split at e'
 ·cases e'
 rename_i ρ1 h1;obtain⟨w1,w2,w3⟩:=hT p _ ρ1 h1;have no1:=w3 no;have weak:∀ (j:Nat) s,(frR fr ρ)[j]?=some (some s)->ρ1[j]?=some (some s):=λj s ej=>by
  rw[w2 j λz=>by rw[hρ j z] at ej;cases ej];exact ej
 refine hg F'' H'' σ' (frR fr ρ) x p ρ1 _ (R'.up u2) rx h1 λσ1 R1'=>?_;have stay:∀ {F3 H3:Hp},Up F' H' F3 H3->aU F1 F3/\(∀ b o,F3 b=some o->F1 b=some o\/Frz H1 b o)/\aU H1 H3/\H3 D=some (.lst ys)/\F3 D=none/\bK K F3 ys acc:=λ{F3 H3} u3=>by
  refine⟨s1.trans u3.ff,λb o q=>?_,sH.trans u3.hh,u3.hh _ _ eD,?_,ra.up u3.ff⟩
  ·rcases u3.fr b o q with z|z
   ·exact fr1 b o z
   ·exact .inr (z.imp (λz=>sH.free z) id)
  ·cases q:F3 D with
   |none=>rfl
   |some o=>
    rcases u3.fr D o q with z|z|⟨ys,z⟩
    ·rw[nD] at z;cases z
    ·rw[eD] at z;cases z
    ·subst z;have w:=u3.fh _ _ q;rw[u3.hh _ _ eD] at w;cases w
 have Pl:∀ {F3 H3:Hp},Up F' H' F3 H3->∀ {z:PV},r=.ex z->PX C F3 z:=λ{F3 H3} u3 {z} ez=>by
  subst ez;exact PX.up P (u.ff.trans (s1.trans u3.ff))
 rw[jY] at e';rcases bM e' with⟨z',e4,ez⟩|⟨b,e4,e5⟩
 ·exact ht F'' H'' σ1 ρ1 _ _ R1' e4 (Pl u2 ez)
 refine ht F'' H'' σ1 ρ1 _ _ R1' e4 λF3 H3 u3=>?_;have u23:=u2.trans u3;cases b with
 |false=>
  rw[Zad (by decide)] at e5 ⊢
  obtain⟨a1,a2,a3,a4,a5,a6⟩:=stay u23;exact⟨F3,ys,acc,a1,a2,a3,a4,a5,a6,by omega,(R1'.up u3).weak w1.symm weak,e5⟩
 |true=>
  rw[Zaf rfl] at e5 ⊢;rw[jY] at e5;rcases bM e5 with⟨z',e6,ez⟩|⟨q,e6,e7⟩
  ·exact he F3 H3 σ1 ρ1 _ _ (R1'.up u3) e6 (Pl u23 ez)
  refine he F3 H3 σ1 ρ1 _ _ (R1'.up u3) e6 λv F4 H4 u4 rv=>?_;have u24:=u23.trans u4;obtain⟨a1,a2,a3,a4,a5,a6⟩:=stay u24;refine⟨ys,a4,by rw[a6.1];omega,F4,ys++[v],acc++[q],a1,a2,Az hD a3,aN,a5,a6.snoc rv,by simp;omega,((R1'.up (u3.trans u4)).other a5 hD0 no1).weak w1.symm weak,?_⟩
  rw[jY] at e7;rw[<-e7];congr 1
  funext rr
  show some (Res.ok (PV.lst (acc++[q]++rr)))=some (Res.ok (PV.lst (acc++q::rr)))
  rw[Zay];rfl
def n6(i:Nat)(f:Fn PV):Fn PV:=λρ=>match ρ[i]? with
 |some (some (.sh p))=>if p.isD=true then f ρ else none
 |_=>none
theorem xm{io:Addr->Prop}{H0 F0:Hp}{fe:Fn PV}(i:Nat)(h:∀ H0 F0,MOh K (C0 io H0 F0) i te fe):MO K (C0 io H0 F0) (Qp i te) (n6 i fe):=by
 intro F H σ ρ Q r R e P;unfold n6 at e;split at e
 case h_2=>cases e
 rename_i p hp;split at e
 case isFalse=>cases e
 rename_i hd;obtain⟨v,ev,rv⟩:=R.sh i p hp;obtain⟨a,u,rfl,rd,hu⟩:∃ a u,v=.ref a/\Rd F a u/\kO u:=by
  cases rv with
  |dk h=>exact⟨_,_,rfl,h,trivial⟩
  |dt h=>exact⟨_,_,rfl,h,trivial⟩
  |_=>cases hd
 refine⟨a,u,ev,hu,?_⟩;rcases rd with fa|⟨raw,fa⟩
 case inr=>exact .inl ⟨⟨raw,R.rb.sub _ _ fa⟩,h H0 F0 F H σ ρ Q r R ⟨a,raw,u,ev,fa,hu⟩ e P⟩
 refine .inr ⟨R.rb.sub _ _ fa,λraw=>?_⟩;have ha:=R.rb.sub _ _ fa;obtain⟨R2,_⟩:=K1 (raw:=raw) R fa hu;refine h (du H0 a raw u) (du F0 a raw u) _ _ σ ρ _ r R2 ⟨a,raw,u,ev,aN,hu⟩ e ?_;cases r with
 |ex z=>exact λ_ _ _ _ _ _ x=>x.elim
 |ok q=>
  intro b F3 H3 u3 n1 n2 ow;have f3:F3 a=some (.frz raw u):=u3.ff _ _ aN;have h3:=u3.fh _ _ f3;have hb:b≠a:=λz=>by subst z;rw[f3] at n2;cases n2
  refine⟨h3,P b (upd F3 a u) (upd H3 a u) ⟨λc o' q=>?_,λc o' q=>?_,λc o' q=>?_,λc o' q=>?_⟩ (by rw[aG hb] at n1;exact n1) (by rw[aG hb];exact n2) (ow.sw ⟨λc hc=>aG hc,.inr ⟨raw,f3⟩,.inl aN,hu⟩ (aG hb))⟩
  ·by_cases hc:c=a
   ·subst hc;rw[aN,<-q,fa]
   ·rw[aG hc];exact u3.ff c o' (by rw[aG hc];exact q)
  ·by_cases hc:c=a
   ·subst hc;rw[aN,<-q,ha]
   ·rw[aG hc];exact u3.hh c o' (by rw[aG hc];exact q)
  ·by_cases hc:c=a
   ·subst hc;rw[aN] at q;cases q;exact .inl fa
   ·rw[aG hc] at q;rcases u3.fr c o' q with z|z|z
    ·rw[aG hc] at z;exact .inl z
    ·rw[aG hc] at z;exact .inr (.inl z)
    ·exact .inr (.inr z)
  ·by_cases hc:c=a
   ·subst hc;rw[aN] at q ⊢;exact q
   ·rw[aG hc] at q ⊢;exact u3.fh c o' q
end
structure Vp(a c:Addr)(F H F' H':Hp):Prop where
 ff:aU F F'
 hb:∀ b o,H b=some o->b≠a->b≠c->H' b=some o
 fr:∀ b o,F' b=some o->F b=some o\/Frz H b o
 fh:aU F' H'
def JS(K:Frag)(F:Hp)(a c:Addr)(p q:PV)(xs:List V)(l:List PV):Prop:=
 xs.length=l.length/\xs[0]?=some (.ref a)/\l[0]?=some p/\xs[1]?=some (.ref c)/\l[1]?=some q/\∀ (k:Nat) x r,2<=k->xs[k]?=some x->l[k]?=some r->Rep K F x r
def GP(K:Frag)(m:List PV->Option (Res PV)):Sp:=λvs H Q _=>∃ ps F a c p q p' q',aU F H/\JS K F a c p q vs ps/\a≠c/\Own K F H a p/\F a=none/\Own K F H c q/\F c=none/\m ps=some (.ok (.tup [p',q']))/\∀ F' H',Vp a c F H F' H'->Own K F' H' a p'->F' a=none->Own K F' H' c q'->F' c=none->Q .non H'
def fM(ps:List PV)(n:Nat):Rho:=(ps.mapIdx λk p=>some (if k<2 then Sl.ow p else Sl.sh p))++List.replicate n none
def yH:Option Out->Option (Res PV)
 |some (.nx ρ)=>match ownAt 0 ρ,ownAt 1 ρ with
  |some p,some q=>some (.ok (.tup [p,q]))
  |_,_=>none
 |_=>none
section
variable{K:Frag}{C:Cg}{N:List Str}{vs:List V}{H F:Hp}{Q:VK}{E:XK}{t:TS}{b:Sn}{m:List PV->Option (Res PV)}{ps:List PV}{a c:Addr}{p q:PV}{n:Nat}
theorem oh{i:Nat}{s:Sl}(e:(fM ps n)[i]?=some (some s)):∃ q,ps[i]?=some q/\s=if i<2 then Sl.ow q else Sl.sh q:=by
 unfold fM at e;by_cases hi:i<ps.length
 ·rw[Zal (by simpa using hi),List.getElem?_mapIdx] at e
  cases h:ps[i]? with
  |none=>rw[h] at e;cases e
  |some q=>rw[h] at e;exact⟨q,rfl,(Zac (Zac e)).symm⟩
 ·rw[Zat (by simpa using hi),Zbw] at e
  split at e<;>cases e
theorem pY{i:Nat}{x:PV}(r:JS K F a c p q vs ps)(e:(fM ps n)[i]?=some (some (.ow x))):(i=0/\x=p)\/(i=1/\x=q):=by
 obtain⟨q',e1,e2⟩:=oh e;by_cases hij:i<2
 ·rw[Zaf hij] at e2;cases e2;rcases(show i=0\/i=1 by omega) with rfl|rfl
  ·rw[r.2.2.1] at e1;cases e1;exact .inl ⟨rfl,rfl⟩
  ·rw[r.2.2.2.2.1] at e1;cases e1;exact .inr ⟨rfl,rfl⟩
 ·rw[Zad hij] at e2;cases e2
theorem GQ(s:aU F H)(r:JS K F a c p q vs ps)(ac:a≠c)(w:Own K F H a p)(hn:F a=none)(w2:Own K F H c q)(hn2:F c=none)(hN:N.length=vs.length+n):RE K ⟨λb=>b=a\/b=c,False,H,F,E⟩ F H (start N vs) (fM ps n) where
 rb:=⟨s,λ_ _ h _=>h,λ_ _ h=>.inl h,λb hb=>by
  obtain⟨o,eo⟩:=w.ne;obtain⟨o2,eo2⟩:=w2.ne;have h1:H b≠none:=by
   rcases hb with rfl|rfl
   ·rw[eo];simp
   ·rw[eo2];simp
  exact⟨h1,h1⟩⟩
 len:=by unfold start fM;rw[List.length_append,List.length_append,List.length_map,List.length_mapIdx,List.length_replicate,List.length_replicate,r.1,hN];have:=r.1;omega
 sh:=λi x e=>by
  obtain⟨q',e1,e2⟩:=oh e;by_cases hij:i<2
  ·rw[Zaf hij] at e2;cases e2
  ·rw[Zad hij] at e2;cases e2;have hi:i<vs.length:=by rw[r.1];exact cU e1
   exact⟨vs[i],jr (by simp[hi]),r.2.2.2.2.2 i _ _ (by omega) (by simp[hi]) e1⟩
 ow:=λi x e=>by
  rcases pY r e with⟨rfl,rfl⟩|⟨rfl,rfl⟩
  ·exact⟨a,jr r.2.1,w,hn,.inl (.inl rfl)⟩
  ·exact⟨c,jr r.2.2.2.1,w2,hn2,.inl (.inr rfl)⟩
 dis:=λi k x y d e e' f f'=>by
  rcases pY r e with⟨rfl,_⟩|⟨rfl,_⟩<;>rcases pY r e' with⟨rfl,_⟩|⟨rfl,_⟩
  ·rfl
  ·rw[jr r.2.1] at f;rw[jr r.2.2.2.1] at f';cases f;cases f';exact absurd rfl ac
  ·rw[jr r.2.2.2.1] at f;rw[jr r.2.1] at f';cases f;cases f';exact absurd rfl ac
  ·rfl
 dd:=⟨_,RD.no λi x e=>by
  obtain⟨q',e1,e2⟩:=oh e;by_cases hij:i<2
  ·rw[Zaf hij] at e2;cases e2
  ·rw[Zad hij] at e2;cases e2⟩
noncomputable abbrev C2(a c:Addr)(H0 F0:Hp):Cg:=⟨⟨λb=>b=a\/b=c,False,H0,F0,E0⟩,XR0⟩
theorem Nh{k:Nat}(hk:N.length=k+n)(hm:∀ ps r,m ps=some r->ps.length=k/\yH (b (fM ps n))=some r)(h:GP K m vs H Q E)(hS:∀ (a c:Addr) (H0 F0:Hp),MSk K (C2 a c H0 F0) 0 t b) :
  t { nx:=λ_ H'=>Q .non H',rt:=Q } (start N vs) H:=by
 obtain⟨ps,F,a,c,p,q,p',q',s,rp,ac,w,hn,w2,hn2,e,P⟩:=h;obtain⟨hl,e⟩:=hm ps _ e;have R:=GQ (E:=E0) (N:=N) (n:=n) s rp ac w hn w2 hn2 (by rw[rp.1,hl];exact hk)
 cases ho:b (fM ps n) with
 |none=>rw[ho] at e;cases e
 |some o=>
  rw[ho] at e;refine hS a c H F F H _ _ _ o R ho ?_;cases o with
  |nx ρ=>
   intro F' H' σ s' R' kk;rw[jr rp.2.1] at kk;have e:(match ownAt 0 ρ,ownAt 1 ρ with|some p,some q=>some (Res.ok (PV.tup [p,q]))|_,_=>none)=some (.ok (.tup [p',q'])):=e
   split at e
   ·rename_i x y h0 h1;cases e;obtain⟨b0,e1,e2,e3,e4⟩:=R'.ow 0 _ (bL h0);obtain⟨b1,f1,f2,f3,f4⟩:=R'.ow 1 _ (bL h1);rw[kk] at e1;cases e1;have hc:b1=c:=by
     rcases f4 with(z|z)|z
     ·subst z;exact absurd (R'.dis 0 1 _ _ _ (bL h0) (bL h1) kk f1) (by decide)
     ·exact z
     ·exact z.1.elim
    subst hc;exact P F' H' ⟨s',λb o q h1 h2=>R'.rb.keep b o q λz=>z.elim h1 h2,R'.rb.new,R'.rb.sub⟩ e2 e3 f2 f3
   ·cases e
  |_=>cases e
theorem Ni(h:GP K m vs H Q E){k:Nat}(hm:∀ ps r,m ps=some r->ps.length=k):vs.length=k:=by
 obtain⟨ps,F,a,c,p,q,p',q',s,rp,ac,w,hn,w2,hn2,e,P⟩:=h;rw[rp.1];exact hm ps _ e
theorem RE.Yi{F' H':Hp}{σ:St}{ρ:Rho}{p' q':PV}{i j:Nat}(R:RE K C.toCf F H σ ρ)(ij:i≠j)(e:ρ[i]?=some (some (.ow p)))(ea:σ[i]?=some (some (.ref a)))(f0:ρ[j]?=some (some (.ow q)))(fc:σ[j]?=some (some (.ref c)))
  (u:Vp a c F H F' H')(w:Own K F' H' a p')(hn:F' a=none)(w2:Own K F' H' c q')(hn2:F' c=none):RE K C.toCf F' H' σ ((ρ.set i (some (.ow p'))).set j (some (.ow q'))):=by
 obtain⟨a1,e1,e2,e3,e4⟩:=R.ow i p e;rw[ea] at e1;cases e1;obtain⟨c1,g1,g2,g3,g4⟩:=R.ow j q f0;rw[fc] at g1;cases g1;have own:∀ {b:Addr},b≠a->b≠c->∀ {x:PV},Own K F H b x->F b=none->Own K F' H' b x/\F' b=none:=λ{b} ha hc {x} ox fb=>by
  refine⟨ox.up u.ff λo q=>u.hb b o q ha hc,?_⟩;cases hF:F' b with
  |none=>rfl
  |some o=>
   obtain⟨ob,eob⟩:=ox.ne;rcases u.fr b o hF with z|z|⟨ys,z⟩
   ·rw[fb] at z;cases z
   ·rw[eob] at z;cases z
   ·subst z;have w:=u.fh _ _ hF;rw[u.hb b _ eob ha hc] at w;cases w;exact(ox.ww eob).elim
 have key:∀ {k:Nat}{x:PV},((ρ.set i (some (Sl.ow p'))).set j (some (Sl.ow q')))[k]?=some (some (.ow x))->(k=j/\x=q')\/(k=i/\x=p')\/(k≠i/\k≠j/\ρ[k]?=some (some (.ow x))):=λ{k x} f=>by
  rcases get_set f with⟨h1,h2⟩|⟨h1,h2⟩
  ·cases h2;exact .inl ⟨h1.symm,rfl⟩
  ·rcases get_set h2 with⟨h3,h4⟩|⟨h3,h4⟩
   ·cases h4;exact .inr (.inl ⟨h3.symm,rfl⟩)
   ·exact .inr (.inr ⟨Zbr h3,Zbr h1,h4⟩)
 have key':∀ {k:Nat}{x:PV},((ρ.set i (some (Sl.ow p'))).set j (some (Sl.ow q')))[k]?=some (some (.ow x))->∃ y,ρ[k]?=some (some (.ow y)):=λ{k x} f=>by
  rcases key f with⟨rfl,_⟩|⟨rfl,_⟩|⟨_,_,h⟩
  ·exact⟨q,f0⟩
  ·exact⟨p,e⟩
  ·exact⟨x,h⟩
 refine⟨⟨u.fh,λb o h n=>?_,λb o h=>?_,λb hb=>⟨?_,(R.rb.ios b hb).2⟩⟩,by simp[R.len],λk x f=>?_,λk x f=>?_,λk l x y b f f' h h'=>?_,?_⟩
 ·have h1:b≠a:=λz=>by
   subst z;rcases e4 with z|z
   ·exact n z
   ·rw[z.2] at h;cases h
  have h2:b≠c:=λz=>by
   subst z;rcases g4 with z|z
   ·exact n z
   ·rw[z.2] at h;cases h
  exact u.hb b o (R.rb.keep b o h n) h1 h2
 ·rcases u.fr b o h with z|z
  ·exact R.rb.new b o z
  ·exact .inr (z.imp (λz=>R.rb.uf z) id)
 ·by_cases hba:b=a
  ·subst hba;obtain⟨o,eo⟩:=w.ne;rw[eo];simp
  ·by_cases hbc:b=c
   ·subst hbc;obtain⟨o,eo⟩:=w2.ne;rw[eo];simp
   ·cases hb':H b with
    |none=>exact absurd hb' (R.rb.ios b hb).1
    |some o=>rw[u.hb b o hb' hba hbc];simp
 ·rcases get_set f with⟨h1,h2⟩|⟨h1,h2⟩
  ·cases h2
  ·rcases get_set h2 with⟨h3,h4⟩|⟨h3,h4⟩
   ·cases h4
   ·obtain⟨v,k1,k2⟩:=R.sh k x h4;exact⟨v,k1,k2.up u.ff⟩
 ·rcases key f with⟨rfl,rfl⟩|⟨rfl,rfl⟩|⟨k1,k2,h⟩
  ·exact⟨c,fc,w2,hn2,g4⟩
  ·exact⟨a,ea,w,hn,e4⟩
  ·obtain⟨b,h1,h2,h3,h4⟩:=R.ow k x h;have ha:b≠a:=λz=>by subst z;exact k1 (R.dis i k p x b e h ea h1).symm
   have hc:b≠c:=λz=>by subst z;exact k2 (R.dis j k q x b f0 h fc h1).symm
   exact⟨b,h1,(own ha hc h2 h3).1,(own ha hc h2 h3).2,h4⟩
 ·obtain⟨y1,k1⟩:=key' f;obtain⟨y2,k2⟩:=key' f';exact R.dis k l y1 y2 b k1 k2 h h'
 ·obtain⟨P,d⟩:=R.dd;have na:∀ k b,P k b->b≠a:=λk b z e'=>by subst e';exact d.ow k i p b z e ea
  have nc:∀ k b,P k b->b≠c:=λk b z e'=>by subst e';exact d.ow k j q b z f0 fc
  refine⟨P,λk b z=>?_,d.dis,λk l x b z f h=>?_,λk x f=>?_⟩
  ·obtain⟨a1,⟨o',a2,a3⟩,a4⟩:=d.own k b z;have hb':=u.hb b _ a2 (na k b z) (nc k b z);refine⟨?_,⟨o',hb',a3⟩,a4⟩;cases hF:F' b with
   |none=>rfl
   |some o=>
    rcases u.fr b o hF with w|w|⟨ys,w⟩
    ·rw[a1] at w;cases w
    ·rw[a2] at w;cases w
    ·subst w;have w:=u.fh _ _ hF;rw[hb'] at w;cases w;exact absurd rfl (a3 ys)
  ·obtain⟨y,k1⟩:=key' f;exact d.ow k l y b z k1 h
  ·rcases get_set f with⟨h1,h2⟩|⟨h1,h2⟩
   ·cases h2
   ·rcases get_set h2 with⟨h3,h4⟩|⟨h3,h4⟩
    ·cases h4
    ·obtain⟨w',k1,k2⟩:=d.dp k x h4;exact⟨w',k1,k2.up u.ff (λb o z q=>u.hb b o q (na k b z) (nc k b z)) λb ys q=>u.hb b _ q (λz=>by subst z;exact e2.ww q) λz=>by subst z;exact g2.ww q⟩
def xn(i j:Nat)(g:Fn (List PV)):Fn (List PV):=λρ=>match ownAt i ρ,ownAt j ρ with
 |some p,some q=>bnd (g ρ) λl=>some (.ok (p::q::l))
 |_,_=>none
def Nj(i j:Nat)(m:List PV->Option (Res PV))(g:Fn (List PV)):Sn:=λρ=>gw (xn i j g ρ) λl=>match m l with
 |some (.ok (.tup [p',q']))=>some (.nx ((ρ.set i (some (.ow p'))).set j (some (.ow q'))))
 |_=>none
theorem Wu{i j:Nat}{ts:TA}{g:Fn (List PV)}{m:List PV->Option (Res PV)}(ij:i≠j)(h:MA K C ts g):MS K C (Fw (xU (GP K m) [] C.E (j8 (m5 i) (j8 (m5 j) ts)))) (Nj i j m g):=by
 intro F H σ ρ D o R e P;unfold Nj xn at e;cases hp:ownAt i ρ with
 |none=>rw[hp] at e;cases e
 |some p=>
 cases hq:ownAt j ρ with
 |none=>rw[hp,hq] at e;cases e
 |some q=>
 rw[hp,hq] at e;have ep:=bL hp;have eq:=bL hq;obtain⟨a,ea,_⟩:=R.ow i p ep;obtain⟨c,ec,_⟩:=R.ow j q eq;refine⟨_,ea,_,ec,?_⟩;rcases cZ e with⟨z,e1,rfl⟩|⟨l,e1,e2⟩
 ·rcases bM e1 with⟨z',e3,ez⟩|⟨l,e3,e4⟩
  ·cases ez;exact h F H σ ρ _ _ R e3 P
  ·cases e4
 ·rcases bM e1 with⟨z',e3,ez⟩|⟨l',e3,e4⟩
  ·cases ez
  cases e4;refine h F H σ ρ _ _ R e3 λxs F1 H1 u rr=>?_;have R1:=R.up u;obtain⟨a',ea',w1,n1,_⟩:=R1.ow i p ep;obtain⟨c',ec',w2,n2,_⟩:=R1.ow j q eq;rw[ea] at ea';cases ea';rw[ec] at ec';cases ec';have ac:a≠c:=λz=>by subst z;exact ij (R.dis i j p q a ep eq ea ec)
  split at e2
  ·rename_i p' q' hm;cases e2;refine⟨p::q::l',F1,a,c,p,q,p',q',u.fh,⟨by simp[rr.1],rfl,rfl,rfl,rfl,λk x r hk ex er=>?_⟩,ac,w1,n1,w2,n2,hm,λF2 H2 u2 o1 m1 o2 m2=>?_⟩
   ·obtain⟨k,rfl⟩:∃ k',k=k'+2:=⟨k-2,by omega⟩
    exact rr.2 k x r (by simpa using ex) (by simpa using er)
   ·exact P F2 H2 σ (u.ff.trans u2.ff) (R1.Yi ij ep ea eq ec u2 o1 m1 o2 m2)
  ·cases e2
theorem GR{k i:Nat}{te tb:TE}{fe fk:Fn PV}(he:MJ K C (aF K) te fe)(hk:MJ K C (aF K) tb fk):MSk K C k (O4 (m5 i) tb te) (ur i fe fk):=by
 intro F H σ ρ D o R e P;refine he.Qj R e P λp v F1 H1 hk1 u a=>?_;split at hk1
 case h_2=>cases hk1
 rename_i d hd;obtain⟨b,g1,_⟩:=R.ow i _ (bL hd);refine⟨_,g1,hk.Qj (R.up u) hk1 (P.up u.ff) λkk w F2 H2 hk2 u2 rk=>?_⟩;split at hk2
 case h_2=>cases hk2
 rename_i d' hd';cases hk2;have R2:=R.up (u.trans u2);obtain⟨a',k1,k2,_⟩:=R2.ow i _ (bL hd);rw[g1] at k1;cases k1;obtain⟨ob,g,w'⟩:=Ds u2.fh k2 rk (Rep.up a u2.ff) hd';exact⟨b,_,rfl,g,P F2 _ σ (u.trans u2).ff (R2.write (bL hd) g1 w') rfl⟩
theorem Nk{k:Nat}{c:TT}{fc:Fn Bool}{f:Sn}(n:Nat)(hc:MT K C c fc)(hb:MSk K C k t f):MSk K C k (Jk c t) (ik fc f n):=by
 intro F H σ ρ D o R e P;refine⟨λm σ' H'=>∃ F' ρ',aU F F'/\RE K C.toCf F' H' σ' ρ'/\σ'[k]?=σ[k]?/\ik fc f m ρ'=some o,⟨n,F,ρ,aU.refl _,R,rfl,e⟩,?_⟩;rintro m σ' H' ⟨F',ρ',s,R',kk,e'⟩;cases m with
 |zero=>cases e'
 |succ m=>
  refine hc.Qj R' e' (P.up s) λb F1 H1 hk u=>?_;have sF:aU F F1:=s.trans u.ff;have R1:=R'.up u;cases b with
  |false=>
   rw[Zad (by decide)] at hk ⊢
   cases hk;exact P F1 H1 σ' sF R1 kk
  |true=>
   rw[Zaf rfl] at hk ⊢;refine⟨λσ2 H2=>∃ F2 ρ2,aU F F2/\RE K C.toCf F2 H2 σ2 ρ2/\σ2[k]?=σ[k]?/\ik fc f m ρ2=some o,λσ2 H2 ⟨F2,ρ2,s2,R2,k2,e2⟩=>⟨m,Nat.lt_succ_self _,F2,ρ2,s2,R2,k2,e2⟩,?_⟩;split at hk
   ·rename_i ρ2 h2;exact hb F1 H1 σ' ρ' _ _ R1 h2 λF3 H3 σ3 s3 R3 k3=>⟨F3,ρ2,sF.trans s3,R3,k3.trans kk,hk⟩
   ·rename_i ρ2 h2;exact hb F1 H1 σ' ρ' _ _ R1 h2 λF3 H3 σ3 s3 R3 k3=>⟨F3,ρ2,sF.trans s3,R3,k3.trans kk,hk⟩
   ·rename_i ρ2 h2;cases hk;exact hb F1 H1 σ' ρ' _ _ R1 h2 λF3 H3 σ3 s3 R3 k3=>P F3 H3 σ3 (sF.trans s3) R3 (k3.trans kk)
   ·rename_i n1 n2 n3;cases o with
    |nx ρ2=>exact absurd hk (n1 ρ2)
    |ct ρ2=>exact absurd hk (n2 ρ2)
    |bk ρ2=>exact absurd hk (n3 ρ2)
    |rt p=>exact hb F1 H1 σ' ρ' _ _ R1 hk (POk.up (D:=D) (c:=σ[k]?) P sF)
    |ro p=>exact hb F1 H1 σ' ρ' _ _ R1 hk (POk.up (D:=D) (c:=σ[k]?) P sF)
    |rd p=>exact hb F1 H1 σ' ρ' _ _ R1 hk (POk.up (D:=D) (c:=σ[k]?) P sF)
    |ex z=>exact hb F1 H1 σ' ρ' _ _ R1 hk (PX.up P sF)
end
end L2.MP
namespace L2
open PySem PySem.Spec PyProof PyProof.Rows
namespace MP
end MP
namespace MP
end MP
theorem Dz{h:Heap}{vs:List Value}{out:Array Value}{b:Addr}{o:Obj}(hb:h.get? b=some o):(sortedHeap (h.push (seqObj "list" vs.toArray 0)) h.objs.size vs out).get? b=some o:=by
 have hlt:b<h.objs.size:=Zao hb;rw[sortedHeap_old (ZaG hlt) (by rw[size_push'];exact Nat.lt_succ_of_lt hlt)]
 exact Zah _ hb
namespace MP
end MP
end L2
namespace L2.MP
open PySem PySem.Spec PyProof.Rows
section
variable{K:Frag}{C:Cg}{te:TE}{F F' G H H1 H':Hp}{σ:St}{ρ:Rho}{D:Ends}{t:TS}{f:Sn}{o:Out}{S:Addr->Prop}{v:V}{p:PV}
theorem Rep.pK:∀ {n:Nat}{v:V}{p:PV},Rep K F v p->MP.pK n p=true->(∀ b ys,F b=some (.tup ys)->G b=some (.tup ys))->Rep K G v p
 |0,v,p,h,hs,g=>h.free hs
 |n+1,v,p,h,hs,g=>by
  cases h with
  |non=>exact .non
  |bl=>exact .bl
  |int=>exact .int
  |str=>exact .str
  |ty=>exact .ty
  |tup h hl hr=>exact .tup (g _ _ h) hl λj x p a b=>(hr j x p a b).pK (n:=n) (ZaQ.mp hs p (Zag b)) g
  |lst=>cases hs
  |dk=>cases hs
  |dt=>cases hs
  |exc=>cases hs
  |exc0=>cases hs
theorem Dp.toG(d:Dp K F H S v p)(g:∀ b ys,F b=some (.tup ys)->G b=some (.tup ys)):Dp K G H S v p:=by
 induction d with
 |fr h st=>exact .fr (h.pK st g) st
 |lst h hp hs dj hl _ ih=>exact .lst h hp hs dj hl ih
 |tup h hs dj hl _ ih=>exact .tup h hs dj hl ih
 |dk h hp hs dj hl _ ih=>exact .dk h hp hs dj hl ih
 |dt h hp hs dj hl _ ih=>exact .dt h hp hs dj hl ih
def DG(m:List PV->Option (Res PV))(f:Fn (List PV)):Fn PV:=λρ=>bnd (f ρ) λl=>match m l with
 |some (.ok p)=>some (.ok p)
 |_=>none
theorem Qq{t:TA}{f:Fn (List PV)}{m:List PV->Option (Res PV)}(h:MAL K C t f):MD K C (xU (spD K C.XR m) [] C.E t) (DG m f):=by
 intro F H σ ρ Q r R e P;refine h.run R e P λl xs F1 H1 hk u a=>?_;split at hk
 ·rename_i p hp;cases hk;refine⟨l,H1,.ok p,aU.refl _,by rw[Zbc];exact a,hp,λv F' H' S u' d n=>?_⟩
  have s1:aU F1 H':=u.fh.trans u'.hh;refine P v (uy F1 H' λ_=>False) H' S ⟨u.ff.trans (g8 s1),u.hh.trans u'.hh,λb o q=>?_,pX s1⟩ (d.toG λb ys q=>?_) λb q=>?_
  ·by_cases hb:False\/∃ ys,H' b=some (.tup ys)
   ·rw[gH hb] at q;obtain⟨ys,z⟩:=hb.resolve_left id;rw[z] at q;cases q;exact .inr (.inr ⟨ys,rfl⟩)
   ·rw[fL hb] at q;exact u.fr b o q
  ·have:=u'.fh _ _ q;rw[gH (.inr ⟨ys,this⟩)];exact this
  ·obtain⟨n1,n2,o,n3,n4⟩:=n b q;refine⟨u.hh.free n1,?_,o,n3,n4⟩;rw[fL]
   ·exact u.fh.free n1
   ·rintro(z|⟨ys,z⟩)
    ·exact z
    ·rw[n3] at z;cases z;exact n4 ys rfl
 ·cases hk
def wF(i:Nat)(f:Sn):Sn:=λρ=>match uA i ρ with
 |some p=>f (ρ.set i (some (.sh p)))
 |none=>none
theorem DK(i:Nat)(h:MS K C t f):MS K C t (wF i f):=by
 intro F H σ ρ D o R e P;unfold wF at e;split at e
 ·rename_i p hp;obtain⟨S,v,_,_,_,R'⟩:=R.Ql (dG hp);exact h _ H σ _ D o R' e (P.up (g8 R.rb.sub))
 ·cases e
def YT(C:Cf)(js:List Nat)(ρ:Rho)(σ:St)(H F' H':Hp)(S:Addr->Prop):Prop:=∀ b,S b->(H b=none\/∃ i p,i∈js/\ρ[i]?=some (some (.ow p))/\σ[i]?=some (some (.ref b)))/\F' b=none/\(∃ o,H' b=some o/\∀ ys,o≠.tup ys)/\C.H0 b=none
def MDo(K:Frag)(C:Cg)(js:List Nat)(ta:TA)(f:Fn (List PV)):Prop:=
 ∀ F H σ ρ Q r,RE K C.toCf F H σ ρ->f ρ=some r->Pr C F (λl=>∀ xs F' H' S,Up F H F' H'->Dps K F' H' S xs l->YT C.toCf js ρ σ H F' H' (λb=>∃ j,S j b)->Q xs H') r->ta σ H Q
theorem K3:MDo K C [] wL bF:=λF H σ ρ Q r R e P=>by
 cases e;exact P [] F H (λ_ _=>False) (Up.refl R.rb.sub) ⟨rfl,λ_ _ _ q=>q.elim,λj x p e=>by simp at e⟩ λb ⟨_,q⟩=>q.elim
theorem GX{js:List Nat}{fe:Fn PV}{fs:Fn (List PV)}{ts:TA}(h:MD K C te fe)(hs:MDo K C js ts fs):MDo K C js (j8 te ts) (aC fe fs):=by
 intro F H σ ρ Q r R e P;rcases bM e with⟨z,e1,rfl⟩|⟨p,e1,hk⟩
 ·exact h F H σ ρ _ _ R e1 P
 refine h F H σ ρ _ _ R e1 λv F1 H1 S u d n=>?_;rcases bM hk with⟨z,e2,rfl⟩|⟨l,e2,hk2⟩
 ·exact hs F1 H1 σ ρ _ _ (R.up u) e2 (PX.up P u.ff)
 refine hs F1 H1 σ ρ _ _ (R.up u) e2 λxs F2 H2 S2 u2 d2 n2=>?_;cases hk2;have ap:∀ b j,S b->S2 j b->False:=λb j a1 a2=>by
  obtain⟨c0,_,o,c1,_⟩:=n b a1;rcases(n2 b ⟨j,a2⟩).1 with c2|⟨i,q,_,c2,c3⟩
  ·rw[c1] at c2;cases c2
  ·exact R.apart c0 i q c2 c3
 refine P (v::xs) F2 H2 (λj b=>match j with|0=>S b|j+1=>S2 j b) (u.trans u2) ⟨by simp[d2.1],λi j b a1 a2=>?_,λj x q a1 a2=>?_⟩ ?_
 ·match i,j,a1,a2 with
  |0,0,_,_=>rfl
  |0,j+1,a1,a2=>exact(ap b j a1 a2).elim
  |i+1,0,a1,a2=>exact(ap b i a2 a1).elim
  |i+1,j+1,a1,a2=>exact Zbg (·+1) (d2.2.1 i j b a1 a2)
 ·match j,a1,a2 with
  |0,a1,a2=>cases a1;cases a2;exact d.stay u2
  |j+1,a1,a2=>exact d2.2.2 j x q (by simpa using a1) (by simpa using a2)
 ·rintro b ⟨j,q⟩
  match j,q with
  |0,q=>
   obtain⟨c0,c1,o,c2,c3⟩:=(n.up u2) b q;exact⟨.inl c0,c1,⟨o,c2,c3⟩,R.rb.uf c0⟩
  |j+1,q=>
   obtain⟨c1,c2⟩:=n2 b ⟨j,q⟩;exact⟨c1.imp (λz=>u.hh.free z) id,c2⟩
def PV.ou:PV->Bool
 |.lst l=>l.all PV.still
 |.dk l=>l.all λkv=>kv.2.still
 |.dt l=>l.all λkv=>kv.2.still
 |_=>false
def rA(i:Nat):Fn PV:=λρ=>match ownAt i ρ with
 |some p=>if p.ou=true then some (.ok p) else none
 |none=>none
theorem Own.dp{a:Addr}(w:Own K F H a p)(h:p.ou=true):Dp K F H (λb=>b=a) (.ref a) p:=by
 cases p with
 |lst l=>
  obtain⟨xs,e2,e3⟩:=w;exact .lst (S:=λ_ _=>False) e2 rfl (λj b q=>q.elim) (λi j b q=>q.elim) e3.1 λj x p e4 e5=>.fr (e3.2 j x p e4 e5) (ZaQ.mp h p (Zag e5))
 |dk l=>
  obtain⟨xs,e2,e3,e4⟩:=w;exact .dk (S:=λ_ _=>False) e2 rfl (λj b q=>q.elim) (λi j b q=>q.elim) e3 λj x p e5 e6=>.fr (e4 j x p e5 e6) (ZaQ.mp h p (Zag e6))
 |dt l=>
  obtain⟨xs,e2,e3,e4⟩:=w;exact .dt (S:=λ_ _=>False) e2 rfl (λj b q=>q.elim) (λi j b q=>q.elim) e3 λj x p e5 e6=>.fr (e4 j x p e5 e6) (ZaQ.mp h p (Zag e6))
 |_=>cases h
theorem xq{js:List Nat}(i:Nat){fs:Fn (List PV)}{ts:TA}(hio:∀ a,¬C.io a)(hi:i ∉ js)(hs:MDo K C js ts fs):MDo K C (i::js) (j8 (m5 i) ts) (aC (rA i) fs):=by
 intro F H σ ρ Q r R e P;rcases bM e with⟨z,e1,rfl⟩|⟨p,e1,hk⟩
 ·unfold rA at e1;split at e1
  ·split at e1<;>cases e1
  ·cases e1
 have hp:ρ[i]?=some (some (.ow p))/\p.ou=true:=by
  unfold rA at e1;split at e1
  ·rename_i q hq;split at e1
   ·rename_i sh;cases e1;exact⟨bL hq,sh⟩
   ·cases e1
  ·cases e1
 obtain⟨a,ea,w,na,e4⟩:=R.ow i p hp.1;refine⟨_,ea,?_⟩;rcases bM hk with⟨z,e2,rfl⟩|⟨l,e2,hk2⟩
 ·exact hs F H σ ρ _ _ R e2 P
 refine hs F H σ ρ _ _ R e2 λxs F2 H2 S2 u2 d2 n2=>?_;cases hk2;obtain⟨a',ea',w2,na2,_⟩:=(R.up u2).ow i p hp.1;rw[ea] at ea';cases ea';obtain⟨ob,eob⟩:=w.ne;have ap:∀ j,S2 j a->False:=λj q=>by
  rcases(n2 a ⟨j,q⟩).1 with c|⟨k,q',hk',c2,c3⟩
  ·rw[eob] at c;cases c
  ·have:=R.dis i k p q' a hp.1 c2 ea c3;subst this;exact hi hk'
 refine P (.ref a::xs) F2 H2 (λj b=>match j with|0=>b=a|j+1=>S2 j b) u2 ⟨by simp[d2.1],λi j b a1 a2=>?_,λj x q a1 a2=>?_⟩ ?_
 ·match i,j,a1,a2 with
  |0,0,_,_=>rfl
  |0,j+1,a1,a2=>cases a1;exact(ap j a2).elim
  |i+1,0,a1,a2=>cases a2;exact(ap i a1).elim
  |i+1,j+1,a1,a2=>exact Zbg (·+1) (d2.2.1 i j b a1 a2)
 ·match j,a1,a2 with
  |0,a1,a2=>cases a1;cases a2;exact w2.dp hp.2
  |j+1,a1,a2=>exact d2.2.2 j x q (by simpa using a1) (by simpa using a2)
 ·rintro b ⟨j,q⟩
  match j,q with
  |0,q=>
   cases q;obtain⟨ob2,eob2⟩:=w2.ne;exact⟨.inr ⟨i,p,List.mem_cons_self,hp.1,ea⟩,na2,⟨ob2,eob2,λys z=>by subst z;exact w2.ww eob2⟩,(e4.resolve_left (hio a)).2⟩
  |j+1,q=>
   obtain⟨c1,c2⟩:=n2 b ⟨j,q⟩;exact⟨c1.imp id λ⟨k,q',hk',z⟩=>⟨k,q',List.mem_cons_of_mem _ hk',z⟩,c2⟩
def GZ(fs:Fn (List PV)):Sn:=λρ=>gw (fs ρ) λl=>if l.length<=sizeLine then some (.rd (.tup l)) else none
theorem K4{js:List Nat}{fs:Fn (List PV)}{ts:TA}(h:MDo K C js ts fs):MS K C (Jj (R9 ts)) (GZ fs):=by
 intro F H σ ρ D o R e P;rcases cZ e with⟨z,e1,rfl⟩|⟨l,e1,hk⟩
 ·exact h F H σ ρ _ _ R e1 P
 split at hk
 ·rename_i hl;cases hk;refine h F H σ ρ _ _ R e1 λxs F1 H1 S u d n=>⟨by rw[d.1];exact hl,λa ha=>?_⟩
  have u2:Up F1 H1 F1 (upd H1 a (.tup xs)):=⟨aU.refl _,dI ha,λ_ _ q=>.inl q,λb o q=>by rw[aG (λz=>by subst z;have:=u.fh _ _ q;rw[ha] at this;cases this)];exact u.fh b o q⟩
  refine P (.ref a) F1 _ (λb=>∃ j,S j b) u.ff (R.rb.up (u.trans u2)) (.tup aN (λj b q=>⟨j,q⟩) d.2.1 d.1 λj x p a1 a2=>(d.2.2 j x p a1 a2).stay u2) λb q=>?_;obtain⟨_,c1,⟨o,c2,c3⟩,c4⟩:=n b q;exact⟨c1,⟨o,u2.hh _ _ c2,c3⟩,c4⟩
 ·cases hk
end
open PySem PySem.Spec PyProof PyProof.Rows
end L2.MP
namespace L2
open PySem PySem.Spec PyProof PyProof.Rows
def qU(h:Heap)(d:Addr)(es:Array DictEntry)(ep:Nat):Prop:=∃ o,h.get? d=some o/\o.ExactDict/\o.data=.dict es ep
section
variable{prog:Program}{w:World}{A:Around}{E:Value->Shared->Prop}{s:Shared}{h h':Heap}{d it:Addr}{es:Array DictEntry}{ep i:Nat}
theorem qU.step(r:qU h d es ep)(k:∀ o,h.get? d=some o->h'.get? d=some o):qU h' d es ep:=by
 obtain⟨o,e,q⟩:=r;exact⟨o,k o e,q⟩
theorem qU.small(r:qU h d es ep):d<h.objs.size:=by obtain⟨o,e,_⟩:=r;exact Zao e
theorem qU.ty(r:qU s.heap d es ep):s.TypeIs (.ref d) "dict":=by
 obtain⟨o,e,c,_⟩:=r;exact⟨o,e,c.1⟩
theorem Ha{Q:Value->Shared->Prop}(nd:(d==sysModules)=false)(r:qU s.heap d es ep)
  (q:Q (.ref s.heap.objs.size) { s with heap:=s.heap.push { cls:=.type "dict_keyiterator",data:=.fields #[.ref d,.int 0 0,.int es.size 0,.int ep 0] } }):wpAny (model prog w) A (pyIter (.ref d)) Q E s:=by
 obtain⟨o,e1,e2,e3⟩:=id r;refine wpAny_pyIter_slot r.ty PySem.F.slot_dict_iter (wpAny_call_entry PySem.F.slot_dict_iter r.ty PySem.F.entry_dict_iter ?_ (PySem.F.args_dict_iter_1 _));unfold Builtin.«dict.__iter__»;refine Zaa (m:=Builtin.Dict.dictSlotNone _ _) ?_;unfold Builtin.Dict.dictSlotNone;refine Zaa (wpAny_notOrdered_dict r.ty (Zae ?_));show wpAny _ _ (Builtin.Dict.showsAll d>>=_) _ _ _
 unfold Builtin.Dict.showsAll;rw[nd,Zad Zbt];refine Zaa (Zae (Zaa (wpAny_dictEntries e1 e3 (Zaa (wpAny_dictEpoch e1 e3 ?_)))));refine Zaa (Za3 (Zae ⟨_,rfl,"dict_keyiterator",_,⟨_,Zaq _ rfl,rfl⟩,Zbd.lookup,?_⟩));simpa[rawInt] using q
theorem Qs{Q:Option Value->Shared->Prop}{x:DictEntry}(hi:s.heap.IsKeyIter it d i es.size ep)(r:qU s.heap d es ep)(hx:es[i]?=some x)
  (q:∀ h',h'.IsKeyIter it d (i+1) es.size ep->Heap.SameBut it s.heap h'->Q (some x.key) { s with heap:=h' }):wpAny (model prog w) A (pyNext (.ref it)) Q E s:=by
 obtain⟨io,i1,i2,i3⟩:=id hi;obtain⟨o,e1,e2,e3⟩:=id r;have lt:i<es.size:=by
  rcases Nat.lt_or_ge i es.size with z|z
  ·exact z
  ·rw[ZbW z] at hx;cases hx
 have ex:es[i]=x:=by rw[ZaD lt] at hx;exact Zac hx
 unfold pyNext;refine Zaa (wpAny_attempt (wpAny_callSpecial?_slot (name:=Str.ofString "__next__") hi.typeIs Zbd (wpAny_call_entry Zbd hi.typeIs PySem.F.entry_dict_keyiterator_next ?_ (PySem.F.args_dict_keyiterator_next_1 _))));refine Zaa (Zae (Zaa (Zaa ?_)))
 first
  |refine Zaa (wpAny_typeNameOfWhole_keyiter hi.typeIs (Zae ?_))
  |refine Zaa (wpAny_typeNameOf_keyiter hi.typeIs (Zae ?_))
 refine Zaa (wpAny_fieldsOf i1 i3 ?_);simp only[show Builtin.Dict_items.ownsTuple "dict_keyiterator"=false by decide,Zbf,Zbh]
 show wpAny _ _ (if(Value.ref d==.none)=true then _ else _) _ _ _
 rw[Zad (show ¬(Value.ref d==.none)=true from Zbt)];refine Zaa (Zae (Zaa (wpAny_dictEntries e1 e3 ?_)));rw[Zad (by simp)]
 refine Zaa (Zae (Zaa (wpAny_dictEpoch e1 e3 ?_)));rw[Zad (by simp)]
 refine Zae ?_;simp only[show ¬((i:Int)<0) by lia,Zbh,ZaP,ZaD lt]
 refine Zaa ?_
 first
  |refine Zaa (wpAny_typeNameOfWhole_keyiter hi.typeIs (Zae ?_))
  |refine Zaa (wpAny_typeNameOf_keyiter hi.typeIs (Zae ?_))
 refine Zaa (wpAny_isOneOf_keyiter hi.typeIs ?_);show wpAny _ _ (setField (.ref it) 1 (rawInt ((i:Int)+1))>>=_) _ _ _
 refine Zaa (wpAny_setField i1 i3 (by simp) ?_)
 have next:(s.heap.update it (Obj.mapFields (·.setIfInBounds 1 (rawInt ((i:Int)+1))))).IsKeyIter it d (i+1) es.size ep:=
  ⟨_,Heap.get?_update_self _ i1 (Obj.isFreed_of_fields (Obj.data_mapFields i3 _)),(Obj.cls_mapFields ..).trans i2,by rw[Obj.data_mapFields i3];simp[rawInt]⟩
 refine Zaa (Zbj (Zaa (wpAny_isOneOf_keyiter (s:={ s with heap:=s.heap.update it (Obj.mapFields (·.setIfInBounds 1 (rawInt ((i:Int)+1)))) }) next.typeIs ?_)));show wpAny _ _ (pure es[i].key) _ _ _
 rw[ex];exact Zae (Zae ⟨_,rfl,Zae (q _ next (ZbH ..))⟩)
theorem T3{Q:Option Value->Shared->Prop}(hh:A.handled=none)(hi:s.heap.IsKeyIter it d es.size es.size ep)(r:qU s.heap d es ep)
  (q:∀ h',Heap.ExtBut it s.heap h'->Q none { s with heap:=h' }):wpAny (model prog w) A (pyNext (.ref it)) Q E s:=by
 obtain⟨io,i1,i2,i3⟩:=id hi;obtain⟨o,e1,e2,e3⟩:=id r;unfold pyNext;refine Zaa (wpAny_attempt (wpAny_callSpecial?_slot (name:=Str.ofString "__next__") hi.typeIs Zbd (wpAny_call_entry Zbd hi.typeIs PySem.F.entry_dict_keyiterator_next ?_ (PySem.F.args_dict_keyiterator_next_1 _))));refine Zaa (Zae (Zaa (Zaa ?_)))
 first
  |refine Zaa (wpAny_typeNameOfWhole_keyiter hi.typeIs (Zae ?_))
  |refine Zaa (wpAny_typeNameOf_keyiter hi.typeIs (Zae ?_))
 refine Zaa (wpAny_fieldsOf i1 i3 ?_);simp only[show Builtin.Dict_items.ownsTuple "dict_keyiterator"=false by decide,Zbf,Zbh]
 show wpAny _ _ (if(Value.ref d==.none)=true then _ else _) _ _ _
 rw[Zad (show ¬(Value.ref d==.none)=true from Zbt)];refine Zaa (Zae (Zaa (wpAny_dictEntries e1 e3 ?_)));rw[Zad (by simp)]
 refine Zaa (Zae (Zaa (wpAny_dictEpoch e1 e3 ?_)));rw[Zad (by simp)]
 refine Zae ?_;simp only[show ¬((es.size:Int)<0) by omega,Zbh,ZaP,ZbW (Zak _)]
 refine Zaa ?_
 first
  |refine Zaa (wpAny_typeNameOfWhole_keyiter hi.typeIs (Zae ?_))
  |refine Zaa (wpAny_typeNameOf_keyiter hi.typeIs (Zae ?_))
 show wpAny _ _ (setField (.ref it) 0 .none>>=_) _ _ _
 refine Zaa (wpAny_setField i1 i3 (by simp) ?_)
 show wpAny _ _ (newExc (.type "StopIteration") []>>=_) _ _ _
 refine Zaa ?_;simp only[newExc,newTuple];refine Zaa (Za3 ?_ (by size_fits))
 refine Zaa (m:=firstArgMember _ _) (wpAny_of_eq (a:=.none) (by first|rfl|(simp only[firstArgMember];rfl)) (Za3 ?_ (by size_fits)))
 simp only[raiseNew];refine Zaa (wpAny_handled ?_);rw[show A.in1.handled=none from hh];refine Zaa (Zae (wpAny_throw ?_));refine Zaa (wpAny_isInstance (T:="StopIteration") (b:=true) ⟨_,Zaq _ rfl,rfl⟩ isSubtype_stop ?_);exact Zae (q _ (((ZbH ..).extBut.push _).push _))
theorem vP(hh:A.handled=none)(I d:Addr)(ne:d≠I)(es:Array DictEntry)(ep:Nat) :
  Walks prog w A I [I,d] [I] es.size (λi v=>∃ x,es[i]?=some x/\v=x.key) (λi h=>h.IsKeyIter I d i es.size ep/\qU h d es ep) where
 sub:=λb hb=>by simp at hb;simp[hb]
 frame:=λ_ _ _ z k=>⟨z.1.at λo e=>k I (by simp) o e,z.2.step λo e=>k d (by simp) o e⟩
 item:=λi s Q E lt z q=>Qs z.1 z.2 (ZaD lt) λh' a b=>q _ h' s.toks ⟨_,ZaD lt,rfl⟩ ⟨a,z.2.step λo e=>b.extBut d o ne e⟩ λc o hc e=>b.extBut c o (λy=>hc (by simp[y])) e
 done:=λs Q E z q=>T3 hh z.1 z.2 λh' b=>q h' s.toks λc o hc e=>b c o (λy=>hc (by simp[y])) e
 self:=λ_ _ _ _ z q=>wpAny_pyIter_keyiter z.1 q
theorem T4(nd:(d==sysModules)=false):PySem.W.KdlSrc prog w "dict" d d es.size (λi v=>∃ x,es[i]?=some x/\v=x.key) (λh=>qU h d es ep) where
 type:=λ_ z=>z.ty
 there:=λ_ z=>⟨z.small,z.small⟩
 keep:=λ_ _ z k=>z.step λo e=>k d (.inl rfl) o e
 notList:=by decide
 notTuple:=by decide
 hint:=λ_ _ _ _ z q=>PySem.W.kdl_hint_dict z.ty q
 iter:=λ_ _ hh z=>⟨_,_,(λ_ _ q=>Ha nd z q),vP hh _ d (ZaG z.small) es ep,⟨⟨_,Zaq _ rfl,rfl,rfl⟩,z.step λ_ e=>Zah _ e⟩⟩
end
open PySem PySem.W PyProof.Rows
def kIn{α:Type}(n:Nat)(P:α->Prop):KasT α->Prop
 |.ret a=>P a
 |.ask i j k=>i<n/\j<n/\∀ b,kIn n P (k b)
open PySem PySem.Spec PySem.W PyProof PyProof.Rows
open PySem PySem.Spec PySem.W PyProof PyProof.Rows
theorem KT.at{H:Hp}{kvs:List (List Key×V)}{xs:List (List Key×Addr×Value)}(r:KT H kvs xs):xs.length=kvs.length/\∀ (i:Nat) k,(kvs.map (·.1))[i]?=some k->∃ b u,xs[i]?=some (k,b,u)/\H b=some (.tup (k.map kV)):=by
 induction r with
 |nil=>exact⟨rfl,λi k h=>by simp at h⟩
 |@cons p q ps qs hq t ih=>
  refine⟨by simp[ih.1],λi k h=>?_⟩
  cases i with
  |zero=>
   have h:p.1=k:=by simpa using h
   subst h;obtain⟨q1,b,u⟩:=q;exact⟨b,u,by rw[hq.1];rfl,hq.2.1⟩
  |succ i=>exact ih.2 i k (by simpa using h)
theorem yI{α:Type}{f:α->V}{g:α->Value}:∀ {l:List α},(∀ i∈l,RelV (f i) (g i))->Vals (l.map f) (l.map g)
 |[],_=>.nil
 |i::l,h=>.cons (h i List.mem_cons_self) (yI λj hj=>h j (List.mem_cons_of_mem _ hj))
namespace MP
section
theorem Up.tups{F H:Hp}{l:Addr}{o:HO}(s:aU F H)(hl:H l=none):Up F H (uy F H λ_=>False) (upd H l o):=by
 refine⟨g8 s,dI hl,λb o q=>?_,(pX s).trans (dI hl)⟩;by_cases hb:False\/∃ ys,H b=some (.tup ys)
 ·rw[gH hb] at q;obtain⟨ys,z⟩:=hb.resolve_left id;rw[z] at q;cases q;exact .inr (.inr ⟨ys,rfl⟩)
 ·rw[fL hb] at q;exact .inl q
end
end MP
end L2
namespace L2.MP
open PySem PySem.Spec PyProof.Rows
section
theorem Hb{α:Type}{l:List α}{i:Nat}{x:α}(h:l[i]?=some x):l.set i x=l:=by
 apply ZbB
 intro j;rw[List.getElem?_set];split
 ·rename_i e;subst e;rw[Zaf (cU h),h]
 ·rfl
theorem Qt{α:Type}(l:List α)(i:Nat)(x y:α):(l.set i x).set i y=l.set i y:=by simp
end
end L2.MP
namespace L2
open PySem PySem.F PySem.Spec PyProof PyProof.Rows
namespace MP
end MP
open PySem PySem.Spec PyProof PyProof.Rows
namespace MP
end MP
open PySem PySem.Spec PySem.W PyProof PyProof.Rows
section
theorem Bm:∀ {bs:List Addr}{its:List Value},Vals (bs.map V.ref) its->its=bs.map Value.ref
 |[],its,r=>by cases r;rfl
 |b::bs,its,r=>by
  cases r with
  |cons r1 r2=>
   cases r1;rw[Bm r2];rfl
end
namespace MP
end MP
end L2
namespace L2.MP
open PySem PySem.Spec PyProof.Rows
end L2.MP
namespace L2
open PySem PySem.Spec PyProof PyProof.Rows
namespace MP
end MP
end L2
namespace L2.MP
open PySem PySem.Spec PyProof.Rows
section
variable{κ:Type}[DecidableEq κ]
def cA:List (κ×PV)->κ->PV->List (κ×PV)
 |[],k,p=>[(k,p)]
 |(a,q)::l,k,p=>if a=k then(a,p)::l else(a,q)::cA l k p
theorem qO{k:κ}{q:PV}:∀ {xs:List (κ×V)}{l:List (κ×PV)},xs.map (·.1)=l.map (·.1)->dg l k=some q->∃ (j:Nat) (v:V),l[j]?=some (k,q)/\xs[j]?=some (k,v)/\jC xs k=some v/\∀ p,cA l k p=l.set j (k,p)
 |[],[],_,e=>by cases e
 |[],_::_,h,_=>by simp at h
 |_::_,[],h,_=>by simp at h
 |(a,v)::xs,(b,r)::l,h,e=>by
  simp only[Zap,ZbG] at h;obtain⟨h1,h2⟩:=h;have h1:a=b:=h1;subst h1;by_cases hk:a=k
  ·subst hk;unfold dg at e;rw[Zaf rfl] at e;cases e;exact⟨0,v,rfl,rfl,pI rfl,λp=>by unfold cA;rw[Zaf rfl];rfl⟩
  ·unfold dg at e;rw[Zad hk] at e;obtain⟨j,w,e1,e2,e3,e4⟩:=qO h2 e;exact⟨j+1,w,by simpa using e1,by simpa using e2,by rw[kj hk];exact e3,λp=>by rw[cA,Zad hk,e4];rfl⟩
theorem yJ{k:κ}:∀ {xs:List (κ×V)}{l:List (κ×PV)},xs.map (·.1)=l.map (·.1)->dg l k=none->jC xs k=none/\∀ p,cA l k p=l++[(k,p)]
 |[],[],_,_=>⟨rfl,λ_=>rfl⟩
 |[],_::_,h,_=>by simp at h
 |_::_,[],h,_=>by simp at h
 |(a,v)::xs,(b,r)::l,h,e=>by
  simp only[Zap,ZbG] at h;obtain⟨h1,h2⟩:=h;have h1:a=b:=h1;subst h1;by_cases hk:a=k
  ·unfold dg at e;rw[Zaf hk] at e;cases e
  ·unfold dg at e;rw[Zad hk] at e;obtain⟨e1,e2⟩:=yJ h2 e;exact⟨by rw[kj hk];exact e1,λp=>by rw[cA,Zad hk,e2];rfl⟩
end
def Vq(fe:Fn PV):Fn PV:=λρ=>bnd (fe ρ) λp=>if p.ou=true then some (.ok p) else none
theorem Wv{K:Frag}{C:Cg}{te:TE}{fe:Fn PV}(h:MO K C te fe):MD K C te (Vq fe):=by
 intro F H σ ρ Q r R e P;rcases bM e with⟨z,e1,rfl⟩|⟨p,e1,hk⟩
 ·exact h F H σ ρ Q _ R e1 P
 ·split at hk
  ·rename_i hp;cases hk;refine h F H σ ρ Q _ R e1 λa F' H' u n1 n2 w=>P _ F' H' (λb=>b=a) u (w.dp hp) ?_;rintro b rfl;obtain⟨ob,eo⟩:=w.ne;exact⟨n1,n2,ob,eo,λys q=>by subst q;exact w.ww eo⟩
  ·cases hk
section
variable{p:PV}
theorem Qu{κ:Type}{l:List (κ×PV)}{j:Nat}{k:κ}{q p:PV}(h:l[j]?=some (k,q)):(l.set j (k,p)).map (·.1)=l.map (·.1):=by
 rw[List.map_set];exact Hb (by rw[List.getElem?_map,h];rfl)
end
end L2.MP
namespace L2.TS
open PySem PySem.Spec PyProof.Rows
def jR:Bool->Keyed->Array Keyed->Nat->Nat->Nat->StateT SortSt Sem (Option Nat):=sortPriv% PySem.Builtin.gallop
def gA:Nat->StateT SortSt Sem Unit:=sortPriv% PySem.Builtin.setMinGallop
def yK:Array Keyed->Array Keyed->StateT SortSt Sem (Array Keyed):=sortPriv% PySem.Builtin.mergeLo
def yL:Array Keyed->Array Keyed->StateT SortSt Sem (Array Keyed):=sortPriv% PySem.Builtin.mergeHi
noncomputable abbrev cN(st:SortSt)(g:Nat):SortSt:=SortSt.mk' (kindOf st) (arrOf st) (pendingOf st) g (failedOf st)
theorem fY(g:Nat):gA g=modify λs=>cN s g:=rfl
def beyond(left:Bool)(key:Keyed)(arr:Array Keyed)(base i:Nat):StateT SortSt Sem (Option Bool):=do
 let x <-elem' arr (base+i)
 if left then lt' x key else return (<-lt' key x).map (!·)
theorem JT(left:Bool)(key:Keyed)(arr:Array Keyed)(base n hint:Nat):jR left key arr base n hint=(do
 let mut lastofs:=0
 let mut ofs:=1
 let mut lo:=0
 let mut hi:=0
 let some right <-beyond left key arr base hint|return none
 if right then
  let maxofs:=n-hint
  for _ in [0:n] do
   if ofs>=maxofs then break
   let some more <-beyond left key arr base (hint+ofs)|return none
   if !more then break
   lastofs:=ofs
   ofs:=2*ofs+1
  lo:=hint+lastofs+1
  hi:=hint+min ofs maxofs
 else
  let maxofs:=hint+1
  for _ in [0:n] do
   if ofs>=maxofs then break
   let some found <-beyond left key arr base (hint-ofs)|return none
   if found then break
   lastofs:=ofs
   ofs:=2*ofs+1
  lo:=hint+1-min ofs maxofs
  hi:=hint-lastofs
 for _ in [0:n] do
  if lo>=hi then break
  let m:=lo+(hi-lo)/2
  let some more <-beyond left key arr base m|return none
  if more then lo:=m+1 else hi:=m
 return some hi):=rfl
section
variable{prog:Program}{w:World}{A:Around}{E:Value->Shared->Prop}{s:Shared}{κ:SortKind}{D:Keyed->Prop}{r:Keyed->Nat}{st:SortSt}{left:Bool}{key x y:Keyed}{arr:Array Keyed}{base n hint:Nat}
def Cmp(prog:Program)(w:World)(A:Around)(s:Shared)(κ:SortKind)(D:Keyed->Prop)(r:Keyed->Nat):Prop:=
 ∀ x y,D x->D y->∀ (E:Value->Shared->Prop) (Q:Bool->Shared->Prop),Q (decide (r x<r y)) s->wpAny (model prog w) A (keyLt' κ x.1 y.1) Q E s
theorem yM(hc:Cmp prog w A s κ D r)(hk:kindOf st=κ)(hx:D x)(hy:D y){Q:Option Bool->SortSt->Prop}(h:Q (some (decide (r x<r y))) st):wpS (model prog w) A E s (lt' x y) Q st:=by
 rw[lt'_eq];refine Zan (wpS_get ?_);rw[hk];refine Zan (wpS_lift (wpAny_attempt (hc x y hx hy _ _ ⟨rfl,?_⟩)));exact Zau h
theorem bV{M:Model}{i:Nat}{Q:Keyed->SortSt->Prop}(e:arr[i]?=some x)(h:Q x st):wpS M A E s (elem' arr i) Q st:=by
 rw[elem'_eq,e];exact Zau h
theorem JV(hc:Cmp prog w A s κ D r)(hk:kindOf st=κ){i:Nat}(e:arr[base+i]?=some x)(hx:D x)(hy:D key)(ne:r x≠r key){Q:Option Bool->SortSt->Prop}(h:Q (some (decide (r x<r key))) st):wpS (model prog w) A E s (beyond left key arr base i) Q st:=by
 unfold beyond;refine Zan (bV e ?_);cases left with
 |true=>exact yM hc hk hx hy h
 |false=>
  refine Zan (yM hc hk hy hx (Zau ?_));rw[Zbz,show(!decide (r key<r x))=decide (r x<r key) by
   by_cases q:r key<r x
   ·rw[Zax q,Zaw (by lia)];rfl
   ·rw[Zaw q,Zax (by lia)];rfl]
  exact h
theorem uC{M:Model}{f:Nat->Bool}(hb:∀ i,i<n->∀ {Q:Option Bool->SortSt->Prop},Q (some (f i)) st->wpS M A E s (beyond left key arr base i) Q st){lo hi:Nat}(h1:lo<=hi)(h2:hi<=n)(h3:∀ i,i<lo->f i=true)(h4:∀ i,hi<=i->i<n->f i=false)
  (mono:∀ i j,i<=j->j<n->f j=true->f i=true){Q:Option Nat->SortSt->Prop}(h:∀ m,m<=n->(∀ i,i<m->f i=true)->(∀ i,m<=i->i<n->f i=false)->Q (some m) st) :
  wpS M A E s (do
   let mut lo:=lo
   let mut hi:=hi
   for _ in [0:n] do
    if lo>=hi then break
    let m:=lo+(hi-lo)/2
    let some more <-beyond left key arr base m|return none
    if more then lo:=m+1 else hi:=m
   return some hi) Q st:=by
 refine Zan (Za6 (Zbe (I:=λk c st'=>st'=st/\∃ lo hi,c=(none,lo,hi)/\lo<=hi/\hi<=n/\(∀ i,i<lo->f i=true)/\(∀ i,hi<=i->i<n->f i=false)/\hi-lo+k<=n)
  (Q:=λc st'=>st'=st/\∃ m,c=(none,m,m)/\m<=n/\(∀ i,i<m->f i=true)/\(∀ i,m<=i->i<n->f i=false)) ?_ ?_ ⟨rfl,lo,hi,rfl,h1,h2,h3,h4,by omega⟩) ?_)
 ·rintro k c st' _ hk ⟨rfl,lo,hi,rfl,g1,g2,g3,g4,g5⟩;dsimp only;by_cases q:lo>=hi
  ·rw[Zaf q];have:lo=hi:=by omega
   subst this;exact Zau ⟨rfl,lo,rfl,g2,g3,g4⟩
  ·rw[Zad q];have mlt:lo+(hi-lo)/2<hi:=by omega
   refine Zan (hb _ (by omega) ?_)
   dsimp only;cases e:f (lo+(hi-lo)/2) with
   |true=>
    rw[Zaf rfl];exact Zau ⟨rfl,_,hi,rfl,by omega,g2,λi hi'=>mono i _ (by omega) (by omega) e,g4,by omega⟩
   |false=>
    rw[Zad (by decide)]
    refine Zau ⟨rfl,lo,_,rfl,by omega,by omega,g3,λi h1' h2'=>?_,by omega⟩
    cases ef:f i with
    |false=>rfl
    |true=>rw[mono _ i h1' h2' ef] at e;cases e
 ·rintro c st' ⟨rfl,lo,hi,rfl,g1,g2,g3,g4,g5⟩;have:lo=hi:=by omega
  subst this;exact⟨rfl,lo,rfl,g2,g3,g4⟩
 ·rintro c st' ⟨rfl,m,rfl,g1,g2,g3⟩;exact Zau (h m g1 g2 g3)
theorem Hc{M:Model}{f:Nat->Bool}(hb:∀ i,i<n->∀ {Q:Option Bool->SortSt->Prop},Q (some (f i)) st->wpS M A E s (beyond left key arr base i) Q st)(mono:∀ i j,i<=j->j<n->f j=true->f i=true)(hn:hint<n){Q:Option Nat->SortSt->Prop}
  (h:∀ m,m<=n->(∀ i,i<m->f i=true)->(∀ i,m<=i->i<n->f i=false)->Q (some m) st):wpS M A E s (jR left key arr base n hint) Q st:=by
 have anti:∀ i j,i<=j->j<n->f i=false->f j=false:=λi j h1 h2 e=>by
  cases ef:f j with
  |false=>rfl
  |true=>rw[mono i j h1 h2 ef] at e;cases e
 rw[JT];refine Zan (hb hint hn ?_);dsimp only;cases e:f hint with
 |true=>
  simp only[ZbJ];refine Zan (Za6 (Zbe (I:=λk c st'=>st'=st/\∃ la of,c=(none,la,of)/\la<of/\hint+la<n/\f (hint+la)=true/\k+1<=of)
   (Q:=λc st'=>st'=st/\∃ la of,c=(none,la,of)/\la<of/\hint+la<n/\f (hint+la)=true/\(n-hint<=of\/(hint+of<n/\f (hint+of)=false))) ?_ ?_ ⟨rfl,0,1,rfl,by omega,hn,e,by omega⟩) ?_)
  ·rintro k c st' _ hk ⟨rfl,la,of,rfl,g1,g2,g3,g4⟩;dsimp only;by_cases q:of>=n-hint
   ·rw[Zaf q];exact Zau ⟨rfl,la,of,rfl,g1,g2,g3,.inl q⟩
   ·rw[Zad q];refine Zan (hb _ (by omega) ?_)
    dsimp only;cases e2:f (hint+of) with
    |true=>
     rw[Zad (by decide)]
     exact Zau ⟨rfl,of,_,rfl,by omega,by omega,e2,by omega⟩
    |false=>
     rw[Zaf (by decide)]
     exact Zau ⟨rfl,la,of,rfl,g1,g2,g3,.inr ⟨by omega,e2⟩⟩
  ·rintro c st' ⟨rfl,la,of,rfl,g1,g2,g3,g4⟩;exact⟨rfl,la,of,rfl,g1,g2,g3,.inl (by omega)⟩
  ·rintro c st' ⟨rfl,la,of,rfl,g1,g2,g3,g4⟩;refine uC (lo:=hint+la+1) (hi:=hint+min of (n-hint)) hb (by omega) (by omega) (λi hi=>mono i (hint+la) (by omega) g2 g3) (λi h1 h2=>?_) mono h
   rcases g4 with q|⟨q1,q2⟩
   ·omega
   ·exact anti (hint+of) i (by omega) h2 q2
 |false=>
  simp only[Zbf,Zbh];refine Zan (Za6 (Zbe (I:=λk c st'=>st'=st/\∃ la of,c=(none,la,of)/\la<of/\la<=hint/\f (hint-la)=false/\k+1<=of)
   (Q:=λc st'=>st'=st/\∃ la of,c=(none,la,of)/\la<of/\la<=hint/\f (hint-la)=false/\(hint+1<=of\/(of<=hint/\f (hint-of)=true))) ?_ ?_ ⟨rfl,0,1,rfl,by omega,by omega,e,by omega⟩) ?_)
  ·rintro k c st' _ hk ⟨rfl,la,of,rfl,g1,g2,g3,g4⟩;dsimp only;by_cases q:of>=hint+1
   ·rw[Zaf q];exact Zau ⟨rfl,la,of,rfl,g1,g2,g3,.inl q⟩
   ·rw[Zad q];refine Zan (hb _ (by omega) ?_)
    dsimp only;cases e2:f (hint-of) with
    |true=>
     rw[Zaf rfl];exact Zau ⟨rfl,la,of,rfl,g1,g2,g3,.inr ⟨by omega,e2⟩⟩
    |false=>
     rw[Zad (by decide)]
     exact Zau ⟨rfl,of,_,rfl,by omega,by omega,e2,by omega⟩
  ·rintro c st' ⟨rfl,la,of,rfl,g1,g2,g3,g4⟩;exact⟨rfl,la,of,rfl,g1,g2,g3,.inl (by omega)⟩
  ·rintro c st' ⟨rfl,la,of,rfl,g1,g2,g3,g4⟩;refine uC (lo:=hint+1-min of (hint+1)) (hi:=hint-la) hb (by omega) (by omega) (λi hi=>?_) (λi h1 h2=>anti (hint-la) i (by omega) h2 g3) mono h
   rcases g4 with q|⟨q1,q2⟩
   ·omega
   ·exact mono i (hint-of) (by omega) (by omega) q2
end
theorem Hd(i:Nat):mergeAt' i=(do
 let s <-get
 let(some (sa,na,power),some (sb,nb,_)):=((pendingOf s)[i]?,(pendingOf s)[i+1]?)|unsupported "internal:list.sort.pending"
 set (setPending s (((pendingOf s).setIfInBounds i (sa,na+nb,power)).eraseIdxIfInBounds (i+1)))
 let some k <-jR false (<-elem' (arrOf s) sb) (arrOf s) sa na 0|return false
 let(sa,na):=(sa+k,na-k)
 if na==0 then return true
 let some nb <-jR true (<-elem' (arrOf s) (sa+na-1)) (arrOf s) sb nb (nb-1)|return false
 if nb==0 then return true
 let x:=(arrOf s).extract sa sb
 let y:=(arrOf s).extract sb (sb+nb)
 let merged <-if na<=nb then yK x y else yL x y
 modify λs=>setArr s (merged.toList.zipIdx.foldl (λa (p,j)=>a.setIfInBounds (sa+j) p) (arrOf s))
 return (failedOf (<-get)).isNone):=rfl
section
variable{r:Keyed->Nat}{la lb out:List Keyed}{ia ib:Nat}
def Srt(r:Keyed->Nat)(l:List Keyed):Prop:=l.Pairwise λx y=>r x<r y
structure Mg(r:Keyed->Nat)(la lb out:List Keyed)(ia ib:Nat):Prop where
 so:Srt r out
 lt:∀ o∈out,∀ z∈la.drop ia++lb.drop ib,r o<r z
 pm:out.Perm (la.take ia++lb.take ib)
theorem Mg.as(h:Mg r la lb out ia ib)(sa:Srt r la)(k:Nat)(hk:∀ x∈(la.drop ia).take k,∀ y∈lb.drop ib,r x<r y):Mg r la lb (out++(la.drop ia).take k) (ia+k) ib:=by
 have sd:Srt r (la.drop ia):=Zam (ZaX _ _) sa;have e:la.drop (ia+k)=(la.drop ia).drop k:=by rw[List.drop_drop]
 refine⟨Zas.mpr ⟨h.so,Zam (ZaT _ _) sd,λo ho x hx=>h.lt o ho x (Zaj.mpr (.inl (ZaR hx)))⟩,λo ho z hz=>?_,?_⟩
 ·rw[e] at hz;rcases Zaj.mp ho with q|q
  ·refine h.lt o q z ?_;rcases Zaj.mp hz with w|w
   ·exact Zaj.mpr (.inl (ZaW w))
   ·exact Zaj.mpr (.inr w)
  ·rcases Zaj.mp hz with w|w
   ·have:=sd;rw[<-ZaJ k (la.drop ia)] at this;exact(Zas.mp this).2.2 o q z w
   ·exact hk o q z w
 ·rw[List.take_add];refine(h.pm.append_right _).trans ?_;rw[Zay,Zay];exact Za8 _ List.perm_append_comm
theorem Mg.bs(h:Mg r la lb out ia ib)(sb:Srt r lb)(k:Nat)(hk:∀ y∈(lb.drop ib).take k,∀ x∈la.drop ia,r y<r x):Mg r la lb (out++(lb.drop ib).take k) ia (ib+k):=by
 have sd:Srt r (lb.drop ib):=Zam (ZaX _ _) sb;have e:lb.drop (ib+k)=(lb.drop ib).drop k:=by rw[List.drop_drop]
 refine⟨Zas.mpr ⟨h.so,Zam (ZaT _ _) sd,λo ho x hx=>h.lt o ho x (Zaj.mpr (.inr (ZaR hx)))⟩,λo ho z hz=>?_,?_⟩
 ·rw[e] at hz;rcases Zaj.mp ho with q|q
  ·refine h.lt o q z ?_;rcases Zaj.mp hz with w|w
   ·exact Zaj.mpr (.inl w)
   ·exact Zaj.mpr (.inr (ZaW w))
  ·rcases Zaj.mp hz with w|w
   ·exact hk o q z w
   ·have:=sd;rw[<-ZaJ k (lb.drop ib)] at this;exact(Zas.mp this).2.2 o q z w
 ·rw[List.take_add,<-Zay];exact h.pm.append_right _
theorem Mg.end(h:Mg r la lb out ia ib)(sa:Srt r la)(sb:Srt r lb)(hk:∀ x∈la.drop ia,∀ y∈lb.drop ib,r x<r y):Srt r (out++la.drop ia++lb.drop ib)/\(out++la.drop ia++lb.drop ib).Perm (la++lb):=by
 refine⟨?_,?_⟩
 ·rw[Zay];refine Zas.mpr ⟨h.so,Zas.mpr ⟨Zam (ZaX _ _) sa,Zam (ZaX _ _) sb,hk⟩,h.lt⟩
 ·have e:(la++lb).Perm (la.take ia++lb.take ib++(la.drop ia++lb.drop ib)):=by
   conv=>lhs;rw[<-ZaJ ia la,<-ZaJ ib lb]
   simp only[Zay];refine Za8 _ ?_;rw[<-Zay,<-Zay];exact ZbX _ List.perm_append_comm
  rw[Zay];exact(h.pm.append_right _).trans e.symm
theorem Mg.Ww(h:Mg r la lb out ia ib)(sa:Srt r la)(sb:Srt r lb)(hk:∀ x∈la.drop ia,∀ y∈lb.drop ib,r y<r x):Srt r (out++lb.drop ib++la.drop ia)/\(out++lb.drop ib++la.drop ia).Perm (la++lb):=by
 refine⟨?_,?_⟩
 ·rw[Zay];exact Zas.mpr ⟨h.so,Zas.mpr ⟨Zam (ZaX _ _) sb,Zam (ZaX _ _) sa,λy hy x hx=>hk x hx y hy⟩,λo ho z hz=>h.lt o ho z (by
   rcases Zaj.mp hz with q|q
   ·exact Zaj.mpr (.inr q)
   ·exact Zaj.mpr (.inl q))⟩
 ·have e:(la++lb).Perm (la.take ia++lb.take ib++(lb.drop ib++la.drop ia)):=by
   conv=>lhs;rw[<-ZaJ ia la,<-ZaJ ib lb]
   simp only[Zay];refine Za8 _ ?_;refine List.perm_append_comm.trans ?_;rw[Zay]
  rw[Zay];exact(h.pm.append_right _).trans e.symm
end
noncomputable abbrev S7:=Option (Array Keyed)×Array Keyed×Nat×Nat×Nat×Nat×Nat
noncomputable abbrev S6:=Option (Array Keyed)×Array Keyed×Nat×Nat×Nat×Nat
noncomputable abbrev S5:=Option (Array Keyed)×Array Keyed×Nat×Nat×Nat
noncomputable abbrev dnL(a b out:Array Keyed)(ia ib:Nat):Array Keyed:=out++a.extract ia a.size++b.extract ib b.size
noncomputable abbrev laL(a b out:Array Keyed)(ia ib:Nat):Array Keyed:=out++b.extract ib b.size++a.extract ia a.size
def Qv(a b out:Array Keyed)(ia ib mg ac bc:Nat):StateT SortSt Sem (ForInStep S7):=do
 let x <-elem' a ia
 if ia+1+1==a.size then return .done (some (laL a b (out.push x) (ia+1) ib),out.push x,ia+1,ib,mg,ac,bc)
 if ac<7&&bc<7 then return .done (none,out.push x,ia+1,ib,mg,ac,bc)
 return .yield (none,out.push x,ia+1,ib,mg,ac,bc)
def Qw(a b out:Array Keyed)(ia ib mg ac bc:Nat):StateT SortSt Sem (ForInStep S7):=do
 let y <-elem' b ib
 if ib+1==b.size then return .done (some (dnL a b (out.push y) ia (ib+1)),out.push y,ia,ib+1,mg,ac,bc)
 let some k <-jR true (<-elem' a ia) b (ib+1) (b.size-(ib+1)) 0|return .done (some (dnL a b (out.push y) ia (ib+1)),out.push y,ia,ib+1,mg,ac,bc)
 if k>0 then
  if ib+1+k==b.size then return .done (some (dnL a b (out.push y++b.extract (ib+1) (ib+1+k)) ia (ib+1+k)),out.push y++b.extract (ib+1) (ib+1+k),ia,ib+1+k,mg,ac,k)
  Qv a b (out.push y++b.extract (ib+1) (ib+1+k)) ia (ib+1+k) mg ac k
 else Qv a b (out.push y) ia (ib+1) mg ac k
def T8(a b out:Array Keyed)(ia ib mg ac bc:Nat):StateT SortSt Sem (ForInStep S7):=do
 gA mg
 let some k <-jR false (<-elem' b ib) a ia (a.size-ia) 0|return .done (some (dnL a b out ia ib),out,ia,ib,mg,ac,bc)
 if k>0 then
  if ia+k+1==a.size then return .done (some (laL a b (out++a.extract ia (ia+k)) (ia+k) ib),out++a.extract ia (ia+k),ia+k,ib,mg,k,bc)
  if ia+k==a.size then return .done (some (dnL a b (out++a.extract ia (ia+k)) (ia+k) ib),out++a.extract ia (ia+k),ia+k,ib,mg,k,bc)
  Qw a b (out++a.extract ia (ia+k)) (ia+k) ib mg k bc
 else Qw a b out ia ib mg k bc
def Wx(a b:Array Keyed)(c:S7):StateT SortSt Sem (ForInStep S7):=
 if c.2.2.2.2.1>1 then T8 a b c.2.1 c.2.2.1 c.2.2.2.1 (c.2.2.2.2.1-1) c.2.2.2.2.2.1 c.2.2.2.2.2.2 else T8 a b c.2.1 c.2.2.1 c.2.2.2.1 c.2.2.2.2.1 c.2.2.2.2.2.1 c.2.2.2.2.2.2
def Wy(a b:Array Keyed)(mg:Nat)(c:S6):StateT SortSt Sem (ForInStep S6):=do
 let some bWins <-lt' (<-elem' b c.2.2.2.1) (<-elem' a c.2.2.1)|return .done (some (dnL a b c.2.1 c.2.2.1 c.2.2.2.1),c.2.1,c.2.2.1,c.2.2.2.1,c.2.2.2.2.1,c.2.2.2.2.2)
 if bWins then
  let y <-elem' b c.2.2.2.1
  if c.2.2.2.1+1==b.size then return .done (some (dnL a b (c.2.1.push y) c.2.2.1 (c.2.2.2.1+1)),c.2.1.push y,c.2.2.1,c.2.2.2.1+1,0,c.2.2.2.2.2+1)
  if c.2.2.2.2.2+1>=mg then return .done (none,c.2.1.push y,c.2.2.1,c.2.2.2.1+1,0,c.2.2.2.2.2+1)
  return .yield (none,c.2.1.push y,c.2.2.1,c.2.2.2.1+1,0,c.2.2.2.2.2+1)
 else
  let x <-elem' a c.2.2.1
  if c.2.2.1+1+1==a.size then return .done (some (laL a b (c.2.1.push x) (c.2.2.1+1) c.2.2.2.1),c.2.1.push x,c.2.2.1+1,c.2.2.2.1,c.2.2.2.2.1+1,0)
  if c.2.2.2.2.1+1>=mg then return .done (none,c.2.1.push x,c.2.2.1+1,c.2.2.2.1,c.2.2.2.2.1+1,0)
  return .yield (none,c.2.1.push x,c.2.2.1+1,c.2.2.2.1,c.2.2.2.2.1+1,0)
def Wz(a b:Array Keyed)(c:S5):StateT SortSt Sem (ForInStep S5):=do
 let d <-forIn [0:a.size+b.size] ((none,c.2.1,c.2.2.1,c.2.2.2.1,0,0):S6) λ_ d=>Wy a b c.2.2.2.2 d
 match d.1 with
 |some r=>pure (.done (some r,d.2.1,d.2.2.1,d.2.2.2.1,c.2.2.2.2))
 |none=>do
  rule "list.sort.gallop"
  let e <-forIn [0:a.size+b.size] ((none,d.2.1,d.2.2.1,d.2.2.2.1,c.2.2.2.2+1,d.2.2.2.2.1,d.2.2.2.2.2):S7) λ_ e=>Wx a b e
  match e.1 with
  |some r=>pure (.done (some r,e.2.1,e.2.2.1,e.2.2.2.1,e.2.2.2.2.1))
  |none=>do
   gA (e.2.2.2.2.1+1)
   pure (.yield (none,e.2.1,e.2.2.1,e.2.2.2.1,e.2.2.2.2.1+1))
def Hf(a b:Array Keyed):StateT SortSt Sem (Array Keyed):=do
 rule "list.sort.merge-lo"
 let y <-elem' b 0
 if 1==b.size then return dnL a b #[y] 0 1
 if 0+1==a.size then return laL a b #[y] 0 1
 let s <-get
 let c <-forIn [0:a.size+b.size] ((none,#[y],0,1,gallopOf s):S5) λ_ c=>Wz a b c
 match c.1 with
 |some r=>pure r
 |none=>unsupported "internal:list.sort.merge-bound"
theorem Hg(a b:Array Keyed):yK a b=Hf a b:=by
 kernel_rfl
section
variable{prog:Program}{w:World}{A:Around}{E:Value->Shared->Prop}{s:Shared}{κ:SortKind}{D:Keyed->Prop}{r:Keyed->Nat}{st:SortSt}{a b:Array Keyed}
theorem nq{M:Model}{x:String}{Q:Unit->SortSt->Prop}(h:Q () st):wpS M A E s (rule x:StateT SortSt Sem Unit) Q st:=wpS_lift (wpAny_rule ⟨rfl,h⟩)
theorem ext_toList(a:Array Keyed)(i j:Nat)(h:i<=j)(hj:j<=a.size):(a.extract i j).toList=(a.toList.drop i).take (j-i):=by
 simp[Array.toList_extract,List.extract]
theorem xr(a:Array Keyed)(i:Nat):(a.extract i a.size).toList=a.toList.drop i:=by
 rw[Array.toList_extract];simp[List.extract];exact ZaV (by simp)
structure DN(D:Keyed->Prop)(r:Keyed->Nat)(a b:Array Keyed):Prop where
 da:∀ x∈a.toList,D x
 db:∀ x∈b.toList,D x
 sa:Srt r a.toList
 sb:Srt r b.toList
 ne:∀ x∈a.toList,∀ y∈b.toList,r x≠r y
 la:∀ x,a.toList[a.size-1]?=some x->∀ y∈b.toList,r y<r x
def Good(r:Keyed->Nat)(a b out:Array Keyed):Prop:=Srt r out.toList/\out.toList.Perm (a.toList++b.toList)
theorem uD{out:Array Keyed}{ia ib:Nat}(o:DN D r a b)(m:Mg r a.toList b.toList out.toList ia ib)(h:ib=b.size\/ia=a.size):Good r a b (dnL a b out ia ib):=by
 have e:=m.end o.sa o.sb (λx hx y hy=>by
  rcases h with q|q
  ·rw[q,Zbn (by simp)] at hy;cases hy
  ·rw[q,Zbn (by simp)] at hx;cases hx)
 unfold Good dnL;rw[ZaU,ZaU,xr,xr];exact e
theorem xu{out:Array Keyed}{ia ib:Nat}(o:DN D r a b)(m:Mg r a.toList b.toList out.toList ia ib)(h:ia+1=a.size):Good r a b (laL a b out ia ib):=by
 have e:=m.Ww o.sa o.sb (λx hx y hy=>by
  have:a.toList.drop ia=[a.toList[ia]'(by simp;lia)]:=by
   rw[ZaS (by simp;lia),Zbn (by simp;lia)]
  rw[this,ZaL] at hx;refine o.la x ?_ y (ZaW hy);rw[hx,show a.size-1=ia by lia]
  exact List.getElem?_eq_getElem (by simp;lia))
 unfold Good laL;rw[ZaU,ZaU,xr,xr];exact e
theorem iZ{left:Bool}{key:Keyed}{arr:Array Keyed}{base n hint:Nat}{L:List Keyed}(hc:Cmp prog w A s κ D r)(hk:kindOf st=κ)(hn:hint<n)(hb:base+n<=arr.size)(hL:(arr.toList.drop base).take n=L)(dk:D key)(dl:∀ x∈L,D x/\r x≠r key)(sl:Srt r L){Q:Option Nat->SortSt->Prop}
  (h:∀ k,k<=n->(∀ x∈L.take k,r x<r key)->(∀ x∈L.drop k,r key<r x)->Q (some k) st):wpS (model prog w) A E s (jR left key arr base n hint) Q st:=by
 have ll:L.length=n:=by rw[<-hL];simp;lia
 have at_:∀ i (hi:i<n),arr[base+i]?=some (L[i]'(by lia)):=λi hi=>by
  rw[<-ZaH];have:L[i]?=arr.toList[base+i]?:=by
   rw[<-hL,List.getElem?_take,Zaf hi,List.getElem?_drop]
  rw[<-this,List.getElem?_eq_getElem]
 have mem:∀ i (hi:i<n),L[i]'(by lia)∈L:=λi hi=>List.getElem_mem _
 refine Hc (f:=λi=>if hi:i<n then decide (r (L[i]'(by lia))<r key) else false) (λi hi Q q=>?_) (λi j hij hj e=>?_) hn λm hm g1 g2=>?_
 ·rw[dif_pos hi] at q;exact JV hc hk (at_ i hi) (dl _ (mem i hi)).1 dk (dl _ (mem i hi)).2 q
 ·rw[dif_pos hj] at e;rw[dif_pos (by lia)]
  have e:=of_decide_eq_true e;refine Zax ?_;by_cases q:i=j
  ·subst q;exact e
  ·exact Nat.lt_trans (Za1.mp sl i j (by lia) (by lia) (by lia)) e
 ·refine h m hm (λx hx=>?_) λx hx=>?_
  ·obtain⟨i,hi,rfl⟩:=List.mem_iff_getElem.mp hx;rw[ZbT] at hi;have:=g1 i (by lia)
   rw[dif_pos (by lia)] at this
   rw[List.getElem_take];exact of_decide_eq_true this
  ·obtain⟨i,hi,rfl⟩:=List.mem_iff_getElem.mp hx;rw[List.length_drop] at hi;have:=g2 (m+i) (by lia) (by lia)
   rw[dif_pos (by lia)] at this
   rw[List.getElem_drop];have t1:=of_decide_eq_false this;have t2:=(dl _ (mem (m+i) (by lia))).2
   lia
structure In(r:Keyed->Nat)(a b out:Array Keyed)(ia ib:Nat):Prop where
 mg:Mg r a.toList b.toList out.toList ia ib
 ha:ia+1<a.size
 hb:ib<b.size
def P7(r:Keyed->Nat)(a b:Array Keyed)(n:Nat):ForInStep S7->Prop
 |.done (some o,_)=>Good r a b o
 |.done (none,out,ia,ib,_)=>In r a b out ia ib/\n<=ia+ib
 |.yield (none,out,ia,ib,_)=>In r a b out ia ib/\n<=ia+ib
 |.yield (some _,_)=>False
theorem take1{l:List Keyed}{i:Nat}{x:Keyed}(h:l[i]?=some x):(l.drop i).take 1=[x]/\l.drop i=x::l.drop (i+1):=by
 have hi:=(Zab.mp h).1;have e:l.drop i=x::l.drop (i+1):=by
  rw[ZaS hi];congr 1
  rw[List.getElem?_eq_getElem hi] at h;exact Zac h
 rw[e];exact⟨rfl,rfl⟩
theorem pZ{l:List Keyed}{i:Nat}{x:Keyed}(sl:Srt r l)(h:l[i]?=some x):∀ z∈l.drop i,r x<=r z:=λz hz=>by
 have:=Zam (ZaX i l) sl;rw[(take1 h).2] at hz this;rcases ZaA.mp hz with q|q
 ·rw[q];exact Zak _
 ·exact ZaO ((List.pairwise_cons.mp this).1 z q)
theorem T9{M:Model}{out:Array Keyed}{ia ib mg ac bc:Nat}(o:DN D r a b)(i:In r a b out ia ib)(hx:∀ x,a.toList[ia]?=some x->∀ y∈b.toList.drop ib,r x<r y) :
  wpS M A E s (Qv a b out ia ib mg ac bc) (λc st'=>st'=st/\P7 r a b (ia+ib+1) c) st:=by
 obtain⟨x,ex⟩:∃ x,a.toList[ia]?=some x:=⟨_,List.getElem?_eq_getElem (by have:=i.ha;simp;lia)⟩
 have t1:=take1 ex;have m:Mg r a.toList b.toList (out.push x).toList (ia+1) ib:=by
  have:=i.mg.as o.sa 1 (by rw[t1.1];intro z hz;rw[ZaL.mp hz];exact hx x ex)
  rw[t1.1] at this;rw[ZbC];exact this
 have ha:=i.ha;have hb:=i.hb;unfold Qv;refine Zan (bV (x:=x) (by rw[<-ZaH];exact ex) ?_)
 by_cases q:ia+1+1=a.size
 ·rw[Zaf (by simpa using q)]
  exact Zau ⟨rfl,xu o m q⟩
 ·rw[Zad (by simpa using q)]
  have I:In r a b (out.push x) (ia+1) ib:=⟨m,by lia,hb⟩
  split
  ·exact Zau ⟨rfl,I,by lia⟩
  ·exact Zau ⟨rfl,I,by lia⟩
end
section
variable{prog:Program}{w:World}{A:Around}{E:Value->Shared->Prop}{s:Shared}{κ:SortKind}{D:Keyed->Prop}{r:Keyed->Nat}{st:SortSt}{a b:Array Keyed}
theorem P7.mono{n m:Nat}(h:n<=m):∀ {c:ForInStep S7},P7 r a b m c->P7 r a b n c
 |.done (some _,_),p=>p
 |.done (none,_,_,_,_),p=>⟨p.1,ZaE h p.2⟩
 |.yield (none,_,_,_,_),p=>⟨p.1,ZaE h p.2⟩
 |.yield (some _,_),p=>p
theorem getL{l:Array Keyed}{i:Nat}(h:i<l.size):∃ x,l.toList[i]?=some x/\l[i]?=some x:=⟨_,List.getElem?_eq_getElem (by simpa using h),by rw[ZaD h,Array.getElem_toList]⟩
theorem pD{l:Array Keyed}{i:Nat}{x:Keyed}(h:l.toList[i]?=some x):x∈l.toList:=Zag h
theorem Bo(l:Array Keyed)(i:Nat)(h:i<=l.size):(l.toList.drop i).take (l.size-i)=l.toList.drop i:=ZaV (by simp)
theorem Ua{out:Array Keyed}{ia ib mg ac bc:Nat}(hc:Cmp prog w A s κ D r)(hk:kindOf st=κ)(o:DN D r a b)(i:In r a b out ia ib)(hy:∀ y,b.toList[ib]?=some y->∀ x∈a.toList.drop ia,r y<r x) :
  wpS (model prog w) A E s (Qw a b out ia ib mg ac bc) (λc st'=>st'=st/\P7 r a b (ia+ib+1) c) st:=by
 have ha:=i.ha;have hb:=i.hb;obtain⟨y,ey,ey'⟩:=getL hb;have t1:=take1 ey;have m:Mg r a.toList b.toList (out.push y).toList ia (ib+1):=by
  have:=i.mg.bs o.sb 1 (by rw[t1.1];intro z hz;rw[ZaL.mp hz];exact hy y ey)
  rw[t1.1] at this;rw[ZbC];exact this
 unfold Qw;refine Zan (bV ey' ?_);by_cases q:ib+1=b.size
 ·rw[Zaf (by simpa using q)]
  exact Zau ⟨rfl,uD o m (.inl q)⟩
 ·rw[Zad (by simpa using q)]
  obtain⟨x,ex,ex'⟩:=getL (l:=a) (i:=ia) (by omega)
  refine Zan (bV ex' ?_);refine Zan (iZ hc hk (by omega) (by omega) (Bo b (ib+1) (by omega)) (o.da x (pD ex)) (λz hz=>⟨o.db z (ZaW hz),λe=>o.ne x (pD ex) z (ZaW hz) e.symm⟩) (Zam (ZaX _ _) o.sb) λk hk' g1 g2=>?_)
  dsimp only;rw[List.drop_drop] at g2;have fin:∀ {o2:Array Keyed}{j:Nat},Mg r a.toList b.toList o2.toList ia j->j=ib+1+k->¬j=b.size->wpS (model prog w) A E s (Qv a b o2 ia j mg ac k) (λc st'=>st'=st/\P7 r a b (ia+ib+1) c) st:=λ{o2 j} m2 e ne=>by
   refine Za6 (T9 o ⟨m2,ha,by omega⟩ λx' ex2 z hz=>?_) λc st' p=>⟨p.1,P7.mono (by omega) p.2⟩
   rw[ex] at ex2;cases ex2;rw[e] at hz;exact g2 z hz
  by_cases q2:k>0
  ·rw[Zaf q2];have m2:Mg r a.toList b.toList (out.push y++b.extract (ib+1) (ib+1+k)).toList ia (ib+1+k):=by
    have:=m.bs o.sb k λz hz x' hx'=>Zav (g1 z hz) (pZ o.sa ex x' hx');rw[ZaU,ext_toList b _ _ (by omega) (by omega),ZbQ]
    exact this
   by_cases q3:ib+1+k=b.size
   ·rw[Zaf (by simpa using q3)]
    exact Zau ⟨rfl,uD o m2 (.inl q3)⟩
   ·rw[Zad (by simpa using q3)]
    exact fin m2 rfl q3
  ·rw[Zad q2];exact fin m (by omega) (by omega)
theorem K5{out:Array Keyed}{ia ib mg ac bc:Nat}(hc:Cmp prog w A s κ D r)(hk:kindOf st=κ)(o:DN D r a b)(i:In r a b out ia ib) :
  wpS (model prog w) A E s (T8 a b out ia ib mg ac bc) (λc st'=>st'=cN st mg/\P7 r a b (ia+ib+1) c) st:=by
 have ha:=i.ha;have hb:=i.hb;obtain⟨y,ey,ey'⟩:=getL hb;unfold T8;rw[fY];refine Zan (wpS_modify ?_);refine Zan (bV ey' ?_);refine Zan (iZ hc (show kindOf (cN st mg)=κ from hk) (by omega) (by omega) (Bo a ia (by omega)) (o.db y (pD ey)) (λz hz=>⟨o.da z (ZaW hz),λe=>o.ne z (ZaW hz) y (pD ey) e⟩) (Zam (ZaX _ _) o.sa) λk hk' g1 g2=>?_)
 dsimp only;rw[List.drop_drop] at g2;have fin:∀ {o2:Array Keyed}{j:Nat},Mg r a.toList b.toList o2.toList j ib->j=ia+k->j+1<a.size->wpS (model prog w) A E s (Qw a b o2 j ib mg k bc) (λc st'=>st'=cN st mg/\P7 r a b (ia+ib+1) c) (cN st mg):=λ{o2 j} m2 e ne=>by
  refine Za6 (Ua hc (show kindOf (cN st mg)=κ from hk) o ⟨m2,ne,hb⟩ λy' ey2 z hz=>?_) λc st' p=>⟨p.1,P7.mono (by omega) p.2⟩
  rw[ey] at ey2;cases ey2;rw[e] at hz;exact g2 z hz
 by_cases q2:k>0
 ·rw[Zaf q2];have m2:Mg r a.toList b.toList (out++a.extract ia (ia+k)).toList (ia+k) ib:=by
   have:=i.mg.as o.sa k λx hx z hz=>Zav (g1 x hx) (pZ o.sb ey z hz);rw[ZaU,ext_toList a _ _ (by omega) (by omega),ZbQ]
   exact this
  by_cases q3:ia+k+1=a.size
  ·rw[Zaf (by simpa using q3)]
   exact Zau ⟨rfl,xu o m2 q3⟩
  ·rw[Zad (by simpa using q3)]
   by_cases q4:ia+k=a.size
   ·rw[Zaf (by simpa using q4)]
    exact Zau ⟨rfl,uD o m2 (.inr q4)⟩
   ·rw[Zad (by simpa using q4)]
    exact fin m2 rfl (by omega)
 ·rw[Zad q2];exact fin i.mg (by omega) (by omega)
theorem Ub{c:S7}(hc:Cmp prog w A s κ D r)(hk:kindOf st=κ)(o:DN D r a b)(i:In r a b c.2.1 c.2.2.1 c.2.2.2.1) :
  wpS (model prog w) A E s (Wx a b c) (λc' st'=>(∃ g,st'=cN st g)/\P7 r a b (c.2.2.1+c.2.2.2.1+1) c') st:=by
 unfold Wx;split
 ·exact Za6 (K5 hc hk o i) λc' st' p=>⟨⟨_,p.1⟩,p.2⟩
 ·exact Za6 (K5 hc hk o i) λc' st' p=>⟨⟨_,p.1⟩,p.2⟩
def P6(r:Keyed->Nat)(a b:Array Keyed)(n:Nat):ForInStep S6->Prop
 |.done (some o,_)=>Good r a b o
 |.done (none,out,ia,ib,_)=>In r a b out ia ib/\n<=ia+ib
 |.yield (none,out,ia,ib,_)=>In r a b out ia ib/\n<=ia+ib
 |.yield (some _,_)=>False
theorem Uc{c:S6}{mg:Nat}(hc:Cmp prog w A s κ D r)(hk:kindOf st=κ)(o:DN D r a b)(i:In r a b c.2.1 c.2.2.1 c.2.2.2.1) :
  wpS (model prog w) A E s (Wy a b mg c) (λc' st'=>st'=st/\P6 r a b (c.2.2.1+c.2.2.2.1+1) c') st:=by
 obtain⟨c0,out,ia,ib,ac,bc⟩:=c;have ha:ia+1<a.size:=i.ha;have hb:ib<b.size:=i.hb;obtain⟨y,ey,ey'⟩:=getL hb;obtain⟨x,ex,ex'⟩:=getL (l:=a) (i:=ia) (by lia)
 unfold Wy;dsimp only;refine Zan (bV ey' (Zan (bV ex' (Zan (yM hc hk (o.db y (pD ey)) (o.da x (pD ex)) ?_)))));dsimp only;have nxy:=o.ne x (pD ex) y (pD ey);by_cases q:r y<r x
 ·rw[Zax q,Zaf rfl];have t1:=take1 ey;have m:Mg r a.toList b.toList (out.push y).toList ia (ib+1):=by
   have:=i.mg.bs o.sb 1 (by rw[t1.1];intro z hz x' hx';rw[ZaL.mp hz];exact Zav q (pZ o.sa ex x' hx'))
   rw[t1.1] at this;rw[ZbC];exact this
  refine Zan (bV ey' ?_);by_cases q2:ib+1=b.size
  ·rw[Zaf (by simpa using q2)]
   exact Zau ⟨rfl,uD o m (.inl q2)⟩
  ·rw[Zad (by simpa using q2)]
   have I:In r a b (out.push y) ia (ib+1):=⟨m,ha,by lia⟩
   split
   ·exact Zau ⟨rfl,I,Nat.le_of_eq (by lia)⟩
   ·exact Zau ⟨rfl,I,Nat.le_of_eq (by lia)⟩
 ·rw[Zaw q,Zad (by decide)]
  have t1:=take1 ex;have m:Mg r a.toList b.toList (out.push x).toList (ia+1) ib:=by
   have:=i.mg.as o.sa 1 (by rw[t1.1];intro z hz y' hy';rw[ZaL.mp hz];exact Zav (by lia) (pZ o.sb ey y' hy'))
   rw[t1.1] at this;rw[ZbC];exact this
  refine Zan (bV ex' ?_);by_cases q2:ia+1+1=a.size
  ·rw[Zaf (by simpa using q2)]
   exact Zau ⟨rfl,xu o m q2⟩
  ·rw[Zad (by simpa using q2)]
   have I:In r a b (out.push x) (ia+1) ib:=⟨m,by lia,hb⟩
   split
   ·exact Zau ⟨rfl,I,Nat.le_of_eq (by lia)⟩
   ·exact Zau ⟨rfl,I,Nat.le_of_eq (by lia)⟩
end
section
variable{prog:Program}{w:World}{A:Around}{E:Value->Shared->Prop}{s:Shared}{κ:SortKind}{D:Keyed->Prop}{r:Keyed->Nat}{st:SortSt}{a b:Array Keyed}
def P5(r:Keyed->Nat)(a b:Array Keyed)(n:Nat):ForInStep S5->Prop
 |.done (some o,_)=>Good r a b o
 |.done (none,_)=>False
 |.yield (none,out,ia,ib,_)=>In r a b out ia ib/\n<=ia+ib
 |.yield (some _,_)=>False
theorem Ud{c:S5}(hc:Cmp prog w A s κ D r)(hk:kindOf st=κ)(o:DN D r a b)(i:In r a b c.2.1 c.2.2.1 c.2.2.2.1) :
  wpS (model prog w) A E s (Wz a b c) (λc' st'=>(∃ g,st'=cN st g)/\P5 r a b (c.2.2.1+c.2.2.2.1+1) c') st:=by
 obtain⟨c0,out,ia,ib,mg⟩:=c;have ha:ia+1<a.size:=i.ha;unfold Wz;dsimp only;refine Zan (Za6 (Zbe (I:=λk d st'=>st'=st/\∃ o2 i2 j2 ac bc,d=((none,o2,i2,j2,ac,bc):S6)/\In r a b o2 i2 j2/\ia+ib+k<=i2+j2)
  (Q:=λd st'=>st'=st/\((∃ o2 x,d=((some o2,x):S6)/\Good r a b o2)\/∃ o2 i2 j2 ac bc,d=((none,o2,i2,j2,ac,bc):S6)/\In r a b o2 i2 j2/\ia+ib+1<=i2+j2)) ?_ ?_ ⟨rfl,out,ia,ib,0,0,rfl,i,Zak _⟩) ?_)
 ·rintro k d st' _ hk' ⟨rfl,o2,i2,j2,ac,bc,rfl,I,hn⟩;refine Za6 (Uc (c:=(none,o2,i2,j2,ac,bc)) hc hk o I) λe st' p=>?_;obtain⟨rfl,p⟩:=p
  match e,p with
  |.done (some o3,x),p=>exact⟨rfl,.inl ⟨o3,x,rfl,p⟩⟩
  |.done (none,o3,i3,j3,a3,b3),p=>exact⟨rfl,.inr ⟨o3,i3,j3,a3,b3,rfl,p.1,by have:i2+j2+1<=i3+j3:=p.2;lia⟩⟩
  |.yield (none,o3,i3,j3,a3,b3),p=>exact⟨rfl,o3,i3,j3,a3,b3,rfl,p.1,by have:i2+j2+1<=i3+j3:=p.2;lia⟩
  |.yield (some _,_),p=>exact p.elim
 ·rintro d st' ⟨rfl,o2,i2,j2,ac,bc,rfl,I,hn⟩;exact⟨rfl,.inr ⟨o2,i2,j2,ac,bc,rfl,I,by lia⟩⟩
 ·rintro d st' ⟨rfl,⟨o2,x,rfl,G⟩|⟨o2,i2,j2,ac,bc,rfl,I,hn⟩⟩
  ·exact Zau ⟨⟨gallopOf st',rfl⟩,G⟩
  ·dsimp only;refine Zan (nq ?_);refine Zan (Za6 (Zbe (I:=λk e st2=>(∃ g,st2=cN st' g)/\∃ o2 i2 j2 mg ac bc,e=((none,o2,i2,j2,mg,ac,bc):S7)/\In r a b o2 i2 j2/\ia+ib+1<=i2+j2)
    (Q:=λe st2=>(∃ g,st2=cN st' g)/\((∃ o2 x,e=((some o2,x):S7)/\Good r a b o2)\/∃ o2 i2 j2 mg ac bc,e=((none,o2,i2,j2,mg,ac,bc):S7)/\In r a b o2 i2 j2/\ia+ib+1<=i2+j2)) ?_ ?_ ⟨⟨gallopOf st',rfl⟩,o2,i2,j2,_,ac,bc,rfl,I,hn⟩) ?_)
   ·rintro k e st2 _ _ ⟨⟨g,rfl⟩,o3,i3,j3,m3,a3,b3,rfl,I3,hn3⟩;refine Za6 (Ub (c:=(none,o3,i3,j3,m3,a3,b3)) hc (show kindOf (cN st' g)=κ from hk) o I3) λe st3 p=>?_;obtain⟨⟨g2,rfl⟩,p⟩:=p
    match e,p with
    |.done (some o4,x),p=>exact⟨⟨g2,rfl⟩,.inl ⟨o4,x,rfl,p⟩⟩
    |.done (none,o4,i4,j4,m4,a4,b4),p=>exact⟨⟨g2,rfl⟩,.inr ⟨o4,i4,j4,m4,a4,b4,rfl,p.1,by have:i3+j3+1<=i4+j4:=p.2;lia⟩⟩
    |.yield (none,o4,i4,j4,m4,a4,b4),p=>exact⟨⟨g2,rfl⟩,o4,i4,j4,m4,a4,b4,rfl,p.1,by have:i3+j3+1<=i4+j4:=p.2;lia⟩
    |.yield (some _,_),p=>exact p.elim
   ·rintro e st2 ⟨G,o3,i3,j3,m3,a3,b3,rfl,I3,hn3⟩;exact⟨G,.inr ⟨o3,i3,j3,m3,a3,b3,rfl,I3,hn3⟩⟩
   ·rintro e st2 ⟨⟨g,rfl⟩,⟨o3,x,rfl,G⟩|⟨o3,i3,j3,m3,a3,b3,rfl,I3,hn3⟩⟩
    ·exact Zau ⟨⟨g,rfl⟩,G⟩
    ·dsimp only;rw[fY];refine Zan (wpS_modify ?_);exact Zau ⟨⟨_,rfl⟩,I3,hn3⟩
theorem Hh(hc:Cmp prog w A s κ D r)(hk:kindOf st=κ)(a1:1<=a.size)(b1:1<=b.size)(o:DN D r a b)(hf:∀ y,b.toList[0]?=some y->∀ x∈a.toList,r y<r x){Q:Array Keyed->SortSt->Prop}
  (h:∀ out g,Good r a b out->Q out (cN st g)):wpS (model prog w) A E s (yK a b) Q st:=by
 rw[Hg];unfold Hf;refine Zan (nq ?_);obtain⟨y,ey,ey'⟩:=getL (l:=b) (i:=0) (by lia)
 refine Zan (bV ey' ?_);have t1:=take1 ey;have m:Mg r a.toList b.toList (#[y]:Array Keyed).toList 0 1:=by
  have m0:Mg r a.toList b.toList [] 0 0:=⟨.nil,λ_ h=>(nomatch h),by simp⟩
  have:=m0.bs o.sb 1 (by rw[t1.1];intro z hz x hx;rw[ZaL.mp hz];exact hf y ey x (by simpa using hx))
  rw[t1.1] at this;exact this
 by_cases q:1=b.size
 ·rw[Zaf (by simpa using q)]
  exact Zau (h _ (gallopOf st) (uD o m (.inl q)))
 ·rw[Zad (by simpa using q)]
  by_cases q2:0+1=a.size
  ·rw[Zaf (by simpa using q2)]
   exact Zau (h _ (gallopOf st) (xu o m q2))
  ·rw[Zad (by simpa using q2)]
   refine Zan (wpS_get ?_);refine Zan (Za6 (Zbe (I:=λk c st'=>(∃ g,st'=cN st g)/\∃ out ia ib mg,c=((none,out,ia,ib,mg):S5)/\In r a b out ia ib/\k+1<=ia+ib)
    (Q:=λc st'=>(∃ g,st'=cN st g)/\∃ out x,c=((some out,x):S5)/\Good r a b out) ?_ ?_ ⟨⟨gallopOf st,rfl⟩,_,0,1,_,rfl,⟨m,by lia,by lia⟩,by lia⟩) ?_)
   ·rintro k c st' _ hk' ⟨⟨g,rfl⟩,out,ia,ib,mg,rfl,I,hn⟩;refine Za6 (Ud (c:=(none,out,ia,ib,mg)) hc (show kindOf (cN st g)=κ from hk) o I) λe st3 p=>?_;obtain⟨⟨g2,rfl⟩,p⟩:=p
    match e,p with
    |.done (some o4,x),p=>exact⟨⟨g2,rfl⟩,o4,x,rfl,p⟩
    |.done (none,_),p=>exact p.elim
    |.yield (none,o4,i4,j4,m4),p=>exact⟨⟨g2,rfl⟩,o4,i4,j4,m4,rfl,p.1,by have:ia+ib+1<=i4+j4:=p.2;lia⟩
    |.yield (some _,_),p=>exact p.elim
   ·rintro c st' ⟨_,out,ia,ib,mg,rfl,I,hn⟩;have:=I.ha;have:=I.hb;lia
   ·rintro c st' ⟨⟨g,rfl⟩,out,x,rfl,G⟩;exact Zau (h out g G)
end
noncomputable abbrev T7:=Option (Array Keyed)×Nat×Nat×Array Keyed×Nat×Nat×Nat
noncomputable abbrev T6:=Option (Array Keyed)×Nat×Nat×Array Keyed×Nat×Nat
noncomputable abbrev T5:=Option (Array Keyed)×Nat×Nat×Array Keyed×Nat
noncomputable abbrev dnH(a b out:Array Keyed)(na nb:Nat):Array Keyed:=a.extract 0 na++b.extract 0 nb++out.reverse
noncomputable abbrev fbH(a b out:Array Keyed)(na nb:Nat):Array Keyed:=b.extract 0 nb++a.extract 0 na++out.reverse
def Qx(a b out:Array Keyed)(na nb mg ac bc:Nat):StateT SortSt Sem (ForInStep T7):=do
 let x <-elem' a (na-1)
 if na-1==0 then return .done (some (dnH a b (out.push x) (na-1) nb),na-1,nb,out.push x,mg,ac,bc)
 if ac<7&&bc<7 then return .done (none,na-1,nb,out.push x,mg,ac,bc)
 return .yield (none,na-1,nb,out.push x,mg,ac,bc)
def Qy(a b out:Array Keyed)(na nb mg ac bc:Nat):StateT SortSt Sem (ForInStep T7):=do
 let y <-elem' b (nb-1)
 if nb-1==1 then return .done (some (fbH a b (out.push y) na (nb-1)),na,nb-1,out.push y,mg,ac,bc)
 let some at_ <-jR true (<-elem' a (na-1)) b 0 (nb-1) (nb-1-1)|return .done (some (dnH a b (out.push y) na (nb-1)),na,nb-1,out.push y,mg,ac,bc)
 if nb-1-at_>0 then
  if at_==1 then return .done (some (fbH a b (out.push y++(b.extract at_ (nb-1)).reverse) na at_),na,at_,out.push y++(b.extract at_ (nb-1)).reverse,mg,ac,nb-1-at_)
  if at_==0 then return .done (some (dnH a b (out.push y++(b.extract at_ (nb-1)).reverse) na at_),na,at_,out.push y++(b.extract at_ (nb-1)).reverse,mg,ac,nb-1-at_)
  Qx a b (out.push y++(b.extract at_ (nb-1)).reverse) na at_ mg ac (nb-1-at_)
 else Qx a b (out.push y) na (nb-1) mg ac (nb-1-at_)
def Ue(a b out:Array Keyed)(na nb mg ac bc:Nat):StateT SortSt Sem (ForInStep T7):=do
 gA mg
 let some at_ <-jR false (<-elem' b (nb-1)) a 0 na (na-1)|return .done (some (dnH a b out na nb),na,nb,out,mg,ac,bc)
 if na-at_>0 then
  if at_==0 then return .done (some (dnH a b (out++(a.extract at_ na).reverse) at_ nb),at_,nb,out++(a.extract at_ na).reverse,mg,na-at_,bc)
  Qy a b (out++(a.extract at_ na).reverse) at_ nb mg (na-at_) bc
 else Qy a b out na nb mg (na-at_) bc
def WD(a b:Array Keyed)(c:T7):StateT SortSt Sem (ForInStep T7):=
 if c.2.2.2.2.1>1 then Ue a b c.2.2.2.1 c.2.1 c.2.2.1 (c.2.2.2.2.1-1) c.2.2.2.2.2.1 c.2.2.2.2.2.2 else Ue a b c.2.2.2.1 c.2.1 c.2.2.1 c.2.2.2.2.1 c.2.2.2.2.2.1 c.2.2.2.2.2.2
def WF(a b:Array Keyed)(mg:Nat)(c:T6):StateT SortSt Sem (ForInStep T6):=do
 let some aWins <-lt' (<-elem' b (c.2.2.1-1)) (<-elem' a (c.2.1-1))|return .done (some (dnH a b c.2.2.2.1 c.2.1 c.2.2.1),c.2.1,c.2.2.1,c.2.2.2.1,c.2.2.2.2.1,c.2.2.2.2.2)
 if aWins then
  let x <-elem' a (c.2.1-1)
  if c.2.1-1==0 then return .done (some (dnH a b (c.2.2.2.1.push x) (c.2.1-1) c.2.2.1),c.2.1-1,c.2.2.1,c.2.2.2.1.push x,c.2.2.2.2.1+1,0)
  if c.2.2.2.2.1+1>=mg then return .done (none,c.2.1-1,c.2.2.1,c.2.2.2.1.push x,c.2.2.2.2.1+1,0)
  return .yield (none,c.2.1-1,c.2.2.1,c.2.2.2.1.push x,c.2.2.2.2.1+1,0)
 else
  let y <-elem' b (c.2.2.1-1)
  if c.2.2.1-1==1 then return .done (some (fbH a b (c.2.2.2.1.push y) c.2.1 (c.2.2.1-1)),c.2.1,c.2.2.1-1,c.2.2.2.1.push y,0,c.2.2.2.2.2+1)
  if c.2.2.2.2.2+1>=mg then return .done (none,c.2.1,c.2.2.1-1,c.2.2.2.1.push y,0,c.2.2.2.2.2+1)
  return .yield (none,c.2.1,c.2.2.1-1,c.2.2.2.1.push y,0,c.2.2.2.2.2+1)
def WK(a b:Array Keyed)(c:T5):StateT SortSt Sem (ForInStep T5):=do
 let d <-forIn [0:a.size+b.size] ((none,c.2.1,c.2.2.1,c.2.2.2.1,0,0):T6) λ_ d=>WF a b c.2.2.2.2 d
 match d.1 with
 |some r=>pure (.done (some r,d.2.1,d.2.2.1,d.2.2.2.1,c.2.2.2.2))
 |none=>do
  rule "list.sort.gallop"
  let e <-forIn [0:a.size+b.size] ((none,d.2.1,d.2.2.1,d.2.2.2.1,c.2.2.2.2+1,d.2.2.2.2.1,d.2.2.2.2.2):T7) λ_ e=>WD a b e
  match e.1 with
  |some r=>pure (.done (some r,e.2.1,e.2.2.1,e.2.2.2.1,e.2.2.2.2.1))
  |none=>do
   gA (e.2.2.2.2.1+1)
   pure (.yield (none,e.2.1,e.2.2.1,e.2.2.2.1,e.2.2.2.2.1+1))
def Hi(a b:Array Keyed):StateT SortSt Sem (Array Keyed):=do
 rule "list.sort.merge-hi"
 let x <-elem' a (a.size-1)
 if a.size-1==0 then return dnH a b #[x] (a.size-1) b.size
 if b.size==1 then return fbH a b #[x] (a.size-1) b.size
 let s <-get
 let c <-forIn [0:a.size+b.size] ((none,a.size-1,b.size,#[x],gallopOf s):T5) λ_ c=>WK a b c
 match c.1 with
 |some r=>pure r
 |none=>unsupported "internal:list.sort.merge-bound"
theorem Hj(a b:Array Keyed):yL a b=Hi a b:=by
 kernel_rfl
section
variable{r:Keyed->Nat}{la lb out:List Keyed}{na nb:Nat}
structure Mh(r:Keyed->Nat)(la lb out:List Keyed)(na nb:Nat):Prop where
 so:Srt r out.reverse
 lt:∀ o∈out,∀ z∈la.take na++lb.take nb,r z<r o
 pm:out.Perm (la.drop na++lb.drop nb)
theorem oA(l:List Keyed){i j:Nat}(h:i<=j):l.drop i=(l.take j).drop i++l.drop j:=by
 conv=>lhs;rw[<-ZaJ j l]
 by_cases q:j<=l.length
 ·rw[List.drop_append_of_le_length (by simp;lia)]
 ·rw[show l.drop j=[] from Zbn (by lia),Zbc,Zbc]
theorem Mh.as(h:Mh r la lb out na nb)(sa:Srt r la){i:Nat}(hi:i<=na)(hk:∀ x∈(la.take na).drop i,∀ y∈lb.take nb,r y<r x):Mh r la lb (out++((la.take na).drop i).reverse) i nb:=by
 have st:Srt r (la.take na):=Zam (ZaT _ _) sa;have e:la.take i=(la.take na).take i:=by rw[ZbA,Zbp hi]
 have sp:Srt r ((la.take na).take i++(la.take na).drop i):=by rw[ZaJ];exact st
 refine⟨?_,λo ho z hz=>?_,?_⟩
 ·rw[List.reverse_append,List.reverse_reverse];exact Zas.mpr ⟨Zam (ZaX _ _) st,h.so,λx hx o ho=>h.lt o (ZbU.mp ho) x (Zaj.mpr (.inl (ZaW hx)))⟩
 ·rw[e] at hz;rcases Zaj.mp ho with q|q
  ·refine h.lt o q z ?_;rcases Zaj.mp hz with w|w
   ·exact Zaj.mpr (.inl (ZaR w))
   ·exact Zaj.mpr (.inr w)
  ·have q:=ZbU.mp q;rcases Zaj.mp hz with w|w
   ·exact(Zas.mp sp).2.2 z w o q
   ·exact hk o q z w
 ·rw[oA la hi,Zay];refine(List.Perm.append h.pm (List.reverse_perm _)).trans ?_;exact List.perm_append_comm
theorem Mh.bs(h:Mh r la lb out na nb)(sb:Srt r lb){i:Nat}(hi:i<=nb)(hk:∀ y∈(lb.take nb).drop i,∀ x∈la.take na,r x<r y):Mh r la lb (out++((lb.take nb).drop i).reverse) na i:=by
 have st:Srt r (lb.take nb):=Zam (ZaT _ _) sb;have e:lb.take i=(lb.take nb).take i:=by rw[ZbA,Zbp hi]
 have sp:Srt r ((lb.take nb).take i++(lb.take nb).drop i):=by rw[ZaJ];exact st
 refine⟨?_,λo ho z hz=>?_,?_⟩
 ·rw[List.reverse_append,List.reverse_reverse];exact Zas.mpr ⟨Zam (ZaX _ _) st,h.so,λx hx o ho=>h.lt o (ZbU.mp ho) x (Zaj.mpr (.inr (ZaW hx)))⟩
 ·rw[e] at hz;rcases Zaj.mp ho with q|q
  ·refine h.lt o q z ?_;rcases Zaj.mp hz with w|w
   ·exact Zaj.mpr (.inl w)
   ·exact Zaj.mpr (.inr (ZaR w))
  ·have q:=ZbU.mp q;rcases Zaj.mp hz with w|w
   ·exact hk o q z w
   ·exact(Zas.mp sp).2.2 z w o q
 ·rw[oA lb hi];refine(List.Perm.append h.pm (List.reverse_perm _)).trans ?_;rw[Zay];refine Za8 _ ?_;exact List.perm_append_comm
theorem Qz(la lb:List Keyed)(na nb:Nat):(la.take na++lb.take nb++(la.drop na++lb.drop nb)).Perm (la++lb):=by
 conv=>rhs;rw[<-ZaJ na la,<-ZaJ nb lb]
 simp only[Zay];refine Za8 _ ?_;rw[<-Zay,<-Zay];exact ZbX _ List.perm_append_comm
theorem Mh.end(h:Mh r la lb out na nb)(sa:Srt r la)(sb:Srt r lb)(hk:∀ x∈la.take na,∀ y∈lb.take nb,r x<r y):Srt r (la.take na++lb.take nb++out.reverse)/\(la.take na++lb.take nb++out.reverse).Perm (la++lb):=by
 refine⟨Zas.mpr ⟨Zas.mpr ⟨Zam (ZaT _ _) sa,Zam (ZaT _ _) sb,hk⟩,h.so,λz hz o ho=>h.lt o (ZbU.mp ho) z hz⟩,?_⟩;exact(Za8 _ ((List.reverse_perm _).trans h.pm)).trans (Qz la lb na nb)
theorem Mh.Ww(h:Mh r la lb out na nb)(sa:Srt r la)(sb:Srt r lb)(hk:∀ x∈la.take na,∀ y∈lb.take nb,r y<r x):Srt r (lb.take nb++la.take na++out.reverse)/\(lb.take nb++la.take na++out.reverse).Perm (la++lb):=by
 refine⟨Zas.mpr ⟨Zas.mpr ⟨Zam (ZaT _ _) sb,Zam (ZaT _ _) sa,λy hy x hx=>hk x hx y hy⟩,h.so,λz hz o ho=>h.lt o (ZbU.mp ho) z (by
  rcases Zaj.mp hz with q|q
  ·exact Zaj.mpr (.inr q)
  ·exact Zaj.mpr (.inl q))⟩,?_⟩
 refine(List.Perm.append List.perm_append_comm ((List.reverse_perm _).trans h.pm)).trans (Qz la lb na nb)
end
section
variable{prog:Program}{w:World}{A:Around}{E:Value->Shared->Prop}{s:Shared}{κ:SortKind}{D:Keyed->Prop}{r:Keyed->Nat}{st:SortSt}{a b:Array Keyed}
structure DP(D:Keyed->Prop)(r:Keyed->Nat)(a b:Array Keyed):Prop where
 da:∀ x∈a.toList,D x
 db:∀ x∈b.toList,D x
 sa:Srt r a.toList
 sb:Srt r b.toList
 ne:∀ x∈a.toList,∀ y∈b.toList,r x≠r y
 fb:∀ y,b.toList[0]?=some y->∀ x∈a.toList,r y<r x
theorem uE(a:Array Keyed)(j:Nat)(h:j<=a.size):(a.extract 0 j).toList=a.toList.take j:=by
 rw[ext_toList a 0 j (Zba _) h,Zbo,Nat.sub_zero]
theorem K6(a:Array Keyed)(i j:Nat)(h:i<=j)(hj:j<=a.size):(a.extract i j).reverse.toList=((a.toList.take j).drop i).reverse:=by
 rw[Array.toList_reverse,ext_toList a i j h hj,List.drop_take]
theorem Hk{out:Array Keyed}{na nb:Nat}(o:DP D r a b)(m:Mh r a.toList b.toList out.toList na nb)(ha:na<=a.size)(hb:nb<=b.size)(h:na=0\/nb=0):Good r a b (dnH a b out na nb):=by
 have e:=m.end o.sa o.sb (λx hx y hy=>by
  rcases h with q|q
  ·rw[q] at hx;cases hx
  ·rw[q] at hy;cases hy)
 unfold Good dnH;rw[ZaU,ZaU,uE a na ha,uE b nb hb,Array.toList_reverse];exact e
theorem K7{out:Array Keyed}{na nb:Nat}(o:DP D r a b)(m:Mh r a.toList b.toList out.toList na nb)(ha:na<=a.size)(hb:nb<=b.size)(h:nb=1):Good r a b (fbH a b out na nb):=by
 have e:=m.Ww o.sa o.sb (λx hx y hy=>by
  rw[h] at hy;obtain⟨y0,e0⟩:∃ y0,b.toList[0]?=some y0:=⟨_,List.getElem?_eq_getElem (by simp;lia)⟩
  have:b.toList.take 1=[y0]:=by
   have:=(take1 e0).1
   rwa [Zbo] at this
  rw[this,ZaL] at hy;rw[hy];exact o.fb y0 e0 x (ZaR hx))
 unfold Good fbH;rw[ZaU,ZaU,uE a na ha,uE b nb hb,Array.toList_reverse];exact e
structure Ih(r:Keyed->Nat)(a b out:Array Keyed)(na nb:Nat):Prop where
 mh:Mh r a.toList b.toList out.toList na nb
 a0:1<=na
 a1:na<=a.size
 b0:2<=nb
 b1:nb<=b.size
def H7(r:Keyed->Nat)(a b:Array Keyed)(n:Nat):ForInStep T7->Prop
 |.done (some o,_)=>Good r a b o
 |.done (none,na,nb,out,_)=>Ih r a b out na nb/\na+nb<=n
 |.yield (none,na,nb,out,_)=>Ih r a b out na nb/\na+nb<=n
 |.yield (some _,_)=>False
theorem H7.mono{n m:Nat}(h:n<=m):∀ {c:ForInStep T7},H7 r a b n c->H7 r a b m c
 |.done (some _,_),p=>p
 |.done (none,_,_,_,_),p=>⟨p.1,ZaE p.2 h⟩
 |.yield (none,_,_,_,_),p=>⟨p.1,ZaE p.2 h⟩
 |.yield (some _,_),p=>p
theorem K8{l:List Keyed}{n:Nat}{x:Keyed}(h0:1<=n)(h:l[n-1]?=some x):(l.take n).drop (n-1)=[x]:=by
 have hi:=(Zab.mp h).1;have e:l.take n=l.take (n-1)++[x]:=by
  conv=>lhs;rw[show n=n-1+1 by lia]
  rw[List.take_succ,h];rfl
 rw[e,List.drop_left' (by simp;lia)]
theorem p6{l:List Keyed}{n:Nat}{x:Keyed}(sl:Srt r l)(h0:1<=n)(h:l[n-1]?=some x):∀ z∈l.take n,r z<=r x:=λz hz=>by
 have e:l.take n=l.take (n-1)++[x]:=by
  conv=>lhs;rw[show n=n-1+1 by omega]
  rw[List.take_succ,h];rfl
 have:=Zam (ZaT n l) sl;rw[e] at hz this;rcases Zaj.mp hz with q|q
 ·exact ZaO ((Zas.mp this).2.2 z q x (by simp))
 ·rw[ZaL.mp q];exact Zak _
theorem Mh.a1{out:Array Keyed}{na nb:Nat}{x:Keyed}(m:Mh r a.toList b.toList out.toList na nb)(sa:Srt r a.toList)(h0:1<=na)(ex:a.toList[na-1]?=some x)(hx:∀ y∈b.toList.take nb,r y<r x):Mh r a.toList b.toList (out.push x).toList (na-1) nb:=by
 have:=m.as sa (i:=na-1) (by omega) (by rw[K8 h0 ex];intro z hz;rw[ZaL.mp hz];exact hx)
 rw[K8 h0 ex] at this;rw[ZbC];exact this
theorem Mh.b1{out:Array Keyed}{na nb:Nat}{y:Keyed}(m:Mh r a.toList b.toList out.toList na nb)(sb:Srt r b.toList)(h0:1<=nb)(ey:b.toList[nb-1]?=some y)(hy:∀ x∈a.toList.take na,r x<r y):Mh r a.toList b.toList (out.push y).toList na (nb-1):=by
 have:=m.bs sb (i:=nb-1) (by omega) (by rw[K8 h0 ey];intro z hz;rw[ZaL.mp hz];exact hy)
 rw[K8 h0 ey] at this;rw[ZbC];exact this
theorem Ug{M:Model}{out:Array Keyed}{na nb mg ac bc:Nat}(o:DP D r a b)(i:Ih r a b out na nb)(hx:∀ x,a.toList[na-1]?=some x->∀ y∈b.toList.take nb,r y<r x) :
  wpS M A E s (Qx a b out na nb mg ac bc) (λc st'=>st'=st/\H7 r a b (na+nb-1) c) st:=by
 obtain⟨mh,a0,a1,b0,b1⟩:=i;obtain⟨x,ex,ex'⟩:=getL (l:=a) (i:=na-1) (by lia)
 have m:=mh.a1 o.sa a0 ex (hx x ex);unfold Qx;refine Zan (bV ex' ?_);by_cases q:na-1=0
 ·rw[Zaf (by simpa using q)]
  exact Zau ⟨rfl,Hk o m (by lia) b1 (.inl q)⟩
 ·rw[Zad (by simpa using q)]
  have I:Ih r a b (out.push x) (na-1) nb:=⟨m,by lia,by lia,b0,b1⟩
  split
  ·exact Zau ⟨rfl,I,by lia⟩
  ·exact Zau ⟨rfl,I,by lia⟩
theorem Uh{out:Array Keyed}{na nb mg ac bc:Nat}(hc:Cmp prog w A s κ D r)(hk:kindOf st=κ)(o:DP D r a b)(i:Ih r a b out na nb)(hy:∀ y,b.toList[nb-1]?=some y->∀ x∈a.toList.take na,r x<r y) :
  wpS (model prog w) A E s (Qy a b out na nb mg ac bc) (λc st'=>st'=st/\H7 r a b (na+nb-1) c) st:=by
 obtain⟨mh,a0,a1,b0,b1⟩:=i;obtain⟨y,ey,ey'⟩:=getL (l:=b) (i:=nb-1) (by omega)
 have m:=mh.b1 o.sb (by omega) ey (hy y ey)
 unfold Qy;refine Zan (bV ey' ?_);by_cases q:nb-1=1
 ·rw[Zaf (by simpa using q)]
  exact Zau ⟨rfl,K7 o m a1 (by omega) q⟩
 ·rw[Zad (by simpa using q)]
  obtain⟨x,ex,ex'⟩:=getL (l:=a) (i:=na-1) (by omega)
  refine Zan (bV ex' ?_);refine Zan (iZ (L:=b.toList.take (nb-1)) hc hk (by omega) (by omega) (by rw[Zbo]) (o.da x (pD ex)) (λz hz=>⟨o.db z (ZaR hz),λe=>o.ne x (pD ex) z (ZaR hz) e.symm⟩) (Zam (ZaT _ _) o.sb) λk hk' g1 g2=>?_)
  dsimp only;rw[ZbA,Zbp hk'] at g1;have fin:∀ {o2:Array Keyed}{j:Nat},Mh r a.toList b.toList o2.toList na j->j=k->2<=j->∀ bc,wpS (model prog w) A E s (Qx a b o2 na j mg ac bc) (λc st'=>st'=st/\H7 r a b (na+nb-1) c) st:=λ{o2 j} m2 e ne bc=>by
   refine Za6 (Ug o ⟨m2,a0,a1,ne,by omega⟩ λx' ex2 z hz=>?_) λc st' p=>⟨p.1,H7.mono (by omega) p.2⟩
   rw[ex] at ex2;cases ex2;rw[e] at hz;exact g1 z hz
  by_cases q2:nb-1-k>0
  ·rw[Zaf q2];have m2:Mh r a.toList b.toList (out.push y++(b.extract k (nb-1)).reverse).toList na k:=by
    have:=m.bs o.sb (i:=k) (by omega) λz hz x' hx'=>Nat.lt_of_le_of_lt (p6 o.sa a0 ex x' hx') (g2 z hz)
    rw[ZaU,K6 b k (nb-1) (by omega) (by omega)]
    exact this
   by_cases q3:k=1
   ·rw[Zaf (by simpa using q3)]
    exact Zau ⟨rfl,K7 o m2 a1 (by omega) q3⟩
   ·rw[Zad (by simpa using q3)]
    by_cases q4:k=0
    ·rw[Zaf (by simpa using q4)]
     exact Zau ⟨rfl,Hk o m2 a1 (by omega) (.inr q4)⟩
    ·rw[Zad (by simpa using q4)]
     exact fin m2 rfl (by omega) _
  ·rw[Zad q2];exact fin m (by omega) (by omega) _
theorem K9{out:Array Keyed}{na nb mg ac bc:Nat}(hc:Cmp prog w A s κ D r)(hk:kindOf st=κ)(o:DP D r a b)(i:Ih r a b out na nb) :
  wpS (model prog w) A E s (Ue a b out na nb mg ac bc) (λc st'=>st'=cN st mg/\H7 r a b (na+nb-1) c) st:=by
 obtain⟨mh,a0,a1,b0,b1⟩:=i;obtain⟨y,ey,ey'⟩:=getL (l:=b) (i:=nb-1) (by lia)
 unfold Ue;rw[fY];refine Zan (wpS_modify ?_);refine Zan (bV ey' ?_);refine Zan (iZ (L:=a.toList.take na) hc (show kindOf (cN st mg)=κ from hk) (by lia) (by lia) (by rw[Zbo]) (o.db y (pD ey)) (λz hz=>⟨o.da z (ZaR hz),λe=>o.ne z (ZaR hz) y (pD ey) e⟩) (Zam (ZaT _ _) o.sa) λk hk' g1 g2=>?_)
 dsimp only;rw[ZbA,Zbp hk'] at g1;have fin:∀ {o2:Array Keyed}{j:Nat},Mh r a.toList b.toList o2.toList j nb->j=k->1<=j->∀ ac,wpS (model prog w) A E s (Qy a b o2 j nb mg ac bc) (λc st'=>st'=cN st mg/\H7 r a b (na+nb-1) c) (cN st mg):=λ{o2 j} m2 e ne ac=>by
  refine Za6 (Uh hc (show kindOf (cN st mg)=κ from hk) o ⟨m2,ne,by lia,b0,b1⟩ λy' ey2 z hz=>?_) λc st' p=>⟨p.1,H7.mono (by lia) p.2⟩
  rw[ey] at ey2;cases ey2;rw[e] at hz;exact g1 z hz
 by_cases q2:na-k>0
 ·rw[Zaf q2];have m2:Mh r a.toList b.toList (out++(a.extract k na).reverse).toList k nb:=by
   have:=mh.as o.sa (i:=k) (by lia) λx hx z hz=>Nat.lt_of_le_of_lt (p6 o.sb (by lia) ey z hz) (g2 x hx)
   rw[ZaU,K6 a k na (by lia) a1]
   exact this
  by_cases q3:k=0
  ·rw[Zaf (by simpa using q3)]
   exact Zau ⟨rfl,Hk o m2 (by lia) b1 (.inl q3)⟩
  ·rw[Zad (by simpa using q3)]
   exact fin m2 rfl (by lia) _
 ·rw[Zad q2];exact fin mh (by lia) a0 _
theorem Ui{c:T7}(hc:Cmp prog w A s κ D r)(hk:kindOf st=κ)(o:DP D r a b)(i:Ih r a b c.2.2.2.1 c.2.1 c.2.2.1) :
  wpS (model prog w) A E s (WD a b c) (λc' st'=>(∃ g,st'=cN st g)/\H7 r a b (c.2.1+c.2.2.1-1) c') st:=by
 unfold WD;split
 ·exact Za6 (K9 hc hk o i) λc' st' p=>⟨⟨_,p.1⟩,p.2⟩
 ·exact Za6 (K9 hc hk o i) λc' st' p=>⟨⟨_,p.1⟩,p.2⟩
def H6(r:Keyed->Nat)(a b:Array Keyed)(n:Nat):ForInStep T6->Prop
 |.done (some o,_)=>Good r a b o
 |.done (none,na,nb,out,_)=>Ih r a b out na nb/\na+nb<=n
 |.yield (none,na,nb,out,_)=>Ih r a b out na nb/\na+nb<=n
 |.yield (some _,_)=>False
theorem Uj{c:T6}{mg:Nat}(hc:Cmp prog w A s κ D r)(hk:kindOf st=κ)(o:DP D r a b)(i:Ih r a b c.2.2.2.1 c.2.1 c.2.2.1) :
  wpS (model prog w) A E s (WF a b mg c) (λc' st'=>st'=st/\H6 r a b (c.2.1+c.2.2.1-1) c') st:=by
 obtain⟨c0,na,nb,out,ac,bc⟩:=c;obtain⟨mh,a0,a1,b0,b1⟩:=i;have a0:1<=na:=a0;have b0:2<=nb:=b0;have a1:na<=a.size:=a1;have b1:nb<=b.size:=b1;obtain⟨y,ey,ey'⟩:=getL (l:=b) (i:=nb-1) (by lia)
 obtain⟨x,ex,ex'⟩:=getL (l:=a) (i:=na-1) (by lia)
 unfold WF;dsimp only;refine Zan (bV ey' (Zan (bV ex' (Zan (yM hc hk (o.db y (pD ey)) (o.da x (pD ex)) ?_)))));dsimp only;have nxy:=o.ne x (pD ex) y (pD ey);by_cases q:r y<r x
 ·rw[Zax q,Zaf rfl];have m:=mh.a1 o.sa a0 ex λz hz=>Nat.lt_of_le_of_lt (p6 o.sb (by lia) ey z hz) q
  refine Zan (bV ex' ?_);by_cases q2:na-1=0
  ·rw[Zaf (by simpa using q2)]
   exact Zau ⟨rfl,Hk o m (by lia) b1 (.inl q2)⟩
  ·rw[Zad (by simpa using q2)]
   have I:Ih r a b (out.push x) (na-1) nb:=⟨m,by lia,by lia,b0,b1⟩
   split
   ·exact Zau ⟨rfl,I,by show na-1+nb<=na+nb-1;lia⟩
   ·exact Zau ⟨rfl,I,by show na-1+nb<=na+nb-1;lia⟩
 ·rw[Zaw q,Zad (by decide)]
  have m:=mh.b1 o.sb (by lia) ey λz hz=>Nat.lt_of_le_of_lt (p6 o.sa a0 ex z hz) (by lia)
  refine Zan (bV ey' ?_);by_cases q2:nb-1=1
  ·rw[Zaf (by simpa using q2)]
   exact Zau ⟨rfl,K7 o m a1 (by lia) q2⟩
  ·rw[Zad (by simpa using q2)]
   have I:Ih r a b (out.push y) na (nb-1):=⟨m,a0,a1,by lia,by lia⟩
   split
   ·exact Zau ⟨rfl,I,by show na+(nb-1)<=na+nb-1;lia⟩
   ·exact Zau ⟨rfl,I,by show na+(nb-1)<=na+nb-1;lia⟩
def H5(r:Keyed->Nat)(a b:Array Keyed)(n:Nat):ForInStep T5->Prop
 |.done (some o,_)=>Good r a b o
 |.done (none,_)=>False
 |.yield (none,na,nb,out,_)=>Ih r a b out na nb/\na+nb<=n
 |.yield (some _,_)=>False
theorem Uk{c:T5}(hc:Cmp prog w A s κ D r)(hk:kindOf st=κ)(o:DP D r a b)(i:Ih r a b c.2.2.2.1 c.2.1 c.2.2.1) :
  wpS (model prog w) A E s (WK a b c) (λc' st'=>(∃ g,st'=cN st g)/\H5 r a b (c.2.1+c.2.2.1-1) c') st:=by
 obtain⟨c0,na,nb,out,mg⟩:=c;have a0:1<=na:=i.a0;have a1:na<=a.size:=i.a1;unfold WK;dsimp only;refine Zan (Za6 (Zbe (I:=λk d st'=>st'=st/\∃ o2 i2 j2 ac bc,d=((none,i2,j2,o2,ac,bc):T6)/\Ih r a b o2 i2 j2/\i2+j2+k<=na+nb)
  (Q:=λd st'=>st'=st/\((∃ o2 x,d=((some o2,x):T6)/\Good r a b o2)\/∃ o2 i2 j2 ac bc,d=((none,i2,j2,o2,ac,bc):T6)/\Ih r a b o2 i2 j2/\i2+j2<=na+nb-1)) ?_ ?_ ⟨rfl,out,na,nb,0,0,rfl,i,Zak _⟩) ?_)
 ·rintro k d st' _ hk' ⟨rfl,o2,i2,j2,ac,bc,rfl,I,hn⟩;have:=I.a0;refine Za6 (Uj (c:=(none,i2,j2,o2,ac,bc)) hc hk o I) λe st' p=>?_;obtain⟨rfl,p⟩:=p
  match e,p with
  |.done (some o3,x),p=>exact⟨rfl,.inl ⟨o3,x,rfl,p⟩⟩
  |.done (none,i3,j3,o3,a3,b3),p=>exact⟨rfl,.inr ⟨o3,i3,j3,a3,b3,rfl,p.1,by have:i3+j3<=i2+j2-1:=p.2;lia⟩⟩
  |.yield (none,i3,j3,o3,a3,b3),p=>exact⟨rfl,o3,i3,j3,a3,b3,rfl,p.1,by have:i3+j3<=i2+j2-1:=p.2;lia⟩
  |.yield (some _,_),p=>exact p.elim
 ·rintro d st' ⟨rfl,o2,i2,j2,ac,bc,rfl,I,hn⟩;exact⟨rfl,.inr ⟨o2,i2,j2,ac,bc,rfl,I,by lia⟩⟩
 ·rintro d st' ⟨rfl,⟨o2,x,rfl,G⟩|⟨o2,i2,j2,ac,bc,rfl,I,hn⟩⟩
  ·exact Zau ⟨⟨gallopOf st',rfl⟩,G⟩
  ·dsimp only;refine Zan (nq ?_);refine Zan (Za6 (Zbe (I:=λk e st2=>(∃ g,st2=cN st' g)/\∃ o2 i2 j2 mg ac bc,e=((none,i2,j2,o2,mg,ac,bc):T7)/\Ih r a b o2 i2 j2/\i2+j2<=na+nb-1)
    (Q:=λe st2=>(∃ g,st2=cN st' g)/\((∃ o2 x,e=((some o2,x):T7)/\Good r a b o2)\/∃ o2 i2 j2 mg ac bc,e=((none,i2,j2,o2,mg,ac,bc):T7)/\Ih r a b o2 i2 j2/\i2+j2<=na+nb-1)) ?_ ?_ ⟨⟨gallopOf st',rfl⟩,o2,i2,j2,_,ac,bc,rfl,I,hn⟩) ?_)
   ·rintro k e st2 _ _ ⟨⟨g,rfl⟩,o3,i3,j3,m3,a3,b3,rfl,I3,hn3⟩;refine Za6 (Ui (c:=(none,i3,j3,o3,m3,a3,b3)) hc (show kindOf (cN st' g)=κ from hk) o I3) λe st3 p=>?_;obtain⟨⟨g2,rfl⟩,p⟩:=p
    match e,p with
    |.done (some o4,x),p=>exact⟨⟨g2,rfl⟩,.inl ⟨o4,x,rfl,p⟩⟩
    |.done (none,i4,j4,o4,m4,a4,b4),p=>exact⟨⟨g2,rfl⟩,.inr ⟨o4,i4,j4,m4,a4,b4,rfl,p.1,by have:i4+j4<=i3+j3-1:=p.2;lia⟩⟩
    |.yield (none,i4,j4,o4,m4,a4,b4),p=>exact⟨⟨g2,rfl⟩,o4,i4,j4,m4,a4,b4,rfl,p.1,by have:i4+j4<=i3+j3-1:=p.2;lia⟩
    |.yield (some _,_),p=>exact p.elim
   ·rintro e st2 ⟨G,o3,i3,j3,m3,a3,b3,rfl,I3,hn3⟩;exact⟨G,.inr ⟨o3,i3,j3,m3,a3,b3,rfl,I3,hn3⟩⟩
   ·rintro e st2 ⟨⟨g,rfl⟩,⟨o3,x,rfl,G⟩|⟨o3,i3,j3,m3,a3,b3,rfl,I3,hn3⟩⟩
    ·exact Zau ⟨⟨g,rfl⟩,G⟩
    ·dsimp only;rw[fY];refine Zan (wpS_modify ?_);exact Zau ⟨⟨_,rfl⟩,I3,hn3⟩
theorem Hl(hc:Cmp prog w A s κ D r)(hk:kindOf st=κ)(a1:1<=a.size)(b1:1<=b.size)(o:DP D r a b)(hf:∀ x,a.toList[a.size-1]?=some x->∀ y∈b.toList,r y<r x){Q:Array Keyed->SortSt->Prop}
  (h:∀ out g,Good r a b out->Q out (cN st g)):wpS (model prog w) A E s (yL a b) Q st:=by
 rw[Hj];unfold Hi;refine Zan (nq ?_);obtain⟨x,ex,ex'⟩:=getL (l:=a) (i:=a.size-1) (by lia)
 refine Zan (bV ex' ?_);have m:Mh r a.toList b.toList (#[x]:Array Keyed).toList (a.size-1) b.size:=by
  have m0:Mh r a.toList b.toList (#[]:Array Keyed).toList a.size b.size:=⟨.nil,λ_ h=>(nomatch h),by simp⟩
  exact m0.a1 o.sa a1 ex λy hy=>hf x ex y (ZaR hy)
 by_cases q:a.size-1=0
 ·rw[Zaf (by simpa using q)]
  exact Zau (h _ (gallopOf st) (Hk o m (by lia) (Zak _) (.inl q)))
 ·rw[Zad (by simpa using q)]
  by_cases q2:b.size=1
  ·rw[Zaf (by simpa using q2)]
   exact Zau (h _ (gallopOf st) (K7 o m (by lia) (Zak _) q2))
  ·rw[Zad (by simpa using q2)]
   refine Zan (wpS_get ?_);refine Zan (Za6 (Zbe (I:=λk c st'=>(∃ g,st'=cN st g)/\∃ out na nb mg,c=((none,na,nb,out,mg):T5)/\Ih r a b out na nb/\na+nb+k+1<=a.size+b.size)
    (Q:=λc st'=>(∃ g,st'=cN st g)/\∃ out x,c=((some out,x):T5)/\Good r a b out) ?_ ?_ ⟨⟨gallopOf st,rfl⟩,_,a.size-1,b.size,_,rfl,⟨m,by lia,by lia,by lia,Zak _⟩,by lia⟩) ?_)
   ·rintro k c st' _ hk' ⟨⟨g,rfl⟩,out,na,nb,mg,rfl,I,hn⟩;have:=I.a0;refine Za6 (Uk (c:=(none,na,nb,out,mg)) hc (show kindOf (cN st g)=κ from hk) o I) λe st3 p=>?_;obtain⟨⟨g2,rfl⟩,p⟩:=p
    match e,p with
    |.done (some o4,x),p=>exact⟨⟨g2,rfl⟩,o4,x,rfl,p⟩
    |.done (none,_),p=>exact p.elim
    |.yield (none,i4,j4,o4,m4),p=>exact⟨⟨g2,rfl⟩,o4,i4,j4,m4,rfl,p.1,by have:i4+j4<=na+nb-1:=p.2;lia⟩
    |.yield (some _,_),p=>exact p.elim
   ·rintro c st' ⟨_,out,na,nb,mg,rfl,I,hn⟩;have:=I.a0;lia
   ·rintro c st' ⟨⟨g,rfl⟩,out,x,rfl,G⟩;exact Zau (h out g G)
end
theorem Bp(i:Nat):∀ (M:List Keyed) (a:Array Keyed) (n:Nat),i+n+M.length<=a.size->((M.zipIdx n).foldl (λa (p:Keyed×Nat)=>a.setIfInBounds (i+p.2) p.1) a).toList=a.toList.take (i+n)++M++a.toList.drop (i+n+M.length)
 |[],a,n,_=>by simp
 |x::M,a,n,h=>by
  rw[ZaF] at h ⊢;rw[List.zipIdx_cons,List.foldl_cons,Bp i M _ (n+1) (by rw[Array.size_setIfInBounds];lia),Array.toList_setIfInBounds]
  have e1:(a.toList.set (i+n) x).take (i+(n+1))=a.toList.take (i+n)++[x]:=by
   rw[show i+(n+1)=i+n+1 by lia,List.take_succ,List.take_set_of_le (Zak _),Za2 (by simp;lia)]
   rfl
  have e2:(a.toList.set (i+n) x).drop (i+(n+1)+M.length)=a.toList.drop (i+n+(M.length+1)):=by
   rw[List.drop_set_of_lt (by lia),show i+(n+1)+M.length=i+n+(M.length+1) by lia]
  rw[e1,e2];simp
theorem QB(M:List Keyed)(a:Array Keyed)(i:Nat)(h:i+M.length<=a.size):(M.zipIdx.foldl (λa (p:Keyed×Nat)=>a.setIfInBounds (i+p.2) p.1) a).toList=a.toList.take i++M++a.toList.drop (i+M.length):=Bp i M a 0 h
section
variable{prog:Program}{w:World}{A:Around}{E:Value->Shared->Prop}{s:Shared}{κ:SortKind}{D:Keyed->Prop}{r:Keyed->Nat}{st:SortSt}
theorem Ul{M:Model}{st2:SortSt}{Q:PUnit->SortSt->Prop}(h:Q ⟨⟩ st2):wpS M A E s (set st2:StateT SortSt Sem PUnit) Q st:=by
 unfold wpS;rw[StateT.run_set];exact Zae ⟨rfl,h⟩
def bW(l:List Keyed)(i j:Nat):List Keyed:=(l.take j).drop i
theorem xx(l:List Keyed)(i j:Nat):(l.drop i).take (j-i)=bW l i j:=by unfold bW;rw[List.drop_take]
theorem WL(l:List Keyed){i j:Nat}(h:i<=j):l=l.take i++bW l i j++l.drop j:=by
 unfold bW
 conv=>lhs;rw[<-ZaJ j l,<-ZaJ i (l.take j)]
 rw[ZbA,Zbp h]
theorem jt(l:List Keyed){i j k:Nat}(h:i<=j)(h2:j<=k):bW l i k=bW l i j++bW l j k:=by
 unfold bW;rw[oA (l.take k) h,ZbA,Zbp h2]
theorem yN(l:List Keyed)(i j n:Nat):(bW l i j).take n=bW l i (min (i+n) j):=by
 unfold bW;rw[List.take_drop,ZbA]
theorem yO(l:List Keyed)(i j n:Nat):(bW l i j).drop n=bW l (i+n) j:=by
 unfold bW;rw[List.drop_drop]
theorem lY(l:List Keyed){i j:Nat}(h:j<=l.length):(bW l i j).length=j-i:=by
 unfold bW;rw[List.length_drop,ZbT,Zbp h]
theorem vQ(l:List Keyed){i j n:Nat}(h:i+n<j):(bW l i j)[n]?=l[i+n]?:=by
 unfold bW;rw[List.getElem?_drop,List.getElem?_take,Zaf h]
theorem xF{l:List Keyed}{i j:Nat}{x:Keyed}(h:x∈bW l i j):x∈l:=ZaR (ZaW h)
def Unl(r:Keyed->Nat)(l:List Keyed):Prop:=l.Pairwise λx y=>r x≠r y
theorem Unl.parts{l:List Keyed}(u:Unl r l){i j k:Nat}(h:i<=j)(h2:j<=k):∀ x∈bW l i j,∀ y∈bW l j k,r x≠r y:=λx hx y hy=>by
 have:Unl r (bW l i k):=Zam ((ZaX _ _).trans (ZaT _ _)) u;rw[jt l h h2] at this;exact(Zas.mp this).2.2 x hx y hy
theorem Hm{i sa na sb nb p1 p2:Nat}(hc:Cmp prog w A s κ D r)(hk:kindOf st=κ)(hf:failedOf st=none)(e1:(pendingOf st)[i]?=some (sa,na,p1))(e2:(pendingOf st)[i+1]?=some (sb,nb,p2))(hs:sb=sa+na)(n1:1<=na)(n2:1<=nb)(hz:sb+nb<=(arrOf st).size)
  (dm:∀ x∈(arrOf st).toList,D x)(un:Unl r (arrOf st).toList)(s1:Srt r (bW (arrOf st).toList sa sb))(s2:Srt r (bW (arrOf st).toList sb (sb+nb))){Q:Bool->SortSt->Prop}
  (h:∀ (M:List Keyed) arr' g,arr'.toList=(arrOf st).toList.take sa++M++(arrOf st).toList.drop (sb+nb)->M.Perm (bW (arrOf st).toList sa (sb+nb))->Srt r M->Q true (SortSt.mk' κ arr' (((pendingOf st).setIfInBounds i (sa,na+nb,p1)).eraseIdxIfInBounds (i+1)) g none)) :
  wpS (model prog w) A E s (mergeAt' i) Q st:=by
 obtain⟨kd,arr,pd,gl,fl⟩:=st;have hk:kd=κ:=hk;have hf:fl=none:=hf;subst hk hf;have ll:arr.toList.length=arr.size:=by simp
 have hz:sb+nb<=arr.size:=hz;have dm:∀ x∈arr.toList,D x:=dm;have un:Unl r arr.toList:=un;have s1:Srt r (bW arr.toList sa sb):=s1;have s2:Srt r (bW arr.toList sb (sb+nb)):=s2;rw[Hd];refine Zan (wpS_get ?_);dsimp only;rw[e1,e2];dsimp only;refine Zan (Ul ?_);obtain⟨y0,ey,ey'⟩:=getL (l:=arr) (i:=sb) (by omega)
 refine Zan (bV ey' ?_);have ne12:=un.parts (i:=sa) (j:=sb) (k:=sb+nb) (by omega) (by omega)
 have my0:y0∈bW arr.toList sb (sb+nb):=Zag (i:=0) (by rw[vQ _ (by omega)];exact ey)
 have y0le:∀ z∈bW arr.toList sb (sb+nb),r y0<=r z:=λz hz'=>pZ (i:=0) s2 (by rw[vQ _ (by omega)];exact ey) z (by rw[Zbo];exact hz')
 refine Zan (iZ (L:=bW arr.toList sa sb) hc rfl (by omega) (by omega) (by rw[<-xx,show sb-sa=na by omega]) (dm y0 (pD ey)) (λz hz'=>⟨dm z (xF hz'),ne12 z hz' y0 my0⟩) s1 λk hk' g1 g2=>?_)
 dsimp only;have whole:∀ g,(∀ x∈bW arr.toList sa sb,∀ y∈bW arr.toList sb (sb+nb),r x<r y)->Q true (SortSt.mk' kd arr ((pd.setIfInBounds i (sa,na+nb,p1)).eraseIdxIfInBounds (i+1)) g none):=λg hlt=>by
  refine h (bW arr.toList sa (sb+nb)) arr g (WL _ (by omega)) (List.Perm.refl _) ?_
  rw[jt _ (show sa<=sb by omega) (show sb<=sb+nb by omega)]
  exact Zas.mpr ⟨s1,s2,hlt⟩
 by_cases q1:na-k=0
 ·rw[Zaf (by simpa using q1)]
  refine Zau (whole _ λx hx y hy=>?_);have:(bW arr.toList sa sb).take k=bW arr.toList sa sb:=ZaV (by rw[lY _ (by omega)];omega)
  rw[this] at g1;exact Zav (g1 x hx) (y0le y hy)
 ·rw[Zad (by simpa using q1)]
  have es:sa+k+(na-k)-1=sb-1:=by omega
  rw[es];obtain⟨x1,ex,ex'⟩:=getL (l:=arr) (i:=sb-1) (by omega)
  refine Zan (bV ex' ?_);have exA:(bW arr.toList sa sb)[na-1]?=some x1:=by rw[vQ _ (by omega),show sa+(na-1)=sb-1 by omega];exact ex
  have mx1:x1∈bW arr.toList sa sb:=Zag exA;have x1le:∀ z∈bW arr.toList sa sb,r z<=r x1:=λz hz'=>p6 (n:=na) s1 n1 exA z (by rw[ZaV (by rw[lY _ (by omega)];omega)];exact hz')
  refine Zan (iZ (L:=bW arr.toList sb (sb+nb)) hc rfl (by omega) (by omega) (by rw[<-xx,ZbQ]) (dm x1 (pD ex)) (λz hz'=>⟨dm z (xF hz'),λe=>ne12 x1 mx1 z hz' e.symm⟩) s2 λm hm f1 f2=>?_)
  dsimp only;by_cases q2:m=0
  ·rw[Zaf (by simpa using q2)]
   refine Zau (whole _ λx hx y hy=>?_);rw[q2,Zbo] at f2;exact Nat.lt_of_le_of_lt (x1le x hx) (f2 y hy)
  ·rw[Zad (by simpa using q2)]
   rw[yO] at g2 f2;rw[yN,Zbp (by omega)] at g1 f1
   have tx:(arr.extract (sa+k) sb).toList=bW arr.toList (sa+k) sb:=by rw[ext_toList arr _ _ (by omega) (by omega),xx]
   have ty:(arr.extract sb (sb+m)).toList=bW arr.toList sb (sb+m):=by rw[ext_toList arr _ _ (by omega) (by omega),xx]
   have zx:(arr.extract (sa+k) sb).size=na-k:=by rw[<-ZaZ,tx,lY _ (by omega)];omega
   have zy:(arr.extract sb (sb+m)).size=m:=by rw[<-ZaZ,ty,lY _ (by omega)];omega
   have sx:Srt r (bW arr.toList (sa+k) sb):=by
    rw[<-yO];exact Zam (ZaX _ _) s1
   have sy:Srt r (bW arr.toList sb (sb+m)):=by
    have:bW arr.toList sb (sb+m)=(bW arr.toList sb (sb+nb)).take m:=by rw[yN,Zbp (by omega)]
    rw[this];exact Zam (ZaT _ _) s2
   have inx:∀ z∈bW arr.toList (sa+k) sb,z∈bW arr.toList sa sb:=λz hz'=>by rw[<-yO] at hz';exact ZaW hz'
   have iny:∀ z∈bW arr.toList sb (sb+m),z∈bW arr.toList sb (sb+nb):=λz hz'=>by
    have:bW arr.toList sb (sb+m)=(bW arr.toList sb (sb+nb)).take m:=by rw[yN,Zbp (by omega)]
    rw[this] at hz';exact ZaR hz'
   have fy:∀ y,(arr.extract sb (sb+m)).toList[0]?=some y->∀ x∈(arr.extract (sa+k) sb).toList,r y<r x:=λy hy x hx=>by
    rw[ty,vQ _ (by omega),Nat.add_zero,ey] at hy
    cases hy;rw[tx] at hx;exact g2 x hx
   have lx:∀ x,(arr.extract (sa+k) sb).toList[(arr.extract (sa+k) sb).size-1]?=some x->∀ y∈(arr.extract sb (sb+m)).toList,r y<r x:=λx hx y hy=>by
    rw[tx,zx,vQ _ (by omega),show sa+k+(na-k-1)=sb-1 by omega,ex] at hx
    cases hx;rw[ty] at hy;exact f1 y hy
   have fin:∀ (out:Array Keyed) (g:Nat),Good r (arr.extract (sa+k) sb) (arr.extract sb (sb+m)) out->wpS (model prog w) A E s (do
     modify λs=>setArr s (out.toList.zipIdx.foldl (λa (p,j)=>a.setIfInBounds (sa+k+j) p) (arrOf s))
     return (failedOf (<-get)).isNone) Q (SortSt.mk' kd arr ((pd.setIfInBounds i (sa,na+nb,p1)).eraseIdxIfInBounds (i+1)) g none):=λout g G=>by
    refine Zan (wpS_modify (Zan (wpS_get (Zau ?_))));obtain⟨G1,G2⟩:=G;rw[tx,ty] at G2;have ol:out.toList.length=na-k+m:=by rw[G2.length_eq,List.length_append,lY _ (by omega),lY _ (by omega)];omega
    have fs:=QB out.toList arr (sa+k) (by rw[ol];omega)
    rw[ol,show sa+k+(na-k+m)=sb+m by omega] at fs
    refine h (bW arr.toList sa (sa+k)++out.toList++bW arr.toList (sb+m) (sb+nb)) _ g ?_ ?_ ?_
    ·refine Eq.trans fs ?_;have t1:arr.toList.take (sa+k)=arr.toList.take sa++bW arr.toList sa (sa+k):=by
      have:=WL (arr.toList.take (sa+k)) (i:=sa) (j:=sa+k) (by omega)
      rw[ZbA,Zbp (by omega),show(arr.toList.take (sa+k)).drop (sa+k)=[] from Zbn (by simp;omega),Zbc] at this
      unfold bW at this ⊢;rw[ZbA,Nat.min_self] at this;exact this
     have t2:arr.toList.drop (sb+m)=bW arr.toList (sb+m) (sb+nb)++arr.toList.drop (sb+nb):=oA _ (by omega)
     rw[t1,t2];simp only[Zay]
    ·rw[jt arr.toList (show sa<=sa+k by omega) (show sa+k<=sb+nb by omega),jt arr.toList (show sa+k<=sb by omega) (show sb<=sb+nb by omega),jt arr.toList (show sb<=sb+m by omega) (show sb+m<=sb+nb by omega)]
     simp only[Zay];refine Za8 _ ?_;rw[<-Zay];exact ZbX _ G2
    ·have mo:∀ z∈out.toList,z∈bW arr.toList (sa+k) sb\/z∈bW arr.toList sb (sb+m):=λz hz'=>Zaj.mp (G2.mem_iff.mp hz');have sA:Srt r (bW arr.toList sa (sa+k)++bW arr.toList (sa+k) sb):=by rw[<-jt _ (by omega) (by omega)];exact s1
     have sB:Srt r (bW arr.toList sb (sb+m)++bW arr.toList (sb+m) (sb+nb)):=by rw[<-jt _ (by omega) (by omega)];exact s2
     have pA:=Zas.mp sA;have pB:=Zas.mp sB;refine Zas.mpr ⟨Zas.mpr ⟨pA.1,G1,λx hx z hz'=>?_⟩,pB.2.1,λx hx y hy=>?_⟩
     ·rcases mo z hz' with q|q
      ·exact pA.2.2 x hx z q
      ·exact Zav (g1 x hx) (y0le z (iny z q))
     ·rcases Zaj.mp hx with q|q
      ·have hy':y∈bW arr.toList sb (sb+nb):=by rw[jt arr.toList (show sb<=sb+m by omega) (show sb+m<=sb+nb by omega)];exact Zaj.mpr (.inr hy)
       exact Zav (g1 x q) (y0le y hy')
      ·rcases mo x q with q|q
       ·exact Nat.lt_of_le_of_lt (x1le x (inx x q)) (f2 y hy)
       ·exact pB.2.2 x q y hy
   have nexy:∀ x∈(arr.extract (sa+k) sb).toList,∀ y∈(arr.extract sb (sb+m)).toList,r x≠r y:=λx hx y hy=>by
    rw[tx] at hx;rw[ty] at hy;exact ne12 x (inx x hx) y (iny y hy)
   have dax:∀ x∈(arr.extract (sa+k) sb).toList,D x:=λx hx=>by rw[tx] at hx;exact dm x (xF hx)
   have day:∀ x∈(arr.extract sb (sb+m)).toList,D x:=λx hx=>by rw[ty] at hx;exact dm x (xF hx)
   by_cases q3:na-k<=m
   ·rw[Zaf q3];refine Zan (Hh hc rfl (by omega) (by omega) ⟨dax,day,by rw[tx];exact sx,by rw[ty];exact sy,nexy,lx⟩ fy λout g G=>?_)
    exact fin out g G
   ·rw[Zad q3];refine Zan (Hl hc rfl (by omega) (by omega) ⟨dax,day,by rw[tx];exact sx,by rw[ty];exact sy,nexy,fy⟩ lx λout g G=>?_)
    exact fin out g G
end
def Rk(r:Keyed->Nat)(a:Array Keyed)(k:Nat):Nat:=match a[k]? with
 |some x=>r x
 |none=>0
def iT(r:Keyed->Nat)(a:Array Keyed)(i j:Nat):Prop:=∀ p q,i<=p->p<q->q<j->Rk r a p<Rk r a q
def Yj(r:Keyed->Nat)(a:Array Keyed)(i j:Nat):Prop:=∀ p q,i<=p->p<q->q<j->Rk r a q<Rk r a p
theorem Bq{r:Keyed->Nat}{a b:Array Keyed}{i j:Nat}(h:a[i]?=b[j]?):Rk r a i=Rk r b j:=by unfold Rk;rw[h]
theorem La{r:Keyed->Nat}{a:Array Keyed}{k:Nat}{x:Keyed}(h:a[k]?=some x):Rk r a k=r x:=by unfold Rk;rw[h]
theorem xG{r:Keyed->Nat}{a:Array Keyed}{i j:Nat}(h:j<=a.size):Srt r (bW a.toList i j)↔iT r a i j:=by
 have ll:a.toList.length=a.size:=by simp
 have cl:=lY a.toList (i:=i) (j:=j) (by lia)
 have at_:∀ p (hp:p<(bW a.toList i j).length),r ((bW a.toList i j)[p])=Rk r a (i+p):=λp hp=>by
  have e:(bW a.toList i j)[p]?=a[i+p]?:=by rw[vQ _ (by lia),ZaH]
  rw[List.getElem?_eq_getElem hp] at e;exact(La e.symm).symm
 constructor
 ·intro h1 p q h2 h3 h4;have:=Za1.mp h1 (p-i) (q-i) (by lia) (by lia) (by lia)
  rw[at_ _ (by lia),at_ _ (by lia),show i+(p-i)=p by lia,show i+(q-i)=q by lia] at this
  exact this
 ·intro h1;refine Za1.mpr λp q hp hq hpq=>?_;rw[at_ p hp,at_ q hq];exact h1 (i+p) (i+q) (by lia) (by lia) (by lia)
section
variable{prog:Program}{w:World}{A:Around}{E:Value->Shared->Prop}{s:Shared}{κ:SortKind}{D:Keyed->Prop}{r:Keyed->Nat}{st:SortSt}
structure Bs(D:Keyed->Prop)(r:Keyed->Nat)(a:Array Keyed):Prop where
 dm:∀ (k:Nat) x,a[k]?=some x->D x
 un:∀ p q,p<q->q<a.size->Rk r a p≠Rk r a q
theorem Bs.of{a:Array Keyed}(d:∀ x∈a.toList,D x)(u:Unl r a.toList):Bs D r a:=by
 refine⟨λk x h=>d x (Zag (by rw[ZaH];exact h)),λp q h1 h2=>?_⟩
 have:=Za1.mp u p q (by simp;lia) (by simp;lia) h1
 have e:∀ k (hk:k<a.size),Rk r a k=r (a.toList[k]'(by simpa using hk)):=λk hk=>La (by rw[ZaD hk,Array.getElem_toList])
 rw[e p (by lia),e q h2]
 exact this
theorem Unl.perm{l m:List Keyed}(u:Unl r l)(p:m.Perm l):Unl r m:=(p.pairwise_iff (λh=>Zbr h)).mpr u
theorem Bs.perm{a b:Array Keyed}(d:∀ x∈a.toList,D x)(u:Unl r a.toList)(p:b.Perm a):Bs D r b:=
 have p:=Zbk.mp p
 Bs.of (λx hx=>d x (p.mem_iff.mp hx)) (u.perm p)
theorem j5(hc:Cmp prog w A s κ D r)(hk:kindOf st=κ)(b:Bs D r (arrOf st)){i j:Nat}(hi:i<(arrOf st).size)(hj:j<(arrOf st).size){Q:Option Bool->SortSt->Prop}(h:Q (some (decide (Rk r (arrOf st) i<Rk r (arrOf st) j))) st):wpS (model prog w) A E s (ltAt' i j) Q st:=by
 obtain⟨x,ex⟩:∃ x,(arrOf st)[i]?=some x:=⟨_,ZaD hi⟩;obtain⟨y,ey⟩:∃ y,(arrOf st)[j]?=some y:=⟨_,ZaD hj⟩;rw[ltAt'_eq];refine Zan (wpS_get ?_);show wpS _ _ _ _ (do let x <-elem' (arrOf st) i;let y <-elem' (arrOf st) j;lt' x y) Q st
 refine Zan (bV ex (Zan (bV ey (yM hc hk (b.dm i x ex) (b.dm j y ey) ?_))));rw[La ex,La ey] at h;exact h
theorem iT.snoc{a:Array Keyed}{i j:Nat}(h:iT r a i j)(hij:i<j)(l:Rk r a (j-1)<Rk r a j):iT r a i (j+1):=λp q h1 h2 h3=>by
 by_cases e:q=j
 ·subst e;by_cases e2:p=q-1
  ·rw[e2];exact l
  ·exact Nat.lt_trans (h p (q-1) h1 (by lia) (by lia)) l
 ·exact h p q h1 h2 (by lia)
theorem wpS_countRun{lo nrem:Nat}(hc:Cmp prog w A s κ D r)(hk:kindOf st=κ)(dm:∀ x∈(arrOf st).toList,D x)(un:Unl r (arrOf st).toList)(hn:1<=nrem)(hz:lo+nrem=(arrOf st).size){Q:Option Nat->SortSt->Prop}
  (h:∀ n arr',1<=n->n<=nrem->arr'.Perm (arrOf st)->(∀ k,k<lo->arr'[k]?=(arrOf st)[k]?)->iT r arr' lo (lo+n)->Q (some n) (setArr st arr')):wpS (model prog w) A E s (countRun' lo nrem) Q st:=by
 have b:=Bs.of dm un;rw[countRun'_eq];refine Zan (Za6 (Zbe (I:=λk c st'=>st'=st/\c=(none,k)/\iT r (arrOf st) lo (lo+k))
  (Q:=λc st'=>st'=st/\∃ n,c=(none,n)/\1<=n/\n<=nrem/\iT r (arrOf st) lo (lo+n)/\(n<nrem->Rk r (arrOf st) (lo+n)<Rk r (arrOf st) (lo+n-1))) ?_ ?_ ⟨rfl,rfl,λp q h1 h2 h3=>by lia⟩) ?_)
 ·rintro k c st' h1 h2 ⟨rfl,rfl,S⟩;dsimp only;refine Zan (j5 hc hk b (by lia) (by lia) ?_)
  dsimp only;by_cases q:Rk r (arrOf st') (lo+k)<Rk r (arrOf st') (lo+k-1)
  ·rw[Zax q,Zaf rfl];exact Zau ⟨rfl,k,rfl,h1,by lia,S,λ_=>q⟩
  ·rw[Zaw q,Zad (by decide)]
   refine Zau ⟨rfl,rfl,?_⟩;have:=b.un (lo+k-1) (lo+k) (by lia) (by lia)
   exact S.snoc (by lia) (by lia)
 ·rintro c st' ⟨rfl,rfl,S⟩;exact⟨rfl,_,rfl,by lia,by lia,S,λz=>by lia⟩
 ·rintro c st' ⟨rfl,n,rfl,h1,h2,S,hbr⟩;dsimp only;by_cases q1:n=nrem
  ·rw[Zaf (by simpa using q1)]
   exact Zau (h n (arrOf st') h1 h2 (Array.Perm.refl _) (λ_ _=>rfl) S)
  ·rw[Zad (by simpa using q1)]
   by_cases q2:n>1
   ·rw[Zaf q2];refine Zan (j5 hc hk b (by lia) (by lia) ?_)
    dsimp only;rw[Zax (S lo (lo+n-1) (Zak _) (by lia) (by lia)),Zaf rfl]
    exact Zau (h n (arrOf st') h1 h2 (Array.Perm.refl _) (λ_ _=>rfl) S)
   ·rw[Zad q2];have n1:n=1:=by lia
    subst n1;have hbr:=hbr (by lia)
    refine Zan (nq ?_);refine Zan (Za6 (Zbe (I:=λk c st2=>st2=st'/\c=(none,k,0)/\Yj r (arrOf st') lo (lo+k))
     (Q:=λc st2=>st2=st'/\∃ n,c=(none,n,0)/\2<=n/\n<=nrem/\Yj r (arrOf st') lo (lo+n)) ?_ ?_ ⟨rfl,rfl,λp q h1 h2 h3=>by
      have e1:p=lo+1-1:=by lia
      have e2:q=lo+1:=by lia
      rw[e1,e2];exact hbr⟩) ?_)
    ·rintro k c st2 g1 g2 ⟨rfl,rfl,S2⟩;dsimp only;refine Zan (j5 hc hk b (by lia) (by lia) ?_)
     dsimp only;by_cases q:Rk r (arrOf st2) (lo+k)<Rk r (arrOf st2) (lo+k-1)
     ·rw[Zax q,Zaf rfl,Zad (by lia)]
      refine Zau ⟨rfl,rfl,λp q' h1 h2 h3=>?_⟩;by_cases e:q'=lo+k
      ·subst e;by_cases e2:p=lo+k-1
       ·rw[e2];exact q
       ·exact Nat.lt_trans q (S2 p (lo+k-1) h1 (by lia) (by lia))
      ·exact S2 p q' h1 h2 (by lia)
     ·rw[Zaw q,Zad (by decide)]
      refine Zan (j5 hc hk b (by lia) (by lia) ?_)
      dsimp only;have:=b.un (lo+k-1) (lo+k) (by lia) (by lia)
      rw[Zax (show Rk r (arrOf st2) (lo+k-1)<Rk r (arrOf st2) (lo+k) by lia),Zaf rfl]
      exact Zau ⟨rfl,k,rfl,by lia,by lia,S2⟩
    ·rintro c st2 ⟨rfl,rfl,S2⟩;exact⟨rfl,_,rfl,by lia,by lia,S2⟩
    ·rintro c st2 ⟨rfl,n,rfl,g1,g2,S2⟩;dsimp only;rw[Zad (by lia),reverseSlice'_eq]
     refine Zan (wpS_modify ?_);have mz:=mirror_size (arrOf st2) lo (lo+n) ((lo+n-lo)/2);have mp:=mirror_perm (arrOf st2) lo (lo+n) ((lo+n-lo)/2);have mg:=getElem?_mirror_all (xs:=arrOf st2) (i:=lo) (j:=lo+n) (by lia)
     generalize mirror (arrOf st2) lo (lo+n) ((lo+n-lo)/2)=a2 at mz mp mg
     have b2:Bs D r a2:=Bs.perm dm un mp;have pre:∀ k,k<lo->a2[k]?=(arrOf st2)[k]?:=λk hk2=>by rw[mg,Zad (by lia)]
     have S3:iT r a2 lo (lo+n):=λp q h1 h2 h3=>by
      have rp:∀ p,lo<=p->p<lo+n->Rk r a2 p=Rk r (arrOf st2) (lo+(lo+n)-1-p):=λp g3 g4=>Bq (by rw[mg,Zaf ⟨g3,g4⟩])
      rw[rp p h1 (by lia),rp q (by lia) h3]
      exact S2 _ _ (by lia) (by lia) (by lia)
     refine Zan (Za6 (Zbe (I:=λk c st3=>st3=setArr st2 a2/\c=(none,k)/\iT r a2 lo (lo+k))
      (Q:=λc st3=>st3=setArr st2 a2/\∃ m,c=(none,m)/\n<=m/\m<=nrem/\iT r a2 lo (lo+m)) ?_ ?_ ⟨rfl,rfl,S3⟩) ?_)
     ·rintro k c st3 f1 f2 ⟨rfl,rfl,S⟩;dsimp only;refine Zan (j5 (st:=setArr st2 a2) hc hk b2 (by show _<a2.size;lia) (by show _<a2.size;lia) ?_)
      dsimp only;by_cases q:Rk r a2 (lo+k)<Rk r a2 (lo+k-1)
      ·rw[show arrOf (setArr st2 a2)=a2 from rfl,Zax q,Zaf rfl];exact Zau ⟨rfl,k,rfl,f1,by lia,S⟩
      ·rw[show arrOf (setArr st2 a2)=a2 from rfl,Zaw q,Zad (by decide)]
       refine Zau ⟨rfl,rfl,?_⟩;have:=b2.un (lo+k-1) (lo+k) (by lia) (by lia)
       exact S.snoc (by lia) (by lia)
     ·rintro c st3 ⟨rfl,rfl,S⟩;exact⟨rfl,_,rfl,by lia,by lia,S⟩
     ·rintro c st3 ⟨rfl,m,rfl,f1,f2,S⟩;exact Zau (h m a2 (by lia) f2 mp pre S)
theorem wpS_binarySort{lo n ok:Nat}(hc:Cmp prog w A s κ D r)(hk:kindOf st=κ)(dm:∀ x∈(arrOf st).toList,D x)(un:Unl r (arrOf st).toList)(h1:1<=ok)(h2:ok<=n)(hz:lo+n<=(arrOf st).size)(S:iT r (arrOf st) lo (lo+ok)){Q:Bool->SortSt->Prop}
  (h:∀ arr',arr'.Perm (arrOf st)->(∀ k,k<lo->arr'[k]?=(arrOf st)[k]?)->iT r arr' lo (lo+n)->Q true (setArr st arr')):wpS (model prog w) A E s (binarySort' lo n ok) Q st:=by
 rw[binarySort'_eq];refine Zan (Za6 (Zbe (I:=λk c st'=>c=(none,())/\∃ arr',st'=setArr st arr'/\arr'.Perm (arrOf st)/\(∀ k,k<lo->arr'[k]?=(arrOf st)[k]?)/\iT r arr' lo (lo+k))
  (Q:=λc st'=>c=(none,())/\∃ arr',st'=setArr st arr'/\arr'.Perm (arrOf st)/\(∀ k,k<lo->arr'[k]?=(arrOf st)[k]?)/\iT r arr' lo (lo+n)) ?_ ?_ ⟨rfl,arrOf st,rfl,Array.Perm.refl _,λ_ _=>rfl,by rw[Nat.max_eq_left h1];exact S⟩) ?_)
 ·rintro k c st' g1 g2 ⟨rfl,a2,rfl,p2,pre,S2⟩;have z2:a2.size=(arrOf st).size:=p2.size_eq;have b2:Bs D r a2:=Bs.perm dm un p2;have kl:lo+k<a2.size:=by omega
  refine Zan (Za6 (Zbe (I:=λt c st2=>st2=setArr st a2/\∃ l e,c=((none:Option Bool),l,e)/\l<=e/\e<=k/\(∀ i,i<l->Rk r a2 (lo+i)<Rk r a2 (lo+k))/\(∀ i,e<=i->i<k->Rk r a2 (lo+k)<Rk r a2 (lo+i))/\e-l+t<=k)
   (Q:=λc st2=>st2=setArr st a2/\∃ l,c=((none:Option Bool),l,l)/\l<=k/\(∀ i,i<l->Rk r a2 (lo+i)<Rk r a2 (lo+k))/\(∀ i,l<=i->i<k->Rk r a2 (lo+k)<Rk r a2 (lo+i))) ?_ ?_ ⟨rfl,0,k,rfl,by omega,Zak _,λi hi=>by omega,λi h3 h4=>by omega,by omega⟩) ?_)
  ·rintro t c st2 _ ht ⟨rfl,l,e,rfl,f1,f2,f3,f4,f5⟩;dsimp only;by_cases q:l>=e
   ·rw[Zaf q];have:l=e:=by omega
    subst this;exact Zau ⟨rfl,l,rfl,f2,f3,f4⟩
   ·rw[Zad q];refine Zan (j5 (st:=setArr st a2) hc hk b2 (by show _<a2.size;omega) (by show _<a2.size;omega) ?_)
    dsimp only;rw[show arrOf (setArr st a2)=a2 from rfl];by_cases q2:Rk r a2 (lo+k)<Rk r a2 (lo+(l+e)/2)
    ·rw[Zax q2,Zaf rfl];refine Zau ⟨rfl,l,(l+e)/2,rfl,by omega,by omega,f3,λi h3 h4=>?_,by omega⟩
     by_cases q3:i=(l+e)/2
     ·rw[q3];exact q2
     ·exact Nat.lt_trans q2 (S2 _ _ (by omega) (by omega) (by omega))
    ·rw[Zaw q2,Zad (by decide)]
     have ne:=b2.un (lo+(l+e)/2) (lo+k) (by omega) kl
     refine Zau ⟨rfl,(l+e)/2+1,e,rfl,by omega,f2,λi hi=>?_,f4,by omega⟩
     by_cases q3:i=(l+e)/2
     ·rw[q3];omega
     ·exact Nat.lt_trans (S2 (lo+i) (lo+(l+e)/2) (by omega) (by omega) (by omega)) (by omega)
  ·rintro c st2 ⟨rfl,l,e,rfl,f1,f2,f3,f4,f5⟩;have:l=e:=by omega
   subst this;exact⟨rfl,l,rfl,f2,f3,f4⟩
  ·rintro c st2 ⟨rfl,l,rfl,f1,f2,f3⟩;dsimp only;rw[moveDown'_eq];refine Zan (wpS_modify (Zau ?_));have bz:=bubble_perm a2 (lo+k) (lo+k-(lo+l));have bg:=getElem?_bubble (xs:=a2) (src:=lo+k) kl (lo+k-(lo+l)) (by omega)
   refine⟨rfl,bubble a2 (lo+k) (lo+k-(lo+l)),rfl,bz.trans p2,?_,?_⟩
   ·intro i hi;rw[bg,Zad (by omega),Zad (by omega)]
    exact pre i hi
   ·generalize bubble a2 (lo+k) (lo+k-(lo+l))=a3 at bg
    rw[show lo+k-(lo+k-(lo+l))=lo+l by omega] at bg
    have rk3:∀ i,Rk r a3 i=if i=lo+l then Rk r a2 (lo+k) else if lo+l<i/\i<=lo+k then Rk r a2 (i-1) else Rk r a2 i:=λi=>by
     have:=bg i;split at this
     ·rename_i e;rw[Zaf e];exact Bq this
     ·rename_i e;rw[Zad e];split at this
      ·rename_i e2;rw[Zaf e2];exact Bq this
      ·rename_i e2;rw[Zad e2];exact Bq this
    intro p q h3 h4 h5;rw[rk3 p,rk3 q];by_cases p1:p=lo+l
    ·rw[Zaf p1,Zad (by omega),Zaf (by omega)]
     have:=f3 (q-1-lo) (by omega) (by omega)
     rw[show lo+(q-1-lo)=q-1 by omega] at this
     exact this
    ·rw[Zad p1];by_cases p2':lo+l<p
     ·rw[Zaf ⟨p2',by omega⟩,Zad (by omega),Zaf (by omega)]
      exact S2 _ _ (by omega) (by omega) (by omega)
     ·rw[Zad (by omega)]
      by_cases q1:q=lo+l
      ·rw[Zaf q1];have:=f2 (p-lo) (by omega)
       rw[show lo+(p-lo)=p by omega] at this
       exact this
      ·rw[Zad q1];by_cases q2:lo+l<q
       ·rw[Zaf ⟨q2,by omega⟩]
        exact S2 _ _ h3 (by omega) (by omega)
       ·rw[Zad (by omega)]
        exact S2 _ _ h3 h4 (by omega)
 ·rintro c st' ⟨rfl,a2,rfl,p2,pre,S2⟩;refine⟨rfl,a2,rfl,p2,pre,?_⟩;rw[show max (max ok 1) n=n by omega] at S2
  exact S2
 ·rintro c st' ⟨rfl,a2,rfl,p2,pre,S2⟩;exact Zau (h a2 p2 pre S2)
end
def uF(pw:Nat):StateT SortSt Sem (ForInStep (Option Unit×Unit)):=do
 let s <-get
 match(if(pendingOf s).size>1 then(pendingOf s)[(pendingOf s).size-2]? else none) with
 |some x=>if x.2.2<=pw then pure (.done (none,())) else do
  let ok <-mergeAt' ((pendingOf s).size-2)
  if(!ok)=true then pure (.done (some (),())) else pure (.yield (none,()))
 |none=>pure (.done (none,()))
def qP(lo n:Nat):StateT SortSt Sem (ForInStep (Option Unit×Nat)):=do
 modify λs=>setPending s ((pendingOf s).push (lo,n,0))
 pure (.yield (none,lo+n))
def lay(size lo n:Nat):StateT SortSt Sem (ForInStep (Option Unit×Nat)):=do
 let s <-get
 match(pendingOf s).back? with
 |some x=>do
  let c <-forIn [0:size] ((none:Option Unit),()) λ_ _=>uF (power' size (2*x.1+x.2.1) (2*x.1+x.2.1+x.2.1+n) size)
  match c.1 with
  |some r=>pure (.done (some r,lo))
  |none=>do
   modify λs=>setPending s ((pendingOf s).modify ((pendingOf s).size-1) λy=>(y.1,y.2.1,power' size (2*x.1+x.2.1) (2*x.1+x.2.1+x.2.1+n) size))
   qP lo n
 |none=>qP lo n
def QC(s:SortSt):Nat:=if Option.any (λx=>decide (x<(pendingOf s)[(pendingOf s).size-2+1]?.elim 0 λx=>x.2.1)) (if(pendingOf s).size-2>0 then Option.map (λx=>x.2.1) (pendingOf s)[(pendingOf s).size-2-1]? else none)=true then(pendingOf s).size-2-1 else(pendingOf s).size-2
def Lb:StateT SortSt Sem (ForInStep (Option Unit×Unit)):=do
 let s <-get
 if(pendingOf s).size<=1 then pure (.done (none,())) else do
  let ok <-mergeAt' (QC s)
  if(!ok)=true then pure (.done (some (),())) else pure (.yield (none,()))
def xH(z:Nat)(c:Option Unit×Nat):StateT SortSt Sem (ForInStep (Option Unit×Nat)):=if c.2>=z then pure (.done (none,c.2)) else(do
 let x <-countRun' c.2 (z-c.2)
 match x with
 |some found=>if found<minRun' z z 0 then(do
   rule "list.sort.binary-insertion"
   let ok <-binarySort' c.2 (min (z-c.2) (minRun' z z 0)) found
   if(!ok)=true then pure (.done (some (),c.2)) else lay z c.2 (min (z-c.2) (minRun' z z 0))) else lay z c.2 found
 |none=>pure (.done (some (),c.2)))
def vR:StateT SortSt Sem Unit:=do
 let s <-get
 let c <-forIn [0:(arrOf s).size] ((none:Option Unit),0) λ_ c=>xH (arrOf s).size c
 match c.1 with
 |some r=>pure r
 |none=>do
  let d <-forIn [0:(arrOf s).size] ((none:Option Unit),()) λ_ _=>Lb
  match d.1 with
  |some r=>pure r
  |none=>pure ()
theorem DQ:sortRuns'=vR:=by
 rw[sortRuns'_eq];unfold vR;dsimp only;congr 1;funext s
 congr 1
 ·congr 1
  funext _ c
  obtain⟨c0,lo⟩:=c;unfold xH;dsimp only;congr 1
  congr 1;funext x
  cases x with
  |none=>rfl
  |some found=>
   dsimp only;congr 1
   ·congr 1;funext _
    congr 1;funext ok
    congr 1
    unfold lay qP;congr 1;funext s2
    cases (pendingOf s2).back? with
    |none=>rfl
    |some x=>
     obtain⟨s1,n1,p⟩:=x;dsimp only;congr 1
     ·congr 1
      funext _ d
      unfold uF;congr 1;funext s3
      cases (if(pendingOf s3).size>1 then(pendingOf s3)[(pendingOf s3).size-2]? else none) with
      |none=>rfl
      |some y=>obtain⟨y1,y2,y3⟩:=y;rfl
     ·funext c
      obtain⟨c0,_⟩:=c;cases c0<;>rfl
   ·unfold lay qP;congr 1;funext s2
    cases (pendingOf s2).back? with
    |none=>rfl
    |some x=>
     obtain⟨s1,n1,p⟩:=x;dsimp only;congr 1
     ·congr 1
      funext _ d
      unfold uF;congr 1;funext s3
      cases (if(pendingOf s3).size>1 then(pendingOf s3)[(pendingOf s3).size-2]? else none) with
      |none=>rfl
      |some y=>obtain⟨y1,y2,y3⟩:=y;rfl
     ·funext c
      obtain⟨c0,_⟩:=c;cases c0<;>rfl
 ·funext c
  obtain⟨c0,lo⟩:=c;cases c0 with
  |some r=>rfl
  |none=>
   dsimp only;congr 1
   funext d
   obtain⟨d0,_⟩:=d;cases d0<;>rfl
noncomputable abbrev Pd:=Nat×Nat×Nat
def Rn(r:Keyed->Nat)(a:Array Keyed):Nat->List Pd->Nat->Prop
 |s,[],e=>s=e
 |s,x::l,e=>x.1=s/\1<=x.2.1/\iT r a s (s+x.2.1)/\Rn r a (s+x.2.1) l e
section
variable{r:Keyed->Nat}{a b:Array Keyed}
theorem Rn.le:∀ {l:List Pd}{s e:Nat},Rn r a s l e->s+l.length<=e
 |[],s,e,h=>by cases h;simp
 |x::l,s,e,h=>by
  have:=h.2.2.2.le;have:=h.2.1;simp only[ZaF];omega
theorem Rn.app:∀ {l m:List Pd}{s e:Nat},Rn r a s (l++m) e↔∃ k,Rn r a s l k/\Rn r a k m e
 |[],m,s,e=>⟨λh=>⟨s,rfl,h⟩,λ⟨k,h1,h2⟩=>by cases h1;exact h2⟩
 |x::l,m,s,e=>by
  constructor
  ·rintro⟨h1,h2,h3,h4⟩;obtain⟨k,g1,g2⟩:=Rn.app.mp h4;exact⟨k,⟨h1,h2,h3,g1⟩,g2⟩
  ·rintro⟨k,⟨h1,h2,h3,h4⟩,g2⟩;exact⟨h1,h2,h3,Rn.app.mpr ⟨k,h4,g2⟩⟩
theorem iT.congr{i j:Nat}(h:∀ k,i<=k->k<j->b[k]?=a[k]?)(S:iT r a i j):iT r b i j:=λp q h1 h2 h3=>by
 rw[Bq (h p h1 (by lia)),Bq (h q (by lia) h3)]
 exact S p q h1 h2 h3
theorem Rn.congr:∀ {l:List Pd}{s e:Nat},(∀ k,s<=k->k<e->b[k]?=a[k]?)->Rn r a s l e->Rn r b s l e
 |[],_,_,_,h=>h
 |x::l,s,e,hk,⟨h1,h2,h3,h4⟩=>by
  have:=h4.le;exact⟨h1,h2,h3.congr λk g1 g2=>hk k g1 (by lia),Rn.congr (λk g1 g2=>hk k (by lia) g2) h4⟩
theorem QD{l:List Pd}{i:Nat}{x y:Pd}(e1:l[i]?=some x)(e2:l[i+1]?=some y):l=l.take i++x::y::l.drop (i+2):=by
 have h1:=(Zab.mp e1).1;have h2:=(Zab.mp e2).1
 conv=>lhs;rw[<-ZaJ i l]
 congr 1
 rw[ZaS h1,ZaS h2];rw[List.getElem?_eq_getElem h1] at e1;rw[List.getElem?_eq_getElem h2] at e2;rw[Zac e1,Zac e2]
theorem Nm{l:List Pd}{i:Nat}{x y z:Pd}(e1:l[i]?=some x)(e2:l[i+1]?=some y):(l.set i z).eraseIdx (i+1)=l.take i++z::l.drop (i+2):=by
 have h2:=(Zab.mp e2).1;have hl:(l.take i).length=i:=by simp;lia
 conv=>lhs;rw[QD e1 e2]
 rw[List.set_append_right _ _ (by lia),hl,Nat.sub_self,List.set_cons_zero,List.eraseIdx_append_of_length_le (by lia),hl,ZbQ]
 rfl
end
section
variable{prog:Program}{w:World}{A:Around}{E:Value->Shared->Prop}{s:Shared}{κ:SortKind}{D:Keyed->Prop}{r:Keyed->Nat}{st:SortSt}{a0:Array Keyed}
structure Rs(κ:SortKind)(r:Keyed->Nat)(a0:Array Keyed)(lo:Nat)(st:SortSt):Prop where
 kd:kindOf st=κ
 fl:failedOf st=none
 pm:(arrOf st).Perm a0
 rn:Rn r (arrOf st) 0 (pendingOf st).toList lo
 le:lo<=a0.size
theorem QF{i lo:Nat}(hc:Cmp prog w A s κ D r)(dm:∀ x∈a0.toList,D x)(un:Unl r a0.toList)(R:Rs κ r a0 lo st)(hi:i+1<(pendingOf st).size){Q:Bool->SortSt->Prop}
  (h:∀ st',Rs κ r a0 lo st'->(pendingOf st').size+1=(pendingOf st).size->(∀ k,lo<=k->(arrOf st')[k]?=(arrOf st)[k]?)->Q true st'):wpS (model prog w) A E s (mergeAt' i) Q st:=by
 obtain⟨kd,fl,pm,rn,le⟩:=R;have sz:(arrOf st).size=a0.size:=pm.size_eq;have pl:=Zbk.mp pm;obtain⟨⟨sa,na,p1⟩,e1⟩:∃ x,(pendingOf st)[i]?=some x:=⟨_,ZaD (by lia)⟩
 obtain⟨⟨sb,nb,p2⟩,e2⟩:∃ x,(pendingOf st)[i+1]?=some x:=⟨_,ZaD hi⟩;have f1:(pendingOf st).toList[i]?=some (sa,na,p1):=by rw[ZaH];exact e1
 have f2:(pendingOf st).toList[i+1]?=some (sb,nb,p2):=by rw[ZaH];exact e2
 rw[QD f1 f2] at rn;obtain⟨k0,r1,q1,q2,q3,q4,q5,q6,r2⟩:=Rn.app.mp rn;have q1:sa=k0:=q1;subst q1;have q4:sb=sa+na:=q4;have q2:1<=na:=q2;have q5:1<=nb:=q5;have q3:iT r (arrOf st) sa (sa+na):=q3;have q6:iT r (arrOf st) (sa+na) (sa+na+nb):=q6;have r2:Rn r (arrOf st) (sa+na+nb) ((pendingOf st).toList.drop (i+2)) lo:=r2;have b1:=r1.le;have b2:=r2.le;subst q4;refine Hm hc kd fl e1 e2 rfl q2 q5 (by lia) (λx hx=>dm x (pl.mem_iff.mp hx)) (un.perm pl) ((xG (by lia)).mpr q3) ((xG (by lia)).mpr q6) λM arr' g eq pM sM=>?_
 have ll:(arrOf st).toList.length=(arrOf st).size:=by simp
 have ml:M.length=na+nb:=by rw[pM.length_eq,lY _ (by lia)];lia
 have tl:((arrOf st).toList.take sa).length=sa:=by simp;lia
 have low:∀ k,k<sa->arr'[k]?=(arrOf st)[k]?:=λk hk=>by
  rw[<-ZaH,eq,Zay,Zal (by lia),List.getElem?_take,Zaf hk,ZaH]
 have high:∀ k,sa+na+nb<=k->arr'[k]?=(arrOf st)[k]?:=λk hk=>by
  rw[<-ZaH,eq,Zat (by rw[List.length_append];lia),List.length_append,tl,ml,List.getElem?_drop,show sa+na+nb+(k-(sa+(na+nb)))=k by lia,ZaH]
 have ap:arr'.Perm (arrOf st):=by
  rw[Zbk,eq]
  conv=>rhs;rw[WL (arrOf st).toList (show sa<=sa+na+nb by lia)]
  exact ZbX _ (Za8 _ pM)
 have az:arr'.size=(arrOf st).size:=ap.size_eq;have mid:iT r arr' sa (sa+(na+nb)):=by
  refine(xG (by lia)).mp ?_
  have:bW arr'.toList sa (sa+(na+nb))=M:=by
   unfold bW;rw[eq,List.take_append_of_le_length (by rw[List.length_append];lia),ZaV (by rw[List.length_append];lia),List.drop_append_of_le_length (by lia),Zbn (by lia),List.nil_append]
  rw[this];exact sM
 have pe:(((pendingOf st).setIfInBounds i (sa,na+nb,p1)).eraseIdxIfInBounds (i+1)).toList=(pendingOf st).toList.take i++(sa,na+nb,p1)::(pendingOf st).toList.drop (i+2):=by
  rw[Array.toList_eraseIdxIfInBounds,Array.toList_setIfInBounds];exact Nm f1 f2
 refine h _ ⟨rfl,rfl,ap.trans pm,?_,le⟩ ?_ λk hk=>high k (by lia)
 ·show Rn r arr' 0 (((pendingOf st).setIfInBounds i (sa,na+nb,p1)).eraseIdxIfInBounds (i+1)).toList lo
  rw[pe];refine Rn.app.mpr ⟨sa,r1.congr λk _ hk=>low k hk,rfl,by show 1<=na+nb;lia,mid,?_⟩
  show Rn r arr' (sa+(na+nb)) _ lo
  rw[show sa+(na+nb)=sa+na+nb by lia]
  exact r2.congr λk hk _=>high k hk
 ·show(((pendingOf st).setIfInBounds i (sa,na+nb,p1)).eraseIdxIfInBounds (i+1)).size+1=_
  rw[<-ZaZ,pe];have:(pendingOf st).toList.length=(pendingOf st).size:=by simp
  simp;lia
end
section
variable{prog:Program}{w:World}{A:Around}{E:Value->Shared->Prop}{s:Shared}{κ:SortKind}{D:Keyed->Prop}{r:Keyed->Nat}{st:SortSt}{a0:Array Keyed}
theorem Rn.mod{a:Array Keyed}{f:Pd->Pd}(hf:∀ x,(f x).1=x.1/\(f x).2.1=x.2.1):∀ {l:List Pd}{i s e:Nat},Rn r a s l e->Rn r a s (l.modify i f) e
 |[],_,_,_,h=>by simpa using h
 |x::l,0,s,e,⟨h1,h2,h3,h4⟩=>by
  rw[List.modify_zero_cons];exact⟨(hf x).1.trans h1,by rw[(hf x).2];exact h2,by rw[(hf x).2];exact h3,by rw[(hf x).2];exact h4⟩
 |x::l,i+1,s,e,⟨h1,h2,h3,h4⟩=>by
  rw[List.modify_succ_cons];exact⟨h1,h2,h3,Rn.mod hf h4⟩
theorem yP{M:Model}{lo n:Nat}(R:Rs κ r a0 lo st)(S:iT r (arrOf st) lo (lo+n))(n1:1<=n)(hz:lo+n<=a0.size){Q:ForInStep (Option Unit×Nat)->SortSt->Prop}(h:∀ st',Rs κ r a0 (lo+n) st'->Q (.yield (none,lo+n)) st'):wpS M A E s (qP lo n) Q st:=by
 unfold qP;refine Zan (wpS_modify (Zau (h _ ⟨R.kd,R.fl,R.pm,?_,hz⟩)));show Rn r (arrOf st) 0 ((pendingOf st).push (lo,n,0)).toList (lo+n)
 rw[ZbC];exact Rn.app.mpr ⟨lo,R.rn,rfl,n1,S,rfl⟩
theorem JW{pw lo n:Nat}(hc:Cmp prog w A s κ D r)(dm:∀ x∈a0.toList,D x)(un:Unl r a0.toList)(R:Rs κ r a0 lo st)(S:iT r (arrOf st) lo (lo+n)) :
  wpS (model prog w) A E s (uF pw) (λc st'=>(c=.done (none,())\/c=.yield (none,()))/\Rs κ r a0 lo st'/\iT r (arrOf st') lo (lo+n)) st:=by
 unfold uF;refine Zan (wpS_get ?_);by_cases q:(pendingOf st).size>1
 ·rw[Zaf q];cases (pendingOf st)[(pendingOf st).size-2]? with
  |none=>exact Zau ⟨.inl rfl,R,S⟩
  |some x=>
   dsimp only;split
   ·exact Zau ⟨.inl rfl,R,S⟩
   ·refine Zan (QF hc dm un R (by omega) λst' R' _ hk=>?_)
    rw[Zad (by decide)]
    exact Zau ⟨.inr rfl,R',S.congr λk g1 _=>hk k g1⟩
 ·rw[Zad q];exact Zau ⟨.inl rfl,R,S⟩
theorem QG{z lo n:Nat}(hc:Cmp prog w A s κ D r)(dm:∀ x∈a0.toList,D x)(un:Unl r a0.toList)(R:Rs κ r a0 lo st)(S:iT r (arrOf st) lo (lo+n))(n1:1<=n)(hz:lo+n<=a0.size){Q:ForInStep (Option Unit×Nat)->SortSt->Prop}(h:∀ st',Rs κ r a0 (lo+n) st'->Q (.yield (none,lo+n)) st'):wpS (model prog w) A E s (lay z lo n) Q st:=by
 unfold lay;refine Zan (wpS_get ?_);cases (pendingOf st).back? with
 |none=>exact yP R S n1 hz h
 |some x=>
  dsimp only;refine Zan (Za6 (Zbe (I:=λ_ c st'=>c=(none,())/\Rs κ r a0 lo st'/\iT r (arrOf st') lo (lo+n)) (Q:=λc st'=>c=(none,())/\Rs κ r a0 lo st'/\iT r (arrOf st') lo (lo+n)) ?_ (λ_ _ g=>g) ⟨rfl,R,S⟩) ?_)
  ·rintro k c st' _ _ ⟨rfl,R',S'⟩;refine Za6 (JW hc dm un R' S') λc st2 p=>?_;rcases p.1 with rfl|rfl
   ·exact⟨rfl,p.2⟩
   ·exact⟨rfl,p.2⟩
  ·rintro c st' ⟨rfl,R',S'⟩;dsimp only;refine Zan (wpS_modify ?_);generalize hm:((pendingOf st').modify ((pendingOf st').size-1) λy=>(y.1,y.2.1,power' z (2*x.1+x.2.1) (2*x.1+x.2.1+x.2.1+n) z))=pm
   refine yP (st:=setPending st' pm) ⟨R'.kd,R'.fl,R'.pm,?_,R'.le⟩ S' n1 hz h;show Rn r (arrOf st') 0 pm.toList lo
   rw[<-hm,Array.toList_modify];exact Rn.mod (f:=λy=>(y.1,y.2.1,power' z (2*x.1+x.2.1) (2*x.1+x.2.1+x.2.1+n) z)) (λy=>⟨rfl,rfl⟩) R'.rn
theorem JX{z lo:Nat}(hc:Cmp prog w A s κ D r)(dm:∀ x∈a0.toList,D x)(un:Unl r a0.toList)(hz:z=a0.size)(R:Rs κ r a0 lo st){c0:Option Unit} :
  wpS (model prog w) A E s (xH z (c0,lo)) (λc st'=>(c=.done (none,lo)/\lo=z/\st'=st)\/∃ lo',c=.yield (none,lo')/\lo<lo'/\Rs κ r a0 lo' st') st:=by
 have sz:(arrOf st).size=a0.size:=R.pm.size_eq;have le:=R.le;have pl:=Zbk.mp R.pm;unfold xH;dsimp only;by_cases q:lo>=z
 ·rw[Zaf q];exact Zau (.inl ⟨rfl,by omega,rfl⟩)
 ·rw[Zad q];have low:∀ {a2:Array Keyed},a2.Perm (arrOf st)->(∀ k,k<lo->a2[k]?=(arrOf st)[k]?)->Rs κ r a0 lo (setArr st a2):=λ{a2} p2 pre=>⟨R.kd,R.fl,p2.trans R.pm,R.rn.congr λk _ hk=>pre k hk,R.le⟩;refine Zan (wpS_countRun hc R.kd (λx hx=>dm x (pl.mem_iff.mp hx)) (un.perm pl) (by omega) (by omega) λn a2 n1 n2 p2 pre S=>?_)
  dsimp only;have R2:=low p2 pre;have pl2:=Zbk.mp (p2.trans R.pm);by_cases q2:n<minRun' z z 0
  ·rw[Zaf q2];refine Zan (nq ?_);refine Zan (wpS_binarySort (st:=setArr st a2) hc R.kd (λx hx=>dm x (pl2.mem_iff.mp hx)) (un.perm pl2) n1 (by omega) (by show _<=a2.size;rw[p2.size_eq];omega) S λa3 p3 pre3 S3=>?_)
   rw[Zad (by decide)]
   have R3:Rs κ r a0 lo (setArr (setArr st a2) a3):=⟨R.kd,R.fl,(show a3.Perm a2 from p3).trans (p2.trans R.pm),R.rn.congr λk _ hk=>(pre3 k hk).trans (pre k hk),R.le⟩;exact QG hc dm un R3 S3 (by omega) (by omega) λst' R'=>.inr ⟨_,rfl,by omega,R'⟩
  ·rw[Zad q2];exact QG hc dm un R2 S (by omega) (by omega) λst' R'=>.inr ⟨_,rfl,by omega,R'⟩
theorem wpS_sortRuns(hc:Cmp prog w A s κ D r)(hk:kindOf st=κ)(hf:failedOf st=none)(hp:pendingOf st=#[])(dm:∀ x∈(arrOf st).toList,D x)(un:Unl r (arrOf st).toList){Q:Unit->SortSt->Prop}
  (h:∀ st',(arrOf st').Perm (arrOf st)->failedOf st'=none->Srt r (arrOf st').toList->Q () st'):wpS (model prog w) A E s sortRuns' Q st:=by
 rw[DQ];unfold vR;refine Zan (wpS_get ?_);have R0:Rs κ r (arrOf st) 0 st:=⟨hk,hf,Array.Perm.refl _,by rw[hp];rfl,Zba _⟩
 refine Zan (Za6 (Zbe (I:=λk c st'=>∃ lo,c=(none,lo)/\Rs κ r (arrOf st) lo st'/\k<=lo) (Q:=λc st'=>c=(none,(arrOf st).size)/\Rs κ r (arrOf st) (arrOf st).size st') ?_ ?_ ⟨0,rfl,R0,Zak _⟩) ?_)
 ·rintro k c st' _ _ ⟨lo,rfl,R,hlo⟩;refine Za6 (JX hc dm un rfl R) λc st2 p=>?_;rcases p with⟨rfl,rfl,rfl⟩|⟨lo',rfl,g,R'⟩
  ·exact⟨rfl,R⟩
  ·exact⟨lo',rfl,R',by lia⟩
 ·rintro c st' ⟨lo,rfl,R,hlo⟩;have:=R.le;have e:lo=(arrOf st).size:=by lia
  subst e;exact⟨rfl,R⟩
 ·rintro c st' ⟨rfl,R⟩;dsimp only;have pz:∀ {st2:SortSt},Rs κ r (arrOf st) (arrOf st).size st2->(pendingOf st2).size<=(arrOf st).size:=λR2=>by
   have:=R2.rn.le;simp at this;exact this
  refine Zan (Za6 (Zbe (I:=λk c st2=>c=(none,())/\Rs κ r (arrOf st) (arrOf st).size st2/\((pendingOf st2).size+k<=(arrOf st).size\/(pendingOf st2).size<=1)) (Q:=λc st2=>c=(none,())/\Rs κ r (arrOf st) (arrOf st).size st2/\(pendingOf st2).size<=1) ?_ ?_ ⟨rfl,R,.inl (by have:=pz R;lia)⟩) ?_)
  ·rintro k c st2 _ _ ⟨rfl,R2,hs⟩;unfold Lb;refine Zan (wpS_get ?_);by_cases q:(pendingOf st2).size<=1
   ·rw[Zaf q];exact Zau ⟨rfl,R2,q⟩
   ·rw[Zad q];refine Zan (QF hc dm un R2 ?_ λst3 R3 e3 _=>?_)
    ·have:QC st2<=(pendingOf st2).size-2:=by
      unfold QC;generalize (if(pendingOf st2).size-2>0 then Option.map (λx:Pd=>x.2.1) (pendingOf st2)[(pendingOf st2).size-2-1]? else none)=o
      split<;>lia
     lia
    ·rw[Zad (by decide)]
     exact Zau ⟨rfl,R3,.inl (by lia)⟩
  ·rintro c st2 ⟨rfl,R2,hs⟩;exact⟨rfl,R2,by lia⟩
  ·rintro c st2 ⟨rfl,R2,hs⟩;refine Zau (h st2 R2.pm R2.fl ?_);have sz:(arrOf st2).size=(arrOf st).size:=R2.pm.size_eq;have all:iT r (arrOf st2) 0 (arrOf st2).size:=by
    have rn:=R2.rn;have pl:(pendingOf st2).toList.length<=1:=by simpa using hs
    match hq:(pendingOf st2).toList,pl with
    |[],_=>
     rw[hq] at rn;have rn:0=(arrOf st).size:=rn;intro p q _ _ h3;lia
    |[x],_=>
     rw[hq] at rn;obtain⟨_,_,g3,g4⟩:=rn;have g4:0+x.2.1=(arrOf st).size:=g4;rw[g4,<-sz] at g3;exact g3
   have:=(xG (r:=r) (a:=arrOf st2) (i:=0) (Zak _)).mpr all;unfold bW at this;rw[Zbo,ZaV (by simp)] at this
   exact this
end
end L2.TS
namespace L2
open PySem PySem.Spec PyProof PyProof.Rows
section
variable{K:Type}[DecidableEq K]{prog:Program}{w:World}{knd:HeapKind prog w K}{A:Around}{E:Value->Shared->Prop}{s:Shared}{d a:Addr}{k:K}{xs:List (K×Addr×Value)}
theorem Hn{dflt:Value}{Q:Value->Shared->Prop}(hu:knd.room A)(hkey:knd.is s.heap k a)(hm:s.heap.DictOfH knd d xs)(hsz:xs.length<=sizeLine)
  (h1:∀ p,atKey xs k=some p->Q p.2 { s with toks:=s.toks+knd.draws k })
  (h2:atKey xs k=none->∀ h',h'.DictOfH knd d (storedH xs k a dflt)->Heap.SameBut d s.heap h'->Q dflt { s with heap:=h',toks:=s.toks+knd.draws k }) :
  wpAny (model prog w) A (dictSetDefault d (.ref a) dflt) Q E s:=by
 obtain⟨o,es,ep,ho,hc,hd,he,his,hn⟩:=hm;unfold dictSetDefault
 try with_reducible refine Zbj ?_
 refine Zaa (knd.pyHash hu hkey ?_);refine Zaa (wpAny_dictFind_heap (s:={ s with toks:=s.toks+knd.draws k }) hu hkey ho hd he his hn ?_ ?_)
 ·intro hno;have hnot:k ∉ xs.map (·.1):=not_mem_keys_of_get hno;refine Zaa (wpAny_rule (Zaa (wpAny_updateDictKeys (hz:=by have e:=size_of_entries he;lia) (s:={ s with toks:=s.toks+knd.draws k }) ho hd (Zae (h2 (atKey_none_of_get hno) _ ⟨_,_,ep+1,Heap.get?_update_self _ ho (Obj.isFreed_of_dict (Obj.data_mapDictKeys hd _)),
   hc.mapDictKeys _,Obj.data_mapDictKeys hd _,?_,?_,?_⟩ (ZbH ..))))))
  ·rw[storedH_new (atKey_none_of_get hno)];simp[he,entryOfKey]
  ·rw[storedH_new (atKey_none_of_get hno)];intro x hx;rcases Zaj.mp hx with hx|hx
   ·exact knd.keeps (his x hx) ho hd (ZbH ..)
   ·simp only[ZaL] at hx;subst hx;exact knd.keeps hkey ho hd (ZbH ..)
  ·rw[storedH_new (atKey_none_of_get hno)];rw[Zbi,ZbD];refine⟨hn,by simp,?_⟩
   intro x hx y hy;simp only[Zap,List.map_nil,ZaL] at hy;subst hy;exact λe=>hnot (e▸hx)
 ·intro j p hj;refine Zaa (wpAny_dictEntries (s:={ s with toks:=s.toks+knd.draws k }) ho hd ?_);rw[entry_at he j,hj];exact Zaa (wpAny_rule (Zae (h1 p (atKey_of_get hn hj))))
theorem oE(hd:(d==sysModules)=false)(dflt:Value):MeetsIn prog w (Builtin.«dict.setdefault» ⟨[.ref d,.ref a,dflt],[]⟩) (λA R s=>knd.room A.in1/\∃ k xs,knd.is s.heap k a/\s.heap.DictOfH knd d xs/\xs.length<=sizeLine /\
   (∀ p,atKey xs k=some p->R (.ok (.ret p.2)) { s with toks:=s.toks+knd.draws k }) /\
   (atKey xs k=none->∀ h',h'.DictOfH knd d (storedH xs k a dflt)->Heap.SameBut d s.heap h'->R (.ok (.ret dflt)) { s with heap:=h',toks:=s.toks+knd.draws k })):=
 .of_wp λA R s ⟨hu,k,xs,hkey,hm,hsz,h1,h2⟩=>by
  unfold Builtin.«dict.setdefault»;refine Zaa ?_;unfold Builtin.Dict.keyAndDefault;refine Zaa (wpAny_notOrdered_dict hm.typeIs ?_);show wpAny _ _ (pure (d,Value.ref a,some dflt)) _ _ s
  refine Zae ?_;show wpAny _ _ (if(d==sysModules)=true then _ else(dictSetDefault d (.ref a) dflt>>=_)) _ _ s
  rw[Zad (by rw[hd];exact Zbt)]
  exact Zaa (Hn hu hkey hm hsz (λp hp=>Zae ⟨p.2,rfl,h1 p hp⟩) λhn h' hm' hs'=>Zae ⟨dflt,rfl,h2 hn h' hm' hs'⟩)
end
section
variable{X:Cx}{pins:List (Addr×Obj)}{σ:St}{H:Hp}{s:Shared}{a b:Addr}{kvs:List (List Key×V)}{k:List Key}{z:V}{r:Value}{A:Around}{E:Value->Shared->Prop}
theorem Np{Q:Value->Shared->Prop}(hu:A.units+1<cLine)(I:Inv X pins σ H s)(e:H a=some (.dT kvs))(eb:H b=some (.tup (k.map kV)))(hl:kvs.length<sizeLine)(rz:RelV z r)
  (h1:∀ v,jC kvs k=some v->∀ w' s',Inv X pins σ H s'->RelV v w'->Q w' s')
  (h2:jC kvs k=none->∀ s',Inv X pins σ (upd H a (.dT (putK kvs k z))) s'->Q r s'):wpAny (model X.prog X.w) A (call (.builtin "dict.setdefault") [.ref a,.ref b,r]) Q E s:=by
 obtain⟨zz,hd,xs,rel,dd⟩:=O1 I.hok e;have hz:xs.length<=sizeLine:=by rw[<-Paired.length rel];exact zz
 have hl2:(putK kvs k z).length<=sizeLine:=by have:=jk kvs k z;lia
 have rv:=rel.val k;refine call_meetsIn PySem.F.slot_dict_setdefault dd.typeIs PySem.F.entry_dict_setdefault (PySem.F.args_dict_setdefault_3 _ _ _) (oE (knd:=tupleKind (dq X.prog X.w)) hd r)
  ⟨tupleKind_room_in1 hu,k,xs,pJ I.hok eb,dd,hz,λp hp=>?_,λhn h' dd' hs=>?_⟩
 ·rw[hp] at rv;cases e2:jC kvs k with
  |none=>rw[e2] at rv;exact rv.elim
  |some v'=>rw[e2] at rv;exact h1 v' e2 p.2 _ (I.tok _) rv
 ·rw[hn] at rv;have hn':jC kvs k=none:=by
   cases e2:jC kvs k with
   |none=>rfl
   |some v'=>rw[e2] at rv;exact rv.elim
  obtain⟨q,es,ep,hq,g2,g3,g4,_,g5⟩:=dd';refine h2 hn' _ (uc I (by rw[e];exact True.intro) hs ⟨q,hq⟩ ⟨hl2,hd,_,(rel.put k eb rz).keeps λc ys ec=>?_,q,es,ep,hq,g2,g3,g4,g5⟩)
  rw[aG (Oe ec e (λz=>nomatch z))];exact ec
end
def Ho(td ty tz:TE):TE:=λσ H Q=>td σ H λx H1=>∃ a,x=.ref a/\IsD H1 a/\ty σ H1 λy H2=>tz σ H2 λz H3=>∃ kvs k b,H3 a=some (.dT kvs)/\y=.ref b/\H3 b=some (.tup (k.map kV))/\kvs.length<sizeLine /\
 (∀ v,jC kvs k=some v->Q v H3)/\(jC kvs k=none->Q z (upd H3 a (.dT (putK kvs k z))))
section
variable{X:Cx}{o e f:Expr}{apos cpos:Pos}{td ty tz:TE}
theorem JZ(hu:X.A.units+1<cLine)(ho:PE X o td)(he:PE X e ty)(hf:PE X f tz)(m:M2 X o "setdefault" apos e f cpos):PE X (.Call (.Attribute o "setdefault" apos) [e,f] [] cpos) (Ho td ty tz):=by
 intro pins s σ H Q I h;refine wpAny_Call_method m.base m.few m.line PySem.F.plainAttrs_dict PySem.F.slot_dict_setdefault PySem.F.type_dict_setdefault (thn (ho pins s σ H _ I h) ?_);rintro u s1 ⟨x,H1,I1,rx,a,ex,d,q1⟩;subst ex;obtain rfl:u=Value.ref a:=rx;obtain⟨t1,t2,_⟩:=Jx I1 d;refine⟨t1,t2,?_⟩;rw[m.trees];refine Calls.callWith_builtin rfl (Calls.evalArgs_plain (Calls.spliced_cons (thn (he pins s1 σ H1 _ I1 q1) λiv s2 ⟨y,H2,I2,ry,q2⟩=>
  Calls.spliced_cons (thn (hf pins s2 σ H2 _ I2 q2) λfv s3 ⟨z,H3,I3,rz,kvs,k,b,ea,ey,eb,hl,c1,c2⟩=>Calls.spliced_nil ?_))))
 subst ey;obtain rfl:iv=Value.ref b:=ry;exact Np hu I3 ea eb hl rz (λv hv w' s' I' r'=>⟨v,H3,I',r',c1 v hv⟩) λhn s' I'=>⟨z,_,I',rz,c2 hn⟩
end
namespace MP
section
variable{K:Frag}{C:Cg}{te tb:TE}{F F1 F2 H H1 H2:Hp}{σ:St}{ρ:Rho}{D:Ends}{S:Addr->Prop}{v:V}{p:PV}
theorem Dp.DR{l:List (List Key×PV)}(d:Dp K F H S v (.dt l)):∃ (T:Nat->Addr->Prop) (a:Addr) (xs:List (List Key×V)),v=.ref a/\H a=some (.dT xs)/\S a/\(∀ j b,T j b->S b/\b≠a)/\(∀ i j b,T i b->T j b->i=j)/\xs.map (·.1)=l.map (·.1)/\∀ (j:Nat) x p,xs[j]?=some x->l[j]?=some p->Dp K F H (T j) x.2 p.2:=by
 cases d with
 |fr r st=>cases st
 |dt h hp hs dj hl hr=>exact⟨_,_,_,rfl,h,hp,hs,dj,hl,hr⟩
def uG(i:Nat)(fk fe:Fn PV):Sn:=λρ=>match uA i ρ with
 |some (.dt l)=>if l.length<sizeLine then gw (fk ρ) λkp=>match kp with
  |.tup ks=>match dD ks with
   |some k=>match(dg l k).getD (.lst []) with
    |.lst row=>gw (fe (ρ.set i (some (.dp (.dt (cA l k (.lst row))))))) λq=>if q.still=true/\row.length<sizeLine then some (.nx (ρ.set i (some (.dp (.dt (cA l k (.lst (row++[q]))))))))
     else none
    |_=>none
   |none=>none
  |_=>none else none
 |_=>none
theorem Ld{κ:Type}[DecidableEq κ]{k:κ}{p q:PV}:∀ {l:List (κ×PV)},cA (cA l k p) k q=cA l k q
 |[]=>by simp[cA]
 |(a,r)::l=>by
  by_cases h:a=k
  ·simp[cA,h]
  ·simp[cA,h,Ld (l:=l)]
theorem QH{κ:Type}[DecidableEq κ]{k:κ}{p:PV}:∀ {l:List (κ×PV)},dg (cA l k p) k=some p
 |[]=>by simp[cA,dg]
 |(a,r)::l=>by
  by_cases h:a=k
  ·simp[cA,dg,h]
  ·simp[cA,dg,h,QH (l:=l)]
theorem Hq{κ:Type}[DecidableEq κ]{k:κ}{p:PV}:∀ {l:List (κ×PV)},dg l k=some p->cA l k p=l
 |[],e=>by cases e
 |(a,r)::l,e=>by
  unfold dg at e;by_cases h:a=k
  ·rw[Zaf h] at e;cases e;simp[cA,h]
  ·rw[Zad h] at e;simp[cA,h,Hq e]
theorem Br{i:Nat}{l:List (List Key×PV)}{k:List Key}{row:List PV}{q:PV}{P:Nat->Addr->Prop}{a b:Addr}{xs:List (List Key×V)}{w:V}(R:RE K C.toCf F H σ ρ)(d:RD K C.toCf F H σ ρ P)(ei:ρ[i]?=some (some (.dp (.dt l))))(es:σ[i]?=some (some (.ref a)))(ha:H a=some (.dT xs))(hv:jC xs k=some (.ref b))(hp:dg l k=some (.lst row))(rep:Rep K F w q)(st:q.still=true) :
  ∃ ys,H b=some (.lst ys)/\ys.length=row.length/\RE K C.toCf F (upd H b (.lst (ys++[w]))) σ (ρ.set i (some (.dp (.dt (cA l k (.lst (row++[q]))))))):=by
 obtain⟨v,e1,dp⟩:=d.dp i _ ei;rw[es] at e1;cases e1;obtain⟨T,a',xs',ea,ha',Pa,hT,dj,hkeys,hch⟩:=dp.DR;cases ea;rw[ha] at ha';cases ha';obtain⟨j,w',lj,xj,hvw,hput⟩:=qO hkeys hp;rw[hv] at hvw;cases hvw;obtain⟨T2,b',ys,eb,hb,sb,ht2,ds2⟩:=(hch j _ _ xj lj).cg;have eb:V.ref b=.ref b':=eb;cases eb;have nab:a≠b:=λz=>(hT j b sb).2 z.symm;have nt:∀ c zs,H c=some (.tup zs)->upd H b (.lst (ys++[w])) c=some (.tup zs):=λc zs z=>by
  rw[aG (λy=>by subst y;rw[hb] at z;cases z)];exact z
 refine⟨ys,hb,ds2.1,?_⟩;refine R.Du d ei es (hT j b sb).1 (λzs z=>by cases z) (S':=P i) (.dt (S:=T) (xs:=xs) (by rw[aG nab];exact ha) Pa hT dj (by rw[hput,Qu lj];exact hkeys) λm x r h1 h2=>?_) λc z=>.inl z
 rw[hput] at h2;rcases get_set h2 with⟨f1,f2⟩|⟨f1,f2⟩
 ·subst f1;subst f2;rw[xj] at h1;cases h1;exact Dp.snoc hb sb ht2 ds2 rep st
 ·exact(hch m x r h1 f2).up (aU.refl _) (λc o z y=>by rw[aG (λe=>by subst e;exact f1 (dj j m c sb z))];exact y) nt
theorem Nq{i:Nat}{fk fe:Fn PV}(hk:MJ K C (aF K) tb fk)(he:MJ K C (aF K) te fe) :
  MS K C (Fw (tBM K "list" wY (Ho (m5 i) tb (V0 wL)) (j8 te wL))) (uG i fk fe):=by
 intro F H σ ρ D o R e Pq;unfold uG at e;split at e
 case h_2=>cases e
 rename_i l hl;split at e
 case isFalse=>cases e
 rename_i hlen;obtain⟨P0,d0⟩:=R.dd;obtain⟨v0,e0,dp0⟩:=d0.dp i _ (dG hl);obtain⟨_,a,xs0,rfl,ha0,_⟩:=dp0.DR;refine⟨_,e0,a,rfl,.inr ⟨xs0,.inl ha0⟩,?_⟩;rcases cZ e with⟨z,e1,rfl⟩|⟨kp,e1,hk1⟩
 ·exact hk F H σ ρ _ _ R e1 Pq
 refine hk F H σ ρ _ _ R e1 λy F1 H1 u ry=>?_;split at hk1
 case h_2=>cases hk1
 rename_i ks;split at hk1
 case h_2=>cases hk1
 rename_i k hkk;split at hk1
 case h_2=>cases hk1
 rename_i row hrow;obtain⟨bk,zs,rfl,hbk,rr⟩:=Rep.ue ry;cases jZ hkk rr;refine⟨Zba _,λn hn=>?_⟩;have u1:Up F1 H1 F1 (upd H1 n (.lst [])):=Up.JB u.fh hn;have RA:=R.up u;obtain⟨P1,dA⟩:=RA.dd;have R1:=RA.up u1;have d1:=dA.up u1;obtain⟨v1,e1',dp1⟩:=d1.dp i _ (dG hl);rw[e0] at e1';cases e1';obtain⟨T,a',xs,ea,ha,Pa,hT,dj,hkeys,hch⟩:=dp1.DR;cases ea;have lx:xs.length=l.length:=by have:=Zbg List.length hkeys;simpa using this
 have hbk2:=u1.fh _ _ hbk;refine⟨xs,k,bk,ha,rfl,hbk2,by rw[lx];exact hlen,λv hv=>?_,λhv=>?_⟩
 ·cases hvl:dg l k with
  |none=>rw[(yJ hkeys hvl).1] at hv;cases hv
  |some q0=>
   rw[hvl] at hrow;have hrow:q0=.lst row:=hrow;subst hrow;rw[Hq hvl,Hb (dG hl)] at hk1;obtain⟨j,w',lj,xj,hvw,_⟩:=qO hkeys hvl;rw[hv] at hvw;cases hvw;obtain⟨T2,b,ys,eb,hb,sb,_,_⟩:=(hch j _ _ xj lj).cg;have eb:v=.ref b:=eb;subst eb;refine⟨tyL hb,?_⟩;rcases cZ hk1 with⟨z,e2,rfl⟩|⟨q,e2,hk2⟩
   ·exact he F1 _ σ ρ _ _ R1 e2 (PX.up Pq (u.trans u1).ff)
   split at hk2
   case isFalse=>cases hk2
   rename_i hq;cases hk2;refine he F1 _ σ ρ _ _ R1 e2 λw F2 H2 u2 rep=>?_;obtain⟨ys2,hb2,yl,RR⟩:=Br (R1.up u2) (d1.up u2) (dG hl) e0 (u2.hh _ _ ha) hv hvl rep hq.1;exact⟨b,ys2,w,rfl,rfl,hb2,by rw[yl];exact hq.2,Pq F2 _ σ ((u.trans u1).trans u2).ff RR⟩
 ·cases hvl:dg l k with
  |some q0=>
   obtain⟨j,w',_,_,hvw,_⟩:=qO hkeys hvl;rw[hv] at hvw;cases hvw
  |none=>
   rw[hvl] at hrow;have hrow:row=[]:=by
    have:PV.lst []=.lst row:=hrow;cases this;rfl
   subst hrow;have hput:=(yJ hkeys hvl).2;rw[OJ _ hv];have hn2:upd H1 n (.lst []) n=some (.lst []):=aN;have inP:∀ j x,P1 j x->x≠n:=λj x z y=>by
    subst y;obtain⟨_,⟨o,k2,_⟩,_⟩:=dA.own j x z;rw[hn] at k2;cases k2
   have nna:n≠a:=λz=>inP i a Pa z.symm;have il:=cU (dG hl);have R3:RE K C.toCf F1 (upd (upd H1 n (.lst [])) a (.dT (xs++[(k,.ref n)]))) σ (ρ.set i (some (.dp (.dt (cA l k (.lst [])))))):=by
    refine R1.Du d1 (dG hl) e0 Pa (λzs z=>by cases z) (S':=λc=>P1 i c\/c=n) ?_ λc z=>?_
    ·rw[hput];refine .dt (S:=λm x=>(m<xs.length/\T m x)\/(m=xs.length/\x=n)) (xs:=xs++[(k,.ref n)]) aN (.inl Pa) (λm x z=>?_) (λm m' x z z'=>?_) (by simp[hkeys]) λm x r h1 h2=>?_
     ·rcases z with⟨_,z⟩|⟨_,z⟩
      ·exact⟨.inl (hT m x z).1,(hT m x z).2⟩
      ·exact⟨.inr z,by rw[z];exact nna⟩
     ·rcases z with⟨q,z⟩|⟨q,z⟩<;>rcases z' with⟨q',z'⟩|⟨q',z'⟩
      ·exact dj m m' x z z'
      ·exact absurd z' (inP i x (hT m x z).1)
      ·exact absurd z (inP i x (hT m' x z').1)
      ·rw[q,q']
     ·by_cases hm:m<xs.length
      ·rw[Zal hm] at h1;rw[Zal (by lia)] at h2
       exact((hch m x r h1 h2).up (aU.refl _) (λc o z y=>by rw[aG (hT m c z).2];exact y) λc zs z=>by rw[aG (λy=>by subst y;rw[ha] at z;cases z)];exact z).mono λc z=>.inl ⟨hm,z⟩
      ·have em:m=xs.length:=by
        have:=cU h1;simp at this;lia
       subst em;rw[Zat (Zak _),Nat.sub_self] at h1;rw[lx,Zat (Zak _),Nat.sub_self] at h2;cases h1;cases h2;exact .lst (S:=λ_ _=>False) (by rw[aG nna];exact hn2) (.inr ⟨rfl,rfl⟩) (λ_ _ q=>q.elim) (λ_ _ _ q=>q.elim) rfl λj x p e1=>by simp at e1
    ·rcases z with z|z
     ·exact .inl z
     ·subst z;exact .inr ⟨u.fh.free hn,⟨_,hn2,λys q=>by cases q⟩,(d1.own i a Pa).2.2.1,RA.rb.uf hn,λj z=>inP j c z rfl,λj q f=>RA.apart hn j q f⟩
   have hn3:upd (upd H1 n (.lst [])) a (.dT (xs++[(k,.ref n)])) n=some (.lst []):=by rw[aG nna];exact hn2
   refine⟨tyL hn3,?_⟩;rcases cZ hk1 with⟨z,e2,rfl⟩|⟨q,e2,hk2⟩
   ·exact he F1 _ σ _ _ _ R3 e2 (PX.up Pq u.ff)
   split at hk2
   case isFalse=>cases hk2
   rename_i hq;cases hk2;refine he F1 _ σ _ _ _ R3 e2 λw F2 H2 u2 rep=>?_;obtain⟨P3,d3⟩:=R3.dd;have ei:(ρ.set i (some (.dp (.dt (cA l k (.lst []))))))[i]?=some (some (.dp (.dt (cA l k (.lst []))))):=by rw[List.getElem?_set,Zaf rfl,Zaf il]
   have hvn:jC (xs++[(k,V.ref n)]) k=some (.ref n):=by
    unfold jC at hv ⊢;rw[Option.map_eq_none_iff] at hv;rw[List.find?_append,hv];simp
   obtain⟨ys2,hb2,yl,RR⟩:=Br (R3.up u2) (d3.up u2) ei e0 (u2.hh _ _ aN) hvn QH rep hq.1;rw[Qt,Ld] at RR;exact⟨n,ys2,w,rfl,rfl,hb2,by rw[yl];exact hq.2,Pq F2 _ σ (u.ff.trans u2.ff) RR⟩
end
end MP
open PySem PySem.Spec PySem.W PyProof PyProof.Rows
noncomputable abbrev Sk:=Str×List Int
def ltI:List Int->List Int->Bool
 |a::l,b::m=>if a=b then ltI l m else decide (a<b)
 |_,_=>false
def fZ(p q:Sk):Bool:=if p.1=q.1 then ltI p.2 q.2 else decide (p.1.cps.toList<q.1.cps.toList)
theorem yQ:∀ l,ltI l l=false
 |[]=>rfl
 |a::l=>by unfold ltI;rw[Zaf rfl];exact yQ l
theorem Bt:∀ {l m n:List Int},ltI l m=true->ltI m n=true->ltI l n=true
 |a::l,b::m,c::n,h1,h2=>by
  unfold ltI at h1 h2 ⊢;by_cases e1:a=b
  ·rw[Zaf e1] at h1;by_cases e2:b=c
   ·rw[Zaf e2] at h2;rw[Zaf (e1.trans e2)];exact Bt h1 h2
   ·rw[Zad e2] at h2;rw[Zad (λz=>e2 (e1.symm.trans z)),e1];exact h2
  ·rw[Zad e1] at h1;have h1:=of_decide_eq_true h1;by_cases e2:b=c
   ·rw[Zad (λz=>e1 (z.trans e2.symm)),<-e2];exact Zax h1
   ·rw[Zad e2] at h2;have h2:=of_decide_eq_true h2;rw[Zad (by omega)]
    exact Zax (by omega)
 |[],_,_,h1,_=>by cases h1
 |_::_,[],_,h1,_=>by cases h1
 |_::_,_::_,[],_,h2=>by cases h2
theorem Bu:∀ {l m:List Int},l.length=m.length->l≠m->ltI l m=true\/ltI m l=true
 |[],[],_,h=>absurd rfl h
 |a::l,b::m,hl,h=>by
  unfold ltI;by_cases e:a=b
  ·subst e;rw[Zaf rfl,Zaf rfl];exact Bu (by simpa using hl) λz=>h (by rw[z])
  ·rw[Zad e,Zad (Zbr e)];rcases Int.lt_or_gt_of_ne e with q|q
   ·exact .inl (Zax q)
   ·exact .inr (Zax q)
theorem WM{a b:Str}(h:a≠b):a.cps.toList≠b.cps.toList:=λe=>h (by
 cases a;cases b;simp only[Str.mk.injEq];exact Array.toList_inj.mp e)
theorem Hr(p:Sk):fZ p p=false:=by unfold fZ;rw[Zaf rfl];exact yQ _
theorem J0{p q t:Sk}(h1:fZ p q=true)(h2:fZ q t=true):fZ p t=true:=by
 unfold fZ at h1 h2 ⊢;by_cases e1:p.1=q.1
 ·rw[Zaf e1] at h1;by_cases e2:q.1=t.1
  ·rw[Zaf e2] at h2;rw[Zaf (e1.trans e2)];exact Bt h1 h2
  ·rw[Zad e2] at h2;rw[Zad (λz=>e2 (e1.symm.trans z)),e1];exact h2
 ·rw[Zad e1] at h1;have h1:=of_decide_eq_true h1;by_cases e2:q.1=t.1
  ·rw[Zad (λz=>e1 (z.trans e2.symm)),<-e2];exact Zax h1
  ·rw[Zad e2] at h2;have h2:=of_decide_eq_true h2;have h3:=List.lt_trans h1 h2;rw[Zad (λz=>by rw[z] at h3;exact List.lt_irrefl _ h3)]
   exact Zax h3
theorem yR{p q:Sk}(hl:p.2.length=q.2.length)(h:p≠q):fZ p q=true\/fZ q p=true:=by
 unfold fZ;by_cases e:p.1=q.1
 ·rw[Zaf e,Zaf e.symm];exact Bu hl λz=>h (Prod.ext e z)
 ·rw[Zad e,Zad (Zbr e)];by_cases q1:p.1.cps.toList<q.1.cps.toList
  ·exact .inl (Zax q1)
  ·refine .inr (Zax ?_);by_cases q2:q.1.cps.toList<p.1.cps.toList
   ·exact q2
   ·exact absurd (List.le_antisymm (List.not_lt.mp q2) (List.not_lt.mp q1)) (WM e)
def rkS(ps:List Sk)(i:Nat):Nat:=((List.range ps.length).filter λj=>fZ (ps.getD j default) (ps.getD i default)).length
structure qW(ps:List Sk)(m:Nat):Prop where
 nd:ps.Nodup
 ln:∀ p∈ps,p.2.length=m
section
variable{ps:List Sk}{m:Nat}
theorem vU{i:Nat}(h:i<ps.length):ps.getD i default∈ps:=Zag (i:=i) (by rw[List.getD_eq_getElem?_getD,List.getElem?_eq_getElem h];rfl)
theorem qW.inj(o:qW ps m){i j:Nat}(hi:i<ps.length)(hj:j<ps.length)(e:ps.getD i default=ps.getD j default):i=j:=by
 have g:∀ i,i<ps.length->ps[i]?=some (ps.getD i default):=λi h=>by rw[List.getD_eq_getElem?_getD,List.getElem?_eq_getElem h];rfl
 exact(List.getElem?_inj hi o.nd).mp (by rw[g i hi,g j hj,e])
theorem Le{i j:Nat}(hi:i<ps.length)(h:fZ (ps.getD i default) (ps.getD j default)=true):rkS ps i<rkS ps j:=by
 unfold rkS;have sub:((List.range ps.length).filter λk=>fZ (ps.getD k default) (ps.getD i default)).Sublist ((List.range ps.length).filter λk=>fZ (ps.getD k default) (ps.getD j default)):=by
  have e:((List.range ps.length).filter λk=>fZ (ps.getD k default) (ps.getD i default))=((List.range ps.length).filter λk=>fZ (ps.getD k default) (ps.getD j default)).filter λk=>fZ (ps.getD k default) (ps.getD i default):=by
   rw[List.filter_filter];refine List.filter_congr λk _=>?_;cases q:fZ (ps.getD k default) (ps.getD i default) with
   |false=>rfl
   |true=>rw[J0 q h];rfl
  rw[e];exact ZbI
 refine Nat.lt_of_le_of_ne sub.length_le λe=>?_;have e:=sub.eq_of_length e;have:i∈(List.range ps.length).filter λk=>fZ (ps.getD k default) (ps.getD j default):=ZaB.mpr ⟨Zaz.mpr hi,h⟩;rw[<-e] at this;have:=(ZaB.mp this).2;rw[Hr] at this;cases this
theorem qW.lt(o:qW ps m){i j:Nat}(hi:i<ps.length)(hj:j<ps.length):fZ (ps.getD i default) (ps.getD j default)=decide (rkS ps i<rkS ps j):=by
 cases q:fZ (ps.getD i default) (ps.getD j default) with
 |true=>exact(Zax (Le hi q)).symm
 |false=>
  refine(Zaw λz=>?_).symm;by_cases e:ps.getD i default=ps.getD j default
  ·rw[o.inj hi hj e] at z;omega
  ·rcases yR (by rw[o.ln _ (vU hi),o.ln _ (vU hj)]) e with w|w
   ·rw[q] at w;cases w
   ·have:=Le hj w;omega
theorem qW.Yk(o:qW ps m){i j:Nat}(hi:i<ps.length)(hj:j<ps.length)(e:rkS ps i=rkS ps j):i=j:=by
 refine o.inj hi hj (Classical.byContradiction λne=>?_);rcases yR (by rw[o.ln _ (vU hi),o.ln _ (vU hj)]) ne with w|w
 ·have:=Le hi w;omega
 ·have:=Le hj w;omega
def gR(ps:List Sk):List Nat:=(List.range ps.length).mergeSort λi j=>decide (rkS ps i<=rkS ps j)
theorem nu(ps:List Sk):(gR ps).Perm (List.range ps.length):=List.mergeSort_perm _ _
theorem oF:∀ i∈gR ps,i<ps.length:=λi hi=>Zaz.mp ((nu ps).mem_iff.mp hi)
theorem QJ(ps:List Sk):(gR ps).length=ps.length:=by rw[(nu ps).length_eq,List.length_range]
theorem qW.ord(o:qW ps m):(gR ps).Pairwise λi j=>rkS ps i<rkS ps j:=by
 have h:=List.pairwise_mergeSort (le:=λi j=>decide (rkS ps i<=rkS ps j)) (λa b c h1 h2=>by simp at h1 h2 ⊢;lia) (λa b=>by simp;lia) (List.range ps.length)
 have nd:(gR ps).Nodup:=(nu ps).nodup_iff.mpr ZbV;refine(h.and nd).imp_of_mem λ{i j} hi hj q=>?_;have h1:rkS ps i<=rkS ps j:=by simpa using q.1
 exact Nat.lt_of_le_of_ne h1 λe=>q.2 (o.Yk (oF i hi) (oF j hj) e)
theorem qW.Um(o:qW ps m){l:List Nat}(p:l.Perm (List.range ps.length))(s:l.Pairwise λi j=>rkS ps i<rkS ps j):l=gR ps:=
 List.Perm.eq_of_pairwise (le:=λi j=>rkS ps i<rkS ps j) (λi j _ _ h1 h2=>by lia) s o.ord (p.trans (nu ps).symm)
end
open PySem PySem.Spec PySem.W PyProof PyProof.Rows
def pF(h:Heap)(v:Value)(p:Sk):Prop:=∃ a o t ys n,v=.ref a/\h.get? a=some o/\o.cls=.type "tuple"/\o.data=.seq (List.toArray (.str p.1 t::ys)) n/\IntsAre ys p.2
theorem Bv:∀ {ys:List Value}{ns ms:List Int},IntsAre ys ns->IntsAre ys ms->ns=ms
 |_,_,_,.nil,.nil=>rfl
 |_,_,_,.cons n _ h1,.cons _ _ h2=>by rw[Bv h1 h2]
section
variable{prog:Program}{w:World}{A:Around}{E:Value->Shared->Prop}{s:Shared}{v u:Value}{p q:Sk}
theorem pF.same{h h':Heap}(x:pF h v p)(k:∀ a o,v=.ref a->h.get? a=some o->h'.get? a=some o):pF h' v p:=by
 obtain⟨a,o,t,ys,n,e,h1,h2⟩:=x;exact⟨a,o,t,ys,n,e,k a o e h1,h2⟩
theorem pF.Um{h:Heap}(x:pF h v p)(y:pF h v q):p=q:=by
 obtain⟨a,o,t,ys,n,rfl,h1,_,h3,h4⟩:=x;obtain⟨a',o',t',ys',n',e,g1,_,g3,g4⟩:=y;cases e;rw[h1] at g1;cases g1;rw[h3] at g3;injection g3 with e1 _
 have e1:=Zbg Array.toList e1;simp only at e1;injection e1 with e2 e3
 injection e2 with e4 _
 subst e3;exact Prod.ext e4 (Bv h4 g4)
theorem Hs{Q:Bool->Shared->Prop}:∀ {ys zs:List Value}{ns ms:List Int} (i:Nat),IntsAre ys ns->IntsAre zs ms->ns.length=ms.length->Q (ltI ns ms) s->KatLex prog w A true false Q (ys.zip zs) (i+1) s
 |_,_,_,_,i,.nil,.nil,_,h=>kat_nil h
 |_,_,_,_,i,.cons n t h1,.cons m t' h2,hl,h=>by
  refine kat_cons (wpAny_eqBool_int ?_);by_cases d:n=m
  ·rw[beq_iff_eq.mpr d];refine kat_yes (Hs (i+1) h1 h2 (by simpa using hl) ?_)
   unfold ltI at h;rw[Zaf d] at h;exact h
  ·rw[beq_eq_false_iff_ne.mpr d];refine kat_no ?_;rw[show(true&&i+1==0)=false by simp]
   unfold ltI at h;rw[Zad d] at h;exact kat_one _ _ (lt_int h)
 |_,_,_,_,_,.nil,.cons ..,hl,_=>by simp at hl
 |_,_,_,_,_,.cons ..,.nil,hl,_=>by simp at hl
theorem yS:∀ {ys:List Value}{ns:List Int},IntsAre ys ns->ys.length=ns.length
 |_,_,.nil=>rfl
 |_,_,.cons _ _ h=>by simp[yS h]
theorem pF.lt(hp:pF s.heap v p)(hq:pF s.heap u q)(hl:p.2.length=q.2.length){Q:Bool->Shared->Prop}(h:Q (fZ p q) s):wpAny (model prog w) A (keyLt' (tuples' true) v u) Q E s:=by
 obtain⟨a,o,t,ys,n,rfl,e1,e2,e3,e4⟩:=hp;obtain⟨b,o',t',zs,n',rfl,f1,f2,f3,f4⟩:=hq;refine kat_lt e1 e3 f1 f3 (kat_cons (wpAny_eqBool_str ?_));rw[show decide ((List.toArray (Value.str p.1 t::ys)).size<(List.toArray (Value.str q.1 t'::zs)).size)=false by
  refine Zaw ?_;simp[yS e4,yS f4,hl]]
 by_cases c:p.1=q.1
 ·rw[Zax c];refine kat_yes (Hs 0 e4 f4 hl ?_);rw[show fZ p q=ltI p.2 q.2 by unfold fZ;rw[Zaf c]] at h
  exact h
 ·rw[Zaw c];refine kat_no ?_;show wpAny _ _ (oneLt' true _ _) _ _ _
  rw[show fZ p q=decide (p.1.cps.toList<q.1.cps.toList) by unfold fZ;rw[Zad c]] at h
  exact oneLt_str h
theorem QK{vs:List Value}{ps:List Sk}{m:Nat}(ok:qW ps m)(hl:vs.length=ps.length)(hp:∀ (i:Nat) v p,vs[i]?=some v->ps[i]?=some p->pF s.heap v p) :
  wpAny (model prog w) A (sortRuns'.run (SortSt.mk' (tuples' true) (vs.toArray.zip vs.toArray) #[] 7 none)) (λr s'=>s'=s/\failedOf r.2=none/\(arrOf r.2).map (·.2)=List.toArray ((gR ps).map λi=>vs.getD i .none)/\(arrOf r.2).size=vs.length) E s:=by
 have gv:∀ i,i<vs.length->vs[i]?=some (vs.getD i .none):=λi h=>by rw[List.getD_eq_getElem?_getD,List.getElem?_eq_getElem h];rfl
 have gp:∀ i,i<vs.length->ps[i]?=some (ps.getD i default):=λi h=>by rw[List.getD_eq_getElem?_getD,List.getElem?_eq_getElem (by lia)];rfl
 have at_:∀ i,i<vs.length->pF s.heap (vs.getD i .none) (ps.getD i default):=λi h=>hp i _ _ (gv i h) (gp i h);have inj:∀ i j,i<vs.length->j<vs.length->vs.getD i .none=vs.getD j .none->i=j:=λi j hi hj e=>ok.inj (by lia) (by lia) ((at_ i hi).Um (e▸at_ j hj))
 let ix:Keyed->Nat:=λx=>@dite _ (∃ i,i<vs.length/\vs.getD i .none=x.1) (Classical.propDecidable _) (λh=>Classical.choose h) λ_=>0
 have ixe:∀ i,i<vs.length->ix (vs.getD i .none,vs.getD i .none)=i:=λi hi=>by
  have hx:∃ j,j<vs.length/\vs.getD j .none=(vs.getD i .none,vs.getD i .none).1:=⟨i,hi,rfl⟩;show@dite _ _ (Classical.propDecidable _) _ _=i
  rw[@dif_pos _ (Classical.propDecidable _) hx];have:=Classical.choose_spec hx;exact inj _ i this.1 hi this.2
 have zl:(vs.toArray.zip vs.toArray).toList=(List.range vs.length).map λi=>(vs.getD i .none,vs.getD i .none):=by
  rw[Array.toList_zip];apply ZbB
  intro i;rw[List.getElem?_map];by_cases h:i<vs.length
  ·rw[Zbs h,show(vs.toArray.toList.zip vs.toArray.toList)[i]?=some (vs.getD i .none,vs.getD i .none) from List.getElem?_zip_eq_some.mpr ⟨by simpa using gv i h,by simpa using gv i h⟩];rfl
  ·rw[ZaN (by simp;lia),ZaN (by simp;lia)];rfl
 have mz:∀ x∈(vs.toArray.zip vs.toArray).toList,∃ i,i<vs.length/\x=(vs.getD i .none,vs.getD i .none):=λx hx=>by
  rw[zl] at hx;obtain⟨i,hi,e⟩:=Zai.mp hx;exact⟨i,Zaz.mp hi,e.symm⟩
 have hc:TS.Cmp prog w A s (tuples' true) (λx=>∃ i,i<vs.length/\x=(vs.getD i .none,vs.getD i .none)) (λx=>rkS ps (ix x)):=by
  rintro x y ⟨i,hi,rfl⟩ ⟨j,hj,rfl⟩ E Q q;have q:Q (decide (rkS ps (ix (vs.getD i .none,vs.getD i .none))<rkS ps (ix (vs.getD j .none,vs.getD j .none)))) s:=q;rw[ixe i hi,ixe j hj,<-ok.lt (by lia) (by lia)] at q
  exact pF.lt (at_ i hi) (at_ j hj) (by rw[ok.ln _ (vU (by lia)),ok.ln _ (vU (by lia))]) q
 have un:TS.Unl (λx=>rkS ps (ix x)) (vs.toArray.zip vs.toArray).toList:=by
  rw[zl];unfold TS.Unl;rw[ZaY];refine ZbV.imp_of_mem λ{i j} hi hj ne=>?_;show rkS ps (ix (vs.getD i .none,vs.getD i .none))≠rkS ps (ix (vs.getD j .none,vs.getD j .none))
  rw[ixe i (Zaz.mp hi),ixe j (Zaz.mp hj)];exact λe=>ne (ok.Yk (by have:=Zaz.mp hi;lia) (by have:=Zaz.mp hj;lia) e)
 have run:=TS.wpS_sortRuns (E:=E) (st:=SortSt.mk' (tuples' true) (vs.toArray.zip vs.toArray) #[] 7 none) hc rfl rfl rfl mz un (Q:=λ_ st'=>failedOf st'=none/\(arrOf st').map (·.2)=List.toArray ((gR ps).map λi=>vs.getD i .none)/\(arrOf st').size=vs.length) λst' pm ff ss=>?_
 ·exact run
 ·have pl:=Zbk.mp pm;have pl:(arrOf st').toList.Perm (vs.toArray.zip vs.toArray).toList:=pl;have back:(arrOf st').toList=((arrOf st').toList.map ix).map λi=>(vs.getD i .none,vs.getD i .none):=by
   rw[List.map_map];refine((Za0 λx hx=>?_).trans (List.map_id _)).symm;obtain⟨i,hi,rfl⟩:=mz x (pl.mem_iff.mp hx);show(vs.getD (ix _) .none,vs.getD (ix _) .none)=_
   rw[ixe i hi];rfl
  have ip:((arrOf st').toList.map ix).Perm (List.range ps.length):=by
   refine(pl.map ix).trans ?_;rw[zl,List.map_map,<-hl];exact List.Perm.of_eq ((Za0 λi hi=>ixe i (Zaz.mp hi)).trans (List.map_id _))
  have is:((arrOf st').toList.map ix).Pairwise λi j=>rkS ps i<rkS ps j:=by
   rw[ZaY];exact ss
  have eo:=ok.Um ip is;refine⟨ff,?_,?_⟩
  ·apply Array.toList_inj.mp
   rw[Array.toList_map,back,List.map_map,<-eo];rfl
  ·rw[<-ZaZ,pl.length_eq,zl,List.length_map,List.length_range]
theorem yU{h:Heap}:∀ {vs:List Value}{ps:List Sk},ps.length=vs.length->(∀ (i:Nat) v p,vs[i]?=some v->ps[i]?=some p->pF h v p)->∃ fs:List Value,KatTups h vs fs/\fs.length=vs.length/\∀ f∈fs,∃ x t,f=.str x t
 |[],_,_,_=>⟨[],.nil,rfl,λ_ h=>nomatch h⟩
 |v::vs,[],e,_=>by cases e
 |v::vs,p::ps,e,hp=>by
  obtain⟨a,o,t,ys,n,rfl,e1,e2,e3,_⟩:=hp 0 v p rfl rfl;obtain⟨fs,k,l,z⟩:=yU (vs:=vs) (ps:=ps) (by simpa using e) λi v p h1 h2=>hp (i+1) v p h1 h2
  refine⟨_,.cons e1 e2 e3 rfl k,by simp[l],λf hf=>?_⟩
  rcases ZaA.mp hf with y|y
  ·exact⟨_,_,y⟩
  ·exact z f y
theorem Nr{r:Nat->Nat->Prop}{n:Nat}(h:n<2):(List.range n).Pairwise r:=by
 rcases(by omega:n=0\/n=1) with rfl|rfl
 ·exact .nil
 ·exact List.pairwise_singleton _ _
theorem Uo{vs:List Value}(h:vs.length<2):((vs.toArray.zip vs.toArray).map (·.2)).toList=(List.range vs.length).map λi=>vs.getD i .none:=by
 cases vs with
 |nil=>simp
 |cons v l=>
  cases l with
  |nil=>simp[List.range_succ]
  |cons u l=>simp at h;omega
theorem uH{a:Addr}{vs:List Value}{ps:List Sk}{m:Nat}{n:Nat}{P:PySem.Fin->Shared->Prop}(ho:s.heap.get? a=some (seqObj "list" vs.toArray n))(hl:ps.length=vs.length)
  (hp:∀ (i:Nat) v p,vs[i]?=some v->ps[i]?=some p->pF s.heap v p)(ok:qW ps m)(hz64:vs.length<sizeLine)
  (h:(gR ps).length=vs.length->P (.done (.ret .none)) { s with heap:=sortedHeap s.heap a vs (List.toArray ((gR ps).map λi=>vs.getD i .none)) }):wpAny (model prog w) A (Builtin.«list.sort» ⟨[.ref a],[]⟩) P E s:=by
 rw[list_sort_plain];have ha:a<s.heap.objs.size:=Zao ho;obtain⟨c1,g1⟩:∃ c,(s.heap.update a (Obj.mapSeq λ_=>(#[]:Array Value))).get? a=some (seqObj "list" #[] c):=⟨_,get?_update_seq ho λ_=>#[]⟩;have old:∀ (b:Addr) (o:Obj),b≠a->s.heap.get? b=some o->(((s.heap.update a (Obj.mapSeq λ_=>(#[]:Array Value))).push (seqObj "tuple" vs.toArray 0)).push (seqObj "list" #[] 0)).get? b=some o:=λb o ne e=>
  Zah _ (Zah _ ((Heap.get?_update_ne _ _ _ _ ne).trans e))
 have g2:(((s.heap.update a (Obj.mapSeq λ_=>(#[]:Array Value))).push (seqObj "tuple" vs.toArray 0)).push (seqObj "list" #[] 0)).get? a=some (seqObj "list" #[] c1):=Zah _ (Zah _ g1);refine Zaa (listItems_at ho rfl (Zaa (listUpdate_at ho rfl ?_ (by rw[List.size_toArray];exact ZaO hz64) (Zba _))))
 refine Zaa (seqEpoch_at g1 rfl (Zaa (wpAny_newTuple (Zaa (wpAny_newList (Zbj ?_) (Zba _))) (by show vs.length<=_;exact ZaO hz64))))
 show wpAny (model prog w) A _ P E { s with heap:=((s.heap.update a (Obj.mapSeq λ_=>(#[]:Array Value))).push (seqObj "tuple" vs.toArray 0)).push (seqObj "list" #[] 0) }
 dsimp only;by_cases h2:vs.toArray.size<2
 ·rw[Zaf h2,Zaf h2];refine Zaa (Zae ?_);rw[StateT.run_pure];refine Zaa (Zae ?_);dsimp only;have eo:(arrOf (SortSt.mk' general' (vs.toArray.zip vs.toArray) #[] 7 none)).map (·.2)=List.toArray ((gR ps).map λi=>vs.getD i .none):=by
   show(vs.toArray.zip vs.toArray).map (·.2)=_
   apply Array.toList_inj.mp
   rw[List.size_toArray] at h2;have eo:gR ps=List.range vs.length:=by
    exact(ok.Um (by rw[hl]) (Nr h2)).symm
   rw[eo];exact Uo h2
  rw[eo];refine Zaa (seqEpoch_at g2 rfl (Zaa (listUpdate_at g2 rfl ?_ (Zba _) ?_)))
  ·simp only[bne_self_eq_false,Zbf,Zbh];rw[List.size_toArray] at h2;exact Zae (h (by rw[QJ,hl]))
  ·rw[List.size_toArray] at h2;rw[<-eo];refine ZaE (Nat.le_of_eq (Array.size_map ..)) ?_;show(vs.toArray.zip vs.toArray).size<=_
   rw[Array.size_zip,List.size_toArray,Nat.min_self];exact Nat.le_succ_of_le (ZaO hz64)
 ·rw[Zad h2,Zad h2];rw[List.size_toArray] at h2;have notA:∀ b o,(∃ v∈vs,v=.ref b)->s.heap.get? b=some o->b≠a:=by
   rintro b o ⟨v,hv,e⟩ hb z;obtain⟨i,hi⟩:=Zbl hv;have il:i<ps.length:=by rw[hl];exact(Zab.mp hi).1
   obtain⟨b',o',t,ys,n',e',f1,f2,_⟩:=hp i v _ hi (List.getElem?_eq_getElem il);rw[e] at e';cases e';rw[z,ho] at f1;cases f1;exact absurd (show Value.type "list"=Value.type "tuple" from f2) (by decide)
  have hp2:∀ (i:Nat) v p,vs[i]?=some v->ps[i]?=some p->pF (((s.heap.update a (Obj.mapSeq λ_=>(#[]:Array Value))).push (seqObj "tuple" vs.toArray 0)).push (seqObj "list" #[] 0)) v p:=λi v p h1 h2=>
   (hp i v p h1 h2).same λb o e1 e2=>old b o (notA b o ⟨v,Zag h1,e1⟩ e2) e2
  obtain⟨fs,k1,k2,k3⟩:=yU hl hp2;refine Zaa (kat_kind (s:={ s with heap:=_ }) (T:=.type "str") k1 (by omega) (λf hf=>?_) (by decide) ?_)
  ·obtain⟨x,t,rfl⟩:=k3 f hf;exact .now
  show wpAny _ _ _ _ _ _
  rw[show tuples' (Value.type "str" != Value.type "tuple")=tuples' true from rfl];have run:=QK (prog:=prog) (w:=w) (A:=A) (E:=E) (s:={ s with heap:=((s.heap.update a (Obj.mapSeq λ_=>(#[]:Array Value))).push (seqObj "tuple" vs.toArray 0)).push (seqObj "list" #[] 0) }) ok hl.symm hp2;refine Zaa (Zbx run ?_ λ_ _ e=>e);rintro⟨⟨⟩,st'⟩ s' ⟨rfl,hf,hm,hz⟩;dsimp only;rw[hm];refine Zaa (seqEpoch_at g2 rfl (Zaa (listUpdate_at g2 rfl ?_ (Zba _) ?_)))
  ·rw[hf];simp only[bne_self_eq_false,Zbf,Zbh];refine Zae (h ?_);have:=Zbg Array.size hm;rw[Array.size_map,hz,List.size_toArray,List.length_map] at this;exact this.symm
  ·rw[<-hm];refine ZaE (Nat.le_of_eq ((Array.size_map ..).trans hz)) (Nat.le_succ_of_le (ZaO hz64))
end
open PySem PySem.Spec PySem.W PyProof PyProof.Rows
def skV(p:Sk):HO:=.tup (.str p.1::p.2.map V.int)
def skK(p:Sk):List Key:=.inr p.1::p.2.map .inl
theorem Yl(p:Sk):HO.tup ((skK p).map kV)=skV p:=by unfold skK skV;simp[kV,Function.comp_def]
theorem Vr{h:Heap}{b:Addr}{ob:Obj}{its:List Value}{n:Nat}{p:Sk}(r:Vals (.str p.1::p.2.map V.int) its)(w1:h.get? b=some ob)(w2:ob.cls=.type "tuple")(w3:ob.data=.seq its.toArray n):pF h (.ref b) p:=by
 cases r with
 |cons r1 r2=>
  obtain⟨t1,rfl⟩:=r1;exact⟨b,ob,t1,_,n,rfl,w1,w2,w3,MP.Gw r2⟩
def Lf(K:Frag):List V->Hp->VK->Prop:=λxs H Q=>∃ (p:Addr) (bs:List Addr) (ps:List Sk) (m:Nat),xs=[.ref p]/\SqL K H p (bs.map V.ref)/\bs.length=ps.length/\(∀ (j:Nat) b p,bs[j]?=some b->ps[j]?=some p->H b=some (skV p))/\qW ps m/\ps.length<sizeLine /\
 ∀ l,H l=none->Q (.ref l) (upd H l (.lst ((gR ps).map λj=>.ref (bs.getD j 0))))
def wG:List Key->Option (List Int)
 |[]=>some []
 |.inl n::l=>(wG l).map (n::·)
 |_=>none
theorem Ht:∀ {l:List Key}{ns:List Int},wG l=some ns->l=ns.map .inl
 |[],ns,h=>by cases h;rfl
 |.inl n::l,ns,h=>by
  have h:(wG l).map (n::·)=some ns:=h;obtain⟨q,e1,rfl⟩:=ZbK.mp h;rw[Ht e1];rfl
def kSk:List Key->Option Sk
 |.inr x::l=>(wG l).map λns=>(x,ns)
 |_=>none
theorem WP:∀ {l:List Key}{p:Sk},kSk l=some p->l=skK p
 |.inr x::l,p,h=>by
  have h:(wG l).map (λns=>(x,ns))=some p:=h;obtain⟨q,e1,rfl⟩:=ZbK.mp h;rw[Ht e1];rfl
def Ac:List (List Key)->Option (List Sk)
 |[]=>some []
 |k::ks=>match kSk k,Ac ks with
  |some p,some ps=>some (p::ps)
  |_,_=>none
theorem Lg:∀ {ks:List (List Key)}{ps:List Sk},Ac ks=some ps->ps.length=ks.length/\∀ (i:Nat) p,ps[i]?=some p->ks[i]?=some (skK p)
 |[],ps,h=>by cases h;exact⟨rfl,λi p e=>by simp at e⟩
 |k::ks,ps,h=>by
  unfold Ac at h;split at h
  ·rename_i p qs h1 h2;cases h;obtain⟨g1,g2⟩:=Lg h2;refine⟨by simp[g1],λi q e=>?_⟩
   cases i with
   |zero=>cases e;rw[WP h1];rfl
   |succ i=>exact g2 i q (by simpa using e)
  ·cases h
def Lh:List V->Hp->VK->Prop:=λxs H Q=>∃ p kvs ps m,xs=[.ref p]/\Rd H p (.dT kvs)/\Ac (kvs.map (·.1))=some ps/\qW ps m/\ps.length<sizeLine/\∀ l (ad:Nat->Addr),H l=none->(∀ j∈gR ps,H (ad j)=some (skV (ps.getD j default)))->Q (.ref l) (upd H l (.lst ((gR ps).map λj=>.ref (ad j))))
section
variable{X:Cx}
theorem rB:qY X (.builtin "sorted") (Lf X.K):=by
 intro pins s σ H xs us Q I rv h;obtain⟨p,bs,ps,m,rfl,hq,hl,ht,ok,h64,q⟩:=h;obtain⟨u,rfl,ru⟩:=rv.one;cases ru;obtain⟨its,r,pl,hz⟩:=I.list hq;have ei:=Bm r;subst ei;have hlen:(bs.map Value.ref).length=ps.length:=by rw[List.length_map,hl]
 have prs:∀ (i:Nat) v p,(bs.map Value.ref)[i]?=some v->ps[i]?=some p->pF s.heap v p:=λi v p h1 h2=>by
  rw[List.getElem?_map] at h1;cases hb:bs[i]? with
  |none=>rw[hb] at h1;cases h1
  |some b=>
   rw[hb] at h1;cases h1;obtain⟨_,its,r,⟨ob,w1,w2,n,w3⟩,_⟩:=(show dW X.prog X.w H s.heap b (skV p) from I.hok b _ (ht i b p hb h2));exact Vr r w1 w2 w3
 refine Calls.call_function_entry kind_sorted plain_sorted entry_sorted (args_sorted1 _) ?_;unfold Builtin.«sorted»;refine Zaa (m:=checkCount "sorted" 1 1 _) (Zae ?_);refine Zaa (collect_list pl.isList ?_ (by rw[hlen];exact ZaO h64))
 refine Zaa (wpAny_newList ?_ (by rw[hlen];exact ZaO h64))
 have hsz:((s.heap.push (seqObj "list" #[] 0)).update s.heap.objs.size (Obj.mapSeq (·++(bs.map Value.ref).toArray))).objs.size=s.heap.objs.size+1:=by
  rw[Heap.size_update,size_push']
 have hoL:(((s.heap.push (seqObj "list" #[] 0)).update s.heap.objs.size (Obj.mapSeq (·++(bs.map Value.ref).toArray))).push (seqObj "list" (bs.map Value.ref).toArray 0)).get? (s.heap.objs.size+1)=some (seqObj "list" (bs.map Value.ref).toArray 0):=by
  rw[<-hsz];exact Zaq _ rfl
 have keep:∀ b o,s.heap.get? b=some o->(((s.heap.push (seqObj "list" #[] 0)).update s.heap.objs.size (Obj.mapSeq (·++(bs.map Value.ref).toArray))).push (seqObj "list" (bs.map Value.ref).toArray 0)).get? b=some o:=λb o q=>by
  have hlt:b<s.heap.objs.size:=Zao q;rw[Heap.get?_push_ne _ _ _ (by rw[hsz];exact ZaG (Nat.lt_succ_of_lt hlt)),Heap.get?_update_ne _ _ _ _ (ZaG hlt),Heap.get?_push_ne _ _ _ (ZaG hlt)]
  exact q
 show wpAny _ _ _ _ _ { s with heap:=((s.heap.push (seqObj "list" #[] 0)).update s.heap.objs.size (Obj.mapSeq (·++(bs.map Value.ref).toArray))).push (seqObj "list" (bs.map Value.ref).toArray 0) }
 rw[hsz];refine Zaa (Zbj (wpAny_call_entry slot_list_sort ⟨_,hoL,rfl⟩ entry_list_sort (uH (ps:=ps) hoL hlen.symm (λi v p h1 h2=>(prs i v p h1 h2).same λb o _ e=>keep b o e) ok (by rw[hlen];exact h64) λhn=>⟨_,rfl,?_⟩) (args_list_sort _)))
 refine Zae ⟨_,rfl,?_⟩;obtain⟨e',he⟩:=sortedAll_at s.heap (bs.map Value.ref) (List.toArray ((gR ps).map λi=>(bs.map Value.ref).getD i .none));have fresh:H (s.heap.objs.size+1)=none:=I.hok.fresh (Nat.le_succ _);refine⟨.ref (s.heap.objs.size+1),upd H (s.heap.objs.size+1) (.lst ((gR ps).map λj=>.ref (bs.getD j 0))),I.laid (t':=s.toks) (λb o=>sortedAll_old (vs:=bs.map Value.ref)) (Nat.le_succ _) ⟨?_,(gR ps).map λi=>(bs.map Value.ref).getD i .none,e',yI λj hj=>?_,he⟩,rfl,q _ fresh⟩
 ·rw[List.length_map,hn,hlen];exact ZaO h64
 ·have hj:j<bs.length:=by rw[hl];exact oF j hj
  rw[List.getD_eq_getElem?_getD (l:=bs.map Value.ref),List.getElem?_map,List.getD_eq_getElem?_getD (l:=bs),List.getElem?_eq_getElem hj];rfl
theorem Ad(hc:X.calm=true):qY X (.builtin "sorted") Lh:=by
 intro pins s σ H xs us Q I rv h;obtain⟨p,kvs,ps,m,rfl,e,hk,ok,h64,q⟩:=h;obtain⟨u,rfl,ru⟩:=rv.one;cases ru;obtain⟨z,hd,ts,rel,o,es,ep,d1,d2,d3,d4,d5,d6⟩:=wu I.hok e;obtain⟨lx,ax⟩:=rel.at;obtain⟨lp,ap⟩:=Lg hk;rw[List.length_map] at lp;have sz:es.size=ts.length:=by rw[<-ZaZ,d4,List.length_map]
 have at1:∀ j,j<ps.length->∃ b u,ts[j]?=some (skK (ps.getD j default),b,u)/\H b=some (skV (ps.getD j default))/\es[j]?=some (entryOfKey (tupleKind (dq X.prog X.w)) (skK (ps.getD j default),b,u)):=λj hj=>by
  have e1:ps[j]?=some (ps.getD j default):=by rw[List.getD_eq_getElem?_getD,List.getElem?_eq_getElem hj];rfl
  obtain⟨b,u,h1,h2⟩:=ax j _ (ap j _ e1);rw[Yl] at h2;refine⟨b,u,h1,h2,?_⟩;rw[<-ZaH,d4,List.getElem?_map,h1];rfl
 refine Calls.call_function_entry kind_sorted plain_sorted entry_sorted (args_sorted1 _) ?_;unfold Builtin.«sorted»;refine Zaa (m:=checkCount "sorted" 1 1 _) (Zae ?_);refine Zaa (PySem.W.kdu_collect (T4 (es:=es) (ep:=ep) hd) (I.ok.hd hc) ⟨o,d1,d2,d3⟩ (by lia) λh' tk acc hold hacc=>?_)
 have hla:acc.toList.length=ps.length:=by rw[ZaZ,hacc.1];lia
 have acc_at:∀ (j:Nat) b,(∃ u,ts[j]?=some (skK (ps.getD j default),b,u))->acc.toList[j]?=some (.ref b):=λj b ⟨u,hu⟩=>by
  have hj:j<acc.toList.length:=by rw[hla];have:=(Zab.mp hu).1;lia
  obtain⟨x,y1,y2⟩:=hacc.2 j _ (by rw[<-ZaH];exact List.getElem?_eq_getElem hj)
  rw[<-ZaH,d4,List.getElem?_map,hu] at y1;cases y1;rw[List.getElem?_eq_getElem hj,y2];rfl
 have I1:Inv X pins σ H { s with heap:=h',toks:=tk }:=I.kept hold;have prs:∀ (i:Nat) v p,acc.toList[i]?=some v->ps[i]?=some p->pF h' v p:=λi v p h1 h2=>by
  have hi:i<ps.length:=(Zab.mp h2).1;have ep':ps.getD i default=p:=by rw[List.getD_eq_getElem?_getD,h2];rfl
  obtain⟨b,u,y1,y2,_⟩:=at1 i hi;rw[acc_at i b ⟨u,y1⟩] at h1;cases h1;rw[ep'] at y2;obtain⟨_,its,r,⟨ob,w1,w2,n,w3⟩,_⟩:=(show dW X.prog X.w H h' b (skV p) from I1.hok b _ y2);exact Vr r w1 w2 w3
 refine Zaa (wpAny_newList ?_ (by rw[hla];exact ZaO h64))
 have hoL:(h'.push (seqObj "list" acc.toList.toArray 0)).get? h'.objs.size=some (seqObj "list" acc.toList.toArray 0):=Zaq _ rfl;show wpAny _ _ _ _ _ { s with heap:=h'.push (seqObj "list" acc.toList.toArray 0),toks:=tk }
 refine Zaa (Zbj (wpAny_call_entry slot_list_sort ⟨_,hoL,rfl⟩ entry_list_sort (uH (ps:=ps) hoL hla.symm (λi v p h1 h2=>(prs i v p h1 h2).same λb o _ e=>Zah _ e) ok (by rw[hla];exact h64) λhn=>⟨_,rfl,?_⟩) (args_list_sort _)))
 refine Zae ⟨_,rfl,?_⟩;obtain⟨e',he⟩:=sortedHeap_at (out:=List.toArray ((gR ps).map λi=>acc.toList.getD i .none)) hoL;have fresh:H h'.objs.size=none:=I1.hok.fresh (Zak _);have ads:∀ j∈gR ps,∃ b u,ts[j]?=some (skK (ps.getD j default),b,u)/\H b=some (skV (ps.getD j default)):=λj hj=>by
  obtain⟨b,u,y1,y2,_⟩:=at1 j (oF j hj);exact⟨b,u,y1,y2⟩
 refine⟨.ref h'.objs.size,upd H h'.objs.size (.lst ((gR ps).map λj=>.ref (ts.getD j ([],0,.none)).2.1)),I1.laid (t':=tk) (λb o=>Dz) (Zak _) ⟨?_,(gR ps).map λi=>acc.toList.getD i .none,e',yI λj hj=>?_,he⟩,rfl,q _ (λj=>(ts.getD j ([],0,.none)).2.1) fresh λj hj=>?_⟩
 ·rw[List.length_map,hn,hla];exact ZaO h64
 ·obtain⟨b,u,y1,y2⟩:=ads j hj;rw[List.getD_eq_getElem?_getD (l:=ts),y1,List.getD_eq_getElem?_getD (l:=acc.toList),acc_at j b ⟨u,y1⟩];rfl
 ·obtain⟨b,u,y1,y2⟩:=ads j hj;rw[List.getD_eq_getElem?_getD (l:=ts),y1];exact y2
end
end L2
namespace L2.MP
open PySem PySem.Spec PySem.W PyProof PyProof.Rows
def skP(p:Sk):PV:=.tup (.str p.1::p.2.map PV.int)
def WQ:PV->Option Sk
 |.tup (.str x::l)=>(pU l).map λns=>(x,ns)
 |_=>none
theorem oG{l:List PV}:∀ {ns:List Int},pU l=some ns->l=ns.map PV.int:=by
 induction l with
 |nil=>intro ns h;cases h;rfl
 |cons a l ih=>
  intro ns h;have inv:∃ n,a=.int n:=by
   clear ih
   cases a<;>first|exact noS h|exact⟨_,rfl⟩
  obtain⟨n,rfl⟩:=inv;have h:(pU l).map (n::·)=some ns:=h;obtain⟨q,e1,rfl⟩:=ZbK.mp h;rw[ih e1];rfl
theorem Uq{p:PV}{q:Sk}(h:WQ p=some q):p=skP q:=by
 have inv:∃ x l,p=.tup (.str x::l):=by
  cases p<;>first|exact noS h|(rename_i l;cases l<;>first|exact noS h|(rename_i a l;cases a<;>first|exact noS h|exact⟨_,_,rfl⟩))
 obtain⟨x,l,rfl⟩:=inv;have h:(pU l).map (λns=>(x,ns))=some q:=h;obtain⟨ns,e1,rfl⟩:=ZbK.mp h;rw[oG e1];rfl
def yV:List PV->Option (List Sk)
 |[]=>some []
 |p::l=>match WQ p,yV l with
  |some q,some qs=>some (q::qs)
  |_,_=>none
theorem Hu:∀ {l:List PV}{ps:List Sk},yV l=some ps->l=ps.map skP
 |[],ps,h=>by cases h;rfl
 |p::l,ps,h=>by
  unfold yV at h;split at h
  ·rename_i q qs h1 h2;cases h;rw[Uq h1,Hu h2];rfl
  ·cases h
def lZ(ps:List Sk):Bool:=match ps with
 |[]=>true
 |p::l=>l.all λq=>q.2.length==p.2.length
theorem yW{ps:List Sk}(h:lZ ps=true)(nd:ps.Nodup):∃ m,qW ps m:=by
 cases ps with
 |nil=>exact⟨0,nd,λp hp=>(nomatch hp)⟩
 |cons p l=>
  refine⟨p.2.length,nd,λq hq=>?_⟩;rcases ZaA.mp hq with e|e
  ·rw[e]
  ·exact beq_iff_eq.mp (ZaQ.mp h q e)
def qQ(l:List PV):Option (Res PV):=match yV l with
 |some ps=>if ps.Nodup/\lZ ps=true/\ps.length<sizeLine then some (.ok (.lst ((gR ps).map λj=>skP (ps.getD j default)))) else none
 |none=>none
def yX:PV->Option (Res PV)
 |.dt l=>match Ac (l.map (·.1)) with
  |some ps=>if ps.Nodup/\lZ ps=true/\ps.length<sizeLine then some (.ok (.lst ((gR ps).map λj=>skP (ps.getD j default)))) else none
  |none=>none
 |_=>none
section
variable{K:Frag}{C:Cg}
theorem Bw{F:Hp}:∀ {ns:List Int}{xs:List V},bK K F xs (ns.map PV.int)->xs=ns.map V.int
 |[],xs,r=>r.ji
 |n::ns,xs,r=>by
  obtain⟨v,ys,rfl,r1,r2⟩:=bK.dJ (show bK K F xs (PV.int n::ns.map PV.int) from r);cases Rep.bD r1;rw[Bw r2];rfl
theorem WR{F:Hp}{v:V}{p:Sk}(r:Rep K F v (skP p)):∃ b,v=.ref b/\F b=some (skV p):=by
 obtain⟨b,zs,rfl,hb,rr⟩:=Rep.ue (show Rep K F v (.tup (.str p.1::p.2.map PV.int)) from r);obtain⟨v1,ys1,rfl,s1,s2⟩:=rr.dJ;cases Rep.b8 s1;rw[Bw s2] at hb;exact⟨b,rfl,hb⟩
theorem QL{F:Hp}{b:Addr}{p:Sk}(h:F b=some (skV p)):Rep K F (.ref b) (skP p):=by
 refine .tup h (by simp) λj x q e1 e2=>?_
 cases j with
 |zero=>cases e1;cases e2;exact .str
 |succ j=>
  rw[List.getElem?_cons_succ,List.getElem?_map] at e1 e2;cases ej:p.2[j]? with
  |none=>rw[ej] at e1;cases e1
  |some n=>rw[ej] at e1 e2;cases e1;cases e2;exact .int
theorem Hv{F:Hp}:∀ {ps:List Sk}{xs:List V},bK K F xs (ps.map skP)->∃ bs:List Addr,xs=bs.map V.ref/\bs.length=ps.length/\∀ (j:Nat) b p,bs[j]?=some b->ps[j]?=some p->F b=some (skV p)
 |[],xs,r=>⟨[],r.ji,rfl,λj b p e=>by simp at e⟩
 |p::ps,xs,r=>by
  obtain⟨v,ys,rfl,r1,r2⟩:=bK.dJ (show bK K F xs (skP p::ps.map skP) from r);obtain⟨bs,rfl,h2,h3⟩:=Hv r2;obtain⟨b,rfl,hb⟩:=WR r1;refine⟨b::bs,rfl,by simp[h2],λj b' p' e2 e3=>?_⟩
  cases j with
  |zero=>cases e2;cases e3;exact hb
  |succ j=>exact h3 j b' p' (by simpa using e2) (by simpa using e3)
theorem Li:R1O K C (aV K) (Lf K) qQ:=by
 intro F H x a res Q s ha e P;unfold qQ at e;cases h:yV a with
 |none=>rw[h] at e;cases e
 |some ps=>
  rw[h] at e;have e:(if ps.Nodup/\lZ ps=true/\ps.length<sizeLine then some (Res.ok (PV.lst ((gR ps).map λj=>skP (ps.getD j default)))) else none)=some res:=e;split at e
  ·rename_i hc;cases e;obtain⟨m,ok⟩:=yW hc.2.1 hc.1;obtain⟨b,xs,rfl,h1,r1⟩:=ha;rw[Hu h] at r1;obtain⟨bs,rfl,k1,k2⟩:=Hv r1;refine⟨b,bs,ps,m,rfl,h1,k1,λj b p e1 e2=>s _ _ (k2 j b p e1 e2),ok,hc.2.2,λl hl=>P l F _ (Up.JB s hl) hl (s.free hl) ⟨_,aN,by simp,λj x p e1 e2=>?_⟩⟩
   rw[List.getElem?_map] at e1 e2;cases ej:(gR ps)[j]? with
   |none=>rw[ej] at e1;cases e1
   |some i=>
    rw[ej] at e1 e2;cases e1;cases e2;have hi:=oF i (Zag ej);have g1:bs[i]?=some (bs.getD i 0):=by rw[List.getD_eq_getElem?_getD,List.getElem?_eq_getElem (by omega)];rfl
    have g2:ps[i]?=some (ps.getD i default):=by rw[List.getD_eq_getElem?_getD,List.getElem?_eq_getElem hi];rfl
    exact QL (k2 i _ _ g1 g2)
  ·cases e
theorem QM:R1O K C (aD K) Lh yX:=by
 intro F H x a res Q s ha e P
 match a,e with
 |.dt l,e=>
  obtain⟨_,ad,rfl,xs,h1,h2,h3⟩:=ha;replace e:(match Ac (l.map (·.1)) with
   |some ps=>if ps.Nodup/\lZ ps=true/\ps.length<sizeLine then some (Res.ok (PV.lst ((gR ps).map λj=>skP (ps.getD j default)))) else none
   |none=>none)=some res:=e
  cases h:Ac (l.map (·.1)) with
  |none=>rw[h] at e;cases e
  |some ps=>
   rw[h] at e;have e:(if ps.Nodup/\lZ ps=true/\ps.length<sizeLine then some (Res.ok (PV.lst ((gR ps).map λj=>skP (ps.getD j default)))) else none)=some res:=e;split at e
   ·rename_i hc;cases e;obtain⟨m,ok⟩:=yW hc.2.1 hc.1;refine⟨ad,xs,ps,m,rfl,h1,by rw[h2];exact h,ok,hc.2.2,λl' bs hl hb=>P l' _ _ (Up.tups s hl) hl ?_ ⟨_,aN,by simp,λj x p e1 e2=>?_⟩⟩
    ·rw[fL]
     ·exact s.free hl
     ·rintro(z|⟨ys,z⟩)
      ·exact z
      ·rw[hl] at z;cases z
    ·rw[List.getElem?_map] at e1 e2;cases ej:(gR ps)[j]? with
     |none=>rw[ej] at e1;cases e1
     |some i=>
      rw[ej] at e1 e2;cases e1;cases e2;have:=hb i (Zag ej);exact QL (by rw[gH (.inr ⟨_,this⟩)];exact this)
   ·cases e
end
end L2.MP
namespace L2
open PySem PySem.Spec PyProof PyProof.Rows
def Itk(a:Addr)(raw:Obj)(kvs:List (List Key×V)):It:=
 ⟨λi H=>H a=some (.frz raw (.dT kvs))/\i<kvs.length,λi H x H'=>H'=H/\∃ kv b,kvs[i]?=some kv/\x=.ref b/\H b=some (.tup (kv.1.map kV)),λi H=>H a=some (.frz raw (.dT kvs))/\i=kvs.length⟩
theorem kt_at{H:Hp}{kvs:List (List Key×V)}{xs:List (List Key×Addr×Value)}(rel:Paired (λ(p:List Key×V) (q:List Key×Addr×Value)=>p.1=q.1/\H q.2.1=some (.tup (p.1.map kV))/\RelV p.2 q.2.2) kvs xs) :
  xs.length=kvs.length/\∀ (i:Nat) kv,kvs[i]?=some kv->∃ z,xs[i]?=some z/\kv.1=z.1/\H z.2.1=some (.tup (kv.1.map kV))/\RelV kv.2 z.2.2:=by
 induction rel with
 |nil=>exact⟨rfl,λi kv q=>by simp at q⟩
 |@cons p z ps zs hp _ ih=>
  refine⟨by simp[ih.1],λi kv q=>?_⟩
  cases i with
  |zero=>simp at q;subst q;exact⟨z,rfl,hp⟩
  |succ i=>exact ih.2 i kv (by simpa using q)
theorem nA{P:Program}{w:World}{H:Hp}{h:Heap}{a:Addr}{raw:Obj}{kvs:List (List Key×V)}(ok:HOk P w H h)(e:H a=some (.frz raw (.dT kvs))){es:Array DictEntry}{ep:Nat}(hd:raw.data=.dict es ep) :
  (a==sysModules)=false/\qU h a es ep/\es.size=kvs.length/\∀ (i:Nat) kv,kvs[i]?=some kv->∃ (b:Addr) (u:Value) (x:DictEntry),es[i]?=some x/\x.key=.ref b/\x.val=u/\H b=some (.tup (kv.1.map kV))/\RelV kv.2 u:=by
 obtain⟨hr,_,hs,xs,rel,o,es',ep',h1,h2,h3,h4,h5⟩:=(show dW P w H h a (.frz raw (.dT kvs)) from ok a _ e);rw[hr] at h1;cases h1;rw[hd] at h3;cases h3;obtain⟨ln,at_⟩:=kt_at rel;refine⟨hs,⟨raw,hr,h2,hd⟩,by rw[<-ZaZ,h4,List.length_map,ln],λi kv q=>?_⟩
 obtain⟨z,e1,e2⟩:=at_ i kv q;refine⟨z.2.1,z.2.2,entryOfKey (tupleKind (dq P w)) z,?_,rfl,rfl,e2.2.1,e2.2.2⟩;rw[<-ZaH,h4,List.getElem?_map,e1];rfl
theorem Lj{X:Cx}{H:Hp}{h:Heap}{a:Addr}{raw:Obj}{kvs:List (List Key×V)}(ok:HOk X.prog X.w H h)(e:H a=some (.frz raw (.dT kvs))):∃ es ep,raw.data=.dict es ep:=by
 obtain⟨hr,_,hs,xs,rel,o,es',ep',h1,h2,h3,h4⟩:=(show dW X.prog X.w H h a (.frz raw (.dT kvs)) from ok a _ e);rw[hr] at h1;cases h1;exact⟨_,_,h3⟩
theorem J1{P:Program}{w:World}{K:Frag}{tg:Expr}(a it:Addr)(raw:Obj)(kvs:List (List Key×V)){es:Array DictEntry}{ep:Nat}(hd:raw.data=.dict es ep) :
  Turn P w K tg (Itk a raw kvs) [it] it (λi h=>h.IsKeyIter it a i kvs.length ep) where
 mem:=by simp
 obj:=λi h st b hb=>by
  have e:b=it:=by simpa using hb
  subst e;obtain⟨o,e,c,d⟩:=st;exact⟨o,e,λv z=>by rw[d] at z;cases z⟩
 keep:=λi h h' st k=>st.at λo q=>k it (by simp) o q
 item:=by
  intro X hP hw hK hc i pins s σ H E I hf st hg;subst hP hw hK;obtain⟨e,hi⟩:=hg;obtain⟨f0,f1,f2,f3,f4,f5⟩:=hf it (by simp)
  obtain⟨_,rd,hl,at_⟩:=nA I.hok e hd;have hne:a≠it:=λz=>by subst z;rw[e] at f0;cases f0
  have W:=vP (prog:=X.prog) (w:=X.w) (A:=X.A) (I.ok.hd hc) it a hne es ep;refine W.item i s _ _ (by lia) ⟨by rw[hl];exact st,rd⟩ λv h' tk hv st' kk=>?_
  obtain⟨x,hx,rfl⟩:=hv;have I1:Inv X pins σ H { s with heap:=h',toks:=tk }:=I.turned (λb o hb e=>kk b o (by simpa using hb) e) f0 f1 f3 f4 f5
  obtain⟨o,eo,cc,dd'⟩:=id st'.1;obtain⟨p,hp⟩:∃ p,kvs[i]?=some p:=⟨_,List.getElem?_eq_getElem hi⟩;obtain⟨b,u,y,y1,y2,y3,y4,y5⟩:=at_ i p hp;rw[hx] at y1;cases y1;refine⟨_,rfl,Fy (s:={ s with heap:=h',toks:=tk }) eo cc dd' (by decide) ⟨.ref b,H,I1,y2,⟨rfl,p,b,hp,rfl,y4⟩,by rw[<-hl];exact st'.1,λb hb=>(hf b hb).1⟩⟩
 done:=by
  intro X hP hw hK hc i pins s σ H E I hf st hg;subst hP hw hK;obtain⟨e,hi⟩:=hg;obtain⟨f0,f1,f2,f3,f4,f5⟩:=hf it (by simp)
  obtain⟨_,rd,hl,at_⟩:=nA I.hok e hd;have hne:a≠it:=λz=>by subst z;rw[e] at f0;cases f0
  have W:=vP (prog:=X.prog) (w:=X.w) (A:=X.A) (I.ok.hd hc) it a hne es ep;subst hi;refine W.done s _ _ ⟨by rw[hl];exact st,rd⟩ λh' tk kk=>⟨rfl,I.turned (λb o hb e=>kk b o (by simpa using hb) e) f0 f1 f3 f4 f5⟩
 self:=λA i s Q E st h=>wpAny_pyIter_keyiter st h
def QQ(tl:TE):TI:=λσ H R=>tl σ H λx H1=>∃ a raw kvs,x=.ref a/\H1 a=some (.frz raw (.dT kvs))/\R (Itk a raw kvs) H1
theorem yZ{X:Cx}{tg l:Expr}{tl:TE}(hl:PE X l tl):PI X tg l (QQ tl):=by
 intro pins s σ H R I h;refine thn (hl pins s σ H _ I h) ?_;rintro v s1 ⟨x,H1,I1,r1,q1⟩;obtain⟨a,raw,kvs,e,ha,q⟩:=q1;subst e;cases r1;obtain⟨es,ep,hd⟩:=Lj I1.hok ha;obtain⟨hs,rd,hl,at_⟩:=nA I1.hok ha hd;refine Ha hs rd ?_;refine⟨s1.heap.objs.size,[s1.heap.objs.size],_,_,H1,rfl,I1.kept (t':=s1.toks) λb o e=>Zah _ e,J1 a _ raw kvs hd,⟨_,Zaq _ rfl,rfl,by rw[hl];rfl⟩,λb hb=>?_,q⟩
 have e:b=s1.heap.objs.size:=by simpa using hb
 subst e;exact I1.Fx (Zak _) (I1.hok.fresh (Zak _))
namespace MP
def rC(k:List Key):PV:=.tup (k.map Ye)
def sS(l:List (List Key×PV)):List PV:=l.map λkv=>rC kv.1
def uI:PV->Option (Res (List PV))
 |.dt l=>some (.ok (sS l))
 |_=>none
section
variable{K:Frag}{C:Cg}
theorem Up.Vs{F H:Hp}(s:aU F H):Up F H (uy F H λ_=>False) H:=by
 refine⟨g8 s,aU.refl _,λb o q=>?_,pX s⟩;by_cases hb:False\/∃ ys,H b=some (.tup ys)
 ·rw[gH hb] at q;obtain⟨ys,z⟩:=hb.resolve_left id;rw[z] at q;cases q;exact .inr (.inr ⟨ys,rfl⟩)
 ·rw[fL hb] at q;exact .inl q
theorem Hw{F H:Hp}{b:Addr}{k:List Key}(h:H b=some (.tup (k.map kV))):Rep K (uy F H λ_=>False) (.ref b) (rC k):=by
 refine .tup (by rw[gH (.inr ⟨_,h⟩)];exact h) (by simp) λn y r c1 c2=>?_
 rw[List.getElem?_map] at c1 c2;cases e:k[n]? with
 |none=>rw[e] at c1;cases c1
 |some z=>rw[e] at c1 c2;cases c1;cases c2;exact TX
theorem vV(i:Nat):TV K C i (QQ (m5 i)) (m1 uI (mV i)):=by
 intro F H σ ρ R' r R hh e P;rcases bM e with⟨z,e1,rfl⟩|⟨p,e1,hk⟩
 ·unfold mV at e1;split at e1
  ·cases e1
  ·cases e1
 obtain⟨a,raw,u,ev,fa,hu⟩:=hh;have hp:ρ[i]?=some (some (.sh p)):=by
  unfold mV at e1;split at e1
  ·rename_i q hq;cases e1;exact hq
  ·cases e1
 match p,hk with
 |.dt l,hk=>
  cases hk;obtain⟨v,ev',rv⟩:=R.sh i _ hp;rw[ev] at ev';cases ev';cases rv with
  |@dt _ xs _ h hl hr=>
   have hx:u=.dT xs:=by
    rcases h with h|⟨o,h⟩
    ·rw[fa] at h;cases h
    ·rw[fa] at h;cases h;rfl
   subst hx;have len:xs.length=l.length:=by have:=Zbg List.length hl;simpa using this
   refine⟨_,ev,a,raw,xs,rfl,R.rb.sub _ _ fa,P _ F H (Up.refl R.rb.sub) ⟨λF' H' s s'=>?_,λj F' H' hj s s'=>?_,λj F' H' x H'' hj s s' y=>?_⟩⟩
   ·exact⟨s' _ _ (s _ _ fa),by unfold sS;rw[List.length_map];exact len.symm⟩
   ·refine⟨s' _ _ (s _ _ fa),?_⟩;unfold sS at hj;rw[List.length_map] at hj;lia
   ·obtain⟨rfl,kv,b,hkv,rfl,hb⟩:=y;have hl2:(l.map (·.1))[j]?=some kv.1:=by rw[<-hl,List.getElem?_map,hkv];rfl
    refine⟨uy F' H'' λ_=>False,rC kv.1,Up.Vs s',?_,Hw hb⟩;unfold sS;rw[List.getElem?_map] at hl2 ⊢;cases q:l[j]? with
    |none=>rw[q] at hl2;cases hl2
    |some w=>
     rw[q] at hl2;show some (rC w.1)=some (rC kv.1)
     rw[show w.1=kv.1 from Zac hl2]
end
end MP
section
variable{prog:Program}{w:World}{A:Around}{E:Value->Shared->Prop}{s:Shared}{d it:Addr}{es:Array DictEntry}{ep i:Nat}
theorem Nt(hd:(d==sysModules)=false):MeetsIn prog w (Builtin.«dict.items» ⟨[.ref d],[]⟩) (λ_ R s=>s.TypeIs (.ref d) "dict"/\R (.ok (.ret (.ref s.heap.objs.size))) { s with heap:=s.heap.push { cls:=.type "dict_items",data:=.fields #[.ref d] } }):=
 .of_wp λA R s ⟨ty,h⟩=>by
  unfold Builtin.«dict.items»;refine Zaa ?_;unfold Builtin.Dict.noArgs;refine Zaa (wpAny_notOrdered_dict ty (Zae ?_));show wpAny _ _ (Builtin.Dict.showsAll d>>=_) _ _ s
  unfold Builtin.Dict.showsAll;rw[Zad (by rw[hd];exact Zbt)]
  exact Zaa (Zae (Zaa (Za3 (Zae ⟨_,rfl,h⟩))))
theorem Nu{v:Addr}{Q:Value->Shared->Prop}(hv:s.heap.IsItemsView v d)(r:qU s.heap d es ep)
  (q:Q (.ref s.heap.objs.size) { s with heap:=s.heap.push { cls:=.type "dict_itemiterator",data:=.fields #[.none,.bool false,.ref d,.int 0 0,.int es.size 0,.int ep 0,.none,.none] } }):wpAny (model prog w) A (pyIter (.ref v)) Q E s:=by
 obtain⟨ov,v1,v2,v3⟩:=id hv;obtain⟨o,e1,e2,e3⟩:=id r;refine wpAny_pyIter_slot hv.typeIs PySem.F.slot_dict_items_iter (wpAny_call_entry PySem.F.slot_dict_items_iter hv.typeIs PySem.F.entry_dict_items_iter ?_ (PySem.F.args_dict_items_iter_1 _));unfold Builtin.«dict_items.__iter__»;refine Zaa (Zae (Zaa ?_));unfold Builtin.Dict_items.dictOf;refine Zaa (wpAny_field v1 v3 (x:=.ref d) rfl (Zae (Zaa ?_)));unfold Builtin.Dict_items.newIterator;refine Zaa (wpAny_dictEntries e1 e3 (Zaa (wpAny_dictEpoch e1 e3 ?_)));simp only[show Builtin.Dict_items.ownsTuple "dict_itemiterator"=true by decide,ZbJ]
 refine Za3 (Zae ⟨_,rfl,"dict_itemiterator",_,⟨_,Zaq _ rfl,rfl⟩,Zbb.lookup,?_⟩)
  (by simp only[sizeOk,Builtin.Dict_items.ownedTupleFields,List.size_toArray,List.length_append,ZaF,ZbE,sizeLine_eq];omega)
 simpa[rawInt,Builtin.Dict_items.ownedTupleFields] using q
theorem Nv{x:DictEntry}{ok ov:Value}{Q:Option Value->Shared->Prop}(hit:IsItemIter s.heap it d i es.size ep ok ov)(r:qU s.heap d es ep)(hx:es[i]?=some x)
  (q:∀ h',IsItemIterOut h' it d (i+1) es.size ep x.key x.val s.heap.objs.size->h'.get? s.heap.objs.size=some { cls:=.type "tuple",data:=.seq #[x.key,x.val] } ->
   (∀ b o,b≠it->s.heap.get? b=some o->h'.get? b=some o)->Q (some (.ref s.heap.objs.size)) { s with heap:=h' }):wpAny (model prog w) A (pyNext (.ref it)) Q E s:=by
 obtain⟨hp,g,dr,tk,os⟩:=s;obtain⟨o,e1,e2,e3⟩:=id r;have lt:i<es.size:=by
  rcases Nat.lt_or_ge i es.size with z|z
  ·exact z
  ·rw[ZbW z] at hx;cases hx
 have ex:es[i]=x:=by rw[ZaD lt] at hx;exact Zac hx
 have hT:Shared.TypeIs ⟨hp,g,dr,tk,os⟩ (.ref it) "dict_itemiterator":=⟨_,hit,rfl⟩;unfold pyNext;refine Zaa (wpAny_attempt (wpAny_callSpecial?_slot (name:=Str.ofString "__next__") hT Zbb (wpAny_call_entry Zbb hT PySem.F.entry_dict_itemiterator_next ?_ (PySem.F.args_dict_itemiterator_next_1 _))));refine Zaa (Zae (Zaa (Zaa ?_)))
 first
  |refine Zaa (wpAny_typeNameOfWhole_itemiter hT (Zae ?_))
  |refine Zaa (wpAny_typeNameOf_itemiter hT (Zae ?_))
 refine Zaa (wpAny_fieldsOf hit rfl ?_);simp only[show Builtin.Dict_items.ownsTuple "dict_itemiterator"=true by decide,ZbJ]
 show wpAny _ _ (if(Value.ref d==.none)=true then _ else _) _ _ _
 rw[Zad (show ¬(Value.ref d==.none)=true from Zbt)];refine Zaa (Zae (Zaa (wpAny_dictEntries e1 e3 ?_)));rw[Zad (by simp)]
 refine Zaa (Zae (Zaa (wpAny_dictEpoch e1 e3 ?_)));rw[Zad (by simp)]
 refine Zae ?_;simp only[show ¬((i:Int)<0) by omega,Zbh,ZaP,ZaD lt]
 refine Zaa ?_
 first
  |refine Zaa (wpAny_typeNameOfWhole_itemiter hT (Zae ?_))
  |refine Zaa (wpAny_typeNameOf_itemiter hT (Zae ?_))
 refine Zaa (wpAny_isOneOf_itemiter hT ?_);show wpAny _ _ (setField (.ref it) 3 (rawInt ((i:Int)+1))>>=_) _ _ ⟨hp,g,dr,tk,os⟩
 refine Zaa (wpAny_setField_rec hit (by simp) λh1 f1 s1=>?_)
 replace s1:Heap.SameBut it hp h1:=s1;replace f1:IsItemIter h1 it d (i+1) es.size ep ok ov:=by
  have e:((i+1:Nat):Int)=(i:Int)+1:=by omega
  unfold IsItemIter;rw[e];simpa[rawInt] using f1
 have hT1:Shared.TypeIs ⟨h1,g,dr,tk,os⟩ (.ref it) "dict_itemiterator":=⟨_,f1,rfl⟩;refine Zaa (Zbj (Zaa (wpAny_isOneOf_itemiter hT1 (Zaa (wpAny_isOneOf_itemiter hT1 ?_)))));show wpAny _ _ (Builtin.Dict_items.pairFromOwner (.ref it) 6 es[i].key es[i].val) _ _ ⟨h1,g,dr,tk,os⟩
 rw[ex];unfold Builtin.Dict_items.pairFromOwner;refine Zaa (wpAny_newTuple ?_);have z1:h1.objs.size=hp.objs.size:=s1.1;have il:it<hp.objs.size:=Zao hit;have f2:IsItemIter (h1.push { cls:=.type "tuple",data:=.seq #[x.key,x.val] }) it d (i+1) es.size ep ok ov:=Zah _ f1;generalize hh:h1.push { cls:=.type "tuple",data:=.seq #[x.key,x.val] }=h2 at f2
 have t2:h2.get? hp.objs.size=some { cls:=.type "tuple",data:=.seq #[x.key,x.val] }:=by rw[<-hh,<-z1];exact Zaq _ rfl
 have k2:∀ b o,b≠it->hp.get? b=some o->h2.get? b=some o:=λb o hb e=>by rw[<-hh];exact Zah _ (s1.extBut b o hb e)
 show wpAny _ _ (Builtin.Dict_items.ownedTupleIsFree (.ref it)>>=_) _ _ ⟨h2,g,dr,tk,os⟩
 rw[z1];clear hh f1 s1 hT1 z1 h1
 refine Zaa ?_;unfold Builtin.Dict_items.ownedTupleIsFree;refine Zaa (wpAny_field f2 rfl (x:=.none) rfl (Zae ?_));simp only[ZbJ];refine Zaa (wpAny_field f2 rfl (x:=ok) rfl (Zaa (wpAny_field f2 rfl (x:=ov) rfl ?_)));refine Zaa (wpAny_setField_rec f2 (by simp) λh3 f3 s3=>?_)
 replace s3:Heap.SameBut it h2 h3:=s3;replace f3:IsItemIter h3 it d (i+1) es.size ep x.key ov:=f3;refine Zaa (wpAny_setField_rec f3 (by simp) λh4 f4 s4=>?_)
 replace s4:Heap.SameBut it h3 h4:=s4;replace f4:IsItemIter h4 it d (i+1) es.size ep x.key x.val:=f4;refine Zaa (wpAny_setField_rec f4 (by simp) λh5 f5 s5=>?_)
 replace s5:Heap.SameBut it h4 h5:=s5;replace f5:IsItemIterOut h5 it d (i+1) es.size ep x.key x.val hp.objs.size:=f5;refine Zaa (wpAny_setField_rec f5 (by simp) λh6 f6 s6=>?_)
 replace s6:Heap.SameBut it h5 h6:=s6;replace f6:IsItemIterOut h6 it d (i+1) es.size ep x.key x.val hp.objs.size:=f6;have old:∀ b o,b≠it->h2.get? b=some o->h6.get? b=some o:=λb o hb e=>s6.extBut b o hb (s5.extBut b o hb (s4.extBut b o hb (s3.extBut b o hb e)));exact Zaa (wpAny_letGo (Zae (Zae ⟨_,rfl,Zae (q h6 f6 (old _ _ (Nat.ne_of_gt il) t2) λb o hb e=>old b o hb (k2 b o hb e))⟩)))
theorem QR{ok ov:Value}{Q:Option Value->Shared->Prop}(hh:A.handled=none)(hit:IsItemIter s.heap it d es.size es.size ep ok ov)(r:qU s.heap d es ep)
  (q:∀ h',Heap.ExtBut it s.heap h'->Q none { s with heap:=h' }):wpAny (model prog w) A (pyNext (.ref it)) Q E s:=by
 obtain⟨o,e1,e2,e3⟩:=id r;have hT:s.TypeIs (.ref it) "dict_itemiterator":=⟨_,hit,rfl⟩;unfold pyNext;refine Zaa (wpAny_attempt (wpAny_callSpecial?_slot (name:=Str.ofString "__next__") hT Zbb (wpAny_call_entry Zbb hT PySem.F.entry_dict_itemiterator_next ?_ (PySem.F.args_dict_itemiterator_next_1 _))));refine Zaa (Zae (Zaa (Zaa ?_)))
 first
  |refine Zaa (wpAny_typeNameOfWhole_itemiter hT (Zae ?_))
  |refine Zaa (wpAny_typeNameOf_itemiter hT (Zae ?_))
 refine Zaa (wpAny_fieldsOf hit rfl ?_);simp only[show Builtin.Dict_items.ownsTuple "dict_itemiterator"=true by decide,ZbJ]
 show wpAny _ _ (if(Value.ref d==.none)=true then _ else _) _ _ _
 rw[Zad (show ¬(Value.ref d==.none)=true from Zbt)];refine Zaa (Zae (Zaa (wpAny_dictEntries e1 e3 ?_)));rw[Zad (by simp)]
 refine Zaa (Zae (Zaa (wpAny_dictEpoch e1 e3 ?_)));rw[Zad (by simp)]
 refine Zae ?_;simp only[show ¬((es.size:Int)<0) by omega,Zbh,ZaP,ZbW (Zak _)]
 refine Zaa ?_
 first
  |refine Zaa (wpAny_typeNameOfWhole_itemiter hT (Zae ?_))
  |refine Zaa (wpAny_typeNameOf_itemiter hT (Zae ?_))
 show wpAny _ _ (setField (.ref it) 2 .none>>=_) _ _ s
 refine Zaa (wpAny_setField hit rfl (by simp) ?_)
 show wpAny _ _ (newExc (.type "StopIteration") []>>=_) _ _ _
 refine Zaa ?_;simp only[newExc,newTuple];refine Zaa (Za3 ?_ (by size_fits))
 refine Zaa (m:=firstArgMember _ _) (wpAny_of_eq (a:=Value.none) (by first|rfl|(simp only[firstArgMember];rfl)) (Za3 ?_ (by size_fits)))
 simp only[raiseNew];refine Zaa (wpAny_handled ?_);rw[show A.in1.handled=none from hh];refine Zaa (Zae (wpAny_throw ?_));refine Zaa (wpAny_isInstance (T:="StopIteration") (b:=true) ⟨_,Zaq _ rfl,rfl⟩ isSubtype_stop ?_);exact Zae (q _ (((ZbH ..).extBut.push _).push _))
end
def Ym(a:Addr)(raw:Obj)(kvs:List (List Key×V)):It:=
 ⟨λi H=>H a=some (.frz raw (.dT kvs))/\i<kvs.length,λi H x H'=>∃ p kv b,H p=none/\kvs[i]?=some kv/\H b=some (.tup (kv.1.map kV))/\x=.ref p/\H'=upd H p (.tup [.ref b,kv.2]),λi H=>H a=some (.frz raw (.dT kvs))/\i=kvs.length⟩
theorem Hy{P:Program}{w:World}{K:Frag}{elts:List Expr}{x1:Nat}{pos:Pos}(a it:Addr)(raw:Obj)(kvs:List (List Key×V)){es:Array DictEntry}{ep:Nat}(hd:raw.data=.dict es ep) :
  Turn P w K (.Tuple elts x1 pos) (Ym a raw kvs) [it] it (λi h=>∃ ok ov,IsItemIter h it a i kvs.length ep ok ov) where
 mem:=by simp
 obj:=λi h st b hb=>by
  have e:b=it:=by simpa using hb
  subst e;obtain⟨ok,ov,e⟩:=st;exact⟨_,e,λv z=>by cases z⟩
 keep:=λi h h' st k=>by
  obtain⟨ok,ov,e⟩:=st;exact⟨ok,ov,k it (by simp) _ e⟩
 item:=by
  intro X hP hw hK hc i pins s σ H E I hf st hg;subst hP hw hK;obtain⟨e,hi⟩:=hg;obtain⟨ok,ov,ei⟩:=st;obtain⟨f0,f1,f2,f3,f4,f5⟩:=hf it (by simp)
  obtain⟨_,rd,hl,at_⟩:=nA I.hok e hd;obtain⟨p,hp⟩:∃ p,kvs[i]?=some p:=⟨_,List.getElem?_eq_getElem hi⟩;obtain⟨b,u,y,y1,y2,y3,y4,y5⟩:=at_ i p hp;refine Nv (by rw[hl];exact ei) rd y1 λh3 e3 n3 k3=>?_
  refine⟨_,rfl,wpAny_letOwnedTupleGo_items e3 λh4 e4 s4=>?_⟩;have ilt:it<s.heap.objs.size:=Zao ei;have hT2:IsPair h4 s.heap.objs.size (.ref b) u:=by rw[<-y2,<-y3];exact(s4.2 _ (Nat.ne_of_gt ilt)).trans n3
  refine⟨.ref s.heap.objs.size,upd H s.heap.objs.size (.tup [.ref b,p.2]),I.vK (ch:=[it]) (λb' o hb q=>?_) hf (Zak _) ⟨by show 2<=sizeLine;decide,[.ref b,u],.cons rfl (.cons y5 .nil),gq.mk hT2⟩,rfl,⟨_,p,b,I.hok.fresh (Zak _),hp,y4,rfl,rfl⟩,⟨y.key,y.val,by rw[<-hl];exact e4⟩,λb' hb=>?_⟩
  ·have q1:b'≠it:=λe=>hb (by simp[e])
   exact(s4.2 b' q1).trans (k3 b' o q1 q)
  ·have e:b'=it:=by simpa using hb
   subst e;rw[aG (ZaG ilt)];exact f0
 done:=by
  intro X hP hw hK hc i pins s σ H E I hf st hg;subst hP hw hK;obtain⟨e,hi⟩:=hg;obtain⟨ok,ov,ei⟩:=st;obtain⟨_,rd,hl,at_⟩:=nA I.hok e hd;subst hi;refine QR (I.ok.hd hc) (by rw[hl];exact ei) rd λh' k=>⟨rfl,?_⟩
  exact I.tZ (t':=s.toks) (ch:=[it]) (λb' o hb q=>k b' o (λe=>hb (by simp[e])) q) hf
 self:=λA i s Q E st h=>by
  obtain⟨ok,ov,e⟩:=st;exact PySem.W.kcp_self e h
def Lk(tl:TE):TI:=λσ H R=>tl σ H λx H1=>∃ a raw kvs,x=.ref a/\H1 a=some (.frz raw (.dT kvs))/\R (Ym a raw kvs) H1
theorem Bx{X:Cx}{o:Expr}{apos cpos tpos:Pos}{elts:List Expr}{x1:Nat}{tl:TE}(hl:PE X o tl)(hbase:attributeBase o "items" X.env (eval o X.env)=eval o X.env:=by rfl)(hline:(apos.endLine==cpos.line)=true:=by rfl) :
  PI X (.Tuple elts x1 tpos) (.Call (.Attribute o "items" apos) [] [] cpos) (Lk tl):=by
 intro pins s σ H R I h;refine wpAny_Call_method (T:="dict") (id:="dict.items") hbase rfl hline PySem.F.plainAttrs_dict PySem.F.slot_dict_items PySem.F.type_dict_items (thn (hl pins s σ H _ I h) ?_);rintro u s1 ⟨x,H1,I1,rx,q1⟩;obtain⟨a,raw,kvs,e,ha,q⟩:=q1;subst e;obtain rfl:u=Value.ref a:=rx;obtain⟨t1,t2,_⟩:=Jx I1 (.inr ⟨kvs,.inr ⟨raw,ha⟩⟩);refine⟨t1,t2,?_⟩;obtain⟨es,ep,hd⟩:=Lj I1.hok ha;obtain⟨hs,rd,hl,at_⟩:=nA I1.hok ha hd;show wpAny _ _ (callWith cpos (.builtin "dict.items") [.ref a] [] []) _ _ s1
 refine method_meetsIn PySem.F.slot_dict_items PySem.F.entry_dict_items rfl (PySem.evalArgs_none ⟨rfl,t1,PySem.F.args_dict_items_1 _,_,Nt hs,t1,?_⟩);have hsz:(s1.heap.push { cls:=.type "dict_items",data:=.fields #[.ref a] }).objs.size=s1.heap.objs.size+1:=Heap.size_push ..;refine Nu (d:=a) (es:=es) (ep:=ep) ⟨_,Zaq _ rfl,rfl,rfl⟩ (rd.step λo e=>Zah _ e) ?_;refine⟨(s1.heap.push { cls:=.type "dict_items",data:=.fields #[.ref a] }).objs.size,[(s1.heap.push { cls:=.type "dict_items",data:=.fields #[.ref a] }).objs.size],_,_,H1,rfl,I1.kept (t':=s1.toks) λb o e=>Zah _ (Zah _ e),Hy a _ raw kvs hd,⟨.none,.none,?_⟩,λb hb=>?_,q⟩
 ·rw[<-hl];exact Zaq _ rfl
 ·have e:b=s1.heap.objs.size+1:=by simpa[hsz] using hb
  subst e;exact I1.Fx (Nat.le_succ _) (I1.hok.fresh (Nat.le_succ _))
namespace MP
def oH(l:List (List Key×PV)):List PV:=l.map λkv=>.tup [rC kv.1,kv.2]
def uJ:PV->Option (Res (List PV))
 |.dt l=>some (.ok (oH l))
 |_=>none
section
variable{K:Frag}{C:Cg}
theorem za(i:Nat):TV K C i (Lk (m5 i)) (m1 uJ (mV i)):=by
 intro F H σ ρ R' r R hh e P;rcases bM e with⟨z,e1,rfl⟩|⟨p,e1,hk⟩
 ·unfold mV at e1;split at e1
  ·cases e1
  ·cases e1
 obtain⟨a,raw,u,ev,fa,hu⟩:=hh;have hp:ρ[i]?=some (some (.sh p)):=by
  unfold mV at e1;split at e1
  ·rename_i q hq;cases e1;exact hq
  ·cases e1
 match p,hk with
 |.dt l,hk=>
  cases hk;obtain⟨v,ev',rv⟩:=R.sh i _ hp;rw[ev] at ev';cases ev';cases rv with
  |@dt _ xs _ h hl hr=>
   have hx:u=.dT xs:=by
    rcases h with h|⟨o,h⟩
    ·rw[fa] at h;cases h
    ·rw[fa] at h;cases h;rfl
   subst hx;have len:xs.length=l.length:=by have:=Zbg List.length hl;simpa using this
   refine⟨_,ev,a,raw,xs,rfl,R.rb.sub _ _ fa,P _ F H (Up.refl R.rb.sub) ⟨λF' H' s s'=>?_,λj F' H' hj s s'=>?_,λj F' H' x H'' hj s s' y=>?_⟩⟩
   ·exact⟨s' _ _ (s _ _ fa),by unfold oH;rw[List.length_map];exact len.symm⟩
   ·refine⟨s' _ _ (s _ _ fa),?_⟩;unfold oH at hj;rw[List.length_map] at hj;omega
   ·obtain⟨p,kv,b,hp,hkv,hb,rfl,rfl⟩:=y;have hl2:(l.map (·.1))[j]?=some kv.1:=by rw[<-hl,List.getElem?_map,hkv];rfl
    rw[List.getElem?_map] at hl2;cases q:l[j]? with
    |none=>rw[q] at hl2;cases hl2
    |some w=>
     rw[q] at hl2;have ew:w.1=kv.1:=Zac hl2;have u0:=Up.Vs s';have un:=Up.new (o:=.tup [.ref b,kv.2]) u0.fh hp;refine⟨_,.tup [rC w.1,w.2],u0.trans un,?_,.tup aN rfl λn x p' hx hp'=>?_⟩
     ·unfold oH;rw[List.getElem?_map,q];rfl
     ·match n with
      |0=>simp at hx hp';subst hx hp';rw[ew];exact(Hw hb).up un.ff
      |1=>simp at hx hp';subst hx hp';exact(hr j _ _ hkv q).up (s.trans (u0.ff.trans un.ff))
      |n+2=>simp at hx
end
end MP
section
variable{prog:Program}{w:World}{A:Around}{E:Value->Shared->Prop}
theorem By(hh:A.handled=none){I ax:Addr}{items:Array Value}(hne:ax≠I):∀ (n i:Nat) (s:Shared) (Q:List Value->Shared->Prop),s.heap.IsListIter I ax i->s.heap.IsList ax items->i+n<=items.size ->
  (∀ h' tk,h'.IsListIter I ax (i+n)->h'.IsList ax items->(∀ b o,b≠I->s.heap.get? b=some o->h'.get? b=some o)->Q ((items.toList.drop i).take n) { s with heap:=h',toks:=tk })->wpAny (model prog w) A (draw (.ref I) n) Q E s
 |0,i,s,Q,hit,hl,_,hQ=>by
  show wpAny _ _ (pure []) Q E s
  exact Zae (by simpa using hQ s.heap s.toks hit hl λ_ _ _ e=>e)
 |n+1,i,s,Q,hit,hl,hle,hQ=>by
  have hlt:i<items.size:=by lia
  have W:=Walks.list (prog:=prog) (w:=w) (A:=A) hh I ax hne items;show wpAny _ _ (pyNext (.ref I)>>=_) Q E s
  refine Zaa (W.item i s _ _ hlt ⟨hit,hl⟩ λv h1 tk hv st k1=>?_);have ev:items[i]=v:=by rw[ZaD hlt] at hv;exact Zac hv
  refine Zaa (Zbj (By hh hne n (i+1) { s with heap:=h1,toks:=tk } _ st.1 st.2 (by lia) λh2 tk2 a1 a2 a3=>Zae ?_))
  have hd:items.toList.drop i=items[i]::items.toList.drop (i+1):=by simp[ZaS,hlt]
  have:=hQ h2 tk2 (by rw[show i+(n+1)=i+1+n by lia];exact a1) a2 λb o hb e=>a3 b o hb (k1 b o (by simpa using hb) e)
  rw[hd,List.take_succ_cons,ev] at this;exact this
theorem Hz{s:Shared}{ax:Addr}{items:Array Value}{targets:List (Bool×(Value->Sem Unit))}{Q:Unit->Shared->Prop}(hh:A.handled=none)(hl:s.heap.IsList ax items)(hn:targets.length=items.size)(hstar:targets.findIdx? (·.1)=none)
  (h:∀ h' tk,(∀ b o,s.heap.get? b=some o->h'.get? b=some o)->wpAny (model prog w) A (assignInOrder (targets.map (·.2)) items.toList) Q E { s with heap:=h',toks:=tk }):wpAny (model prog w) A (unpack (.ref ax) targets) Q E s:=by
 have hlt:ax≠s.heap.objs.size:=by obtain⟨o,ho,_⟩:=id hl;exact ZaG (Zao ho)
 unfold unpack;rw[hn,hstar];refine Zaa (Zbj ?_);unfold unpackItems;refine Zaa ?_;unfold notIterableAtAll;refine Zaa (wpAny_specialOf hl.typeIs PySem.F.slot_list_iter.lookup (Zae ?_));simp only[Zbf,Zbh];refine Zaa (Zbj (wpAny_pyIter_list hl ?_));refine Zaa (Zbj (By hh hlt items.size 0 _ _ ⟨_,Zaq _ rfl,rfl,rfl⟩ (hl.push _) (by omega) λh1 tk i1 l1 k1=>?_))
 have hall:List.take items.size (List.drop 0 items.toList)=items.toList:=by rw[Zbo];exact ZaV (by simp)
 rw[hall,Zad (by simp)]
 have W:=Walks.list (prog:=prog) (w:=w) (A:=A) hh s.heap.objs.size ax hlt items;refine Zaa (Zbj (W.done { s with heap:=h1,toks:=tk } _ _ ⟨by rw[Nat.zero_add] at i1;exact i1,l1⟩ λh2 tk2 k2=>?_))
 simp only[Option.isSome_none,Zbf,Zbh];refine Zae (h h2 tk2 λb o e=>?_);have hb:b≠s.heap.objs.size:=ZaG (Zao e);exact k2 b o (by simpa using hb) (k1 b o hb (Zah _ e))
end
section
variable{X:Cx}{pos:Pos}
def Yn(K:Frag)(n:Nat)(t:TGs):TG:=λv σ H Q=>∃ a xs,v=.ref a/\SqL K H a xs/\xs.length=n/\t xs σ H Q
theorem WT{es:List Expr}{k:Nat}{t:TGs}{n:Nat}(hc:X.calm=true)(h:PGs X es t)
  (hn:(assignEach es X.env).length=n:=by rfl)(hst:(assignEach es X.env).findIdx? (·.1)=none:=by rfl):PG X (.Tuple es k pos) (Yn X.K n t):=by
 intro pins s σ H v u Q I r hw;obtain⟨a,xs,e1,hq,hl,hw⟩:=hw;subst e1;cases r;obtain⟨its,rv,pl,hz⟩:=I.list hq;rw[arm_assign_Tuple];refine Zaa (wpAny_standAt (Hz (I.ok.hd hc) pl.isList (by simp[hn,<-hl,rv.length]) hst λh' tk hx=>?_))
 have I1:Inv X pins σ H { s with heap:=h',toks:=tk }:=I.kept hx;exact h pins _ σ H xs _ Q I1 (by simpa using rv) hw
end
namespace MP
section
variable{K:Frag}{C:Cg}
def gL(n:Nat)(t:List PV->Rho->Option Rho):PV->Rho->Option Rho:=λp ρ=>match p with
 |.lst l=>if l.length=n then t l ρ else none
 |_=>none
theorem WW{n:Nat}{gs:TGs}{tgs:List PV->Rho->Option Rho}(hs:MGs K C gs tgs):MG K C (Yn K n gs) (gL n tgs):=λF H σ ρ v p ρ' Q R r e k=>by
 unfold gL at e;split at e
 ·rename_i l;split at e
  ·rename_i hn;obtain⟨a,xs,rfl,hq,rr⟩:=r.cg;exact⟨a,xs,rfl,R.rb.sub.seq hq,by rw[rr.1];exact hn,hs F H σ ρ xs l ρ' Q R rr e k⟩
  ·cases e
 ·cases e
end
end MP
end L2
namespace L2.MP
section
variable{α:Type}{us:List α}
theorem len0(h:us.length=0):us=[]:=List.length_eq_zero_iff.mp h
theorem QT{n:Nat}(h:us.length=n+1):∃ a vs,us=a::vs/\vs.length=n:=by
 cases us with
 |nil=>cases h
 |cons a vs=>exact⟨a,vs,rfl,Nat.succ.inj h⟩
theorem Ny(h:us.length=1):∃ a,us=[a]:=by
 obtain⟨a,vs,rfl,h2⟩:=QT h;cases len0 h2;exact⟨a,rfl⟩
theorem zc(h:us.length=2):∃ a b,us=[a,b]:=by
 obtain⟨a,vs,rfl,h2⟩:=QT h;obtain⟨b,rfl⟩:=Ny h2;exact⟨a,b,rfl⟩
theorem DW(h:us.length=3):∃ a b c,us=[a,b,c]:=by
 obtain⟨a,vs,rfl,h2⟩:=QT h;obtain⟨b,c,rfl⟩:=zc h2;exact⟨a,b,c,rfl⟩
theorem QV(h:us.length=4):∃ a b c d,us=[a,b,c,d]:=by
 obtain⟨a,vs,rfl,h2⟩:=QT h;obtain⟨b,c,d,rfl⟩:=DW h2;exact⟨a,b,c,d,rfl⟩
theorem YW(h:us.length=5):∃ a b c d e,us=[a,b,c,d,e]:=by
 obtain⟨a,vs,rfl,h2⟩:=QT h;obtain⟨b,c,d,e,rfl⟩:=QV h2;exact⟨a,b,c,d,e,rfl⟩
end
end L2.MP
namespace L2
open PySem PySem.Spec PyProof PyProof.Rows
inductive LtK:List Key->List Key->Bool->Prop
 |nn:LtK [] [] false
 |nc (k:Key) (l:List Key):LtK [] (k::l) true
 |cn (k:Key) (l:List Key):LtK (k::l) [] false
 |eq (k:Key) {l m:List Key}{r:Bool} (h:LtK l m r):LtK (k::l) (k::m) r
 |int {i j:Int} (l m:List Key) (h:i≠j):LtK (.inl i::l) (.inl j::m) (decide (i<j))
 |str {i j:Str} (l m:List Key) (h:i≠j):LtK (.inr i::l) (.inr j::m) (decide (i.cps.toList<j.cps.toList))
theorem DX{i:Int}{u:Value}(r:RelV (kV (.inl i)) u):∃ t,u=.int i t:=r
theorem DY{i:Str}{u:Value}(r:RelV (kV (.inr i)) u):∃ t,u=.str i t:=r
section
open PySem.SeqAt
open PySem.AutoSeq1 (wpAny_loadPart')
open PySem.MeetsSeq PySem.MeetsSeq2 PySem.MeetsSeq3
theorem QW(A:Around)(s:Shared)(a:Str)(t:Tok)(c:Str)(u:Tok)(prog:Program)(w:World)(E:Value->Shared->Prop)(Q:Value->Shared->Prop)(h:Q (.bool (decide (a.cps.toList<c.cps.toList))) s) :
  wpAny (model prog w) A (richCompare .Lt (.str a t) (.str c u)) Q E s:=
 (PyProof.Rows.lt_str h:wpAny (model prog w) A (compareOp .Lt (.str a t) (.str c u)) Q E s)
theorem QX(A:Around)(s:Shared)(k:Key){v u:Value}(h1:RelV (kV k) v)(h2:RelV (kV k) u):EqAt A s v u true:=by
 cases k with
 |inl i=>
  obtain⟨t,rfl⟩:=DX h1;obtain⟨t',rfl⟩:=DX h2;have:=EqAt.int_int (A:=A) (s:=s) i t i t'
  rwa [beq_self_eq_true] at this
 |inr i=>
  obtain⟨t,rfl⟩:=DY h1;obtain⟨t',rfl⟩:=DY h2;have:=EqAt.str_str (A:=A) (s:=s) i t i t'
  rwa [beq_self_eq_true] at this
theorem Ae(l b:Addr)(items items2:Array Value)(n n2:Nat)(dd dd2:Option Addr)(sl sl2:Array (Option Value))(ns ms:List Key)(r:Bool)(hi:Vals (ns.map kV) items.toList)(hj:Vals (ms.map kV) items2.toList)(hr:LtK ns ms r) :
  Meets (Builtin.«tuple.__lt__» ⟨[.ref l,.ref b],[]⟩)
   (λ_ R s=>s.heap.get? l=some { cls:=.type "tuple",dict:=dd,data:=.seq items n,slots:=sl }/\s.heap.get? b=some { cls:=.type "tuple",dict:=dd2,data:=.seq items2 n2,slots:=sl2 } /\
    R (.ok (.ret (.bool r))) s):=
 .of_wp λprog w A R s h=>by
  obtain⟨hp,g,d,tk,os⟩:=s;obtain⟨hl,hb,h⟩:=h;have f2:=AutoSeq1.sub_tuple_tuple;have z1:items.size=ns.length:=by have:=hi.length;simpa using this.symm
  have z2:items2.size=ms.length:=by have:=hj.length;simpa using this.symm
  wp_walk using wpAny_loadPart' hl,wpAny_loadPart' hb,wpAny_forIn_list _ (λrest b s'=>b.1=none/\s'=⟨hp,g,d,tk,os⟩/\∃ (vs ws:List Value) (ns' ms':List Key),rest=vs.zip ws /\
   Vals (ns'.map kV) vs/\Vals (ms'.map kV) ws/\ns'.length+items2.size=ms'.length+items.size/\LtK ns' ms' r) _
  case turn=>
   rintro⟨y,x⟩ rest b s' ⟨hb',rfl,vs,ws,ns',ms',hz,hvi,hwi,hlen,hR⟩;cases hR with
   |nn=>cases hvi;rw[List.zip_nil_left] at hz;cases hz
   |nc k l=>cases hvi;rw[List.zip_nil_left] at hz;cases hz
   |cn k l=>cases hwi;rw[List.zip_nil_right] at hz;cases hz
   |eq k hR=>
    cases hvi with
    |cons r1 hvi'=>
     cases hwi with
     |cons r2 hwi'=>
      rw[List.zip_cons_cons] at hz;injection hz with hyx hrest
      injection hyx with hy hx
      subst hy hx;simp only[ZaF] at hlen;refine Zaa (QX A.in1 ⟨hp,g,d,tk,os⟩ k r1 r2 prog w _ _ ?_)
      wp_walk
      exact⟨rfl,rfl,_,_,_,_,hrest,hvi',hwi',by omega,hR⟩
   |@int i j l m ne=>
    cases hvi with
    |cons r1 hvi'=>
     cases hwi with
     |cons r2 hwi'=>
      rw[List.zip_cons_cons] at hz;injection hz with hyx hrest
      injection hyx with hy hx
      subst hy hx;obtain⟨t,rfl⟩:=DX r1;obtain⟨u,rfl⟩:=DX r2;have he:=EqAt.int_int (A:=A.in1) (s:=⟨hp,g,d,tk,os⟩) i t j u;rw[beq_eq_false_iff_ne.mpr ne] at he;refine Zaa (he prog w _ _ ?_);have hri:=HT.Ot A.in1 ⟨hp,g,d,tk,os⟩ i t j u prog w
      wp_walk using hri
      exact⟨_,rfl,by simpa using h⟩
   |@str i j l m ne=>
    cases hvi with
    |cons r1 hvi'=>
     cases hwi with
     |cons r2 hwi'=>
      rw[List.zip_cons_cons] at hz;injection hz with hyx hrest
      injection hyx with hy hx
      subst hy hx;obtain⟨t,rfl⟩:=DY r1;obtain⟨u,rfl⟩:=DY r2;have he:=EqAt.str_str (A:=A.in1) (s:=⟨hp,g,d,tk,os⟩) i t j u;rw[beq_eq_false_iff_ne.mpr ne] at he;refine Zaa (he prog w _ _ ?_);have hri:=QW A.in1 ⟨hp,g,d,tk,os⟩ i t j u prog w
      wp_walk using hri
      exact⟨_,rfl,by simpa using h⟩
  case fin=>
   rintro⟨b1,b2⟩ s' ⟨hb',rfl,vs,ws,ns',ms',hz,hvi,hwi,hlen,hR⟩;simp only at hb';subst hb';have no:∀ {k k':Key}{l m:List Key},Vals ((k::l).map kV) vs->Vals ((k'::m).map kV) ws->False:=λh1 h2=>by
    cases h1;cases h2;rw[List.zip_cons_cons] at hz;cases hz
   have hv:r=decide (items.size<items2.size):=by
    cases hR with
    |nn=>simp only[ZbE] at hlen;exact(Zaw (by omega)).symm
    |nc k l=>simp only[ZbE,ZaF] at hlen;exact(Zax (by omega)).symm
    |cn k l=>simp only[ZbE,ZaF] at hlen;exact(Zaw (by omega)).symm
    |eq k hR=>exact(no hvi hwi).elim
    |int l m ne=>exact(no hvi hwi).elim
    |str l m ne=>exact(no hvi hwi).elim
   rw[hv] at h
   wp_walk
   exact⟨_,rfl,by simpa[Builtin.Tuple.tupleCompareSizes] using h⟩
  case h=>
   exact⟨rfl,rfl,items.toList,items2.toList,ns,ms,rfl,hi,hj,by omega,hr⟩
end
theorem J2{prog:Program}{w:World}{A:Around}{E:Value->Shared->Prop}{s:Shared}{l b:Addr}{items items2:Array Value}{ns ms:List Key}{r:Bool}{Q:Value->Shared->Prop}(hl:IsTup s.heap l items)(hb:IsTup s.heap b items2)(hi:Vals (ns.map kV) items.toList)(hj:Vals (ms.map kV) items2.toList)(hr:LtK ns ms r)
  (hu:A.units<cLine)(h:Q (.bool r) s):wpAny (model prog w) A (compareOp .Lt (.ref l) (.ref b)) Q E s:=by
 obtain⟨⟨cls,dd,data,sl⟩,ho,hc,n,hd⟩:=id hl;obtain⟨⟨cls2,dd2,data2,sl2⟩,ho2,hc2,n2,hd2⟩:=id hb;simp only at hc hd hc2 hd2;subst hc hd hc2 hd2;exact richCompare_meets_room (op:=.Lt) ⟨_,ho,rfl⟩ ⟨_,ho2,rfl⟩ PySem.F.slot_tuple_lt PySem.F.entry_tuple_lt (PySem.F.args_tuple_lt_2 _ _) (Ae l b items items2 n n2 dd dd2 sl sl2 ns ms r hi hj hr)
  ⟨ho,ho2,show Value.bool r≠Value.notImplemented/\Q (.bool r) s from⟨(λx=>nomatch x),h⟩⟩ hu
def WX(K:Frag):R2:=λx y H Q=>∃ a b ns ms r,x=.ref a/\y=.ref b/\SqT K H a (ns.map kV)/\SqT K H b (ms.map kV)/\LtK ns ms r/\Q (.bl r) H
theorem WY{X:Cx}(hu:X.A.units<cLine):OpR X (compareOp .Lt) (WX X.K):=by
 intro pins s σ H x y v u Q I rx ry h;obtain⟨a,b,ns,ms,r,rfl,rfl,ha,hb,hr,q⟩:=h;cases rx;cases ry;obtain⟨its,r1,p1,_⟩:=I.tuple ha;obtain⟨its2,r2,p2,_⟩:=I.tuple hb;exact J2 p1 p2 r1 r2 hr hu ⟨.bl r,H,I,rfl,q⟩
theorem W0{X:Cx}{k:Nat}(hr:fW k X.A):OpR X (compareOp .Lt) (WX X.K):=WY (by have:=CV hr;omega)
end L2
namespace L2.MP
open PySem PySem.Spec PyProof PyProof.Rows
def Af:List Key->List Key->Option Bool
 |[],[]=>some false
 |[],_::_=>some true
 |_::_,[]=>some false
 |.inl i::l,.inl j::m=>if i=j then Af l m else some (decide (i<j))
 |.inr i::l,.inr j::m=>if i=j then Af l m else some (decide (i.cps.toList<j.cps.toList))
 |.inl _::_,.inr _::_=>none
 |.inr _::_,.inl _::_=>none
theorem Ea:∀ {l m:List Key}{r:Bool},Af l m=some r->LtK l m r
 |[],[],_,e=>by cases e;exact .nn
 |[],k::l,_,e=>by cases e;exact .nc k l
 |k::l,[],_,e=>by cases e;exact .cn k l
 |.inl i::l,.inl j::m,r,e=>by
  unfold Af at e;by_cases h:i=j
  ·rw[Zaf h] at e;subst h;exact .eq _ (Ea e)
  ·rw[Zad h] at e;cases e;exact .int l m h
 |.inr i::l,.inr j::m,r,e=>by
  unfold Af at e;by_cases h:i=j
  ·rw[Zaf h] at e;subst h;exact .eq _ (Ea e)
  ·rw[Zad h] at e;cases e;exact .str l m h
 |.inl _::_,.inr _::_,_,e=>by cases e
 |.inr _::_,.inl _::_,_,e=>by cases e
def J3(l m:List PV):Option Bool:=(dD l).bind λa=>(dD m).bind λb=>Af a b
def Ln:PV->PV->Option (Res PV)
 |.tup l,.tup m=>(J3 l m).map λr=>.ok (.bl r)
 |_,_=>none
theorem Yo{K:Frag}{C:Cg}:R2M C (aF K) (aF K) (aF K) (WX K) Ln:=by
 intro F H x y a b res Q s ha hb e P;have inv:∃ l m,a=.tup l/\b=.tup m:=by
  clear P ha hb
  cases a<;>first|exact noS e|(cases b<;>first|exact noS e|exact⟨_,_,rfl,rfl⟩)
 obtain⟨l,m,rfl,rfl⟩:=inv;obtain⟨a1,xs,rfl,h1,r1⟩:=Rep.cL ha;obtain⟨a2,ys,rfl,h2,r2⟩:=Rep.cL hb;have e:(J3 l m).map (λr=>Res.ok (PV.bl r))=some res:=e;cases h:J3 l m with
 |none=>rw[h] at e;cases e
 |some r=>
  rw[h] at e;cases e;unfold J3 at h;cases k1:dD l with
  |none=>rw[k1] at h;cases h
  |some ns=>
   cases k2:dD m with
   |none=>rw[k1,k2] at h;cases h
   |some ms=>
    rw[k1,k2] at h;cases jZ k1 r1;cases jZ k2 r2;exact⟨a1,a2,ns,ms,r,rfl,rfl,s.tup h1,s.tup h2,Ea h,P _ F H (Up.refl s) .bl⟩
end L2.MP
namespace MM
open PySem PySem.Spec PyProof.Rows L2 L2.MP
def Tv{α:Type}(x:Option (Res α))(Q:α->Prop):Prop:=∃ a,x=some (.ok a)/\Q a
def Out.calm:Out->Prop
 |.ex _=>False
 |_=>True
def To(x:Option Out)(Q:Out->Prop):Prop:=∃ o,x=some o/\Out.calm o/\Q o
def J4(k:Rho->Prop)(Q:Out->Prop):Out->Prop
 |.nx ρ=>k ρ
 |o=>Q o
section
variable{α β γ:Type}{Q:α->Prop}{QS:Out->Prop}{k:β->Prop}{f:Fn PV}{g h:Fn PV}{ρ:Rho}{a:β}{z p:PV}{i:Nat}{s t:Sn}
theorem onNx_nx{k:Rho->Prop}:J4 k QS (.nx ρ)=k ρ:=rfl
theorem onNx_rt{k:Rho->Prop}:J4 k QS (.rt p)=QS (.rt p):=rfl
theorem onNx_ro{k:Rho->Prop}:J4 k QS (.ro p)=QS (.ro p):=rfl
theorem onNx_rd{k:Rho->Prop}:J4 k QS (.rd p)=QS (.rd p):=rfl
theorem onNx_bk{k:Rho->Prop}:J4 k QS (.bk ρ)=QS (.bk ρ):=rfl
theorem onNx_ct{k:Rho->Prop}:J4 k QS (.ct ρ)=QS (.ct ρ):=rfl
theorem tv_some{a:α}:Tv (some (.ok a)) Q=Q a:=by
 refine propext ⟨?_,λq=>⟨a,rfl,q⟩⟩;rintro⟨r',e,q⟩;cases e;exact q
theorem to_nx:To (some (.nx ρ)) QS=QS (.nx ρ):=propext ⟨λ⟨_,e,_,q⟩=>by cases e;exact q,λq=>⟨_,rfl,trivial,q⟩⟩
theorem to_rt:To (some (.rt p)) QS=QS (.rt p):=propext ⟨λ⟨_,e,_,q⟩=>by cases e;exact q,λq=>⟨_,rfl,trivial,q⟩⟩
theorem to_ro:To (some (.ro p)) QS=QS (.ro p):=propext ⟨λ⟨_,e,_,q⟩=>by cases e;exact q,λq=>⟨_,rfl,trivial,q⟩⟩
theorem to_rd:To (some (.rd p)) QS=QS (.rd p):=propext ⟨λ⟨_,e,_,q⟩=>by cases e;exact q,λq=>⟨_,rfl,trivial,q⟩⟩
theorem to_bk:To (some (.bk ρ)) QS=QS (.bk ρ):=propext ⟨λ⟨_,e,_,q⟩=>by cases e;exact q,λq=>⟨_,rfl,trivial,q⟩⟩
theorem to_ct:To (some (.ct ρ)) QS=QS (.ct ρ):=propext ⟨λ⟨_,e,_,q⟩=>by cases e;exact q,λq=>⟨_,rfl,trivial,q⟩⟩
theorem tv_bnd{x:Option (Res β)}{kk:β->Option (Res α)}:Tv (bnd x kk) Q=Tv x (λb=>Tv (kk b) Q):=by
 refine propext ⟨?_,?_⟩
 ·rintro⟨r,e,q⟩;rcases bM e with⟨z,e1,e2⟩|⟨b,e1,e2⟩
  ·cases e2
  ·exact⟨_,e1,r,e2,q⟩
 ·rintro⟨b,e,q⟩;subst e;exact q
theorem to_bnd{x:Option (Res β)}{kk:β->Option Out}:To (gw x kk) QS=Tv x (λb=>To (kk b) QS):=by
 refine propext ⟨?_,?_⟩
 ·rintro⟨r,e,c,q⟩;rcases cZ e with⟨z,e1,rfl⟩|⟨b,e1,e2⟩
  ·exact c.elim
  ·exact⟨_,e1,r,e2,c,q⟩
 ·rintro⟨b,e,q⟩;subst e;exact q
theorem to_seq:To (bf s t ρ) QS=To (s ρ) (J4 (λρ'=>To (t ρ') QS) QS):=by
 refine propext ⟨?_,?_⟩
 ·rintro⟨r,e,c,q⟩;unfold bf at e;split at e
  ·rename_i ρ' h;exact⟨_,h,trivial,r,e,c,q⟩
  ·rename_i x hx;refine⟨r,e,c,?_⟩;cases r with
   |nx ρ'=>exact absurd e (hx ρ')
   |_=>exact q
 ·rintro⟨o,e,c,q⟩;unfold bf To;rw[e];cases o with
  |nx ρ'=>exact q
  |_=>exact⟨_,rfl,c,q⟩
theorem xJ:Tv (none:Option (Res α)) Q=False:=propext ⟨λ⟨_,e,_⟩=>(nomatch e),λh=>h.elim⟩
theorem Eb:To none QS=False:=propext ⟨λ⟨_,e,_⟩=>(nomatch e),λh=>h.elim⟩
theorem tv_m2{op:β->γ->Option (Res α)}{f:Fn β}{g:Fn γ}:Tv (m2 op f g ρ) Q=Tv (f ρ) (λa=>Tv (g ρ) (λb=>Tv (op a b) Q)):=by
 unfold m2;simp only[tv_bnd]
theorem tv_m1{op:β->Option (Res α)}{f:Fn β}:Tv (m1 op f ρ) Q=Tv (f ρ) (λa=>Tv (op a) Q):=by unfold m1;rw[tv_bnd]
theorem tv_var{Q:PV->Prop}:Tv (mV i ρ) Q=∃ p,ρ[i]?=some (some (.sh p))/\Q p:=by
 refine propext ⟨?_,λ⟨p,e,q⟩=>⟨_,by unfold mV;rw[e],q⟩⟩
 rintro⟨r,e,q⟩;unfold mV at e;split at e
 ·rename_i p hp;cases e;exact⟨_,hp,q⟩
 ·cases e
theorem tv_lend{Q:PV->Prop}:Tv (mVL i ρ) Q=∃ s,ρ[i]?=some (some s)/\(match s with|.sh p=>Q p|.ow p=>Q p|.dp _=>False):=by
 refine propext ⟨?_,?_⟩
 ·rintro⟨r,e,q⟩;unfold mVL at e;split at e
  ·rename_i p hp;cases e;exact⟨_,hp,q⟩
  ·rename_i p hp;cases e;exact⟨_,hp,q⟩
  ·cases e
 ·rintro⟨s,e,q⟩;cases s with
  |sh p=>exact⟨_,by unfold mVL;rw[e],q⟩
  |ow p=>exact⟨_,by unfold mVL;rw[e],q⟩
  |dp p=>exact q.elim
theorem tv_c{Q:PV->Prop}:Tv (mC p ρ) Q=Q p:=tv_some
theorem tv_view{Q:List PV->Prop}:Tv (pR f ρ) Q=Tv (f ρ) (λa=>Tv (wy a) Q):=tv_bnd
theorem tv_viewN{Q:List PV->Prop}:Tv (yw i ρ) Q=Tv (mVL i ρ) (λa=>Tv (wy a) Q):=tv_bnd
theorem tv_asLst{l:List PV}{Q:List PV->Prop}:Tv (wy (.lst l)) Q=Q l:=tv_some
theorem tv_nil{Q:List PV->Prop}:Tv (bF ρ) Q=Q []:=tv_some
theorem tv_cons{g:Fn (List PV)}{Q:List PV->Prop}:Tv (aC f g ρ) Q=Tv (f ρ) (λa=>Tv (g ρ) (λl=>Q (a::l))):=by
 unfold aC;simp only[tv_bnd,tv_some]
theorem cP{c:Prop}[Decidable c]{a:α}:Tv (if c then some (.ok a) else none) Q=(c/\Q a):=by
 by_cases h:c
 ·rw[Zaf h,tv_some];simp[h]
 ·rw[Zad h,xJ];simp[h]
theorem tv_tup{f:Fn (List PV)}{Q:PV->Prop}:Tv (lJ f ρ) Q=Tv (f ρ) (λl=>l.length<=sizeLine/\Q (.tup l)):=by
 unfold lJ;simp only[tv_bnd,cP]
theorem tv_lst{f:Fn (List PV)}{Q:PV->Prop}:Tv (wN f ρ) Q=Tv (f ρ) (λl=>l.length<=sizeLine/\Q (.lst l)):=by
 unfold wN;simp only[tv_bnd,cP]
theorem tv_call{m:List PV->Option (Res PV)}{f:Fn (List PV)}{Q:PV->Prop}:Tv (bT m f ρ) Q=Tv (f ρ) (λl=>Tv (m l) Q):=tv_bnd
theorem tv_ite{c:Prop}[Decidable c]{x y:Option (Res α)}:Tv (if c then x else y) Q=if c then Tv x Q else Tv y Q:=by split<;>rfl
theorem to_ite{c:Prop}[Decidable c]{x y:Option Out}:To (if c then x else y) QS=if c then To x QS else To y QS:=by split<;>rfl
theorem tv_mIf{c:Fn Bool}{f g:Fn α}:Tv (mIf c f g ρ) Q=Tv (c ρ) (λb=>if b=true then Tv (f ρ) Q else Tv (g ρ) Q):=by
 unfold mIf;simp only[tv_bnd,tv_ite]
theorem tv_mAnd{c d:Fn Bool}{Q:Bool->Prop}:Tv (Jz c d ρ) Q=Tv (c ρ) (λb=>if b=true then Tv (d ρ) Q else Q false):=by
 unfold Jz;simp only[tv_bnd,tv_ite,tv_some]
theorem tv_mOr{c d:Fn Bool}{Q:Bool->Prop}:Tv (mOr c d ρ) Q=Tv (c ρ) (λb=>if b=true then Q true else Tv (d ρ) Q):=by
 unfold mOr;simp only[tv_bnd,tv_ite,tv_some]
theorem tv_mNot{c:Fn Bool}{Q:Bool->Prop}:Tv (rY c ρ) Q=Tv (c ρ) (λb=>Q (!b)):=by
 unfold rY;simp only[tv_bnd,tv_some]
theorem tv_and{Q:PV->Prop}:Tv (yh f g ρ) Q=Tv (f ρ) (λa=>∃ b,a=.bl b/\if b=true then Tv (g ρ) Q else Q (.bl false)):=by
 unfold yh;rw[tv_bnd];congr 1;funext a
 refine propext ⟨?_,?_⟩
 ·rintro⟨r,e,q⟩;split at e
  ·exact⟨true,rfl,by rw[Zaf rfl];exact⟨r,e,q⟩⟩
  ·cases e;exact⟨false,rfl,by rw[Zad (by decide)];exact q⟩
  ·cases e
 ·rintro⟨b,e,q⟩;subst e;cases b with
  |true=>rw[Zaf rfl] at q;exact q
  |false=>rw[Zad (by decide)] at q;exact⟨_,rfl,q⟩
theorem tv_chain{o1 o2:PV->PV->Option (Res PV)}{Q:PV->Prop}:Tv (yg o1 o2 f g h ρ) Q=Tv (f ρ) (λa=>Tv (g ρ) (λb=>Tv (o1 a b) (λz=>∃ t,z=.bl t/\if t=true then Tv (h ρ) (λc=>Tv (o2 b c) Q) else Q (.bl false)))):=by
 unfold yg;simp only[tv_bnd];congr 1;funext a
 congr 1;funext b
 congr 1;funext c
 refine propext ⟨?_,?_⟩
 ·rintro⟨r,e,q⟩;split at e
  ·refine⟨true,rfl,?_⟩;rw[Zaf rfl,<-tv_bnd];exact⟨r,e,q⟩
  ·cases e;exact⟨false,rfl,by rw[Zad (by decide)];exact q⟩
  ·cases e
 ·rintro⟨t,e,q⟩;subst e;cases t with
  |true=>rw[Zaf rfl,<-tv_bnd] at q;exact q
  |false=>rw[Zad (by decide)] at q;exact⟨_,rfl,q⟩
theorem tv_comp{it:Fn (List PV)}{fr:List (Option Nat)}{tg:PV->Rho->Option Rho}{tst:Fn Bool}{el:Fn PV}{Q:PV->Prop}:Tv (jq it fr tg tst el ρ) Q=Tv (it ρ) (λl=>l.length<=sizeLine/\Tv (fj tg tst el (frR fr ρ) l) (λr=>Q (.lst r))):=by
 unfold jq;rw[tv_bnd];congr 1;funext l
 by_cases hl:l.length<=sizeLine
 ·rw[Zaf hl,tv_bnd];simp only[tv_some,hl,true_and]
 ·rw[Zad hl,xJ];simp[hl]
theorem to_next:To (dM ρ) QS=QS (.nx ρ):=to_nx
theorem to_cont:To (Ph ρ) QS=QS (.ct ρ):=to_ct
theorem to_ret:To (eV f ρ) QS=Tv (f ρ) (λp=>QS (.rt p)):=by unfold eV;simp only[to_bnd,to_rt]
theorem to_retO:To (o8 f ρ) QS=Tv (f ρ) (λp=>QS (.ro p)):=by unfold o8;simp only[to_bnd,to_ro]
theorem to_setO:To (uh i f ρ) QS=Tv (f ρ) (λp=>QS (.nx (ρ.set i (some (.ow p))))):=by unfold uh;simp only[to_bnd,to_nx]
theorem to_asg{tg:PV->Rho->Option Rho}:To (cF f tg ρ) QS=Tv (f ρ) (λp=>∃ ρ',tg p ρ=some ρ'/\QS (.nx ρ')):=by
 unfold cF;rw[to_bnd];congr 1;funext a
 cases e:tg a ρ with
 |none=>rw[Eb];exact propext ⟨λh=>h.elim,λ⟨_,z,_⟩=>nomatch z⟩
 |some ρ'=>rw[to_nx];exact propext ⟨λq=>⟨ρ',rfl,q⟩,λ⟨_,z,q⟩=>by cases z;exact q⟩
theorem to_asgN:To (cF f (gN i) ρ) QS=Tv (f ρ) (λp=>QS (.nx (ρ.set i (some (.sh p))))):=by
 rw[to_asg];congr 1;funext a
 exact propext ⟨λ⟨ρ',e,q⟩=>by cases e;exact q,λq=>⟨_,rfl,q⟩⟩
theorem to_if{c:Fn Bool}:To (ie c s t ρ) QS=Tv (c ρ) (λb=>if b=true then To (s ρ) QS else To (t ρ) QS):=by
 unfold ie;simp only[to_bnd,to_ite]
theorem to_for{it:Fn (List PV)}{tg:PV->Rho->Option Rho}:To (nU it tg s ρ) QS=Tv (it ρ) (λl=>To (loop tg s l ρ) QS):=to_bnd
theorem to_retOw:To (sr i ρ) QS=∃ p,ρ[i]?=some (some (.ow p))/\QS (.ro p):=by
 refine propext ⟨?_,λ⟨p,e,q⟩=>⟨.ro p,by unfold sr ownAt;rw[e],trivial,q⟩⟩
 rintro⟨r,e,c,q⟩;unfold sr at e;split at e
 ·rename_i p hp;cases e;exact⟨p,bL hp,q⟩
 ·cases e
theorem to_app:To (M6 i f ρ) QS=∃ l,ρ[i]?=some (some (.ow (.lst l)))/\Tv (f ρ) (λp=>l.length<sizeLine/\QS (.nx (ρ.set i (some (.ow (.lst (l++[p]))))))):=by
 refine propext ⟨?_,?_⟩
 ·rintro⟨r,e,c,q⟩;unfold M6 at e;split at e
  ·rename_i l hl;refine⟨l,bL hl,?_⟩;rcases cZ e with⟨z,e1,rfl⟩|⟨p,e1,e2⟩
   ·exact c.elim
   ·split at e2
    ·rename_i hlen;cases e2;exact⟨_,e1,hlen,q⟩
    ·cases e2
  ·cases e
 ·rintro⟨l,e,p,e1,h,q⟩;have eo:ownAt i ρ=some (.lst l):=by unfold ownAt;rw[e]
  unfold To M6;rw[eo];exact⟨.nx _,by simp only[e1,gw];exact Zaf h,trivial,q⟩
theorem mY{c:Int->Int->Bool}{F:Int->Int->PV}{x y:Int}{Q:PV->Prop}:Tv (MP.opI c F (.int x) (.int y)) Q=(c x y=true/\Q (F x y)):=cP
theorem tv_sub{x y:Int}{Q:PV->Prop}:Tv (lR (.int x) (.int y)) Q=Q (.int (x-y)):=by unfold lR;rw[mY];simp[cT]
theorem tv_and'{x y:Int}{Q:PV->Prop}:Tv (kE (.int x) (.int y)) Q=Q (.int (Builtin.bitAnd x y)):=by unfold kE;rw[mY];simp[cT]
theorem tv_or'{x y:Int}{Q:PV->Prop}:Tv (PB (.int x) (.int y)) Q=Q (.int (Builtin.bitOr x y)):=by unfold PB;rw[mY];simp[cT]
theorem tv_gt{x y:Int}{Q:PV->Prop}:Tv (Gm (.int x) (.int y)) Q=Q (.bl (decide (y<x))):=by unfold Gm;rw[mY];simp[cT]
theorem tv_ge{x y:Int}{Q:PV->Prop}:Tv (Tf (.int x) (.int y)) Q=Q (.bl (decide (y<=x))):=by unfold Tf;rw[mY];simp[cT]
theorem tv_div{x y:Int}{Q:PV->Prop}:Tv (wz (.int x) (.int y)) Q=((0<y/\y<1073741824)/\Q (.int (x/y))):=by unfold wz;rw[mY];simp[We]
theorem tv_mod{x y:Int}{Q:PV->Prop}:Tv (gZ (.int x) (.int y)) Q=(0<y/\Q (.int (x%y))):=by unfold gZ;rw[mY];simp[X3]
theorem tv_pow{x y:Int}{Q:PV->Prop}:Tv (KD (.int x) (.int y)) Q=((0<=y/\y<=1000000/\x.natAbs<2^64)/\Q (.int (x^y.toNat))):=by unfold KD;rw[mY];simp[Pz]
theorem tv_shl{x y:Int}{Q:PV->Prop}:Tv (wA (.int x) (.int y)) Q=((0<=y/\y<=1000000/\x.natAbs<2^64)/\Q (.int (x*2^y.toNat))):=by unfold wA;rw[mY];simp[Pz]
theorem tv_shr{x y:Int}{Q:PV->Prop}:Tv (rm (.int x) (.int y)) Q=(0<=y/\Q (.int (x/2^y.toNat))):=by unfold rm;rw[mY];simp[X4]
theorem tv_add{x y:Int}{Q:PV->Prop}:Tv (b7 (.int x) (.int y)) Q=Q (.int (x+y)):=tv_some
theorem tv_addS{x y:Str}{Q:PV->Prop}:Tv (b7 (.str x) (.str y)) Q=(x.length+y.length<=sizeLine/\Q (.str (x++y))):=cP
theorem tv_addT{x y:List PV}{Q:PV->Prop}:Tv (b7 (.tup x) (.tup y)) Q=((x≠[]/\x.length+y.length<=sizeLine)/\Q (.tup (x++y))):=cP
theorem tv_mul{x y:Int}{Q:PV->Prop}:Tv (dC (.int x) (.int y)) Q=(FJ x y/\Q (.int (x*y))):=by
 show Tv (if Py x y=true then _ else none) Q=_
 rw[cP];unfold Py FJ;simp
theorem tv_mulS{z:Str}{n:Int}{Q:PV->Prop}:Tv (dC (.str z) (.int n)) Q=((-(2^63)<=n/\n<2^63/\z.length*n.toNat<=sizeLine)/\Q (.str (Wf z n.toNat))):=cP
theorem tv_lt{x y:Int}{Q:PV->Prop}:Tv (vL (.int x) (.int y)) Q=Q (.bl (decide (x<y))):=tv_some
theorem tv_ltS{x y:Str}{Q:PV->Prop}:Tv (vL (.str x) (.str y)) Q=Q (.bl (decide (x.cps.toList<y.cps.toList))):=tv_some
theorem tv_le{x y:Int}{Q:PV->Prop}:Tv (JC (.int x) (.int y)) Q=Q (.bl (decide (x<=y))):=tv_some
theorem tv_leS{x y:Str}{Q:PV->Prop}:Tv (JC (.str x) (.str y)) Q=Q (.bl (!(decide (y.cps.toList<x.cps.toList)))):=tv_some
theorem tv_eq{p q:PV}{Q:PV->Prop}:Tv (iR p q) Q=∃ r,eqF 32 p q=some r/\Q (.bl r):=by
 refine propext ⟨?_,λ⟨r,e,k⟩=>⟨_,by unfold iR;rw[e],k⟩⟩
 rintro⟨r,e,k⟩;unfold iR at e;split at e
 ·rename_i b hb;cases e;exact⟨b,hb,k⟩
 ·cases e
theorem tv_ne{p q:PV}{Q:PV->Prop}:Tv (ym p q) Q=∃ r,eqF 32 p q=some r/\Q (.bl (!r)):=by
 refine propext ⟨?_,λ⟨r,e,k⟩=>⟨_,by unfold ym;rw[e],k⟩⟩
 rintro⟨r,e,k⟩;unfold ym at e;split at e
 ·rename_i b hb;cases e;exact⟨b,hb,k⟩
 ·cases e
theorem eqF_int(n:Nat)(i j:Int):eqF n (.int i) (.int j)=some (decide (i=j)):=by cases n<;>rfl
theorem eqF_str(n:Nat)(i j:Str):eqF n (.str i) (.str j)=some (decide (i=j)):=by cases n<;>rfl
theorem eqF_bl(n:Nat)(i j:Bool):eqF n (.bl i) (.bl j)=some (decide (i=j)):=by cases n<;>rfl
theorem tv_eqI{x y:Int}{Q:PV->Prop}:Tv (iR (.int x) (.int y)) Q=Q (.bl (decide (x=y))):=by rw[tv_eq,eqF_int];simp
theorem tv_eqS{x y:Str}{Q:PV->Prop}:Tv (iR (.str x) (.str y)) Q=Q (.bl (decide (x=y))):=by rw[tv_eq,eqF_str];simp
theorem tv_neI{x y:Int}{Q:PV->Prop}:Tv (ym (.int x) (.int y)) Q=Q (.bl (!decide (x=y))):=by rw[tv_ne,eqF_int];simp
theorem tv_neS{x y:Str}{Q:PV->Prop}:Tv (ym (.str x) (.str y)) Q=Q (.bl (!decide (x=y))):=by rw[tv_ne,eqF_str];simp
theorem tv_notin{p q:PV}{Q:PV->Prop}:Tv (nW p q) Q=∃ r,inU p q=some r/\Q (.bl (!r)):=by
 refine propext ⟨?_,λ⟨r,e,k⟩=>⟨_,by unfold nW;rw[e],k⟩⟩
 rintro⟨r,e,k⟩;unfold nW at e;split at e
 ·rename_i b hb;cases e;exact⟨b,hb,k⟩
 ·cases e
theorem tv_notN{p:PV}{Q:PV->Prop}:Tv (JD p .non) Q=Q (.bl (!p.Bd)):=tv_some
theorem Ec{x:Option PV}{Q:PV->Prop}:Tv (ofO x) Q=∃ p,x=some p/\Q p:=by
 refine propext ⟨?_,λ⟨p,e,k⟩=>⟨_,by subst e;rfl,k⟩⟩
 rintro⟨r,e,k⟩;obtain⟨p,e1,e2⟩:=ul e;cases e2;exact⟨_,e1,k⟩
theorem tv_ixL{l:List PV}{n:Int}{Q:PV->Prop}:Tv (cz (.lst l) (.int n)) Q=∃ p,atI l n=some p/\Q p:=Ec
theorem tv_ixT{l:List PV}{n:Int}{Q:PV->Prop}:Tv (cz (.tup l) (.int n)) Q=∃ p,atI l n=some p/\Q p:=Ec
theorem tv_ixV{l:List PV}{n:Int}{Q:PV->Prop}:Tv (Gn l (.int n)) Q=∃ p,atI l n=some p/\Q p:=Ec
theorem tv_ixS{z:Str}{n:Int}{Q:PV->Prop}:Tv (cz (.str z) (.int n)) Q=(z.length<=sizeLine/\∃ c,atI z.cps.toList n=some c/\Q (.str ⟨#[c]⟩)):=by
 show Tv (if z.length<=sizeLine then _ else none) Q=_
 by_cases hz:z.length<=sizeLine
 ·rw[Zaf hz,Ec];simp only[hz,true_and];refine propext ⟨?_,λ⟨c,e,k⟩=>⟨_,by rw[e];rfl,k⟩⟩
  rintro⟨p,e,k⟩;cases e1:atI z.cps.toList n with
  |none=>rw[e1] at e;cases e
  |some c=>rw[e1] at e;cases e;exact⟨c,rfl,k⟩
 ·rw[Zad hz];exact propext ⟨λ⟨r,e,q⟩=>(nomatch e),λ⟨z,_⟩=>absurd z hz⟩
theorem tv_lenS{z:Str}{Q:PV->Prop}:Tv (kJ (.str z)) Q=(z.length<=sizeLine/\Q (.int z.length)):=cP
theorem tv_lenL{l:List PV}{Q:PV->Prop}:Tv (kJ (.lst l)) Q=Q (.int l.length):=tv_some
theorem tv_lenT{l:List PV}{Q:PV->Prop}:Tv (kJ (.tup l)) Q=Q (.int l.length):=tv_some
theorem tv_is{T:String}{Q:PV->Prop}:Tv (yu p (.ty T)) Q=∃ b,isI p T=some b/\Q (.bl b):=by
 refine propext ⟨?_,λ⟨r,e,k⟩=>⟨_,by unfold yu;simp only[e],k⟩⟩
 rintro⟨r,e,k⟩;unfold yu at e;simp only at e;split at e
 ·rename_i b hb;cases e;exact⟨b,hb,k⟩
 ·cases e
theorem tv_asBl{b:Bool}{Q:Bool->Prop}:Tv (cV (.bl b)) Q=Q b:=tv_some
theorem tv_intI{x:Int}{Q:PV->Prop}:Tv (Gu (.int x)) Q=Q (.int x):=tv_some
theorem tv_intB{x:Bool}{Q:PV->Prop}:Tv (Gu (.bl x)) Q=Q (.int (if x then 1 else 0)):=tv_some
theorem tv_list{l:List PV}{Q:PV->Prop}:Tv (JH l) Q=Q (.lst l):=tv_some
theorem tv_cat{l m:List PV}{Q:PV->Prop}:Tv (Be l m) Q=(l.length+m.length<=sizeLine/\Q (.lst (l++m))):=cP
theorem tv_asSeqL{l:List PV}{Q:List PV->Prop}:Tv (jG (.lst l)) Q=Q l:=tv_some
theorem tv_asSeqT{l:List PV}{Q:List PV->Prop}:Tv (jG (.tup l)) Q=Q l:=tv_some
theorem tv_asSeqS{z:Str}{Q:List PV->Prop}:Tv (jG (.str z)) Q=Q (signs z):=tv_some
theorem tv_rng1{j:Int}{Q:List PV->Prop}:Tv (vM [.int j]) Q=((-(2^62)<=j/\j<2^62)/\Q (pC 0 j.toNat)):=cP
theorem tv_rng2{x y:Int}{Q:List PV->Prop}:Tv (su [.int x,.int y]) Q=((-(2^62)<=x/\x<2^62/\-(2^62)<=y/\y<2^62)/\Q (pC x (y-x).toNat)):=cP
theorem tv_enum{l:List PV}{Q:List PV->Prop}:Tv (JF [.lst l]) Q=Q (wB l):=tv_some
theorem tv_pn{Q:Option Int->Prop}:Tv (mPn ρ) Q=Q none:=tv_some
theorem tv_asInt{x:Int}{Q:Option Int->Prop}:Tv (asInt (.int x)) Q=Q (some x):=tv_some
theorem tv_slL{f:Fn (List PV)}{lo hi:Fn (Option Int)}{Q:PV->Prop}:Tv (Ti f lo hi ρ) Q=Tv (f ρ) (λl=>Tv (lo ρ) (λa=>Tv (hi ρ) (λb=>Q (.lst (yr l a b))))):=by
 unfold Ti;simp only[tv_bnd,tv_some]
theorem tv_opSlT{l:List PV}{a b:Option Int}{Q:PV->Prop}:Tv (PP a b (.tup l)) Q=(¬(HT.sIx l.length 0 a=0/\HT.sIx l.length l.length b=l.length)/\Q (.tup (yr l a b))):=cP
theorem tv_slT{lo hi:Fn (Option Int)}{Q:PV->Prop}:Tv (Tj f lo hi ρ) Q=Tv (f ρ) (λz=>Tv (lo ρ) (λa=>Tv (hi ρ) (λb=>Tv (PP a b z) Q))):=by
 unfold Tj;simp only[tv_bnd]
end
section
variable{QS:Out->Prop}{ρ:Rho}{j:Nat}
theorem finIO_nx{p:PV}:(Yd j (some (.nx ρ))=some (.ok p))=(ρ[j]?=some (some (.ow p))):=by
 show((match ownAt j ρ with|some p=>some (Res.ok p)|none=>none)=some (.ok p))=_
 cases h:ownAt j ρ with
 |none=>exact propext ⟨λe=>(nomatch e),λe=>by unfold ownAt at h;rw[e] at h;cases h⟩
 |some q=>exact propext ⟨λe=>by cases e;exact bL h,λe=>by rw[bL h] at e;cases e;rfl⟩
theorem to_never:To (JL ρ) QS=False:=Eb
end
def turn(I:Rho->Prop)(QS:Out->Prop):Out->Prop
 |.nx ρ=>I ρ
 |.ct ρ=>I ρ
 |.bk ρ=>QS (.nx ρ)
 |o=>QS o
theorem turn_nx{I:Rho->Prop}{QS:Out->Prop}{ρ:Rho}:turn I QS (.nx ρ)=I ρ:=rfl
theorem turn_ct{I:Rho->Prop}{QS:Out->Prop}{ρ:Rho}:turn I QS (.ct ρ)=I ρ:=rfl
theorem turn_bk{I:Rho->Prop}{QS:Out->Prop}{ρ:Rho}:turn I QS (.bk ρ)=QS (.nx ρ):=rfl
theorem turn_rt{I:Rho->Prop}{QS:Out->Prop}{p:PV}:turn I QS (.rt p)=QS (.rt p):=rfl
theorem turn_ro{I:Rho->Prop}{QS:Out->Prop}{p:PV}:turn I QS (.ro p)=QS (.ro p):=rfl
theorem turn_rd{I:Rho->Prop}{QS:Out->Prop}{p:PV}:turn I QS (.rd p)=QS (.rd p):=rfl
theorem Lp{tg:PV->Rho->Option Rho}{body:Sn}{QS:Out->Prop}(I:Nat->Rho->Prop):∀ {l:List PV}{ρ:Rho},I 0 ρ ->
  (∀ (i:Nat) x ρ,l[i]?=some x->I i ρ->∃ ρ1,tg x ρ=some ρ1/\To (body ρ1) (turn (I (i+1)) QS)) ->
  (∀ ρ',I l.length ρ'->QS (.nx ρ'))->To (loop tg body l ρ) QS:=by
 intro l;induction l generalizing I with
 |nil=>exact λh0 _ hd=>⟨_,rfl,trivial,hd _ h0⟩
 |cons x xs ih=>
  intro ρ h0 hs hd;obtain⟨ρ1,e1,o,e2,c,q⟩:=hs 0 x ρ rfl h0;unfold To;rw[loop,e1];simp only[e2];cases o with
  |nx ρ2=>exact ih (λi=>I (i+1)) q (λi y ρ e=>hs (i+1) y ρ (by simpa using e)) hd
  |ct ρ2=>exact ih (λi=>I (i+1)) q (λi y ρ e=>hs (i+1) y ρ (by simpa using e)) hd
  |bk ρ2=>exact⟨_,rfl,trivial,q⟩
  |rt p=>exact⟨_,rfl,trivial,q⟩
  |ro p=>exact⟨_,rfl,trivial,q⟩
  |rd p=>exact⟨_,rfl,trivial,q⟩
  |ex z=>exact c.elim
theorem p7{x:Option Out}{I:Rho->Prop}{Q:Out->Prop}(h:∀ QS:Out->Prop,(∀ ρ,I ρ->QS (.nx ρ))->To x QS):To x (turn I Q):=h _ λ_ h=>h
theorem Vt{x:Option Out}{I:Rho->Prop}{Q:Out->Prop}(h:∀ QS:Out->Prop,(∀ ρ,I ρ->QS (.nx ρ))->(∀ ρ,I ρ->QS (.ct ρ))->(∀ p,Q (.rt p)->QS (.rt p))->(∀ p,Q (.ro p)->QS (.ro p))->(∀ p,Q (.rd p)->QS (.rd p))->To x QS):To x (turn I Q):=h _ (λ_ h=>h) (λ_ h=>h) (λ_ h=>h) (λ_ h=>h) λ_ h=>h
theorem nC{x:Option Out}{Q:Out->Prop}(h:∀ QS:Out->Prop,(∀ o,Q o->QS o)->To x QS):To x Q:=h _ λ_ h=>h
theorem dR{j:Nat}{body:Sn}{QS:Out->Prop}(I:Nat->Rho->Prop){l:List PV}{ρ:Rho}(h0:I 0 ρ)
  (hs:∀ (i:Nat) x ρ,l[i]?=some x->I i ρ->To (body (ρ.set j (some (.sh x)))) (turn (I (i+1)) QS))(hd:∀ ρ',I l.length ρ'->QS (.nx ρ')):To (loop (gN j) body l ρ) QS:=
 Lp I h0 (λi x ρ e hI=>⟨_,rfl,hs i x ρ e hI⟩) hd
theorem p8{fc:Fn Bool}{body:Sn}{QS:Out->Prop}(I:Nat->Rho->Prop):∀ {n:Nat}{ρ:Rho},I n ρ ->
  (∀ (n:Nat) ρ,I n ρ->Tv (fc ρ) (λb=>if b=true then 0<n/\To (body ρ) (turn (I (n-1)) QS) else QS (.nx ρ)))->To (ik fc body (n+1) ρ) QS:=by
 intro n;induction n with
 |zero=>
  intro ρ h0 hs;rw[ik,to_bnd];obtain⟨b,e,q⟩:=hs 0 ρ h0;refine⟨b,e,?_⟩;cases b with
  |true=>exact absurd q.1 (ZbO _)
  |false=>exact⟨_,rfl,trivial,q⟩
 |succ n ih=>
  intro ρ h0 hs;rw[ik,to_bnd];obtain⟨b,e,q⟩:=hs (n+1) ρ h0;refine⟨b,e,?_⟩;cases b with
  |false=>exact⟨_,rfl,trivial,q⟩
  |true=>
   obtain⟨_,o,e2,c,q2⟩:=q;show To (if true=true then _ else _) QS
   rw[Zaf rfl];simp only[e2];cases o with
   |nx ρ2=>exact ih q2 hs
   |ct ρ2=>exact ih q2 hs
   |bk ρ2=>exact⟨_,rfl,trivial,q2⟩
   |rt p=>exact⟨_,rfl,trivial,q2⟩
   |ro p=>exact⟨_,rfl,trivial,q2⟩
   |rd p=>exact⟨_,rfl,trivial,q2⟩
   |ex z=>exact c.elim
theorem jF{x:Option Out}{r:Res PV}(h:To x λo=>fin (some o)=some r):fin x=some r:=by
 obtain⟨o,e,_,q⟩:=h;rw[e];exact q
theorem uK{x:Option Out}{r:Res PV}(h:To x λo=>sI (some o)=some r):sI x=some r:=by
 obtain⟨o,e,_,q⟩:=h;rw[e];exact q
theorem vW{x:Option Out}{P:PV->Prop}(h:To x λo=>∃ p,fin (some o)=some (.ok p)/\P p):∃ p,fin x=some (.ok p)/\P p:=by
 obtain⟨o,e,_,q⟩:=h;rw[e];exact q
theorem Ed{x:Option Out}{P:PV->Prop}(h:To x λo=>∃ p,sI (some o)=some (.ok p)/\P p):∃ p,sI x=some (.ok p)/\P p:=by
 obtain⟨o,e,_,q⟩:=h;rw[e];exact q
theorem fin_nx{ρ:Rho}:fin (some (.nx ρ))=some (.ok .non):=rfl
theorem fin_rt{p:PV}:fin (some (.rt p))=some (.ok p):=rfl
theorem finO_ro{p:PV}:sI (some (.ro p))=some (.ok p):=rfl
theorem QZ{tg:PV->Rho->Option Rho}{body:Sn}{ρ:Rho}:loop tg body [] ρ=some (.nx ρ):=rfl
theorem BJ{tg:PV->Rho->Option Rho}{body:Sn}{x:PV}{xs:List PV}{ρ ρ1 ρ2:Rho}(h1:tg x ρ=some ρ1)(h2:body ρ1=some (.nx ρ2)):loop tg body (x::xs) ρ=loop tg body xs ρ2:=by
 rw[loop,h1];simp only[h2]
theorem zf{tg:PV->Rho->Option Rho}{tst:Fn Bool}{el:Fn PV}{ρb:Rho}(t:PV->Bool)(f:PV->PV):∀ (l:List PV),
  (∀ x∈l,∃ ρ1,tg x ρb=some ρ1/\tst ρ1=some (.ok (t x))/\(t x=true->el ρ1=some (.ok (f x))))->fj tg tst el ρb l=some (.ok ((l.filter t).map f))
 |[],_=>rfl
 |x::xs,h=>by
  obtain⟨ρ1,e1,e2,e3⟩:=h x List.mem_cons_self;have ih:=zf t f xs λy hy=>h y (List.mem_cons_of_mem _ hy);rw[fj,e1];simp only[e2,bnd];cases ht:t x with
  |true=>rw[Zaf rfl,e3 ht];simp only[ih,List.filter_cons,ht,ZbJ,Zap]
  |false=>rw[Zad (by decide)];simp only[ih,List.filter_cons,ht,Zbf,Zbh]
theorem Nz{tg:PV->Rho->Option Rho}{el:Fn PV}{ρb:Rho}(f:PV->PV)(l:List PV)(h:∀ x∈l,∃ ρ1,tg x ρb=some ρ1/\el ρ1=some (.ok (f x))):fj tg uo el ρb l=some (.ok (l.map f)):=by
 have:=zf (tg:=tg) (tst:=uo) (el:=el) (ρb:=ρb) (λ_=>true) f l λx hx=>let⟨ρ1,a,b⟩:=h x hx;⟨ρ1,a,rfl,λ_=>b⟩
 rwa [ZbR.mpr λ_ _=>rfl] at this
theorem tv_compN{tg:PV->Rho->Option Rho}{tst:Fn Bool}{el:Fn PV}{ρb:Rho}{Q:List PV->Prop}:Tv (fj tg tst el ρb []) Q=Q []:=tv_some
theorem tv_compC{j:Nat}{tst:Fn Bool}{el:Fn PV}{ρb:Rho}{x:PV}{xs:List PV}{Q:List PV->Prop}:Tv (fj (gN j) tst el ρb (x::xs)) Q =
  Tv (tst (ρb.set j (some (.sh x)))) (λb=>if b=true then Tv (el (ρb.set j (some (.sh x)))) (λp=>Tv (fj (gN j) tst el ρb xs) (λr=>Q (p::r))) else Tv (fj (gN j) tst el ρb xs) Q):=by
 rw[fj];simp only[gN,tv_bnd,tv_ite,tv_some]
theorem tv_yes{ρ:Rho}{Q:Bool->Prop}:Tv (uo ρ) Q=Q true:=tv_some
theorem mj{α:Type}{x:Option (Res α)}{q:α}(h:Tv x λp=>p=q):x=some (.ok q):=by
 obtain⟨p,e,rfl⟩:=h;exact e
theorem Yp{j:Nat}{el:Fn PV}{ρb:Rho}{l:List PV}(f:PV->PV)(h:∀ x∈l,Tv (el (ρb.set j (some (.sh x)))) λp=>p=f x):fj (gN j) uo el ρb l=some (.ok (l.map f)):=
 Nz f l λx hx=>⟨_,rfl,mj (h x hx)⟩
theorem Yq{j:Nat}{tst:Fn Bool}{el:Fn PV}{ρb:Rho}{l:List PV}(t:PV->Bool)(f:PV->PV)(h:∀ x∈l,Tv (tst (ρb.set j (some (.sh x)))) λb=>b=t x)(h2:∀ x∈l,t x=true->Tv (el (ρb.set j (some (.sh x)))) λp=>p=f x) :
  fj (gN j) tst el ρb l=some (.ok ((l.filter t).map f)):=
 zf t f l λx hx=>⟨_,rfl,mj (h x hx),λht=>mj (h2 x hx ht)⟩
def szP(w h:Int):PV:=.tup [.int w,.int h]
def cellP(c:Int×Int):PV:=.tup [.int c.1,.int c.2]
theorem snocI(l:List Int)(a:Int):l.map PV.int++[PV.int a]=(l++[a]).map PV.int:=by rw[Zbi];rfl
theorem snocS(l:List Str)(a:Str):l.map PV.str++[PV.str a]=(l++[a]).map PV.str:=by rw[Zbi];rfl
theorem snocC(l:List (Int×Int))(a b:Int):l.map cellP++[PV.tup [.int a,.int b]]=(l++[(a,b)]).map cellP:=by rw[Zbi];rfl
theorem is_non_int:isI .non "int"=some false:=rfl
theorem is_non_bool:isI .non "bool"=some false:=rfl
theorem is_non_str:isI .non "str"=some false:=rfl
theorem is_non_list:isI .non "list"=some false:=rfl
theorem is_non_tuple:isI .non "tuple"=some false:=rfl
theorem is_non_dict:isI .non "dict"=some false:=rfl
theorem is_bl_int{b:Bool}:isI (.bl b) "int"=some true:=rfl
theorem is_bl_bool{b:Bool}:isI (.bl b) "bool"=some true:=rfl
theorem is_bl_str{b:Bool}:isI (.bl b) "str"=some false:=rfl
theorem is_bl_list{b:Bool}:isI (.bl b) "list"=some false:=rfl
theorem is_bl_tuple{b:Bool}:isI (.bl b) "tuple"=some false:=rfl
theorem is_bl_dict{b:Bool}:isI (.bl b) "dict"=some false:=rfl
theorem is_int_int{i:Int}:isI (.int i) "int"=some true:=rfl
theorem is_int_bool{i:Int}:isI (.int i) "bool"=some false:=rfl
theorem is_int_str{i:Int}:isI (.int i) "str"=some false:=rfl
theorem is_int_list{i:Int}:isI (.int i) "list"=some false:=rfl
theorem is_int_tuple{i:Int}:isI (.int i) "tuple"=some false:=rfl
theorem is_int_dict{i:Int}:isI (.int i) "dict"=some false:=rfl
theorem is_str_int{z:Str}:isI (.str z) "int"=some false:=rfl
theorem is_str_bool{z:Str}:isI (.str z) "bool"=some false:=rfl
theorem is_str_str{z:Str}:isI (.str z) "str"=some true:=rfl
theorem is_str_list{z:Str}:isI (.str z) "list"=some false:=rfl
theorem is_str_tuple{z:Str}:isI (.str z) "tuple"=some false:=rfl
theorem is_str_dict{z:Str}:isI (.str z) "dict"=some false:=rfl
theorem is_tup_int{l:List PV}:isI (.tup l) "int"=some false:=rfl
theorem is_tup_bool{l:List PV}:isI (.tup l) "bool"=some false:=rfl
theorem is_tup_str{l:List PV}:isI (.tup l) "str"=some false:=rfl
theorem is_tup_list{l:List PV}:isI (.tup l) "list"=some false:=rfl
theorem is_tup_tuple{l:List PV}:isI (.tup l) "tuple"=some true:=rfl
theorem is_tup_dict{l:List PV}:isI (.tup l) "dict"=some false:=rfl
theorem is_lst_int{l:List PV}:isI (.lst l) "int"=some false:=rfl
theorem is_lst_bool{l:List PV}:isI (.lst l) "bool"=some false:=rfl
theorem is_lst_str{l:List PV}:isI (.lst l) "str"=some false:=rfl
theorem is_lst_list{l:List PV}:isI (.lst l) "list"=some true:=rfl
theorem is_lst_tuple{l:List PV}:isI (.lst l) "tuple"=some false:=rfl
theorem is_lst_dict{l:List PV}:isI (.lst l) "dict"=some false:=rfl
theorem HB{α:Type}{g:α->PV}[DecidableEq α](h:∀ a b,eqF 31 (g a) (g b)=some (decide (a=b)))(a:α):∀ l:List α,inF (g a) (l.map g)=some (decide (a∈l))
 |[]=>rfl
 |x::xs=>by
  rw[Zap,inF,h x a,HB h a xs];simp only[ZaA,Bool.decide_or];congr 2
  exact decide_eq_decide.mpr ⟨λe=>e.symm,λe=>e.symm⟩
theorem Ur{α:Type}{g:α->PV}[DecidableEq α](h:∀ a b,eqF 31 (g a) (g b)=some (decide (a=b)))(a:α)(l:List α)[Decidable (a∈l)]:inF (g a) (l.map g)=some (decide (a∈l)):=by
 rw[HB h a l];congr 1
 exact decide_eq_decide.mpr Iff.rfl
theorem BK{ns:List Int}{i:Int}(h0:0<=i)(h:i<ns.length):atI (ns.map PV.int) i=some (.int (ns.getD i.toNat 0)):=by
 obtain⟨v,e1,e2⟩:=Oz (xs:=ns.map PV.int) h0 (by rw[List.length_map];exact h)
 rw[e1];rw[List.getElem?_map] at e2;have hl:i.toNat<ns.length:=by lia
 rw[List.getElem?_eq_getElem hl] at e2;rw[List.getD_eq_getElem?_getD,List.getElem?_eq_getElem hl];exact e2.symm
theorem atI_0{p:PV}{l:List PV}:atI (p::l) 0=some p:=lN (j:=0) rfl
theorem atI_1{p q:PV}{l:List PV}:atI (p::q::l) 1=some q:=lN (j:=1) rfl
theorem atI_2{p q r:PV}{l:List PV}:atI (p::q::r::l) 2=some r:=lN (j:=2) rfl
theorem atI_3{p q r s:PV}{l:List PV}:atI (p::q::r::s::l) 3=some s:=lN (j:=3) rfl
theorem is_dk_int{l:List (Key×PV)}:isI (.dk l) "int"=some false:=rfl
theorem is_dk_str{l:List (Key×PV)}:isI (.dk l) "str"=some false:=rfl
theorem tv_neg{i:Int}{Q:PV->Prop}:Tv (KR (.int i)) Q=Q (.int (-i)):=tv_some
section
variable{ρ:Rho}{f g h:Fn PV}{i:Nat}{Q:PV->Prop}{QS:Out->Prop}{d k p:PV}{l:List PV}
theorem Q0:Tv (asD p) Q=(p.isD=true/\Q p):=cP
theorem tv_viewD:Tv (Dq f ρ) Q=Tv (f ρ) (λp=>p.isD=true/\Q p):=by unfold Dq;rw[tv_bnd];simp only[Q0]
theorem tv_viewDN:Tv (fu i ρ) Q=Tv (mVL i ρ) (λp=>p.isD=true/\Q p):=by unfold fu;rw[tv_bnd];simp only[Q0]
theorem Ef{α:Type}{o:Option α}{F:α->PV}:Tv (o.map λr=>Res.ok (F r)) Q=∃ r,o=some r/\Q (F r):=by
 cases o with
 |none=>exact propext ⟨(λ⟨_,e,_⟩=>by cases e),(λ⟨_,e,_⟩=>by cases e)⟩
 |some r=>exact propext ⟨λ⟨_,e,q⟩=>by cases e;exact⟨r,rfl,q⟩,λ⟨_,e,q⟩=>by cases e;exact⟨_,rfl,q⟩⟩
theorem tv_dget1:Tv (Dr f g ρ) Q=Tv (f ρ) (λd=>Tv (g ρ) (λk=>∃ r,gm d k=some r/\Q (r.getD .non))):=by
 unfold Dr;simp only[tv_bnd,Ef]
theorem tv_opDGet:Tv (mX d k) Q=∃ p,gm d k=some (some p)/\Q p:=by
 unfold mX;split
 ·rename_i p h;rw[h,tv_some];exact propext ⟨λq=>⟨p,rfl,q⟩,λ⟨_,e,q⟩=>by cases e;exact q⟩
 ·rename_i h;rw[xJ];exact propext ⟨λz=>z.elim,λ⟨p,e,_⟩=>(h p e).elim⟩
theorem tv_opDIn:Tv (Bg k d) Q=∃ r,gm d k=some r/\Q (.bl r.isSome):=by unfold Bg;rw[Ef]
theorem tv_opDNotIn:Tv (nj k d) Q=∃ r,gm d k=some r/\Q (.bl (!r.isSome)):=by unfold nj;rw[Ef]
theorem tv_dictP:Tv (ut d l) Q=∃ ps d',nZ l=some ps/\jj d ps=some d'/\Q d':=by
 unfold ut;split
 ·rename_i ps h;rw[h];refine propext ⟨?_,?_⟩
  ·rintro⟨r,e,q⟩;cases h2:jj d ps with
   |none=>rw[h2] at e;cases e
   |some d'=>rw[h2] at e;cases e;exact⟨ps,_,rfl,h2,q⟩
  ·rintro⟨ps',d',e1,e2,q⟩;cases e1;exact⟨d',by rw[e2];rfl,q⟩
 ·rename_i h;rw[xJ];exact propext ⟨λz=>z.elim,λ⟨ps,_,e,_⟩=>by rw[h] at e;cases e⟩
theorem tv_newT:Tv (wC ρ) Q=Q (.dt []):=tv_some
theorem to_dput:To (ur i f g ρ) QS=Tv (f ρ) (λp=>∃ d,ρ[i]?=some (some (.ow d))/\Tv (g ρ) (λk=>∃ d',Gz d k p=some d'/\QS (.nx (ρ.set i (some (.ow d')))))):=by
 unfold ur;rw[to_bnd];congr 1;funext p
 refine propext ⟨?_,?_⟩
 ·rintro⟨r,e,c,q⟩;split at e
  ·rename_i d hd;refine⟨d,bL hd,?_⟩;rcases cZ e with⟨z,e1,rfl⟩|⟨k,e1,e2⟩
   ·exact c.elim
   ·split at e2
    ·rename_i d' h';cases e2;exact⟨k,e1,d',h',q⟩
    ·cases e2
  ·cases e
 ·rintro⟨d,e,k,e1,d',h1,q⟩;refine⟨.nx (ρ.set i (some (.ow d'))),?_,trivial,q⟩;have eo:ownAt i ρ=some d:=by unfold ownAt;rw[e]
  rw[eo];simp only[e1,Tc,h1]
end
section
variable{l:List (Key×PV)}{t:List (List Key×PV)}{ks:List PV}{n:Int}{z:Str}
theorem dF_int:gm (.dk l) (.int n)=some (dg l (.inl n)):=rfl
theorem dF_str:gm (.dk l) (.str z)=some (dg l (.inr z)):=rfl
theorem dF_tup:gm (.dt t) (.tup ks)=(dD ks).map (dg t):=rfl
theorem isD_dk:(PV.dk l).isD=true:=rfl
theorem isD_dt:(PV.dt t).isD=true:=rfl
end
section
variable{κ:Type}[DecidableEq κ]
theorem nF(k j:κ)(p:PV):∀ l:List (κ×PV),dg (fK l k p) j=if j=k then some p else dg l j
 |[]=>by
  unfold fK dg;by_cases h:k=j
  ·rw[Zaf h,Zaf h.symm]
  ·rw[Zad h,Zad (Zbr h)];rfl
 |(a,q)::l=>by
  have ih:=nF k j p l;unfold fK;by_cases h:a=k
  ·rw[Zaf h];subst h;unfold dg;by_cases h2:a=j
   ·rw[Zaf h2,Zaf h2.symm]
   ·rw[Zad h2,Zad (Zbr h2),Zad h2];split
    ·rw[ih,Zad (Zbr h2)]
    ·rfl
  ·rw[Zad h];unfold dg;by_cases h2:a=j
   ·rw[Zaf h2,Zaf h2,Zad (λz=>h (h2.trans z))]
   ·rw[Zad h2,Zad h2,ih]
theorem qb(k:κ)(p:PV):∀ l:List (κ×PV),(fK l k p).length<=l.length+1
 |[]=>by simp[fK]
 |(a,q)::l=>by
  have ih:=qb k p l;unfold fK;split
  ·split
   ·simp only[ZaF];lia
   ·simp only[ZaF];lia
  ·simp only[ZaF];lia
end
section
variable{f g:Fn PV}{ρ:Rho}{Q:PV->Prop}{QS:Out->Prop}{i:Nat}{p:PV}
theorem tv_deep:Tv (GF f ρ) Q=Tv (f ρ) (λp=>∃ l,p=.lst l/\l.all PV.still=true/\Q (.lst l)):=by
 unfold GF;rw[tv_bnd];congr 1;funext p
 refine propext ⟨?_,?_⟩
 ·rintro⟨r,e,q⟩;cases p with
  |lst l=>
   have e:(if l.all PV.still=true then some (Res.ok (PV.lst l)) else none)=some (.ok r):=e;split at e
   ·rename_i h;cases e;exact⟨l,rfl,h,q⟩
   ·cases e
  |_=>cases e
 ·rintro⟨l,rfl,h,q⟩;exact⟨_,Zaf h,q⟩
theorem tv_still:Tv (yG f ρ) Q=Tv (f ρ) (λp=>p.still=true/\Q p):=by
 unfold yG;rw[tv_bnd];congr 1;funext p
 exact cP
theorem to_setD:To (wD i f ρ) QS=Tv (f ρ) (λp=>QS (.nx (ρ.set i (some (.dp p))))):=by unfold wD;simp only[to_bnd,to_nx]
theorem to_retD:To (KY f ρ) QS=Tv (f ρ) (λp=>QS (.rd p)):=by unfold KY;simp only[to_bnd,to_rd]
theorem to_retDp:To (vN i ρ) QS=∃ p,ρ[i]?=some (some (.dp p))/\QS (.rd p):=by
 refine propext ⟨?_,λ⟨p,e,q⟩=>⟨.rd p,by unfold vN uA;rw[e],trivial,q⟩⟩
 rintro⟨r,e,c,q⟩;unfold vN at e;split at e
 ·rename_i p hp;cases e;exact⟨p,dG hp,q⟩
 ·cases e
theorem tv_fzT{f:Fn Bool}{Q:Bool->Prop}:Tv (Ng i f ρ) Q=∃ p,ρ[i]?=some (some (.dp p))/\Tv (f (ρ.set i (some (.sh p)))) Q:=by
 refine propext ⟨?_,λ⟨p,e,r,e2,q⟩=>⟨r,by unfold Ng uA;rw[e];exact e2,q⟩⟩
 rintro⟨r,e,q⟩;unfold Ng at e;split at e
 ·rename_i p hp;exact⟨p,dG hp,r,e,q⟩
 ·cases e
theorem finT_rd:Dv (some (.rd p))=some (.ok p):=rfl
theorem Us{x:Option Out}{r:Res PV}(h:To x λo=>Dv (some o)=some r):Dv x=some r:=by
 obtain⟨o,e,_,q⟩:=h;rw[e];exact q
theorem Lq{x:Option Out}{P:PV->Prop}(h:To x λo=>∃ p,Dv (some o)=some (.ok p)/\P p):∃ p,Dv x=some (.ok p)/\P p:=by
 obtain⟨o,e,_,q⟩:=h;rw[e];exact q
theorem HD{l:List PV}{n:Int}{j:Nat}{row:List PV}{q:PV}(h:ρ[i]?=some (some (.dp (.tup l))))(h0:(PV.tup l).still=false)(hi:f ρ=some (.ok (.int n)))(hj:ixN l.length n=some j)(hr:l[j]?=some (.lst row))(he:g ρ=some (.ok q))(st:q.still=true)(hl:row.length<sizeLine)(h1:(PV.tup (l.set j (.lst (row++[q])))).still=false)
  (hs:QS (.nx (ρ.set i (some (.dp (.tup (l.set j (.lst (row++[q])))))))) ):To (Bj i f g ρ) QS:=by
 have ho:uA i ρ=some (.tup l):=by unfold uA;rw[h]
 unfold Bj;rw[ho];exact⟨.nx (ρ.set i (some (.dp (.tup (l.set j (.lst (row++[q]))))))),by simp only[Zaf h0,hi,gw,hj,hr,he];rw[Zaf ⟨st,hl,h1⟩],trivial,hs⟩
theorem tv_zip{l m:List PV}{Q:List PV->Prop}:Tv (Qo [.lst l,.lst m]) Q=Q (JR l m):=tv_some
end
section
variable{f:Fn PV}{ρ:Rho}{Q:PV->Prop}{QS:Out->Prop}{i j:Nat}{s:Sn}{p:PV}
theorem oG:∀ ns:List Int,pU (ns.map .int)=some ns
 |[]=>rfl
 |n::ns=>by show(pU (ns.map .int)).map (n::·)=_;rw[oG ns];rfl
theorem tv_holdE:Tv (n6 i f ρ) Q=∃ p,ρ[i]?=some (some (.sh p))/\p.isD=true/\Tv (f ρ) Q:=by
 refine propext ⟨?_,λ⟨p,e,d,r,e2,q⟩=>⟨r,by unfold n6;rw[e];simp only;rw[Zaf d];exact e2,q⟩⟩
 rintro⟨r,e,q⟩;unfold n6 at e;split at e
 ·rename_i p hp;split at e
  ·rename_i d;exact⟨p,hp,d,r,e,q⟩
  ·cases e
 ·cases e
def Lr(QS:Out->Prop):Out->Prop
 |.rd _=>False
 |o=>QS o
theorem holdQ_nx:Lr QS (.nx ρ)=QS (.nx ρ):=rfl
theorem holdQ_rt:Lr QS (.rt p)=QS (.rt p):=rfl
theorem holdQ_ro:Lr QS (.ro p)=QS (.ro p):=rfl
theorem to_hold:To (Bl i s ρ) QS=∃ p,ρ[i]?=some (some (.sh p))/\p.isD=true/\To (s ρ) (Lr QS):=by
 refine propext ⟨?_,λ⟨p,e,d,o,e2,c,q⟩=>⟨o,?_,c,?_⟩⟩
 ·rintro⟨o,e,c,q⟩;unfold Bl at e;split at e
  ·rename_i p hp;split at e
   ·rename_i d;refine⟨p,hp,d,o,?_⟩;split at e
    ·cases e
    ·rename_i x hx;refine⟨e,c,?_⟩;cases o with
     |rd y=>exact(hx y e).elim
     |_=>exact q
   ·cases e
  ·cases e
 ·unfold Bl;rw[e];simp only;rw[Zaf d,e2];cases o with
  |rd y=>exact q.elim
  |_=>rfl
 ·cases o with
  |rd y=>exact q.elim
  |_=>exact q
theorem to_io2{m:List PV->Option (Res PV)}{f:Fn (List PV)}:To (Nj i j m f ρ) QS=∃ p q,ρ[i]?=some (some (.ow p))/\ρ[j]?=some (some (.ow q))/\Tv (f ρ) (λl=>∃ p' q',m (p::q::l)=some (.ok (.tup [p',q']))/\QS (.nx ((ρ.set i (some (.ow p'))).set j (some (.ow q'))))):=by
 refine propext ⟨λh=>?_,?_⟩
 ·unfold Nj at h;rw[to_bnd] at h;obtain⟨l,e,o,e2,c,h⟩:=h;unfold xn at e;split at e
  ·rename_i p q h1 h2;rcases bM e with⟨z,_,e3⟩|⟨l',e3,e4⟩
   ·cases e3
   ·cases e4;split at e2
    ·rename_i p' q' hm;cases e2;exact⟨p,q,bL h1,bL h2,l',e3,p',q',hm,h⟩
    ·cases e2
  ·cases e
 ·rintro⟨p,q,e1,e2,l,e3,p',q',e4,h⟩;have o1:ownAt i ρ=some p:=by unfold ownAt;rw[e1]
  have o2:ownAt j ρ=some q:=by unfold ownAt;rw[e2]
  refine⟨.nx ((ρ.set i (some (.ow p'))).set j (some (.ow q'))),?_,trivial,h⟩;unfold Nj xn;rw[o1,o2];simp only[e3,bnd,gw,e4]
theorem tv_callT{m:List PV->Option (Res PV)}{f:Fn (List PV)}:Tv (DG m f ρ) Q=Tv (f ρ) (λl=>Tv (m l) Q):=by
 unfold DG;rw[tv_bnd];congr 1;funext l
 refine propext ⟨?_,λ⟨r,e,q⟩=>⟨r,by rw[e],q⟩⟩
 rintro⟨r,e,q⟩;split at e
 ·rename_i p hp;cases e;exact⟨_,hp,q⟩
 ·cases e
theorem to_frzD:To (wF i s ρ) QS=∃ p,ρ[i]?=some (some (.dp p))/\To (s (ρ.set i (some (.sh p)))) QS:=by
 refine propext ⟨?_,λ⟨p,e,r,e2,q⟩=>⟨r,by unfold wF uA;rw[e];exact e2,q⟩⟩
 rintro⟨r,e,q⟩;unfold wF at e;split at e
 ·rename_i p hp;exact⟨p,dG hp,r,e,q⟩
 ·cases e
theorem tv_ownD:Tv (rA i ρ) Q=∃ p,ρ[i]?=some (some (.ow p))/\p.ou=true/\Q p:=by
 refine propext ⟨?_,λ⟨p,e,h,q⟩=>⟨p,by unfold rA ownAt;rw[e];simp only;rw[Zaf h],q⟩⟩
 rintro⟨r,e,q⟩;unfold rA at e;split at e
 ·rename_i p hp;split at e
  ·rename_i h;cases e;exact⟨_,bL hp,h,q⟩
  ·cases e
 ·cases e
theorem to_retT{f:Fn (List PV)}:To (GZ f ρ) QS=Tv (f ρ) (λl=>l.length<=sizeLine/\QS (.rd (.tup l))):=by
 unfold GZ;rw[to_bnd];congr 1;funext l
 by_cases h:l.length<=sizeLine
 ·rw[Zaf h,to_rd];simp[h]
 ·rw[Zad h,Eb];simp[h]
theorem BL{x:Option Out}{P:PV->Prop}(h:To x λo=>∃ p,yH (some o)=some (.ok p)/\P p):∃ p,yH x=some (.ok p)/\P p:=by
 obtain⟨o,e,_,q⟩:=h;rw[e];exact q
end
def sU:Sn:=
 (eV (m2 b7 (m2 dC (m2 cz (mV 1) (mC (.int 1))) (m2 cz (mV 0) (mC (.int 0)))) (m2 cz (mV 1) (mC (.int 0)))))
def jb:List PV->Option (Res PV)
 |[a0,a1]=>fin (sU (startR [a0,a1] 0))
 |_=>none
def sV:Sn:=
 (eV (m2 iR (m2 kE (m2 rm (mV 1) (bT jb (aC (mV 0) (aC (mV 2) bF)))) (mC (.int 1))) (mC (.int 1))))
def jc:List PV->Option (Res PV)
 |[a0,a1,a2]=>fin (sV (startR [a0,a1,a2] 0))
 |_=>none
def qd:Sn:=
 (o8 (jq (m1 vM (aC (m2 dC (m2 cz (mV 0) (mC (.int 0))) (m2 cz (mV 0) (mC (.int 1)))) bF)) [none,some 0] (gN 0) uo (lJ (aC (m2 gZ (mV 0) (m2 cz (mV 1) (mC (.int 0)))) (aC (m2 wz (mV 0) (m2 cz (mV 1) (mC (.int 0)))) bF)))))
def mq:List PV->Option (Res PV)
 |[a0]=>sI (qd (startR [a0] 0))
 |_=>none
def zg:Sn:=
 (cF (m2 PB (mV 2) (m2 wA (mC (.int 1)) (bT jb (aC (mV 0) (aC (mV 3) bF))))) (gN 2))
def zj:Sn:=
 (eV (mV 2))
def zm:Sn:=
 (bf (cF (mC (.int 0)) (gN 2))
   (bf (nU (m1 jG (mV 1)) (gN 3)
    zg)
   zj))
def uL:List PV->Option (Res PV)
 |[a0,a1]=>fin (zm (startR [a0,a1] 2))
 |_=>none
def sW:Sn:=
 (o8 (jq (m1 jG (bT mq (aC (mV 0) bF))) [none,some 0,some 1] (gN 0) (m1 cV (bT jc (aC (mV 1) (aC (mV 2) (aC (mV 0) bF))))) (mV 0)))
def gU:List PV->Option (Res PV)
 |[a0,a1]=>sI (sW (startR [a0,a1] 0))
 |_=>none
def zp:Sn:=
 (GZ (aC (yG (mV 7)) (aC (rA 3) (aC (rA 4) bF))))
def zq:Sn:=
 (M6 3 (m2 mX (fu 1) (mV 7)))
def zr:Sn:=
 (bf (ur 4 (mV 6) (mV 7))
     (bf (ie (m1 cV (m2 nj (mV 7) (fu 1)))
      zp
      dM)
     zq))
def zu:Sn:=
 (bf (ie (m1 cV (m2 Bg (mV 7) (fu 4)))
      Ph
      dM)
     zr)
def zA:Sn:=
 (cF (m2 b7 (mV 5) (mC (.int 1))) (gN 5))
def zB:Sn:=
 (bf (cF (m2 Gn (yw 3) (mV 5)) (gN 6))
    (bf (nU (m1 jG (m2 mX (fu 0) (mV 6))) (gN 7)
     zu)
    zA))
def zE:Sn:=
 (GZ (aC (yG (mC .non)) (aC (rA 3) (aC (rA 4) bF))))
def zF:Sn:=
 (bf (uh 3 (m1 JH (yw 2)))
   (bf (uh 4 wC)
   (bf (cF (mC (.int 0)) (gN 5))
   (bf (ik (m1 cV (m2 vL (mV 5) (m1 kJ (mVL 3))))
    zB 2000)
   zE))))
def kW:List PV->Option (Res PV)
 |[a0,a1,a2]=>Dv (zF (startR [a0,a1,a2] 5))
 |_=>none
def rD:Sn:=
 (bf (cF (m2 mX (fu 2) (mV 4)) (gN 5))
    (bf (cF (Dr (fu 0) (mV 5)) (gN 6))
    (bf (ur 0 (mV 4) (mV 5))
    (bf (ur 1 (mV 5) (mV 4))
    (cF (mV 6) (gN 4))))))
def ju:Sn:=
 (bf (cF (mV 3) (gN 4))
   (ik (m1 cV (m2 JD (mVL 4) (mC .non)))
    rD 2000))
def fP:List PV->Option (Res PV)
 |[a0,a1,a2,a3]=>yH (ju (fM [a0,a1,a2,a3] 3))
 |_=>none
def qe:Sn:=
 (bf (wD 4 (DG kW (aC (mVL 0) (aC (mVL 2) (aC (wN (aC (mV 3) bF)) bF)))))
    (wF 4 (Nj 1 2 fP (aC (m2 cz (mV 4) (mC (.int 2))) (aC (m2 cz (mV 4) (mC (.int 0))) bF)))))
def qg:Sn:=
 (sr 1)
def oJ:Sn:=
 (bf (uh 1 wC)
   (bf (uh 2 wC)
   (bf (Bl 0 (nU (m1 uI (mV 0)) (gN 3)
    qe))
   qg)))
def iu:List PV->Option (Res PV)
 |[a0]=>sI (oJ (startR [a0] 4))
 |_=>none
def iw:Sn:=
 (bf (cF (m1 (ut (.dt [])) (pR (n6 1 (jq (m1 uJ (mV 1)) [none,none] (gT 2 (gsCons (gN 0) (gsCons (gN 1) gsNil))) uo (lJ (aC (mV 1) (aC (mV 0) bF))))))) (gN 2))
   (bf (wD 3 (bT kW (aC (mV 0) (aC (mV 2) (aC (n6 0 (jq (m1 uI (mV 0)) [none,some 1] (gN 0) (m1 cV (m2 nj (mV 0) (fu 1))) (mV 0))) bF)))))
   (wF 3 (eV (lJ (aC (m1 qQ (pR (m2 cz (mV 3) (mC (.int 1))))) (aC (m1 yX (Dq (m2 cz (mV 3) (mC (.int 2))))) bF)))))))
def fB:List PV->Option (Res PV)
 |[a0,a1]=>fin (iw (startR [a0,a1] 2))
 |_=>none
def oK:Sn:=
 (eV (mIf (m1 cV (m2 iR (mVL 1) (mC (.str "row")))) (m2 cz (mV 0) (mC (.int 1))) (m2 cz (mV 0) (mC (.int 0)))))
def oM:List PV->Option (Res PV)
 |[a0,a1]=>fin (oK (startR [a0,a1] 0))
 |_=>none
def my:Sn:=
 (eV (mIf (m1 cV (m2 iR (mVL 1) (mC (.str "row")))) (m2 cz (mV 0) (mC (.int 0))) (m2 cz (mV 0) (mC (.int 1)))))
def mD:List PV->Option (Res PV)
 |[a0,a1]=>fin (my (startR [a0,a1] 0))
 |_=>none
def nG:Sn:=
 (o8 (jq (m1 su (aC (m2 cz (mV 0) (mC (.int 2))) (aC (m2 b7 (m2 cz (mV 0) (mC (.int 3))) (mC (.int 1))) bF))) [none,some 0] (gN 0) uo (lJ (aC (mV 0) (aC (m2 cz (mV 1) (mC (.int 1))) bF)))))
def nH:Sn:=
 (o8 (jq (m1 su (aC (m2 cz (mV 0) (mC (.int 2))) (aC (m2 b7 (m2 cz (mV 0) (mC (.int 3))) (mC (.int 1))) bF))) [none,some 0] (gN 0) uo (lJ (aC (m2 cz (mV 1) (mC (.int 1))) (aC (mV 0) bF)))))
def iy:Sn:=
 (bf (ie (m1 cV (m2 iR (m2 cz (mV 0) (mC (.int 0))) (mC (.str "row"))))
    nG
    dM)
   nH)
def d9:List PV->Option (Res PV)
 |[a0]=>sI (iy (startR [a0] 0))
 |_=>none
def fC:Sn:=
 (bf (cF (m2 lR (bT mD (aC (mV 0) (aC (mV 2) bF))) (mC (.int 1))) (gN 4))
   (bf (cF (bT d9 (aC (lJ (aC (mV 2) (aC (mV 3) (aC (mC (.int 0)) (aC (mV 4) bF))))) bF)) (gN 5))
   (bf (cF (m2 Be (pR (m2 Be (pR (wN (aC (m1 KR (mC (.int 1))) bF))) (pR (jq (m1 JF (aC (mV 5) bF)) [none,none,some 0,some 1] (gT 2 (gsCons (gN 0) (gsCons (gN 1) gsNil))) (m1 cV (bT jc (aC (mV 2) (aC (mV 3) (aC (mV 1) bF))))) (mV 0))))) (pR (wN (aC (m2 b7 (mV 4) (mC (.int 1))) bF)))) (gN 6))
   (o8 (jq (m1 Qo (aC (mV 6) (aC (Ti (yw 6) (m1 asInt (mC (.int 1))) mPn) bF))) [none,none,some 2,some 3] (gT 2 (gsCons (gN 0) (gsCons (gN 1) gsNil))) (m1 cV (m2 vL (m2 b7 (mV 0) (mC (.int 1))) (mV 1))) (lJ (aC (mV 2) (aC (mV 3) (aC (m2 b7 (mV 0) (mC (.int 1))) (aC (m2 lR (mV 1) (mC (.int 1))) bF))))))))))
def fD:List PV->Option (Res PV)
 |[a0,a1,a2,a3]=>sI (fC (startR [a0,a1,a2,a3] 3))
 |_=>none
def jH:Sn:=
 (ur 3 (mV 5) (mV 6))
def jJ:Sn:=
 (nU (m1 jG (bT d9 (aC (mV 5) bF))) (gN 6)
      jH)
def jK:Sn:=
 (nU (m1 jG (bT fD (aC (mV 0) (aC (mV 1) (aC (mV 2) (aC (mV 4) bF)))))) (gN 5)
     jJ)
def jL:Sn:=
 (sr 3)
def iz:Sn:=
 (bf (uh 3 wC)
   (bf (nU (m1 vM (aC (bT oM (aC (mV 0) (aC (mV 2) bF))) bF)) (gN 4)
    jK)
   jL))
def dh:List PV->Option (Res PV)
 |[a0,a1,a2]=>sI (iz (startR [a0,a1,a2] 4))
 |_=>none
def rE:Sn:=
 (uG 5 (m2 mX (fu 3) (mV 6)) (m2 mX (fu 4) (mV 6)))
def rF:Sn:=
 (vN 5)
def qi:Sn:=
 (bf (cF (bT dh (aC (mV 0) (aC (mV 2) (aC (mC (.str "row")) bF)))) (gN 3))
   (bf (cF (bT dh (aC (mV 0) (aC (mV 2) (aC (mC (.str "column")) bF)))) (gN 4))
   (bf (wD 5 (Vq wC))
   (bf (nU (m1 jG (bT gU (aC (mV 0) (aC (mV 1) bF)))) (gN 6)
    rE)
   rF))))
def jw:List PV->Option (Res PV)
 |[a0,a1,a2]=>Dv (qi (startR [a0,a1,a2] 4))
 |_=>none
def sX:Sn:=
 JL
def kY:Sn:=
 (bf (wD 4 (bT jw (aC (mV 0) (aC (mV 1) (aC (mV 2) bF)))))
   (bf (wF 4 (cF (bT iu (aC (mV 4) bF)) (gN 5)))
   (bf (cF (bT fB (aC (mV 4) (aC (mV 5) bF))) (gN 6))
   (bf (cF (m2 Be (pR (n6 4 (jq (m1 uI (mV 4)) [none,some 6] (gN 0) (m1 cV (m2 nW (mVL 0) (m2 cz (mV 1) (mC (.int 0))))) (mV 0)))) (pR (m2 cz (mV 6) (mC (.int 1))))) (gN 7))
   (bf (cF (bT uL (aC (mV 0) (aC (n6 5 (jq (m1 uJ (mV 5)) [none,none] (gT 2 (gsCons (gN 0) (gsCons (gN 1) gsNil))) uo (lJ (aC (m2 cz (mV 1) (mC (.int 1))) (aC (m2 cz (mV 0) (mC (.int 1))) bF))))) bF))) (gN 8))
   (KY (lJ (aC (GF (m1 qQ (yw 7))) (aC (GF (bT gU (aC (mV 0) (aC (mV 8) bF)))) bF)))))))))
def gb:Sn:=
 (bf (cF (bT gU (aC (mV 0) (aC (m2 kE (mV 1) (mV 2)) bF))) (gN 3))
   (bf (ie (m1 cV (m2 Gm (m1 kJ (mVL 3)) (mC (.int 0))))
    sX
    dM)
   kY))
def cH:List PV->Option (Res PV)
 |[a0,a1,a2]=>Dv (gb (startR [a0,a1,a2] 6))
 |_=>none
def rG:Sn:=
 (eV (m2 cz (mV 0) (mV 1)))
def rH:Sn:=
 (cF (m2 b7 (mV 2) (m2 gZ (m2 cz (mV 0) (m2 gZ (m2 dC (mV 1) (mC (.int 7))) (m1 kJ (mVL 0)))) (mC (.int 2147483629)))) (gN 2))
def mZ:Sn:=
 (eV (m2 gZ (m2 dC (mV 2) (mV 2)) (mC (.int 2147483629))))
def rJ:Sn:=
 (bf (cF (m2 b7 (m2 dC (mV 1) (mV 1)) (mC (.int 7919))) (gN 2))
   (bf (ie (m1 cV (m2 Gm (m1 kJ (mVL 0)) (mC (.int 0))))
    rH
    dM)
   mZ))
def qj:Sn:=
 (bf (ie (m1 cV (m2 vL (mV 1) (m1 kJ (mVL 0))))
    rG
    dM)
   rJ)
def eE:List PV->Option (Res PV)
 |[a0,a1]=>fin (qj (startR [a0,a1] 1))
 |_=>none
def ql:Sn:=
 (eV (m2 kE (m2 rm (mV 0) (m2 dC (mC (.int 31)) (mV 1))) (mC (.int 2147483647))))
def qm:Sn:=
 (bf (cF (m2 gZ (m2 dC (m2 b7 (m2 b7 (m2 b7 (m2 gZ (mV 0) (mC (.int 2147483629))) (m2 dC (m2 dC (mC (.int 7919)) (mV 1)) (mV 1))) (mV 1)) (mC (.int 13))) (mC (.int 48271))) (mC (.int 2147483587))) (gN 2))
   (bf (cF (m2 gZ (m2 dC (mV 2) (mV 2)) (mC (.int 2147483629))) (gN 2))
   (eV (m2 gZ (m2 dC (m2 b7 (mV 2) (mV 1)) (mC (.int 69621))) (mC (.int 2147483563))))))
def oN:Sn:=
 (bf (ie (m1 cV (m2 Tf (mV 0) (m2 KD (mC (.int 10)) (mC (.int 18)))))
    ql
    dM)
   qm)
def cQ:List PV->Option (Res PV)
 |[a0,a1]=>fin (oN (startR [a0,a1] 1))
 |_=>none
def rK:Sn:=
 (eV (lJ (aC (m2 b7 (mC (.int 1)) (m2 gZ (mV 1) (mC (.int 24)))) (aC (m2 b7 (mC (.int 1)) (m2 gZ (m2 wz (mV 1) (mC (.int 24))) (mC (.int 24)))) bF))))
def rM:Sn:=
 (eV (lJ (aC (m2 b7 (mC (.int 1)) (m2 gZ (mV 1) (mC (.int 6)))) (aC (m2 b7 (mC (.int 1)) (m2 gZ (m2 wz (mV 1) (mC (.int 6))) (mC (.int 6)))) bF))))
def mF:Sn:=
 (bf (cF (bT cQ (aC (mV 0) (aC (mC (.int 3)) bF))) (gN 1))
   (bf (ie (m1 cV (m2 iR (m2 gZ (bT cQ (aC (mV 0) (aC (mC (.int 4)) bF))) (mC (.int 8))) (mC (.int 3))))
    rK
    dM)
   rM))
def jx:List PV->Option (Res PV)
 |[a0]=>fin (mF (startR [a0] 1))
 |_=>none
def uM:Sn:=
 (cF (m2 b7 (m2 dC (mV 4) (mC (.int 2147483587))) (bT cQ (aC (mV 1) (aC (m2 b7 (m2 dC (mC (.int 30)) (mV 2)) (mV 5)) bF)))) (gN 4))
def uN:Sn:=
 (eV (m2 lR (m2 wA (mC (.int 1)) (mV 3)) (mC (.int 1))))
def uO:Sn:=
 (eV (mC (.int 0)))
def uP:Sn:=
 (eV (mV 4))
def uQ:Sn:=
 (bf (ie (m1 cV (m2 iR (mVL 6) (mC (.int 2))))
    uO
    dM)
   uP)
def uR:Sn:=
 (bf (cF (m2 gZ (mV 4) (m2 wA (mC (.int 1)) (mV 3))) (gN 4))
   (bf (cF (m2 gZ (bT cQ (aC (mV 1) (aC (m2 b7 (m2 dC (mC (.int 30)) (mV 2)) (mC (.int 29))) bF))) (mC (.int 8))) (gN 6))
   (bf (ie (m1 cV (m2 iR (mVL 6) (mC (.int 1))))
    uN
    dM)
   uQ)))
def oO:Sn:=
 (bf (cF (m2 dC (m2 cz (mV 0) (mC (.int 0))) (m2 cz (mV 0) (mC (.int 1)))) (gN 3))
   (bf (cF (mC (.int 0)) (gN 4))
   (bf (nU (m1 vM (aC (m2 b7 (mC (.int 1)) (m2 wz (mV 3) (mC (.int 30)))) bF)) (gN 5)
    uM)
   uR)))
def gV:List PV->Option (Res PV)
 |[a0,a1,a2]=>fin (oO (startR [a0,a1,a2] 4))
 |_=>none
def nJ:Sn:=
 (cF (m2 kE (mV 3) (bT gV (aC (mV 0) (aC (m2 b7 (mV 1) (mC (.int 1))) (aC (m2 dC (mC (.int 2)) (mV 2)) bF))))) (gN 3))
def nM:Sn:=
 (o8 (wN (aC (m2 lR (m2 lR (m2 wA (mC (.int 1)) (m2 dC (m2 cz (mV 0) (mC (.int 0))) (m2 cz (mV 0) (mC (.int 1))))) (mC (.int 1))) (mV 3)) (aC (mV 3) bF))))
def nO:Sn:=
 (o8 (wN (aC (m2 lR (mV 4) (m2 kE (mV 4) (mV 3))) (aC (mV 3) bF))))
def jd:Sn:=
 (bf (ie (m1 cV (m2 iR (m2 gZ (m2 wz (mV 5) (mC (.int 3))) (mC (.int 3))) (mC (.int 0))))
    nM
    dM)
   nO)
def iB:Sn:=
 (bf (cF (bT gV (aC (mV 0) (aC (mV 1) (aC (m2 dC (mC (.int 2)) (mV 2)) bF)))) (gN 3))
   (bf (cF (bT gV (aC (mV 0) (aC (mV 1) (aC (m2 b7 (m2 dC (mC (.int 2)) (mV 2)) (mC (.int 1))) bF)))) (gN 4))
   (bf (cF (bT cQ (aC (mV 1) (aC (m2 b7 (mC (.int 400)) (mV 2)) bF))) (gN 5))
   (bf (ie (m1 cV (m2 iR (m2 gZ (mV 5) (mC (.int 3))) (mC (.int 0))))
    nJ
    dM)
   jd))))
def fQ:List PV->Option (Res PV)
 |[a0,a1,a2]=>sI (iB (startR [a0,a1,a2] 3))
 |_=>none
def qp:Sn:=
 (o8 (jq (m1 su (aC (mV 3) (aC (m2 b7 (mV 4) (mC (.int 1))) bF))) [none,some 2] (gN 0) uo (lJ (aC (mV 0) (aC (mV 1) bF)))))
def qt:Sn:=
 (o8 (jq (m1 su (aC (mV 3) (aC (m2 b7 (mV 4) (mC (.int 1))) bF))) [none,some 2] (gN 0) uo (lJ (aC (mV 1) (aC (mV 0) bF)))))
def jT:Sn:=
 (bf (cF (mV 0) (gT 4 (gsCons (gN 1) (gsCons (gN 2) (gsCons (gN 3) (gsCons (gN 4) gsNil))))))
   (bf (ie (m1 cV (m2 iR (mVL 1) (mC (.str "row"))))
    qp
    dM)
   qt))
def jU:List PV->Option (Res PV)
 |[a0]=>sI (jT (startR [a0] 4))
 |_=>none
def sY:Sn:=
 (eV (mC (.bl false)))
def sZ:Sn:=
 (eV (mC (.bl false)))
def kZ:Sn:=
 (ie (mOr (rY (m1 cV (m2 yu (mVL 2) (mC (.ty "int"))))) (mOr (m1 cV (m2 yu (mVL 2) (mC (.ty "bool")))) (m1 cV (m2 vL (mV 2) (mC (.int 0))))))
     sZ
     dM)
def lq:Sn:=
 (bf (cF (m2 Gn (pR (wN (aC (m2 cz (mV 0) (mC (.int 1))) (aC (m2 cz (mV 0) (mC (.int 0))) bF)))) (m1 Gu (m2 iR (m2 cz (mV 1) (mC (.int 0))) (mC (.str "column"))))) (gN 3))
   (bf (cF (m2 Gn (pR (wN (aC (m2 cz (mV 0) (mC (.int 0))) (aC (m2 cz (mV 0) (mC (.int 1))) bF)))) (m1 Gu (m2 iR (m2 cz (mV 1) (mC (.int 0))) (mC (.str "column"))))) (gN 4))
   (eV (yh (m2 vL (m2 cz (mV 1) (mC (.int 1))) (mV 3)) (yh (m2 JC (m2 cz (mV 1) (mC (.int 2))) (m2 cz (mV 1) (mC (.int 3)))) (m2 vL (m2 cz (mV 1) (mC (.int 3))) (mV 4)))))))
def lr:Sn:=
 (bf (nU (m1 jG (Tj (mV 1) (m1 asInt (mC (.int 1))) mPn)) (gN 2)
    kZ)
   lq)
def gf:Sn:=
 (bf (ie (mOr (rY (m1 cV (m2 yu (mVL 1) (mC (.ty "tuple"))))) (mOr (m1 cV (m2 ym (m1 kJ (mVL 1)) (mC (.int 4)))) (m1 cV (m2 nW (m2 cz (mV 1) (mC (.int 0))) (lJ (aC (mC (.str "row")) (aC (mC (.str "column")) bF)))))))
    sY
    dM)
   lr)
def gh:List PV->Option (Res PV)
 |[a0,a1]=>fin (gf (startR [a0,a1] 3))
 |_=>none
def uT:Sn:=
 (cF (m2 lR (mV 5) (mC (.int 1))) (gN 5))
def uU:Sn:=
 (cF (m2 b7 (mV 6) (mC (.int 1))) (gN 6))
def uV:Sn:=
 (eV (lJ (aC (mC (.str "row")) (aC (mV 4) (aC (mV 5) (aC (mV 6) bF))))))
def uW:Sn:=
 (bf (cF (mV 3) (gN 6))
    (bf (ik (Jz (m1 cV (m2 vL (m2 b7 (mV 6) (mC (.int 1))) (m2 cz (mV 0) (mC (.int 0))))) (m1 cV (m2 iR (m2 kE (m2 rm (mV 1) (m2 b7 (m2 b7 (m2 dC (mV 4) (m2 cz (mV 0) (mC (.int 0)))) (mV 6)) (mC (.int 1)))) (mC (.int 1))) (mC (.int 0)))))
     uU 30)
    uV))
def uX:Sn:=
 (bf (cF (mV 3) (gN 5))
    (bf (ik (Jz (m1 cV (m2 Gm (mV 5) (mC (.int 0)))) (m1 cV (m2 iR (m2 kE (m2 rm (mV 1) (m2 lR (m2 b7 (m2 dC (mV 4) (m2 cz (mV 0) (mC (.int 0)))) (mV 5)) (mC (.int 1)))) (mC (.int 1))) (mC (.int 0)))))
     uT 30)
    uW))
def uY:Sn:=
 (cF (m2 lR (mV 5) (mC (.int 1))) (gN 5))
def uZ:Sn:=
 (cF (m2 b7 (mV 6) (mC (.int 1))) (gN 6))
def u5:Sn:=
 (eV (lJ (aC (mC (.str "column")) (aC (mV 3) (aC (mV 5) (aC (mV 6) bF))))))
def u6:Sn:=
 (bf (cF (mV 4) (gN 6))
   (bf (ik (Jz (m1 cV (m2 vL (m2 b7 (mV 6) (mC (.int 1))) (m2 cz (mV 0) (mC (.int 1))))) (m1 cV (m2 iR (m2 kE (m2 rm (mV 1) (m2 b7 (m2 dC (m2 b7 (mV 6) (mC (.int 1))) (m2 cz (mV 0) (mC (.int 0)))) (mV 3))) (mC (.int 1))) (mC (.int 0)))))
    uZ 30)
   u5))
def rN:Sn:=
 (bf (cF (mV 4) (gN 5))
   (bf (ik (Jz (m1 cV (m2 Gm (mV 5) (mC (.int 0)))) (m1 cV (m2 iR (m2 kE (m2 rm (mV 1) (m2 b7 (m2 dC (m2 lR (mV 5) (mC (.int 1))) (m2 cz (mV 0) (mC (.int 0)))) (mV 3))) (mC (.int 1))) (mC (.int 0)))))
    uY 30)
   u6))
def je:Sn:=
 (bf (ie (m1 cV (m2 iR (mVL 2) (mC (.str "row"))))
    uX
    dM)
   rN)
def eF:List PV->Option (Res PV)
 |[a0,a1,a2,a3,a4]=>fin (je (startR [a0,a1,a2,a3,a4] 2))
 |_=>none
def u9:Sn:=
 (cF (m2 PB (mV 2) (m2 wA (mC (.int 1)) (m2 b7 (m2 dC (mV 5) (m2 cz (mV 0) (mC (.int 0)))) (mV 4)))) (gN 2))
def vd:Sn:=
 (nU (m1 jG (bT jU (aC (mV 3) bF))) (gT 2 (gsCons (gN 4) (gsCons (gN 5) gsNil)))
     u9)
def vf:Sn:=
 (eV (mV 2))
def oR:Sn:=
 (bf (cF (mC (.int 0)) (gN 2))
   (bf (nU (m1 jG (mV 1)) (gN 3)
    vd)
   vf))
def oU:List PV->Option (Res PV)
 |[a0,a1]=>fin (oR (startR [a0,a1] 4))
 |_=>none
def vg:Sn:=
 (eV (mC (.bl false)))
def vh:Sn:=
 (eV (mC (.bl false)))
def vm:Sn:=
 (eV (mC (.bl false)))
def vo:Sn:=
 (eV (mC (.bl false)))
def mG:Sn:=
 (ur 4 (mC (.bl true)) (mV 10))
def iC:Sn:=
 (bf (cF (bT eF (aC (mV 0) (aC (mV 2) (aC (mV 9) (aC (mV 7) (aC (mV 8) bF)))))) (gN 10))
     (bf (ie (m1 cV (m2 Bg (mV 10) (fu 4)))
      vo
      dM)
     mG))
def iD:Sn:=
 (bf (cF (m2 b7 (m2 dC (mV 8) (m2 cz (mV 0) (mC (.int 0)))) (mV 7)) (gN 5))
    (nU (m1 jG (lJ (aC (mC (.str "row")) (aC (mC (.str "column")) bF)))) (gN 9)
     iC))
def mH:Sn:=
 (bf (ie (m1 cV (m2 JC (m2 b7 (m2 dC (mV 8) (m2 cz (mV 0) (mC (.int 0)))) (mV 7)) (mV 5)))
     vm
     dM)
    iD)
def mJ:Sn:=
 (bf (cF (mV 6) (gT 2 (gsCons (gN 7) (gsCons (gN 8) gsNil))))
    (bf (ie (mOr (rY (m1 cV (yg JC vL (mC (.int 0)) (mV 7) (m2 cz (mV 0) (mC (.int 0)))))) (mOr (rY (m1 cV (yg JC vL (mC (.int 0)) (mV 8) (m2 cz (mV 0) (mC (.int 1)))))) (m1 cV (m2 iR (m2 kE (m2 rm (mV 1) (m2 b7 (m2 dC (mV 8) (m2 cz (mV 0) (mC (.int 0)))) (mV 7))) (mC (.int 1))) (mC (.int 0))))))
     vh
     dM)
    mH))
def lu:Sn:=
 (bf (ie (mOr (rY (m1 cV (m2 yu (mVL 6) (mC (.ty "tuple"))))) (m1 cV (m2 ym (m1 kJ (mVL 6)) (mC (.int 2)))))
     vg
     dM)
    mJ)
def lw:Sn:=
 (eV (mC (.bl true)))
def gJ:Sn:=
 (bf (uh 4 wC)
   (bf (cF (m1 KR (mC (.int 1))) (gN 5))
   (bf (nU (m1 jG (mV 3)) (gN 6)
    lu)
   lw)))
def gM:List PV->Option (Res PV)
 |[a0,a1,a2,a3]=>fin (gJ (startR [a0,a1,a2,a3] 7))
 |_=>none
def zG:Sn:=
 (eV (mC (.bl false)))
def zH:Sn:=
 (eV (mC (.bl false)))
def zJ:Sn:=
 (eV (mC (.bl false)))
def qu:Sn:=
 (ie (rY (m1 cV (bT gh (aC (mV 0) (aC (mV 6) bF)))))
     zJ
     dM)
def zK:Sn:=
 (eV (mC (.bl false)))
def qw:Sn:=
 (ie (rY (m1 cV (m2 Ln (m2 cz (mV 4) (m2 lR (mV 7) (mC (.int 1)))) (m2 cz (mV 4) (mV 7)))))
     zK
     dM)
def qx:Sn:=
 (bf (cF (bT oU (aC (mV 0) (aC (mV 4) bF))) (gN 8))
   (eV (yh (m2 iR (m2 kE (mV 8) (mV 1)) (mVL 1)) (yh (m2 iR (m2 kE (mV 8) (mV 2)) (mC (.int 0))) (bT gM (aC (mV 0) (aC (mV 1) (aC (mV 2) (aC (mV 5) bF)))))))))
def qy:Sn:=
 (bf (nU (m1 su (aC (mC (.int 1)) (aC (m1 kJ (mVL 4)) bF))) (gN 7)
    qw)
   qx)
def qz:Sn:=
 (bf (nU (m1 jG (mV 4)) (gN 6)
    qu)
   qy)
def ph:Sn:=
 (bf (cF (mV 3) (gT 2 (gsCons (gN 4) (gsCons (gN 5) gsNil))))
   (bf (ie (mOr (rY (m1 cV (m2 yu (mVL 5) (mC (.ty "list"))))) (m1 cV (m2 ym (m1 kJ (mVL 5)) (m1 kJ (mVL 4)))))
    zH
    dM)
   qz))
def jV:Sn:=
 (bf (ie (mOr (rY (m1 cV (m2 yu (mVL 3) (mC (.ty "tuple"))))) (mOr (m1 cV (m2 ym (m1 kJ (mVL 3)) (mC (.int 2)))) (rY (m1 cV (m2 yu (m2 cz (mV 3) (mC (.int 0))) (mC (.ty "list")))))))
    zG
    dM)
   ph)
def iG:List PV->Option (Res PV)
 |[a0,a1,a2,a3]=>fin (jV (startR [a0,a1,a2,a3] 5))
 |_=>none
def Ag:Sn:=
 (eV (mC (.bl false)))
def rO:Sn:=
 (bf (Bj 3 (mC (.int 0)) (mC .non))
   (bf (Bj 3 (mC (.int 1)) (mC .non))
   (eV (bT iG (aC (mV 0) (aC (mV 1) (aC (mV 2) (aC (bT cH (aC (mV 0) (aC (mV 1) (aC (mV 2) bF)))) bF))))))))
def mK:Sn:=
 (bf (wD 3 (bT cH (aC (mV 0) (aC (mV 1) (aC (mV 2) bF)))))
   (bf (ie (Ng 3 (rY (m1 cV (bT iG (aC (mV 0) (aC (mV 1) (aC (mV 2) (aC (mV 3) bF))))))))
    Ag
    dM)
   rO))
def mL:List PV->Option (Res PV)
 |[a0,a1,a2]=>fin (mK (startR [a0,a1,a2] 1))
 |_=>none
def Lw:Sn:=
 (cF (mC (.int 1)) (gN 2))
def Ut:Sn:=
 (eV (mC (.bl false)))
def Lx:Sn:=
 (bf (cF (bT fQ (aC (mV 1) (aC (bT eE (aC (mV 0) (aC (m2 b7 (mC (.int 2)) (mV 3)) bF))) (aC (mV 3) bF)))) (gL 2 (gsCons (gN 4) (gsCons (gN 5) gsNil))))
    (ie (rY (m1 cV (bT mL (aC (mV 1) (aC (mV 4) (aC (mV 5) bF))))))
     Ut
     dM))
def Ly:Sn:=
 (eV (m2 iR (bT cH (aC (mV 1) (aC (mC (.int 0)) (aC (mC (.int 0)) bF)))) (lJ (aC (wN bF) (aC (wN bF) bF)))))
def Eg:Sn:=
 (bf (nU (m1 vM (aC (mV 2) bF)) (gN 3)
    Lx)
   Ly)
def Lz:Sn:=
 (bf (cF (bT jx (aC (bT eE (aC (mV 0) (aC (mC (.int 1)) bF))) bF)) (gN 1))
   (bf (cF (mC (.int 4)) (gN 2))
   (bf (ie (m1 cV (m2 Gm (m2 dC (m2 cz (mV 1) (mC (.int 0))) (m2 cz (mV 1) (mC (.int 1)))) (mC (.int 100))))
    Lw
    dM)
   Eg)))
def BP:List PV->Option (Res PV)
 |[a0]=>fin (Lz (startR [a0] 5))
 |_=>none
local macro_rules|`(tactic| walk_at "rd")=>do
 let ids:=("onNx_nx onNx_rt onNx_ro onNx_rd onNx_bk onNx_ct tv_some to_nx to_rt to_ro to_rd to_bk to_ct tv_ite to_ite turn_nx turn_ct turn_bk turn_rt turn_ro turn_rd tv_bnd to_bnd to_seq tv_m2 tv_m1 tv_var tv_lend tv_c tv_view tv_viewN tv_asLst tv_nil tv_cons tv_tup tv_lst tv_call tv_mIf tv_mAnd tv_mOr tv_mNot tv_and tv_chain tv_comp tv_compN tv_compC tv_yes to_next to_cont to_ret to_retO to_hold to_frzD to_retT tv_ownD tv_callT holdQ_nx holdQ_rt holdQ_ro tv_holdE to_io2 to_setO to_setD to_retD to_retDp tv_deep tv_still tv_fzT to_asgN to_asg to_if to_for to_retOw to_app tv_neg tv_viewD tv_viewDN tv_dget1 tv_opDGet tv_opDIn tv_opDNotIn tv_dictP tv_newT to_dput dF_int dF_str dF_tup isD_dk isD_dt is_dk_int is_dk_str finIO_nx to_never tv_sub tv_and' tv_or' tv_gt tv_ge tv_div tv_mod tv_pow tv_shl tv_shr tv_add tv_addS tv_addT tv_mul tv_mulS tv_lt tv_ltS tv_le tv_leS tv_eqI tv_eqS tv_neI tv_neS tv_eq tv_ne tv_notin tv_notN tv_ixL tv_ixT tv_ixV tv_ixS tv_lenS tv_lenL tv_lenT tv_is tv_asBl tv_intI tv_intB tv_list tv_cat tv_asSeqL tv_asSeqT tv_asSeqS tv_rng1 tv_rng2 tv_enum tv_zip tv_pn tv_asInt tv_slL tv_slT tv_opSlT startR fin_nx fin_rt finO_ro finT_rd gN gT gsCons gsNil szP cellP List.map_cons List.map_nil List.replicate_succ List.replicate_zero List.cons_append List.nil_append List.append_nil List.getElem?_cons_zero List.getElem?_cons_succ List.set_cons_zero List.set_cons_succ List.length_cons List.length_nil Nat.zero_le true_and and_true Option.some.injEq Sl.sh.injEq Sl.ow.injEq Sl.dp.injEq Res.ok.injEq PV.int.injEq PV.str.injEq PV.bl.injEq PV.lst.injEq PV.tup.injEq exists_eq_left' exists_eq_left exists_eq and_assoc exists_and_left if_true if_false not_true_eq_false not_false_eq_true Bool.false_eq_true Bool.not_true Bool.not_false decide_eq_true_eq Bool.not_eq_true' decide_eq_false_iff_not reduceCtorEq is_non_int is_non_bool is_non_str is_non_list is_non_tuple is_non_dict is_bl_int is_bl_bool is_bl_str is_bl_list is_bl_tuple is_bl_dict is_int_int is_int_bool is_int_str is_int_list is_int_tuple is_int_dict is_str_int is_str_bool is_str_str is_str_list is_str_tuple is_str_dict is_tup_int is_tup_bool is_tup_str is_tup_list is_tup_tuple is_tup_dict is_lst_int is_lst_bool is_lst_str is_lst_list is_lst_tuple is_lst_dict Int.reduceAdd Int.reduceSub Int.reduceMul Int.reduceNeg Int.reduceToNat atI_0 atI_1 atI_2 atI_3 snocI snocS snocC eqF_int eqF_str eqF_bl frR shOnly".splitOn " ").toArray.map λs=>Lean.mkIdent s.toName
 `(tactic| simp(maxSteps:=2000000) only[$[$ids:ident],*])
structure Sz(w h:Int):Prop where
 w0:1<=w
 w1:w<=24
 h0:1<=h
 h1:h<=24
theorem Sz.mul{w h:Int}(s:Sz w h):1<=w*h/\w*h<=576:=by
 obtain⟨a,b,c,d⟩:=s;have e1:1*1<=w*h:=Int.mul_le_mul a c (by decide) (by lia)
 have e2:w*h<=24*24:=Int.mul_le_mul b d (by lia) (by decide)
 lia
theorem Sz.at{w h c r:Int}(_:Sz w h)(c0:0<=c)(c1:c<w)(r0:0<=r)(r1:r<h):0<=r*w+c/\r*w+c<w*h:=by
 have e1:0<=r*w:=Int.mul_nonneg r0 (by lia)
 have e2:(r+1)*w<=h*w:=Int.mul_le_mul_of_nonneg_right (by lia) (by lia)
 rw[Int.add_mul,Int.one_mul] at e2;rw[Int.mul_comm w h];lia
theorem Sz.nat{w h:Int}(s:Sz w h):w.toNat*h.toNat=(w*h).toNat/\w.toNat*h.toNat<=576:=by
 have hm:=s.mul;obtain⟨a,b,c,d⟩:=s;obtain⟨x,rfl⟩:=Za9 (show 0<=w by omega)
 obtain⟨y,rfl⟩:=Za9 (show 0<=h by omega)
 have e:(x:Int)*(y:Int)=((x*y:Nat):Int):=by simp
 rw[e] at hm ⊢;simp only[ZaP];have h2:((x*y:Nat):Int)<=((576:Nat):Int):=hm.2;exact⟨trivial,Int.ofNat_le.mp h2⟩
structure Cell(w h c r:Int):Prop where
 c0:0<=c
 c1:c<w
 r0:0<=r
 r1:r<h
theorem Cell.inR{w h c r:Int}(z:Cell w h c r):Mth.InR w.toNat h.toNat (c,r):=⟨z.c0,by have:=z.c1;show c<(w.toNat:Int);omega,z.r0,by have:=z.r1;show r<(h.toNat:Int);omega⟩
theorem Cell.of{w h:Int}{c:Int×Int}(z:Mth.InR w.toNat h.toNat c):Cell w h c.1 c.2:=⟨z.c0,by have:=z.c1;have:=z.c0;lia,z.r0,by have:=z.r1;have:=z.r0;lia⟩
theorem Cell.pl{w h c r:Int}(z:Cell w h c r):(r*w+c).toNat=Mth.pl w.toNat (c,r)/\0<=r*w+c:=by
 obtain⟨c0,c1,r0,r1⟩:=z;obtain⟨a,rfl⟩:=Za9 c0;obtain⟨b,rfl⟩:=Za9 r0;obtain⟨v,rfl⟩:=Za9 (show 0<=w by omega)
 unfold Mth.pl;simp only[ZaP];have e:(b:Int)*(v:Int)+(a:Int)=((b*v+a:Nat):Int):=by simp
 rw[e,ZaP];exact⟨rfl,Zbm _⟩
theorem J5{w:Int}(hw:1<=w)(i:Nat):Mth.cellOf w.toNat i=((0+(i:Int))%w,(0+(i:Int))/w):=by
 obtain⟨v,rfl⟩:=Za9 (show 0<=w by omega)
 unfold Mth.cellOf;simp
theorem BR(a b:Nat):Builtin.bitOr (a:Int) (b:Int)=((a ||| b:Nat):Int):=by
 have n1:∀ x:Nat,¬0<=Builtin.bitNot (x:Int):=λx=>by unfold Builtin.bitNot;omega
 unfold Builtin.bitOr;rw[bitAnd_nn (n1 a) (n1 b),bitNot_bitNot,bitNot_bitNot,bitNot_bitNot,ZaP,ZaP]
theorem Uu(n p:Nat):decide (Builtin.bitAnd ((n:Int)/2^p) 1=1)=n.testBit p:=by
 have e:(n:Int)/2^p=((n/2^p:Nat):Int):=by simp
 rw[e,bitAnd_pp (Zbm _) (by decide),ZaP,show(1:Int).toNat=1 from rfl,Mth.Kz]
 cases n.testBit p<;>rfl
theorem xK{lo:Int}{n i:Nat}{x:PV}(h:(pC lo n)[i]?=some x):i<n/\x=.int (lo+(i:Int)):=by
 have hi:i<n:=by simpa[pC] using cU h
 unfold pC at h;rw[List.getElem?_map,Zbs hi] at h;exact⟨hi,(Zac h).symm⟩
theorem Uv{lo:Int}{n:Nat}{x:PV}(h:x∈pC lo n):∃ i:Nat,i<n/\x=.int (lo+(i:Int)):=by
 unfold pC at h;obtain⟨i,hi,e⟩:=Zai.mp h;exact⟨i,Zaz.mp hi,e.symm⟩
theorem take_snoc{α:Type}{l:List α}{i:Nat}{x:α}(h:l[i]?=some x):l.take (i+1)=l.take i++[x]:=by
 rw[List.take_succ,h];rfl
theorem HF{w h c r:Int}(sz:Sz w h)(cl:Cell w h c r):jb [.tup [.int w,.int h],.tup [.int c,.int r]]=some (.ok (.int (r*w+c))):=by
 refine jF ?_;unfold sU;walk_at "rd"
 have:=cl.r0;have:=cl.r1;have:=sz.h1;exact .inl ⟨by lia,by lia⟩
theorem Q3{w h c r:Int}(sz:Sz w h)(cl:Cell w h c r)(n:Nat):jc [.tup [.int w,.int h],.int n,.tup [.int c,.int r]]=some (.ok (.bl (n.testBit (Mth.pl w.toNat (c,r))))):=by
 refine jF ?_;unfold sV;walk_at "rd"
 obtain⟨e1,e2⟩:=cl.pl;rw[HF sz cl];walk_at "rd"
 rw[e1,Uu];exact⟨e2,rfl⟩
theorem Eh{w h:Int}(sz:Sz w h):mq [.tup [.int w,.int h]]=some (.ok (.lst ((Mth.pick w.toNat (w.toNat*h.toNat) λ_=>true).map cellP))):=by
 refine uK ?_;unfold qd;walk_at "rd"
 have hm:=sz.mul;have hn:=sz.nat;have w0:=sz.w0;have w1:=sz.w1;refine⟨.inl ⟨by lia,by lia⟩,by lia,by lia,by rw[jn];exact ZaO (Aw (by lia)),?_⟩
 rw[Yp (λx=>match x with|.int i=>cellP (i%w,i/w)|_=>.non)]
 ·walk_at "rd"
  rw[<-hn.1];unfold pC Mth.pick;rw[List.map_map,List.map_map,ZbR.mpr λ_ _=>rfl];refine Za0 λi _=>?_;show _=cellP (Mth.cellOf w.toNat i)
  rw[J5 w0];rfl
 ·intro x hx;obtain⟨i,hi,rfl⟩:=Uv hx;walk_at "rd"
  exact⟨by lia,by lia,by lia,by decide⟩
theorem NB{w h:Int}(sz:Sz w h)(ps:List (Int×Int))(hc:∀ c∈ps,Cell w h c.1 c.2):uL [.tup [.int w,.int h],.lst (ps.map cellP)]=some (.ok (.int (Mth.iV w.toNat ps))):=by
 refine jF ?_;unfold zm;walk_at "rd"
 refine dR (λi ρ=>∃ v,ρ=[some (.sh (.tup [.int w,.int h])),some (.sh (.lst (ps.map cellP))),some (.sh (.int (Mth.iV w.toNat (ps.take i)))),v]) ⟨none,rfl⟩ ?_ ?_
 ·rintro i x ρ hx ⟨v,rfl⟩;rw[List.getElem?_map] at hx;cases hd:ps[i]? with
  |none=>rw[hd] at hx;cases hx
  |some d=>
   rw[hd] at hx;cases hx;have cl:=hc d (Zag hd);obtain⟨e1,e2⟩:=cl.pl;have hm:=sz.mul;have ha:=sz.at cl.c0 cl.c1 cl.r0 cl.r1;unfold zg;walk_at "rd"
   rw[HF sz cl];walk_at "rd"
   have e3:(1:Int)*2^Mth.pl w.toNat (d.1,d.2)=((2^Mth.pl w.toNat d:Nat):Int):=by simp
   rw[e1,e3,BR,take_snoc hd,Mth.Ax];exact⟨by lia,by lia,by decide,_,rfl⟩
 ·rintro ρ ⟨v,rfl⟩;unfold zj;walk_at "rd"
  rw[ZaV (by simp)]
theorem qC{w h:Int}(sz:Sz w h)(n:Nat):gU [.tup [.int w,.int h],.int n]=some (.ok (.lst ((Mth.pick w.toNat (w.toNat*h.toNat) λi=>n.testBit i).map cellP))):=by
 refine uK ?_;unfold sW;walk_at "rd"
 rw[Eh sz];walk_at "rd"
 have hn:=sz.nat;refine⟨by rw[List.length_map];exact ZaE (Mth.j9 _ _ _) (ZaO (Aw (by lia))),?_⟩
 rw[Yq (λx=>match x with|.tup [.int c,.int r]=>n.testBit (Mth.pl w.toNat (c,r))|_=>false) id]
 ·walk_at "rd"
  rw[List.map_id];unfold Mth.pick;rw[ZbR.mpr λ_ _=>rfl,List.map_map,List.filter_map,List.map_map];congr 1
  refine List.filter_congr λi hi=>?_;show n.testBit (Mth.pl w.toNat ((Mth.cellOf w.toNat i).1,(Mth.cellOf w.toNat i).2))=_
  rw[show Mth.pl w.toNat ((Mth.cellOf w.toNat i).1,(Mth.cellOf w.toNat i).2)=i from Mth.jX _ _]
 ·intro x hx;obtain⟨c,hc,rfl⟩:=Zai.mp hx;unfold Mth.pick at hc;obtain⟨i,hi,rfl⟩:=Zai.mp hc;have hi:i<w.toNat*h.toNat:=by simpa using hi
  have cl:=Cell.of (Mth.vJ hi);walk_at "rd"
  rw[Q3 sz cl];walk_at "rd"
 ·intro x hx _;walk_at "rd"
  rfl
theorem vp{α:Type}{j:Nat}{el:Fn PV}{ρb:Rho}(g f:α->PV):∀ (l:List α),(∀ a∈l,Tv (el (ρb.set j (some (.sh (g a))))) λp=>p=f a)->fj (gN j) uo el ρb (l.map g)=some (.ok (l.map f))
 |[],_=>rfl
 |a::l,h=>by
  have e1:=mj (h a List.mem_cons_self);have ih:=vp g f l λb hb=>h b (List.mem_cons_of_mem _ hb);rw[Zap,fj];simp only[gN,uo,bnd,ZbJ,e1,ih,Zap]
def cX(row:Bool):Str:=if row then Str.ofString "row" else Str.ofString "column"
def lK(row:Bool)(l f t:Int):PV:=.tup [.str (cX row),.int l,.int f,.int t]
def cW(row:Bool)(l:Int)(p:Int):Int×Int:=if row then(p,l) else(l,p)
def dw(row:Bool)(l f t:Int):List (Int×Int):=(List.range (t+1-f).toNat).map λ(i:Nat)=>cW row l (f+(i:Int))
theorem LC(row:Bool):decide (cX row=Str.ofString "row")=row:=by cases row<;>decide +kernel
theorem Q4(w h:Int)(row:Bool):oM [.tup [.int w,.int h],.str (cX row)]=some (.ok (.int (if row then h else w))):=by
 refine jF (x:=oK (startR [.tup [.int w,.int h],.str (cX row)] 0)) ?_;unfold oK;walk_at "rd"
 cases row
 ·rw[Zad (by decide +kernel)];rfl
 ·rw[Zaf (by rfl)];rfl
theorem NK(w h:Int)(row:Bool):mD [.tup [.int w,.int h],.str (cX row)]=some (.ok (.int (if row then w else h))):=by
 refine jF (x:=my (startR [.tup [.int w,.int h],.str (cX row)] 0)) ?_;unfold my;walk_at "rd"
 cases row
 ·rw[Zad (by decide +kernel)];rfl
 ·rw[Zaf (by rfl)];rfl
theorem BV{row:Bool}{l f t:Int}(f0:0<=f)(ft:f<=t)(t1:t<=1000):d9 [lK row l f t]=some (.ok (.lst ((dw row l f t).map cellP))):=by
 refine uK (x:=iy (startR [lK row l f t] 0)) ?_;unfold iy lK;walk_at "rd"
 have key:pC f (t+1-f).toNat=(List.range (t+1-f).toNat).map λi=>PV.int (f+((i:Nat):Int)):=rfl;have len:((List.range (t+1-f).toNat).map λi=>PV.int (f+((i:Nat):Int))).length<=sizeLine:=by
  rw[List.length_map,List.length_range];exact ZaE (show _<=1001 by lia) (by decide)
 by_cases hr:row=true
 ·subst hr;rw[Zaf (by rfl)]
  unfold nG;walk_at "rd"
  rw[key];refine⟨by lia,by lia,by lia,by lia,len,?_⟩
  rw[vp (λi=>PV.int (f+((i:Nat):Int))) (λi=>cellP (cW true l (f+((i:Nat):Int)))) _ λi _=>?_]
  ·walk_at "rd"
   unfold dw;rw[List.map_map];rfl
  ·walk_at "rd"
   exact⟨by decide,rfl⟩
 ·have hr:row=false:=by simpa using hr
  subst hr;rw[Zad (by decide +kernel)]
  unfold nH;walk_at "rd"
  rw[key];refine⟨by lia,by lia,by lia,by lia,len,?_⟩
  rw[vp (λi=>PV.int (f+((i:Nat):Int))) (λi=>cellP (cW false l (f+((i:Nat):Int)))) _ λi _=>?_]
  ·walk_at "rd"
   unfold dw;rw[List.map_map];rfl
  ·walk_at "rd"
   exact⟨by decide,rfl⟩
theorem NP{row:Bool}{l f t:Int}(f0:0<=f)(ft:f<=t)(t1:t<=1000):jU [lK row l f t]=some (.ok (.lst ((dw row l f t).map cellP))):=by
 refine uK (x:=jT (startR [lK row l f t] 4)) ?_;unfold jT lK;walk_at "rd"
 have key:pC f (t+1-f).toNat=(List.range (t+1-f).toNat).map λi=>PV.int (f+((i:Nat):Int)):=rfl;have len:((List.range (t+1-f).toNat).map λi=>PV.int (f+((i:Nat):Int))).length<=sizeLine:=by
  rw[List.length_map,List.length_range];exact ZaE (show _<=1001 by omega) (by decide)
 by_cases hr:row=true
 ·subst hr;rw[Zaf (by rfl)]
  unfold qp;walk_at "rd"
  rw[key];refine⟨by omega,by omega,by omega,by omega,len,?_⟩
  rw[vp (λi=>PV.int (f+((i:Nat):Int))) (λi=>cellP (cW true l (f+((i:Nat):Int)))) _ λi _=>?_]
  ·walk_at "rd"
   unfold dw;rw[List.map_map];rfl
  ·walk_at "rd"
   exact⟨by decide,rfl⟩
 ·have hr:row=false:=by simpa using hr
  subst hr;rw[Zad (by decide +kernel)]
  unfold qt;walk_at "rd"
  rw[key];refine⟨by omega,by omega,by omega,by omega,len,?_⟩
  rw[vp (λi=>PV.int (f+((i:Nat):Int))) (λi=>cellP (cW false l (f+((i:Nat):Int)))) _ λi _=>?_]
  ·walk_at "rd"
   unfold dw;rw[List.map_map];rfl
  ·walk_at "rd"
   exact⟨by decide,rfl⟩
theorem dz:∀ {l k:List Nat},l.Nodup->(∀ x∈l,x∈k)->l.length<=k.length
 |[],k,_,_=>Zba _
 |a::l,k,nd,h=>by
  have ha:a∈k:=h a List.mem_cons_self;have nd':=Zbv.mp nd;have:=dz (l:=l) (k:=k.erase a) nd'.2 λx hx=>(List.mem_erase_of_ne (λe:x=a=>nd'.1 (by rw[<-e];exact hx))).mpr (h x (List.mem_cons_of_mem _ hx))
  rw[List.length_erase_of_mem ha] at this;have:0<k.length:=List.length_pos_of_mem ha;simp only[ZaF];lia
def lk:List (Nat×Nat)->Nat->Option Nat
 |[],_=>none
 |p::l,k=>if p.1=k then some p.2 else lk l k
def ptN:List (Nat×Nat)->Nat->Nat->List (Nat×Nat)
 |[],k,v=>[(k,v)]
 |p::l,k,v=>if p.1=k then(k,v)::l else p::ptN l k v
theorem iU(k v j:Nat):∀ l,lk (ptN l k v) j=if j=k then some v else lk l j
 |[]=>by
  unfold ptN lk lk;by_cases h:j=k
  ·rw[Zaf h,Zaf h.symm]
  ·rw[Zad h,Zad (Zbr h)]
 |p::l=>by
  unfold ptN;by_cases h:p.1=k
  ·rw[Zaf h];unfold lk;by_cases hj:j=k
   ·rw[Zaf hj,Zaf hj.symm]
   ·rw[Zad hj,Zad (Zbr hj),Zad (λe=>hj (e.symm.trans h))]
  ·rw[Zad h];unfold lk;rw[iU k v j l];by_cases hj:j=k
   ·rw[Zaf hj,Zad (λe=>h (e.trans hj)),Zaf hj]
   ·simp only[Zad hj]
theorem Q5(k v:Nat):∀ l,lk l k=none->ptN l k v=l++[(k,v)]
 |[],_=>rfl
 |p::l,h=>by
  unfold lk at h;split at h
  ·cases h
  ·rename_i hp;unfold ptN;rw[Zad hp,Q5 k v l h];rfl
theorem oV{k:Nat}:∀ {l},lk l k=none↔k ∉ l.map (·.1)
 |[]=>by simp[lk]
 |p::l=>by
  unfold lk;by_cases h:p.1=k
  ·simp[h]
  ·rw[Zad h,oV];simp[Zbr h]
theorem Ei{k v:Nat}:∀ {l},lk l k=some v->(k,v)∈l
 |p::l,h=>by
  unfold lk at h;split at h
  ·rename_i hp;cases h;subst hp;exact List.mem_cons_self
  ·exact List.mem_cons_of_mem _ (Ei h)
theorem vq{k v:Nat}:∀ {l:List (Nat×Nat)},(l.map (·.1)).Nodup->(k,v)∈l->lk l k=some v
 |p::l,nd,h=>by
  rw[Zap,Zbv] at nd;unfold lk;rcases ZaA.mp h with e|h
  ·subst e;rw[Zaf rfl]
  ·rw[Zad λe=>nd.1 (by rw[e];exact Zai.mpr ⟨_,h,rfl⟩)];exact vq nd.2 h
theorem xM(k v:Nat):∀ l,(ptN l k v).map (·.1)=if lk l k=none then l.map (·.1)++[k] else l.map (·.1)
 |[]=>rfl
 |p::l=>by
  unfold ptN lk;by_cases h:p.1=k
  ·rw[Zaf h,Zaf h];simp[h]
  ·rw[Zad h,Zad h,Zap,xM k v l];split<;>simp
theorem W2(k v:Nat)(l:List (Nat×Nat)):(ptN l k v).length<=l.length+1:=by
 have:=Zbg List.length (xM k v l);rw[List.length_map] at this;rw[this];split<;>simp
def kvQ{κ:Type}(fk:Nat->κ)(fv:Nat->PV)(l:List (Nat×Nat)):List (κ×PV):=l.map λp=>(fk p.1,fv p.2)
theorem zL{κ:Type}[DecidableEq κ]{fk:Nat->κ}{fv:Nat->PV}(inj:∀ a b,fk a=fk b->a=b)(k:Nat):∀ l,dg (kvQ fk fv l) (fk k)=(lk l k).map fv
 |[]=>rfl
 |p::l=>by
  show dg ((fk p.1,fv p.2)::kvQ fk fv l) _=_
  unfold dg lk;by_cases h:p.1=k
  ·subst h;rw[Zaf rfl,Zaf rfl];rfl
  ·rw[Zad (λe=>h (inj _ _ e)),Zad h];exact zL inj k l
theorem zM{κ:Type}[DecidableEq κ]{fk:Nat->κ}{fv:Nat->PV}(inj:∀ a b,fk a=fk b->a=b)(k v:Nat):∀ {l:List (Nat×Nat)},(l.map (·.1)).Nodup->fK (kvQ fk fv l) (fk k) (fv v)=kvQ fk fv (ptN l k v)
 |[],_=>rfl
 |p::l,nd=>by
  rw[Zap,Zbv] at nd;show fK ((fk p.1,fv p.2)::kvQ fk fv l) _ _=_
  unfold fK ptN;by_cases h:p.1=k
  ·subst h;have:((kvQ fk fv l).any λe=>decide (e.1=fk p.1))=false:=by
    rw[List.any_eq_false];intro x hx;obtain⟨q,hq,rfl⟩:=Zai.mp hx;simp only[ZaK];exact λe=>nd.1 (by rw[<-inj _ _ e];exact Zai.mpr ⟨q,hq,rfl⟩)
   rw[Zaf rfl,Zaf rfl,this];rfl
  ·rw[Zad (λe=>h (inj _ _ e)),Zad h,zM inj k v nd.2];rfl
theorem LK{κ:Type}{fk:Nat->κ}{fv:Nat->PV}(l:List (Nat×Nat)):(kvQ fk fv l).length=l.length:=by simp[kvQ]
theorem vy{k:Nat}(h:k<=100000):k<sizeLine:=by rw[sizeLine_eq];lia
theorem HJ(ns:List Int):dD (ns.map PV.int)=some (ns.map .inl):=by
 induction ns with
 |nil=>rfl
 |cons n ns ih=>rw[Zap];unfold dD;rw[ih];rfl
theorem jf(p:Sk):dD (.str p.1::p.2.map PV.int)=some (skK p):=by
 unfold dD;rw[HJ];rfl
theorem oW{p q:Sk}(e:skK p=skK q):p=q:=by
 unfold skK at e;rw[ZbG] at e;refine Prod.ext (Sum.inr.inj e.1) ((List.map_inj_right λ_ _ h=>Sum.inl.inj h).mp e.2)
theorem zN(p:Sk):(skP p).still=true:=by
 show(PV.str p.1::p.2.map PV.int).all (pK 4)=true
 rw[ZaQ];intro x hx;rcases ZaA.mp hx with e|hx
 ·rw[e];rfl
 ·obtain⟨n,_,rfl⟩:=Zai.mp hx;rfl
theorem Q6{l:List (List Key×PV)}{p:Sk}:gm (.dt l) (skP p)=some (dg l (skK p)):=by
 show(dD (.str p.1::p.2.map PV.int)).map (dg l)=_
 rw[jf];rfl
theorem Vu{l:List (List Key×PV)}{p:Sk}{q:PV}(h:l.length<sizeLine):Gz (.dt l) (skP p) q=some (.dt (fK l (skK p) q)):=by
 show(match dD (.str p.1::p.2.map PV.int) with
  |some k=>if l.length<sizeLine then some (PV.dt (fK l k q)) else none
  |none=>none)=_
 rw[jf];exact Zaf h
structure Gs where
 aS:Nat->Sk
 gS:Nat->Sk
 ia:∀ a b,aS a=aS b->a=b
 ig:∀ a b,gS a=gS b->a=b
 la:∀ a,(aS a).2.length=3
 lg:∀ a,(gS a).2.length=3
def Gs.av(G:Gs)(a:Nat):PV:=skP (G.aS a)
def Gs.gv(G:Gs)(a:Nat):PV:=skP (G.gS a)
def Gs.aK(G:Gs)(a:Nat):List Key:=skK (G.aS a)
def Gs.gK(G:Gs)(a:Nat):List Key:=skK (G.gS a)
def Gs.GA(G:Gs)(l:List (Nat×Nat)):PV:=.dt (kvQ G.aK G.gv l)
def Gs.GD(G:Gs)(l:List (Nat×Nat)):PV:=.dt (kvQ G.gK G.av l)
def Gs.AL(G:Gs)(l:List Nat):List PV:=l.map G.av
def Gs.GL(G:Gs)(l:List Nat):List PV:=l.map G.gv
section
variable(G:Gs)
theorem Gs.aKi(a b:Nat)(e:G.aK a=G.aK b):a=b:=G.ia _ _ (oW e)
theorem Gs.gKi(a b:Nat)(e:G.gK a=G.gK b):a=b:=G.ig _ _ (oW e)
theorem Gs.still(g:Nat):(G.gv g).still=true:=zN _
theorem Gs.Q7(a:Nat):(G.av a).still=true:=zN _
theorem Gs.nn(g:Nat):(G.gv g).Bd=false:=rfl
theorem Gs.isD(l:List (Nat×Nat)):(G.GD l).isD=true:=rfl
theorem Gs.sh(l:List (Nat×Nat)):PV.ou (G.GD l)=true:=ZaQ.mpr λp hp=>by
 obtain⟨n,_,rfl⟩:=Zai.mp hp;exact G.Q7 _
theorem Gs.shA(l:List Nat):PV.ou (.lst (G.AL l))=true:=ZaQ.mpr λp hp=>by
 obtain⟨n,_,rfl⟩:=Zai.mp hp;exact G.Q7 _
theorem Gs.find(l:List (Nat×Nat))(g:Nat):gm (G.GD l) (G.gv g)=some ((lk l g).map G.av):=Q6.trans (Zbg some (zL G.gKi g l))
theorem Gs.Vv(l:List (Nat×Nat))(a:Nat):gm (G.GA l) (G.av a)=some ((lk l a).map G.gv):=Q6.trans (Zbg some (zL G.aKi a l))
theorem Gs.put(l:List (Nat×Nat))(g a:Nat)(nd:(l.map (·.1)).Nodup)(h:l.length<sizeLine):Gz (G.GD l) (G.gv g) (G.av a)=some (G.GD (ptN l g a)):=
 (Vu (by rw[LK];exact h)).trans (Zbg (λz=>some (PV.dt z)) (zM G.gKi g a nd))
theorem Gs.YX{l:List (Nat×Nat)}{a g:Nat}(nd:(l.map (·.1)).Nodup)(h:l.length<sizeLine):Gz (G.GA l) (G.av a) (G.gv g)=some (G.GA (ptN l a g)):=
 (Vu (by rw[LK];exact h)).trans (Zbg (λz=>some (PV.dt z)) (zM G.aKi a g nd))
end
def wiP(G:Gs)(n:Nat)(W:Nat->List Nat):PV:=.dt ((List.range n).map λ(i:Nat)=>(G.aK i,PV.lst (G.GL (W i))))
theorem zO{G:Gs}{f:Nat->PV}{k:Nat}:∀ {l:List Nat},k∈l->dg (l.map λ(i:Nat)=>(G.aK i,f i)) (G.aK k)=some (f k)
 |i::l,h=>by
  rw[Zap];unfold dg;by_cases e:i=k
  ·subst e;rw[Zaf rfl]
  ·rw[Zad (λz=>e (G.aKi _ _ z))];exact zO ((ZaA.mp h).resolve_left (Zbr e))
theorem Yr{G:Gs}{n k:Nat}{W:Nat->List Nat}(h:k<n):gm (wiP G n W) (G.av k)=some (some (.lst (G.GL (W k)))):=
 Q6.trans (Zbg some (zO (f:=λi=>.lst (G.GL (W i))) (Zaz.mpr h)))
structure Wk(n:Nat)(W:Nat->List Nat)(B:List (Nat×Nat))(S R:List Nat)(cb:List (Nat×Nat)):Prop where
 eq:R=S++cb.map λp=>(lk B p.1).getD 0
 pr:∀ p∈cb,lk B p.1≠none
 nd:(cb.map (·.1)).Nodup
 wish:∀ p∈cb,p.1∈W p.2
 back:∀ (k:Nat) p,cb[k]?=some p->∃ i,i<S.length+k/\R[i]?=some p.2
 lt:∀ a∈R,a<n
section
variable{n:Nat}{W:Nat->List Nat}{B:List (Nat×Nat)}{S R:List Nat}{cb:List (Nat×Nat)}
theorem Wk.len(h:Wk n W B S R cb):R.length=S.length+cb.length:=by rw[h.eq];simp
theorem Wk.zP{N:Nat}(h:Wk n W B S R cb)(wl:∀ i g,g∈W i->g<N):cb.length<=N:=by
 have:=dz (l:=cb.map (·.1)) (k:=List.range N) h.nd λx hx=>by
  obtain⟨p,hp,rfl⟩:=Zai.mp hx;exact Zaz.mpr (wl _ _ (h.wish p hp))
 simpa using this
theorem Wk.start(h:∀ a∈S,a<n):Wk n W B S S []:=⟨by simp,λp h=>by simp at h,by simp,λp h=>by simp at h,λk p e=>by simp at e,h⟩
theorem Wk.more(h:Wk n W B S R cb){a g b i:Nat}(ha:R[i]?=some a)(hg:g∈W a)(hn:lk cb g=none)(hb:lk B g=some b)(bl:b<n):Wk n W B S (R++[b]) (cb++[(g,a)]) where
 eq:=by rw[Zbi,Zap,List.map_nil,hb,<-Zay,<-h.eq];rfl
 pr:=λp hp=>by
  rcases Zaj.mp hp with hp|hp
  ·exact h.pr p hp
  ·simp at hp;subst hp;rw[hb];simp
 nd:=by
  rw[Zbi,ZbD];refine⟨h.nd,by simp,λx hx y hy=>?_⟩
  simp at hy;subst hy;exact λe=>oV.mp hn (e▸hx)
 wish:=λp hp=>by
  rcases Zaj.mp hp with hp|hp
  ·exact h.wish p hp
  ·simp at hp;subst hp;exact hg
 back:=λk p e=>by
  have hl:=h.len;by_cases hk:k<cb.length
  ·rw[Zal hk] at e;obtain⟨j,h1,h2⟩:=h.back k p e;refine⟨j,h1,?_⟩;rw[Zal (by omega)];exact h2
  ·rw[Zat (by omega)] at e
   have:k=cb.length:=by
    rcases Nat.lt_or_ge (k-cb.length) 1 with q|q
    ·omega
    ·rw[ZaN (by simpa using q)] at e;cases e
   subst this;simp at e;subst e;have hi:i<R.length:=(Zab.mp ha).1;exact⟨i,by omega,by rw[Zal hi];exact ha⟩
 lt:=λx hx=>by
  rcases Zaj.mp hx with hx|hx
  ·exact h.lt x hx
  ·simp at hx;subst hx;exact bl
end
def gvP(G:Gs):Option Nat->PV
 |none=>.non
 |some g=>G.gv g
def Ys(n:Nat)(W:Nat->List Nat)(B:List (Nat×Nat))(S:List Nat)(g:Option Nat)(R:List Nat)(cb:List (Nat×Nat)):Prop:=
 match g with
 |none=>Wk n W B S R cb/\∀ a∈R,∀ x∈W a,x∈cb.map (·.1)
 |some g=>∃ (cb':List (Nat×Nat)) (a i:Nat),cb=cb'++[(g,a)]/\Wk n W B S R cb'/\R[i]?=some a/\g∈W a/\lk cb' g=none/\lk B g=none
theorem W3{G:Gs}{l:List Nat}{i:Nat}{x:PV}(h:(G.AL l)[i]?=some x):∃ g,l[i]?=some g/\x=G.av g:=by
 unfold Gs.AL at h;rw[List.getElem?_map] at h;cases e:l[i]? with
 |none=>rw[e] at h;cases h
 |some g=>rw[e] at h;cases h;exact⟨g,rfl,rfl⟩
theorem W4{G:Gs}{l:List Nat}{i:Nat}{x:PV}(h:(G.GL l)[i]?=some x):∃ g,l[i]?=some g/\x=G.gv g:=by
 unfold Gs.GL at h;rw[List.getElem?_map] at h;cases e:l[i]? with
 |none=>rw[e] at h;cases h
 |some g=>rw[e] at h;cases h;exact⟨g,rfl,rfl⟩
theorem W5{G:Gs}(l:List Nat)(b:Nat):G.AL l++[G.av b]=G.AL (l++[b]):=by simp[Gs.AL]
theorem W6{G:Gs}{l:List Nat}{i a:Nat}(h:l[i]?=some a):atI (G.AL l) (i:Int)=some (G.av a):=by
 exact lN (by unfold Gs.AL;rw[List.getElem?_map,h];rfl)
inductive WlI(G:Gs)(n:Nat)(W:Nat->List Nat)(B:List (Nat×Nat))(S:List Nat)(k:Nat):Rho->Prop
 |mk (R:List Nat) (cb:List (Nat×Nat)) (pl:Nat) (v6 v7:Option Sl) (hk:k+pl=1999) (hpl:pl<=R.length) (hw:Wk n W B S R cb) (hc:∀ i a,i<pl->R[i]?=some a->∀ x∈W a,x∈cb.map (·.1)):WlI G n W B S k [some (.sh (wiP G n W)),some (.sh (G.GD B)),some (.sh (.lst (G.AL S))),some (.ow (.lst (G.AL R))),some (.ow (G.GD cb)),some (.sh (.int (pl:Int))),v6,v7]
inductive WlJ(G:Gs)(n:Nat)(W:Nat->List Nat)(B:List (Nat×Nat))(S:List Nat)(pl a j:Nat):Rho->Prop
 |mk (R:List Nat) (cb:List (Nat×Nat)) (v7:Option Sl) (ha:R[pl]?=some a) (hw:Wk n W B S R cb) (hc:∀ i a,i<pl->R[i]?=some a->∀ x∈W a,x∈cb.map (·.1)) (hj:∀ i x,i<j->(W a)[i]?=some x->x∈cb.map (·.1)):WlJ G n W B S pl a j [some (.sh (wiP G n W)),some (.sh (G.GD B)),some (.sh (.lst (G.AL S))),some (.ow (.lst (G.AL R))),some (.ow (G.GD cb)),some (.sh (.int (pl:Int))),some (.sh (G.av a)),v7]
theorem BW{G:Gs}{n N:Nat}{W:Nat->List Nat}{B:List (Nat×Nat)}{S:List Nat}(hN:N<=600)(hS:S.length<=600)(sl:∀ a∈S,a<n)(wl:∀ i g,g∈W i->g<N)(bl:∀ g b,lk B g=some b->b<n) :
  ∃ g R cb,kW [wiP G n W,G.GD B,.lst (G.AL S)]=some (.ok (.tup [gvP G g,.lst (G.AL R),G.GD cb]))/\Ys n W B S g R cb:=by
 have big:∀ {k:Nat},k<=9000->k<sizeLine:=λh=>vy (by lia)
 suffices h:∃ p,kW [wiP G n W,G.GD B,.lst (G.AL S)]=some (.ok p)/\∃ g R cb,p=.tup [gvP G g,.lst (G.AL R),G.GD cb]/\Ys n W B S g R cb by
  obtain⟨p,e,g,R,cb,rfl,h⟩:=h;exact⟨g,R,cb,e,h⟩
 refine Lq (nC λQS hQ=>?_);unfold zF;rw[show startR [wiP G n W,G.GD B,.lst (G.AL S)] 5=[some (.sh (wiP G n W)),some (.sh (G.GD B)),some (.sh (.lst (G.AL S))),none,none,none,none,none] from rfl];walk_at "rd"
 refine p8 (n:=1999) (I:=WlI G n W B S) (.mk S [] 0 none none rfl (Zba _) (Wk.start sl) λi a h=>absurd h (Nat.not_lt_zero _)) ?_;rintro k _ ⟨R,cb,pl,v6,v7,hk,hpl,hw,hc⟩;have hR:=hw.len;have hcb:=hw.zP wl;walk_at "rd"
 by_cases hlt:(pl:Int)<((G.AL R).length:Int)
 case neg=>
  rw[Zad hlt];have hpl2:pl=R.length:=by simp only[Gs.AL,List.length_map] at hlt;lia
  unfold zE;walk_at "rd"
  refine⟨rfl,G.shA R,G.sh cb,ZaO (big (by lia)),hQ _ ⟨_,rfl,none,R,cb,rfl,hw,λa ha x hx=>?_⟩⟩
  obtain⟨i,hi⟩:=Zbl ha;exact hc i a (by rw[hpl2];exact(Zab.mp hi).1) hi x hx
 case pos=>
  rw[Zaf hlt];have hp2:pl<R.length:=by simp only[Gs.AL,List.length_map] at hlt;lia
  obtain⟨a,ha⟩:∃ a,R[pl]?=some a:=⟨_,List.getElem?_eq_getElem hp2⟩;have al:a<n:=hw.lt a (Zag ha);refine⟨by lia,Vt λQS2 hN hC _ _ hR2=>?_⟩
  unfold zB;walk_at "rd"
  refine⟨(G.av a),W6 ha,rfl,_,Yr al,?_⟩;rw[tv_asSeqL];refine dR (I:=WlJ G n W B S pl a) (.mk R cb v7 ha hw hc λi x h=>absurd h (Nat.not_lt_zero _)) ?_ ?_
  case refine_2=>
   rintro _ ⟨R,cb,v7,ha,hw,hc,hj⟩;have hR:=hw.len;have hcb:=hw.zP wl;have hp3:pl<R.length:=(Zab.mp ha).1;walk_at "rd"
   unfold zA;walk_at "rd"
   refine hN _ (.mk R cb (pl+1) (some (.sh (G.av a))) v7 (by lia) hp3 hw λi b hi hb x hx=>?_)
   by_cases e:i=pl
   ·subst e;rw[ha] at hb;cases hb;obtain⟨i,hi⟩:=Zbl hx;exact hj i x (by simpa[Gs.GL] using(Zab.mp hi).1) hi
   ·exact hc i b (by lia) hb x hx
  rintro j y _ ey ⟨R,cb,v7,ha,hw,hc,hj⟩;refine Vt λQS3 hN3 hC3 _ _ hR3=>?_;obtain⟨g,eg,rfl⟩:=W4 ey;have hR:=hw.len;have hcb:=hw.zP wl;have hg:g∈W a:=Zag eg;unfold zu;walk_at "rd"
  refine⟨G.isD _,_,G.find _ _,?_⟩;cases hk2:lk cb g with
  |some z=>
   rw[Zbz,Option.isSome_some,Zaf rfl];refine hC3 _ (.mk R cb _ ha hw hc λi x hi hx=>?_);by_cases e:i=j
   ·subst e;rw[eg] at hx;cases hx;exact Zai.mpr ⟨_,Ei hk2,rfl⟩
   ·exact hj i x (by lia) hx
  |none=>
   rw[Option.map_none,Option.isSome_none,Zad (by decide)]
   unfold zr;walk_at "rd"
   refine⟨_,G.put _ _ _ hw.nd (big (by lia)),G.isD _,_,G.find _ _,?_⟩
   rw[Q5 _ _ _ hk2];cases hb:lk B g with
   |none=>
    rw[Option.map_none,Option.isSome_none,Zaf (by decide)]
    unfold zp;walk_at "rd"
    exact⟨G.still g,G.shA R,G.sh _,ZaO (big (by lia)),hR3 _ (hR2 _ (hQ _ ⟨_,rfl,some g,R,_,rfl,cb,a,pl,rfl,hw,ha,hg,hk2,hb⟩))⟩
   |some b=>
    rw[Zbz,Option.isSome_some,Zad (by decide)]
    unfold zq;walk_at "rd"
    have hp3:pl<R.length:=(Zab.mp ha).1;have sub:∀ x,x∈cb.map (·.1)->x∈(cb++[(g,a)]).map (·.1):=λx hx=>by rw[Zbi];exact ZbL _ hx
    have M:WlJ G n W B S pl a (j+1) _:=.mk (R++[b]) (cb++[(g,a)]) (some (.sh (G.gv g))) (by rw[Zal hp3];exact ha) (hw.more ha hg hk2 hb (bl g b hb)) (λi c hi hc' x hx=>by
     rw[Zal (by lia)] at hc'
     exact sub x (hc i c hi hc' x hx)) λi x hi hx=>by
      by_cases e:i=j
      ·subst e;rw[eg] at hx;cases hx;simp
      ·exact sub x (hj i x (by lia) hx)
    rw[<-W5] at M;exact⟨G.isD _,(G.av b),by rw[G.find,hb];rfl,by simp only[Gs.AL,List.length_map];exact big (by lia),hN3 _ M⟩
structure Pm(n:Nat)(W:Nat->List Nat)(A B:List (Nat×Nat)):Prop where
 ndA:(A.map (·.1)).Nodup
 ndB:(B.map (·.1)).Nodup
 iff:∀ a g,lk A a=some g↔lk B g=some a
 ok:∀ {a g},lk A a=some g->g∈W a/\a<n
structure Bk(n:Nat)(W:Nat->List Nat)(B:List (Nat×Nat))(s:Nat)(cb:List (Nat×Nat)):Prop where
 nd:(cb.map (·.1)).Nodup
 wish:∀ p∈cb,p.1∈W p.2
 back:∀ (k:Nat) p,cb[k]?=some p->p.2=s\/∃ (j:Nat) (q:Nat×Nat),j<k/\cb[j]?=some q/\lk B q.1=some p.2
 lt:∀ p∈cb,p.2<n
theorem Wk.bk{n:Nat}{W:Nat->List Nat}{B:List (Nat×Nat)}{s:Nat}{R:List Nat}{cb:List (Nat×Nat)}(h:Wk n W B [s] R cb){g a i:Nat}(ha:R[i]?=some a)(hg:g∈W a)(hn:lk cb g=none):Bk n W B s (cb++[(g,a)]) where
 nd:=by
  rw[Zbi,ZbD];refine⟨h.nd,by simp,λx hx y hy=>?_⟩
  simp at hy;subst hy;exact λe=>oV.mp hn (e▸hx)
 wish:=λp hp=>by
  rcases Zaj.mp hp with hp|hp
  ·exact h.wish p hp
  ·simp at hp;subst hp;exact hg
 back:=λk p e=>by
  have hl:=h.len;obtain⟨j,hj,ej⟩:∃ j,j<1+k/\R[j]?=some p.2:=by
   by_cases hk:k<cb.length
   ·rw[Zal hk] at e;exact h.back k p e
   ·rw[Zat (by lia)] at e
    have:k=cb.length:=by
     rcases Nat.lt_or_ge (k-cb.length) 1 with q|q
     ·lia
     ·rw[ZaN (by simpa using q)] at e;cases e
    subst this;simp at e;subst e;have hi:i<R.length:=(Zab.mp ha).1;exact⟨i,by simp at hl;lia,ha⟩
  have hjR:j<R.length:=(Zab.mp ej).1;rw[h.eq] at ej;cases j with
  |zero=>left;simpa using ej.symm
  |succ j=>
   right
   rw[Zat (by simp)] at ej
   simp only[ZaF,ZbE,Nat.zero_add,Nat.add_sub_cancel,List.getElem?_map] at ej;cases q:cb[j]? with
   |none=>rw[q] at ej;cases ej
   |some p'=>
    rw[q] at ej;have ej:some ((lk B p'.1).getD 0)=some p.2:=ej;have hp':=h.pr p' (Zag q);have jl:j<cb.length:=(Zab.mp q).1;refine⟨j,p',by lia,by rw[Zal jl];exact q,?_⟩
    cases z:lk B p'.1 with
    |none=>exact absurd z hp'
    |some b=>rw[z] at ej;exact Zbg some (Zac ej)
 lt:=λp hp=>by
  rcases Zaj.mp hp with hp|hp
  ·obtain⟨k,hk⟩:=Zbl hp;obtain⟨j,_,ej⟩:=h.back k p hk;exact h.lt _ (Zag ej)
  ·simp at hp;subst hp;exact h.lt _ (Zag ha)
structure Jp(n N:Nat)(W:Nat->List Nat)(A0 B0:List (Nat×Nat))(s:Nat)(cb:List (Nat×Nat))(Dd:Nat->Prop)(k x:Nat)(A B:List (Nat×Nat)):Prop where
 ndA:(A.map (·.1)).Nodup
 ndB:(B.map (·.1)).Nodup
 kA:∀ a∈A.map (·.1),a<n
 kB:∀ a∈B.map (·.1),a<N
 old:∀ (i:Nat) p b,i<k->cb[i]?=some p->lk A0 b=some p.1->lk A b=some p.1
 st:lk A s=none
 iff:∀ a g,g≠x->(lk A a=some g↔lk B g=some a)
 no:∀ a,lk A a≠some x
 ok:∀ {a g},lk A a=some g->g∈W a/\a<n
 xd:∀ d,Dd d->lk B0 x≠some d
 bd:∀ g d,Dd d->lk B0 g=some d->lk B g=some d
 more:∀ b,lk A0 b≠none->lk A b≠none
 less:∀ b,lk A b≠none->lk A0 b≠none
def iH(W:Nat->List Nat)(B:List (Nat×Nat))(Dd:Nat->Prop):Prop:=∀ d,Dd d->∀ g∈W d,∃ d',lk B g=some d'/\Dd d'
section
variable{n N:Nat}{W:Nat->List Nat}{A0 B0 A B:List (Nat×Nat)}{s k x a:Nat}{cb:List (Nat×Nat)}{Dd:Nat->Prop}
theorem HN{l:List (Nat×Nat)}(h:(l.map (·.1)).Nodup)(k v:Nat):((ptN l k v).map (·.1)).Nodup:=by
 rw[xM];split
 ·rename_i e;rw[ZbD];refine⟨h,by simp,λx hx y hy=>?_⟩
  simp at hy;subst hy;exact λz=>oV.mp e (z▸hx)
 ·exact h
theorem LQ{l:List (Nat×Nat)}{k v n:Nat}(h:∀ a∈l.map (·.1),a<n)(hk:k<n):∀ a∈(ptN l k v).map (·.1),a<n:=by
 rw[xM];split
 ·intro a ha;rcases Zaj.mp ha with ha|ha
  ·exact h a ha
  ·simp at ha;subst ha;exact hk
 ·exact h
theorem qD{l:List (Nat×Nat)}{n:Nat}(nd:(l.map (·.1)).Nodup)(h:∀ a∈l.map (·.1),a<n):l.length<=n:=by
 have:=dz (l:=l.map (·.1)) (k:=List.range n) nd λx hx=>Zaz.mpr (h x hx);simpa using this
theorem Jp.last(P:Pm n W A0 B0)(b:Bk n W B0 s cb)(c:iH W B0 Dd)(j:Jp n N W A0 B0 s cb Dd k x A B)(e:cb[k]?=some (x,a))(hl:lk A a=none):Pm n W (ptN A a x) (ptN B x a)/\lk (ptN A a x) s≠none/\(∀ b,lk A0 b≠none->lk (ptN A a x) b≠none)/\(∀ b,lk (ptN A a x) b≠none->b=s\/lk A0 b≠none)/\iH W (ptN B x a) Dd:=by
 have xa:x∈W a:=b.wish _ (Zag e);have as:a=s:=by
  rcases b.back k _ e with h|⟨i,q,hi,eq,hq⟩
  ·exact h
  ·exact absurd hl (j.more a (by rw[(P.iff _ _).mpr hq];simp))
 refine⟨⟨HN j.ndA _ _,HN j.ndB _ _,λb' g=>?_,λ{b' g} h=>?_⟩,by rw[iU,Zaf as.symm];simp,λb' hb=>?_,λb' hb=>?_,λd hd g hg=>?_⟩
 ·rw[iU,iU];by_cases hb:b'=a
  ·subst hb;rw[Zaf rfl];by_cases hx:g=x
   ·subst hx;simp
   ·rw[Zad hx];refine⟨λz=>absurd (Zac z).symm hx,λz=>?_⟩;rw[(j.iff _ _ hx).mpr z] at hl;cases hl
  ·rw[Zad hb];by_cases hx:g=x
   ·subst hx;rw[Zaf rfl];exact⟨λz=>absurd z (j.no b'),λz=>absurd (Zac z).symm hb⟩
   ·rw[Zad hx];exact j.iff _ _ hx
 ·rw[iU] at h;split at h
  ·rename_i hb;cases h;subst hb;exact⟨xa,b.lt _ (Zag e)⟩
  ·exact j.ok h
 ·rw[iU];split
  ·simp
  ·exact j.more b' hb
 ·rw[iU] at hb;split at hb
  ·rename_i e';exact .inl (e'.trans as)
  ·exact .inr (j.less b' hb)
 ·obtain⟨d',h1,h2⟩:=c d hd g hg;refine⟨d',?_,h2⟩;rw[iU,Zad λz=>by subst z;exact j.xd d' h2 h1]
  exact j.bd g d' h2 h1
theorem Jp.step(P:Pm n W A0 B0)(wl:∀ i g,g∈W i->g<N)(b:Bk n W B0 s cb)(c:iH W B0 Dd)(j:Jp n N W A0 B0 s cb Dd k x A B)(e:cb[k]?=some (x,a)){y:Nat}(hl:lk A a=some y):∃ k2 a2,k2<k/\cb[k2]?=some (y,a2)/\Jp n N W A0 B0 s cb Dd k2 y (ptN A a x) (ptN B x a):=by
 have xa:x∈W a:=b.wish _ (Zag e);have an:a<n:=b.lt _ (Zag e);have sa:s≠a:=λz=>by subst z;rw[j.st] at hl;cases hl
 obtain⟨i,q,hi,eq,hq⟩:=(b.back k _ e).resolve_left (Zbr sa);have hA0:=(P.iff _ _).mpr hq;have yq:y=q.1:=by have:=j.old i q a hi eq hA0;rw[hl] at this;exact Zac this
 subst yq;have nx:∀ (i':Nat) p,i'<k->cb[i']?=some p->p.1≠x:=λi' p h1 h2 z=>by
  have e1:(cb.map (·.1))[i']?=some x:=by rw[List.getElem?_map,h2];exact Zbg some z
  have e2:(cb.map (·.1))[k]?=some x:=by rw[List.getElem?_map,e];rfl
  have l1:i'<(cb.map (·.1)).length:=(Zab.mp e1).1;have:=(List.getElem?_inj l1 b.nd).mp (e1.trans e2.symm);lia
 have da:¬Dd a:=λhd=>by
  obtain⟨d',h1,h2⟩:=c a hd x xa;exact j.xd d' h2 h1
 have ny:=nx i q hi eq;refine⟨i,q.2,hi,eq,HN j.ndA _ _,HN j.ndB _ _,LQ j.kA an,LQ j.kB (wl _ _ xa),λi' p b' h1 h2 h3=>?_,by rw[iU,Zad sa];exact j.st,λb' g hg=>?_,λb'=>?_,λ{b' g} h=>?_,λd hd z=>?_,λg d hd z=>?_,λb' hb'=>?_,λb' hb'=>?_⟩
 ·rw[iU,Zad λz=>?_]
  ·exact j.old i' p b' (by lia) h2 h3
  ·subst z;rw[hA0] at h3;have z:q.1=p.1:=Zac h3;have e1:(cb.map (·.1))[i']?=some q.1:=by rw[List.getElem?_map,h2];exact Zbg some z.symm
   have e2:(cb.map (·.1))[i]?=some q.1:=by rw[List.getElem?_map,eq];rfl
   have l1:i'<(cb.map (·.1)).length:=(Zab.mp e1).1;have:=(List.getElem?_inj l1 b.nd).mp (e1.trans e2.symm);lia
 ·rw[iU,iU];by_cases hb:b'=a
  ·subst hb;rw[Zaf rfl];by_cases hx:g=x
   ·subst hx;simp
   ·rw[Zad hx];refine⟨λz=>absurd (Zac z).symm hx,λz=>?_⟩;rw[(j.iff _ _ hx).mpr z] at hl;exact absurd (Zac hl) hg
  ·rw[Zad hb];by_cases hx:g=x
   ·subst hx;rw[Zaf rfl];exact⟨λz=>absurd z (j.no b'),λz=>absurd (Zac z).symm hb⟩
   ·rw[Zad hx];exact j.iff _ _ hx
 ·rw[iU];split
  ·exact λz=>ny (Zac z).symm
  ·rename_i hb;exact λz=>hb (by have h1:=(j.iff _ _ ny).mp z;have h2:=(j.iff _ _ ny).mp hl;rw[h1] at h2;exact Zac h2)
 ·rw[iU] at h;split at h
  ·rename_i hb;cases h;subst hb;exact⟨xa,an⟩
  ·exact j.ok h
 ·rw[hq] at z;cases z;exact da hd
 ·rw[iU,Zad λw=>by subst w;exact j.xd d hd z]
  exact j.bd g d hd z
 ·rw[iU];split
  ·simp
  ·exact j.more b' hb'
 ·rw[iU] at hb';split at hb'
  ·rename_i e';subst e';exact j.less _ (by rw[hl];simp)
  ·exact j.less b' hb'
end
theorem NQ{G:Gs}{A B cb:List (Nat×Nat)}:fP [G.GA A,G.GD B,G.GD cb,.non]=some (.ok (.tup [G.GA A,G.GD B])):=by
 suffices h:∃ p,fP [G.GA A,G.GD B,G.GD cb,.non]=some (.ok p)/\p=.tup [G.GA A,G.GD B] by
  obtain⟨p,e,rfl⟩:=h;exact e
 show ∃ p,yH (ju (fM [G.GA A,G.GD B,G.GD cb,.non] 3))=some (.ok p)/\p=.tup [G.GA A,G.GD B]
 refine BL ?_;unfold ju;rw[show fM [G.GA A,G.GD B,G.GD cb,.non] 3=[some (.ow (G.GA A)),some (.ow (G.GD B)),some (.sh (G.GD cb)),some (.sh .non),none,none,none] from rfl];walk_at "rd"
 refine p8 (n:=1999) (I:=λ_ ρ=>ρ=[some (.ow (G.GA A)),some (.ow (G.GD B)),some (.sh (G.GD cb)),some (.sh .non),some (.sh .non),none,none]) rfl ?_;rintro k ρ rfl;walk_at "rd"
 rw[Zad (show ¬PV.non.Bd=false by decide)]
 exact⟨_,rfl,rfl⟩
def PrY(n N:Nat)(W:Nat->List Nat)(A0 B0:List (Nat×Nat))(s:Nat)(cbx:List (Nat×Nat))(Dd:Nat->Prop)(m:Nat)(A B:List (Nat×Nat)):Option Nat->Prop
 |none=>Pm n W A B/\lk A s≠none/\(∀ b,lk A0 b≠none->lk A b≠none)/\(∀ b,lk A b≠none->b=s\/lk A0 b≠none)/\iH W B Dd
 |some x=>∃ k a,cbx[k]?=some (x,a)/\k<m/\Jp n N W A0 B0 s cbx Dd k x A B
inductive PrI(G:Gs)(n N:Nat)(W:Nat->List Nat)(A0 B0:List (Nat×Nat))(s:Nat)(cbx:List (Nat×Nat))(Dd:Nat->Prop)(g m:Nat):Rho->Prop
 |mk (A B:List (Nat×Nat)) (y:Option Nat) (v5 v6:Option Sl) (hy:PrY n N W A0 B0 s cbx Dd m A B y):PrI G n N W A0 B0 s cbx Dd g m [some (.ow (G.GA A)),some (.ow (G.GD B)),some (.sh (G.GD cbx)),some (.sh (G.gv g)),some (.sh (gvP G y)),v5,v6]
theorem Uw{G:Gs}{n N:Nat}{W:Nat->List Nat}{A0 B0 cb:List (Nat×Nat)}{s g a:Nat}{Dd:Nat->Prop}(hn:n<=600)(hN:N<=600)(wl:∀ i g,g∈W i->g<N)(P:Pm n W A0 B0)(b:Bk n W B0 s (cb++[(g,a)]))(c:iH W B0 Dd)(hs:lk A0 s=none)(hg:lk B0 g=none) :
  ∃ A B,fP [G.GA A0,G.GD B0,G.GD (cb++[(g,a)]),G.gv g]=some (.ok (.tup [G.GA A,G.GD B]))/\Pm n W A B/\lk A s≠none/\(∀ b,lk A0 b≠none->lk A b≠none)/\(∀ b,lk A b≠none->b=s\/lk A0 b≠none)/\iH W B Dd:=by
 have big:∀ {k:Nat},k<=9000->k<sizeLine:=λh=>vy (by lia)
 suffices h:∃ p,fP [G.GA A0,G.GD B0,G.GD (cb++[(g,a)]),G.gv g]=some (.ok p)/\∃ A B,p=.tup [G.GA A,G.GD B]/\Pm n W A B/\lk A s≠none/\(∀ b,lk A0 b≠none->lk A b≠none)/\(∀ b,lk A b≠none->b=s\/lk A0 b≠none)/\iH W B Dd by
  obtain⟨p,e,A,B,rfl,h⟩:=h;exact⟨A,B,e,h⟩
 generalize hcb:cb++[(g,a)]=cbx at b ⊢
 have e0:cbx[cb.length]?=some (g,a):=by rw[<-hcb];simp
 have hlen:cbx.length<=N:=qD b.nd λx hx=>by
  obtain⟨p,hp,rfl⟩:=Zai.mp hx;exact wl _ _ (b.wish p hp)
 have kl:∀ {l:List (Nat×Nat)}{k:Nat},k∈l.map (·.1)->∃ v,lk l k=some v:=λ{l k} h=>by
  cases e:lk l k with
  |none=>exact absurd h (oV.mp e)
  |some v=>exact⟨v,rfl⟩
 have j0:Jp n N W A0 B0 s cbx Dd cb.length g A0 B0:=by
  refine⟨P.ndA,P.ndB,λx hx=>?_,λx hx=>?_,λi p b' h1 h2 h3=>h3,hs,λa' g' _=>P.iff a' g',λa' z=>?_,P.ok,λd _ z=>?_,λg' d _ z=>z,λb' z=>z,λb' z=>z⟩
  ·obtain⟨v,hv⟩:=kl hx;exact(P.ok hv).2
  ·obtain⟨v,hv⟩:=kl hx;exact wl _ _ (P.ok ((P.iff _ _).mpr hv)).1
  ·rw[(P.iff _ _).mp z] at hg;cases hg
  ·rw[hg] at z;cases z
 refine BL (nC λQS hQ=>?_);unfold ju;rw[show fM [G.GA A0,G.GD B0,G.GD cbx,G.gv g] 3=[some (.ow (G.GA A0)),some (.ow (G.GD B0)),some (.sh (G.GD cbx)),some (.sh (G.gv g)),none,none,none] from rfl];walk_at "rd"
 refine p8 (n:=1999) (I:=PrI G n N W A0 B0 s cbx Dd g) (.mk A0 B0 (some g) none none ⟨cb.length,a,e0,by have:=(Zab.mp e0).1;lia,j0⟩) ?_
 rintro m _ ⟨A,B,y,v5,v6,hy⟩;cases y with
 |none=>
  rw[show gvP G none=.non from rfl];walk_at "rd"
  rw[Zad (show ¬PV.non.Bd=false by decide)]
  exact hQ _ ⟨_,rfl,A,B,rfl,hy⟩
 |some x=>
  obtain⟨k,a',ek,km,j⟩:=hy;rw[show gvP G (some x)=G.gv x from rfl];walk_at "rd"
  rw[Zaf (G.nn x)];refine⟨by lia,p7 λQS2 hQ2=>?_⟩
  unfold rD;have lc:lk cbx x=some a':=vq b.nd (Zag ek);have lA:=qD j.ndA j.kA;have lB:=qD j.ndB j.kB;walk_at "rd"
  have M:PrI G n N W A0 B0 s cbx Dd g (m-1) _:=.mk (ptN A a' x) (ptN B x a') (lk A a') (some (.sh ((G.av a')))) (some (.sh ((Option.map G.gv (lk A a')).getD PV.non))) (by
   cases hl:lk A a' with
   |none=>exact j.last P b c ek hl
   |some y=>
    obtain⟨k2,a2,h1,h2,h3⟩:=j.step P wl b c ek hl;exact⟨k2,a2,h2,by lia,h3⟩)
  rw[show gvP G (lk A a')=(Option.map G.gv (lk A a')).getD PV.non by cases lk A a'<;>rfl] at M
  exact⟨G.isD _,(G.av a'),by rw[G.find,lc];rfl,rfl,_,G.Vv _ _,_,G.YX j.ndA (big (by lia)),_,G.put _ _ _ j.ndB (big (by lia)),hQ2 _ M⟩
theorem HQ(p:Sk):rC (skK p)=skP p:=by
 unfold rC skK skP;rw[Zap,List.map_map];rfl
theorem Ej(G:Gs)(n:Nat)(W:Nat->List Nat):sS ((List.range n).map λ(i:Nat)=>(G.aK i,PV.lst (G.GL (W i))))=G.AL (List.range n):=by
 unfold sS Gs.AL;rw[List.map_map];exact Za0 λi _=>HQ _
theorem zQ{l:List (List Key×PV)}{Q:List PV->Prop}:Tv (uI (.dt l)) Q=Q (sS l):=tv_some
theorem BX{l:List (List Key×PV)}{Q:List PV->Prop}:Tv (uJ (.dt l)) Q=Q (oH l):=tv_some
inductive MpI(G:Gs)(n:Nat)(W:Nat->List Nat)(j:Nat):Rho->Prop
 |mk (A B:List (Nat×Nat)) (v3 v4:Option Sl) (P:Pm n W A B) (un:∀ a,j<=a->lk A a=none) (Dd:Nat->Prop) (c:iH W B Dd) (hd:∀ a,a<j->lk A a=none->Dd a):MpI G n W j [some (.sh (wiP G n W)),some (.ow (G.GA A)),some (.ow (G.GD B)),v3,v4]
theorem Ux{G:Gs}{n N:Nat}{W:Nat->List Nat}(hn:n<=600)(hN:N<=600)(wl:∀ i g,g∈W i->g<N) :
  ∃ A B,iu [wiP G n W]=some (.ok (G.GA A))/\Pm n W A B/\∃ Dd,iH W B Dd/\∀ a,a<n->lk A a=none->Dd a:=by
 have big:∀ {k:Nat},k<=9000->k<sizeLine:=λh=>vy (by omega)
 suffices h:∃ p,iu [wiP G n W]=some (.ok p)/\∃ A B,p=G.GA A/\Pm n W A B/\∃ Dd,iH W B Dd/\∀ a,a<n->lk A a=none->Dd a by
  obtain⟨p,e,A,B,rfl,h⟩:=h;exact⟨A,B,e,h⟩
 refine Ed (nC λQS hQ=>?_);unfold oJ;rw[show startR [wiP G n W] 4=[some (.sh (wiP G n W)),none,none,none,none] from rfl];walk_at "rd"
 refine⟨rfl,?_⟩;rw[show wiP G n W=.dt ((List.range n).map λ(i:Nat)=>(G.aK i,PV.lst (G.GL (W i)))) from rfl,zQ,Ej,<-show wiP G n W=.dt ((List.range n).map λ(i:Nat)=>(G.aK i,PV.lst (G.GL (W i)))) from rfl];refine dR (I:=MpI G n W) (.mk [] [] none none ⟨by simp,by simp,λa g=>by simp[lk],λ{a g} h=>by simp[lk] at h⟩ (λa _=>rfl) (λ_=>False) (λd h=>h.elim) λa h=>absurd h (Nat.not_lt_zero _)) ?_ ?_
 case refine_2=>
  rintro _ ⟨A,B,v3,v4,P,un,Dd,c,hd⟩;walk_at "rd"
  unfold qg;walk_at "rd"
  exact hQ _ ⟨_,rfl,A,B,rfl,P,Dd,c,λa ha=>hd a (by simpa[Gs.AL] using ha)⟩
 rintro j y _ ey ⟨A,B,v3,v4,P,un,Dd,c,hd⟩;refine p7 λQS2 hQ2=>?_;obtain⟨s,es,rfl⟩:=W3 ey;have hs:s=j/\s<n:=by
  have hj:j<n:=by simpa using(Zab.mp es).1
  rw[Zbs hj] at es;cases es;exact⟨rfl,hj⟩
 obtain⟨rfl,sn⟩:=hs;obtain⟨g,R,cb,ew,he⟩:=BW (G:=G) (B:=B) (S:=[s]) hN (by simp) (λa ha=>by simp at ha;omega) wl λg b h=>(P.ok ((P.iff _ _).mpr h)).2
 unfold qe;walk_at "rd"
 refine⟨ZaO (big (by omega)),?_⟩
 rw[show[(G.av s)]=G.AL [s] from rfl,ew];walk_at "rd"
 cases g with
 |none=>
  obtain⟨hw,hc⟩:=he;refine⟨_,_,NQ,hQ2 _ (.mk A B _ _ P (λa ha=>un a (by omega)) (λd=>Dd d\/d∈R) (λd hd' g hg=>?_) λa ha hl=>?_)⟩
  ·rcases hd' with h|h
   ·obtain⟨d',h1,h2⟩:=c d h g hg;exact⟨d',h1,.inl h2⟩
   ·obtain⟨p,hp,rfl⟩:=Zai.mp (hc d h g hg);cases e:lk B p.1 with
    |none=>exact absurd e (hw.pr p hp)
    |some b=>
     refine⟨b,rfl,.inr ?_⟩;rw[hw.eq];exact ZaM _ (Zai.mpr ⟨p,hp,by rw[e];rfl⟩)
  ·by_cases e:a=s
   ·right;subst e;rw[hw.eq];simp
   ·exact .inl (hd a (by omega) hl)
 |some g=>
  obtain⟨cb',a,i,rfl,hw,ha,hg,hk,hb⟩:=he;obtain⟨A',B',e1,P',h1,h2,h3,c'⟩:=Uw (G:=G) hn hN wl P (hw.bk ha hg hk) c (un s (Zak _)) hb;refine⟨_,_,e1,hQ2 _ (.mk A' B' _ _ P' (λb hb'=>?_) Dd c' λb hb' hl=>?_)⟩
  ·cases e:lk A' b with
   |none=>rfl
   |some z=>
    rcases h3 b (by rw[e];simp) with h|h
    ·omega
    ·exact absurd (un b (by omega)) h
  ·by_cases e:b=s
   ·subst e;exact absurd hl h1
   ·refine hd b (by omega) ?_
    cases z:lk A b with
    |none=>rfl
    |some z'=>exact absurd hl (h2 b (by rw[z];simp))
theorem lz{α:Type}{tg:PV->Rho->Option Rho}{tst:Fn Bool}{el:Fn PV}{ρb:Rho}(src:α->PV)(t:α->Bool)(f:α->PV):∀ (l:List α),
  (∀ x∈l,∃ ρ1,tg (src x) ρb=some ρ1/\tst ρ1=some (.ok (t x))/\(t x=true->el ρ1=some (.ok (f x))))->fj tg tst el ρb (l.map src)=some (.ok ((l.filter t).map f))
 |[],_=>rfl
 |x::xs,h=>by
  obtain⟨ρ1,e1,e2,e3⟩:=h x List.mem_cons_self;have ih:=lz src t f xs λy hy=>h y (List.mem_cons_of_mem _ hy);rw[Zap,fj,e1];simp only[e2,bnd];cases ht:t x with
  |true=>simp only[ZbJ,e3 ht,ih,bnd,List.filter_cons,ht,Zap]
  |false=>simp only[Zbf,Zbh,ih,List.filter_cons,ht]
def Ah(l B:List (Nat×Nat)):List (Nat×Nat):=l.foldl (λB p=>ptN B p.2 p.1) B
theorem LR{g a:Nat}:∀ (l:List (Nat×Nat)) {B:List (Nat×Nat)},(l.map (·.2)).Nodup->(lk (Ah l B) g=some a↔(a,g)∈l\/(lk B g=some a/\g ∉ l.map (·.2)))
 |[],B,_=>by simp[Ah]
 |p::l,B,nd=>by
  rw[Zap,Zbv] at nd;show lk (Ah l (ptN B p.2 p.1)) g=some a↔_
  rw[LR l nd.2,iU];by_cases h:g=p.2
  ·subst h;rw[Zaf rfl];constructor
   ·rintro(h|⟨h,_⟩)
    ·exact .inl (List.mem_cons_of_mem _ h)
    ·cases h;exact .inl List.mem_cons_self
   ·rintro(h|⟨_,h⟩)
    ·rcases ZaA.mp h with e|h
     ·right;rw[<-e];exact⟨rfl,by rw[show(a,p.2).2=p.2 from rfl];exact nd.1⟩
     ·exact absurd (Zai.mpr ⟨_,h,rfl⟩) nd.1
    ·simp at h
  ·rw[Zad h];constructor
   ·rintro(q|⟨q1,q2⟩)
    ·exact .inl (List.mem_cons_of_mem _ q)
    ·exact .inr ⟨q1,by simp only[Zap,ZaA,not_or];exact⟨h,q2⟩⟩
   ·rintro(q|⟨q1,q2⟩)
    ·rcases ZaA.mp q with e|q
     ·rw[<-e] at h;exact absurd rfl h
     ·exact .inl q
    ·simp only[Zap,ZaA,not_or] at q2;exact .inr ⟨q1,q2.2⟩
theorem Ma{G:Gs}:∀ (l:List (Nat×Nat)) {B:List (Nat×Nat)},(B.map (·.1)).Nodup->B.length+l.length<=9000->jj (G.GD B) (l.map λp=>(G.gv p.2,G.av p.1))=some (G.GD (Ah l B))
 |[],_,_,_=>rfl
 |p::l,B,nd,h=>by
  have h1:=G.put B p.2 p.1 nd (vy (by simp at h;lia))
  rw[Zap];unfold jj;rw[h1];exact Ma l (HN nd _ _) (by have:=W2 p.2 p.1 B;simp at h;lia)
theorem HR{G:Gs}:∀ (l:List (Nat×Nat)),nZ (l.map λp=>PV.tup [G.gv p.2,G.av p.1])=some (l.map λp=>(G.gv p.2,G.av p.1))
 |[]=>rfl
 |p::l=>by
  rw[Zap];unfold nZ;rw[HR l];rfl
theorem Pm.Yt{n:Nat}{W:Nat->List Nat}{A B:List (Nat×Nat)}(P:Pm n W A B):(A.map (·.2)).Nodup:=by
 have h:=P.ndA;rw[List.Nodup,ZaY] at h ⊢;refine h.imp_of_mem λ{p q} hp hq hne e=>hne ?_;have h1:=(P.iff _ _).mp (vq P.ndA (show(p.1,p.2)∈A from hp));have h2:=(P.iff _ _).mp (vq P.ndA (show(q.1,q.2)∈A from hq));rw[e,h2] at h1;exact(Zac h1).symm
theorem Pm.rev{n:Nat}{W:Nat->List Nat}{A B:List (Nat×Nat)}(P:Pm n W A B)(g a:Nat):lk (Ah A []) g=some a↔lk B g=some a:=by
 rw[LR A P.Yt,<-P.iff];simp only[lk,reduceCtorEq,false_and,or_false];exact⟨λh=>vq P.ndA h,λh=>Ei h⟩
def pq(n:Nat)(A:List (Nat×Nat)):List Nat:=(List.range n).filter λa=>(lk A a).isNone
theorem HS(G:Gs)(l:List (Nat×Nat)):oH (kvQ G.aK G.gv l)=l.map λp=>PV.tup [G.av p.1,G.gv p.2]:=by
 unfold oH kvQ;rw[List.map_map];exact Za0 λp _=>by show PV.tup [rC (skK (G.aS p.1)),G.gv p.2]=_;rw[HQ];rfl
def tu(ps:List Sk):List Sk:=(gR ps).map λj=>ps.getD j default
theorem j6(ps:List Sk):(tu ps).Perm ps:=by
 have h:=(nu ps).map λj=>ps.getD j default;refine h.trans (List.Perm.of_eq ?_);apply ZbB
 intro i;rw[List.getElem?_map];by_cases hi:i<ps.length
 ·rw[Zbs hi,List.getElem?_eq_getElem hi];show some (ps.getD i default)=_
  rw[List.getD_eq_getElem?_getD,List.getElem?_eq_getElem hi];rfl
 ·rw[ZaN (by simpa using hi),ZaN (by simpa using hi)];rfl
theorem BZ:∀ (ps:List Sk),yV (ps.map skP)=some ps
 |[]=>rfl
 |p::ps=>by
  rw[Zap];unfold yV;rw[BZ ps];have:WQ (skP p)=some p:=by
   show(pU (p.2.map PV.int)).map _=_
   rw[MM.oG];rfl
  rw[this]
theorem Ca:∀ (ns:List Int),wG (ns.map .inl)=some ns
 |[]=>rfl
 |n::ns=>by
  show(wG (ns.map .inl)).map (n::·)=_
  rw[Ca ns];rfl
theorem HW:∀ (ps:List Sk),Ac (ps.map skK)=some ps
 |[]=>rfl
 |p::ps=>by
  rw[Zap];unfold Ac;rw[HW ps];have:kSk (skK p)=some p:=by
   show(wG (p.2.map .inl)).map _=_
   rw[Ca];rfl
  rw[this]
theorem HX{ps:List Sk}(h:∀ p∈ps,p.2.length=3):lZ ps=true:=by
 cases ps with
 |nil=>rfl
 |cons p l=>
  refine ZaQ.mpr λq hq=>?_;rw[h q (List.mem_cons_of_mem _ hq),h p List.mem_cons_self];rfl
theorem Mf{ps:List Sk}(nd:ps.Nodup)(h:∀ p∈ps,p.2.length=3)(hl:ps.length<sizeLine):qQ (ps.map skP)=some (.ok (.lst ((tu ps).map skP))):=by
 unfold qQ;rw[BZ];show(if _ then _ else _)=_
 rw[Zaf ⟨nd,HX h,hl⟩];unfold tu;rw[List.map_map];rfl
theorem Uy{l:List (List Key×PV)}{ps:List Sk}(e:l.map (·.1)=ps.map skK)(nd:ps.Nodup)(h:∀ p∈ps,p.2.length=3)(hl:ps.length<sizeLine):yX (.dt l)=some (.ok (.lst ((tu ps).map skP))):=by
 show(match Ac (l.map (·.1)) with
  |some ps=>if ps.Nodup/\lZ ps=true/\ps.length<sizeLine then some (Res.ok (PV.lst ((gR ps).map λj=>skP (ps.getD j default)))) else none
  |none=>none)=_
 rw[e,HW];show(if _ then _ else _)=_
 rw[Zaf ⟨nd,HX h,hl⟩];unfold tu;rw[List.map_map];rfl
theorem Wk.ndR{n:Nat}{W:Nat->List Nat}{A B B':List (Nat×Nat)}{R:List Nat}{cb:List (Nat×Nat)}(P:Pm n W A B)(hB:∀ g a,lk B' g=some a↔lk B g=some a)(hw:Wk n W B' (pq n A) R cb):R.Nodup:=by
 rw[hw.eq,ZbD];refine⟨List.Nodup.sublist ZbI ZbV,?_,λa ha b hb e=>?_⟩
 ·have h:=hw.nd;rw[List.Nodup,ZaY] at h ⊢;refine h.imp_of_mem λ{p q} hp hq hne e=>hne ?_;cases e1:lk B' p.1 with
  |none=>exact absurd e1 (hw.pr p hp)
  |some a=>
   cases e2:lk B' q.1 with
   |none=>exact absurd e2 (hw.pr q hq)
   |some b=>
    rw[e1,e2] at e;have e:a=b:=e;subst e;have h1:=(P.iff _ _).mpr ((hB _ _).mp e1);have h2:=(P.iff _ _).mpr ((hB _ _).mp e2);rw[h1] at h2;exact Zac h2
 ·subst e;obtain⟨p,hp,e1⟩:=Zai.mp hb;cases e2:lk B' p.1 with
  |none=>exact absurd e2 (hw.pr p hp)
  |some z=>
   rw[e2] at e1;have e1:z=a:=e1;subst e1;have h1:=(P.iff _ _).mpr ((hB _ _).mp e2);have:=(ZaB.mp ha).2;rw[h1] at this;cases this
theorem Q8{G:Gs}{n N:Nat}{W:Nat->List Nat}{A B:List (Nat×Nat)}{Dd:Nat->Prop}(hn:n<=600)(hN:N<=600)(wl:∀ i g,g∈W i->g<N)(P:Pm n W A B)(c:iH W B Dd)(hd:∀ a,a<n->lk A a=none->Dd a) :
  ∃ B' R cb,fB [wiP G n W,G.GA A]=some (.ok (.tup [.lst ((tu (R.map G.aS)).map skP),.lst ((tu (cb.map λp=>G.gS p.1)).map skP)]))/\(∀ g a,lk B' g=some a↔lk B g=some a)/\Wk n W B' (pq n A) R cb/\∀ a∈R,∀ x∈W a,x∈cb.map (·.1):=by
 have big:∀ {k:Nat},k<=9000->k<sizeLine:=λh=>vy (by lia)
 have kl:∀ {l:List (Nat×Nat)}{k:Nat},k∈l.map (·.1)->∃ v,lk l k=some v:=λ{l k} h=>by
  cases e:lk l k with
  |none=>exact absurd h (oV.mp e)
  |some v=>exact⟨v,rfl⟩
 have lA:A.length<=n:=qD P.ndA λx hx=>by obtain⟨v,hv⟩:=kl hx;exact(P.ok hv).2
 obtain⟨g,R,cb,ew,he⟩:=BW (G:=G) (B:=Ah A []) (S:=pq n A) hN (by have:(pq n A).length<=(List.range n).length:=Za7 _ _;rw[List.length_range] at this;lia) (λa ha=>by simpa[pq] using(ZaB.mp ha).1) wl λg b h=>(P.ok ((P.iff _ _).mpr ((P.rev g b).mp h))).2
 have stay:∀ {R cb},Wk n W (Ah A []) (pq n A) R cb->(∀ a∈R,Dd a):=λ{R cb} hw=>by
  intro a ha;obtain⟨i,hi⟩:=Zbl ha;induction i using Nat.strongRecOn generalizing a with
  |_ i ih=>
   rw[hw.eq] at hi;by_cases hl:i<(pq n A).length
   ·rw[Zal hl] at hi;have:=ZaB.mp (Zag hi);exact hd a (by simpa using this.1) (by simpa using this.2)
   ·rw[Zat (by lia),List.getElem?_map] at hi
    cases q:cb[i-(pq n A).length]? with
    |none=>rw[q] at hi;cases hi
    |some p=>
     rw[q] at hi;have hi:some ((lk (Ah A []) p.1).getD 0)=some a:=hi;obtain⟨j,h1,h2⟩:=hw.back _ p q;have dj:=ih j (by lia) p.2 (Zag h2) h2
     obtain⟨d',e1,e2⟩:=c p.2 dj p.1 (hw.wish p (Zag q));rw[(P.rev _ _).mpr e1] at hi;cases hi;exact e2
 have hg:g=none:=by
  cases g with
  |none=>rfl
  |some g=>
   obtain⟨cb',a,i,rfl,hw,ha,hg,hk,hb⟩:=he;obtain⟨d',e1,_⟩:=c a (stay hw a (Zag ha)) g hg;rw[(P.rev _ _).mpr e1] at hb;cases hb
 subst hg;obtain⟨hw,hc⟩:=he;refine⟨Ah A [],R,cb,?_,P.rev,hw,hc⟩;refine jF ?_;unfold iw;rw[show startR [wiP G n W,G.GA A] 2=[some (.sh (wiP G n W)),some (.sh (G.GA A)),none,none] from rfl];walk_at "rd"
 rw[show G.GA A=.dt (kvQ G.aK G.gv A) from rfl,BX,HS,lz (λp:Nat×Nat=>PV.tup [G.av p.1,G.gv p.2]) (λ_=>true) (λp=>PV.tup [G.gv p.2,G.av p.1]) A λp _=>⟨_,rfl,rfl,λ_=>mj (by walk_at "rd";exact ZaO (big (by lia)))⟩,tv_some,ZbR.mpr (λ_ _=>rfl)]
 have pa:jj (.dt []) (A.map λp=>(G.gv p.2,G.av p.1))=some (G.GD (Ah A [])):=by
  have h:=Ma (G:=G) A (B:=[]) (by simp) (by simp;lia)
  exact h
 refine⟨rfl,by rw[List.length_map];exact ZaO (big (by lia)),_,HR A,_,pa,rfl,?_⟩
 rw[show wiP G n W=.dt ((List.range n).map λ(i:Nat)=>(G.aK i,PV.lst (G.GL (W i)))) from rfl,zQ,Ej,<-show wiP G n W=.dt ((List.range n).map λ(i:Nat)=>(G.aK i,PV.lst (G.GL (W i)))) from rfl];refine⟨by simp only[Gs.AL,List.length_map,List.length_range];exact ZaO (big (by lia)),?_⟩
 rw[show G.AL (List.range n)=(List.range n).map G.av from rfl,lz G.av (λa=>(lk A a).isNone) G.av (List.range n) λa _=>⟨_,rfl,mj (by
  walk_at "rd"
  refine⟨_,G.Vv A a,?_⟩;cases lk A a<;>rfl),λ_=>mj (by walk_at "rd")⟩,tv_some,show((List.range n).filter λa=>(lk A a).isNone).map G.av=G.AL (pq n A) from rfl,ew]
 walk_at "rd"
 have hR:=hw.len;have hcb:=hw.zP wl;have hf:(pq n A).length<=(List.range n).length:=Za7 _ _;rw[List.length_range] at hf;have nR:R.length<=n:=by
  have:=dz (l:=R) (k:=List.range n) (Wk.ndR P P.rev hw) λx hx=>Zaz.mpr (hw.lt x hx);simpa using this
 have ndR:=Wk.ndR P P.rev hw;have nm:∀ {l:List Nat}{f:Nat->Sk},l.Nodup->(∀ a b,f a=f b->a=b)->(l.map f).Nodup:=λ{l f} nd inj=>by
  rw[List.Nodup,ZaY];exact nd.imp λhne e=>hne (inj _ _ e)
 rw[show G.AL R=(R.map G.aS).map skP by rw[List.map_map];rfl,Mf (nm ndR G.ia) (λp hp=>by obtain⟨a,_,rfl⟩:=Zai.mp hp;exact G.la a) (by rw[List.length_map];exact big (by lia)),tv_some]
 refine⟨rfl,?_⟩;rw[show G.GD cb=.dt (kvQ G.gK G.av cb) from rfl,Uy (ps:=cb.map λp=>G.gS p.1) (by unfold kvQ;rw[List.map_map,List.map_map];rfl) (by have:=nm (f:=G.gS) hw.nd G.ig;rw[List.map_map] at this;exact this) (λp hp=>by obtain⟨a,_,rfl⟩:=Zai.mp hp;exact G.lg _) (by rw[List.length_map];exact big (by lia)),tv_some]
 exact⟨ZaO (big (by lia)),rfl⟩
def tD(l:List Int):List (Int×Int):=l.zip l.tail
theorem Ek:∀ {l:List Int},l.Pairwise (·<·)->∀ p∈tD l,p.1<p.2/\p.1∈l/\p.2∈l/\∀ y∈l,y<=p.1\/p.2<=y
 |[],_,p,hp=>by simp[tD] at hp
 |[a],_,p,hp=>by simp[tD] at hp
 |a::b::l,pw,p,hp=>by
  have h1:=List.pairwise_cons.mp pw;have hp:p∈(a,b)::tD (b::l):=hp;rcases ZaA.mp hp with e|hp
  ·subst e;refine⟨h1.1 b List.mem_cons_self,List.mem_cons_self,List.mem_cons_of_mem _ List.mem_cons_self,λy hy=>?_⟩;rcases ZaA.mp hy with e|hy
   ·left;show y<=a;lia
   ·right
    rcases ZaA.mp hy with e|hy
    ·show b<=y;lia
    ·have:=(List.pairwise_cons.mp h1.2).1 y hy;show b<=y;lia
  ·obtain⟨q1,q2,q3,q4⟩:=Ek h1.2 p hp;refine⟨q1,List.mem_cons_of_mem _ q2,List.mem_cons_of_mem _ q3,λy hy=>?_⟩;rcases ZaA.mp hy with e|hy
   ·left
    have:=h1.1 p.1 q2;lia
   ·exact q4 y hy
theorem Q9{x:Int}:∀ {a:Int}{l:List Int},a<x->x ∉ l->(∃ y∈l,x<y)->∃ p∈tD (a::l),p.1<x/\x<p.2
 |a,[],_,_,h=>by obtain⟨y,hy,_⟩:=h;cases hy
 |a,b::l,ha,hx,h=>by
  by_cases hb:x<b
  ·exact⟨(a,b),List.mem_cons_self,ha,hb⟩
  ·have ne:x≠b:=λe=>hx (by rw[e];exact List.mem_cons_self)
   obtain⟨y,hy,h2⟩:=h;have hy:y∈l:=by
    rcases ZaA.mp hy with e|hy
    ·subst e;exact absurd h2 hb
    ·exact hy
   obtain⟨p,hp,q⟩:=Q9 (a:=b) (l:=l) (by lia) (λz=>hx (List.mem_cons_of_mem _ z)) ⟨y,hy,h2⟩
   exact⟨p,List.mem_cons_of_mem _ hp,q⟩
def fU(q:Nat->Bool)(L:Nat):List Int:=(-1)::((((List.range L).filter q).map λ(i:Nat)=>(i:Int))++[(L:Int)])
theorem zR{q:Nat->Bool}{L:Nat}{y:Int}:y∈fU q L↔y=-1\/(∃ i:Nat,i<L/\q i=true/\y=i)\/y=L:=by
 unfold fU;simp only[ZaA,Zaj,Zai,ZaB,Zaz,List.not_mem_nil,or_false];constructor
 ·rintro(h|⟨i,⟨h1,h2⟩,rfl⟩|h)
  ·exact .inl h
  ·exact .inr (.inl ⟨i,h1,h2,rfl⟩)
  ·exact .inr (.inr h)
 ·rintro(h|⟨i,h1,h2,rfl⟩|h)
  ·exact .inl h
  ·exact .inr (.inl ⟨i,⟨h1,h2⟩,rfl⟩)
  ·exact .inr (.inr h)
theorem El(q:Nat->Bool)(L:Nat):(fU q L).Pairwise (·<·):=by
 unfold fU;rw[List.pairwise_cons];refine⟨λy hy=>?_,?_⟩
 ·rcases Zaj.mp hy with hy|hy
  ·obtain⟨i,_,rfl⟩:=Zai.mp hy;omega
  ·simp at hy;omega
 ·rw[Zas];refine⟨?_,by simp,λa ha b hb=>?_⟩
  ·rw[ZaY];exact(Zam ZbI List.pairwise_lt_range).imp λh=>by omega
  ·obtain⟨i,hi,rfl⟩:=Zai.mp ha;have:=Zaz.mp (ZaB.mp hi).1;simp at hb;omega
def vz(q:Nat->Bool)(L:Nat):List (Int×Int):=((tD (fU q L)).filter λp=>decide (p.1+1<p.2)).map λp=>(p.1+1,p.2-1)
def qF(q:Nat->Bool)(L:Nat)(x:Int):Int×Int:=(λp:Int×Int=>(p.1+1,p.2-1)) (((tD (fU q L)).find? λp=>decide (p.1<x/\x<p.2)).getD (0,0))
structure vX(q:Nat->Bool)(L:Nat)(x:Int):Prop where
 x0:0<=x
 x1:x<L
 no:q x.toNat=false
section
variable{q:Nat->Bool}{L:Nat}{x y:Int}
theorem vX.Vw(f:vX q L x):x ∉ fU q L:=λh=>by
 rcases zR.mp h with e|⟨i,h1,h2,e⟩|e
 ·have:=f.x0;omega
 ·have:=f.no;rw[e,ZaP,h2] at this;cases this
 ·have:=f.x1;omega
theorem vX.gap(f:vX q L x):∃ p∈tD (fU q L),p.1<x/\x<p.2/\qF q L x=(p.1+1,p.2-1):=by
 have ex:∃ p∈tD (fU q L),p.1<x/\x<p.2:=Q9 (by have:=f.x0;omega) (λz=>f.Vw (List.mem_cons_of_mem _ z)) ⟨(L:Int),by simp,f.x1⟩
 cases e:(tD (fU q L)).find? λp=>decide (p.1<x/\x<p.2) with
 |none=>
  obtain⟨p,h1,h2⟩:=ex;have:=List.find?_eq_none.mp e p h1;simp only[ZaK] at this;exact absurd h2 this
 |some p=>
  have h1:=List.find?_some e;simp only[ZaK] at h1;refine⟨p,List.mem_of_find?_eq_some e,h1.1,h1.2,?_⟩;unfold qF;rw[e];rfl
structure Run(q:Nat->Bool)(L:Nat)(p:Int×Int):Prop where
 a0:0<=p.1
 ab:p.1<=p.2
 b1:p.2<L
 fr:∀ y,p.1<=y->y<=p.2->vX q L y
theorem Em{p:Int×Int}(hp:p∈tD (fU q L))(h:p.1+1<p.2):Run q L (p.1+1,p.2-1):=by
 obtain⟨h1,h2,h3,h4⟩:=Ek (El q L) p hp;have ge:∀ y∈fU q L,-1<=y/\y<=L:=λy hy=>by
  rcases zR.mp hy with e|⟨i,h1,h2,e⟩|e<;>lia
 have g2:=ge _ h2;have g3:=ge _ h3;refine⟨by show 0<=p.1+1;lia,by show p.1+1<=p.2-1;lia,by show p.2-1<L;lia,λy y1 y2=>?_⟩
 have y1:p.1+1<=y:=y1;have y2:y<=p.2-1:=y2;refine⟨by lia,by lia,?_⟩
 cases e:q y.toNat with
 |false=>rfl
 |true=>
  have:=h4 y (zR.mpr (.inr (.inl ⟨y.toNat,by lia,e,by lia⟩)))
  lia
theorem vX.run(f:vX q L x):Run q L (qF q L x)/\(qF q L x).1<=x/\x<=(qF q L x).2/\qF q L x∈vz q L:=by
 obtain⟨p,h1,h2,h3,e⟩:=f.gap;rw[e];refine⟨Em h1 (by lia),by show p.1+1<=x;lia,by show x<=p.2-1;lia,?_⟩
 exact Zai.mpr ⟨p,ZaB.mpr ⟨h1,by simp only[ZaK];lia⟩,rfl⟩
theorem HY{p r:Int×Int}(hp:p∈tD (fU q L))(hr:r∈tD (fU q L))(h1:p.1<x)(h2:x<p.2)(h3:r.1<y)(h4:y<r.2)(hf:∀ z,(x<=z/\z<=y)\/(y<=z/\z<=x)->vX q L z):p=r:=by
 obtain⟨_,a2,a3,a4⟩:=Ek (El q L) p hp;obtain⟨_,b2,b3,b4⟩:=Ek (El q L) r hr;have no:∀ z∈fU q L,¬((x<=z/\z<=y)\/(y<=z/\z<=x)):=λz hz h=>(hf z h).Vw hz;have c1:=no _ a2;have c2:=no _ a3;have c3:=no _ b2;have c4:=no _ b3;have d1:=b4 _ a2;have d2:=b4 _ a3;have d3:=a4 _ b2;have d4:=a4 _ b3;exact Prod.ext (by omega) (by omega)
theorem W7{p:Int×Int}(hp:p∈vz q L)(h1:p.1<=x)(h2:x<=p.2):qF q L x=p:=by
 obtain⟨r,hr,rfl⟩:=Zai.mp hp;obtain⟨hr,hd⟩:=ZaB.mp hr;simp only[ZaK] at hd;have h1:r.1+1<=x:=h1;have h2:x<=r.2-1:=h2;have f:vX q L x:=(Em hr hd).fr x h1 h2;obtain⟨p,k1,k2,k3,e⟩:=f.gap;rw[e,HY k1 hr k2 k3 (by lia:r.1<x) (by lia) λz hz=>by
  have:z=x:=by lia
  rw[this];exact f]
theorem Uz{p:Int×Int}(hp:p∈vz q L):Run q L p:=by
 obtain⟨r,hr,rfl⟩:=Zai.mp hp;obtain⟨hr,hd⟩:=ZaB.mp hr;simp only[ZaK] at hd;exact Em hr hd
theorem Ia(hf:∀ z,(x<=z/\z<=y)\/(y<=z/\z<=x)->vX q L z):qF q L x=qF q L y:=by
 obtain⟨p,k1,k2,k3,e⟩:=(hf x (by lia)).gap
 obtain⟨r,l1,l2,l3,e'⟩:=(hf y (by lia)).gap
 rw[e,e',HY k1 l1 k2 k3 l2 l3 hf]
end
def gn(w h:Int)(row:Bool):Nat:=(if row then w else h).toNat
def qOn(w:Int)(keep:Nat)(row:Bool)(l:Int):Nat->Bool:=λx=>keep.testBit (Mth.pl w.toNat (cW row l (x:Int)))
theorem Ra{l m:List Int}:JR (l.map PV.int) (m.map PV.int)=(l.zip m).map λp=>PV.tup [.int p.1,.int p.2]:=by
 unfold JR;rw[List.zip_map,List.map_map];rfl
theorem zT{row:Bool}{l t:Int}(t0:0<=t):wB ((dw row l 0 t).map cellP)=(List.range (t+1).toNat).map λ(i:Nat)=>PV.tup [.int (i:Int),cellP (cW row l (i:Int))]:=by
 unfold dw wB;apply ZbB
 intro i;rw[List.getElem?_mapIdx,List.getElem?_map,List.getElem?_map,List.getElem?_map];rw[show t+1-0=t+1 by omega]
 by_cases hi:i<(t+1).toNat
 ·rw[Zbs hi];simp
 ·rw[ZaN (by simpa using hi)];rfl
theorem Rc(ns:List Int)(h:ns≠[]):yr (ns.map PV.int) (some 1) none=ns.tail.map PV.int:=by
 cases ns with
 |nil=>exact absurd rfl h
 |cons n ns=>
  unfold yr;have e1:HT.sIx ((n::ns).map PV.int).length 0 (some 1)=1:=by
   unfold HT.sIx;simp
  have e2:HT.sIx ((n::ns).map PV.int).length ((n::ns).map PV.int).length none=ns.length+1:=by
   unfold HT.sIx;simp
  rw[e1,e2];show((ns.map PV.int).take (ns.length+1-1))=_
  rw[Nat.add_sub_cancel,ZaV (by simp)]
  rfl
theorem Ib{w h:Int}(sz:Sz w h)(keep:Nat){row:Bool}{l:Int}(l0:0<=l)(l1:l<if row then h else w) :
  fD [.tup [.int w,.int h],.int keep,.str (cX row),.int l]=some (.ok (.lst ((vz (qOn w keep row l) (gn w h row)).map λp=>lK row l p.1 p.2))):=by
 have w0:=sz.w0;have w1:=sz.w1;have h0:=sz.h0;have h1:=sz.h1;obtain⟨L,eL,L0,L1⟩:∃ L:Int,(if row then w else h)=L/\1<=L/\L<=24:=⟨_,rfl,by split<;>lia,by split<;>lia⟩
 have eN:gn w h row=L.toNat:=by unfold gn;rw[eL]
 have kl:(fU (qOn w keep row l) L.toNat).length<=100:=by
  unfold fU;simp only[ZaF,List.length_append,List.length_map,ZbE];have:=Za7 (qOn w keep row l) (List.range L.toNat);rw[List.length_range] at this;lia
 refine uK (x:=fC (startR [.tup [.int w,.int h],.int keep,.str (cX row),.int l] 3)) ?_;unfold fC;rw[show startR [.tup [.int w,.int h],.int keep,.str (cX row),.int l] 3=[some (.sh (.tup [.int w,.int h])),some (.sh (.int keep)),some (.sh (.str (cX row))),some (.sh (.int l)),none,none,none] from rfl];walk_at "rd"
 rw[NK,eL];walk_at "rd"
 rw[show PV.tup [.str (cX row),.int l,.int 0,.int (L-1)]=lK row l 0 (L-1) from rfl,BV (by lia) (by lia) (by lia)]
 walk_at "rd"
 have eLN:(L-1+1).toNat=L.toNat:=by congr 1;lia
 have le:(wB ((dw row l 0 (L-1)).map cellP)).length<=100:=by
  rw[zT (by lia)]
  simp only[List.length_map,List.length_range];lia
 have big:∀ {k:Nat},k<=9000->k<=sizeLine:=λh=>ZaO (vy (by lia))
 refine⟨by decide,by decide,big (by lia),?_⟩
 rw[zT (by lia),eLN,lz (λ(i:Nat)=>PV.tup [.int (i:Int),cellP (cW row l (i:Int))]) (qOn w keep row l) (λ(i:Nat)=>PV.int (i:Int)) (List.range L.toNat) λi hi=>?a,tv_some]
 case a=>
  have hi:i<L.toNat:=Zaz.mp hi;have cl:Cell w h (cW row l (i:Int)).1 (cW row l (i:Int)).2:=by
   unfold cW;cases row with
   |true=>exact⟨by show(0:Int)<=i;lia,by have:(if true then w else h)=L:=eL;rw[Zaf rfl] at this;show(i:Int)<w;lia,l0,by simpa using l1⟩
   |false=>exact⟨l0,by simpa using l1,by show(0:Int)<=i;lia,by have:(if false then w else h)=L:=eL;rw[Zad (by decide)] at this;show(i:Int)<h;lia⟩
  refine⟨_,rfl,mj ?_,λ_=>rfl⟩;walk_at "rd"
  rw[Q3 sz cl];walk_at "rd"
  rfl
 have ek:PV.int (-1)::(((List.range L.toNat).filter (qOn w keep row l)).map (λ(i:Nat)=>PV.int (i:Int))++[PV.int (L-1+1)])=(fU (qOn w keep row l) L.toNat).map PV.int:=by
  unfold fU;rw[Zap,Zbi,List.map_map,show L-1+1=((L.toNat:Nat):Int) by lia]
  rfl
 have lf:((List.range L.toNat).filter (qOn w keep row l)).length<=L.toNat:=by
  have:=Za7 (qOn w keep row l) (List.range L.toNat)
  rwa [List.length_range] at this
 rw[ek];have ec:yr ((fU (qOn w keep row l) L.toNat).map PV.int) (some 1) none=(fU (qOn w keep row l) L.toNat).tail.map PV.int:=by
  exact Rc _ (by unfold fU;simp)
 rw[ec,Ra];refine⟨by rw[List.length_map];exact big (by lia),by decide,by rw[List.length_map];exact big (by lia),?_,?_⟩
 ·rw[List.length_map];refine big ?_;rw[List.length_zip];lia
 rw[lz (λp:Int×Int=>PV.tup [.int p.1,.int p.2]) (λp=>decide (p.1+1<p.2)) (λp=>lK row l (p.1+1) (p.2-1)) _ λp _=>⟨_,rfl,mj ?b,λ_=>mj ?c⟩,tv_some]
 case b=>walk_at "rd"
 case c=>
  walk_at "rd"
  exact⟨by decide,rfl⟩
 rw[eN];unfold vz tD;rw[List.map_map];rfl
def lnOf(row:Bool)(c:Int×Int):Int:=if row then c.2 else c.1
def Ai(row:Bool)(c:Int×Int):Int:=if row then c.1 else c.2
def runC(w h:Int)(keep:Nat)(row:Bool)(c:Int×Int):Int×Int:=qF (qOn w keep row (lnOf row c)) (gn w h row) (Ai row c)
def stS(w h:Int)(keep:Nat)(row:Bool)(c:Int×Int):Sk:=(cX row,[lnOf row c,(runC w h keep row c).1,(runC w h keep row c).2])
def ckK(c:Int×Int):List Key:=[.inl c.1,.inl c.2]
theorem Yu(row:Bool)(l x:Int):lnOf row (cW row l x)=l:=by cases row<;>rfl
theorem Yv(row:Bool)(l x:Int):Ai row (cW row l x)=x:=by cases row<;>rfl
theorem Vx(row:Bool)(c:Int×Int):cW row (lnOf row c) (Ai row c)=c:=by cases row<;>rfl
theorem UG{c d:Int×Int}(e:ckK c=ckK d):c=d:=by
 unfold ckK at e;rw[ZbG,ZbG] at e;exact Prod.ext (Sum.inl.inj e.1) (Sum.inl.inj e.2.1)
def Kn(w h:Int)(keep:Nat)(row:Bool)(d:List (List Key×PV))(c:Int×Int):Prop:=dg d (ckK c)=some (skP (stS w h keep row c))
theorem Kn.put{w h:Int}{keep:Nat}{row:Bool}{d:List (List Key×PV)}{c:Int×Int}(k:Int×Int)(h':Kn w h keep row d c):Kn w h keep row (fK d (ckK k) (skP (stS w h keep row k))) c:=by
 unfold Kn;rw[nF];by_cases e:ckK c=ckK k
 ·rw[Zaf e,UG e]
 ·rw[Zad e];exact h'
theorem Kn.new{w h:Int}{keep:Nat}{row:Bool}{d:List (List Key×PV)}(k:Int×Int):Kn w h keep row (fK d (ckK k) (skP (stS w h keep row k))) k:=by
 unfold Kn;rw[nF,Zaf rfl]
theorem xN{w h:Int}{keep:Nat}{row:Bool}{c:Int×Int}(cl:Cell w h c.1 c.2)(no:keep.testBit (Mth.pl w.toNat c)=false):vX (qOn w keep row (lnOf row c)) (gn w h row) (Ai row c):=by
 have c0:=cl.c0;have c1:=cl.c1;have r0:=cl.r0;have r1:=cl.r1;unfold gn;cases row with
 |true=>
  refine⟨c0,by show c.1<_;simp;lia,?_⟩
  show keep.testBit (Mth.pl w.toNat (((c.1.toNat:Nat):Int),c.2))=false
  rw[Int.toNat_of_nonneg c0];exact no
 |false=>
  refine⟨r0,by show c.2<_;simp;lia,?_⟩
  show keep.testBit (Mth.pl w.toNat (c.1,((c.2.toNat:Nat):Int)))=false
  rw[Int.toNat_of_nonneg r0];exact no
theorem ln0{w h:Int}{c:Int×Int}(cl:Cell w h c.1 c.2)(row:Bool):0<=lnOf row c:=by
 cases row
 ·exact cl.c0
 ·exact cl.r0
def LbD(w h:Int)(keep:Nat)(row:Bool)(d:List (List Key×PV))(i:Nat):Prop:=∀ c:Int×Int,Cell w h c.1 c.2->keep.testBit (Mth.pl w.toNat c)=false->lnOf row c<i->Kn w h keep row d c
def LbR(w h:Int)(keep:Nat)(row:Bool)(d:List (List Key×PV))(i j:Nat):Prop:=∀ (m:Nat) p (y:Int),m<j->(vz (qOn w keep row (i:Int)) (gn w h row))[m]?=some p->p.1<=y->y<=p.2->Kn w h keep row d (cW row i y)
inductive LbI(w h:Int)(keep:Nat)(row:Bool)(i:Nat):Rho->Prop
 |mk (d:List (List Key×PV)) (v4 v5 v6:Option Sl) (dl:d.length<=i*700) (hd:LbD w h keep row d i):LbI w h keep row i [some (.sh (.tup [.int w,.int h])),some (.sh (.int keep)),some (.sh (.str (cX row))),some (.ow (.dt d)),v4,v5,v6]
inductive LbJ(w h:Int)(keep:Nat)(row:Bool)(i j:Nat):Rho->Prop
 |mk (d:List (List Key×PV)) (v5 v6:Option Sl) (dl:d.length<=i*700+j*25) (hd:LbD w h keep row d i) (hr:LbR w h keep row d i j):LbJ w h keep row i j [some (.sh (.tup [.int w,.int h])),some (.sh (.int keep)),some (.sh (.str (cX row))),some (.ow (.dt d)),some (.sh (.int (i:Int))),v5,v6]
inductive LbK(w h:Int)(keep:Nat)(row:Bool)(i j:Nat)(p:Int×Int)(k:Nat):Rho->Prop
 |mk (d:List (List Key×PV)) (v6:Option Sl) (dl:d.length<=i*700+j*25+k) (hd:LbD w h keep row d i) (hr:LbR w h keep row d i j) (hk:∀ y:Int,p.1<=y->y<p.1+k->Kn w h keep row d (cW row i y)):LbK w h keep row i j p k [some (.sh (.tup [.int w,.int h])),some (.sh (.int keep)),some (.sh (.str (cX row))),some (.ow (.dt d)),some (.sh (.int (i:Int))),some (.sh (lK row i p.1 p.2)),v6]
theorem Rf{w h:Int}(sz:Sz w h)(keep:Nat)(row:Bool):∃ d,dh [.tup [.int w,.int h],.int keep,.str (cX row)]=some (.ok (.dt d))/\∀ c:Int×Int,Cell w h c.1 c.2->keep.testBit (Mth.pl w.toNat c)=false->Kn w h keep row d c:=by
 have w0:=sz.w0;have w1:=sz.w1;have h0:=sz.h0;have h1:=sz.h1;obtain⟨n,en,n1,n2⟩:∃ n:Int,(if row then h else w)=n/\1<=n/\n<=24:=⟨_,rfl,by split<;>lia,by split<;>lia⟩
 have L24:gn w h row<=24:=by unfold gn;split<;>lia
 suffices hh:∃ p,dh [.tup [.int w,.int h],.int keep,.str (cX row)]=some (.ok p)/\∃ d,p=.dt d/\∀ c:Int×Int,Cell w h c.1 c.2->keep.testBit (Mth.pl w.toNat c)=false->Kn w h keep row d c by
  obtain⟨p,e,d,rfl,q⟩:=hh;exact⟨d,e,q⟩
 refine Ed (nC λQS hQ0=>?_);unfold iz;rw[show startR [.tup [.int w,.int h],.int keep,.str (cX row)] 4=[some (.sh (.tup [.int w,.int h])),some (.sh (.int keep)),some (.sh (.str (cX row))),none,none,none,none] from rfl];walk_at "rd"
 rw[Q4,en];walk_at "rd"
 refine⟨by lia,by lia,?_⟩
 refine dR (I:=LbI w h keep row)
  (.mk [] none none none (Zba _) λc cl _ hl=>absurd hl (by have:=ln0 cl row;lia)) ?_ ?_
 case refine_2=>
  rintro _ ⟨d,v4,v5,v6,_,hd⟩;walk_at "rd"
  unfold jL;walk_at "rd"
  refine hQ0 _ ⟨_,rfl,d,rfl,λc cl no=>hd c cl no ?_⟩;rw[jn];have:lnOf row c<n:=by rw[<-en];unfold lnOf;cases row;exact cl.c1;exact cl.r1
  lia
 rintro i x _ hx ⟨d,v4,v5,v6,dl,hd⟩;refine p7 λQS hQ=>?_;obtain⟨hi,rfl⟩:=xK hx;rw[Int.zero_add];unfold jK;walk_at "rd"
 rw[Ib sz keep (by lia) (by rw[en];lia)]
 walk_at "rd"
 have rl:(vz (qOn w keep row (i:Int)) (gn w h row)).length<=26:=by
  unfold vz tD;rw[List.length_map];refine ZaE (Za7 _ _) ?_;rw[List.length_zip];refine ZaE (Nat.min_le_left _ _) ?_;unfold fU;have:=Za7 (qOn w keep row (i:Int)) (List.range (gn w h row));rw[List.length_range] at this;simp only[ZaF,List.length_append,List.length_map,ZbE];lia
 refine dR (I:=LbJ w h keep row i)
  (.mk d v5 v6 (by lia) hd λm p y hm=>absurd hm (Nat.not_lt_zero _)) ?_ ?_
 case refine_2=>
  rintro _ ⟨d,v5,v6,dl,hd,hr⟩;rw[List.length_map] at dl hr;refine hQ _ (.mk d _ v5 v6 (by lia) λc cl no hl=>?_)
  by_cases e:lnOf row c<i
  ·exact hd c cl no e
  ·have e:lnOf row c=i:=by lia
   have fr:=xN (row:=row) cl no;obtain⟨_,f1,f2,f3⟩:=fr.run;obtain⟨m,hm⟩:=Zbl f3;rw[e] at hm f1 f2;have:=hr m _ (Ai row c) (Zab.mp hm).1 hm f1 f2;rw[<-e,Vx] at this;exact this
 clear hQ
 rintro j x _ hx ⟨d,v5,v6,dl,hd,hr⟩;refine p7 λQS hQ=>?_;rw[List.getElem?_map] at hx;cases ep:(vz (qOn w keep row (i:Int)) (gn w h row))[j]? with
 |none=>rw[ep] at hx;cases hx
 |some p=>
  rw[ep] at hx;cases hx;have hp:=Zag ep;have pr:=Uz hp;have jl:j<26:=by have:=(Zab.mp ep).1;lia
  have a0:=pr.a0;have ab:=pr.ab;have b1:=pr.b1;unfold jJ;walk_at "rd"
  rw[BV a0 ab (by lia)]
  walk_at "rd"
  refine dR (I:=LbK w h keep row i j p)
   (.mk d v6 (by lia) hd hr λy h1 h2=>by lia) ?_ ?_
  case refine_2=>
   rintro _ ⟨d,v6,dl,hd,hr,hk⟩;have lc:((dw row (i:Int) p.1 p.2).map cellP).length=(p.2+1-p.1).toNat:=by unfold dw;simp
   rw[lc] at dl hk;refine hQ _ (.mk d _ v6 (by lia) hd λm p' y hm e h1 h2=>?_)
   by_cases e':m=j
   ·subst e';rw[ep] at e;cases e;exact hk y h1 (by lia)
   ·exact hr m p' y (by lia) e h1 h2
  clear hQ
  rintro k x _ hx ⟨d,v6,dl,hd,hr,hk⟩;refine p7 λQS hQ=>?_;rw[List.getElem?_map] at hx;cases ec:(dw row (i:Int) p.1 p.2)[k]? with
  |none=>rw[ec] at hx;cases hx
  |some c=>
   rw[ec] at hx;cases hx;have kl:k<(p.2+1-p.1).toNat:=by have:=(Zab.mp ec).1;simpa[dw] using this
   have hc:c=cW row i (p.1+(k:Int)):=by
    unfold dw at ec;rw[List.getElem?_map,Zbs kl] at ec;exact(Zac ec).symm
   have es:lK row (i:Int) p.1 p.2=skP (stS w h keep row c):=by
    have:=W7 hp (x:=p.1+(k:Int)) (by lia) (by lia)
    unfold stS runC;rw[hc,Yu,Yv,this];rfl
   unfold jH;walk_at "rd"
   refine⟨.dt (fK d (ckK c) (skP (stS w h keep row c))),?_,hQ _ (.mk _ _ ?_ (λc' cl no hl=>(hd c' cl no hl).put c) (λm p' y hm e h1 h2=>(hr m p' y hm e h1 h2).put c) λy h1 h2=>?_)⟩
   ·rw[es];show(if d.length<sizeLine then some (PV.dt (fK d (ckK c) (skP (stS w h keep row c)))) else none)=_
    exact Zaf (vy (by lia))
   ·have:=qb (ckK c) (skP (stS w h keep row c)) d;lia
   ·by_cases e:y<p.1+(k:Int)
    ·exact(hk y h1 e).put c
    ·have:y=p.1+(k:Int):=by lia
     rw[this,<-hc];exact Kn.new c
def lL(l:List Sk)(s:Sk):List Sk:=if s∈l then l else l++[s]
def ddp(xs:List Sk):List Sk:=xs.foldl lL []
theorem Rg(xs:List Sk)(s:Sk):ddp (xs++[s])=lL (ddp xs) s:=by
 unfold ddp;rw[List.foldl_append];rfl
theorem En:∀ (xs acc:List Sk),acc.Nodup->(xs.foldl lL acc).Nodup/\(∀ s,s∈xs.foldl lL acc↔s∈acc\/s∈xs)/\(xs.foldl lL acc).length<=acc.length+xs.length
 |[],acc,nd=>⟨nd,λs=>by simp,by simp⟩
 |x::xs,acc,nd=>by
  have nd2:(lL acc x).Nodup:=by
   unfold lL;split
   ·exact nd
   ·rename_i h;rw[ZbD];exact⟨nd,by simp,λa ha b hb e=>by simp at hb;subst hb;subst e;exact h ha⟩
  have mem:∀ s,s∈lL acc x↔s∈acc\/s=x:=λs=>by
   unfold lL;split
   ·rename_i h;exact⟨.inl,λq=>q.elim id λe=>by rw[e];exact h⟩
   ·rw[Zaj,ZaL]
  have len:(lL acc x).length<=acc.length+1:=by unfold lL;split<;>simp
  obtain⟨h1,h2,h3⟩:=En xs (lL acc x) nd2;refine⟨h1,λs=>?_,?_⟩
  ·show s∈xs.foldl lL (lL acc x)↔_
   rw[h2,mem,ZaA,or_assoc]
  ·show(xs.foldl lL (lL acc x)).length<=_
   rw[ZaF];lia
theorem Rh(xs:List Sk):(ddp xs).Nodup:=(En xs [] List.nodup_nil).1
theorem gj{xs:List Sk}{s:Sk}:s∈ddp xs↔s∈xs:=by have:=(En xs [] List.nodup_nil).2.1 s;simpa[ddp] using this
theorem Eo(xs:List Sk):(ddp xs).length<=xs.length:=by have:=(En xs [] List.nodup_nil).2.2;simpa[ddp] using this
theorem Ie{f:Sk->PV}{s:Sk}:∀ {ks:List Sk},dg (ks.map λt=>(skK t,f t)) (skK s)=if s∈ks then some (f s) else none
 |[]=>rfl
 |t::ks=>by
  rw[Zap];unfold dg;by_cases e:t=s
  ·subst e;rw[Zaf rfl,Zaf List.mem_cons_self]
  ·rw[Zad (λz=>e (oW z)),Ie];by_cases h:s∈ks
   ·rw[Zaf h,Zaf (List.mem_cons_of_mem _ h)]
   ·rw[Zad h,Zad (λz=>h ((ZaA.mp z).resolve_left (Zbr e)))]
theorem Mi{f:Sk->PV}{s:Sk}{p:PV}:∀ {ks:List Sk},ks.Nodup->cA (ks.map λt=>(skK t,f t)) (skK s) p=(lL ks s).map λt=>(skK t,if t=s then p else f t)
 |[],_=>by simp[cA,lL]
 |t::ks,nd=>by
  rw[Zbv] at nd;have ih:=Mi (f:=f) (s:=s) (p:=p) nd.2;rw[Zap];unfold cA;by_cases e:t=s
  ·subst e;rw[Zaf rfl,show lL (t::ks) t=t::ks from Zaf List.mem_cons_self,Zap,Zaf rfl];congr 1
   exact Za0 λu hu=>by rw[Zad (λz=>nd.1 (by rw[<-z];exact hu))]
  ·rw[Zad (λz=>e (oW z)),ih];have:lL (t::ks) s=t::lL ks s:=by
    unfold lL;by_cases h:s∈ks
    ·rw[Zaf h,Zaf (List.mem_cons_of_mem _ h)]
    ·rw[Zad h,Zad (λz=>h ((ZaA.mp z).resolve_left (Zbr e)))];rfl
   rw[this,Zap,Zad e]
def lC(r c:Int×Int->Sk)(cs:List (Int×Int))(s:Sk):List PV:=(cs.filter λx=>decide (r x=s)).map λx=>skP (c x)
def lD(r c:Int×Int->Sk)(cs:List (Int×Int)):List (List Key×PV):=(ddp (cs.map r)).map λs=>(skK s,.lst (lC r c cs s))
theorem Ig{r c:Int×Int->Sk}{cs:List (Int×Int)}{s:Sk}(h:s ∉ ddp (cs.map r)):lC r c cs s=[]:=by
 unfold lC;rw[List.filter_eq_nil_iff.mpr λx hx=>?_]
 ·rfl
 ·simp only[ZaK];exact λe=>h (gj.mpr (Zai.mpr ⟨x,hx,e⟩))
theorem NT{r c:Int×Int->Sk}{cs:List (Int×Int)}{s:Sk}:(dg (lD r c cs) (skK s)).getD (.lst [])=.lst (lC r c cs s):=by
 unfold lD;rw[Ie (f:=λs=>.lst (lC r c cs s))];by_cases h:s∈ddp (cs.map r)
 ·rw[Zaf h];rfl
 ·rw[Zad h,Ig h];rfl
theorem J6{r c:Int×Int->Sk}{cs:List (Int×Int)}{x:Int×Int}:cA (lD r c cs) (skK (r x)) (.lst (lC r c cs (r x)++[skP (c x)]))=lD r c (cs++[x]):=by
 unfold lD;rw[Mi (f:=λs=>.lst (lC r c cs s)) (Rh _),Zbi,Zap,List.map_nil,Rg];refine Za0 λt _=>?_;congr 1
 unfold lC;rw[List.filter_append,Zbi];by_cases e:t=r x
 ·rw[Zaf e,e];simp
 ·rw[Zad e];rw[show List.filter (λx=>decide (r x=t)) [x]=[] by simp[Zbr e]]
  simp
theorem NZ{i:Nat}{fk fe:Fn PV}{ρ:Rho}{l:List (List Key×PV)}{s:Sk}{row:List PV}{q:PV}{QS:Out->Prop}(hl:ρ[i]?=some (some (.dp (.dt l))))(len:l.length<sizeLine)(hk:fk ρ=some (.ok (skP s)))(hr:(dg l (skK s)).getD (.lst [])=.lst row)
  (he:fe (ρ.set i (some (.dp (.dt (cA l (skK s) (.lst row))))))=some (.ok q))(st:q.still=true)(rl:row.length<sizeLine)(hq:QS (.nx (ρ.set i (some (.dp (.dt (cA l (skK s) (.lst (row++[q])))))))))
  : To (uG i fk fe ρ) QS:=by
 refine⟨.nx _,?_,trivial,hq⟩;unfold uG;rw[show uA i ρ=some (.dt l) by unfold uA;rw[hl]]
 simp only[Zaf len,hk,gw];show(match dD (.str s.1::s.2.map PV.int) with
   |some k=>_
   |none=>_)=_
 rw[jf];simp only[hr,he,gw];rw[Zaf ⟨st,rl⟩]
noncomputable abbrev bx(w h:Int)(away:Nat):List (Int×Int):=Mth.pick w.toNat (w.toNat*h.toNat) λi=>away.testBit i
theorem fV{w h:Int}{away:Nat}{c:Int×Int}(hc:c∈bx w h away):Cell w h c.1 c.2/\away.testBit (Mth.pl w.toNat c)=true:=by
 unfold bx Mth.pick at hc;obtain⟨i,hi,rfl⟩:=Zai.mp hc;obtain⟨h1,h2⟩:=ZaB.mp hi;exact⟨Cell.of (Mth.vJ (Zaz.mp h1)),by rw[Mth.jX];exact h2⟩
theorem Ri{w h:Int}(sz:Sz w h)(away keep:Nat)(dis:∀ c∈bx w h away,keep.testBit (Mth.pl w.toNat c)=false) :
  jw [.tup [.int w,.int h],.int away,.int keep]=some (.ok (.dt (lD (stS w h keep true) (stS w h keep false) (bx w h away)))):=by
 obtain⟨d1,e1,k1⟩:=Rf sz keep true;obtain⟨d2,e2,k2⟩:=Rf sz keep false;have hn:=sz.nat;have ln:(bx w h away).length<=576:=ZaE (Mth.j9 _ _ _) hn.2
 suffices hh:∃ p,jw [.tup [.int w,.int h],.int away,.int keep]=some (.ok p)/\p=.dt (lD (stS w h keep true) (stS w h keep false) (bx w h away)) by
  obtain⟨p,e,rfl⟩:=hh;exact e
 refine Lq ?_;unfold qi;rw[show startR [.tup [.int w,.int h],.int away,.int keep] 4=[some (.sh (.tup [.int w,.int h])),some (.sh (.int away)),some (.sh (.int keep)),none,none,none,none] from rfl];walk_at "rd"
 rw[show PV.str "row"=.str (cX true) from rfl,e1];walk_at "rd"
 rw[show PV.str "column"=.str (cX false) from rfl,e2];walk_at "rd"
 refine⟨.dt [],rfl,?_⟩;rw[qC sz away];walk_at "rd"
 refine dR (I:=λi ρ=>∃ v6:Option Sl,ρ=[some (.sh (.tup [.int w,.int h])),some (.sh (.int away)),some (.sh (.int keep)),some (.sh (.dt d1)),some (.sh (.dt d2)),some (.dp (.dt (lD (stS w h keep true) (stS w h keep false) ((bx w h away).take i)))),v6]) ⟨none,rfl⟩ ?_ ?_
 case refine_2=>
  rintro ρ ⟨v6,rfl⟩;walk_at "rd"
  unfold rF;walk_at "rd"
  rw[List.length_map,List.take_length]
 rintro i x ρ hx ⟨v6,rfl⟩;rw[List.getElem?_map] at hx;cases ec:(bx w h away)[i]? with
 |none=>rw[ec] at hx;cases hx
 |some c=>
  rw[ec] at hx;cases hx;have hc:=Zag ec;obtain⟨cl,_⟩:=fV hc;have no:=dis c hc;have il:i<(bx w h away).length:=(Zab.mp ec).1;have tl:((bx w h away).take i).length<=576:=by rw[ZbT];lia
  have f1:gm (.dt d1) (cellP c)=some (some (skP (stS w h keep true c))):=Zbg some (k1 c cl no);have f2:gm (.dt d2) (cellP c)=some (some (skP (stS w h keep false c))):=Zbg some (k2 c cl no);unfold rE;refine NZ (s:=stS w h keep true c) (row:=lC (stS w h keep true) (stS w h keep false) ((bx w h away).take i) (stS w h keep true c)) (q:=skP (stS w h keep false c)) rfl (vy ?_) (mj ?_) NT (mj ?_) (zN _) (vy ?_) ?_
  ·unfold lD;rw[List.length_map];have:=Eo (((bx w h away).take i).map (stS w h keep true));rw[List.length_map] at this;lia
  ·walk_at "rd"
   exact⟨_,f1,rfl⟩
  ·walk_at "rd"
   exact⟨_,f2,rfl⟩
  ·unfold lC;rw[List.length_map];have:=Za7 (λx=>decide (stS w h keep true x=stS w h keep true c)) ((bx w h away).take i);lia
  ·rw[J6,<-take_snoc ec];exact⟨_,rfl⟩
structure KOk(ks:List Sk):Prop where
 nd:ks.Nodup
 ln:∀ s∈ks,s.2.length=3
 tx:∀ s∈ks,s.1≠("":Str)
def eG(ks:List Sk)(i:Nat):Sk:=if i<ks.length then ks.getD i default else(("":Str),[(i:Int),0,0])
section
variable{ks:List Sk}
theorem oX{i:Nat}(h:i<ks.length):eG ks i∈ks:=by
 unfold eG;rw[Zaf h,List.getD_eq_getElem?_getD,List.getElem?_eq_getElem h];exact List.getElem_mem h
theorem Ep{i:Nat}(h:i<ks.length):ks[i]?=some (eG ks i):=by
 unfold eG;rw[Zaf h,List.getD_eq_getElem?_getD,List.getElem?_eq_getElem h];rfl
theorem KOk.inj(k:KOk ks)(i j:Nat)(e:eG ks i=eG ks j):i=j:=by
 by_cases hi:i<ks.length
 ·by_cases hj:j<ks.length
  ·exact(List.getElem?_inj hi k.nd).mp (by rw[Ep hi,Ep hj,e])
  ·have:=k.tx _ (oX hi);rw[e] at this;unfold eG at this;rw[Zad hj] at this;exact absurd rfl this
 ·by_cases hj:j<ks.length
  ·have:=k.tx _ (oX hj);rw[<-e] at this;unfold eG at this;rw[Zad hi] at this;exact absurd rfl this
  ·unfold eG at e;rw[Zad hi,Zad hj] at e;have e:=(Prod.mk.inj e).2;rw[ZbG] at e;omega
theorem KOk.l3(k:KOk ks)(i:Nat):(eG ks i).2.length=3:=by
 by_cases hi:i<ks.length
 ·exact k.ln _ (oX hi)
 ·unfold eG;rw[Zad hi];rfl
def Ii(ks:List Sk)(s:Sk):Nat:=ks.findIdx λt=>decide (t=s)
theorem vY{s:Sk}(h:s∈ks):Ii ks s<ks.length/\eG ks (Ii ks s)=s:=by
 have hl:Ii ks s<ks.length:=List.findIdx_lt_length_of_exists ⟨s,h,by simp⟩
 refine⟨hl,?_⟩;have:=List.findIdx_getElem (w:=hl);simp only[ZaK] at this;unfold eG;rw[Zaf hl,List.getD_eq_getElem?_getD,List.getElem?_eq_getElem hl];exact this
end
def Gof{ks ls:List Sk}(h1:KOk ks)(h2:KOk ls):Gs:=⟨eG ks,eG ls,h1.inj,h2.inj,h1.l3,h2.l3⟩
def Wof(r c:Int×Int->Sk)(cs:List (Int×Int))(i:Nat):List Nat:=(cs.filter λx=>decide (r x=eG (ddp (cs.map r)) i)).map λx=>Ii (ddp (cs.map c)) (c x)
section
variable{r c:Int×Int->Sk}{cs:List (Int×Int)}
theorem W8{i g:Nat}(h:g∈Wof r c cs i):g<(ddp (cs.map c)).length:=by
 obtain⟨x,hx,rfl⟩:=Zai.mp h;exact(vY (gj.mpr (Zai.mpr ⟨x,(ZaB.mp hx).1,rfl⟩))).1
theorem Rj{i g:Nat}(h:g∈Wof r c cs i):∃ x∈cs,r x=eG (ddp (cs.map r)) i/\c x=eG (ddp (cs.map c)) g:=by
 obtain⟨x,hx,rfl⟩:=Zai.mp h;have h1:=ZaB.mp hx;exact⟨x,h1.1,by simpa using h1.2,(vY (gj.mpr (Zai.mpr ⟨x,h1.1,rfl⟩))).2.symm⟩
theorem W9{x:Int×Int}(h:x∈cs):Ii (ddp (cs.map c)) (c x)∈Wof r c cs (Ii (ddp (cs.map r)) (r x)):=by
 refine Zai.mpr ⟨x,ZaB.mpr ⟨h,?_⟩,rfl⟩;simp only[ZaK];exact(vY (gj.mpr (Zai.mpr ⟨x,h,rfl⟩))).2.symm
theorem Yw(h1:KOk (ddp (cs.map r)))(h2:KOk (ddp (cs.map c))):PV.dt (lD r c cs)=wiP (Gof h1 h2) (ddp (cs.map r)).length (Wof r c cs):=by
 unfold wiP lD;congr 1
 apply ZbB
 intro i;rw[List.getElem?_map,List.getElem?_map];by_cases hi:i<(ddp (cs.map r)).length
 ·rw[Zbs hi,Ep hi];show some (_,_)=some (_,_)
  congr 2
  show PV.lst _=PV.lst _
  congr 1
  unfold lC Gs.GL Wof;rw[List.map_map];refine Za0 λx hx=>?_;show skP (c x)=skP (eG (ddp (cs.map c)) (Ii (ddp (cs.map c)) (c x)))
  rw[(vY (gj.mpr (Zai.mpr ⟨x,(ZaB.mp hx).1,rfl⟩))).2]
 ·rw[ZaN (by simpa using hi),ZaN (by simpa using hi)];rfl
end
noncomputable abbrev StB:=Bool×Int×Int×Int
structure Cov(w h:Int)(away keep:Nat)(S:List StB):Prop where
 on:∀ s∈S,∀ x,s.2.2.1<=x->x<=s.2.2.2->Cell w h (cW s.1 s.2.1 x).1 (cW s.1 s.2.1 x).2/\keep.testBit (Mth.pl w.toNat (cW s.1 s.2.1 x))=false
 all:∀ c:Int×Int,Cell w h c.1 c.2->away.testBit (Mth.pl w.toNat c)=true->∃ s∈S,lnOf s.1 c=s.2.1/\s.2.2.1<=Ai s.1 c/\Ai s.1 c<=s.2.2.2
theorem Rm{w h:Int}{keep:Nat}{row:Bool}{c:Int×Int}(cl:Cell w h c.1 c.2)(no:keep.testBit (Mth.pl w.toNat c)=false){x:Int}(h1:(runC w h keep row c).1<=x)(h2:x<=(runC w h keep row c).2) :
  Cell w h (cW row (lnOf row c) x).1 (cW row (lnOf row c) x).2/\keep.testBit (Mth.pl w.toNat (cW row (lnOf row c) x))=false:=by
 have fr:=((xN (row:=row) cl no).run).1.fr x h1 h2;have x0:=fr.x0;have x1:=fr.x1;have nb:=fr.no;unfold qOn at nb;rw[Int.toNat_of_nonneg x0] at nb;refine⟨?_,nb⟩;unfold gn at x1;cases row with
 |true=>exact⟨x0,by have:x<((if true=true then w else h).toNat:Int):=x1;rw[Zaf rfl] at this;have:=cl.c0;have:=cl.c1;show x<w;omega,cl.r0,cl.r1⟩
 |false=>exact⟨cl.c0,cl.c1,x0,by have:x<((if false=true then w else h).toNat:Int):=x1;rw[Zad (by decide)] at this;have:=cl.r0;have:=cl.r1;show x<h;omega⟩
theorem jy(a b:Nat):Builtin.bitAnd (a:Int) (b:Int)=((a &&& b:Nat):Int):=by
 rw[bitAnd_pp (Zbm _) (Zbm _),ZaP,ZaP]
def toB(s:Sk):StB:=(decide (s.1=Str.ofString "row"),s.2.getD 0 0,s.2.getD 1 0,s.2.getD 2 0)
theorem Er(w h:Int)(keep:Nat)(row:Bool)(c:Int×Int):toB (stS w h keep row c)=(row,lnOf row c,(runC w h keep row c).1,(runC w h keep row c).2):=by
 unfold toB stS;rw[LC];rfl
theorem Es(w h:Int)(keep:Nat)(row:Bool)(cs:List (Int×Int)):KOk (ddp (cs.map (stS w h keep row))) where
 nd:=Rh _
 ln:=λs hs=>by obtain⟨x,_,rfl⟩:=Zai.mp (gj.mp hs);rfl
 tx:=λs hs=>by
  obtain⟨x,_,rfl⟩:=Zai.mp (gj.mp hs);cases row
  ·show Str.ofString "column"≠_;decide
  ·show Str.ofString "row"≠_;decide
section
variable{w h:Int}{away keep:Nat}{A B B':List (Nat×Nat)}{R:List Nat}{cb:List (Nat×Nat)}
noncomputable abbrev ksN(w h:Int)(away keep:Nat)(row:Bool):List Sk:=ddp ((bx w h away).map (stS w h keep row))
noncomputable abbrev WN(w h:Int)(away keep:Nat):Nat->List Nat:=Wof (stS w h keep true) (stS w h keep false) (bx w h away)
def Et(w h:Int)(away keep:Nat)(R:List Nat)(cb:List (Nat×Nat)):List Sk:=((List.range (ksN w h away keep true).length).filter λa=>!R.contains a).map (eG (ksN w h away keep true))++cb.map λp=>eG (ksN w h away keep false) p.1
theorem Eu{s:Sk}(wl:∀ p∈cb,p.1<(ksN w h away keep false).length)(hs:s∈Et w h away keep R cb):∃ row,∃ x∈bx w h away,s=stS w h keep row x:=by
 rcases Zaj.mp hs with hs|hs
 ·obtain⟨a,ha,rfl⟩:=Zai.mp hs;obtain⟨x,hx,e⟩:=Zai.mp (gj.mp (oX (Zaz.mp (ZaB.mp ha).1)));exact⟨true,x,hx,e.symm⟩
 ·obtain⟨p,hp,rfl⟩:=Zai.mp hs;obtain⟨x,hx,e⟩:=Zai.mp (gj.mp (oX (wl p hp)));exact⟨false,x,hx,e.symm⟩
theorem UJ(dis:∀ c∈bx w h away,keep.testBit (Mth.pl w.toNat c)=false)(wl:∀ p∈cb,p.1<(ksN w h away keep false).length)(hc:∀ a∈R,∀ x∈WN w h away keep a,x∈cb.map (·.1)):Cov w h away keep ((Et w h away keep R cb).map toB) where
 on:=λs hs x h1 h2=>by
  obtain⟨t,ht,rfl⟩:=Zai.mp hs;obtain⟨row,c,hcs,rfl⟩:=Eu wl ht;rw[Er] at h1 h2 ⊢;exact Rm (fV hcs).1 (dis c hcs) h1 h2
 all:=λc cl aw=>by
  have hcs:c∈bx w h away:=by
   unfold bx Mth.pick;refine Zai.mpr ⟨Mth.pl w.toNat c,ZaB.mpr ⟨Zaz.mpr (Mth.Vd cl.inR),aw⟩,Mth.qL cl.inR⟩
  have no:=dis c hcs;have in1:stS w h keep true c∈ksN w h away keep true:=gj.mpr (Zai.mpr ⟨c,hcs,rfl⟩);have in2:stS w h keep false c∈ksN w h away keep false:=gj.mpr (Zai.mpr ⟨c,hcs,rfl⟩);have done:∀ row,stS w h keep row c∈Et w h away keep R cb->∃ s∈(Et w h away keep R cb).map toB,lnOf s.1 c=s.2.1/\s.2.2.1<=Ai s.1 c/\Ai s.1 c<=s.2.2.2:=λrow hm=>by
   obtain⟨_,f1,f2,_⟩:=(xN (row:=row) cl no).run;exact⟨_,Zai.mpr ⟨_,hm,rfl⟩,by rw[Er],by rw[Er];exact f1,by rw[Er];exact f2⟩
  obtain⟨i1,i2⟩:=vY in1;obtain⟨j1,j2⟩:=vY in2;by_cases hR:Ii (ksN w h away keep true) (stS w h keep true c)∈R
  ·refine done false (ZaM _ ?_);obtain⟨p,hp,e⟩:=Zai.mp (hc _ hR _ (W9 hcs));exact Zai.mpr ⟨p,hp,by rw[e];exact j2⟩
  ·refine done true (ZbL _ (Zai.mpr ⟨_,ZaB.mpr ⟨Zaz.mpr i1,?_⟩,i2⟩));simpa using hR
theorem Mj{n:Nat}{W:Nat->List Nat}(hn:n=(ksN w h away keep true).length)(P:Pm n W A B)(hB:∀ g a,lk B' g=some a↔lk B g=some a)(hw:Wk n W B' (pq n A) R cb):(Et w h away keep R cb).length=A.length:=by
 subst hn;have nd:=Wk.ndR P hB hw;have hl:=hw.len;have two:∀ (t:Nat->Bool) (l:List Nat),(l.filter t).length+(l.filter λa=>!t a).length=l.length:=λt l=>by
  induction l with
  |nil=>rfl
  |cons a l ih=>cases ht:t a<;>simp[List.filter_cons,ht]<;>lia
 have t1:=two (λa=>R.contains a) (List.range (ksN w h away keep true).length);have t2:=two (λa=>(lk A a).isNone) (List.range (ksN w h away keep true).length);have e1:((List.range (ksN w h away keep true).length).filter λa=>R.contains a).length=R.length:=by
  refine Nat.le_antisymm (dz (List.Nodup.sublist ZbI ZbV) λx hx=>?_) (dz nd λx hx=>?_)
  ·simpa using(ZaB.mp hx).2
  ·exact ZaB.mpr ⟨Zaz.mpr (hw.lt x hx),by simpa using hx⟩
 have e2:((List.range (ksN w h away keep true).length).filter λa=>!(lk A a).isNone).length=A.length:=by
  have el:(A.map (·.1)).length=A.length:=List.length_map _;rw[<-el];refine Nat.le_antisymm (dz (List.Nodup.sublist ZbI ZbV) λx hx=>?_) (dz P.ndA λx hx=>?_)
  ·have:=(ZaB.mp hx).2;cases e:lk A x with
   |none=>rw[e] at this;cases this
   |some g=>exact Zai.mpr ⟨_,Ei e,rfl⟩
  ·cases e:lk A x with
   |none=>exact absurd hx (oV.mp e)
   |some g=>exact ZaB.mpr ⟨Zaz.mpr (P.ok e).2,by rw[e];rfl⟩
 unfold Et;rw[List.length_append,List.length_map,List.length_map];unfold pq at hl;lia
theorem Xa(nd:(cb.map (·.1)).Nodup)(wl:∀ p∈cb,p.1<(ksN w h away keep false).length):(Et w h away keep R cb).Nodup:=by
 unfold Et;rw[ZbD];refine⟨?_,?_,λs hs t ht e=>?_⟩
 ·rw[List.Nodup,ZaY];exact(List.Nodup.sublist ZbI ZbV).imp λhne e=>hne ((Es w h keep true _).inj _ _ e)
 ·rw[List.Nodup,ZaY];rw[List.Nodup,ZaY] at nd;exact nd.imp λhne e=>hne ((Es w h keep false _).inj _ _ e)
 ·obtain⟨a,ha,rfl⟩:=Zai.mp hs;obtain⟨p,hp,rfl⟩:=Zai.mp ht;obtain⟨x,hx,e1⟩:=Zai.mp (gj.mp (oX (Zaz.mp (ZaB.mp ha).1)));obtain⟨y,hy,e2⟩:=Zai.mp (gj.mp (oX (wl p hp)));rw[<-e1,<-e2] at e;have e:=(Prod.mk.inj e).1;exact absurd e (by decide)
end
theorem Ro{s:Sk}(h:s.2.length=3):cz (skP s) (.int 1)=some (.ok (.int (s.2.getD 0 0))):=by
 obtain⟨t,l⟩:=s
 match l,h with
 |[a,b,c],_=>rfl
theorem Ij(n:Nat):∀ (l m:List Int),eqL (eqF n) (l.map PV.int) (m.map PV.int)=some (decide (l=m))
 |[],[]=>rfl
 |[],b::m=>rfl
 |a::l,[]=>rfl
 |a::l,b::m=>by
  rw[Zap,Zap,eqL,eqF_int,Ij n l m];simp only[ZbG];by_cases h:a=b<;>simp[h]
theorem Xb(n:Nat)(p q:Sk):eqF (n+1) (skP p) (skP q)=some (decide (p=q)):=by
 show eqL (eqF n) (.str p.1::p.2.map PV.int) (.str q.1::q.2.map PV.int)=_
 rw[eqL,eqF_str,Ij];have:(p=q)↔(p.1=q.1/\p.2=q.2):=Prod.ext_iff;by_cases h:p.1=q.1<;>simp[this,h]
theorem Xc{p:Sk}{l:List Sk}:inU (skP p) (.lst (l.map skP))=some (decide (p∈l)):=Ur (λa b=>Xb 30 a b) p l
theorem Cd(ns:List Int)(k:Nat)(hk:k<=3000):∃ n:Int,eE [.lst (ns.map .int),.int k]=some (.ok (.int n)):=by
 suffices h:∃ p,eE [.lst (ns.map .int),.int k]=some (.ok p)/\∃ n,p=.int n by
  obtain⟨p,e,n,rfl⟩:=h;exact⟨n,e⟩
 refine vW ?_;unfold qj;walk_at "rd"
 rw[List.length_map];refine rR (λh=>?_) (λh=>?_)
 ·unfold rG;walk_at "rd"
  exact⟨_,BK (by lia) h,_,rfl⟩
 ·unfold rJ;have kk:(k:Int)*k<=3000*3000:=Int.mul_le_mul (by lia) (by lia) (by lia) (by decide)
  have kk0:0<=(k:Int)*k:=Int.mul_nonneg (by lia) (by lia)
  walk_at "rd"
  rw[List.length_map];refine⟨.inl ⟨by lia,by lia⟩,rR (λh0=>?_) (λh0=>?_)⟩
  ·unfold rH;walk_at "rd"
   rw[List.length_map];refine⟨.inl ⟨by lia,by lia⟩,by lia,_,BK (Zbq _ (by lia)) (Za4 _ (by lia)),?_⟩
   walk_at "rd"
   generalize hq:ns.getD ((k:Int)*7%ns.length).toNat 0%2147483629=q
   have q0:0<=q:=by rw[<-hq];exact Zbq _ (by decide)
   have q1:q<2147483629:=by rw[<-hq];exact Za4 _ (by decide)
   unfold mZ;walk_at "rd"
   exact⟨by decide,.inl ⟨by lia,by lia⟩,by decide,_,rfl⟩
  ·unfold mZ;walk_at "rd"
   exact⟨.inl ⟨by lia,by lia⟩,by decide,_,rfl⟩
theorem lE(c:Int)(k:Nat)(hk:k<=3000):∃ n:Int,cQ [.int c,.int k]=some (.ok (.int n))/\0<=n/\n<2147483648:=by
 suffices h:∃ p,cQ [.int c,.int k]=some (.ok p)/\∃ n,p=.int n/\0<=n/\n<2147483648 by
  obtain⟨p,e,n,rfl,h⟩:=h;exact⟨n,e,h⟩
 refine vW ?_;unfold oN;walk_at "rd"
 refine⟨by decide,by decide,by decide,rR (λh=>?_) (λh=>?_)⟩
 ·unfold ql;walk_at "rd"
  have c0:0<=c/2^(31*(k:Int)).toNat:=Int.ediv_nonneg (Int.le_trans (by decide) h) (Int.le_of_lt (Int.pow_pos (by decide)))
  rw[bitAnd_pp c0 (by decide)]
  refine⟨.inl ⟨by decide,by decide⟩,by omega,Zbm _,?_⟩
  have:=@Nat.and_le_right (c/2^(31*(k:Int)).toNat).toNat (2147483647:Int).toNat;have e:(2147483647:Int).toNat=2147483647:=rfl;rw[e] at this ⊢;omega
 ·unfold qm;have k1:7919*(k:Int)*k<=23757000*3000:=Int.mul_le_mul (by omega) (by omega) (by omega) (by decide)
  have k0:0<=7919*(k:Int)*k:=Int.mul_nonneg (by omega) (by omega)
  have m0:0<=c%2147483629:=Zbq _ (by decide)
  have m1:c%2147483629<2147483629:=Za4 _ (by decide)
  walk_at "rd"
  generalize hq:(c%2147483629+7919*(k:Int)*k+k+13)*48271%2147483587=q
  have q0:0<=q:=by rw[<-hq];exact Zbq _ (by decide)
  have q1:q<2147483587:=by rw[<-hq];exact Za4 _ (by decide)
  generalize hz:q*q%2147483629=z
  have z0:0<=z:=by rw[<-hz];exact Zbq _ (by decide)
  have z1:z<2147483629:=by rw[<-hz];exact Za4 _ (by decide)
  refine⟨by decide,.inl ⟨by decide,by decide⟩,.inl ⟨by omega,by omega⟩,.inl ⟨by omega,by omega⟩,by decide,.inl ⟨by omega,by omega⟩,by decide,.inl ⟨by omega,by omega⟩,by decide,Zbq _ (by decide),?_⟩
  have:=Za4 ((z+(k:Int))*69621) (b:=2147483563) (by decide)
  omega
theorem zU{w h:Int}(sz:Sz w h)(c:Int)(k:Nat)(hk:k<=90):∃ n:Nat,gV [.tup [.int w,.int h],.int c,.int k]=some (.ok (.int n))/\n<2^(w.toNat*h.toNat):=by
 suffices hh:∃ p,gV [.tup [.int w,.int h],.int c,.int k]=some (.ok p)/\∃ n:Nat,p=.int n/\n<2^(w.toNat*h.toNat) by
  obtain⟨p,e,n,rfl,q⟩:=hh;exact⟨n,e,q⟩
 have hm:=sz.mul;have hN:=sz.nat;have w0:=sz.w0;have w1:=sz.w1;have h0:=sz.h0;have h1:=sz.h1;refine vW (x:=oO (startR [.tup [.int w,.int h],.int c,.int k] 4)) ?_;unfold oO;rw[show startR [.tup [.int w,.int h],.int c,.int k] 4=[some (.sh (.tup [.int w,.int h])),some (.sh (.int c)),some (.sh (.int k)),none,none,none,none] from rfl];walk_at "rd"
 refine⟨.inl ⟨by lia,by lia⟩,by decide,by decide,by lia,by lia,?_⟩
 have np:((1:Int)*2^(w*h).toNat)=((2^(w.toNat*h.toNat):Nat):Int):=by rw[hN.1];simp
 refine dR (I:=λi ρ=>∃ (n:Int) (v5:Option Sl),ρ=[some (.sh (.tup [.int w,.int h])),some (.sh (.int c)),some (.sh (.int k)),some (.sh (.int (w*h))),some (.sh (.int n)),v5,none]/\0<=n) ⟨0,none,rfl,by decide⟩ ?_ ?_
 ·rintro i x ρ hx ⟨n,v5,rfl,n0⟩;obtain⟨hi,rfl⟩:=xK hx;have hi2:i<=20:=by lia
  obtain⟨q,eq,q0,q1⟩:=lE c (30*k+i) (by lia)
  unfold uM;walk_at "rd"
  rw[show(30*(k:Int)+(0+(i:Int)))=((30*k+i:Nat):Int) by push_cast;lia,eq]
  walk_at "rd"
  exact⟨.inr ⟨by decide,by decide⟩,.inl ⟨by decide,by decide⟩,_,_,rfl,by lia⟩
 ·rintro ρ ⟨n,v5,rfl,n0⟩;obtain⟨q,eq,q0,q1⟩:=lE c (30*k+29) (by lia)
  walk_at "rd"
  unfold uR;walk_at "rd"
  have pp:(0:Int)<1*2^(w*h).toNat:=by rw[np];exact Int.natCast_pos.mpr (Nat.two_pow_pos _)
  refine⟨by lia,by lia,by decide,pp,.inl ⟨by decide,by decide⟩,?_⟩
  rw[show(30*(k:Int)+29)=((30*k+29:Nat):Int) by push_cast;lia,eq]
  walk_at "rd"
  have m0:=Zbq n (Int.ne_of_gt pp);have m1:=Za4 n pp;refine⟨by decide,rR (λ_=>?_) (λ_=>?_)⟩
  ·unfold uN;walk_at "rd"
   refine⟨by lia,by lia,by decide,2^(w.toNat*h.toNat)-1,?_,by have:=Nat.two_pow_pos (w.toNat*h.toNat);lia⟩
   rw[np];have:=Nat.two_pow_pos (w.toNat*h.toNat);congr 1
   lia
  ·unfold uQ;walk_at "rd"
   refine rR (λ_=>?_) (λ_=>?_)
   ·unfold uO;walk_at "rd"
    exact⟨0,rfl,Nat.two_pow_pos _⟩
   ·unfold uP;walk_at "rd"
    refine⟨(n%(1*2^(w*h).toNat)).toNat,by rw[Int.toNat_of_nonneg m0],?_⟩
    rw[np] at m1 m0 ⊢;lia
theorem Rp(a:Nat):∀ b:Nat,a+b=(a ^^^ b)+2*(a &&& b):=by
 induction a using Nat.strongRecOn with
 |_ a ih=>
  intro b;by_cases h:a=0
  ·subst h;simp
  ·have this:=ih (a/2) (by lia) (b/2)
   have e1:(a ^^^ b)/2=(a/2) ^^^ (b/2):=Nat.xor_div_two;have e2:(a &&& b)/2=(a/2) &&& (b/2):=Nat.and_div_two;have t1:=Nat.testBit_xor a b 0;have t2:=ZbM a b 0;rw[<-e1,<-e2] at this;simp only[Nat.testBit_zero] at t1 t2;generalize a ^^^ b=x at *
   generalize a &&& b=y at *
   rcases Nat.mod_two_eq_zero_or_one a with p|p<;>rcases Nat.mod_two_eq_zero_or_one b with q|q<;>rw[p,q] at t1 t2<;>simp at t1 t2<;>lia
theorem J7(a s i:Nat):(a-(a &&& s)).testBit i=(a.testBit i&&!s.testBit i):=by
 have e:a-(a &&& s)=a ^^^ (a &&& s):=by
  have:=Rp a (a &&& s);rw[<-Nat.and_assoc,Nat.and_self] at this;lia
 rw[e,Nat.testBit_xor,ZbM];cases a.testBit i<;>cases s.testBit i<;>rfl
theorem Ik{w h:Int}(sz:Sz w h)(c:Int)(k:Nat)(hk:k<=10):∃ away keep:Nat,fQ [.tup [.int w,.int h],.int c,.int k]=some (.ok (.lst [.int away,.int keep]))/\away<2^(w.toNat*h.toNat)/\keep<2^(w.toNat*h.toNat)/\away &&& keep=0:=by
 suffices hh:∃ p,fQ [.tup [.int w,.int h],.int c,.int k]=some (.ok p)/\∃ away keep:Nat,p=.lst [.int away,.int keep]/\away<2^(w.toNat*h.toNat)/\keep<2^(w.toNat*h.toNat)/\away &&& keep=0 by
  obtain⟨p,e,a,b,rfl,q⟩:=hh;exact⟨a,b,e,q⟩
 have hm:=sz.mul;have hN:=sz.nat;have w0:=sz.w0;have w1:=sz.w1;have h0:=sz.h0;have h1:=sz.h1;have pos:=Nat.two_pow_pos (w.toNat*h.toNat);have np:((1:Int)*2^(w*h).toNat)=((2^(w.toNat*h.toNat):Nat):Int):=by rw[hN.1];simp
 obtain⟨k1,e1,l1⟩:=zU sz c (2*k) (by omega)
 obtain⟨a1,e2,l2⟩:=zU sz c (2*k+1) (by omega)
 obtain⟨q,eq,q0,q1⟩:=lE c (400+k) (by omega)
 obtain⟨k2,e3,l3⟩:=zU sz (c+1) (2*k) (by omega)
 have done:∀ (keep:Nat),keep<2^(w.toNat*h.toNat)->To (jd [some (.sh (.tup [.int w,.int h])),some (.sh (.int c)),some (.sh (.int k)),some (.sh (.int keep)),some (.sh (.int a1)),some (.sh (.int q))]) λo=>∃ p,sI (some o)=some (.ok p)/\∃ away keep:Nat,p=.lst [.int away,.int keep]/\away<2^(w.toNat*h.toNat)/\keep<2^(w.toNat*h.toNat)/\away &&& keep=0:=λkeep kl=>by
  unfold jd;walk_at "rd"
  refine⟨by decide,by decide,by decide,rR (λ_=>?_) (λ_=>?_)⟩
  ·unfold nM;walk_at "rd"
   refine⟨.inl ⟨by omega,by omega⟩,by omega,by omega,by decide,by decide,2^(w.toNat*h.toNat)-1-keep,keep,?_,by omega,kl,?_⟩
   ·rw[np];congr 2
    omega
   ·apply Nat.eq_of_testBit_eq
    intro i;rw[ZbM,show 2^(w.toNat*h.toNat)-1-keep=2^(w.toNat*h.toNat)-(keep+1) by omega,Nat.testBit_two_pow_sub_succ kl]
    cases keep.testBit i<;>simp
  ·unfold nO;walk_at "rd"
   rw[jy];refine⟨by decide,a1-(a1 &&& keep),keep,?_,Nat.lt_of_le_of_lt (Nat.sub_le _ _) l2,kl,?_⟩
   ·have:a1 &&& keep<=a1:=Nat.and_le_left;congr 2
    omega
   ·apply Nat.eq_of_testBit_eq
    intro i;rw[ZbM,J7];cases a1.testBit i<;>cases keep.testBit i<;>simp
 refine Ed (x:=iB (startR [.tup [.int w,.int h],.int c,.int k] 3)) ?_;unfold iB;rw[show startR [.tup [.int w,.int h],.int c,.int k] 3=[some (.sh (.tup [.int w,.int h])),some (.sh (.int c)),some (.sh (.int k)),none,none,none] from rfl];walk_at "rd"
 rw[show(2*(k:Int))=((2*k:Nat):Int) by push_cast;rfl,e1]
 walk_at "rd"
 rw[show(((2*k:Nat):Int)+1)=((2*k+1:Nat):Int) by push_cast;rfl,e2]
 walk_at "rd"
 rw[show(400+(k:Int))=((400+k:Nat):Int) by push_cast;rfl,eq]
 walk_at "rd"
 refine⟨.inl ⟨by decide,by decide⟩,.inl ⟨by decide,by decide⟩,by decide,rR (λ_=>?_) (λ_=>done k1 l1)⟩
 unfold nJ;walk_at "rd"
 rw[show(2*(k:Int))=((2*k:Nat):Int) by push_cast;rfl,e3]
 walk_at "rd"
 rw[jy];exact⟨.inl ⟨by decide,by decide⟩,done _ (Nat.lt_of_le_of_lt Nat.and_le_left l1)⟩
theorem Ml{s u:Sn}{ρ:Rho}{QS:Out->Prop}(ρ':Rho)(h1:To (s ρ) λo=>o=.nx ρ')(h2:To (u ρ') QS):To (bf s u ρ) QS:=by
 rw[to_seq];obtain⟨o,e,c,rfl⟩:=h1;exact⟨_,e,c,h2⟩
theorem J8(c:Int):∃ w h:Int,jx [.int c]=some (.ok (.tup [.int w,.int h]))/\Sz w h :=by
 suffices hh:∃ p,jx [.int c]=some (.ok p)/\∃ w h:Int,p=.tup [.int w,.int h]/\Sz w h  by
  obtain⟨p,e,w,h,rfl,q⟩:=hh;exact⟨w,h,e,q⟩
 obtain⟨a,ea,a0,a1⟩:=lE c 3 (by decide)
 obtain⟨b,eb,b0,b1⟩:=lE c 4 (by decide)
 refine vW (x:=mF (startR [.int c] 1)) ?_;unfold mF;rw[show startR [.int c] 1=[some (.sh (.int c)),none] from rfl];walk_at "rd"
 rw[show(PV.int 3)=.int ((3:Nat):Int) from rfl,ea];walk_at "rd"
 rw[show(PV.int 4)=.int ((4:Nat):Int) from rfl,eb];walk_at "rd"
 refine⟨by decide,rR (λh=>?_) (λh=>?_)⟩
 ·unfold rK;walk_at "rd"
  have x0:=Zbq a (b:=24) (by decide)
  have x1:=Za4 a (b:=24) (by decide)
  have y0:=Zbq (a/24) (b:=24) (by decide)
  have y1:=Za4 (a/24) (b:=24) (by decide)
  exact⟨by decide,by decide,by decide,by decide,by decide,_,_,rfl,⟨by omega,by omega,by omega,by omega⟩⟩
 ·unfold rM;walk_at "rd"
  have x0:=Zbq a (b:=6) (by decide)
  have x1:=Za4 a (b:=6) (by decide)
  have y0:=Zbq (a/6) (b:=6) (by decide)
  have y1:=Za4 (a/6) (b:=6) (by decide)
  exact⟨by decide,by decide,by decide,by decide,by decide,_,_,rfl,⟨by omega,by omega,by omega,by omega⟩⟩
theorem Xd{w h:Int}{c d:Int×Int}(hc:Cell w h c.1 c.2)(hd:Cell w h d.1 d.2)(e:Mth.pl w.toNat c=Mth.pl w.toNat d):c=d:=by
 have h1:=Mth.qL hc.inR;have h2:=Mth.qL hd.inR;exact h1.symm.trans ((Zbg _ e).trans h2)
def bsL(w:Nat)(a b z:Nat)(r:Nat):Nat:=(a/2^(r*w))%2^w ||| z*2^w ||| ((b/2^(r*w))%2^w)*2^(w+1)
theorem Xe{w a b z r:Nat}(hz:z<=1)(j:Nat):(bsL w a b z r).testBit j=if j<w then a.testBit (r*w+j) else if j=w then decide (z=1) else decide (j<2*w+1)&&b.testBit (r*w+(j-w-1)):=by
 unfold bsL;rw[<-Nat.shiftLeft_eq,<-Nat.shiftLeft_eq,Nat.testBit_or,Nat.testBit_or,Nat.testBit_shiftLeft,Nat.testBit_shiftLeft,Nat.testBit_mod_two_pow,Nat.testBit_mod_two_pow,Nat.testBit_div_two_pow,Nat.testBit_div_two_pow];have zb:∀ i,z.testBit i=(decide (i=0)&&decide (z=1)):=λi=>by
  rcases(by lia:z=0\/z=1) with rfl|rfl
  ·simp
  ·cases i<;>simp[Nat.testBit_succ]
 rw[zb];by_cases h1:j<w
 ·simp[h1,Nat.not_le.mpr h1,Nat.add_comm];lia
 ·by_cases h2:j=w
  ·subst h2;simp;lia
  ·have h3:w+1<=j:=by lia
   have h4:¬j-w=0:=by lia
   simp[h1,h2,h3,h4,Nat.add_comm];rw[show j-(w+1)=j-w-1 by lia]
   congr 1
   exact decide_eq_decide.mpr (by lia)
def BsB(w:Nat)(a b z:Nat)(k n:Nat):Prop:=∀ i,n.testBit i=true↔i/(2*w+1)<k/\(bsL w a b z (i/(2*w+1))).testBit (i%(2*w+1))=true
theorem Xf{w a b z r:Nat}(hz:z<=1){j:Nat}(h:2*w+1<=j):(bsL w a b z r).testBit j=false:=by
 rw[Xe hz,Zad (by lia),Zad (by lia),Zaw (by lia)];rfl
theorem BsB.step{w a b z k n:Nat}(hz:z<=1)(B:BsB w a b z k n):BsB w a b z (k+1) (n ||| bsL w a b z k*2^(k*(2*w+1))):=λi=>by
 rw[<-Nat.shiftLeft_eq,Nat.testBit_or,Nat.testBit_shiftLeft,Bool.or_eq_true,B i,Zby,ZaK];have hd:=Nat.div_add_mod i (2*w+1);have hm:=Nat.mod_lt i (show 0<2*w+1 by omega)
 constructor
 ·rintro(⟨q1,q2⟩|⟨q1,q2⟩)
  ·exact⟨by omega,q2⟩
  ·have lt:i-k*(2*w+1)<2*w+1:=Nat.lt_of_not_le λz=>by rw[Xf hz z] at q2;cases q2
   have e1:i/(2*w+1)=k:=Nat.div_eq_of_lt_le (by omega) (by rw[Nat.add_mul];omega)
   have e2:i%(2*w+1)=i-k*(2*w+1):=by rw[e1,Nat.mul_comm] at hd;omega
   rw[e1,e2];exact⟨by omega,q2⟩
 ·rintro⟨q1,q2⟩;by_cases e:i/(2*w+1)=k
  ·refine .inr ?_;rw[e] at q2 hd;have e2:i-k*(2*w+1)=i%(2*w+1):=by rw[Nat.mul_comm] at hd;omega
   rw[e2];exact⟨by rw[Nat.mul_comm] at hd;omega,q2⟩
  ·exact .inl ⟨by omega,q2⟩
theorem len_sub{α:Type}[DecidableEq α]:∀ {l k:List α},l.Nodup->(∀ x∈l,x∈k)->l.length<=k.length
 |[],k,_,_=>Zba _
 |a::l,k,nd,h=>by
  have hd:=Zbv.mp nd;have ha:a∈k:=h a List.mem_cons_self;have h1:=len_sub (l:=l) (k:=k.erase a) hd.2 λx hx=>(List.mem_erase_of_ne (a:=x) (b:=a) (λe=>hd.1 (by rw[<-e];exact hx))).mpr (h x (List.mem_cons_of_mem _ hx))
  rw[List.length_erase_of_mem ha] at h1;have h2:=List.length_pos_of_mem ha;rw[ZaF];omega
structure Il(q:Int->Bool)(L x lo hi:Int):Prop where
 a0:0<=lo
 ax:lo<=x
 xb:x<=hi
 b1:hi<L
 fr:∀ y,lo<=y->y<=hi->q y=false
 lf:lo=0\/q (lo-1)=true
 rt:hi+1=L\/q (hi+1)=true
theorem Il.top{q:Int->Bool}{L x lo hi a b:Int}(m:Il q L x lo hi)(h1:a<=x)(h2:x<=b)(h:∀ y,a<=y->y<=b->0<=y/\y<L/\q y=false):lo<=a/\b<=hi:=by
 have ax:=m.ax;have xb:=m.xb;have a0:=m.a0;have b1:=m.b1;constructor
 ·refine Int.not_lt.mp λz=>?_;obtain⟨y0,_,yf⟩:=h (lo-1) (by omega) (by omega)
  rcases m.lf with e|e
  ·omega
  ·rw[yf] at e;cases e
 ·refine Int.not_lt.mp λz=>?_;obtain⟨_,y1,yf⟩:=h (hi+1) (by omega) (by omega)
  rcases m.rt with e|e
  ·omega
  ·rw[yf] at e;cases e
def skB(row:Bool)(l lo hi:Int):Sk:=(cX row,[l,lo,hi])
theorem Rq(row:Bool)(l lo hi:Int):toB (skB row l lo hi)=(row,l,lo,hi):=by
 unfold toB skB;show(decide (cX row=Str.ofString "row"),l,lo,hi)=_
 rw[LC]
def qI(w:Int)(keep:Nat)(row:Bool)(l:Int):Int->Bool:=λx=>keep.testBit (Mth.pl w.toNat (cW row l x))
def Rr(w h:Int)(row:Bool):Int:=if row then w else h
def SetOf(w:Int)(f:Sk->Nat)(Ls:List Sk):Prop:=∀ row l lo hi,skB row l lo hi∈Ls->∀ i,(f (skB row l lo hi)).testBit i=true↔∃ y,lo<=y/\y<=hi/\Mth.pl w.toNat (cW row l y)=i
theorem Im{fc:Fn Bool}{body:Sn}{mk:Int->Rho}{q:Int->Bool}{x:Int}{QS:Out->Prop}(x0:0<=x)(x24:x<=24)
  (hc:∀ lo,0<=lo->lo<=x->Tv (fc (mk lo)) λb=>b=(decide (0<lo)&&!q (lo-1)))(hb:∀ lo,0<lo->lo<=x->To (body (mk lo)) λo=>o=.nx (mk (lo-1)))(hx:q x=false)
  (fin:∀ lo,0<=lo->lo<=x->(∀ y,lo<=y->y<=x->q y=false)->(lo=0\/q (lo-1)=true)->QS (.nx (mk lo))):To (ik fc body 30 (mk x)) QS:=by
 refine p8 (n:=29) (I:=λk ρ=>∃ lo,ρ=mk lo/\0<=lo/\lo<=x/\(x-lo).toNat+k=29/\∀ y,lo<=y->y<=x->q y=false) ⟨x,rfl,x0,Int.le_refl _,by omega,λy h1 h2=>by rw[show y=x by omega];exact hx⟩ ?_
 rintro k ρ ⟨lo,rfl,l0,lx,hk,fr⟩;obtain⟨b,eb,rfl⟩:=hc lo l0 lx;refine⟨_,eb,rR (λg=>?_) λg=>?_⟩
 ·rw[Zby,ZaK,Bool.not_eq_true'] at g;refine⟨by omega,?_⟩
  obtain⟨o,eo,co,rfl⟩:=hb lo g.1 lx;refine⟨_,eo,co,lo-1,rfl,by omega,by omega,by omega,λy h1 h2=>?_⟩
  by_cases e:y=lo-1
  ·rw[e];exact g.2
  ·exact fr y (by omega) h2
 ·rw[Zby,ZaK,Bool.not_eq_true'] at g;refine fin lo l0 lx fr ?_;by_cases e:0<lo
  ·exact .inr (by
    cases e2:q (lo-1) with
    |true=>rfl
    |false=>exact absurd ⟨e,e2⟩ g)
  ·exact .inl (by omega)
theorem Ce{fc:Fn Bool}{body:Sn}{mk:Int->Rho}{q:Int->Bool}{x L:Int}{QS:Out->Prop}(x0:0<=x)(xL:x<L)(L24:L<=24)
  (hc:∀ hi,x<=hi->hi<L->Tv (fc (mk hi)) λb=>b=(decide (hi+1<L)&&!q (hi+1)))(hb:∀ hi,x<=hi->hi<L->To (body (mk hi)) λo=>o=.nx (mk (hi+1)))(hx:q x=false)
  (fin:∀ hi,x<=hi->hi<L->(∀ y,x<=y->y<=hi->q y=false)->(hi+1=L\/q (hi+1)=true)->QS (.nx (mk hi))):To (ik fc body 30 (mk x)) QS:=by
 refine p8 (n:=29) (I:=λk ρ=>∃ hi,ρ=mk hi/\x<=hi/\hi<L/\(hi-x).toNat+k=29/\∀ y,x<=y->y<=hi->q y=false) ⟨x,rfl,Int.le_refl _,xL,by omega,λy h1 h2=>by rw[show y=x by omega];exact hx⟩ ?_
 rintro k ρ ⟨hi,rfl,l0,lx,hk,fr⟩;obtain⟨b,eb,rfl⟩:=hc hi l0 lx;refine⟨_,eb,rR (λg=>?_) λg=>?_⟩
 ·rw[Zby,ZaK,Bool.not_eq_true'] at g;refine⟨by omega,?_⟩
  obtain⟨o,eo,co,rfl⟩:=hb hi l0 lx;refine⟨_,eo,co,hi+1,rfl,by omega,by omega,by omega,λy h1 h2=>?_⟩
  by_cases e:y=hi+1
  ·rw[e];exact g.2
  ·exact fr y h1 (by omega)
 ·rw[Zby,ZaK,Bool.not_eq_true'] at g;refine fin hi l0 lx fr ?_;by_cases e:hi+1<L
  ·exact .inr (by
    cases e2:q (hi+1) with
    |true=>rfl
    |false=>exact absurd ⟨e,e2⟩ g)
  ·exact .inl (by omega)
theorem zV(n p:Nat):decide (Builtin.bitAnd ((n:Int)/2^p) 1=0)=!n.testBit p:=by
 have e:(n:Int)/2^p=((n/2^p:Nat):Int):=by simp
 rw[e,bitAnd_pp (Zbm _) (by decide),ZaP,show(1:Int).toNat=1 from rfl,Mth.Kz]
 cases n.testBit p<;>rfl
theorem Rt{w h:Int}(sz:Sz w h){keep:Nat}{x y:Int}(cl:Cell w h x y)(no:keep.testBit (Mth.pl w.toNat (x,y))=false) :
  ∃ lo hi,eF [.tup [.int w,.int h],.int keep,.str (cX true),.int x,.int y]=some (.ok (lK true y lo hi))/\Il (qI w keep true y) w x lo hi:=by
 suffices hh:∃ p,eF [.tup [.int w,.int h],.int keep,.str (cX true),.int x,.int y]=some (.ok p)/\∃ lo hi,p=lK true y lo hi/\Il (qI w keep true y) w x lo hi by
  obtain⟨p,e,lo,hi,rfl,m⟩:=hh;exact⟨lo,hi,e,m⟩
 have w1:=sz.w1;have h1:=sz.h1;have c0:=cl.c0;have c1:=cl.c1;have r0:=cl.r0;have r1:=cl.r1;have y0:0<=y*w:=Int.mul_nonneg r0 (by omega)
 have pe:∀ z,0<=z->z<w->(y*w+z).toNat=Mth.pl w.toNat (z,y):=λz z0 z1=>(Cell.pl (w:=w) (h:=h) ⟨z0,z1,r0,r1⟩).1;refine vW (x:=je (startR [.tup [.int w,.int h],.int keep,.str (cX true),.int x,.int y] 2)) (nC λQS hQ=>?_);unfold je;rw[show startR [.tup [.int w,.int h],.int keep,.str (cX true),.int x,.int y] 2=[some (.sh (.tup [.int w,.int h])),some (.sh (.int keep)),some (.sh (.str (cX true))),some (.sh (.int x)),some (.sh (.int y)),none,none] from rfl];walk_at "rd"
 rw[Zaf (show cX true=Str.ofString "row" from rfl)];unfold uX;walk_at "rd"
 refine Im (mk:=λlo=>[some (.sh (.tup [.int w,.int h])),some (.sh (.int keep)),some (.sh (.str (cX true))),some (.sh (.int x)),some (.sh (.int y)),some (.sh (.int lo)),none]) (q:=qI w keep true y) c0 (by omega) (λlo l0 lx=>?_) (λlo l0 lx=>?_) no λlo l0 lx fr lf=>?_
 ·walk_at "rd"
  refine rR (λg=>⟨.inl ⟨by omega,by omega⟩,by omega,?_⟩) λg=>?_
  ·rw[zV,Zax g,Bool.true_and,show y*w+lo-1=y*w+(lo-1) by omega,pe _ (by omega) (by omega)];rfl
  ·rw[Zaw g];rfl
 ·unfold uT;walk_at "rd"
 ·walk_at "rd"
  unfold uW;walk_at "rd"
  refine Ce (mk:=λhi=>[some (.sh (.tup [.int w,.int h])),some (.sh (.int keep)),some (.sh (.str (cX true))),some (.sh (.int x)),some (.sh (.int y)),some (.sh (.int lo)),some (.sh (.int hi))]) (q:=qI w keep true y) c0 c1 w1 (λhi l0 lx=>?_) (λhi l0 lx=>?_) no λhi h0 hL fr2 rt=>?_
  ·walk_at "rd"
   refine rR (λg=>⟨.inl ⟨by omega,by omega⟩,by omega,?_⟩) λg=>?_
   ·rw[zV,Zax g,Bool.true_and,show y*w+hi+1=y*w+(hi+1) by omega,pe _ (by omega) (by omega)];rfl
   ·rw[Zaw g];rfl
  ·unfold uU;walk_at "rd"
  ·walk_at "rd"
   unfold uV;walk_at "rd"
   refine⟨by decide,hQ _ ⟨_,rfl,lo,hi,rfl,⟨l0,lx,h0,hL,λz z1 z2=>?_,lf,rt⟩⟩⟩
   by_cases g:z<=x
   ·exact fr z z1 g
   ·exact fr2 z (by omega) z2
theorem Ru{w h:Int}(sz:Sz w h){keep:Nat}{x y:Int}(cl:Cell w h x y)(no:keep.testBit (Mth.pl w.toNat (x,y))=false) :
  ∃ lo hi,eF [.tup [.int w,.int h],.int keep,.str (cX false),.int x,.int y]=some (.ok (lK false x lo hi))/\Il (qI w keep false x) h y lo hi:=by
 suffices hh:∃ p,eF [.tup [.int w,.int h],.int keep,.str (cX false),.int x,.int y]=some (.ok p)/\∃ lo hi,p=lK false x lo hi/\Il (qI w keep false x) h y lo hi by
  obtain⟨p,e,lo,hi,rfl,m⟩:=hh;exact⟨lo,hi,e,m⟩
 have w1:=sz.w1;have h1:=sz.h1;have c0:=cl.c0;have c1:=cl.c1;have r0:=cl.r0;have r1:=cl.r1;have y0:0<=y*w:=Int.mul_nonneg r0 (by omega)
 have pe:∀ z,0<=z->z<h->(z*w+x).toNat=Mth.pl w.toNat (x,z)/\0<=z*w+x:=λz z0 z1=>Cell.pl (w:=w) (h:=h) ⟨c0,c1,z0,z1⟩;refine vW (x:=je (startR [.tup [.int w,.int h],.int keep,.str (cX false),.int x,.int y] 2)) (nC λQS hQ=>?_);unfold je;rw[show startR [.tup [.int w,.int h],.int keep,.str (cX false),.int x,.int y] 2=[some (.sh (.tup [.int w,.int h])),some (.sh (.int keep)),some (.sh (.str (cX false))),some (.sh (.int x)),some (.sh (.int y)),none,none] from rfl];walk_at "rd"
 rw[Zad (show ¬cX false=Str.ofString "row" by decide +kernel)]
 unfold rN;walk_at "rd"
 refine Im (mk:=λlo=>[some (.sh (.tup [.int w,.int h])),some (.sh (.int keep)),some (.sh (.str (cX false))),some (.sh (.int x)),some (.sh (.int y)),some (.sh (.int lo)),none]) (q:=qI w keep false x) r0 (by omega) (λlo l0 lx=>?_) (λlo l0 lx=>?_) no λlo l0 lx fr lf=>?_
 ·walk_at "rd"
  refine rR (λg=>⟨.inl ⟨by omega,by omega⟩,(pe _ (by omega) (by omega)).2,?_⟩) λg=>?_
  ·rw[zV,Zax g,Bool.true_and,(pe _ (by omega) (by omega)).1];rfl
  ·rw[Zaw g];rfl
 ·unfold uY;walk_at "rd"
 ·walk_at "rd"
  unfold u6;walk_at "rd"
  refine Ce (mk:=λhi=>[some (.sh (.tup [.int w,.int h])),some (.sh (.int keep)),some (.sh (.str (cX false))),some (.sh (.int x)),some (.sh (.int y)),some (.sh (.int lo)),some (.sh (.int hi))]) (q:=qI w keep false x) r0 r1 h1 (λhi l0 lx=>?_) (λhi l0 lx=>?_) no λhi h0 hL fr2 rt=>?_
  ·walk_at "rd"
   refine rR (λg=>⟨.inl ⟨by omega,by omega⟩,(pe _ (by omega) (by omega)).2,?_⟩) λg=>?_
   ·rw[zV,Zax g,Bool.true_and,(pe _ (by omega) (by omega)).1];rfl
   ·rw[Zaw g];rfl
  ·unfold uZ;walk_at "rd"
  ·walk_at "rd"
   unfold u5;walk_at "rd"
   refine⟨by decide,hQ _ ⟨_,rfl,lo,hi,rfl,⟨l0,lx,h0,hL,λz z1 z2=>?_,lf,rt⟩⟩⟩
   by_cases g:z<=y
   ·exact fr z z1 g
   ·exact fr2 z (by omega) z2
theorem UL{w h:Int}(sz:Sz w h){keep:Nat}{c:Int×Int}(cl:Cell w h c.1 c.2)(no:keep.testBit (Mth.pl w.toNat c)=false)(row:Bool) :
  ∃ lo hi,eF [.tup [.int w,.int h],.int keep,.str (cX row),.int c.1,.int c.2]=some (.ok (skP (skB row (lnOf row c) lo hi)))/\Il (qI w keep row (lnOf row c)) (Rr w h row) (Ai row c) lo hi:=by
 cases row with
 |true=>exact Rt sz cl no
 |false=>exact Ru sz cl no
inductive LsI(w h:Int)(row:Bool)(l f t:Int)(i:Nat):Rho->Prop
 |mk (v:Option Sl):LsI w h row l f t i [some (.sh (.tup [.int w,.int h])),some (.sh (.tup [.str (cX row),.int l,.int f,.int t])),v,none,none]
theorem UT{w h:Int}{row:Bool}{l f t:Int}(l0:0<=l)(l1:l<if row then h else w)(f0:0<=f)(ft:f<=t)(t1:t<if row then w else h) :
  gh [.tup [.int w,.int h],lK row l f t]=some (.ok (.bl true)):=by
 refine jF (x:=gf (startR [.tup [.int w,.int h],lK row l f t] 3)) ?_;unfold gf lK;rw[show startR [.tup [.int w,.int h],.tup [.str (cX row),.int l,.int f,.int t]] 3=[some (.sh (.tup [.int w,.int h])),some (.sh (.tup [.str (cX row),.int l,.int f,.int t])),none,none,none] from rfl];walk_at "rd"
 rw[Zad (by decide)]
 refine⟨by decide,true,by cases row<;>rfl,?_⟩
 rw[Zad (by decide)]
 unfold lr;walk_at "rd"
 refine⟨by decide,?_⟩
 rw[show yr [PV.str (cX row),.int l,.int f,.int t] (some 1) none=[.int l,.int f,.int t] from rfl];refine dR (I:=LsI w h row l f t) (.mk none) ?_ ?_
 case refine_2=>
  rintro _ ⟨v⟩;unfold lq;walk_at "rd"
  refine⟨by decide,.int (if row then h else w),by cases row<;>rfl,by decide,.int (if row then w else h),by cases row<;>rfl,?_⟩
  walk_at "rd"
  rw[Zaf l1,Zaf ft];exact t1
 rintro i x _ hx ⟨v⟩;obtain⟨y,rfl,y0⟩:∃ y,x=PV.int y/\0<=y:=by
  have:=Zag hx;simp only[ZaA,List.not_mem_nil,or_false] at this;rcases this with rfl|rfl|rfl
  ·exact⟨_,rfl,l0⟩
  ·exact⟨_,rfl,f0⟩
  ·exact⟨_,rfl,by omega⟩
 unfold kZ;walk_at "rd"
 rw[Zad (by omega)]
 exact .mk _
def wQ(s:Bool×Int×Int×Int):PV:=lK s.1 s.2.1 s.2.2.1 s.2.2.2
def wR(s:Bool×Int×Int×Int):List (Int×Int):=dw s.1 s.2.1 s.2.2.1 s.2.2.2
structure Yx(w h:Int)(s:Bool×Int×Int×Int):Prop where
 f0:0<=s.2.2.1
 ft:s.2.2.1<=s.2.2.2
 t1:s.2.2.2<=24
 on:∀ c∈wR s,Cell w h c.1 c.2
inductive CuI(w h:Int)(bs:List (Bool×Int×Int×Int))(i:Nat):Rho->Prop
 |mk (v3 v4 v5:Option Sl):CuI w h bs i [some (.sh (.tup [.int w,.int h])),some (.sh (.lst (bs.map wQ))),some (.sh (.int (Mth.iV w.toNat ((bs.take i).flatMap wR)))),v3,v4,v5]
inductive CuJ(w h:Int)(bs:List (Bool×Int×Int×Int))(i:Nat)(s:Bool×Int×Int×Int)(j:Nat):Rho->Prop
 |mk (v4 v5:Option Sl):CuJ w h bs i s j [some (.sh (.tup [.int w,.int h])),some (.sh (.lst (bs.map wQ))),some (.sh (.int (Mth.iV w.toNat ((bs.take i).flatMap wR++(wR s).take j)))),some (.sh (wQ s)),v4,v5]
theorem UV{w h:Int}(sz:Sz w h){bs:List (Bool×Int×Int×Int)}(ok:∀ s∈bs,Yx w h s):oU [.tup [.int w,.int h],.lst (bs.map wQ)]=some (.ok (.int (Mth.iV w.toNat (bs.flatMap wR):Nat))):=by
 have hm:=sz.mul;have w1:=sz.w1;have h1:=sz.h1;refine jF (x:=oR (startR [.tup [.int w,.int h],.lst (bs.map wQ)] 4)) (nC λQS hQ=>?_);unfold oR;rw[show startR [.tup [.int w,.int h],.lst (bs.map wQ)] 4=[some (.sh (.tup [.int w,.int h])),some (.sh (.lst (bs.map wQ))),none,none,none,none] from rfl];walk_at "rd"
 refine dR (I:=CuI w h bs) (.mk none none none) ?_ ?_
 case refine_2=>
  rintro _ ⟨v3,v4,v5⟩;walk_at "rd"
  unfold vf;walk_at "rd"
  refine hQ _ ?_;rw[List.length_map,List.take_length];rfl
 clear hQ
 rintro i x _ hx ⟨v3,v4,v5⟩;refine p7 λQS2 hQ2=>?_;rw[List.getElem?_map] at hx;cases es:bs[i]? with
 |none=>rw[es] at hx;cases hx
 |some s=>
  rw[es] at hx;cases hx;have so:=ok s (Zag es);unfold vd;walk_at "rd"
  rw[show wQ s=lK s.1 s.2.1 s.2.2.1 s.2.2.2 from rfl,NP so.f0 so.ft (by have:=so.t1;omega)]
  walk_at "rd"
  rw[show lK s.1 s.2.1 s.2.2.1 s.2.2.2=wQ s from rfl];refine Lp (CuJ w h bs i s) (by have:=CuJ.mk (w:=w) (h:=h) (bs:=bs) (i:=i) (s:=s) (j:=0) v4 v5;rwa [List.take_zero,Zbc] at this) ?_ ?_
  case refine_2=>
   rintro _ ⟨v4,v5⟩;refine hQ2 _ ?_;have:=CuI.mk (w:=w) (h:=h) (bs:=bs) (i:=i+1) (some (.sh (wQ s))) v4 v5;rw[take_snoc es,List.flatMap_append,List.flatMap_cons,List.flatMap_nil,Zbc] at this;rw[List.length_map,show dw s.1 s.2.1 s.2.2.1 s.2.2.2=wR s from rfl,ZaV (Zak (wR s).length)];exact this
  clear hQ2
  rintro j x _ hx ⟨v4,v5⟩;rw[List.getElem?_map] at hx;cases ec:(dw s.1 s.2.1 s.2.2.1 s.2.2.2)[j]? with
  |none=>rw[ec] at hx;cases hx
  |some c=>
   rw[ec] at hx;cases hx;have cl:=so.on c (Zag ec);obtain⟨e1,e2⟩:=cl.pl;have ha:=sz.at cl.c0 cl.c1 cl.r0 cl.r1;refine⟨_,rfl,?_⟩;refine p7 λQS3 hQ3=>?_;unfold u9;walk_at "rd"
   have e3:(1:Int)*2^Mth.pl w.toNat (c.1,c.2)=((2^Mth.pl w.toNat c:Nat):Int):=by simp
   rw[e1,e3,BR,<-Mth.Ax,Zay,<-take_snoc (show(wR s)[j]?=some c from ec)];have r0:=cl.r0;have r1:=cl.r1;exact⟨.inl ⟨by omega,by omega⟩,by omega,by omega,by decide,hQ3 _ (.mk _ _)⟩
theorem Io{w h:Int}(sz:Sz w h){keep:Nat}{row:Bool}{l y:Int}:vX (qOn w keep row l) (gn w h row) y↔0<=y/\y<Rr w h row/\qI w keep row l y=false:=by
 have w0:=sz.w0;have h0:=sz.h0;have hl:((gn w h row:Nat):Int)=Rr w h row:=by unfold gn Rr;cases row<;>simp<;>omega
 have hq:0<=y->qOn w keep row l y.toNat=qI w keep row l y:=λh0=>by unfold qOn qI;rw[Int.toNat_of_nonneg h0]
 constructor
 ·rintro⟨a,b,c⟩;exact⟨a,by omega,by rw[<-hq a];exact c⟩
 ·rintro⟨a,b,c⟩;exact⟨a,by omega,by rw[hq a];exact c⟩
theorem Rv{w h:Int}(sz:Sz w h){keep:Nat}{row:Bool}{l x lo hi:Int}(m:Il (qI w keep row l) (Rr w h row) x lo hi):qF (qOn w keep row l) (gn w h row) x=(lo,hi):=by
 have a0:=m.a0;have ax:=m.ax;have xb:=m.xb;have b1:=m.b1;have fr:∀ z,lo<=z->z<=hi->vX (qOn w keep row l) (gn w h row) z:=λz z1 z2=>(Io sz).mpr ⟨by omega,by omega,m.fr z z1 z2⟩
 have e1:=Ia (q:=qOn w keep row l) (L:=gn w h row) (x:=x) (y:=lo) λz hz=>fr z (by omega) (by omega)
 have e2:=Ia (q:=qOn w keep row l) (L:=gn w h row) (x:=x) (y:=hi) λz hz=>fr z (by omega) (by omega)
 have f0:=(fr x (by omega) (by omega)).run
 have f1:=(fr lo (by omega) (by omega)).run.2.1
 have f2:=(fr hi (by omega) (by omega)).run.2.2.1
 rw[<-e1] at f1;rw[<-e2] at f2;have t:=m.top f0.2.1 f0.2.2.1 λy y1 y2=>(Io sz).mp (f0.1.fr y y1 y2);exact Prod.ext (by show _=lo;omega) (by show _=hi;omega)
theorem Rw{w h:Int}(sz:Sz w h){keep:Nat}{c:Int×Int}(cl:Cell w h c.1 c.2)(no:keep.testBit (Mth.pl w.toNat c)=false)(row:Bool) :
  eF [.tup [.int w,.int h],.int keep,.str (cX row),.int c.1,.int c.2]=some (.ok (skP (stS w h keep row c))):=by
 obtain⟨lo,hi,e,m⟩:=UL sz cl no row;have:=Rv sz m;rw[e,show stS w h keep row c=skB row (lnOf row c) lo hi by unfold stS runC skB;rw[this]]
structure Yy(w h:Int)(away keep:Nat)(ps:List (Int×Int)):Prop where
 cl:∀ c∈ps,Cell w h c.1 c.2
 aw:∀ c∈ps,away.testBit (Mth.pl w.toNat c)=true
 kp:∀ c∈ps,keep.testBit (Mth.pl w.toNat c)=false
 inc:∀ (i j:Nat) a b,i<j->ps[i]?=some a->ps[j]?=some b->Mth.pl w.toNat a<Mth.pl w.toNat b
 ap:∀ (i j:Nat) a b,i<j->ps[i]?=some a->ps[j]?=some b->∀ row,stS w h keep row a≠stS w h keep row b
section
variable{w h:Int}{away keep:Nat}{c:Int×Int}{d:List (List Key×PV)}{v3 v5 v6 v9 v10:Option Sl}
theorem Ci(sz:Sz w h)(cl:Cell w h c.1 c.2)(no:keep.testBit (Mth.pl w.toNat c)=false)(row:Bool)(dl:d.length<=5000)(nw:dg d (skK (stS w h keep row c))=none) :
  To (iC [some (.sh (.tup [.int w,.int h])),some (.sh (.int away)),some (.sh (.int keep)),v3,some (.ow (.dt d)),v5,v6,some (.sh (.int c.1)),some (.sh (.int c.2)),some (.sh (.str (cX row))),v10]) λo=>
   o=.nx [some (.sh (.tup [.int w,.int h])),some (.sh (.int away)),some (.sh (.int keep)),v3,some (.ow (.dt (fK d (skK (stS w h keep row c)) (.bl true)))),v5,v6,some (.sh (.int c.1)),some (.sh (.int c.2)),some (.sh (.str (cX row))),some (.sh (skP (stS w h keep row c)))]:=by
 refine nC λQS hQ=>?_;have ef:gm (.dt d) (skP (stS w h keep row c))=some none:=by
  show(dD (.str (stS w h keep row c).1::(stS w h keep row c).2.map PV.int)).map (dg d)=_
  rw[jf,Zbz,nw]
 have ep:Gz (.dt d) (skP (stS w h keep row c)) (.bl true)=some (.dt (fK d (skK (stS w h keep row c)) (.bl true))):=by
  show(match dD (.str (stS w h keep row c).1::(stS w h keep row c).2.map PV.int) with
   |some k=>if d.length<sizeLine then some (PV.dt (fK d k (.bl true))) else none
   |none=>none)=_
  rw[jf];exact Zaf (vy (by omega))
 unfold iC;refine Ml [some (.sh (.tup [.int w,.int h])),some (.sh (.int away)),some (.sh (.int keep)),v3,some (.ow (.dt d)),v5,v6,some (.sh (.int c.1)),some (.sh (.int c.2)),some (.sh (.str (cX row))),some (.sh (skP (stS w h keep row c)))] ?_ ?_
 ·walk_at "rd"
  rw[Rw sz cl no row,tv_some]
 walk_at "rd"
 refine⟨none,ef,?_⟩;rw[Zad (by decide)]
 unfold mG;walk_at "rd"
 exact⟨_,ep,hQ _ rfl⟩
theorem Rx{s1 s2:Sk}(ne:s1≠s2)(h2:dg d (skK s2)=none){p:PV}:dg (fK d (skK s1) p) (skK s2)=none:=by
 rw[nF,Zad λe=>ne (oW e).symm];exact h2
theorem J9(sz:Sz w h)(cl:Cell w h c.1 c.2)(no:keep.testBit (Mth.pl w.toNat c)=false)(dl:d.length<=4000)(nw:∀ row,dg d (skK (stS w h keep row c))=none) :
  To (iD [some (.sh (.tup [.int w,.int h])),some (.sh (.int away)),some (.sh (.int keep)),v3,some (.ow (.dt d)),v5,v6,some (.sh (.int c.1)),some (.sh (.int c.2)),v9,v10]) λo=>
   ∃ (v9 v10:Option Sl),o=.nx [some (.sh (.tup [.int w,.int h])),some (.sh (.int away)),some (.sh (.int keep)),v3,some (.ow (.dt (fK (fK d (skK (stS w h keep true c)) (.bl true)) (skK (stS w h keep false c)) (.bl true)))),some (.sh (.int (Mth.pl w.toNat c:Nat))),v6,some (.sh (.int c.1)),some (.sh (.int c.2)),v9,v10]:=by
 refine nC λQS hQ=>?_;obtain⟨e1,e2⟩:=cl.pl;have ha:=sz.at cl.c0 cl.c1 cl.r0 cl.r1;have r0:=cl.r0;have r1:=cl.r1;have hm:=sz.mul;have w1:=sz.w1;have h1:=sz.h1;have e3:c.2*w+c.1=((Mth.pl w.toNat c:Nat):Int):=by rw[<-e1,Int.toNat_of_nonneg e2]
 unfold iD;refine Ml [some (.sh (.tup [.int w,.int h])),some (.sh (.int away)),some (.sh (.int keep)),v3,some (.ow (.dt d)),some (.sh (.int (Mth.pl w.toNat c:Nat))),v6,some (.sh (.int c.1)),some (.sh (.int c.2)),v9,v10] ?_ ?_
 ·walk_at "rd"
  rw[e3];exact⟨.inl ⟨by omega,by omega⟩,rfl⟩
 walk_at "rd"
 have st:stS w h keep true c≠stS w h keep false c:=λe=>absurd (Zbg Prod.fst e) (show cX true≠cX false by decide +kernel)
 obtain⟨o1,f1,_,rfl⟩:=Ci (away:=away) (v3:=v3) (v5:=some (.sh (.int (Mth.pl w.toNat c:Nat)))) (v6:=v6) (v10:=v10) sz cl no true (by omega) (nw true)
 obtain⟨o2,f2,_,rfl⟩:=Ci (away:=away) (v3:=v3) (v5:=some (.sh (.int (Mth.pl w.toNat c:Nat)))) (v6:=v6) (v10:=some (.sh (skP (stS w h keep true c)))) sz cl no false (d:=fK d (skK (stS w h keep true c)) (.bl true)) (ZaE (qb _ _ _) (by omega)) (Rx st (nw false))
 refine⟨by decide,?_⟩
 rw[BJ (ρ1:=[some (.sh (.tup [.int w,.int h])),some (.sh (.int away)),some (.sh (.int keep)),v3,some (.ow (.dt d)),some (.sh (.int (Mth.pl w.toNat c:Nat))),v6,some (.sh (.int c.1)),some (.sh (.int c.2)),some (.sh (.str (cX true))),v10]) rfl f1];rw[BJ (ρ1:=[some (.sh (.tup [.int w,.int h])),some (.sh (.int away)),some (.sh (.int keep)),v3,some (.ow (.dt (fK d (skK (stS w h keep true c)) (.bl true)))),some (.sh (.int (Mth.pl w.toNat c:Nat))),v6,some (.sh (.int c.1)),some (.sh (.int c.2)),some (.sh (.str (cX false))),some (.sh (skP (stS w h keep true c)))]) rfl f2,QZ];exact⟨_,rfl,trivial,hQ _ ⟨_,_,rfl⟩⟩
end
inductive ApI(w h:Int)(away keep:Nat)(ps:List (Int×Int))(i:Nat):Rho->Prop
 |mk (d:List (List Key×PV)) (z:Int) (v6 v7 v8 v9 v10:Option Sl) (dl:d.length<=2*i) (hk:∀ s,dg d (skK s)≠none->∃ (j:Nat) (a:Int×Int) (row:Bool),j<i/\ps[j]?=some a/\s=stS w h keep row a)
   (hz:∀ (j:Nat) (a:Int×Int),i<=j->ps[j]?=some a->z<(Mth.pl w.toNat a:Nat)):ApI w h away keep ps i [some (.sh (.tup [.int w,.int h])),some (.sh (.int away)),some (.sh (.int keep)),some (.sh (.lst (ps.map cellP))),some (.ow (.dt d)),some (.sh (.int z)),v6,v7,v8,v9,v10]
theorem N5{w h:Int}(sz:Sz w h){away keep:Nat}{ps:List (Int×Int)}(A:Yy w h away keep ps)(pl:ps.length<=1000):gM [.tup [.int w,.int h],.int away,.int keep,.lst (ps.map cellP)]=some (.ok (.bl true)):=by
 refine jF (x:=gJ (startR [.tup [.int w,.int h],.int away,.int keep,.lst (ps.map cellP)] 7)) (nC λQS hQ=>?_);unfold gJ;rw[show startR [.tup [.int w,.int h],.int away,.int keep,.lst (ps.map cellP)] 7=[some (.sh (.tup [.int w,.int h])),some (.sh (.int away)),some (.sh (.int keep)),some (.sh (.lst (ps.map cellP))),none,none,none,none,none,none,none] from rfl];walk_at "rd"
 refine dR (I:=ApI w h away keep ps) (.mk [] (-1) none none none none none (Zba _) (λs hs=>absurd rfl hs) λj a _ _=>by omega) ?_ ?_
 case refine_2=>
  rintro _ ⟨d,z,v6,v7,v8,v9,v10,_,_,_⟩;walk_at "rd"
  unfold lw;walk_at "rd"
  exact hQ _ rfl
 clear hQ
 rintro i x _ hx ⟨d,z,v6,v7,v8,v9,v10,dl,hk,hz⟩;refine p7 λQS2 hQ2=>?_;rw[List.getElem?_map] at hx;cases ec:ps[i]? with
 |none=>rw[ec] at hx;cases hx
 |some c=>
  rw[ec] at hx;cases hx;have hi:=(Zab.mp ec).1;have hc:=Zag ec;have cl:=A.cl c hc;unfold lu;rw[show cellP c=.tup [.int c.1,.int c.2] from rfl];walk_at "rd"
  rw[Zad (by decide)]
  unfold mJ;walk_at "rd"
  obtain⟨e1,e2⟩:=cl.pl;have ha:=sz.at cl.c0 cl.c1 cl.r0 cl.r1;have r0:=cl.r0;have r1:=cl.r1;have w1:=sz.w1;have h1:=sz.h1;have e3:c.2*w+c.1=((Mth.pl w.toNat c:Nat):Int):=by rw[<-e1,Int.toNat_of_nonneg e2]
  have bt:¬Builtin.bitAnd ((away:Int)/2^(c.2*w+c.1).toNat) 1=0:=by
   have:=zV away (c.2*w+c.1).toNat;rw[e1,A.aw c hc] at this;rw[e1];exact of_decide_eq_false this
  have cm:FJ c.2 w:=.inl ⟨by omega,by omega⟩
  rw[Zaf cl.c0,Zad (λz=>z cl.c1),Zaf cl.r0,Zad (λz=>z cl.r1)];refine⟨cm,e2,?_⟩;rw[Zad bt];unfold mH;walk_at "rd"
  refine⟨cm,?_⟩;have hzc:=hz i c (Zak _) ec;rw[Zad (by omega)]
  have nw:∀ row,dg d (skK (stS w h keep row c))=none:=λrow=>Classical.byContradiction λz=>by
   obtain⟨j,a,row',hj,ea,e⟩:=hk _ z;have er:row=row':=by
    have:=Zbg Prod.fst e;have h2:cX row=cX row':=this;revert h2
    cases row<;>cases row'<;>first|exact λ_=>rfl|exact λh2=>absurd h2 (by decide +kernel)
   subst er;exact A.ap j i a c hj ea ec row e.symm
  obtain⟨o,eo,hcalm,v9',v10',rfl⟩:=J9 (away:=away) (v3:=some (.sh (.lst (ps.map cellP)))) (v5:=some (.sh (.int z))) (v6:=some (.sh (.tup [.int c.1,.int c.2]))) (v9:=v9) (v10:=v10) sz cl (A.kp c hc) (by omega) nw
  refine⟨_,eo,hcalm,hQ2 _ (.mk _ _ _ _ _ _ _ ?_ (λs hs=>?_) λj a hj ea=>?_)⟩
  ·have p1:=qb (skK (stS w h keep true c)) (PV.bl true) d;have p2:=qb (skK (stS w h keep false c)) (PV.bl true) (fK d (skK (stS w h keep true c)) (PV.bl true));omega
  ·rw[nF,nF] at hs;by_cases g1:skK s=skK (stS w h keep false c)
   ·exact⟨i,c,false,by omega,ec,oW g1⟩
   ·rw[Zad g1] at hs;by_cases g2:skK s=skK (stS w h keep true c)
    ·exact⟨i,c,true,by omega,ec,oW g2⟩
    ·rw[Zad g2] at hs;obtain⟨j,a,row,hj,r⟩:=hk s hs;exact⟨j,a,row,by omega,r⟩
  ·have:=A.inc i j c a (by omega) ec ea
   omega
theorem UW{l:List Sk}{m:Nat}(o:qW l m):(tu l).Pairwise λp q=>fZ p q=true:=by
 unfold tu;rw[ZaY];exact o.ord.imp_of_mem λ{i j} hi hj h=>by rw[o.lt (oF i hi) (oF j hj)];exact Zax h
theorem Cj:∀ {l m:List Int},l.length=m.length->Af (l.map .inl) (m.map .inl)=some (ltI l m)
 |[],[],_=>rfl
 |a::l,b::m,h=>by
  rw[Zap,Zap];unfold Af ltI;by_cases e:a=b
  ·rw[Zaf e,Zaf e,Cj (by simpa using h)]
  ·rw[Zad e,Zad e]
theorem Ry{p q:Sk}(h:p.2.length=q.2.length):Ln (skP p) (skP q)=some (.ok (.bl (fZ p q))):=by
 have e:J3 (.str p.1::p.2.map PV.int) (.str q.1::q.2.map PV.int)=some (fZ p q):=by
  unfold J3;rw[jf,jf];show Af (skK p) (skK q)=_
  unfold skK Af fZ;by_cases e:p.1=q.1
  ·rw[Zaf e,Zaf e,Cj h]
  ·rw[Zad e,Zad e]
 show(J3 (.str p.1::p.2.map PV.int) (.str q.1::q.2.map PV.int)).map (λr=>Res.ok (PV.bl r))=_
 rw[e];rfl
theorem U0{p q:Sk}(h:p.2.length=q.2.length){Q:PV->Prop}:Tv (Ln (skP p) (skP q)) Q=Q (.bl (fZ p q)):=by rw[Ry h,tv_some]
structure Rgt(w h:Int)(away keep:Nat)(S:List Sk)(ps:List (Int×Int)):Prop where
 st:∀ s∈S,∃ (row:Bool) (l lo hi:Int),s=skB row l lo hi/\0<=l/\(l<if row then h else w)/\0<=lo/\lo<=hi/\(hi<if row then w else h)
 pw:S.Pairwise λp q=>fZ p q=true
 len:ps.length=S.length
 few:S.length<=1000
 c1:Mth.iV w.toNat ((S.map toB).flatMap wR) &&& away=away
 c2:Mth.iV w.toNat ((S.map toB).flatMap wR) &&& keep=0
 ap:Yy w h away keep ps
theorem Rz{row:Bool}{l lo hi:Int}:skP (skB row l lo hi)=wQ (toB (skB row l lo hi)):=by rw[Rq];rfl
inductive RgI(w h:Int)(away keep:Nat)(S:List Sk)(ps:List (Int×Int))(_:Nat):Rho->Prop
 |mk (v6 v7:Option Sl):RgI w h away keep S ps _ [some (.sh (.tup [.int w,.int h])),some (.sh (.int away)),some (.sh (.int keep)),some (.sh (.tup [.lst (S.map skP),.lst (ps.map cellP)])),some (.sh (.lst (S.map skP))),some (.sh (.lst (ps.map cellP))),v6,v7,none]
theorem N6{w h:Int}(sz:Sz w h){away keep:Nat}{S:List Sk}{ps:List (Int×Int)}(G:Rgt w h away keep S ps) :
  iG [.tup [.int w,.int h],.int away,.int keep,.tup [.lst (S.map skP),.lst (ps.map cellP)]]=some (.ok (.bl true)):=by
 have w0:=sz.w0;have w1:=sz.w1;have h0:=sz.h0;have h1:=sz.h1;refine jF (x:=jV (startR [.tup [.int w,.int h],.int away,.int keep,.tup [.lst (S.map skP),.lst (ps.map cellP)]] 5)) (nC λQS hQ=>?_);unfold jV;rw[show startR [.tup [.int w,.int h],.int away,.int keep,.tup [.lst (S.map skP),.lst (ps.map cellP)]] 5=[some (.sh (.tup [.int w,.int h])),some (.sh (.int away)),some (.sh (.int keep)),some (.sh (.tup [.lst (S.map skP),.lst (ps.map cellP)])),none,none,none,none,none] from rfl];walk_at "rd"
 rw[Zad (by decide)]
 unfold ph;walk_at "rd"
 rw[Zad (by rw[List.length_map,List.length_map,G.len];exact λz=>z rfl)]
 unfold qz;walk_at "rd"
 refine dR (I:=RgI w h away keep S ps) (.mk none none) ?_ ?_
 ·rintro i x _ hx ⟨v6,v7⟩;refine p7 λQS2 hQ2=>?_;rw[List.getElem?_map] at hx;cases es:S[i]? with
  |none=>rw[es] at hx;cases hx
  |some s=>
   rw[es] at hx;cases hx;obtain⟨row,l,lo,hi,rfl,l0,l1,f0,ft,t1⟩:=G.st s (Zag es);unfold qu;walk_at "rd"
   rw[show skP (skB row l lo hi)=lK row l lo hi from rfl,UT l0 l1 f0 ft t1];walk_at "rd"
   exact hQ2 _ (.mk _ _)
 rintro _ ⟨v6,v7⟩;walk_at "rd"
 unfold qy;walk_at "rd"
 rw[List.length_map];have fw:=G.few;refine⟨by decide,by decide,by omega,by omega,?_⟩
 refine dR (I:=RgI w h away keep S ps) (.mk v6 v7) ?_ ?_
 ·rintro i x _ hx ⟨v6,v7⟩;refine p7 λQS2 hQ2=>?_;obtain⟨hi,rfl⟩:=xK hx;unfold qw;walk_at "rd"
  have i1:i<S.length:=by omega
  have i2:i+1<S.length:=by omega
  have e1:S[i]?=some S[i]:=List.getElem?_eq_getElem i1;have e2:S[i+1]?=some S[i+1]:=List.getElem?_eq_getElem i2;have l3:∀ s∈S,s.2.length=3:=λs hs=>by obtain⟨row,l,lo,hi,rfl,_⟩:=G.st s hs;rfl
  have lt:fZ S[i] S[i+1]=true:=Za1.mp G.pw i (i+1) i1 i2 (by omega)
  refine⟨skP S[i],?_,skP S[i+1],?_,?_⟩
  ·rw[show(1:Int)+(i:Int)-1=((i:Nat):Int) by omega]
   exact lN (by rw[List.getElem?_map,e1];rfl)
  ·rw[show(1:Int)+(i:Int)=((i+1:Nat):Int) by omega]
   exact lN (by rw[List.getElem?_map,e2];rfl)
  rw[U0 (by rw[l3 _ (List.getElem_mem i1),l3 _ (List.getElem_mem i2)]),lt]
  walk_at "rd"
  exact hQ2 _ (.mk _ _)
 rintro _ ⟨v6,v7⟩;unfold qx;walk_at "rd"
 have eS:S.map skP=(S.map toB).map wQ:=by
  rw[List.map_map];refine Za0 λs hs=>?_;obtain⟨row,l,lo,hi,rfl,_⟩:=G.st s hs;exact Rz
 have so:∀ b∈S.map toB,Yx w h b:=λb hb=>by
  obtain⟨s,hs,rfl⟩:=Zai.mp hb;obtain⟨row,l,lo,hi,rfl,l0,l1,f0,ft,t1⟩:=G.st s hs;rw[Rq];refine⟨f0,ft,?_,λc hc=>?_⟩
  ·show hi<=24
   cases row<;>simp at t1<;>omega
  ·obtain⟨k,hk,rfl⟩:=Zai.mp (show c∈dw row l lo hi from hc);have:=Zaz.mp hk;cases row
   ·exact⟨l0,by show l<w;simpa using l1,by show 0<=lo+(k:Int);omega,by show lo+(k:Int)<h;simp at t1;omega⟩
   ·exact⟨by show 0<=lo+(k:Int);omega,by show lo+(k:Int)<w;simp at t1;omega,l0,by show l<h;simpa using l1⟩
 rw[eS,UV sz so];walk_at "rd"
 rw[jy,jy,G.c1,G.c2,Zaf rfl,Zaf (by rfl),N5 sz G.ap (by rw[G.len];exact fw),tv_some]
 exact hQ _ rfl
theorem RC(s:Sk):(skP s).still=true:=by
 show((PV.str s.1::s.2.map PV.int).all λp=>pK 4 p)=true
 rw[List.all_cons,Zby];refine⟨rfl,ZaQ.mpr λx hx=>?_⟩;obtain⟨n,_,rfl⟩:=Zai.mp hx;rfl
theorem Ip{w h:Int}(sz:Sz w h){away keep:Nat}(dis:∀ c∈bx w h away,keep.testBit (Mth.pl w.toNat c)=false)(none_:away &&& keep=0) :
  ∃ (S:List Sk) (ps:List (Int×Int)),cH [.tup [.int w,.int h],.int away,.int keep]=some (.ok (.tup [.lst (S.map skP),.lst ((bx w h (Mth.iV w.toNat ps)).map cellP)]))/\Cov w h away keep (S.map toB)/\(∀ s∈S,∃ row,∃ x∈bx w h away,s=stS w h keep row x) /\
   (S.Pairwise λp q=>fZ p q=true)/\ps.length=S.length/\(∀ c∈ps,c∈bx w h away)/\ps.Pairwise λa b=>∀ row,stS w h keep row a≠stS w h keep row b:=by
 have hn:=sz.nat;have ln:(bx w h away).length<=576:=ZaE (Mth.j9 _ _ _) hn.2;have k1:=Es w h keep true (bx w h away);have k2:=Es w h keep false (bx w h away);have n1:(ksN w h away keep true).length<=576:=ZaE (Eo _) (by rw[List.length_map];exact ln)
 have n2:(ksN w h away keep false).length<=576:=ZaE (Eo _) (by rw[List.length_map];exact ln)
 have wl:∀ i g,g∈WN w h away keep i->g<(ksN w h away keep false).length:=λi g hg=>W8 hg;obtain⟨A,B,eM,P,Dd,cD,hd⟩:=Ux (G:=Gof k1 k2) (n:=(ksN w h away keep true).length) (N:=(ksN w h away keep false).length) (W:=WN w h away keep) (by omega) (by omega) wl
 obtain⟨B',R,cb,eS,hB,hw,hc⟩:=Q8 (G:=Gof k1 k2) (n:=(ksN w h away keep true).length) (N:=(ksN w h away keep false).length) (W:=WN w h away keep) (by omega) (by omega) wl P cD hd
 have wlc:∀ p∈cb,p.1<(ksN w h away keep false).length:=λp hp=>wl _ _ (hw.wish p hp);have lc:cb.length<=576:=ZaE (hw.zP wl) n2;have eX:=Ri sz away keep dis;rw[Yw k1 k2] at eX
 let ps:List (Int×Int):=A.map λp=>((eG (ksN w h away keep false) p.2).2.getD 0 0,(eG (ksN w h away keep true) p.1).2.getD 0 0)
 have hf:∀ p∈A,∃ x∈bx w h away,((eG (ksN w h away keep false) p.2).2.getD 0 0,(eG (ksN w h away keep true) p.1).2.getD 0 0)=x/\stS w h keep true x=eG (ksN w h away keep true) p.1/\stS w h keep false x=eG (ksN w h away keep false) p.2:=λp hp=>by
  obtain⟨x,hx,e1,e2⟩:=Rj (P.ok (vq P.ndA (show(p.1,p.2)∈A from hp))).1;exact⟨x,hx,by rw[show eG (ksN w h away keep false) p.2=stS w h keep false x from e2.symm,show eG (ksN w h away keep true) p.1=stS w h keep true x from e1.symm];rfl,e1,e2⟩
 have hpn:∀ c∈ps,c∈bx w h away:=λc hc=>by
  obtain⟨p,hp,rfl⟩:=Zai.mp hc;obtain⟨x,hx,e,_⟩:=hf p hp;rw[e];exact hx
 have hps:∀ c∈ps,Cell w h c.1 c.2:=λc hc=>(fV (hpn c hc)).1
 let S0:List Sk:=((List.range (ksN w h away keep true).length).filter λa=>!R.contains a).map (eG (ksN w h away keep true))++tu (cb.map λp=>eG (ksN w h away keep false) p.1)
 have pS:S0.Perm (Et w h away keep R cb):=Za8 _ (j6 _);have nS:S0.Nodup:=pS.nodup_iff.mpr (Xa hw.nd wlc);have mS:∀ s∈S0,s.2.length=3:=λs hs=>by obtain⟨row,x,_,rfl⟩:=Eu wlc (pS.mem_iff.mp hs);rfl
 refine⟨tu S0,ps,?_,?_,λs hs=>Eu wlc (pS.mem_iff.mp ((j6 S0).mem_iff.mp hs)),UW ⟨nS,mS⟩,?_,hpn,?_⟩;rotate_left
 ·have:=UJ dis wlc hc;have pm:=((j6 S0).trans pS).map toB;exact⟨λs hs=>this.on s (pm.mem_iff.mp hs),λc cl aw=>by obtain⟨s,hs,q⟩:=this.all c cl aw;exact⟨s,pm.mem_iff.mpr hs,q⟩⟩
 ·rw[((j6 S0).trans pS).length_eq,Mj rfl P hB hw,List.length_map]
 ·have nd:A.Pairwise λp q=>p.1≠q.1:=ZaY.mp P.ndA;rw[ZaY];refine nd.imp_of_mem λ{p q} hp hq ne row e=>?_;obtain⟨x,_,ex,x1,x2⟩:=hf p hp;obtain⟨y,_,ey,y1,y2⟩:=hf q hq;rw[ex,ey] at e;cases row with
  |true=>rw[x1,y1] at e;exact ne (k1.inj _ _ e)
  |false=>
   rw[x2,y2] at e;have e:=k2.inj _ _ e;have l1:=(P.iff _ _).mp (vq P.ndA (show(p.1,p.2)∈A from hp));have l2:=(P.iff _ _).mp (vq P.ndA (show(q.1,q.2)∈A from hq));rw[e,l2] at l1;exact ne (Zac l1).symm
 refine Us (x:=gb (startR [.tup [.int w,.int h],.int away,.int keep] 6)) ?_;unfold gb;rw[show startR [.tup [.int w,.int h],.int away,.int keep] 6=[some (.sh (.tup [.int w,.int h])),some (.sh (.int away)),some (.sh (.int keep)),none,none,none,none,none,none] from rfl];walk_at "rd"
 have eN:bx w h 0=[]:=by
  unfold bx Mth.pick;rw[List.filter_eq_nil_iff.mpr λi _=>by simp]
  rfl
 rw[jy,none_,qC sz 0,show Mth.pick w.toNat (w.toNat*h.toNat) (λi=>(0:Nat).testBit i)=[] from eN];walk_at "rd"
 rw[Zad (by simp)]
 unfold kY;walk_at "rd"
 rw[eX];walk_at "rd"
 rw[eM];walk_at "rd"
 rw[eS];walk_at "rd"
 rw[show wiP (Gof k1 k2) (ksN w h away keep true).length (WN w h away keep)=.dt ((List.range (ksN w h away keep true).length).map λ(i:Nat)=>((Gof k1 k2).aK i,PV.lst ((Gof k1 k2).GL (WN w h away keep i)))) from rfl,zQ,Ej];have big:∀ {k:Nat},k<=9000->k<=sizeLine:=λh=>ZaO (vy (by omega))
 refine⟨rfl,by unfold Gs.AL;rw[List.length_map,List.length_range];exact big (by omega),?_⟩
 rw[show(Gof k1 k2).AL (List.range (ksN w h away keep true).length)=(List.range (ksN w h away keep true).length).map (Gof k1 k2).av from rfl,lz (Gof k1 k2).av (λa=>!R.contains a) (Gof k1 k2).av (List.range (ksN w h away keep true).length) λa _=>⟨_,rfl,mj ?t1,λ_=>rfl⟩,tv_some]
 case t1=>
  walk_at "rd"
  refine⟨_,Xc,?_⟩;have:eG (ksN w h away keep true) a∈tu (R.map (Gof k1 k2).aS)↔a∈R:=by
   rw[(j6 _).mem_iff];constructor
   ·intro hm;obtain⟨b,hb,e⟩:=Zai.mp hm;rw[<-k1.inj b a e];exact hb
   ·exact λhm=>Zai.mpr ⟨a,hm,rfl⟩
  show(!decide (eG (ksN w h away keep true) a∈tu (R.map (Gof k1 k2).aS)))=_
  by_cases hm:a∈R
  ·rw[Zax (this.mpr hm),List.contains_iff_mem.mpr hm]
  ·rw[Zaw (λz=>hm (this.mp z))];have:R.contains a=false:=by simpa using hm
   rw[this]
 have ls:(tu (cb.map λp=>(Gof k1 k2).gS p.1)).length=cb.length:=by rw[(j6 _).length_eq,List.length_map]
 have lf:((List.range (ksN w h away keep true).length).filter λa=>!R.contains a).length<=576:=ZaE (Za7 _ _) (by rw[List.length_range];exact n1)
 refine⟨by rw[List.length_map,List.length_map,ls];exact big (by omega),rfl,?_⟩
 rw[show(Gof k1 k2).GA A=.dt (kvQ (Gof k1 k2).aK (Gof k1 k2).gv A) from rfl,BX,HS];have lA:A.length<=576:=ZaE (qD P.ndA λx hx=>by
  obtain⟨p,hp,rfl⟩:=Zai.mp hx;exact(P.ok (vq P.ndA (show(p.1,p.2)∈A from hp))).2) n1
 refine⟨by rw[List.length_map];exact big (by omega),?_⟩
 rw[lz (λp:Nat×Nat=>PV.tup [(Gof k1 k2).av p.1,(Gof k1 k2).gv p.2]) (λ_=>true) (λp=>cellP ((eG (ksN w h away keep false) p.2).2.getD 0 0,(eG (ksN w h away keep true) p.1).2.getD 0 0)) A λp _=>⟨_,rfl,rfl,λ_=>mj ?t2⟩,tv_some]
 case t2=>
  walk_at "rd"
  rw[show(Gof k1 k2).gv p.2=skP (eG (ksN w h away keep false) p.2) from rfl,Ro (k2.l3 _),tv_some,show(Gof k1 k2).av p.1=skP (eG (ksN w h away keep true) p.1) from rfl,Ro (k1.l3 _),tv_some];exact⟨by decide,rfl⟩
 rw[ZbR.mpr λ_ _=>rfl,show(A.map λp=>cellP ((eG (ksN w h away keep false) p.2).2.getD 0 0,(eG (ksN w h away keep true) p.1).2.getD 0 0))=ps.map cellP by simp only[ps,List.map_map];rfl,NB sz ps hps]
 walk_at "rd"
 rw[show List.map (Gof k1 k2).av (List.filter (λa=>!R.contains a) (List.range (ksN w h away keep true).length))++List.map skP (tu (List.map (λp=>(Gof k1 k2).gS p.fst) cb))=S0.map skP by simp only[S0,Zbi,List.map_map];rfl,Mf nS mS (vy (by rw[pS.length_eq,Mj rfl P hB hw];omega)),tv_some,qC sz]
 walk_at "rd"
 refine⟨ZaQ.mpr λx hx=>?_,ZaQ.mpr λx hx=>?_,by decide⟩
 ·obtain⟨s,_,rfl⟩:=Zai.mp hx;exact RC s
 ·obtain⟨c,_,rfl⟩:=Zai.mp hx;rfl
theorem vZ{w h:Int}{n:Nat}:(bx w h n).Pairwise λa b=>Mth.pl w.toNat a<Mth.pl w.toNat b:=by
 unfold bx Mth.pick;rw[ZaY];refine List.Pairwise.imp ?_ (List.Pairwise.filter _ (List.pairwise_lt_range (n:=w.toNat*h.toNat)));intro a b h;rw[Mth.jX,Mth.jX];exact h
theorem N7{w h:Int}{n:Nat}{c:Int×Int}(cl:Cell w h c.1 c.2)(b:n.testBit (Mth.pl w.toNat c)=true):c∈bx w h n:=by
 unfold bx Mth.pick;exact Zai.mpr ⟨Mth.pl w.toNat c,ZaB.mpr ⟨Zaz.mpr (Mth.Vd cl.inR),b⟩,Mth.qL cl.inR⟩
theorem gW{w h:Int}{ps:List (Int×Int)}(hp:∀ c∈ps,Cell w h c.1 c.2){c:Int×Int}:c∈bx w h (Mth.iV w.toNat ps)↔c∈ps:=by
 constructor
 ·intro hc;obtain⟨cl,b⟩:=fV hc;rw[Mth.CQ,ZaK] at b;obtain⟨d,hd,e⟩:=b;rw[<-Xd (hp d hd) cl e];exact hd
 ·intro hc;exact N7 (hp c hc) (by rw[Mth.CQ,ZaK];exact⟨c,hc,rfl⟩)
theorem Xg{w h:Int}(sz:Sz w h){away keep:Nat}(al:away<2^(w.toNat*h.toNat))(dis:∀ c∈bx w h away,keep.testBit (Mth.pl w.toNat c)=false){S:List Sk}{ps:List (Int×Int)}
  (cv:Cov w h away keep (S.map toB))(sm:∀ s∈S,∃ row,∃ x∈bx w h away,s=stS w h keep row x)(pw:S.Pairwise λp q=>fZ p q=true)(ln:ps.length=S.length)(hpn:∀ c∈ps,c∈bx w h away)(ap:ps.Pairwise λa b=>∀ row,stS w h keep row a≠stS w h keep row b) :
  Rgt w h away keep S (bx w h (Mth.iV w.toNat ps)):=by
 have hp:∀ c∈ps,Cell w h c.1 c.2:=λc hc=>(fV (hpn c hc)).1;have ndp:ps.Nodup:=ap.imp λh e=>h true (by rw[e])
 have ndc:(bx w h (Mth.iV w.toNat ps)).Nodup:=vZ.imp λh e=>by rw[e] at h;omega
 have l1:(bx w h (Mth.iV w.toNat ps)).length=ps.length:=Nat.le_antisymm (len_sub ndc λc hc=>(gW hp).mp hc) (len_sub ndp λc hc=>(gW hp).mpr hc);have l2:ps.length<=576:=ZaE (len_sub ndp hpn) (ZaE (Mth.j9 _ _ _) sz.nat.2);have inS:∀ i,(Mth.iV w.toNat ((S.map toB).flatMap wR)).testBit i=true↔∃ s∈S.map toB,∃ y,s.2.2.1<=y/\y<=s.2.2.2/\Mth.pl w.toNat (cW s.1 s.2.1 y)=i:=λi=>by
  rw[Mth.CQ,ZaK];constructor
  ·rintro⟨c,hc,e⟩;obtain⟨s,hs,hc⟩:=List.mem_flatMap.mp hc;obtain⟨k,hk,rfl⟩:=Zai.mp (show c∈dw s.1 s.2.1 s.2.2.1 s.2.2.2 from hc);have:=Zaz.mp hk;exact⟨s,hs,_,by omega,by omega,e⟩
  ·rintro⟨s,hs,y,y1,y2,e⟩;refine⟨cW s.1 s.2.1 y,List.mem_flatMap.mpr ⟨s,hs,Zai.mpr ⟨(y-s.2.2.1).toNat,Zaz.mpr (by omega),?_⟩⟩,e⟩
   rw[show s.2.2.1+((y-s.2.2.1).toNat:Int)=y by omega]
 refine⟨λs hs=>?_,pw,by rw[l1,ln],by omega,?_,?_,⟨λc hc=>hp c ((gW hp).mp hc),λc hc=>(fV (hpn c ((gW hp).mp hc))).2,λc hc=>dis c (hpn c ((gW hp).mp hc)),λi j a b hij ea eb=>?_,λi j a b hij ea eb=>?_⟩⟩
 ·obtain⟨row,x,hx,rfl⟩:=sm s hs;have cl:=(fV hx).1;have no:=dis x hx;have r:=(xN (row:=row) cl no).run.1;have b1:=r.b1;refine⟨row,lnOf row x,(runC w h keep row x).1,(runC w h keep row x).2,rfl,ln0 cl row,?_,r.a0,r.ab,?_⟩
  ·cases row
   ·exact cl.c1
   ·exact cl.r1
  ·have hl:((gn w h row:Nat):Int)=if row then w else h:=by have:=sz.w0;have:=sz.h0;unfold gn;cases row<;>simp<;>omega
   rw[<-hl];exact b1
 ·refine Nat.eq_of_testBit_eq λi=>?_;rw[ZbM];cases e:away.testBit i with
  |false=>rw[Bool.and_false]
  |true=>
   rw[Bool.and_true];have hi:i<w.toNat*h.toNat:=Classical.byContradiction λz=>by
    rw[Nat.testBit_lt_two_pow (Zav al (Nat.pow_le_pow_right (by decide) (by omega)))] at e;cases e
   have cl:Cell w h (Mth.cellOf w.toNat i).1 (Mth.cellOf w.toNat i).2:=Cell.of (Mth.vJ hi);obtain⟨s,hs,q1,q2,q3⟩:=cv.all _ cl (by rw[Mth.jX];exact e)
   exact(inS i).mpr ⟨s,hs,_,q2,q3,by rw[<-q1,Vx,Mth.jX]⟩
 ·refine Nat.eq_of_testBit_eq λi=>?_;rw[ZbM,Nat.zero_testBit];cases e:(Mth.iV w.toNat ((S.map toB).flatMap wR)).testBit i with
  |false=>rfl
  |true=>
   obtain⟨s,hs,y,y1,y2,rfl⟩:=(inS i).mp e;rw[(cv.on s hs y y1 y2).2];rfl
 ·have:=Za1.mp (vZ (w:=w) (h:=h) (n:=Mth.iV w.toNat ps)) i j (Zab.mp ea).1 (Zab.mp eb).1 hij;rw[(Zab.mp ea).2,(Zab.mp eb).2] at this;exact this
 ·have hne:a≠b:=λe=>by
   have:=Za1.mp (vZ (w:=w) (h:=h) (n:=Mth.iV w.toNat ps)) i j (Zab.mp ea).1 (Zab.mp eb).1 hij;rw[(Zab.mp ea).2,(Zab.mp eb).2,e] at this;omega
  have ha:=(gW hp).mp (Zag ea);have hb:=(gW hp).mp (Zag eb);obtain⟨m,em⟩:=Zbl ha;obtain⟨n,en⟩:=Zbl hb;have hm:=Zab.mp em;have hn:=Zab.mp en;have pg:=Za1.mp ap;rcases Nat.lt_trichotomy m n with g|g|g
  ·have:=pg m n hm.1 hn.1 g;rw[hm.2,hn.2] at this;exact this
  ·subst g;rw[em] at en;exact absurd (Zac en) hne
  ·have:=pg n m hn.1 hm.1 g;rw[hm.2,hn.2] at this;exact λrow e=>this row e.symm
theorem RG{w h:Int}(sz:Sz w h){away keep:Nat}(al:away<2^(w.toNat*h.toNat))(no:away &&& keep=0):mL [.tup [.int w,.int h],.int away,.int keep]=some (.ok (.bl true)):=by
 have dis:∀ c∈bx w h away,keep.testBit (Mth.pl w.toNat c)=false:=λc hc=>by
  have:=Zbg (λn:Nat=>n.testBit (Mth.pl w.toNat c)) no;simp only[ZbM,(fV hc).2,Nat.zero_testBit,Bool.true_and] at this;exact this
 obtain⟨S,ps,e,cv,sm,pw,ln,hpn,ap⟩:=Ip sz dis no;have rr:=Xg sz al dis cv sm pw ln hpn ap;have rg:=N6 sz rr;have f1:=rr.few;have f2:=rr.len;refine jF (x:=mK (startR [.tup [.int w,.int h],.int away,.int keep] 1)) (nC λQS hQ=>?_);unfold mK;rw[show startR [.tup [.int w,.int h],.int away,.int keep] 1=[some (.sh (.tup [.int w,.int h])),some (.sh (.int away)),some (.sh (.int keep)),none] from rfl];walk_at "rd"
 rw[e];walk_at "rd"
 rw[rg];walk_at "rd"
 unfold rO;walk_at "rd"
 refine HD (i:=3) (f:=mC (.int 0)) (g:=mC .non) (ρ:=[some (.sh (.tup [.int w,.int h])),some (.sh (.int away)),some (.sh (.int keep)),some (.dp (.tup [.lst (S.map skP),.lst ((bx w h (Mth.iV w.toNat ps)).map cellP)]))]) (l:=[.lst (S.map skP),.lst ((bx w h (Mth.iV w.toNat ps)).map cellP)]) (n:=0) (j:=0) (row:=S.map skP) (q:=.non) (by rfl) (by rfl) (by rfl) (by rfl) (by rfl) (by rfl) (by rfl) (vy (by rw[List.length_map];omega)) (by rfl) ?_
 refine HD (i:=3) (f:=mC (.int 1)) (g:=mC .non) (ρ:=[some (.sh (.tup [.int w,.int h])),some (.sh (.int away)),some (.sh (.int keep)),some (.dp (.tup [.lst (S.map skP++[.non]),.lst ((bx w h (Mth.iV w.toNat ps)).map cellP)]))]) (l:=[.lst (S.map skP++[.non]),.lst ((bx w h (Mth.iV w.toNat ps)).map cellP)]) (n:=1) (j:=1) (row:=(bx w h (Mth.iV w.toNat ps)).map cellP) (q:=.non) (by rfl) (by rfl) (by rfl) (by rfl) (by rfl) (by rfl) (by rfl) (vy (by rw[List.length_map];omega)) (by rfl) ?_
 refine⟨_,rfl,_,rfl,_,rfl,_,rfl,_,rfl,_,rfl,?_⟩;rw[e,tv_some,rg,tv_some];exact hQ _ rfl
inductive LwI(ns:List Int)(w h m:Int)(_:Nat):Rho->Prop
 |mk (v3 v4 v5:Option Sl):LwI ns w h m _ [some (.sh (.lst (ns.map .int))),some (.sh (.tup [.int w,.int h])),some (.sh (.int m)),v3,v4,v5]
theorem law_main(ns:List Int)(hn:ns.length<=63):BP [.lst (ns.map .int)]=some (.ok (.bl true)):=by
 obtain⟨c1,e1⟩:=Cd ns 1 (by decide)
 obtain⟨w,h,e2,sz⟩:=J8 c1;refine jF (x:=Lz (startR [.lst (ns.map .int)] 5)) (nC λQS hQ=>?_);unfold Lz;rw[show startR [.lst (ns.map .int)] 5=[some (.sh (.lst (ns.map .int))),none,none,none,none,none] from rfl];walk_at "rd"
 rw[show eE [.lst (ns.map .int),.int 1]=some (.ok (.int c1)) from e1];walk_at "rd"
 rw[e2];walk_at "rd"
 have hm:=sz.mul;have w1:=sz.w1;have h1:=sz.h1;have w0:=sz.w0;have h0:=sz.h0;have ez:cH [.tup [.int w,.int h],.int 0,.int 0]=some (.ok (.tup [.lst [],.lst []])):=by
  have eN:bx w h 0=[]:=by
   unfold bx Mth.pick;rw[List.filter_eq_nil_iff.mpr λi _=>by simp]
   rfl
  obtain⟨S,ps,e,_,_,_,ln,hpn,_⟩:=Ip (away:=0) (keep:=0) sz (λc hc=>by rw[eN] at hc;cases hc) rfl
  rw[eN] at hpn;have:ps=[]:=List.eq_nil_iff_forall_not_mem.mpr λc hc=>by cases hpn c hc
  subst this;have:S=[]:=List.eq_nil_of_length_eq_zero ln.symm;subst this;rw[show Mth.iV w.toNat []=0 from rfl,eN] at e;exact e
 have rest:∀ m:Int,0<=m->m<=4->To (Eg [some (.sh (.lst (ns.map .int))),some (.sh (.tup [.int w,.int h])),some (.sh (.int m)),none,none,none]) QS:=λm m0 m4=>by
  unfold Eg;walk_at "rd"
  refine⟨by lia,by lia,?_⟩
  refine dR (I:=LwI ns w h m) (.mk none none none) ?_ ?_
  case refine_2=>
   rintro _ ⟨v3,v4,v5⟩;walk_at "rd"
   unfold Ly;walk_at "rd"
   rw[ez];walk_at "rd"
   exact⟨by decide,true,rfl,hQ _ rfl⟩
  clear hQ
  rintro i x _ hx ⟨v3,v4,v5⟩;refine p7 λQS hQ=>?_;obtain⟨hi,rfl⟩:=xK hx;obtain⟨x1,f1⟩:=Cd ns (2+i) (by lia)
  obtain⟨away,keep,f4,al,kl,no⟩:=Ik sz x1 i (by lia)
  rw[Int.zero_add];unfold Lx;walk_at "rd"
  rw[show eE [.lst (ns.map .int),.int (2+(i:Int))]=some (.ok (.int x1)) by rw[<-f1];congr 3]
  walk_at "rd"
  rw[f4];walk_at "rd"
  refine⟨[some (.sh (.lst (ns.map .int))),some (.sh (.tup [.int w,.int h])),some (.sh (.int m)),some (.sh (.int (i:Int))),some (.sh (.int away)),some (.sh (.int keep))],rfl,?_⟩;walk_at "rd"
  rw[RG sz al no];walk_at "rd"
  exact hQ _ (.mk _ _ _)
 refine⟨.inl ⟨by lia,by lia⟩,?_⟩
 refine rR (λ_=>?_) (λ_=>rest 4 (by decide) (by decide))
 unfold Lw;walk_at "rd"
 exact rest 1 (by decide) (by decide)
def top(i:Nat):Stmt:=PySem.Challenge.pw_lostblock_k28_whole_fewest_strokes.main.body.getD i (.Pass ⟨0,0,0,0⟩)
def eD(P:Params)(x:Str)(t:Tok)(v:Value):DictEntry:={ hash:=PyData.keyHash P x,key:=.str x t,val:=v }
def fO(n:Str)(i:Nat)(pm:Value)(c:Nat):Obj:={ cls:=.type "function",data:=.func (fnOf n n (bG (top i)) (bC (top i)) (aM (top i)) .none .none .none pm none (.ref c) .none) }
def cO(n:Str)(t1 t2 t3:Tok)(l k:Int)(a:Nat)(m:Int)(b:Nat)(u v:Value)(c:Nat)(z:Int)(t4:Tok):Obj:={ cls:=.type "code",data:=.fields #[.str n t1,.str n t2,.str "/claim/cut.py" t3,.int l 0,.int k 0,.int 0 0,.int 0 0,.int 3 0,.ref a,.bool true,.int m 0,.ref b,.none,u,v,.ref c,.int z 0,.int l 0,.str "/claim/cut.py" t4] }
def KK:Params->Frag:=λP=>(nat_lit 3,{ cls:=.type "dict",data:=.dict #[eD P "__name__" 165 (.str "law_lostblock_k28_whole_fewest_strokes" 387),eD P "__doc__" 166 .none,eD P "__package__" 167 .none,eD P "__loader__" 168 (.builtin "__main__.__loader__#opaque"),eD P "__spec__" 169 .none,eD P "__annotations__" 170 (.ref 6),eD P "__builtins__" 171 (.ref 4),eD P "__file__" 173 (.str "/claim/cut.py" 172),eD P "__cached__" 174 .none,eD P "BlockError" 206 (.ref 24),eD P "Kept" 233 (.ref 44),eD P "place_of" 243 (.ref 53),eD P "has_cell" 252 (.ref 60),eD P "all_cells" 258 (.ref 65),eD P "set_of" 268 (.ref 72),eD P "cells_of" 274 (.ref 77),eD P "walked" 290 (.ref 84),eD P "pair_anew" 303 (.ref 91),eD P "most_pairs" 314 (.ref 98),eD P "short_of_givers" 320 (.ref 103),eD P "ROW" 324 (.str "row" 323),eD P "COLUMN" 326 (.str "column" 325),eD P "lines_of" 334 (.ref 110),eD P "length_of" 342 (.ref 117),eD P "stroke_cells" 348 (.ref 122),eD P "longest_strokes" 354 (.ref 127),eD P "longest_by_cell" 367 (.ref 134),eD P "crossings" 380 (.ref 141),eD P "fewest_strokes" 386 (.ref 146),eD P "_law_cell" 397 (.ref 153),eD P "_law_mixed" 406 (.ref 160),eD P "_law_size" 414 (.ref 167),eD P "_law_set" 427 (.ref 174),eD P "_law_carving" 439 (.ref 181),eD P "_law_cells" 445 (.ref 186),eD P "_law_is_stroke" 456 (.ref 193),eD P "_law_run" 469 (.ref 200),eD P "_law_cut" 481 (.ref 207),eD P "_law_is_apart" 498 (.ref 214),eD P "_law_right" 513 (.ref 221),eD P "_law_good" 523 (.ref 228),eD P "law" 535 (.ref 235)] 42 })::(nat_lit 52,cO "place_of" 236 237 238 10 2 47 181 48 (.ref 49) (.ref 50) 51 241 242)::(nat_lit 53,fO "place_of" 4 (.str "lostblock.boards" 234) 52)::(nat_lit 59,cO "has_cell" 244 245 246 12 3 54 181 55 (.ref 56) (.ref 57) 58 250 251)::(nat_lit 60,fO "has_cell" 5 (.str "lostblock.boards" 234) 59)::(nat_lit 64,cO "all_cells" 253 254 255 14 1 61 181 62 .none .none 63 256 257)::(nat_lit 65,fO "all_cells" 6 (.str "lostblock.boards" 234) 64)::(nat_lit 71,cO "set_of" 259 260 261 16 2 66 181 67 (.ref 68) (.ref 69) 70 266 267)::(nat_lit 72,fO "set_of" 7 (.str "lostblock.boards" 234) 71)::(nat_lit 76,cO "cells_of" 269 270 271 21 2 73 181 74 .none .none 75 272 273)::(nat_lit 77,fO "cells_of" 8 (.str "lostblock.boards" 234) 76)::(nat_lit 83,cO "walked" 277 278 279 24 3 78 181 79 (.ref 80) (.ref 81) 82 288 289)::(nat_lit 84,fO "walked" 10 (.str "lostblock.matching" 275) 83)::(nat_lit 90,cO "pair_anew" 291 292 293 39 4 85 181 86 (.ref 87) (.ref 88) 89 301 302)::(nat_lit 91,fO "pair_anew" 11 (.str "lostblock.matching" 275) 90)::(nat_lit 97,cO "most_pairs" 304 305 306 47 1 92 181 93 (.ref 94) (.ref 95) 96 312 313)::(nat_lit 98,fO "most_pairs" 12 (.str "lostblock.matching" 275) 97)::(nat_lit 102,cO "short_of_givers" 315 316 317 54 2 99 181 100 .none .none 101 318 319)::(nat_lit 103,fO "short_of_givers" 13 (.str "lostblock.matching" 275) 102)::(nat_lit 109,cO "lines_of" 327 328 329 61 2 104 181 105 (.ref 106) (.ref 107) 108 332 333)::(nat_lit 110,fO "lines_of" 17 (.str "lostblock.strokes" 321) 109)::(nat_lit 116,cO "length_of" 335 336 337 63 2 111 181 112 (.ref 113) (.ref 114) 115 340 341)::(nat_lit 117,fO "length_of" 18 (.str "lostblock.strokes" 321) 116)::(nat_lit 121,cO "stroke_cells" 343 344 345 65 1 118 181 119 .none .none 120 346 347)::(nat_lit 122,fO "stroke_cells" 19 (.str "lostblock.strokes" 321) 121)::(nat_lit 126,cO "longest_strokes" 349 350 351 69 4 123 181 124 .none .none 125 352 353)::(nat_lit 127,fO "longest_strokes" 20 (.str "lostblock.strokes" 321) 126)::(nat_lit 133,cO "longest_by_cell" 355 356 357 74 3 128 181 129 (.ref 130) (.ref 131) 132 365 366)::(nat_lit 134,fO "longest_by_cell" 21 (.str "lostblock.strokes" 321) 133)::(nat_lit 140,cO "crossings" 368 369 370 81 3 135 181 136 (.ref 137) (.ref 138) 139 378 379)::(nat_lit 141,fO "crossings" 22 (.str "lostblock.strokes" 321) 140)::(nat_lit 145,cO "fewest_strokes" 381 382 383 88 3 142 181 143 .none .none 144 384 385)::(nat_lit 146,fO "fewest_strokes" 23 (.str "lostblock.strokes" 321) 145)::(nat_lit 152,cO "_law_cell" 389 390 391 99 2 147 181 148 (.ref 149) (.ref 150) 151 395 396)::(nat_lit 153,fO "_law_cell" 25 (.str "law_lostblock_k28_whole_fewest_strokes" 387) 152)::(nat_lit 159,cO "_law_mixed" 398 399 400 106 2 154 181 155 (.ref 156) (.ref 157) 158 404 405)::(nat_lit 160,fO "_law_mixed" 26 (.str "law_lostblock_k28_whole_fewest_strokes" 387) 159)::(nat_lit 166,cO "_law_size" 407 408 409 112 1 161 181 162 (.ref 163) (.ref 164) 165 412 413)::(nat_lit 167,fO "_law_size" 27 (.str "law_lostblock_k28_whole_fewest_strokes" 387) 166)::(nat_lit 173,cO "_law_set" 415 416 417 117 3 168 181 169 (.ref 170) (.ref 171) 172 425 426)::(nat_lit 174,fO "_law_set" 28 (.str "law_lostblock_k28_whole_fewest_strokes" 387) 173)::(nat_lit 180,cO "_law_carving" 428 429 430 129 3 175 181 176 (.ref 177) (.ref 178) 179 437 438)::(nat_lit 181,fO "_law_carving" 29 (.str "law_lostblock_k28_whole_fewest_strokes" 387) 180)::(nat_lit 185,cO "_law_cells" 440 441 442 138 1 182 181 183 .none .none 184 443 444)::(nat_lit 186,fO "_law_cells" 30 (.str "law_lostblock_k28_whole_fewest_strokes" 387) 185)::(nat_lit 192,cO "_law_is_stroke" 446 447 448 143 2 187 181 188 (.ref 189) (.ref 190) 191 454 455)::(nat_lit 193,fO "_law_is_stroke" 31 (.str "law_lostblock_k28_whole_fewest_strokes" 387) 192)::(nat_lit 199,cO "_law_run" 457 458 459 152 5 194 181 195 (.ref 196) (.ref 197) 198 467 468)::(nat_lit 200,fO "_law_run" 32 (.str "law_lostblock_k28_whole_fewest_strokes" 387) 199)::(nat_lit 206,cO "_law_cut" 470 471 472 168 2 201 181 202 (.ref 203) (.ref 204) 205 479 480)::(nat_lit 207,fO "_law_cut" 33 (.str "law_lostblock_k28_whole_fewest_strokes" 387) 206)::(nat_lit 213,cO "_law_is_apart" 482 483 484 174 4 208 181 209 (.ref 210) (.ref 211) 212 496 497)::(nat_lit 214,fO "_law_is_apart" 34 (.str "law_lostblock_k28_whole_fewest_strokes" 387) 213)::(nat_lit 220,cO "_law_right" 499 500 501 192 4 215 181 216 (.ref 217) (.ref 218) 219 511 512)::(nat_lit 221,fO "_law_right" 35 (.str "law_lostblock_k28_whole_fewest_strokes" 387) 220)::(nat_lit 227,cO "_law_good" 514 515 516 206 3 222 181 223 (.ref 224) (.ref 225) 226 521 522)::(nat_lit 228,fO "_law_good" 36 (.str "law_lostblock_k28_whole_fewest_strokes" 387) 227)::(nat_lit 234,cO "law" 524 525 526 213 1 229 181 230 (.ref 231) (.ref 232) 233 533 534)::(nat_lit 235,fO "law" 37 (.str "law_lostblock_k28_whole_fewest_strokes" 387) 234)::[]
structure Txt(mg:Str->Option Value):Prop where
 tt:True
 Xj:mg "bool"=none
 Xk:mg "dict"=none
 Ja:mg "enumerate"=none
 RM:mg "int"=none
 eQ:mg "isinstance"=none
 qG:mg "len"=none
 Ke:mg "list"=none
 jW:mg "range"=none
 zX:mg "sorted"=none
 Fe:mg "tuple"=none
 Yz:mg "zip"=none
 RN:∃ t,mg "COLUMN"=some (.str "column" t)
 Mm:∃ t,mg "ROW"=some (.str "row" t)
section
seal PE PA PS PSs PG PGs PI PPs MJ MT MA MAL MO MS MG MGs MI
variable{P:Program}{w:World}{K:Frag}{mg:Str->Option Value}{base:Heap}
theorem Ir:bJ ["size","cell"] ["size","cell"] (aM (top 4)):=⟨rfl,rfl,rfl,by decide +kernel,rfl,by decide +kernel,by decide +kernel⟩
theorem Iu(T:Txt mg)(D:bH K mg "place_of" (top 4) ["size","cell"]):FnAt P w K mg base "place_of" 1 ["size","cell"] (spM K XR0 jb):=by
 refine D.ok Ir (λvs H Q E h=>dO h λps r e=>match ps,e with|[_,_],_=>rfl) (λf cdv A outer s H vs Q E hr h=>?_)
 refine⟨_,(aP (bw (aO bu (aO bQ (bA aY (pv 1) au (λ_ _=>rfl)) (bA aY (pv 0) au (λ_ _=>rfl))) (bA aY (pv 1) au (λ_ _=>rfl))))),dN (b:=sU) (k:=2) (n:=0) rfl (λps r e=>match ps,e with|[_,_],e=>⟨rfl,e⟩) h λio H0 F0 hio=>?_⟩
 exact(bU (aq aF.up cG (aq aF.up dX (aq aF.up cI (aj 1) aA) (aq aF.up cI (aj 0) aA)) (aq aF.up cI (aj 1) aA)))
theorem Iv:bJ ["size","some","cell"] ["size","some","cell"] (aM (top 5)):=⟨rfl,rfl,rfl,by decide +kernel,rfl,by decide +kernel,by decide +kernel⟩
theorem Iw(T:Txt mg)(D:bH K mg "has_cell" (top 5) ["size","some","cell"])(tM:FnAt P w K mg base "place_of" 1 ["size","cell"] (spM K XR0 jb)):FnAt P w K mg base "has_cell" 2 ["size","some","cell"] (spM K XR0 jc):=by
 refine D.ok Iv (λvs H Q E h=>dO h λps r e=>match ps,e with|[_,_,_],_=>rfl) (λf cdv A outer s H vs Q E hr h=>?_)
 refine⟨_,(aP (bw (jN (dU hr) (aO jB (aO rQ (pv 1) (aW tM (hr.mono (by decide)) rfl (ak (pv 0) (ak (pv 2) aL)))) au) au (bI _)))),dN (b:=sV) (k:=3) (n:=0) rfl (λps r e=>match ps,e with|[_,_,_],e=>⟨rfl,e⟩) h λio H0 F0 hio=>?_⟩
 exact(bU (aq aH.up mW (bB (aq aF.up o9 (aq aF.up yp (aj 1) (cj (ao (aj 0) (ao (aj 2) aR)))) aA)) (bB aA)))
theorem Ew:bJ ["size"] ["size"] (aM (top 6)):=⟨rfl,rfl,rfl,by decide +kernel,rfl,by decide +kernel,by decide +kernel⟩
theorem Ex(T:Txt mg)(D:bH K mg "all_cells" (top 6) ["size"]):FnAt P w K mg base "all_cells" 1 ["size"] (spO K XR0 mq):=by
 refine D.ok Ew (λvs H Q E h=>lW h λps r e=>match ps,e with|[_],_=>rfl) (λf cdv A outer s H vs Q E hr h=>?_)
 refine⟨_,(aP (bw (gC ["place","size"] [none,some 0] rfl (qJ rfl T.jW (ak (aO bQ (bA aY (pv 0) au (λ_ _=>rfl)) (bA aY (pv 0) au (λ_ _=>rfl))) aL)) (λ_ _ _ _ _=>(di (i:=0) (by decide +kernel) rfl rfl)) (λ_ _ _ _ _=>rW) (λ_ _ _ _ _=>(d7 (ak (aO fG (pvl 0) (bA nY (pvf 1) au (λ_ _=>rfl))) (ak (aO tV (pvl 0) (bA nY (pvf 1) au (λ_ _=>rfl))) aL))))))),lV (b:=qd) (k:=1) (n:=0) rfl (λps r e=>match ps,e with|[_],e=>⟨rfl,e⟩) h λio H0 F0 hio=>?_⟩
 exact(jQ (lU (w5 (ao (aq aF.up dX (aq aF.up cI (aj 0) aA) (aq aF.up cI (aj 0) aA)) aR)) (aJ 0) (dY 0) sE (fJ (ao (aq aF.up jm (aj 0) (aq aF.up cI (aj 1) aA)) (ao (aq aF.up Gq (aj 0) (aq aF.up cI (aj 1) aA)) aR)))))
theorem qR:bJ ["size","cells","some","cell"] ["size","cells"] (aM (top 7)):=⟨rfl,rfl,rfl,by decide +kernel,rfl,by decide +kernel,by decide +kernel⟩
theorem N8(T:Txt mg)(D:bH K mg "set_of" (top 7) ["size","cells"])(tM:FnAt P w K mg base "place_of" 1 ["size","cell"] (spM K XR0 jb)):FnAt P w K mg base "set_of" 2 ["size","cells"] (spM K XR0 uL):=by
 refine D.ok qR (λvs H Q E h=>dO h λps r e=>match ps,e with|[_,_],_=>rfl) (λf cdv A outer s H vs Q E hr h=>?_)
 refine⟨_,(aB (aX (i:=2) qR.nd rfl (Or.inl rfl) au)
   (aB (gr ZaI rfl (gF (pv 1)) (bN (i:=3) qR.nd rfl (Or.inl rfl))
    (aP (aX (i:=2) qR.nd rfl (Or.inl rfl) (aO Va (pv 2) (aO xT au (aW tM (hr.mono (by decide)) rfl (ak (pv 0) (ak (pv 3) aL))))))))
   (aP (bw (pv 2))))),dN (b:=zm) (k:=2) (n:=2) rfl (λps r e=>match ps,e with|[_,_],e=>⟨rfl,e⟩) h λio H0 F0 hio=>?_⟩
 exact(aQ (bh aA (aJ 2))
   (aQ (gP (gG (aj 1)) (aJ 3)
    (bh (aq aF.up X8 (aj 2) (aq aF.up Gr aA (cj (ao (aj 0) (ao (aj 3) aR))))) (aJ 2)))
   (bU (aj 2))))
theorem Iz:bJ ["size","some"] ["size","some"] (aM (top 8)):=⟨rfl,rfl,rfl,by decide +kernel,rfl,by decide +kernel,by decide +kernel⟩
theorem IK(T:Txt mg)(D:bH K mg "cells_of" (top 8) ["size","some"])(Jb:FnAt P w K mg base "all_cells" 1 ["size"] (spO K XR0 mq))(tO:FnAt P w K mg base "has_cell" 2 ["size","some","cell"] (spM K XR0 jc)):FnAt P w K mg base "cells_of" 3 ["size","some"] (spO K XR0 gU):=by
 refine D.ok Iz (λvs H Q E h=>lW h λps r e=>match ps,e with|[_,_],_=>rfl) (λf cdv A outer s H vs Q E hr h=>?_)
 refine⟨_,(aP (bw (gC ["cell","size","some"] [none,some 0,some 1] rfl (gF (aW Jb (hr.mono (by decide)) rfl (ak (pv 0) aL))) (λ_ _ _ _ _=>(di (i:=0) (by decide +kernel) rfl rfl)) (λ_ _ _ _ _=>(xW (jz (aW tO (hr.mono (by decide)) (glc rfl) (ak (pvf 1) (ak (pvf 2) (ak (pvl 0) aL))))))) (λ_ _ _ _ _=>(pvl 0))))),lV (b:=sW) (k:=2) (n:=0) rfl (λps r e=>match ps,e with|[_,_],e=>⟨rfl,e⟩) h λio H0 F0 hio=>?_⟩
 exact(jQ (lU (gG (dB (gD (ao (aj 0) aR)))) (aJ 0) (dY 0) (jD (cj (ao (aj 1) (ao (aj 2) (ao (aj 0) aR))))) (aj 0)))
theorem jg:bJ ["wishes","asker_of","starts","askers","came_by","place","asker","giver"] ["wishes","asker_of","starts"] (aM (top 10)):=⟨rfl,rfl,rfl,by decide +kernel,rfl,by decide +kernel,by decide +kernel⟩
theorem Oa(T:Txt mg)(D:bH K mg "walked" (top 10) ["wishes","asker_of","starts"]):FnAt P w K mg base "walked" 1 ["wishes","asker_of","starts"] (spD K XR0 kW):=by
 refine D.ok jg (λvs H Q E h=>Dy h λps r e=>match ps,e with|[_,_,_],_=>rfl) (λf cdv A outer s H vs Q E hr h=>?_)
 refine⟨_,(aB (aX (i:=3) jg.nd rfl (Or.inl rfl) (qK CP rfl T.Ke (by decide +kernel) (ak (pv 2) aL)))
   (aB (aX (i:=4) jg.nd rfl (Or.inl rfl) ni)
   (aB (aX (i:=5) jg.nd rfl (Or.inl rfl) au)
   (aB (m6 ZaI (bj mU (pv 5) (cu fH rfl T.qG (by decide +kernel) (ak (pv 3) aL)) (bI _))
    (aB (aX (i:=6) jg.nd rfl (Or.inl rfl) (bA aY (pv 3) (pv 5) (λ_ _=>rfl)))
    (aB (gr ZaI rfl (gF (pW hr (pv 0) (pv 6) (λ_ _=>rfl))) (bN (i:=7) jg.nd rfl (Or.inl rfl))
     (aB (dZ (bj (Qi hr) (pv 7) (pv 4) (by with_unfolding_all rfl))
      (aP Fv)
      bY)
     (aB (ud (qZ hr) (pv 4) (pv 7) (pv 6) rfl)
     (aB (dZ (bj (Bh hr) (pv 7) (pv 1) (by with_unfolding_all rfl))
      (aP (bw (d7 (ak (pv 7) (ak (pv 3) (ak (pv 4) aL))))))
      bY)
     (aP (tR (Ky ZbS ZbN PySem.F.type_list_append m8 (pv 3) (ak (pW hr (pv 1) (pv 7) (λ_ _=>rfl)) aL))))))))
    (aP (aX (i:=5) jg.nd rfl (Or.inl rfl) (aO bu (pv 5) au))))))
   (aP (bw (d7 (ak Cq (ak (pv 3) (ak (pv 4) aL)))))))))),Dw (b:=zF) (k:=3) (n:=5) rfl (λps r e=>match ps,e with|[_,_,_],e=>⟨rfl,e⟩) h λio H0 F0 hio=>?_⟩
 exact(aQ (qM (i:=3) trivial (yt Wl (ug 2)))
   (aQ (qM (i:=4) trivial qN)
   (aQ (bh aA (aJ 5))
   (aQ (pN 2000 (aZ (aq aF.up Ab (aj 5) (iY pQ (bO 3))))
    (aQ (bh (aq aV.up PL (ug 3) (aj 5)) (aJ 6))
    (aQ (gP (gG (uv (eY 0) (aj 6))) (aJ 7)
     (aQ (d8 (aZ (aq aF.up Vm (aj 7) (eY 4)))
      Td
      bZ)
     (aQ (Dt (aj 6) (aj 7))
     (aQ (d8 (aZ (aq aF.up Gy (aj 7) (eY 1)))
      (K4 (GX (GJ (aj 7)) (xq 3 hio (by decide) (xq 4 hio (by decide) K3))))
      bZ)
     (Wd (uv (eY 1) (aj 7)))))))
    (bh (aq aF.up cG (aj 5) aA) (aJ 5)))))
   (K4 (GX (GJ De) (xq 3 hio (by decide) (xq 4 hio (by decide) K3))))))))
theorem iI:bJ ["giver_of","asker_of","came_by","free","giver","asker","left"] ["giver_of","asker_of","came_by","free"] (aM (top 11)):=⟨rfl,rfl,rfl,by decide +kernel,rfl,by decide +kernel,by decide +kernel⟩
theorem Ey(T:Txt mg)(D:bH K mg "pair_anew" (top 11) ["giver_of","asker_of","came_by","free"]):FnAt P w K mg base "pair_anew" 1 ["giver_of","asker_of","came_by","free"] (GP K fP):=by
 refine D.ok iI (λvs H Q E h=>Ni h λps r e=>match ps,e with|[_,_,_,_],_=>rfl) (λf cdv A outer s H vs Q E hr h=>?_)
 refine⟨_,(aB (aX (i:=4) iI.nd rfl (Or.inl rfl) (pv 3))
   (aP (m6 ZaI (bj R8 (pv 4) Cq (bI _))
    (aB (aX (i:=5) iI.nd rfl (Or.inl rfl) (pW hr (pv 2) (pv 4) (λ_ _=>rfl)))
    (aB (aX (i:=6) iI.nd rfl (Or.inl rfl) (Nf hr (pv 0) (pv 5) ⟨rfl,rfl,rfl,rfl⟩))
    (aB (ud (qZ hr) (pv 0) (pv 5) (pv 4) rfl)
    (aB (ud (qZ hr) (pv 1) (pv 4) (pv 5) rfl)
    (aP (aX (i:=4) iI.nd rfl (Or.inl rfl) (pv 6)))))))))),Nh (b:=ju) (k:=4) (n:=3) rfl (λps r e=>match ps,e with|[_,_,_,_],e=>⟨rfl,e⟩) h λa c H0 F0=>?_⟩
 exact(ux (xf (aj 3) (uw 4 (by decide)))
   (Nk 2000 (aZ (aq aH.up Wg (bO 4) De))
    (ux (xf (uv (eY 2) (aj 4)) (uw 5 (by decide)))
    (ux (xf (Qh (eY 0) (aj 5)) (uw 6 (by decide)))
    (ux (GR (aj 4) (aj 5))
    (ux (GR (aj 5) (aj 4))
    (xf (aj 6) (uw 4 (by decide)))))))))
theorem gB:bJ ["wishes","giver_of","asker_of","asker","way"] ["wishes"] (aM (top 12)):=⟨rfl,rfl,rfl,by decide +kernel,rfl,by decide +kernel,by decide +kernel⟩
theorem Aj(T:Txt mg)(D:bH K mg "most_pairs" (top 12) ["wishes"])(zY:FnAt P w K mg base "walked" 1 ["wishes","asker_of","starts"] (spD K XR0 kW))(Jc:FnAt P w K mg base "pair_anew" 1 ["giver_of","asker_of","came_by","free"] (GP K fP)):FnAt P w K mg base "most_pairs" 2 ["wishes"] (spO K XR0 iu):=by
 refine D.ok gB (λvs H Q E h=>lW h λps r e=>match ps,e with|[_],_=>rfl) (λf cdv A outer s H vs Q E hr h=>?_)
 refine⟨_,(aB (aX (i:=1) gB.nd rfl (Or.inl rfl) ni)
   (aB (aX (i:=2) gB.nd rfl (Or.inl rfl) ni)
   (aB (TJ 0 (gr ZaI rfl (yZ (pv 0)) (bN (i:=3) gB.nd rfl (Or.inl rfl))
    (aB (aX (i:=4) gB.nd rfl (Or.inl rfl) (aW zY (hr.mono (by decide)) rfl (ak (pv 0) (ak (pv 2) (ak (mR (ak (pv 3) aL)) aL)))))
    (aP (tR (aW Jc (hr.mono (by decide)) rfl (ak (pv 1) (ak (pv 2) (ak (bA aY (pv 4) au (λ_ _=>rfl)) (ak (bA aY (pv 4) au (λ_ _=>rfl)) aL))))))))))
   (aP (bw (pv 1)))))),lV (b:=oJ) (k:=1) (n:=4) rfl (λps r e=>match ps,e with|[_],e=>⟨rfl,e⟩) h λio H0 F0 hio=>?_⟩
 exact(aQ (qM (i:=1) trivial qN)
   (aQ (qM (i:=2) trivial qN)
   (aQ (TQ 0 (λ_ _=>TY (vV 0) (aJ 3)
    (aQ (uB (i:=4) trivial (Qq (yj (bO 0) (yj (bO 2) (yj (bB (dB (nT (ao (aj 3) aR)))) S9)))))
    (DK 4 (Wu (by decide) (ao (aq aF.up cI (aj 4) aA) (ao (aq aF.up cI (aj 4) aA) aR)))))))
   (Gh 1 hio))))
theorem gY:bJ ["wishes","giver_of","asker_of","way"] ["wishes","giver_of"] (aM (top 13)):=⟨rfl,rfl,rfl,by decide +kernel,rfl,by decide +kernel,by decide +kernel⟩
theorem tE(T:Txt mg)(D:bH K mg "short_of_givers" (top 13) ["wishes","giver_of"])(zY:FnAt P w K mg base "walked" 1 ["wishes","asker_of","starts"] (spD K XR0 kW)):FnAt P w K mg base "short_of_givers" 2 ["wishes","giver_of"] (spM K XR0 fB):=by
 refine D.ok gY (λvs H Q E h=>dO h λps r e=>match ps,e with|[_,_],_=>rfl) (λf cdv A outer s H vs Q E hr h=>?_)
 refine⟨_,(aB (aX (i:=2) gY.nd rfl (Or.inl rfl) (qK (JP hr rfl) rfl T.Xk (by decide +kernel) (ak (xg 1 (gC ["asker","giver"] [none,none] rfl (Bx (pv 1)) (λ_ _ _ _ _=>(wZ (n:=2) rfl (cB (di (i:=0) (by decide +kernel) rfl rfl) (cB (di (i:=1) (by decide +kernel) rfl rfl) jM)))) (λ_ _ _ _ _=>rW) (λ_ _ _ _ _=>(d7 (ak (pvl 1) (ak (pvl 0) aL)))))) aL)))
   (aB (aX (i:=3) gY.nd rfl (Or.inl rfl) (aW zY (hr.mono (by decide)) rfl (ak (pv 0) (ak (pv 2) (ak (xg 0 (gC ["asker","giver_of"] [none,some 1] rfl (yZ (pv 0)) (λ_ _ _ _ _=>(di (i:=0) (by decide +kernel) rfl rfl)) (λ_ _ _ _ _=>(xW (bj (JQ hr) (pvl 0) (pvf 1) (by with_unfolding_all rfl)))) (λ_ _ _ _ _=>(pvl 0)))) aL)))))
   (aP (bw (d7 (ak (cu rB rfl T.zX (by decide +kernel) (ak (bA aY (pv 3) au (λ_ _=>rfl)) aL)) (ak (cu (Ad rfl) rfl T.zX (by decide +kernel) (ak (bA aY (pv 3) au (λ_ _=>rfl)) aL)) aL))))))),dN (b:=iw) (k:=2) (n:=2) rfl (λps r e=>match ps,e with|[_,_],e=>⟨rfl,e⟩) h λio H0 F0 hio=>?_⟩
 exact(aQ (bh (dB (yt (Tt λ_ _ _=>Tu) (lQ (xm 1 (λ_ _=>lX (za 1) (pL (cC (aJ 0) (cC (aJ 1) jP))) (Do (jo (dY 0) (jo (dY 1) w6))) sE (fJ (ao (aj 1) (ao (aj 0) aR)))))))) (aJ 2))
   (aQ (uB (i:=3) trivial (uz (ao (aj 0) (ao (aj 2) (ao (dB (xm 0 (λ_ _=>lX (vV 0) (aJ 0) (dY 0) (aZ (aq aF.up Gy (aj 0) (eY 1))) (aj 0)))) aR)))))
   (DK 3 (bU (fJ (ao (dB (yt Li (Dc (aq aF.up cI (aj 3) aA)))) (ao (dB (yt QM (Qg (aq aF.up cI (aj 3) aA)))) aR)))))))
theorem IV:bJ ["size","kind"] ["size","kind"] (aM (top 17)):=⟨rfl,rfl,rfl,by decide +kernel,rfl,by decide +kernel,by decide +kernel⟩
theorem IW(T:Txt mg)(D:bH K mg "lines_of" (top 17) ["size","kind"]):FnAt P w K mg base "lines_of" 1 ["size","kind"] (spM K XR0 oM):=by
 refine D.ok IV (λvs H Q E h=>dO h λps r e=>match ps,e with|[_,_],_=>rfl) (λf cdv A outer s H vs Q E hr h=>?_)
 refine⟨_,(aP (bw (Ft (bj (dU hr) (pv 1) (Gd rfl T.Mm) (bI _)) (bA aY (pv 0) au (λ_ _=>rfl)) (bA aY (pv 0) au (λ_ _=>rfl))))),dN (b:=oK) (k:=2) (n:=0) rfl (λps r e=>match ps,e with|[_,_],e=>⟨rfl,e⟩) h λio H0 F0 hio=>?_⟩
 exact(bU (Vh (aZ (aq aH.up mW (bO 1) (bB gO))) (aq aF.up cI (aj 0) aA) (aq aF.up cI (aj 0) aA)))
theorem Ez:bJ ["size","kind"] ["size","kind"] (aM (top 18)):=⟨rfl,rfl,rfl,by decide +kernel,rfl,by decide +kernel,by decide +kernel⟩
theorem EY(T:Txt mg)(D:bH K mg "length_of" (top 18) ["size","kind"]):FnAt P w K mg base "length_of" 1 ["size","kind"] (spM K XR0 mD):=by
 refine D.ok Ez (λvs H Q E h=>dO h λps r e=>match ps,e with|[_,_],_=>rfl) (λf cdv A outer s H vs Q E hr h=>?_)
 refine⟨_,(aP (bw (Ft (bj (dU hr) (pv 1) (Gd rfl T.Mm) (bI _)) (bA aY (pv 0) au (λ_ _=>rfl)) (bA aY (pv 0) au (λ_ _=>rfl))))),dN (b:=my) (k:=2) (n:=0) rfl (λps r e=>match ps,e with|[_,_],e=>⟨rfl,e⟩) h λio H0 F0 hio=>?_⟩
 exact(bU (Vh (aZ (aq aH.up mW (bO 1) (bB gO))) (aq aF.up cI (aj 0) aA) (aq aF.up cI (aj 0) aA)))
theorem wU:bJ ["stroke"] ["stroke"] (aM (top 19)):=⟨rfl,rfl,rfl,by decide +kernel,rfl,by decide +kernel,by decide +kernel⟩
theorem wV(T:Txt mg)(D:bH K mg "stroke_cells" (top 19) ["stroke"]):FnAt P w K mg base "stroke_cells" 1 ["stroke"] (spO K XR0 d9):=by
 refine D.ok wU (λvs H Q E h=>lW h λps r e=>match ps,e with|[_],_=>rfl) (λf cdv A outer s H vs Q E hr h=>?_)
 refine⟨_,(aB (dZ (bj (dU hr) (bA aY (pv 0) au (λ_ _=>rfl)) (Gd rfl T.Mm) (bI _))
    (aP (bw (gC ["column","stroke"] [none,some 0] rfl (m7 rfl T.jW (ak (bA aY (pv 0) au (λ_ _=>rfl)) (ak (aO bu (bA aY (pv 0) au (λ_ _=>rfl)) au) aL))) (λ_ _ _ _ _=>(di (i:=0) (by decide +kernel) rfl rfl)) (λ_ _ _ _ _=>rW) (λ_ _ _ _ _=>(d7 (ak (pvl 0) (ak (bA nY (pvf 1) au (λ_ _=>rfl)) aL)))))))
    bY)
   (aP (bw (gC ["row","stroke"] [none,some 0] rfl (m7 rfl T.jW (ak (bA aY (pv 0) au (λ_ _=>rfl)) (ak (aO bu (bA aY (pv 0) au (λ_ _=>rfl)) au) aL))) (λ_ _ _ _ _=>(di (i:=0) (by decide +kernel) rfl rfl)) (λ_ _ _ _ _=>rW) (λ_ _ _ _ _=>(d7 (ak (bA nY (pvf 1) au (λ_ _=>rfl)) (ak (pvl 0) aL)))))))),lV (b:=iy) (k:=1) (n:=0) rfl (λps r e=>match ps,e with|[_],e=>⟨rfl,e⟩) h λio H0 F0 hio=>?_⟩
 exact(aQ (d8 (aZ (aq aH.up mW (bB (aq aF.up cI (aj 0) aA)) (bB gO)))
    (jQ (lU (um (ao (aq aF.up cI (aj 0) aA) (ao (aq aF.up cG (aq aF.up cI (aj 0) aA) aA) aR))) (aJ 0) (dY 0) sE (fJ (ao (aj 0) (ao (aq aF.up cI (aj 1) aA) aR)))))
    bZ)
   (jQ (lU (um (ao (aq aF.up cI (aj 0) aA) (ao (aq aF.up cG (aq aF.up cI (aj 0) aA) aA) aR))) (aJ 0) (dY 0) sE (fJ (ao (aq aF.up cI (aj 1) aA) (ao (aj 0) aR))))))
theorem eO:bJ ["size","keep","kind","line","last","cells","kept"] ["size","keep","kind","line"] (aM (top 20)):=⟨rfl,rfl,rfl,by decide +kernel,rfl,by decide +kernel,by decide +kernel⟩
theorem tG(T:Txt mg)(D:bH K mg "longest_strokes" (top 20) ["size","keep","kind","line"])(Jd:FnAt P w K mg base "length_of" 1 ["size","kind"] (spM K XR0 mD))(lH:FnAt P w K mg base "stroke_cells" 1 ["stroke"] (spO K XR0 d9))(tO:FnAt P w K mg base "has_cell" 2 ["size","some","cell"] (spM K XR0 jc)):FnAt P w K mg base "longest_strokes" 3 ["size","keep","kind","line"] (spO K XR0 fD):=by
 refine D.ok eO (λvs H Q E h=>lW h λps r e=>match ps,e with|[_,_,_,_],_=>rfl) (λf cdv A outer s H vs Q E hr h=>?_)
 refine⟨_,(aB (aX (i:=4) eO.nd rfl (Or.inl rfl) (aO j7 (aW Jd (hr.mono (by decide)) rfl (ak (pv 0) (ak (pv 2) aL))) au))
   (aB (aX (i:=5) eO.nd rfl (Or.inl rfl) (aW lH (hr.mono (by decide)) rfl (ak (d7 (ak (pv 2) (ak (pv 3) (ak au (ak (pv 4) aL))))) aL)))
   (aB (aX (i:=6) eO.nd rfl (Or.inl rfl) (aO Dm (aO Dm (mR (ak (U9 Om au) aL)) (gC ["place","cell","size","keep"] [none,none,some 0,some 1] rfl (SN rfl T.Ja (ak (pv 5) aL)) (λ_ _ _ _ _=>(wZ (n:=2) rfl (cB (di (i:=0) (by decide +kernel) rfl rfl) (cB (di (i:=1) (by decide +kernel) rfl rfl) jM)))) (λ_ _ _ _ _=>(xW (jz (aW tO (hr.mono (by decide)) (glc rfl) (ak (pvf 2) (ak (pvf 3) (ak (pvl 1) aL))))))) (λ_ _ _ _ _=>(pvl 0)))) (mR (ak (aO bu (pv 4) au) aL))))
   (aP (bw (gC ["one","other","kind","line"] [none,none,some 2,some 3] rfl (Wo rfl T.Yz (ak (pv 6) (ak (FT Sx (pv 6) (Kw au) Kv) aL))) (λ_ _ _ _ _=>(wZ (n:=2) rfl (cB (di (i:=0) (by decide +kernel) rfl rfl) (cB (di (i:=1) (by decide +kernel) rfl rfl) jM)))) (λ_ _ _ _ _=>(xW (bj mU (aO Gv (pvl 0) au) (pvl 1) (bI _)))) (λ_ _ _ _ _=>(d7 (ak (pvf 2) (ak (pvf 3) (ak (aO Gv (pvl 0) au) (ak (aO j7 (pvl 1) au) aL)))))))))))),lV (b:=fC) (k:=4) (n:=3) rfl (λps r e=>match ps,e with|[_,_,_,_],e=>⟨rfl,e⟩) h λio H0 F0 hio=>?_⟩
 exact(aQ (bh (aq aF.up pP (cj (ao (aj 0) (ao (aj 2) aR))) aA) (aJ 4))
   (aQ (bh (dB (gD (ao (fJ (ao (aj 2) (ao (aj 3) (ao aA (ao (aj 4) aR))))) aR))) (aJ 5))
   (aQ (bh (dB (Pg aV.up PN (lQ (Pg aV.up PN (lQ (nT (ao (Qd aA) aR))) (lQ (lU (Tq (ao (aj 5) aR)) (pL (cC (aJ 0) (cC (aJ 1) jP))) (Do (jo (dY 0) (jo (dY 1) w6))) (jD (cj (ao (aj 2) (ao (aj 3) (ao (aj 1) aR))))) (aj 0))))) (lQ (nT (ao (aq aF.up cG (aj 4) aA) aR))))) (aJ 6))
   (jQ (lU (Wq (ao (aj 6) (ao (dB (Wh (ug 6) (KN aA) KJ)) aR))) (pL (cC (aJ 0) (cC (aJ 1) jP))) (Do (jo (dY 0) (jo (dY 1) w6))) (aZ (aq aF.up Ab (aq aF.up cG (aj 0) aA) (aj 1))) (fJ (ao (aj 2) (ao (aj 3) (ao (aq aF.up cG (aj 0) aA) (ao (aq aF.up pP (aj 1) aA) aR))))))))))
theorem dF:bJ ["size","keep","kind","by_cell","line","stroke","cell"] ["size","keep","kind"] (aM (top 21)):=⟨rfl,rfl,rfl,by decide +kernel,rfl,by decide +kernel,by decide +kernel⟩
theorem tH(T:Txt mg)(D:bH K mg "longest_by_cell" (top 21) ["size","keep","kind"])(Kf:FnAt P w K mg base "lines_of" 1 ["size","kind"] (spM K XR0 oM))(vB:FnAt P w K mg base "longest_strokes" 3 ["size","keep","kind","line"] (spO K XR0 fD))(lH:FnAt P w K mg base "stroke_cells" 1 ["stroke"] (spO K XR0 d9)):FnAt P w K mg base "longest_by_cell" 4 ["size","keep","kind"] (spO K XR0 dh):=by
 refine D.ok dF (λvs H Q E h=>lW h λps r e=>match ps,e with|[_,_,_],_=>rfl) (λf cdv A outer s H vs Q E hr h=>?_)
 refine⟨_,(aB (aX (i:=3) dF.nd rfl (Or.inl rfl) ni)
   (aB (gr ZaI rfl (qJ rfl T.jW (ak (aW Kf (hr.mono (by decide)) rfl (ak (pv 0) (ak (pv 2) aL))) aL)) (bN (i:=4) dF.nd rfl (Or.inl rfl))
    (aP (gr ZaI rfl (gF (aW vB (hr.mono (by decide)) rfl (ak (pv 0) (ak (pv 1) (ak (pv 2) (ak (pv 4) aL)))))) (bN (i:=5) dF.nd rfl (Or.inl rfl))
     (aP (gr ZaI rfl (gF (aW lH (hr.mono (by decide)) rfl (ak (pv 5) aL))) (bN (i:=6) dF.nd rfl (Or.inl rfl))
      (aP (ud (qZ hr) (pv 3) (pv 6) (pv 5) rfl)))))))
   (aP (bw (pv 3))))),lV (b:=iz) (k:=3) (n:=4) rfl (λps r e=>match ps,e with|[_,_,_],e=>⟨rfl,e⟩) h λio H0 F0 hio=>?_⟩
 exact(aQ (qM (i:=3) trivial qN)
   (aQ (gP (w5 (ao (cj (ao (aj 0) (ao (aj 2) aR))) aR)) (aJ 4)
    (gP (gG (dB (gD (ao (aj 0) (ao (aj 1) (ao (aj 2) (ao (aj 4) aR))))))) (aJ 5)
     (gP (gG (dB (gD (ao (aj 5) aR)))) (aJ 6)
      (Dt (aj 5) (aj 6)))))
   (Gh 3 hio)))
theorem iJ:bJ ["size","away","keep","along_row","along_column","crossed","cell"] ["size","away","keep"] (aM (top 22)):=⟨rfl,rfl,rfl,by decide +kernel,rfl,by decide +kernel,by decide +kernel⟩
theorem Fb(T:Txt mg)(D:bH K mg "crossings" (top 22) ["size","away","keep"])(mO:FnAt P w K mg base "longest_by_cell" 4 ["size","keep","kind"] (spO K XR0 dh))(oY:FnAt P w K mg base "cells_of" 3 ["size","some"] (spO K XR0 gU)):FnAt P w K mg base "crossings" 5 ["size","away","keep"] (spD K XR0 jw):=by
 refine D.ok iJ (λvs H Q E h=>Dy h λps r e=>match ps,e with|[_,_,_],_=>rfl) (λf cdv A outer s H vs Q E hr h=>?_)
 refine⟨_,(aB (aX (i:=3) iJ.nd rfl (Or.inl rfl) (aW mO (hr.mono (by decide)) rfl (ak (pv 0) (ak (pv 2) (ak (Gd rfl T.Mm) aL)))))
   (aB (aX (i:=4) iJ.nd rfl (Or.inl rfl) (aW mO (hr.mono (by decide)) rfl (ak (pv 0) (ak (pv 2) (ak (Gd rfl T.RN) aL)))))
   (aB (aX (i:=5) iJ.nd rfl (Or.inl rfl) ni)
   (aB (gr ZaI rfl (gF (aW oY (hr.mono (by decide)) rfl (ak (pv 0) (ak (pv 1) aL)))) (bN (i:=6) iJ.nd rfl (Or.inl rfl))
    (aP (tR (Ky ZbS ZbN PySem.F.type_list_append m8 (JZ (qZ hr) (pv 5) (pW hr (pv 3) (pv 6) (λ_ _=>rfl)) (mR aL) ⟨rfl,rfl,rfl,rfl⟩) (ak (pW hr (pv 4) (pv 6) (λ_ _=>rfl)) aL)))))
   (aP (bw (pv 5))))))),Dw (b:=qi) (k:=3) (n:=4) rfl (λps r e=>match ps,e with|[_,_,_],e=>⟨rfl,e⟩) h λio H0 F0 hio=>?_⟩
 exact(aQ (bh (dB (gD (ao (aj 0) (ao (aj 2) (ao gO aR))))) (aJ 3))
   (aQ (bh (dB (gD (ao (aj 0) (ao (aj 2) (ao gO aR))))) (aJ 4))
   (aQ (uB (i:=5) trivial (Wv qN))
   (aQ (gP (gG (dB (gD (ao (aj 0) (ao (aj 1) aR))))) (aJ 6)
    (Nq (i:=5) (uv (eY 3) (aj 6)) (uv (eY 4) (aj 6))))
   (Qm 5)))))
theorem cR:bJ ["size","away","keep","both","crossed","column_of","short","strokes","apart"] ["size","away","keep"] (aM (top 23)):=⟨rfl,rfl,rfl,by decide +kernel,rfl,by decide +kernel,by decide +kernel⟩
theorem vA(T:Txt mg)(D:bH K mg "fewest_strokes" (top 23) ["size","away","keep"])(oY:FnAt P w K mg base "cells_of" 3 ["size","some"] (spO K XR0 gU))(Je:FnAt P w K mg base "crossings" 5 ["size","away","keep"] (spD K XR0 jw))(Ff:FnAt P w K mg base "most_pairs" 2 ["wishes"] (spO K XR0 iu))(vC:FnAt P w K mg base "short_of_givers" 2 ["wishes","giver_of"] (spM K XR0 fB))(RP:FnAt P w K mg base "set_of" 2 ["size","cells"] (spM K XR0 uL)):FnAt P w K mg base "fewest_strokes" 6 ["size","away","keep"] (spD K XR0 cH):=by
 refine D.ok cR (λvs H Q E h=>Dy h λps r e=>match ps,e with|[_,_,_],_=>rfl) (λf cdv A outer s H vs Q E hr h=>?_)
 refine⟨_,(aB (aX (i:=3) cR.nd rfl (Or.inl rfl) (aW oY (hr.mono (by decide)) rfl (ak (pv 0) (ak (aO jB (pv 1) (pv 2)) aL))))
   (aB (dZ (bj FN (cu fH rfl T.qG (by decide +kernel) (ak (pv 3) aL)) au (bI _))
    (aP Oj)
    bY)
   (aB (aX (i:=4) cR.nd rfl (Or.inl rfl) (aW Je (hr.mono (by decide)) rfl (ak (pv 0) (ak (pv 1) (ak (pv 2) aL)))))
   (aB (aX (i:=5) cR.nd rfl (Or.inl rfl) (aW Ff (hr.mono (by decide)) rfl (ak (pv 4) aL)))
   (aB (aX (i:=6) cR.nd rfl (Or.inr rfl) (aW vC (hr.mono (by decide)) rfl (ak (pv 4) (ak (pv 5) aL))))
   (aB (aX (i:=7) cR.nd rfl (Or.inl rfl) (aO Dm (xg 4 (gC ["stroke","short"] [none,some 6] rfl (yZ (pv 4)) (λ_ _ _ _ _=>(di (i:=0) (by decide +kernel) rfl rfl)) (λ_ _ _ _ _=>(xW (bj (JK hr) (pvl 0) (bA nY (pvf 1) au (λ_ _=>rfl)) (by with_unfolding_all rfl)))) (λ_ _ _ _ _=>(pvl 0)))) (bA aY (pv 6) au (λ_ _=>rfl))))
   (aB (aX (i:=8) cR.nd rfl (Or.inl rfl) (aW RP (hr.mono (by decide)) rfl (ak (pv 0) (ak (xg 5 (gC ["along_row","along_column"] [none,none] rfl (Bx (pv 5)) (λ_ _ _ _ _=>(wZ (n:=2) rfl (cB (di (i:=0) (by decide +kernel) rfl rfl) (cB (di (i:=1) (by decide +kernel) rfl rfl) jM)))) (λ_ _ _ _ _=>rW) (λ_ _ _ _ _=>(d7 (ak (bA nY (pvl 1) au (λ_ _=>rfl)) (ak (bA nY (pvl 0) au (λ_ _=>rfl)) aL)))))) aL))))
   (aP (bw (d7 (ak (cu rB rfl T.zX (by decide +kernel) (ak (pv 7) aL)) (ak (aW oY (hr.mono (by decide)) rfl (ak (pv 0) (ak (pv 8) aL))) aL)))))))))))),Dw (b:=gb) (k:=3) (n:=6) rfl (λps r e=>match ps,e with|[_,_,_],e=>⟨rfl,e⟩) h λio H0 F0 hio=>?_⟩
 exact(aQ (bh (dB (gD (ao (aj 0) (ao (aq aF.up o9 (aj 1) (aj 2)) aR)))) (aJ 3))
   (aQ (d8 (aZ (aq aF.up PJ (iY pQ (bO 3)) aA))
    Qe
    bZ)
   (aQ (uB (i:=4) trivial (uz (ao (aj 0) (ao (aj 1) (ao (aj 2) aR)))))
   (aQ (DK 4 (bh (dB (gD (ao (aj 4) aR))) (aJ 5)))
   (aQ (bh (cj (ao (aj 4) (ao (aj 5) aR))) (aJ 6))
   (aQ (bh (dB (Pg aV.up PN (lQ (xm 4 (λ_ _=>lX (vV 4) (aJ 0) (dY 0) (aZ (aq aH.up KH (bO 0) (bB (aq aF.up cI (aj 1) aA)))) (aj 0)))) (Dc (aq aF.up cI (aj 6) aA)))) (aJ 7))
   (aQ (bh (cj (ao (aj 0) (ao (dB (xm 5 (λ_ _=>lX (za 5) (pL (cC (aJ 0) (cC (aJ 1) jP))) (Do (jo (dY 0) (jo (dY 1) w6))) sE (fJ (ao (aq aF.up cI (aj 1) aA) (ao (aq aF.up cI (aj 0) aA) aR)))))) aR))) (aJ 8))
   (TF (Wn (GK (Vn (yt Li (ug 7))) (GK (Vn (gD (ao (aj 0) (ao (aj 8) aR)))) Tz)))))))))))
theorem wg:bJ ["_law_script","_law_k","_law_number"] ["_law_script","_law_k"] (aM (top 25)):=⟨rfl,rfl,rfl,by decide +kernel,rfl,by decide +kernel,by decide +kernel⟩
theorem Ob(T:Txt mg)(D:bH K mg "_law_cell" (top 25) ["_law_script","_law_k"]):FnAt P w K mg base "_law_cell" 1 ["_law_script","_law_k"] (spM K XR0 eE):=by
 refine D.ok wg (λvs H Q E h=>dO h λps r e=>match ps,e with|[_,_],_=>rfl) (λf cdv A outer s H vs Q E hr h=>?_)
 refine⟨_,(aB (dZ (bj mU (pv 1) (cu fH rfl T.qG (by decide +kernel) (ak (pv 0) aL)) (bI _))
    (aP (bw (bA aY (pv 0) (pv 1) (λ_ _=>rfl))))
    bY)
   (aB (aX (i:=2) wg.nd rfl (Or.inl rfl) (aO bu (aO bQ (pv 1) (pv 1)) au))
   (aB (dZ (bj FN (cu fH rfl T.qG (by decide +kernel) (ak (pv 0) aL)) au (bI _))
    (aP (aX (i:=2) wg.nd rfl (Or.inl rfl) (aO bu (pv 2) (aO fG (bA aY (pv 0) (aO fG (aO bQ (pv 1) au) (cu fH rfl T.qG (by decide +kernel) (ak (pv 0) aL))) (λ_ _=>rfl)) au))))
    bY)
   (aP (bw (aO fG (aO bQ (pv 2) (pv 2)) au)))))),dN (b:=qj) (k:=2) (n:=1) rfl (λps r e=>match ps,e with|[_,_],e=>⟨rfl,e⟩) h λio H0 F0 hio=>?_⟩
 exact(aQ (d8 (aZ (aq aF.up Ab (aj 1) (iY pQ (bO 0))))
    (bU (aq aF.up cI (aj 0) (aj 1)))
    bZ)
   (aQ (bh (aq aF.up cG (aq aF.up dX (aj 1) (aj 1)) aA) (aJ 2))
   (aQ (d8 (aZ (aq aF.up PJ (iY pQ (bO 0)) aA))
    (bh (aq aF.up cG (aj 2) (aq aF.up jm (aq aF.up cI (aj 0) (aq aF.up jm (aq aF.up dX (aj 1) aA) (iY pQ (bO 0)))) aA)) (aJ 2))
    bZ)
   (bU (aq aF.up jm (aq aF.up dX (aj 2) (aj 2)) aA)))))
theorem tK:bJ ["_law_cell_here","_law_k","_law_number"] ["_law_cell_here","_law_k"] (aM (top 26)):=⟨rfl,rfl,rfl,by decide +kernel,rfl,by decide +kernel,by decide +kernel⟩
theorem Ka(T:Txt mg)(D:bH K mg "_law_mixed" (top 26) ["_law_cell_here","_law_k"]):FnAt P w K mg base "_law_mixed" 1 ["_law_cell_here","_law_k"] (spM K XR0 cQ):=by
 refine D.ok tK (λvs H Q E h=>dO h λps r e=>match ps,e with|[_,_],_=>rfl) (λf cdv A outer s H vs Q E hr h=>?_)
 refine⟨_,(aB (dZ (bj Xr (pv 0) (aO VR au au) (bI _))
    (aP (bw (aO jB (aO rQ (pv 0) (aO bQ au (pv 1))) au)))
    bY)
   (aB (aX (i:=2) tK.nd rfl (Or.inl rfl) (aO fG (aO bQ (aO bu (aO bu (aO bu (aO fG (pv 0) au) (aO bQ (aO bQ au (pv 1)) (pv 1))) (pv 1)) au) au) au))
   (aB (aX (i:=2) tK.nd rfl (Or.inl rfl) (aO fG (aO bQ (pv 2) (pv 2)) au))
   (aP (bw (aO fG (aO bQ (aO bu (pv 2) (pv 1)) au) au)))))),dN (b:=oN) (k:=2) (n:=1) rfl (λps r e=>match ps,e with|[_,_],e=>⟨rfl,e⟩) h λio H0 F0 hio=>?_⟩
 exact(aQ (d8 (aZ (aq aF.up YQ (aj 0) (aq aF.up X7 aA aA)))
    (bU (aq aF.up o9 (aq aF.up yp (aj 0) (aq aF.up dX aA (aj 1))) aA))
    bZ)
   (aQ (bh (aq aF.up jm (aq aF.up dX (aq aF.up cG (aq aF.up cG (aq aF.up cG (aq aF.up jm (aj 0) aA) (aq aF.up dX (aq aF.up dX aA (aj 1)) (aj 1))) (aj 1)) aA) aA) aA) (aJ 2))
   (aQ (bh (aq aF.up jm (aq aF.up dX (aj 2) (aj 2)) aA) (aJ 2))
   (bU (aq aF.up jm (aq aF.up dX (aq aF.up cG (aj 2) (aj 1)) aA) aA)))))
theorem Ck:bJ ["_law_cell_here","_law_number"] ["_law_cell_here"] (aM (top 27)):=⟨rfl,rfl,rfl,by decide +kernel,rfl,by decide +kernel,by decide +kernel⟩
theorem Oc(T:Txt mg)(D:bH K mg "_law_size" (top 27) ["_law_cell_here"])(eU:FnAt P w K mg base "_law_mixed" 1 ["_law_cell_here","_law_k"] (spM K XR0 cQ)):FnAt P w K mg base "_law_size" 2 ["_law_cell_here"] (spM K XR0 jx):=by
 refine D.ok Ck (λvs H Q E h=>dO h λps r e=>match ps,e with|[_],_=>rfl) (λf cdv A outer s H vs Q E hr h=>?_)
 refine⟨_,(aB (aX (i:=1) Ck.nd rfl (Or.inl rfl) (aW eU (hr.mono (by decide)) rfl (ak (pv 0) (ak au aL))))
   (aB (dZ (bj (dU hr) (aO fG (aW eU (hr.mono (by decide)) rfl (ak (pv 0) (ak au aL))) au) au (bI _))
    (aP (bw (d7 (ak (aO bu au (aO fG (pv 1) au)) (ak (aO bu au (aO fG (aO tV (pv 1) au) au)) aL)))))
    bY)
   (aP (bw (d7 (ak (aO bu au (aO fG (pv 1) au)) (ak (aO bu au (aO fG (aO tV (pv 1) au) au)) aL))))))),dN (b:=mF) (k:=1) (n:=1) rfl (λps r e=>match ps,e with|[_],e=>⟨rfl,e⟩) h λio H0 F0 hio=>?_⟩
 exact(aQ (bh (cj (ao (aj 0) (ao aA aR))) (aJ 1))
   (aQ (d8 (aZ (aq aH.up mW (bB (aq aF.up jm (cj (ao (aj 0) (ao aA aR))) aA)) (bB aA)))
    (bU (fJ (ao (aq aF.up cG aA (aq aF.up jm (aj 1) aA)) (ao (aq aF.up cG aA (aq aF.up jm (aq aF.up Gq (aj 1) aA) aA)) aR))))
    bZ)
   (bU (fJ (ao (aq aF.up cG aA (aq aF.up jm (aj 1) aA)) (ao (aq aF.up cG aA (aq aF.up jm (aq aF.up Gq (aj 1) aA) aA)) aR))))))
theorem lF:bJ ["_law_size_here","_law_cell_here","_law_k","_law_many","_law_number","_law_j","_law_kind"] ["_law_size_here","_law_cell_here","_law_k"] (aM (top 28)):=⟨rfl,rfl,rfl,by decide +kernel,rfl,by decide +kernel,by decide +kernel⟩
theorem RJ(T:Txt mg)(D:bH K mg "_law_set" (top 28) ["_law_size_here","_law_cell_here","_law_k"])(eU:FnAt P w K mg base "_law_mixed" 1 ["_law_cell_here","_law_k"] (spM K XR0 cQ)):FnAt P w K mg base "_law_set" 2 ["_law_size_here","_law_cell_here","_law_k"] (spM K XR0 gV):=by
 refine D.ok lF (λvs H Q E h=>dO h λps r e=>match ps,e with|[_,_,_],_=>rfl) (λf cdv A outer s H vs Q E hr h=>?_)
 refine⟨_,(aB (aX (i:=3) lF.nd rfl (Or.inl rfl) (aO bQ (bA aY (pv 0) au (λ_ _=>rfl)) (bA aY (pv 0) au (λ_ _=>rfl))))
   (aB (aX (i:=4) lF.nd rfl (Or.inl rfl) au)
   (aB (gr ZaI rfl (qJ rfl T.jW (ak (aO bu au (aO tV (pv 3) au)) aL)) (bN (i:=5) lF.nd rfl (Or.inl rfl))
    (aP (aX (i:=4) lF.nd rfl (Or.inl rfl) (aO bu (aO bQ (pv 4) au) (aW eU (hr.mono (by decide)) rfl (ak (pv 1) (ak (aO bu (aO bQ au (pv 2)) (pv 5)) aL)))))))
   (aB (aX (i:=4) lF.nd rfl (Or.inl rfl) (aO fG (pv 4) (aO xT au (pv 3))))
   (aB (aX (i:=6) lF.nd rfl (Or.inl rfl) (aO fG (aW eU (hr.mono (by decide)) rfl (ak (pv 1) (ak (aO bu (aO bQ au (pv 2)) au) aL))) au))
   (aB (dZ (bj (dU hr) (pv 6) au (bI _))
    (aP (bw (aO j7 (aO xT au (pv 3)) au)))
    bY)
   (aB (dZ (bj (dU hr) (pv 6) au (bI _))
    (aP (bw au))
    bY)
   (aP (bw (pv 4)))))))))),dN (b:=oO) (k:=3) (n:=4) rfl (λps r e=>match ps,e with|[_,_,_],e=>⟨rfl,e⟩) h λio H0 F0 hio=>?_⟩
 exact(aQ (bh (aq aF.up dX (aq aF.up cI (aj 0) aA) (aq aF.up cI (aj 0) aA)) (aJ 3))
   (aQ (bh aA (aJ 4))
   (aQ (gP (w5 (ao (aq aF.up cG aA (aq aF.up Gq (aj 3) aA)) aR)) (aJ 5)
    (bh (aq aF.up cG (aq aF.up dX (aj 4) aA) (cj (ao (aj 1) (ao (aq aF.up cG (aq aF.up dX aA (aj 2)) (aj 5)) aR)))) (aJ 4)))
   (aQ (bh (aq aF.up jm (aj 4) (aq aF.up Gr aA (aj 3))) (aJ 4))
   (aQ (bh (aq aF.up jm (cj (ao (aj 1) (ao (aq aF.up cG (aq aF.up dX aA (aj 2)) aA) aR))) aA) (aJ 6))
   (aQ (d8 (aZ (aq aH.up mW (bO 6) (bB aA)))
    (bU (aq aF.up pP (aq aF.up Gr aA (aj 3)) aA))
    bZ)
   (aQ (d8 (aZ (aq aH.up mW (bO 6) (bB aA)))
    (bU aA)
    bZ)
   (bU (aj 4)))))))))
theorem iK:bJ ["_law_size_here","_law_cell_here","_law_k","_law_keep","_law_away","_law_number"] ["_law_size_here","_law_cell_here","_law_k"] (aM (top 29)):=⟨rfl,rfl,rfl,by decide +kernel,rfl,by decide +kernel,by decide +kernel⟩
theorem Fd(T:Txt mg)(D:bH K mg "_law_carving" (top 29) ["_law_size_here","_law_cell_here","_law_k"])(tQ:FnAt P w K mg base "_law_set" 2 ["_law_size_here","_law_cell_here","_law_k"] (spM K XR0 gV))(eU:FnAt P w K mg base "_law_mixed" 1 ["_law_cell_here","_law_k"] (spM K XR0 cQ)):FnAt P w K mg base "_law_carving" 3 ["_law_size_here","_law_cell_here","_law_k"] (spO K XR0 fQ):=by
 refine D.ok iK (λvs H Q E h=>lW h λps r e=>match ps,e with|[_,_,_],_=>rfl) (λf cdv A outer s H vs Q E hr h=>?_)
 refine⟨_,(aB (aX (i:=3) iK.nd rfl (Or.inl rfl) (aW tQ (hr.mono (by decide)) rfl (ak (pv 0) (ak (pv 1) (ak (aO bQ au (pv 2)) aL)))))
   (aB (aX (i:=4) iK.nd rfl (Or.inl rfl) (aW tQ (hr.mono (by decide)) rfl (ak (pv 0) (ak (pv 1) (ak (aO bu (aO bQ au (pv 2)) au) aL)))))
   (aB (aX (i:=5) iK.nd rfl (Or.inl rfl) (aW eU (hr.mono (by decide)) rfl (ak (pv 1) (ak (aO bu au (pv 2)) aL))))
   (aB (dZ (bj (dU hr) (aO fG (pv 5) au) au (bI _))
    (aP (aX (i:=3) iK.nd rfl (Or.inl rfl) (aO jB (pv 3) (aW tQ (hr.mono (by decide)) rfl (ak (pv 0) (ak (aO bu (pv 1) au) (ak (aO bQ au (pv 2)) aL)))))))
    bY)
   (aB (dZ (bj (dU hr) (aO fG (aO tV (pv 5) au) au) au (bI _))
    (aP (bw (mR (ak (aO j7 (aO j7 (aO xT au (aO bQ (bA aY (pv 0) au (λ_ _=>rfl)) (bA aY (pv 0) au (λ_ _=>rfl)))) au) (pv 3)) (ak (pv 3) aL)))))
    bY)
   (aP (bw (mR (ak (aO j7 (pv 4) (aO jB (pv 4) (pv 3))) (ak (pv 3) aL)))))))))),lV (b:=iB) (k:=3) (n:=3) rfl (λps r e=>match ps,e with|[_,_,_],e=>⟨rfl,e⟩) h λio H0 F0 hio=>?_⟩
 exact(aQ (bh (cj (ao (aj 0) (ao (aj 1) (ao (aq aF.up dX aA (aj 2)) aR)))) (aJ 3))
   (aQ (bh (cj (ao (aj 0) (ao (aj 1) (ao (aq aF.up cG (aq aF.up dX aA (aj 2)) aA) aR)))) (aJ 4))
   (aQ (bh (cj (ao (aj 1) (ao (aq aF.up cG aA (aj 2)) aR))) (aJ 5))
   (aQ (d8 (aZ (aq aH.up mW (bB (aq aF.up jm (aj 5) aA)) (bB aA)))
    (bh (aq aF.up o9 (aj 3) (cj (ao (aj 0) (ao (aq aF.up cG (aj 1) aA) (ao (aq aF.up dX aA (aj 2)) aR))))) (aJ 3))
    bZ)
   (aQ (d8 (aZ (aq aH.up mW (bB (aq aF.up jm (aq aF.up Gq (aj 5) aA) aA)) (bB aA)))
    (jQ (nT (ao (aq aF.up pP (aq aF.up pP (aq aF.up Gr aA (aq aF.up dX (aq aF.up cI (aj 0) aA) (aq aF.up cI (aj 0) aA))) aA) (aj 3)) (ao (aj 3) aR))))
    bZ)
   (jQ (nT (ao (aq aF.up pP (aj 4) (aq aF.up o9 (aj 4) (aj 3))) (ao (aj 3) aR)))))))))
theorem lG:bJ ["_law_stroke","_law_way","_law_line","_law_first","_law_last"] ["_law_stroke"] (aM (top 30)):=⟨rfl,rfl,rfl,by decide +kernel,rfl,by decide +kernel,by decide +kernel⟩
theorem Kc(T:Txt mg)(D:bH K mg "_law_cells" (top 30) ["_law_stroke"]):FnAt P w K mg base "_law_cells" 1 ["_law_stroke"] (spO K XR0 jU):=by
 refine D.ok lG (λvs H Q E h=>lW h λps r e=>match ps,e with|[_],_=>rfl) (λf cdv A outer s H vs Q E hr h=>?_)
 refine⟨_,(aB (Cv (pv 0) (xP (n:=4) rfl (cB (bN (i:=1) lG.nd rfl (Or.inl rfl)) (cB (bN (i:=2) lG.nd rfl (Or.inr rfl)) (cB (bN (i:=3) lG.nd rfl (Or.inl rfl)) (cB (bN (i:=4) lG.nd rfl (Or.inl rfl)) jM))))))
   (aB (dZ (bj (dU hr) (pv 1) mQ (bI _))
    (aP (bw (gC ["_law_place","_law_line"] [none,some 2] rfl (m7 rfl T.jW (ak (pv 3) (ak (aO bu (pv 4) au) aL))) (λ_ _ _ _ _=>(di (i:=0) (by decide +kernel) rfl rfl)) (λ_ _ _ _ _=>rW) (λ_ _ _ _ _=>(d7 (ak (pvl 0) (ak (pvf 1) aL)))))))
    bY)
   (aP (bw (gC ["_law_place","_law_line"] [none,some 2] rfl (m7 rfl T.jW (ak (pv 3) (ak (aO bu (pv 4) au) aL))) (λ_ _ _ _ _=>(di (i:=0) (by decide +kernel) rfl rfl)) (λ_ _ _ _ _=>rW) (λ_ _ _ _ _=>(d7 (ak (pvf 1) (ak (pvl 0) aL))))))))),lV (b:=jT) (k:=1) (n:=4) rfl (λps r e=>match ps,e with|[_],e=>⟨rfl,e⟩) h λio H0 F0 hio=>?_⟩
 exact(aQ (bh (aj 0) (pL (cC (aJ 1) (cC (aJ 2) (cC (aJ 3) (cC (aJ 4) jP))))))
   (aQ (d8 (aZ (aq aH.up mW (bO 1) (bB gO)))
    (jQ (lU (um (ao (aj 3) (ao (aq aF.up cG (aj 4) aA) aR))) (aJ 0) (dY 0) sE (fJ (ao (aj 0) (ao (aj 1) aR)))))
    bZ)
   (jQ (lU (um (ao (aj 3) (ao (aq aF.up cG (aj 4) aA) aR))) (aJ 0) (dY 0) sE (fJ (ao (aj 1) (ao (aj 0) aR)))))))
theorem iM:bJ ["_law_size_here","_law_stroke","_law_part","_law_lines","_law_places"] ["_law_size_here","_law_stroke"] (aM (top 31)):=⟨rfl,rfl,rfl,by decide +kernel,rfl,by decide +kernel,by decide +kernel⟩
theorem zW(T:Txt mg)(D:bH K mg "_law_is_stroke" (top 31) ["_law_size_here","_law_stroke"]):FnAt P w K mg base "_law_is_stroke" 1 ["_law_size_here","_law_stroke"] (spM K XR0 gh):=by
 refine D.ok iM (λvs H Q E h=>dO h λps r e=>match ps,e with|[_,_],_=>rfl) (λf cdv A outer s H vs Q E hr h=>?_)
 refine⟨_,(aB (dZ (PW.pt (qX (jA (jz (cu kI rfl T.eQ (by decide +kernel) (ak (pv 1) (ak (xX rfl T.Fe (n:="tuple") (by decide +kernel)) aL))))) (qX (bj (Dj hr) (cu fH rfl T.qG (by decide +kernel) (ak (pv 1) aL)) au (bI _)) (vG (bj (Bc hr) (bA aY (pv 1) au (λ_ _=>rfl)) (d7 (ak mQ (ak mQ aL))) (by with_unfolding_all rfl))))))
    (aP (bw lM))
    bY)
   (aB (gr ZaI rfl (gF (FT V3 (pv 1) (Kw au) Kv)) (bN (i:=2) iM.nd rfl (Or.inl rfl))
    (aP (dZ (PW.pt (qX (jA (jz (cu kI rfl T.eQ (by decide +kernel) (ak (pv 2) (ak (xX rfl T.RM (n:="int") (by decide +kernel)) aL))))) (qX (jz (cu kI rfl T.eQ (by decide +kernel) (ak (pv 2) (ak (xX rfl T.Xj (n:="bool") (by decide +kernel)) aL)))) (vG (bj mU (pv 2) au (bI _))))))
     (aP (bw lM))
     bY)))
   (aB (aX (i:=3) iM.nd rfl (Or.inl rfl) (bA aY (mR (ak (bA aY (pv 0) au (λ_ _=>rfl)) (ak (bA aY (pv 0) au (λ_ _=>rfl)) aL))) (qK An rfl T.RM (by decide +kernel) (ak (jN (dU hr) (bA aY (pv 1) au (λ_ _=>rfl)) mQ (bI _)) aL)) (λ_ _=>rfl)))
   (aB (aX (i:=4) iM.nd rfl (Or.inl rfl) (bA aY (mR (ak (bA aY (pv 0) au (λ_ _=>rfl)) (ak (bA aY (pv 0) au (λ_ _=>rfl)) aL))) (qK An rfl T.RM (by decide +kernel) (ak (jN (dU hr) (bA aY (pv 1) au (λ_ _=>rfl)) mQ (bI _)) aL)) (λ_ _=>rfl)))
   (aP (bw (Cu (jN mU (bA aY (pv 1) au (λ_ _=>rfl)) (pv 3) (bI _)) (Cu (jN Dl (bA aY (pv 1) au (λ_ _=>rfl)) (bA aY (pv 1) au (λ_ _=>rfl)) (bI _)) (Oh (jN mU (bA aY (pv 1) au (λ_ _=>rfl)) (pv 4) (bI _))))))))))),dN (b:=gf) (k:=2) (n:=3) rfl (λps r e=>match ps,e with|[_,_],e=>⟨rfl,e⟩) h λio H0 F0 hio=>?_⟩
 exact(aQ (d8 (q9 (jE (jD (sG aH.up JG (bO 1) ye))) (q9 (aZ (aq aH.up Th (bB (iY pQ (bO 1))) (bB aA))) (aZ (aq aH.up KH (bB (aq aF.up cI (aj 1) aA)) (bB (fJ (ao gO (ao gO aR))))))))
    (bU lO)
    bZ)
   (aQ (gP (gG (Wi (aj 1) (KN aA) KJ)) (aJ 2)
    (d8 (q9 (jE (jD (sG aH.up JG (bO 2) ye))) (q9 (jD (sG aH.up JG (bO 2) ye)) (aZ (aq aF.up Ab (aj 2) aA))))
     (bU lO)
     bZ))
   (aQ (bh (aq aV.up PL (lQ (nT (ao (aq aF.up cI (aj 0) aA) (ao (aq aF.up cI (aj 0) aA) aR)))) (iY Qc (aq aH.up mW (bB (aq aF.up cI (aj 1) aA)) (bB gO)))) (aJ 3))
   (aQ (bh (aq aV.up PL (lQ (nT (ao (aq aF.up cI (aj 0) aA) (ao (aq aF.up cI (aj 0) aA) aR)))) (iY Qc (aq aH.up mW (bB (aq aF.up cI (aj 1) aA)) (bB gO)))) (aJ 4))
   (bU (Df (aq aF.up Ab (aq aF.up cI (aj 1) aA) (aj 3)) (Df (aq aF.up Tg (aq aF.up cI (aj 1) aA) (aq aF.up cI (aj 1) aA)) (aq aF.up Ab (aq aF.up cI (aj 1) aA) (aj 4)))))))))
theorem iQ:bJ ["_law_size_here","_law_keep","_law_way","_law_column","_law_row","_law_low","_law_high"] ["_law_size_here","_law_keep","_law_way","_law_column","_law_row"] (aM (top 32)):=⟨rfl,rfl,rfl,by decide +kernel,rfl,by decide +kernel,by decide +kernel⟩
theorem RK(T:Txt mg)(D:bH K mg "_law_run" (top 32) ["_law_size_here","_law_keep","_law_way","_law_column","_law_row"]):FnAt P w K mg base "_law_run" 1 ["_law_size_here","_law_keep","_law_way","_law_column","_law_row"] (spM K XR0 eF):=by
 refine D.ok iQ (λvs H Q E h=>dO h λps r e=>match ps,e with|[_,_,_,_,_],_=>rfl) (λf cdv A outer s H vs Q E hr h=>?_)
 refine⟨_,(aB (dZ (bj (dU hr) (pv 2) mQ (bI _))
    (aB (aX (i:=5) iQ.nd rfl (Or.inl rfl) (pv 3))
    (aB (m6 ZaI (PW.pt (Cr (bj FN (pv 5) au (bI _)) (wX (bj (dU hr) (aO jB (aO rQ (pv 1) (aO j7 (aO bu (aO bQ (pv 4) (bA aY (pv 0) au (λ_ _=>rfl))) (pv 5)) au)) au) au (bI _)))))
     (aP (aX (i:=5) iQ.nd rfl (Or.inl rfl) (aO j7 (pv 5) au))))
    (aB (aX (i:=6) iQ.nd rfl (Or.inl rfl) (pv 3))
    (aB (m6 ZaI (PW.pt (Cr (bj mU (aO bu (pv 6) au) (bA aY (pv 0) au (λ_ _=>rfl)) (bI _)) (wX (bj (dU hr) (aO jB (aO rQ (pv 1) (aO bu (aO bu (aO bQ (pv 4) (bA aY (pv 0) au (λ_ _=>rfl))) (pv 6)) au)) au) au (bI _)))))
     (aP (aX (i:=6) iQ.nd rfl (Or.inl rfl) (aO bu (pv 6) au))))
    (aP (bw (d7 (ak mQ (ak (pv 4) (ak (pv 5) (ak (pv 6) aL)))))))))))
    bY)
   (aB (aX (i:=5) iQ.nd rfl (Or.inl rfl) (pv 4))
   (aB (m6 ZaI (PW.pt (Cr (bj FN (pv 5) au (bI _)) (wX (bj (dU hr) (aO jB (aO rQ (pv 1) (aO bu (aO bQ (aO j7 (pv 5) au) (bA aY (pv 0) au (λ_ _=>rfl))) (pv 3))) au) au (bI _)))))
    (aP (aX (i:=5) iQ.nd rfl (Or.inl rfl) (aO j7 (pv 5) au))))
   (aB (aX (i:=6) iQ.nd rfl (Or.inl rfl) (pv 4))
   (aB (m6 ZaI (PW.pt (Cr (bj mU (aO bu (pv 6) au) (bA aY (pv 0) au (λ_ _=>rfl)) (bI _)) (wX (bj (dU hr) (aO jB (aO rQ (pv 1) (aO bu (aO bQ (aO bu (pv 6) au) (bA aY (pv 0) au (λ_ _=>rfl))) (pv 3))) au) au (bI _)))))
    (aP (aX (i:=6) iQ.nd rfl (Or.inl rfl) (aO bu (pv 6) au))))
   (aP (bw (d7 (ak mQ (ak (pv 3) (ak (pv 5) (ak (pv 6) aL)))))))))))),dN (b:=je) (k:=5) (n:=2) rfl (λps r e=>match ps,e with|[_,_,_,_,_],e=>⟨rfl,e⟩) h λio H0 F0 hio=>?_⟩
 exact(aQ (d8 (aZ (aq aH.up mW (bO 2) (bB gO)))
    (aQ (bh (aj 3) (aJ 5))
    (aQ (pN 30 (Dg (aZ (aq aF.up PJ (aj 5) aA)) (aZ (aq aH.up mW (bB (aq aF.up o9 (aq aF.up yp (aj 1) (aq aF.up pP (aq aF.up cG (aq aF.up dX (aj 4) (aq aF.up cI (aj 0) aA)) (aj 5)) aA)) aA)) (bB aA))))
     (bh (aq aF.up pP (aj 5) aA) (aJ 5)))
    (aQ (bh (aj 3) (aJ 6))
    (aQ (pN 30 (Dg (aZ (aq aF.up Ab (aq aF.up cG (aj 6) aA) (aq aF.up cI (aj 0) aA))) (aZ (aq aH.up mW (bB (aq aF.up o9 (aq aF.up yp (aj 1) (aq aF.up cG (aq aF.up cG (aq aF.up dX (aj 4) (aq aF.up cI (aj 0) aA)) (aj 6)) aA)) aA)) (bB aA))))
     (bh (aq aF.up cG (aj 6) aA) (aJ 6)))
    (bU (fJ (ao gO (ao (aj 4) (ao (aj 5) (ao (aj 6) aR))))))))))
    bZ)
   (aQ (bh (aj 4) (aJ 5))
   (aQ (pN 30 (Dg (aZ (aq aF.up PJ (aj 5) aA)) (aZ (aq aH.up mW (bB (aq aF.up o9 (aq aF.up yp (aj 1) (aq aF.up cG (aq aF.up dX (aq aF.up pP (aj 5) aA) (aq aF.up cI (aj 0) aA)) (aj 3))) aA)) (bB aA))))
    (bh (aq aF.up pP (aj 5) aA) (aJ 5)))
   (aQ (bh (aj 4) (aJ 6))
   (aQ (pN 30 (Dg (aZ (aq aF.up Ab (aq aF.up cG (aj 6) aA) (aq aF.up cI (aj 0) aA))) (aZ (aq aH.up mW (bB (aq aF.up o9 (aq aF.up yp (aj 1) (aq aF.up cG (aq aF.up dX (aq aF.up cG (aj 6) aA) (aq aF.up cI (aj 0) aA)) (aj 3))) aA)) (bB aA))))
    (bh (aq aF.up cG (aj 6) aA) (aJ 6)))
   (bU (fJ (ao gO (ao (aj 3) (ao (aj 5) (ao (aj 6) aR)))))))))))
theorem nP:bJ ["_law_size_here","_law_strokes","_law_found","_law_stroke","_law_column","_law_row"] ["_law_size_here","_law_strokes"] (aM (top 33)):=⟨rfl,rfl,rfl,by decide +kernel,rfl,by decide +kernel,by decide +kernel⟩
theorem RL(T:Txt mg)(D:bH K mg "_law_cut" (top 33) ["_law_size_here","_law_strokes"])(Fg:FnAt P w K mg base "_law_cells" 1 ["_law_stroke"] (spO K XR0 jU)):FnAt P w K mg base "_law_cut" 2 ["_law_size_here","_law_strokes"] (spM K XR0 oU):=by
 refine D.ok nP (λvs H Q E h=>dO h λps r e=>match ps,e with|[_,_],_=>rfl) (λf cdv A outer s H vs Q E hr h=>?_)
 refine⟨_,(aB (aX (i:=2) nP.nd rfl (Or.inl rfl) au)
   (aB (gr ZaI rfl (gF (pv 1)) (bN (i:=3) nP.nd rfl (Or.inl rfl))
    (aP (gr ZaI rfl (gF (aW Fg (hr.mono (by decide)) rfl (ak (pv 3) aL))) (xP (n:=2) rfl (cB (bN (i:=4) nP.nd rfl (Or.inl rfl)) (cB (bN (i:=5) nP.nd rfl (Or.inl rfl)) jM)))
     (aP (aX (i:=2) nP.nd rfl (Or.inl rfl) (aO Va (pv 2) (aO xT au (aO bu (aO bQ (pv 5) (bA aY (pv 0) au (λ_ _=>rfl))) (pv 4)))))))))
   (aP (bw (pv 2))))),dN (b:=oR) (k:=2) (n:=4) rfl (λps r e=>match ps,e with|[_,_],e=>⟨rfl,e⟩) h λio H0 F0 hio=>?_⟩
 exact(aQ (bh aA (aJ 2))
   (aQ (gP (gG (aj 1)) (aJ 3)
    (gP (gG (dB (gD (ao (aj 3) aR)))) (pL (cC (aJ 4) (cC (aJ 5) jP)))
     (bh (aq aF.up X8 (aj 2) (aq aF.up Gr aA (aq aF.up cG (aq aF.up dX (aj 5) (aq aF.up cI (aj 0) aA)) (aj 4)))) (aJ 2))))
   (bU (aj 2))))
theorem cY:bJ ["_law_size_here","_law_away","_law_keep","_law_cells_here","_law_known","_law_last","_law_cell_here","_law_column","_law_row","_law_way","_law_run_here"] ["_law_size_here","_law_away","_law_keep","_law_cells_here"] (aM (top 34)):=⟨rfl,rfl,rfl,by decide +kernel,rfl,by decide +kernel,by decide +kernel⟩
theorem Ak(T:Txt mg)(D:bH K mg "_law_is_apart" (top 34) ["_law_size_here","_law_away","_law_keep","_law_cells_here"])(Kg:FnAt P w K mg base "_law_run" 1 ["_law_size_here","_law_keep","_law_way","_law_column","_law_row"] (spM K XR0 eF)):FnAt P w K mg base "_law_is_apart" 2 ["_law_size_here","_law_away","_law_keep","_law_cells_here"] (spM K XR0 gM):=by
 refine D.ok cY (λvs H Q E h=>dO h λps r e=>match ps,e with|[_,_,_,_],_=>rfl) (λf cdv A outer s H vs Q E hr h=>?_)
 refine⟨_,(aB (aX (i:=4) cY.nd rfl (Or.inl rfl) ni)
   (aB (aX (i:=5) cY.nd rfl (Or.inl rfl) (U9 Om au))
   (aB (gr ZaI rfl (gF (pv 3)) (bN (i:=6) cY.nd rfl (Or.inl rfl))
    (aB (dZ (PW.pt (qX (jA (jz (cu kI rfl T.eQ (by decide +kernel) (ak (pv 6) (ak (xX rfl T.Fe (n:="tuple") (by decide +kernel)) aL))))) (vG (bj (Dj hr) (cu fH rfl T.qG (by decide +kernel) (ak (pv 6) aL)) au (bI _)))))
     (aP (bw lM))
     bY)
    (aB (Cv (pv 6) (xP (n:=2) rfl (cB (bN (i:=7) cY.nd rfl (Or.inl rfl)) (cB (bN (i:=8) cY.nd rfl (Or.inl rfl)) jM))))
    (aB (dZ (PW.pt (qX (jA (FP Dl mU au (pv 7) (bA aY (pv 0) au (λ_ _=>rfl)))) (qX (jA (FP Dl mU au (pv 8) (bA aY (pv 0) au (λ_ _=>rfl)))) (vG (bj (dU hr) (aO jB (aO rQ (pv 1) (aO bu (aO bQ (pv 8) (bA aY (pv 0) au (λ_ _=>rfl))) (pv 7))) au) au (bI _))))))
     (aP (bw lM))
     bY)
    (aB (dZ (bj Dl (aO bu (aO bQ (pv 8) (bA aY (pv 0) au (λ_ _=>rfl))) (pv 7)) (pv 5) (bI _))
     (aP (bw lM))
     bY)
    (aB (aX (i:=5) cY.nd rfl (Or.inl rfl) (aO bu (aO bQ (pv 8) (bA aY (pv 0) au (λ_ _=>rfl))) (pv 7)))
    (aP (gr ZaI rfl (gF (d7 (ak mQ (ak mQ aL)))) (bN (i:=9) cY.nd rfl (Or.inl rfl))
     (aB (aX (i:=10) cY.nd rfl (Or.inl rfl) (aW Kg (hr.mono (by decide)) rfl (ak (pv 0) (ak (pv 2) (ak (pv 9) (ak (pv 7) (ak (pv 8) aL)))))))
     (aB (dZ (bj (Qi hr) (pv 10) (pv 4) (by with_unfolding_all rfl))
      (aP (bw lM))
      bY)
     (aP (ud (qZ hr) (pv 4) (pv 10) lM rfl))))))))))))
   (aP (bw lM))))),dN (b:=gJ) (k:=4) (n:=7) rfl (λps r e=>match ps,e with|[_,_,_,_],e=>⟨rfl,e⟩) h λio H0 F0 hio=>?_⟩
 exact(aQ (qM (i:=4) trivial qN)
   (aQ (bh (Qd aA) (aJ 5))
   (aQ (gP (gG (aj 3)) (aJ 6)
    (aQ (d8 (q9 (jE (jD (sG aH.up JG (bO 6) ye))) (aZ (aq aH.up Th (bB (iY pQ (bO 6))) (bB aA))))
     (bU lO)
     bZ)
    (aQ (bh (aj 6) (pL (cC (aJ 7) (cC (aJ 8) jP))))
    (aQ (d8 (q9 (jE (aZ (Gg Tg Ab aA (aj 7) (aq aF.up cI (aj 0) aA)))) (q9 (jE (aZ (Gg Tg Ab aA (aj 8) (aq aF.up cI (aj 0) aA)))) (aZ (aq aH.up mW (bB (aq aF.up o9 (aq aF.up yp (aj 1) (aq aF.up cG (aq aF.up dX (aj 8) (aq aF.up cI (aj 0) aA)) (aj 7))) aA)) (bB aA)))))
     (bU lO)
     bZ)
    (aQ (d8 (aZ (aq aF.up Tg (aq aF.up cG (aq aF.up dX (aj 8) (aq aF.up cI (aj 0) aA)) (aj 7)) (aj 5)))
     (bU lO)
     bZ)
    (aQ (bh (aq aF.up cG (aq aF.up dX (aj 8) (aq aF.up cI (aj 0) aA)) (aj 7)) (aJ 5))
    (gP (gG (fJ (ao gO (ao gO aR)))) (aJ 9)
     (aQ (bh (cj (ao (aj 0) (ao (aj 2) (ao (aj 9) (ao (aj 7) (ao (aj 8) aR)))))) (aJ 10))
     (aQ (d8 (aZ (aq aF.up Vm (aj 10) (eY 4)))
      (bU lO)
      bZ)
     (Dt lO (aj 10)))))))))))
   (bU lO))))
theorem jh:bJ ["_law_size_here","_law_away","_law_keep","_law_found","_law_strokes","_law_cells_here","_law_stroke","_law_k","_law_cut_here"] ["_law_size_here","_law_away","_law_keep","_law_found"] (aM (top 35)):=⟨rfl,rfl,rfl,by decide +kernel,rfl,by decide +kernel,by decide +kernel⟩
theorem Kd(T:Txt mg)(D:bH K mg "_law_right" (top 35) ["_law_size_here","_law_away","_law_keep","_law_found"])(wj:FnAt P w K mg base "_law_is_stroke" 1 ["_law_size_here","_law_stroke"] (spM K XR0 gh))(Kh:FnAt P w K mg base "_law_cut" 2 ["_law_size_here","_law_strokes"] (spM K XR0 oU))(wW:FnAt P w K mg base "_law_is_apart" 2 ["_law_size_here","_law_away","_law_keep","_law_cells_here"] (spM K XR0 gM)):FnAt P w K mg base "_law_right" 3 ["_law_size_here","_law_away","_law_keep","_law_found"] (spM K XR0 iG):=by
 refine D.ok jh (λvs H Q E h=>dO h λps r e=>match ps,e with|[_,_,_,_],_=>rfl) (λf cdv A outer s H vs Q E hr h=>?_)
 refine⟨_,(aB (dZ (PW.pt (qX (jA (jz (cu kI rfl T.eQ (by decide +kernel) (ak (pv 3) (ak (xX rfl T.Fe (n:="tuple") (by decide +kernel)) aL))))) (qX (bj (Dj hr) (cu fH rfl T.qG (by decide +kernel) (ak (pv 3) aL)) au (bI _)) (vG (jA (jz (cu kI rfl T.eQ (by decide +kernel) (ak (bA aY (pv 3) au (λ_ _=>rfl)) (ak (xX rfl T.Ke (n:="list") (by decide +kernel)) aL)))))))))
    (aP (bw lM))
    bY)
   (aB (Cv (pv 3) (xP (n:=2) rfl (cB (bN (i:=4) jh.nd rfl (Or.inl rfl)) (cB (bN (i:=5) jh.nd rfl (Or.inl rfl)) jM))))
   (aB (dZ (PW.pt (qX (jA (jz (cu kI rfl T.eQ (by decide +kernel) (ak (pv 5) (ak (xX rfl T.Ke (n:="list") (by decide +kernel)) aL))))) (vG (bj (Dj hr) (cu fH rfl T.qG (by decide +kernel) (ak (pv 5) aL)) (cu fH rfl T.qG (by decide +kernel) (ak (pv 4) aL)) (bI _)))))
    (aP (bw lM))
    bY)
   (aB (gr ZaI rfl (gF (pv 4)) (bN (i:=6) jh.nd rfl (Or.inl rfl))
    (aP (dZ (jA (jz (aW wj (hr.mono (by decide)) rfl (ak (pv 0) (ak (pv 6) aL)))))
     (aP (bw lM))
     bY)))
   (aB (gr ZaI rfl (m7 rfl T.jW (ak au (ak (cu fH rfl T.qG (by decide +kernel) (ak (pv 4) aL)) aL))) (bN (i:=7) jh.nd rfl (Or.inl rfl))
    (aP (dZ (jA (bj (W0 hr) (bA aY (pv 4) (aO j7 (pv 7) au) (λ_ _=>rfl)) (bA aY (pv 4) (pv 7) (λ_ _=>rfl)) (bI _)))
     (aP (bw lM))
     bY)))
   (aB (aX (i:=8) jh.nd rfl (Or.inl rfl) (aW Kh (hr.mono (by decide)) rfl (ak (pv 0) (ak (pv 4) aL))))
   (aP (bw (Cu (jN (dU hr) (aO jB (pv 8) (pv 1)) (pv 1) (bI _)) (Cu (jN (dU hr) (aO jB (pv 8) (pv 2)) au (bI _)) (Oh (aW wW (hr.mono (by decide)) rfl (ak (pv 0) (ak (pv 1) (ak (pv 2) (ak (pv 5) aL)))))))))))))))),dN (b:=jV) (k:=4) (n:=5) rfl (λps r e=>match ps,e with|[_,_,_,_],e=>⟨rfl,e⟩) h λio H0 F0 hio=>?_⟩
 exact(aQ (d8 (q9 (jE (jD (sG aH.up JG (bO 3) ye))) (q9 (aZ (aq aH.up Th (bB (iY pQ (bO 3))) (bB aA))) (jE (jD (sG aH.up JG (bB (aq aF.up cI (aj 3) aA)) ye)))))
    (bU lO)
    bZ)
   (aQ (bh (aj 3) (pL (cC (aJ 4) (cC (aJ 5) jP))))
   (aQ (d8 (q9 (jE (jD (sG aH.up JG (bO 5) ye))) (aZ (aq aH.up Th (bB (iY pQ (bO 5))) (bB (iY pQ (bO 4))))))
    (bU lO)
    bZ)
   (aQ (gP (gG (aj 4)) (aJ 6)
    (d8 (jE (jD (cj (ao (aj 0) (ao (aj 6) aR)))))
     (bU lO)
     bZ))
   (aQ (gP (um (ao aA (ao (iY pQ (bO 4)) aR))) (aJ 7)
    (d8 (jE (aZ (aq aF.up Yo (aq aF.up cI (aj 4) (aq aF.up pP (aj 7) aA)) (aq aF.up cI (aj 4) (aj 7)))))
     (bU lO)
     bZ))
   (aQ (bh (cj (ao (aj 0) (ao (aj 4) aR))) (aJ 8))
   (bU (Df (aq aH.up mW (bB (aq aF.up o9 (aj 8) (aj 1))) (bO 1)) (Df (aq aH.up mW (bB (aq aF.up o9 (aj 8) (aj 2))) (bB aA)) (cj (ao (aj 0) (ao (aj 1) (ao (aj 2) (ao (aj 5) aR))))))))))))))
theorem Cm:bJ ["_law_size_here","_law_away","_law_keep","_law_found"] ["_law_size_here","_law_away","_law_keep"] (aM (top 36)):=⟨rfl,rfl,rfl,by decide +kernel,rfl,by decide +kernel,by decide +kernel⟩
theorem Od(T:Txt mg)(D:bH K mg "_law_good" (top 36) ["_law_size_here","_law_away","_law_keep"])(gk:FnAt P w K mg base "fewest_strokes" 6 ["size","away","keep"] (spD K XR0 cH))(vD:FnAt P w K mg base "_law_right" 3 ["_law_size_here","_law_away","_law_keep","_law_found"] (spM K XR0 iG)):FnAt P w K mg base "_law_good" 7 ["_law_size_here","_law_away","_law_keep"] (spM K XR0 mL):=by
 refine D.ok Cm (λvs H Q E h=>dO h λps r e=>match ps,e with|[_,_,_],_=>rfl) (λf cdv A outer s H vs Q E hr h=>?_)
 refine⟨_,(aB (aX (i:=3) Cm.nd rfl (Or.inl rfl) (aW gk (hr.mono (by decide)) rfl (ak (pv 0) (ak (pv 1) (ak (pv 2) aL)))))
   (aB (dZ (jA (jz (aW vD (hr.mono (by decide)) rfl (ak (pv 0) (ak (pv 1) (ak (pv 2) (ak (pv 3) aL)))))))
    (aP (bw lM))
    bY)
   (aB (tR (Ky ZbS ZbN PySem.F.type_list_append m8 (bA aY (pv 3) au (λ_ _=>rfl)) (ak Cq aL)))
   (aB (tR (Ky ZbS ZbN PySem.F.type_list_append m8 (bA aY (pv 3) au (λ_ _=>rfl)) (ak Cq aL)))
   (aP (bw (aW vD (hr.mono (by decide)) rfl (ak (pv 0) (ak (pv 1) (ak (pv 2) (ak (aW gk (hr.mono (by decide)) rfl (ak (pv 0) (ak (pv 1) (ak (pv 2) aL)))) aL))))))))))),dN (b:=mK) (k:=3) (n:=1) rfl (λps r e=>match ps,e with|[_,_,_],e=>⟨rfl,e⟩) h λio H0 F0 hio=>?_⟩
 exact(aQ (uB (i:=3) trivial (uz (ao (aj 0) (ao (aj 1) (ao (aj 2) aR)))))
   (aQ (d8 (Yg (i:=3) (jE (jD (cj (ao (aj 0) (ao (aj 1) (ao (aj 2) (ao (aj 3) aR))))))))
    (bU lO)
    bZ)
   (aQ (KZ aA De)
   (aQ (KZ aA De)
   (bU (cj (ao (aj 0) (ao (aj 1) (ao (aj 2) (ao (Qk (uz (ao (aj 0) (ao (aj 1) (ao (aj 2) aR))))) aR))))))))))
theorem tL:bJ ["_law_script","_law_size_here","_law_turns","_law_k","_law_away","_law_keep"] ["_law_script"] (aM (top 37)):=⟨rfl,rfl,rfl,by decide +kernel,rfl,by decide +kernel,by decide +kernel⟩
theorem Xh(T:Txt mg){f:Addr}{fd:FuncData}(F:Fun K "law" "law" (top 37) f fd)(Jf:FnAt P w K mg base "_law_size" 2 ["_law_cell_here"] (spM K XR0 jx))(wI:FnAt P w K mg base "_law_cell" 1 ["_law_script","_law_k"] (spM K XR0 eE))(zZ:FnAt P w K mg base "_law_carving" 3 ["_law_size_here","_law_cell_here","_law_k"] (spO K XR0 fQ))(Jg:FnAt P w K mg base "_law_good" 7 ["_law_size_here","_law_away","_law_keep"] (spM K XR0 mL))(gk:FnAt P w K mg base "fewest_strokes" 6 ["size","away","keep"] (spD K XR0 cH)):z8 P w K mg base CX0 8 f fd ["_law_script"] (spM K XR0 BP):=by
 refine F.ok tL (λvs H Q E h=>dO h λps r e=>match ps,e with|[_],_=>rfl) (λcdv A outer s H vs Q E hr h=>?_)
 refine⟨_,(aB (aX (i:=1) tL.nd rfl (Or.inl rfl) (aW Jf (hr.mono (by decide)) rfl (ak (aW wI (hr.mono (by decide)) rfl (ak (pv 0) (ak au aL))) aL)))
   (aB (aX (i:=2) tL.nd rfl (Or.inl rfl) au)
   (aB (dZ (bj FN (aO bQ (bA aY (pv 1) au (λ_ _=>rfl)) (bA aY (pv 1) au (λ_ _=>rfl))) au (bI _))
    (aP (aX (i:=2) tL.nd rfl (Or.inl rfl) au))
    bY)
   (aB (gr ZaI rfl (qJ rfl T.jW (ak (pv 2) aL)) (bN (i:=3) tL.nd rfl (Or.inl rfl))
    (aB (Cv (aW zZ (hr.mono (by decide)) rfl (ak (pv 1) (ak (aW wI (hr.mono (by decide)) rfl (ak (pv 0) (ak (aO bu au (pv 3)) aL))) (ak (pv 3) aL)))) (WT (n:=2) rfl (cB (bN (i:=4) tL.nd rfl (Or.inl rfl)) (cB (bN (i:=5) tL.nd rfl (Or.inl rfl)) jM))))
    (aP (dZ (jA (jz (aW Jg (hr.mono (by decide)) rfl (ak (pv 1) (ak (pv 4) (ak (pv 5) aL))))))
     (aP (bw lM))
     bY))))
   (aP (bw (jN (dU hr) (aW gk (hr.mono (by decide)) rfl (ak (pv 1) (ak au (ak au aL)))) (d7 (ak (mR aL) (ak (mR aL) aL))) (bI _)))))))),dN (b:=Lz) (k:=1) (n:=5) rfl (λps r e=>match ps,e with|[_],e=>⟨rfl,e⟩) h λio H0 F0 hio=>?_⟩
 exact(aQ (bh (cj (ao (cj (ao (aj 0) (ao aA aR))) aR)) (aJ 1))
   (aQ (bh aA (aJ 2))
   (aQ (d8 (aZ (aq aF.up PJ (aq aF.up dX (aq aF.up cI (aj 1) aA) (aq aF.up cI (aj 1) aA)) aA))
    (bh aA (aJ 2))
    bZ)
   (aQ (gP (w5 (ao (aj 2) aR)) (aJ 3)
    (aQ (bh (dB (gD (ao (aj 1) (ao (cj (ao (aj 0) (ao (aq aF.up cG aA (aj 3)) aR))) (ao (aj 3) aR))))) (WW (cC (aJ 4) (cC (aJ 5) jP))))
    (d8 (jE (jD (cj (ao (aj 1) (ao (aj 4) (ao (aj 5) aR))))))
     (bU lO)
     bZ)))
   (bU (aq aH.up mW (bB (Qk (uz (ao (aj 1) (ao aA (ao aA aR)))))) (bB (fJ (ao (dB (nT aR)) (ao (dB (nT aR)) aR))))))))))
end
theorem Xi{l:PySem.W.OpenLaw}{w:World}{K:Frag}{h:Heap}{mg:Str->Option Value}{fa f0 f1 f2 f3 f4 f5 f6 f7 f8 f9 f10 f11 f12 f13 f14 f15 f16 f17 f18 f19 f20 f21 f22 f23 f24 f25 f26 f27 f28:Addr}(X:K.In h)(G:h.Ns mainGlobals mg)(hfa:mg "law"=some (.ref fa))
  {od0 an0 od1 an1 od2 an2 od3 an3 od4 an4 od5 an5 od6 an6 od7 an7 od8 an8 od9 an9 od10 an10 od11 an11 od12 an12 od13 an13 od14 an14 od15 an15 od16 an16 od17 an17 od18 an18 od19 an19 od20 an20 od21 an21 od22 an22 od23 an23 od24 an24 od25 an25 od26 an26 od27 an27 od28 an28:Option Addr}{sl0 sl1 sl2 sl3 sl4 sl5 sl6 sl7 sl8 sl9 sl10 sl11 sl12 sl13 sl14 sl15 sl16 sl17 sl18 sl19 sl20 sl21 sl22 sl23 sl24 sl25 sl26 sl27 sl28:Array (Option Value)}{oc0 kV0 dc0 pm0 cd0 ct0 oc1 kV1 dc1 pm1 cd1 ct1 oc2 kV2 dc2 pm2 cd2 ct2 oc3 kV3 dc3 pm3 cd3 ct3 oc4 kV4 dc4 pm4 cd4 ct4 oc5 kV5 dc5 pm5 cd5 ct5 oc6 kV6 dc6 pm6 cd6 ct6 oc7 kV7 dc7 pm7 cd7 ct7 oc8 kV8 dc8 pm8 cd8 ct8 oc9 kV9 dc9 pm9 cd9 ct9 oc10 kV10 dc10 pm10 cd10 ct10 oc11 kV11 dc11 pm11 cd11 ct11 oc12 kV12 dc12 pm12 cd12 ct12 oc13 kV13 dc13 pm13 cd13 ct13 oc14 kV14 dc14 pm14 cd14 ct14 oc15 kV15 dc15 pm15 cd15 ct15 oc16 kV16 dc16 pm16 cd16 ct16 oc17 kV17 dc17 pm17 cd17 ct17 oc18 kV18 dc18 pm18 cd18 ct18 oc19 kV19 dc19 pm19 cd19 ct19 oc20 kV20 dc20 pm20 cd20 ct20 oc21 kV21 dc21 pm21 cd21 ct21 oc22 kV22 dc22 pm22 cd22 ct22 oc23 kV23 dc23 pm23 cd23 ct23 oc24 kV24 dc24 pm24 cd24 ct24 oc25 kV25 dc25 pm25 cd25 ct25 oc26 kV26 dc26 pm26 cd26 ct26 oc27 kV27 dc27 pm27 cd27 ct27 oc28 kV28 dc28 pm28 cd28 ct28:Value}{t_COLUMN t_ROW:Tok}
  (a0:nsIn K mainGlobals "place_of"=some (some (.ref f0)))(l0:K.lookup f0=some ⟨oc0,od0,.func (fnOf "place_of" "place_of" (bG (top 4)) (bC (top 4)) (aM (top 4)) .none kV0 dc0 pm0 an0 cd0 ct0),sl0⟩)(c0:codeIn K cd0 "place_of"=true)(k0:keepIn K (.ref f0)=true)
  (a1:nsIn K mainGlobals "has_cell"=some (some (.ref f1)))(l1:K.lookup f1=some ⟨oc1,od1,.func (fnOf "has_cell" "has_cell" (bG (top 5)) (bC (top 5)) (aM (top 5)) .none kV1 dc1 pm1 an1 cd1 ct1),sl1⟩)(c1:codeIn K cd1 "has_cell"=true)(k1:keepIn K (.ref f1)=true)
  (a2:nsIn K mainGlobals "all_cells"=some (some (.ref f2)))(l2:K.lookup f2=some ⟨oc2,od2,.func (fnOf "all_cells" "all_cells" (bG (top 6)) (bC (top 6)) (aM (top 6)) .none kV2 dc2 pm2 an2 cd2 ct2),sl2⟩)(c2:codeIn K cd2 "all_cells"=true)(k2:keepIn K (.ref f2)=true)
  (a3:nsIn K mainGlobals "set_of"=some (some (.ref f3)))(l3:K.lookup f3=some ⟨oc3,od3,.func (fnOf "set_of" "set_of" (bG (top 7)) (bC (top 7)) (aM (top 7)) .none kV3 dc3 pm3 an3 cd3 ct3),sl3⟩)(c3:codeIn K cd3 "set_of"=true)(k3:keepIn K (.ref f3)=true)
  (a4:nsIn K mainGlobals "cells_of"=some (some (.ref f4)))(l4:K.lookup f4=some ⟨oc4,od4,.func (fnOf "cells_of" "cells_of" (bG (top 8)) (bC (top 8)) (aM (top 8)) .none kV4 dc4 pm4 an4 cd4 ct4),sl4⟩)(c4:codeIn K cd4 "cells_of"=true)(k4:keepIn K (.ref f4)=true)
  (a5:nsIn K mainGlobals "walked"=some (some (.ref f5)))(l5:K.lookup f5=some ⟨oc5,od5,.func (fnOf "walked" "walked" (bG (top 10)) (bC (top 10)) (aM (top 10)) .none kV5 dc5 pm5 an5 cd5 ct5),sl5⟩)(c5:codeIn K cd5 "walked"=true)(k5:keepIn K (.ref f5)=true)
  (a6:nsIn K mainGlobals "pair_anew"=some (some (.ref f6)))(l6:K.lookup f6=some ⟨oc6,od6,.func (fnOf "pair_anew" "pair_anew" (bG (top 11)) (bC (top 11)) (aM (top 11)) .none kV6 dc6 pm6 an6 cd6 ct6),sl6⟩)(c6:codeIn K cd6 "pair_anew"=true)(k6:keepIn K (.ref f6)=true)
  (a7:nsIn K mainGlobals "most_pairs"=some (some (.ref f7)))(l7:K.lookup f7=some ⟨oc7,od7,.func (fnOf "most_pairs" "most_pairs" (bG (top 12)) (bC (top 12)) (aM (top 12)) .none kV7 dc7 pm7 an7 cd7 ct7),sl7⟩)(c7:codeIn K cd7 "most_pairs"=true)(k7:keepIn K (.ref f7)=true)
  (a8:nsIn K mainGlobals "short_of_givers"=some (some (.ref f8)))(l8:K.lookup f8=some ⟨oc8,od8,.func (fnOf "short_of_givers" "short_of_givers" (bG (top 13)) (bC (top 13)) (aM (top 13)) .none kV8 dc8 pm8 an8 cd8 ct8),sl8⟩)(c8:codeIn K cd8 "short_of_givers"=true)(k8:keepIn K (.ref f8)=true)
  (a9:nsIn K mainGlobals "lines_of"=some (some (.ref f9)))(l9:K.lookup f9=some ⟨oc9,od9,.func (fnOf "lines_of" "lines_of" (bG (top 17)) (bC (top 17)) (aM (top 17)) .none kV9 dc9 pm9 an9 cd9 ct9),sl9⟩)(c9:codeIn K cd9 "lines_of"=true)(k9:keepIn K (.ref f9)=true)
  (a10:nsIn K mainGlobals "length_of"=some (some (.ref f10)))(l10:K.lookup f10=some ⟨oc10,od10,.func (fnOf "length_of" "length_of" (bG (top 18)) (bC (top 18)) (aM (top 18)) .none kV10 dc10 pm10 an10 cd10 ct10),sl10⟩)(c10:codeIn K cd10 "length_of"=true)(k10:keepIn K (.ref f10)=true)
  (a11:nsIn K mainGlobals "stroke_cells"=some (some (.ref f11)))(l11:K.lookup f11=some ⟨oc11,od11,.func (fnOf "stroke_cells" "stroke_cells" (bG (top 19)) (bC (top 19)) (aM (top 19)) .none kV11 dc11 pm11 an11 cd11 ct11),sl11⟩)(c11:codeIn K cd11 "stroke_cells"=true)(k11:keepIn K (.ref f11)=true)
  (a12:nsIn K mainGlobals "longest_strokes"=some (some (.ref f12)))(l12:K.lookup f12=some ⟨oc12,od12,.func (fnOf "longest_strokes" "longest_strokes" (bG (top 20)) (bC (top 20)) (aM (top 20)) .none kV12 dc12 pm12 an12 cd12 ct12),sl12⟩)(c12:codeIn K cd12 "longest_strokes"=true)(k12:keepIn K (.ref f12)=true)
  (a13:nsIn K mainGlobals "longest_by_cell"=some (some (.ref f13)))(l13:K.lookup f13=some ⟨oc13,od13,.func (fnOf "longest_by_cell" "longest_by_cell" (bG (top 21)) (bC (top 21)) (aM (top 21)) .none kV13 dc13 pm13 an13 cd13 ct13),sl13⟩)(c13:codeIn K cd13 "longest_by_cell"=true)(k13:keepIn K (.ref f13)=true)
  (a14:nsIn K mainGlobals "crossings"=some (some (.ref f14)))(l14:K.lookup f14=some ⟨oc14,od14,.func (fnOf "crossings" "crossings" (bG (top 22)) (bC (top 22)) (aM (top 22)) .none kV14 dc14 pm14 an14 cd14 ct14),sl14⟩)(c14:codeIn K cd14 "crossings"=true)(k14:keepIn K (.ref f14)=true)
  (a15:nsIn K mainGlobals "fewest_strokes"=some (some (.ref f15)))(l15:K.lookup f15=some ⟨oc15,od15,.func (fnOf "fewest_strokes" "fewest_strokes" (bG (top 23)) (bC (top 23)) (aM (top 23)) .none kV15 dc15 pm15 an15 cd15 ct15),sl15⟩)(c15:codeIn K cd15 "fewest_strokes"=true)(k15:keepIn K (.ref f15)=true)
  (a16:nsIn K mainGlobals "_law_cell"=some (some (.ref f16)))(l16:K.lookup f16=some ⟨oc16,od16,.func (fnOf "_law_cell" "_law_cell" (bG (top 25)) (bC (top 25)) (aM (top 25)) .none kV16 dc16 pm16 an16 cd16 ct16),sl16⟩)(c16:codeIn K cd16 "_law_cell"=true)(k16:keepIn K (.ref f16)=true)
  (a17:nsIn K mainGlobals "_law_mixed"=some (some (.ref f17)))(l17:K.lookup f17=some ⟨oc17,od17,.func (fnOf "_law_mixed" "_law_mixed" (bG (top 26)) (bC (top 26)) (aM (top 26)) .none kV17 dc17 pm17 an17 cd17 ct17),sl17⟩)(c17:codeIn K cd17 "_law_mixed"=true)(k17:keepIn K (.ref f17)=true)
  (a18:nsIn K mainGlobals "_law_size"=some (some (.ref f18)))(l18:K.lookup f18=some ⟨oc18,od18,.func (fnOf "_law_size" "_law_size" (bG (top 27)) (bC (top 27)) (aM (top 27)) .none kV18 dc18 pm18 an18 cd18 ct18),sl18⟩)(c18:codeIn K cd18 "_law_size"=true)(k18:keepIn K (.ref f18)=true)
  (a19:nsIn K mainGlobals "_law_set"=some (some (.ref f19)))(l19:K.lookup f19=some ⟨oc19,od19,.func (fnOf "_law_set" "_law_set" (bG (top 28)) (bC (top 28)) (aM (top 28)) .none kV19 dc19 pm19 an19 cd19 ct19),sl19⟩)(c19:codeIn K cd19 "_law_set"=true)(k19:keepIn K (.ref f19)=true)
  (a20:nsIn K mainGlobals "_law_carving"=some (some (.ref f20)))(l20:K.lookup f20=some ⟨oc20,od20,.func (fnOf "_law_carving" "_law_carving" (bG (top 29)) (bC (top 29)) (aM (top 29)) .none kV20 dc20 pm20 an20 cd20 ct20),sl20⟩)(c20:codeIn K cd20 "_law_carving"=true)(k20:keepIn K (.ref f20)=true)
  (a21:nsIn K mainGlobals "_law_cells"=some (some (.ref f21)))(l21:K.lookup f21=some ⟨oc21,od21,.func (fnOf "_law_cells" "_law_cells" (bG (top 30)) (bC (top 30)) (aM (top 30)) .none kV21 dc21 pm21 an21 cd21 ct21),sl21⟩)(c21:codeIn K cd21 "_law_cells"=true)(k21:keepIn K (.ref f21)=true)
  (a22:nsIn K mainGlobals "_law_is_stroke"=some (some (.ref f22)))(l22:K.lookup f22=some ⟨oc22,od22,.func (fnOf "_law_is_stroke" "_law_is_stroke" (bG (top 31)) (bC (top 31)) (aM (top 31)) .none kV22 dc22 pm22 an22 cd22 ct22),sl22⟩)(c22:codeIn K cd22 "_law_is_stroke"=true)(k22:keepIn K (.ref f22)=true)
  (a23:nsIn K mainGlobals "_law_run"=some (some (.ref f23)))(l23:K.lookup f23=some ⟨oc23,od23,.func (fnOf "_law_run" "_law_run" (bG (top 32)) (bC (top 32)) (aM (top 32)) .none kV23 dc23 pm23 an23 cd23 ct23),sl23⟩)(c23:codeIn K cd23 "_law_run"=true)(k23:keepIn K (.ref f23)=true)
  (a24:nsIn K mainGlobals "_law_cut"=some (some (.ref f24)))(l24:K.lookup f24=some ⟨oc24,od24,.func (fnOf "_law_cut" "_law_cut" (bG (top 33)) (bC (top 33)) (aM (top 33)) .none kV24 dc24 pm24 an24 cd24 ct24),sl24⟩)(c24:codeIn K cd24 "_law_cut"=true)(k24:keepIn K (.ref f24)=true)
  (a25:nsIn K mainGlobals "_law_is_apart"=some (some (.ref f25)))(l25:K.lookup f25=some ⟨oc25,od25,.func (fnOf "_law_is_apart" "_law_is_apart" (bG (top 34)) (bC (top 34)) (aM (top 34)) .none kV25 dc25 pm25 an25 cd25 ct25),sl25⟩)(c25:codeIn K cd25 "_law_is_apart"=true)(k25:keepIn K (.ref f25)=true)
  (a26:nsIn K mainGlobals "_law_right"=some (some (.ref f26)))(l26:K.lookup f26=some ⟨oc26,od26,.func (fnOf "_law_right" "_law_right" (bG (top 35)) (bC (top 35)) (aM (top 35)) .none kV26 dc26 pm26 an26 cd26 ct26),sl26⟩)(c26:codeIn K cd26 "_law_right"=true)(k26:keepIn K (.ref f26)=true)
  (a27:nsIn K mainGlobals "_law_good"=some (some (.ref f27)))(l27:K.lookup f27=some ⟨oc27,od27,.func (fnOf "_law_good" "_law_good" (bG (top 36)) (bC (top 36)) (aM (top 36)) .none kV27 dc27 pm27 an27 cd27 ct27),sl27⟩)(c27:codeIn K cd27 "_law_good"=true)(k27:keepIn K (.ref f27)=true)
  (a28:nsIn K mainGlobals "law"=some (some (.ref f28)))(l28:K.lookup f28=some ⟨oc28,od28,.func (fnOf "law" "law" (bG (top 37)) (bC (top 37)) (aM (top 37)) .none kV28 dc28 pm28 an28 cd28 ct28),sl28⟩)(c28:codeIn K cd28 "law"=true)(k28:keepIn K (.ref f28)=true)
  (Kl:nsIn K mainGlobals "bool"=some none)(Km:nsIn K mainGlobals "dict"=some none)(qH:nsIn K mainGlobals "enumerate"=some none)(RQ:nsIn K mainGlobals "int"=some none)(oZ:nsIn K mainGlobals "isinstance"=some none)(RT:nsIn K mainGlobals "len"=some none)(Ko:nsIn K mainGlobals "list"=some none)(Fi:nsIn K mainGlobals "range"=some none)(z6:nsIn K mainGlobals "sorted"=some none)(Fj:nsIn K mainGlobals "tuple"=some none)(RV:nsIn K mainGlobals "zip"=some none)(z7:nsIn K mainGlobals "COLUMN"=some (some (.str "column" t_COLUMN)))(RW:nsIn K mainGlobals "ROW"=some (some (.str "row" t_ROW))) :
  ∃ fd:FuncData,(∀ (s:Shared) (v:Value),BindsTo s fd ⟨[v],[]⟩ [("_law_script",v)])/\∀ base:Heap,K.In base->base.Ns mainGlobals mg->z8 l.prog w K mg base CX0 8 fa fd ["_law_script"] (spM K XR0 BP):=by
 have e:=hfa.symm.trans (ZaC X G a28);cases e;have T:Txt mg:=⟨trivial,Za5 X G Kl,Za5 X G Km,Za5 X G qH,Za5 X G RQ,Za5 X G oZ,Za5 X G RT,Za5 X G Ko,Za5 X G Fi,Za5 X G z6,Za5 X G Fj,Za5 X G RV,⟨_,ZaC X G z7⟩,⟨_,ZaC X G RW⟩⟩;have F0:=cJ (st:=top 4) l0 c0 k0;have D0:bH K mg "place_of" (top 4) ["size","cell"]:=⟨⟨_,_,ZaC X G a0,F0,F0.binds λ_ _ _ _ _ _ us hl=>by obtain⟨_,_,rfl⟩:=zc hl;rfl⟩⟩
 have F1:=cJ (st:=top 5) l1 c1 k1;have D1:bH K mg "has_cell" (top 5) ["size","some","cell"]:=⟨⟨_,_,ZaC X G a1,F1,F1.binds λ_ _ _ _ _ _ us hl=>by obtain⟨_,_,_,rfl⟩:=DW hl;rfl⟩⟩
 have F2:=cJ (st:=top 6) l2 c2 k2;have D2:bH K mg "all_cells" (top 6) ["size"]:=⟨⟨_,_,ZaC X G a2,F2,F2.binds λ_ _ _ _ _ _ us hl=>by obtain⟨_,rfl⟩:=Ny hl;rfl⟩⟩
 have F3:=cJ (st:=top 7) l3 c3 k3;have D3:bH K mg "set_of" (top 7) ["size","cells"]:=⟨⟨_,_,ZaC X G a3,F3,F3.binds λ_ _ _ _ _ _ us hl=>by obtain⟨_,_,rfl⟩:=zc hl;rfl⟩⟩
 have F4:=cJ (st:=top 8) l4 c4 k4;have D4:bH K mg "cells_of" (top 8) ["size","some"]:=⟨⟨_,_,ZaC X G a4,F4,F4.binds λ_ _ _ _ _ _ us hl=>by obtain⟨_,_,rfl⟩:=zc hl;rfl⟩⟩
 have F5:=cJ (st:=top 10) l5 c5 k5;have D5:bH K mg "walked" (top 10) ["wishes","asker_of","starts"]:=⟨⟨_,_,ZaC X G a5,F5,F5.binds λ_ _ _ _ _ _ us hl=>by obtain⟨_,_,_,rfl⟩:=DW hl;rfl⟩⟩
 have F6:=cJ (st:=top 11) l6 c6 k6;have D6:bH K mg "pair_anew" (top 11) ["giver_of","asker_of","came_by","free"]:=⟨⟨_,_,ZaC X G a6,F6,F6.binds λ_ _ _ _ _ _ us hl=>by obtain⟨_,_,_,_,rfl⟩:=QV hl;rfl⟩⟩
 have F7:=cJ (st:=top 12) l7 c7 k7;have D7:bH K mg "most_pairs" (top 12) ["wishes"]:=⟨⟨_,_,ZaC X G a7,F7,F7.binds λ_ _ _ _ _ _ us hl=>by obtain⟨_,rfl⟩:=Ny hl;rfl⟩⟩
 have F8:=cJ (st:=top 13) l8 c8 k8;have D8:bH K mg "short_of_givers" (top 13) ["wishes","giver_of"]:=⟨⟨_,_,ZaC X G a8,F8,F8.binds λ_ _ _ _ _ _ us hl=>by obtain⟨_,_,rfl⟩:=zc hl;rfl⟩⟩
 have F9:=cJ (st:=top 17) l9 c9 k9;have D9:bH K mg "lines_of" (top 17) ["size","kind"]:=⟨⟨_,_,ZaC X G a9,F9,F9.binds λ_ _ _ _ _ _ us hl=>by obtain⟨_,_,rfl⟩:=zc hl;rfl⟩⟩
 have F10:=cJ (st:=top 18) l10 c10 k10;have D10:bH K mg "length_of" (top 18) ["size","kind"]:=⟨⟨_,_,ZaC X G a10,F10,F10.binds λ_ _ _ _ _ _ us hl=>by obtain⟨_,_,rfl⟩:=zc hl;rfl⟩⟩
 have F11:=cJ (st:=top 19) l11 c11 k11;have D11:bH K mg "stroke_cells" (top 19) ["stroke"]:=⟨⟨_,_,ZaC X G a11,F11,F11.binds λ_ _ _ _ _ _ us hl=>by obtain⟨_,rfl⟩:=Ny hl;rfl⟩⟩
 have F12:=cJ (st:=top 20) l12 c12 k12;have D12:bH K mg "longest_strokes" (top 20) ["size","keep","kind","line"]:=⟨⟨_,_,ZaC X G a12,F12,F12.binds λ_ _ _ _ _ _ us hl=>by obtain⟨_,_,_,_,rfl⟩:=QV hl;rfl⟩⟩
 have F13:=cJ (st:=top 21) l13 c13 k13;have D13:bH K mg "longest_by_cell" (top 21) ["size","keep","kind"]:=⟨⟨_,_,ZaC X G a13,F13,F13.binds λ_ _ _ _ _ _ us hl=>by obtain⟨_,_,_,rfl⟩:=DW hl;rfl⟩⟩
 have F14:=cJ (st:=top 22) l14 c14 k14;have D14:bH K mg "crossings" (top 22) ["size","away","keep"]:=⟨⟨_,_,ZaC X G a14,F14,F14.binds λ_ _ _ _ _ _ us hl=>by obtain⟨_,_,_,rfl⟩:=DW hl;rfl⟩⟩
 have F15:=cJ (st:=top 23) l15 c15 k15;have D15:bH K mg "fewest_strokes" (top 23) ["size","away","keep"]:=⟨⟨_,_,ZaC X G a15,F15,F15.binds λ_ _ _ _ _ _ us hl=>by obtain⟨_,_,_,rfl⟩:=DW hl;rfl⟩⟩
 have F16:=cJ (st:=top 25) l16 c16 k16;have D16:bH K mg "_law_cell" (top 25) ["_law_script","_law_k"]:=⟨⟨_,_,ZaC X G a16,F16,F16.binds λ_ _ _ _ _ _ us hl=>by obtain⟨_,_,rfl⟩:=zc hl;rfl⟩⟩
 have F17:=cJ (st:=top 26) l17 c17 k17;have D17:bH K mg "_law_mixed" (top 26) ["_law_cell_here","_law_k"]:=⟨⟨_,_,ZaC X G a17,F17,F17.binds λ_ _ _ _ _ _ us hl=>by obtain⟨_,_,rfl⟩:=zc hl;rfl⟩⟩
 have F18:=cJ (st:=top 27) l18 c18 k18;have D18:bH K mg "_law_size" (top 27) ["_law_cell_here"]:=⟨⟨_,_,ZaC X G a18,F18,F18.binds λ_ _ _ _ _ _ us hl=>by obtain⟨_,rfl⟩:=Ny hl;rfl⟩⟩
 have F19:=cJ (st:=top 28) l19 c19 k19;have D19:bH K mg "_law_set" (top 28) ["_law_size_here","_law_cell_here","_law_k"]:=⟨⟨_,_,ZaC X G a19,F19,F19.binds λ_ _ _ _ _ _ us hl=>by obtain⟨_,_,_,rfl⟩:=DW hl;rfl⟩⟩
 have F20:=cJ (st:=top 29) l20 c20 k20;have D20:bH K mg "_law_carving" (top 29) ["_law_size_here","_law_cell_here","_law_k"]:=⟨⟨_,_,ZaC X G a20,F20,F20.binds λ_ _ _ _ _ _ us hl=>by obtain⟨_,_,_,rfl⟩:=DW hl;rfl⟩⟩
 have F21:=cJ (st:=top 30) l21 c21 k21;have D21:bH K mg "_law_cells" (top 30) ["_law_stroke"]:=⟨⟨_,_,ZaC X G a21,F21,F21.binds λ_ _ _ _ _ _ us hl=>by obtain⟨_,rfl⟩:=Ny hl;rfl⟩⟩
 have F22:=cJ (st:=top 31) l22 c22 k22;have D22:bH K mg "_law_is_stroke" (top 31) ["_law_size_here","_law_stroke"]:=⟨⟨_,_,ZaC X G a22,F22,F22.binds λ_ _ _ _ _ _ us hl=>by obtain⟨_,_,rfl⟩:=zc hl;rfl⟩⟩
 have F23:=cJ (st:=top 32) l23 c23 k23;have D23:bH K mg "_law_run" (top 32) ["_law_size_here","_law_keep","_law_way","_law_column","_law_row"]:=⟨⟨_,_,ZaC X G a23,F23,F23.binds λ_ _ _ _ _ _ us hl=>by obtain⟨_,_,_,_,_,rfl⟩:=YW hl;rfl⟩⟩
 have F24:=cJ (st:=top 33) l24 c24 k24;have D24:bH K mg "_law_cut" (top 33) ["_law_size_here","_law_strokes"]:=⟨⟨_,_,ZaC X G a24,F24,F24.binds λ_ _ _ _ _ _ us hl=>by obtain⟨_,_,rfl⟩:=zc hl;rfl⟩⟩
 have F25:=cJ (st:=top 34) l25 c25 k25;have D25:bH K mg "_law_is_apart" (top 34) ["_law_size_here","_law_away","_law_keep","_law_cells_here"]:=⟨⟨_,_,ZaC X G a25,F25,F25.binds λ_ _ _ _ _ _ us hl=>by obtain⟨_,_,_,_,rfl⟩:=QV hl;rfl⟩⟩
 have F26:=cJ (st:=top 35) l26 c26 k26;have D26:bH K mg "_law_right" (top 35) ["_law_size_here","_law_away","_law_keep","_law_found"]:=⟨⟨_,_,ZaC X G a26,F26,F26.binds λ_ _ _ _ _ _ us hl=>by obtain⟨_,_,_,_,rfl⟩:=QV hl;rfl⟩⟩
 have F27:=cJ (st:=top 36) l27 c27 k27;have D27:bH K mg "_law_good" (top 36) ["_law_size_here","_law_away","_law_keep"]:=⟨⟨_,_,ZaC X G a27,F27,F27.binds λ_ _ _ _ _ _ us hl=>by obtain⟨_,_,_,rfl⟩:=DW hl;rfl⟩⟩
 have F28:=cJ (st:=top 37) l28 c28 k28;refine⟨fnOf "law" "law" (bG (top 37)) (bC (top 37)) (aM (top 37)) .none kV28 dc28 pm28 an28 cd28 ct28,λs v=>.of_eq rfl,λbase _ _=>?_⟩;have G0:=Iu (P:=l.prog) (w:=w) (base:=base) T D0;have G1:=Iw (P:=l.prog) (w:=w) (base:=base) T D1 G0;have G2:=Ex (P:=l.prog) (w:=w) (base:=base) T D2;have G3:=N8 (P:=l.prog) (w:=w) (base:=base) T D3 G0;have G4:=IK (P:=l.prog) (w:=w) (base:=base) T D4 G2 G1;have G5:=Oa (P:=l.prog) (w:=w) (base:=base) T D5;have G6:=Ey (P:=l.prog) (w:=w) (base:=base) T D6;have G7:=Aj (P:=l.prog) (w:=w) (base:=base) T D7 G5 G6;have G8:=tE (P:=l.prog) (w:=w) (base:=base) T D8 G5;have G9:=IW (P:=l.prog) (w:=w) (base:=base) T D9;have G10:=EY (P:=l.prog) (w:=w) (base:=base) T D10;have G11:=wV (P:=l.prog) (w:=w) (base:=base) T D11;have G12:=tG (P:=l.prog) (w:=w) (base:=base) T D12 G10 G11 G1;have G13:=tH (P:=l.prog) (w:=w) (base:=base) T D13 G9 G12 G11;have G14:=Fb (P:=l.prog) (w:=w) (base:=base) T D14 G13 G4;have G15:=vA (P:=l.prog) (w:=w) (base:=base) T D15 G4 G14 G7 G8 G3;have G16:=Ob (P:=l.prog) (w:=w) (base:=base) T D16;have G17:=Ka (P:=l.prog) (w:=w) (base:=base) T D17;have G18:=Oc (P:=l.prog) (w:=w) (base:=base) T D18 G17;have G19:=RJ (P:=l.prog) (w:=w) (base:=base) T D19 G17;have G20:=Fd (P:=l.prog) (w:=w) (base:=base) T D20 G19 G17;have G21:=Kc (P:=l.prog) (w:=w) (base:=base) T D21;have G22:=zW (P:=l.prog) (w:=w) (base:=base) T D22;have G23:=RK (P:=l.prog) (w:=w) (base:=base) T D23;have G24:=RL (P:=l.prog) (w:=w) (base:=base) T D24 G21;have G25:=Ak (P:=l.prog) (w:=w) (base:=base) T D25 G23;have G26:=Kd (P:=l.prog) (w:=w) (base:=base) T D26 G22 G24 G25;have G27:=Od (P:=l.prog) (w:=w) (base:=base) T D27 G15 G26;exact Xh (P:=l.prog) (w:=w) (base:=base) T F28 G18 G16 G20 G27 G15
theorem walk{l:PySem.W.OpenLaw}{q:Program}{loose:List Str}{XP:(Str->Option Value)->Heap->Prop}{YP:World->Heap->Prop}{d:DefRec}{K:Params->Frag}(hn:l.most=some 63)(hdf:d.params.defaults=[])
  (hY:∀ (w:World) (h:Heap),YP w h->(K w.params).In h)
  (F:∀ (w:World) (mg:Str->Option Value) (fa:Addr) (h:Heap),(K w.params).In h->h.Ns mainGlobals mg->mg d.name=some (.ref fa) ->
   ∃ fd:FuncData,(∀ (s:Shared) (u:Value),BindsTo s fd ⟨[u],[]⟩ [("_law_script",u)])/\∀ base:Heap,(K w.params).In base->base.Ns mainGlobals mg->z8 l.prog w (K w.params) mg base CX0 8 fa fd ["_law_script"] (spM (K w.params) XR0 BP))
  (main:∀ ns:List Int,ns.length<=63->BP [.lst (ns.map PV.int)]=some (.ok (.bl true))) :
  PySem.W.WalkO q loose XP YP l.row.toRowW d [] (λf vs=>PySem.call f vs):=
 L2.Sy (n:=63) (k:=8) (x:="_law_script") (CX:=λ_=>CX0) (sp:=λw=>spM (K w.params) XR0 BP) hn (by decide) hdf ⟨rfl,by decide,by decide⟩ hY F (λw H a ns hl _ hS=>⟨[.lst (ns.map PV.int)],H,.ok (.bl true),aU.refl _,bK.nil.cons (.lst hS (bK.CZ (K:=K w.params) (F:=H) ns).1 (bK.CZ ns).2),main ns hl,λv F' H' _ rv=>Rep.iW rv⟩) λ_ _ _ _ _ z=>z
end MM
open PySem PySem.W PyProof.Rows
set_option maxRecDepth 100000 in
set_option maxHeartbeats 0 in
theorem PySem.Challenge.cw_lostblock_k28_whole_fewest_strokes_holds : PySem.Challenge.rw_lostblock_k28_whole_fewest_strokes.Holds := by
 w_on;o_law;o_head (kHook MM.KK [3,52,53,59,60,64,65,71,72,76,77,83,84,90,91,97,98,102,103,109,110,116,117,121,122,126,127,133,134,140,141,145,146,152,153,159,160,166,167,173,174,180,181,185,186,192,193,199,200,206,207,213,214,220,221,227,228,234,235] (λ_=>by kernel_rfl));(case hw=>w_witness2)
 k_fill
 refine MM.walk (l:=PySem.Challenge.rw_lostblock_k28_whole_fewest_strokes) rfl rfl (λw h Y=>PySem.W.kIn_of Y) ?F MM.law_main
 case F=>
  intro w mg fa h KX G hmg;refine' MM.Xi KX G hmg ?a0 ?l0 ?c0 ?k0 ?a1 ?l1 ?c1 ?k1 ?a2 ?l2 ?c2 ?k2 ?a3 ?l3 ?c3 ?k3 ?a4 ?l4 ?c4 ?k4 ?a5 ?l5 ?c5 ?k5 ?a6 ?l6 ?c6 ?k6 ?a7 ?l7 ?c7 ?k7 ?a8 ?l8 ?c8 ?k8 ?a9 ?l9 ?c9 ?k9 ?a10 ?l10 ?c10 ?k10 ?a11 ?l11 ?c11 ?k11 ?a12 ?l12 ?c12 ?k12 ?a13 ?l13 ?c13 ?k13 ?a14 ?l14 ?c14 ?k14 ?a15 ?l15 ?c15 ?k15 ?a16 ?l16 ?c16 ?k16 ?a17 ?l17 ?c17 ?k17 ?a18 ?l18 ?c18 ?k18 ?a19 ?l19 ?c19 ?k19 ?a20 ?l20 ?c20 ?k20 ?a21 ?l21 ?c21 ?k21 ?a22 ?l22 ?c22 ?k22 ?a23 ?l23 ?c23 ?k23 ?a24 ?l24 ?c24 ?k24 ?a25 ?l25 ?c25 ?k25 ?a26 ?l26 ?c26 ?k26 ?a27 ?l27 ?c27 ?k27 ?a28 ?l28 ?c28 ?k28 ?Kl ?Km ?qH ?RQ ?oZ ?RT ?Ko ?Fi ?z6 ?Fj ?RV ?z7 ?RW
  (case a0=>k_is)
  (case l0=>k_is)
  (case c0=>k_is)
  (case k0=>k_is)
  (case a1=>k_is)
  (case l1=>k_is)
  (case c1=>k_is)
  (case k1=>k_is)
  (case a2=>k_is)
  (case l2=>k_is)
  (case c2=>k_is)
  (case k2=>k_is)
  (case a3=>k_is)
  (case l3=>k_is)
  (case c3=>k_is)
  (case k3=>k_is)
  (case a4=>k_is)
  (case l4=>k_is)
  (case c4=>k_is)
  (case k4=>k_is)
  (case a5=>k_is)
  (case l5=>k_is)
  (case c5=>k_is)
  (case k5=>k_is)
  (case a6=>k_is)
  (case l6=>k_is)
  (case c6=>k_is)
  (case k6=>k_is)
  (case a7=>k_is)
  (case l7=>k_is)
  (case c7=>k_is)
  (case k7=>k_is)
  (case a8=>k_is)
  (case l8=>k_is)
  (case c8=>k_is)
  (case k8=>k_is)
  (case a9=>k_is)
  (case l9=>k_is)
  (case c9=>k_is)
  (case k9=>k_is)
  (case a10=>k_is)
  (case l10=>k_is)
  (case c10=>k_is)
  (case k10=>k_is)
  (case a11=>k_is)
  (case l11=>k_is)
  (case c11=>k_is)
  (case k11=>k_is)
  (case a12=>k_is)
  (case l12=>k_is)
  (case c12=>k_is)
  (case k12=>k_is)
  (case a13=>k_is)
  (case l13=>k_is)
  (case c13=>k_is)
  (case k13=>k_is)
  (case a14=>k_is)
  (case l14=>k_is)
  (case c14=>k_is)
  (case k14=>k_is)
  (case a15=>k_is)
  (case l15=>k_is)
  (case c15=>k_is)
  (case k15=>k_is)
  (case a16=>k_is)
  (case l16=>k_is)
  (case c16=>k_is)
  (case k16=>k_is)
  (case a17=>k_is)
  (case l17=>k_is)
  (case c17=>k_is)
  (case k17=>k_is)
  (case a18=>k_is)
  (case l18=>k_is)
  (case c18=>k_is)
  (case k18=>k_is)
  (case a19=>k_is)
  (case l19=>k_is)
  (case c19=>k_is)
  (case k19=>k_is)
  (case a20=>k_is)
  (case l20=>k_is)
  (case c20=>k_is)
  (case k20=>k_is)
  (case a21=>k_is)
  (case l21=>k_is)
  (case c21=>k_is)
  (case k21=>k_is)
  (case a22=>k_is)
  (case l22=>k_is)
  (case c22=>k_is)
  (case k22=>k_is)
  (case a23=>k_is)
  (case l23=>k_is)
  (case c23=>k_is)
  (case k23=>k_is)
  (case a24=>k_is)
  (case l24=>k_is)
  (case c24=>k_is)
  (case k24=>k_is)
  (case a25=>k_is)
  (case l25=>k_is)
  (case c25=>k_is)
  (case k25=>k_is)
  (case a26=>k_is)
  (case l26=>k_is)
  (case c26=>k_is)
  (case k26=>k_is)
  (case a27=>k_is)
  (case l27=>k_is)
  (case c27=>k_is)
  (case k27=>k_is)
  (case a28=>k_is)
  (case l28=>k_is)
  (case c28=>k_is)
  (case k28=>k_is)
  (case Kl=>k_is)
  (case Km=>k_is)
  (case qH=>k_is)
  (case RQ=>k_is)
  (case oZ=>k_is)
  (case RT=>k_is)
  (case Ko=>k_is)
  (case Fi=>k_is)
  (case z6=>k_is)
  (case Fj=>k_is)
  (case RV=>k_is)
  (case z7=>k_is)
  (case RW=>k_is)
#print axioms PySem.Challenge.cw_lostblock_k28_whole_fewest_strokes_holds
