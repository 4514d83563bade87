import PyProof.Rows.All
import Wide.All
import OpenK.AllK
import Wide.FinOn
import Lean
import PyProof.EqAt
import PyProof.EqKinds
import PyProof.TupleCall
import PySem.Challenge.RW_lostblock_k43_plans_refused
set_option Elab.async false
set_option linter.all false
set_option maxRecDepth 100000
def PySem.W.Fast.tw16347936738584895541:=()
def PySem.W.Fast.tw7842132916518960562:=()
def PySem.W.Fast.tw4340085155456159279:=()
def PySem.W.Fast.tw7195985054917686355:=()
def PySem.W.Fast.tw16841700239971564313:=()
def PySem.W.Fast.tw17804286194165617554:=()
def PySem.W.Fast.tw14552633578764164643:=()
def PySem.W.Fast.tw11789508820151557099:=()
def PySem.W.Fast.tw12693264572608770341:=()
def PySem.W.Fast.tw6283605545186375057:=()
def PySem.W.Fast.tw15692228956390287850:=()
def PySem.W.Fast.tw4784081138138244919:=()
def PySem.W.Fast.tw10296972072484243025:=()
def PySem.W.Fast.tw12375232891715279786:=()
def PySem.W.Fast.tw929329687921577264:=()
def PySem.W.Fast.tw7621110396428117765:=()
def PySem.W.Fast.tw4555079152513552863:=()
def PySem.W.Fast.tw6907720019846435777:=()
def PySem.W.Fast.tw9746190789013005239:=()
def PySem.W.Fast.tw11806182691450155139:=()
def PySem.W.Fast.tw13768996036552425434:=()
def PySem.W.Fast.tw14803053133499867788:=()
def PySem.W.Fast.tw1375033861907745581:=()
def PySem.W.Fast.tw11866354206773908284:=()
def PySem.W.Fast.tw7358772752360672978:=()
def PySem.W.Fast.tw1110108344795948049:=()
def PySem.W.Fast.tw9126256083514461806:=()
def PySem.W.Fast.tw9595895451472093044:=()
def PySem.W.Fast.tw8714163749556520563:=()
def PySem.W.Fast.tw9258580947523547105:=()
def PySem.W.Fast.tw816202448677866774:=()
def PySem.W.Fast.tw5471831441579860998:=()
def PySem.W.Fast.tw8096198090471855194:=()
def PySem.W.Fast.tw13780899740205854199:=()
def PySem.W.Fast.tw7229287270340158089:=()
def PySem.W.Fast.tw1391659495270538845:=()
def PySem.W.Fast.tw9638884937947603831:=()
def PySem.W.Fast.tw7980535333345806842:=()
def PySem.W.Fast.tw17325623025689678790:=()
def PySem.W.Fast.tw14102594765030549858:=()
def PySem.W.Fast.tw14087272487110462159:=()
def PySem.W.Fast.tw2952956461225277781:=()
def PySem.W.Fast.tw10156940320613125101:=()
def PySem.W.Fast.tw13326546563635423958:=()
def PySem.W.Fast.tw5063432399368270999:=()
def PySem.W.Fast.tw3504041882504594533:=()
def PySem.W.Fast.tw11138745065703106837:=()
def PySem.W.Fast.tw11495946024771863274:=()
def PySem.W.Fast.tw1689779501657050613:=()
def PySem.W.Fast.tw15623997080306773395:=()
def PySem.W.Fast.tw4222632221885089028:=()
def PySem.W.Fast.tw7945943502697534593:=()
def PySem.W.Fast.tw6100234191088880664:=()
def PySem.W.Fast.tw3793580061830018390:=()
def PySem.W.Fast.tw6777517525277598466:=()
def PySem.W.Fast.tw1522720919502328174:=()
def PySem.W.Fast.tw6047526689996822057:=()
def PySem.W.Fast.tw10301064513703825674:=()
def PySem.W.Fast.tw8106084788441080575:=()
def PySem.W.Fast.tw6767276699124079997:=()
def PySem.W.Fast.tw7509027633365094781:=()
def PySem.W.Fast.tw9930227626780516157:=()
def PySem.W.Fast.tw9277605674721458709:=()
def PySem.W.Fast.tw16260454931382464234:=()
def PySem.W.Fast.tw8322795906614526372:=()
def PySem.W.Fast.tw14598764495481237395:=()
def PySem.W.Fast.tw1776675206519276000:=()
def PySem.W.Fast.tw5303262380315229701:=()
def PySem.W.Fast.tw7408380259790447497:=()
def PySem.W.Fast.tw7396357180996760100:=()
def PySem.W.Fast.tw17838287792379799428:=()
def PySem.W.Fast.tw7022524938715652473:=()
def PySem.W.Fast.tw14651032790604456503:=()
def PySem.W.Fast.tw17636365988975630199:=()
def PySem.W.Fast.tw7709162848393997429:=()
def PySem.W.Fast.tw3356056084792945523:=()
def PySem.W.Fast.tw15065503712443079615:=()
def PySem.W.Fast.tw11429256156041307512:=()
def PySem.W.Fast.tw16855321394130584168:=()
def PySem.W.Fast.tw1287892607142547704:=()
def PySem.W.Fast.tw9505766685800367200:=()
def PySem.W.Fast.tw5082043239877034587:=()
def PySem.W.Fast.tw195643881460524231:=()
def PySem.W.Fast.tw6398523960832633820:=()
def PySem.W.Fast.tw13042363908086110877:=()
def PySem.W.Fast.tw13477502628869509878:=()
def PySem.W.Fast.tw1095659338715259874:=()
def PySem.W.Fast.tw3168550893360854584:=()
def PySem.W.Fast.tw7646983902905314815:=()
def PySem.W.Fast.tw14419237131287572031:=()
def PySem.W.Fast.tw18368282925768416525:=()
def PySem.W.Fast.tw10313163834726345380:=()
def PySem.W.Fast.tw9210864649714639839:=()
def PySem.W.Fast.tw6542758850464151653:=()
def PySem.W.Fast.tw5589240568034556435:=()
def PySem.W.Fast.tw10616713312096919087:=()
def PySem.W.Fast.tw17592547586002498874:=()
local macro_rules|`(command| def $d:declId $s:optDeclSig $v:declVal)=>`(command| noncomputable def $d:declId $s:optDeclSig $v:declVal)
open PySem.W (keepIn fnOf codeIn nsIn)
def Zaa:=@Option.some.inj
def Zab:=@PySem.W.mg_of
def Zac:=@PySem.Heap.get?_push_of_some
def Zad:=@List.getElem?_eq_getElem
def Zae:=@PySem.wpAny_bind
def Zaf:=@List.getElem?_map
def Zag:=@Nat.le_refl
def Zah:=@List.getElem?_set_ne
def Zai:=@PySem.Heap.lt_size
def Zaj:=@List.getElem?_eq_some_iff
def Zak:=@Int.emod_lt_of_pos
def Zal:=@if_neg
def Zam:=@Int.emod_nonneg
def Zan:=@Nat.lt_of_lt_of_le
def Zao:=@if_pos
def Zap:=@List.getElem?_append_left
def Zaq:=@PySem.wpAny_pure
def Zar:=@PySem.Heap.get?_push_size
def Zas:=@decide_eq_false
def Zat:=@PySem.F.slot_list_append
def Zau:=@PySem.F.plainAttrs_list
def Zav:=@List.append_nil
def Zaw:=@List.getElem?_append_right
def Zax:=@List.mem_of_getElem?
def Zay:=@List.map_cons
def Zaz:=@decide_eq_true
def ZaA:=@Nat.ne_of_lt
def ZaB:=@List.mem_cons
def ZaC:=@List.mem_append_right
def ZaD:=@List.mem_singleton
def ZaE:=@PySem.PassesOwn.never
def ZaF:=@Nat.le_trans
def ZaG:=@List.length_cons
def ZaH:=@List.getElem?_eq_none
def ZaI:=@PySem.W.mg_none_of
def ZaJ:=@Int.toNat_natCast
def ZaK:=@List.length_range
def ZaL:=@List.getElem?_set_self
def ZaM:=@Nat.le_of_lt
def ZaN:=@List.replicate_succ
def ZaO:=@List.getElem?_range
def ZaP:=@PySem.Value.ref.inj
def ZaQ:=@List.getD_eq_getElem?_getD
def ZaR:=@List.mem_append
def ZaS:=@List.map_append
def ZaT:=@List.not_mem_nil
def ZaU:=@Int.toNat_of_nonneg
def ZaV:=@PySem.wpAny_mono
def ZaW:=@List.mem_range
def ZaX:=@List.getElem?_replicate
def ZaY:=@PySem.W.kia_one
def ZaZ:=@Int.eq_ofNat_of_zero_le
def Za0:=@List.length_take
def Za1:=@List.all_eq_true
def Za2:=@Nat.lt_irrefl
def Za3:=@List.filterMap_cons_none
def Za4:=@List.filterMap_cons_some
def Za5:=@List.contains_cons
def Za6:=@Ne.symm
def Za7:=@List.drop_zero
def Za8:=@List.map_map
def Za9:=@Array.length_toList
def Zba:=@PyProof.Rows.callWith_type1
def Zbb:=@Array.getD_eq_getD_getElem?
def Zbc:=@PySem.Heap.get?_update_other
def Zbd:=@List.drop_eq_getElem_cons
def Zbe:=@List.getElem?_mapIdx
def Zbf:=@List.flatten_cons
def Zbg:=@PySem.mem_of_lookup
def Zbh:=@Nat.zero_le
def Zbi:=@PySem.F.attr_ValueError
def Zbj:=@List.length_drop
def Zbk:=@List.take_of_length_le
def Zbl:=@List.find?_cons
def Zbm:=@List.cons.injEq
def Zbn:=@List.mem_map
def Zbo:=@List.any_cons
set_option compiler.extract_closed false
set_option bootstrap.genMatcherCode false
set_option genSizeOf false
local macro_rules|`(tactic| omega)=>`(tactic| first|(grind only)|omega (config:={}))
local macro_rules|`(tactic| lia)=>`(tactic| first|lia -verbose|omega (config:={}))
namespace L2
open PySem PySem.Spec PyProof.Rows
noncomputable abbrev Key:=Sum Int Str
def yu:Key->Value->Bool
 |.inl k,v=>Value.isInt k v
 |.inr x,v=>Value.isStrOf x v
def WN(w:World):Key->Int
 |.inl k=>hashInt k
 |.inr x=>hashStr w x
theorem dZ:∀ {k:Key}{v:Value},yu k v=true->(∃ i t,k=Sum.inl i/\v=Value.int i t)\/(∃ x t,k=Sum.inr x/\v=Value.str x t)
 |.inl i,v,h=>by
  obtain⟨t,e⟩:=Value.isInt_shape (k:=i) (v:=v) h;exact .inl ⟨i,t,rfl,e⟩
 |.inr x,v,h=>by
  obtain⟨t,e⟩:=Value.isStrOf_shape (x:=x) (v:=v) h;exact .inr ⟨x,t,rfl,e⟩
theorem Jk(i:Int)(t:Tok):yu (.inl i) (.int i t)=true:=by simp[yu,Value.isInt]
theorem Jl(x:Str)(t:Tok):yu (.inr x) (.str x t)=true:=by simp[yu,Value.isStrOf]
theorem S8(a b:Int):decide ((Sum.inl a:Key)=Sum.inl b)=(a==b):=by
 by_cases e:a=b
 ·subst e;simp
 ·have h:¬(Sum.inl a:Key)=Sum.inl b:=λq=>e (Sum.inl.inj q);rw[Zas h];exact(beq_eq_false_iff_ne.mpr e).symm
theorem S9(a b:Str):decide ((Sum.inr a:Key)=Sum.inr b)=decide (a=b):=by
 by_cases e:a=b
 ·subst e;simp
 ·have h:¬(Sum.inr a:Key)=Sum.inr b:=λq=>e (Sum.inr.inj q);rw[Zas h,Zas e]
theorem Tc(a:Int)(b:Str):decide ((Sum.inl a:Key)=Sum.inr b)=false:=Zas (λq=>nomatch q)
theorem Td(a:Str)(b:Int):decide ((Sum.inr a:Key)=Sum.inl b)=false:=Zas (λq=>nomatch q)
def eQ(prog:Program)(w:World):PySem.KeyKind prog w Key where
 is:=yu
 hash:=WN w
 inj:=λv a b ha hb=>by
  rcases dZ ha with⟨i,t,rfl,rfl⟩|⟨x,t,rfl,rfl⟩
  ·rcases dZ hb with⟨j,u,rfl,e⟩|⟨y,u,rfl,e⟩
   ·injection e with e1 _;rw[e1]
   ·exact nomatch e
  ·rcases dZ hb with⟨j,u,rfl,e⟩|⟨y,u,rfl,e⟩
   ·exact nomatch e
   ·injection e with e1 _;rw[e1]
 byValue:=λk v h=>by
  rcases dZ h with⟨i,t,rfl,rfl⟩|⟨x,t,rfl,rfl⟩<;>rfl
 pyHash:=λhv h=>by
  rcases dZ hv with⟨i,t,rfl,rfl⟩|⟨x,t,rfl,rfl⟩
  ·exact wpAny_pyHash_int h
  ·exact wpAny_pyHash_str h
 eqBool:=λhu hv h=>by
  rcases dZ hu with⟨i,t,rfl,rfl⟩|⟨x,t,rfl,rfl⟩
  ·rcases dZ hv with⟨j,u,rfl,rfl⟩|⟨y,u,rfl,rfl⟩
   ·rw[S8] at h;exact wpAny_eqBool_int h
   ·rw[Tc] at h;exact SeqAt.EqAt.int_str i t y u _ _ _ _ h
  ·rcases dZ hv with⟨j,u,rfl,rfl⟩|⟨y,u,rfl,rfl⟩
   ·rw[Td] at h;exact SeqAt.EqAt.str_int x t j u _ _ _ _ h
   ·rw[S9] at h;exact wpAny_eqBool_str h
 «strs»:=λk x t v h=>by
  rcases dZ h with⟨i,u,rfl,e⟩|⟨y,u,rfl,e⟩
  ·exact nomatch e
  ·injection e with e1 _
   subst e1;cases v<;>rfl
theorem BW(prog:Program)(w:World)(i:Int)(t:Tok):(eQ prog w).is (.inl i) (.int i t)=true:=Jk i t
theorem BX(prog:Program)(w:World)(x:Str)(t:Tok):(eQ prog w).is (.inr x) (.str x t)=true:=Jl x t
inductive V where
 |non|bl (b:Bool)|int (i:Int)|str (x:Str)|byt (b:Array UInt8)|flt (b:UInt64)|ref (a:Addr)|ty (n:String)
 deriving DecidableEq
def RelV:V->Value->Prop
 |.non,u=>u=Value.none
 |.bl b,u=>u=Value.bool b
 |.int i,u=>∃ t,u=Value.int i t
 |.str x,u=>∃ t,u=Value.str x t
 |.byt b,u=>∃ t,u=Value.bytes b t
 |.flt b,u=>∃ t,u=Value.float b t
 |.ref a,u=>u=Value.ref a
 |.ty n,u=>u=Value.type n
noncomputable abbrev Vals:List V->List Value->Prop:=Paired RelV
theorem Vals.length{xs:List V}{us:List Value}(r:Vals xs us):xs.length=us.length:=Paired.length r
theorem Vals.get:∀ {xs:List V}{us:List Value}{i:Nat}{x:V},Vals xs us->xs[i]?=some x->∃ u,us[i]?=some u/\RelV x u
 |_,_,_,_,.nil,e=>by simp at e
 |_,_,0,_,.cons r _,e=>by simp at e;subst e;exact⟨_,rfl,r⟩
 |_,_,i+1,x,.cons _ t,e=>by
  obtain⟨u,h1,h2⟩:=Vals.get (i:=i) (x:=x) t (by simpa using e)
  exact⟨u,by simpa using h1,h2⟩
theorem Vals.append:∀ {xs ys:List V}{us ws:List Value},Vals xs us->Vals ys ws->Vals (xs++ys) (us++ws)
 |_,_,_,_,.nil,s=>s
 |_,_,_,_,.cons r t,s=>.cons r (Vals.append t s)
theorem Vals.take:∀ {xs:List V}{us:List Value} (n:Nat),Vals xs us->Vals (xs.take n) (us.take n)
 |_,_,0,_=>.nil
 |_,_,_+1,.nil=>.nil
 |_,_,n+1,.cons r t=>.cons r (Vals.take n t)
theorem Vals.drop:∀ {xs:List V}{us:List Value} (n:Nat),Vals xs us->Vals (xs.drop n) (us.drop n)
 |_,_,0,r=>r
 |_,_,_+1,.nil=>.nil
 |_,_,n+1,.cons _ t=>Vals.drop n t
theorem Vals.none_of:∀ {xs:List V}{us:List Value}{i:Nat},Vals xs us->xs[i]?=none->us[i]?=none:=λ{xs us i} r e=>by
 have h1:=r.length;have h2:xs.length<=i:=List.getElem?_eq_none_iff.mp e;exact List.getElem?_eq_none_iff.mpr (by omega)
def vy:Option V->Option Value->Prop
 |some v,some u=>RelV v u
 |none,none=>True
 |_,_=>False
def KV{κ:Type}:List (κ×V)->List (κ×Value)->Prop:=Paired λ(p:κ×V) (q:κ×Value)=>p.1=q.1/\RelV p.2 q.2
def kV:Key->V
 |.inl i=>.int i
 |.inr x=>.str x
inductive HO where
 |lst (xs:List V)
 |tup (xs:List V)
 |dK (kvs:List (Key×V))|dT (kvs:List (List Key×V))
 |set (S:Int->Bool) (n:Nat)
 |ins (C dx:Addr) (fs:List (Str×V))
 |own (x:Addr)
 |xd (fs:List (Str×V))
 |met (f x:Addr)
 |rng (lo hi:Int)
 |frz (o:Obj) (u:HO)
 |tbl (ps:Array Value)
 |ext (φ:Heap->Prop)
noncomputable abbrev Hp:=Addr->Option HO
def upd(H:Hp)(a:Addr)(o:HO):Hp:=λb=>if b=a then some o else H b
theorem aX{H:Hp}{a:Addr}{o:HO}:upd H a o a=some o:=by unfold upd;rw[Zao rfl]
theorem aQ{H:Hp}{a b:Addr}{o:HO}(h:b≠a):upd H a o b=H b:=by unfold upd;rw[Zal h]
theorem RM{H:Hp}{a b:Addr}{o u:HO}(h:H a=some o)(h':H b=some u)(d:o≠u):a≠b:=by
 intro e;subst e;rw[h] at h';exact d (Zaa h')
theorem cD{H:Hp}{a b:Addr}{o:HO}(h:H a=some o)(h':H b=none):a≠b:=by
 intro e;subst e;rw[h] at h';cases h'
def gZ(h:Heap)(a:Addr)(items:Array Value):Prop:=IsTup h a items/\∀ o,h.get? a=some o->o.dict=none
theorem gZ.new(h:Heap)(items:Array Value):gZ (h.push { cls:=.type "tuple",data:=.seq items }) h.objs.size items:=⟨IsTup.new h items,λo e=>by rw[Zar _ rfl] at e;cases e;rfl⟩
theorem gZ.mk{h:Heap}{a:Addr}{items:Array Value}{n:Nat}(e:h.get? a=some { cls:=.type "tuple",data:=.seq items n }):gZ h a items:=⟨⟨_,e,rfl,_,rfl⟩,λo q=>by rw[e] at q;cases q;rfl⟩
theorem gZ.lt{h:Heap}{a:Addr}{items:Array Value}(x:gZ h a items):a<h.objs.size:=x.1.lt
theorem gZ.at'{h h':Heap}{a:Addr}{items:Array Value}(x:gZ h a items)(e:∀ o,h.get? a=some o->h'.get? a=some o):gZ h' a items:=by
 obtain⟨⟨o,h1,r⟩,d⟩:=x;exact⟨⟨o,e o h1,r⟩,λu q=>by rw[e o h1] at q;cases q;exact d o h1⟩
section
variable(P:Program)(w:World)
def dX(H:Hp)(h:Heap)(a:Addr):HO->Prop
 |.lst xs=>xs.length<=sizeLine/\∃ (its:List Value) (n:Nat),Vals xs its/\h.get? a=some { cls:=.type "list",data:=.seq its.toArray n }
 |.tup xs=>xs.length<=sizeLine/\∃ its:List Value,Vals xs its/\gZ h a its.toArray
 |.dK kvs=>kvs.length<=sizeLine/\(a==sysModules)=false/\∃ vs,KV kvs vs/\h.DictOf (eQ P w) a vs
 |.dT kvs=>kvs.length<=sizeLine/\(a==sysModules)=false/\∃ xs:List (List Key×Addr×Value),
   Paired (λ(p:List Key×V) (q:List Key×Addr×Value)=>p.1=q.1/\H q.2.1=some (.tup (p.1.map kV))/\RelV p.2 q.2.2) kvs xs /\
   ∃ o es ep,h.get? a=some o/\o.ExactDict/\o.data=.dict es ep/\es.toList=xs.map (entryOfKey (tupleKind (eQ P w)))/\(xs.map (·.1)).Nodup
 |.set S n=>h.SetOf (intKind P w) a S n
 |.ins C dx fs=>H dx=some (.own a)/\fs.length<=1000/\dx≠a/\h.get? a=some (PySem.W.instObj C dx) /\
   ∃ mA,h.Ns1 dx mA/\(∀ f,vy (fs.lookup f) (mA f))/\PySem.Within mA (fs.map (·.1))
 |.own _=>∃ o,h.get? a=some o
 |.xd fs=>∃ mA,h.Ns1 a mA/\∀ f,vy (fs.lookup f) (mA f)
 |.rng lo hi=>∃ t u v,h.get? a=some { cls:=.type "range",data:=.fields #[.int lo t,.int hi u,.int 1 v] }
 |.frz o u=>h.get? a=some o/\dX H h a u
 |.tbl ps=>h.get? a=some { cls:=.none,data:=.fields ps }
 |.met f x=>h.get? a=some (PySem.W.methodObj (.ref f) (.ref x))
 |.ext φ=>φ h/\(∃ o,h.get? a=some o)/\∀ h1 h2:Heap,φ h1->(∀ o,h1.get? a=some o->h2.get? a=some o)->φ h2
def HOk(H:Hp)(h:Heap):Prop:=∀ a o,H a=some o->dX P w H h a o
end
section
variable{P:Program}{w:World}{H H':Hp}{h h':Heap}{a:Addr}{o:HO}
theorem dX.lt(x:dX P w H h a o):a<h.objs.size:=by
 cases o with
 |lst xs=>obtain⟨_,_,_,_,e⟩:=x;exact Zai e
 |tup xs=>obtain⟨_,_,_,p⟩:=x;exact p.lt
 |dK kvs=>obtain⟨_,_,_,_,o,_,_,e,_⟩:=x;exact Zai e
 |dT kvs=>obtain⟨_,_,_,_,o,_,_,e,_⟩:=x;exact Zai e
 |set S n=>obtain⟨o,_,_,_,e,_⟩:=x;exact Zai e
 |ins C dx fs=>obtain⟨_,_,_,e,_⟩:=x;exact Zai e
 |own y=>obtain⟨_,e⟩:=x;exact Zai e
 |xd fs=>obtain⟨_,⟨_,_,_,e,_⟩,_⟩:=x;exact Zai e
 |rng lo hi=>obtain⟨_,_,_,e⟩:=x;exact Zai e
 |frz ob u=>obtain⟨e,_⟩:=x;exact Zai e
 |tbl ps=>exact Zai (show h.get? a=some _ from x)
 |met f y=>exact Zai (show h.get? a=some _ from x)
 |ext φ=>obtain⟨_,⟨_,e⟩,_⟩:=x;exact Zai e
theorem Paired.Te{α β:Type}{F G:α->β->Prop}:∀ {l₁:List α}{l₂:List β},Paired F l₁ l₂->(∀ a b,F a b->G a b)->Paired G l₁ l₂
 |_,_,.nil,_=>.nil
 |_,_,.cons r t,f=>.cons (f _ _ r) (Paired.Te t f)
theorem dX.stay(x:dX P w H h a o)(k:∀ b u,(b=a\/H b=some (.own a))->h.get? b=some u->h'.get? b=some u)
  (ho:∀ b,H b=some (.own a)->H' b=some (.own a))(ht:∀ b xs,H b=some (.tup xs)->H' b=some (.tup xs)):dX P w H' h' a o:=by
 induction o with
 |lst xs=>obtain⟨z,its,n,r,e⟩:=x;exact⟨z,its,n,r,k _ _ (.inl rfl) e⟩
 |tup xs=>obtain⟨z,its,r,c⟩:=x;exact⟨z,its,r,c.at' λo e=>k _ _ (.inl rfl) e⟩
 |dK kvs=>obtain⟨z,y,vs,r,ob,es,ep,e,c⟩:=x;exact⟨z,y,vs,r,ob,es,ep,k _ _ (.inl rfl) e,c⟩
 |dT kvs=>
  obtain⟨z,y,xs,r,ob,es,ep,e,c⟩:=x;exact⟨z,y,xs,Paired.Te r λp q z=>⟨z.1,ht _ _ z.2.1,z.2.2⟩,ob,es,ep,k _ _ (.inl rfl) e,c⟩
 |set S n=>obtain⟨ob,es,ep,t,e,c⟩:=x;exact⟨ob,es,ep,t,k _ _ (.inl rfl) e,c⟩
 |ins C dx fs=>
  obtain⟨d,z,ne,e,mA,⟨od,es,ep,e2,c⟩,r⟩:=x;exact⟨ho _ d,z,ne,k _ _ (.inl rfl) e,mA,⟨od,es,ep,k _ _ (.inr d) e2,c⟩,r⟩
 |own y=>obtain⟨ob,e⟩:=x;exact⟨ob,k _ _ (.inl rfl) e⟩
 |xd fs=>obtain⟨mA,⟨od,es,ep,e,c⟩,r⟩:=x;exact⟨mA,⟨od,es,ep,k _ _ (.inl rfl) e,c⟩,r⟩
 |rng lo hi=>obtain⟨t,u,v,e⟩:=x;exact⟨t,u,v,k _ _ (.inl rfl) e⟩
 |frz ob u ih=>obtain⟨e,q⟩:=x;exact⟨k _ _ (.inl rfl) e,ih q⟩
 |tbl ps=>
  have e:h.get? a=some { cls:=.none,data:=.fields ps }:=x;show h'.get? a=some { cls:=.none,data:=.fields ps }
  exact k a _ (.inl rfl) e
 |met f y=>
  have e:h.get? a=some (PySem.W.methodObj (.ref f) (.ref y)):=x;show h'.get? a=some (PySem.W.methodObj (.ref f) (.ref y))
  exact k a _ (.inl rfl) e
 |ext φ=>obtain⟨p,⟨o,e⟩,st⟩:=x;exact⟨st _ _ p λo q=>k _ _ (.inl rfl) q,⟨o,k _ _ (.inl rfl) e⟩,st⟩
theorem HOk.lt(x:HOk P w H h)(e:H a=some o):a<h.objs.size:=(x a o e).lt
theorem HOk.fresh(x:HOk P w H h)(e:h.objs.size<=a):H a=none:=by
 cases q:H a with
 |none=>rfl
 |some u=>exact absurd (Zan (x.lt q) e) (Za2 _)
theorem HOk.kept(x:HOk P w H h)(k:∀ b u,h.get? b=some u->h'.get? b=some u):HOk P w H h':=λa o e=>
 (x a o e).stay (λb u _ q=>k b u q) (λ_ q=>q) λ_ _ q=>q
theorem HOk.laid(x:HOk P w H h)(k:∀ b u,h.get? b=some u->h'.get? b=some u)(hp:h.objs.size<=a)(new:dX P w (upd H a o) h' a o):HOk P w (upd H a o) h':=λb u e=>by
 have hn:=x.fresh hp;by_cases hb:b=a
 ·subst hb;rw[aX] at e;cases e;exact new
 ·rw[aQ hb] at e;exact(x b u e).stay (λc v _ q=>k c v q) (λc q=>by rw[aQ (cD q hn)];exact q) λc xs q=>by rw[aQ (cD q hn)];exact q
end
def Rd(H:Hp)(a:Addr)(u:HO):Prop:=H a=some u\/∃ o,H a=some (.frz o u)
theorem Rd.ok{P:Program}{w:World}{H:Hp}{h:Heap}{a:Addr}{u:HO}(r:Rd H a u)(x:HOk P w H h):dX P w H h a u:=by
 rcases r with r|⟨o,r⟩
 ·exact x a u r
 ·obtain⟨_,q⟩:=x a _ r;exact q
def Mut:Option HO->Prop
 |some (.lst _)=>True
 |some (.dK _)=>True
 |some (.dT _)=>True
 |some (.set _ _)=>True
 |some (.ins _ _ _)=>True
 |some (.ext _)=>True
 |_=>False
section
variable{P:Program}{w:World}{H:Hp}{h h':Heap}{x e:Addr}{o':HO}
theorem HOk.write(ok:HOk P w H h)(mu:Mut (H x))(he:e=x\/H e=some (.own x))(k:∀ b u,b≠e->h.get? b=some u->h'.get? b=some u)(heo:∃ u,h'.get? e=some u)
  (new:dX P w (upd H x o') h' x o'):HOk P w (upd H x o') h':=λb u q=>by
 have nown:∀ c y,H c=some (.own y)->c≠x:=λc y r z=>by subst z;rw[r] at mu;exact mu
 have ntup:∀ c xs,H c=some (.tup xs)->c≠x:=λc xs r z=>by subst z;rw[r] at mu;exact mu
 by_cases hb:b=x
 ·subst hb;rw[aX] at q;cases q;exact new
 ·rw[aQ hb] at q;by_cases hbe:b=e
  ·have q':H b=some (.own x):=by
    rcases he with z|z
    ·exact absurd (hbe.trans z) hb
    ·rw[hbe];exact z
   rw[q] at q';cases q';obtain⟨v,hv⟩:=heo;exact⟨v,by rw[hbe];exact hv⟩
  ·refine(ok b u q).stay (λc v hc r=>k c v ?_ r) (λc r=>by rw[aQ (nown c b r)];exact r) λc xs r=>by rw[aQ (ntup c xs r)];exact r
   rcases hc with rfl|hc
   ·exact hbe
   ·rintro rfl;rcases he with z|z
    ·exact nown c b hc z
    ·rw[hc] at z;cases z;exact hb rfl
end
structure Un(fs ex:List Addr)(H H':Hp)(h h':Heap):Prop where
 keep:∀ b o,h.get? b=some o->H b=none->b ∉ fs->b ∉ ex->h'.get? b=some o
 slot:∀ b o,h.get? b=some o->H b=none->b∈fs->b ∉ ex->∃ sl,h'.get? b=some { o with slots:=sl }
 free:∀ b o,h.get? b=some o->H b=none->b ∉ ex->H' b=none
 there:∀ b o,h.get? b=some o->b ∉ ex->∃ o',h'.get? b=some o'
 tups:∀ b xs,H b=some (.tup xs)->H' b=some (.tup xs)
 frzs:∀ b o u,H b=some (.frz o u)->H' b=some (.frz o u)
 tbls:∀ b ps,H b=some (.tbl ps)->∃ more,H' b=some (.tbl (ps++more))
section
variable{fs ex:List Addr}{H H1:Hp}{h h1 h':Heap}{a x e:Addr}{o:HO}
theorem Un.any(u:Un fs ex H H1 h h1){b:Addr}{ob:Obj}(q:h.get? b=some ob)(n:H b=none)(hx:b ∉ ex):∃ sl,h1.get? b=some { ob with slots:=sl }:=by
 by_cases hb:b∈fs
 ·exact u.slot b ob q n hb hx
 ·exact⟨ob.slots,u.keep b ob q n hb hx⟩
theorem Un.kept(k:∀ b u,h.get? b=some u->h'.get? b=some u):Un fs ex H H h h':=
 ⟨λb ob q _ _ _=>k b ob q,λb ob q _ _ _=>⟨ob.slots,k b ob q⟩,λ_ _ _ n _=>n,λb ob q _=>⟨ob,k b ob q⟩,λ_ _ q=>q,λ_ _ _ q=>q,λ_ ps q=>⟨#[],by rw[q];simp⟩⟩
theorem Un.refl:Un fs ex H H h h:=Un.kept λ_ _ q=>q
theorem Un.laid(k:∀ b u,h.get? b=some u->h'.get? b=some u)(hp:h.objs.size<=a)(hn:H a=none):Un fs ex H (upd H a o) h h' where
 keep:=λb u q _ _ _=>k b u q
 slot:=λb u q _ _ _=>⟨u.slots,k b u q⟩
 free:=λb u q n _=>by rw[aQ (ZaA (Zan (Zai q) hp))];exact n
 there:=λb u q _=>⟨u,k b u q⟩
 tups:=λb xs q=>by rw[aQ (cD q hn)];exact q
 frzs:=λb u xs q=>by rw[aQ (cD q hn)];exact q
 tbls:=λb ps q=>⟨#[],by rw[aQ (cD q hn),q];simp⟩
theorem Un.write(mu:Mut (H x))(he:e=x\/H e=some (.own x))(k:∀ b u,b≠e->h.get? b=some u->h'.get? b=some u)(heo:∃ u,h'.get? e=some u):Un fs ex H (upd H x o) h h':=by
 have hx:∀ b,H b=none->b≠x:=λb n z=>by subst z;rw[n] at mu;exact mu
 have hb:∀ b,H b=none->b≠e:=λb n z=>by
  subst z;rcases he with r|r
  ·exact hx b n r
  ·rw[n] at r;cases r
 have hm:∀ b u,H b=some u->¬Mut (some u)->b≠x:=λb u q nm z=>by subst z;rw[q] at mu;exact nm mu
 refine⟨λb u q n _ _=>k b u (hb b n) q,λb u q n _ _=>⟨u.slots,k b u (hb b n) q⟩,λb u q n _=>by rw[aQ (hx b n)];exact n,λb u q _=>?_,
  λb xs q=>by rw[aQ (hm b _ q λz=>z)];exact q,λb u xs q=>by rw[aQ (hm b _ q λz=>z)];exact q,λb ps q=>⟨#[],by rw[aQ (hm b _ q λz=>z),q];simp⟩⟩
 by_cases hbe:b=e
 ·subst hbe;exact heo
 ·exact⟨u,k b u hbe q⟩
end
def trk(h:Heap)(H:Hp):List Addr:=(List.range h.objs.size).filter λa=>(H a).isSome
def zA(h:Heap)(H:Hp):Heap:=PySem.W.hideAll h (trk h H)
theorem Jm(h:Heap)(H:Hp):(zA h H).objs.size=h.objs.size:=PySem.W.hideAll_size _ _
theorem KQ{h:Heap}{H:Hp}{b:Addr}{o:Obj}(e:h.get? b=some o)(n:H b=none):(zA h H).get? b=some o:=
 PySem.W.hideAll_get _ e λhm=>by
  have q:(H b).isSome=true:=(List.mem_filter.mp hm).2;rw[n] at q;simp at q
theorem O9{h:Heap}{H:Hp}{b:Addr}{o:Obj}(e:(zA h H).get? b=some o):h.get? b=some o/\H b=none:=by
 have e':h.get? b=some o:=PySem.W.of_hideAll (trk h H) e;refine⟨e',?_⟩;cases q:H b with
 |none=>rfl
 |some x=>
  have hm:b∈trk h H:=List.mem_filter.mpr ⟨ZaW.mpr (Zai e'),by simp[q]⟩
  have z:(zA h H).get? b=none:=PySem.W.hideAll_none (trk h H) hm;rw[z] at e;cases e
def Pa(g h:Heap)(L:Addr):List (Addr×Obj):=(List.range h.objs.size).filterMap λa=>if a=L\/(g.get? a).isSome=true then none else(h.get? a).map λo=>(a,o)
def rest(g h:Heap)(L d:Addr):List (Addr×Obj):=(Pa g h L).filter λp=>decide (p.1≠d)
structure Mod(K:PySem.W.Frag)(mg:Str->Option Value)(base:Heap):Prop where
 kin:K.In base
 glob:base.Ns mainGlobals mg
 blt:∃ mb,base.Ns builtinsNs mb/\∀ x:Str,x≠"__name__"->mb x=bootBuiltins x
 nolimit:base.NoLimit
structure Cx where
 prog:Program
 w:World
 K:PySem.W.Frag
 mg:Str->Option Value
 base:Heap
 A:Around
 N:List Str
 s₀:Shared
 H₀:Hp
 env:Env
 outer:List Env
 stack:List Env
 ex:List Addr
 fn:Str->Bool
 calm:Bool
 pn:List (Addr×Obj)
 xe:Value->Shared->Prop
def frs(l:List Env):List Addr:=l.filterMap (·.frame)
noncomputable abbrev Cx.fs(X:Cx):List Addr:=frs X.outer
def Vis(sc:Scope)(x:Str):Prop:=sc.names.lookup x=some .local\/sc.names.lookup x=some .cell\/sc.names.lookup x=some .free
def Loc(sc:Scope)(x:Str):Prop:=sc.names.lookup x=some .local\/sc.names.lookup x=some .cell
def Look(env:Env)(h:Heap)(m:Str->Option Value)(x:Str)(u:Value):Prop:=
 (env.kindOf x=some .local/\m x=some u)\/((env.kindOf x=some .cell\/env.kindOf x=some .free)/\∃ c,env.cells.lookup x=some c/\h.IsCell c (some u))
structure Cx.Ok(X:Cx):Prop where
 mod:Mod X.K X.mg X.base
 kind:X.env.scope.kind=.function
 glob:X.env.globals=mainGlobals
 blt:X.env.builtins=builtinsNs
 above:X.s₀.heap.objs.size<=X.env.locals
 inj:∀ x y c,X.env.cells.lookup x=some c->X.env.cells.lookup y=some c->x=y
 has:∀ x,(X.env.kindOf x=some .cell\/X.env.kindOf x=some .free)->∃ c,X.env.cells.lookup x=some c
 cab:∀ x c,X.fn x=true->X.env.cells.lookup x=some c->X.s₀.heap.objs.size<=c
 hd:X.calm=true->X.A.handled=none
 frames:X.A.frames=some X.stack
 stk:X.stack=X.outer\/(X.stack=X.env::X.outer/\X.env.frame=some X.env.locals)
 exf:∀ b∈X.ex,b≠X.env.locals/\∀ x c,X.env.cells.lookup x=some c->c≠b
 bs:∀ b o,X.base.get? b=some o->X.s₀.heap.get? b=some o/\X.H₀ b=none
 bsz:X.base.objs.size<=X.s₀.heap.objs.size
 noex:∀ b o,X.base.get? b=some o->b ∉ X.ex
 exfs:∀ b∈X.ex,b ∉ X.fs
 sU:X.s₀.heap.FunFrames X.base X.outer
 frf:∀ b∈X.fs,X.H₀ b=none
structure Inv(X:Cx)(pins:List (Addr×Obj))(σ:List (Option V))(H:Hp)(s:Shared):Prop where
 ok:X.Ok
 os:s.os=X.s₀.os
 bare:AllBare s.gens
 base:Un X.fs X.ex X.H₀ H X.s₀.heap s.heap
 loc:∃ m,s.heap.Ns X.env.locals m/\∀ (i:Nat) (x:Str) (v:V),X.N[i]?=some x->σ[i]?=some (some v)->Vis X.env.scope x->∃ u,RelV v u/\Look X.env s.heap m x u
 cell:∀ x c,X.env.cells.lookup x=some c->∃ v,s.heap.IsCell c v
 free:H X.env.locals=none
 freeC:∀ x c,X.env.cells.lookup x=some c->H c=none
 pin:∀ p∈X.pn++pins,s.heap.get? p.1=some p.2/\H p.1=none/\p.1≠X.env.locals/\p.1 ∉ X.fs/\∀ v,p.2.data≠.cell v
 hok:HOk X.prog X.w H s.heap
 len:σ.length=X.N.length
section
variable{X:Cx}{pins:List (Addr×Obj)}{σ:List (Option V)}{H H':Hp}{s:Shared}{h':Heap}
theorem Cx.Ok.Tf(ok:X.Ok){b:Addr}{o:Obj}(e:X.base.get? b=some o):b ∉ X.fs:=λhb=>by
 have:=(ok.sU.mem hb).1;rw[e] at this;cases this
theorem Inv.bs(I:Inv X pins σ H s):∀ b o,X.base.get? b=some o->s.heap.get? b=some o/\H b=none:=λb o e=>
 ⟨I.base.keep b o (I.ok.bs b o e).1 (I.ok.bs b o e).2 (I.ok.Tf e) (I.ok.noex b o e),I.base.free b o (I.ok.bs b o e).1 (I.ok.bs b o e).2 (I.ok.noex b o e)⟩
theorem Inv.bk(I:Inv X pins σ H s):∀ b o,X.base.get? b=some o->s.heap.get? b=some o:=λb o e=>(I.bs b o e).1
theorem Inv.mod(I:Inv X pins σ H s):Mod X.K X.mg X.base:=I.ok.mod
theorem Inv.kIn(I:Inv X pins σ H s):X.K.In s.heap:=I.ok.mod.kin.keeps I.bk
theorem Inv.lt(I:Inv X pins σ H s):X.env.locals<s.heap.objs.size:=let⟨_,hn,_⟩:=I.loc;hn.lt
theorem Inv.sz(I:Inv X pins σ H s):X.s₀.heap.objs.size<=s.heap.objs.size:=ZaF I.ok.above (ZaM I.lt)
theorem Inv.WP(I:Inv X pins σ H s){a:Addr}(h:s.heap.objs.size<=a):a ∉ X.fs:=λhb=>by
 obtain⟨_,o,ho,_⟩:=I.ok.sU.mem hb;exact absurd (Zan (Zai ho) (ZaF I.sz h)) (Za2 _)
theorem Inv.cne(I:Inv X pins σ H s):∀ x c,X.env.cells.lookup x=some c->c≠X.env.locals:=λx c e z=>by
 obtain⟨v,o,ho,hd⟩:=I.cell x c e;obtain⟨m,⟨o',es,ep,ho',hd',_⟩,_⟩:=I.loc;rw[z,ho'] at ho;cases ho;rw[hd'] at hd;cases hd
theorem Inv.sU(I:Inv X pins σ H s):s.heap.FunFrames X.base X.outer:=by
 have all:∀ (l:List Env),(∀ b∈frs l,b∈X.fs)->X.s₀.heap.FunFrames X.base l->s.heap.FunFrames X.base l:=by
  intro l;induction l with
  |nil=>intro _ _;trivial
  |cons env r ih=>
   intro hs hl;obtain⟨hk,⟨L,o,hf,hn,ho,hd⟩,hr⟩:=hl;have hL:L∈X.fs:=hs L (by unfold frs;rw[List.filterMap_cons,hf];exact List.mem_cons_self)
   obtain⟨sl,e⟩:=I.base.slot L o ho (I.ok.frf L hL) hL λz=>I.ok.exfs L z hL;exact⟨hk,⟨L,_,hf,hn,e,hd⟩,ih (λb hb=>hs b (by unfold frs;rw[List.filterMap_cons,hf];exact List.mem_cons_of_mem _ hb)) hr⟩
 exact all X.outer (λ_ hb=>hb) I.ok.sU
theorem Inv.stack(I:Inv X pins σ H s):s.heap.FunFrames X.base X.stack:=by
 rcases I.ok.stk with e|⟨e,hf⟩
 ·rw[e];exact I.sU
 ·rw[e];obtain⟨m,hn,_⟩:=I.loc;refine .cons (by rw[I.ok.kind];decide) hf hn ?_ I.sU
  exact Heap.get?_none_of_le (ZaF I.ok.bsz I.ok.above)
theorem Inv.zB(I:Inv X pins σ H s):∀ b∈frs X.stack,b∈X.env.locals::X.fs:=λb hb=>by
 rcases I.ok.stk with e|⟨e,hf⟩
 ·rw[e] at hb;exact List.mem_cons_of_mem _ hb
 ·rw[e] at hb;unfold frs at hb;rw[List.filterMap_cons,hf] at hb;exact hb
theorem Inv.zE(I:Inv X pins σ H s):∀ b∈frs X.stack,H b=none:=λb hb=>by
 rcases ZaB.mp (I.zB b hb) with e|hb
 ·rw[e];exact I.free
 ·obtain⟨_,o,ho,_⟩:=I.ok.sU.mem hb;exact I.base.free b o ho (I.ok.frf b hb) λz=>I.ok.exfs b z hb
theorem Inv.step{g':Array GenState}{t':Nat}{d':Drawn}{ch:List Addr}(I:Inv X pins σ H s)
  (hch:∀ b∈ch,(b∈X.ex\/X.s₀.heap.objs.size<=b)/\b≠X.env.locals/\(∀ x c,X.env.cells.lookup x=some c->c≠b)/\∀ p∈X.pn++pins,p.1≠b)
  (keep:∀ b o,b≠X.env.locals->b ∉ X.fs->b ∉ ch->s.heap.get? b=some o->H b=none->h'.get? b=some o)
  (slot:∀ b o,b≠X.env.locals->b∈X.fs->b ∉ ch->s.heap.get? b=some o->H b=none->∃ sl,h'.get? b=some { o with slots:=sl })(free:∀ b o,b ∉ ch->s.heap.get? b=some o->H b=none->H' b=none)
  (there:∀ b o,b ∉ ch->s.heap.get? b=some o->∃ o',h'.get? b=some o')
  (tups:∀ b xs,H b=some (.tup xs)->H' b=some (.tup xs))(frzs:∀ b o u,H b=some (.frz o u)->H' b=some (.frz o u))(tbls:∀ b ps,H b=some (.tbl ps)->∃ more,H' b=some (.tbl (ps++more)))
  (ns:∀ m,s.heap.Ns X.env.locals m->h'.Ns X.env.locals m)(hok:HOk X.prog X.w H' h')(hg:AllBare g') :
  Inv X pins σ H' { s with heap:=h',gens:=g',drawn:=d',toks:=t' }:=by
 have neL:∀ b o,X.s₀.heap.get? b=some o->b≠X.env.locals:=λb o e=>ZaA (Zan (Zai e) I.ok.above);have neC:∀ b o,X.s₀.heap.get? b=some o->b ∉ X.ex->b ∉ ch:=λb o e hx hb=>by
  rcases(hch b hb).1 with z|z
  ·exact hx z
  ·exact absurd (Zan (Zai e) z) (Za2 _)
 have cellK:∀ x c,X.env.cells.lookup x=some c->∀ v,s.heap.IsCell c v->h'.IsCell c v:=λx c e v ⟨o,ho,hd⟩=>by
  have nch:c ∉ ch:=λz=>(hch c z).2.2.1 x c e rfl;by_cases hc:c∈X.fs
  ·obtain⟨sl,q⟩:=slot c o (I.cne x c e) hc nch ho (I.freeC x c e);exact⟨_,q,hd⟩
  ·exact⟨o,keep c o (I.cne x c e) hc nch ho (I.freeC x c e),hd⟩
 refine⟨I.ok,I.os,hg,⟨λb o e n hb hx=>?_,λb o e n hb hx=>?_,λb o e n hx=>?_,λb o e hx=>?_,λb xs e=>tups b xs (I.base.tups b xs e),λb o xs e=>frzs b o xs (I.base.frzs b o xs e),λb ps e=>?_⟩,?_,λx c e=>?_,?_,λx c e=>?_,λp hp=>?_,hok,I.len⟩
 ·exact keep b o (neL b o e) hb (neC b o e hx) (I.base.keep b o e n hb hx) (I.base.free b o e n hx)
 ·obtain⟨sl,e1⟩:=I.base.slot b o e n hb hx;obtain⟨sl',e2⟩:=slot b _ (neL b o e) hb (neC b o e hx) e1 (I.base.free b o e n hx);exact⟨sl',e2⟩
 ·obtain⟨o',e1⟩:=I.base.there b o e hx;exact free b o' (neC b o e hx) e1 (I.base.free b o e n hx)
 ·obtain⟨o',e1⟩:=I.base.there b o e hx;exact there b o' (neC b o e hx) e1
 ·obtain⟨m1,e1⟩:=I.base.tbls b ps e;obtain⟨m2,e2⟩:=tbls b _ e1;exact⟨m1++m2,by rw[e2,Array.append_assoc]⟩
 ·obtain⟨m,hn,hl⟩:=I.loc;refine⟨m,ns m hn,λi x v e1 e2 e3=>?_⟩;obtain⟨u,r,l⟩:=hl i x v e1 e2 e3;refine⟨u,r,?_⟩;rcases l with l|⟨k,c,e,z⟩
  ·exact .inl l
  ·exact .inr ⟨k,c,e,cellK x c e _ z⟩
 ·obtain⟨v,z⟩:=I.cell x c e;exact⟨v,cellK x c e v z⟩
 ·obtain⟨m,⟨o,_,_,ho,_⟩,_⟩:=I.loc;exact free _ o (λz=>(hch _ z).2.1 rfl) ho I.free
 ·obtain⟨v,o,ho,hd⟩:=I.cell x c e;exact free c o (λz=>(hch c z).2.2.1 x c e rfl) ho (I.freeC x c e)
 ·obtain⟨e,n,ne,nf,d⟩:=I.pin p hp;have nch:p.1 ∉ ch:=λz=>(hch p.1 z).2.2.2 p hp rfl;exact⟨keep p.1 p.2 ne nf nch e n,free p.1 p.2 nch e n,ne,nf,d⟩
theorem Inv.un{t':Nat}(I:Inv X pins σ H s)(u:Un X.fs [] H H' s.heap h')(hok:HOk X.prog X.w H' h'):Inv X pins σ H' { s with heap:=h',toks:=t' }:=by
 obtain⟨m,⟨o,es,ep,ho,r⟩,_⟩:=id I.loc;obtain⟨sl,hL⟩:=u.any ho I.free (by simp)
 exact I.step (g':=s.gens) (d':=s.drawn) (ch:=[]) (λ_ z=>nomatch z) (λb o _ hb _ e n=>u.keep b o e n hb (by simp)) (λb o _ hb _ e n=>u.slot b o e n hb (by simp)) (λb o _ e n=>u.free b o e n (by simp)) (λb o _ e=>u.there b o e (by simp)) u.tups u.frzs u.tbls (λm' hm=>by
  obtain⟨o',es',ep',ho',r'⟩:=hm;rw[ho] at ho';cases ho';exact⟨_,es',ep',hL,r'⟩) hok I.bare
theorem Inv.call{g':Array GenState}{t':Nat}{d':Drawn}{ch:List Addr}(I:Inv X pins σ H s)(u:Un (frs X.stack) ch H H' s.heap h')(hok:HOk X.prog X.w H' h')(hg:AllBare g')
  (hch:∀ b∈ch,(b∈X.ex\/X.s₀.heap.objs.size<=b)/\b≠X.env.locals/\(∀ x c,X.env.cells.lookup x=some c->c≠b)/\∀ p∈X.pn++pins,p.1≠b) :
  Inv X pins σ H' { s with heap:=h',gens:=g',drawn:=d',toks:=t' }:=by
 obtain⟨m,⟨o,es,ep,ho,r⟩,_⟩:=id I.loc;obtain⟨sl,hL⟩:=u.any ho I.free λz=>(hch _ z).2.1 rfl;exact I.step (ch:=ch) hch (λb o hL hb hc e n=>u.keep b o e n (λz=>(ZaB.mp (I.zB b z)).elim hL hb) hc) (λb o _ _ hc e n=>u.any e n hc) (λb o hc e n=>u.free b o e n hc) (λb o hc e=>u.there b o e hc) u.tups u.frzs u.tbls (λm' hm=>by
  obtain⟨o',es',ep',ho',r'⟩:=hm;rw[ho] at ho';cases ho';exact⟨_,es',ep',hL,r'⟩) hok hg
theorem Inv.turned{t':Nat}{it:Addr}(I:Inv X pins σ H s)(k:∀ b o,b≠it->s.heap.get? b=some o->h'.get? b=some o)(hn:H it=none)(hL:it≠X.env.locals)
  (h1:it∈X.ex\/X.s₀.heap.objs.size<=it)(h2:∀ x c,X.env.cells.lookup x=some c->c≠it)(h3:∀ p∈X.pn++pins,p.1≠it):Inv X pins σ H { s with heap:=h',toks:=t' }:=by
 have nit:∀ b u,H b=some u->b≠it:=λb u e z=>by rw[z,hn] at e;cases e
 refine I.step (g':=s.gens) (d':=s.drawn) (ch:=[it]) (λb hb=>?_) (λb o _ _ hc e _=>k b o (λz=>hc (by simp[z])) e) (λb o _ _ hc e _=>⟨o.slots,k b o (λz=>hc (by simp[z])) e⟩) (λ_ _ _ _ n=>n)
  (λb o hc e=>⟨o,k b o (λz=>hc (by simp[z])) e⟩) (λ_ _ e=>e) (λ_ _ _ e=>e) (λb ps e=>⟨#[],by rw[e];simp⟩) (λm hm=>?_) (λb u e=>?_) I.bare
 ·have e:b=it:=by simpa using hb
  subst e;exact⟨h1,hL,h2,h3⟩
 ·obtain⟨o,es,ep,ho,r⟩:=hm;exact⟨o,es,ep,k _ o (Za6 hL) ho,r⟩
 ·refine(I.hok b u e).stay (λc v hc q=>k c v ?_ q) (λ_ q=>q) λ_ _ q=>q;rcases hc with z|z
  ·rw[z];exact nit b u e
  ·exact nit c _ z
theorem Inv.tok(I:Inv X pins σ H s)(t:Nat):Inv X pins σ H { s with toks:=t }:=I.un (h':=s.heap) (t':=t) Un.refl I.hok
theorem Inv.kept{t':Nat}(I:Inv X pins σ H s)(k:∀ b u,s.heap.get? b=some u->h'.get? b=some u):Inv X pins σ H { s with heap:=h',toks:=t' }:=I.un (Un.kept k) (I.hok.kept k)
theorem Inv.laid{a:Addr}{o:HO}{t':Nat}(I:Inv X pins σ H s)(k:∀ b u,s.heap.get? b=some u->h'.get? b=some u)(hp:s.heap.objs.size<=a)(new:dX X.prog X.w (upd H a o) h' a o) :
  Inv X pins σ (upd H a o) { s with heap:=h',toks:=t' }:=I.un (Un.laid k hp (I.hok.fresh hp)) (I.hok.laid k hp new)
theorem Inv.write{x e:Addr}{o:HO}{t':Nat}(I:Inv X pins σ H s)(mu:Mut (H x))(he:e=x\/H e=some (.own x))(k:∀ b u,b≠e->s.heap.get? b=some u->h'.get? b=some u)(heo:∃ u,h'.get? e=some u)
  (new:dX X.prog X.w (upd H x o) h' x o):Inv X pins σ (upd H x o) { s with heap:=h',toks:=t' }:=I.un (Un.write mu he k heo) (I.hok.write mu he k heo new)
theorem Inv.Hs{pins':List (Addr×Obj)}(I:Inv X pins σ H s)(h:∀ p∈pins',s.heap.get? p.1=some p.2/\H p.1=none/\p.1≠X.env.locals/\p.1 ∉ X.fs/\∀ v,p.2.data≠.cell v):Inv X pins' σ H s:=
 ⟨I.ok,I.os,I.bare,I.base,I.loc,I.cell,I.free,I.freeC,λp hp=>(ZaR.mp hp).elim (λz=>I.pin p (List.mem_append_left _ z)) (h p),I.hok,I.len⟩
theorem vZ{N:List Str}(hN:N.Nodup){i j:Nat}{x:Str}(a:N[i]?=some x)(b:N[j]?=some x):i=j:=by
 obtain⟨h1,e1⟩:=Zaj.mp a;obtain⟨h2,e2⟩:=Zaj.mp b;exact(List.getElem_inj hN).mp (e1.trans e2.symm)
theorem Jo{M:Model}{A:Around}{E:Value->Shared->Prop}{i:Nat}{x:Str}{v:V}{u:Value}{Q:Unit->Shared->Prop}(I:Inv X pins σ H s)(hN:X.N.Nodup)(hi:X.N[i]?=some x)(hx:Loc X.env.scope x)(r:RelV v u)
  (h:∀ s',Inv X pins (σ.set i (some v)) H s'->(∃ a,Heap.SameBut a s.heap s'.heap/\(a=X.env.locals\/X.env.cells.lookup x=some a))->Q () s')(hf:X.fn x=true\/X.env.scope.names.lookup x=some .local:=by first|exact .inl rfl|exact .inr rfl|assumption):wpAny M A (storeName X.env x u) Q E s:=by
 obtain⟨m,hn,hl⟩:=id I.loc;have hcls:(X.env.scope.kind==.class||(X.env.scope.kind==.module&&X.env.locals != X.env.globals))=false:=by rw[I.ok.kind];rfl
 have hiσ:i<σ.length:=by rw[I.len];exact(Zaj.mp hi).1
 have cne:=I.cne;have tracked:∀ {a:Addr}{h':Heap},(∃ o,s.heap.get? a=some o/\H a=none)->Heap.SameBut a s.heap h'->HOk X.prog X.w H h':=λ{a h'} ha hs b ob e=>by
  obtain⟨_,_,hfree⟩:=ha;refine(I.hok b ob e).stay (λc w' hc q=>(hs.2 c ?_).trans q) (λ_ q=>q) λ_ _ q=>q;rintro rfl;rcases hc with rfl|hc
  ·rw[hfree] at e;cases e
  ·rw[hfree] at hc;cases hc
 rcases hx with hk|hk
 ·refine wpAny_storeName_local hk hn (λh' hn' hs=>?_) hcls;obtain⟨oL,_,_,hoL,_⟩:=id hn;refine h _ ⟨I.ok,I.os,I.bare,⟨λb o e n hb hx=>?_,λb o e n hb hx=>?_,I.base.free,λb o e hx=>?_,I.base.tups,I.base.frzs,I.base.tbls⟩,⟨_,hn',λj y v' e1 e2 e3=>?_⟩,λy c e=>?_,I.free,I.freeC,λp hp=>?_,tracked ⟨oL,hoL,I.free⟩ hs,by simpa using I.len⟩ ⟨_,hs,.inl rfl⟩
  ·exact(hs.2 b (ZaA (Zan (Zai e) I.ok.above))).trans (I.base.keep b o e n hb hx)
  ·obtain⟨sl,e1⟩:=I.base.slot b o e n hb hx;exact⟨sl,(hs.2 b (ZaA (Zan (Zai e) I.ok.above))).trans e1⟩
  ·obtain⟨o',e1⟩:=I.base.there b o e hx;exact⟨o',(hs.2 b (ZaA (Zan (Zai e) I.ok.above))).trans e1⟩
  ·by_cases hj:j=i
   ·subst hj;rw[hi] at e1;cases e1;rw[ZaL hiσ] at e2;cases e2;exact⟨u,r,.inl ⟨hk,by simp⟩⟩
   ·rw[Zah (Za6 hj)] at e2;obtain⟨u',r',q⟩:=hl j y v' e1 e2 e3;refine⟨u',r',?_⟩;rcases q with⟨k,e⟩|⟨k,c,e,z⟩
    ·refine .inl ⟨k,?_⟩;have:y≠x:=λe=>hj (vZ hN e1 (e▸hi));simp[this,e]
    ·exact .inr ⟨k,c,e,z.sameBut hs (cne y c e)⟩
  ·obtain⟨w',z⟩:=I.cell y c e;exact⟨w',z.sameBut hs (cne y c e)⟩
  ·obtain⟨e,n,ne,nf,d⟩:=I.pin p hp;exact⟨(hs.2 p.1 ne).trans e,n,ne,nf,d⟩
 ·have hfn:X.fn x=true:=by
   rcases hf with z|z
   ·exact z
   ·rw[z] at hk;cases hk
  obtain⟨c,hc⟩:=I.ok.has x (.inl hk);obtain⟨w',z⟩:=I.cell x c hc;refine wpAny_storeName_cell I.ok.kind hk hc z (λh' hc' hs=>?_);obtain⟨oc,hoc,hocd⟩:=id z;refine h { s with heap:=h' } ⟨I.ok,I.os,I.bare,⟨λb o e n hb hx=>?_,λb o e n hb hx=>?_,I.base.free,λb o e hx=>?_,I.base.tups,I.base.frzs,I.base.tbls⟩,⟨m,hn.sameBut hs (Za6 (cne x c hc)),λj y v' e1 e2 e3=>?_⟩,λy c' e=>?_,I.free,I.freeC,λp hp=>?_,tracked ⟨oc,hoc,I.freeC x c hc⟩ hs,by simpa using I.len⟩ ⟨c,hs,.inr hc⟩
  ·exact(hs.2 b (ZaA (Zan (Zai e) (I.ok.cab x c hfn hc)))).trans (I.base.keep b o e n hb hx)
  ·obtain⟨sl,e1⟩:=I.base.slot b o e n hb hx;exact⟨sl,(hs.2 b (ZaA (Zan (Zai e) (I.ok.cab x c hfn hc)))).trans e1⟩
  ·obtain⟨o',e1⟩:=I.base.there b o e hx;exact⟨o',(hs.2 b (ZaA (Zan (Zai e) (I.ok.cab x c hfn hc)))).trans e1⟩
  ·by_cases hj:j=i
   ·subst hj;rw[hi] at e1;cases e1;rw[ZaL hiσ] at e2;cases e2;exact⟨u,r,.inr ⟨.inl hk,c,hc,hc'⟩⟩
   ·rw[Zah (Za6 hj)] at e2;obtain⟨u',r',q⟩:=hl j y v' e1 e2 e3;refine⟨u',r',?_⟩;rcases q with q|⟨k,c',e,z'⟩
    ·exact .inl q
    ·refine .inr ⟨k,c',e,z'.sameBut hs ?_⟩;rintro rfl;exact hj (vZ hN e1 (I.ok.inj _ _ _ e hc▸hi))
  ·by_cases hcc:c'=c
   ·subst hcc;exact⟨_,hc'⟩
   ·obtain⟨w2,z2⟩:=I.cell y c' e;exact⟨w2,z2.sameBut hs hcc⟩
  ·obtain⟨e,n,ne,nf,d⟩:=I.pin p hp;refine⟨(hs.2 p.1 ?_).trans e,n,ne,nf,d⟩;intro q;rw[q,hoc] at e;have q':oc=p.2:=Zaa e;exact d w' (by rw[<-q'];exact hocd)
theorem wg{M:Model}{A:Around}{E:Value->Shared->Prop}{i:Nat}{x:Str}{v:V}{u:Value}{Q:Unit->Shared->Prop}(I:Inv X pins σ H s)(hN:X.N.Nodup)(hi:X.N[i]?=some x)(hx:Loc X.env.scope x)(r:RelV v u)
  (h:∀ s',Inv X pins (σ.set i (some v)) H s'->Q () s')(hf:X.fn x=true\/X.env.scope.names.lookup x=some .local:=by first|exact .inl rfl|exact .inr rfl|assumption):wpAny M A (storeName X.env x u) Q E s:=
 Jo I hN hi hx r (λs' I' _=>h s' I') hf
theorem Inv.call'{s':Shared}{ch:List Addr}(I:Inv X pins σ H s)(ho:s'.os=s.os)(u:Un (frs X.stack) ch H H' s.heap s'.heap)(hok:HOk X.prog X.w H' s'.heap)(hg:AllBare s'.gens)
  (hch:∀ b∈ch,(b∈X.ex\/X.s₀.heap.objs.size<=b)/\b≠X.env.locals/\(∀ x c,X.env.cells.lookup x=some c->c≠b)/\∀ p∈X.pn++pins,p.1≠b):Inv X pins σ H' s':=by
 obtain⟨h',g',d',t',o'⟩:=s';have e:o'=s.os:=ho;subst e;exact I.call (g':=g') (t':=t') (d':=d') u hok hg hch
end
noncomputable abbrev XK:=Value->Option Addr->Hp->Prop
noncomputable abbrev St:=List (Option V)
noncomputable abbrev VK:=V->Hp->Prop
noncomputable abbrev TE:=St->Hp->VK->Prop
noncomputable abbrev TT:=St->Hp->(Bool->Hp->Prop)->Prop
noncomputable abbrev TA:=St->Hp->(List V->Hp->Prop)->Prop
structure Ends where
 nx:St->Hp->Prop
 rt:VK
 bk:St->Hp->Prop:=λ_ _=>False
 ct:St->Hp->Prop:=λ_ _=>False
noncomputable abbrev TS:=Ends->St->Hp->Prop
def EP(X:Cx)(pins:List (Addr×Obj))(σ:St)(Q:VK)(u:Value)(s':Shared):Prop:=∃ v H',Inv X pins σ H' s'/\RelV v u/\Q v H'
def TP(X:Cx)(pins:List (Addr×Obj))(σ:St)(Q:Bool->Hp->Prop)(b:Bool)(s':Shared):Prop:=∃ H',Inv X pins σ H' s'/\Q b H'
def AP(X:Cx)(pins:List (Addr×Obj))(σ:St)(Q:List V->Hp->Prop)(us:List Value)(s':Shared):Prop:=∃ vs H',Inv X pins σ H' s'/\Vals vs us/\Q vs H'
def SP(X:Cx)(pins:List (Addr×Obj))(D:Ends)(f:Flow)(s':Shared):Prop:=
 match f with
 |.next=>∃ σ' H',Inv X pins σ' H' s'/\D.nx σ' H'
 |.brk=>∃ σ' H',Inv X pins σ' H' s'/\D.bk σ' H'
 |.cont=>∃ σ' H',Inv X pins σ' H' s'/\D.ct σ' H'
 |.ret u=>∃ v σ' H',Inv X pins σ' H' s'/\RelV v u/\D.rt v H'
def PE(X:Cx)(e:Expr)(t:TE):Prop:=
 ∀ (pins:List (Addr×Obj)) (s:Shared) (σ:St) (H:Hp) (Q:VK),Inv X pins σ H s->t σ H Q->wpAny (model X.prog X.w) X.A (eval e X.env) (EP X pins σ Q) X.xe s
def PT(X:Cx)(e:Expr)(t:TT):Prop:=
 ∀ (pins:List (Addr×Obj)) (s:Shared) (σ:St) (H:Hp) (Q:Bool->Hp->Prop),Inv X pins σ H s->t σ H Q->wpAny (model X.prog X.w) X.A (isTrue e X.env (eval e X.env)) (TP X pins σ Q) X.xe s
def PW(X:Cx)(e:Expr)(t:TT):Prop:=
 ∀ (whole:Sem Value) (pins:List (Addr×Obj)) (s:Shared) (σ:St) (H:Hp) (Q:Bool->Hp->Prop),Inv X pins σ H s->t σ H Q->wpAny (model X.prog X.w) X.A (isTrue e X.env whole) (TP X pins σ Q) X.xe s
theorem PW.pt{X:Cx}{e:Expr}{t:TT}(h:PW X e t):PT X e t:=h _
def PA(X:Cx)(es:List Expr)(t:TA):Prop:=
 ∀ (pos:Pos) (pins:List (Addr×Obj)) (s:Shared) (σ:St) (H:Hp) (Q:List V->Hp->Prop),Inv X pins σ H s->t σ H Q->wpAny (model X.prog X.w) X.A (spliced (backTo pos (starEach es X.env))) (AP X pins σ Q) X.xe s
def PS(X:Cx)(st:Stmt)(t:TS):Prop:=
 ∀ (pins:List (Addr×Obj)) (s:Shared) (σ:St) (H:Hp) (D:Ends),Inv X pins σ H s->t D σ H->wpAny (model X.prog X.w) X.A (exec st X.env) (SP X pins D) X.xe s
def PSs(X:Cx)(st:List Stmt)(t:TS):Prop:=
 ∀ (pins:List (Addr×Obj)) (s:Shared) (σ:St) (H:Hp) (D:Ends),Inv X pins σ H s->t D σ H->wpAny (model X.prog X.w) X.A (execs st X.env) (SP X pins D) X.xe s
theorem thn{α:Type}{t:Sem α}{Q Q':α->Shared->Prop}{M:Model}{A:Around}{E:Value->Shared->Prop}{s:Shared}(h:wpAny M A t Q E s)(hQ:∀ a s,Q a s->Q' a s):wpAny M A t Q' E s:=ZaV h hQ λ_ _ x=>x
section
variable{X:Cx}
def tM(i:Nat):TE:=λσ H Q=>∃ v,σ[i]?=some (some v)/\Q v H
def tC(v:V):TE:=λ_ H Q=>Q v H
theorem Fi{i:Nat}{x:Str}{pos:Pos}(hN:X.N[i]?=some x)(hv:Vis X.env.scope x)(hd:(x==("__debug__":Str))=false:=by decide)(hcd:(x==("__classdict__":Str))=false:=by decide):PE X (.Name x pos) (tM i):=by
 intro pins s σ H Q I h;obtain⟨v,e,h⟩:=h;obtain⟨m,hn,hl⟩:=I.loc;obtain⟨u,r,l⟩:=hl i x v hN e hv;have fin:EP X pins σ Q u s:=⟨v,H,I,r,h⟩;rcases l with⟨hk,hm⟩|⟨hk,c,hc,hcell⟩
 ·exact wpAny_Name (wpAny_loadName_local I.ok.kind hk hn hm fin) hd
 ·rcases hk with hk|hk
  ·exact wpAny_Name (wpAny_loadName_cell I.ok.kind hk hc hcell fin) hd
  ·exact wpAny_Name (wpAny_loadName_free I.ok.kind hk hc hcell fin hcd) hd
theorem aq{i j pos}:PE X (.Constant (.int i) j pos) (tC (.int i)):=λ_ _ _ H _ I h=>wpAny_Constant_int ⟨.int i,H,I.tok _,⟨_,rfl⟩,h⟩
theorem km{b j pos}:PE X (.Constant (.bool b) j pos) (tC (.bl b)):=λ_ _ _ H _ I h=>Constant_bool ⟨.bl b,H,I,rfl,h⟩
theorem qp{j pos}:PE X (.Constant .none j pos) (tC .non):=λ_ _ _ H _ I h=>Constant_none ⟨.non,H,I,rfl,h⟩
theorem bN{x j pos}:PE X (.Constant (.str x) j pos) (tC (.str x)):=λ_ _ _ H _ I h=>Calls.Constant_str ⟨.str x,H,I.tok _,⟨_,rfl⟩,h⟩
def Gl(X:Cx)(x:Str):Prop:=X.env.kindOf x=some .globalImplicit
theorem tO{E:Value->Shared->Prop}{pins:List (Addr×Obj)}{s:Shared}{σ:St}{H:Hp}{x:Str}{u:Value}{pos:Pos}{Q:Value->Shared->Prop}(I:Inv X pins σ H s)(hg:Gl X x)(hm:X.mg x=some u)(h:Q u s)
  (hd:(x==("__debug__":Str))=false:=by decide):wpAny (model X.prog X.w) X.A (eval (.Name x pos) X.env) Q E s:=
 Calls.Name_function_global I.ok.kind hg (Calls.loadGlobal_global (by rw[I.ok.glob];exact I.mod.glob.keeps I.bk) hm h) hd
theorem uH{E:Value->Shared->Prop}{pins:List (Addr×Obj)}{s:Shared}{σ:St}{H:Hp}{x:Str}{u:Value}{pos:Pos}{Q:Value->Shared->Prop}(I:Inv X pins σ H s)(hg:Gl X x)(hm:X.mg x=none)(hv:bootBuiltins x=some u)(h:Q u s)
  (hn:x≠"__name__":=by decide)(hd:(x==("__debug__":Str))=false:=by decide):wpAny (model X.prog X.w) X.A (eval (.Name x pos) X.env) Q E s:=by
 obtain⟨mb,h1,h2⟩:=I.mod.blt;exact Calls.Name_function_global I.ok.kind hg (Calls.loadGlobal_builtin (by rw[I.ok.glob];exact I.mod.glob.keeps I.bk) hm (by rw[I.ok.blt];exact h1.keeps I.bk) ((h2 x hn).trans hv) h) hd
theorem Ht{x:Str}{v:V}{u:Value}{pos:Pos}(hg:Gl X x)(hm:X.mg x=some u)(r:RelV v u)(hd:(x==("__debug__":Str))=false:=by decide):PE X (.Name x pos) (tC v):=
 λ_ _ _ H _ I h=>tO I hg hm ⟨v,H,I,r,h⟩ hd
theorem Pb{x:Str}{v:V}{u:Value}{pos:Pos}(hg:Gl X x)(hm:X.mg x=none)(hv:bootBuiltins x=some u)(r:RelV v u)(hn:x≠"__name__":=by decide)(hd:(x==("__debug__":Str))=false:=by decide):PE X (.Name x pos) (tC v):=
 λ_ _ _ H _ I h=>uH I hg hm hv ⟨v,H,I,r,h⟩ hn hd
variable{a b:Expr}{ta tb:TE}{pos:Pos}
def tB(t:TE):TT:=λσ H Q=>t σ H λx H1=>∃ c,x=.bl c/\Q c H1
theorem eU{e:Expr}{t:TE}(h:PE X e t)(he:∀ whole,isTrue e X.env whole=(do let v <-whole;standAt e.pos;holding [v] (truthy v)):=by intro _;rfl):PT X e (tB t):=by
 intro pins s σ H Q I hw;refine isTrue_plain (thn (h pins s σ H _ I hw) ?_) (he _);rintro v s1 ⟨x,H1,I1,r1,q1⟩;obtain⟨d,rfl,q⟩:=q1;cases r1;exact wpAny_truthy_bool ⟨H1,I1,q⟩
variable{tA tB':TT}{rest:List Expr}
def Vp(t u:TT):TT:=λσ H Q=>t σ H λc H1=>if c=true then u σ H1 Q else Q false H1
def tOr(t u:TT):TT:=λσ H Q=>t σ H λc H1=>if c=true then Q true H1 else u σ H1 Q
def Vq(t:TT):TT:=λσ H Q=>t σ H λc H1=>Q (!c) H1
theorem rF(ha:PT X a tA):PW X (.BoolOp .And [a] pos) tA:=by
 intro wh pins s σ H Q I h;refine isTrue_and (thn (ha pins s σ H Q I h) λc s1 e=>?_);cases c with
 |true=>exact isTrue_and_nil e
 |false=>exact e
theorem mJ(ha:PT X a tA):PW X (.BoolOp .Or [a] pos) tA:=by
 intro wh pins s σ H Q I h;refine isTrue_or (thn (ha pins s σ H Q I h) λc s1 e=>?_);cases c with
 |false=>exact isTrue_or_nil e
 |true=>exact e
theorem uI(ha:PT X a tA)(hb:PW X (.BoolOp .And (b::rest) pos) tB'):PW X (.BoolOp .And (a::b::rest) pos) (Vp tA tB'):=by
 intro wh pins s σ H Q I h;refine isTrue_and (thn (ha pins s σ H _ I h) ?_);rintro c s1 ⟨H1,I1,q1⟩;cases c with
 |true=>exact hb wh pins s1 σ H1 Q I1 q1
 |false=>exact⟨H1,I1,q1⟩
theorem nq(ha:PT X a tA)(hb:PW X (.BoolOp .Or (b::rest) pos) tB'):PW X (.BoolOp .Or (a::b::rest) pos) (tOr tA tB'):=by
 intro wh pins s σ H Q I h;refine isTrue_or (thn (ha pins s σ H _ I h) ?_);rintro c s1 ⟨H1,I1,q1⟩;cases c with
 |true=>exact⟨H1,I1,q1⟩
 |false=>exact hb wh pins s1 σ H1 Q I1 q1
theorem gJ(ha:PT X a tA):PT X (.UnaryOp .Not a pos) (Vq tA):=by
 intro pins s σ H Q I h;exact isTrue_not (ha pins s σ H (λc H1=>Q (!c) H1) I h)
def RN(ta tb:TE):TE:=λσ H Q=>ta σ H λx H1=>∃ c,x=.bl c/\if c=true then tb σ H1 Q else Q (.bl false) H1
def Vr(ta tb:TE):TE:=λσ H Q=>ta σ H λx H1=>∃ c,x=.bl c/\if c=true then Q (.bl true) H1 else tb σ H1 Q
def RP(ta:TE):TE:=λσ H Q=>ta σ H λx H1=>∃ c,x=.bl c/\Q (.bl (!c)) H1
theorem qt{op}{t:TE}(h:PE X a t):PE X (.BoolOp op [a] pos) t:=λpins s σ H Q I hw=>BoolOp_one (h pins s σ H Q I hw)
theorem mK(ha:PE X a ta)(hb:PE X (.BoolOp .And (b::rest) pos) tb):PE X (.BoolOp .And (a::b::rest) pos) (RN ta tb):=by
 intro pins s σ H Q I h;refine BoolOp_and (thn (ha pins s σ H _ I h) ?_);rintro v s1 ⟨x,H1,I1,r1,q1⟩;obtain⟨c,rfl,q1⟩:=q1;cases r1;refine wpAny_truthy_bool ?_;cases c with
 |true=>exact hb pins s1 σ H1 Q I1 q1
 |false=>exact⟨.bl false,H1,I1,rfl,q1⟩
theorem Vs(ha:PE X a ta)(hb:PE X (.BoolOp .Or (b::rest) pos) tb):PE X (.BoolOp .Or (a::b::rest) pos) (Vr ta tb):=by
 intro pins s σ H Q I h;refine BoolOp_or (thn (ha pins s σ H _ I h) ?_);rintro v s1 ⟨x,H1,I1,r1,q1⟩;obtain⟨c,rfl,q1⟩:=q1;cases r1;refine wpAny_truthy_bool ?_;cases c with
 |false=>exact hb pins s1 σ H1 Q I1 q1
 |true=>exact⟨.bl true,H1,I1,rfl,q1⟩
theorem Fj(ha:PE X a ta):PE X (.UnaryOp .Not a pos) (RP ta):=by
 intro pins s σ H Q I h;refine UnaryOp_ (thn (ha pins s σ H _ I h) ?_);rintro v s1 ⟨x,H1,I1,r1,q1⟩;obtain⟨c,rfl,q1⟩:=q1;cases r1;exact not_of (wpAny_truthy_bool ⟨.bl (!c),H1,I1,rfl,q1⟩)
def tIf(t:TT)(ta tb:TE):TE:=λσ H Q=>t σ H λc H1=>if c=true then ta σ H1 Q else tb σ H1 Q
theorem BZ{c:Expr}(hc:PT X c tA)(ha:PE X a ta)(hb:PE X b tb):PE X (.IfExp c a b pos) (tIf tA ta tb):=by
 intro pins s σ H Q I h;refine wpAny_IfExp (thn (hc pins s σ H _ I h) ?_);rintro d s1 ⟨H1,I1,q1⟩;cases d with
 |true=>exact ha pins s1 σ H1 Q I1 q1
 |false=>exact hb pins s1 σ H1 Q I1 q1
end
def SqL(K:PySem.W.Frag)(H:Hp)(a:Addr)(xs:List V):Prop:=
 Rd H a (.lst xs) \/
  ∃ (o:Obj) (its:Array Value) (n:Nat),K.lookup a=some o/\o.cls=.type "list"/\o.dict=none/\o.data=.seq its n/\its.size<=sizeLine/\Vals xs its.toList
def SqT(K:PySem.W.Frag)(H:Hp)(a:Addr)(xs:List V):Prop:=
 Rd H a (.tup xs) \/
  ∃ (o:Obj) (its:Array Value) (n:Nat),K.lookup a=some o/\o.cls=.type "tuple"/\o.data=.seq its n/\its.size<=sizeLine/\Vals xs its.toList
def WQ:Value->Option V
 |.none=>some .non
 |.bool b=>some (.bl b)
 |.int i _=>some (.int i)
 |.str x _=>some (.str x)
 |.bytes b _=>some (.byt b)
 |.float b _=>some (.flt b)
 |.ref a=>some (.ref a)
 |.type n=>some (.ty n)
 |_=>none
theorem RelV.abs{x:V}{u:Value}(r:RelV x u):WQ u=some x:=by
 cases x with
 |non=>cases r;rfl
 |bl _=>cases r;rfl
 |int _=>obtain⟨t,rfl⟩:=r;rfl
 |str _=>obtain⟨t,rfl⟩:=r;rfl
 |byt _=>obtain⟨t,rfl⟩:=r;rfl
 |flt _=>obtain⟨t,rfl⟩:=r;rfl
 |ref _=>cases r;rfl
 |ty _=>cases r;rfl
theorem RelV.inj{x y:V}{u:Value}(r:RelV x u)(q:RelV y u):x=y:=Zaa (r.abs.symm.trans q.abs)
theorem Vals.inj:∀ {xs ys:List V}{us:List Value},Vals xs us->Vals ys us->xs=ys
 |_,_,_,.nil,.nil=>rfl
 |_,_,_,.cons r t,.cons r' t'=>by rw[r.inj r',Vals.inj t t']
section
variable{X:Cx}{pins:List (Addr×Obj)}{σ:St}{H:Hp}{s:Shared}{a:Addr}{xs ys:List V}
theorem SqL.of{K:PySem.W.Frag}(h:H a=some (.lst xs)):SqL K H a xs:=.inl (.inl h)
theorem SqT.of{K:PySem.W.Frag}(h:H a=some (.tup xs)):SqT K H a xs:=.inl (.inl h)
theorem Inv.list(I:Inv X pins σ H s)(h:SqL X.K H a xs):∃ its:List Value,Vals xs its/\PlainL s.heap a its.toArray/\xs.length<=sizeLine:=by
 rcases h with h|⟨o,its,n,hk,hc,hd,hs,hz,r⟩
 ·obtain⟨z,its,n,r,e⟩:=h.ok I.hok;exact⟨its,r,⟨_,n,e,rfl,rfl,rfl⟩,z⟩
 ·refine⟨its.toList,r,⟨o,n,I.kIn a o hk,hc,hd,by simpa using hs⟩,?_⟩
  have e:=r.length;simp only[Za9] at e;lia
theorem Inv.tuple(I:Inv X pins σ H s)(h:SqT X.K H a xs):∃ its:List Value,Vals xs its/\IsTup s.heap a its.toArray/\xs.length<=sizeLine:=by
 rcases h with h|⟨o,its,n,hk,hc,hs,hz,r⟩
 ·obtain⟨z,its,r,p⟩:=h.ok I.hok;exact⟨its,r,p.1,z⟩
 ·refine⟨its.toList,r,⟨o,I.kIn a o hk,hc,n,by simpa using hs⟩,?_⟩
  have e:=r.length;simp only[Za9] at e;omega
theorem Inv.wj(I:Inv X pins σ H s)(h:SqL X.K H a xs)(h':SqL X.K H a ys):xs=ys:=by
 obtain⟨its,r,⟨o,n,e,_,_,d⟩,_⟩:=I.list h;obtain⟨its',r',⟨o',n',e',_,_,d'⟩,_⟩:=I.list h';rw[e] at e';cases e';rw[d] at d';injection d' with d1 _
 have:its=its':=by simpa using congrArg Array.toList d1
 subst this;exact r.inj r'
theorem Inv.yw(I:Inv X pins σ H s)(h:SqT X.K H a xs)(h':SqT X.K H a ys):xs=ys:=by
 obtain⟨its,r,⟨o,e,_,n,d⟩,_⟩:=I.tuple h;obtain⟨its',r',⟨o',e',_,n',d'⟩,_⟩:=I.tuple h';rw[e] at e';cases e';rw[d] at d';injection d' with d1 _
 have:its=its':=by simpa using congrArg Array.toList d1
 subst this;exact r.inj r'
end
noncomputable abbrev Cx.wish(X:Cx)(E:Value->Shared->Prop):Cx:={ X with xe:=E }
noncomputable abbrev Cx.nox(X:Cx):Cx:=X.wish λ_ _=>False
theorem Cx.Ok.wish{X:Cx}(ok:X.Ok)(E:Value->Shared->Prop):(X.wish E).Ok:=
 ⟨ok.mod,ok.kind,ok.glob,ok.blt,ok.above,ok.inj,ok.has,ok.cab,ok.hd,ok.frames,ok.stk,ok.exf,ok.bs,ok.bsz,ok.noex,ok.exfs,ok.sU,ok.frf⟩
theorem Cx.Ok.jJ{X:Cx}{E:Value->Shared->Prop}(ok:(X.wish E).Ok):X.Ok:=
 ⟨ok.mod,ok.kind,ok.glob,ok.blt,ok.above,ok.inj,ok.has,ok.cab,ok.hd,ok.frames,ok.stk,ok.exf,ok.bs,ok.bsz,ok.noex,ok.exfs,ok.sU,ok.frf⟩
section
variable{X:Cx}{pins:List (Addr×Obj)}{σ:St}{H:Hp}{s:Shared}{E:Value->Shared->Prop}
theorem Inv.wish(I:Inv X pins σ H s)(E:Value->Shared->Prop):Inv (X.wish E) pins σ H s:=⟨I.ok.wish E,I.os,I.bare,I.base,I.loc,I.cell,I.free,I.freeC,I.pin,I.hok,I.len⟩
theorem Inv.jJ(I:Inv (X.wish E) pins σ H s):Inv X pins σ H s:=⟨I.ok.jJ,I.os,I.bare,I.base,I.loc,I.cell,I.free,I.freeC,I.pin,I.hok,I.len⟩
theorem SP.jJ{D:Ends}{f:Flow}{s':Shared}(h:SP (X.wish E) pins D f s'):SP X pins D f s':=by
 cases f with
 |next=>obtain⟨σ',H',I,q⟩:=h;exact⟨σ',H',I.jJ,q⟩
 |brk=>obtain⟨σ',H',I,q⟩:=h;exact⟨σ',H',I.jJ,q⟩
 |cont=>obtain⟨σ',H',I,q⟩:=h;exact⟨σ',H',I.jJ,q⟩
 |ret u=>obtain⟨v,σ',H',I,r,q⟩:=h;exact⟨v,σ',H',I.jJ,r,q⟩
theorem PSs.nox{st:List Stmt}{t:TS}(h:PSs X.nox st t):PSs X st t:=λpins s σ H D I hw=>
 ZaV (h pins s σ H D (I.wish _) hw) (λ_ _ q=>q.jJ) λ_ _ z=>False.elim z
end
section
variable{X:Cx}{st:Stmt}{rest:List Stmt}{t u:TS}{e:Expr}{te:TE}{pos:Pos}
def RQ:TS:=λD σ H=>D.nx σ H
def Vt(t u:TS):TS:=λD σ H=>t { D with nx:=u D } σ H
theorem cz:PSs X [] RQ:=λ_ _ σ H _ I h=>wpAny_execs_nil ⟨σ,H,I,h⟩
theorem aC(h1:PS X st t)(h2:PSs X rest u):PSs X (st::rest) (Vt t u):=by
 intro pins s σ H D I h;refine wpAny_execs_cons (thn (h1 pins s σ H { D with nx:=u D } I h) λf s1 q=>?_);cases f with
 |next=>
  obtain⟨σ',H',I',q⟩:=q;exact h2 pins s1 σ' H' D I' q
 |ret v=>exact q
 |brk=>exact q
 |cont=>exact q
theorem aK(h1:PS X st t):PSs X [st] t:=by
 intro pins s σ H D I h;refine wpAny_execs_cons (thn (h1 pins s σ H D I h) λf s1 q=>?_);cases f with
 |next=>exact wpAny_execs_nil q
 |ret v=>exact q
 |brk=>exact q
 |cont=>exact q
theorem Inv.quiet{pins:List (Addr×Obj)}{σ:St}{H:Hp}{s:Shared}(I:Inv X pins σ H s):interactive X.env=false:=by simp[interactive,I.ok.kind]
def Cd(te:TE):TS:=λD σ H=>te σ H λ_ H1=>D.nx σ H1
theorem fj(he:PE X e te)(hs:swapsWith e none pos.line X.env=pure false:=by rfl):PS X (.Expr e pos) (Cd te):=by
 intro pins s σ H D I h;exact wpAny_Expr_any (thn (he pins s σ H _ I h) λv s1 ⟨x,H1,I1,r1,q1⟩=>⟨σ,H1,I1,q1⟩) I.quiet hs
def KR(te:TE):TS:=λD σ H=>te σ H D.rt
theorem bc(he:PE X e te):PS X (.Return (some e) pos) (KR te):=by
 intro pins s σ H D I h;exact wpAny_Return_some (thn (he pins s σ H _ I h) λv s1 ⟨x,H1,I1,r1,q1⟩=>⟨x,σ,H1,I1,r1,q1⟩)
def Vu(c:TT)(t u:TS):TS:=λD σ H=>c σ H λb H1=>if b=true then t D σ H1 else u D σ H1
theorem dw{c:Expr}{a b:List Stmt}{tc:TT}(hc:PT X c tc)(ha:PSs X a t)(hb:PSs X b u):PS X (.If c a b pos) (Vu tc t u):=by
 intro pins s σ H D I h;refine wpAny_If (thn (hc pins s σ H _ I h) ?_);rintro d s1 ⟨H1,I1,q1⟩;cases d with
 |true=>exact ha pins s1 σ H1 D I1 q1
 |false=>exact hb pins s1 σ H1 D I1 q1
end
noncomputable abbrev TG:=V->St->Hp->(St->Hp->Prop)->Prop
noncomputable abbrev TGs:=List V->St->Hp->(St->Hp->Prop)->Prop
def PG(X:Cx)(target:Expr)(t:TG):Prop:=
 ∀ (pins:List (Addr×Obj)) (s:Shared) (σ:St) (H:Hp) (v:V) (u:Value) (Q:St->Hp->Prop),Inv X pins σ H s->RelV v u->t v σ H Q ->
  wpAny (model X.prog X.w) X.A (assign target X.env u) (λ_ s'=>∃ σ' H',Inv X pins σ' H' s'/\Q σ' H') X.xe s
def PGs(X:Cx)(ts:List Expr)(t:TGs):Prop:=
 ∀ (pins:List (Addr×Obj)) (s:Shared) (σ:St) (H:Hp) (vs:List V) (us:List Value) (Q:St->Hp->Prop),Inv X pins σ H s->Vals vs us->t vs σ H Q ->
  wpAny (model X.prog X.w) X.A (assignInOrder ((assignEach ts X.env).map (·.2)) us) (λ_ s'=>∃ σ' H',Inv X pins σ' H' s'/\Q σ' H') X.xe s
section
variable{X:Cx}{pos:Pos}
def Ce(i:Nat):TG:=λv σ H Q=>Q (σ.set i (some v)) H
theorem cB{i:Nat}{x:Str}(hN:X.N.Nodup)(hi:X.N[i]?=some x)(hx:Loc X.env.scope x)(hf:X.fn x=true\/X.env.scope.names.lookup x=some .local:=by first|exact .inl rfl|exact .inr rfl|assumption):PG X (.Name x pos) (Ce i):=by
 intro pins s σ H v u Q I r h;exact wpAny_assign_Name (wg I hN hi hx r (λs' I'=>⟨_,H,I',h⟩) hf)
def Vv:TGs:=λvs σ H Q=>vs=[]/\Q σ H
def RT(t:TG)(u:TGs):TGs:=λvs σ H Q=>∃ v r,vs=v::r/\t v σ H λσ' H'=>u r σ' H' Q
theorem jP:PGs X [] Vv:=by
 intro pins s σ H vs us Q I r h;obtain⟨e,h⟩:=h;subst e;cases r;exact assignInOrder_nil ⟨σ,H,I,h⟩
theorem dg{e:Expr}{es:List Expr}{t:TG}{u:TGs}(h1:PG X e t)(h2:PGs X es u)
  (hs:(assignEach (e::es) X.env).map (·.2)=assign e X.env::(assignEach es X.env).map (·.2):=by rfl):PGs X (e::es) (RT t u):=by
 intro pins s σ H vs us Q I r h;obtain⟨v,vr,e1,h⟩:=h;subst e1;cases r with
 |cons r rr=>
  rw[hs];refine assignInOrder_cons (thn (h1 pins s σ H _ _ _ I r h) ?_);rintro _ s1 ⟨σ1,H1,I1,q1⟩;exact h2 pins s1 σ1 H1 _ _ Q I1 rr q1
def Tg(K:PySem.W.Frag)(n:Nat)(t:TGs):TG:=λv σ H Q=>∃ a xs,v=.ref a/\SqT K H a xs/\xs.length=n/\t xs σ H Q
theorem nZ{es:List Expr}{k:Nat}{t:TGs}{n:Nat}(hc:X.calm=true)(h:PGs X es t)
  (hn:(assignEach es X.env).length=n:=by rfl)(hst:(assignEach es X.env).findIdx? (·.1)=none:=by rfl):PG X (.Tuple es k pos) (Tg X.K n t):=by
 intro pins s σ H v u Q I r hw;obtain⟨a,xs,e1,hq,hl,hw⟩:=hw;subst e1;cases r;obtain⟨its,rv,ht,hz⟩:=I.tuple hq;refine assign_Tuple_tuple (I.ok.hd hc) ht (by simp[hn,<-hl,rv.length]) hst λh' hx=>?_
 have I1:Inv X pins σ H { s with heap:=h' }:=I.kept (t':=s.toks) λb o e=>hx b o (ZaA (Zai e)) e;exact h pins _ σ H xs _ Q I1 (by simpa using rv) hw
def Pg(te:TE)(g:TG):TS:=λD σ H=>te σ H λx H1=>g x σ H1 D.nx
theorem Ti{tg e:Expr}{te:TE}{g:TG}(he:PE X e te)(hg:PG X tg g)(hs:swapsWithSole [tg] e pos.line X.env=pure false:=by rfl)(hw:swappedStores [tg] e X.env=pure none:=by rfl)
  (h1:(assignEach [tg] X.env).map (·.2)=[assign tg X.env]:=by rfl):PS X (.Assign [tg] e pos) (Pg te g):=by
 intro pins s σ H D I h;refine wpAny_Assign_stores (thn (he pins s σ H _ I h) ?_) hs hw;rintro v s1 ⟨x,H1,I1,r1,q1⟩;rw[h1];exact thn (hg pins s1 σ H1 x v _ I1 r1 q1) λ_ s2 q=>q
theorem aW{i:Nat}{x:Str}{e:Expr}{te:TE}{pos':Pos}(hN:X.N.Nodup)(hi:X.N[i]?=some x)(hx:Loc X.env.scope x)(he:PE X e te)(hs:swapsWith e (some (.Name x pos')) pos.line X.env=pure false:=by rfl)(hf:X.fn x=true\/X.env.scope.names.lookup x=some .local:=by first|exact .inl rfl|exact .inr rfl|assumption) :
  PS X (.Assign [.Name x pos'] e pos) (Pg te (Ce i)):=by
 intro pins s σ H D I h;refine wpAny_Assign_Name (thn (he pins s σ H _ I h) ?_) hs;rintro v s1 ⟨y,H1,I1,r1,q1⟩;exact wg I1 hN hi hx r1 (λs2 I2=>⟨_,H1,I2,q1⟩) hf
end
structure It where
 go:Nat->Hp->Prop
 yld:Nat->Hp->V->Hp->Prop
 stop:Nat->Hp->Prop
def wk(X:Cx)(pins:List (Addr×Obj))(H:Hp)(b:Addr):Prop:=
 H b=none/\b≠X.env.locals/\b ∉ X.fs/\(b∈X.ex\/X.s₀.heap.objs.size<=b)/\(∀ x c,X.env.cells.lookup x=some c->c≠b)/\∀ p∈X.pn++pins,p.1≠b
theorem Inv.KY{X:Cx}{pins:List (Addr×Obj)}{σ:St}{H H':Hp}{s:Shared}{b:Addr}(I:Inv X pins σ H s)(hb:s.heap.objs.size<=b)(hn:H' b=none):wk X pins H' b:=by
 refine⟨hn,Nat.ne_of_gt (Zan I.lt hb),I.WP hb,.inr (ZaF I.sz hb),λx c e z=>?_,λp hp z=>?_⟩
 ·obtain⟨v,q⟩:=I.cell x c e;exact absurd (Zan q.lt (by rw[z];exact hb)) (Za2 _)
 ·exact absurd (Zan (Zai (I.pin p hp).1) (by rw[z];exact hb)) (Za2 _)
structure Turn(P:Program)(w:World)(K:PySem.W.Frag)(tg:Expr)(J:It)(fp:List Addr)(it:Addr)(tn:Nat->Heap->Prop):Prop where
 mem:it∈fp
 obj:∀ i h,tn i h->∀ b∈fp,∃ o,h.get? b=some o/\∀ v,o.data≠.cell v
 keep:∀ i h h',tn i h->(∀ b∈fp,∀ o,h.get? b=some o->h'.get? b=some o)->tn i h'
 item:∀ (X:Cx),X.prog=P->X.w=w->X.K=K->X.calm=true->∀ (i:Nat) (pins:List (Addr×Obj)) (s:Shared) (σ:St) (H:Hp) (E:Value->Shared->Prop),Inv X pins σ H s->(∀ b∈fp,wk X pins H b)->tn i s.heap->J.go i H ->
  wpAny (model P w) X.A (pyNext (.ref it)) (λr s1=>∃ u,r=some u /\
   wpAny (model P w) X.A (letOwnedTupleGo tg (.ref it) u) (λ_ s2=>∃ x H',Inv X pins σ H' s2/\RelV x u/\J.yld i H x H'/\tn (i+1) s2.heap/\∀ b∈fp,H' b=none) E s1) E s
 done:∀ (X:Cx),X.prog=P->X.w=w->X.K=K->X.calm=true->∀ (i:Nat) (pins:List (Addr×Obj)) (s:Shared) (σ:St) (H:Hp) (E:Value->Shared->Prop),Inv X pins σ H s->(∀ b∈fp,wk X pins H b)->tn i s.heap->J.stop i H ->
  wpAny (model P w) X.A (pyNext (.ref it)) (λr s1=>r=none/\Inv X pins σ H s1) E s
 self:∀ (A:Around) (i:Nat) (s:Shared) (Q:Value->Shared->Prop) (E:Value->Shared->Prop),tn i s.heap->Q (.ref it) s->wpAny (model P w) A (pyIter (.ref it)) Q E s
noncomputable abbrev TI:=St->Hp->(It->Hp->Prop)->Prop
def PIE(X:Cx)(pins:List (Addr×Obj))(σ:St)(tg:Expr)(R:It->Hp->Prop)(itv:Value)(s2:Shared):Prop:=
 ∃ (it:Addr) (fp:List Addr) (tn:Nat->Heap->Prop) (J:It) (H':Hp),itv=.ref it/\Inv X pins σ H' s2/\Turn X.prog X.w X.K tg J fp it tn/\tn 0 s2.heap/\(∀ b∈fp,wk X pins H' b)/\R J H'
def PI(X:Cx)(tg iter:Expr)(wi:TI):Prop:=
 ∀ (pins:List (Addr×Obj)) (s:Shared) (σ:St) (H:Hp) (R:It->Hp->Prop),Inv X pins σ H s->wi σ H R ->
  wpAny (model X.prog X.w) X.A (eval iter X.env) (λv s1=>wpAny (model X.prog X.w) X.A (pyIter v) (PIE X pins σ tg R) X.xe s1) X.xe s
theorem Hu{M:Model}{A:Around}{E:Value->Shared->Prop}{s:Shared}{tg:Expr}{it:Addr}{u:Value}{o:Obj}{n:String}{vs:Array Value}{Q:Unit->Shared->Prop}(ho:s.heap.get? it=some o)(hc:o.cls=.type n)(hd:o.data=.fields vs)
  (hn:["enumerate","zip","dict_itemiterator","dict_reverseitemiterator","odict_iterator","itertools.zip_longest","itertools.pairwise"].contains n=false)(hQ:Q () s):wpAny M A (letOwnedTupleGo tg (.ref it) u) Q E s:=by
 unfold letOwnedTupleGo;cases tg<;>first
  |exact Zaq hQ
  |(cases u<;>first
    |exact Zaq hQ
    |(refine Zae (wpAny_load ho ?_)
      rw[hc,hd];show wpAny M A (if(["enumerate","zip","dict_itemiterator","dict_reverseitemiterator","odict_iterator","itertools.zip_longest","itertools.pairwise"].contains n&&vs[0]?==some (rawInt _))=true then _ else _) Q E s
      rw[Zal (by intro h;rw[hn,Bool.false_and] at h;cases h)]
      exact Zaq hQ))
def Itl(K:PySem.W.Frag)(a:Addr):It:=
 ⟨λi H=>∃ xs x,SqL K H a xs/\xs[i]?=some x,λi H x H'=>H'=H/\∀ xs,SqL K H a xs->xs[i]?=some x,λi H=>∃ xs,SqL K H a xs/\xs.length<=i⟩
def Itt(K:PySem.W.Frag)(a:Addr):It:=
 ⟨λi H=>∃ xs x,SqT K H a xs/\xs[i]?=some x,λi H x H'=>H'=H/\∀ xs,SqT K H a xs->xs[i]?=some x,λi H=>∃ xs,SqT K H a xs/\xs.length<=i⟩
def Itr(lo:Int)(n:Nat):It:=⟨λi _=>i<n,λi H x H'=>H'=H/\x=.int (lo+i),λi _=>n<=i⟩
theorem Jp{P:Program}{w:World}{K:PySem.W.Frag}{tg:Expr}(a it:Addr):Turn P w K tg (Itl K a) [it] it (λi h=>h.IsListIter it a i) where
 mem:=by simp
 obj:=λi h st b hb=>by
  have e:b=it:=by simpa using hb
  subst e;obtain⟨o,e,c,d⟩:=st;exact⟨o,e,λv z=>by rw[d] at z;cases z⟩
 keep:=λi h h' st k=>st.at λo e=>k it (by simp) o e
 item:=by
  intro X hP hw hK hc i pins s σ H E I hf st hg;subst hP hw hK;obtain⟨xs,x,hq,hx⟩:=hg;obtain⟨its,rv,p,hz⟩:=I.list hq;obtain⟨u,hu,ru⟩:=rv.get hx;obtain⟨f0,f1,f2,f3,f4,f5⟩:=hf it (by simp)
  refine wpAny_pyNext_list_item st p.isList (x:=u) (by simpa using hu) λh' st' sb=>?_
  have I1:Inv X pins σ H { s with heap:=h' }:=I.turned (t':=s.toks) (λb o hb e=>(sb.2 b hb).trans e) f0 f1 f3 f4 f5;obtain⟨o,e,c,d⟩:=id st';exact⟨u,rfl,Hu (s:={ s with heap:=h' }) e c d (by decide) ⟨x,H,I1,ru,⟨rfl,λys hy=>by rw[I.wj hy hq];exact hx⟩,st',λb hb=>(hf b hb).1⟩⟩
 done:=by
  intro X hP hw hK hc i pins s σ H E I hf st hg;subst hP hw hK;obtain⟨xs,hq,hx⟩:=hg;obtain⟨its,rv,p,hz⟩:=I.list hq;obtain⟨f0,f1,f2,f3,f4,f5⟩:=hf it (by simp)
  have hl:=rv.length;exact wpAny_pyNext_list_end (I.ok.hd hc) st p.isList (by simp;lia) λh' eb=>⟨rfl,I.turned (t':=s.toks) (λb o hb e=>eb b o hb e) f0 f1 f3 f4 f5⟩
 self:=λ_ _ _ _ _ st h=>wpAny_pyIter_listiter st h
theorem Fl{P:Program}{w:World}{K:PySem.W.Frag}{tg:Expr}(a it:Addr):Turn P w K tg (Itt K a) [it] it (λi h=>h.IsTupleIter it a i) where
 mem:=by simp
 obj:=λi h st b hb=>by
  have e:b=it:=by simpa using hb
  subst e;obtain⟨o,e,c,d⟩:=st;exact⟨o,e,λv z=>by rw[d] at z;cases z⟩
 keep:=λi h h' st k=>st.at λo e=>k it (by simp) o e
 item:=by
  intro X hP hw hK hc i pins s σ H E I hf st hg;subst hP hw hK;obtain⟨xs,x,hq,hx⟩:=hg;obtain⟨its,rv,p,hz⟩:=I.tuple hq;obtain⟨u,hu,ru⟩:=rv.get hx;obtain⟨f0,f1,f2,f3,f4,f5⟩:=hf it (by simp)
  refine wpAny_pyNext_tuple_item st (show s.heap.IsTuple a its.toArray from p) (x:=u) (by simpa using hu) λh' st' sb=>?_
  have I1:Inv X pins σ H { s with heap:=h' }:=I.turned (t':=s.toks) (λb o hb e=>(sb.2 b hb).trans e) f0 f1 f3 f4 f5;obtain⟨o,e,c,d⟩:=id st';exact⟨u,rfl,Hu (s:={ s with heap:=h' }) e c d (by decide) ⟨x,H,I1,ru,⟨rfl,λys hy=>by rw[I.yw hy hq];exact hx⟩,st',λb hb=>(hf b hb).1⟩⟩
 done:=by
  intro X hP hw hK hc i pins s σ H E I hf st hg;subst hP hw hK;obtain⟨xs,hq,hx⟩:=hg;obtain⟨its,rv,p,hz⟩:=I.tuple hq;obtain⟨f0,f1,f2,f3,f4,f5⟩:=hf it (by simp)
  have hl:=rv.length;exact wpAny_pyNext_tuple_end (I.ok.hd hc) st (show s.heap.IsTuple a its.toArray from p) (by simp;omega) λh' eb=>⟨rfl,I.turned (t':=s.toks) (λb o hb e=>eb b o hb e) f0 f1 f3 f4 f5⟩
 self:=λ_ _ _ _ _ st h=>wpAny_pyIter_tupleiter st h
theorem Fo{P:Program}{w:World}{K:PySem.W.Frag}{tg:Expr}(it:Addr)(lo:Int)(n:Nat):Turn P w K tg (Itr lo n) [it] it (λi h=>IsRangeIter h it (lo+(i:Nat)*1) ((n:Int)-(i:Nat)) 1) where
 mem:=by simp
 obj:=λi h st b hb=>by
  have e:b=it:=by simpa using hb
  subst e;exact⟨_,st,λv z=>by
   have z':Data.fields _=Data.cell v:=z;cases z'⟩
 keep:=λi h h' st k=>k it (by simp) _ st
 item:=by
  intro X hP hw hK hc i pins s σ H E I hf st hg;subst hP hw hK;obtain⟨f0,f1,f2,f3,f4,f5⟩:=hf it (by simp)
  have W:=Walks.range (prog:=X.prog) (w:=X.w) (I.ok.hd hc) it lo 1 n;refine W.item i s _ _ hg st λv h' tk hv st' kk=>?_;obtain⟨t,rfl⟩:=hv;have I1:Inv X pins σ H { s with heap:=h',toks:=tk }:=I.turned (λb o hb e=>kk b o (by simpa using hb) e) f0 f1 f3 f4 f5
  refine⟨_,rfl,Hu (s:={ s with heap:=h',toks:=tk }) (n:="range_iterator") st' rfl rfl (by decide) ⟨.int (lo+i),H,I1,⟨t,?_⟩,⟨rfl,rfl⟩,st',λb hb=>(hf b hb).1⟩⟩
  rw[Int.mul_one]
 done:=by
  intro X hP hw hK hc i pins s σ H E I hf st hg;subst hP hw hK;obtain⟨f0,f1,f2,f3,f4,f5⟩:=hf it (by simp)
  exact wpAny_pyNext_range_end (I.ok.hd hc) st (by have:n<=i:=hg;omega) λh' eb=>⟨rfl,I.turned (t':=s.toks) (λb o hb e=>eb b o hb e) f0 f1 f3 f4 f5⟩
 self:=λ_ _ _ _ _ st h=>wpAny_pyIter_rangeiter st h
section
variable{X:Cx}{tg:Expr}
theorem Ci{pins:List (Addr×Obj)}{σ:St}{H:Hp}{s:Shared}{R:It->Hp->Prop}{E:Value->Shared->Prop}{lo hi:Int}{t u v:Tok}{tk:Nat}(I:Inv X pins σ H s)(h1:-(2^62)<=lo)(h2:lo<2^62)(h3:-(2^62)<=hi)(h4:hi<2^62)
  (q:R (Itr lo (hi-lo).toNat) H):wpAny (model X.prog X.w) X.A (pyIter (.ref s.heap.objs.size)) (PIE X pins σ tg R) E { s with heap:=s.heap.push { cls:=.type "range",data:=.fields #[.int lo t,.int hi u,.int 1 v] },toks:=tk }:=by
 refine wpAny_pyIter_range (IsRange.new ..) (small_one h1 h2 h3 h4) ?_;have I1:Inv X pins σ H { s with heap:=s.heap.push { cls:=.type "range",data:=.fields #[.int lo t,.int hi u,.int 1 v] },toks:=tk }:=I.kept λb o e=>Zac _ e;refine⟨(s.heap.push { cls:=.type "range",data:=.fields #[.int lo t,.int hi u,.int 1 v] }).objs.size,[(s.heap.push { cls:=.type "range",data:=.fields #[.int lo t,.int hi u,.int 1 v] }).objs.size],_,_,H,rfl,
  I1.kept (t':=tk) λb o e=>Zac _ e,Fo _ lo (hi-lo).toNat,?_,λb hb=>?_,q⟩
 ·have e1:lo+((0:Nat):Int)*1=lo:=by simp
  have e2:(((hi-lo).toNat:Nat):Int)-((0:Nat):Int)=Builtin.Range.rangeSize lo hi 1:=by rw[rangeSize_one];split<;>omega
  show IsRangeIter _ _ (lo+((0:Nat):Int)*1) ((((hi-lo).toNat:Nat):Int)-((0:Nat):Int)) 1
  rw[e1,e2];exact Zar _ rfl
 ·have e:b=(s.heap.push { cls:=.type "range",data:=.fields #[.int lo t,.int hi u,.int 1 v] }).objs.size:=by simpa using hb
  subst e;exact I1.KY (Zag _) (I1.hok.fresh (Zag _))
def RV(ta:TA):TI:=λσ H R=>ta σ H λvs H1=>∃ j:Int,vs=[.int j]/\-(2^62)<=j/\j<2^62/\R (Itr 0 j.toNat) H1
def RW(ta:TA):TI:=λσ H R=>ta σ H λvs H1=>∃ i j:Int,vs=[.int i,.int j]/\(-(2^62)<=i/\i<2^62/\-(2^62)<=j/\j<2^62)/\R (Itr i (j-i).toNat) H1
theorem eV{a:Expr}{ta:TA}{p pos:Pos}(hg:Gl X "range")(hm:X.mg "range"=none)(ha:PA X [a] ta)(hs:starEach [a] X.env=[(false,eval a X.env)]:=by rfl):PI X tg (.Call (.Name "range" p) [a] [] pos) (RV ta):=by
 intro pins s σ H R I h;refine Call_ (uH I hg hm boot_range (Zba (thn (ha pos pins s σ H _ I h) ?_) hs rfl));rintro us s1 ⟨vs,H1,I1,r1,q1⟩;obtain⟨j,e,q1,q2,q⟩:=q1;subst e;cases r1 with
 |cons r rr=>
  cases rr;obtain⟨t,rfl⟩:=r;exact call_range_1 (Ci I1 (by omega) (by omega) q1 q2 (by simpa using q))
theorem yx{a b:Expr}{ta:TA}{p pos:Pos}(hg:Gl X "range")(hm:X.mg "range"=none)(ha:PA X [a,b] ta)(hs:starEach [a,b] X.env=[(false,eval a X.env),(false,eval b X.env)]:=by rfl)(hs2:starEach [b] X.env=[(false,eval b X.env)]:=by rfl) :
  PI X tg (.Call (.Name "range" p) [a,b] [] pos) (RW ta):=by
 intro pins s σ H R I h;refine Call_ (uH I hg hm boot_range (Zba (thn (ha pos pins s σ H _ I h) ?_) (by rw[hs,hs2]) (by rw[hs2];rfl)))
 rintro us s1 ⟨vs,H1,I1,r1,q1⟩;obtain⟨i,j,e,⟨q1,q2,q3,q4⟩,q⟩:=q1;subst e;cases r1 with
 |cons r rr=>
  cases rr with
  |cons r' rr=>
   cases rr;obtain⟨t,rfl⟩:=r;obtain⟨t',rfl⟩:=r';exact call_range_2 (Ci I1 q1 q2 q3 q4 q)
def Vw(wi:TI)(g:TG)(tb:TS):TS:=λD σ H=>wi σ H λJ H1=>∃ W:Nat->Nat->St->Hp->Prop,(∃ m,W 0 m σ H1)/\∀ i m σ H,W i m σ H ->
 (J.stop i H/\D.nx σ H)\/(J.go i H/\∃ N:St->Hp->Prop,(∀ σ' H',N σ' H'->∃ m',m'<m/\W (i+1) m' σ' H')/\∀ x H',J.yld i H x H'->g x σ H' λσ2 H2=>tb { D with nx:=N,ct:=N,bk:=D.nx } σ2 H2)
def wu(fp:List Addr)(h:Heap):List (Addr×Obj):=fp.filterMap λb=>(h.get? b).map λo=>(b,o)
theorem n6{fp:List Addr}{h:Heap}{b:Addr}{o:Obj}(hb:b∈fp)(e:h.get? b=some o):(b,o)∈wu fp h:=List.mem_filterMap.mpr ⟨b,hb,by rw[e];rfl⟩
theorem Jq{fp:List Addr}{h:Heap}{p:Addr×Obj}(hp:p∈wu fp h):p.1∈fp/\h.get? p.1=some p.2:=by
 obtain⟨b,hb,e⟩:=List.mem_filterMap.mp hp;cases q:h.get? b with
 |none=>rw[q] at e;cases e
 |some o=>
  rw[q] at e;have e':(b,o)=p:=Zaa e;subst e';exact⟨hb,q⟩
theorem Inv.pinned{pins:List (Addr×Obj)}{σ:St}{H:Hp}{s:Shared}{fp:List Addr}(I:Inv X pins σ H s)(hf:∀ b∈fp,wk X pins H b)(ho:∀ b∈fp,∃ o,s.heap.get? b=some o/\∀ v,o.data≠.cell v):Inv X (pins++wu fp s.heap) σ H s:=
 I.Hs λp hp=>(ZaR.mp hp).elim (λz=>I.pin p (ZaC _ z)) λz=>by
  obtain⟨hb,e⟩:=Jq z;obtain⟨f0,f1,f2,_⟩:=hf p.1 hb;obtain⟨o,e',d⟩:=ho p.1 hb;rw[e] at e';cases e';exact⟨e,f0,f1,f2,d⟩
theorem Inv.tQ{pins pl:List (Addr×Obj)}{σ:St}{H:Hp}{s:Shared}(I:Inv X (pins++pl) σ H s):Inv X pins σ H s:=I.Hs λp hp=>I.pin p (ZaC _ (List.mem_append_left _ hp))
theorem fQ{iter:Expr}{body:List Stmt}{wi:TI}{g:TG}{tb:TS}{pos:Pos}(hp:PassesOwn (model X.prog X.w) X.A X.env X.xe)(hc:X.calm=true)(hi:PI X tg iter wi)(hg:PG X tg g)(hb:PSs X body tb)
  (hs:∀ x,foldedSetIterable iter X.env x=pure x:=by intro _;rfl):PS X (.For tg iter body [] pos) (Vw wi g tb):=by
 intro pins s σ H D I h;refine wpAny_For (thn (hi pins s σ H _ I h) λv s1 h1=>thn h1 λitv s2 h2=>?_) hs;obtain⟨it,fp,tn,J,H2,e,I2,T,st2,f2,W,⟨m0,w0⟩,turn⟩:=h2;subst e;have stat:∀ {H':Hp},(∀ b∈fp,H' b=none)->∀ b∈fp,wk X pins H' b:=λhn b hb=>⟨hn b hb,(f2 b hb).2⟩;refine codeAny_forLoop_any (λn s'=>∃ i σ' H',Inv X pins σ' H' s'/\tn i s'.heap/\(∀ b∈fp,H' b=none)/\W i n σ' H') ?_ m0 ⟨0,σ,H2,I2,st2,λb hb=>(f2 b hb).1,w0⟩;rintro n s3 ⟨i,σ3,H3,I3,st3,fr3,w3⟩;rcases turn i n σ3 H3 w3 with⟨stop,qn⟩|⟨go,N,hN,step⟩
 ·refine wpAny_passesOwn hp (thn (T.done X rfl rfl rfl hc i pins s3 σ3 H3 X.xe I3 (stat fr3) st3 stop) ?_);rintro r s4 ⟨hr,I4⟩;subst hr;exact wpAny_execs_nil ⟨σ3,H3,I4,qn⟩
 ·refine wpAny_passesOwn hp (thn (T.item X rfl rfl rfl hc i pins s3 σ3 H3 X.xe I3 (stat fr3) st3 go) ?_);rintro r s4 ⟨u,hr,h4⟩;subst hr;refine wpAny_passesOwn hp (thn h4 ?_);rintro _ s5 ⟨x,H5,I5,r5,y5,st5,fr5⟩;have I5':=I5.pinned (stat fr5) (T.obj _ _ st5);refine wpAny_passesOwn hp (thn (hg _ s5 σ3 H5 x u _ I5' r5 (step x H5 y5)) ?_);rintro _ s6 ⟨σ6,H6,I6,q6⟩;refine wpAny_passesOwn hp (thn (hb _ s6 σ6 H6 _ I6 q6) λf s7 q7=>?_);have again:∀ {σ7:St}{H7:Hp},Inv X (pins++wu fp s5.heap) σ7 H7 s7->N σ7 H7->∃ m,m<n/\∃ i σ' H',Inv X pins σ' H' s7/\tn i s7.heap/\(∀ b∈fp,H' b=none)/\W i m σ' H':=λ{σ7 H7} I7 n7=>by
   obtain⟨m',hm,w7⟩:=hN σ7 H7 n7;refine⟨m',hm,i+1,σ7,H7,I7.tQ,T.keep _ _ _ st5 λb hb o e=>(I7.pin (b,o) (ZaC _ (ZaC _ (n6 hb e)))).1,λb hb=>?_,w7⟩;obtain⟨o,e,d⟩:=T.obj _ _ st5 b hb;exact(I7.pin (b,o) (ZaC _ (ZaC _ (n6 hb e)))).2.1
  cases f with
  |next=>obtain⟨σ7,H7,I7,n7⟩:=q7;exact again I7 n7
  |cont=>obtain⟨σ7,H7,I7,n7⟩:=q7;exact again I7 n7
  |brk=>obtain⟨σ7,H7,I7,q7⟩:=q7;exact⟨σ7,H7,I7.tQ,q7⟩
  |ret v=>obtain⟨x7,σ7,H7,I7,r7,q7⟩:=q7;exact⟨x7,σ7,H7,I7.tQ,r7,q7⟩
end
noncomputable abbrev R2:=V->V->Hp->VK->Prop
def OpR(X:Cx)(f:Value->Value->Sem Value)(r:R2):Prop:=
 ∀ (pins:List (Addr×Obj)) (s:Shared) (σ:St) (H:Hp) (x y:V) (v u:Value) (Q:VK),Inv X pins σ H s->RelV x v->RelV y u->r x y H Q ->
  wpAny (model X.prog X.w) X.A (f v u) (EP X pins σ Q) X.xe s
def UnR(X:Cx)(f:Value->Sem Value)(r:V->Hp->VK->Prop):Prop:=
 ∀ (pins:List (Addr×Obj)) (s:Shared) (σ:St) (H:Hp) (x:V) (v:Value) (Q:VK),Inv X pins σ H s->RelV x v->r x H Q ->
  wpAny (model X.prog X.w) X.A (f v) (EP X pins σ Q) X.xe s
def pK(X:Cx)(f:Value)(r:List V->Hp->VK->Prop):Prop:=
 ∀ (pins:List (Addr×Obj)) (s:Shared) (σ:St) (H:Hp) (xs:List V) (us:List Value) (Q:VK),Inv X pins σ H s->Vals xs us->r xs H Q ->
  wpAny (model X.prog X.w) X.A (call f us) (EP X pins σ Q) X.xe s
def tOp(r:R2)(ta tb:TE):TE:=λσ H Q=>ta σ H λx H1=>tb σ H1 λy H2=>r x y H2 Q
def tUn(r:V->Hp->VK->Prop)(ta:TE):TE:=λσ H Q=>ta σ H λx H1=>r x H1 Q
def rI(C:Int->Int->Prop)(g:Int->Int->V):R2:=λx y H Q=>∃ i j,x=.int i/\y=.int j/\C i j/\Q (g i j) H
def rI0(g:Int->Int->V):R2:=λx y H Q=>∃ i j,x=.int i/\y=.int j/\Q (g i j) H
def rU(g:Int->V):V->Hp->VK->Prop:=λx H Q=>∃ i,x=.int i/\Q (g i) H
section
variable{X:Cx}{a b:Expr}{ta tb:TE}{pos:Pos}
theorem Tj(ha:PE X a ta)(hb:PE X b tb){pins:List (Addr×Obj)}{s:Shared}{σ:St}{H:Hp}{R:V->V->Hp->Prop}(I:Inv X pins σ H s)
  (h:ta σ H λx H1=>tb σ H1 λy H2=>R x y H2){Q:Value->Shared->Prop}{f:Value->Value->Sem Value}
  (hf:∀ v u s2 x y H2,Inv X pins σ H2 s2->RelV x v->RelV y u->R x y H2->wpAny (model X.prog X.w) X.A (f v u) Q X.xe s2) :
  wpAny (model X.prog X.w) X.A (eval a X.env) (λv s₁=>wpAny (model X.prog X.w) X.A (eval b X.env) (λu s₂=>wpAny (model X.prog X.w) X.A (f v u) Q X.xe s₂) X.xe s₁) X.xe s:=by
 refine thn (ha pins s σ H _ I h) ?_;rintro v s1 ⟨x,H1,I1,r1,q1⟩;refine thn (hb pins s1 σ H1 _ I1 q1) ?_;rintro u s2 ⟨y,H2,I2,r2,q2⟩;exact hf v u s2 x y H2 I2 r1 r2 q2
theorem aO{op:Operator}{r:R2}(ho:OpR X (binaryOp op) r)(ha:PE X a ta)(hb:PE X b tb):PE X (.BinOp a op b pos) (tOp r ta tb):=by
 intro pins s σ H Q I h;exact wpAny_BinOp (Tj ha hb I h λv u s2 x y H2 I2 rx ry q=>ho pins s2 σ H2 x y v u Q I2 rx ry q)
theorem yz{op:UnaryOp}{r:V->Hp->VK->Prop}(ho:UnR X (unaryOp op) r)(ha:PE X a ta):PE X (.UnaryOp op a pos) (tUn r ta):=by
 intro pins s σ H Q I h;exact UnaryOp_ (thn (ha pins s σ H _ I h) λv s1 ⟨x,H1,I1,r1,q1⟩=>ho pins s1 σ H1 x v Q I1 r1 q1)
theorem opI{f:Value->Value->Sem Value}{C:Int->Int->Prop}{g:Int->Int->Int}
  (rule:∀ (i j:Int) (t u:Tok) (s:Shared) (Q:Value->Shared->Prop) (E:Value->Shared->Prop),C i j->Q (.int (g i j) s.toks) { s with toks:=s.toks+1 }->wpAny (model X.prog X.w) X.A (f (.int i t) (.int j u)) Q E s) :
  OpR X f (rI C λi j=>.int (g i j)):=by
 intro pins s σ H x y v u Q I rx ry h;obtain⟨i,j,rfl,rfl,hc,q⟩:=h;obtain⟨t,rfl⟩:=rx;obtain⟨t',rfl⟩:=ry;exact rule i j t t' s _ _ hc ⟨.int (g i j),H,I.tok _,⟨_,rfl⟩,q⟩
theorem Ph{f:Value->Value->Sem Value}{g:Int->Int->Int}
  (rule:∀ (i j:Int) (t u:Tok) (s:Shared) (Q:Value->Shared->Prop) (E:Value->Shared->Prop),Q (.int (g i j) s.toks) { s with toks:=s.toks+1 }->wpAny (model X.prog X.w) X.A (f (.int i t) (.int j u)) Q E s) :
  OpR X f (rI0 λi j=>.int (g i j)):=by
 intro pins s σ H x y v u Q I rx ry h;obtain⟨i,j,rfl,rfl,q⟩:=h;obtain⟨t,rfl⟩:=rx;obtain⟨t',rfl⟩:=ry;exact rule i j t t' s _ _ ⟨.int (g i j),H,I.tok _,⟨_,rfl⟩,q⟩
theorem Pj{f:Value->Value->Sem Value}{g:Int->Int->Bool}
  (rule:∀ (i j:Int) (t u:Tok) (s:Shared) (Q:Value->Shared->Prop) (E:Value->Shared->Prop),Q (.bool (g i j)) s->wpAny (model X.prog X.w) X.A (f (.int i t) (.int j u)) Q E s) :
  OpR X f (rI0 λi j=>.bl (g i j)):=by
 intro pins s σ H x y v u Q I rx ry h;obtain⟨i,j,rfl,rfl,q⟩:=h;obtain⟨t,rfl⟩:=rx;obtain⟨t',rfl⟩:=ry;exact rule i j t t' s _ _ ⟨.bl (g i j),H,I,rfl,q⟩
def Tn(i j:Int):Prop:=0<j/\j<1073741824
def KZ(i j:Int):Prop:=0<=j/\j<=1000000/\i.natAbs<2^64
def Fp(i j:Int):Prop:=(-(2^64)<i/\i<2^64)\/(-(2^64)<j/\j<2^64)
theorem Fp.ok{i j:Int}(h:Fp i j):IntMulOk i j:=by
 rcases h with⟨h1,h2⟩|⟨h1,h2⟩
 ·exact .of_left (intBits_le_64 h1 h2)
 ·exact .of_right (intBits_le_64 h1 h2)
theorem Fq(k:Nat):(0:Int)<=2^k:=by
 rw[two_pow_cast];exact Int.natCast_nonneg _
theorem Tp:OpR X (binaryOp .Add) (rI0 λi j=>.int (i+j)):=Ph λ_ _ _ _ _ _ _ q=>add_int q
theorem qu:OpR X (binaryOp .Sub) (rI0 λi j=>.int (i-j)):=Ph λ_ _ _ _ _ _ _ q=>sub_int q
theorem Tq:OpR X (binaryOp .Mult) (rI Fp λi j=>.int (i*j)):=opI λ_ _ _ _ _ _ _ hc q=>mul_int q hc.ok
theorem tR:OpR X (binaryOp .FloorDiv) (rI Tn λi j=>.int (i/j)):=opI λi j _ _ _ _ _ hc q=>by
 have h1:(0:Int)<j:=hc.1;have h2:j<1073741824:=hc.2;exact floordiv_int (by omega) (by rw[Int.fdiv_eq_ediv_of_nonneg i (by omega)];exact q) (.inl (PyProof.noPylong_small (by omega)))
theorem bY:OpR X (binaryOp .Mod) (rI (λ_ j=>0<j) λi j=>.int (i%j)):=opI λi j _ _ _ _ _ hc q=>by
 have h1:(0:Int)<j:=hc;exact mod_int' (by omega) (by rw[Int.fmod_eq_emod_of_nonneg i (by omega)];exact q)
theorem oh:OpR X (binaryOp .Pow) (rI KZ λi j=>.int (i^j.toNat)):=opI λ_ _ _ _ _ _ _ hc q=>pow_int_small hc.1 hc.2.1 hc.2.2 q
theorem K1:OpR X (binaryOp .LShift) (rI KZ λi j=>.int (i*2^j.toNat)):=opI λ_ _ _ _ _ _ _ hc q=>lshift_int_small hc.1 hc.2.1 hc.2.2 q
theorem Tr:OpR X (binaryOp .RShift) (rI (λ_ j=>0<=j) λi j=>.int (i/2^j.toNat)):=opI λi j _ _ _ _ _ hc q=>
 rshift_int hc (by rw[Int.fdiv_eq_ediv_of_nonneg i (Fq _)];exact q)
theorem K3:OpR X (binaryOp .BitAnd) (rI0 λi j=>.int (Builtin.bitAnd i j)):=Ph λ_ _ _ _ _ _ _ q=>and_int q
theorem Vx:OpR X (binaryOp .BitOr) (rI0 λi j=>.int (Builtin.bitOr i j)):=Ph λ_ _ _ _ _ _ _ q=>or_int q
theorem unI{f:Value->Sem Value}{g:Int->Int}
  (rule:∀ (i:Int) (t:Tok) (s:Shared) (Q:Value->Shared->Prop) (E:Value->Shared->Prop),Q (.int (g i) s.toks) { s with toks:=s.toks+1 }->wpAny (model X.prog X.w) X.A (f (.int i t)) Q E s) :
  UnR X f (rU λi=>.int (g i)):=by
 intro pins s σ H x v Q I rx h;obtain⟨i,rfl,q⟩:=h;obtain⟨t,rfl⟩:=rx;exact rule i t s _ _ ⟨.int (g i),H,I.tok _,⟨_,rfl⟩,q⟩
theorem wy:UnR X (unaryOp .USub) (rU λi=>.int (-i)):=unI λ_ _ _ _ _ q=>neg_int q
theorem Tt:UnR X (unaryOp .Invert) (rU λi=>.int (Builtin.bitNot i)):=unI λ_ _ _ _ _ q=>invert_int q
end
section
variable{X:Cx}{a b c:Expr}{ta tb tc:TE}{pos:Pos}
theorem wz{pins:List (Addr×Obj)}{σ:St}{H:Hp}{s:Shared}{Q:VK}{k k':Bool}(I:Inv X pins σ H s)(q:Q (.bl k) H)(e:k=k'):EP X pins σ Q (.bool k') s:=by
 subst e;exact⟨.bl k,H,I,rfl,q⟩
theorem Vy:OpR X (compareOp .Lt) (rI0 λi j=>.bl (decide (i<j))):=Pj λ_ _ _ _ _ _ _ q=>lt_int q
theorem Vz:OpR X (compareOp .LtE) (rI0 λi j=>.bl (decide (i<=j))):=Pj λ_ _ _ _ _ _ _ q=>le_int q
theorem VB:OpR X (compareOp .Gt) (rI0 λi j=>.bl (decide (j<i))):=Pj λ_ _ _ _ _ _ _ q=>gt_int q
theorem K4:OpR X (compareOp .GtE) (rI0 λi j=>.bl (decide (j<=i))):=Pj λ_ _ _ _ _ _ _ q=>ge_int q
theorem Jr:OpR X (compareOp .Lt) (λx y H Q=>∃ i j,x=.str i/\y=.str j/\Q (.bl (decide (i.cps.toList<j.cps.toList))) H):=by
 intro pins s σ H x y v u Q I rx ry h;obtain⟨i,j,rfl,rfl,q⟩:=h;obtain⟨t,rfl⟩:=rx;obtain⟨t',rfl⟩:=ry;exact lt_str (wz I q rfl)
theorem K5:OpR X (compareOp .Is) (λx y H Q=>y=.non/\Q (.bl (decide (x=.non))) H):=by
 intro pins s σ H x y v u Q I rx ry h;obtain⟨rfl,q⟩:=h;cases ry;refine is_none_gen (wz I q ?_);cases x<;>first
  |(cases rx;rfl)
  |(obtain⟨t,rfl⟩:=rx;rfl)
theorem Pk:OpR X (compareOp .IsNot) (λx y H Q=>y=.non/\Q (.bl (!decide (x=.non))) H):=by
 intro pins s σ H x y v u Q I rx ry h;obtain⟨rfl,q⟩:=h;cases ry;refine isnot_none_gen (wz I q ?_);cases x<;>first
  |(cases rx;rfl)
  |(obtain⟨t,rfl⟩:=rx;rfl)
theorem zF:OpR X (compareOp .NotIn) (λx y H Q=>∃ i j,x=.str i/\y=.str j/\Q (.bl (!(!(Builtin.Str.occurrences j i 0 j.length 1).isEmpty))) H):=by
 intro pins s σ H x y v u Q I rx ry h;obtain⟨i,j,rfl,rfl,q⟩:=h;obtain⟨t,rfl⟩:=rx;obtain⟨t',rfl⟩:=ry;exact notIn_str (wz I q rfl)
theorem OpR.or{f:Value->Value->Sem Value}{r r':R2}(h:OpR X f r)(h':OpR X f r'):OpR X f (λx y H Q=>r x y H Q\/r' x y H Q):=by
 intro pins s σ H x y v u Q I rx ry q;rcases q with q|q
 ·exact h pins s σ H x y v u Q I rx ry q
 ·exact h' pins s σ H x y v u Q I rx ry q
theorem bO(b:Expr){op:CmpOp}(h:op≠.In:=by decide)(h2:op≠.NotIn:=by decide):behindInMarks op b=false:=by
 have e1:(op==CmpOp.In)=false:=by cases op<;>first|rfl|exact absurd rfl h
 have e2:(op==CmpOp.NotIn)=false:=by cases op<;>first|rfl|exact absurd rfl h2
 cases b<;>simp[behindInMarks,e1,e2]
theorem iy{op:CmpOp}{r:R2}(ho:OpR X (compareOp op) r)(ha:PE X a ta)(hb:PE X b tb)(hm:behindInMarks op b=false):PE X (.Compare a [op] [b] pos) (tOp r ta tb):=by
 intro pins s σ H Q I h;exact wpAny_Compare1 (Tj ha hb I h λv u s2 x y H2 I2 rx ry q=>ho pins s2 σ H2 x y v u Q I2 rx ry q) hm
def RX(t:TE):TT:=λσ H Q=>t σ H λx H'=>∃ k,x=.bl k/\Q k H'
theorem bL{op:CmpOp}{r:R2}(ho:OpR X (compareOp op) r)(ha:PE X a ta)(hb:PE X b tb)(hm:behindInMarks op b=false):PT X (.Compare a [op] [b] pos) (RX (tOp r ta tb)):=by
 intro pins s σ H Q I h;refine wpAny_isTrue_Compare1 (thn (ha pins s σ H _ I h) λv s1 ⟨x,H1,I1,r1,q1⟩=>thn (hb pins s1 σ H1 _ I1 q1) λu s2 ⟨y,H2,I2,r2,q2⟩=>
  thn (ho pins s2 σ H2 x y v u _ I2 r1 r2 q2) λc s3 ⟨z,H3,I3,r3,k,e,q3⟩=>?_) hm
 subst e;cases r3;exact wpAny_truthy_bool ⟨H3,I3,q3⟩
def K6(r r':R2)(ta tb tc:TE):TE:=λσ H Q=>ta σ H λx H1=>tb σ H1 λy H2=>r x y H2 λz H3=>∃ k,z=.bl k /\
 (if k=true then tc σ H3 λw' H4=>r' y w' H4 Q else Q (.bl false) H3)
theorem Cj{op op':CmpOp}{r r':R2}(ho:OpR X (compareOp op) r)(ho':OpR X (compareOp op') r')(ha:PE X a ta)(hb:PE X b tb)(hc:PE X c tc)
  (hm:lastMarks [op,op'] [b,c]=false:=by with_unfolding_all rfl):PE X (.Compare a [op,op'] [b,c] pos) (K6 r r' ta tb tc):=by
 intro pins s σ H Q I h;refine Compare_chain (thn (ha pins s σ H _ I h) λv s1 ⟨x,H1,I1,r1,q1⟩=>chain_link (thn (hb pins s1 σ H1 _ I1 q1) λu s2 ⟨y,H2,I2,r2,q2⟩=>
  thn (ho pins s2 σ H2 x y v u _ I2 r1 r2 q2) λd s3 ⟨z,H3,I3,r3,k,e,q3⟩=>?_)) hm
 subst e;cases r3;refine wpAny_truthy_bool ?_;cases k with
 |false=>exact ite_ff ⟨.bl false,H3,I3,rfl,q3⟩
 |true=>exact ite_tt (chain_last (thn (hc pins s3 σ H3 _ I3 q3) λw' s4 ⟨z',H4,I4,r4,q4⟩=>ho' pins s4 σ H4 y z' u w' Q I4 r2 r4 q4))
theorem zG:(sizeLine:Nat)<2^63:=by rw[sizeLine_eq];decide
theorem Ft:OpR X (binaryOp .Add) (λx y H Q=>∃ i j,x=.str i/\y=.str j/\i.length+j.length<=sizeLine/\Q (.str (i++j)) H):=by
 intro pins s σ H x y v u Q I rx ry h;obtain⟨i,j,rfl,rfl,hz,q⟩:=h;obtain⟨t,rfl⟩:=rx;obtain⟨t',rfl⟩:=ry;exact add_str (λt' tk=>⟨.str (i++j),H,I.tok _,⟨_,rfl⟩,q⟩) hz
theorem vals1{x:V}{us:List Value}(r:Vals [x] us):∃ u,us=[u]/\RelV x u:=by
 cases r with
 |cons r1 r2=>cases r2;exact⟨_,rfl,r1⟩
theorem Js:pK X (.type "int") (λxs H Q=>(∃ i,xs=[.int i]/\Q (.int i) H)\/∃ k,xs=[.bl k]/\Q (.int (if k then 1 else 0)) H):=by
 intro pins s σ H xs us Q I r h;rcases h with⟨i,rfl,q⟩|⟨k,rfl,q⟩
 ·obtain⟨u,rfl,t,rfl⟩:=vals1 r;exact call_int_int ⟨.int i,H,I,⟨_,rfl⟩,q⟩
 ·obtain⟨u,rfl,r1⟩:=vals1 r;cases r1;exact call_int_bool ⟨.int (if k then 1 else 0),H,I.tok _,⟨_,rfl⟩,q⟩
def VD(K:PySem.W.Frag)(x:V)(H:Hp)(n:Nat):Prop:=
 match x with
 |.str y=>y.length<=sizeLine/\n=y.length
 |.byt y=>y.size<=sizeLine/\n=y.size
 |.ref p=>(∃ xs,SqL K H p xs/\n=xs.length)\/∃ xs,SqT K H p xs/\n=xs.length
 |_=>False
theorem cP:pK X (.builtin "len") (λxs H Q=>∃ x n,xs=[x]/\VD X.K x H n/\Q (.int n) H):=by
 intro pins s σ H xs us Q I r h;obtain⟨x,n,rfl,e,q⟩:=h;obtain⟨u,rfl,rx⟩:=vals1 r;have hl:=zG;have hs:sizeLine=16777216:=sizeLine_eq;cases x with
 |str y=>
  obtain⟨t,rfl⟩:=rx;obtain⟨hy,e'⟩:y.length<=sizeLine/\n=y.length:=e;subst e';exact len_str (by lia) ⟨.int _,H,I.tok _,⟨_,rfl⟩,q⟩
 |byt y=>
  obtain⟨t,rfl⟩:=rx;obtain⟨hy,e'⟩:y.size<=sizeLine/\n=y.size:=e;subst e';exact PySem.W.len_bytes (by lia) ⟨.int _,H,I.tok _,⟨_,rfl⟩,q⟩
 |ref p=>
  cases rx;have e':(∃ xs,SqL X.K H p xs/\n=xs.length)\/∃ xs,SqT X.K H p xs/\n=xs.length:=e;rcases e' with⟨xs,hx,e'⟩|⟨xs,hx,e'⟩
  ·subst e';obtain⟨its,r',pl,hz⟩:=I.list hx;have hlen:=r'.length;exact Calls.call_len_list pl.isList (by simp only[List.size_toArray];lia) ⟨.int xs.length,H,I.tok _,⟨_,by simp only[List.size_toArray];rw[hlen]⟩,q⟩
  ·subst e';obtain⟨its,r',pl,hz⟩:=I.tuple hx;have hlen:=r'.length;exact len_tuple pl (by simp only[List.size_toArray];lia) ⟨.int xs.length,H,I.tok _,⟨_,by simp only[List.size_toArray];rw[hlen]⟩,q⟩
 |_=>exact(show False from e).elim
end
theorem yC{h:Heap}{dx:Addr}{mA:Str->Option Value}(n:h.Ns1 dx mA):∃ od,h.get? dx=some od/\∀ name,PySem.W.lookIn name od=some (mA name):=by
 obtain⟨o,es,ep,ho,hd,hk,_,hm⟩:=n;refine⟨o,ho,λname=>?_⟩;have e:=hm name;unfold nsFind findBy at e;rw[<-Array.find?_toList] at e;unfold PySem.W.lookIn;rw[hd];dsimp only;split
 ·rename_i y q;rw[q] at e;exact congrArg some e
 ·rename_i q;rw[q] at e;have a:es.toList.any (·.refKey)=false:=by
   rw[List.any_eq_false];intro y hy;obtain⟨z,t,hkey⟩:=hk y (Array.mem_toList_iff.mp hy);simp[DictEntry.refKey,hkey]
  have a':¬es.toList.any (·.refKey)=true:=by rw[a];exact Bool.false_ne_true
  rw[Zal a'];exact congrArg some e
theorem Jt{v:V}{u:Value}(r:RelV v u):PySem.W.handedIn u=true:=by
 cases v with
 |non=>cases (show u=Value.none from r);rfl
 |bl b=>cases (show u=Value.bool b from r);rfl
 |int i=>obtain⟨t,e⟩:=(show ∃ t,u=Value.int i t from r);cases e;rfl
 |str x=>obtain⟨t,e⟩:=(show ∃ t,u=Value.str x t from r);cases e;rfl
 |byt b=>obtain⟨t,e⟩:=(show ∃ t,u=Value.bytes b t from r);cases e;rfl
 |flt b=>obtain⟨t,e⟩:=(show ∃ t,u=Value.float b t from r);cases e;rfl
 |ref a=>cases (show u=Value.ref a from r);rfl
 |ty n=>cases (show u=Value.type n from r);rfl
section
variable{s:Shared}{f:Str}{A:Around}{E:Value->Shared->Prop}
theorem Pn{prog:Program}{w:World}{env:Env}{e:Expr}{f:Str}{pos:Pos}{s:Shared}{Q:Value->Shared->Prop}(hb:attributeBase e f env (eval e env)=eval e env)
  (h:wpAny (model prog w) A (eval e env) (λo s₁=>wpAny (model prog w) A (getAttr o f true) Q E s₁) E s):wpAny (model prog w) A (eval (.Attribute e f pos) env) Q E s:=
 Attribute_any_ h (by rw[arm_eval_Attribute,hb])
end
structure fD(k:Nat)(A:Around):Prop where
 hd:A.handled=none
 dp:A.depth+3*k+5<recursionLimit
 un:A.units+16*k+200<cLine
theorem fD.mono{j k:Nat}{A:Around}(r:fD k A)(h:j<=k):fD j A:=⟨r.hd,by have:=r.dp;lia,by have:=r.un;lia⟩
theorem fD.deeper{k:Nat}{A:Around}(r:fD (k+1) A)(env:Env):fD k (A.deeper env):=
 ⟨r.hd,by have:=r.dp;show A.depth+1+3*k+5<_;lia,by have:=r.un;show A.units+3+16*k+200<_;lia⟩
theorem Fv{A:Around}{C:Addr}{us:List Value}{kw:List (Str×Value)}:(A.under (.builtin "type.__call__" ⟨.ref C::us,kw⟩)).depth=A.depth+1:=by
 first|rfl|simp[Around.under,Code.weight,Code.isCreation,Code.isGuard,Code.isCaller,Code.frames,Code.isFrame,guardIds]
theorem Fw{A:Around}{C:Addr}{us:List Value}{kw:List (Str×Value)}:(A.under (.builtin "type.__call__" ⟨.ref C::us,kw⟩)).units=A.units+1:=by
 first|rfl|simp[Around.under,Code.cUnits,Code.frames,Code.isFrame]
theorem fD.make{k:Nat}{A:Around}(r:fD (k+1) A)(C:Addr)(us:List Value)(kw:List (Str×Value)):fD k (A.under (.builtin "type.__call__" ⟨.ref C::us,kw⟩)):=
 ⟨r.hd,by have:=r.dp;rw[Fv];omega,by have:=r.un;rw[Fw];omega⟩
theorem fD.depth{k:Nat}{A:Around}(r:fD k A):A.depth<recursionLimit:=by have:=r.dp;omega
theorem fD.units{k:Nat}{A:Around}(r:fD k A):A.units+64<cLine:=by have:=r.un;omega
def ye:TA:=λ_ H Q=>Q [] H
def lH(ta:TE)(tr:TA):TA:=λσ H Q=>ta σ H λx H1=>tr σ H1 λxs H2=>Q (x::xs) H2
section
variable{X:Cx}{e:Expr}{es:List Expr}{te:TE}{t:TA}{pos:Pos}
theorem aB:PA X [] ye:=λ_ _ _ _ H Q I h=>Calls.spliced_nil ⟨[],H,I,.nil,h⟩
theorem aj(ha:PE X e te)(hr:PA X es t)(hs:starEach (e::es) X.env=(false,eval e X.env)::starEach es X.env:=by rfl):PA X (e::es) (lH te t):=by
 intro pos pins s σ H Q I h;rw[hs];show wpAny _ _ (spliced ((false,eval e X.env)::backTo pos (starEach es X.env))) _ _ s
 refine Calls.spliced_cons (thn (ha pins s σ H _ I h) ?_);rintro u s1 ⟨x,H1,I1,r1,q1⟩;exact thn (hr pos pins s1 σ H1 _ I1 q1) λus s2 ⟨xs,H2,I2,r2,q2⟩=>⟨x::xs,H2,I2,.cons r1 r2,q2⟩
def Tu(t:TA):TE:=λσ H Q=>t σ H λxs H1=>xs.length<=sizeLine/\∀ p,H1 p=none->Q (.ref p) (upd H1 p (.tup xs))
def VF(t:TA):TE:=λσ H Q=>t σ H λxs H1=>xs.length<=sizeLine/\∀ p,H1 p=none->Q (.ref p) (upd H1 p (.lst xs))
theorem bK{x1}(h:PA X es t):PE X (.Tuple es x1 pos) (Tu t):=by
 intro pins s σ H Q I hq;refine wpAny_Tuple_spliced (thn (h pos pins s σ H _ I hq) λus s1 ⟨xs,H1,I1,r,z,q⟩=>⟨by rw[<-r.length];exact z,?_⟩)
 have hf:H1 s1.heap.objs.size=none:=I1.hok.fresh (Zag _);refine⟨.ref s1.heap.objs.size,upd H1 s1.heap.objs.size (.tup xs),I1.laid (t':=s1.toks) (λb u e=>Zac _ e) (Zag _) ?_,rfl,q _ hf⟩;exact⟨z,us,r,gZ.mk (Zar _ rfl)⟩
theorem dD(h:PA X es t):PE X (.List es pos) (VF t):=by
 intro pins s σ H Q I hq;refine wpAny_List_spliced (thn (h pos pins s σ H _ I hq) λus s1 ⟨xs,H1,I1,r,z,q⟩=>⟨by rw[<-r.length];exact z,?_⟩)
 have hf:H1 s1.heap.objs.size=none:=I1.hok.fresh (Zag _);refine⟨.ref s1.heap.objs.size,upd H1 s1.heap.objs.size (.lst xs),I1.laid (t':=s1.toks) (λb u e=>Zac _ e) (Zag _) ?_,rfl,q _ hf⟩;exact⟨z,us,0,r,Zar _ rfl⟩
end
noncomputable abbrev Sp:=List V->Hp->VK->XK->Prop
noncomputable abbrev CXT:=List Env->Hp->Shared->XK->Value->Shared->Prop
structure Fx(P:Program)(w:World)(K:PySem.W.Frag)(mg:Str->Option Value)(base:Heap)(A:Around)(outer:List Env)(s:Shared)(H:Hp):Prop where
 frames:A.frames=some outer
 mod:Mod K mg base
 bs:∀ b o,base.get? b=some o->s.heap.get? b=some o/\H b=none
 bsz:base.objs.size<=s.heap.objs.size
 sU:s.heap.FunFrames base outer
 frf:∀ b∈frs outer,H b=none
 hok:HOk P w H s.heap
 bare:AllBare s.gens
def CE(outer:List Env)(P:Program)(w:World)(H:Hp)(s:Shared)(Q:VK)(u:Value)(s':Shared):Prop:=
 ∃ v H',s'.os=s.os/\AllBare s'.gens/\Un (frs outer) [] H H' s.heap s'.heap/\HOk P w H' s'.heap/\RelV v u/\Q v H'
def CR(CX:CXT)(outer:List Env)(P:Program)(w:World)(H:Hp)(s:Shared)(Q:VK)(E:XK)(r:Result)(s':Shared):Prop:=
 match r with
 |.ok (.ret u)=>CE outer P w H s Q u s'
 |.ok _=>False
 |.error e=>CX outer H s E e s'
structure sV(P:Program)(w:World)(K:PySem.W.Frag)(mg:Str->Option Value)(base:Heap)(CX:CXT)(k:Nat)(f:Addr)(fd:FuncData)(ps:List Str)(sp:Sp):Prop where
 len:∀ vs H Q E,sp vs H Q E->vs.length=ps.length
 run:∀ (A:Around) (outer:List Env) (s:Shared) (H:Hp) (args:Args) (us:List Value) (vs:List V) (Q:VK) (E:XK),fD k A->Fx P w K mg base A outer s H->BindsTo s fd args (ps.zip us)->Vals vs us->sp vs H Q E ->
  codeAny (model P w) A (.call (.ref f) args) (CR CX outer P w H s Q E) s
theorem Fx.make{P:Program}{w:World}{K:PySem.W.Frag}{mg:Str->Option Value}{base:Heap}{A:Around}{outer:List Env}{s:Shared}{H:Hp}(e:Fx P w K mg base A outer s H)(C:Addr)(us:List Value)(kw:List (Str×Value)) :
  Fx P w K mg base (A.under (.builtin "type.__call__" ⟨.ref C::us,kw⟩)) outer s H:=⟨by first|exact e.frames|(simpa[Around.under,Code.envs,Code.isFrame,pushEnvs] using e.frames),e.mod,e.bs,e.bsz,e.sU,e.frf,e.hok,e.bare⟩
section
variable{X:Cx}{pins:List (Addr×Obj)}{σ:St}{H:Hp}{s s':Shared}
theorem Inv.env0(I:Inv X pins σ H s):Fx X.prog X.w X.K X.mg X.base X.A X.stack s H:=
 ⟨I.ok.frames,I.ok.mod,I.bs,ZaF I.ok.bsz I.sz,I.stack,I.zE,I.hok,I.bare⟩
theorem Inv.after{Q:VK}{u:Value}(I:Inv X pins σ H s)(h:CE X.stack X.prog X.w H s Q u s'):EP X pins σ Q u s':=by
 obtain⟨v,H',os,bare,un,hok,r,q⟩:=h;obtain⟨hh,g,d,t,os'⟩:=s';obtain rfl:os'=s.os:=os;exact⟨v,H',I.call (h':=hh) (g':=g) (d':=d) (t':=t) (ch:=[]) un hok bare (λb z=>absurd z (by simp)),r,q⟩
end
def pL(sp:Sp)(dvs:List V)(E:XK)(t:TA):TE:=λσ H Q=>t σ H λvs H1=>sp (vs++dvs) H1 Q E
def Binds(K:PySem.W.Frag)(fd:FuncData)(ps:List Str)(ds:List Value):Prop:=
 ∀ (s:Shared) (us:List Value),K.In s.heap->(us++ds).length=ps.length->BindsTo s fd ⟨us,[]⟩ (ps.zip (us++ds))
theorem Binds.all{K:PySem.W.Frag}{fd:FuncData}{ps:List Str}(h:∀ us:List Value,us.length=ps.length->bindArgs fd ⟨us,[]⟩=pure (ps.zip us)):Binds K fd ps []:=λs us _ hl=>by
 rw[Zav] at hl ⊢;exact .of_eq (h us hl)
def uJ(CX:CXT)(X:Cx)(E:XK):Prop:=∀ (pins:List (Addr×Obj)) (σ:St) (H:Hp) (s:Shared) (e:Value) (s':Shared),Inv X pins σ H s->CX X.stack H s E e s'->X.xe e s'
section
variable{X:Cx}{CX:CXT}{k:Nat}{f:Addr}{fd:FuncData}{ps:List Str}{sp:Sp}{dvs:List V}{ds:List Value}{E:XK}{x:Str}{p pos:Pos}{e:Expr}{es:List Expr}{t:TA}
theorem Tw{pins:List (Addr×Obj)}{σ:St}{H:Hp}{s:Shared}{Q:VK}{us:List Value}{vs:List V}(F:sV X.prog X.w X.K X.mg X.base CX k f fd ps sp)(hr:fD k X.A)(hb:Binds X.K fd ps ds)(hd:Vals dvs ds)(hx:uJ CX X E)
  (I:Inv X pins σ H s)(r:Vals vs us)(h:sp (vs++dvs) H Q E):wpAny (model X.prog X.w) X.A (call (.ref f) us) (EP X pins σ Q) X.xe s:=by
 have r2:Vals (vs++dvs) (us++ds):=r.append hd;have hl:(us++ds).length=ps.length:=by rw[<-r2.length];exact F.len _ _ _ _ h
 refine wpAny_call (codeAny_mono (F.run X.A X.stack s H ⟨us,[]⟩ (us++ds) (vs++dvs) Q E hr I.env0 (hb s us I.kIn hl) r2 h) λr s' hq=>?_);cases r with
 |error e=>exact hx pins σ H s e s' I hq
 |ok fl=>
  cases fl with
  |ret u=>exact I.after hq
  |next=>exact False.elim hq
  |brk=>exact False.elim hq
  |cont=>exact False.elim hq
theorem Hv(F:sV X.prog X.w X.K X.mg X.base CX k f fd ps sp)(hr:fD k X.A)(hg:Gl X x)(hm:X.mg x=some (.ref f))(hk:keepIn X.K (.ref f)=true)(hb:Binds X.K fd ps ds)(hd:Vals dvs ds)(hx:uJ CX X E)
  (ha:PA X (e::es) t)(hdb:(x==("__debug__":Str))=false:=by decide)(he:starEach (e::es) X.env=(false,eval e X.env)::starEach es X.env:=by rfl)(hpl:(backTo pos (starEach es X.env)).any (·.1)=false:=by rfl) :
  PE X (.Call (.Name x p) (e::es) [] pos) (pL sp dvs E t):=by
 intro pins s σ H Q I h;refine wpAny_Call_Name_kw (tO I hg hm ?_ hdb);refine PySem.W.callWith_K (h₀:=X.base) I.ok.mod.kin hk (thn (ha pos pins s σ H _ I h) λus s1 ⟨vs,H1,I1,r,q⟩=>⟨I1.kIn,?_⟩) he hpl;exact Tw F hr hb hd hx I1 r q
end
structure bw(N P:List Str)(sc:Scope):Prop where
 kind:sc.kind=.function
 co:sc.isCoroutine=false
 gen:sc.isGenerator=false
 nd:N.Nodup
 pre:N.take P.length=P
 par:∀ x∈P,sc.names.lookup x=some .local\/sc.names.lookup x=some .cell
 nofree:∀ y∈sc.names,y.2≠.free
theorem yD{kindOf:Str->Option NameKind}{x:Str}:∀ {binds:List (Str×Value)}{m:Str->Option Value},(∀ v,(x,v) ∉ binds)->bindL kindOf binds m x=m x
 |[],_,_=>rfl
 |(n,v)::r,m,h=>by
  unfold bindL;rw[yD λw hw=>h w (List.mem_cons_of_mem _ hw)];split
  ·have:x≠n:=by rintro rfl;exact h v List.mem_cons_self
   simp[this]
  ·rfl
theorem yE{kindOf:Str->Option NameKind}{x:Str}:∀ {binds:List (Str×Value)}{m:Str->Option Value},(∀ v,(x,v) ∉ binds)->bindC kindOf binds m x=m x
 |[],_,_=>rfl
 |(n,v)::r,m,h=>by
  unfold bindC;rw[yE λw hw=>h w (List.mem_cons_of_mem _ hw)];split
  ·rfl
  ·have:x≠n:=by rintro rfl;exact h v List.mem_cons_self
   simp[this]
theorem yF{kindOf:Str->Option NameKind}{x:Str}{v:Value}:∀ {P:List Str}{vs:List Value}{i:Nat}{m:Str->Option Value},P.Nodup->P[i]?=some x->vs[i]?=some v->kindOf x=some .local ->
  bindL kindOf (P.zip vs) m x=some v
 |[],_,_,_,_,h,_,_=>by simp at h
 |_::_,[],_,_,_,_,h,_=>by simp at h
 |p::P,w::vs,0,m,nd,h1,h2,hk=>by
  simp at h1 h2;subst h1;subst h2;show bindL kindOf ((p,w)::P.zip vs) m p=_
  unfold bindL;rw[yD λv hv=>(List.nodup_cons.mp nd).1 (List.of_mem_zip hv).1,Zao hk];simp
 |p::P,w::vs,i+1,m,nd,h1,h2,hk=>by
  show bindL kindOf ((p,w)::P.zip vs) m x=_
  unfold bindL;exact yF (i:=i) (List.nodup_cons.mp nd).2 (by simpa using h1) (by simpa using h2) hk
theorem yG{kindOf:Str->Option NameKind}{x:Str}{v:Value}:∀ {P:List Str}{vs:List Value}{i:Nat}{m:Str->Option Value},P.Nodup->P[i]?=some x->vs[i]?=some v->kindOf x≠some .local ->
  bindC kindOf (P.zip vs) m x=some v
 |[],_,_,_,_,h,_,_=>by simp at h
 |_::_,[],_,_,_,_,h,_=>by simp at h
 |p::P,w::vs,0,m,nd,h1,h2,hk=>by
  simp at h1 h2;subst h1;subst h2;show bindC kindOf ((p,w)::P.zip vs) m p=_
  unfold bindC;rw[yE λv hv=>(List.nodup_cons.mp nd).1 (List.of_mem_zip hv).1,Zal hk];simp
 |p::P,w::vs,i+1,m,nd,h1,h2,hk=>by
  show bindC kindOf ((p,w)::P.zip vs) m x=_
  unfold bindC;exact yG (i:=i) (List.nodup_cons.mp nd).2 (by simpa using h1) (by simpa using h2) hk
def start(N:List Str)(vs:List V):St:=vs.map some++List.replicate (N.length-vs.length) none
def uK(CX:CXT)(P:Program)(w:World)(K:PySem.W.Frag)(mg:Str->Option Value)(base:Heap)(N:List Str)(qual:Str)(scope:Scope)(f:Addr)(cd:Value)(A:Around)(outer:List Env)(s:Shared)(H:Hp)(E:XK):Cx where
 prog:=P
 w:=w
 K:=K
 mg:=mg
 base:=base
 A:=A.deeper (envOfC qual scope s.heap.objs.size f cd)
 N:=N
 s₀:=s
 H₀:=H
 env:=envOfC qual scope s.heap.objs.size f cd
 outer:=outer
 stack:=envOfC qual scope s.heap.objs.size f cd::outer
 ex:=[]
 calm:=true
 fn:=λ_=>true
 pn:=[]
 xe:=λe s'=>wpAny (model P w) (A.deeper (envOfC qual scope s.heap.objs.size f cd)) (leaving (envOfC qual scope s.heap.objs.size f cd) e) (λ_ s''=>CX outer H s E e s'') (λe' s''=>CX outer H s E e' s'') s'
theorem Ck{sc:Scope}{n:Nat}{x:Str}(h:sc.names.lookup x=some .cell):∃ c,(cellsFrom n sc.names []).lookup x=some c:=by
 have q:=PySem.W.cellsFrom_some sc.names n [] (.inl h);exact Option.isSome_iff_exists.mp q
theorem Ju{CX:CXT}{P:Program}{w:World}{K:PySem.W.Frag}{mg:Str->Option Value}{base:Heap}{N ps:List Str}{qual:Str}{scope:Scope}{f:Addr}{cd:Value}{A:Around}{outer:List Env}{s s1:Shared}{H:Hp}{E:XK}{us:List Value}{vs:List V}
  (S:bw N ps scope)(hd:A.handled=none)(e0:Fx P w K mg base A outer s H)(hl:vs.length=ps.length)(r:Vals vs us)
  (x:InCallC s s.heap.objs.size (bindL (envOfC qual scope s.heap.objs.size f cd).kindOf (ps.zip us) λ_=>none) (cellsFrom (s.heap.objs.size+1) scope.names []) (bindC (envOfC qual scope s.heap.objs.size f cd).kindOf (ps.zip us) λ_=>none) s1) :
  Inv (uK CX P w K mg base N qual scope f cd A outer s H E) [] (start N vs) H s1:=by
 have hpl:ps.length<=N.length:=by have:=congrArg List.length S.pre;rw[Za0] at this;lia
 obtain⟨h1,tk,rfl,hk⟩:=x.done;have noA:∀ b:Addr,b ∉ (uK CX P w K mg base N qual scope f cd A outer s H E).ex:=λb z=>absurd (show b∈([]:List Addr) from z) (by simp)
 refine⟨⟨e0.mod,S.kind,rfl,rfl,Zag _,λy z c h1 h2=>?_,λy hy=>?_,λy c _ h=>?_,λ_=>hd,Around.frames_deeper e0.frames,.inr ⟨rfl,rfl⟩,λb z=>absurd z (noA b),e0.bs,e0.bsz,λb _ _=>noA b,λb z=>absurd z (noA b),e0.sU,e0.frf⟩,
  rfl,e0.bare,Un.kept hk,⟨_,x.toInCall.ns,λi y v h1 h2 h3=>?_⟩,λy c h=>⟨_,x.cell y c h⟩,e0.hok.fresh (Zag _),λy c h=>?_,λp hp=>absurd (show p∈([]:List (Addr×Obj)) from hp) (by simp),e0.hok.kept hk,?_⟩
 ·exact name_of_addr x.apart (Zbg h1) (Zbg h2)
 ·have hy:scope.names.lookup y=some .cell\/scope.names.lookup y=some .free:=hy;rcases hy with hy|hy
  ·exact Ck hy
  ·exact absurd rfl (S.nofree _ (Zbg hy))
 ·exact ZaM (x.above y c (Zbg h))
 ·have hi:i<vs.length:=by
   unfold start at h2;by_cases hi:i<vs.length
   ·exact hi
   ·rw[Zaw (by simpa using hi)] at h2
    rw[ZaX] at h2;split at h2<;>cases h2
  have ha:vs[i]?=some v:=by
   unfold start at h2;rw[Zap (by simpa using hi),Zaf] at h2
   cases e:vs[i]? with
   |none=>rw[e] at h2;cases h2
   |some a=>rw[e] at h2;cases h2;rfl
  obtain⟨u,hu,rv⟩:=r.get ha;have hp:ps[i]?=some y:=by
   rw[<-S.pre,List.getElem?_take_of_lt (by lia)];exact h1
  have ndP:ps.Nodup:=by rw[<-S.pre];exact S.nd.sublist (List.take_sublist _ _)
  refine⟨u,rv,?_⟩;rcases S.par y (Zax hp) with k|k
  ·exact .inl ⟨k,yF ndP hp hu k⟩
  ·obtain⟨c,e⟩:=Ck (n:=s.heap.objs.size+1) k;refine .inr ⟨.inl k,c,e,?_⟩;have q:=x.cell y c e;rw[yG ndP hp hu (by show scope.names.lookup y≠_;rw[k];decide)] at q
   exact q
 ·exact e0.hok.fresh (ZaM (x.above y c (Zbg h)))
 ·unfold start;show _=N.length
  rw[List.length_append,List.length_map,List.length_replicate];lia
theorem RZ{CX:CXT}{P:Program}{w:World}{K:PySem.W.Frag}{mg:Str->Option Value}{base:Heap}{k:Nat}{f:Addr}{name qual:Str}{params:Arguments}{body:List Stmt}{scope:Scope}{dV kV doc pm cdv ct oc:Value}{an od:Option Addr}
  {osl:Array (Option Value)}{N ps:List Str}{sp:Sp}(lk:K.lookup f=some ⟨oc,od,.func (fnOf name qual params body scope dV kV doc pm an cdv ct),osl⟩)(hcd:codeIn K cdv qual=true)(S:bw N ps scope)
  (len:∀ vs H Q E,sp vs H Q E->vs.length=ps.length)
  (hbody:∀ (A:Around) (outer:List Env) (s:Shared) (H:Hp) (vs:List V) (Q:VK) (E:XK),fD k (A.deeper (envOfC qual scope s.heap.objs.size f cdv))->sp vs H Q E ->
   ∃ t,PSs (uK CX P w K mg base N qual scope f cdv A outer s H E) body t/\t { nx:=λ_ H'=>Q .non H',rt:=Q } (start N vs) H) :
  sV P w K mg base CX (k+1) f (fnOf name qual params body scope dV kV doc pm an cdv ct) ps sp:=by
 refine⟨len,λA outer s H args us vs Q E hr e0 hb r hsp=>?_⟩;have hl:=len _ _ _ _ hsp;have KX:K.In s.heap:=e0.mod.kin.keeps λb o e=>(e0.bs b o e).1;have lim:s.heap.NoLimit:=e0.mod.nolimit.keeps λb o e=>(e0.bs b o e).1;have hkind:∀ y∈ps.zip us,scope.names.lookup y.1=some .local\/(scope.names.lookup y.1=some .cell/\((cellsFrom (s.heap.objs.size+1) scope.names []).lookup y.1).isSome=true):=λ⟨n,v⟩ hy=>by
  rcases S.par n (List.of_mem_zip hy).1 with q|q
  ·exact .inl q
  ·exact .inr ⟨q,PySem.W.cellsFrom_some _ _ _ (.inl q)⟩
 refine codeAny_call_function hr.depth (KX _ _ lk) rfl S.co S.gen rfl (PySem.W.codeRec_of KX hcd) (hb _ _ _ _ ?_);refine wpAny_newFunctionEnv_cells S.kind hkind λenv he s1 x=>?_;subst he;refine⟨lim.keeps x.toInCall.keep,codeAny_func ?_⟩;obtain⟨t,ht,hq⟩:=hbody A outer s H vs Q E (hr.deeper _) hsp;have I:Inv (uK CX P w K mg base N qual scope f cdv A outer s H E) [] (start N vs) H s1:=Ju S hr.hd e0 hl r x;refine ZaV (ht [] s1 (start N vs) H _ I hq) (λfl s' hs=>?_) λe s' hs=>hs;have fin:∀ {σ':St}{H':Hp}{v:V}{u:Value},Inv (uK CX P w K mg base N qual scope f cdv A outer s H E) [] σ' H' s'->RelV v u->Q v H'->CE outer P w H s Q u s':=
  λ{σ' H' v u} J rv q=>⟨v,H',J.os,J.bare,J.base,J.hok,rv,q⟩
 cases fl with
 |ret u=>
  obtain⟨v,σ',H',J,rv,q⟩:=hs;exact fin J rv q
 |next=>
  obtain⟨σ',H',J,q⟩:=hs;exact fin (v:=V.non) (u:=Value.none) J rfl q
 |brk=>
  obtain⟨_,_,_,q⟩:=hs;exact False.elim q
 |cont=>
  obtain⟨_,_,_,q⟩:=hs;exact False.elim q
section
variable{X:Cx}{x:Str}{p pos:Pos}{e:Expr}{es:List Expr}{t:TA}{id T:String}{r:List V->Hp->VK->Prop}
def tCB(r:List V->Hp->VK->Prop)(t:TA):TE:=λσ H Q=>t σ H λvs H1=>r vs H1 Q
theorem bD(hc:pK X (.builtin id) r)(hg:Gl X x)(hm:X.mg x=none)(hv:bootBuiltins x=some (.builtin id))(ha:PA X (e::es) t)(hn:x≠"__name__":=by decide)(hdb:(x==("__debug__":Str))=false:=by decide)
  (he:starEach (e::es) X.env=(false,eval e X.env)::starEach es X.env:=by rfl)(hpl:(backTo pos (starEach es X.env)).any (·.1)=false:=by rfl):PE X (.Call (.Name x p) (e::es) [] pos) (tCB r t):=by
 intro pins s σ H Q I h;refine wpAny_Call_Name_kw (uH I hg hm hv ?_ hn hdb);exact PyProof.Rows.callWith_builtin1 (thn (ha pos pins s σ H _ I h) λus s1 ⟨vs,H1,I1,r1,q1⟩=>hc pins s1 σ H1 vs us Q I1 r1 q1) he hpl
theorem jf(hc:pK X (.type T) r)(hg:Gl X x)(hm:X.mg x=none)(hv:bootBuiltins x=some (.type T))(ha:PA X (e::es) t)(hn:x≠"__name__":=by decide)(hdb:(x==("__debug__":Str))=false:=by decide)
  (he:starEach (e::es) X.env=(false,eval e X.env)::starEach es X.env:=by rfl)(hpl:(backTo pos (starEach es X.env)).any (·.1)=false:=by rfl):PE X (.Call (.Name x p) (e::es) [] pos) (tCB r t):=by
 intro pins s σ H Q I h;refine wpAny_Call_Name_kw (uH I hg hm hv ?_ hn hdb);exact Zba (thn (ha pos pins s σ H _ I h) λus s1 ⟨vs,H1,I1,r1,q1⟩=>hc pins s1 σ H1 vs us Q I1 r1 q1) he hpl
end
end L2
namespace HT
open PySem PyProof.Rows
section
variable{prog:Program}{w:World}{A:Around}{E:Value->Shared->Prop}{s:Shared}
theorem Pq{t b:Addr}{vs ws:List Value}{Q:Value->Shared->Prop}(ht:IsTup s.heap t vs.toArray)(hb:IsTup s.heap b ws.toArray)(hv:vs≠[])
  (h1:ws=[]->Q (.ref t) s)(h2:ws≠[]->Q (.ref s.heap.objs.size) { s with heap:=s.heap.push { cls:=.type "tuple",data:=.seq (vs++ws).toArray } })
  (hsz:vs.length+ws.length<=sizeLine):wpAny (model prog w) A (binaryOp .Add (.ref t) (.ref b)) Q E s:=by
 obtain⟨⟨cls,dd,data,sl⟩,ho,hc,n,hd⟩:=id ht;obtain⟨⟨cls2,dd2,data2,sl2⟩,ho2,hc2,n2,hd2⟩:=id hb;simp only at hc hd hc2 hd2;subst hc hd hc2 hd2;have e:vs.toArray++ws.toArray=(vs++ws).toArray:=by simp
 by_cases hw:ws=[]
 ·exact concat_meets ⟨_,ho,rfl⟩ ⟨_,ho2,rfl⟩ noFill_tuple_add seq_tuple_add PySem.F.slot_tuple_add PySem.F.entry_tuple_add (PySem.F.args_tuple_add_2 _ _)
   (tuple_addW1 t b vs.toArray ws.toArray n n2 dd dd2 sl sl2 (by simpa using hv) (by simp[hw])) ⟨ho,ho2,h1 hw⟩
 ·refine concat_meets ⟨_,ho,rfl⟩ ⟨_,ho2,rfl⟩ noFill_tuple_add seq_tuple_add PySem.F.slot_tuple_add PySem.F.entry_tuple_add (PySem.F.args_tuple_add_2 _ _)
   (tuple_addW2 t b vs.toArray ws.toArray n n2 dd dd2 sl sl2 (by simpa using hv) (by simpa using hw) (by rw[List.size_toArray,List.size_toArray];exact hsz)) ⟨ho,ho2,?_⟩
  rw[e];exact h2 hw
def sIx(n d:Nat):Option Int->Nat
 |none=>d
 |some v=>if v<0 then(v+(n:Int)).toNat else min v.toNat n
theorem tU(n d:Nat):sIx n d none=d:=rfl
theorem vN(n d k:Nat):sIx n d (some (k:Int))=min k n:=by
 show(if(k:Int)<0 then((k:Int)+(n:Int)).toNat else min (k:Int).toNat n)=min k n
 rw[Zal (by omega),ZaJ]
theorem Tz(n d:Nat)(hd:d<=n)(o:Option Int):sIx n d o<=n:=by
 cases o with
 |none=>exact hd
 |some v=>
  show(if v<0 then(v+(n:Int)).toNat else min v.toNat n)<=n
  by_cases hv:v<0
  ·rw[Zao hv];omega
  ·rw[Zal hv];exact Nat.min_le_right _ _
theorem Hw(v:Int)(n d:Nat):(if v<0 then max (v+(n:Int)) 0 else min v (n:Int))=((sIx n d (some v):Nat):Int):=by
 show(if v<0 then max (v+(n:Int)) 0 else min v (n:Int))=(((if v<0 then(v+(n:Int)).toNat else min v.toNat n):Nat):Int)
 by_cases hv:v<0
 ·simp only[Zao hv];omega
 ·simp only[Zal hv];omega
theorem Fy(lo hi:Option Int)(n:Nat):Builtin.Slice.sliceAdjust lo hi 1 (n:Int)=(((sIx n 0 lo:Nat):Int),((sIx n n hi:Nat):Int)):=by
 have h1:¬((1:Int)<0):=by omega
 unfold Builtin.Slice.sliceAdjust;simp only[h1,if_false];refine Prod.ext ?_ ?_
 ·cases lo with
  |none=>rfl
  |some v=>exact Hw v n 0
 ·cases hi with
  |none=>rfl
  |some v=>exact Hw v n n
theorem Fz(i j:Nat):Builtin.Slice.slicePlaces (i:Int) (j:Int) 1=j-i:=by
 unfold Builtin.Slice.slicePlaces;have h1:(1:Int)>0:=by omega
 simp only[h1,if_true,Int.ediv_one];split<;>omega
theorem wA{v:Value}{o:Option Int}{Q:Option Int->Shared->Prop}(p:IsPart v o)(h:Q o s):wpAny (model prog w) A (Builtin.Slice.slicePartIndex v) Q E s:=by
 cases p with
 |none=>exact slicePart_none h
 |int i t=>exact slicePart_int h
theorem uL{sl:Addr}{vl vu:Value}{lo hi:Option Int}{n:Nat}{Q:Int×Int×Nat->Shared->Prop}(hs:s.heap.IsSliceOf sl vl vu .none)(pl:IsPart vl lo)(pu:IsPart vu hi)
  (h:Q (((sIx n 0 lo:Nat):Int),1,sIx n n hi-sIx n 0 lo) s):wpAny (model prog w) A (Builtin.Slice.sliceApplied (.ref sl) (pure (n:Int))) Q E s:=by
 obtain⟨os,hos,hcs,hds⟩:=id hs;unfold Builtin.Slice.sliceApplied Builtin.Slice.sliceFields;refine Zae (Zae (wpAny_field hos hds (x:=vl) rfl (Zae (wpAny_field hos hds (x:=vu) rfl (Zae (wpAny_field hos hds (x:=.none) rfl (Zaq ?_)))))));refine Zae (slicePart_none ?_);show wpAny _ _ (if((1:Int)==0)=true then _ else _) _ _ s
 rw[Zal (by decide)]
 refine Zae (wA pl (Zae (wA pu (Zae (Zaq ?_)))));show wpAny _ _ (match Builtin.Slice.sliceAdjust lo hi 1 (n:Int) with|(lo,hi)=>pure (lo,(1:Int),Builtin.Slice.slicePlaces lo hi 1)) _ _ s
 rw[Fy lo hi n];show wpAny _ _ (pure (((sIx n 0 lo:Nat):Int),(1:Int),Builtin.Slice.slicePlaces ((sIx n 0 lo:Nat):Int) ((sIx n n hi:Nat):Int) 1)) _ _ s
 rw[Fz];exact Zaq h
theorem K7(xs:Array Value)(i k:Nat):((List.range k).filterMap λ(m:Nat)=>xs[((i:Int)+(m:Int)*1).toNat]?).toArray=((xs.toList.drop i).take k).toArray:=by
 have e:(λ(m:Nat)=>xs[((i:Int)+(m:Int)*1).toNat]?)=λm=>xs[i+m]?:=by
  funext m
  have:((i:Int)+(m:Int)*1).toNat=i+m:=by omega
  rw[this]
 rw[e];have:=pick_run xs i k;rw[List.filterMap_map] at this;have e2:((λx=>xs[x]?) ∘ λx=>i+x)=λm=>xs[i+m]?:=rfl;rw[e2] at this;rw[this]
theorem tV{t sl:Addr}{items:Array Value}{vl vu:Value}{lo hi:Option Int}{Q:Value->Shared->Prop}(ht:IsTup s.heap t items)(hs:s.heap.IsSliceOf sl vl vu .none)(pl:IsPart vl lo)(pu:IsPart vu hi)
  (hw:¬(sIx items.size 0 lo=0/\sIx items.size items.size hi=items.size))
  (h:Q (.ref s.heap.objs.size) { s with heap:=s.heap.push { cls:=.type "tuple",data:=.seq ((items.toList.drop (sIx items.size 0 lo)).take (sIx items.size items.size hi-sIx items.size 0 lo)).toArray } })
  (hsz:items.size<=sizeLine):wpAny (model prog w) A (getItem (.ref t) (.ref sl)) Q E s:=by
 have htake:sizeOk (.seq ((items.toList.drop (sIx items.size 0 lo)).take (sIx items.size items.size hi-sIx items.size 0 lo)).toArray):=by
  show((items.toList.drop (sIx items.size 0 lo)).take (sIx items.size items.size hi-sIx items.size 0 lo)).toArray.size<=sizeLine
  rw[List.size_toArray,Za0,Zbj,Za9];omega
 have hj:sIx items.size items.size hi<=items.size:=Tz _ _ (Zag _) hi;obtain⟨os,hos,hcs,hds⟩:=id hs;have hTs:s.TypeIs (.ref sl) "slice":=⟨os,hos,hcs⟩;unfold getItem
 try with_reducible refine wpAny_holding ?_
 first|refine Zae (Zaq ?_)|skip
 refine Zae (wpAny_sequenceKey ht.typeIs (by decide) ?_)
 refine Zae (wpAny_callSpecial?_slot (name:=Str.ofString "__getitem__") ht.typeIs PyProof.Rows.slot_tuple_getitem
  (wpAny_call_entry PyProof.Rows.slot_tuple_getitem ht.typeIs entry_tuple_getitem ?_ (args_tuple_getitem _ _)))
 show wpAny _ _ (Builtin.Tuple.tupleItemsOf (.ref t)>>=_) _ _ s
 refine Zae (tupleItemsOf_ ht ?_);refine Zae (wpAny_typeOf hTs ?_);rw[Zao (by decide)]
 refine Zae (uL hs pl pu ?_);have hno:¬((((sIx items.size 0 lo:Nat):Int)==0&&(1:Int)==1&&(sIx items.size items.size hi-sIx items.size 0 lo)==items.size)=true):=by
  intro q;rw[Bool.and_eq_true,Bool.and_eq_true] at q;have q1:((sIx items.size 0 lo:Nat):Int)=0:=eq_of_beq q.1.1;have q2:sIx items.size items.size hi-sIx items.size 0 lo=items.size:=eq_of_beq q.2;exact hw ⟨by omega,by omega⟩
 show wpAny _ _ (if(((sIx items.size 0 lo:Nat):Int)==0&&(1:Int)==1&&(sIx items.size items.size hi-sIx items.size 0 lo)==items.size)=true then _ else _) _ _ s
 rw[Zal hno,K7]
 first
  |exact Zae (m:=Builtin.Tuple.tupleExact _) (wpAny_newObj_type (Zaq ⟨_,rfl,Zaq h⟩) htake)
  |exact Zae (m:=Builtin.Tuple.tupleExact _) (wpAny_newObj_type (Zae (Zaq (Zaq ⟨_,rfl,Zaq h⟩))) htake)
  |exact Zae (Zae (m:=Builtin.Tuple.tupleExact _) (wpAny_newObj_type (Zaq (Zaq ⟨_,rfl,Zaq h⟩)) htake))
  |exact Zae (Zae (m:=Builtin.Tuple.tupleExact _) (wpAny_newObj_type (Zaq ⟨_,rfl,Zaq h⟩) htake))
end
end HT
namespace L2
open PySem PySem.Spec PyProof.Rows
noncomputable abbrev TO:=St->Hp->(Option Int->Hp->Prop)->Prop
def PO(X:Cx)(e:Option Expr)(t:TO):Prop:=
 ∀ (pins:List (Addr×Obj)) (s:Shared) (σ:St) (H:Hp) (Q:Option Int->Hp->Prop),Inv X pins σ H s->t σ H Q ->
  wpAny (model X.prog X.w) X.A (evalPart e X.env) (λu s'=>∃ o H',Inv X pins σ H' s'/\IsPart u o/\Q o H') X.xe s
def Hy:TO:=λ_ H Q=>Q none H
def R0(t:TE):TO:=λσ H Q=>t σ H λx H1=>∃ i,x=.int i/\Q (some i) H1
section
variable{X:Cx}{e:Expr}{te:TE}{lo hi:Option Expr}{tl th:TO}{pos p2:Pos}
theorem jQ:PO X none Hy:=by
 intro pins s σ H Q I h;rw[evalPart_none];exact Zaq ⟨none,H,I,.none,h⟩
theorem fV(h:PE X e te):PO X (some e) (R0 te):=by
 intro pins s σ H Q I hw;rw[evalPart_some];refine thn (h pins s σ H _ I hw) ?_;rintro u s1 ⟨x,H1,I1,r1,q1⟩;obtain⟨i,rfl,q⟩:=q1;obtain⟨t,rfl⟩:=r1;exact⟨some i,H1,I1,.int i t,q⟩
def SlR(X:Cx)(r:V->Option Int->Option Int->Hp->VK->Prop):Prop:=
 ∀ (pins:List (Addr×Obj)) (s:Shared) (σ:St) (H:Hp) (x:V) (v vl vu:Value) (lo hi:Option Int) (sl:Addr) (Q:VK),Inv X pins σ H s->RelV x v->s.heap.IsSliceOf sl vl vu .none->IsPart vl lo->IsPart vu hi->r x lo hi H Q ->
  ∃ T id,typeLookup (.type T) "__getitem__"=pure (some (.builtin id))/\s.TypeIs v T/\wpAny (model X.prog X.w) X.A (getItem v (.ref sl)) (EP X pins σ Q) X.xe s
def tSl(r:V->Option Int->Option Int->Hp->VK->Prop)(te:TE)(tl th:TO):TE:=λσ H Q=>te σ H λx H1=>tl σ H1 λl H2=>th σ H2 λu H3=>r x l u H3 Q
theorem gO{r:V->Option Int->Option Int->Hp->VK->Prop}(hr:SlR X r)(he:PE X e te)(hl:PO X lo tl)(hu:PO X hi th):PE X (.Subscript e (.Slice lo hi none p2) pos) (tSl r te tl th):=by
 intro pins s σ H Q I h;refine Subscript_ (thn (he pins s σ H _ I h) ?_);rintro v s1 ⟨x,H1,I1,r1,q1⟩;refine wpAny_Slice (thn (hl pins s1 σ H1 _ I1 q1) λvl s2 ⟨l,H2,I2,pl,q2⟩=>thn (hu pins s2 σ H2 _ I2 q2) ?_);rintro vu s3 ⟨u,H3,I3,pu,q3⟩;rw[evalPart_none];refine Zaq ?_;have I4:Inv X pins σ H3 { s3 with heap:=s3.heap.push { cls:=.type "slice",data:=.fields #[vl,vu,.none] } }:=I3.kept (t':=s3.toks) λb ob q=>Zac _ q;obtain⟨T,id,hT,ht,hg⟩:=hr pins { s3 with heap:=s3.heap.push { cls:=.type "slice",data:=.fields #[vl,vu,.none] } } σ H3 x v vl vu l u s3.heap.objs.size Q I4 r1 (Heap.IsSliceOf.new ..) pl pu q3;show wpAny (model X.prog X.w) X.A (subscriptTail e (.Slice lo hi none p2) v (.ref s3.heap.objs.size)) (EP X pins σ Q) X.xe { s3 with heap:=s3.heap.push { cls:=.type "slice",data:=.fields #[vl,vu,.none] } }
 exact tail_any (ops:=[.ref s3.heap.objs.size,v]) ht hT hg (by with_unfolding_all rfl)
def zH(xs:List V)(lo hi:Option Int):List V:=(xs.drop (HT.sIx xs.length 0 lo)).take (HT.sIx xs.length xs.length hi-HT.sIx xs.length 0 lo)
theorem u9(xs:List V)(lo hi:Option Int):(zH xs lo hi).length<=xs.length:=by
 unfold zH;rw[Za0,Zbj];omega
def VG(K:PySem.W.Frag):V->Option Int->Option Int->Hp->VK->Prop:=λx lo hi H Q=>∃ a xs,x=.ref a/\SqT K H a xs /\
 ¬(HT.sIx xs.length 0 lo=0/\HT.sIx xs.length xs.length hi=xs.length)/\∀ p,H p=none->Q (.ref p) (upd H p (.tup (zH xs lo hi)))
theorem TF:SlR X (VG X.K):=by
 intro pins s σ H x v vl vu lo hi sl Q I rx hs pl pu h;obtain⟨a,xs,rfl,hx,hw,q⟩:=h;cases rx;obtain⟨its,r,ht,hz⟩:=I.tuple hx;have hlen:its.toArray.size=xs.length:=by rw[List.size_toArray];exact r.length.symm
 refine⟨"tuple",_,PyProof.Rows.slot_tuple_getitem.lookup,ht.typeIs,?_⟩;refine HT.tV ht hs pl pu (by rw[hlen];exact hw) ?_ (by rw[hlen];exact hz)
 rw[hlen];refine⟨.ref s.heap.objs.size,_,I.laid (t':=s.toks) (o:=.tup (zH xs lo hi)) (λb ob q=>Zac _ q) (Zag _) ?_,rfl,q _ (I.hok.fresh (Zag _))⟩;exact⟨ZaF (u9 xs lo hi) hz,_,(r.drop (HT.sIx xs.length 0 lo)).take (HT.sIx xs.length xs.length hi-HT.sIx xs.length 0 lo),gZ.new _ _⟩
def R4(K:PySem.W.Frag):R2:=λx y H Q=>∃ a b xs ys,x=.ref a/\y=.ref b/\SqT K H a xs/\SqT K H b ys/\xs≠[]/\xs.length+ys.length<=sizeLine /\
 (ys=[]->Q (.ref a) H)/\(ys≠[]->∀ p,H p=none->Q (.ref p) (upd H p (.tup (xs++ys))))
theorem Vals.zJ{xs:List V}{us:List Value}(r:Vals xs us):us=[]↔xs=[]:=by
 cases r with
 |nil=>simp
 |cons _ _=>simp
theorem Pu:OpR X (binaryOp .Add) (R4 X.K):=by
 intro pins s σ H x y v u Q I rx ry h;obtain⟨a,b,xs,ys,rfl,rfl,ha,hb,hx,hz,q1,q2⟩:=h;cases rx;cases ry;obtain⟨its,r1,p1,_⟩:=I.tuple ha;obtain⟨its2,r2,p2,_⟩:=I.tuple hb;refine HT.Pq p1 p2 (λz=>hx (r1.zJ.mp z)) (λz=>⟨.ref a,H,I,rfl,q1 (r2.zJ.mp z)⟩) (λz=>?_) (by rw[<-r1.length,<-r2.length];exact hz)
 refine⟨.ref s.heap.objs.size,_,I.laid (t':=s.toks) (o:=.tup (xs++ys)) (λb ob q=>Zac _ q) (Zag _) ?_,rfl,q2 (λw=>z (r2.zJ.mpr w)) _ (I.hok.fresh (Zag _))⟩;exact⟨by rw[List.length_append];exact hz,_,r1.append r2,gZ.new _ _⟩
end
def ixN(n:Nat)(i:Int):Option Nat:=if 0<=i then(if i<n then some i.toNat else none) else if -(n:Int)<=i then some (i+n).toNat else none
def atI{α:Type}(xs:List α)(i:Int):Option α:=(ixN xs.length i).bind λj=>xs[j]?
theorem Px{n:Nat}{i:Int}{j:Nat}(h:ixN n i=some j):seqIndex? i n=some j/\j<n/\-(n:Int)<=i/\i<n:=by
 unfold ixN at h;by_cases h0:0<=i
 ·rw[Zao h0] at h;by_cases h1:i<n
  ·rw[Zao h1] at h;have e:i.toNat=j:=Zaa h;exact⟨by rw[seqIndex_of h0 h1,e],by lia,by lia,h1⟩
  ·rw[Zal h1] at h;cases h
 ·rw[Zal h0] at h;by_cases h1:-(n:Int)<=i
  ·rw[Zao h1] at h;have e:(i+n).toNat=j:=Zaa h;exact⟨by rw[seqIndex_neg (by lia) h1,e],by lia,h1,by lia⟩
  ·rw[Zal h1] at h;cases h
theorem zK{α:Type}{xs:List α}{i:Int}{v:α}(h:atI xs i=some v):∃ j,seqIndex? i xs.length=some j/\xs[j]?=some v/\j<xs.length/\-(xs.length:Int)<=i/\i<xs.length:=by
 unfold atI at h;cases e:ixN xs.length i with
 |none=>rw[e] at h;cases h
 |some j=>
  rw[e] at h;obtain⟨h1,h2,h3,h4⟩:=Px e;exact⟨j,h1,h,h2,h3,h4⟩
theorem jn{α:Type}{xs:List α}{j:Nat}{v:α}(h:xs[j]?=some v):atI xs (j:Int)=some v:=by
 have hj:j<xs.length:=(Zaj.mp h).1;have e:ixN xs.length (j:Int)=some j:=by
  unfold ixN;rw[Zao (by lia),Zao (by lia)];simp
 unfold atI;rw[e];exact h
theorem Cm{α:Type}(xs:List α)(v:α):atI (xs++[v]) (-1)=some v:=by
 have hl:(xs++[v]).length=xs.length+1:=by simp
 have e:ixN (xs++[v]).length (-1)=some xs.length:=by
  unfold ixN;rw[hl,Zal (by decide),Zao (by omega)]
  congr 1
  omega
 unfold atI;rw[e];show(xs++[v])[xs.length]?=some v
 simp
def Py(b:Expr):Prop:=∀ o i,subscripted b false o i=operate [o,i] (getItem o i)
def IxR(X:Cx)(r:R2):Prop:=
 ∀ (value slice:Expr) (pins:List (Addr×Obj)) (s:Shared) (σ:St) (H:Hp) (x y:V) (v u:Value) (Q:VK),Inv X pins σ H s->RelV x v->RelV y u->r x y H Q ->
  subscripted slice false v u=operate [v,u] (getItem v u)->wpAny (model X.prog X.w) X.A (subscriptTail value slice v u) (EP X pins σ Q) X.xe s
def MtR(X:Cx)(id:String)(r:V->List V->Hp->VK->Prop):Prop:=
 ∀ (pins:List (Addr×Obj)) (s:Shared) (σ:St) (H:Hp) (x:V) (xs:List V) (v:Value) (us:List Value) (Q:VK),Inv X pins σ H s->RelV x v->Vals xs us->r x xs H Q ->
  wpAny (model X.prog X.w) X.A (call (.builtin id) (v::us)) (EP X pins σ Q) X.xe s
section
variable{X:Cx}{a b:Expr}{ta tb:TE}{pos:Pos}
theorem IxR.or{r r':R2}(h:IxR X r)(h':IxR X r'):IxR X (λx y H Q=>r x y H Q\/r' x y H Q):=by
 intro value slice pins s σ H x y v u Q I rx ry q hs;rcases q with q|q
 ·exact h value slice pins s σ H x y v u Q I rx ry q hs
 ·exact h' value slice pins s σ H x y v u Q I rx ry q hs
theorem aP{r:R2}(hr:IxR X r)(ha:PE X a ta)(hb:PE X b tb)(hs:Py b):PE X (.Subscript a b pos) (tOp r ta tb):=by
 intro pins s σ H Q I h;exact Subscript_ (Tj ha hb I h λv u s2 x y H2 I2 rx ry q=>hr a b pins s2 σ H2 x y v u Q I2 rx ry q (hs _ _))
def VH(K:PySem.W.Frag):R2:=λx y H Q=>∃ p xs i v,x=.ref p/\y=.int i/\SqL K H p xs/\atI xs i=some v/\Q v H
def VJ(K:PySem.W.Frag):R2:=λx y H Q=>∃ p xs i v,x=.ref p/\y=.int i/\SqT K H p xs/\atI xs i=some v/\Q v H
def VL:R2:=λx y H Q=>∃ z i c,x=.str z/\y=.int i/\z.length<=sizeLine/\atI z.cps.toList i=some c/\Q (.str ⟨#[c]⟩) H
theorem Pz:IxR X (VH X.K):=by
 intro value slice pins s σ H x y v u Q I rx ry h hs;obtain⟨p,xs,i,z,rfl,rfl,hq,he,q⟩:=h;cases rx;obtain⟨t,rfl⟩:=ry;obtain⟨its,r,pl,hz⟩:=I.list hq;obtain⟨j,h1,h2,h3,h4,h5⟩:=zK he;obtain⟨w,ew,rw'⟩:=r.get h2;have hl:=r.length;have hn:=zG;have fin:EP X pins σ Q w s:=⟨z,H,I,rw',q⟩;by_cases h0:0<=i
 ·have hj:i.toNat=j:=by
   rw[seqIndex_of h0 h5] at h1;exact Zaa h1
  exact item_listR pl.isList h0 (by lia) (by rw[hj];simpa using ew) fin hs
 ·have hj:(i+(its.toArray.size:Int)).toNat=j:=by
   rw[seqIndex_neg (by lia) h4] at h1
   rw[List.size_toArray,<-hl];exact Zaa h1
  exact subscriptTail_builtinR (x:=w) pl.isList.typeIs slot_list_getitem.lookup
   (wpAny_getItem_list_neg (Q:=λr s'=>r=w/\EP X pins σ Q r s') pl.isList (by lia) (by rw[List.size_toArray]<;>lia) (by lia) (by rw[hj];simpa using ew) ⟨rfl,fin⟩) hs
theorem TJ:IxR X (VJ X.K):=by
 intro value slice pins s σ H x y v u Q I rx ry h hs;obtain⟨p,xs,i,z,rfl,rfl,hq,he,q⟩:=h;cases rx;obtain⟨t,rfl⟩:=ry;obtain⟨its,r,pl,hz⟩:=I.tuple hq;obtain⟨j,h1,h2,h3,h4,h5⟩:=zK he;obtain⟨w,ew,rw'⟩:=r.get h2;have hl:=r.length;have hn:=zG;have fin:EP X pins σ Q w s:=⟨z,H,I,rw',q⟩;exact subscriptTail_builtinR (x:=w) pl.typeIs slot_tuple_getitem.lookup
  (getItem_tuple (j:=j) (Q:=λr s'=>r=w/\EP X pins σ Q r s') pl (by omega) (by omega) (by rw[List.size_toArray,<-hl];exact h1) (by simpa using ew) ⟨rfl,fin⟩) hs
theorem TQ:IxR X VL:=by
 intro value slice pins s σ H x y v u Q I rx ry h hs;obtain⟨z,i,c,rfl,rfl,hz,he,q⟩:=h;obtain⟨t,rfl⟩:=rx;obtain⟨t',rfl⟩:=ry;obtain⟨j,h1,h2,h3,h4,h5⟩:=zK he;have hl:z.cps.toList.length=z.length:=by simp[Str.length]
 rw[hl] at h1 h4 h5;have hn:=zG;exact tail_any (typeIs_str s z t) slot_str_getitem.lookup (getItem_str (c:=c) (by
  have e1:decide (i < -(2^63:Int))=false:=Zas (by lia)
  have e2:decide (i>=2^63)=false:=Zas (by lia)
  rw[e1,e2,Bool.or_false]) (by rw[h1];simpa using h2) ⟨.str ⟨#[c]⟩,H,I.tok _,⟨_,rfl⟩,q⟩) hs
def rIx(K:PySem.W.Frag):R2:=λx y H Q=>VH K x y H Q\/VJ K x y H Q\/VL x y H Q
theorem aM:IxR X (rIx X.K):=Pz.or (TJ.or TQ)
theorem zL(lo hi:Option Int)(n:Nat):(sliceBounds lo hi none n).1=((HT.sIx n 0 lo:Nat):Int)/\(sliceBounds lo hi none n).2.1=((HT.sIx n n hi:Nat):Int)/\(sliceBounds lo hi none n).2.2=1:=by
 refine⟨?_,?_,rfl⟩
 ·cases lo with
  |none=>simp[sliceBounds,HT.sIx]
  |some i=>
   simp only[sliceBounds,HT.sIx,Option.getD_none,show(1:Int)>0 by decide,if_true]
   by_cases h:i<0
   ·simp only[h,if_true]<;>lia
   ·simp only[h,if_false]<;>lia
 ·cases hi with
  |none=>simp[sliceBounds,HT.sIx]
  |some i=>
   simp only[sliceBounds,HT.sIx,Option.getD_none,show(1:Int)>0 by decide,if_true]
   by_cases h:i<0
   ·simp only[h,if_true]<;>lia
   ·simp only[h,if_false]<;>lia
theorem yf(its:List Value)(lo hi:Option Int):slicePick its.toArray lo hi none=((its.drop (HT.sIx its.length 0 lo)).take (HT.sIx its.length its.length hi-HT.sIx its.length 0 lo)).toArray:=by
 obtain⟨h1,h2,h3⟩:=zL lo hi its.toArray.size;unfold slicePick;rw[h1,h2,h3];simp only[sliceRange_one,pick_run,List.size_toArray]<;>rfl
def VM(K:PySem.W.Frag):V->Option Int->Option Int->Hp->VK->Prop:=λx lo hi H Q=>∃ a xs,x=.ref a/\SqL K H a xs/\∀ p,H p=none->Q (.ref p) (upd H p (.lst (zH xs lo hi)))
theorem rG:SlR X (VM X.K):=by
 intro pins s σ H x v vl vu lo hi sl Q I rx hs pl pu h;obtain⟨a,xs,rfl,hx,q⟩:=h;cases rx;obtain⟨its,r,ht,hz⟩:=I.list hx;have hlen:=r.length;refine⟨"list",_,slot_list_getitem.lookup,ht.isList.typeIs,?_⟩;refine wpAny_getItem_list_slice ht.isList hs pl pu .none (by simp) ?_ (by rw[List.size_toArray]<;>lia)
 rw[yf,<-hlen];refine⟨.ref s.heap.objs.size,_,I.laid (t':=s.toks) (o:=.lst (zH xs lo hi)) (λb ob q=>Zac _ q) (Zag _) ?_,rfl,q _ (I.hok.fresh (Zag _))⟩;exact⟨ZaF (u9 xs lo hi) hz,_,0,(r.drop (HT.sIx xs.length 0 lo)).take (HT.sIx xs.length xs.length hi-HT.sIx xs.length 0 lo),Zar _ rfl⟩
def Xb:V->Bool
 |.non=>true
 |.bl _=>true
 |.int _=>true
 |.str _=>true
 |_=>false
def eqV:V->V->Bool
 |.non,.non=>true
 |.bl a,.bl b=>a==b
 |.bl a,.int b=>(if a then 1 else 0)==b
 |.int a,.bl b=>a==(if b then 1 else 0)
 |.int a,.int b=>a==b
 |.str a,.str b=>a==b
 |_,_=>false
theorem tW:pK X (.type "list") (λxs H Q=>∃ p ys,xs=[.ref p]/\(SqL X.K H p ys\/SqT X.K H p ys)/\∀ l,H l=none->Q (.ref l) (upd H l (.lst ys))):=by
 intro pins s σ H xs us Q I r h;obtain⟨p,ys,rfl,hq,q⟩:=h;obtain⟨u,rfl,rx⟩:=vals1 r;cases rx;have fin:∀ (its:List Value),Vals ys its->ys.length<=sizeLine->∀ (h':Heap) (c':Nat),(∀ b o',s.heap.get? b=some o'->h'.get? b=some o') ->
   h'.get? s.heap.objs.size=some { cls:=.type "list",dict:=none,data:=.seq its.toArray c',slots:=#[] }->EP X pins σ Q (.ref s.heap.objs.size) { s with heap:=h' }:=λits r' hz h' c' kp e=>
  ⟨.ref s.heap.objs.size,_,I.laid (t':=s.toks) kp (Zag _) (show dX X.prog X.w _ h' _ (.lst ys) from⟨hz,its,c',r',e⟩),rfl,q _ (I.hok.fresh (Zag _))⟩
 rcases hq with hq|hq
 ·obtain⟨its,r',pl,hz⟩:=I.list hq;have hlen:=r'.length;obtain⟨o,ho,hc,n,hd⟩:=pl.isList;exact call_list_seq p (.inl rfl) ho hc hd (λh' c' kp e=>fin its r' hz h' c' kp e) (by simp only[List.size_toArray]<;>omega)
 ·obtain⟨its,r',pl,hz⟩:=I.tuple hq;have hlen:=r'.length;obtain⟨o,ho,hc,n,hd⟩:=pl;exact call_list_seq p (.inr rfl) ho hc hd (λh' c' kp e=>fin its r' hz h' c' kp e) (by simp only[List.size_toArray]<;>omega)
theorem mL:pK X (.type "tuple") (λxs H Q=>∃ p ys,xs=[.ref p]/\((SqL X.K H p ys/\∀ l,H l=none->Q (.ref l) (upd H l (.tup ys)))\/(SqT X.K H p ys/\Q (.ref p) H))):=by
 intro pins s σ H xs us Q I r h;obtain⟨p,ys,rfl,h⟩:=h;obtain⟨u,rfl,rx⟩:=vals1 r;cases rx;rcases h with⟨hq,q⟩|⟨hq,q⟩
 ·obtain⟨its,r',pl,hz⟩:=I.list hq;have hlen:=r'.length;refine call_tuple_list pl.isList (λh' kp=>?_) (by simp only[List.size_toArray]<;>omega)
  have I1:Inv X pins σ H { s with heap:=h' }:=I.kept (t':=s.toks) kp;have I2:Inv X pins σ (upd H h'.objs.size (.tup ys)) { s with heap:=h'.push { cls:=.type "tuple",data:=.seq its.toArray } }:=
   I1.laid (t':=s.toks) (λb o e=>Zac _ e) (Zag _) (show dX X.prog X.w _ _ _ (.tup ys) from⟨hz,its,r',gZ.new _ _⟩)
  exact⟨.ref h'.objs.size,_,I2,rfl,q _ (I1.hok.fresh (Zag _))⟩
 ·obtain⟨its,r',pl,hz⟩:=I.tuple hq;exact call_tuple_same pl ⟨.ref p,H,I,rfl,q⟩
def tyV(K:PySem.W.Frag)(T:String)(x:V)(H:Hp):Prop:=match x with
 |.str _=>T="str"
 |.int _=>T="int"
 |.ref p=>(T="list"/\∃ xs,SqL K H p xs)\/(T="tuple"/\∃ o,K.lookup p=some o/\o.cls=.type "tuple"/\o.dict=none) \/
   (T="dict"/\((∃ kvs,H p=some (.dK kvs))\/∃ kvs,H p=some (.dT kvs)))\/(T="set"/\∃ S n,H p=some (.set S n))
 |_=>False
theorem TV{pins:List (Addr×Obj)}{σ:St}{H:Hp}{s:Shared}{T:String}{x:V}{v:Value}(I:Inv X pins σ H s)(r:RelV x v)(ty:tyV X.K T x H) :
  s.TypeIs v T/\∀ a,v=.ref a->∃ ob,s.heap.get? a=some ob/\ob.dict=none:=by
 cases x with
 |str z=>
  obtain⟨t,rfl⟩:=r;cases (show T="str" from ty);exact⟨typeIs_str s z t,λ_ e=>nomatch e⟩
 |int i=>
  obtain⟨t,rfl⟩:=r;cases (show T="int" from ty);exact⟨typeIs_int s i t,λ_ e=>nomatch e⟩
 |ref p=>
  cases r;rcases ty with⟨rfl,xs,hq⟩|⟨rfl,o,hk,hc,hd⟩|⟨rfl,hk⟩|⟨rfl,S,n,hk⟩
  ·obtain⟨its,_,pl,_⟩:=I.list hq;refine⟨pl.isList.typeIs,λa e=>?_⟩;cases e;obtain⟨o,n,e,c,hd,_⟩:=pl;exact⟨o,e,hd⟩
  ·refine⟨⟨o,I.kIn p o hk,hc⟩,λa e=>?_⟩;cases e;exact⟨o,I.kIn _ o hk,hd⟩
  ·have z:∃ o,s.heap.get? p=some o/\o.ExactDict:=by
    rcases hk with⟨kvs,hk⟩|⟨kvs,hk⟩
    ·obtain⟨_,_,_,_,o,_,_,e,ex,_⟩:=I.hok p _ hk;exact⟨o,e,ex⟩
    ·obtain⟨_,_,_,_,o,_,_,e,ex,_⟩:=I.hok p _ hk;exact⟨o,e,ex⟩
   obtain⟨o,e,ex⟩:=z;refine⟨⟨o,e,ex.1⟩,λa e2=>?_⟩;cases e2;exact⟨o,e,ex.2.1⟩
  ·obtain⟨o,_,_,_,e,ex,_⟩:=I.hok p _ hk;refine⟨⟨o,e,ex.1⟩,λa e2=>?_⟩;cases e2;exact⟨o,e,ex.2.1⟩
 |_=>exact False.elim ty
def tBM(K:PySem.W.Frag)(T:String)(r:V->List V->Hp->VK->Prop)(to:TE)(t:TA):TE:=λσ H Q=>to σ H λx H1=>tyV K T x H1/\t σ H1 λxs H2=>r x xs H2 Q
variable{o e:Expr}{es:List Expr}{to:TE}{t:TA}{name:Str}{apos cpos:Pos}{T id:String}{r:V->List V->Hp->VK->Prop}
theorem kE(pa:PlainAttrs T)(slot:Slot T name id)(hty:typeOf (.builtin id)=pure (.type "method_descriptor"))(hm:MtR X id r)(ho:PE X o to)(ha:PA X (e::es) t)
  (hbase:attributeBase o name X.env (eval o X.env)=eval o X.env:=by rfl)
  (hfew:((backTo cpos (starEach (e::es) X.env)).all (λx=>!x.1)&&(backToKw cpos (keywordEach [] X.env)).all (λx=>x.1.isSome)
   && decide ((e::es).length+([]:List Keyword).length+(if([]:List Keyword).isEmpty then 0 else 1)<30))=true:=by rfl)
  (hline:(apos.endLine==cpos.line)=true:=by rfl)(hs:starEach (e::es) X.env=(false,eval e X.env)::starEach es X.env:=by rfl)(hplain:(backTo cpos (starEach es X.env)).any (·.1)=false:=by rfl) :
  PE X (.Call (.Attribute o name apos) (e::es) [] cpos) (tBM X.K T r to t):=by
 intro pins s σ H Q I h;refine wpAny_Call_method_late hbase hfew hline rfl (thn (ho pins s σ H _ I h) ?_);rintro v s1 ⟨x,H1,I1,r1,ty,q1⟩;obtain⟨h1,h2⟩:=TV I1 r1 ty;refine⟨T,id,pa,slot,hty,h1,h2,?_⟩;have hA:=ha cpos pins s1 σ H1 _ I1 q1;rw[hs] at hA ⊢;refine Calls.callWith_builtin (by show(false||(backTo cpos (starEach es X.env)).any (·.1))=false;rw[hplain]<;>rfl) (Calls.evalArgs_plain ?_)
 exact thn hA λus s2 ⟨vs,H2,I2,r2,q2⟩=>hm pins s2 σ H2 x vs v us Q I2 r1 r2 q2
end
def MtM(X:Cx)(id:String)(r:V->List V->Hp->VK->Prop):Prop:=
 ∀ (pins:List (Addr×Obj)) (s:Shared) (σ:St) (H:Hp) (x:V) (xs:List V) (v:Value) (us:List Value) (Q:VK),Inv X pins σ H s->RelV x v->Vals xs us->r x xs H Q ->
  wpAny (model X.prog X.w) X.A (call (.builtin id) (v::us)) (EP X pins σ Q) X.xe s
theorem Vals.one:∀ {x:V}{us:List Value},Vals [x] us->∃ u,us=[u]/\RelV x u
 |_,_,.cons r .nil=>⟨_,rfl,r⟩
theorem Vals.two:∀ {x y:V}{us:List Value},Vals [x,y] us->∃ u v,us=[u,v]/\RelV x u/\RelV y v
 |_,_,_,.cons r (.cons q .nil)=>⟨_,_,rfl,r,q⟩
theorem Vals.rep{xs:List V}{us:List Value}(h:Vals xs us):∀ k:Nat,Vals (List.replicate k xs).flatten (List.replicate k us).flatten
 |0=>.nil
 |k+1=>by
  rw[ZaN,ZaN,Zbf,Zbf];exact Vals.append h (Vals.rep h k)
theorem foldl_rep(its:List Value):∀ (k:Nat) (acc:List Value),
  List.foldl (λx1 x2=>x1++x2) acc.toArray (List.replicate k its.toArray)=(acc++(List.replicate k its).flatten).toArray
 |0,acc=>by simp
 |k+1,acc=>by
  have e:acc.toArray++its.toArray=(acc++its).toArray:=by simp
  have e2:(acc++its)++(List.replicate k its).flatten=acc++(List.replicate (k+1) its).flatten:=by
   rw[ZaN,Zbf,List.append_assoc]
  rw[<-e2,<-foldl_rep its k (acc++its),<-e,ZaN,List.foldl_cons]
section
variable{X:Cx}{pins:List (Addr×Obj)}{σ:St}{H:Hp}{s:Shared}{l:Addr}{xs ys:List V}
theorem Inv.WR{its its':List Value}{n:Nat}{f:Array Value->Array Value}{t':Nat}(I:Inv X pins σ H s)(hH:H l=some (.lst xs))
  (e:s.heap.get? l=some { cls:=.type "list",data:=.seq its.toArray n })(hf:f its.toArray=its'.toArray)(hv:Vals ys its')(hz:ys.length<=sizeLine) :
  Inv X pins σ (upd H l (.lst ys)) { s with heap:=s.heap.update l (Obj.mapSeq f),toks:=t' }:=by
 have q:=PySem.IsL.update e f;rw[hf] at q;refine I.write (x:=l) (e:=l) (by rw[hH];exact trivial) (.inl rfl) (λb' u hb hu=>(Zbc s.heap (Obj.mapSeq f) (Za6 hb)).trans hu) ⟨_,q⟩ ?_
 exact⟨hz,its',_,hv,q⟩
theorem Inv.VN{its:List Value}{t':Nat}(I:Inv X pins σ H s)(hv:Vals ys its)(hz:ys.length<=sizeLine) :
  Inv X pins σ (upd H s.heap.objs.size (.lst ys)) { s with heap:=s.heap.push { cls:=.type "list",data:=.seq its.toArray },toks:=t' }:=
 I.laid (λ_ _ q=>Zac _ q) (Zag _) ⟨hz,its,0,hv,Zar _ rfl⟩
theorem Inv.fresh(I:Inv X pins σ H s):H s.heap.objs.size=none:=I.hok.fresh (Zag _)
theorem Inv.VP(I:Inv X pins σ H s)(hH:H l=some (.lst xs)):xs.length<=sizeLine/\∃ (its:List Value) (n:Nat),Vals xs its/\xs.length=its.length/\s.heap.get? l=some { cls:=.type "list",data:=.seq its.toArray n }:=by
 obtain⟨z,its,n,r,e⟩:=I.hok l _ hH;exact⟨z,its,n,r,r.length,e⟩
theorem K8{n:Nat}(h:n<=sizeLine):Builtin.List.listTooLong n=false:=by
 unfold Builtin.List.listTooLong;exact Zas (by omega)
end
section
variable{X:Cx}
def Hz:V->List V->Hp->VK->Prop:=λx vs H Q=>∃ l xs y,x=.ref l/\vs=[y]/\H l=some (.lst xs)/\xs.length<sizeLine/\Q .non (upd H l (.lst (xs++[y])))
theorem dq:MtM X "list.append" Hz:=by
 intro pins s σ H x vs v us Q I rx rv h;obtain⟨l,xs,y,rfl,rfl,hH,hz,q⟩:=h;cases rx;obtain⟨u,rfl,ru⟩:=rv.one;obtain⟨z,its,n,r,hl,e⟩:=I.VP hH;refine call_meets F.slot_list_append ⟨_,e,rfl⟩ F.entry_list_append (F.args_list_append_2 _ _) (PySem.list_append l its.toArray n u (by rw[List.size_toArray];lia)) ⟨e,?_⟩
 refine⟨.non,_,I.WR (its':=its++[u]) hH e (by simp) (r.append (.cons ru .nil)) ?_,rfl,q⟩
 rw[List.length_append,List.length_singleton];lia
def VR:R2:=λx y H Q=>∃ l k xs,x=.ref l/\y=.int k/\H l=some (.lst xs)/\-(2^63)<=k/\k<2^63/\xs.length*k.toNat<=sizeLine /\
 ∀ p,H p=none->Q (.ref p) (upd H p (.lst (List.replicate k.toNat xs).flatten))
theorem len_rep{α:Type}(xs:List α)(k:Nat):(List.replicate k xs).flatten.length=k*xs.length:=by
 induction k with
 |zero=>simp
 |succ k ih=>rw[ZaN,Zbf,List.length_append,ih,Nat.succ_mul,Nat.add_comm]
theorem TX:OpR X (binaryOp .Mult) VR:=by
 intro pins s σ H x y v u Q I rx ry h;obtain⟨l,k,xs,rfl,rfl,hH,h1,h2,hz,q⟩:=h;cases rx;obtain⟨t,rfl⟩:=ry;obtain⟨z,its,n,r,hl,e⟩:=I.VP hH;have hlen:its.toArray.size*k.toNat<=sizeLine:=by rw[List.size_toArray,<-hl];exact hz
 have hcap:¬its.toArray.size*k.toNat>(2^63-1)/8:=by
  have:(sizeLine:Nat)<=(2^63-1)/8:=by decide
  omega
 have hfit:¬(!Builtin.List.listFitsIndex k)=true:=by
  rw[fitsIndex_both h1 h2];exact Bool.false_ne_true
 have hlong:¬Builtin.List.listTooLong (its.toArray.size*k.toNat)=true:=by
  rw[K8 hlen];exact Bool.false_ne_true
 have hnew:List.foldl (λx1 x2=>x1++x2) #[] (List.replicate (if its.toArray.isEmpty=true then 0 else k.toNat) its.toArray)=(List.replicate k.toNat its).flatten.toArray:=by
  have f0:∀ m:Nat,List.foldl (λx1 x2=>x1++x2) #[] (List.replicate m its.toArray)=(List.replicate m its).flatten.toArray:=λm=>by
   have:=foldl_rep its m [];rw[List.nil_append] at this;exact this
  rw[f0];cases its with
  |nil=>simp
  |cons a r'=>rw[Zal (by simp)]
 refine wpAny_binaryOp_repeat_ref (T:="list") (U:="int") (by decide) ⟨_,e,rfl⟩ (λs'=>typeIs_int s' k t) noFill_list_mul F.fills_int_mul F.slot_int_rmul repeat_list F.slot_int_index.lookup
  (call_meets F.slot_int_rmul (typeIs_int s k t) F.entry_int_rmul (F.args_int_rmul_2 _ _) (int___rmul___int_list k t l its.toArray n)
   ⟨e,rfl,⟨_,e,rfl⟩,call_meets F.slot_list_mul ⟨_,e,rfl⟩ F.entry_list_mul (F.args_list_mul_2 _ _) (AutoListH.list___mul___list_int_3 l its.toArray n k t hfit hcap hlong) ⟨e,?_⟩⟩)
 rw[hnew];exact⟨.ref _,_,I.VN (t':=s.toks) (r.rep k.toNat) (by rw[len_rep,Nat.mul_comm];exact hz),rfl,q _ I.fresh⟩
end
end L2
namespace Att
open PySem PySem.W PySem.Calls PyProof.Rows
theorem vz{P:Params}{h:Heap}:∀ (ns:List Int) (vs:List Value),WellAll P h vs (ns.map WData.int)->IntsAre vs ns:=by
 intro ns;induction ns with
 |nil=>
  intro vs w;rw[List.map_nil] at w;cases w;exact .nil
 |cons n ns ih=>
  intro vs w;rw[Zay] at w;cases w with
  |cons a b=>
   cases a;exact .cons _ _ (ih _ b)
theorem Jv{l:OpenLaw}{n:Nat}(hn:l.most=some n){P:Params}{h:Heap}{args:List WData}{vals:List Value}
  (hpre:l.row.toRowW.claim.pre args=true)(hwl:WellAll P h vals args) :
  ∃ a vs ns,vals=[Value.ref a]/\args=[WData.list (ns.map WData.int)]/\h.get? a=some { cls:=.type "list",data:=.seq vs.toArray }/\IntsAre vs ns/\ns.length<=n:=by
 have hsh:WShape.hasAll [] args [.list .int]=true:=(pre_splitW hpre).1;have hc:l.pre.holds [] { args:=args }=true:=(pre_splitW hpre).2;obtain⟨d,r,rfl,h1,h2⟩:=hasAllW_cons hsh;obtain rfl:=hasAllW_nil h2;obtain⟨xs,rfl,h3⟩:=hasW_list h1;obtain⟨ns,rfl⟩:=items_int h3;have hlen:ns.length<=n:=by
  unfold OpenLaw.pre at hc;have h4:(WTm.not (.lt (.lit (.int (n:Int))) (.len (.arg 0)))).holds [] { args:=[.list (ns.map .int)] }=true:=by
   have h4:=(holds_andW hc).1;rw[hn] at h4;exact h4
  have h5:=condW_of h4 (w_not (w_lt w_lit (w_len_list (w_arg rfl))));rw[List.length_map] at h5;refine Nat.le_of_not_lt λq=>?_;have q':(n:Int)<((ns.length:Nat):Int):=by omega
  first
   |(rw[Zaz q'] at h5;exact absurd h5 (by decide))
   |(simp at h5;omega)
 cases hwl with
 |cons w1 w2=>
  cases w2;cases w1 with
  |list ho hall=>exact⟨_,_,ns,rfl,rfl,ho,vz ns _ hall,hlen⟩
theorem Jw(l:OpenLaw)(args:List WData):l.row.toRowW.claim.post args (.bool true) args=true:=
 postW_of (r:=l.row.toRowW) (X:=(true==true))
  (show WShape.has [] (.bool true) .bool=true by first|rfl|decide|simp[WShape.has,WShape.arms,WShape.armsAll])
  (show(WTm.eq .res (.lit (.bool true))).value [] { args:=args,res:=some (.bool true),after:=args }=some (.bool (true==true)) from w_eq_bool (w_res rfl) w_lit) rfl
theorem Cp{l:OpenLaw}{n:Nat}{q:Program}{loose:List Str}{XP:(Str->Option Value)->Heap->Prop}{YP:World->Heap->Prop}{d:DefRec}
  (hn:l.most=some n)(hdf:d.params.defaults=[])
  (call:∀ (w:World) (s₀ s₁:Shared) (mg mb:Str->Option Value) (fa:Addr) (o:Obj) (pm cd doc:Value) (a:Addr) (vs:List Value) (ns:List Int),
   Ground q loose [] XP w s₀ mg mb s₁.heap->YP w s₁.heap ->
   s₁.heap.get? fa=some o->o.data=.func (docDef d.name d.params d.body d.scope pm cd doc)->s₁.heap.CodeRec cd d.name->mg d.name=some (.ref fa) ->
   s₁.heap.get? a=some { cls:=.type "list",data:=.seq vs.toArray }->IntsAre vs ns->ns.length<=n->s₁.gens=#[] ->
   codeAny (model l.prog w) callerA (.call (.ref fa) ⟨[.ref a],[]⟩) (λr s'=>r=.ok (.ret (.bool true))/\OldK s₁.heap s'.heap/\s'.os=s₁.os/\AllBare s'.gens) s₁) :
  WalkO q loose XP YP l.row.toRowW d [] (λf vs=>PySem.call f vs):=by
 intro w s₀ s₁ mg mb G Y fa o pm cd doc dV kV ho hd hcd hD hmg hg args vals as hpre hlay hrd hwl hlo;obtain rfl:dV=.none:=Dflts.none hD hdf;obtain rfl:kV=.none:=Dflts.noKw hD;obtain⟨a,vs,ns,rfl,rfl,hobj,hints,hlen⟩:=Jv hn hpre hwl;refine enter_call (codeAny_mono (call w s₀ s₁ mg mb fa o pm cd doc a vs ns G Y ho (fd_plain hd) hcd hmg hobj hints hlen hg) λr s' hq=>?_);obtain⟨rfl,h2,h3,h4⟩:=hq;exact⟨.inl ⟨.bool true,.bool true,[],rfl,λ_=>rfl,.bool true,Jw l _,λ_=>⟨List.Pairwise.nil,λ_ hm=>(nomatch hm)⟩⟩,h2,h3,h4⟩
end Att
namespace L2
open PySem PySem.Spec PyProof.Rows
theorem uM:∀ {vs:List Value}{ns:List Int},IntsAre vs ns->Vals (ns.map V.int) vs
 |_,_,.nil=>.nil
 |_,_,.cons n t h=>.cons ⟨t,rfl⟩ (uM h)
def Only(H:Hp):Prop:=∀ b,H b=none\/∃ o xs,H b=some (.frz o (.lst xs))
theorem K9{P:Program}{w:World}{K:PySem.W.Frag}{mg mb:Str->Option Value}{CX:CXT}{k:Nat}{fa a:Addr}{fd:FuncData}{x:Str}{sp:Sp}{s₁:Shared}{vs:List Value}{ns:List Int}
  (KX:K.In s₁.heap)(hns:s₁.heap.Ns mainGlobals mg)(hb:s₁.heap.Ns builtinsNs mb)(hbb:∀ x:Str,x≠"__name__"->mb x=bootBuiltins x)(hlim:s₁.heap.NoLimit)(hg:s₁.gens=#[])
  (ha:s₁.heap.get? a=some { cls:=.type "list",data:=.seq vs.toArray })(hi:IntsAre vs ns)(hl:ns.length<=sizeLine)(hr:fD k callerA)
  (F:∀ base:Heap,K.In base->base.Ns mainGlobals mg->sV P w K mg base CX k fa fd [x] sp)(hbind:∀ (s:Shared) (u:Value),BindsTo s fd ⟨[u],[]⟩ [(x,u)])
  (hsp:∀ H:Hp,Only H->SqL K H a (ns.map V.int)->sp [.ref a] H (λv _=>v=.bl true) λ_ _ _=>False)
  (hCX:∀ H e s',CX [] H s₁ (λ_ _ _=>False) e s'->False) :
  codeAny (model P w) callerA (.call (.ref fa) ⟨[.ref a],[]⟩) (λr s'=>r=.ok (.ret (.bool true))/\OldK s₁.heap s'.heap/\s'.os=s₁.os/\AllBare s'.gens) s₁:=by
 have rv:=uM hi;have lenV:=hi.length;have core:∀ H:Hp,Only H->SqL K H a (ns.map V.int)->HOk P w H s₁.heap->(∀ b,H b≠none->b=a)->(H a≠none->K.lookup a=none) ->
   codeAny (model P w) callerA (.call (.ref fa) ⟨[.ref a],[]⟩) (λr s'=>r=.ok (.ret (.bool true))/\OldK s₁.heap s'.heap/\s'.os=s₁.os/\AllBare s'.gens) s₁:=by
  intro H hO hS hok hA hK;have base_of:∀ {b:Addr}{o:Obj},s₁.heap.get? b=some o->H b=none->(zA s₁.heap H).get? b=some o:=λe n=>KQ e n;have noA:∀ {b:Addr}{o:Obj}{es:Array DictEntry}{ep:Nat},s₁.heap.get? b=some o->o.data=.dict es ep->H b=none:=λ{b o es ep} e d=>by
   cases q:H b with
   |none=>rfl
   |some u=>
    have e':b=a:=hA b (by rw[q];simp)
    subst e';rw[ha] at e;cases e;have d':Data.seq vs.toArray _=Data.dict es ep:=d;cases d'
  have nsK:∀ {b:Addr}{m:Str->Option Value},s₁.heap.Ns b m->(zA s₁.heap H).Ns b m:=λ{b m} ⟨o,es,ep,e,d,r⟩=>⟨o,es,ep,base_of e (noA e d),d,r⟩;have hKb:K.In (zA s₁.heap H):=λb o e=>base_of (KX b o e) (by
   cases q:H b with
   |none=>rfl
   |some u=>
    have e':b=a:=hA b (by rw[q];simp)
    subst e';rw[hK (by rw[q];simp)] at e;cases e)
  have hM:Mod K mg (zA s₁.heap H):=⟨hKb,nsK hns,⟨mb,nsK hb,hbb⟩,let⟨mc,h1,h2⟩:=hlim;⟨mc,nsK h1,h2⟩⟩;have e0:Fx P w K mg (zA s₁.heap H) callerA [] s₁ H:=⟨rfl,hM,λb o e=>O9 e,Nat.le_of_eq (Jm _ _),trivial,λb hb=>absurd (show b∈([]:List Addr) from hb) (by simp),hok,.of_eq hg⟩
  refine codeAny_mono ((F _ hKb (nsK hns)).run callerA [] s₁ H ⟨[.ref a],[]⟩ [.ref a] [.ref a] _ _ hr e0 (hbind s₁ (.ref a)) (.cons rfl .nil) (hsp H hO hS)) λr s' h=>?_;cases r with
  |error e=>exact(hCX H e s' h).elim
  |ok fl=>
   cases fl with
   |next=>exact False.elim h
   |brk=>exact False.elim h
   |cont=>exact False.elim h
   |ret u=>
    obtain⟨v,H',os,bare,un,hok',r',q⟩:=h;have q':v=.bl true:=q;subst q';obtain rfl:u=Value.bool true:=r';refine⟨rfl,OldK.of_keep λb o e=>?_,os,bare⟩;cases q:H b with
    |none=>exact un.keep b o e q (by intro z;exact absurd (show b∈([]:List Addr) from z) (by simp)) (by simp)
    |some u=>
     rcases hO b with z|⟨ob,xs,z⟩
     ·rw[q] at z;cases z
     ·have z2:=un.frzs b ob _ z;obtain⟨e1,_⟩:=hok b _ z;obtain⟨e2,_⟩:=hok' b _ z2;rw[e] at e1;cases e1;exact e2
 cases hk:K.lookup a with
 |some o=>
  have e:=KX a o hk;rw[ha] at e;cases e;refine core (λ_=>none) (λ_=>.inl rfl) (.inr ⟨_,vs.toArray,_,hk,rfl,rfl,rfl,by rw[List.size_toArray,lenV];exact hl,by simpa using rv⟩) (λb u z=>by have z':(none:Option HO)=some u:=z;cases z') (λb z=>absurd rfl z) λz=>absurd rfl z
 |none=>
  refine core (λb=>if b=a then some (.frz { cls:=.type "list",data:=.seq vs.toArray } (.lst (ns.map V.int))) else none) (λb=>?_) (.inl (.inr ⟨{ cls:=.type "list",data:=.seq vs.toArray },Zao rfl⟩)) (λb u z=>?_) (λb z=>?_) λ_=>hk
  ·by_cases hb:b=a
   ·exact .inr ⟨_,_,Zao hb⟩
   ·exact .inl (Zal hb)
  ·by_cases hb:b=a
   ·have z':=(Zao hb).symm.trans z;cases z';subst hb;exact⟨ha,by rw[List.length_map];exact hl,vs,_,rv,ha⟩
   ·have z':=(Zal hb).symm.trans z;cases z'
  ·by_cases hb:b=a
   ·exact hb
   ·exact absurd (Zal hb) z
theorem PB{l:PySem.W.OpenLaw}{n k:Nat}{q:Program}{loose:List Str}{XP:(Str->Option Value)->Heap->Prop}{YP:World->Heap->Prop}{d:DefRec}{K:Params->PySem.W.Frag}{CX:World->CXT}{sp:World->Sp}{x:Str}
  (hn:l.most=some n)(hn2:n<=sizeLine)(hdf:d.params.defaults=[])(hr:fD k callerA)
  (hY:∀ (w:World) (h:Heap),YP w h->(K w.params).In h)
  (F:∀ (w:World) (mg:Str->Option Value) (fa:Addr) (h:Heap),(K w.params).In h->h.Ns mainGlobals mg->mg d.name=some (.ref fa) ->
   ∃ fd:FuncData,(∀ (s:Shared) (u:Value),BindsTo s fd ⟨[u],[]⟩ [(x,u)]) /\
    ∀ base:Heap,(K w.params).In base->base.Ns mainGlobals mg->sV l.prog w (K w.params) mg base (CX w) k fa fd [x] (sp w))
  (hsp:∀ (w:World) (H:Hp) (a:Addr) (ns:List Int),ns.length<=n->Only H->SqL (K w.params) H a (ns.map V.int)->sp w [.ref a] H (λv _=>v=.bl true) λ_ _ _=>False)
  (hCX:∀ (w:World) (H:Hp) (s:Shared) (e:Value) (s':Shared),CX w [] H s (λ_ _ _=>False) e s'->False) :
  PySem.W.WalkO q loose XP YP l.row.toRowW d [] (λf vs=>PySem.call f vs):=by
 refine Att.Cp hn hdf λw s₀ s₁ mg mb fa o pm cd doc a vs ns G Y ho hd hcd hmg hobj hints hlen hg=>?_;have KX:=hY w _ Y;obtain⟨fd,hb,hF⟩:=F w mg fa _ KX G.T.g hmg;exact K9 KX G.T.g G.T.b G.T.builtins G.T.nolimit hg hobj hints (ZaF hlen hn2) hr hF hb (λH hO hS=>hsp w H a ns hlen hO hS) λH e s'=>hCX w H s₁ e s'
def inClass(s:Stmt)(j:Nat):Stmt:=match s with
 |.ClassDef _ _ _ body _ _ _ _ _ _ _=>body.getD j (.Pass ⟨0,0,0,0⟩)
 |_=>.Pass ⟨0,0,0,0⟩
def bx(s:Stmt):Arguments:=match s with
 |.FunctionDef _ a _ _ _ _ _ _ _ _=>a
 |_=>{ posonlyargs:=[],args:=[],vararg:=none,kwonlyargs:=[],kw_defaults:=[],kwarg:=none,defaults:=[] }
def bh(s:Stmt):List Stmt:=match s with
 |.FunctionDef _ _ b _ _ _ _ _ _ _=>b
 |_=>[]
def aG(s:Stmt):Scope:=match s with
 |.FunctionDef _ _ _ _ _ _ sc _ _ _=>sc
 |_=>{ kind:=.function,names:=[],isGenerator:=false,isCoroutine:=false }
noncomputable abbrev CX0:CXT:=λ_ _ _ _ _ _=>False
noncomputable abbrev E0:XK:=λ_ _ _=>False
theorem V0{X:Cx}:uJ CX0 X E0:=λ_ _ _ _ _ _ _ h=>h.elim
structure Fun(K:PySem.W.Frag)(x qual:Str)(st:Stmt)(f:Addr)(fd:FuncData):Prop where
 ex:∃ (oc:Value) (od:Option Addr) (kV doc pm:Value) (an:Option Addr) (cdv ct:Value) (osl:Array (Option Value)),
  fd=fnOf x qual (bx st) (bh st) (aG st) .none kV doc pm an cdv ct/\K.lookup f=some ⟨oc,od,.func fd,osl⟩/\codeIn K cdv qual=true
 kp:keepIn K (.ref f)=true
section
variable{P:Program}{w:World}{K:PySem.W.Frag}{mg:Str->Option Value}{base:Heap}
theorem Fun.ok{x qual:Str}{st:Stmt}{f:Addr}{fd:FuncData}{N ps:List Str}{k:Nat}{sp:Sp}(F:Fun K x qual st f fd)(S:bw N ps (aG st))(len:∀ vs H Q E,sp vs H Q E->vs.length=ps.length)
  (hbody:∀ (cdv:Value) (A:Around) (outer:List Env) (s:Shared) (H:Hp) (vs:List V) (Q:VK) (E:XK),fD k (A.deeper (envOfC qual (aG st) s.heap.objs.size f cdv))->sp vs H Q E ->
   ∃ t,PSs (uK CX0 P w K mg base N qual (aG st) f cdv A outer s H E).nox (bh st) t/\t { nx:=λ_ H'=>Q .non H',rt:=Q } (start N vs) H):sV P w K mg base CX0 (k+1) f fd ps sp:=by
 obtain⟨oc,od,kV,doc,pm,an,cdv,ct,osl,rfl,lk,hcd⟩:=F.ex;refine RZ lk hcd S len λA outer s H vs Q E hr hsp=>?_;obtain⟨t,h,q⟩:=hbody cdv A outer s H vs Q E hr hsp;exact⟨t,h.nox,q⟩
theorem Fun.binds{x qual:Str}{st:Stmt}{f:Addr}{fd:FuncData}{ps:List Str}(F:Fun K x qual st f fd)
  (h:∀ (kV doc pm:Value) (an:Option Addr) (cdv ct:Value) (us:List Value),us.length=ps.length->bindArgs (fnOf x qual (bx st) (bh st) (aG st) .none kV doc pm an cdv ct) ⟨us,[]⟩=pure (ps.zip us)):Binds K fd ps []:=by
 obtain⟨oc,od,kV,doc,pm,an,cdv,ct,osl,rfl,lk,hcd⟩:=F.ex;exact .all (h kV doc pm an cdv ct)
theorem bZ{x qual:Str}{st:Stmt}{f:Addr}{oc:Value}{od an:Option Addr}{osl:Array (Option Value)}{kV doc pm cdv ct:Value}(l:K.lookup f=some ⟨oc,od,.func (fnOf x qual (bx st) (bh st) (aG st) .none kV doc pm an cdv ct),osl⟩)
  (c:codeIn K cdv qual=true)(k:keepIn K (.ref f)=true):Fun K x qual st f (fnOf x qual (bx st) (bh st) (aG st) .none kV doc pm an cdv ct):=⟨⟨oc,od,kV,doc,pm,an,cdv,ct,osl,rfl,l,c⟩,k⟩
end
theorem La{A:Around}{k:Nat}(hr:fD k A):A.units+1<cLine:=Nat.lt_of_le_of_lt (Nat.add_le_add_left (by decide:1<=64) _) hr.units
theorem bU{n:Nat}(h:n<=1000):n<sizeLine:=Nat.lt_of_le_of_lt h (by decide)
section
variable{X:Cx}
theorem pv(i:Nat){x:Str}{pos:Pos}(hN:X.N[i]?=some x:=by rfl)(hv:Vis X.env.scope x:=by first|exact Or.inl rfl|exact Or.inr (Or.inl rfl)|exact Or.inr (Or.inr rfl))(hd:(x==("__debug__":Str))=false:=by decide)
  (hcd:(x==("__classdict__":Str))=false:=by decide):PE X (.Name x pos) (tM i):=Fi hN hv hd hcd
end
theorem jK{c A B:Prop}[Decidable c](h1:c->A)(h2:¬c->B):if c then A else B:=by
 by_cases h:c
 ·rw[Zao h];exact h1 h
 ·rw[Zal h];exact h2 h
def bf(H H':Hp):Prop:=∀ b o,H b=some o->H' b=some o
theorem bf.refl(H:Hp):bf H H:=λ_ _ h=>h
theorem bf.trans{H H1 H2:Hp}(a:bf H H1)(b:bf H1 H2):bf H H2:=λc o h=>b c o (a c o h)
theorem bf.free{H H':Hp}(e:bf H H'){l:Addr}(h:H' l=Option.none):H l=Option.none:=by
 cases q:H l with
 |none=>rfl
 |some o=>
  rw[e l o q] at h;cases h
theorem bf.seq{K:PySem.W.Frag}{H H':Hp}{a:Addr}{xs:List V}(e:bf H H')(h:SqL K H a xs):SqL K H' a xs:=by
 rcases h with(h|⟨o,h⟩)|h
 ·exact .inl (.inl (e _ _ h))
 ·exact .inl (.inr ⟨o,e _ _ h⟩)
 ·exact .inr h
end L2
set_option maxHeartbeats 4000000
namespace Mth
def num:List Bool->Nat
 |[]=>0
 |b::r=>b.toNat+2*num r
def sub(l m:List Bool):Bool:=(List.range l.length).all λi=>!l.getD i false||m.getD i false
theorem vO:∀ {l m:List Bool},l.length=m.length->num l=num m->l=m
 |[],[],_,_=>rfl
 |[],_::_,h,_=>by simp at h
 |_::_,[],h,_=>by simp at h
 |a::l,b::m,h,e=>by
  have e':a.toNat+2*num l=b.toNat+2*num m:=e;have hh:a=b/\num l=num m:=by cases a<;>cases b<;>simp at e' ⊢<;>omega
  rw[hh.1,vO (by simpa using h) hh.2]
theorem PJ(n p:Nat):(n/2^p) &&& 1=(n.testBit p).toNat:=by
 have h:=Nat.testBit_eq_decide_div_mod_eq (x:=n) (i:=p);rw[Nat.and_one_is_mod,h];by_cases e:n/2^p%2=1
 ·simp[e]
 ·have:n/2^p%2=0:=by omega
  simp[this]
def pl(W:Nat)(c:Int×Int):Nat:=c.2.toNat*W+c.1.toNat
def cellOf(W:Nat)(i:Nat):Int×Int:=(((i%W:Nat):Int),((i/W:Nat):Int))
def FJ(W:Nat)(ps:List (Int×Int)):Nat:=ps.foldl (λn c=>n ||| 2^pl W c) 0
theorem Jx(W:Nat)(ps:List (Int×Int))(c:Int×Int):FJ W (ps++[c])=FJ W ps ||| 2^pl W c:=by
 unfold FJ;rw[List.foldl_append];rfl
end Mth
namespace L2
open PySem PySem.Spec PyProof.Rows
theorem sW{env:Env}:∀ (names:List (Str×NameKind)) (cs:List (Str×Addr)),(∀ x∈names,x.2=.free->∃ c,env.cells.lookup x.1=some c) ->
  (∀ x c,cs.lookup x=some c->env.cells.lookup x=some c) ->
  ∃ cl,(forIn names cs λx s=>if(x.snd==NameKind.free)=true then do let d <-cellOf env x.fst;pure (ForInStep.yield ((x.fst,d)::s)) else pure (ForInStep.yield s):Sem _)=pure cl /\
   (∀ x c,cl.lookup x=some c->env.cells.lookup x=some c)/\(∀ x c,cs.lookup x=some c->cl.lookup x=some c)/\∀ x,(x,NameKind.free)∈names->∃ c,cl.lookup x=some c
 |[],cs,_,h2=>⟨cs,rfl,h2,λ_ _ e=>e,λ_ h=>nomatch h⟩
 |(n,k)::r,cs,h1,h2=>by
  rw[List.forIn_cons];by_cases hk:k=.free
  ·subst hk;obtain⟨c,hc⟩:=h1 (n,.free) List.mem_cons_self rfl;have ec:cellOf env n=pure c:=by unfold cellOf;simp only[hc]
   obtain⟨cl,e,p1,p2,p3⟩:=sW r ((n,c)::cs) (λx hx=>h1 x (List.mem_cons_of_mem _ hx)) (λx d e=>by
    rw[List.lookup_cons] at e;by_cases hx:x=n
    ·subst hx;simp at e;subst e;exact hc
    ·have hb:(x==n)=false:=beq_eq_false_iff_ne.mpr hx;rw[hb] at e;exact h2 x d e)
   refine⟨cl,?_,p1,λx d e'=>?_,λx hx=>?_⟩
   ·simp only[beq_self_eq_true,if_true,ec];exact e
   ·by_cases hx:x=n
    ·subst hx;have:=h2 _ _ e';rw[hc] at this;cases this;exact p2 x c (by simp)
    ·have hb:(x==n)=false:=beq_eq_false_iff_ne.mpr hx;exact p2 x d (by rw[List.lookup_cons,hb];exact e')
   ·rcases ZaB.mp hx with e|hx
    ·cases e;exact⟨c,p2 n c (by simp)⟩
    ·exact p3 x hx
  ·obtain⟨cl,e,p1,p2,p3⟩:=sW r cs (λx hx=>h1 x (List.mem_cons_of_mem _ hx)) h2;have hb:(k==NameKind.free)=false:=by simpa using hk
   refine⟨cl,?_,p1,p2,λx hx=>?_⟩
   ·simp only[hb,Bool.false_eq_true,if_false];exact e
   ·rcases ZaB.mp hx with e|hx
    ·cases e;exact absurd rfl hk
    ·exact p3 x hx
theorem FN{scope:Scope}{env:Env}(h:∀ x∈scope.names,x.2=.free->∃ c,env.cells.lookup x.1=some c):∃ cl,closureFor scope env=pure cl /\
  (∀ x c,cl.lookup x=some c->env.cells.lookup x=some c)/\∀ x,(x,NameKind.free)∈scope.names->∃ c,cl.lookup x=some c:=by
 obtain⟨cl,e,p1,_,p3⟩:=sW scope.names [] h (λ_ _ e=>nomatch e);refine⟨cl,?_,p1,p3⟩;simp only[closureFor];rw[e];rfl
noncomputable abbrev pM(env:Env)(x:Str×NameKind):Str×NameKind:=if(x.2==NameKind.free&&env.scope.kind==.function&&env.kindOf x.1==some .cell)=true then(x.1,NameKind.cell) else x
theorem Jy(env:Env)(x:Str×NameKind):(pM env x).1=x.1:=by unfold pM;split<;>rfl
theorem tX{env:Env}:∀ (names:List (Str×NameKind)) (x:Str),(names.map (pM env)).lookup x=(names.lookup x).map λk=>(pM env (x,k)).2
 |[],x=>rfl
 |(n,k)::r,x=>by
  rw[Zay];have e1:pM env (n,k)=(n,(pM env (n,k)).2):=by
   have:=Jy env (n,k);cases h:pM env (n,k) with
   |mk a b=>rw[h] at this;cases this;rfl
  rw[e1,List.lookup_cons,List.lookup_cons,tX r x];by_cases hx:x=n
  ·subst hx;simp
  ·have hb:(x==n)=false:=beq_eq_false_iff_ne.mpr hx;rw[hb]
theorem yg(scope:Scope)(env:Env):(relabel scope env).names=scope.names.map (pM env):=by
 unfold relabel;show List.map _ _=_
 refine List.map_congr_left λx _=>?_;obtain⟨n,k⟩:=x;rfl
theorem kI(scope:Scope)(env:Env)(x:Str):(relabel scope env).names.lookup x=(scope.names.lookup x).map λk=>(pM env (x,k)).2:=by
 rw[yg,tX]
theorem jR{scope:Scope}{env:Env}{x:Str}{k:NameKind}(hk:k≠.free)(h:scope.names.lookup x=some k):(relabel scope env).names.lookup x=some k:=by
 rw[kI,h];simp[pM,hk]
theorem tY{scope:Scope}{env:Env}{x:Str}(h:scope.names.lookup x=some .free):(relabel scope env).names.lookup x=some .cell\/(relabel scope env).names.lookup x=some .free:=by
 rw[kI,h];simp only[Option.map_some,pM];split
 ·exact .inl rfl
 ·exact .inr rfl
theorem FP{scope:Scope}{env:Env}{x:Str}(h0:scope.names.lookup x≠some .cell)(h:(relabel scope env).names.lookup x=some .cell\/(relabel scope env).names.lookup x=some .free):scope.names.lookup x=some .free:=by
 rw[kI] at h;cases e:scope.names.lookup x with
 |none=>rw[e] at h;simp at h
 |some k=>
  by_cases hk:k=.free
  ·rw[hk]
  ·rw[e] at h;simp[pM,hk] at h;subst h;exact absurd e h0
theorem lookup_mem{β:Type}:∀ {l:List (Str×β)}{x:Str}{v:β},l.lookup x=some v->(x,v)∈l
 |[],_,_,h=>nomatch h
 |(n,k)::r,x,v,h=>by
  rw[List.lookup_cons] at h;by_cases hx:x=n
  ·subst hx;simp at h;subst h;exact List.mem_cons_self
  ·have hb:(x==n)=false:=beq_eq_false_iff_ne.mpr hx;rw[hb] at h;exact List.mem_cons_of_mem _ (lookup_mem h)
noncomputable abbrev Cx.comp(X:Cx)(N:List Str)(scope:Scope)(cl:List (Str×Addr))(C:Addr)(s2:Shared)(H2:Hp)(fp:List Addr):Cx where
 prog:=X.prog
 w:=X.w
 K:=X.K
 mg:=X.mg
 base:=X.base
 A:=X.A
 N:=N
 s₀:=s2
 H₀:=H2
 env:=compEnvC scope cl C X.env
 outer:=X.stack
 stack:=X.stack
 ex:=fp
 fn:=λ_=>false
 calm:=X.calm
 pn:=[]
 xe:=λ_ _=>False
def zM(XN N:List Str)(xs scope:Scope)(fr:List (Option Nat)):Bool:=
 decide (fr.length=N.length)&&(scope.kind==.function)&&(scope.names.all λx=>!(x.2==.cell))&&(scope.names.all λx=>!(x.2==.local)||scope.names.lookup x.1==some .local) &&
 (scope.names.all λx=>!(x.2==.free)||(xs.names.lookup x.1==some .cell||xs.names.lookup x.1==some .free)) &&
 (List.range N.length).all λj=>match fr[j]?,N[j]? with
  |some (some i),some x=>decide (XN[i]?=some x)&&(scope.names.lookup x==some .free)
  |_,_=>true
theorem Cr{XN N:List Str}{xs scope:Scope}{fr:List (Option Nat)}(h:zM XN N xs scope fr=true) :
  fr.length=N.length/\scope.kind=.function/\(∀ x∈scope.names,x.2≠.cell)/\(∀ x∈scope.names,x.2=.local->scope.names.lookup x.1=some .local) /\
  (∀ x∈scope.names,x.2=.free->xs.names.lookup x.1=some .cell\/xs.names.lookup x.1=some .free) /\
  ∀ (j i:Nat) (x:Str),fr[j]?=some (some i)->N[j]?=some x->XN[i]?=some x/\scope.names.lookup x=some .free:=by
 unfold zM at h;simp only[Bool.and_eq_true,decide_eq_true_eq,Za1] at h;obtain⟨⟨⟨⟨⟨h1,h2⟩,h3⟩,h4⟩,h5⟩,h6⟩:=h;refine⟨h1,by simpa using h2,λx hx=>by simpa using h3 x hx,λx hx e=>?_,λx hx e=>?_,λj i x e1 e2=>?_⟩
 ·have:=h4 x hx;simp[e] at this;exact this
 ·have:=h5 x hx;simp[e] at this;exact this
 ·have hj:j<N.length:=(Zaj.mp e2).1;have:=h6 j (ZaW.mpr hj);rw[e1,e2] at this;simpa using this
def frσ(fr:List (Option Nat))(σ:St):St:=fr.map λo=>match o with
 |some i=>match σ[i]? with
  |some v=>v
  |none=>none
 |none=>none
theorem PK{fr:List (Option Nat)}{σ:St}{j:Nat}{v:V}(h:(frσ fr σ)[j]?=some (some v)):∃ i,fr[j]?=some (some i)/\σ[i]?=some (some v):=by
 unfold frσ at h;rw[Zaf] at h;cases e:fr[j]? with
 |none=>rw[e] at h;cases h
 |some o=>
  rw[e] at h;cases o with
  |none=>cases h
  |some i=>
   simp only[Option.map_some] at h;cases e2:σ[i]? with
   |none=>rw[e2] at h;cases h
   |some w=>rw[e2] at h;exact⟨i,rfl,by simpa[e2] using h⟩
def PL(X:Cx)(ifs:List Expr)(t:TT):Prop:=
 ∀ (pins:List (Addr×Obj)) (s:Shared) (σ:St) (H:Hp) (Q:Bool->Hp->Prop),Inv X pins σ H s->t σ H Q ->
  wpAny (model X.prog X.w) X.A (forIn ifs true λc r=>if r=true then do let ok <-isTrue c X.env (eval c X.env);pure (ForInStep.yield ok) else pure (ForInStep.yield r)) (TP X pins σ Q) X.xe s
def V1:TT:=λ_ H Q=>Q true H
theorem mO{X:Cx}:PL X [] V1:=λ_ _ _ H _ I h=>wpAny_tests_nil ⟨H,I,h⟩
theorem TY{X:Cx}{c:Expr}{t:TT}(h:PT X c t):PL X [c] t:=λpins s σ H Q I hw=>wpAny_tests_one (h pins s σ H Q I hw)
def V2(D:Addr)(tc:TT)(te:TE):TS:=λE σ H=>tc σ H λb H1=>if b=true then te σ H1 λv H2=>∃ ys,H2 D=some (.lst ys)/\ys.length<sizeLine/\E.nx σ (upd H2 D (.lst (ys++[v]))) else E.nx σ H1
def endC(Q:VK)(D:Addr):Ends:={ nx:=λ_ H=>Q (.ref D) H,rt:=λ_ _=>False }
def yH(wi:TI)(fr:List (Option Nat))(g:TG)(tc:TT)(te:TE):TE:=λσ H Q=>wi σ H λJ H1=>∀ D,H1 D=none->∃ W:Nat->Nat->St->Hp->Prop,(∃ m,W 0 m (frσ fr σ) (upd H1 D (.lst [])))/\∀ i m σ H,W i m σ H ->
 (J.stop i H/\(endC Q D).nx σ H)\/(J.go i H/\∃ N:St->Hp->Prop,(∀ σ' H',N σ' H'->∃ m',m'<m/\W (i+1) m' σ' H')/\∀ x H',J.yld i H x H'->g x σ H' λσ2 H2=>V2 D tc te { endC Q D with nx:=N,ct:=N,bk:=(endC Q D).nx } σ2 H2)
section
variable{prog:Program}{w:World}{A:Around}{R:Result->Shared->Prop}{s:Shared}
theorem Jz{elt target iter:Expr}{ifs:List Expr}{scope:Scope}{pos:Pos}{it acc:Value}{env:Env}(I:Nat->Shared->Prop)
  (turn:∀ n s,I n s->wpAny (model prog w) A (pyNext it) (λr s₁=>match r with
   |none=>R (.ok .next) s₁
   |some v=>wpAny (model prog w) A (letOwnedTupleGo target it v) (λ_ s₁=>wpAny (model prog w) A (assign target env v) (λ_ s₂=>
     wpAny (model prog w) A (forIn ifs true λc r=>if r=true then do let ok <-isTrue c env (eval c env);pure (ForInStep.yield ok) else pure (ForInStep.yield r)) (λok s₃=>
      if ok=true then wpAny (model prog w) A (eval elt env) (λx s₄=>
       wpAny (model prog w) A (call (.builtin "list.append") [acc,x]) (λ_ s₅=>∃ m,m<n/\I m s₅) (notedBy (model prog w) A env λe s'=>R (.error e) s') s₄) (notedBy (model prog w) A env λe s'=>R (.error e) s') s₃
      else ∃ m,m<n/\I m s₃) (notedBy (model prog w) A env λe s'=>R (.error e) s') s₂) (notedBy (model prog w) A env λe s'=>R (.error e) s') s₁) (notedBy (model prog w) A env λe s'=>R (.error e) s') s₁) (notedBy (model prog w) A env λe s'=>R (.error e) s') s)
  (n:Nat)(h:I n s) :
  codeAny (model prog w) A (.compLoop (.ListComp elt [⟨target,iter,ifs,0⟩] scope pos) 0 it acc env) R s:=by
 refine codeAny_loop rfl I (λn s hI=>?_) n h;show wpAny _ A ((compTurn (.ListComp elt [⟨target,iter,ifs,0⟩] scope pos) 0 it acc env).onRaise (λx=>do noteFrame x env;theTreesLotGoes x)) _ _ s
 refine wpAny_noted ?_;rw[compTurn_list];refine Zae (wpAny_standAt (Zae (ZaV (turn n s hI) (λr s₁ h₁=>?_) λ_ _ h'=>h')));cases r with
 |none=>exact Zaq h₁
 |some v=>
  refine Zae (ZaV h₁ (λ_ s₁' h₁'=>?_) λ_ _ h'=>h');refine Zae (ZaV h₁' (λ_ s₂ h₂=>Zae (ZaV h₂ (λok s₃ h₃=>?_) λ_ _ h'=>h')) λ_ _ h'=>h');cases ok with
  |false=>exact Zaq ⟨rfl,h₃⟩
  |true=>
   exact Zae (Zae (ZaV h₃ (λx s₄ h₄=>Zae (ZaV h₄ (λ_ s₅ h₅=>Zaq (Zaq ⟨rfl,h₅⟩)) λ_ _ h'=>h')) λ_ _ h'=>h'))
end
structure Apart(X:Cx)(pins:List (Addr×Obj))(C:Addr):Prop where
 ne:C≠X.env.locals
 ab:X.s₀.heap.objs.size<=C
 cells:∀ x c,X.env.cells.lookup x=some c->c≠C
 pins:∀ p∈X.pn++pins,p.1≠C
section
variable{X:Cx}{elt tg iter:Expr}{ifs:List Expr}{scope:Scope}{pos pos':Pos}{wi:TI}{g:TG}{tc:TT}{te:TE}{pins:List (Addr×Obj)}{σ:St}{H:Hp}{s:Shared}
theorem Lb(N:List Str)(fr:List (Option Nat))(hc:X.calm=true)(hi:PI X tg iter wi)(hg:∀ cl C s2 H2 fp,PG (X.comp N scope cl C s2 H2 fp) tg g)
  (ht:∀ cl C s2 H2 fp,PL (X.comp N scope cl C s2 H2 fp) ifs tc)(he:∀ cl C s2 H2 fp,PE (X.comp N scope cl C s2 H2 fp) elt te)
  (ok:zM X.N N X.env.scope scope fr=true)(hs:∀ x,foldedSetIterable iter X.env x=pure x){Q:VK}{Q':Value->Shared->Prop}{use:Option (Value->Sem Unit)}
  (I:Inv X pins σ H s)(h:yH wi fr g tc te σ H Q)
  (fin:∀ D C s' H',Inv X pins σ H' s'->H' C=none->Apart X pins C->(∃ m,s'.heap.Ns C m)->Q (.ref D) H'->compPost (model X.prog X.w) X.A X.xe use Q' (.ref D) C (.ok .next) s') :
  wpAny (model X.prog X.w) X.A (comprehension (.ListComp elt [⟨tg,iter,ifs,0⟩] scope pos) scope X.env pos' (newList []) false (eval iter X.env) use) Q' X.xe s:=by
 obtain⟨o1,o2,o3,o4,o5,o6⟩:=Cr ok;obtain⟨cl,hclos,c1,c2⟩:=FN (scope:=scope) (env:=X.env) (λx hx hf=>I.ok.has x.1 (o5 x hx hf));refine wpAny_comprehension_free (use:=use) rfl hs hclos o2 o4 (thn (hi pins s σ H _ I h) λxv s1 h1=>thn h1 λitv s2 h2=>?_);obtain⟨it,fp,tn,J,H2,rfl,I2,T,st2,f2,hW⟩:=h2;refine wpAny_newObj_type (wpAny_newFunctionEnv o3 (by intro y hy;simp at hy) (λh₁ hns₁ hsb₁=>?_) o2)
 dsimp only at hns₁ hsb₁ ⊢;generalize hHH:s2.heap.push { cls:=.type "list",dict:=none,data:=.seq ([]:List Value).toArray }=HH at hns₁ hsb₁ ⊢
 have hC:HH.objs.size=s2.heap.objs.size+1:=by rw[<-hHH,Heap.size_push]
 have hDC:s2.heap.objs.size≠HH.objs.size:=by rw[hC];exact ZaA (Nat.lt_succ_self _)
 have hCle:s2.heap.objs.size<=HH.objs.size:=by rw[hC];exact Nat.le_succ _
 have neC:∀ b,b<s2.heap.objs.size->b≠HH.objs.size:=λb hb=>by rw[hC];exact ZaA (Nat.lt_succ_of_lt hb)
 have old:∀ b o,s2.heap.get? b=some o->h₁.get? b=some o:=λb o e=>hsb₁.extBut b o (neC b (Zai e)) (Zac _ (hHH▸Zac _ e));have atD:h₁.get? s2.heap.objs.size=some { cls:=.type "list",data:=.seq ([]:List Value).toArray }:=hsb₁.extBut _ _ hDC (Zac _ (hHH▸Zar _ rfl));have ltf:∀ b∈fp,b<s2.heap.objs.size:=λb hb=>let⟨o,e,_⟩:=T.obj _ _ st2 b hb;Zai e;have ltc:∀ x c,X.env.cells.lookup x=some c->c<s2.heap.objs.size:=λx c e=>let⟨v,q⟩:=I2.cell x c e;q.lt;have ltp:∀ p∈X.pn++pins,p.1<s2.heap.objs.size:=λp hp=>Zai (I2.pin p hp).1;have fresh:H2 s2.heap.objs.size=none:=I2.hok.fresh (Zag _);have freshC:H2 HH.objs.size=none:=I2.hok.fresh hCle;have ap:Apart X pins HH.objs.size:=⟨Nat.ne_of_gt (Zan I2.lt hCle),ZaF I2.sz hCle,λx c e=>neC c (ltc x c e),λp hp=>neC _ (ltp p hp)⟩;have okY:(X.comp N scope cl HH.objs.size s2 H2 fp).Ok:={
  mod:=I2.ok.mod
  kind:=o2
  glob:=I2.ok.glob
  blt:=I2.ok.blt
  above:=hCle
  inj:=λx y c a b=>I2.ok.inj x y c (c1 _ _ a) (c1 _ _ b)
  has:=λx hx=>c2 x (lookup_mem (FP (λz=>o3 _ (lookup_mem z) rfl) hx))
  cab:=λx c hx _=>by cases hx
  hd:=I2.ok.hd
  frames:=I2.ok.frames
  stk:=.inl rfl
  exf:=λb hb=>⟨neC b (ltf b hb),λx c e=>(f2 b hb).2.2.2.2.1 x c (c1 x c e)⟩
  bs:=I2.bs
  bsz:=ZaF I2.ok.bsz I2.sz
  noex:=λb o e hb=>by
   rcases(f2 b hb).2.2.2.1 with z|z
   ·exact I2.ok.noex b o e z
   ·exact absurd (Zan (Zai e) (ZaF I2.ok.bsz z)) (Za2 _)
  exfs:=λb hb hf=>by
   rcases ZaB.mp (I2.zB b hf) with z|z
   ·exact(f2 b hb).2.1 z
   ·exact(f2 b hb).2.2.1 z
  sU:=I2.stack
  frf:=I2.zE }
 have IY:Inv (X.comp N scope cl HH.objs.size s2 H2 fp) [] (frσ fr σ) (upd H2 s2.heap.objs.size (.lst [])) { s2 with heap:=h₁,toks:=s2.toks+([]:List (Str×Value)).length }:={
  ok:=okY
  os:=rfl
  bare:=I2.bare
  base:=Un.laid old (Zag _) fresh
  loc:=by
   refine⟨_,hns₁,λj x v e1 e2 e3=>?_⟩;obtain⟨i,f1,f2'⟩:=PK e2;obtain⟨g1,g2⟩:=o6 j i x f1 e1;have k2:=o5 _ (lookup_mem g2) rfl;obtain⟨m2,hm2,l2⟩:=I2.loc;obtain⟨u,ru,lk⟩:=l2 i x v g1 f2' (.inr k2);refine⟨u,ru,.inr ⟨tY g2,?_⟩⟩;obtain⟨c,hcl⟩:=c2 x (lookup_mem g2);refine⟨c,hcl,?_⟩;rcases lk with⟨k,_⟩|⟨_,c',e',z⟩
   ·rcases k2 with k2|k2
    ·rw[show X.env.kindOf x=X.env.scope.names.lookup x from rfl,k2] at k;cases k
    ·rw[show X.env.kindOf x=X.env.scope.names.lookup x from rfl,k2] at k;cases k
   ·rw[c1 x c hcl] at e';cases e';obtain⟨oc,hoc,hd⟩:=z;exact⟨oc,old c oc hoc,hd⟩
  cell:=λx c e=>by
   obtain⟨v,oc,hoc,hd⟩:=I2.cell x c (c1 x c e);exact⟨v,oc,old c oc hoc,hd⟩
  free:=(aQ (Za6 hDC)).trans freshC
  freeC:=λx c e=>by
   rw[aQ (ZaA (ltc x c (c1 x c e)))];exact I2.freeC x c (c1 x c e)
  pin:=λp hp=>by cases hp
  hok:=I2.hok.laid old (Zag _) ⟨Zbh _,[],0,.nil,atD⟩
  len:=by unfold frσ;rw[List.length_map];exact o1 }
 have stat:∀ {H':Hp}{pp:List (Addr×Obj)},pp=[]->(∀ b∈fp,H' b=none)->∀ b∈fp,wk (X.comp N scope cl HH.objs.size s2 H2 fp) pp H' b:=λ{H' pp} hp hn b hb=>by
  subst hp;exact⟨hn b hb,neC b (ltf b hb),λz=>okY.exfs b hb z,.inl hb,λx c e=>(f2 b hb).2.2.2.2.1 x c (c1 x c e),λp hp=>by cases hp⟩
 have back:∀ {σ':St}{H':Hp}{s':Shared},Inv (X.comp N scope cl HH.objs.size s2 H2 fp) [] σ' H' s'->Inv X pins σ H' s':=λ{σ' H' s'} I'=>
  I2.call' (ch:=fp) I'.os I'.base I'.hok I'.bare λb hb=>⟨(f2 b hb).2.2.2.1,(f2 b hb).2.1,(f2 b hb).2.2.2.2.1,(f2 b hb).2.2.2.2.2⟩
 have loop:∀ s₃:Shared,s₃={ s2 with heap:=h₁,toks:=s2.toks+([]:List (Str×Value)).length } ->
   codeAny (model X.prog X.w) X.A (.compLoop (.ListComp elt [⟨tg,iter,ifs,0⟩] scope pos) 0 (.ref it) (.ref s2.heap.objs.size) (compEnvC scope cl HH.objs.size X.env))
    (compPost (model X.prog X.w) X.A X.xe use Q' (.ref s2.heap.objs.size) HH.objs.size) s₃:=by
  rintro s₃ rfl;obtain⟨W,⟨m0,w0⟩,turn⟩:=hW s2.heap.objs.size fresh;refine Jz (λn s'=>∃ i σ' H',Inv (X.comp N scope cl HH.objs.size s2 H2 fp) [] σ' H' s'/\tn i s'.heap/\(∀ b∈fp,H' b=none)/\W i n σ' H') ?_ m0
   ⟨0,_,_,IY,T.keep _ _ _ st2 λb _ o e=>old b o e,λb hb=>by rw[aQ (ZaA (ltf b hb))];exact(f2 b hb).1,w0⟩
  rintro n s3 ⟨i,σ3,H3,I3,st3,fr3,w3⟩;rcases turn i n σ3 H3 w3 with⟨stop,q⟩|⟨go,Nx,hN,step⟩
  ·refine thn (T.done (X.comp N scope cl HH.objs.size s2 H2 fp) rfl rfl rfl hc i [] s3 σ3 H3 _ I3 (stat rfl fr3) st3 stop) ?_;rintro r s4 ⟨hr,I4⟩;subst hr;obtain⟨m4,hm4,_⟩:=I4.loc;exact fin _ _ s4 H3 (back I4) I4.free ap ⟨m4,hm4⟩ q
  ·refine thn (T.item (X.comp N scope cl HH.objs.size s2 H2 fp) rfl rfl rfl hc i [] s3 σ3 H3 _ I3 (stat rfl fr3) st3 go) ?_;rintro r s4 ⟨u,hr,h4⟩;subst hr;refine thn h4 ?_;rintro _ s5 ⟨x,H5,I5,r5,y5,st5,fr5⟩;have I5':=I5.pinned (stat rfl fr5) (T.obj _ _ st5);refine ZaV (hg cl HH.objs.size s2 H2 fp _ s5 σ3 H5 x u _ I5' r5 (step x H5 y5)) (?_) λ_ _ f=>f.elim;rintro _ s6 ⟨σ6,H6,I6,q6⟩;have again:∀ {s7:Shared}{σ7:St}{H7:Hp},Inv (X.comp N scope cl HH.objs.size s2 H2 fp) ([]++wu fp s5.heap) σ7 H7 s7->Nx σ7 H7 ->
     ∃ m,m<n/\∃ i σ' H',Inv (X.comp N scope cl HH.objs.size s2 H2 fp) [] σ' H' s7/\tn i s7.heap/\(∀ b∈fp,H' b=none)/\W i m σ' H':=λ{s7 σ7 H7} I7 n7=>by
    obtain⟨m',hm,w7⟩:=hN σ7 H7 n7;refine⟨m',hm,i+1,σ7,H7,I7.tQ,T.keep _ _ _ st5 λb hb o e=>(I7.pin (b,o) (ZaC _ (ZaC _ (n6 hb e)))).1,λb hb=>?_,w7⟩;obtain⟨o,e,d⟩:=T.obj _ _ st5 b hb;exact(I7.pin (b,o) (ZaC _ (ZaC _ (n6 hb e)))).2.1
   refine ZaV (ht cl HH.objs.size s2 H2 fp _ s6 σ6 H6 _ I6 q6) (?_) λ_ _ f=>f.elim;rintro b s7 ⟨H7,I7,q7⟩;cases b with
   |false=>
    rw[Zal (by decide)] at q7 ⊢
    exact again I7 q7
   |true=>
    rw[Zao rfl] at q7 ⊢;refine ZaV (he cl HH.objs.size s2 H2 fp _ s7 σ6 H7 _ I7 q7) (?_) λ_ _ f=>f.elim;rintro y s8 ⟨v,H8,I8,r8,q8⟩;obtain⟨ys,e8,l8,n8⟩:=q8;refine ZaV (dq (X:=X.comp N scope cl HH.objs.size s2 H2 fp) _ s8 σ6 H8 (.ref s2.heap.objs.size) [v] (.ref s2.heap.objs.size) [y] (λ_ H9=>Nx σ6 H9) I8 rfl (.cons r8 .nil) ⟨_,ys,v,rfl,rfl,e8,l8,n8⟩) (?_) λ_ _ f=>f.elim;rintro _ s9 ⟨_,H9,I9,_,n9⟩;exact again I9 n9
 exact codeAny_compStart_list (loop _ rfl) (T.self _ 0 _ _ _ (T.keep _ _ _ st2 λb _ o e=>old b o e) (loop _ rfl))
theorem iz(N:List Str)(fr:List (Option Nat))(hc:X.calm=true)(hi:PI X tg iter wi)(hg:∀ cl C s2 H2 fp,PG (X.comp N scope cl C s2 H2 fp) tg g)
  (ht:∀ cl C s2 H2 fp,PL (X.comp N scope cl C s2 H2 fp) ifs tc)(he:∀ cl C s2 H2 fp,PE (X.comp N scope cl C s2 H2 fp) elt te)
  (ok:zM X.N N X.env.scope scope fr=true:=by kernel_rfl)(hs:∀ x,foldedSetIterable iter X.env x=pure x:=by intro _;rfl) :
  PE X (.ListComp elt [⟨tg,iter,ifs,0⟩] scope pos) (yH wi fr g tc te):=by
 intro pins s σ H Q I h;rw[eval_ListComp];refine Lb (use:=none) N fr hc hi hg ht he ok hs I h λD C s' H' I' hn ap hm q=>?_;obtain⟨m,hm⟩:=hm;exact⟨m,hm,λh' sb=>⟨.ref D,H',I'.turned (t':=s'.toks) (λb o hb e=>(sb.2 b hb).trans e) hn ap.ne (.inr ap.ab) ap.cells ap.pins,rfl,q⟩⟩
end
section
variable{X:Cx}{pins:List (Addr×Obj)}{σ:List (Option V)}{H:Hp}{s:Shared}{h':Heap}
theorem Inv.zN{t':Nat}{ch:List Addr}(I:Inv X pins σ H s)(k:∀ b o,b ∉ ch->s.heap.get? b=some o->h'.get? b=some o)(hf:∀ b∈ch,wk X pins H b):Inv X pins σ H { s with heap:=h',toks:=t' }:=by
 have nit:∀ b u,H b=some u->b ∉ ch:=λb u e z=>by rw[(hf b z).1] at e;cases e
 refine I.step (g':=s.gens) (d':=s.drawn) (ch:=ch) (λb hb=>⟨(hf b hb).2.2.2.1,(hf b hb).2.1,(hf b hb).2.2.2.2.1,(hf b hb).2.2.2.2.2⟩) (λb o _ _ hc e _=>k b o hc e) (λb o _ _ hc e _=>⟨o.slots,k b o hc e⟩) (λ_ _ _ _ n=>n)
  (λb o hc e=>⟨o,k b o hc e⟩) (λ_ _ e=>e) (λ_ _ _ e=>e) (λb ps e=>⟨#[],by rw[e];simp⟩) (λm hm=>?_) (λb u e=>?_) I.bare
 ·obtain⟨o,es,ep,ho,r⟩:=hm;exact⟨o,es,ep,k _ o (λz=>(hf _ z).2.1 rfl) ho,r⟩
 ·refine(I.hok b u e).stay (λc v hc q=>k c v ?_ q) (λ_ q=>q) λ_ _ q=>q;rcases hc with z|z
  ·rw[z];exact nit b u e
  ·exact nit c _ z
theorem Inv.JB{t':Nat}{ch:List Addr}{a:Addr}{o:HO}(I:Inv X pins σ H s)(k:∀ b o,b ∉ ch->s.heap.get? b=some o->h'.get? b=some o)(hf:∀ b∈ch,wk X pins H b)(ha:s.heap.objs.size<=a)
  (new:dX X.prog X.w (upd H a o) h' a o):Inv X pins σ (upd H a o) { s with heap:=h',toks:=t' }:=by
 have hn:H a=none:=I.hok.fresh ha;have nit:∀ b u,H b=some u->b ∉ ch:=λb u e z=>by rw[(hf b z).1] at e;cases e
 have ne:∀ b ob,s.heap.get? b=some ob->b≠a:=λb ob e z=>by rw[z] at e;exact absurd (Zan (Zai e) ha) (Za2 _)
 refine I.step (g':=s.gens) (d':=s.drawn) (ch:=ch) (λb hb=>⟨(hf b hb).2.2.2.1,(hf b hb).2.1,(hf b hb).2.2.2.2.1,(hf b hb).2.2.2.2.2⟩) (λb o _ _ hc e _=>k b o hc e) (λb o _ _ hc e _=>⟨o.slots,k b o hc e⟩) (λb ob _ e n=>by rw[aQ (ne b ob e)];exact n)
  (λb o hc e=>⟨o,k b o hc e⟩) (λb xs e=>by rw[aQ (cD e hn)];exact e) (λb ob u e=>by rw[aQ (cD e hn)];exact e) (λb ps e=>⟨#[],by rw[aQ (cD e hn),e];simp⟩) (λm hm=>?_) (λb u e=>?_) I.bare
 ·obtain⟨o,es,ep,ho,r⟩:=hm;exact⟨o,es,ep,k _ o (λz=>(hf _ z).2.1 rfl) ho,r⟩
 ·by_cases hb:b=a
  ·subst hb;rw[aX] at e;cases e;exact new
  ·rw[aQ hb] at e;refine(I.hok b u e).stay (λc v hc q=>k c v ?_ q) (λc q=>by rw[aQ (cD q hn)];exact q) λc xs q=>by rw[aQ (cD q hn)];exact q
   rcases hc with z|z
   ·rw[z];exact nit b u e
   ·exact nit c _ z
end
def Itf(f:Nat->V)(n:Nat):It:=⟨λi _=>i<n,λi H x H'=>H'=H/\x=f i,λi _=>i=n⟩
def sgn(z:Str)(i:Nat):V:=.str ⟨#[z.cps.getD i 0]⟩
theorem yI{P:Program}{w:World}{A:Around}(hh:A.handled=none)(it:Addr)(z:Str)(t:Tok):Walks P w A it [it] [it] z.cps.size (SignAt z) (λi h=>h.IsStrIter it (strIterType z) z t i):=by
 unfold strIterType;split
 ·exact Walks.strAscii hh it z t
 ·exact Walks.strWide hh it z t
theorem Ld{P:Program}{w:World}{K:PySem.W.Frag}{tg:Expr}(it:Addr)(z:Str)(t:Tok):Turn P w K tg (Itf (sgn z) z.cps.size) [it] it (λi h=>h.IsStrIter it (strIterType z) z t i) where
 mem:=by simp
 obj:=λi h st b hb=>by
  have e:b=it:=by simpa using hb
  subst e;obtain⟨o,e,c,d⟩:=st;exact⟨o,e,λv z=>by rw[d] at z;cases z⟩
 keep:=λi h h' st k=>let⟨o,e,r⟩:=st;⟨o,k it (by simp) o e,r⟩
 item:=by
  intro X hP hw hK hc i pins s σ H E I hf st hg;subst hP hw hK;obtain⟨f0,f1,f2,f3,f4,f5⟩:=hf it (by simp)
  have W:=yI (P:=X.prog) (w:=X.w) (I.ok.hd hc) it z t;refine W.item i s _ _ hg st λv h' tk hv st' kk=>?_;obtain⟨c,u,hx,rfl⟩:=hv;have I1:Inv X pins σ H { s with heap:=h',toks:=tk }:=I.turned (λb o hb e=>kk b o (by simpa using hb) e) f0 f1 f3 f4 f5
  obtain⟨o,e,cc,d⟩:=id st';have ec:z.cps.getD i 0=c:=by rw[Zbb,hx];rfl
  refine⟨_,rfl,Hu (s:={ s with heap:=h',toks:=tk }) e cc d (by unfold strIterType;split<;>decide) ⟨sgn z i,H,I1,⟨u,?_⟩,⟨rfl,rfl⟩,st',λb hb=>(hf b hb).1⟩⟩
  rw[ec]
 done:=by
  intro X hP hw hK hc i pins s σ H E I hf st hg;subst hP hw hK;have hg':i=z.cps.size:=hg;subst hg';obtain⟨f0,f1,f2,f3,f4,f5⟩:=hf it (by simp)
  have W:=yI (P:=X.prog) (w:=X.w) (I.ok.hd hc) it z t;exact W.done s _ _ st λh' tk kk=>⟨rfl,I.turned (λb o hb e=>kk b o (by simpa using hb) e) f0 f1 f3 f4 f5⟩
 self:=λA i s Q E st h=>by
  unfold strIterType at st;split at st
  ·exact wpAny_pyIter_striter_ascii st h
  ·exact wpAny_pyIter_striter_wide st h
def Ite(K:PySem.W.Frag)(a:Addr):It:=
 ⟨λi H=>∃ xs x,SqL K H a xs/\xs[i]?=some x,λi H x H'=>∃ p y,H p=none/\x=.ref p/\H'=upd H p (.tup [.int i,y])/\∀ xs,SqL K H a xs->xs[i]?=some y,λi H=>∃ xs,SqL K H a xs/\xs.length<=i⟩
theorem JC{P:Program}{w:World}{K:PySem.W.Frag}{elts:List Expr}{x1:Nat}{pos:Pos}(a e it:Addr)(hei:e≠it) :
  Turn P w K (.Tuple elts x1 pos) (Ite K a) [e,it] e (λi h=>(∃ old,IsEnum h e it (i:Int) old)/\h.IsListIter it a i) where
 mem:=by simp
 obj:=λi h st b hb=>by
  obtain⟨⟨old,he⟩,o,ho,c,d⟩:=st;rcases ZaB.mp hb with z|z
  ·subst z;exact⟨_,he,λv q=>by cases q⟩
  ·have z:b=it:=by simpa using z
   subst z;exact⟨o,ho,λv q=>by rw[d] at q;cases q⟩
 keep:=λi h h' st k=>by
  obtain⟨⟨old,he⟩,hit⟩:=st;exact⟨⟨old,k e (by simp) _ he⟩,hit.at λo q=>k it (by simp) o q⟩
 item:=by
  intro X hP hw hK hc i pins s σ H E I hf st hg;subst hP hw hK;obtain⟨xs,x,hq,hx⟩:=hg;obtain⟨its,rv,p,hz⟩:=I.list hq;obtain⟨u,hu,ru⟩:=rv.get hx;obtain⟨⟨old,he⟩,hit⟩:=st;have hl:=p.isList;have hai:a≠it:=by
   rintro rfl;obtain⟨o1,e1,c1,_⟩:=hl;obtain⟨o2,e2,c2,_⟩:=hit;rw[e1] at e2;cases e2;rw[c1] at c2;exact absurd c2 (by decide)
  have hae:a≠e:=by
   rintro rfl;obtain⟨o1,e1,c1,_⟩:=hl;rw[he] at e1;cases e1;exact absurd (show Value.type "enumerate"=Value.type "list" from c1) (by decide)
  have D:=Draws.list (prog:=X.prog) (w:=X.w) (A:=X.A.in1) (I.ok.hd hc) it a hai its.toArray;have hlt:i<its.toArray.size:=by
   have:=(Zaj.mp hu).1;simpa using this
  refine wpAny_pyNext_enum_itemD D he ⟨hit,hl⟩ hlt hei (by simp[hei,Za6 hae]) λv h1 tk hP ho hst hT hsz hk=>?_
  have ev:v=u:=by
   have hP':its.toArray[i]?=some v:=hP;rw[List.getElem?_toArray,hu] at hP';exact(Zaa hP').symm
  subst ev;refine⟨_,rfl,wpAny_letOwnedTupleGo_enum ho λh2 he2 hs2=>?_⟩;have elt:e<s.heap.objs.size:=Zai he;have hT2:h2.get? s.heap.objs.size=some { cls:=.type "tuple",data:=.seq #[.int i tk,v] }:=(hs2.2 _ (Nat.ne_of_gt elt)).trans hT;refine⟨.ref s.heap.objs.size,upd H s.heap.objs.size (.tup [.int i,x]),I.JB (ch:=[e,it]) (λb o hb q=>?_) hf (Zag _) ⟨by show 2<=sizeLine;decide,[.int i tk,v],.cons ⟨tk,rfl⟩ (.cons ru .nil),gZ.mk hT2⟩,rfl,⟨_,x,I.hok.fresh (Zag _),rfl,rfl,λys hy=>by rw[I.wj hy hq];exact hx⟩,⟨⟨v,by simpa using he2⟩,?_⟩,λb hb=>?_⟩
  ·have h1':b≠e:=λz=>hb (by simp[z])
   have h2':b≠it:=λz=>hb (by simp[z])
   exact(hs2.2 b h1').trans (hk b o h1' h2' q)
  ·exact hst.1.at λo q=>(hs2.2 it (Za6 hei)).trans q
  ·rw[aQ ?_]
   ·exact(hf b hb).1
   ·rcases ZaB.mp hb with z|z
    ·rw[z];exact ZaA elt
    ·have z:b=it:=by simpa using z
     rw[z];obtain⟨o2,e2,_⟩:=hit;exact ZaA (Zai e2)
 done:=by
  intro X hP hw hK hc i pins s σ H E I hf st hg;subst hP hw hK;obtain⟨xs,hq,hx⟩:=hg;obtain⟨its,rv,p,hz⟩:=I.list hq;obtain⟨⟨old,he⟩,hit⟩:=st;have hl:=p.isList;have ln:=rv.length;refine wpAny_pyNext_enum_end (I.ok.hd hc) he hit hl (by rw[List.getElem?_toArray];exact List.getElem?_eq_none_iff.mpr (by omega)) λh1 eb=>⟨rfl,?_⟩
  exact I.zN (t':=s.toks) (ch:=[e,it]) (λb o hb q=>eb b o (λz=>hb (by simp[z])) q) hf
 self:=λA i s Q E st h=>by
  obtain⟨⟨old,he⟩,_⟩:=st;exact wpAny_pyIter_enum he h
def R5(K:PySem.W.Frag)(ta:TA):TI:=λσ H R=>ta σ H λvs H1=>∃ a,vs=[.ref a]/\(∃ xs,SqL K H1 a xs)/\R (Ite K a) H1
theorem ou{X:Cx}{l:Expr}{ta:TA}{elts:List Expr}{x1:Nat}{tpos p pos:Pos}(hg:Gl X "enumerate")(hm:X.mg "enumerate"=none)(ha:PA X [l] ta)(hs:starEach [l] X.env=[(false,eval l X.env)]:=by rfl) :
  PI X (.Tuple elts x1 tpos) (.Call (.Name "enumerate" p) [l] [] pos) (R5 X.K ta):=by
 intro pins s σ H R I h;refine Call_ (uH I hg hm boot_enumerate (Zba (thn (ha pos pins s σ H _ I h) ?_) hs rfl));rintro us s1 ⟨vs,H1,I1,r1,q1⟩;obtain⟨a,e,⟨xs,hq⟩,q⟩:=q1;subst e;cases r1 with
 |cons r rr=>
  cases rr;cases r;obtain⟨its,rv,p,hz⟩:=I1.list hq;refine call_enumerate_list p.isList λh1 he hit hsz hk=>?_;refine wpAny_pyIter_enum he ?_;have I2:Inv X pins σ H1 { s1 with heap:=h1 }:=I1.kept (t':=s1.toks) hk;refine⟨s1.heap.objs.size+1,[s1.heap.objs.size+1,s1.heap.objs.size],_,_,H1,rfl,I2,JC a _ _ (by simp),⟨⟨_,he⟩,hit⟩,λb hb=>?_,q⟩
  rcases ZaB.mp hb with z|z
  ·subst z;exact I1.KY (Nat.le_succ _) (I1.hok.fresh (Nat.le_succ _))
  ·have z:b=s1.heap.objs.size:=by simpa using z
   subst z;exact I1.KY (Zag _) (I1.hok.fresh (Zag _))
section
variable{X:Cx}{b c e:Expr}
theorem all_range(bs:List Bool):(List.range bs.length).all (λi=>bs.getD i true)=bs.all id:=by
 rw[Bool.eq_iff_iff];simp only[Za1,ZaW,id];constructor
 ·intro h x hx;obtain⟨i,hi,rfl⟩:=List.mem_iff_getElem.mp hx;have:=h i hi;simpa[ZaQ,hi] using this
 ·intro h i hi;have:=h bs[i] (List.getElem_mem hi);simpa[ZaQ,hi] using this
theorem Le(hc:X.calm=true):pK X (.builtin "all") (λxs H Q=>∃ (p:Addr) (bs:List Bool),xs=[.ref p]/\SqL X.K H p (bs.map V.bl)/\Q (.bl (bs.all id)) H):=by
 intro pins s σ H xs us Q I rv h;obtain⟨p,bs,rfl,hq,q⟩:=h;obtain⟨u,rfl,ru⟩:=rv.one;cases ru;obtain⟨its,r,pl,hz⟩:=I.list hq;have ln:=r.length;rw[List.length_map] at ln;refine call_all_walk (wpAny_pyIter_list pl.isList ?_);have hne:p≠s.heap.objs.size:=by
  obtain⟨o,n,e,_⟩:=pl;exact ZaA (Zai e)
 refine⟨s.heap.objs.size,_,_,_,_,_,λi=>bs.getD i true,rfl,Walks.list (A:=X.A.in1) (I.ok.hd hc) s.heap.objs.size p hne its.toArray,⟨⟨_,Zar _ rfl,rfl,rfl⟩,pl.isList.at λo e=>Zac _ e⟩,?_,λh' tk kk=>?_⟩
 ·intro i v s' Q' E' hP hQ;have hP':its.toArray[i]?=some v:=hP;rw[List.getElem?_toArray] at hP';have hi:i<its.length:=(Zaj.mp hP').1;have hb:(bs.map V.bl)[i]?=some (V.bl (bs.getD i true)):=by
   rw[Zaf,Zad (by omega)]
   simp[ZaQ,show i<bs.length by omega]
  obtain⟨u,hu,ru⟩:=r.get hb;rw[hP'] at hu;cases hu;cases ru;exact wpAny_truthy_bool hQ
 ·have en:(List.range its.toArray.size).all (λi=>bs.getD i true)=bs.all id:=by
   rw[List.size_toArray,<-ln];exact all_range bs
  rw[en];refine⟨.bl _,H,?_,rfl,q⟩;refine I.kept λb o e=>kk b o ?_ (Zac _ e);simp;exact ZaA (Zai e)
theorem HB:∀ {ys:List Str}{us:List Value},Vals (ys.map V.str) us->StrsAre us ys
 |[],us,r=>by rw[List.map_nil] at r;cases r;exact .nil
 |y::ys,us,r=>by
  rw[Zay] at r;cases r with
  |cons r1 r2=>
   obtain⟨t,e⟩:=r1;subst e;exact .cons y t (HB r2)
theorem PN:MtR X "str.join" (λx xs H Q=>∃ (z:Str) (p:Addr) (ys:List Str),x=.str z/\xs=[.ref p]/\SqL X.K H p (ys.map V.str)/\(ys.map (·.length)).sum+ys.length*z.length<=16777216/\Q (.str (Txt.join z ys)) H):=by
 intro pins s σ H x xs v us Q I rx rv h;obtain⟨z,p,ys,rfl,rfl,hq,hz,q⟩:=h;obtain⟨t,rfl⟩:=rx;obtain⟨u,rfl,ru⟩:=rv.one;cases ru;obtain⟨its,r,pl,_⟩:=I.list hq;refine join_list pl.isList (by simpa using HB r) hz λt' k=>⟨.str _,H,I.tok _,⟨t',rfl⟩,q⟩
theorem JD:OpR X (compareOp .LtE) (λx y H Q=>∃ i j,x=.str i/\y=.str j/\Q (.bl (!(decide (j.cps.toList<i.cps.toList)))) H):=by
 intro pins s σ H x y v u Q I rx ry h;obtain⟨i,j,rfl,rfl,q⟩:=h;obtain⟨t,rfl⟩:=rx;obtain⟨t',rfl⟩:=ry;exact PySem.P.le_str (wz I q rfl)
def V3:V->Option Int->Option Int->Hp->VK->Prop:=λx lo hi H Q=>∃ z,x=.str z/\z.length<=sizeLine/\Q (.str (Txt.slice z lo hi)) H
theorem FQ:SlR X V3:=by
 intro pins s σ H x v vl vu lo hi sl Q I rx hs pl pu h;obtain⟨z,rfl,hz,q⟩:=h;obtain⟨t,rfl⟩:=rx;obtain⟨o,e,c,d⟩:=hs;refine⟨"str",_,F.slot_str_getitem.lookup,typeIs_str _ _ _,?_⟩;have fin:∀ t' k,EP X pins σ Q (.str (Txt.slice z lo hi) t') { s with toks:=k }:=λt' k=>⟨.str _,H,I.tok _,⟨t',rfl⟩,q⟩;cases pl with
 |none=>
  cases pu with
  |none=>exact wpAny_getItem_str_slice (l:=none) (u:=none) (st:=none) ⟨o,e,c,d⟩ rfl (post_val_or_str ⟨ZaF (Txt.slice_le z _ _) hz,fin⟩)
  |int j u=>exact wpAny_getItem_str_slice (l:=none) (u:=some (j,u)) (st:=none) ⟨o,e,c,d⟩ rfl (post_val_or_str ⟨ZaF (Txt.slice_le z _ _) hz,fin⟩)
 |int i t2=>
  cases pu with
  |none=>exact wpAny_getItem_str_slice (l:=some (i,t2)) (u:=none) (st:=none) ⟨o,e,c,d⟩ rfl (post_val_or_str ⟨ZaF (Txt.slice_le z _ _) hz,fin⟩)
  |int j u=>exact wpAny_getItem_str_slice (l:=some (i,t2)) (u:=some (j,u)) (st:=none) ⟨o,e,c,d⟩ rfl (post_val_or_str ⟨ZaF (Txt.slice_le z _ _) hz,fin⟩)
def stepV(xs:List V)(lo hi st:Option Int):List V:=(sliceRange (sliceBounds lo hi st xs.length).1 (sliceBounds lo hi st xs.length).2.1 (sliceBounds lo hi st xs.length).2.2).filterMap (xs[·]?)
theorem uN{xs:List V}{its:List Value}(r:Vals xs its):∀ js:List Nat,Vals (js.filterMap (xs[·]?)) (js.filterMap (its[·]?))
 |[]=>.nil
 |j::js=>by
  cases e:xs[j]? with
  |none=>
   rw[Za3 e,Za3 (r.none_of e)];exact uN r js
  |some v=>
   obtain⟨u,hu,ru⟩:=r.get e;rw[Za4 e,Za4 hu];exact .cons ru (uN r js)
end
structure aZ(K:PySem.W.Frag)(mg:Str->Option Value)(x:Str)(st:Stmt)(ps:List Str):Prop where
 ex:∃ (f:Addr) (fd:FuncData),mg x=some (.ref f)/\Fun K x x st f fd/\Binds K fd ps []
def FnAt(P:Program)(w:World)(K:PySem.W.Frag)(mg:Str->Option Value)(base:Heap)(x:Str)(k:Nat)(ps:List Str)(sp:Sp):Prop:=
 ∃ (f:Addr) (fd:FuncData),mg x=some (.ref f)/\keepIn K (.ref f)=true/\Binds K fd ps []/\sV P w K mg base CX0 k f fd ps sp
theorem aZ.ok{P:Program}{w:World}{K:PySem.W.Frag}{mg:Str->Option Value}{base:Heap}{x:Str}{st:Stmt}{ps N:List Str}{k:Nat}{sp:Sp}(D:aZ K mg x st ps)(S:bw N ps (aG st))(len:∀ vs H Q E,sp vs H Q E->vs.length=ps.length)
  (hbody:∀ (f:Addr) (cdv:Value) (A:Around) (outer:List Env) (s:Shared) (H:Hp) (vs:List V) (Q:VK) (E:XK),fD k (A.deeper (envOfC x (aG st) s.heap.objs.size f cdv))->sp vs H Q E ->
   ∃ t,PSs (uK CX0 P w K mg base N x (aG st) f cdv A outer s H E).nox (bh st) t/\t { nx:=λ_ H'=>Q .non H',rt:=Q } (start N vs) H):FnAt P w K mg base x (k+1) ps sp:=by
 obtain⟨f,fd,e,F,b⟩:=D.ex;exact⟨f,fd,e,F.kp,b,F.ok S len λcdv A outer s H vs Q E=>hbody f cdv A outer s H vs Q E⟩
section
variable{X:Cx}{k:Nat}{ps:List Str}{sp:Sp}{x:Str}{p pos:Pos}{e:Expr}{es:List Expr}{t:TA}
theorem aR(G:FnAt X.prog X.w X.K X.mg X.base x k ps sp)(hr:fD k X.A)(hg:Gl X x)(ha:PA X (e::es) t)(hdb:(x==("__debug__":Str))=false:=by decide)
  (he:starEach (e::es) X.env=(false,eval e X.env)::starEach es X.env:=by rfl)(hpl:(backTo pos (starEach es X.env)).any (·.1)=false:=by rfl):PE X (.Call (.Name x p) (e::es) [] pos) (pL sp [] E0 t):=by
 obtain⟨f,fd,e1,e2,e3,e4⟩:=G;exact Hv e4 hr hg e1 e2 e3 .nil V0 ha hdb he hpl
end
section
variable{X:Cx}{N:List Str}{scope:Scope}{cl:List (Str×Addr)}{C:Addr}{s2:Shared}{H2:Hp}{fp:List Addr}{x:Str}{pos:Pos}
theorem pvl(i:Nat)(hN:N[i]?=some x:=by rfl)(hv:scope.names.lookup x=some .local:=by rfl)(hd:(x==("__debug__":Str))=false:=by decide)(hcd:(x==("__classdict__":Str))=false:=by decide) :
  PE (X.comp N scope cl C s2 H2 fp) (.Name x pos) (tM i):=Fi hN (.inl (jR (by decide) hv)) hd hcd
theorem pvf(i:Nat)(hN:N[i]?=some x:=by rfl)(hv:scope.names.lookup x=some .free:=by rfl)(hd:(x==("__debug__":Str))=false:=by decide)(hcd:(x==("__classdict__":Str))=false:=by decide) :
  PE (X.comp N scope cl C s2 H2 fp) (.Name x pos) (tM i):=Fi hN (.inr (tY hv)) hd hcd
theorem glc(h:scope.names.lookup x=some .globalImplicit):Gl (X.comp N scope cl C s2 H2 fp) x:=jR (by decide) h
theorem fG{i:Nat}(hN:N.Nodup)(hi:N[i]?=some x)(hx:scope.names.lookup x=some .local):PG (X.comp N scope cl C s2 H2 fp) (.Name x pos) (Ce i):=
 cB hN hi (.inl (jR (by decide) hx)) (.inr (jR (by decide) hx))
end
section
variable{X:Cx}{x:Str}{z:Str}{pos:Pos}
theorem tZ(hg:Gl X x)(h:∃ t,X.mg x=some (.str z t))(hd:(x==("__debug__":Str))=false:=by decide):PE X (.Name x pos) (tC (.str z)):=by
 obtain⟨t,h⟩:=h;exact Ht hg h ⟨t,rfl⟩ hd
theorem nu{n:String}(hg:Gl X x)(hm:X.mg x=none)(hv:bootBuiltins x=some (.type n))(hn:x≠"__name__":=by decide)(hd:(x==("__debug__":Str))=false:=by decide):PE X (.Name x pos) (tC (.ty n)):=
 Pb hg hm hv rfl hn hd
end
theorem tyL{K:PySem.W.Frag}{H:Hp}{p:Addr}{xs:List V}(h:H p=some (.lst xs)):tyV K "list" (.ref p) H:=.inl ⟨rfl,xs,SqL.of h⟩
theorem gf{H:Hp}{p:Addr}{o:HO}(h:H p=none):bf H (upd H p o):=λb u e=>by rw[aQ (cD e h)];exact e
theorem uO{H H1:Hp}{p:Addr}{o:HO}(h:H p=none)(s:bf H H1):bf H (upd H1 p o):=λb u e=>by rw[aQ (cD e h)];exact s b u e
theorem bf.tup{K:PySem.W.Frag}{H H':Hp}{a:Addr}{xs:List V}(e:bf H H')(h:SqT K H a xs):SqT K H' a xs:=by
 rcases h with(h|⟨o,h⟩)|h
 ·exact .inl (.inl (e _ _ h))
 ·exact .inl (.inr ⟨o,e _ _ h⟩)
 ·exact .inr h
theorem wB{α:Type}{xs:List α}{i:Int}(h0:0<=i)(h:i<xs.length):∃ v,atI xs i=some v/\xs[i.toNat]?=some v:=by
 have hl:i.toNat<xs.length:=by lia
 refine⟨xs[i.toNat],?_,by simp[hl]⟩
 have:=jn (xs:=xs) (j:=i.toNat) (v:=xs[i.toNat]) (by simp[hl])
 rwa [ZaU h0] at this
theorem tyS{K:PySem.W.Frag}{H:Hp}{z:Str}:tyV K "str" (.str z) H:=rfl
theorem Lf{K:PySem.W.Frag}{T:String}:PySem.W.kitOne K (.type T) (.type T)=some true:=by
 unfold PySem.W.kitOne;rw[Zao (by simp)]
def WT(J:It)(g:TG)(tb:TS)(D:Ends)(σ:St)(H:Hp):Prop:=∃ W:Nat->Nat->St->Hp->Prop,(∃ m,W 0 m σ H)/\∀ i m σ H,W i m σ H ->
 (J.stop i H/\D.nx σ H)\/(J.go i H/\∃ N:St->Hp->Prop,(∀ σ' H',N σ' H'->∃ m',m'<m/\W (i+1) m' σ' H')/\∀ x H',J.yld i H x H'->g x σ H' λσ2 H2=>tb { D with nx:=N,ct:=N,bk:=D.nx } σ2 H2)
section
variable{X:Cx}{e es:Expr}{te:TE}{lo hi:Option Expr}{tl th ts:TO}{pos p2:Pos}
def V4(K:PySem.W.Frag)(te:TE)(tl th ts:TO):TE:=λσ H Q=>te σ H λx H1=>tl σ H1 λl H2=>th σ H2 λu H3=>ts σ H3 λk H4=>
 ∃ a xs,x=.ref a/\SqL K H4 a xs/\k≠some 0/\∀ p,H4 p=none->Q (.ref p) (upd H4 p (.lst (stepV xs l u k)))
theorem JF(he:PE X e te)(hl:PO X lo tl)(hu:PO X hi th)(hst:PO X (some es) ts):PE X (.Subscript e (.Slice lo hi (some es) p2) pos) (V4 X.K te tl th ts):=by
 intro pins s σ H Q I h;refine Subscript_ (thn (he pins s σ H _ I h) ?_);rintro v s1 ⟨x,H1,I1,r1,q1⟩;refine wpAny_Slice (thn (hl pins s1 σ H1 _ I1 q1) λvl s2 ⟨l,H2,I2,pl,q2⟩=>thn (hu pins s2 σ H2 _ I2 q2) λvu s3 ⟨u,H3,I3,pu,q3⟩=>thn (hst pins s3 σ H3 _ I3 q3) ?_);rintro vs s4 ⟨k,H4,I4,pk,q4⟩;obtain⟨a,xs,rfl,hx,hk,q⟩:=q4;cases r1;have I5:Inv X pins σ H4 { s4 with heap:=s4.heap.push { cls:=.type "slice",data:=.fields #[vl,vu,vs] } }:=I4.kept (t':=s4.toks) λb ob q=>Zac _ q;obtain⟨its,r,ht,hz⟩:=I5.list hx;have hlen:=r.length;show wpAny (model X.prog X.w) X.A (subscriptTail e (.Slice lo hi (some es) p2) (.ref a) (.ref s4.heap.objs.size)) (EP X pins σ Q) X.xe { s4 with heap:=s4.heap.push { cls:=.type "slice",data:=.fields #[vl,vu,vs] } }
 refine tail_any (ops:=[.ref a,.ref s4.heap.objs.size]) ht.isList.typeIs slot_list_getitem.lookup (wpAny_getItem_list_slice ht.isList (Heap.IsSliceOf.new ..) pl pu pk hk ?_ (by rw[List.size_toArray]<;>omega)) (by with_unfolding_all rfl)
 have ep:slicePick its.toArray l u k=((sliceRange (sliceBounds l u k xs.length).1 (sliceBounds l u k xs.length).2.1 (sliceBounds l u k xs.length).2.2).filterMap (its[·]?)).toArray:=by
  unfold slicePick;rw[List.size_toArray,<-hlen];simp
 rw[ep];refine⟨.ref (s4.heap.push { cls:=.type "slice",data:=.fields #[vl,vu,vs] }).objs.size,_,I5.laid (t':=s4.toks) (o:=.lst (stepV xs l u k)) (λb ob q=>Zac _ q) (Zag _) ?_,rfl,q _ (I5.hok.fresh (Zag _))⟩;have rp:=uN r (sliceRange (sliceBounds l u k xs.length).1 (sliceBounds l u k xs.length).2.1 (sliceBounds l u k xs.length).2.2);refine⟨?_,_,0,rp,Zar _ rfl⟩;have:=slicePick_size_le its.toArray l u k;rw[ep,List.size_toArray,List.size_toArray,<-rp.length] at this;exact ZaF this (by omega)
end
def SameBut(p:Addr)(H H':Hp):Prop:=∀ b o,H b=some o->b≠p->H' b=some o
section
variable{X:Cx}{N:List Str}{scope:Scope}{cl:List (Str×Addr)}{C:Addr}{s2:Shared}{H2:Hp}{fp:List Addr}
theorem PP{es:List Expr}{k:Nat}{t:TGs}{n:Nat}{pos:Pos}(hc:X.calm=true)(h:PGs (X.comp N scope cl C s2 H2 fp) es t)
  (hn:(assignEach es (X.comp N scope cl C s2 H2 fp).env).length=n:=by rfl)(hst:(assignEach es (X.comp N scope cl C s2 H2 fp).env).findIdx? (·.1)=none:=by rfl):PG (X.comp N scope cl C s2 H2 fp) (.Tuple es k pos) (Tg X.K n t):=nZ hc h hn hst
end
section
theorem t6{xs:List V}{its:List Value}(r:Vals xs its){j:Nat}(h:j<its.toArray.size):∃ x,xs[j]?=some x/\RelV x its.toArray[j]:=by
 have hl:j<its.length:=by simpa using h
 have hx:j<xs.length:=by rw[r.length];exact hl
 obtain⟨u,hu,ru⟩:=r.get (i:=j) (x:=xs[j]) (by simp[hx])
 refine⟨xs[j],by simp[hx],?_⟩
 have:its.toArray[j]=u:=by
  rw[Zad hl] at hu;simpa using hu
 rw[this];exact ru
end
section
variable{k:Nat}
theorem FT{A:Around}(hr:fD k A):A.units+32<cLine:=Nat.lt_of_le_of_lt (Nat.add_le_add_left (by decide:32<=64) _) hr.units
end
def zO(H:Hp)(xs:List V)(ps:List (Int×Int)):Prop:=xs.length=ps.length/\∀ (j:Nat) (c:Int×Int),ps[j]?=some c->∃ a,xs[j]?=some (.ref a)/\H a=some (.tup [.int c.1,.int c.2])
section
variable{κ:Type}[DecidableEq κ]
def vA(kvs:List (κ×V))(k:κ):Option V:=(kvs.find? λkv=>decide (kv.1=k)).map (·.2)
def putK(kvs:List (κ×V))(k:κ)(v:V):List (κ×V):=
 if(kvs.any λkv=>decide (kv.1=k))=true then kvs.map (λkv=>if kv.1=k then(kv.1,v) else kv) else kvs++[(k,v)]
theorem t7{p:κ×V}{r:List (κ×V)}{k:κ}(e:p.1=k):vA (p::r) k=some p.2:=by simp[vA,Zbl,e]
theorem qw{p:κ×V}{r:List (κ×V)}{k:κ}(e:¬p.1=k):vA (p::r) k=vA r k:=by simp[vA,Zbl,e]
theorem Cu(k:κ):∀ kvs:List (κ×V),(kvs.any λkv=>decide (kv.1=k))=(vA kvs k).isSome
 |[]=>rfl
 |p::r=>by
  rw[Zbo];by_cases e:p.1=k
  ·simp only[t7 e,Zaz e,Bool.true_or,Option.isSome_some]
  ·rw[qw e,Zas e,Bool.false_or];exact Cu k r
theorem lJ(kvs:List (κ×V))(k:κ)(v:V):(putK kvs k v).length<=kvs.length+1:=by
 unfold putK;split
 ·rw[List.length_map];omega
 ·rw[List.length_append,ZaG,List.length_nil];omega
theorem vy.JG{o:Option V}{u:Option Value}(r:vy o u):o.isSome=u.isSome:=by
 cases o with
 |none=>cases u with
  |none=>rfl
  |some _=>exact(show False from r).elim
 |some _=>cases u with
  |none=>exact(show False from r).elim
  |some _=>rfl
theorem vy.getD{o:Option V}{u:Option Value}{d:V}{d':Value}(r:vy o u)(rd:RelV d d'):RelV (o.getD d) (u.getD d'):=by
 cases o with
 |none=>cases u with
  |none=>exact rd
  |some _=>exact(show False from r).elim
 |some _=>cases u with
  |none=>exact(show False from r).elim
  |some _=>exact r
theorem KV.val{kvs:List (κ×V)}{vs:List (κ×Value)}(r:KV kvs vs)(k:κ):vy (vA kvs k) (valueAt vs k):=by
 unfold KV at r;induction r with
 |nil=>exact True.intro
 |@cons p q ps qs h t ih=>
  obtain⟨h1,h2⟩:=h;by_cases e:p.1=k
  ·have e':q.1=k:=h1.symm.trans e;have b:valueAt (q::qs) k=some q.2:=by simp[valueAt,Zbl,e']
   rw[t7 e,b];exact h2
  ·have e':¬q.1=k:=λz=>e (h1.trans z);have b:valueAt (q::qs) k=valueAt qs k:=by simp[valueAt,Zbl,e']
   rw[qw e,b];exact ih
theorem KV.any{kvs:List (κ×V)}{vs:List (κ×Value)}(r:KV kvs vs)(k:κ):(kvs.any λkv=>decide (kv.1=k))=vs.any λkv=>decide (kv.1=k):=by
 unfold KV at r;induction r with
 |nil=>rfl
 |cons h t ih=>rw[Zbo,Zbo,ih,h.1]
theorem KV.repl{kvs:List (κ×V)}{vs:List (κ×Value)}(r:KV kvs vs)(k:κ){y:V}{u:Value}(ry:RelV y u) :
  KV (kvs.map λkv=>if kv.1=k then(kv.1,y) else kv) (vs.map λkv=>if kv.1=k then(kv.1,u) else kv):=by
 unfold KV at r ⊢;induction r with
 |nil=>exact .nil
 |@cons p q ps qs h t ih=>
  rw[Zay,Zay];refine .cons ?_ ih;obtain⟨h1,h2⟩:=h;by_cases e:p.1=k
  ·rw[Zao e,Zao (h1.symm.trans e)];exact⟨h1,ry⟩
  ·rw[Zal e,Zal (λz=>e (h1.trans z))];exact⟨h1,h2⟩
theorem KV.put{kvs:List (κ×V)}{vs:List (κ×Value)}(r:KV kvs vs)(k:κ){y:V}{u:Value}(ry:RelV y u):KV (putK kvs k y) (stored vs k u):=by
 unfold putK stored;rw[r.any k];by_cases e:(vs.any λkv=>decide (kv.1=k))=true
 ·rw[Zao e,Zao e];exact r.repl k ry
 ·rw[Zal e,Zal e];exact Paired.snoc r ⟨rfl,ry⟩
theorem KV.length{kvs:List (κ×V)}{vs:List (κ×Value)}(r:KV kvs vs):kvs.length=vs.length:=Paired.length r
end
theorem HD{P:Program}{w:World}{k:Key}{u:Value}(r:RelV (kV k) u):(eQ P w).is k u=true:=by
 cases k with
 |inl i=>obtain⟨t,e⟩:=(show ∃ t,u=Value.int i t from r);subst e;exact BW P w i t
 |inr x=>obtain⟨t,e⟩:=(show ∃ t,u=Value.str x t from r);subst e;exact BX P w x t
theorem yJ{P:Program}{w:World}:∀ {ks:List Key}{us:List Value},Vals (ks.map kV) us->ItemsAre (eQ P w) ks us
 |[],_,r=>by rw[List.map_nil] at r;cases r;exact .nil
 |k::ks,_,r=>by
  rw[Zay] at r;cases r with
  |cons h t=>exact .cons (HD h) (yJ t)
noncomputable abbrev KT(H:Hp):List (List Key×V)->List (List Key×Addr×Value)->Prop:=Paired λp q=>p.1=q.1/\H q.2.1=some (.tup (p.1.map kV))/\RelV p.2 q.2.2
theorem KT.val{H:Hp}{kvs:List (List Key×V)}{xs:List (List Key×Addr×Value)}(r:KT H kvs xs)(k:List Key):vy (vA kvs k) ((atKey xs k).map (·.2)):=by
 induction r with
 |nil=>exact True.intro
 |@cons p q ps qs h t ih=>
  obtain⟨h1,_,h2⟩:=h;by_cases e:p.1=k
  ·have e':q.1=k:=h1.symm.trans e;have b:atKey (q::qs) k=some q.2:=by simp[atKey,Zbl,e']
   rw[t7 e,b];exact h2
  ·have e':¬q.1=k:=λz=>e (h1.trans z);have b:atKey (q::qs) k=atKey qs k:=by simp[atKey,Zbl,e']
   rw[qw e,b];exact ih
theorem KT.repl{H:Hp}{kvs:List (List Key×V)}{xs:List (List Key×Addr×Value)}(r:KT H kvs xs)(k:List Key){y:V}{u:Value}(ry:RelV y u) :
  KT H (kvs.map λkv=>if kv.1=k then(kv.1,y) else kv) (xs.map (putAt k u)):=by
 induction r with
 |nil=>exact .nil
 |@cons p q ps qs h t ih=>
  rw[Zay,Zay];refine .cons ?_ ih;obtain⟨h1,h2,h3⟩:=h;unfold putAt;by_cases e:p.1=k
  ·rw[Zao e,Zao (h1.symm.trans e)];exact⟨h1,h2,ry⟩
  ·rw[Zal e,Zal (λz=>e (h1.trans z))];exact⟨h1,h2,h3⟩
theorem KT.put{H:Hp}{kvs:List (List Key×V)}{xs:List (List Key×Addr×Value)}(r:KT H kvs xs)(k:List Key){b:Addr}{y:V}{u:Value}(hb:H b=some (.tup (k.map kV)))(ry:RelV y u) :
  KT H (putK kvs k y) (storedH xs k b u):=by
 have e:(kvs.any λkv=>decide (kv.1=k))=(atKey xs k).isSome:=by
  rw[Cu,(r.val k).JG,Option.isSome_map]
 unfold putK storedH;rw[e];by_cases q:(atKey xs k).isSome=true
 ·rw[Zao q,Zao q];exact r.repl k ry
 ·rw[Zal q,Zal q];exact Paired.snoc r ⟨rfl,hb,ry⟩
theorem KT.keeps{H H':Hp}{kvs:List (List Key×V)}{xs:List (List Key×Addr×Value)}(r:KT H kvs xs)(ht:∀ b ys,H b=some (.tup ys)->H' b=some (.tup ys)):KT H' kvs xs:=
 Paired.Te r λ_ _ z=>⟨z.1,ht _ _ z.2.1,z.2.2⟩
section
variable{P:Program}{w:World}{H:Hp}{h:Heap}{a:Addr}
theorem R6{u:HO}(ok:HOk P w H h)(e:Rd H a u):dX P w H h a u:=e.ok ok
theorem Lg{kvs:List (Key×V)}(ok:HOk P w H h)(e:Rd H a (.dK kvs)):kvs.length<=sizeLine/\(a==sysModules)=false/\∃ vs,KV kvs vs/\h.DictOf (eQ P w) a vs:=
 show dX P w H h a (.dK kvs) from R6 ok e
theorem R7{kvs:List (Key×V)}(ok:HOk P w H h)(e:H a=some (.dK kvs)):kvs.length<=sizeLine/\(a==sysModules)=false/\∃ vs,KV kvs vs/\h.DictOf (eQ P w) a vs:=Lg ok (.inl e)
theorem zP{ks:List Key}(ok:HOk P w H h)(e:H a=some (.tup (ks.map kV))):(tupleKind (eQ P w)).is h ks a:=by
 obtain⟨_,its,r,⟨o,h1,h2,n,h3⟩,_⟩:=(show dX P w H h a (.tup (ks.map kV)) from ok a _ e);exact⟨o,its.toArray,n,h1,h2,h3,by simpa using yJ r⟩
theorem Lh{kvs:List (List Key×V)}(ok:HOk P w H h)(e:Rd H a (.dT kvs)):kvs.length<=sizeLine/\(a==sysModules)=false /\
  ∃ xs,KT H kvs xs/\h.DictOfH (tupleKind (eQ P w)) a xs:=by
 obtain⟨z,y,xs,r,o,es,ep,h1,h2,h3,h4,h5⟩:=(show dX P w H h a (.dT kvs) from R6 ok e);refine⟨z,y,xs,r,o,es,ep,h1,h2,h3,h4,λx hx=>?_,h5⟩;have all:∀ {l:List (List Key×V)}{m:List (List Key×Addr×Value)},KT H l m->∀ x∈m,(tupleKind (eQ P w)).is h x.1 x.2.1:=by
  intro l m q;induction q with
  |nil=>intro x hx;exact nomatch hx
  |@cons p q ps qs hq t ih=>
   intro x hx;rcases ZaB.mp hx with e|hx
   ·subst e;exact zP ok (by rw[<-hq.1];exact hq.2.1)
   ·exact ih x hx
 exact all r x hx
theorem R8{kvs:List (List Key×V)}(ok:HOk P w H h)(e:H a=some (.dT kvs)):kvs.length<=sizeLine/\(a==sysModules)=false /\
  ∃ xs,KT H kvs xs/\h.DictOfH (tupleKind (eQ P w)) a xs:=Lh ok (.inl e)
end
def T3(H:Hp)(a:Addr)(y:V)(r:Option V):Prop:=
 (∃ kvs k,Rd H a (.dK kvs)/\y=kV k/\r=vA kvs k)\/∃ kvs k b,Rd H a (.dT kvs)/\y=.ref b/\H b=some (.tup (k.map kV))/\r=vA kvs k
def t8(H:Hp)(a:Addr)(y v:V)(H':Hp):Prop:=
 (∃ kvs k,H a=some (.dK kvs)/\y=kV k/\kvs.length<sizeLine/\H'=upd H a (.dK (putK kvs k v))) \/
 ∃ kvs k b,H a=some (.dT kvs)/\y=.ref b/\H b=some (.tup (k.map kV))/\kvs.length<sizeLine/\H'=upd H a (.dT (putK kvs k v))
theorem t8.k{H:Hp}{a:Addr}{kvs:List (Key×V)}{k:Key}{v:V}(e:H a=some (.dK kvs))(hl:kvs.length<sizeLine):t8 H a (kV k) v (upd H a (.dK (putK kvs k v))):=.inl ⟨kvs,k,e,rfl,hl,rfl⟩
theorem t8.t{H:Hp}{a b:Addr}{kvs:List (List Key×V)}{k:List Key}{v:V}(e:H a=some (.dT kvs))(eb:H b=some (.tup (k.map kV)))(hl:kvs.length<sizeLine) :
  t8 H a (.ref b) v (upd H a (.dT (putK kvs k v))):=.inr ⟨kvs,k,b,e,rfl,eb,hl,rfl⟩
section
variable{X:Cx}{pins:List (Addr×Obj)}{σ:St}{H:Hp}{s:Shared}{a:Addr}{y v:V}{u r:Value}{A:Around}{E:Value->Shared->Prop}
theorem Inv.big(I:Inv X pins σ H s):sysModules<s.heap.objs.size:=by
 have h:mainGlobals<s.heap.objs.size:=(I.mod.glob.keeps I.bk).lt;exact Nat.lt_trans (by decide) h
theorem vP{h':Heap}{t':Nat}{ob:HO}(I:Inv X pins σ H s)(mu:Mut (H a))(hs:Heap.SameBut a s.heap h')(he:∃ q,h'.get? a=some q)(new:dX X.prog X.w (upd H a ob) h' a ob) :
  Inv X pins σ (upd H a ob) { s with heap:=h',toks:=t' }:=
 I.write (x:=a) (e:=a) mu (.inl rfl) (λb q hb z=>(hs.2 b hb).trans z) he new
theorem Li{P:Program}{w:World}{H':Hp}{h':Heap}{kvs:List (Key×V)}{vs:List (Key×Value)}(z:kvs.length<=sizeLine)(hd:(a==sysModules)=false)(rel:KV kvs vs)(dd:h'.DictOf (eQ P w) a vs) :
  dX P w H' h' a (.dK kvs):=⟨z,hd,vs,rel,dd⟩
theorem JH{H':Hp}{Q:Unit->Shared->Prop}(hu:A.units+1<cLine)(I:Inv X pins σ H s)(g:t8 H a y v H')(ry:RelV y u)(rv:RelV v r)(h:∀ s',Inv X pins σ H' s'->Q () s') :
  wpAny (model X.prog X.w) A (setItem (.ref a) u r) Q E s:=by
 rcases g with⟨kvs,k,e,ey,l,eH⟩|⟨kvs,k,b,e,ey,eb,l,eH⟩
 ·subst ey eH;obtain⟨z,hd,vs,rel,dd⟩:=R7 I.hok e;have hz:vs.length<=sizeLine:=by rw[<-rel.length];exact z
  have hl:(putK kvs k v).length<=sizeLine:=by have:=lJ kvs k v;lia
  refine wpAny_setItem_pairs (hsz:=hz) (HD ry) dd λh' dd' hs=>h _ ?_;have he:∃ q,h'.get? a=some q:=let⟨q,_,_,hq,_⟩:=dd';⟨q,hq⟩;exact vP I (by rw[e];exact True.intro) hs he (Li hl hd (rel.put k rv) dd')
 ·subst ey eH;cases (show u=Value.ref b from ry);obtain⟨z,hd,xs,rel,dd⟩:=R8 I.hok e;have hz:xs.length<=sizeLine:=by rw[<-Paired.length rel];exact z
  have hl:(putK kvs k v).length<=sizeLine:=by have:=lJ kvs k v;lia
  refine wpAny_setItem_heap (hsz:=hz) (tupleKind_room_in1 hu) (zP I.hok eb) dd λh' dd' hs=>h _ ?_;obtain⟨q,es,ep,hq,h2,h3,h4,_,h5⟩:=dd';refine vP I (by rw[e];exact True.intro) hs ⟨q,hq⟩ ⟨hl,hd,_,(rel.put k eb rv).keeps λc ys ec=>?_,q,es,ep,hq,h2,h3,h4,h5⟩
  rw[aQ (RM ec e (λz=>nomatch z))];exact ec
end
def R9(td ty tv:TE):TS:=λD σ H=>tv σ H λv H1=>td σ H1 λx H2=>ty σ H2 λy H3=>∃ a H4,x=.ref a/\t8 H3 a y v H4/\D.nx σ H4
section
variable{X:Cx}{o i value:Expr}{pos pos':Pos}{td ty tv:TE}
theorem PQ(hu:X.A.units+1<cLine)(ho:PE X o td)(hi:PE X i ty)(hv:PE X value tv)(hs:swapsWith value (some (.Subscript o i pos')) pos.line X.env=pure false) :
  PS X (.Assign [.Subscript o i pos'] value pos) (R9 td ty tv):=by
 intro pins s σ H D I h;refine wpAny_Assign_Subscript (thn (hv pins s σ H _ I h) λr s1 ⟨v,H1,I1,rv,q1⟩=>thn (ho pins s1 σ H1 _ I1 q1) λu s2 ⟨x,H2,I2,rx,q2⟩=>thn (hi pins s2 σ H2 _ I2 q2) ?_) hs;rintro iv s3 ⟨y,H3,I3,ry,a,H4,ex,g,q3⟩;subst ex;obtain rfl:u=Value.ref a:=rx;exact JH hu I3 g ry rv λs4 I4=>⟨σ,H4,I4,q3⟩
end
theorem Cv{P:Program}{w:World}{H:Hp}(h:Heap)(hb:sysModules<h.objs.size):dX P w H (h.push { cls:=.type "dict",data:=.dict #[] }) h.objs.size (.dK []):=
 ⟨Zbh _,beq_eq_false_iff_ne.mpr (Za6 (ZaA hb)),[],.nil,Heap.DictOf.new h⟩
theorem Lj{P:Program}{w:World}{H:Hp}(h:Heap)(hb:sysModules<h.objs.size):dX P w H (h.push { cls:=.type "dict",data:=.dict #[] }) h.objs.size (.dT []):=
 ⟨Zbh _,beq_eq_false_iff_ne.mpr (Za6 (ZaA hb)),[],.nil,_,#[],0,Zar _ rfl,⟨rfl,rfl,rfl⟩,rfl,rfl,List.nodup_nil⟩
def Lk:TE:=λ_ H Q=>∀ p,H p=none->Q (.ref p) (upd H p (.dK []))
section
variable{X:Cx}{pos:Pos}
theorem Ln:PE X (.Dict [] [] pos) Lk:=λpins s σ H Q I h=>
 wpAny_Dict_empty ⟨.ref s.heap.objs.size,_,I.laid (a:=s.heap.objs.size) (o:=.dK []) (t':=s.toks) (λ_ _ q=>Zac _ q) (Zag _) (Cv s.heap I.big),rfl,h _ (I.hok.fresh (Zag _))⟩
end
def Lp:List (TE×TE)->St->Hp->(List (V×V)->Hp->Prop)->Prop
 |[],_,H,Q=>Q [] H
 |(tk,tv)::r,σ,H,Q=>tk σ H λx H1=>tv σ H1 λy H2=>Lp r σ H2 λps H3=>Q ((x,y)::ps) H3
noncomputable abbrev VV:List (V×V)->List (Value×Value)->Prop:=Paired λp q=>RelV p.1 q.1/\RelV p.2 q.2
def PPs(X:Cx)(pos:Pos)(keys:List (Option Expr))(values:List Expr)(trs:List (TE×TE)):Prop:=
 ∀ (pins:List (Addr×Obj)) (s:Shared) (σ:St) (H:Hp) (Q:List (V×V)->Hp->Prop),Inv X pins σ H s->Lp trs σ H Q ->
  wpAny (model X.prog X.w) X.A (evalPairs (pairTrees keys values X.env pos)) (λvs s'=>∃ ps H',Inv X pins σ H' s'/\VV ps vs/\Q ps H') X.xe s
structure M2(X:Cx)(o:Expr)(m:Str)(apos:Pos)(e f:Expr)(cpos:Pos):Prop where
 base:attributeBase o m X.env (eval o X.env)=eval o X.env
 few:((backTo cpos (starEach [e,f] X.env)).all (λx=>!x.1)&&(backToKw cpos (keywordEach [] X.env)).all (λx=>x.1.isSome)
  && decide (([e,f]:List Expr).length+([]:List Keyword).length+(if([]:List Keyword).isEmpty then 0 else 1)<30))=true
 line:(apos.endLine==cpos.line)=true
 trees:backTo cpos (starEach [e,f] X.env)=[(false,eval e X.env),(false,eval f X.env)]
def IsD(H:Hp)(a:Addr):Prop:=(∃ kvs,Rd H a (.dK kvs))\/∃ kvs,Rd H a (.dT kvs)
theorem T4{X:Cx}{pins:List (Addr×Obj)}{σ:St}{H:Hp}{s:Shared}{a:Addr}(I:Inv X pins σ H s)(d:IsD H a) :
  s.TypeIs (.ref a) "dict"/\(∀ b,Value.ref a=.ref b->∃ ob,s.heap.get? b=some ob/\ob.dict=none)/\(a==sysModules)=false:=by
 rcases d with⟨kvs,e⟩|⟨kvs,e⟩
 ·obtain⟨_,hd,vs,_,dd⟩:=Lg I.hok e;refine⟨dd.typeIs,λb q=>?_,hd⟩;cases q;obtain⟨ob,_,_,h1,h2,_⟩:=dd;exact⟨ob,h1,h2.2.1⟩
 ·obtain⟨_,hd,xs,_,dd⟩:=Lh I.hok e;refine⟨dd.typeIs,λb q=>?_,hd⟩;cases q;obtain⟨ob,_,_,h1,h2,_⟩:=dd;exact⟨ob,h1,h2.2.1⟩
section
variable{X:Cx}{pins:List (Addr×Obj)}{σ:St}{H:Hp}{s:Shared}{a:Addr}{y d:V}{u r:Value}{o:Option V}{A:Around}{E:Value->Shared->Prop}
theorem T8{Q:Value->Shared->Prop}(hu:A.units+1<cLine)(I:Inv X pins σ H s)(g:T3 H a y o)(ry:RelV y u)(rd:RelV d r)(h:∀ w' s',Inv X pins σ H s'->RelV (o.getD d) w'->Q w' s') :
  wpAny (model X.prog X.w) A (call (.builtin "dict.get") [.ref a,u,r]) Q E s:=by
 rcases g with⟨kvs,k,e,ey,l⟩|⟨kvs,k,b,e,ey,eb,l⟩
 ·subst ey;obtain⟨z,hd,vs,rel,dd⟩:=Lg I.hok e;refine call_meetsIn PySem.F.slot_dict_get dd.typeIs PySem.F.entry_dict_get (PySem.F.args_dict_get_3 _ _ _) (meets_dict_get_default (eQ X.prog X.w) a (HD ry) hd r) ⟨_,dd.mapOf,h _ _ (I.tok _) ?_⟩;rw[l];exact(rel.val k).getD rd
 ·subst ey;cases (show u=Value.ref b from ry);obtain⟨z,hd,xs,rel,dd⟩:=Lh I.hok e;refine call_meetsIn PySem.F.slot_dict_get dd.typeIs PySem.F.entry_dict_get (PySem.F.args_dict_get_3 _ _ _) (meetsH_dict_get_default (tupleKind (eQ X.prog X.w)) a b hd r) ⟨tupleKind_room_in1 hu,k,xs,zP I.hok eb,dd,h _ _ (I.tok _) ?_⟩;rw[l];exact(rel.val k).getD rd
end
def zQ(td ty tx:TE):TE:=λσ H Q=>td σ H λx H1=>∃ a,x=.ref a/\IsD H1 a/\ty σ H1 λy H2=>tx σ H2 λz H3=>∃ o,T3 H3 a y o/\Q (o.getD z) H3
section
variable{X:Cx}{o e f:Expr}{apos cpos:Pos}{td ty tx:TE}
theorem Cw(hu:X.A.units+1<cLine)(ho:PE X o td)(he:PE X e ty)(hf:PE X f tx)(m:M2 X o "get" apos e f cpos):PE X (.Call (.Attribute o "get" apos) [e,f] [] cpos) (zQ td ty tx):=by
 intro pins s σ H Q I h;refine wpAny_Call_method m.base m.few m.line PySem.F.plainAttrs_dict PySem.F.slot_dict_get PySem.F.type_dict_get (thn (ho pins s σ H _ I h) ?_);rintro u s1 ⟨x,H1,I1,rx,a,ex,d,q1⟩;subst ex;obtain rfl:u=Value.ref a:=rx;obtain⟨t1,t2,_⟩:=T4 I1 d;refine⟨t1,t2,?_⟩;rw[m.trees];refine Calls.callWith_builtin rfl (Calls.evalArgs_plain (Calls.spliced_cons (thn (he pins s1 σ H1 _ I1 q1) λiv s2 ⟨y,H2,I2,ry,q2⟩=>
  Calls.spliced_cons (thn (hf pins s2 σ H2 _ I2 q2) λfv s3 ⟨z,H3,I3,rz,ov,g,q3⟩=>Calls.spliced_nil ?_))))
 exact T8 hu I3 g ry rz λw' s4 I4 rw'=>⟨_,H3,I4,rw',q3⟩
end
end L2
namespace L2.MP
open PySem PySem.Spec PyProof.Rows
inductive PV where
 |non|bl (b:Bool)|int (i:Int)|str (x:Str)|ty (n:String)
 |tup (l:List PV)|lst (l:List PV)|dk (l:List (Key×PV))|dt (l:List (List Key×PV))
 |exc (c:Str) (fs:List (Str×PV))
noncomputable instance:Inhabited PV:=⟨.non⟩
def PV.flat:PV->Bool
 |.non|.bl _|.int _|.str _|.ty _=>true
 |_=>false
def Lq:Nat->PV->Bool
 |0,p=>p.flat
 |n+1,.tup l=>l.all (Lq n)
 |_+1,p=>p.flat
def PV.still(p:PV):Bool:=Lq 5 p
inductive Res(α:Type) where
 |ok (a:α)|ex (z:PV)
def bnd{α β:Type}(x:Option (Res α))(k:α->Option (Res β)):Option (Res β):=match x with
 |some (.ok a)=>k a
 |some (.ex z)=>some (.ex z)
 |none=>none
def XO(e C:Addr)(d:Option Addr):HO:=.ext λh=>∃ vs:Array Value,h.get? e=some { cls:=.ref C,dict:=d,data:=.fields vs }
structure XNm(K:PySem.W.Frag)(C:Addr)(c:Str):Prop where
 ns:nsIn K mainGlobals c=some (some (.ref C))
 cl:∃ cd,PySem.W.clsIn K C=some cd/\cd.name=c
inductive Rep(K:PySem.W.Frag)(F:Hp):V->PV->Prop
 |non:Rep K F .non .non
 |bl {b:Bool}:Rep K F (.bl b) (.bl b)
 |int {i:Int}:Rep K F (.int i) (.int i)
 |str {x:Str}:Rep K F (.str x) (.str x)
 |ty {n:String}:Rep K F (.ty n) (.ty n)
 |tup {a:Addr}{xs:List V}{l:List PV} (h:F a=some (.tup xs)) (hl:xs.length=l.length) (hr:∀ (j:Nat) x p,xs[j]?=some x->l[j]?=some p->Rep K F x p):Rep K F (.ref a) (.tup l)
 |lst {a:Addr}{xs:List V}{l:List PV} (h:SqL K F a xs) (hl:xs.length=l.length) (hr:∀ (j:Nat) x p,xs[j]?=some x->l[j]?=some p->Rep K F x p):Rep K F (.ref a) (.lst l)
 |dk {a:Addr}{xs:List (Key×V)}{l:List (Key×PV)} (h:Rd F a (.dK xs)) (hl:xs.map (·.1)=l.map (·.1)) (hr:∀ (j:Nat) x p,xs[j]?=some x->l[j]?=some p->Rep K F x.2 p.2):Rep K F (.ref a) (.dk l)
 |dt {a:Addr}{xs:List (List Key×V)}{l:List (List Key×PV)} (h:Rd F a (.dT xs)) (hl:xs.map (·.1)=l.map (·.1)) (hr:∀ (j:Nat) x p,xs[j]?=some x->l[j]?=some p->Rep K F x.2 p.2):Rep K F (.ref a) (.dt l)
 |exc {a C dx:Addr}{c:Str}{xs:List (Str×V)}{l:List (Str×PV)} (nm:XNm K C c) (h:F a=some (XO a C (some dx))) (hd:F dx=some (.xd xs)) (hl:xs.map (·.1)=l.map (·.1)) (hr:∀ (j:Nat) x p,xs[j]?=some x->l[j]?=some p->Rep K F x.2 p.2):Rep K F (.ref a) (.exc c l)
 |exc0 {a C:Addr}{c:Str} (nm:XNm K C c) (h:F a=some (XO a C none)):Rep K F (.ref a) (.exc c [])
def b8(K:PySem.W.Frag)(F:Hp)(xs:List V)(l:List PV):Prop:=xs.length=l.length/\∀ (j:Nat) x p,xs[j]?=some x->l[j]?=some p->Rep K F x p
section
variable{K:PySem.W.Frag}{F F':Hp}{v:V}{p:PV}{xs ys:List V}{l m:List PV}
theorem _root_.L2.Rd.same{F F':Hp}{a:Addr}{u:HO}(h:Rd F a u)(s:bf F F'):Rd F' a u:=h.imp (s _ _) λ⟨o,e⟩=>⟨o,s _ _ e⟩
theorem Rep.up(h:Rep K F v p)(s:bf F F'):Rep K F' v p:=by
 induction h with
 |non=>exact .non
 |bl=>exact .bl
 |int=>exact .int
 |str=>exact .str
 |ty=>exact .ty
 |tup h hl _ ih=>exact .tup (s _ _ h) hl ih
 |lst h hl _ ih=>exact .lst (s.seq h) hl ih
 |dk h hl _ ih=>exact .dk (h.same s) hl ih
 |dt h hl _ ih=>exact .dt (h.same s) hl ih
 |exc nm h hd hl _ ih=>exact .exc nm (s _ _ h) (s _ _ hd) hl ih
 |exc0 nm h=>exact .exc0 nm (s _ _ h)
theorem b8.up(h:b8 K F xs l)(s:bf F F'):b8 K F' xs l:=⟨h.1,λj x p a b=>(h.2 j x p a b).up s⟩
theorem Rep.free(h:Rep K F v p)(hf:p.flat=true):Rep K F' v p:=by
 cases h with
 |non=>exact .non
 |bl=>exact .bl
 |int=>exact .int
 |str=>exact .str
 |ty=>exact .ty
 |tup=>cases hf
 |lst=>cases hf
 |dk=>cases hf
 |dt=>cases hf
 |exc=>cases hf
 |exc0=>cases hf
theorem b8.nil:b8 K F [] []:=⟨rfl,λj x p h=>by simp at h⟩
theorem b8.cons(h:Rep K F v p)(t:b8 K F xs l):b8 K F (v::xs) (p::l):=by
 refine⟨by simp[t.1],λj x q a b=>?_⟩
 cases j with
 |zero=>simp at a b;subst a b;exact h
 |succ j=>exact t.2 j x q (by simpa using a) (by simpa using b)
theorem b8.append(h:b8 K F xs l)(t:b8 K F ys m):b8 K F (xs++ys) (l++m):=by
 refine⟨by rw[List.length_append,List.length_append,h.1,t.1],λj x p a b=>?_⟩
 by_cases hj:j<xs.length
 ·rw[Zap hj] at a;rw[Zap (by rw[<-h.1];exact hj)] at b
  exact h.2 j x p a b
 ·rw[Zaw (by lia)] at a
  rw[Zaw (by rw[<-h.1];lia),<-h.1] at b
  exact t.2 _ x p a b
theorem b8.snoc(h:b8 K F xs l)(t:Rep K F v p):b8 K F (xs++[v]) (l++[p]):=h.append (b8.nil.cons t)
theorem b8.get(h:b8 K F xs l){j:Nat}(e:l[j]?=some p):∃ x,xs[j]?=some x/\Rep K F x p:=by
 have hj:j<xs.length:=by rw[h.1];exact(Zaj.mp e).1
 exact⟨xs[j],by simp[hj],h.2 j _ p (by simp[hj]) e⟩
theorem b8.got(h:b8 K F xs l){j:Nat}(e:xs[j]?=some v):∃ p,l[j]?=some p/\Rep K F v p:=by
 have hj:j<l.length:=by rw[<-h.1];exact(Zaj.mp e).1
 exact⟨l[j],by simp[hj],h.2 j v _ e (by simp[hj])⟩
theorem b8.take(h:b8 K F xs l)(n:Nat):b8 K F (xs.take n) (l.take n):=by
 refine⟨by simp[h.1],λj x p a b=>?_⟩
 rw[List.getElem?_take] at a b;split at a
 ·rename_i hj;rw[Zao hj] at b;exact h.2 j x p a b
 ·cases a
theorem b8.drop(h:b8 K F xs l)(n:Nat):b8 K F (xs.drop n) (l.drop n):=by
 refine⟨by simp[h.1],λj x p a b=>?_⟩
 rw[List.getElem?_drop] at a b;exact h.2 _ x p a b
theorem b8.gh(h:b8 K F xs (p::l)):∃ v ys,xs=v::ys/\Rep K F v p/\b8 K F ys l:=by
 obtain⟨hl,hr⟩:=h
 match xs,hl,hr with
 |[],hl,_=>simp at hl
 |v::ys,hl,hr=>exact⟨v,ys,rfl,hr 0 v p rfl rfl,by simpa using hl,λj x q a b=>hr (j+1) x q (by simpa using a) (by simpa using b)⟩
theorem b8.jT(h:b8 K F xs []):xs=[]:=by
 have:=h.1;simpa using this
theorem b8.zR:∀ (ns:List Int),b8 K F (ns.map V.int) (ns.map PV.int)
 |[]=>.nil
 |n::ns=>(b8.zR ns).cons .int
theorem Rep.bR{i:Int}(h:Rep K F v (.int i)):v=.int i:=by cases h;rfl
theorem Rep.gj{b:Bool}(h:Rep K F v (.bl b)):v=.bl b:=by cases h;rfl
theorem Rep.cC{z:Str}(h:Rep K F v (.str z)):v=.str z:=by cases h;rfl
theorem Rep.fW(h:Rep K F v .non):v=.non:=by cases h;rfl
theorem Rep.T9{n:String}(h:Rep K F v (.ty n)):v=.ty n:=by cases h;rfl
theorem Rep.dF(h:Rep K F v (.tup l)):∃ a xs,v=.ref a/\SqT K F a xs/\b8 K F xs l:=by cases h with|tup h hl hr=>exact⟨_,_,rfl,SqT.of h,hl,hr⟩
theorem Rep.Cy(h:Rep K F v (.tup l)):∃ a xs,v=.ref a/\F a=some (.tup xs)/\b8 K F xs l:=by cases h with|tup h hl hr=>exact⟨_,_,rfl,h,hl,hr⟩
theorem Rep.d7(h:Rep K F v (.lst l)):∃ a xs,v=.ref a/\SqL K F a xs/\b8 K F xs l:=by cases h with|lst h hl hr=>exact⟨_,_,rfl,h,hl,hr⟩
end
structure Cf where
 io:Addr->Prop
 nw:Prop
 H0:Hp
 F0:Hp
 E:XK
inductive Sl where
 |sh (p:PV)|ow (p:PV)|dp (p:PV)
noncomputable abbrev Rho:=List (Option Sl)
def Own(K:PySem.W.Frag)(F H:Hp)(a:Addr):PV->Prop
 |.lst l=>∃ xs,H a=some (.lst xs)/\b8 K F xs l
 |.dk l=>∃ xs,H a=some (.dK xs)/\xs.map (·.1)=l.map (·.1)/\∀ (j:Nat) x p,xs[j]?=some x->l[j]?=some p->Rep K F x.2 p.2
 |.dt l=>∃ xs,H a=some (.dT xs)/\xs.map (·.1)=l.map (·.1)/\∀ (j:Nat) x p,xs[j]?=some x->l[j]?=some p->Rep K F x.2 p.2
 |_=>False
inductive Dp(K:PySem.W.Frag)(F H:Hp):(Addr->Prop)->V->PV->Prop
 |fr {P:Addr->Prop}{v:V}{p:PV} (h:Rep K F v p) (st:p.still=true):Dp K F H P v p
 |lst {P:Addr->Prop}{S:Nat->Addr->Prop}{a:Addr}{xs:List V}{l:List PV} (h:H a=some (.lst xs)) (hp:P a) (hs:∀ j b,S j b->P b/\b≠a) (dj:∀ i j b,S i b->S j b->i=j) (hl:xs.length=l.length)
   (hr:∀ (j:Nat) x p,xs[j]?=some x->l[j]?=some p->Dp K F H (S j) x p):Dp K F H P (.ref a) (.lst l)
 |tup {P:Addr->Prop}{S:Nat->Addr->Prop}{a:Addr}{xs:List V}{l:List PV} (h:H a=some (.tup xs)) (hs:∀ j b,S j b->P b) (dj:∀ i j b,S i b->S j b->i=j) (hl:xs.length=l.length)
   (hr:∀ (j:Nat) x p,xs[j]?=some x->l[j]?=some p->Dp K F H (S j) x p):Dp K F H P (.ref a) (.tup l)
 |dk {P:Addr->Prop}{S:Nat->Addr->Prop}{a:Addr}{xs:List (Key×V)}{l:List (Key×PV)} (h:H a=some (.dK xs)) (hp:P a) (hs:∀ j b,S j b->P b/\b≠a) (dj:∀ i j b,S i b->S j b->i=j) (hl:xs.map (·.1)=l.map (·.1))
   (hr:∀ (j:Nat) x p,xs[j]?=some x->l[j]?=some p->Dp K F H (S j) x.2 p.2):Dp K F H P (.ref a) (.dk l)
 |dt {P:Addr->Prop}{S:Nat->Addr->Prop}{a:Addr}{xs:List (List Key×V)}{l:List (List Key×PV)} (h:H a=some (.dT xs)) (hp:P a) (hs:∀ j b,S j b->P b/\b≠a) (dj:∀ i j b,S i b->S j b->i=j) (hl:xs.map (·.1)=l.map (·.1))
   (hr:∀ (j:Nat) x p,xs[j]?=some x->l[j]?=some p->Dp K F H (S j) x.2 p.2):Dp K F H P (.ref a) (.dt l)
section
variable{K:PySem.W.Frag}{F F' H H':Hp}{v:V}{p:PV}{P:Addr->Prop}
theorem Dp.up(h:Dp K F H P v p)(sf:bf F F')(sh:∀ b o,P b->H b=some o->H' b=some o)(ht:∀ b ys,H b=some (.tup ys)->H' b=some (.tup ys)):Dp K F' H' P v p:=by
 induction h with
 |fr h st=>exact .fr (h.up sf) st
 |lst h hp hs dj hl _ ih=>exact .lst (sh _ _ hp h) hp hs dj hl λj x p e1 e2=>ih j x p e1 e2 λb o q=>sh b o (hs j b q).1
 |tup h hs dj hl _ ih=>exact .tup (ht _ _ h) hs dj hl λj x p e1 e2=>ih j x p e1 e2 λb o q=>sh b o (hs j b q)
 |dk h hp hs dj hl _ ih=>exact .dk (sh _ _ hp h) hp hs dj hl λj x p e1 e2=>ih j x p e1 e2 λb o q=>sh b o (hs j b q).1
 |dt h hp hs dj hl _ ih=>exact .dt (sh _ _ hp h) hp hs dj hl λj x p e1 e2=>ih j x p e1 e2 λb o q=>sh b o (hs j b q).1
theorem Dp.seen(h:Dp K F H P v p)(sf:bf F F')(sh:∀ b o,P b->H b=some o->F' b=some o)(ht:∀ b ys,H b=some (.tup ys)->F' b=some (.tup ys)):Rep K F' v p:=by
 induction h with
 |fr h st=>exact h.up sf
 |lst h hp hs dj hl _ ih=>exact .lst (SqL.of (sh _ _ hp h)) hl λj x p e1 e2=>ih j x p e1 e2 λb o q=>sh b o (hs j b q).1
 |tup h hs dj hl _ ih=>exact .tup (ht _ _ h) hl λj x p e1 e2=>ih j x p e1 e2 λb o q=>sh b o (hs j b q)
 |dk h hp hs dj hl _ ih=>exact .dk (.inl (sh _ _ hp h)) hl λj x p e1 e2=>ih j x p e1 e2 λb o q=>sh b o (hs j b q).1
 |dt h hp hs dj hl _ ih=>exact .dt (.inl (sh _ _ hp h)) hl λj x p e1 e2=>ih j x p e1 e2 λb o q=>sh b o (hs j b q).1
end
structure RD(K:PySem.W.Frag)(C:Cf)(F H:Hp)(σ:St)(ρ:Rho)(P:Nat->Addr->Prop):Prop where
 own:∀ i b,P i b->F b=none/\(∃ o,H b=some o/\∀ ys,o≠.tup ys)/\C.nw/\C.H0 b=none
 dis:∀ i j b,P i b->P j b->i=j
 ow:∀ (i j:Nat) q b,P i b->ρ[j]?=some (some (.ow q))->σ[j]?≠some (some (.ref b))
 dp:∀ (i:Nat) p,ρ[i]?=some (some (.dp p))->∃ v,σ[i]?=some (some v)/\Dp K F H (P i) v p
theorem RD.no{K:PySem.W.Frag}{C:Cf}{F H:Hp}{σ:St}{ρ:Rho}(h:∀ (i:Nat) p,ρ[i]?≠some (some (.dp p))):RD K C F H σ ρ (λ_ _=>False):=
 ⟨λ_ _ q=>q.elim,λ_ _ _ q=>q.elim,λ_ _ _ _ q=>q.elim,λi p e=>absurd e (h i p)⟩
def Frz(H:Hp)(b:Addr)(o:HO):Prop:=H b=none\/∃ ys,o=.tup ys
structure RB(C:Cf)(F H:Hp):Prop where
 sub:bf F H
 keep:∀ b o,C.H0 b=some o->¬C.io b->H b=some o
 new:∀ b o,F b=some o->C.F0 b=some o\/Frz C.H0 b o
 ios:∀ b,C.io b->H b≠none/\C.H0 b≠none
structure RE(K:PySem.W.Frag)(C:Cf)(F H:Hp)(σ:St)(ρ:Rho):Prop where
 rb:RB C F H
 len:σ.length=ρ.length
 sh:∀ (i:Nat) p,ρ[i]?=some (some (.sh p))->∃ v,σ[i]?=some (some v)/\Rep K F v p
 ow:∀ (i:Nat) p,ρ[i]?=some (some (.ow p))->∃ a,σ[i]?=some (some (.ref a))/\Own K F H a p/\F a=none/\(C.io a\/(C.nw/\C.H0 a=none))
 dis:∀ (i j:Nat) p q a,ρ[i]?=some (some (.ow p))->ρ[j]?=some (some (.ow q))->σ[i]?=some (some (.ref a))->σ[j]?=some (some (.ref a))->i=j
 dd:∃ P,RD K C F H σ ρ P
structure Up(F H F' H':Hp):Prop where
 ff:bf F F'
 hh:bf H H'
 fr:∀ b o,F' b=some o->F b=some o\/Frz H b o
 fh:bf F' H'
section
variable{K:PySem.W.Frag}{C:Cf}{F F1 F2 F' H H1 H2 H':Hp}{σ:St}{ρ:Rho}{a:Addr}{p:PV}{v:V}
theorem Up.refl(s:bf F H):Up F H F H:=⟨bf.refl _,bf.refl _,λ_ _ h=>.inl h,s⟩
theorem Up.trans(a:Up F H F1 H1)(b:Up F1 H1 F2 H2):Up F H F2 H2:=
 ⟨a.ff.trans b.ff,a.hh.trans b.hh,λc o h=>(b.fr c o h).elim (a.fr c o) λn=>.inr (n.imp (λn=>a.hh.free n) id),b.fh⟩
theorem Own.ne(h:Own K F H a p):∃ o,H a=some o:=by
 cases p with
 |lst l=>obtain⟨xs,e,_⟩:=h;exact⟨_,e⟩
 |dk l=>obtain⟨xs,e,_⟩:=h;exact⟨_,e⟩
 |dt l=>obtain⟨xs,e,_⟩:=h;exact⟨_,e⟩
 |_=>exact h.elim
theorem Own.HF{ys:List V}(h:Own K F H a p)(e:H a=some (.tup ys)):False:=by
 cases p with
 |lst l=>obtain⟨xs,e',_⟩:=h;rw[e] at e';cases e'
 |dk l=>obtain⟨xs,e',_⟩:=h;rw[e] at e';cases e'
 |dt l=>obtain⟨xs,e',_⟩:=h;rw[e] at e';cases e'
 |_=>exact h.elim
theorem RD.up{P:Nat->Addr->Prop}(d:RD K C F H σ ρ P)(u:Up F H F' H'):RD K C F' H' σ ρ P where
 own:=λi b q=>by
  obtain⟨a1,⟨o',a2,a3⟩,a4⟩:=d.own i b q;refine⟨?_,⟨o',u.hh _ _ a2,a3⟩,a4⟩;cases e:F' b with
  |none=>rfl
  |some o=>
   rcases u.fr b o e with z|z|⟨ys,z⟩
   ·rw[a1] at z;cases z
   ·rw[a2] at z;cases z
   ·subst z;have w:=u.fh _ _ e;rw[u.hh _ _ a2] at w;cases w;exact absurd rfl (a3 ys)
 dis:=d.dis
 ow:=d.ow
 dp:=λi p e=>let⟨v,e1,e2⟩:=d.dp i p e;⟨v,e1,e2.up u.ff (λb o _ q=>u.hh b o q) λb ys q=>u.hh b _ q⟩
theorem Own.up(h:Own K F H a p)(sf:bf F F')(sh:∀ o,H a=some o->H' a=some o):Own K F' H' a p:=by
 cases p with
 |lst l=>obtain⟨xs,e,r⟩:=h;exact⟨xs,sh _ e,r.up sf⟩
 |dk l=>obtain⟨xs,e,r,q⟩:=h;exact⟨xs,sh _ e,r,λj x p a b=>(q j x p a b).up sf⟩
 |dt l=>obtain⟨xs,e,r,q⟩:=h;exact⟨xs,sh _ e,r,λj x p a b=>(q j x p a b).up sf⟩
 |_=>exact h.elim
theorem Own.frozen(h:Own K F H a p)(hn:F a=none):∃ o,H a=some o/\Rep K (upd F a o) (.ref a) p:=by
 have s:∀ o,bf F (upd F a o):=λo=>gf hn;cases p with
 |lst l=>obtain⟨xs,e,r⟩:=h;exact⟨_,e,.lst (SqL.of aX) r.1 (r.up (s _)).2⟩
 |dk l=>obtain⟨xs,e,r,q⟩:=h;exact⟨_,e,.dk (.inl aX) r λj x p a b=>(q j x p a b).up (s _)⟩
 |dt l=>obtain⟨xs,e,r,q⟩:=h;exact⟨_,e,.dt (.inl aX) r λj x p a b=>(q j x p a b).up (s _)⟩
 |_=>exact h.elim
theorem Own.lent(h:Own K F H a p)(s:bf F H):Rep K H (.ref a) p:=by
 cases p with
 |lst l=>obtain⟨xs,e,r⟩:=h;exact .lst (SqL.of e) r.1 (r.up s).2
 |dk l=>obtain⟨xs,e,r,q⟩:=h;exact .dk (.inl e) r λj x p a b=>(q j x p a b).up s
 |dt l=>obtain⟨xs,e,r,q⟩:=h;exact .dt (.inl e) r λj x p a b=>(q j x p a b).up s
 |_=>exact h.elim
theorem RB.up(h:RB C F H)(u:Up F H F' H'):RB C F' H' where
 sub:=u.fh
 keep:=λb o e n=>u.hh _ _ (h.keep b o e n)
 new:=λb o e=>(u.fr b o e).elim (h.new b o) λn=>.inr (n.imp (λn=>by
  cases q:C.H0 b with
  |none=>rfl
  |some o'=>
   by_cases hi:C.io b
   ·exact absurd n (h.ios b hi).1
   ·rw[h.keep b o' q hi] at n;cases n) id)
 ios:=λb hb=>⟨λn=>(h.ios b hb).1 (u.hh.free n),(h.ios b hb).2⟩
theorem RB.yK(h:RB C F H){b:Addr}(n:H b=none):C.H0 b=none:=by
 cases q:C.H0 b with
 |none=>rfl
 |some o'=>
  by_cases hi:C.io b
  ·exact absurd n (h.ios b hi).1
  ·rw[h.keep b o' q hi] at n;cases n
theorem RE.up(h:RE K C F H σ ρ)(u:Up F H F' H'):RE K C F' H' σ ρ where
 rb:=h.rb.up u
 len:=h.len
 sh:=λi p e=>let⟨v,e1,e2⟩:=h.sh i p e;⟨v,e1,e2.up u.ff⟩
 ow:=λi p e=>by
  obtain⟨a,e1,e2,e3,e4⟩:=h.ow i p e;refine⟨a,e1,e2.up u.ff λo q=>u.hh _ _ q,?_,e4⟩;cases q:F' a with
  |none=>rfl
  |some o=>
   obtain⟨o',eo⟩:=e2.ne;rcases u.fr a o q with z|z|⟨ys,z⟩
   ·rw[e3] at z;cases z
   ·rw[eo] at z;cases z
   ·subst z;exact absurd (u.fh _ _ q) (λw=>by rw[u.hh _ _ eo] at w;cases w;exact e2.HF eo)
 dis:=h.dis
 dd:=let⟨P,d⟩:=h.dd;⟨P,d.up u⟩
theorem get_set{α:Type}{l:List α}{i j:Nat}{x y:α}(h:(l.set i x)[j]?=some y):(i=j/\x=y)\/(i≠j/\l[j]?=some y):=by
 rw[List.getElem?_set] at h;by_cases e:i=j
 ·subst e;rw[Zao rfl] at h;split at h
  ·exact .inl ⟨rfl,Zaa h⟩
  ·cases h
 ·rw[Zal e] at h;exact .inr ⟨e,h⟩
theorem cY{α:Type}{l:List α}{j:Nat}{y:α}(h:l[j]?=some y):j<l.length:=(Zaj.mp h).1
theorem RE.set(h:RE K C F H σ ρ)(i:Nat)(r:Rep K F v p):RE K C F H (σ.set i (some v)) (ρ.set i (some (.sh p))) where
 rb:=h.rb
 len:=by simp[h.len]
 sh:=λj q e=>by
  rcases get_set e with⟨e1,e2⟩|⟨e1,e2⟩
  ·subst e1;cases e2;have:=cY e;exact⟨v,by rw[ZaL (by rw[h.len];simpa using this)],r⟩
  ·obtain⟨w,e3,e4⟩:=h.sh j q e2;exact⟨w,by rw[Zah e1];exact e3,e4⟩
 ow:=λj q e=>by
  rcases get_set e with⟨e1,e2⟩|⟨e1,e2⟩
  ·cases e2
  ·obtain⟨w,e3,e4⟩:=h.ow j q e2;exact⟨w,by rw[Zah e1];exact e3,e4⟩
 dis:=λj k q q' a e e' f f'=>by
  rcases get_set e with⟨e1,e2⟩|⟨e1,e2⟩
  ·cases e2
  ·rcases get_set e' with⟨e1',e2'⟩|⟨e1',e2'⟩
   ·cases e2'
   ·rw[Zah e1] at f;rw[Zah e1'] at f';exact h.dis j k q q' a e2 e2' f f'
 dd:=let⟨P,d⟩:=h.dd;⟨P,d.own,d.dis,λj k q b z e f=>by
   rcases get_set e with⟨e1,e2⟩|⟨e1,e2⟩
   ·cases e2
   ·rw[Zah e1] at f;exact d.ow j k q b z e2 f,λj q e=>by
   rcases get_set e with⟨e1,e2⟩|⟨e1,e2⟩
   ·cases e2
   ·obtain⟨w,e3,e4⟩:=d.dp j q e2;exact⟨w,by rw[Zah e1];exact e3,e4⟩⟩
theorem RE.WW(h:RE K C F H σ ρ)(i:Nat)(r:Own K F H a p)(hn:F a=none)(nw:C.nw)(h0:C.H0 a=none)(ha:∀ (j:Nat) q,ρ[j]?=some (some (.ow q))->j≠i->σ[j]?≠some (some (.ref a)))(hd:∃ P,RD K C F H σ ρ P/\∀ j,¬P j a) :
  RE K C F H (σ.set i (some (.ref a))) (ρ.set i (some (.ow p))) where
 rb:=h.rb
 len:=by simp[h.len]
 sh:=λj q e=>by
  rcases get_set e with⟨e1,e2⟩|⟨e1,e2⟩
  ·cases e2
  ·obtain⟨w,e3,e4⟩:=h.sh j q e2;exact⟨w,by rw[Zah e1];exact e3,e4⟩
 ow:=λj q e=>by
  rcases get_set e with⟨e1,e2⟩|⟨e1,e2⟩
  ·subst e1;cases e2;have:=cY e;exact⟨a,by rw[ZaL (by rw[h.len];simpa using this)],r,hn,.inr ⟨nw,h0⟩⟩
  ·obtain⟨w,e3,e4⟩:=h.ow j q e2;exact⟨w,by rw[Zah e1];exact e3,e4⟩
 dis:=λj k q q' b e e' f f'=>by
  rcases get_set e with⟨e1,e2⟩|⟨e1,e2⟩
  ·rcases get_set e' with⟨e1',e2'⟩|⟨e1',e2'⟩
   ·exact e1.symm.trans e1'
   ·subst e1;have:=cY e;rw[ZaL (by rw[h.len];simpa using this)] at f
    cases f;rw[Zah e1'] at f';exact absurd f' (ha k q' e2' (Za6 e1'))
  ·rcases get_set e' with⟨e1',e2'⟩|⟨e1',e2'⟩
   ·subst e1';have:=cY e';rw[ZaL (by rw[h.len];simpa using this)] at f'
    cases f';rw[Zah e1] at f;exact absurd f (ha j q e2 (Za6 e1))
   ·rw[Zah e1] at f;rw[Zah e1'] at f';exact h.dis j k q q' b e2 e2' f f'
 dd:=let⟨P,d,na⟩:=hd;⟨P,d.own,d.dis,λj k q b z e f=>by
   rcases get_set e with⟨e1,e2⟩|⟨e1,e2⟩
   ·subst e1;have:=cY e;rw[ZaL (by rw[h.len];simpa using this)] at f
    cases f;exact na j z
   ·rw[Zah e1] at f;exact d.ow j k q b z e2 f,λj q e=>by
   rcases get_set e with⟨e1,e2⟩|⟨e1,e2⟩
   ·cases e2
   ·obtain⟨w,e3,e4⟩:=d.dp j q e2;exact⟨w,by rw[Zah e1];exact e3,e4⟩⟩
theorem RE.Ua(h:RE K C F H σ ρ)(n:H a=none)(u:Up F H F' H'):∃ P,RD K C F' H' σ ρ P/\∀ j,¬P j a:=by
 obtain⟨P,d⟩:=h.dd;exact⟨P,d.up u,λj z=>by obtain⟨_,⟨o,e,_⟩,_⟩:=d.own j a z;rw[n] at e;cases e⟩
theorem RE.apart(h:RE K C F H σ ρ)(n:H a=none)(j:Nat)(q:PV)(e:ρ[j]?=some (some (.ow q))):σ[j]?≠some (some (.ref a)):=λf=>by
 obtain⟨b,e1,e2,_⟩:=h.ow j q e;rw[e1] at f;cases f;obtain⟨o,eo⟩:=e2.ne;rw[eo] at n;cases n
theorem RE.write(h:RE K C F H σ ρ){i:Nat}{o:HO}{p':PV}(e:ρ[i]?=some (some (.ow p)))(ea:σ[i]?=some (some (.ref a)))(r:Own K F (upd H a o) a p') :
  RE K C F (upd H a o) σ (ρ.set i (some (.ow p'))):=by
 obtain⟨a',e1,e2,e3,e4⟩:=h.ow i p e;rw[ea] at e1;cases e1;have ne:∀ b u,F b=some u->b≠a:=λb u q z=>by rw[z,e3] at q;cases q
 refine⟨⟨λb u q=>by rw[aQ (ne b u q)];exact h.rb.sub b u q,λb u q n=>?_,h.rb.new,λb hb=>⟨?_,(h.rb.ios b hb).2⟩⟩,by simp[h.len],λj q f=>?_,λj q f=>?_,λj k q q' b f f' g g'=>?_,?_⟩
 ·have:b≠a:=λz=>by
   subst z;rcases e4 with z|z
   ·exact n z
   ·rw[z.2] at q;cases q
  rw[aQ this];exact h.rb.keep b u q n
 ·by_cases hba:b=a
  ·subst hba;rw[aX];simp
  ·rw[aQ hba];exact(h.rb.ios b hb).1
 ·rcases get_set f with⟨e1,f2⟩|⟨e1,f2⟩
  ·cases f2
  ·exact h.sh j q f2
 ·rcases get_set f with⟨e1,f2⟩|⟨e1,f2⟩
  ·subst e1;cases f2;exact⟨a,ea,r,e3,e4⟩
  ·obtain⟨b,g1,g2,g3,g4⟩:=h.ow j q f2;refine⟨b,g1,g2.up (bf.refl _) λu qq=>?_,g3,g4⟩;have:b≠a:=λz=>by subst z;exact e1 (h.dis i j p q b e f2 ea g1)
   rw[aQ this];exact qq
 ·have key:∀ (j:Nat) q,(ρ.set i (some (Sl.ow p')))[j]?=some (some (.ow q))->∃ q0,ρ[j]?=some (some (.ow q0)):=λj q f=>by
   rcases get_set f with⟨e1,f2⟩|⟨e1,f2⟩
   ·subst e1;exact⟨p,e⟩
   ·exact⟨q,f2⟩
  obtain⟨q0,k0⟩:=key j q f;obtain⟨q1,k1⟩:=key k q' f';exact h.dis j k q0 q1 b k0 k1 g g'
 ·obtain⟨P,d⟩:=h.dd;have na:∀ j b,P j b->b≠a:=λj b z e'=>by subst e';exact d.ow j i p b z e ea
  refine⟨P,λj b z=>?_,d.dis,λj k q b z f g=>?_,λj q f=>?_⟩
  ·rw[aQ (na j b z)];exact d.own j b z
  ·rcases get_set f with⟨f1,f2⟩|⟨f1,f2⟩
   ·subst f1;exact d.ow j i p b z e g
   ·exact d.ow j k q b z f2 g
  ·rcases get_set f with⟨f1,f2⟩|⟨f1,f2⟩
   ·cases f2
   ·obtain⟨w,e3,e5⟩:=d.dp j q f2;exact⟨w,e3,e5.up (bf.refl _) (λb o z q=>by rw[aQ (na j b z)];exact q) λb ys q=>by rw[aQ λz=>by subst z;exact e2.HF q];exact q⟩
theorem RE.frz(h:RE K C F H σ ρ){i:Nat}(e:ρ[i]?=some (some (.ow p)))(hio:∀ a,σ[i]?=some (some (.ref a))->¬C.io a):∃ F',bf F F'/\RE K C F' H σ (ρ.set i (some (.sh p))):=by
 obtain⟨a,e1,e2,e3,e4⟩:=h.ow i p e;obtain⟨o,eo,r⟩:=e2.frozen e3;have h0:C.H0 a=none:=(e4.resolve_left (hio a e1)).2;have sf:bf F (upd F a o):=gf e3;have li:=cY e;refine⟨upd F a o,sf,⟨⟨λb u q=>?_,h.rb.keep,λb u q=>?_,h.rb.ios⟩,by simp[h.len],λj q f=>?_,λj q f=>?_,λj k q q' b f f' g g'=>?_,?_⟩⟩
 ·by_cases hb:b=a
  ·subst hb;rw[aX] at q;cases q;exact eo
  ·rw[aQ hb] at q;exact h.rb.sub b u q
 ·by_cases hb:b=a
  ·subst hb;exact .inr (.inl h0)
  ·rw[aQ hb] at q;exact h.rb.new b u q
 ·rcases get_set f with⟨f1,f2⟩|⟨f1,f2⟩
  ·subst f1;cases f2;exact⟨_,e1,r⟩
  ·obtain⟨v,g1,g2⟩:=h.sh j q f2;exact⟨v,g1,g2.up sf⟩
 ·rcases get_set f with⟨f1,f2⟩|⟨f1,f2⟩
  ·cases f2
  ·obtain⟨b,g1,g2,g3,g4⟩:=h.ow j q f2;refine⟨b,g1,g2.up sf λ_ z=>z,?_,g4⟩;have:b≠a:=λz=>by subst z;exact f1 (h.dis i j p q b e f2 e1 g1)
   rw[aQ this];exact g3
 ·rcases get_set f with⟨f1,f2⟩|⟨f1,f2⟩
  ·cases f2
  ·rcases get_set f' with⟨f1',f2'⟩|⟨f1',f2'⟩
   ·cases f2'
   ·exact h.dis j k q q' b f2 f2' g g'
 ·obtain⟨P,d⟩:=h.dd;have na:∀ j b,P j b->b≠a:=λj b z e'=>by subst e';exact d.ow j i p b z e e1
  refine⟨P,λj b z=>?_,d.dis,λj k q b z f g=>?_,λj q f=>?_⟩
  ·rw[aQ (na j b z)];exact d.own j b z
  ·rcases get_set f with⟨f1,f2⟩|⟨f1,f2⟩
   ·cases f2
   ·exact d.ow j k q b z f2 g
  ·rcases get_set f with⟨f1,f2⟩|⟨f1,f2⟩
   ·cases f2
   ·obtain⟨w,e3,e5⟩:=d.dp j q f2;exact⟨w,e3,e5.up sf (λ_ _ _ q=>q) λ_ _ q=>q⟩
end
structure Cg extends Cf where
 XR:Hp->Value->Option Addr->PV->Prop
def PX(C:Cg)(F:Hp)(z:PV):Prop:=∀ e d F' H',bf F F'->RB C.toCf F' H'->C.XR F' e d z->C.E e d H'
def Pr{α:Type}(C:Cg)(F:Hp)(ok:α->Prop):Res α->Prop
 |.ok a=>ok a
 |.ex z=>PX C F z
noncomputable abbrev Rel(α:Type):=Hp->Hp->V->α->Prop
def aF(K:PySem.W.Frag):Rel PV:=λF _ v p=>Rep K F v p
def aH(K:PySem.W.Frag):Rel PV:=λ_ H v p=>Rep K H v p
def aV(K:PySem.W.Frag):Rel (List PV):=λF H v l=>∃ a xs,v=.ref a/\SqL K H a xs/\b8 K F xs l
def UpM{α:Type}(A:Rel α):Prop:=∀ F H F' H' v a,Up F H F' H'->A F H v a->A F' H' v a
theorem aF.up{K:PySem.W.Frag}:UpM (aF K):=λ_ _ _ _ _ _ u h=>Rep.up h u.ff
theorem aH.up{K:PySem.W.Frag}:UpM (aH K):=λ_ _ _ _ _ _ u h=>Rep.up h u.hh
theorem aV.up{K:PySem.W.Frag}:UpM (aV K):=λ_ _ _ _ _ _ u h=>let⟨a,xs,e,s,r⟩:=h;⟨a,xs,e,u.hh.seq s,r.up u.ff⟩
noncomputable abbrev Fn(α:Type):=Rho->Option (Res α)
def MJ{α:Type}(K:PySem.W.Frag)(C:Cg)(A:Rel α)(te:TE)(f:Fn α):Prop:=
 ∀ F H σ ρ Q r,RE K C.toCf F H σ ρ->f ρ=some r->Pr C F (λa=>∀ v F' H',Up F H F' H'->A F' H' v a->Q v H') r->te σ H Q
def MT(K:PySem.W.Frag)(C:Cg)(tt:TT)(f:Fn Bool):Prop:=
 ∀ F H σ ρ Q r,RE K C.toCf F H σ ρ->f ρ=some r->Pr C F (λb=>∀ F' H',Up F H F' H'->Q b H') r->tt σ H Q
def MA(K:PySem.W.Frag)(C:Cg)(ta:TA)(f:Fn (List PV)):Prop:=
 ∀ F H σ ρ Q r,RE K C.toCf F H σ ρ->f ρ=some r->Pr C F (λl=>∀ xs F' H',Up F H F' H'->b8 K F' xs l->Q xs H') r->ta σ H Q
def MAL(K:PySem.W.Frag)(C:Cg)(ta:TA)(f:Fn (List PV)):Prop:=
 ∀ F H σ ρ Q r,RE K C.toCf F H σ ρ->f ρ=some r->Pr C F (λl=>∀ xs F' H',Up F H F' H'->b8 K H' xs l->Q xs H') r->ta σ H Q
def MO(K:PySem.W.Frag)(C:Cg)(te:TE)(f:Fn PV):Prop:=
 ∀ F H σ ρ Q r,RE K C.toCf F H σ ρ->f ρ=some r->Pr C F (λp=>∀ a F' H',Up F H F' H'->H a=none->F' a=none->Own K F' H' a p->Q (.ref a) H') r->te σ H Q
theorem cV{α β:Type}{x:Option (Res α)}{k:α->Option (Res β)}{r:Res β}(h:bnd x k=some r):(∃ z,x=some (.ex z)/\r=.ex z)\/∃ a,x=some (.ok a)/\k a=some r:=by
 match x,h with
 |some (.ok a),h=>exact .inr ⟨a,rfl,h⟩
 |some (.ex z),h=>exact .inl ⟨z,rfl,(Zaa h).symm⟩
theorem PX.up{C:Cg}{F F1:Hp}{z:PV}(h:PX C F z)(s:bf F F1):PX C F1 z:=λe d F' H' a b c=>h e d F' H' (s.trans a) b c
theorem Pr.mono{α:Type}{C:Cg}{F F1:Hp}{ok ok':α->Prop}{r:Res α}(h:Pr C F ok r)(s:bf F F1)(k:∀ a,ok a->ok' a):Pr C F1 ok' r:=by
 cases r with
 |ok a=>exact k a h
 |ex z=>exact PX.up h s
section
variable{K:PySem.W.Frag}{C:Cg}{α β γ:Type}{A:Rel α}{B:Rel β}{D:Rel γ}{ta tb:TE}{f:Fn α}{g:Fn β}{F H:Hp}{σ:St}{ρ:Rho}{Q:VK}
theorem MJ.run{ok:β->Prop}{k:α->Option (Res β)}{r:Res β}(h:MJ K C A ta f)(R:RE K C.toCf F H σ ρ)(hb:bnd (f ρ) k=some r)(P:Pr C F ok r)
  (go:∀ p v F1 H1,k p=some r->Up F H F1 H1->A F1 H1 v p->Q v H1):ta σ H Q:=by
 rcases cV hb with⟨z,e,rfl⟩|⟨p,e,hk⟩
 ·exact h F H σ ρ Q _ R e P
 ·exact h F H σ ρ Q _ R e λv F1 H1 u a=>go p v F1 H1 hk u a
theorem MT.run{tt:TT}{f:Fn Bool}{Q:Bool->Hp->Prop}{ok:β->Prop}{k:Bool->Option (Res β)}{r:Res β}(h:MT K C tt f)(R:RE K C.toCf F H σ ρ)(hb:bnd (f ρ) k=some r)(P:Pr C F ok r)
  (go:∀ b F1 H1,k b=some r->Up F H F1 H1->Q b H1):tt σ H Q:=by
 rcases cV hb with⟨z,e,rfl⟩|⟨p,e,hk⟩
 ·exact h F H σ ρ Q _ R e P
 ·exact h F H σ ρ Q _ R e λF1 H1 u=>go p F1 H1 hk u
theorem MA.run{t:TA}{f:Fn (List PV)}{Q:List V->Hp->Prop}{ok:β->Prop}{k:List PV->Option (Res β)}{r:Res β}(h:MA K C t f)(R:RE K C.toCf F H σ ρ)(hb:bnd (f ρ) k=some r)(P:Pr C F ok r)
  (go:∀ l xs F1 H1,k l=some r->Up F H F1 H1->b8 K F1 xs l->Q xs H1):t σ H Q:=by
 rcases cV hb with⟨z,e,rfl⟩|⟨p,e,hk⟩
 ·exact h F H σ ρ Q _ R e P
 ·exact h F H σ ρ Q _ R e λxs F1 H1 u a=>go p xs F1 H1 hk u a
theorem MAL.run{t:TA}{f:Fn (List PV)}{Q:List V->Hp->Prop}{ok:β->Prop}{k:List PV->Option (Res β)}{r:Res β}(h:MAL K C t f)(R:RE K C.toCf F H σ ρ)(hb:bnd (f ρ) k=some r)(P:Pr C F ok r)
  (go:∀ l xs F1 H1,k l=some r->Up F H F1 H1->b8 K H1 xs l->Q xs H1):t σ H Q:=by
 rcases cV hb with⟨z,e,rfl⟩|⟨p,e,hk⟩
 ·exact h F H σ ρ Q _ R e P
 ·exact h F H σ ρ Q _ R e λxs F1 H1 u a=>go p xs F1 H1 hk u a
theorem MO.run{f:Fn PV}{ok:β->Prop}{k:PV->Option (Res β)}{r:Res β}(h:MO K C ta f)(R:RE K C.toCf F H σ ρ)(hb:bnd (f ρ) k=some r)(P:Pr C F ok r)
  (go:∀ p a F1 H1,k p=some r->Up F H F1 H1->H a=none->F1 a=none->Own K F1 H1 a p->Q (.ref a) H1):ta σ H Q:=by
 rcases cV hb with⟨z,e,rfl⟩|⟨p,e,hk⟩
 ·exact h F H σ ρ Q _ R e P
 ·exact h F H σ ρ Q _ R e λa F1 H1 u h1 h2 h3=>go p a F1 H1 hk u h1 h2 h3
theorem Pr.later{D:Rel γ}{r:Res γ}{F1 H1:Hp}(P:Pr C F (λa=>∀ v F' H',Up F H F' H'->D F' H' v a->Q v H') r)(u:Up F H F1 H1):Pr C F1 (λa=>∀ v F' H',Up F1 H1 F' H'->D F' H' v a->Q v H') r:=
 P.mono u.ff λ_ h v F' H' u' d=>h v F' H' (u.trans u') d
theorem Pr.Lr{Q:Bool->Hp->Prop}{r:Res Bool}{F1 H1:Hp}(P:Pr C F (λb=>∀ F' H',Up F H F' H'->Q b H') r)(u:Up F H F1 H1):Pr C F1 (λb=>∀ F' H',Up F1 H1 F' H'->Q b H') r:=
 P.mono u.ff λ_ h F' H' u'=>h F' H' (u.trans u')
theorem Pr.oA{r:Res PV}{F1 H1:Hp}(P:Pr C F (λp=>∀ a F' H',Up F H F' H'->H a=none->F' a=none->Own K F' H' a p->Q (.ref a) H') r)(u:Up F H F1 H1) :
  Pr C F1 (λp=>∀ a F' H',Up F1 H1 F' H'->H1 a=none->F' a=none->Own K F' H' a p->Q (.ref a) H') r:=
 P.mono u.ff λ_ h a F' H' u' n1 n2 d=>h a F' H' (u.trans u') (u.hh.free n1) n2 d
theorem Pr.Ub{Q:List V->Hp->Prop}{r:Res (List PV)}{F1 H1:Hp}(P:Pr C F (λl=>∀ xs F' H',Up F H F' H'->b8 K F' xs l->Q xs H') r)(u:Up F H F1 H1):Pr C F1 (λl=>∀ xs F' H',Up F1 H1 F' H'->b8 K F' xs l->Q xs H') r:=
 P.mono u.ff λ_ h xs F' H' u' d=>h xs F' H' (u.trans u') d
theorem Pr.Uc{Q:List V->Hp->Prop}{r:Res (List PV)}{F1 H1:Hp}(P:Pr C F (λl=>∀ xs F' H',Up F H F' H'->b8 K H' xs l->Q xs H') r)(u:Up F H F1 H1):Pr C F1 (λl=>∀ xs F' H',Up F1 H1 F' H'->b8 K H' xs l->Q xs H') r:=
 P.mono u.ff λ_ h xs F' H' u' d=>h xs F' H' (u.trans u') d
def mV(i:Nat):Fn PV:=λρ=>match ρ[i]? with
 |some (some (.sh p))=>some (.ok p)
 |_=>none
theorem ao(i:Nat):MJ K C (aF K) (tM i) (mV i):=by
 intro F H σ ρ Q r R e P;unfold mV at e;split at e
 ·rename_i p hp;cases e;obtain⟨v,e1,e2⟩:=R.sh i p hp;exact⟨v,e1,P v F H (Up.refl R.rb.sub) e2⟩
 ·cases e
def mVL(i:Nat):Fn PV:=λρ=>match ρ[i]? with
 |some (some (.sh p))=>some (.ok p)
 |some (some (.ow p))=>some (.ok p)
 |_=>none
theorem bA(i:Nat):MJ K C (aH K) (tM i) (mVL i):=by
 intro F H σ ρ Q r R e P;unfold mVL at e;split at e
 ·rename_i p hp;cases e;obtain⟨v,e1,e2⟩:=R.sh i p hp;exact⟨v,e1,P v F H (Up.refl R.rb.sub) (e2.up R.rb.sub)⟩
 ·rename_i p hp;cases e;obtain⟨a,e1,e2,e3,_⟩:=R.ow i p hp;exact⟨_,e1,P _ F H (Up.refl R.rb.sub) (e2.lent R.rb.sub)⟩
 ·cases e
def vd:PV->Option (Res (List PV))
 |.lst l=>some (.ok l)
 |_=>none
theorem Qa{f:Fn PV}(h:MJ K C (aF K) ta f):MJ K C (aV K) ta (λρ=>bnd (f ρ) vd):=by
 intro F H σ ρ Q r R e P;refine h.run R e P λp v F1 H1 hk u a=>?_
 match p,hk with
 |.lst l,hk=>
  cases hk;obtain⟨b,xs,rfl,s,rr⟩:=Rep.d7 a;exact P _ F1 H1 u ⟨b,xs,rfl,u.fh.seq s,rr⟩
theorem dO(i:Nat):MJ K C (aV K) (tM i) (λρ=>bnd (mVL i ρ) vd):=by
 intro F H σ ρ Q r R e P;rcases cV e with⟨z,e1,rfl⟩|⟨p,e1,hk⟩
 ·unfold mVL at e1;split at e1<;>cases e1
 ·unfold mVL at e1
  match p,hk with
  |.lst l,hk=>
   cases hk;split at e1
   ·rename_i q hq;cases e1;obtain⟨v,e2,e3⟩:=R.sh i _ hq;obtain⟨b,xs,rfl,s,rr⟩:=Rep.d7 e3;exact⟨_,e2,P _ F H (Up.refl R.rb.sub) ⟨b,xs,rfl,R.rb.sub.seq s,rr⟩⟩
   ·rename_i q hq;cases e1;obtain⟨a,e2,⟨xs,e3,rr⟩,_⟩:=R.ow i _ hq;exact⟨_,e2,P _ F H (Up.refl R.rb.sub) ⟨a,xs,rfl,SqL.of e3,rr⟩⟩
   ·cases e1
theorem bj{f:Fn PV}(h:MJ K C (aF K) ta f):MJ K C (aH K) ta f:=by
 intro F H σ ρ Q r R e P;refine h F H σ ρ Q r R e ?_;exact P.mono (bf.refl _) λ_ k v F' H' u d=>k v F' H' u (Rep.up d u.fh)
def mC(p:PV):Fn PV:=λ_=>some (.ok p)
theorem Ls{v:V}{p:PV}(h:∀ F,Rep K F v p):MJ K C (aF K) (tC v) (mC p):=by
 intro F H σ ρ Q r R e P;cases e;exact P v F H (Up.refl R.rb.sub) (h F)
theorem au{i:Int}:MJ K C (aF K) (tC (.int i)) (mC (.int i)):=Ls λ_=>.int
theorem kJ{i:Bool}:MJ K C (aF K) (tC (.bl i)) (mC (.bl i)):=Ls λ_=>.bl
theorem bF{i:Str}:MJ K C (aF K) (tC (.str i)) (mC (.str i)):=Ls λ_=>.str
theorem qx:MJ K C (aF K) (tC .non) (mC .non):=Ls λ_=>.non
theorem pN{n:String}:MJ K C (aF K) (tC (.ty n)) (mC (.ty n)):=Ls λ_=>.ty
theorem cL{f:Fn PV}(h:MO K C ta f):MJ K C (aF K) ta f:=by
 intro F H σ ρ Q r R e P;refine h F H σ ρ Q r R e (P.mono (bf.refl _) λp k a F' H' u n1 n2 o=>?_);obtain⟨ob,eo,rr⟩:=o.frozen n2;refine k _ (upd F' a ob) H' ⟨u.ff.trans (gf n2),u.hh,λb x q=>?_,λb x q=>?_⟩ rr
 ·by_cases hb:b=a
  ·subst hb;exact .inr (.inl n1)
  ·rw[aQ hb] at q;exact u.fr b x q
 ·by_cases hb:b=a
  ·subst hb;rw[aX] at q;cases q;exact eo
  ·rw[aQ hb] at q;exact u.fh b x q
theorem fX{f:Fn PV}(h:MO K C ta f):MJ K C (aV K) ta (λρ=>bnd (f ρ) vd):=Qa (cL h)
def m2{α β γ:Type}(op:α->β->Option (Res γ))(f:Fn α)(g:Fn β):Fn γ:=λρ=>bnd (f ρ) λa=>bnd (g ρ) λb=>op a b
def R2M(C:Cg)(A:Rel α)(B:Rel β)(D:Rel γ)(r:R2)(op:α->β->Option (Res γ)):Prop:=
 ∀ F H x y a b res Q,bf F H->A F H x a->B F H y b->op a b=some res->Pr C F (λc=>∀ v F' H',Up F H F' H'->D F' H' v c->Q v H') res->r x y H Q
theorem aA{op:α->β->Option (Res γ)}{r2:R2}(up:UpM A)(rule:R2M C A B D r2 op)(ha:MJ K C A ta f)(hb:MJ K C B tb g):MJ K C D (tOp r2 ta tb) (m2 op f g):=by
 intro F H σ ρ Q r R e P;refine ha.run R e P λp v F1 H1 hk u a=>?_;refine hb.run (R.up u) hk (P.later u) λq w F2 H2 hk2 u2 b=>?_;exact rule F2 H2 v w p q r Q u2.fh (up _ _ _ _ _ _ u2 a) b hk2 (P.later (u.trans u2))
def R2O(K:PySem.W.Frag)(C:Cg)(A:Rel α)(B:Rel β)(r:R2)(op:α->β->Option (Res PV)):Prop:=
 ∀ F H x y a b res Q,bf F H->A F H x a->B F H y b->op a b=some res->Pr C F (λp=>∀ a F' H',Up F H F' H'->H a=none->F' a=none->Own K F' H' a p->Q (.ref a) H') res->r x y H Q
theorem HJ{op:α->β->Option (Res PV)}{r2:R2}(up:UpM A)(rule:R2O K C A B r2 op)(ha:MJ K C A ta f)(hb:MJ K C B tb g):MO K C (tOp r2 ta tb) (m2 op f g):=by
 intro F H σ ρ Q r R e P;refine ha.run R e P λp v F1 H1 hk u a=>?_;refine hb.run (R.up u) hk (P.oA u) λq w F2 H2 hk2 u2 b=>?_;exact rule F2 H2 v w p q r Q u2.fh (up _ _ _ _ _ _ u2 a) b hk2 (P.oA (u.trans u2))
def m1{α γ:Type}(op:α->Option (Res γ))(f:Fn α):Fn γ:=λρ=>bnd (f ρ) op
def wC(o1 o2:PV->PV->Option (Res PV))(f g h:Fn PV):Fn PV:=λρ=>bnd (f ρ) λa=>bnd (g ρ) λb=>bnd (o1 a b) λz=>match z with
 |.bl true=>bnd (h ρ) λc=>o2 b c
 |.bl false=>some (.ok (.bl false))
 |_=>none
theorem Cz{o1 o2:PV->PV->Option (Res PV)}{r r':R2}{tc:TE}{f g h:Fn PV}(r1:R2M C (aF K) (aF K) (aF K) r o1)(r2:R2M C (aF K) (aF K) (aF K) r' o2)(ha:MJ K C (aF K) ta f)(hb:MJ K C (aF K) tb g)(hc:MJ K C (aF K) tc h) :
  MJ K C (aF K) (K6 r r' ta tb tc) (wC o1 o2 f g h):=by
 intro F H σ ρ Q r R e P;refine ha.run R e P λp v F1 H1 hk u a=>?_;refine hb.run (R.up u) hk (P.later u) λq w F2 H2 hk2 u2 b=>?_;rcases cV hk2 with⟨z,e1,rfl⟩|⟨z,e1,hk3⟩
 ·exact r1 F2 H2 v w p q _ _ u2.fh (aF.up _ _ _ _ _ _ u2 a) b e1 (PX.up P (u.trans u2).ff)
 ·refine r1 F2 H2 v w p q _ _ u2.fh (aF.up _ _ _ _ _ _ u2 a) b e1 λvz F3 H3 u3 rz=>?_
  match z,hk3 with
  |.bl true,hk3=>
   cases Rep.gj rz;refine⟨true,rfl,?_⟩;rw[Zao rfl];have u13:=u.trans (u2.trans u3);refine hc.run (R.up u13) hk3 (P.later u13) λc wc F4 H4 hk4 u4 rc=>?_;exact r2 F4 H4 w wc q c _ Q u4.fh (Rep.up b (u3.trans u4).ff) rc hk4 (P.later (u13.trans u4))
  |.bl false,hk3=>
   cases Rep.gj rz;cases hk3;refine⟨false,rfl,?_⟩;rw[Zal (by decide)]
   exact P _ F3 H3 (u.trans (u2.trans u3)) .bl
def nA(f g:Fn PV):Fn PV:=λρ=>bnd (f ρ) λa=>match a with
 |.bl true=>g ρ
 |.bl false=>some (.ok (.bl false))
 |_=>none
def Qc(f g:Fn PV):Fn PV:=λρ=>bnd (f ρ) λa=>match a with
 |.bl true=>some (.ok (.bl true))
 |.bl false=>g ρ
 |_=>none
def CG:PV->Option (Res PV)
 |.bl b=>some (.ok (.bl (!b)))
 |_=>none
theorem mQ{f g:Fn PV}(ha:MJ K C (aF K) ta f)(hb:MJ K C (aF K) tb g):MJ K C (aF K) (RN ta tb) (nA f g):=by
 intro F H σ ρ Q r R e P;refine ha.run R e P λp v F1 H1 hk u a=>?_
 match p,hk with
 |.bl true,hk=>
  cases Rep.gj a;refine⟨true,rfl,?_⟩;rw[Zao rfl];exact hb F1 H1 σ ρ Q r (R.up u) hk (P.later u)
 |.bl false,hk=>
  cases Rep.gj a;cases hk;refine⟨false,rfl,?_⟩;rw[Zal (by decide)]
  exact P _ F1 H1 u .bl
theorem V5{f g:Fn PV}(ha:MJ K C (aF K) ta f)(hb:MJ K C (aF K) tb g):MJ K C (aF K) (Vr ta tb) (Qc f g):=by
 intro F H σ ρ Q r R e P;refine ha.run R e P λp v F1 H1 hk u a=>?_
 match p,hk with
 |.bl true,hk=>
  cases Rep.gj a;cases hk;refine⟨true,rfl,?_⟩;rw[Zao rfl];exact P _ F1 H1 u .bl
 |.bl false,hk=>
  cases Rep.gj a;refine⟨false,rfl,?_⟩;rw[Zal (by decide)]
  exact hb F1 H1 σ ρ Q r (R.up u) hk (P.later u)
theorem FW{f:Fn PV}(ha:MJ K C (aF K) ta f):MJ K C (aF K) (RP ta) (m1 CG f):=by
 intro F H σ ρ Q r R e P;refine ha.run R e P λp v F1 H1 hk u a=>?_
 match p,hk with
 |.bl b,hk=>
  cases Rep.gj a;cases hk;exact⟨b,rfl,P _ F1 H1 u .bl⟩
def cU:PV->Option (Res Bool)
 |.bl b=>some (.ok b)
 |_=>none
theorem bI{f:Fn PV}(ha:MJ K C (aF K) ta f):MT K C (RX ta) (m1 cU f):=by
 intro F H σ ρ Q r R e P;refine ha.run R e P λp v F1 H1 hk u a=>?_
 match p,hk with
 |.bl b,hk=>
  cases Rep.gj a;cases hk;exact⟨b,rfl,P F1 H1 u⟩
theorem eX{f:Fn PV}(ha:MJ K C (aF K) ta f):MT K C (tB ta) (m1 cU f):=bI ha
def zT(f g:Fn Bool):Fn Bool:=λρ=>bnd (f ρ) λa=>if a=true then g ρ else some (.ok false)
def mOr(f g:Fn Bool):Fn Bool:=λρ=>bnd (f ρ) λa=>if a=true then some (.ok true) else g ρ
def oE(f:Fn Bool):Fn Bool:=λρ=>bnd (f ρ) λa=>some (.ok (!a))
variable{c d:TT}{fc gc:Fn Bool}
theorem uP(ha:MT K C c fc)(hb:MT K C d gc):MT K C (Vp c d) (zT fc gc):=by
 intro F H σ ρ Q r R e P;refine ha.run R e P λb F1 H1 hk u=>?_;cases b with
 |true=>rw[Zao rfl] at hk ⊢;exact hb F1 H1 σ ρ Q r (R.up u) hk (P.Lr u)
 |false=>rw[Zal (by decide)] at hk ⊢;cases hk;exact P F1 H1 u
theorem nC(ha:MT K C c fc)(hb:MT K C d gc):MT K C (tOr c d) (mOr fc gc):=by
 intro F H σ ρ Q r R e P;refine ha.run R e P λb F1 H1 hk u=>?_;cases b with
 |true=>rw[Zao rfl] at hk ⊢;cases hk;exact P F1 H1 u
 |false=>rw[Zal (by decide)] at hk ⊢;exact hb F1 H1 σ ρ Q r (R.up u) hk (P.Lr u)
theorem gK(ha:MT K C c fc):MT K C (Vq c) (oE fc):=by
 intro F H σ ρ Q r R e P;refine ha.run R e P λb F1 H1 hk u=>?_;cases hk;exact P F1 H1 u
def mIf{γ:Type}(f:Fn Bool)(g h:Fn γ):Fn γ:=λρ=>bnd (f ρ) λa=>if a=true then g ρ else h ρ
theorem Sd{f g:Fn γ}(hc:MT K C c fc)(ha:MJ K C D ta f)(hb:MJ K C D tb g):MJ K C D (tIf c ta tb) (mIf fc f g):=by
 intro F H σ ρ Q r R e P;refine hc.run R e P λb F1 H1 hk u=>?_;cases b with
 |true=>rw[Zao rfl] at hk ⊢;exact ha F1 H1 σ ρ Q r (R.up u) hk (P.later u)
 |false=>rw[Zal (by decide)] at hk ⊢;exact hb F1 H1 σ ρ Q r (R.up u) hk (P.later u)
def aU:Fn (List PV):=λ_=>some (.ok [])
def az(f:Fn PV)(g:Fn (List PV)):Fn (List PV):=λρ=>bnd (f ρ) λa=>bnd (g ρ) λl=>some (.ok (a::l))
theorem aJ:MA K C ye aU:=λF H σ ρ Q r R e P=>by
 cases e;exact P [] F H (Up.refl R.rb.sub) .nil
theorem ak{f:Fn PV}{g:Fn (List PV)}{t:TA}(ha:MJ K C (aF K) ta f)(hb:MA K C t g):MA K C (lH ta t) (az f g):=by
 intro F H σ ρ Q r R e P;refine ha.run R e P λp v F1 H1 hk u a=>?_;refine hb.run (R.up u) hk (P.Ub u) λl xs F2 H2 hk2 u2 b=>?_;cases hk2;exact P _ F2 H2 (u.trans u2) (b.cons (Rep.up a u2.ff))
theorem Qd:MAL K C ye aU:=λF H σ ρ Q r R e P=>by
 cases e;exact P [] F H (Up.refl R.rb.sub) .nil
theorem wD{f:Fn PV}{g:Fn (List PV)}{t:TA}(ha:MJ K C (aH K) ta f)(hb:MAL K C t g):MAL K C (lH ta t) (az f g):=by
 intro F H σ ρ Q r R e P;refine ha.run R e P λp v F1 H1 hk u a=>?_;refine hb.run (R.up u) hk (P.Uc u) λl xs F2 H2 hk2 u2 b=>?_;cases hk2;exact P _ F2 H2 (u.trans u2) (b.cons (Rep.up a u2.hh))
theorem Up.CJ{F H:Hp}{a:Addr}{o:HO}(s:bf F H)(h:H a=none):Up F H F (upd H a o):=⟨bf.refl _,gf h,λ_ _ q=>.inl q,s.trans (gf h)⟩
theorem Up.new{F H:Hp}{a:Addr}{o:HO}(s:bf F H)(h:H a=none):Up F H (upd F a o) (upd H a o):=by
 have hf:F a=none:=s.free h;refine⟨gf hf,gf h,λb u q=>?_,λb u q=>?_⟩
 ·by_cases hb:b=a
  ·subst hb;exact .inr (.inl h)
  ·rw[aQ hb] at q;exact .inl q
 ·by_cases hb:b=a
  ·subst hb;rw[aX] at q ⊢;exact q
  ·rw[aQ hb] at q ⊢;exact s b u q
def dM(f:Fn (List PV)):Fn PV:=λρ=>bnd (f ρ) λl=>if l.length<=sizeLine then some (.ok (.tup l)) else none
def jc(f:Fn (List PV)):Fn PV:=λρ=>bnd (f ρ) λl=>if l.length<=sizeLine then some (.ok (.lst l)) else none
theorem bT{t:TA}{f:Fn (List PV)}(h:MA K C t f):MJ K C (aF K) (Tu t) (dM f):=by
 intro F H σ ρ Q r R e P;refine h.run R e P λl xs F1 H1 hk u a=>?_;split at hk
 ·rename_i hl;cases hk;refine⟨by rw[a.1];exact hl,λp hp=>?_⟩
  have un:=Up.new (o:=.tup xs) u.fh hp;exact P _ _ _ (u.trans un) (.tup aX a.1 (a.up un.ff).2)
 ·cases hk
theorem dG{t:TA}{f:Fn (List PV)}(h:MA K C t f):MO K C (VF t) (jc f):=by
 intro F H σ ρ Q r R e P;refine h.run R e P λl xs F1 H1 hk u a=>?_;split at hk
 ·rename_i hl;cases hk;refine⟨by rw[a.1];exact hl,λp hp=>?_⟩
  exact P _ _ _ (u.trans (Up.CJ u.fh hp)) (u.hh.free hp) (u.fh.free hp) ⟨xs,aX,a⟩
 ·cases hk
def spM(K:PySem.W.Frag)(XR:Hp->Value->Option Addr->PV->Prop)(m:List PV->Option (Res PV)):Sp:=λvs H Q E=>∃ ps F r,bf F H/\b8 K F vs ps/\m ps=some r/\match r with
 |.ok p=>∀ v F' H',Up F H F' H'->Rep K F' v p->Q v H'
 |.ex z=>∀ e d F' H',Up F H F' H'->XR F' e d z->E e d H'
def spO(K:PySem.W.Frag)(XR:Hp->Value->Option Addr->PV->Prop)(m:List PV->Option (Res PV)):Sp:=λvs H Q E=>∃ ps F r,bf F H/\b8 K F vs ps/\m ps=some r/\match r with
 |.ok p=>∀ a F' H',Up F H F' H'->H a=none->F' a=none->Own K F' H' a p->Q (.ref a) H'
 |.ex z=>∀ e d F' H',Up F H F' H'->XR F' e d z->E e d H'
def bJ(m:List PV->Option (Res PV))(f:Fn (List PV)):Fn PV:=λρ=>bnd (f ρ) m
theorem bV{t:TA}{f:Fn (List PV)}{m:List PV->Option (Res PV)}(h:MA K C t f):MJ K C (aF K) (pL (spM K C.XR m) [] C.E t) (bJ m f):=by
 intro F H σ ρ Q r R e P;refine h.run R e P λl xs F1 H1 hk u a=>?_;refine⟨l,F1,r,u.fh,by rw[Zav];exact a,hk,?_⟩
 cases r with
 |ok p=>exact λv F' H' u' rv=>P v F' H' (u.trans u') rv
 |ex z=>exact λe d F' H' u' x=>P e d F' H' (u.trans u').ff (R.rb.up (u.trans u')) x
theorem gV{t:TA}{f:Fn (List PV)}{m:List PV->Option (Res PV)}(h:MA K C t f):MO K C (pL (spO K C.XR m) [] C.E t) (bJ m f):=by
 intro F H σ ρ Q r R e P;refine h.run R e P λl xs F1 H1 hk u a=>?_;refine⟨l,F1,r,u.fh,by rw[Zav];exact a,hk,?_⟩
 cases r with
 |ok p=>exact λv F' H' u' n1 n2 rv=>P v F' H' (u.trans u') (u.hh.free n1) n2 rv
 |ex z=>exact λe d F' H' u' x=>P e d F' H' (u.trans u').ff (R.rb.up (u.trans u')) x
def zU(m:List PV->Option (Res PV))(f:Fn (List PV)):Fn PV:=λρ=>bnd (f ρ) λl=>match m l with
 |some (.ok p)=>if p.flat=true then some (.ok p) else none
 |_=>none
end
inductive Out where
 |nx (ρ:Rho)|rt (p:PV)|ro (p:PV)|rd (p:PV)|bk (ρ:Rho)|ct (ρ:Rho)|ex (z:PV)
noncomputable abbrev Sn:=Rho->Option Out
def PO'(K:PySem.W.Frag)(C:Cg)(F:Hp)(D:Ends):Out->Prop
 |.nx ρ=>∀ F' H' σ,bf F F'->RE K C.toCf F' H' σ ρ->D.nx σ H'
 |.bk ρ=>∀ F' H' σ,bf F F'->RE K C.toCf F' H' σ ρ->D.bk σ H'
 |.ct ρ=>∀ F' H' σ,bf F F'->RE K C.toCf F' H' σ ρ->D.ct σ H'
 |.rt p=>∀ v F' H',bf F F'->RB C.toCf F' H'->Rep K F' v p->D.rt v H'
 |.ro p=>∀ a F' H',bf F F'->RB C.toCf F' H'->Own K F' H' a p->F' a=none->C.H0 a=none->D.rt (.ref a) H'
 |.rd p=>∀ v F' H' S,bf F F'->RB C.toCf F' H'->Dp K F' H' S v p->(∀ b,S b->F' b=none/\(∃ o,H' b=some o/\∀ ys,o≠.tup ys)/\C.H0 b=none)->D.rt v H'
 |.ex z=>PX C F z
def MS(K:PySem.W.Frag)(C:Cg)(t:TS)(f:Sn):Prop:=∀ F H σ ρ D o,RE K C.toCf F H σ ρ->f ρ=some o->PO' K C F D o->t D σ H
def mR{α:Type}(x:Option (Res α))(k:α->Option Out):Option Out:=match x with
 |some (.ok a)=>k a
 |some (.ex z)=>some (.ex z)
 |none=>none
theorem Qe{α:Type}{a:α}{k:α->Option Out}:mR (some (.ok a)) k=k a:=rfl
theorem gk{α:Type}{x:Option (Res α)}{k:α->Option Out}{o:Out}(h:mR x k=some o):(∃ z,x=some (.ex z)/\o=.ex z)\/∃ a,x=some (.ok a)/\k a=some o:=by
 match x,h with
 |some (.ok a),h=>exact .inr ⟨a,rfl,h⟩
 |some (.ex z),h=>exact .inl ⟨z,rfl,(Zaa h).symm⟩
section
variable{K:PySem.W.Frag}{C:Cg}{α:Type}{A:Rel α}{ta te:TE}{F H:Hp}{σ:St}{ρ:Rho}{D:Ends}{t u:TS}{f g:Sn}{o:Out}
theorem PO'.up{F1:Hp}(h:PO' K C F D o)(s:bf F F1):PO' K C F1 D o:=by
 cases o with
 |nx ρ=>exact λF' H' σ a=>h F' H' σ (s.trans a)
 |bk ρ=>exact λF' H' σ a=>h F' H' σ (s.trans a)
 |ct ρ=>exact λF' H' σ a=>h F' H' σ (s.trans a)
 |rt p=>exact λv F' H' a=>h v F' H' (s.trans a)
 |ro p=>exact λv F' H' a=>h v F' H' (s.trans a)
 |rd p=>exact λv F' H' S a=>h v F' H' S (s.trans a)
 |ex z=>exact PX.up h s
theorem MJ.vB{fe:Fn α}{Q:VK}{k:α->Option Out}(h:MJ K C A ta fe)(R:RE K C.toCf F H σ ρ)(hb:mR (fe ρ) k=some o)(P:PO' K C F D o)
  (go:∀ p v F1 H1,k p=some o->Up F H F1 H1->A F1 H1 v p->Q v H1):ta σ H Q:=by
 rcases gk hb with⟨z,e,rfl⟩|⟨p,e,hk⟩
 ·exact h F H σ ρ Q _ R e P
 ·exact h F H σ ρ Q _ R e λv F1 H1 u a=>go p v F1 H1 hk u a
theorem MO.vB{fe:Fn PV}{Q:VK}{k:PV->Option Out}(h:MO K C ta fe)(R:RE K C.toCf F H σ ρ)(hb:mR (fe ρ) k=some o)(P:PO' K C F D o)
  (go:∀ p a F1 H1,k p=some o->Up F H F1 H1->H a=none->F1 a=none->Own K F1 H1 a p->Q (.ref a) H1):ta σ H Q:=by
 rcases gk hb with⟨z,e,rfl⟩|⟨p,e,hk⟩
 ·exact h F H σ ρ Q _ R e P
 ·exact h F H σ ρ Q _ R e λa F1 H1 u n1 n2 w=>go p a F1 H1 hk u n1 n2 w
theorem MT.vB{tt:TT}{fe:Fn Bool}{Q:Bool->Hp->Prop}{k:Bool->Option Out}(h:MT K C tt fe)(R:RE K C.toCf F H σ ρ)(hb:mR (fe ρ) k=some o)(P:PO' K C F D o)
  (go:∀ b F1 H1,k b=some o->Up F H F1 H1->Q b H1):tt σ H Q:=by
 rcases gk hb with⟨z,e,rfl⟩|⟨p,e,hk⟩
 ·exact h F H σ ρ Q _ R e P
 ·exact h F H σ ρ Q _ R e λF1 H1 u=>go p F1 H1 hk u
def dR:Sn:=λρ=>some (.nx ρ)
def bB(f g:Sn):Sn:=λρ=>match f ρ with
 |some (.nx ρ')=>g ρ'
 |x=>x
theorem cA:MS K C RQ dR:=λF H σ ρ D o R e P=>by
 cases e;exact P F H σ (bf.refl _) R
theorem aN(h1:MS K C t f)(h2:MS K C u g):MS K C (Vt t u) (bB f g):=by
 intro F H σ ρ D o R e P;unfold bB at e;split at e
 ·rename_i ρ' h;refine h1 F H σ ρ _ _ R h ?_;exact λF' H' σ' s R'=>h2 F' H' σ' ρ' D o R' e (P.up s)
 ·rename_i x hx;cases o with
  |nx ρ'=>exact absurd e (hx ρ')
  |bk ρ=>exact h1 F H σ _ _ _ R e P
  |ct ρ=>exact h1 F H σ _ _ _ R e P
  |rt p=>exact h1 F H σ _ _ _ R e P
  |ro p=>exact h1 F H σ _ _ _ R e P
  |rd p=>exact h1 F H σ _ _ _ R e P
  |ex z=>exact h1 F H σ _ _ _ R e P
def MG(K:PySem.W.Frag)(C:Cg)(g:TG)(tg:PV->Rho->Option Rho):Prop:=
 ∀ F H σ ρ v p ρ' Q,RE K C.toCf F H σ ρ->Rep K F v p->tg p ρ=some ρ'->(∀ σ',RE K C.toCf F H σ' ρ'->Q σ' H)->g v σ H Q
def MGs(K:PySem.W.Frag)(C:Cg)(g:TGs)(tg:List PV->Rho->Option Rho):Prop:=
 ∀ F H σ ρ vs ps ρ' Q,RE K C.toCf F H σ ρ->b8 K F vs ps->tg ps ρ=some ρ'->(∀ σ',RE K C.toCf F H σ' ρ'->Q σ' H)->g vs σ H Q
def gN(i:Nat):PV->Rho->Option Rho:=λp ρ=>some (ρ.set i (some (.sh p)))
theorem aL(i:Nat):MG K C (Ce i) (gN i):=λF H σ ρ v p ρ' Q R r e k=>by
 cases e;exact k _ (R.set i r)
def gsNil:List PV->Rho->Option Rho
 |[],ρ=>some ρ
 |_::_,_=>none
def gsCons(t:PV->Rho->Option Rho)(u:List PV->Rho->Option Rho):List PV->Rho->Option Rho
 |[],_=>none
 |p::l,ρ=>match t p ρ with
  |some ρ'=>u l ρ'
  |none=>none
theorem jU:MGs K C Vv gsNil:=λF H σ ρ vs ps ρ' Q R r e k=>by
 cases ps with
 |nil=>cases e;exact⟨r.jT,k σ R⟩
 |cons p l=>cases e
theorem dh{g:TG}{gs:TGs}{tg:PV->Rho->Option Rho}{tgs:List PV->Rho->Option Rho}(h:MG K C g tg)(hs:MGs K C gs tgs):MGs K C (RT g gs) (gsCons tg tgs):=λF H σ ρ vs ps ρ' Q R r e k=>by
 cases ps with
 |nil=>cases e
 |cons p l=>
  obtain⟨v,ys,rfl,r1,r2⟩:=r.gh;have e':(match tg p ρ with
   |some ρ'=>tgs l ρ'
   |none=>none)=some ρ':=e
  split at e'
  ·rename_i ρ1 h1;exact⟨v,ys,rfl,h F H σ ρ v p ρ1 _ R r1 h1 λσ' R'=>hs F H σ' ρ1 ys l ρ' Q R' r2 e' k⟩
  ·cases e'
def gT(n:Nat)(t:List PV->Rho->Option Rho):PV->Rho->Option Rho:=λp ρ=>match p with
 |.tup l=>if l.length=n then t l ρ else none
 |_=>none
theorem oF{n:Nat}{gs:TGs}{tgs:List PV->Rho->Option Rho}(hs:MGs K C gs tgs):MG K C (Tg K n gs) (gT n tgs):=λF H σ ρ v p ρ' Q R r e k=>by
 unfold gT at e;split at e
 ·rename_i l;split at e
  ·rename_i hn;obtain⟨a,xs,rfl,hq,rr⟩:=r.dF;exact⟨a,xs,rfl,R.rb.sub.tup hq,by rw[rr.1];exact hn,hs F H σ ρ xs l ρ' Q R rr e k⟩
  ·cases e
 ·cases e
def cM(fe:Fn PV)(tg:PV->Rho->Option Rho):Sn:=λρ=>mR (fe ρ) λp=>match tg p ρ with
 |some ρ'=>some (.nx ρ')
 |none=>none
theorem bz{fe:Fn PV}{gt:TG}{tg:PV->Rho->Option Rho}(h:MJ K C (aF K) te fe)(hg:MG K C gt tg):MS K C (Pg te gt) (cM fe tg):=by
 intro F H σ ρ D o R e P;refine h.vB R e P λp v F1 H1 hk u a=>?_;split at hk
 ·rename_i ρ' h1;cases hk;exact hg F1 H1 σ ρ v p ρ' _ (R.up u) a h1 λσ' R'=>P F1 H1 σ' u.ff R'
 ·cases hk
def kO(i:Nat)(fe:Fn PV):Sn:=λρ=>mR (fe ρ) λp=>some (.nx (ρ.set i (some (.ow p))))
theorem gW{i:Nat}{fe:Fn PV}(nw:C.nw)(h:MO K C te fe):MS K C (Pg te (Ce i)) (kO i fe):=by
 intro F H σ ρ D o R e P;refine h.vB R e P λp a F1 H1 hk u n1 n2 w=>?_;cases hk;exact P F1 H1 _ u.ff ((R.up u).WW i w n2 nw (R.rb.yK n1) (λj q hj _=>R.apart n1 j q hj) (R.Ua n1 u))
def yL(fe:Fn PV):Sn:=λρ=>mR (fe ρ) λ_=>some (.nx ρ)
def di(fe:Fn PV):Sn:=λρ=>mR (fe ρ) λp=>some (.rt p)
theorem bG{fe:Fn PV}(h:MJ K C (aF K) te fe):MS K C (KR te) (di fe):=by
 intro F H σ ρ D o R e P;refine h.vB R e P λp v F1 H1 hk u a=>?_;cases hk;exact P v F1 H1 u.ff (R.rb.up u) a
def wF(fe:Fn PV):Sn:=λρ=>mR (fe ρ) λp=>some (.ro p)
theorem vQ{fe:Fn PV}(h:MO K C te fe):MS K C (KR te) (wF fe):=by
 intro F H σ ρ D o R e P;refine h.vB R e P λp a F1 H1 hk u n1 n2 w=>?_;cases hk;exact P a F1 H1 u.ff (R.rb.up u) w n2 (R.rb.yK n1)
def ownAt(i:Nat)(ρ:Rho):Option PV:=match ρ[i]? with
 |some (some (.ow p))=>some p
 |_=>none
theorem dm{i:Nat}{p:PV}(h:ownAt i ρ=some p):ρ[i]?=some (some (.ow p)):=by
 unfold ownAt at h;split at h
 ·rename_i q hq;cases h;exact hq
 ·cases h
def kW(i:Nat):Sn:=λρ=>match ownAt i ρ with
 |some p=>some (.ro p)
 |none=>none
theorem nF(i:Nat)(hio:∀ a,¬C.io a):MS K C (KR (tM i)) (kW i):=by
 intro F H σ ρ D o R e P;unfold kW at e;split at e
 ·rename_i p hp;cases e;obtain⟨a,e1,e2,e3,e4⟩:=R.ow i p (dm hp);exact⟨_,e1,P a F H (bf.refl _) R.rb e2 e3 (e4.resolve_left (hio a)).2⟩
 ·cases e
def FZ(i:Nat)(ρ:Rho):Rho:=match ownAt i ρ with
 |some p=>ρ.set i (some (.sh p))
 |none=>ρ
theorem Ud(i:Nat)(hio:∀ a,¬C.io a)(h:MS K C t f):MS K C t (λρ=>f (FZ i ρ)):=by
 intro F H σ ρ D o R e P;have e:f (FZ i ρ)=some o:=e;unfold FZ at e;cases hp:ownAt i ρ with
 |none=>rw[hp] at e;exact h F H σ ρ D o R e P
 |some p=>
  rw[hp] at e;obtain⟨F',s,R'⟩:=R.frz (dm hp) λa _=>hio a;exact h F' H σ _ D o R' e (P.up s)
def oG(i:Nat)(fe:Fn PV):Sn:=λρ=>match ownAt i ρ with
 |some (.lst l)=>mR (fe ρ) λp=>if l.length<sizeLine then some (.nx (ρ.set i (some (.ow (.lst (l++[p])))))) else none
 |_=>none
theorem iB{i:Nat}{fe:Fn PV}(h:MJ K C (aF K) te fe):MS K C (Cd (tBM K "list" Hz (tM i) (lH te ye))) (oG i fe):=by
 intro F H σ ρ D o R e P;unfold oG at e;split at e
 ·rename_i l hl;obtain⟨a,g1,⟨xs,g2,g3⟩,g4,g5⟩:=R.ow i _ (dm hl);refine⟨_,g1,tyL g2,h.vB R e P λp v F1 H1 hk u w=>?_⟩;split at hk
  ·rename_i hlen;cases hk;obtain⟨a',k1,⟨ys,k2,k3⟩,k4,k5⟩:=(R.up u).ow i _ (dm hl);rw[g1] at k1;cases k1;refine⟨a,ys,v,rfl,rfl,k2,by rw[k3.1];exact hlen,?_⟩
   exact P F1 _ σ u.ff ((R.up u).write (dm hl) g1 ⟨_,aX,k3.snoc w⟩)
  ·cases hk
 ·cases e
def eZ(fc:Fn Bool)(f g:Sn):Sn:=λρ=>mR (fc ρ) λb=>if b=true then f ρ else g ρ
theorem dz{c:TT}{fc:Fn Bool}(hc:MT K C c fc)(h1:MS K C t f)(h2:MS K C u g):MS K C (Vu c t u) (eZ fc f g):=by
 intro F H σ ρ D o R e P;refine hc.vB R e P λb F1 H1 hk uu=>?_;cases b with
 |true=>rw[Zao rfl] at hk ⊢;exact h1 F1 H1 σ ρ D o (R.up uu) hk (P.up uu.ff)
 |false=>rw[Zal (by decide)] at hk ⊢;exact h2 F1 H1 σ ρ D o (R.up uu) hk (P.up uu.ff)
structure ItR(K:PySem.W.Frag)(J:It)(F:Hp)(l:List PV):Prop where
 stop:∀ F' H',bf F F'->bf F' H'->J.stop l.length H'
 go:∀ i F' H',i<l.length->bf F F'->bf F' H'->J.go i H'
 yld:∀ i F' H' x H'',i<l.length->bf F F'->bf F' H'->J.yld i H' x H''->∃ F'' p,Up F' H' F'' H''/\l[i]?=some p/\Rep K F'' x p
def MI(K:PySem.W.Frag)(C:Cg)(wi:TI)(f:Fn (List PV)):Prop:=
 ∀ F H σ ρ R' r,RE K C.toCf F H σ ρ->f ρ=some r->Pr C F (λl=>∀ J F' H',Up F H F' H'->ItR K J F' l->R' J H') r->wi σ H R'
def loop(tg:PV->Rho->Option Rho)(body:Sn):List PV->Rho->Option Out
 |[],ρ=>some (.nx ρ)
 |x::xs,ρ=>match tg x ρ with
  |none=>none
  |some ρ1=>match body ρ1 with
   |some (.nx ρ2)=>loop tg body xs ρ2
   |some (.ct ρ2)=>loop tg body xs ρ2
   |some (.bk ρ2)=>some (.nx ρ2)
   |x=>x
def lE(it:Fn (List PV))(tg:PV->Rho->Option Rho)(body:Sn):Sn:=λρ=>mR (it ρ) λl=>loop tg body l ρ
theorem JK{J:It}{gt:TG}{tg:PV->Rho->Option Rho}{l:List PV}(hg:MG K C gt tg)(hb:MS K C t f)(hJ:ItR K J F l)(R:RE K C.toCf F H σ ρ)(e:loop tg f l ρ=some o)(P:PO' K C F D o):WT J gt t D σ H:=by
 refine⟨λi m σ' H'=>∃ F' ρ',m=l.length-i/\i<=l.length/\bf F F'/\RE K C.toCf F' H' σ' ρ'/\loop tg f (l.drop i) ρ'=some o,⟨l.length,F,ρ,by simp,Zbh _,bf.refl _,R,by rw[Za7];exact e⟩,?_⟩
 rintro i m σ' H' ⟨F',ρ',rfl,hi,s,R',e'⟩;by_cases hlt:i<l.length
 ·refine .inr ⟨hJ.go i F' H' hlt s R'.rb.sub,λσ2 H2=>∃ F2 ρ2,bf F F2/\RE K C.toCf F2 H2 σ2 ρ2/\loop tg f (l.drop (i+1)) ρ2=some o,λσ2 H2 ⟨F2,ρ2,s2,R2,e2⟩=>⟨l.length-(i+1),by omega,F2,ρ2,rfl,hlt,s2,R2,e2⟩,λx H'' y=>?_⟩
  obtain⟨F'',p,u,ep,rx⟩:=hJ.yld i F' H' x H'' hlt s R'.rb.sub y;have ed:l.drop i=p::l.drop (i+1):=by
   rw[Zbd hlt];rw[Zad hlt] at ep;rw[Zaa ep]
  rw[ed,loop] at e';split at e'
  ·cases e'
  ·rename_i ρ1 h1;refine hg F'' H'' σ' ρ' x p ρ1 _ (R'.up u) rx h1 λσ1 R1=>?_;have sF:bf F F'':=s.trans u.ff;split at e'
   ·rename_i ρ2 h2;exact hb F'' H'' σ1 ρ1 _ _ R1 h2 λF3 H3 σ3 s3 R3=>⟨F3,ρ2,sF.trans s3,R3,e'⟩
   ·rename_i ρ2 h2;exact hb F'' H'' σ1 ρ1 _ _ R1 h2 λF3 H3 σ3 s3 R3=>⟨F3,ρ2,sF.trans s3,R3,e'⟩
   ·rename_i ρ2 h2;cases e';exact hb F'' H'' σ1 ρ1 _ _ R1 h2 λF3 H3 σ3 s3 R3=>P F3 H3 σ3 (sF.trans s3) R3
   ·rename_i n1 n2 n3;cases o with
    |nx ρ2=>exact absurd e' (n1 ρ2)
    |ct ρ2=>exact absurd e' (n2 ρ2)
    |bk ρ2=>exact absurd e' (n3 ρ2)
    |rt p=>exact hb F'' H'' σ1 ρ1 _ _ R1 e' (PO'.up (D:=D) P sF)
    |ro p=>exact hb F'' H'' σ1 ρ1 _ _ R1 e' (PO'.up (D:=D) P sF)
    |rd p=>exact hb F'' H'' σ1 ρ1 _ _ R1 e' (PO'.up (D:=D) P sF)
    |ex z=>exact hb F'' H'' σ1 ρ1 _ _ R1 e' (PX.up P sF)
 ·have ei:i=l.length:=by omega
  subst ei;rw[List.drop_length] at e';cases e';exact .inl ⟨hJ.stop F' H' s R'.rb.sub,P F' H' σ' s R'⟩
theorem fU{wi:TI}{it:Fn (List PV)}{gt:TG}{tg:PV->Rho->Option Rho}(hi:MI K C wi it)(hg:MG K C gt tg)(hb:MS K C t f):MS K C (Vw wi gt t) (lE it tg f):=by
 intro F H σ ρ D o R e P;rcases gk e with⟨z,e1,rfl⟩|⟨l,e1,hk⟩
 ·exact hi F H σ ρ _ _ R e1 P
 ·exact hi F H σ ρ _ _ R e1 λJ F' H' u hJ=>JK hg hb hJ (R.up u) hk (P.up u.ff)
end
def eqL(f:PV->PV->Option Bool):List PV->List PV->Option Bool
 |[],[]=>some true
 |[],_::_=>some false
 |_::_,[]=>some false
 |x::xs,y::ys=>match f x y,eqL f xs ys with
  |some a,some b=>some (a&&b)
  |_,_=>none
def eqF:Nat->PV->PV->Option Bool
 |_,.non,.non=>some true
 |_,.non,.bl _=>some false
 |_,.non,.int _=>some false
 |_,.non,.str _=>some false
 |_,.bl _,.non=>some false
 |_,.bl a,.bl b=>some (decide (a=b))
 |_,.bl _,.str _=>some false
 |_,.int _,.non=>some false
 |_,.int a,.int b=>some (decide (a=b))
 |_,.int _,.str _=>some false
 |_,.str _,.non=>some false
 |_,.str _,.bl _=>some false
 |_,.str _,.int _=>some false
 |_,.str a,.str b=>some (decide (a=b))
 |_,.non,.tup _=>some false
 |_,.tup _,.non=>some false
 |_,.non,.lst _=>some false
 |_,.lst _,.non=>some false
 |_,.int _,.tup _=>some false
 |_,.tup _,.int _=>some false
 |_,.str _,.tup _=>some false
 |_,.tup _,.str _=>some false
 |_,.int _,.lst _=>some false
 |_,.lst _,.int _=>some false
 |_,.str _,.lst _=>some false
 |_,.lst _,.str _=>some false
 |_,.lst _,.tup _=>some false
 |_,.tup _,.lst _=>some false
 |n+1,.tup l,.tup m=>eqL (eqF n) l m
 |n+1,.lst l,.lst m=>if l.length=m.length then eqL (eqF n) l m else some false
 |_,_,_=>none
theorem qy{f:PV->PV->Option Bool}(h:∀ p r,f p p=some r->r=true):∀ {l:List PV}{r:Bool},eqL f l l=some r->r=true
 |[],r,e=>by cases e;rfl
 |x::xs,r,e=>by
  rw[eqL] at e;split at e
  ·rename_i a b h1 h2;cases e;rw[h x a h1,qy h h2];rfl
  ·cases e
theorem CK:∀ (n:Nat) (p:PV) (r:Bool),eqF n p p=some r->r=true
 |n,p,r,e=>by
  induction n generalizing p r with
  |zero=>cases p<;>first|(cases (show some true=some r from e);rfl)|(cases (show some (decide _)=some r from e);exact Zaz rfl)|cases (show none=some r from e)
  |succ n ih=>
   cases p with
   |tup l=>exact qy ih e
   |lst l=>
    have e:(if l.length=l.length then eqL (eqF n) l l else some false)=some r:=e;rw[Zao rfl] at e;exact qy ih e
   |_=>first|(cases (show some true=some r from e);rfl)|(cases (show some (decide _)=some r from e);exact Zaz rfl)|cases (show none=some r from e)
theorem zV{f:PV->PV->Option Bool}:∀ {l m:List PV}{r:Bool},eqL f l m=some r->∃ e:Nat->Bool,(∀ (j:Nat) x y,l[j]?=some x->m[j]?=some y->f x y=some (e j))/\r=((List.range (min l.length m.length)).all e&&l.length==m.length)
 |[],[],r,h=>⟨λ_=>true,λj x y a=>by simp at a,by cases h;rfl⟩
 |[],_::_,r,h=>⟨λ_=>true,λj x y a=>by simp at a,by cases h;simp⟩
 |_::_,[],r,h=>⟨λ_=>true,λj x y _ a=>by simp at a,by cases h;simp⟩
 |x::xs,y::ys,r,h=>by
  rw[eqL] at h;split at h
  ·rename_i a b h1 h2;cases h;obtain⟨e,e1,e2⟩:=zV h2;refine⟨λj=>match j with|0=>a|j+1=>e j,λj x' y' a' b'=>?_,?_⟩
   ·cases j with
    |zero=>simp at a' b';subst a' b';exact h1
    |succ j=>exact e1 j x' y' (by simpa using a') (by simpa using b')
   ·rw[e2,ZaG,ZaG,Nat.succ_min_succ,List.range_succ_eq_map,List.all_cons,List.all_map];have:((xs.length+1==ys.length+1):Bool)=(xs.length==ys.length):=by
     rw[Bool.eq_iff_iff];simp
    rw[this];cases a<;>simp[Function.comp_def]
  ·cases h
section
variable{X:Cx}{pins:List (Addr×Obj)}{σ:St}{H:Hp}{s:Shared}
theorem Rep.kinds(I:Inv X pins σ H s){a:Addr}{xs ys:List V}(h1:SqL X.K H a xs)(h2:SqT X.K H a ys):False:=by
 obtain⟨_,_,p1,_⟩:=I.list h1;obtain⟨_,_,p2,_⟩:=I.tuple h2;obtain⟨o,n,e,c,_⟩:=p1;obtain⟨o',e',c',_⟩:=p2;rw[e] at e';cases e';rw[c] at c';exact absurd c' (by decide)
theorem CN{xs:List V}{l m:List PV}(h1:xs.length=l.length)(h2:xs.length=m.length)(h:∀ (j:Nat) x p q,xs[j]?=some x->l[j]?=some p->m[j]?=some q->p=q):l=m:=by
 apply List.ext_getElem?
 intro j;by_cases hj:j<xs.length
 ·have hl:j<l.length:=by lia
  have hm:j<m.length:=by lia
  rw[Zad hl,Zad hm,h j xs[j] l[j] m[j] (by simp[hj]) (by simp[hl]) (by simp[hm])]
 ·rw[ZaH (by lia),ZaH (by lia)]
def HO.isDict:HO->Bool
 |.dK _=>true
 |.dT _=>true
 |_=>false
theorem Qf{H:Hp}{a:Addr}{u v:HO}(hu:HO.isDict u=true)(hv:HO.isDict v=true)(h:Rd H a u)(h':Rd H a v):u=v:=by
 rcases h with h|⟨o,h⟩<;>rcases h' with h'|⟨o',h'⟩<;>rw[h] at h'<;>cases h'
 ·rfl
 ·cases hu
 ·cases hv
 ·rfl
theorem zW{H:Hp}{a:Addr}{u v:HO}(h:Rd H a u)(h':Rd H a v)(hu:HO.isDict u=true:=by rfl)(hv:HO.isDict v=true:=by rfl):u=v:=Qf hu hv h h'
theorem Rep.noDict(I:Inv X pins σ H s){a:Addr}{ks:List (Key×V)}{ts:List (List Key×V)}(h1:Rd H a (.dK ks)\/Rd H a (.dT ts))(h2:(∃ xs,SqL X.K H a xs)\/∃ xs,SqT X.K H a xs):False:=by
 have d:∃ o es ep,s.heap.get? a=some o/\o.data=.dict es ep:=by
  rcases h1 with h1|h1
  ·obtain⟨_,_,_,_,o,es,ep,e,x,d,_⟩:=h1.ok I.hok;exact⟨o,es,ep,e,d⟩
  ·obtain⟨_,_,_,_,o,es,ep,e,x,d,_⟩:=h1.ok I.hok;exact⟨o,es,ep,e,d⟩
 obtain⟨o,es,ep,e,d⟩:=d;rcases h2 with⟨xs,h2⟩|⟨xs,h2⟩
 ·obtain⟨_,_,p1,_⟩:=I.list h2;obtain⟨o',n,e',_,_,d'⟩:=p1;rw[e] at e';cases e';rw[d] at d';cases d'
 ·obtain⟨_,_,p1,_⟩:=I.tuple h2;obtain⟨o',e',_,n,d'⟩:=p1;rw[e] at e';cases e';rw[d] at d';cases d'
theorem XO.at(I:Inv X pins σ H s){a C:Addr}{d:Option Addr}(h:H a=some (XO a C d)):∃ vs:Array Value,s.heap.get? a=some { cls:=.ref C,dict:=d,data:=.fields vs }:=(I.hok _ _ h).1
theorem XO.inj(I:Inv X pins σ H s){a C C':Addr}{d d':Option Addr}(h:H a=some (XO a C d))(h':H a=some (XO a C' d')):C=C'/\d=d':=by
 obtain⟨vs,e⟩:=XO.at I h;obtain⟨vs',e'⟩:=XO.at I h';rw[e] at e';cases e';exact⟨rfl,rfl⟩
theorem XO.noSeq(I:Inv X pins σ H s){a C:Addr}{d:Option Addr}(h:H a=some (XO a C d))(h2:(∃ xs,SqL X.K H a xs)\/∃ xs,SqT X.K H a xs):False:=by
 obtain⟨vs,e⟩:=XO.at I h;rcases h2 with⟨xs,h2⟩|⟨xs,h2⟩
 ·obtain⟨_,_,p1,_⟩:=I.list h2;obtain⟨o',n,e',_,_,d'⟩:=p1;rw[e] at e';cases e';cases d'
 ·obtain⟨_,_,p1,_⟩:=I.tuple h2;obtain⟨o',e',_,n,d'⟩:=p1;rw[e] at e';cases e';cases d'
theorem XNm.inj{K:PySem.W.Frag}{C:Addr}{c c':Str}(a:XNm K C c)(b:XNm K C c'):c=c':=by
 obtain⟨cd,h1,h2⟩:=a.cl;obtain⟨cd',h1',h2'⟩:=b.cl;rw[h1] at h1';cases h1';exact h2.symm.trans h2'
theorem Rep.inj(I:Inv X pins σ H s){x:V}{p:PV}(h:Rep X.K H x p):∀ {q:PV},Rep X.K H x q->p=q:=by
 have pairs:∀ {κ:Type}{xs:List (κ×V)}{l m:List (κ×PV)},xs.map (·.1)=l.map (·.1)->xs.map (·.1)=m.map (·.1)->(∀ (j:Nat) x p q,xs[j]?=some x->l[j]?=some p->m[j]?=some q->p.2=q.2)->l=m:=by
  intro κ xs l m h1 h2 h3;have l1:xs.length=l.length:=by simpa using congrArg List.length h1
  have l2:xs.length=m.length:=by simpa using congrArg List.length h2
  apply List.ext_getElem?
  intro j;by_cases hj:j<xs.length
  ·have hl:j<l.length:=by lia
   have hm:j<m.length:=by lia
   rw[Zad hl,Zad hm];have k:=congrArg (·[j]?) (h1.symm.trans h2);simp[hl,hm] at k;have v:=h3 j xs[j] l[j] m[j] (by simp[hj]) (by simp[hl]) (by simp[hm])
   rw[Prod.ext k v]
  ·rw[ZaH (by lia),ZaH (by lia)]
 induction h with
 |non=>intro q h';cases h';rfl
 |bl=>intro q h';cases h';rfl
 |int=>intro q h';cases h';rfl
 |str=>intro q h';cases h';rfl
 |ty=>intro q h';cases h';rfl
 |@tup a xs l h hl _ ih=>
  intro q h';have h:=SqT.of (K:=X.K) h;cases h' with
  |tup h2 hl2 hr2=>
   cases I.yw h (SqT.of (K:=X.K) h2);rw[CN hl hl2 λj x p q e1 e2 e3=>ih j x p e1 e2 (hr2 j x q e1 e3)]
  |lst h2=>exact(Rep.kinds I h2 h).elim
  |dk h2=>exact(Rep.noDict I (ts:=[]) (.inl h2) (.inr ⟨_,h⟩)).elim
  |dt h2=>exact(Rep.noDict I (ks:=[]) (.inr h2) (.inr ⟨_,h⟩)).elim
  |exc _ h2=>exact(XO.noSeq I h2 (.inr ⟨_,h⟩)).elim
  |exc0 _ h2=>exact(XO.noSeq I h2 (.inr ⟨_,h⟩)).elim
 |@lst a xs l h hl _ ih=>
  intro q h';cases h' with
  |tup h2=>exact(Rep.kinds I h (SqT.of h2)).elim
  |lst h2 hl2 hr2=>
   cases I.wj h h2;rw[CN hl hl2 λj x p q e1 e2 e3=>ih j x p e1 e2 (hr2 j x q e1 e3)]
  |dk h2=>exact(Rep.noDict I (ts:=[]) (.inl h2) (.inl ⟨_,h⟩)).elim
  |dt h2=>exact(Rep.noDict I (ks:=[]) (.inr h2) (.inl ⟨_,h⟩)).elim
  |exc _ h2=>exact(XO.noSeq I h2 (.inl ⟨_,h⟩)).elim
  |exc0 _ h2=>exact(XO.noSeq I h2 (.inl ⟨_,h⟩)).elim
 |@dk a xs l h hl _ ih=>
  intro q h';cases h' with
  |tup h2=>exact(Rep.noDict I (ts:=[]) (.inl h) (.inr ⟨_,SqT.of h2⟩)).elim
  |lst h2=>exact(Rep.noDict I (ts:=[]) (.inl h) (.inl ⟨_,h2⟩)).elim
  |dk h2 hl2 hr2=>
   cases (zW h h2);rw[pairs hl hl2 λj x p q e1 e2 e3=>ih j x p e1 e2 (hr2 j x q e1 e3)]
  |dt h2=>cases zW h h2
  |exc _ h2=>rcases h with h|⟨o,h⟩<;>rw[h] at h2<;>cases h2
  |exc0 _ h2=>rcases h with h|⟨o,h⟩<;>rw[h] at h2<;>cases h2
 |@dt a xs l h hl _ ih=>
  intro q h';cases h' with
  |tup h2=>exact(Rep.noDict I (ks:=[]) (.inr h) (.inr ⟨_,SqT.of h2⟩)).elim
  |lst h2=>exact(Rep.noDict I (ks:=[]) (.inr h) (.inl ⟨_,h2⟩)).elim
  |dk h2=>cases zW h h2
  |dt h2 hl2 hr2=>
   cases (zW h h2);rw[pairs hl hl2 λj x p q e1 e2 e3=>ih j x p e1 e2 (hr2 j x q e1 e3)]
  |exc _ h2=>rcases h with h|⟨o,h⟩<;>rw[h] at h2<;>cases h2
  |exc0 _ h2=>rcases h with h|⟨o,h⟩<;>rw[h] at h2<;>cases h2
 |@exc a C dx c xs l nm h hd hl _ ih=>
  intro q h';cases h' with
  |tup h2=>exact(XO.noSeq I h (.inr ⟨_,SqT.of h2⟩)).elim
  |lst h2=>exact(XO.noSeq I h (.inl ⟨_,h2⟩)).elim
  |dk h2=>rcases h2 with h2|⟨o,h2⟩<;>rw[h] at h2<;>cases h2
  |dt h2=>rcases h2 with h2|⟨o,h2⟩<;>rw[h] at h2<;>cases h2
  |exc nm2 h2 hd2 hl2 hr2=>
   obtain⟨rfl,e⟩:=XO.inj I h h2;cases e;rw[hd] at hd2;cases hd2;cases XNm.inj nm nm2;rw[pairs hl hl2 λj x p q e1 e2 e3=>ih j x p e1 e2 (hr2 j x q e1 e3)]
  |exc0 nm2 h2=>cases (XO.inj I h h2).2
 |@exc0 a C c nm h=>
  intro q h';cases h' with
  |tup h2=>exact(XO.noSeq I h (.inr ⟨_,SqT.of h2⟩)).elim
  |lst h2=>exact(XO.noSeq I h (.inl ⟨_,h2⟩)).elim
  |dk h2=>rcases h2 with h2|⟨o,h2⟩<;>rw[h] at h2<;>cases h2
  |dt h2=>rcases h2 with h2|⟨o,h2⟩<;>rw[h] at h2<;>cases h2
  |exc nm2 h2=>cases (XO.inj I h h2).2
  |exc0 nm2 h2=>
   obtain⟨rfl,_⟩:=XO.inj I h h2;cases XNm.inj nm nm2;rfl
theorem Lw(I:Inv X pins σ H s):∀ {A:Around}{x y:V}{p q:PV}{r:Bool}{u v:Value},A.units<cLine->eqF 0 p q=some r->Rep X.K H x p->Rep X.K H y q->RelV x u->RelV y v ->
  SeqAt.RcAt A s u v r/\SeqAt.EqAt A s u v r/\SeqAt.RcNeAt A s u v (!r):=by
 intro A x y p q r u v hu e rx ry ru rv;have hu0:A.units<cLine:=hu
 match p,q,e with
 |.non,.non,e=>
  have e:=Zaa e;subst e;cases Rep.fW rx;cases Rep.fW ry;cases ru;cases rv;exact⟨SeqAt.RcAt.none_none,SeqAt.EqAt.same _,SeqAt.RcNeAt.none_none⟩
 |.non,.bl b,e=>
  have e:=Zaa e;subst e;cases Rep.fW rx;cases Rep.gj ry;cases ru;cases rv;exact⟨SeqAt.RcAt.none_bool _,SeqAt.EqAt.none_bool _,SeqAt.RcNeAt.none_bool _⟩
 |.non,.int b,e=>
  have e:=Zaa e;subst e;cases Rep.fW rx;cases Rep.bR ry;cases ru;obtain⟨tb,rfl⟩:=rv;exact⟨SeqAt.RcAt.none_int _ _,SeqAt.EqAt.none_int _ _,SeqAt.RcNeAt.none_int _ _⟩
 |.non,.str b,e=>
  have e:=Zaa e;subst e;cases Rep.fW rx;cases Rep.cC ry;cases ru;obtain⟨tb,rfl⟩:=rv;exact⟨SeqAt.RcAt.none_str _ _,SeqAt.EqAt.none_str _ _,SeqAt.RcNeAt.none_str _ _⟩
 |.bl a,.non,e=>
  have e:=Zaa e;subst e;cases Rep.gj rx;cases Rep.fW ry;cases ru;cases rv;exact⟨SeqAt.RcAt.bool_none _,SeqAt.EqAt.bool_none _,SeqAt.RcNeAt.bool_none _⟩
 |.bl a,.bl b,e=>
  have e:=Zaa e;subst e;cases Rep.gj rx;cases Rep.gj ry;cases ru;cases rv;rw[<-Bool.beq_eq_decide_eq];exact⟨SeqAt.RcAt.bool_bool _ _,SeqAt.EqAt.bool_bool _ _,SeqAt.RcNeAt.bool_bool _ _⟩
 |.bl a,.str b,e=>
  have e:=Zaa e;subst e;cases Rep.gj rx;cases Rep.cC ry;cases ru;obtain⟨tb,rfl⟩:=rv;exact⟨SeqAt.RcAt.bool_str _ _ _,SeqAt.EqAt.bool_str _ _ _,SeqAt.RcNeAt.bool_str _ _ _⟩
 |.int a,.non,e=>
  have e:=Zaa e;subst e;cases Rep.bR rx;cases Rep.fW ry;obtain⟨ta,rfl⟩:=ru;cases rv;exact⟨SeqAt.RcAt.int_none _ _,SeqAt.EqAt.int_none _ _,SeqAt.RcNeAt.int_none _ _⟩
 |.int a,.int b,e=>
  have e:=Zaa e;subst e;cases Rep.bR rx;cases Rep.bR ry;obtain⟨ta,rfl⟩:=ru;obtain⟨tb,rfl⟩:=rv;rw[<-Bool.beq_eq_decide_eq];exact⟨SeqAt.RcAt.int_int _ _ _ _,SeqAt.EqAt.int_int _ _ _ _,SeqAt.RcNeAt.int_int _ _ _ _⟩
 |.int a,.str b,e=>
  have e:=Zaa e;subst e;cases Rep.bR rx;cases Rep.cC ry;obtain⟨ta,rfl⟩:=ru;obtain⟨tb,rfl⟩:=rv;exact⟨SeqAt.RcAt.int_str _ _ _ _,SeqAt.EqAt.int_str _ _ _ _,SeqAt.RcNeAt.int_str _ _ _ _⟩
 |.str a,.non,e=>
  have e:=Zaa e;subst e;cases Rep.cC rx;cases Rep.fW ry;obtain⟨ta,rfl⟩:=ru;cases rv;exact⟨SeqAt.RcAt.str_none _ _,SeqAt.EqAt.str_none _ _,SeqAt.RcNeAt.str_none _ _⟩
 |.str a,.bl b,e=>
  have e:=Zaa e;subst e;cases Rep.cC rx;cases Rep.gj ry;obtain⟨ta,rfl⟩:=ru;cases rv;exact⟨SeqAt.RcAt.str_bool _ _ _,SeqAt.EqAt.str_bool _ _ _,SeqAt.RcNeAt.str_bool _ _ _⟩
 |.str a,.int b,e=>
  have e:=Zaa e;subst e;cases Rep.cC rx;cases Rep.bR ry;obtain⟨ta,rfl⟩:=ru;obtain⟨tb,rfl⟩:=rv;exact⟨SeqAt.RcAt.str_int _ _ _ _,SeqAt.EqAt.str_int _ _ _ _,SeqAt.RcNeAt.str_int _ _ _ _⟩
 |.str a,.str b,e=>
  have e:=Zaa e;subst e;cases Rep.cC rx;cases Rep.cC ry;obtain⟨ta,rfl⟩:=ru;obtain⟨tb,rfl⟩:=rv;rw[<-Bool.beq_eq_decide_eq];exact⟨SeqAt.RcAt.str_str _ _ _ _,SeqAt.EqAt.str_str _ _ _ _,SeqAt.RcNeAt.str_str _ _ _ _⟩
 |.tup a,.non,e=>
  have e:=Zaa e;subst e;obtain⟨aa,xsa,rfl,ha,_⟩:=rx.dF;cases ru;obtain⟨_,_,pa,_⟩:=I.tuple ha;cases Rep.fW ry;cases rv;exact⟨SeqAt.RcAt.tuple_none pa hu0,SeqAt.EqAt.tuple_none pa hu0,SeqAt.RcNeAt.tuple_none pa hu0⟩
 |.non,.tup b,e=>
  have e:=Zaa e;subst e;cases Rep.fW rx;cases ru;obtain⟨ab,xsb,rfl,hb,_⟩:=ry.dF;cases rv;obtain⟨_,_,pb,_⟩:=I.tuple hb;exact⟨SeqAt.RcAt.none_tuple pb hu0,SeqAt.EqAt.none_tuple pb hu0,SeqAt.RcNeAt.none_tuple pb hu0⟩
 |.tup a,.int b,e=>
  have e:=Zaa e;subst e;obtain⟨aa,xsa,rfl,ha,_⟩:=rx.dF;cases ru;obtain⟨_,_,pa,_⟩:=I.tuple ha;cases Rep.bR ry;obtain⟨tb,rfl⟩:=rv;exact⟨SeqAt.RcAt.tuple_int _ _ pa hu0,SeqAt.EqAt.tuple_int _ _ pa hu0,SeqAt.RcNeAt.tuple_int _ _ pa hu0⟩
 |.int a,.tup b,e=>
  have e:=Zaa e;subst e;cases Rep.bR rx;obtain⟨ta,rfl⟩:=ru;obtain⟨ab,xsb,rfl,hb,_⟩:=ry.dF;cases rv;obtain⟨_,_,pb,_⟩:=I.tuple hb;exact⟨SeqAt.RcAt.int_tuple _ _ pb hu0,SeqAt.EqAt.int_tuple _ _ pb hu0,SeqAt.RcNeAt.int_tuple _ _ pb hu0⟩
 |.tup a,.str b,e=>
  have e:=Zaa e;subst e;obtain⟨aa,xsa,rfl,ha,_⟩:=rx.dF;cases ru;obtain⟨_,_,pa,_⟩:=I.tuple ha;cases Rep.cC ry;obtain⟨tb,rfl⟩:=rv;exact⟨SeqAt.RcAt.tuple_str _ _ pa hu0,SeqAt.EqAt.tuple_str _ _ pa hu0,SeqAt.RcNeAt.tuple_str _ _ pa hu0⟩
 |.str a,.tup b,e=>
  have e:=Zaa e;subst e;cases Rep.cC rx;obtain⟨ta,rfl⟩:=ru;obtain⟨ab,xsb,rfl,hb,_⟩:=ry.dF;cases rv;obtain⟨_,_,pb,_⟩:=I.tuple hb;exact⟨SeqAt.RcAt.str_tuple _ _ pb hu0,SeqAt.EqAt.str_tuple _ _ pb hu0,SeqAt.RcNeAt.str_tuple _ _ pb hu0⟩
 |.lst a,.non,e=>
  have e:=Zaa e;subst e;obtain⟨aa,xsa,rfl,ha,_⟩:=rx.d7;cases ru;obtain⟨_,_,pa,_⟩:=I.list ha;cases Rep.fW ry;cases rv;exact⟨SeqAt.RcAt.list_none pa.isList hu0,SeqAt.EqAt.list_none pa.isList hu0,SeqAt.RcNeAt.list_none pa.isList hu0⟩
 |.non,.lst b,e=>
  have e:=Zaa e;subst e;cases Rep.fW rx;cases ru;obtain⟨ab,xsb,rfl,hb,_⟩:=ry.d7;cases rv;obtain⟨_,_,pb,_⟩:=I.list hb;exact⟨SeqAt.RcAt.none_list pb.isList hu0,SeqAt.EqAt.none_list pb.isList hu0,SeqAt.RcNeAt.none_list pb.isList hu0⟩
 |.lst a,.int b,e=>
  have e:=Zaa e;subst e;obtain⟨aa,xsa,rfl,ha,_⟩:=rx.d7;cases ru;obtain⟨_,_,pa,_⟩:=I.list ha;cases Rep.bR ry;obtain⟨tb,rfl⟩:=rv;exact⟨SeqAt.RcAt.list_int _ _ pa.isList hu0,SeqAt.EqAt.list_int _ _ pa.isList hu0,SeqAt.RcNeAt.list_int _ _ pa.isList hu0⟩
 |.int a,.lst b,e=>
  have e:=Zaa e;subst e;cases Rep.bR rx;obtain⟨ta,rfl⟩:=ru;obtain⟨ab,xsb,rfl,hb,_⟩:=ry.d7;cases rv;obtain⟨_,_,pb,_⟩:=I.list hb;exact⟨SeqAt.RcAt.int_list _ _ pb.isList hu0,SeqAt.EqAt.int_list _ _ pb.isList hu0,SeqAt.RcNeAt.int_list _ _ pb.isList hu0⟩
 |.lst a,.str b,e=>
  have e:=Zaa e;subst e;obtain⟨aa,xsa,rfl,ha,_⟩:=rx.d7;cases ru;obtain⟨_,_,pa,_⟩:=I.list ha;cases Rep.cC ry;obtain⟨tb,rfl⟩:=rv;exact⟨SeqAt.RcAt.list_str _ _ pa.isList hu0,SeqAt.EqAt.list_str _ _ pa.isList hu0,SeqAt.RcNeAt.list_str _ _ pa.isList hu0⟩
 |.str a,.lst b,e=>
  have e:=Zaa e;subst e;cases Rep.cC rx;obtain⟨ta,rfl⟩:=ru;obtain⟨ab,xsb,rfl,hb,_⟩:=ry.d7;cases rv;obtain⟨_,_,pb,_⟩:=I.list hb;exact⟨SeqAt.RcAt.str_list _ _ pb.isList hu0,SeqAt.EqAt.str_list _ _ pb.isList hu0,SeqAt.RcNeAt.str_list _ _ pb.isList hu0⟩
 |.lst a,.tup b,e=>
  have e:=Zaa e;subst e;obtain⟨aa,xsa,rfl,ha,_⟩:=rx.d7;cases ru;obtain⟨_,_,pa,_⟩:=I.list ha;obtain⟨ab,xsb,rfl,hb,_⟩:=ry.dF;cases rv;obtain⟨_,_,pb,_⟩:=I.tuple hb;exact⟨SeqAt.RcAt.list_tuple pa.isList pb hu0,SeqAt.EqAt.list_tuple pa.isList pb hu0,SeqAt.RcNeAt.list_tuple pa.isList pb hu0⟩
 |.tup a,.lst b,e=>
  have e:=Zaa e;subst e;obtain⟨aa,xsa,rfl,ha,_⟩:=rx.dF;cases ru;obtain⟨_,_,pa,_⟩:=I.tuple ha;obtain⟨ab,xsb,rfl,hb,_⟩:=ry.d7;cases rv;obtain⟨_,_,pb,_⟩:=I.list hb;exact⟨SeqAt.RcAt.tuple_list pa pb.isList hu0,SeqAt.EqAt.tuple_list pa pb.isList hu0,SeqAt.RcNeAt.tuple_list pa pb.isList hu0⟩
def Lx:PV->PV->Bool
 |.tup _,.tup _=>true
 |.lst _,.lst _=>true
 |_,_=>false
theorem Ly{n:Nat}{p q:PV}(h:Lx p q=false):eqF (n+1) p q=eqF 0 p q:=by
 cases p<;>cases q<;>first|rfl|cases h
theorem JL:∀ {p q:PV},Lx p q=true->(∃ l m,p=.tup l/\q=.tup m)\/∃ l m,p=.lst l/\q=.lst m
 |.tup l,q,h=>by
  cases q with
  |tup m=>exact .inl ⟨l,m,rfl,rfl⟩
  |_=>cases h
 |.lst l,q,h=>by
  cases q with
  |lst m=>exact .inr ⟨l,m,rfl,rfl⟩
  |_=>cases h
theorem Lz(I:Inv X pins σ H s):∀ (n:Nat) {A:Around}{x y:V}{p q:PV}{r:Bool}{u v:Value},A.units+n<cLine->eqF n p q=some r->Rep X.K H x p->Rep X.K H y q->RelV x u->RelV y v ->
  SeqAt.RcAt A s u v r/\SeqAt.EqAt A s u v r/\SeqAt.RcNeAt A s u v (!r):=by
 intro n;induction n with
 |zero=>exact λhu e=>Lw I (by lia) e
 |succ n ih=>
  intro A x y p q r u v hu e rx ry ru rv;have hu0:A.units<cLine:=by lia
  cases hr:Lx p q with
  |false=>exact Lw I hu0 (by rw[<-Ly hr];exact e) rx ry ru rv
  |true=>
  rcases JL hr with⟨l,m,rfl,rfl⟩|⟨l,m,rfl,rfl⟩
  ·have e:eqL (eqF n) l m=some r:=e;obtain⟨a,xs,rfl,ha,r1⟩:=rx.dF;obtain⟨b,ys,rfl,hb,r2⟩:=ry.dF;cases ru;cases rv;obtain⟨i1,v1,t1,_⟩:=I.tuple ha;obtain⟨i2,v2,t2,_⟩:=I.tuple hb;obtain⟨g,g1,g2⟩:=zV e;have hj:∀ j (h1:j<i1.toArray.size) (h2:j<i2.toArray.size),SeqAt.EqAt A.in1 s i1.toArray[j] i2.toArray[j] (g j):=λj h1 h2=>by
    obtain⟨x,hx,rx'⟩:=t6 v1 h1;obtain⟨y,hy,ry'⟩:=t6 v2 h2;obtain⟨p',hp,rp⟩:=r1.got hx;obtain⟨q',hq,rq⟩:=r2.got hy;exact(ih (A:=A.in1) (show A.units+1+n<cLine by lia) (g1 j p' q' hp hq) rp rq rx' ry').2.1
   have rc:=SeqAt.RcAt.tuples (A:=A) (e:=g) t1 t2 hu0 hj;have rn:=SeqAt.RcNeAt.tuples (A:=A) (e:=g) t1 t2 hu0 hj;rw[List.size_toArray,List.size_toArray,<-v1.length,<-v2.length,r1.1,r2.1,<-g2] at rc rn;refine⟨rc,?_,rn⟩;by_cases hab:a=b
   ·subst hab;have epq:PV.tup l=PV.tup m:=Rep.inj I rx ry;cases epq;have er:=qy (CK n) e;subst er;exact SeqAt.EqAt.same _
   ·exact .of_refs hab rc
  ·obtain⟨a,xs,rfl,ha,r1⟩:=rx.d7;obtain⟨b,ys,rfl,hb,r2⟩:=ry.d7;cases ru;cases rv;obtain⟨i1,v1,t1,_⟩:=I.list ha;obtain⟨i2,v2,t2,_⟩:=I.list hb;have e:(if l.length=m.length then eqL (eqF n) l m else some false)=some r:=e;split at e
   ·rename_i hlm;obtain⟨g,g1,g2⟩:=zV e;have hz:i1.toArray.size=i2.toArray.size:=by rw[List.size_toArray,List.size_toArray,<-v1.length,<-v2.length,r1.1,r2.1];exact hlm
    have hj:∀ j (h1:j<i1.toArray.size) (h2:j<i2.toArray.size),SeqAt.EqAt A.in1 s i1.toArray[j] i2.toArray[j] (g j):=λj h1 h2=>by
     obtain⟨x,hx,rx'⟩:=t6 v1 h1;obtain⟨y,hy,ry'⟩:=t6 v2 h2;obtain⟨p',hp,rp⟩:=r1.got hx;obtain⟨q',hq,rq⟩:=r2.got hy;exact(ih (A:=A.in1) (show A.units+1+n<cLine by lia) (g1 j p' q' hp hq) rp rq rx' ry').2.1
    have rc:=SeqAt.RcAt.lists (A:=A) (e:=g) t1.isList t2.isList hz hu0 hj;have e2:r=(List.range l.length).all g:=by rw[g2,<-hlm,Nat.min_self,beq_self_eq_true,Bool.and_true]
    have rn:=SeqAt.RcNeAt.lists (A:=A) (e:=g) t1.isList t2.isList hz hu0 hj;rw[List.size_toArray,<-v1.length,r1.1,<-e2] at rc rn;refine⟨rc,?_,rn⟩;by_cases hab:a=b
    ·subst hab;have epq:PV.lst l=PV.lst m:=Rep.inj I rx ry;cases epq;have er:=qy (CK n) e;subst er;exact SeqAt.EqAt.same _
    ·exact .of_refs hab rc
   ·rename_i hlm;cases e;have hz:(i1.toArray.size != i2.toArray.size)=true:=by rw[List.size_toArray,List.size_toArray,<-v1.length,<-v2.length,r1.1,r2.1];simpa using hlm
    have rc:=SeqAt.RcAt.lists_lengths (A:=A) t1.isList t2.isList hz hu0;have hab:a≠b:=λz=>by
     subst z;have epq:PV.lst l=PV.lst m:=Rep.inj I rx ry;cases epq;exact hlm rfl
    exact⟨rc,.of_refs hab rc,SeqAt.RcNeAt.lists_lengths (A:=A) t1.isList t2.isList hz hu0⟩
end
section
variable{X:Cx}{k:Nat}
theorem OpR.or{f:Value->Value->Sem Value}{r r':R2}(h:OpR X f r)(h':OpR X f r'):OpR X f (λx y H Q=>r x y H Q\/r' x y H Q):=by
 intro pins s σ H x y v u Q I rx ry q;rcases q with q|q
 ·exact h pins s σ H x y v u Q I rx ry q
 ·exact h' pins s σ H x y v u Q I rx ry q
def V6(K:PySem.W.Frag):R2:=λx y H Q=>∃ p q r,Rep K H x p/\Rep K H y q/\eqF 32 p q=some r/\Q (.bl r) H
def V7(K:PySem.W.Frag):R2:=λx y H Q=>∃ p q r,Rep K H x p/\Rep K H y q/\eqF 32 p q=some r/\Q (.bl (!r)) H
theorem dY(hr:fD k X.A):OpR X (compareOp .Eq) (V6 X.K):=by
 intro pins s σ H x y v u Q I rx ry h;obtain⟨p,q,r,h1,h2,e,h3⟩:=h;exact(Lz I 32 (FT hr) e h1 h2 rx ry).1 X.prog X.w X.xe _ ⟨.bl r,H,I,rfl,h3⟩
theorem oH(hr:fD k X.A):OpR X (compareOp .NotEq) (V7 X.K):=by
 intro pins s σ H x y v u Q I rx ry h;obtain⟨p,q,r,h1,h2,e,h3⟩:=h;exact(Lz I 32 (FT hr) e h1 h2 rx ry).2.2 X.prog X.w X.xe _ ⟨.bl (!r),H,I,rfl,h3⟩
def inF(p:PV):List PV->Option Bool
 |[]=>some false
 |x::xs=>match eqF 31 x p,inF p xs with
  |some a,some b=>some (a||b)
  |_,_=>none
theorem HN{p:PV}:∀ {l:List PV}{r:Bool},inF p l=some r->∃ e:Nat->Bool,(∀ (j:Nat) x,l[j]?=some x->eqF 31 x p=some (e j))/\r=(List.range l.length).any e
 |[],r,h=>⟨λ_=>true,λj x a=>by simp at a,by cases h;rfl⟩
 |x::xs,r,h=>by
  rw[inF] at h;split at h
  ·rename_i a b h1 h2;cases h;obtain⟨e,e1,e2⟩:=HN h2;refine⟨λj=>match j with|0=>a|j+1=>e j,λj x' a'=>?_,?_⟩
   ·cases j with
    |zero=>simp at a';subst a';exact h1
    |succ j=>exact e1 j x' (by simpa using a')
   ·rw[e2,ZaG,List.range_succ_eq_map,Zbo,List.any_map];rfl
  ·cases h
def V8(K:PySem.W.Frag)(neg:Bool):R2:=λx y H Q=>∃ p l r,Rep K H x p/\(Rep K H y (.lst l)\/Rep K H y (.tup l))/\inF p l=some r/\Q (.bl (if neg=true then !r else r)) H
theorem CP{pins:List (Addr×Obj)}{σ:St}{H:Hp}{s:Shared}(I:Inv X pins σ H s)(hr:fD k X.A){x:V}{v:Value}{p:PV}{xs:List V}{its:List Value}{l:List PV}{r:Bool}(rx:RelV x v)(h1:Rep X.K H x p)(rv:Vals xs its)(hl:b8 X.K H xs l)(e:inF p l=some r) :
  ∃ f:Value->Bool,(∀ y,y∈its.toArray->SeqAt.EqAt X.A.in1 s y v (f y))/\its.toArray.any f=r:=by
 obtain⟨g,g1,g2⟩:=HN e;have key:∀ w'∈its,∃ j,∃ hj:j<its.length,its[j]=w':=λw' hw=>by
  obtain⟨j,hj,e⟩:=List.mem_iff_getElem.mp hw;exact⟨j,hj,e⟩
 have look:∀ (j:Nat) (hj:j<its.length),∃ z q,l[j]?=some q/\RelV z its[j]/\Rep X.K H z q/\eqF 31 q p=some (g j):=λj hj=>by
  obtain⟨z,hz,rz⟩:=t6 rv (j:=j) (by simpa using hj)
  obtain⟨q,hq,rq⟩:=hl.got hz;exact⟨z,q,hq,by simpa using rz,rq,g1 j q hq⟩
 classical
 let f:Value->Bool:=λw'=>if h:∃ j,∃ hj:j<its.length,its[j]=w' then g (Classical.choose h) else false
 have fe:∀ (j:Nat) (hj:j<its.length),f its[j]=g j:=λj hj=>by
  have hx:∃ i,∃ hi:i<its.length,its[i]=its[j]:=⟨j,hj,rfl⟩;show(if h:∃ i,∃ hi:i<its.length,its[i]=its[j] then g (Classical.choose h) else false)=g j
  rw[dif_pos hx];obtain⟨h1',h2'⟩:=Classical.choose_spec hx;generalize Classical.choose hx=i at h1' h2' ⊢
  obtain⟨z,q,_,rz,rq,eq1⟩:=look i h1';obtain⟨z',q',_,rz',rq',eq2⟩:=look j hj;rw[h2'] at rz;cases rz.inj rz';cases Rep.inj I rq rq';rw[eq1] at eq2;exact Zaa eq2
 refine⟨f,λy hy=>?_,?_⟩
 ·obtain⟨j,hj,e1⟩:=key y (by simpa using hy)
  obtain⟨z,q,_,rz,rq,eq1⟩:=look j hj;rw[<-e1,fe j hj];exact(Lz I 31 (A:=X.A.in1) (show X.A.units+1+31<cLine by have:=FT hr;lia) eq1 rq h1 rz rx).2.1
 ·have hlen:its.length=l.length:=by rw[<-rv.length,hl.1]
  rw[g2,show its.toArray.any f=its.any f by simp,Bool.eq_iff_iff,List.any_eq_true,List.any_eq_true]
  constructor
  ·rintro⟨w',hw,hf⟩;obtain⟨j,hj,e1⟩:=key w' hw;exact⟨j,ZaW.mpr (by lia),by rw[<-fe j hj,e1];exact hf⟩
  ·rintro⟨j,hj,hf⟩;have hj':j<its.length:=by rw[hlen];exact ZaW.mp hj
   exact⟨its[j],List.getElem_mem hj',by rw[fe j hj'];exact hf⟩
theorem JM(hr:fD k X.A):OpR X (compareOp .NotIn) (V8 X.K true):=by
 intro pins s σ H x y v u Q I rx ry h;obtain⟨p,l,r,h1,h2,e,q⟩:=h;rcases h2 with h2|h2
 ·obtain⟨a,xs,rfl,hq,rr⟩:=h2.d7;cases ry;obtain⟨its,rv,pl,_⟩:=I.list hq;obtain⟨f,f1,f2⟩:=CP I hr rx h1 rv rr e;exact SeqAt.notIn_listAt f pl.isList f1 (by rw[f2];exact⟨.bl _,H,I,rfl,q⟩)
 ·obtain⟨a,xs,rfl,hq,rr⟩:=h2.dF;cases ry;obtain⟨its,rv,pl,_⟩:=I.tuple hq;obtain⟨f,f1,f2⟩:=CP I hr rx h1 rv rr e;exact SeqAt.notIn_tupleAt f pl f1 (by rw[f2];exact⟨.bl _,H,I,rfl,q⟩)
def HQ(K:PySem.W.Frag):R2:=λx y H Q=>V8 K true x y H Q\/∃ i j,x=.str i/\y=.str j/\Q (.bl (!(!(Builtin.Str.occurrences j i 0 j.length 1).isEmpty))) H
theorem yM(hr:fD k X.A):OpR X (compareOp .NotIn) (HQ X.K):=OpR.or (JM hr) zF
def LC(K:PySem.W.Frag):R2:=λx y H Q=>rI0 (λi j=>.int (i+j)) x y H Q\/(∃ i j,x=.str i/\y=.str j/\i.length+j.length<=sizeLine/\Q (.str (i++j)) H)\/R4 K x y H Q
theorem bH:OpR X (binaryOp .Add) (LC X.K):=OpR.or Tp (OpR.or Ft Pu)
def Sg:R2:=λx y H Q=>rI Fp (λi j=>.int (i*j)) x y H Q\/∃ z n,x=.str z/\y=.int n/\-(2^63)<=n/\n<2^63/\z.length*n.toNat<=sizeLine/\Q (.str ⟨(List.replicate n.toNat z.cps).foldl (·++·) #[]⟩) H
theorem fu:OpR X (binaryOp .Mult) Sg:=by
 refine OpR.or Tq ?_;intro pins s σ H x y v u Q I rx ry h;obtain⟨z,n,rfl,rfl,h1,h2,h3,q⟩:=h;obtain⟨t,rfl⟩:=rx;obtain⟨t',rfl⟩:=ry;have fin:∀ t k,EP X pins σ Q (.str ⟨(List.replicate n.toNat z.cps).foldl (·++·) #[]⟩ t) { s with toks:=k }:=λt k=>⟨.str _,H,I.tok _,⟨t,rfl⟩,q⟩;have hr:(decide (n < -(2^63:Int))||decide (n>=2^63))=false:=by
  rw[Zas (by omega),Zas (by omega)];rfl
 refine PySem.P.mul_str hr (λh4 h5=>?_) (λh4 h5=>?_) ?_
 ·have hn:1<=n:=by omega
  have h6:z.length<=sizeLine:=by
   have:z.length*1<=z.length*n.toNat:=Nat.mul_le_mul_left _ (by omega)
   omega
  have h7:n≠1:=λe=>by subst e;simp at h5
  have h8:(z.length:Int)*n<=16777216:=by
   have e:(z.length:Int)*n=((z.length*n.toNat:Nat):Int):=by
    rw[Int.natCast_mul,ZaU (by omega)]
   rw[e];have:z.length*n.toNat<=16777216:=h3;omega
  have h9:(z.length:Int)<=(2^63-1)/n:=by
   apply(Int.le_ediv_iff_mul_le (by omega)).mpr
   omega
  omega
 ·unfold Builtin.Str.tooLong;exact Zas (by omega)
 ·by_cases h4:n<1
  ·rw[Zao h4];have e:n.toNat=0:=by omega
   rw[e] at fin;exact⟨Zbh _,fin _ _⟩
  ·rw[Zal h4];refine post_val_or_str ⟨?_,λt' k=>?_⟩
   ·have e1:∀ (m:Nat) (acc:Array Nat),((List.replicate m z.cps).foldl (·++·) acc).size=acc.size+m*z.cps.size:=λm=>by
     induction m with
     |zero=>intro acc;simp
     |succ m ih=>intro acc;rw[ZaN,List.foldl_cons,ih,Array.size_append,Nat.succ_mul];omega
    have h6:z.length<=sizeLine:=by
     have:z.length*1<=z.length*n.toNat:=Nat.mul_le_mul_left _ (by omega)
     omega
    split
    ·exact h6
    ·show((List.replicate n.toNat z.cps).foldl (·++·) #[]).size<=sizeLine
     rw[e1,Nat.mul_comm];show 0+z.length*n.toNat<=_
     omega
   ·have fz:=fin t' k;split
    ·rename_i h5;have e:(⟨(List.replicate n.toNat z.cps).foldl (·++·) #[]⟩:Str)=z:=by
      rcases Bool.or_eq_true _ _▸h5 with h|h
      ·have:n=1:=by simpa using h
       subst this;show(⟨#[]++z.cps⟩:Str)=z
       rw[Array.empty_append]
      ·have h1:z.length=0:=by simpa using h
       have h0:z.cps=#[]:=Array.eq_empty_of_size_eq_zero h1;have e2:∀ m:Nat,(List.replicate m (#[]:Array Nat)).foldl (·++·) #[]=#[]:=λm=>by
        induction m with
        |zero=>rfl
        |succ m ih=>rw[ZaN,List.foldl_cons];exact ih
       cases z with
       |mk c=>cases h0;rw[e2]
     rw[e] at fz;exact fz
    ·exact fz
def V9:R2:=λx y H Q=>rI0 (λi j=>.bl (decide (i<j))) x y H Q\/∃ i j,x=.str i/\y=.str j/\Q (.bl (decide (i.cps.toList<j.cps.toList))) H
theorem qz:OpR X (compareOp .Lt) V9:=OpR.or Vy Jr
def Wa:R2:=λx y H Q=>rI0 (λi j=>.bl (decide (i<=j))) x y H Q\/∃ i j,x=.str i/\y=.str j/\Q (.bl (!(decide (j.cps.toList<i.cps.toList)))) H
theorem zX:OpR X (compareOp .LtE) Wa:=OpR.or Vz JD
theorem JN(l b:Addr)(i1 i2:Array Value)(n1 n2:Nat)(s1 s2:Array (Option Value))(hz:i1.size+i2.size<=sizeLine) :
  Meets (Builtin.«list.__add__» ⟨[.ref l,.ref b],[]⟩) (λ_ R s=>s.heap.get? l=some ⟨.type "list",none,.seq i1 n1,s1⟩/\s.heap.get? b=some ⟨.type "list",none,.seq i2 n2,s2⟩ /\
   R (.ok (.ret (Value.ref s.heap.objs.size))) { s with heap:=s.heap.push { cls:=Value.type "list",data:=Data.seq (i1++i2) } }):=by
 refine .of_wp λprog w A R s h=>?_;obtain⟨hp,g,d,tk,os⟩:=s;obtain⟨h1,h2,h⟩:=h;have f1:=AutoSeq1.idx_int;have f2:=AutoSeq1.sub_tuple_tuple;have f3:=AutoSeq1.sub_list_list;have f4:=AutoSeq1.sub_tuple_list;have f5:=AutoSeq1.sub_list_tuple
 wp_walk using AutoSeq1.wpAny_loadPart' h1,AutoSeq1.wpAny_loadPart' h2
 exact⟨_,rfl,h⟩
theorem vR:OpR X (binaryOp .Add) (λx y H Q=>∃ l b xs zs,x=.ref l/\y=.ref b/\SqL X.K H l xs/\SqL X.K H b zs/\xs.length+zs.length<=sizeLine/\∀ p,H p=none->Q (.ref p) (upd H p (.lst (xs++zs)))):=by
 intro pins s σ H x y v u Q I rx ry h;obtain⟨l,b,xs,zs,rfl,rfl,hH,hB,hz,q⟩:=h;cases rx;cases ry;obtain⟨its,r,⟨⟨cl1,dd1,da1,sl1⟩,n1,g1,c1,d1,e1⟩,z1⟩:=I.list hH;obtain⟨its2,r2,⟨⟨cl2,dd2,da2,sl2⟩,n2,g2,c2,d2,e2⟩,z2⟩:=I.list hB;simp only at c1 d1 e1 c2 d2 e2;subst c1 d1 e1 c2 d2 e2;have hs:its.toArray.size+its2.toArray.size<=sizeLine:=by rw[List.size_toArray,List.size_toArray,<-r.length,<-r2.length];exact hz
 refine concat_meets ⟨_,g1,rfl⟩ ⟨_,g2,rfl⟩ noFill_list_add seq_list_add F.slot_list_add F.entry_list_add (F.args_list_add_2 _ _) (JN l b its.toArray its2.toArray n1 n2 sl1 sl2 hs) ⟨g1,g2,?_⟩;have ea:its.toArray++its2.toArray=(its++its2).toArray:=by simp
 rw[ea];exact⟨.ref _,_,I.VN (t':=s.toks) (r.append r2) (by rw[List.length_append];lia),rfl,q _ I.fresh⟩
end
theorem noS{α:Type}{r:α}{C:Prop}(e:(none:Option α)=some r):C:=by cases e
def opI(c:Int->Int->Bool)(f:Int->Int->PV):PV->PV->Option (Res PV)
 |.int i,.int j=>if c i j=true then some (.ok (f i j)) else none
 |_,_=>none
def cT:Int->Int->Bool:=λ_ _=>true
def LK:Int->Int->Bool:=λi j=>decide ((-(2^64)<i/\i<2^64)\/(-(2^64)<j/\j<2^64))
def Ue:Int->Int->Bool:=λ_ j=>decide (0<j/\j<1073741824)
def Wb:Int->Int->Bool:=λ_ j=>decide (0<j)
def LQ:Int->Int->Bool:=λi j=>decide (0<=j/\j<=1000000/\i.natAbs<2^64)
def Wc:Int->Int->Bool:=λ_ j=>decide (0<=j)
def qC:=opI cT λi j=>.int (i-j)
def vf:=opI Ue λi j=>.int (i/j)
def cG:=opI Wb λi j=>.int (i%j)
def pO:=opI LQ λi j=>.int (i^j.toNat)
def CQ:=opI LQ λi j=>.int (i*2^j.toNat)
def HR:=opI Wc λi j=>.int (i/2^j.toNat)
def CT:=opI cT λi j=>.int (Builtin.bitAnd i j)
def Qg:=opI cT λi j=>.int (Builtin.bitOr i j)
def Qh:=opI cT λi j=>.bl (decide (j<i))
def JP:=opI cT λi j=>.bl (decide (j<=i))
def cH:PV->PV->Option (Res PV)
 |.int i,.int j=>some (.ok (.int (i+j)))
 |.str i,.str j=>if i.length+j.length<=sizeLine then some (.ok (.str (i++j))) else none
 |.tup l,.tup m=>if l≠[]/\l.length+m.length<=sizeLine then some (.ok (.tup (l++m))) else none
 |_,_=>none
def Ug(z:Str)(n:Nat):Str:=⟨(List.replicate n z.cps).foldl (·++·) #[]⟩
def je:PV->PV->Option (Res PV)
 |.int i,.int j=>if LK i j=true then some (.ok (.int (i*j))) else none
 |.str z,.int n=>if -(2^63)<=n/\n<2^63/\z.length*n.toNat<=sizeLine then some (.ok (.str (Ug z n.toNat))) else none
 |_,_=>none
def wG:PV->PV->Option (Res PV)
 |.int i,.int j=>some (.ok (.bl (decide (i<j))))
 |.str i,.str j=>some (.ok (.bl (decide (i.cps.toList<j.cps.toList))))
 |_,_=>none
def Ga:PV->PV->Option (Res PV)
 |.int i,.int j=>some (.ok (.bl (decide (i<=j))))
 |.str i,.str j=>some (.ok (.bl (!(decide (j.cps.toList<i.cps.toList)))))
 |_,_=>none
def iC(p q:PV):Option (Res PV):=match eqF 32 p q with
 |some r=>some (.ok (.bl r))
 |none=>none
def rW(p q:PV):Option (Res PV):=match eqF 32 p q with
 |some r=>some (.ok (.bl (!r)))
 |none=>none
def inU(p:PV):PV->Option Bool
 |.lst l=>inF p l
 |.tup l=>inF p l
 |.str j=>match p with
  |.str i=>some (!(Builtin.Str.occurrences j i 0 j.length 1).isEmpty)
  |_=>none
 |_=>none
def oJ(p q:PV):Option (Res PV):=match inU p q with
 |some r=>some (.ok (.bl (!r)))
 |none=>none
def PV.pP:PV->Bool
 |.non=>true
 |_=>false
def HS(p q:PV):Option (Res PV):=match q with
 |.non=>some (.ok (.bl p.pP))
 |_=>none
def Gb(p q:PV):Option (Res PV):=match q with
 |.non=>some (.ok (.bl (!p.pP)))
 |_=>none
def ofO(x:Option PV):Option (Res PV):=match x with
 |some p=>some (.ok p)
 |none=>none
def aY:PV->PV->Option (Res PV)
 |.lst l,.int i=>ofO (atI l i)
 |.tup l,.int i=>ofO (atI l i)
 |.str z,.int i=>if z.length<=sizeLine then ofO ((atI z.cps.toList i).map λc=>.str ⟨#[c]⟩) else none
 |_,_=>none
def wH:List PV->PV->Option (Res PV)
 |l,.int i=>ofO (atI l i)
 |_,_=>none
section
variable{K:PySem.W.Frag}{C:Cg}{F H:Hp}
theorem Wd{i j:Int}(h:Ue i j=true):Tn i j:=of_decide_eq_true (p:=0<j/\j<1073741824) h
theorem Sh{i j:Int}(h:LQ i j=true):KZ i j:=of_decide_eq_true (p:=0<=j/\j<=1000000/\i.natAbs<2^64) h
theorem We{i j:Int}(h:LK i j=true):Fp i j:=of_decide_eq_true (p:=(-(2^64)<i/\i<2^64)\/(-(2^64)<j/\j<2^64)) h
theorem yN{c:Int->Int->Bool}{f:Int->Int->PV}{cond:Int->Int->Prop}{fv:Int->Int->V}(hc:∀ i j,c i j=true->cond i j)(hf:∀ i j F,Rep K F (fv i j) (f i j)):R2M C (aF K) (aF K) (aF K) (rI cond fv) (opI c f):=by
 intro F H x y a b res Q s ha hb e P;have inv:(∃ i j,a=.int i/\b=.int j):=by
  clear P ha hb
  cases a<;>first|exact noS e|(cases b<;>first|exact noS e|exact⟨_,_,rfl,rfl⟩)
 obtain⟨i,j,rfl,rfl⟩:=inv;cases Rep.bR ha;cases Rep.bR hb;have e:(if c i j=true then some (Res.ok (f i j)) else none)=some res:=e;split at e
 ·rename_i h;cases e;exact⟨i,j,rfl,rfl,hc i j h,P _ F H (Up.refl s) (hf i j F)⟩
 ·cases e
theorem wI{f:Int->Int->PV}{fv:Int->Int->V}(hf:∀ i j F,Rep K F (fv i j) (f i j)):R2M C (aF K) (aF K) (aF K) (rI0 fv) (opI cT f):=by
 intro F H x y a b res Q s ha hb e P;have inv:(∃ i j,a=.int i/\b=.int j):=by
  clear P ha hb
  cases a<;>first|exact noS e|(cases b<;>first|exact noS e|exact⟨_,_,rfl,rfl⟩)
 obtain⟨i,j,rfl,rfl⟩:=inv;cases Rep.bR ha;cases Rep.bR hb;cases e;exact⟨i,j,rfl,rfl,P _ F H (Up.refl s) (hf i j F)⟩
theorem vg:R2M C (aF K) (aF K) (aF K) (rI0 λi j=>.int (i-j)) qC:=wI λ_ _ _=>.int
theorem CV:R2M C (aF K) (aF K) (aF K) (rI Tn λi j=>.int (i/j)) vf:=yN (λ_ _ h=>Wd h) λ_ _ _=>.int
theorem cO:R2M C (aF K) (aF K) (aF K) (rI (λ_ j=>0<j) λi j=>.int (i%j)) cG:=yN (λ_ _ h=>of_decide_eq_true h) λ_ _ _=>.int
theorem uc:R2M C (aF K) (aF K) (aF K) (rI KZ λi j=>.int (i^j.toNat)) pO:=yN (λ_ _ h=>Sh h) λ_ _ _=>.int
theorem Sq:R2M C (aF K) (aF K) (aF K) (rI KZ λi j=>.int (i*2^j.toNat)) CQ:=yN (λ_ _ h=>Sh h) λ_ _ _=>.int
theorem Wf:R2M C (aF K) (aF K) (aF K) (rI (λ_ j=>0<=j) λi j=>.int (i/2^j.toNat)) HR:=yN (λ_ _ h=>of_decide_eq_true h) λ_ _ _=>.int
theorem Ss:R2M C (aF K) (aF K) (aF K) (rI0 λi j=>.int (Builtin.bitAnd i j)) CT:=wI λ_ _ _=>.int
theorem WX:R2M C (aF K) (aF K) (aF K) (rI0 λi j=>.int (Builtin.bitOr i j)) Qg:=wI λ_ _ _=>.int
theorem WY:R2M C (aF K) (aF K) (aF K) (rI0 λi j=>.bl (decide (j<i))) Qh:=wI λ_ _ _=>.bl
theorem Uh:R2M C (aF K) (aF K) (aF K) (rI0 λi j=>.bl (decide (j<=i))) JP:=wI λ_ _ _=>.bl
theorem cQ:R2M C (aF K) (aF K) (aF K) (LC K) cH:=by
 intro F H x y a b res Q s ha hb e P;have inv:(∃ i j,a=.int i/\b=.int j)\/(∃ i j,a=.str i/\b=.str j)\/(∃ l m,a=.tup l/\b=.tup m):=by
  clear P ha hb
  cases a<;>first|exact noS e|(cases b<;>first|exact noS e|exact .inl ⟨_,_,rfl,rfl⟩|exact .inr (.inl ⟨_,_,rfl,rfl⟩)|exact .inr (.inr ⟨_,_,rfl,rfl⟩))
 rcases inv with⟨i,j,rfl,rfl⟩|⟨i,j,rfl,rfl⟩|⟨l,m,rfl,rfl⟩
 ·cases Rep.bR ha;cases Rep.bR hb;cases e;exact .inl ⟨i,j,rfl,rfl,P _ F H (Up.refl s) .int⟩
 ·cases Rep.cC ha;cases Rep.cC hb;have e:(if i.length+j.length<=sizeLine then some (Res.ok (PV.str (i++j))) else none)=some res:=e;split at e
  ·rename_i h;cases e;exact .inr (.inl ⟨i,j,rfl,rfl,h,P _ F H (Up.refl s) .str⟩)
  ·cases e
 ·have e:(if l≠[]/\l.length+m.length<=sizeLine then some (Res.ok (PV.tup (l++m))) else none)=some res:=e;split at e
  ·rename_i h;cases e;obtain⟨a1,xs,rfl,h1,r1⟩:=Rep.dF ha;obtain⟨a2,ys,rfl,h2,r2⟩:=Rep.dF hb;have hx:xs≠[]:=λz=>h.1 (by have:=r1.1;rw[z] at this;simpa using this.symm)
   refine .inr (.inr ⟨a1,a2,xs,ys,rfl,rfl,s.tup h1,s.tup h2,hx,by rw[r1.1,r2.1];exact h.2,λz=>?_,λ_ p hp=>?_⟩)
   ·subst z;have hm:m=[]:=by have:=r2.1;simpa using this.symm
    subst hm;rw[Zav] at P;exact P _ F H (Up.refl s) ha
   ·have un:=Up.new (o:=.tup (xs++ys)) s hp;exact P _ _ _ un (.tup aX (r1.append r2).1 ((r1.append r2).up un.ff).2)
  ·cases e
theorem kY:R2M C (aF K) (aF K) (aF K) Sg je:=by
 intro F H x y a b res Q s ha hb e P;have inv:(∃ i j,a=.int i/\b=.int j)\/(∃ z n,a=.str z/\b=.int n):=by
  clear P ha hb
  cases a<;>first|exact noS e|(cases b<;>first|exact noS e|exact .inl ⟨_,_,rfl,rfl⟩|exact .inr ⟨_,_,rfl,rfl⟩)
 rcases inv with⟨i,j,rfl,rfl⟩|⟨z,n,rfl,rfl⟩
 ·cases Rep.bR ha;cases Rep.bR hb;have e:(if LK i j=true then some (Res.ok (PV.int (i*j))) else none)=some res:=e;split at e
  ·rename_i h;cases e;exact .inl ⟨i,j,rfl,rfl,We h,P _ F H (Up.refl s) .int⟩
  ·cases e
 ·cases Rep.cC ha;cases Rep.bR hb;have e:(if -(2^63)<=n/\n<2^63/\z.length*n.toNat<=sizeLine then some (Res.ok (PV.str (Ug z n.toNat))) else none)=some res:=e;split at e
  ·rename_i h;cases e;exact .inr ⟨z,n,rfl,rfl,h.1,h.2.1,h.2.2,P _ F H (Up.refl s) .str⟩
  ·cases e
theorem CW:R2M C (aF K) (aF K) (aF K) V9 wG:=by
 intro F H x y a b res Q s ha hb e P;have inv:(∃ i j,a=.int i/\b=.int j)\/(∃ i j,a=.str i/\b=.str j):=by
  clear P ha hb
  cases a<;>first|exact noS e|(cases b<;>first|exact noS e|exact .inl ⟨_,_,rfl,rfl⟩|exact .inr ⟨_,_,rfl,rfl⟩)
 rcases inv with⟨i,j,rfl,rfl⟩|⟨i,j,rfl,rfl⟩
 ·cases Rep.bR ha;cases Rep.bR hb;cases e;exact .inl ⟨i,j,rfl,rfl,P _ F H (Up.refl s) .bl⟩
 ·cases Rep.cC ha;cases Rep.cC hb;cases e;exact .inr ⟨i,j,rfl,rfl,P _ F H (Up.refl s) .bl⟩
theorem Qi:R2M C (aF K) (aF K) (aF K) Wa Ga:=by
 intro F H x y a b res Q s ha hb e P;have inv:(∃ i j,a=.int i/\b=.int j)\/(∃ i j,a=.str i/\b=.str j):=by
  clear P ha hb
  cases a<;>first|exact noS e|(cases b<;>first|exact noS e|exact .inl ⟨_,_,rfl,rfl⟩|exact .inr ⟨_,_,rfl,rfl⟩)
 rcases inv with⟨i,j,rfl,rfl⟩|⟨i,j,rfl,rfl⟩
 ·cases Rep.bR ha;cases Rep.bR hb;cases e;exact .inl ⟨i,j,rfl,rfl,P _ F H (Up.refl s) .bl⟩
 ·cases Rep.cC ha;cases Rep.cC hb;cases e;exact .inr ⟨i,j,rfl,rfl,P _ F H (Up.refl s) .bl⟩
theorem lF:R2M C (aH K) (aH K) (aF K) (V6 K) iC:=by
 intro F H x y a b res Q s ha hb e P;unfold iC at e;split at e
 ·rename_i r h;cases e;exact⟨a,b,r,ha,hb,h,P _ F H (Up.refl s) .bl⟩
 ·cases e
theorem zY:R2M C (aH K) (aH K) (aF K) (V7 K) rW:=by
 intro F H x y a b res Q s ha hb e P;unfold rW at e;split at e
 ·rename_i r h;cases e;exact⟨a,b,r,ha,hb,h,P _ F H (Up.refl s) .bl⟩
 ·cases e
theorem HW:R2M C (aH K) (aH K) (aF K) (HQ K) oJ:=by
 intro F H x y a b res Q s ha hb e P;unfold oJ at e;split at e
 ·rename_i r h;cases e
  match b,h with
  |.lst l,h=>exact .inl ⟨a,l,r,ha,.inl hb,h,P _ F H (Up.refl s) .bl⟩
  |.tup l,h=>exact .inl ⟨a,l,r,ha,.inr hb,h,P _ F H (Up.refl s) .bl⟩
  |.str j,h=>
   match a,h with
   |.str i,h=>
    cases h;exact .inr ⟨i,j,Rep.cC ha,Rep.cC hb,P _ F H (Up.refl s) .bl⟩
 ·cases e
theorem CZ{v:V}{p:PV}(h:Rep K F v p):decide (v=.non)=p.pP:=by
 cases h<;>first|rfl|exact Zas (by intro z;cases z)
theorem Su:R2M C (aH K) (aF K) (aF K) (λx y H Q=>y=.non/\Q (.bl (decide (x=.non))) H) HS:=by
 intro F H x y a b res Q s ha hb e P
 match b,e with
 |.non,e=>
  cases e;rw[CZ ha];exact⟨Rep.fW hb,P _ F H (Up.refl s) .bl⟩
theorem Ui:R2M C (aH K) (aF K) (aF K) (λx y H Q=>y=.non/\Q (.bl (!decide (x=.non))) H) Gb:=by
 intro F H x y a b res Q s ha hb e P
 match b,e with
 |.non,e=>
  cases e;rw[CZ ha];exact⟨Rep.fW hb,P _ F H (Up.refl s) .bl⟩
theorem zZ{xs:List V}{l:List PV}{i:Int}{p:PV}(r:b8 K F xs l)(h:atI l i=some p):∃ v,atI xs i=some v/\Rep K F v p:=by
 unfold atI at h ⊢;rw[r.1];cases e:ixN l.length i with
 |none=>rw[e] at h;cases h
 |some j=>
  rw[e] at h;exact r.get h
theorem ud{x:Option PV}{res:Res PV}(h:ofO x=some res):∃ p,x=some p/\res=.ok p:=by
 cases x with
 |none=>cases h
 |some p=>cases h;exact⟨p,rfl,rfl⟩
theorem bu:R2M C (aF K) (aF K) (aF K) (rIx K) aY:=by
 intro F H x y a b res Q s ha hb e P;have inv:(∃ l i,a=.lst l/\b=.int i)\/(∃ l i,a=.tup l/\b=.int i)\/(∃ z i,a=.str z/\b=.int i):=by
  clear P ha hb
  cases a<;>first|exact noS e|(cases b<;>first|exact noS e|exact .inl ⟨_,_,rfl,rfl⟩|exact .inr (.inl ⟨_,_,rfl,rfl⟩)|exact .inr (.inr ⟨_,_,rfl,rfl⟩))
 rcases inv with⟨l,i,rfl,rfl⟩|⟨l,i,rfl,rfl⟩|⟨z,i,rfl,rfl⟩
 ·cases Rep.bR hb;obtain⟨p,e1,rfl⟩:=ud e;obtain⟨a1,xs,rfl,h1,r1⟩:=Rep.d7 ha;obtain⟨v,e2,rv⟩:=zZ r1 e1;exact .inl ⟨a1,xs,i,v,rfl,rfl,s.seq h1,e2,P _ F H (Up.refl s) rv⟩
 ·cases Rep.bR hb;obtain⟨p,e1,rfl⟩:=ud e;obtain⟨a1,xs,rfl,h1,r1⟩:=Rep.dF ha;obtain⟨v,e2,rv⟩:=zZ r1 e1;exact .inr (.inl ⟨a1,xs,i,v,rfl,rfl,s.tup h1,e2,P _ F H (Up.refl s) rv⟩)
 ·cases Rep.bR hb;cases Rep.cC ha;have e:(if z.length<=sizeLine then ofO ((atI z.cps.toList i).map λc=>PV.str ⟨#[c]⟩) else none)=some res:=e;split at e
  ·rename_i hz;obtain⟨p,e1,rfl⟩:=ud e;cases e2:atI z.cps.toList i with
   |none=>rw[e2] at e1;cases e1
   |some c=>
    rw[e2] at e1;cases e1;exact .inr (.inr ⟨z,i,c,rfl,rfl,hz,e2,P _ F H (Up.refl s) .str⟩)
  ·cases e
theorem Dc:R2M C (aV K) (aF K) (aF K) (rIx K) wH:=by
 intro F H x y a b res Q s ha hb e P
 match b,e with
 |.int i,e=>
  cases Rep.bR hb;obtain⟨p,e1,rfl⟩:=ud e;obtain⟨a1,xs,rfl,h1,r1⟩:=ha;obtain⟨v,e2,rv⟩:=zZ r1 e1;exact .inl ⟨a1,xs,i,v,rfl,rfl,h1,e2,P _ F H (Up.refl s) rv⟩
def wJ(l m:List PV):Option (Res PV):=if l.length+m.length<=sizeLine then some (.ok (.lst (l++m))) else none
def Wg(K:PySem.W.Frag):R2:=λx y H Q=>∃ l b xs zs,x=.ref l/\y=.ref b/\SqL K H l xs/\SqL K H b zs/\xs.length+zs.length<=sizeLine/\∀ p,H p=none->Q (.ref p) (upd H p (.lst (xs++zs)))
theorem HX:R2O K C (aV K) (aV K) (Wg K) wJ:=by
 intro F H x y a b res Q s ha hb e P;unfold wJ at e;split at e
 ·rename_i h;cases e;obtain⟨a1,xs,rfl,h1,r1⟩:=ha;obtain⟨a2,ys,rfl,h2,r2⟩:=hb;refine⟨a1,a2,xs,ys,rfl,rfl,h1,h2,by rw[r1.1,r2.1];exact h,λp hp=>?_⟩
  exact P p F _ (Up.CJ s hp) hp (s.free hp) ⟨_,aX,r1.append r2⟩
 ·cases e
variable{ta tb te:TE}
def LR:PV->PV->Option (Res PV)
 |.lst l,.int k=>if -(2^63)<=k/\k<2^63/\l.length*k.toNat<=sizeLine then some (.ok (.lst (List.replicate k.toNat l).flatten)) else none
 |_,_=>none
def Qj(f g:Fn PV):Fn PV:=m2 LR f g
theorem b8.rep{xs:List V}{l:List PV}(h:b8 K F xs l):∀ n:Nat,b8 K F (List.replicate n xs).flatten (List.replicate n l).flatten
 |0=>.nil
 |n+1=>by
  rw[ZaN,Zbf,ZaN,Zbf];exact h.append (b8.rep h n)
theorem Uj{f g:Fn PV}(ha:MO K C ta f)(hb:MJ K C (aF K) tb g):MO K C (tOp VR ta tb) (Qj f g):=by
 intro F H σ ρ Q r R e P;refine ha.run R e P λp a F1 H1 hk u n1 n2 w=>?_;refine hb.run (R.up u) hk (P.oA u) λq v F2 H2 hk2 u2 b=>?_
 match p,q,hk2 with
 |.lst l,.int k,hk2=>
  cases Rep.bR b;have hk2:(if -(2^63)<=k/\k<2^63/\l.length*k.toNat<=sizeLine then some (Res.ok (PV.lst (List.replicate k.toNat l).flatten)) else none)=some r:=hk2;split at hk2
  ·rename_i h;cases hk2;obtain⟨xs,e1,r1⟩:=w;refine⟨a,k,xs,rfl,rfl,u2.hh _ _ e1,h.1,h.2.1,by rw[r1.1];exact h.2.2,λp hp=>?_⟩
   exact P p F2 _ (u.trans (u2.trans (Up.CJ u2.fh hp))) ((u.hh.trans u2.hh).free hp) (u2.fh.free hp) ⟨_,aX,(r1.up u2.ff).rep _⟩
  ·cases hk2
def MP'(K:PySem.W.Frag)(C:Cg)(t:TO)(f:Fn (Option Int)):Prop:=
 ∀ F H σ ρ Q r,RE K C.toCf F H σ ρ->f ρ=some r->Pr C F (λo=>∀ F' H',Up F H F' H'->Q o H') r->t σ H Q
def mPn:Fn (Option Int):=λ_=>some (.ok none)
def asInt:PV->Option (Res (Option Int))
 |.int i=>some (.ok (some i))
 |_=>none
theorem jV:MP' K C Hy mPn:=λF H σ ρ Q r R e P=>by
 cases e;exact P F H (Up.refl R.rb.sub)
theorem fY{f:Fn PV}(h:MJ K C (aF K) te f):MP' K C (R0 te) (m1 asInt f):=by
 intro F H σ ρ Q r R e P;refine h.run R e P λp v F1 H1 hk u a=>?_
 match p,hk with
 |.int i,hk=>
  cases Rep.bR a;cases hk;exact⟨i,rfl,P F1 H1 u⟩
theorem MP'.run{β:Type}{t:TO}{f:Fn (Option Int)}{σ:St}{ρ:Rho}{Q:Option Int->Hp->Prop}{ok:β->Prop}{k:Option Int->Option (Res β)}{r:Res β}(h:MP' K C t f)(R:RE K C.toCf F H σ ρ)(hb:bnd (f ρ) k=some r)(P:Pr C F ok r)
  (go:∀ o F1 H1,k o=some r->Up F H F1 H1->Q o H1):t σ H Q:=by
 rcases cV hb with⟨z,e,rfl⟩|⟨p,e,hk⟩
 ·exact h F H σ ρ Q _ R e P
 ·exact h F H σ ρ Q _ R e λF1 H1 u=>go p F1 H1 hk u
def nG(l:List PV)(lo hi:Option Int):List PV:=(l.drop (HT.sIx l.length 0 lo)).take (HT.sIx l.length l.length hi-HT.sIx l.length 0 lo)
theorem b8.cut{xs:List V}{l:List PV}(h:b8 K F xs l)(lo hi:Option Int):b8 K F (zH xs lo hi) (nG l lo hi):=by
 unfold zH nG;rw[h.1];exact(h.drop _).take _
def z6(f:Fn (List PV))(lo hi:Fn (Option Int)):Fn PV:=λρ=>bnd (f ρ) λl=>bnd (lo ρ) λa=>bnd (hi ρ) λb=>some (.ok (.lst (nG l a b)))
theorem uQ{f:Fn (List PV)}{lo hi:Fn (Option Int)}{tl th:TO}(h:MJ K C (aV K) te f)(hl:MP' K C tl lo)(hh:MP' K C th hi):MO K C (tSl (VM K) te tl th) (z6 f lo hi):=by
 intro F H σ ρ Q r R e P;refine h.run R e P λl v F1 H1 hk u a=>?_;refine hl.run (R.up u) hk (P.oA u) λo F2 H2 hk2 u2=>?_;refine hh.run (R.up (u.trans u2)) hk2 (P.oA (u.trans u2)) λo2 F3 H3 hk3 u3=>?_;cases hk3;obtain⟨b,xs,rfl,h1,r1⟩:=a;have u23:=u2.trans u3;refine⟨b,xs,rfl,u23.hh.seq h1,λp hp=>?_⟩;exact P p F3 _ (u.trans (u23.trans (Up.CJ u3.fh hp))) ((u.hh.trans u23.hh).free hp) (u3.fh.free hp) ⟨_,aX,(r1.up u23.ff).cut _ _⟩
def Ma(a b:Option Int):PV->Option (Res PV)
 |.str z=>if z.length<=sizeLine then some (.ok (.str (Txt.slice z a b))) else none
 |_=>none
def JQ(f:Fn PV)(lo hi:Fn (Option Int)):Fn PV:=λρ=>bnd (f ρ) λz=>bnd (lo ρ) λa=>bnd (hi ρ) λb=>Ma a b z
theorem Gd{f:Fn PV}{lo hi:Fn (Option Int)}{tl th:TO}(h:MJ K C (aF K) te f)(hl:MP' K C tl lo)(hh:MP' K C th hi):MJ K C (aF K) (tSl V3 te tl th) (JQ f lo hi):=by
 intro F H σ ρ Q r R e P;refine h.run R e P λl v F1 H1 hk u a=>?_;refine hl.run (R.up u) hk (P.later u) λo F2 H2 hk2 u2=>?_;refine hh.run (R.up (u.trans u2)) hk2 (P.later (u.trans u2)) λo2 F3 H3 hk3 u3=>?_
 match l,hk3 with
 |.str z,hk3=>
  cases Rep.cC a;have hk3:(if z.length<=sizeLine then some (Res.ok (PV.str (Txt.slice z o o2))) else none)=some r:=hk3;split at hk3
  ·rename_i hz;cases hk3;exact⟨z,rfl,hz,P _ F3 H3 (u.trans (u2.trans u3)) .str⟩
  ·cases hk3
def Mf(a b:Option Int):PV->Option (Res PV)
 |.tup l=>if ¬(HT.sIx l.length 0 a=0/\HT.sIx l.length l.length b=l.length) then some (.ok (.tup (nG l a b))) else none
 |_=>none
def Qk(f:Fn PV)(lo hi:Fn (Option Int)):Fn PV:=λρ=>bnd (f ρ) λz=>bnd (lo ρ) λa=>bnd (hi ρ) λb=>Mf a b z
theorem Uk{f:Fn PV}{lo hi:Fn (Option Int)}{tl th:TO}(h:MJ K C (aF K) te f)(hl:MP' K C tl lo)(hh:MP' K C th hi):MJ K C (aF K) (tSl (VG K) te tl th) (Qk f lo hi):=by
 intro F H σ ρ Q r R e P;refine h.run R e P λl v F1 H1 hk u a=>?_;refine hl.run (R.up u) hk (P.later u) λo F2 H2 hk2 u2=>?_;refine hh.run (R.up (u.trans u2)) hk2 (P.later (u.trans u2)) λo2 F3 H3 hk3 u3=>?_
 match l,hk3 with
 |.tup l,hk3=>
  have hk3:(if ¬(HT.sIx l.length 0 o=0/\HT.sIx l.length l.length o2=l.length) then some (Res.ok (PV.tup (nG l o o2))) else none)=some r:=hk3;split at hk3
  ·rename_i hz;cases hk3;obtain⟨b,xs,rfl,h1,r1⟩:=Rep.dF a;have u23:=u2.trans u3;refine⟨b,xs,rfl,(u23.ff.trans u3.fh).tup h1,by rw[r1.1];exact hz,λp hp=>?_⟩
   have un:=Up.new (o:=.tup (zH xs o o2)) u3.fh hp;have rc:=(r1.up u23.ff).cut o o2;exact P _ _ _ (u.trans (u23.trans un)) (.tup aX rc.1 (rc.up un.ff).2)
  ·cases hk3
end
def Mi(K:PySem.W.Frag)(tl:TE):TI:=λσ H R=>tl σ H λx H1=>(∃ a,x=.ref a/\(∃ xs,SqL K H1 a xs)/\R (Itl K a) H1)\/(∃ a,x=.ref a/\(∃ xs,SqT K H1 a xs)/\R (Itt K a) H1)\/∃ z,x=.str z/\R (Itf (sgn z) z.cps.size) H1
theorem jW{X:Cx}{tg l:Expr}{tl:TE}(hl:PE X l tl):PI X tg l (Mi X.K tl):=by
 intro pins s σ H R I h;refine thn (hl pins s σ H _ I h) ?_;rintro v s1 ⟨x,H1,I1,r1,q1⟩;have keep:∀ (o:Obj),Inv X pins σ H1 { s1 with heap:=s1.heap.push o }:=λo=>I1.kept (t':=s1.toks) λb ob e=>Zac _ e;have fp:∀ b∈[s1.heap.objs.size],wk X pins H1 b:=λb hb=>by
  have e:b=s1.heap.objs.size:=by simpa using hb
  subst e;exact I1.KY (Zag _) (I1.hok.fresh (Zag _))
 rcases q1 with⟨a,rfl,⟨xs,hq⟩,q⟩|⟨a,rfl,⟨xs,hq⟩,q⟩|⟨z,rfl,q⟩
 ·cases r1;obtain⟨its,rv,p,hz⟩:=I1.list hq;exact wpAny_pyIter_list p.isList ⟨_,[_],_,_,H1,rfl,keep _,Jp a _,⟨_,Zar _ rfl,rfl,rfl⟩,fp,q⟩
 ·cases r1;obtain⟨its,rv,p,hz⟩:=I1.tuple hq;exact wpAny_pyIter_tuple (show s1.heap.IsTuple a its.toArray from p) ⟨_,[_],_,_,H1,rfl,keep _,Fl a _,⟨_,Zar _ rfl,rfl,rfl⟩,fp,q⟩
 ·obtain⟨t,rfl⟩:=r1;exact wpAny_pyIter_strU ⟨_,[_],_,_,H1,rfl,keep _,Ld _ z t,⟨_,Zar _ rfl,rfl,rfl⟩,fp,q⟩
section
variable{K:PySem.W.Frag}{C:Cg}{F H:Hp}{σ:St}{ρ:Rho}{te:TE}{tA:TA}{a:Addr}{xs:List V}{l:List PV}
def signs(z:Str):List PV:=z.cps.toList.map λc=>.str ⟨#[c]⟩
def pQ:PV->Option (Res (List PV))
 |.lst l=>some (.ok l)
 |.tup l=>some (.ok l)
 |.str z=>some (.ok (signs z))
 |_=>none
theorem Mj(h:SqL K F a xs)(r:b8 K F xs l):ItR K (Itl K a) F l where
 stop:=λF' H' s s'=>⟨xs,(s.trans s').seq h,by rw[r.1];exact Zag _⟩
 go:=λi F' H' hi s s'=>⟨xs,xs[i]'(by rw[r.1];exact hi),(s.trans s').seq h,by simp⟩
 yld:=λi F' H' x H'' hi s s' y=>by
  obtain⟨rfl,y⟩:=y;have e:=y xs ((s.trans s').seq h);obtain⟨p,e2,rp⟩:=r.got e;exact⟨F',p,Up.refl s',e2,rp.up s⟩
theorem Ql(h:SqT K F a xs)(r:b8 K F xs l):ItR K (Itt K a) F l where
 stop:=λF' H' s s'=>⟨xs,(s.trans s').tup h,by rw[r.1];exact Zag _⟩
 go:=λi F' H' hi s s'=>⟨xs,xs[i]'(by rw[r.1];exact hi),(s.trans s').tup h,by simp⟩
 yld:=λi F' H' x H'' hi s s' y=>by
  obtain⟨rfl,y⟩:=y;have e:=y xs ((s.trans s').tup h);obtain⟨p,e2,rp⟩:=r.got e;exact⟨F',p,Up.refl s',e2,rp.up s⟩
theorem Qm(z:Str):ItR K (Itf (sgn z) z.cps.size) F (signs z) where
 stop:=λF' H' s s'=>by simp[signs,Itf]
 go:=λi F' H' hi s s'=>by simpa[signs,Itf] using hi
 yld:=λi F' H' x H'' hi s s' y=>by
  obtain⟨rfl,rfl⟩:=y;have hi':i<z.cps.size:=by simpa[signs] using hi
  refine⟨F',.str ⟨#[z.cps.getD i 0]⟩,Up.refl s',?_,.str⟩;unfold signs;rw[Zaf,Array.getElem?_toList,Zbb,Array.getElem?_eq_getElem hi'];rfl
theorem lK{f:Fn PV}(h:MJ K C (aF K) te f):MI K C (Mi K te) (m1 pQ f):=by
 intro F H σ ρ R' r R e P;refine h.run R e P λp v F1 H1 hk u a=>?_
 match p,hk with
 |.lst l,hk=>
  cases hk;obtain⟨b,xs,rfl,h1,r1⟩:=Rep.d7 a;exact .inl ⟨b,rfl,⟨xs,u.fh.seq h1⟩,P _ F1 H1 u (Mj h1 r1)⟩
 |.tup l,hk=>
  cases hk;obtain⟨b,xs,rfl,h1,r1⟩:=Rep.dF a;exact .inr (.inl ⟨b,rfl,⟨xs,u.fh.tup h1⟩,P _ F1 H1 u (Ql h1 r1)⟩)
 |.str z,hk=>
  cases hk;cases Rep.cC a;exact .inr (.inr ⟨z,rfl,P _ F1 H1 u (Qm z)⟩)
def mU(lo:Int)(n:Nat):List PV:=(List.range n).map λ(i:Nat)=>.int (lo+(i:Int))
theorem cJ(lo:Int)(n:Nat):(mU lo n).length=n:=by simp[mU]
theorem HY(lo:Int)(n:Nat):ItR K (Itr lo n) F (mU lo n) where
 stop:=λF' H' s s'=>by rw[cJ];exact Zag _
 go:=λi F' H' hi s s'=>by rw[cJ] at hi;exact hi
 yld:=λi F' H' x H'' hi s s' y=>by
  obtain⟨rfl,rfl⟩:=y;rw[cJ] at hi;refine⟨F',.int (lo+i),Up.refl s',?_,.int⟩;unfold mU;rw[Zaf,ZaO hi];rfl
def jg:List PV->Option (Res (List PV))
 |[.int j]=>if -(2^62)<=j/\j<2^62 then some (.ok (mU 0 j.toNat)) else none
 |_=>none
def z7:List PV->Option (Res (List PV))
 |[.int i,.int j]=>if -(2^62)<=i/\i<2^62/\-(2^62)<=j/\j<2^62 then some (.ok (mU i (j-i).toNat)) else none
 |_=>none
theorem iD{f:Fn (List PV)}(h:MA K C tA f):MI K C (RV tA) (m1 jg f):=by
 intro F H σ ρ R' r R e P;refine h.run R e P λl xs F1 H1 hk u a=>?_;have inv:∃ j,l=[.int j]:=by
  clear P u a
  rcases l with _|⟨x,_|⟨y,l⟩⟩<;>first|exact noS hk|(cases x<;>first|exact noS hk|exact⟨_,rfl⟩)
 obtain⟨j,rfl⟩:=inv;have hk:(if -(2^62)<=j/\j<2^62 then some (Res.ok (mU 0 j.toNat)) else none)=some r:=hk;split at hk
 ·rename_i hj;cases hk;obtain⟨v,ys,rfl,r1,r2⟩:=a.gh;cases r2.jT;cases Rep.bR r1;exact⟨j,rfl,hj.1,hj.2,P _ F1 H1 u (HY 0 j.toNat)⟩
 ·cases hk
theorem Ia{f:Fn (List PV)}(h:MA K C tA f):MI K C (RW tA) (m1 z7 f):=by
 intro F H σ ρ R' r R e P;refine h.run R e P λl xs F1 H1 hk u a=>?_;have inv:∃ i j,l=[.int i,.int j]:=by
  clear P u a
  rcases l with _|⟨x,_|⟨y,_|⟨z,l⟩⟩⟩<;>first|exact noS hk|(cases x<;>first|exact noS hk|(cases y<;>first|exact noS hk|exact⟨_,_,rfl⟩))
 obtain⟨i,j,rfl⟩:=inv;have hk:(if -(2^62)<=i/\i<2^62/\-(2^62)<=j/\j<2^62 then some (Res.ok (mU i (j-i).toNat)) else none)=some r:=hk;split at hk
 ·rename_i hj;cases hk;obtain⟨v,ys,rfl,r1,r2⟩:=a.gh;obtain⟨w,zs,rfl,r3,r4⟩:=r2.gh;cases r4.jT;cases Rep.bR r1;cases Rep.bR r3;exact⟨i,j,rfl,hj,P _ F1 H1 u (HY i (j-i).toNat)⟩
 ·cases hk
def kZ(l:List PV):List PV:=l.mapIdx λ(i:Nat) x=>.tup [.int i,x]
def oK:List PV->Option (Res (List PV))
 |[.lst l]=>some (.ok (kZ l))
 |_=>none
theorem oM{f:Fn (List PV)}(h:MA K C tA f):MI K C (R5 K tA) (m1 oK f):=by
 intro F H σ ρ R' r R e P;refine h.run R e P λl xs F1 H1 hk u a=>?_;have inv:∃ m,l=[.lst m]:=by
  clear P u a
  rcases l with _|⟨x,_|⟨y,l⟩⟩<;>first|exact noS hk|(cases x<;>first|exact noS hk|exact⟨_,rfl⟩)
 obtain⟨l,rfl⟩:=inv;cases hk;obtain⟨v,ys,rfl,r1,r2⟩:=a.gh;cases r2.jT;obtain⟨b,xs,rfl,h1,r1⟩:=Rep.d7 r1;have hl:(kZ l).length=l.length:=by simp[kZ]
 refine⟨b,rfl,⟨xs,u.fh.seq h1⟩,P _ F1 H1 u ⟨λF' H' s s'=>?_,λi F' H' hi s s'=>?_,λi F' H' x H'' hi s s' y=>?_⟩⟩
 ·exact⟨xs,(s.trans s').seq h1,by rw[hl,r1.1];exact Zag _⟩
 ·rw[hl] at hi;exact⟨xs,xs[i]'(by rw[r1.1];exact hi),(s.trans s').seq h1,by simp⟩
 ·obtain⟨p,y,hp,rfl,rfl,hy⟩:=y;have e:=hy xs ((s.trans s').seq h1);obtain⟨q,e2,rq⟩:=r1.got e;have un:=Up.new (o:=.tup [.int i,y]) s' hp;refine⟨_,.tup [.int i,q],un,?_,.tup aX rfl λj x p hx hp'=>?_⟩
  ·unfold kZ;rw[Zbe,e2];rfl
  ·match j with
   |0=>simp at hx hp';subst hx hp';exact .int
   |1=>simp at hx hp';subst hx hp';exact rq.up (s.trans un.ff)
   |j+2=>simp at hx
def NoO(ρ:Rho):Prop:=∀ (j:Nat) q,ρ[j]?≠some (some (.ow q))/\ρ[j]?≠some (some (.dp q))
def Wr(T:List Nat)(tg:PV->Rho->Option Rho):Prop:=∀ x ρ ρ',tg x ρ=some ρ'->ρ'.length=ρ.length/\(∀ j,j ∉ T->ρ'[j]?=ρ[j]?)/\(NoO ρ->NoO ρ')
def WrS(T:List Nat)(tg:List PV->Rho->Option Rho):Prop:=∀ x ρ ρ',tg x ρ=some ρ'->ρ'.length=ρ.length/\(∀ j,j ∉ T->ρ'[j]?=ρ[j]?)/\(NoO ρ->NoO ρ')
theorem gY(i:Nat):Wr [i] (gN i):=λx ρ ρ' e=>by
 cases e;refine⟨by simp,λj hj=>?_,λh j q=>⟨λe=>?_,λe=>?_⟩⟩
 ·rw[Zah (by simpa using Za6 (by simpa using hj))]
 ·rcases get_set e with⟨_,e2⟩|⟨_,e2⟩
  ·cases e2
  ·exact(h j q).1 e2
 ·rcases get_set e with⟨_,e2⟩|⟨_,e2⟩
  ·cases e2
  ·exact(h j q).2 e2
theorem Qn:WrS [] gsNil:=λx ρ ρ' e=>by
 cases x with
 |nil=>cases e;exact⟨rfl,λ_ _=>rfl,λh=>h⟩
 |cons p l=>cases e
theorem De{T U:List Nat}{t:PV->Rho->Option Rho}{u:List PV->Rho->Option Rho}(h:Wr T t)(hs:WrS U u):WrS (T++U) (gsCons t u):=λx ρ ρ' e=>by
 cases x with
 |nil=>cases e
 |cons p l=>
  have e:(match t p ρ with
   |some ρ'=>u l ρ'
   |none=>none)=some ρ':=e
  split at e
  ·rename_i ρ1 h1;obtain⟨a1,a2,a3⟩:=h p ρ ρ1 h1;obtain⟨b1,b2,b3⟩:=hs l ρ1 ρ' e;exact⟨b1.trans a1,λj hj=>(b2 j λz=>hj (ZaC _ z)).trans (a2 j λz=>hj (List.mem_append_left _ z)),λz=>b3 (a3 z)⟩
  ·cases e
theorem Ul{n:Nat}{U:List Nat}{u:List PV->Rho->Option Rho}(hs:WrS U u):Wr U (gT n u):=λx ρ ρ' e=>by
 unfold gT at e;split at e
 ·split at e
  ·exact hs _ ρ ρ' e
  ·cases e
 ·cases e
def shOnly:Option Sl->Option Sl
 |some (.sh p)=>some (.sh p)
 |_=>none
def frR(fr:List (Option Nat))(ρ:Rho):Rho:=fr.map λo=>match o with
 |some i=>match ρ[i]? with
  |some v=>shOnly v
  |none=>none
 |none=>none
def gH(tg:PV->Rho->Option Rho)(tst:Fn Bool)(el:Fn PV)(ρb:Rho):List PV->Option (Res (List PV))
 |[]=>some (.ok [])
 |x::xs=>match tg x ρb with
  |none=>none
  |some ρ1=>bnd (tst ρ1) λb=>if b=true then bnd (el ρ1) λp=>bnd (gH tg tst el ρb xs) λr=>some (.ok (p::r)) else gH tg tst el ρb xs
def jB(it:Fn (List PV))(fr:List (Option Nat))(tg:PV->Rho->Option Rho)(tst:Fn Bool)(el:Fn PV):Fn PV:=λρ=>bnd (it ρ) λl=>
 if l.length<=sizeLine then bnd (gH tg tst el (frR fr ρ) l) λr=>some (.ok (.lst r)) else none
def qj:Fn Bool:=λ_=>some (.ok true)
theorem mW:MT K C V1 qj:=λF H σ ρ Q r R e P=>by
 cases e;exact P F H (Up.refl R.rb.sub)
theorem RE.block(R:RE K C.toCf F H σ ρ)(fr:List (Option Nat)):RE K C.toCf F H (frσ fr σ) (frR fr ρ)/\NoO (frR fr ρ):=by
 have nd:∀ (j:Nat) q,(frR fr ρ)[j]?≠some (some (.dp q)):=λj q e=>by
  unfold frR at e;rw[Zaf] at e;cases e1:fr[j]? with
  |none=>rw[e1] at e;cases e
  |some o=>
   rw[e1] at e;cases o with
   |none=>cases e
   |some i=>
    simp only[Option.map_some,Option.some.injEq] at e;split at e
    ·rename_i v hv;unfold shOnly at e;split at e<;>cases e
    ·cases e
 have no:∀ (j:Nat) q,(frR fr ρ)[j]?≠some (some (.ow q)):=λj q e=>by
  unfold frR at e;rw[Zaf] at e;cases e1:fr[j]? with
  |none=>rw[e1] at e;cases e
  |some o=>
   rw[e1] at e;cases o with
   |none=>cases e
   |some i=>
    simp only[Option.map_some,Option.some.injEq] at e;split at e
    ·rename_i v hv;unfold shOnly at e;split at e<;>cases e
    ·cases e
 refine⟨⟨R.rb,by unfold frσ frR;simp,λj p e=>?_,λj p e=>absurd e (no j p),λi j p q a e=>absurd e (no i p),_,RD.no nd⟩,λj q=>⟨no j q,nd j q⟩⟩
 unfold frR at e;rw[Zaf] at e;unfold frσ;rw[Zaf];cases e1:fr[j]? with
 |none=>rw[e1] at e;cases e
 |some o=>
  rw[e1] at e;cases o with
  |none=>cases e
  |some i=>
   simp only[Option.map_some,Option.some.injEq] at e ⊢;split at e
   ·rename_i v hv;unfold shOnly at e;split at e
    ·cases e;obtain⟨w,e2,e3⟩:=R.sh i _ hv;exact⟨w,by rw[e2],e3⟩
    ·cases e
   ·cases e
theorem RE.other(R:RE K C.toCf F H σ ρ){D:Addr}{o:HO}(hf:F D=none)(h0:C.H0 D=none)(no:NoO ρ):RE K C.toCf F (upd H D o) σ ρ where
 rb:=⟨λb u q=>by rw[aQ (cD q hf)];exact R.rb.sub b u q,λb u q n=>by rw[aQ (cD q h0)];exact R.rb.keep b u q n,R.rb.new,λb hb=>⟨by
  have:=(R.rb.ios b hb);by_cases hbD:b=D
  ·subst hbD;exact absurd h0 this.2
  ·rw[aQ hbD];exact this.1,(R.rb.ios b hb).2⟩⟩
 len:=R.len
 sh:=R.sh
 ow:=λi p e=>absurd e (no i p).1
 dis:=λi j p q a e=>absurd e (no i p).1
 dd:=⟨_,RD.no λi p=>(no i p).2⟩
theorem RE.weak{ρ':Rho}(R:RE K C.toCf F H σ ρ')(hl:ρ.length=ρ'.length)(h:∀ (j:Nat) s,ρ[j]?=some (some s)->ρ'[j]?=some (some s)):RE K C.toCf F H σ ρ where
 rb:=R.rb
 len:=by rw[R.len,hl]
 sh:=λi p e=>R.sh i p (h i _ e)
 ow:=λi p e=>R.ow i p (h i _ e)
 dis:=λi j p q a e e'=>R.dis i j p q a (h i _ e) (h j _ e')
 dd:=let⟨P,d⟩:=R.dd;⟨P,d.own,d.dis,λi j q b z e=>d.ow i j q b z (h j _ e),λi p e=>d.dp i p (h i _ e)⟩
structure ItH(K:PySem.W.Frag)(J:It)(F H:Hp)(l:List PV):Prop where
 stop:∀ F' H',bf F F'->bf F' H'->bf H H'->J.stop l.length H'
 go:∀ i F' H',i<l.length->bf F F'->bf F' H'->bf H H'->J.go i H'
 yld:∀ i F' H' x H'',i<l.length->bf F F'->bf F' H'->bf H H'->J.yld i H' x H''->∃ F'' p,Up F' H' F'' H''/\l[i]?=some p/\Rep K F'' x p
def MIH(K:PySem.W.Frag)(C:Cg)(wi:TI)(f:Fn (List PV)):Prop:=
 ∀ F H σ ρ R' r,RE K C.toCf F H σ ρ->f ρ=some r->Pr C F (λl=>∀ J F' H',Up F H F' H'->ItH K J F' H' l->R' J H') r->wi σ H R'
theorem MI.h{wi:TI}{f:Fn (List PV)}(h:MI K C wi f):MIH K C wi f:=λF H σ ρ R' r R e P=>
 h F H σ ρ R' r R e (Pr.mono P (bf.refl _) λl q J F' H' u x=>q J F' H' u ⟨λa b c d _=>x.stop a b c d,λi a b hi c d _=>x.go i a b hi c d,λi a b y z hi c d _=>x.yld i a b y z hi c d⟩)
theorem Ml(h:SqL K H a xs)(r:b8 K F xs l):ItH K (Itl K a) F H l where
 stop:=λF' H' s s' t=>⟨xs,t.seq h,by rw[r.1];exact Zag _⟩
 go:=λi F' H' hi s s' t=>⟨xs,xs[i]'(by rw[r.1];exact hi),t.seq h,by simp⟩
 yld:=λi F' H' x H'' hi s s' t y=>by
  obtain⟨rfl,y⟩:=y;have e:=y xs (t.seq h);obtain⟨p,e2,rp⟩:=r.got e;exact⟨F',p,Up.refl s',e2,rp.up s⟩
theorem Mm{f:Fn (List PV)}(h:MJ K C (aV K) te f):MIH K C (Mi K te) f:=by
 intro F H σ ρ R' r R e P;refine h F H σ ρ _ r R e (Pr.mono P (bf.refl _) λl q v F1 H1 u x=>?_);obtain⟨b,xs,rfl,hs,hr⟩:=x;exact .inl ⟨b,rfl,⟨xs,hs⟩,q _ F1 H1 u (Ml hs hr)⟩
theorem uR{α β γ:Type}{x:Option (Res α)}{f:α->Option (Res β)}{g:β->Option (Res γ)}:bnd (bnd x f) g=bnd x λa=>bnd (f a) g:=by
 match x with
 |some (.ok a)=>rfl
 |some (.ex z)=>rfl
 |none=>rfl
theorem Df{wi:TI}{it:Fn (List PV)}{fr:List (Option Nat)}{gt:TG}{tg:PV->Rho->Option Rho}{T:List Nat}{tc:TT}{tst:Fn Bool}{el:Fn PV}(hi:MIH K C wi it)(hg:MG K C gt tg)(hT:Wr T tg)(ht:MT K C tc tst)(he:MJ K C (aF K) te el)
  (hfr:T.all (λj=>fr[j]?==some none)=true:=by rfl):MO K C (yH wi fr gt tc te) (jB it fr tg tst el):=by
 intro F H σ ρ Q r R e P;rcases cV e with⟨z,e1,rfl⟩|⟨l,e1,hk⟩
 ·exact hi F H σ ρ _ _ R e1 P
 split at hk
 case isFalse=>cases hk
 rename_i hlen;refine hi F H σ ρ _ _ R e1 λJ F1 H1 u hJ D hD=>?_;have R1:=R.up u;obtain⟨Rb,no⟩:=R1.block fr;have hD0:C.H0 D=none:=R1.rb.yK hD;have hFD:F1 D=none:=u.fh.free hD;have hρ:∀ (j:Nat),j∈T->(frR fr ρ)[j]?=some none:=λj hj=>by
  have:=Za1.mp hfr j hj;unfold frR;rw[Zaf,show fr[j]?=some none by simpa using this]
  rfl
 refine⟨λi m σ' H'=>∃ F' ys acc,m=l.length-i/\i<=l.length/\bf F1 F'/\(∀ b o,F' b=some o->F1 b=some o\/Frz H1 b o)/\bf H1 H'/\H' D=some (.lst ys)/\F' D=none/\b8 K F' ys acc/\acc.length<=i /\
   RE K C.toCf F' H' σ' (frR fr ρ)/\bnd (gH tg tst el (frR fr ρ) (l.drop i)) (λr=>some (.ok (.lst (acc++r))))=some r,
  ⟨l.length,F1,[],[],by simp,Zbh _,bf.refl _,λ_ _ q=>.inl q,gf hD,aX,hFD,.nil,Zag _,Rb.other hFD hD0 no,by rw[Za7];exact hk⟩,?_⟩
 rintro i m σ' H' ⟨F',ys,acc,rfl,hil,s1,fr1,sH,eD,nD,ra,hacc,R',e'⟩;by_cases hlt:i<l.length
 case neg=>
  have ei:i=l.length:=by omega
  subst ei;rw[List.drop_length] at e';have e':some (Res.ok (PV.lst (acc++[])))=some r:=e';rw[Zav] at e';cases e';exact .inl ⟨hJ.stop F' H' s1 R'.rb.sub sH,P D F' H' (u.trans ⟨s1,sH,fr1,R'.rb.sub⟩) (u.hh.free hD) nD ⟨ys,eD,ra⟩⟩
 refine .inr ⟨hJ.go i F' H' hlt s1 R'.rb.sub sH,λσ2 H2=>∃ F2 ys acc,bf F1 F2/\(∀ b o,F2 b=some o->F1 b=some o\/Frz H1 b o)/\bf H1 H2/\H2 D=some (.lst ys)/\F2 D=none/\b8 K F2 ys acc/\acc.length<=i+1 /\
   RE K C.toCf F2 H2 σ2 (frR fr ρ)/\bnd (gH tg tst el (frR fr ρ) (l.drop (i+1))) (λr=>some (.ok (.lst (acc++r))))=some r,
  λσ2 H2 ⟨F2,ys,acc,z⟩=>⟨l.length-(i+1),by omega,F2,ys,acc,rfl,hlt,z⟩,λx H'' y=>?_⟩
 obtain⟨F'',p,u2,ep,rx⟩:=hJ.yld i F' H' x H'' hlt s1 R'.rb.sub sH y;have ed:l.drop i=p::l.drop (i+1):=by
  rw[Zbd hlt];rw[Zad hlt] at ep;rw[Zaa ep]
 rw[ed,gH] at e';split at e'
 ·cases e'
 rename_i ρ1 h1;obtain⟨w1,w2,w3⟩:=hT p _ ρ1 h1;have no1:=w3 no;have weak:∀ (j:Nat) s,(frR fr ρ)[j]?=some (some s)->ρ1[j]?=some (some s):=λj s ej=>by
  rw[w2 j λz=>by rw[hρ j z] at ej;cases ej];exact ej
 refine hg F'' H'' σ' (frR fr ρ) x p ρ1 _ (R'.up u2) rx h1 λσ1 R1'=>?_;have stay:∀ {F3 H3:Hp},Up F' H' F3 H3->bf F1 F3/\(∀ b o,F3 b=some o->F1 b=some o\/Frz H1 b o)/\bf H1 H3/\H3 D=some (.lst ys)/\F3 D=none/\b8 K F3 ys acc:=λ{F3 H3} u3=>by
  refine⟨s1.trans u3.ff,λb o q=>?_,sH.trans u3.hh,u3.hh _ _ eD,?_,ra.up u3.ff⟩
  ·rcases u3.fr b o q with z|z
   ·exact fr1 b o z
   ·exact .inr (z.imp (λz=>sH.free z) id)
  ·cases q:F3 D with
   |none=>rfl
   |some o=>
    rcases u3.fr D o q with z|z|⟨ys,z⟩
    ·rw[nD] at z;cases z
    ·rw[eD] at z;cases z
    ·subst z;have w:=u3.fh _ _ q;rw[u3.hh _ _ eD] at w;cases w
 have Pl:∀ {F3 H3:Hp},Up F' H' F3 H3->∀ {z:PV},r=.ex z->PX C F3 z:=λ{F3 H3} u3 {z} ez=>by
  subst ez;exact PX.up P (u.ff.trans (s1.trans u3.ff))
 rw[uR] at e';rcases cV e' with⟨z',e4,ez⟩|⟨b,e4,e5⟩
 ·exact ht F'' H'' σ1 ρ1 _ _ R1' e4 (Pl u2 ez)
 refine ht F'' H'' σ1 ρ1 _ _ R1' e4 λF3 H3 u3=>?_;have u23:=u2.trans u3;cases b with
 |false=>
  rw[Zal (by decide)] at e5 ⊢
  obtain⟨a1,a2,a3,a4,a5,a6⟩:=stay u23;exact⟨F3,ys,acc,a1,a2,a3,a4,a5,a6,by omega,(R1'.up u3).weak w1.symm weak,e5⟩
 |true=>
  rw[Zao rfl] at e5 ⊢;rw[uR] at e5;rcases cV e5 with⟨z',e6,ez⟩|⟨q,e6,e7⟩
  ·exact he F3 H3 σ1 ρ1 _ _ (R1'.up u3) e6 (Pl u23 ez)
  refine he F3 H3 σ1 ρ1 _ _ (R1'.up u3) e6 λv F4 H4 u4 rv=>?_;have u24:=u23.trans u4;obtain⟨a1,a2,a3,a4,a5,a6⟩:=stay u24;refine⟨ys,a4,by rw[a6.1];omega,F4,ys++[v],acc++[q],a1,a2,uO hD a3,aX,a5,a6.snoc rv,by simp;omega,((R1'.up (u3.trans u4)).other a5 hD0 no1).weak w1.symm weak,?_⟩
  rw[uR] at e7;rw[<-e7];congr 1
  funext rr
  show some (Res.ok (PV.lst (acc++[q]++rr)))=some (Res.ok (PV.lst (acc++q::rr)))
  rw[List.append_assoc];rfl
theorem jX{wi:TI}{it:Fn (List PV)}{fr:List (Option Nat)}{gt:TG}{tg:PV->Rho->Option Rho}{T:List Nat}{tc:TT}{tst:Fn Bool}{el:Fn PV}(hi:MI K C wi it)(hg:MG K C gt tg)(hT:Wr T tg)(ht:MT K C tc tst)(he:MJ K C (aF K) te el)
  (hfr:T.all (λj=>fr[j]?==some none)=true:=by rfl):MO K C (yH wi fr gt tc te) (jB it fr tg tst el):=Df hi.h hg hT ht he hfr
end
def tyN:PV->Option String
 |.non=>some "NoneType"
 |.bl _=>some "bool"
 |.int _=>some "int"
 |.str _=>some "str"
 |.tup _=>some "tuple"
 |.lst _=>some "list"
 |.dk _=>some "dict"
 |.dt _=>some "dict"
 |_=>none
def Um(t T:String):Option Bool:=
 if t=T then some true else
 if T="int" then some (t=="bool") else
 if T="bool"\/T="str"\/T="tuple"\/T="list"\/T="dict" then some false else none
theorem Qo{K:PySem.W.Frag}{p:PV}{t T:String}{b:Bool}(h:tyN p=some t)(e:Um t T=some b):PySem.W.kitOne K (.type t) (.type T)=some b:=by
 have ht:t="NoneType"\/t="bool"\/t="int"\/t="str"\/t="tuple"\/t="list"\/t="dict":=by
  cases p<;>simp[tyN] at h<;>subst h<;>simp
 unfold Um at e;split at e
 ·rename_i e1;subst e1;cases e;exact Lf
 ·split at e
  ·rename_i n1 e1;subst e1;cases e;rcases ht with rfl|rfl|rfl|rfl|rfl|rfl|rfl<;>first|exact absurd rfl n1|kernel_rfl
  ·split at e
   ·rename_i n1 n2 e1;cases e;rcases e1 with rfl|rfl|rfl|rfl|rfl<;>rcases ht with rfl|rfl|rfl|rfl|rfl|rfl|rfl<;>first|exact absurd rfl n1|kernel_rfl
   ·cases e
def isI(p:PV)(T:String):Option Bool:=match tyN p with
 |some t=>Um t T
 |none=>none
section
variable{X:Cx}
def Wh(K:PySem.W.Frag):List V->Hp->VK->Prop:=λxs H Q=>∃ x p T b,xs=[x,.ty T]/\Rep K H x p/\isI p T=some b/\Q (.bl b) H
theorem fH:pK X (.builtin "isinstance") (Wh X.K):=by
 intro pins s σ H xs us Q I rv h;obtain⟨x,p,T,b,rfl,rp,e,q⟩:=h;obtain⟨u,v,rfl,ru,rw'⟩:=rv.two;cases rw';have fin:∀ tk,EP X pins σ Q (.bool b) { s with toks:=tk }:=λtk=>⟨.bl b,H,I.tok _,rfl,q⟩;unfold isI at e;split at e
 case h_2=>cases e
 rename_i t ht;have ek:=Qo (K:=X.K) ht e;cases rp with
 |non=>cases ru;cases ht;exact ZaY PySem.W.kitx_none I.kIn True.intro ek (λz=>nomatch z) fin
 |bl=>cases ru;cases ht;exact ZaY PySem.W.kitx_bool I.kIn True.intro ek (λz=>nomatch z) fin
 |int=>obtain⟨t,rfl⟩:=ru;cases ht;exact ZaY PySem.W.kitx_int I.kIn True.intro ek (λz=>nomatch z) fin
 |str=>obtain⟨t,rfl⟩:=ru;cases ht;exact ZaY PySem.W.kitx_str I.kIn True.intro ek (λz=>nomatch z) fin
 |ty=>cases ht
 |tup h=>
  cases ru;cases ht;obtain⟨_,_,⟨o,h1,h2,_⟩,_⟩:=I.tuple (SqT.of h);exact ZaY PySem.W.kitx_tuple I.kIn ⟨o,h1,h2⟩ ek (λz=>nomatch z) fin
 |lst h=>
  cases ru;cases ht;obtain⟨_,_,⟨o,n,h1,h2,_⟩,_⟩:=I.list h;exact ZaY PySem.W.kitx_list I.kIn ⟨o,h1,h2⟩ ek (λz=>nomatch z) fin
 |dk h=>
  cases ru;cases ht;obtain⟨_,_,vs,_,o,es,ep,h1,h2,_⟩:=h.ok I.hok;exact ZaY PySem.W.kitx_dict I.kIn ⟨o,h1,h2.1⟩ ek (λz=>nomatch z) fin
 |dt h=>
  cases ru;cases ht;obtain⟨_,_,vs,_,o,es,ep,h1,h2,_⟩:=h.ok I.hok;exact ZaY PySem.W.kitx_dict I.kIn ⟨o,h1,h2.1⟩ ek (λz=>nomatch z) fin
 |exc=>cases ht
 |exc0=>cases ht
end
section
variable{K:PySem.W.Frag}{C:Cg}{α β γ:Type}{A:Rel α}{B:Rel β}{D:Rel γ}{ta tb:TE}{f:Fn α}{g:Fn β}{rr:List V->Hp->VK->Prop}
def R1M(C:Cg)(A:Rel α)(D:Rel γ)(rr:List V->Hp->VK->Prop)(op:α->Option (Res γ)):Prop:=
 ∀ F H x a res Q,bf F H->A F H x a->op a=some res->Pr C F (λc=>∀ v F' H',Up F H F' H'->D F' H' v c->Q v H') res->rr [x] H Q
theorem dB{op:α->Option (Res γ)}(rule:R1M C A D rr op)(ha:MJ K C A ta f):MJ K C D (tCB rr (lH ta ye)) (m1 op f):=by
 intro F H σ ρ Q r R e P;refine ha.run R e P λp v F1 H1 hk u a=>?_;exact rule F1 H1 v p r Q u.fh a hk (P.later u)
def R1O(K:PySem.W.Frag)(C:Cg)(A:Rel α)(rr:List V->Hp->VK->Prop)(op:α->Option (Res PV)):Prop:=
 ∀ F H x a res Q,bf F H->A F H x a->op a=some res->Pr C F (λp=>∀ a F' H',Up F H F' H'->H a=none->F' a=none->Own K F' H' a p->Q (.ref a) H') res->rr [x] H Q
theorem Ge{op:α->Option (Res PV)}(rule:R1O K C A rr op)(ha:MJ K C A ta f):MO K C (tCB rr (lH ta ye)) (m1 op f):=by
 intro F H σ ρ Q r R e P;refine ha.run R e P λp v F1 H1 hk u a=>?_;exact rule F1 H1 v p r Q u.fh a hk (P.oA u)
def R2B(C:Cg)(A:Rel α)(B:Rel β)(D:Rel γ)(rr:List V->Hp->VK->Prop)(op:α->β->Option (Res γ)):Prop:=
 ∀ F H x y a b res Q,bf F H->A F H x a->B F H y b->op a b=some res->Pr C F (λc=>∀ v F' H',Up F H F' H'->D F' H' v c->Q v H') res->rr [x,y] H Q
theorem jL{op:α->β->Option (Res γ)}(up:UpM A)(rule:R2B C A B D rr op)(ha:MJ K C A ta f)(hb:MJ K C B tb g):MJ K C D (tCB rr (lH ta (lH tb ye))) (m2 op f g):=by
 intro F H σ ρ Q r R e P;refine ha.run R e P λp v F1 H1 hk u a=>?_;refine hb.run (R.up u) hk (P.later u) λq w F2 H2 hk2 u2 b=>?_;exact rule F2 H2 v w p q r Q u2.fh (up _ _ _ _ _ _ u2 a) b hk2 (P.later (u.trans u2))
def fZ:PV->Option (Res PV)
 |.str z=>if z.length<=sizeLine then some (.ok (.int z.length)) else none
 |.lst l=>some (.ok (.int l.length))
 |.tup l=>some (.ok (.int l.length))
 |_=>none
theorem ig:R1M C (aH K) (aF K) (λxs H Q=>∃ x n,xs=[x]/\VD K x H n/\Q (.int n) H) fZ:=by
 intro F H x a res Q s ha e P
 match a,e with
 |.str z,e=>
  cases Rep.cC ha;have e:(if z.length<=sizeLine then some (Res.ok (PV.int z.length)) else none)=some res:=e;split at e
  ·rename_i hz;cases e;exact⟨_,_,rfl,⟨hz,rfl⟩,P _ F H (Up.refl s) .int⟩
  ·cases e
 |.lst l,e=>
  cases e;obtain⟨b,xs,rfl,h1,r1⟩:=Rep.d7 ha;rw[<-r1.1] at P;exact⟨_,_,rfl,.inl ⟨xs,h1,rfl⟩,P _ F H (Up.refl s) .int⟩
 |.tup l,e=>
  cases e;obtain⟨b,xs,rfl,h1,r1⟩:=Rep.dF ha;rw[<-r1.1] at P;exact⟨_,_,rfl,.inr ⟨xs,h1,rfl⟩,P _ F H (Up.refl s) .int⟩
def rY(p q:PV):Option (Res PV):=match q with
 |.ty T=>match isI p T with
  |some b=>some (.ok (.bl b))
  |none=>none
 |_=>none
theorem vC:R2B C (aH K) (aF K) (aF K) (Wh K) rY:=by
 intro F H x y a b res Q s ha hb e P
 match b,e with
 |.ty T,e=>
  cases Rep.T9 hb;have e:(match isI a T with
   |some b=>some (Res.ok (PV.bl b))
   |none=>none)=some res:=e
  split at e
  ·rename_i k hk;cases e;exact⟨x,a,T,k,rfl,ha,hk,P _ F H (Up.refl s) .bl⟩
  ·cases e
def rH:List PV->Option (List Bool)
 |[]=>some []
 |.bl b::r=>(rH r).map (b::·)
 |_=>none
theorem wK{F:Hp}:∀ {l:List PV}{bs:List Bool}{xs:List V},rH l=some bs->b8 K F xs l->xs=bs.map V.bl
 |[],bs,xs,e,r=>by cases e;exact r.jT
 |.bl b::l,bs,xs,e,r=>by
  rw[rH] at e;cases h:rH l with
  |none=>rw[h] at e;cases e
  |some cs=>
   rw[h] at e;cases e;obtain⟨v,ys,rfl,r1,r2⟩:=r.gh;rw[Rep.gj r1,wK h r2];rfl
def yO(l:List PV):Option (Res PV):=match rH l with
 |some bs=>some (.ok (.bl (bs.all id)))
 |none=>none
theorem Wi:R1M C (aV K) (aF K) (λxs H Q=>∃ (p:Addr) (bs:List Bool),xs=[.ref p]/\SqL K H p (bs.map V.bl)/\Q (.bl (bs.all id)) H) yO:=by
 intro F H x a res Q s ha e P;unfold yO at e;split at e
 ·rename_i bs hb;cases e;obtain⟨b,xs,rfl,h1,r1⟩:=ha;rw[wK hb r1] at h1;exact⟨b,bs,rfl,h1,P _ F H (Up.refl s) .bl⟩
 ·cases e
def Ib:PV->Option (Res PV)
 |.int i=>some (.ok (.int i))
 |.bl b=>some (.ok (.int (if b then 1 else 0)))
 |_=>none
theorem Uo:R1M C (aF K) (aF K) (λxs H Q=>(∃ i,xs=[.int i]/\Q (.int i) H)\/∃ k,xs=[.bl k]/\Q (.int (if k then 1 else 0)) H) Ib:=by
 intro F H x a res Q s ha e P
 match a,e with
 |.int i,e=>
  cases Rep.bR ha;cases e;exact .inl ⟨i,rfl,P _ F H (Up.refl s) .int⟩
 |.bl b,e=>
  cases Rep.gj ha;cases e;exact .inr ⟨b,rfl,P _ F H (Up.refl s) .int⟩
def z8(l:List PV):Option (Res PV):=some (.ok (.lst l))
theorem Mp:R1O K C (aV K) (λxs H Q=>∃ p ys,xs=[.ref p]/\(SqL K H p ys\/SqT K H p ys)/\∀ l,H l=none->Q (.ref l) (upd H l (.lst ys))) z8:=by
 intro F H x a res Q s ha e P;cases e;obtain⟨b,xs,rfl,h1,r1⟩:=ha;exact⟨b,xs,rfl,.inl h1,λl hl=>P l F _ (Up.CJ s hl) hl (s.free hl) ⟨_,aX,r1⟩⟩
def Dg(l:List PV):Option (Res PV):=some (.ok (.tup l))
theorem Mq:R1M C (aV K) (aF K) (λxs H Q=>∃ p ys,xs=[.ref p]/\((SqL K H p ys/\∀ l,H l=none->Q (.ref l) (upd H l (.tup ys)))\/(SqT K H p ys/\Q (.ref p) H))) Dg:=by
 intro F H x a res Q s ha e P;cases e;obtain⟨b,xs,rfl,h1,r1⟩:=ha;refine⟨b,xs,rfl,.inl ⟨h1,λl hl=>?_⟩⟩;have un:=Up.new (o:=.tup xs) s hl;exact P _ _ _ un (.tup aX r1.1 (r1.up un.ff).2)
def oN:List PV->Option (List Str)
 |[]=>some []
 |.str b::r=>(oN r).map (b::·)
 |_=>none
theorem yP{F:Hp}:∀ {l:List PV}{bs:List Str}{xs:List V},oN l=some bs->b8 K F xs l->xs=bs.map V.str
 |[],bs,xs,e,r=>by cases e;exact r.jT
 |.str b::l,bs,xs,e,r=>by
  rw[oN] at e;cases h:oN l with
  |none=>rw[h] at e;cases e
  |some cs=>
   rw[h] at e;cases e;obtain⟨v,ys,rfl,r1,r2⟩:=r.gh;rw[Rep.cC r1,yP h r2];rfl
def wL(z:Str)(l:List PV):Option (Res PV):=match oN l with
 |some ys=>if(ys.map (·.length)).sum+ys.length*z.length<=16777216 then some (.ok (.str (Txt.join z ys))) else none
 |none=>none
def Ie(f:Fn PV)(g:Fn (List PV)):Fn PV:=λρ=>bnd (f ρ) λa=>match a with
 |.str z=>bnd (g ρ) λl=>wL z l
 |_=>none
theorem Qp{f:Fn PV}{g:Fn (List PV)}(ha:MJ K C (aF K) ta f)(hb:MJ K C (aV K) tb g) :
  MJ K C (aF K) (tBM K "str" (λx xs H Q=>∃ (z:Str) (p:Addr) (ys:List Str),x=.str z/\xs=[.ref p]/\SqL K H p (ys.map V.str)/\(ys.map (·.length)).sum+ys.length*z.length<=16777216/\Q (.str (Txt.join z ys)) H) ta (lH tb ye)) (Ie f g):=by
 intro F H σ ρ Q r R e P;refine ha.run R e P λp v F1 H1 hk u a=>?_
 match p,hk with
 |.str z,hk=>
  cases Rep.cC a;refine⟨tyS,hb.run (R.up u) hk (P.later u) λq w F2 H2 hk2 u2 b=>?_⟩;unfold wL at hk2;split at hk2
  ·rename_i ys hys;split at hk2
   ·rename_i hz;cases hk2;obtain⟨b1,xs,rfl,h1,r1⟩:=b;rw[yP hys r1] at h1;exact⟨z,b1,ys,rfl,rfl,h1,hz,P _ F2 H2 (u.trans u2) .str⟩
   ·cases hk2
  ·cases hk2
def lg(f:Fn PV):Fn (List PV):=λρ=>bnd (f ρ) vd
def gM(i:Nat):Fn (List PV):=λρ=>bnd (mVL i ρ) vd
def Wj(i:Nat)(f:Sn):Sn:=λρ=>f (FZ i ρ)
def wM:PV->Option (Res PV)
 |.int i=>some (.ok (.int (-i)))
 |_=>none
theorem wN{f:Fn PV}(ha:MJ K C (aF K) ta f):MJ K C (aF K) (tUn (rU λi=>.int (-i)) ta) (m1 wM f):=by
 intro F H σ ρ Q r R e P;refine ha.run R e P λp v F1 H1 hk u a=>?_
 match p,hk with
 |.int i,hk=>
  cases Rep.bR a;cases hk;exact⟨i,rfl,P _ F1 H1 u .int⟩
end
noncomputable abbrev XR0:Hp->Value->Option Addr->PV->Prop:=λ_ _ _ _=>False
noncomputable abbrev C0(io:Addr->Prop)(H0 F0:Hp):Cg:=⟨⟨io,True,H0,F0,E0⟩,XR0⟩
def startR(ps:List PV)(k:Nat):Rho:=ps.map (λp=>some (.sh p))++List.replicate k none
def fin:Option Out->Option (Res PV)
 |some (.nx _)=>some (.ok .non)
 |some (.rt p)=>some (.ok p)
 |some (.ex z)=>some (.ex z)
 |_=>none
def qD:Option Out->Option (Res PV)
 |some (.ro p)=>some (.ok p)
 |some (.ex z)=>some (.ex z)
 |_=>none
section
variable{K:PySem.W.Frag}{XR:Hp->Value->Option Addr->PV->Prop}{N:List Str}{vs:List V}{H:Hp}{Q:VK}{E:XK}{t:TS}{b:Sn}{m:List PV->Option (Res PV)}
theorem qF{E:XK}{F:Hp}{ps:List PV}{n:Nat}(s:bf F H)(r:b8 K F vs ps)(hN:N.length=vs.length+n):RE K ⟨λ_=>False,True,H,F,E⟩ F H (start N vs) (startR ps n) where
 rb:=⟨s,λ_ _ h _=>h,λ_ _ h=>.inl h,λ_ h=>h.elim⟩
 len:=by unfold start startR;rw[List.length_append,List.length_append,List.length_map,List.length_map,List.length_replicate,List.length_replicate,r.1,hN];have:=r.1;lia
 sh:=λi p e=>by
  unfold startR at e;unfold start;by_cases hi:i<ps.length
  ·rw[Zap (by simpa using hi),Zaf] at e
   rw[Zap (by rw[List.length_map,r.1];exact hi),Zaf]
   cases h:ps[i]? with
   |none=>rw[h] at e;cases e
   |some q=>
    rw[h] at e;cases e;obtain⟨x,hx,rx⟩:=r.get h;exact⟨x,by rw[hx];rfl,rx⟩
  ·rw[Zaw (by simpa using hi),ZaX] at e
   split at e<;>cases e
 ow:=λi p e=>by
  exfalso;unfold startR at e;by_cases hi:i<ps.length
  ·rw[Zap (by simpa using hi),Zaf] at e
   cases h:ps[i]? with
   |none=>rw[h] at e;cases e
   |some q=>rw[h] at e;cases e
  ·rw[Zaw (by simpa using hi),ZaX] at e
   split at e<;>cases e
 dd:=⟨_,RD.no λi p e=>by
  unfold startR at e;by_cases hi:i<ps.length
  ·rw[Zap (by simpa using hi),Zaf] at e
   cases h:ps[i]? with
   |none=>rw[h] at e;cases e
   |some q=>rw[h] at e;cases e
  ·rw[Zaw (by simpa using hi),ZaX] at e
   split at e<;>cases e⟩
 dis:=λi j p q a e=>by
  exfalso;unfold startR at e;by_cases hi:i<ps.length
  ·rw[Zap (by simpa using hi),Zaf] at e
   cases h:ps[i]? with
   |none=>rw[h] at e;cases e
   |some q=>rw[h] at e;cases e
  ·rw[Zaw (by simpa using hi),ZaX] at e
   split at e<;>cases e
theorem cu{k n:Nat}(hk:N.length=k+n)(hm:∀ ps r,m ps=some r->ps.length=k/\fin (b (startR ps n))=some r)(h:spM K XR0 m vs H Q E)(hS:∀ (io:Addr->Prop) (H0 F0:Hp),(∀ a,¬io a)->MS K (C0 io H0 F0) t b) :
  t { nx:=λ_ H'=>Q .non H',rt:=Q } (start N vs) H:=by
 obtain⟨ps,F,r,s,rp,e,P⟩:=h;obtain⟨hl,e⟩:=hm ps r e;have R:=qF (E:=E0) (N:=N) (n:=n) s rp (by rw[rp.1,hl];exact hk)
 have up:∀ {F' H':Hp},bf F F'->RB ⟨λ_=>False,True,H,F,E0⟩ F' H'->Up F H F' H':=λs' rb=>⟨s',λc o q=>rb.keep c o q id,rb.new,rb.sub⟩;have M:=hS (λ_=>False) H F (λ_ h=>h);cases ho:b (startR ps n) with
 |none=>rw[ho] at e;cases e
 |some o=>
  rw[ho] at e;refine M F H _ _ _ o R ho ?_;cases o with
  |nx ρ=>cases e;exact λF' H' σ s' R'=>P .non F' H' (up s' R'.rb) .non
  |rt p=>cases e;exact λv F' H' s' rb rv=>P v F' H' (up s' rb) rv
  |ex z=>exact λ_ _ _ _ _ _ x=>x.elim
  |ro p=>cases e
  |rd p=>cases e
  |bk ρ=>cases e
  |ct ρ=>cases e
theorem oO{k n:Nat}(hk:N.length=k+n)(hm:∀ ps r,m ps=some r->ps.length=k/\qD (b (startR ps n))=some r)(h:spO K XR0 m vs H Q E)(hS:∀ (io:Addr->Prop) (H0 F0:Hp),(∀ a,¬io a)->MS K (C0 io H0 F0) t b) :
  t { nx:=λ_ H'=>Q .non H',rt:=Q } (start N vs) H:=by
 obtain⟨ps,F,r,s,rp,e,P⟩:=h;obtain⟨hl,e⟩:=hm ps r e;have R:=qF (E:=E0) (N:=N) (n:=n) s rp (by rw[rp.1,hl];exact hk)
 have up:∀ {F' H':Hp},bf F F'->RB ⟨λ_=>False,True,H,F,E0⟩ F' H'->Up F H F' H':=λs' rb=>⟨s',λc o q=>rb.keep c o q id,rb.new,rb.sub⟩;have M:=hS (λ_=>False) H F (λ_ h=>h);cases ho:b (startR ps n) with
 |none=>rw[ho] at e;cases e
 |some o=>
  rw[ho] at e;refine M F H _ _ _ o R ho ?_;cases o with
  |ro p=>cases e;exact λa F' H' s' rb w n1 n2=>P a F' H' (up s' rb) n2 n1 w
  |ex z=>exact λ_ _ _ _ _ _ x=>x.elim
  |nx ρ=>cases e
  |rt p=>cases e
  |rd p=>cases e
  |bk ρ=>cases e
  |ct ρ=>cases e
theorem cg(h:spM K XR m vs H Q E){k:Nat}(hm:∀ ps r,m ps=some r->ps.length=k):vs.length=k:=by
 obtain⟨ps,F,r,s,rp,e,P⟩:=h;rw[rp.1];exact hm ps r e
theorem lM(h:spO K XR m vs H Q E){k:Nat}(hm:∀ ps r,m ps=some r->ps.length=k):vs.length=k:=by
 obtain⟨ps,F,r,s,rp,e,P⟩:=h;rw[rp.1];exact hm ps r e
end
section
variable{X:Cx}{N:List Str}{scope:Scope}{cl:List (Str×Addr)}{C:Addr}{s2:Shared}{H2:Hp}{fp:List Addr}
theorem jo:IxR (X.comp N scope cl C s2 H2 fp) (rIx X.K):=aM
theorem wO:OpR (X.comp N scope cl C s2 H2 fp) (binaryOp .Add) (LC X.K):=bH
end
section
variable{K:PySem.W.Frag}{C:Cg}{te:TE}
def Dh(xs:List PV)(lo hi st:Option Int):List PV:=(sliceRange (sliceBounds lo hi st xs.length).1 (sliceBounds lo hi st xs.length).2.1 (sliceBounds lo hi st xs.length).2.2).filterMap (xs[·]?)
theorem b8.picks{F:Hp}{xs:List V}{l:List PV}(h:b8 K F xs l):∀ js:List Nat,b8 K F (js.filterMap (xs[·]?)) (js.filterMap (l[·]?))
 |[]=>.nil
 |j::js=>by
  by_cases hj:j<xs.length
  ·have hl:j<l.length:=by rw[<-h.1];exact hj
   rw[Za4 (Zad hj),Za4 (Zad hl)];exact(b8.picks h js).cons (h.2 j _ _ (Zad hj) (Zad hl))
  ·have hl:¬j<l.length:=by rw[<-h.1];exact hj
   rw[Za3 (ZaH (by omega)),Za3 (ZaH (by omega))]
   exact b8.picks h js
def Qq(f:Fn (List PV))(lo hi st:Fn (Option Int)):Fn PV:=λρ=>bnd (f ρ) λl=>bnd (lo ρ) λa=>bnd (hi ρ) λb=>bnd (st ρ) λc=>if c=some 0 then none else some (.ok (.lst (Dh l a b c)))
theorem Uq{f:Fn (List PV)}{lo hi st:Fn (Option Int)}{tl th ts:TO}(h:MJ K C (aV K) te f)(hl:MP' K C tl lo)(hh:MP' K C th hi)(hs:MP' K C ts st):MO K C (V4 K te tl th ts) (Qq f lo hi st):=by
 intro F H σ ρ Q r R e P;refine h.run R e P λl v F1 H1 hk u a=>?_;refine hl.run (R.up u) hk (P.oA u) λo F2 H2 hk2 u2=>?_;refine hh.run (R.up (u.trans u2)) hk2 (P.oA (u.trans u2)) λo2 F3 H3 hk3 u3=>?_;refine hs.run (R.up (u.trans (u2.trans u3))) hk3 (P.oA (u.trans (u2.trans u3))) λo3 F4 H4 hk4 u4=>?_;split at hk4
 ·cases hk4
 ·rename_i hz;cases hk4;obtain⟨b,xs,rfl,h1,r1⟩:=a;have u24:=u2.trans (u3.trans u4);refine⟨b,xs,rfl,u24.hh.seq h1,hz,λp hp=>?_⟩;refine P p F4 _ (u.trans (u24.trans (Up.CJ u4.fh hp))) ((u.hh.trans u24.hh).free hp) (u4.fh.free hp) ⟨_,aX,?_⟩;unfold stepV Dh;rw[r1.1];exact(r1.up u24.ff).picks _
end
structure Wk(a:Addr)(F H F' H':Hp):Prop where
 ff:bf F F'
 hb:SameBut a H H'
 fr:∀ b o,F' b=some o->F b=some o\/Frz H b o
 fh:bf F' H'
def Mr(K:PySem.W.Frag)(F:Hp)(a:Addr)(p:PV)(j:Nat)(xs:List V)(l:List PV):Prop:=
 xs.length=l.length/\xs[j]?=some (.ref a)/\l[j]?=some p/\∀ (k:Nat) x q,k≠j->xs[k]?=some x->l[k]?=some q->Rep K F x q
def Ms(K:PySem.W.Frag)(j:Nat)(m:List PV->Option (Res PV)):Sp:=λvs H Q _=>∃ ps F a p p',bf F H/\Mr K F a p j vs ps/\Own K F H a p/\F a=none/\m ps=some (.ok p')/\∀ F' H',Wk a F H F' H'->Own K F' H' a p'->F' a=none->Q .non H'
def jY(j:Nat)(ps:List PV)(n:Nat):Rho:=(ps.mapIdx λk p=>some (if k=j then Sl.ow p else Sl.sh p))++List.replicate n none
def Di(j:Nat):Option Out->Option (Res PV)
 |some (.nx ρ)=>match ownAt j ρ with
  |some p=>some (.ok p)
  |none=>none
 |_=>none
section
variable{K:PySem.W.Frag}{C:Cg}{N:List Str}{vs:List V}{H F:Hp}{Q:VK}{E:XK}{t:TS}{b:Sn}{m:List PV->Option (Res PV)}{j:Nat}{ps:List PV}{a:Addr}{p:PV}{n:Nat}
theorem lN{i:Nat}{s:Sl}(e:(jY j ps n)[i]?=some (some s)):∃ q,ps[i]?=some q/\s=if i=j then Sl.ow q else Sl.sh q:=by
 unfold jY at e;by_cases hi:i<ps.length
 ·rw[Zap (by simpa using hi),Zbe] at e
  cases h:ps[i]? with
  |none=>rw[h] at e;cases e
  |some q=>rw[h] at e;exact⟨q,rfl,(Zaa (Zaa e)).symm⟩
 ·rw[Zaw (by simpa using hi),ZaX] at e
  split at e<;>cases e
theorem Dj{i:Nat}{x:V}(h:vs[i]?=some x):(start N vs)[i]?=some (some x):=by
 unfold start;rw[Zap (by rw[List.length_map];exact cY h),Zaf,h]
 rfl
theorem Gf(s:bf F H)(r:Mr K F a p j vs ps)(w:Own K F H a p)(hn:F a=none)(hN:N.length=vs.length+n):RE K ⟨λc=>c=a,False,H,F,E⟩ F H (start N vs) (jY j ps n) where
 rb:=⟨s,λ_ _ h _=>h,λ_ _ h=>.inl h,λb hb=>by
  obtain⟨o,eo⟩:=w.ne;subst hb;have h1:H b≠none:=by rw[eo];simp
  exact⟨h1,h1⟩⟩
 len:=by unfold start jY;rw[List.length_append,List.length_append,List.length_map,List.length_mapIdx,List.length_replicate,List.length_replicate,r.1,hN];have:=r.1;omega
 sh:=λi q e=>by
  obtain⟨q',e1,e2⟩:=lN e;by_cases hij:i=j
  ·rw[Zao hij] at e2;cases e2
  ·rw[Zal hij] at e2;cases e2;have hi:i<vs.length:=by rw[r.1];exact cY e1
   exact⟨vs[i],Dj (by simp[hi]),r.2.2.2 i _ _ hij (by simp[hi]) e1⟩
 ow:=λi q e=>by
  obtain⟨q',e1,e2⟩:=lN e;by_cases hij:i=j
  ·rw[Zao hij] at e2;cases e2;subst hij;rw[r.2.2.1] at e1;cases e1;exact⟨a,Dj r.2.1,w,hn,.inl rfl⟩
  ·rw[Zal hij] at e2;cases e2
 dis:=λi k q q' c e e' _ _=>by
  have key:∀ {i:Nat}{q:PV},(jY j ps n)[i]?=some (some (.ow q))->i=j:=λ{i q} e=>by
   obtain⟨q',e1,e2⟩:=lN e;by_cases hij:i=j
   ·exact hij
   ·rw[Zal hij] at e2;cases e2
  rw[key e,key e']
 dd:=⟨_,RD.no λi q e=>by
  obtain⟨q',e1,e2⟩:=lN e;by_cases hij:i=j
  ·rw[Zao hij] at e2;cases e2
  ·rw[Zal hij] at e2;cases e2⟩
noncomputable abbrev C1(a:Addr)(H0 F0:Hp):Cg:=⟨⟨λc=>c=a,False,H0,F0,E0⟩,XR0⟩
theorem Mt{k:Nat}(hk:N.length=k+n)(hm:∀ ps r,m ps=some r->ps.length=k/\Di j (b (jY j ps n))=some r)(h:Ms K j m vs H Q E)(hS:∀ (a:Addr) (H0 F0:Hp),MS K (C1 a H0 F0) t b) :
  t { nx:=λ_ H'=>Q .non H',rt:=Q } (start N vs) H:=by
 obtain⟨ps,F,a,p,p',s,rp,w,hn,e,P⟩:=h;obtain⟨hl,e⟩:=hm ps _ e;have R:=Gf (E:=E0) (N:=N) (n:=n) s rp w hn (by rw[rp.1,hl];exact hk)
 cases ho:b (jY j ps n) with
 |none=>rw[ho] at e;cases e
 |some o=>
  rw[ho] at e;refine hS a H F F H _ _ _ o R ho ?_;cases o with
  |nx ρ=>
   intro F' H' σ s' R';have e:(match ownAt j ρ with|some p=>some (Res.ok p)|none=>none)=some (.ok p'):=e
   split at e
   ·rename_i q hq;cases e;obtain⟨c,e1,e2,e3,e4⟩:=R'.ow j _ (dm hq);have hc:c=a:=e4.elim id λz=>z.1.elim;subst hc;exact P F' H' ⟨s',λb o q hb=>R'.rb.keep b o q hb,R'.rb.new,R'.rb.sub⟩ e2 e3
   ·cases e
  |_=>cases e
theorem Mu(h:Ms K j m vs H Q E){k:Nat}(hm:∀ ps r,m ps=some r->ps.length=k):vs.length=k:=by
 obtain⟨ps,F,a,p,p',s,rp,w,hn,e,P⟩:=h;rw[rp.1];exact hm ps _ e
def MAH(K:PySem.W.Frag)(C:Cg)(i j:Nat)(t:TA)(f:Fn (List PV)):Prop:=
 ∀ F H σ ρ Q r a p,RE K C.toCf F H σ ρ->ρ[i]?=some (some (.ow p))->σ[i]?=some (some (.ref a))->f ρ=some r->Pr C F (λl=>∀ xs F' H',Up F H F' H'->Mr K F' a p j xs l->Q xs H') r->t σ H Q
def wQ(i:Nat)(g:Fn (List PV)):Fn (List PV):=λρ=>match ownAt i ρ with
 |some p=>bnd (g ρ) λl=>some (.ok (p::l))
 |none=>none
theorem Mv{i:Nat}{t:TA}{g:Fn (List PV)}(h:MA K C t g):MAH K C i 0 (lH (tM i) t) (wQ i g):=by
 intro F H σ ρ Q r a p R e ea hf P;refine⟨_,ea,?_⟩;unfold wQ at hf;have eo:ownAt i ρ=some p:=by unfold ownAt;rw[e]
 rw[eo] at hf;refine h.run R hf P λl xs F1 H1 hk u b=>?_;cases hk;refine P _ F1 H1 u ⟨by simp[b.1],rfl,rfl,λk x q hk ex eq=>?_⟩
 cases k with
 |zero=>exact absurd rfl hk
 |succ k=>exact b.2 k x q (by simpa using ex) (by simpa using eq)
theorem RE.W0{F' H':Hp}{σ:St}{ρ:Rho}{p':PV}{i:Nat}(R:RE K C.toCf F H σ ρ)(e:ρ[i]?=some (some (.ow p)))(ea:σ[i]?=some (some (.ref a)))(u:Wk a F H F' H')(w:Own K F' H' a p')(hn:F' a=none):RE K C.toCf F' H' σ (ρ.set i (some (.ow p'))):=by
 obtain⟨a',e1,e2,e3,e4⟩:=R.ow i p e;rw[ea] at e1;cases e1;obtain⟨oa,eoa⟩:=e2.ne;refine⟨⟨u.fh,λb o q n=>?_,λb o q=>?_,λb hb=>⟨?_,(R.rb.ios b hb).2⟩⟩,by simp[R.len],λj q f=>?_,λj q f=>?_,λj k q q' b f f' g g'=>?_,?_⟩
 ·have:b≠a:=λz=>by
   subst z;rcases e4 with z|z
   ·exact n z
   ·rw[z.2] at q;cases q
  exact u.hb b o (R.rb.keep b o q n) this
 ·rcases u.fr b o q with z|z
  ·exact R.rb.new b o z
  ·exact .inr (z.imp (λz=>R.rb.yK z) id)
 ·by_cases hba:b=a
  ·subst hba;obtain⟨o,eo⟩:=w.ne;rw[eo];simp
  ·cases hb':H b with
   |none=>exact absurd hb' (R.rb.ios b hb).1
   |some o=>rw[u.hb b o hb' hba];simp
 ·rcases get_set f with⟨f1,f2⟩|⟨f1,f2⟩
  ·cases f2
  ·obtain⟨v,g1,g2⟩:=R.sh j q f2;exact⟨v,g1,g2.up u.ff⟩
 ·rcases get_set f with⟨f1,f2⟩|⟨f1,f2⟩
  ·subst f1;cases f2;exact⟨a,ea,w,hn,e4⟩
  ·obtain⟨b,g1,g2,g3,g4⟩:=R.ow j q f2;have hb:b≠a:=λz=>by subst z;exact f1 (R.dis i j p q b e f2 ea g1)
   refine⟨b,g1,g2.up u.ff λo qq=>u.hb b o qq hb,?_,g4⟩;cases hF:F' b with
   |none=>rfl
   |some o=>
    obtain⟨ob,eob⟩:=g2.ne;rcases u.fr b o hF with z|z|⟨ys,z⟩
    ·rw[g3] at z;cases z
    ·rw[eob] at z;cases z
    ·subst z;have w:=u.fh _ _ hF;rw[u.hb b _ eob hb] at w;cases w;exact(g2.HF eob).elim
 ·have key:∀ (j:Nat) q,(ρ.set i (some (Sl.ow p')))[j]?=some (some (.ow q))->∃ q0,ρ[j]?=some (some (.ow q0)):=λj q f=>by
   rcases get_set f with⟨f1,f2⟩|⟨f1,f2⟩
   ·subst f1;exact⟨p,e⟩
   ·exact⟨q,f2⟩
  obtain⟨q0,k0⟩:=key j q f;obtain⟨q1,k1⟩:=key k q' f';exact R.dis j k q0 q1 b k0 k1 g g'
 ·obtain⟨P,d⟩:=R.dd;have na:∀ j b,P j b->b≠a:=λj b z e'=>by subst e';exact d.ow j i p b z e ea
  refine⟨P,λj b z=>?_,d.dis,λj k q b z f g=>?_,λj q f=>?_⟩
  ·obtain⟨a1,⟨o',a2,a3⟩,a4⟩:=d.own j b z;have hb':=u.hb b _ a2 (na j b z);refine⟨?_,⟨o',hb',a3⟩,a4⟩;cases hF:F' b with
   |none=>rfl
   |some o=>
    rcases u.fr b o hF with w|w|⟨ys,w⟩
    ·rw[a1] at w;cases w
    ·rw[a2] at w;cases w
    ·subst w;have w:=u.fh _ _ hF;rw[hb'] at w;cases w;exact absurd rfl (a3 ys)
  ·rcases get_set f with⟨f1,f2⟩|⟨f1,f2⟩
   ·subst f1;exact d.ow j i p b z e g
   ·exact d.ow j k q b z f2 g
  ·rcases get_set f with⟨f1,f2⟩|⟨f1,f2⟩
   ·cases f2
   ·obtain⟨w,e3,e5⟩:=d.dp j q f2;exact⟨w,e3,e5.up u.ff (λb o z q=>u.hb b o q (na j b z)) λb ys q=>u.hb b _ q λz=>by subst z;exact e2.HF q⟩
def mIO(i:Nat)(m:List PV->Option (Res PV))(f:Fn (List PV)):Sn:=λρ=>match ownAt i ρ with
 |some _=>mR (f ρ) λl=>match m l with
  |some (.ok p')=>some (.nx (ρ.set i (some (.ow p'))))
  |_=>none
 |none=>none
theorem Wl{i j:Nat}{t:TA}{f:Fn (List PV)}{m:List PV->Option (Res PV)}(h:MAH K C i j t f):MS K C (Cd (pL (Ms K j m) [] C.E t)) (mIO i m f):=by
 intro F H σ ρ D o R e P;unfold mIO at e;split at e
 case h_2=>cases e
 rename_i p hp;have hp:=dm hp;obtain⟨a,ea,w,hn,h4⟩:=R.ow i p hp;rcases gk e with⟨z,e1,rfl⟩|⟨l,e1,e2⟩
 ·exact h F H σ ρ _ _ a p R hp ea e1 P
 ·refine h F H σ ρ _ _ a p R hp ea e1 λxs F1 H1 u rr=>?_;split at e2
  ·rename_i p' hm;cases e2;have R1:=R.up u;obtain⟨a',ea',w',hn',_⟩:=R1.ow i p hp;rw[ea] at ea';cases ea';refine⟨l,F1,a,p,p',u.fh,by rw[Zav];exact rr,w',hn',hm,λF2 H2 u2 w2 n2=>?_⟩
   exact P F2 H2 σ (u.ff.trans u2.ff) (R1.W0 hp ea u2 w2 n2)
  ·cases e2
end
section
def Mw:Fn PV:=λ_=>some (.ok (.dk []))
end
theorem wR:typeLookup (.type "list") "keys"=pure none:=am_miss_of_fast (by decide +kernel)
theorem vD:typeLookup (.type "tuple") "keys"=pure none:=am_miss_of_fast (by decide +kernel)
theorem iG:entryFor table "dict.update.loop"=some Builtin.«dict.update.loop»:=entryFor_of_tree (by kernel_rfl)
theorem cW:plainId "dict.update.loop"=true:=by decide +kernel
section
variable{prog:Program}{w:World}{A:Around}{E:Value->Shared->Prop}{s:Shared}{a:Addr}{o:Obj}{xs:Array Value}{k:Nat}{name:Str}{Q:Option Value->Shared->Prop}
theorem sX(hx:s.heap.get? a=some o)(hc:o.cls=.type "list")(hdat:o.data=.seq xs k)(hd:o.dict=none)(hmiss:typeLookup (.type "list") name=pure none)(hname:(["__module__","__name__","__qualname__","__doc__","__annotations__"]:List Str).contains name=false)(hA:A.handled=none)
  (h:∀ h' tk,(∀ b ob,s.heap.get? b=some ob->h'.get? b=some ob)->Q none { s with heap:=h',toks:=tk })(hsz:name.length+100<=sizeLine:=by size_fits) :
  wpAny (model prog w) A (getAttr? (.ref a) name) Q E s:=by
 obtain⟨c,dct,dat,sl⟩:=o;simp only at hc hdat hd;subst hc hdat hd;obtain⟨hp,g,d,tk,os⟩:=s;have hT:∀ tk',(⟨hp,g,d,tk',os⟩:Shared).TypeIs (.ref a) "list":=λ_=>⟨_,hx,rfl⟩;have f1:=sub_AttributeError;have f3:=F.slot_list_getattribute.lookup;have f4:=F.slot_list_getattribute.bind (.ref a);have f5:=am_list_getattr_none;unfold getAttr? getAttrBy? getAttrBy;repeat (any_goals (first|assumption|exact hT _|((with_reducible show wpAny _ _ (call (Value.builtin "list.__getattribute__") _ _) _ _ _);refine call_meets F.slot_list_getattribute (hT _) am_entry_list_getattribute (F.args_list_getattribute_2 _ _) (meets_getattribute_miss_list a xs k sl name _ hmiss hname hsz) ⟨hx,hA,λh' tk' e hx'=>?_⟩)|wp_step))
 obtain⟨t',u',he⟩:=hx'.there;show wpAny _ _ (getattributeRaised _ _ _ _ _ _ _) _ _ _
 unfold getattributeRaised;repeat (any_goals (first|assumption|wp_step))
 exact h _ _ hx'.keeps
theorem rZ(hx:s.heap.get? a=some o)(hc:o.cls=.type "tuple")(hdat:o.data=.seq xs k)(hd:o.dict=none)(hmiss:typeLookup (.type "tuple") name=pure none)(hname:(["__module__","__name__","__qualname__","__doc__","__annotations__"]:List Str).contains name=false)(hA:A.handled=none)
  (h:∀ h' tk,(∀ b ob,s.heap.get? b=some ob->h'.get? b=some ob)->Q none { s with heap:=h',toks:=tk })(hsz:name.length+100<=sizeLine:=by size_fits) :
  wpAny (model prog w) A (getAttr? (.ref a) name) Q E s:=by
 obtain⟨c,dct,dat,sl⟩:=o;simp only at hc hdat hd;subst hc hdat hd;obtain⟨hp,g,d,tk,os⟩:=s;have hT:∀ tk',(⟨hp,g,d,tk',os⟩:Shared).TypeIs (.ref a) "tuple":=λ_=>⟨_,hx,rfl⟩;have f1:=sub_AttributeError;have f3:=F.slot_tuple_getattribute.lookup;have f4:=F.slot_tuple_getattribute.bind (.ref a);have f5:=am_tuple_getattr_none;unfold getAttr? getAttrBy? getAttrBy;repeat (any_goals (first|assumption|exact hT _|((with_reducible show wpAny _ _ (call (Value.builtin "tuple.__getattribute__") _ _) _ _ _);refine call_meets F.slot_tuple_getattribute (hT _) am_entry_tuple_getattribute (F.args_tuple_getattribute_2 _ _) (meets_getattribute_miss_tuple a xs k sl name _ hmiss hname hsz) ⟨hx,hA,λh' tk' e hx'=>?_⟩)|wp_step))
 obtain⟨t',u',he⟩:=hx'.there;show wpAny _ _ (getattributeRaised _ _ _ _ _ _ _) _ _ _
 unfold getattributeRaised;repeat (any_goals (first|assumption|wp_step))
 exact h _ _ hx'.keeps
end
section
variable{X:Cx}{pins:List (Addr×Obj)}{σ:St}{H H':Hp}{s:Shared}{d:Addr}{y v:V}{u r:Value}{A:Around}{E:Value->Shared->Prop}
theorem JR{Q:Unit->Shared->Prop}(hu:A.units<cLine)(I:Inv X pins σ H s)(g:t8 H d y v H')(ry:RelV y u)(rv:RelV v r)(h:∀ h' tk,Heap.SameBut d s.heap h'->Inv X pins σ H' { s with heap:=h',toks:=tk }->Q () { s with heap:=h',toks:=tk }) :
  wpAny (model X.prog X.w) A (dictSet d u r) Q E s:=by
 rcases g with⟨kvs,k,e,ey,l,eH⟩|⟨kvs,k,b,e,ey,eb,l,eH⟩
 ·subst ey eH;obtain⟨z,hd,vs,rel,dd⟩:=R7 I.hok e;have hz:vs.length<=sizeLine:=by rw[<-rel.length];exact z
  have hl:(putK kvs k v).length<=sizeLine:=by have:=lJ kvs k v;omega
  refine wpAny_dictSet_pairs (hsz:=hz) (HD ry) dd λh' dd' hs=>h h' _ hs ?_;have he:∃ q,h'.get? d=some q:=let⟨q,_,_,hq,_⟩:=dd';⟨q,hq⟩;exact vP I (by rw[e];exact True.intro) hs he (Li hl hd (rel.put k rv) dd')
 ·subst ey eH;cases (show u=Value.ref b from ry);obtain⟨z,hd,xs,rel,dd⟩:=R8 I.hok e;have hz:xs.length<=sizeLine:=by rw[<-Paired.length rel];exact z
  have hl:(putK kvs k v).length<=sizeLine:=by have:=lJ kvs k v;omega
  refine wpAny_dictSet_heap (hsz:=hz) (show(tupleKind (eQ X.prog X.w)).room A from hu) (zP I.hok eb) dd λh' dd' hs=>h h' _ hs ?_;obtain⟨q,es,ep,hq,h2,h3,h4,_,h5⟩:=dd';refine vP I (by rw[e];exact True.intro) hs ⟨q,hq⟩ ⟨hl,hd,_,(rel.put k eb rv).keeps λc ys ec=>?_,q,es,ep,hq,h2,h3,h4,h5⟩
  rw[aQ (RM ec e (λz=>nomatch z))];exact ec
theorem t8.other(g:t8 H d y v H'){b:Addr}(hb:b≠d):H' b=H b:=by
 rcases g with⟨kvs,k,e,ey,l,rfl⟩|⟨kvs,k,b',e,ey,eb,l,rfl⟩
 ·exact aQ hb
 ·exact aQ hb
def yQ(d:Addr):List (V×V)->Hp->(Hp->Prop)->Prop
 |[],H,Q=>Q H
 |(y,v)::r,H,Q=>∃ H',t8 H d y v H'/\yQ d r H' Q
def zO(K:PySem.W.Frag)(H:Hp)(ys:List V)(ps:List (V×V)):Prop:=ys.length=ps.length/\∀ (j:Nat) x p,ys[j]?=some x->ps[j]?=some p->∃ T,x=.ref T/\SqT K H T [p.1,p.2]
theorem SqT.but{K:PySem.W.Frag}{T:Addr}{xs:List V}(h:SqT K H T xs)(hb:∀ b,b≠d->H' b=H b)(hn:T≠d):SqT K H' T xs:=by
 rcases h with(h|⟨o,h⟩)|h
 ·exact .inl (.inl (by rw[hb T hn];exact h))
 ·exact .inl (.inr ⟨o,by rw[hb T hn];exact h⟩)
 ·exact .inr h
theorem Mx{it:Addr}{fp:List Addr}{n:Nat}{P:Nat->Value->Prop}{St:Nat->Heap->Prop}{ps:List (V×V)}{R:Result->Shared->Prop}{H0:Hp}(hc:X.calm=true)(W:Walks X.prog X.w A.in1 it fp [it] n P St)(hu:A.in1.units<cLine)
  (hn:ps.length=n)(hd:d ∉ fp)(hit:∀ H,H d≠none->(∀ b,b≠d->H b=H0 b)->wk X pins H it)
  (hp:∀ (i:Nat) v p,P i v->ps[i]?=some p->∃ T,v=.ref T/\T≠d/\SqT X.K H0 T [p.1,p.2]) :
  ∀ (k i:Nat) (s:Shared) (H:Hp),n-i=k->i<=n->St i s.heap->Inv X pins σ H s->H d≠none->(∀ b,b≠d->H b=H0 b)->∀ tk,yQ d (ps.drop i) H (λH'=>∀ s',Inv X pins σ H' s'->R (.ok (.ret .none)) s') ->
   codeAny (model X.prog X.w) A (.builtin "dict.update.loop" ⟨[.ref d,.ref it,.int i tk,.none],[]⟩) R s:=by
 intro k;induction k with
 |zero=>
  intro i s H hk hi hst I hHd hb tk hR;have hin:i=n:=by omega
  subst hin;refine codeAny_builtin iG ?_;rw[Around.under_plainId cW _];show wpAny _ A.in1 (pyNext (.ref it)>>=_) _ _ s
  refine Zae (W.done s _ _ hst λh' tk' hk'=>?_);show wpAny _ _ (Builtin.Dict.addKeywords d []>>=_) _ _ _
  rw[List.drop_of_length_le (by omega)] at hR
  exact Zae (Zaq (Zaq (hR _ (I.zN hk' λb hb'=>by rw[ZaD.mp hb'];exact hit H hHd hb))))
 |succ k ih=>
  intro i s H hk hi hst I hHd hb tk hR;have hlt:i<n:=by omega
  have hlp:i<ps.length:=by omega
  have hdr:ps.drop i=ps[i]::ps.drop (i+1):=Zbd hlp;rw[hdr] at hR;refine codeAny_builtin iG ?_;rw[Around.under_plainId cW _];show wpAny _ A.in1 (pyNext (.ref it)>>=_) _ _ s
  refine Zae (W.item i s _ _ hlt hst λv h' tk' hP hst' hk'=>?_);obtain⟨T,rfl,hT,hq⟩:=hp i v ps[i] hP (by simp[hlp])
  have I1:Inv X pins σ H { s with heap:=h',toks:=tk' }:=I.zN hk' λb hb'=>by rw[ZaD.mp hb'];exact hit H hHd hb
  obtain⟨its,rv,ht,_⟩:=I1.tuple (SqT.but hq hb hT);obtain⟨u1,u2,rfl,r1,r2⟩:∃ u1 u2,its=[u1,u2]/\RelV ps[i].1 u1/\RelV ps[i].2 u2:=by
   cases rv with
   |cons a t=>cases t with
    |cons b t=>cases t;exact⟨_,_,rfl,a,b⟩
  obtain⟨H',g,hR⟩:=hR;refine Zae (wpAny_holding (Zae (wpAny_tryCatch ?_)));unfold Builtin.Dict.pairItems;refine Zae (wpAny_typeOf ht.typeIs ?_);rw[Zao (by decide)]
  obtain⟨o,h1,_,m,h2⟩:=ht;refine Zae (wpAny_seqItems h1 h2 (Zaq ?_));show wpAny _ A.in1 (holding [u1,u2] (dictSet d u1 u2)) _ _ _
  refine wpAny_holding (JR hu I1 g r1 r2 λh2' tk2 hs2 I2=>?_);refine Zaq ⟨plainId_quiet cW _,?_⟩;have:=ih (i+1) { s with heap:=h2',toks:=tk2 } H' (by omega) hlt (W.frame _ _ _ hst' λb hb' o e=>(hs2.2 b λz=>hd (by rw[<-z];exact hb')).trans e) I2
   (by rcases g with⟨_,_,_,_,_,rfl⟩|⟨_,_,_,_,_,_,_,rfl⟩<;>rw[aX]<;>simp) (λb hb'=>(t8.other g hb').trans (hb b hb')) 0 hR
  exact this
end
theorem Dl:∀ {xs:List V}{us:List Value}{i:Nat}{u:Value},Vals xs us->us[i]?=some u->∃ x,xs[i]?=some x/\RelV x u
 |[],_,i,u,r,h=>by cases r;simp at h
 |x::xs,_,i,u,r,h=>by
  cases r with
  |cons a t=>
   cases i with
   |zero=>simp at h;subst h;exact⟨x,rfl,a⟩
   |succ i=>obtain⟨y,h1,h2⟩:=Dl (i:=i) t (by simpa using h);exact⟨y,by simpa using h1,h2⟩
def Gg(K:PySem.W.Frag)(n:HO):List V->Hp->VK->Prop:=λxs H Q=>∃ p ys ps,xs=[.ref p]/\(SqL K H p ys\/H p=some (.tup ys))/\zO K H ys ps/\∀ d,H d=none->yQ d ps (upd H d n) λH'=>Q (.ref d) H'
section
variable{X:Cx}
theorem Gh{n:HO}(hc:X.calm=true)(hu:X.A.units+64<cLine)(hn:n=.dK []\/n=.dT []):pK X (.type "dict") (Gg X.K n):=by
 intro pins s σ H xs us Q I rv h;obtain⟨p,ys,ps,rfl,hq,hps,q⟩:=h;obtain⟨u,rfl,ru⟩:=rv.one;cases ru;have hh:X.A.handled=none:=I.ok.hd hc;refine callType_codes (Q₁:=λobj s₁=>obj=.ref s.heap.objs.size/\s₁={ s with heap:=s.heap.push { cls:=.type "dict",data:=.dict #[] } }) F.kt_called_dict (F.kt_typeCall_dict_1 _) F.entry_dict_init (kt_code_dict_new _ ⟨rfl,rfl⟩) ?_;rintro obj s₁ ⟨rfl,rfl⟩;have ok:dX X.prog X.w (upd H s.heap.objs.size n) (s.heap.push { cls:=.type "dict",data:=.dict #[] }) s.heap.objs.size n:=by
  rcases hn with rfl|rfl
  ·exact Cv s.heap I.big
  ·exact Lj s.heap I.big
 have hfree:H s.heap.objs.size=none:=I.hok.fresh (Zag _);have I1:Inv X pins σ (upd H s.heap.objs.size n) { s with heap:=s.heap.push { cls:=.type "dict",data:=.dict #[] } }:=I.laid (a:=s.heap.objs.size) (o:=n) (t':=s.toks) (λ_ _ q=>Zac _ q) (Zag _) ok;have q:=q _ hfree;have hd1:(s.heap.push { cls:=.type "dict",data:=.dict #[] }).get? s.heap.objs.size=some { cls:=.type "dict",data:=.dict #[] }:=Zar _ rfl;have tyD:({ s with heap:=s.heap.push { cls:=.type "dict",data:=.dict #[] } }:Shared).TypeIs (.ref s.heap.objs.size) "dict":=⟨_,hd1,rfl⟩;refine⟨tyD,F.args_dict_init_2 _ _,?_⟩;unfold Builtin.«dict.__init__»;refine Zae ?_;unfold Builtin.Dict.selfAndRest;refine Zae (wpAny_notOrdered_dict tyD ?_);show wpAny _ _ (pure (s.heap.objs.size,[Value.ref p])) _ _ _
 refine Zaq ?_;show wpAny _ _ (Builtin.Dict.updateFrom "dict.__init__" s.heap.objs.size (.ref p) [] .none) _ _ _
 unfold Builtin.Dict.updateFrom;have same:bf H (upd H s.heap.objs.size n):=gf hfree;have hnd:∀ (j:Nat) x pr,ys[j]?=some x->ps[j]?=some pr->∃ T,x=.ref T/\T≠s.heap.objs.size/\SqT X.K (upd H s.heap.objs.size n) T [pr.1,pr.2]:=λj x pr e1 e2=>by
  obtain⟨T,rfl,hT⟩:=hps.2 j x pr e1 e2;obtain⟨its,_,ht,_⟩:=I.tuple hT;exact⟨T,rfl,ZaA ht.lt,same.tup hT⟩
 have fin:∀ (h2:Heap) (tk:Nat) (o:Obj) (St:Nat->Heap->Prop) (its:List Value),(∀ b ob,(s.heap.push { cls:=.type "dict",data:=.dict #[] }).get? b=some ob->h2.get? b=some ob)->Vals ys its ->
   Walks X.prog X.w X.A.in1.in1 h2.objs.size [h2.objs.size,p] [h2.objs.size] its.toArray.size (λi v=>its.toArray[i]?=some v) St->St 0 (h2.push o)->p≠s.heap.objs.size->(∀ b,o.cls≠.ref b) ->
   codeAny (model X.prog X.w) X.A.in1 (.builtin "dict.update.loop" ⟨[.ref s.heap.objs.size,.ref h2.objs.size,.int (0:Nat) 0,.none],[]⟩) (wants (λr s₂=>r=.none/\EP X pins σ Q (.ref s.heap.objs.size) s₂) X.xe) { s with heap:=h2.push o,toks:=tk }:=by
  intro h2 tk o St its hk rv W h0 hp _;have I2:Inv X pins σ (upd H s.heap.objs.size n) { s with heap:=h2,toks:=tk }:=I1.kept hk;have I3:Inv X pins σ (upd H s.heap.objs.size n) { s with heap:=h2.push o,toks:=tk }:=I2.kept (t':=tk) λb ob e=>Zac _ e;have lt1:s.heap.objs.size<h2.objs.size:=Zai (hk _ _ hd1);have hn2:upd H s.heap.objs.size n h2.objs.size=none:=I2.hok.fresh (Zag _);refine Mx (A:=X.A.in1) (ps:=ps) (H0:=upd H s.heap.objs.size n) hc W (show X.A.units+2<cLine by lia) ?_ ?_ (λHx hx1 hx2=>?_) (λi v pr hv hpr=>?_) _ 0 _ _ rfl (Zbh _) h0 I3 (by rw[aX];simp) (λ_ _=>rfl) 0 ?_
  ·rw[List.size_toArray,<-rv.length];exact hps.1.symm
  ·intro z;rcases ZaB.mp z with z|z
   ·exact absurd z (ZaA lt1)
   ·exact absurd (ZaD.mp z).symm hp
  ·exact I2.KY (Zag _) (by rw[hx2 _ (Nat.ne_of_gt lt1)];exact hn2)
  ·rw[List.getElem?_toArray] at hv;obtain⟨y,hy,ry⟩:=Dl rv hv;obtain⟨T,rfl,h1,h2⟩:=hnd i y pr hy hpr;cases ry;exact⟨T,rfl,h1,h2⟩
  ·rw[Za7];have mono:∀ (ps:List (V×V)) (Hx:Hp) (P1 P2:Hp->Prop),(∀ H,P1 H->P2 H)->yQ s.heap.objs.size ps Hx P1->yQ s.heap.objs.size ps Hx P2:=by
    intro ps;induction ps with
    |nil=>exact λHx P1 P2 hP h=>hP _ h
    |cons a r ih=>exact λHx P1 P2 hP ⟨H',g,h⟩=>⟨H',g,ih _ _ _ hP h⟩
   exact mono _ _ _ _ (λHx hQ s' Is=>⟨rfl,.ref _,Hx,Is,rfl,hQ⟩) q
 rcases hq with hq|hq
 ·obtain⟨its,rv,pl,hz⟩:=I1.list (same.seq hq);have hp:p≠s.heap.objs.size:=λz=>by
   obtain⟨o,m,e,c,_⟩:=pl;rw[z,hd1] at e;cases e;exact absurd (show Value.type "dict"=Value.type "list" from c) (by decide)
  obtain⟨o,m,e,c,dn,dt⟩:=id pl;refine Zae (wpAny_typeOf (show Shared.TypeIs _ (.ref p) "list" from⟨_,e,c⟩) ?_);rw[Zao (by decide)]
  refine Zae (sX e c dt dn wR (by decide +kernel) hh λh2 tk hk=>?_)
  rw[Zao (show(none:Option Value).isNone=true from rfl)];refine Zae (wpAny_rule (Zae (wpAny_pyIter_list ((pl.keeps hk).isList) ?_)));refine Zaq ⟨plainId_quiet cW _,fin h2 tk _ _ its hk rv (Walks.list (A:=X.A.in1.in1) hh _ p (ZaA (pl.keeps hk).lt) its.toArray) ⟨⟨_,Zar _ rfl,rfl,rfl⟩,(pl.keeps λb ob eb=>Zac _ (hk b ob eb)).isList⟩ hp (λb z=>nomatch z)⟩
 ·obtain⟨_,its,rv,tn⟩:=(show dX X.prog X.w _ _ p (.tup ys) from I1.hok p _ (same _ _ hq));have hp:p≠s.heap.objs.size:=λz=>by
   obtain⟨⟨o,e,c,_⟩,_⟩:=tn;rw[z,hd1] at e;cases e;exact absurd (show Value.type "dict"=Value.type "tuple" from c) (by decide)
  obtain⟨⟨o,e,c,m,dt⟩,dn⟩:=id tn;refine Zae (wpAny_typeOf (show Shared.TypeIs _ (.ref p) "tuple" from⟨_,e,c⟩) ?_);rw[Zao (by decide)]
  refine Zae (rZ e c dt (dn o e) vD (by decide +kernel) hh λh2 tk hk=>?_)
  rw[Zao (show(none:Option Value).isNone=true from rfl)];have tp:({ s with heap:=h2,toks:=tk }:Shared).heap.IsTuple p its.toArray:=⟨o,hk _ _ e,c,m,dt⟩;refine Zae (wpAny_rule (Zae (wpAny_pyIter_tuple tp ?_)));refine Zaq ⟨plainId_quiet cW _,fin h2 tk _ _ its hk rv (Walks.tuple (A:=X.A.in1.in1) hh _ p (ZaA (Zai (hk _ _ e))) its.toArray) ⟨⟨_,Zar _ rfl,rfl,rfl⟩,⟨o,Zac _ (hk _ _ e),c,m,dt⟩⟩ hp (λb z=>nomatch z)⟩
end
section
variable{κ:Type}[DecidableEq κ]
def lG:List (κ×PV)->κ->Option PV
 |[],_=>none
 |(a,p)::l,k=>if a=k then some p else lG l k
def mX:List (κ×PV)->κ->PV->List (κ×PV)
 |[],k,p=>[(k,p)]
 |(a,q)::l,k,p=>if a=k then(a,p)::(if(l.any λe=>decide (e.1=k))=true then mX l k p else l) else(a,q)::mX l k p
inductive g8(K:PySem.W.Frag)(F:Hp):List (κ×V)->List (κ×PV)->Prop
 |nil:g8 K F [] []
 |cons {k:κ}{v:V}{p:PV}{xs:List (κ×V)}{l:List (κ×PV)} (h:Rep K F v p) (t:g8 K F xs l):g8 K F ((k,v)::xs) ((k,p)::l)
variable{K:PySem.W.Frag}{F:Hp}{xs:List (κ×V)}{l:List (κ×PV)}{k:κ}
theorem g8.of:∀ {xs:List (κ×V)}{l:List (κ×PV)},xs.map (·.1)=l.map (·.1)->(∀ (j:Nat) x p,xs[j]?=some x->l[j]?=some p->Rep K F x.2 p.2)->g8 K F xs l
 |[],[],_,_=>.nil
 |[],_::_,h,_=>by simp at h
 |_::_,[],h,_=>by simp at h
 |(a,v)::xs,(b,p)::l,h,hr=>by
  simp only[Zay,Zbm] at h;obtain⟨h1,h2⟩:=h;have h1:a=b:=h1;subst h1;exact .cons (hr 0 _ _ rfl rfl) (g8.of h2 λj x p e1 e2=>hr (j+1) x p (by simpa using e1) (by simpa using e2))
theorem g8.keys(h:g8 K F xs l):xs.map (·.1)=l.map (·.1):=by
 induction h with
 |nil=>rfl
 |cons h t ih=>simp[ih]
theorem g8.len(h:g8 K F xs l):xs.length=l.length:=by
 have:=congrArg List.length h.keys;simpa using this
theorem g8.at(h:g8 K F xs l):∀ (j:Nat) x p,xs[j]?=some x->l[j]?=some p->Rep K F x.2 p.2:=by
 induction h with
 |nil=>intro j x p e;simp at e
 |cons h t ih=>
  intro j x p e1 e2;cases j with
  |zero=>simp at e1 e2;subst e1 e2;exact h
  |succ j=>exact ih j x p (by simpa using e1) (by simpa using e2)
theorem g8.none(h:g8 K F xs l)(e:lG l k=none):vA xs k=none:=by
 induction h with
 |nil=>rfl
 |@cons a v p xs l h t ih=>
  unfold lG at e;split at e
  ·cases e
  ·rename_i hk;rw[qw hk];exact ih e
theorem g8.some{p:PV}(h:g8 K F xs l)(e:lG l k=some p):∃ v,vA xs k=some v/\Rep K F v p:=by
 induction h with
 |nil=>cases e
 |@cons a v q xs l h t ih=>
  unfold lG at e;split at e
  ·rename_i hk;cases e;exact⟨v,t7 hk,h⟩
  ·rename_i hk;obtain⟨w,h1,h2⟩:=ih e;exact⟨w,by rw[qw hk];exact h1,h2⟩
theorem g8.any(h:g8 K F xs l):(xs.any λe=>decide (e.1=k))=l.any λe=>decide (e.1=k):=by
 induction h with
 |nil=>rfl
 |cons h t ih=>simp only[Zbo,ih]
theorem g8.repl{v:V}{p:PV}(h:g8 K F xs l)(r:Rep K F v p):(l.any λe=>decide (e.1=k))=true->g8 K F (xs.map λkv=>if kv.1=k then(kv.1,v) else kv) (mX l k p):=by
 induction h with
 |nil=>intro z;cases z
 |@cons a w q xs l h t ih=>
  intro z;unfold mX;rw[Zay];by_cases hk:a=k
  ·rw[Zao hk,Zao hk];refine .cons r ?_;by_cases hl:(l.any λe=>decide (e.1=k))=true
   ·rw[Zao hl];exact ih hl
   ·rw[Zal hl];have hx:∀ e∈xs,¬e.1=k:=λe he z=>hl (by rw[<-t.any];exact List.any_eq_true.mpr ⟨e,he,by simpa using z⟩)
    rw[show xs.map (λkv=>if kv.1=k then(kv.1,v) else kv)=xs from by
     conv=>rhs;rw[<-List.map_id xs]
     exact List.map_congr_left λe he=>by rw[Zal (hx e he)];rfl]
    exact t
  ·rw[Zal hk,Zal hk];refine .cons h (ih ?_);rw[Zbo] at z;simpa[hk] using z
theorem g8.snoc{v:V}{p:PV}(h:g8 K F xs l)(r:Rep K F v p):(l.any λe=>decide (e.1=k))=false->g8 K F (xs++[(k,v)]) (mX l k p):=by
 induction h with
 |nil=>intro _;exact .cons r .nil
 |@cons a w q xs l h t ih=>
  intro z;rw[Zbo,Bool.or_eq_false_iff] at z;have hk:¬a=k:=by simpa using z.1
  unfold mX;rw[Zal hk];exact .cons h (ih z.2)
theorem g8.put{v:V}{p:PV}(h:g8 K F xs l)(r:Rep K F v p):g8 K F (putK xs k v) (mX l k p):=by
 unfold putK;by_cases z:(xs.any λe=>decide (e.1=k))=true
 ·rw[Zao z];exact h.repl r (by rw[<-h.any];exact z)
 ·rw[Zal z];exact h.snoc r (by rw[<-h.any];exact Bool.not_eq_true _▸z)
end
def wU:PV->Option Key
 |.int i=>some (.inl i)
 |.str x=>some (.inr x)
 |_=>none
def oR:List PV->Option (List Key)
 |[]=>some []
 |p::l=>match wU p,oR l with
  |some k,some ks=>some (k::ks)
  |_,_=>none
theorem wV{K:PySem.W.Frag}{F:Hp}{p:PV}{k:Key}{v:V}(h:wU p=some k)(r:Rep K F v p):v=kV k:=by
 cases p with
 |int i=>cases h;cases Rep.bR r;rfl
 |str x=>cases h;cases Rep.cC r;rfl
 |_=>cases h
theorem uT{K:PySem.W.Frag}{F:Hp}:∀ {l:List PV}{ks:List Key}{xs:List V},oR l=some ks->b8 K F xs l->xs=ks.map kV
 |[],ks,xs,h,r=>by cases h;exact r.jT
 |p::l,ks,xs,h,r=>by
  unfold oR at h;split at h
  ·rename_i k ks' h1 h2;cases h;obtain⟨v,ys,rfl,r1,r2⟩:=r.gh;rw[wV h1 r1,uT h2 r2];rfl
  ·cases h
def PV.isD:PV->Bool
 |.dk _=>true
 |.dt _=>true
 |_=>false
def DLk(K:PySem.W.Frag)(F H:Hp)(a:Addr):PV->Prop
 |.dk l=>∃ xs,Rd H a (.dK xs)/\xs.map (·.1)=l.map (·.1)/\∀ (j:Nat) x p,xs[j]?=some x->l[j]?=some p->Rep K F x.2 p.2
 |.dt l=>∃ xs,Rd H a (.dT xs)/\xs.map (·.1)=l.map (·.1)/\∀ (j:Nat) x p,xs[j]?=some x->l[j]?=some p->Rep K F x.2 p.2
 |_=>False
theorem DLk.up{K:PySem.W.Frag}{F H F' H':Hp}{a:Addr}{p:PV}(o:DLk K F H a p)(sf:bf F F')(sh:bf H H'):DLk K F' H' a p:=by
 cases p with
 |dk l=>obtain⟨xs,e,r,q⟩:=o;exact⟨xs,e.same sh,r,λj x p a b=>(q j x p a b).up sf⟩
 |dt l=>obtain⟨xs,e,r,q⟩:=o;exact⟨xs,e.same sh,r,λj x p a b=>(q j x p a b).up sf⟩
 |_=>exact o.elim
theorem Own.look{K:PySem.W.Frag}{F H:Hp}{a:Addr}{p:PV}(o:Own K F H a p)(d:p.isD=true):DLk K F H a p:=by
 cases p with
 |dk l=>obtain⟨xs,e,r⟩:=o;exact⟨xs,.inl e,r⟩
 |dt l=>obtain⟨xs,e,r⟩:=o;exact⟨xs,.inl e,r⟩
 |_=>cases d
def aD(K:PySem.W.Frag):Rel PV:=λF H v p=>p.isD=true/\∃ a,v=.ref a/\DLk K F H a p
def asD(p:PV):Option (Res PV):=if p.isD=true then some (.ok p) else none
theorem Rep.own{K:PySem.W.Frag}{F H:Hp}{v:V}{p:PV}(r:Rep K F v p)(s:bf F H)(d:p.isD=true):∃ a,v=.ref a/\DLk K F H a p:=by
 cases r with
 |dk h hl hr=>exact⟨_,rfl,_,h.same s,hl,hr⟩
 |dt h hl hr=>exact⟨_,rfl,_,h.same s,hl,hr⟩
 |_=>cases d
section
variable{K:PySem.W.Frag}{C:Cg}{ta tb tc te:TE}{f g h:Fn PV}
def rJ(i:Nat):Fn PV:=λρ=>bnd (mVL i ρ) asD
theorem yR(i:Nat):MJ K C (aD K) (tM i) (rJ i):=by
 intro F H σ ρ Q r R e P;unfold rJ at e;rcases cV e with⟨z,e1,rfl⟩|⟨p,e1,hk⟩
 ·unfold mVL at e1;split at e1<;>cases e1
 ·unfold asD at hk;split at hk
  case isFalse=>cases hk
  rename_i hd;cases hk;unfold mVL at e1;split at e1
  ·rename_i q hq;cases e1;obtain⟨v,e2,e3⟩:=R.sh i _ hq;exact⟨v,e2,P v F H (Up.refl R.rb.sub) ⟨hd,Rep.own e3 R.rb.sub hd⟩⟩
  ·rename_i q hq;cases e1;obtain⟨a,e2,e3,_⟩:=R.ow i _ hq;exact⟨_,e2,P _ F H (Up.refl R.rb.sub) ⟨hd,a,rfl,e3.look hd⟩⟩
  ·cases e1
def wW:PV->PV->Option (Option PV)
 |.dk l,k=>(wU k).map (lG l)
 |.dt l,.tup ks=>(oR ks).map (lG l)
 |_,_=>none
theorem My{F H:Hp}{a:Addr}{d k:PV}{y:V}{r:Option PV}(s:bf F H)(o:DLk K F H a d)(ry:Rep K F y k)(e:wW d k=some r) :
  ∃ o,T3 H a y o/\(r=none->o=none)/\∀ p,r=some p->∃ v,o=some v/\Rep K F v p:=by
 have inv:(∃ l,d=.dk l)\/∃ l ks,d=.dt l/\k=.tup ks:=by
  clear o ry
  cases d<;>first|exact noS e|exact .inl ⟨_,rfl⟩|(cases k<;>first|exact noS e|exact .inr ⟨_,_,rfl,rfl⟩)
 rcases inv with⟨l,rfl⟩|⟨l,ks,rfl,rfl⟩
 ·obtain⟨xs,h1,h2,h3⟩:=o;have D:=g8.of (K:=K) (F:=F) h2 h3;have e:(wU k).map (lG l)=some r:=e;cases hk:wU k with
  |none=>rw[hk] at e;cases e
  |some k'=>
   rw[hk] at e;cases e;cases wV hk ry;exact⟨_,.inl ⟨_,_,h1,rfl,rfl⟩,λn=>D.none n,λp q=>D.some q⟩
 ·obtain⟨xs,h1,h2,h3⟩:=o;have D:=g8.of (K:=K) (F:=F) h2 h3;have e:(oR ks).map (lG l)=some r:=e;cases hk:oR ks with
  |none=>rw[hk] at e;cases e
  |some k'=>
   rw[hk] at e;cases e;obtain⟨b,ys,rfl,hb,rr⟩:=Rep.Cy ry;cases uT hk rr;exact⟨_,.inr ⟨_,_,_,h1,rfl,s _ _ hb,rfl⟩,λn=>D.none n,λp q=>D.some q⟩
theorem DLk.isD{F H:Hp}{a:Addr}{p:PV}(o:DLk K F H a p)(d:p.isD=true):IsD H a:=by
 cases p with
 |dk l=>obtain⟨xs,e,_⟩:=o;exact .inl ⟨xs,e⟩
 |dt l=>obtain⟨xs,e,_⟩:=o;exact .inr ⟨xs,e⟩
 |_=>cases d
def wX(f g h:Fn PV):Fn PV:=λρ=>bnd (f ρ) λd=>bnd (g ρ) λk=>bnd (h ρ) λx=>(wW d k).map λr=>.ok (r.getD x)
theorem Dm(ha:MJ K C (aD K) ta f)(hb:MJ K C (aF K) tb g)(hc:MJ K C (aF K) tc h):MJ K C (aF K) (zQ ta tb tc) (wX f g h):=by
 intro F H σ ρ Q r R e P;refine ha.run R e P ?_;rintro d v F1 H1 hk u ⟨hd,a,ea,o⟩;subst ea;refine⟨a,rfl,o.isD hd,?_⟩;refine hb.run (R.up u) hk (P.later u) λk w F2 H2 hk2 u2 b=>?_;have u12:=u.trans u2;refine hc.run (R.up u12) hk2 (P.later u12) λx z F3 H3 hk3 u3 c=>?_;cases hp:wW d k with
 |none=>rw[hp] at hk3;cases hk3
 |some q=>
  rw[hp] at hk3;cases hk3;have u23:=u2.trans u3;obtain⟨ov,g,g1,g2⟩:=My u3.fh (o.up u23.ff u23.hh) (Rep.up b u3.ff) hp;refine⟨ov,g,P _ F3 H3 (u12.trans u3) ?_⟩;cases q with
  |none=>rw[g1 rfl];exact c
  |some p=>obtain⟨v,rfl,rv⟩:=g2 p rfl;exact rv
def JS:PV->PV->PV->Option PV
 |.dk l,k,p=>match wU k with
  |some k=>if l.length<sizeLine then some (.dk (mX l k p)) else none
  |none=>none
 |.dt l,.tup ks,p=>match oR ks with
  |some k=>if l.length<sizeLine then some (.dt (mX l k p)) else none
  |none=>none
 |_,_,_=>none
theorem Ig{F H:Hp}{a:Addr}{d k p d':PV}{y v:V}(s:bf F H)(o:Own K F H a d)(ry:Rep K F y k)(rv:Rep K F v p)(e:JS d k p=some d') :
  ∃ ob,t8 H a y v (upd H a ob)/\Own K F (upd H a ob) a d':=by
 have inv:(∃ l,d=.dk l)\/∃ l ks,d=.dt l/\k=.tup ks:=by
  clear o ry rv
  cases d<;>first|exact noS e|exact .inl ⟨_,rfl⟩|(cases k<;>first|exact noS e|exact .inr ⟨_,_,rfl,rfl⟩)
 rcases inv with⟨l,rfl⟩|⟨l,ks,rfl,rfl⟩
 ·obtain⟨xs,h1,h2,h3⟩:=o;have D:=g8.of (K:=K) (F:=F) h2 h3;have e:(match wU k with|some k=>if l.length<sizeLine then some (PV.dk (mX l k p)) else none|none=>none)=some d':=e
  split at e
  case h_2=>cases e
  rename_i k' hk;split at e
  case isFalse=>cases e
  rename_i hz;cases e;cases wV hk ry;have D':=D.put (k:=k') rv;exact⟨_,t8.k h1 (by rw[D.len];exact hz),_,aX,D'.keys,D'.at⟩
 ·obtain⟨xs,h1,h2,h3⟩:=o;have D:=g8.of (K:=K) (F:=F) h2 h3;have e:(match oR ks with|some k=>if l.length<sizeLine then some (PV.dt (mX l k p)) else none|none=>none)=some d':=e
  split at e
  case h_2=>cases e
  rename_i k' hk;split at e
  case isFalse=>cases e
  rename_i hz;cases e;obtain⟨b,ys,rfl,hb,rr⟩:=Rep.Cy ry;cases uT hk rr;have D':=D.put (k:=k') rv;exact⟨_,t8.t h1 (s _ _ hb) (by rw[D.len];exact hz),_,aX,D'.keys,D'.at⟩
def Ii(i:Nat)(fe fk:Fn PV):Sn:=λρ=>mR (fe ρ) λp=>match ownAt i ρ with
 |some d=>mR (fk ρ) λk=>match JS d k p with
  |some d'=>some (.nx (ρ.set i (some (.ow d'))))
  |none=>none
 |none=>none
theorem Qs{i:Nat}{fe fk:Fn PV}(he:MJ K C (aF K) te fe)(hk:MJ K C (aF K) tb fk):MS K C (R9 (tM i) tb te) (Ii i fe fk):=by
 intro F H σ ρ D o R e P;refine he.vB R e P λp v F1 H1 hk1 u a=>?_;split at hk1
 case h_2=>cases hk1
 rename_i d hd;obtain⟨b,g1,_⟩:=R.ow i _ (dm hd);refine⟨_,g1,hk.vB (R.up u) hk1 (P.up u.ff) λk w F2 H2 hk2 u2 rk=>?_⟩;split at hk2
 case h_2=>cases hk2
 rename_i d' hd';cases hk2;have R2:=R.up (u.trans u2);obtain⟨a',k1,k2,_⟩:=R2.ow i _ (dm hd);rw[g1] at k1;cases k1;obtain⟨ob,g,w'⟩:=Ig u2.fh k2 rk (Rep.up a u2.ff) hd';exact⟨b,_,rfl,g,P F2 _ σ (u.trans u2).ff (R2.write (dm hd) g1 w')⟩
theorem Qt:MO K C Lk Mw:=by
 intro F H σ ρ Q r R e P;cases e;intro p hp;exact P p F _ (Up.CJ R.rb.sub hp) hp (R.rb.sub.free hp) ⟨[],aX,rfl,λj x p h=>by simp at h⟩
def asPair:PV->Option (PV×PV)
 |.tup [a,b]=>some (a,b)
 |_=>none
def oU:List PV->Option (List (PV×PV))
 |[]=>some []
 |p::l=>match asPair p,oU l with
  |some a,some r=>some (a::r)
  |_,_=>none
def jZ(d:PV):List (PV×PV)->Option PV
 |[]=>some d
 |(k,p)::r=>match JS d k p with
  |some d'=>jZ d' r
  |none=>none
theorem wY{F H:Hp}(s:bf F H):∀ {l:List PV}{ps:List (PV×PV)}{xs:List V},oU l=some ps->b8 K F xs l ->
  ∃ vs:List (V×V),zO K H xs vs/\vs.length=ps.length/\∀ (j:Nat) x p,vs[j]?=some x->ps[j]?=some p->Rep K F x.1 p.1/\Rep K F x.2 p.2
 |[],ps,xs,h,r=>by
  cases h;cases r.jT;exact⟨[],⟨rfl,λj x p e=>by simp at e⟩,rfl,λj x p e=>by simp at e⟩
 |p::l,ps,xs,h,r=>by
  unfold oU at h;split at h
  ·rename_i a r' h1 h2;cases h;obtain⟨v,ys,rfl,r1,r2⟩:=r.gh;obtain⟨vs,g1,g2,g3⟩:=wY s h2 r2;unfold asPair at h1;split at h1
   ·rename_i pa pb;cases h1;obtain⟨b,zs,rfl,hb,rr⟩:=Rep.dF r1;obtain⟨v1,zs1,rfl,q1,rr⟩:=rr.gh;obtain⟨v2,zs2,rfl,q2,rr⟩:=rr.gh;cases rr.jT;refine⟨(v1,v2)::vs,⟨by simp[g1.1],λj x p e1 e2=>?_⟩,by simp[g2],λj x p e1 e2=>?_⟩
    ·cases j with
     |zero=>simp at e1 e2;subst e1 e2;exact⟨b,rfl,s.tup hb⟩
     |succ j=>exact g1.2 j x p (by simpa using e1) (by simpa using e2)
    ·cases j with
     |zero=>simp at e1 e2;subst e1 e2;exact⟨q1,q2⟩
     |succ j=>exact g3 j x p (by simpa using e1) (by simpa using e2)
   ·cases h1
  ·cases h
theorem wZ{F:Hp}{a:Addr}{Q:Hp->Prop}:∀ {ps:List (PV×PV)}{vs:List (V×V)}{H:Hp}{d d':PV},bf F H->F a=none->Own K F H a d->vs.length=ps.length->(∀ (j:Nat) x p,vs[j]?=some x->ps[j]?=some p->Rep K F x.1 p.1/\Rep K F x.2 p.2) ->
  jZ d ps=some d'->(∀ H',bf F H'->(∀ b,b≠a->H' b=H b)->Own K F H' a d'->Q H')->yQ a vs H Q
 |[],vs,H,d,d',s,hn,o,hl,hr,e,q=>by
  cases vs with
  |nil=>cases e;exact q H s (λ_ _=>rfl) o
  |cons v vs=>simp at hl
 |(k,p)::ps,vs,H,d,d',s,hn,o,hl,hr,e,q=>by
  cases vs with
  |nil=>simp at hl
  |cons v vs=>
   unfold jZ at e;split at e
   case h_2=>cases e
   rename_i d1 h1;obtain⟨r1,r2⟩:=hr 0 v (k,p) rfl rfl;obtain⟨ob,g,o1⟩:=Ig s o r1 r2 h1;refine⟨_,g,wZ (H:=upd H a ob) (λb u z=>by rw[aQ (cD z hn)];exact s b u z) hn o1 (by simpa using hl) (λj x p e1 e2=>hr (j+1) x p (by simpa using e1) (by simpa using e2)) e λH' s' hb o'=>?_⟩
   exact q H' s' (λb hb'=>(hb b hb').trans (aQ hb')) o'
def ue(d:PV)(l:List PV):Option (Res PV):=match oU l with
 |some ps=>(jZ d ps).map .ok
 |none=>none
theorem Qu{n:HO}{d:PV}(hd:∀ F H a,H a=some n->Own K F H a d):R1O K C (aV K) (Gg K n) (ue d):=by
 intro F H x l res Q s ha e P;obtain⟨b,xs,rfl,h1,r1⟩:=ha;unfold ue at e;split at e
 case h_2=>cases e
 rename_i ps hps;cases hd':jZ d ps with
 |none=>rw[hd'] at e;cases e
 |some d'=>
  rw[hd'] at e;cases e;obtain⟨vs,g1,g2,g3⟩:=wY (H:=H) s hps r1;refine⟨b,xs,vs,rfl,.inl h1,g1,λa na=>?_⟩;refine wZ (F:=F) (s.trans (gf na)) (s.free na) (hd _ _ _ aX) g2 g3 hd' λH' s' hb o'=>?_;exact P a F H' ⟨bf.refl _,λc o q=>by rw[hb c (cD q na),aQ (cD q na)];exact q,λ_ _ q=>.inl q,s'⟩ na (s.free na) o'
theorem Qv{F H:Hp}{a:Addr}(h:H a=some (.dK [])):Own K F H a (.dk []):=⟨[],h,rfl,λj x p e=>by simp at e⟩
end
section
variable{X:Cx}
theorem Gi{k:Nat}(hr:fD k X.A)(hc:X.calm=true):pK X (.type "dict") (Gg X.K (.dK [])):=Gh hc hr.units (.inl rfl)
end
section
variable{X:Cx}{k:Nat}{N:List Str}{scope:Scope}{cl:List (Str×Addr)}{C:Addr}{s2:Shared}{H2:Hp}{fp:List Addr}
theorem JT{X:Cx}{k:Nat}{o e f:Expr}{apos cpos:Pos}{td ty tx:TE}(hr:fD k X.A)(ho:PE X o td)(he:PE X e ty)(hf:PE X f tx)(m:M2 X o "get" apos e f cpos):PE X (.Call (.Attribute o "get" apos) [e,f] [] cpos) (zQ td ty tx):=Cw (La hr) ho he hf m
theorem Gj{o e f:Expr}{apos cpos:Pos}{td ty tx:TE}(hr:fD k X.A)(ho:PE (X.comp N scope cl C s2 H2 fp) o td)(he:PE (X.comp N scope cl C s2 H2 fp) e ty)(hf:PE (X.comp N scope cl C s2 H2 fp) f tx)(m:M2 (X.comp N scope cl C s2 H2 fp) o "get" apos e f cpos):PE (X.comp N scope cl C s2 H2 fp) (.Call (.Attribute o "get" apos) [e,f] [] cpos) (zQ td ty tx):=Cw (La hr) ho he hf m
end
section
def CR(a b c:Int):Prop:=0<=a/\a<2^30/\-(2^30)<=b/\b<2^30/\0<c/\c<2^30
noncomputable instance(a b c:Int):Decidable (CR a b c):=inferInstanceAs (Decidable (_/\_))
theorem uM{acc:Array Value}{n:Nat}(h:ItemsOf (λi v=>∃ t,v=.int (0+(i:Nat)*1) t) acc n):Vals ((List.range n).map λi=>V.int (i:Nat)) acc.toList:=by
 obtain⟨hs,hv⟩:=h;have go:∀ (l:List Value) (k:Nat),(∀ (i:Nat) v,l[i]?=some v->∃ t,v=Value.int (((k+i:Nat):Int)) t)->Vals ((List.range' k l.length).map λi=>V.int (i:Nat)) l:=by
  intro l;induction l with
  |nil=>intro k _;exact .nil
  |cons v l ih=>
   intro k h;rw[ZaG,List.range'_succ,Zay];obtain⟨t,e⟩:=h 0 v rfl;refine .cons ⟨t,by rw[e];rfl⟩ (ih (k+1) λi v hv=>?_)
   obtain⟨t,e⟩:=h (i+1) v (by simpa using hv)
   exact⟨t,by rw[e];congr 2;omega⟩
 have:=go acc.toList 0 λi v e=>by
  obtain⟨t,e2⟩:=hv i v (by simpa using e)
  exact⟨t,by rw[e2];congr 1;omega⟩
 rwa [Za9,hs,<-List.range_eq_range'] at this
end
section
variable{K:PySem.W.Frag}{C:Cg}{ta:TE}{f:Fn PV}
def Mz:PV->Option (Res PV)
 |.int i=>some (.ok (.int (Builtin.bitNot i)))
 |_=>none
theorem Ur(ha:MJ K C (aF K) ta f):MJ K C (aF K) (tUn (rU λi=>.int (Builtin.bitNot i)) ta) (m1 Mz f):=by
 intro F H σ ρ Q r R e P;refine ha.run R e P λp v F1 H1 hk u a=>?_
 match p,hk with
 |.int i,hk=>
  cases Rep.bR a;cases hk;exact⟨i,rfl,P _ F1 H1 u .int⟩
def Sv(_ j:Int):Prop:=0<j/\j.natAbs.log2<9000
def Sw(_ j:Int):Bool:=decide (0<j/\j.natAbs.log2<9000)
theorem MF{X:Cx}:OpR X (binaryOp .FloorDiv) (rI Sv λi j=>.int (i/j)):=_root_.L2.opI λi j _ _ _ _ _ hc q=>by
 have h1:(0:Int)<j:=hc.1;exact floordiv_int (by omega) (by rw[Int.fdiv_eq_ediv_of_nonneg i (by omega)];exact q) (.inl (PyProof.noPylong_of_log2 hc.2))
def z9:=MP.opI Sw λi j=>.int (i/j)
theorem Us:R2M C (aF K) (aF K) (aF K) (rI Sv λi j=>.int (i/j)) z9:=yN (λ_ _ h=>of_decide_eq_true (p:=0<_/\_) h) λ_ _ _=>.int
end
def POk(K:PySem.W.Frag)(C:Cg)(F:Hp)(D:Ends)(i:Nat)(c:Option (Option V)):Out->Prop
 |.nx ρ=>∀ F' H' σ,bf F F'->RE K C.toCf F' H' σ ρ->σ[i]?=c->D.nx σ H'
 |.bk ρ=>∀ F' H' σ,bf F F'->RE K C.toCf F' H' σ ρ->σ[i]?=c->D.bk σ H'
 |.ct ρ=>∀ F' H' σ,bf F F'->RE K C.toCf F' H' σ ρ->σ[i]?=c->D.ct σ H'
 |o=>PO' K C F D o
def New(H F' H':Hp)(S:Addr->Prop):Prop:=∀ b,S b->H b=none/\F' b=none/\∃ o,H' b=some o/\∀ ys,o≠.tup ys
def MD(K:PySem.W.Frag)(C:Cg)(te:TE)(f:Fn PV):Prop:=
 ∀ F H σ ρ Q r,RE K C.toCf F H σ ρ->f ρ=some r->Pr C F (λp=>∀ v F' H' S,Up F H F' H'->Dp K F' H' S v p->New H F' H' S->Q v H') r->te σ H Q
def spD(K:PySem.W.Frag)(XR:Hp->Value->Option Addr->PV->Prop)(m:List PV->Option (Res PV)):Sp:=λvs H Q E=>∃ ps F r,bf F H/\b8 K F vs ps/\m ps=some r/\match r with
 |.ok p=>∀ v F' H' S,Up F H F' H'->Dp K F' H' S v p->New H F' H' S->Q v H'
 |.ex z=>∀ e d F' H',Up F H F' H'->XR F' e d z->E e d H'
section
variable{K:PySem.W.Frag}{C:Cg}{te:TE}{F F1 F2 H H1 H2:Hp}{σ:St}{ρ:Rho}{D:Ends}{u:TS}{o:Out}{S:Addr->Prop}{v:V}{p:PV}
theorem New.up(n:New H F1 H1 S)(u:Up F1 H1 F2 H2):New H F2 H2 S:=λb q=>by
 obtain⟨n0,n1,o,n2,n3⟩:=n b q;refine⟨n0,?_,o,u.hh _ _ n2,n3⟩;cases e:F2 b with
 |none=>rfl
 |some o'=>
  rcases u.fr b o' e with z|z|⟨ys,z⟩
  ·rw[n1] at z;cases z
  ·rw[n2] at z;cases z
  ·subst z;have w:=u.fh _ _ e;rw[u.hh _ _ n2] at w;cases w;exact absurd rfl (n3 ys)
theorem Dp.stay(d:Dp K F1 H1 S v p)(u:Up F1 H1 F2 H2):Dp K F2 H2 S v p:=d.up u.ff (λb o _ q=>u.hh b o q) λb ys q=>u.hh b _ q
def JV(F H:Hp)(S:Addr->Prop):Hp:=λb=>@ite _ (S b\/∃ ys,H b=some (.tup ys)) (Classical.propDecidable _) (H b) (F b)
theorem uf{b:Addr}(h:S b\/∃ ys,H b=some (.tup ys)):JV F H S b=H b:=@if_pos _ (Classical.propDecidable _) h _ _ _
theorem w5{b:Addr}(h:¬(S b\/∃ ys,H b=some (.tup ys))):JV F H S b=F b:=@if_neg _ (Classical.propDecidable _) h _ _ _
theorem yS(s:bf F H):bf F (JV F H S):=λb o e=>by
 by_cases h:S b\/∃ ys,H b=some (.tup ys)
 ·rw[uf h];exact s b o e
 ·rw[w5 h];exact e
theorem MK(s:bf F H):bf (JV F H S) H:=λb o e=>by
 by_cases h:S b\/∃ ys,H b=some (.tup ys)
 ·rw[uf h] at e;exact e
 ·rw[w5 h] at e;exact s b o e
theorem MN(d:Dp K F H S v p)(s:bf F H):Rep K (JV F H S) v p:=
 d.seen (yS s) (λb o q e=>by rw[uf (.inl q)];exact e) λb ys e=>by rw[uf (.inr ⟨ys,e⟩)];exact e
theorem Qw(u:Up F H F1 H1)(n:New H F1 H1 S):Up F H (JV F1 H1 S) H1 where
 ff:=u.ff.trans (yS u.fh)
 hh:=u.hh
 fr:=λb o e=>by
  by_cases h:S b\/∃ ys,H1 b=some (.tup ys)
  ·rw[uf h] at e;rcases h with h|⟨ys,h⟩
   ·exact .inr (.inl (n b h).1)
   ·rw[h] at e;cases e;exact .inr (.inr ⟨ys,rfl⟩)
  ·rw[w5 h] at e;exact u.fr b o e
 fh:=MK u.fh
theorem Ut{fe:Fn PV}(h:MD K C te fe):MJ K C (aF K) te fe:=λF H σ ρ Q r R e P=>
 h F H σ ρ Q r R e (Pr.mono P (bf.refl _) λp q v F' H' S u d n=>q v _ H' (Qw u n) (MN d u.fh))
def Ij(fe:Fn PV):Fn PV:=λρ=>bnd (fe ρ) λp=>match p with
 |.lst l=>if l.all PV.still=true then some (.ok (.lst l)) else none
 |_=>none
theorem Wm{fe:Fn PV}(h:MO K C te fe):MD K C te (Ij fe):=by
 intro F H σ ρ Q r R e P;rcases cV e with⟨z,e1,rfl⟩|⟨p,e1,hk⟩
 ·exact h F H σ ρ Q _ R e1 P
 ·split at hk
  ·rename_i l;split at hk
   ·rename_i hl;cases hk;refine h F H σ ρ Q _ R e1 λa F' H' u n1 n2 w=>?_;obtain⟨xs,e2,e3⟩:=w;refine P _ F' H' (λb=>b=a) u ?_ ?_
    ·refine .lst (S:=λ_ _=>False) e2 rfl (λj b q=>q.elim) (λi j b q=>q.elim) e3.1 λj x p e4 e5=>.fr (e3.2 j x p e4 e5) ?_;exact Za1.mp hl p (Zax e5)
    ·rintro b rfl;exact⟨n1,n2,_,e2,λys q=>by cases q⟩
   ·cases hk
  ·cases hk
def Dps(K:PySem.W.Frag)(F H:Hp)(S:Nat->Addr->Prop)(xs:List V)(l:List PV):Prop:=
 xs.length=l.length/\(∀ i j b,S i b->S j b->i=j)/\∀ (j:Nat) x p,xs[j]?=some x->l[j]?=some p->Dp K F H (S j) x p
def Ik(fe:Fn PV):Sn:=λρ=>mR (fe ρ) λp=>some (.rd p)
theorem Qx{fe:Fn PV}(h:MD K C te fe):MS K C (KR te) (Ik fe):=by
 intro F H σ ρ D o R e P;rcases gk e with⟨z,e1,rfl⟩|⟨p,e1,hk⟩
 ·exact h F H σ ρ _ _ R e1 P
 ·cases hk;exact h F H σ ρ _ _ R e1 λv F1 H1 S u d n=>P v F1 H1 S u.ff (R.rb.up u) d λb q=>⟨(n b q).2.1,(n b q).2.2,R.rb.yK (n b q).1⟩
end
section
variable{K:PySem.W.Frag}{C:Cg}{te:TE}{F F1 F2 H H1 H2:Hp}{σ:St}{ρ:Rho}{D:Ends}{u:TS}{o:Out}{S:Addr->Prop}{v:V}{p:PV}
theorem Dn{S:Nat->Addr->Prop}{S4:Addr->Prop}{ys:List V}{acc:List PV}{q:PV}{D:Addr}{F4 H4 H1:Hp}(h:Dps K F4 H4 S ys acc)(rm:∀ j b,S j b->j<ys.length/\b≠D/\H1 b=none/\F4 b=none/\∃ o,H4 b=some o/\∀ zs,o≠.tup zs)(eD:H4 D=some (.lst ys))(d:Dp K F4 H4 S4 v q)
  (n4:∀ b,S4 b->(F4 b=none/\∃ o,H4 b=some o/\∀ zs,o≠.tup zs)/\H1 b=none)(nd:∀ b,S4 b->b≠D)(ap:∀ j b,S j b->¬S4 b) :
  Dps K F4 (upd H4 D (.lst (ys++[v]))) (λj b=>if j=ys.length then S4 b else S j b) (ys++[v]) (acc++[q])/\(∀ j b,(if j=ys.length then S4 b else S j b)->j<(ys++[v]).length/\b≠D/\H1 b=none/\F4 b=none/\∃ o,upd H4 D (.lst (ys++[v])) b=some o/\∀ zs,o≠.tup zs):=by
 have tups:∀ b zs,H4 b=some (.tup zs)->upd H4 D (.lst (ys++[v])) b=some (.tup zs):=λb zs e=>by
  rw[aQ (λz=>by subst z;rw[eD] at e;cases e)];exact e
 refine⟨⟨by simp[h.1],λi j b a1 a2=>?_,λj x p e1 e2=>?_⟩,λj b a=>?_⟩
 ·by_cases hi:i=ys.length<;>by_cases hj:j=ys.length
  ·rw[hi,hj]
  ·simp only[hi,hj,if_true,if_false] at a1 a2;exact absurd a1 (ap j b a2)
  ·simp only[hi,hj,if_true,if_false] at a1 a2;exact absurd a2 (ap i b a1)
  ·simp only[hi,hj,if_false] at a1 a2;exact h.2.1 i j b a1 a2
 ·by_cases hj:j<ys.length
  ·rw[Zap hj] at e1;rw[Zap (by rw[<-h.1];exact hj)] at e2
   simp only[show ¬j=ys.length by omega,if_false]
   exact(h.2.2 j x p e1 e2).up (bf.refl _) (λb o z e=>by rw[aQ (rm j b z).2.1];exact e) tups
  ·rw[Zaw (by omega)] at e1
   rw[Zaw (by rw[<-h.1];omega)] at e2
   have ej:j=ys.length:=by
    have:=cY e1;simp at this;omega
   rw[ej,Nat.sub_self] at e1;rw[ej,h.1,Nat.sub_self] at e2;cases e1;cases e2;simp only[ej,if_true];exact d.up (bf.refl _) (λb o z e=>by rw[aQ (nd b z)];exact e) tups
 ·by_cases hj:j=ys.length
  ·simp only[hj,if_true] at a;obtain⟨⟨c1,o,c2,c3⟩,c4⟩:=n4 b a;exact⟨by simp;omega,nd b a,c4,c1,o,by rw[aQ (nd b a)];exact c2,c3⟩
  ·simp only[hj,if_false] at a;obtain⟨c0,c1,c2,c3,o,c4,c5⟩:=rm j b a;exact⟨by simp;omega,c1,c2,c3,o,by rw[aQ c1];exact c4,c5⟩
theorem M3{wi:TI}{it:Fn (List PV)}{fr:List (Option Nat)}{gt:TG}{tg:PV->Rho->Option Rho}{T:List Nat}{tc:TT}{tst:Fn Bool}{el:Fn PV}(hi:MIH K C wi it)(hg:MG K C gt tg)(hT:Wr T tg)(ht:MT K C tc tst)(he:MD K C te el)
  (hfr:T.all (λj=>fr[j]?==some none)=true:=by rfl):MD K C (yH wi fr gt tc te) (jB it fr tg tst el):=by
 intro F H σ ρ Q r R e P;rcases cV e with⟨z,e1,rfl⟩|⟨l,e1,hk⟩
 ·exact hi F H σ ρ _ _ R e1 P
 split at hk
 case isFalse=>cases hk
 rename_i hlen;refine hi F H σ ρ _ _ R e1 λJ F1 H1 u hJ D hD=>?_;have R1:=R.up u;obtain⟨Rb,no⟩:=R1.block fr;have hD0:C.H0 D=none:=R1.rb.yK hD;have hFD:F1 D=none:=u.fh.free hD;have hρ:∀ (j:Nat),j∈T->(frR fr ρ)[j]?=some none:=λj hj=>by
  have:=Za1.mp hfr j hj;unfold frR;rw[Zaf,show fr[j]?=some none by simpa using this]
  rfl
 refine⟨λi m σ' H'=>∃ F' ys acc S,m=l.length-i/\i<=l.length/\bf F1 F'/\(∀ b o,F' b=some o->F1 b=some o\/Frz H1 b o)/\bf H1 H'/\H' D=some (.lst ys)/\F' D=none/\Dps K F' H' S ys acc/\(∀ j b,S j b->j<ys.length/\b≠D/\H1 b=none/\F' b=none/\∃ o,H' b=some o/\∀ zs,o≠.tup zs)/\acc.length<=i /\
   RE K C.toCf F' H' σ' (frR fr ρ)/\bnd (gH tg tst el (frR fr ρ) (l.drop i)) (λr=>some (.ok (.lst (acc++r))))=some r,
  ⟨l.length,F1,[],[],λ_ _=>False,by simp,Zbh _,bf.refl _,λ_ _ q=>.inl q,gf hD,aX,hFD,⟨rfl,λ_ _ _ q=>q.elim,λj x p e=>by simp at e⟩,λ_ _ q=>q.elim,Zag _,Rb.other hFD hD0 no,by rw[Za7];exact hk⟩,?_⟩
 rintro i m σ' H' ⟨F',ys,acc,S,rfl,hil,s1,fr1,sH,eD,nD,ra,rm,hacc,R',e'⟩;by_cases hlt:i<l.length
 case neg=>
  have ei:i=l.length:=by omega
  subst ei;rw[List.drop_length] at e';have e':some (Res.ok (PV.lst (acc++[])))=some r:=e';rw[Zav] at e';cases e';refine .inl ⟨hJ.stop F' H' s1 R'.rb.sub sH,P (.ref D) F' H' (λb=>b=D\/∃ j,S j b) (u.trans ⟨s1,sH,fr1,R'.rb.sub⟩) (.lst eD (.inl rfl) (λj b q=>⟨.inr ⟨j,q⟩,(rm j b q).2.1⟩) ra.2.1 ra.1 ra.2.2) ?_⟩;rintro b (rfl|⟨j,q⟩)
  ·exact⟨u.hh.free hD,nD,_,eD,λzs q=>by cases q⟩
  ·obtain⟨_,_,c1,c2,c3⟩:=rm j b q;exact⟨u.hh.free c1,c2,c3⟩
 refine .inr ⟨hJ.go i F' H' hlt s1 R'.rb.sub sH,λσ2 H2=>∃ F2 ys acc S,bf F1 F2/\(∀ b o,F2 b=some o->F1 b=some o\/Frz H1 b o)/\bf H1 H2/\H2 D=some (.lst ys)/\F2 D=none/\Dps K F2 H2 S ys acc/\(∀ j b,S j b->j<ys.length/\b≠D/\H1 b=none/\F2 b=none/\∃ o,H2 b=some o/\∀ zs,o≠.tup zs)/\acc.length<=i+1 /\
   RE K C.toCf F2 H2 σ2 (frR fr ρ)/\bnd (gH tg tst el (frR fr ρ) (l.drop (i+1))) (λr=>some (.ok (.lst (acc++r))))=some r,
  λσ2 H2 ⟨F2,ys,acc,S,z⟩=>⟨l.length-(i+1),by omega,F2,ys,acc,S,rfl,hlt,z⟩,λx H'' y=>?_⟩
 obtain⟨F'',p,u2,ep,rx⟩:=hJ.yld i F' H' x H'' hlt s1 R'.rb.sub sH y;have ed:l.drop i=p::l.drop (i+1):=by
  rw[Zbd hlt];rw[Zad hlt] at ep;rw[Zaa ep]
 rw[ed,gH] at e';split at e'
 ·cases e'
 rename_i ρ1 h1;obtain⟨w1,w2,w3⟩:=hT p _ ρ1 h1;have no1:=w3 no;have weak:∀ (j:Nat) s,(frR fr ρ)[j]?=some (some s)->ρ1[j]?=some (some s):=λj s ej=>by
  rw[w2 j λz=>by rw[hρ j z] at ej;cases ej];exact ej
 refine hg F'' H'' σ' (frR fr ρ) x p ρ1 _ (R'.up u2) rx h1 λσ1 R1'=>?_;have stay:∀ {F3 H3:Hp},Up F' H' F3 H3->bf F1 F3/\(∀ b o,F3 b=some o->F1 b=some o\/Frz H1 b o)/\bf H1 H3/\H3 D=some (.lst ys)/\F3 D=none/\Dps K F3 H3 S ys acc/\(∀ j b,S j b->j<ys.length/\b≠D/\H1 b=none/\F3 b=none/\∃ o,H3 b=some o/\∀ zs,o≠.tup zs):=λ{F3 H3} u3=>by
  refine⟨s1.trans u3.ff,λb o q=>?_,sH.trans u3.hh,u3.hh _ _ eD,?_,⟨ra.1,ra.2.1,λj x p c1 c2=>(ra.2.2 j x p c1 c2).stay u3⟩,λj b q=>?_⟩
  ·rcases u3.fr b o q with z|z
   ·exact fr1 b o z
   ·exact .inr (z.imp (λz=>sH.free z) id)
  ·cases q:F3 D with
   |none=>rfl
   |some o=>
    rcases u3.fr D o q with z|z|⟨ys,z⟩
    ·rw[nD] at z;cases z
    ·rw[eD] at z;cases z
    ·subst z;have w:=u3.fh _ _ q;rw[u3.hh _ _ eD] at w;cases w
  ·obtain⟨c0,c1,c2,c3,c4⟩:=rm j b q;have nn:New H1 F' H' (S j):=λb q=>(rm j b q).2.2;exact⟨c0,c1,(nn.up u3) b q⟩
 have Pl:∀ {F3 H3:Hp},Up F' H' F3 H3->∀ {z:PV},r=.ex z->PX C F3 z:=λ{F3 H3} u3 {z} ez=>by
  subst ez;exact PX.up P (u.ff.trans (s1.trans u3.ff))
 rcases cV e' with⟨z,e2,rfl⟩|⟨r0,e2,e3⟩
 ·
  rcases cV e2 with⟨z',e4,ez⟩|⟨b,e4,e5⟩
  ·cases ez;exact ht F'' H'' σ1 ρ1 _ _ R1' e4 (Pl u2 rfl)
  ·refine ht F'' H'' σ1 ρ1 _ _ R1' e4 λF3 H3 u3=>?_;have u23:=u2.trans u3;cases b with
   |false=>
    rw[Zal (by decide)] at e5 ⊢
    obtain⟨a1,a2,a3,a4,a5,a6,a7⟩:=stay u23;exact⟨F3,ys,acc,S,a1,a2,a3,a4,a5,a6,a7,by omega,(R1'.up u3).weak w1.symm weak,by rw[e5];rfl⟩
   |true=>
    rw[Zao rfl] at e5 ⊢;rcases cV e5 with⟨z',e6,ez⟩|⟨q,e6,e7⟩
    ·cases ez;exact he F3 H3 σ1 ρ1 _ _ (R1'.up u3) e6 (Pl u23 rfl)
    ·refine he F3 H3 σ1 ρ1 _ _ (R1'.up u3) e6 λv F4 H4 S4 u4 rv n4=>?_;have u24:=u23.trans u4;obtain⟨_,_,_,_,_,_,a7s⟩:=stay u23;obtain⟨a1,a2,a3,a4,a5,a6,a7⟩:=stay u24;rcases cV e7 with⟨z',e8,ez⟩|⟨rr,e8,e9⟩
     ·cases ez;obtain⟨b1,b2⟩:=Dn a6 a7 a4 rv (λb z=>⟨(n4 b z).2,((sH.trans u23.hh).free (n4 b z).1)⟩) (λb z=>by intro e;subst e;have c:=(n4 b z).1;rw[u23.hh _ _ eD] at c;cases c) (λj b z z'=>by obtain⟨_,_,_,_,o,c,_⟩:=a7s j b z;have c':=(n4 b z').1;rw[c] at c';cases c')
      refine⟨ys,a4,by rw[a6.1];omega,F4,ys++[v],acc++[q],_,a1,a2,uO hD a3,aX,a5,b1,b2,by simp;omega,((R1'.up (u3.trans u4)).other a5 hD0 no1).weak w1.symm weak,?_⟩
      rw[e8];rfl
     ·cases e9
 ·rcases cV e2 with⟨z',e4,ez⟩|⟨b,e4,e5⟩
  ·cases ez
  ·refine ht F'' H'' σ1 ρ1 _ _ R1' e4 λF3 H3 u3=>?_;have u23:=u2.trans u3;cases b with
   |false=>
    rw[Zal (by decide)] at e5 ⊢
    obtain⟨a1,a2,a3,a4,a5,a6,a7⟩:=stay u23;exact⟨F3,ys,acc,S,a1,a2,a3,a4,a5,a6,a7,by omega,(R1'.up u3).weak w1.symm weak,by rw[e5];exact e3⟩
   |true=>
    rw[Zao rfl] at e5 ⊢;rcases cV e5 with⟨z',e6,ez⟩|⟨q,e6,e7⟩
    ·cases ez
    ·refine he F3 H3 σ1 ρ1 _ _ (R1'.up u3) e6 λv F4 H4 S4 u4 rv n4=>?_;have u24:=u23.trans u4;obtain⟨_,_,_,_,_,_,a7s⟩:=stay u23;obtain⟨a1,a2,a3,a4,a5,a6,a7⟩:=stay u24;rcases cV e7 with⟨z',e8,ez⟩|⟨rr,e8,e9⟩
     ·cases ez
     ·cases e9;obtain⟨b1,b2⟩:=Dn a6 a7 a4 rv (λb z=>⟨(n4 b z).2,((sH.trans u23.hh).free (n4 b z).1)⟩) (λb z=>by intro e;subst e;have c:=(n4 b z).1;rw[u23.hh _ _ eD] at c;cases c) (λj b z z'=>by obtain⟨_,_,_,_,o,c,_⟩:=a7s j b z;have c':=(n4 b z').1;rw[c] at c';cases c')
      refine⟨ys,a4,by rw[a6.1];omega,F4,ys++[v],acc++[q],_,a1,a2,uO hD a3,aX,a5,b1,b2,by simp;omega,((R1'.up (u3.trans u4)).other a5 hD0 no1).weak w1.symm weak,?_⟩
      rw[e8];show some (Res.ok (PV.lst (acc++[q]++rr)))=some r
      rw[List.append_assoc];exact e3
theorem Qy{wi:TI}{it:Fn (List PV)}{fr:List (Option Nat)}{gt:TG}{tg:PV->Rho->Option Rho}{T:List Nat}{tc:TT}{tst:Fn Bool}{el:Fn PV}(hi:MI K C wi it)(hg:MG K C gt tg)(hT:Wr T tg)(ht:MT K C tc tst)(he:MD K C te el)
  (hfr:T.all (λj=>fr[j]?==some none)=true:=by rfl):MD K C (yH wi fr gt tc te) (jB it fr tg tst el):=M3 hi.h hg hT ht he hfr
end
def M4:Option Out->Option (Res PV)
 |some (.rd p)=>some (.ok p)
 |some (.ex z)=>some (.ex z)
 |_=>none
section
variable{K:PySem.W.Frag}{XR:Hp->Value->Option Addr->PV->Prop}{N:List Str}{vs:List V}{H:Hp}{Q:VK}{E:XK}{t:TS}{b:Sn}{m:List PV->Option (Res PV)}
theorem Qz{k n:Nat}(hk:N.length=k+n)(hm:∀ ps r,m ps=some r->ps.length=k/\M4 (b (startR ps n))=some r)(h:spD K XR0 m vs H Q E)(hS:∀ (io:Addr->Prop) (H0 F0:Hp),(∀ a,¬io a)->MS K (C0 io H0 F0) t b) :
  t { nx:=λ_ H'=>Q .non H',rt:=Q } (start N vs) H:=by
 obtain⟨ps,F,r,s,rp,e,P⟩:=h;obtain⟨hl,e⟩:=hm ps r e;have R:=qF (E:=E0) (N:=N) (n:=n) s rp (by rw[rp.1,hl];exact hk)
 have up:∀ {F' H':Hp},bf F F'->RB ⟨λ_=>False,True,H,F,E0⟩ F' H'->Up F H F' H':=λs' rb=>⟨s',λc o q=>rb.keep c o q id,rb.new,rb.sub⟩;have M:=hS (λ_=>False) H F (λ_ h=>h);cases ho:b (startR ps n) with
 |none=>rw[ho] at e;cases e
 |some o=>
  rw[ho] at e;refine M F H _ _ _ o R ho ?_;cases o with
  |rd p=>cases e;exact λv F' H' S s' rb d n=>P v F' H' S (up s' rb) d λb q=>⟨(n b q).2.2,(n b q).1,(n b q).2.1⟩
  |ex z=>exact λ_ _ _ _ _ _ x=>x.elim
  |nx ρ=>cases e
  |rt p=>cases e
  |ro p=>cases e
  |bk ρ=>cases e
  |ct ρ=>cases e
theorem QB(h:spD K XR m vs H Q E){k:Nat}(hm:∀ ps r,m ps=some r->ps.length=k):vs.length=k:=by
 obtain⟨ps,F,r,s,rp,e,P⟩:=h;rw[rp.1];exact hm ps r e
end
end L2.MP
namespace L2
open PySem PySem.Spec PyProof PyProof.Rows
namespace MP
end MP
def Xc:HO->Prop
 |.dK _=>True
 |.dT _=>True
 |_=>False
section
variable{σ:St}{H:Hp}{a:Addr}{u:HO}{raw:Obj}
def Ends.loose(D:Ends)(a:Addr)(raw:Obj)(u:HO):Ends where
 nx:=λσ H=>H a=some (.frz raw u)/\D.nx σ (upd H a u)
 bk:=λσ H=>H a=some (.frz raw u)/\D.bk σ (upd H a u)
 ct:=λσ H=>H a=some (.frz raw u)/\D.ct σ (upd H a u)
 rt:=λv H=>H a=some (.frz raw u)/\D.rt v (upd H a u)
end
end L2
namespace L2.MP
open PySem PySem.Spec PyProof.Rows
end L2.MP
namespace L2
open PySem PySem.Spec PyProof PyProof.Rows
namespace MP
end MP
namespace MP
end MP
namespace MP
end MP
end L2
namespace L2.MP
open PySem PySem.Spec PyProof.Rows
open PySem PySem.Spec PyProof PyProof.Rows
end L2.MP
namespace L2
open PySem PySem.Spec PyProof PyProof.Rows
open PySem PySem.W PyProof.Rows
def kIn{α:Type}(n:Nat)(P:α->Prop):KasT α->Prop
 |.ret a=>P a
 |.ask i j k=>i<n/\j<n/\∀ b,kIn n P (k b)
open PySem PySem.Spec PySem.W PyProof PyProof.Rows
open PySem PySem.Spec PySem.W PyProof PyProof.Rows
namespace MP
end MP
end L2
namespace L2.MP
open PySem PySem.Spec PyProof.Rows
end L2.MP
namespace L2
open PySem PySem.F PySem.Spec PyProof PyProof.Rows
namespace MP
end MP
open PySem PySem.Spec PyProof PyProof.Rows
namespace MP
end MP
open PySem PySem.Spec PySem.W PyProof PyProof.Rows
namespace MP
end MP
end L2
namespace L2.MP
open PySem PySem.Spec PyProof.Rows
end L2.MP
namespace L2
open PySem PySem.Spec PyProof PyProof.Rows
namespace MP
end MP
end L2
namespace L2.MP
open PySem PySem.Spec PyProof.Rows
end L2.MP
namespace L2.TS
open PySem PySem.Spec PyProof.Rows
section
variable{r:Keyed->Nat}{la lb out:List Keyed}{ia ib:Nat}
def Srt(r:Keyed->Nat)(l:List Keyed):Prop:=l.Pairwise λx y=>r x<r y
structure Mg(r:Keyed->Nat)(la lb out:List Keyed)(ia ib:Nat):Prop where
 so:Srt r out
 lt:∀ o∈out,∀ z∈la.drop ia++lb.drop ib,r o<r z
 pm:out.Perm (la.take ia++lb.take ib)
end
section
variable{r:Keyed->Nat}{a b:Array Keyed}
def Good(r:Keyed->Nat)(a b out:Array Keyed):Prop:=Srt r out.toList/\out.toList.Perm (a.toList++b.toList)
structure In(r:Keyed->Nat)(a b out:Array Keyed)(ia ib:Nat):Prop where
 mg:Mg r a.toList b.toList out.toList ia ib
 ha:ia+1<a.size
 hb:ib<b.size
end
noncomputable abbrev T7:=Option (Array Keyed)×Nat×Nat×Array Keyed×Nat×Nat×Nat
noncomputable abbrev T6:=Option (Array Keyed)×Nat×Nat×Array Keyed×Nat×Nat
noncomputable abbrev T5:=Option (Array Keyed)×Nat×Nat×Array Keyed×Nat
section
variable{r:Keyed->Nat}{la lb out:List Keyed}{na nb:Nat}
structure Mh(r:Keyed->Nat)(la lb out:List Keyed)(na nb:Nat):Prop where
 so:Srt r out.reverse
 lt:∀ o∈out,∀ z∈la.take na++lb.take nb,r z<r o
 pm:out.Perm (la.drop na++lb.drop nb)
end
section
variable{r:Keyed->Nat}{a b:Array Keyed}
structure Ih(r:Keyed->Nat)(a b out:Array Keyed)(na nb:Nat):Prop where
 mh:Mh r a.toList b.toList out.toList na nb
 a0:1<=na
 a1:na<=a.size
 b0:2<=nb
 b1:nb<=b.size
def H7(r:Keyed->Nat)(a b:Array Keyed)(n:Nat):ForInStep T7->Prop
 |.done (some o,_)=>Good r a b o
 |.done (none,na,nb,out,_)=>Ih r a b out na nb/\na+nb<=n
 |.yield (none,na,nb,out,_)=>Ih r a b out na nb/\na+nb<=n
 |.yield (some _,_)=>False
def H6(r:Keyed->Nat)(a b:Array Keyed)(n:Nat):ForInStep T6->Prop
 |.done (some o,_)=>Good r a b o
 |.done (none,na,nb,out,_)=>Ih r a b out na nb/\na+nb<=n
 |.yield (none,na,nb,out,_)=>Ih r a b out na nb/\na+nb<=n
 |.yield (some _,_)=>False
def H5(r:Keyed->Nat)(a b:Array Keyed)(n:Nat):ForInStep T5->Prop
 |.done (some o,_)=>Good r a b o
 |.done (none,_)=>False
 |.yield (none,na,nb,out,_)=>Ih r a b out na nb/\na+nb<=n
 |.yield (some _,_)=>False
end
def Rk(r:Keyed->Nat)(a:Array Keyed)(k:Nat):Nat:=match a[k]? with
 |some x=>r x
 |none=>0
def W2(r:Keyed->Nat)(a:Array Keyed)(i j:Nat):Prop:=∀ p q,i<=p->p<q->q<j->Rk r a p<Rk r a q
noncomputable abbrev Pd:=Nat×Nat×Nat
def Rn(r:Keyed->Nat)(a:Array Keyed):Nat->List Pd->Nat->Prop
 |s,[],e=>s=e
 |s,x::l,e=>x.1=s/\1<=x.2.1/\W2 r a s (s+x.2.1)/\Rn r a (s+x.2.1) l e
end L2.TS
namespace L2
open PySem PySem.Spec PyProof PyProof.Rows
namespace MP
end MP
open PySem PySem.Spec PySem.W PyProof PyProof.Rows
noncomputable abbrev Sk:=Str×List Int
open PySem PySem.Spec PySem.W PyProof PyProof.Rows
open PySem PySem.Spec PySem.W PyProof PyProof.Rows
end L2
namespace L2.MP
open PySem PySem.Spec PySem.W PyProof PyProof.Rows
end L2.MP
namespace L2
open PySem PySem.Spec PyProof PyProof.Rows
namespace MP
end MP
namespace MP
end MP
namespace MP
end MP
end L2
namespace L2.MP
section
variable{α:Type}{us:List α}
theorem len0(h:us.length=0):us=[]:=List.length_eq_zero_iff.mp h
theorem QC{n:Nat}(h:us.length=n+1):∃ a vs,us=a::vs/\vs.length=n:=by
 cases us with
 |nil=>cases h
 |cons a vs=>exact⟨a,vs,rfl,Nat.succ.inj h⟩
theorem yh(h:us.length=1):∃ a,us=[a]:=by
 obtain⟨a,vs,rfl,h2⟩:=QC h;cases len0 h2;exact⟨a,rfl⟩
theorem nH(h:us.length=2):∃ a b,us=[a,b]:=by
 obtain⟨a,vs,rfl,h2⟩:=QC h;obtain⟨b,rfl⟩:=yh h2;exact⟨a,b,rfl⟩
theorem vG(h:us.length=3):∃ a b c,us=[a,b,c]:=by
 obtain⟨a,vs,rfl,h2⟩:=QC h;obtain⟨b,c,rfl⟩:=nH h2;exact⟨a,b,c,rfl⟩
theorem Wn(h:us.length=4):∃ a b c d,us=[a,b,c,d]:=by
 obtain⟨a,vs,rfl,h2⟩:=QC h;obtain⟨b,c,d,rfl⟩:=vG h2;exact⟨a,b,c,d,rfl⟩
end
end L2.MP
namespace L2
open PySem PySem.Spec PyProof PyProof.Rows
end L2
namespace L2.MP
open PySem PySem.Spec PyProof PyProof.Rows
end L2.MP
namespace L2.SE
open PySem
def Inc(xs:Array Nat):Prop:=xs.toList.Pairwise (·<·)
theorem gd{xs:Array Nat}{i:Nat}(h:i<xs.size)(d e:Nat):xs.getD i d=xs.getD i e:=by
 rw[Zbb,Zbb,Array.getElem?_eq_getElem h];rfl
structure Good(b:Bool)(t:SetTable):Prop where
 led:t.led=b
 dum:t.dummies=#[]
 inc:Inc t.place
open PySem PySem.Spec PyProof PyProof.Rows
section
variable{prog:Program}{w:World}{K:Type}[DecidableEq K](knd:KeyKind prog w K)
def Apart(l:List (Int×Value)):Prop:=l.Pairwise λe f=>∀ k,knd.is k e.2=true->knd.is k f.2=true->False
variable{knd}
end
open PySem PySem.Spec PyProof PyProof.Rows
section
variable{K:Type}[DecidableEq K]
def seen(key:Nat->K)(i:Nat):K->Bool:=λk=>(List.range i).any λj=>decide (k=key j)
end
open PySem PySem.Spec PyProof PyProof.Rows
def It(h:Heap)(I:Addr)(f:Value)(i:Nat)(a:Addr)(n ep:Nat):Prop:=∃ o,h.get? I=some o/\o.cls=.type "set_iterator"/\o.data=.fields #[f,.int i 0,.ref a,.int n 0,.int ep 0]
open PySem PySem.Spec PyProof PyProof.Rows
open PySem PySem.Spec PyProof PyProof.Rows
open PySem PySem.Spec PyProof PyProof.Rows
def slots(t:SetTable):Nat->Nat
 |0=>0
 |i+1=>t.place.getD i 0+1
end L2.SE
namespace L2
open PySem PySem.Spec PyProof PyProof.Rows
def dd:List Int->List Int
 |[]=>[]
 |x::l=>if x∈l then dd l else x::dd l
namespace MP
end MP
namespace MP
end MP
end L2
namespace L2.MP
open PySem PySem.Spec PyProof.Rows
section
variable{ρ:Rho}{i:Nat}
def putAt(i:Nat)(l:List PV)(jr:Nat×List PV)(m q:PV)(ρ:Rho):Option Out:=match m with
 |.int m=>match ixN jr.2.length m with
  |some n=>if q.still=true then some (.nx (ρ.set i (some (.dp (.lst (l.set jr.1 (.lst (jr.2.set n q)))))))) else none
  |none=>none
 |_=>none
end
structure yj(X:Cx)(pins:List (Addr×Obj))(b:Addr):Prop where
 sz:X.s₀.heap.objs.size<=b
 loc:b≠X.env.locals
 cl:∀ x c,X.env.cells.lookup x=some c->c≠b
 pn:∀ p∈X.pn++pins,p.1≠b
structure Fly(X:Cx)(pins:List (Addr×Obj))(H:Hp)(h:Heap)(e:Addr)(C:Value)(d:Option Addr):Prop where
 own:yj X pins e
 nh:H e=none
 ob:∃ oe vs,h.get? e=some oe/\oe.cls=C/\oe.dict=d/\oe.slots=#[]/\oe.data=.fields vs/\1<vs.size /\
  (vs[1]?=some .none\/∃ T oT ts,vs[1]?=some (.ref T)/\T≠e/\yj X pins T/\H T=none/\h.get? T=some oT/\oT.data=.fields ts/\3<ts.size)
def Sx(h:Heap)(e:Addr):Prop:=∃ oe vs T,h.get? e=some oe/\oe.data=.fields vs/\vs[1]?=some (.ref T)
section
variable{X:Cx}{pins:List (Addr×Obj)}{σ:St}{H:Hp}{s:Shared}{e:Addr}{C:Value}{d:Option Addr}
theorem ug(I:Inv X pins σ H s){b:Addr}(h:s.heap.objs.size<=b):yj X pins b where
 sz:=ZaF I.sz h
 loc:=λz=>by have:=I.lt;rw[<-z] at this;exact absurd (Zan this h) (Za2 _)
 cl:=λx c q z=>by
  obtain⟨v,o,ho,_⟩:=I.cell x c q;have:=Zai ho;rw[z] at this;exact absurd (Zan this h) (Za2 _)
 pn:=λp hp z=>by
  have:=Zai (I.pin p hp).1;rw[z] at this;exact absurd (Zan this h) (Za2 _)
theorem yj.ch(m:yj X pins e):(e∈X.ex\/X.s₀.heap.objs.size<=e)/\e≠X.env.locals/\(∀ x c,X.env.cells.lookup x=some c->c≠e)/\∀ p∈X.pn++pins,p.1≠e:=⟨.inr m.sz,m.loc,m.cl,m.pn⟩
theorem yj.Tf(I:Inv X pins σ H s)(m:yj X pins e):e ∉ frs X.stack:=λhb=>by
 rcases ZaB.mp (I.zB e hb) with z|z
 ·exact m.loc z
 ·obtain⟨_,o,ho,_⟩:=I.ok.sU.mem z;exact absurd (Zan (Zai ho) m.sz) (Za2 _)
theorem Inv.Wo(I:Inv X pins σ H s){h':Heap}(m:yj X pins e)(nh:H e=none)(k:∀ b o,b≠e->s.heap.get? b=some o->h'.get? b=some o):Inv X pins σ H { s with heap:=h' }:=by
 refine I.call (g':=s.gens) (d':=s.drawn) (t':=s.toks) (ch:=[e]) ⟨λb o q _ _ hc=>k b o (λz=>hc (by simp[z])) q,λb o q _ _ hc=>⟨o.slots,k b o (λz=>hc (by simp[z])) q⟩,λ_ _ _ n _=>n,λb o q hc=>⟨o,k b o (λz=>hc (by simp[z])) q⟩,λ_ _ q=>q,λ_ _ _ q=>q,λb ps q=>⟨#[],by rw[q];simp⟩⟩ ?_ I.bare λb hb=>?_
 ·intro b u q;refine(I.hok b u q).stay (λc v hc z=>k c v ?_ z) (λ_ z=>z) λ_ _ z=>z;rcases hc with z|z
  ·rw[z];intro y;rw[y,nh] at q;cases q
  ·intro y;rw[y,nh] at z;cases z
 ·obtain rfl:b=e:=by simpa using hb
  exact m.ch
variable{M:Model}{E':Value->Shared->Prop}
theorem yU{Q:Unit->Shared->Prop}{head:Value}{hadNext:Bool}(I:Inv X pins σ H s)(hs:X.stack=X.env::X.outer)(hf:X.env.frame=some X.env.locals)(m:yj X pins e)(nh:H e=none)
  {oe:Obj}{vs:Array Value}(he:s.heap.get? e=some oe)(hc:oe.cls=C)(hdd:oe.dict=d)(hsl:oe.slots=#[])(hd:oe.data=.fields vs)(hsz:1<vs.size)
  (k:∀ s',Inv X pins σ H s'->Fly X pins H s'.heap e C d->Sx s'.heap e->Q () s') :
  wpAny M X.A (do let a <-frameOf X.env;let pl <-entryPlaceOf X.env.locals hadNext;let b <-EntryCells.newEntry head a .none (rawInt X.env.locals) .none pl;setField (.ref e) 1 b) Q E' s:=by
 have hfr:X.A.frames=some (X.env::X.outer):=by rw[<-hs];exact I.ok.frames
 have hl:s.heap.FunFrames X.base (X.env::X.outer):=by rw[<-hs];exact I.stack
 have hfe:(X.env::X.outer).filterMap (·.frame)=frs X.stack:=by rw[hs];rfl
 refine Zae (wpAny_frameOf_fun hfr hl hf λh₁ hs₁=>?_);rw[hfe] at hs₁;refine Zae (wpAny_entryPlaceOf λpl hpl=>?_);unfold EntryCells.newEntry newFields;refine Zae (wpAny_newObj_type ?_ (hpl.sizeOk5 _ _ _ _ _));have nf:=m.Tf I;have he₁:h₁.get? e=some oe:=(hs₁.2.1 e nf).trans he;have he₂:=Zac (h:=h₁) { cls:=.type "traceback",dict:=none,data:=.fields ([head,.ref X.env.locals,.none,rawInt X.env.locals,.none]++(if pl.isEmpty then List.replicate 6 Value.none else pl)).toArray } he₁;refine wpAny_setField he₂ hd hsz ?_;have hTe:h₁.objs.size≠e:=Nat.ne_of_gt (Zai he₁);have hd₃:=Obj.data_mapFields hd (·.setIfInBounds 1 (Value.ref h₁.objs.size));have he₃:=Heap.get?_update_self (Obj.mapFields (·.setIfInBounds 1 (Value.ref h₁.objs.size))) he₂ (Obj.isFreed_of_fields hd₃);have hT₃:=(Zbc (h₁.push { cls:=.type "traceback",dict:=none,data:=.fields ([head,.ref X.env.locals,.none,rawInt X.env.locals,.none]++(if pl.isEmpty then List.replicate 6 Value.none else pl)).toArray })
  (Obj.mapFields (·.setIfInBounds 1 (Value.ref h₁.objs.size))) (Za6 hTe)).trans (Zar h₁ rfl)
 have keep:∀ b o,b≠e->h₁.get? b=some o->((h₁.push { cls:=.type "traceback",dict:=none,data:=.fields ([head,.ref X.env.locals,.none,rawInt X.env.locals,.none]++(if pl.isEmpty then List.replicate 6 Value.none else pl)).toArray }).update e (Obj.mapFields (·.setIfInBounds 1 (Value.ref h₁.objs.size)))).get? b=some o:=λb o hbe hb=>by
  rw[Zbc _ _ (Za6 hbe)];exact Zac _ hb
 have J:∀ h':Heap,(∀ b o,b≠e->h₁.get? b=some o->h'.get? b=some o)->Inv X pins σ H { s with heap:=h' }:=λh' keep=>by
  refine I.call (g':=s.gens) (d':=s.drawn) (t':=s.toks) (ch:=[e]) ⟨λb o q _ hb hc=>keep b o (λz=>hc (by simp[z])) ((hs₁.2.1 b hb).trans q),λb o q _ _ hc=>?_,λ_ _ _ n _=>n,λb o q hc=>?_,λ_ _ q=>q,λ_ _ _ q=>q,λb ps q=>⟨#[],by rw[q];simp⟩⟩ ?_ I.bare λb hb=>?_
  ·obtain⟨sl,z⟩:=hs₁.2.2 b o q;exact⟨sl,keep b _ (λz=>hc (by simp[z])) z⟩
  ·obtain⟨sl,z⟩:=hs₁.2.2 b o q;exact⟨_,keep b _ (λz=>hc (by simp[z])) z⟩
  ·intro b u q;refine(I.hok b u q).stay (λc v hc z=>keep c v ?_ ((hs₁.2.1 c ?_).trans z)) (λ_ z=>z) λ_ _ z=>z
   ·rcases hc with y|y
    ·rw[y];intro y;rw[y,nh] at q;cases q
    ·intro z;rw[z,nh] at y;cases y
   ·intro hm;have n:=I.zE c hm;rcases hc with y|y
    ·rw[<-y,n] at q;cases q
    ·rw[n] at y;cases y
  ·obtain rfl:b=e:=by simpa using hb
   exact m.ch
 have mT:yj X pins h₁.objs.size:=ug I (by rw[hs₁.1];exact Zag _)
 have nT:H h₁.objs.size=none:=I.hok.fresh (by rw[hs₁.1];exact Zag _)
 refine k _ ?_ ⟨m,nh,_,_,he₃,?_,?_,?_,hd₃,by simpa using hsz,.inr ⟨h₁.objs.size,_,_,by simp[hsz],hTe,mT,nT,hT₃,rfl,?_⟩⟩ ⟨_,_,h₁.objs.size,he₃,hd₃,by simp[hsz]⟩
 ·exact J _ keep
 ·rw[Obj.cls_mapFields];exact hc
 ·obtain⟨c,dd,dt,sl⟩:=oe;cases dt<;>first|exact hdd|cases hd
 ·obtain⟨c,dd,dt,sl⟩:=oe;cases dt<;>first|exact hsl|cases hd
 ·simp only[List.size_toArray,List.length_append,ZaG,List.length_nil];omega
theorem w6{Q:Unit->Shared->Prop}(I:Inv X pins σ H s)(hs:X.stack=X.env::X.outer)(hf:X.env.frame=some X.env.locals)(fl:Fly X pins H s.heap e C d)
  (k:∀ s',Inv X pins σ H s'->Fly X pins H s'.heap e C d->Sx s'.heap e->Q () s'):wpAny M X.A (noteFrame (.ref e) X.env) Q E' s:=by
 obtain⟨m,nh,oe,vs,he,hc,hdd,hsl,hd,hsz,h1⟩:=id fl;unfold noteFrame;simp only[hf];rcases h1 with h1|⟨T,oT,ts,h1,hTe,mT,nT,hT,hdT,h3⟩
 ·refine Zae (wpAny_field he hd h1 ?_);rw[Zal (by decide)]
  exact yU I hs hf m nh he hc hdd hsl hd hsz k
 ·refine Zae (wpAny_field he hd h1 ?_);rw[Zao (show(Value.ref T != Value.none)=true from by simp)]
  have h3':ts[3]?=some ts[3]:=by simp[h3]
  refine Zae (wpAny_field hT hdT h3' ?_);by_cases hz:(ts[3]==rawInt X.env.locals)=true
  ·rw[Zao hz];exact Zaq (k s I fl ⟨oe,vs,T,he,hd,h1⟩)
  ·rw[Zal hz];refine Zae (wpAny_setField hT hdT h3 ?_);have other:∀ b,b≠T->(s.heap.update T (Obj.mapFields (·.setIfInBounds 3 Value.none))).get? b=s.heap.get? b:=λb hb=>Zbc _ _ (Za6 hb);have I1:=Inv.Wo I mT nT (h':=s.heap.update T (Obj.mapFields (·.setIfInBounds 3 Value.none))) λb o hb q=>(other b hb).trans q;exact yU I1 hs hf m nh ((other e (Za6 hTe)).trans he) hc hdd hsl hd hsz k
theorem oV{Q:Unit->Shared->Prop}{fr:Option Addr}(I:Inv X pins σ H s)(fl:Fly X pins H s.heap e C d)
  (k:∀ s',Inv X pins σ H s'->Fly X pins H s'.heap e C d->Q () s'){A:Around}:wpAny M A (setFlight (.ref e) fr) Q E' s:=by
 obtain⟨m,nh,oe,vs,he,hc,hdd,hsl,hd,hsz,h1⟩:=id fl;unfold setFlight;rcases h1 with h1|⟨T,oT,ts,h1,hTe,mT,nT,hT,hdT,h3⟩
 ·refine Zae (wpAny_field he hd h1 ?_);rw[Zal (by decide)]
  exact Zaq (k s I fl)
 ·refine Zae (wpAny_field he hd h1 ?_);rw[Zao (show(Value.ref T != Value.none)=true from by simp)]
  refine wpAny_setField hT hdT h3 ?_;have hd₃:=Obj.data_mapFields hdT (·.setIfInBounds 3 (fr.elim Value.none λf=>rawInt f));have other:∀ b,b≠T->(s.heap.update T (Obj.mapFields (·.setIfInBounds 3 (fr.elim Value.none λf=>rawInt f)))).get? b=s.heap.get? b:=λb hb=>Zbc _ _ (Za6 hb);refine k _ (Inv.Wo I mT nT λb o hb q=>(other b hb).trans q) ⟨m,nh,oe,vs,(other e (Za6 hTe)).trans he,hc,hdd,hsl,hd,hsz,.inr ⟨T,_,_,h1,hTe,mT,nT,Heap.get?_update_self _ hT (Obj.isFreed_of_fields hd₃),hd₃,by simpa using h3⟩⟩
end
def FlS(X:Cx)(pins:List (Addr×Obj))(σ:St)(E:XK)(ev:Value)(s':Shared):Prop:=∃ e C d H',ev=.ref e/\Inv X pins σ H' s'/\Fly X pins H' s'.heap e C d/\E C d H'
def FlX(X:Cx)(E:XK)(ev:Value)(s':Shared):Prop:=∃ pins σ,FlS X pins σ E ev s'
structure W3(n:Nat)(H:Hp)(h:Heap)(e:Addr)(C:Value)(d:Option Addr):Prop where
 sz:n<=e
 nh:H e=none
 ob:∃ oe vs,h.get? e=some oe/\oe.cls=C/\oe.dict=d/\oe.slots=#[]/\oe.data=.fields vs/\1<vs.size /\
  (vs[1]?=some .none\/∃ T oT ts,vs[1]?=some (.ref T)/\T≠e/\n<=T/\H T=none/\h.get? T=some oT/\oT.data=.fields ts/\3<ts.size)
def CXS(P:Program)(w:World):CXT:=λouter H s E ev s'=>∃ e C d H',ev=.ref e/\s'.os=s.os/\AllBare s'.gens/\Un (frs outer) [] H H' s.heap s'.heap/\HOk P w H' s'.heap/\W3 s.heap.objs.size H' s'.heap e C d/\E C d H'
section
variable{X:Cx}{pins:List (Addr×Obj)}{σ:St}{H:Hp}{s s':Shared}{E:XK}{ev:Value}
theorem FlS.Il(I:Inv X pins σ H s)(h:CXS X.prog X.w X.stack H s E ev s'):FlS X pins σ E ev s':=by
 obtain⟨e,C,d,H',rfl,os,bare,un,hok,⟨sz,nh,oe,vs,he,hc,hdd,hsl,hd,hsz,h1⟩,hE⟩:=h;refine⟨e,C,d,H',rfl,I.call' (ch:=[]) os un hok bare (λb z=>absurd z (by simp)),⟨ug I sz,nh,oe,vs,he,hc,hdd,hsl,hd,hsz,?_⟩,hE⟩
 rcases h1 with h1|⟨T,oT,ts,h1,a,b,c⟩
 ·exact .inl h1
 ·exact .inr ⟨T,oT,ts,h1,a,ug I b,c⟩
theorem QD:uJ (CXS X.prog X.w) (X.wish (FlX X E)) E:=λpins σ H s e s' I h=>⟨pins,σ,FlS.Il I.jJ h⟩
theorem M5{M:Model}(hs:X.stack=X.env::X.outer)(hf:X.env.frame=some X.env.locals):PassesOwn M X.A X.env (FlX X E):=by
 rintro ev s' ⟨pins,σ,e,C,d,H',rfl,I,fl,hE⟩;refine w6 I hs hf fl λs1 I1 f1 n1=>?_;obtain⟨oe,vs,T,he,hd,h1⟩:=n1;refine Zae (wpAny_field he hd h1 ?_);rw[Zal (by simp)]
 refine oV I1 f1 λs2 I2 f2=>?_;exact⟨pins,σ,e,C,d,H',rfl,I2,f2,hE⟩
end
section
variable{P:Program}{w:World}{K:PySem.W.Frag}{mg:Str->Option Value}{base:Heap}
theorem leaves{N:List Str}{q:Str}{sc:Scope}{f:Addr}{cd:Value}{A:Around}{o:List Env}{s:Shared}{H:Hp}{E:XK}{ev:Value}{s':Shared}
  (h:FlX (uK (CXS P w) P w K mg base N q sc f cd A o s H E) E ev s'):(uK (CXS P w) P w K mg base N q sc f cd A o s H E).xe ev s':=by
 obtain⟨pins,σ,e,C,d,H',rfl,I,fl,hE⟩:=h;show wpAny _ _ (leaving _ _) _ _ _
 unfold leaving;refine Zae (w6 I rfl rfl fl λs1 I1 f1 n1=>?_);refine oV I1 f1 λs2 I2 f2=>?_;obtain⟨m,nh,oe,vs,he,hc,hdd,hsl,hd,hsz,h1⟩:=f2;refine⟨e,C,d,H',rfl,I2.os,I2.bare,I2.base,I2.hok,⟨m.sz,nh,oe,vs,he,hc,hdd,hsl,hd,hsz,?_⟩,hE⟩;rcases h1 with h1|⟨T,oT,ts,h1,a,b,c⟩
 ·exact .inl h1
 ·exact .inr ⟨T,oT,ts,h1,a,b.sz,c⟩
theorem PSs.ofX{X:Cx}{E:Value->Shared->Prop}{st:List Stmt}{t:TS}(k:∀ e s',E e s'->X.xe e s')(h:PSs (X.wish E) st t):PSs X st t:=λpins s σ H D I hw=>
 ZaV (h pins s σ H D (I.wish _) hw) (λ_ _ q=>q.jJ) λe s' z=>k e s' z
def xf(P:Program)(w:World)(K:PySem.W.Frag)(mg:Str->Option Value)(base:Heap)(x:Str)(k:Nat)(ps:List Str)(sp:Sp):Prop:=
 ∃ (f:Addr) (fd:FuncData),mg x=some (.ref f)/\keepIn K (.ref f)=true/\Binds K fd ps []/\sV P w K mg base (CXS P w) k f fd ps sp
noncomputable abbrev cxX(P:Program)(w:World)(K:PySem.W.Frag)(mg:Str->Option Value)(base:Heap)(N:List Str)(x:Str)(sc:Scope)(f:Addr)(cdv:Value)(A:Around)(outer:List Env)(s:Shared)(H:Hp)(E:XK):Cx:=
 (uK (CXS P w) P w K mg base N x sc f cdv A outer s H E).wish (FlX (uK (CXS P w) P w K mg base N x sc f cdv A outer s H E) E)
theorem M6{N:List Str}{x:Str}{sc:Scope}{f:Addr}{cdv:Value}{A:Around}{outer:List Env}{s:Shared}{H:Hp}{E:XK}:uJ (CXS P w) (cxX P w K mg base N x sc f cdv A outer s H E) E:=
 QD (X:=uK (CXS P w) P w K mg base N x sc f cdv A outer s H E)
theorem QG{M:Model}{N:List Str}{x:Str}{sc:Scope}{f:Addr}{cdv:Value}{A:Around}{outer:List Env}{s:Shared}{H:Hp}{E:XK} :
  PassesOwn M (cxX P w K mg base N x sc f cdv A outer s H E).A (cxX P w K mg base N x sc f cdv A outer s H E).env (cxX P w K mg base N x sc f cdv A outer s H E).xe:=
 M5 (X:=uK (CXS P w) P w K mg base N x sc f cdv A outer s H E) rfl rfl
end
open PySem PySem.Spec PyProof.Rows PySem.Calls Builtin Builtin.ObjectAttr
noncomputable abbrev yl(C t:Addr)(dx:Option Addr):Obj:={ cls:=.ref C,dict:=dx,data:=.fields #[.ref t,.none,.none,.none,.bool false,.none] }
section
variable{h:Heap}{g:Array GenState}{d:Drawn}{t:Nat}{os:OsState}
variable{nm q:Str}{C N f:Addr}{bs bm:List Value}{hdct:Bool}{sn:List Str}{sub:List Value}{ab:Bool}{col:Option Bool}{dd:Option Addr}{k0 k1 k2 k3 k5:Option Value}
theorem Gk{M:Model}{A:Around}{E:Value->Shared->Prop}(hV:bm.contains (.type "ValueError")=true){rest:List Value}{Q:Unit->Shared->Prop}
  (hC:h.get? C=some (excClassObj nm q C N bs bm hdct sn sub ab col dd k0 k1 k2 k3 k5 "ValueError.__new__"))(hq:Q () ⟨h,g,d,t,os⟩) :
  wpAny M A (checkBuiltinCall "ValueError.__new__" ⟨.ref C::rest,[]⟩) Q E ⟨h,g,d,t,os⟩:=by
 have Fn:=PySem.F.excBase_ValueError;have hcont:(Value.ref C::bm).contains (.type "ValueError")=true:=by rw[Za5,hV,Bool.or_true]
 have hstar:=Fn.noStar;simp only[checkBuiltinCall,Fn.newKind,Fn.newSplit,Fn.newRow];repeat (first|refine wpAny_loadPart_at hC ?_|(refine wpAny_isSubtype_exc hC ?_;rw[hcont])|refine wpAny_staticBase_exc hC ?_|refine wpAny_madeBy_exc hC ?_|simp only[bne_self_eq_false,Bool.false_eq_true,if_false]|wp_step)
 exact hq
variable{prog:Program}{w:World}{A:Around}{R:Result->Shared->Prop}{K:PySem.W.Frag}
theorem newX(hV:bm.contains (.type "ValueError")=true)(hA:bm.contains (.type "AttributeError")=false)(hN:bm.contains (.type "NameError")=false){rest:List Value}
  (hC:h.get? C=some (excClassObj nm q C N bs bm hdct sn sub ab col dd k0 k1 k2 k3 k5 "ValueError.__new__"))
  (hq:R (.ok (.ret (.ref (h.objs.size+1)))) ⟨(h.push { cls:=.type "tuple",data:=.seq rest.toArray }).push (yl C h.objs.size none),g,d,t,os⟩)(hrest:rest.length<=sizeLine) :
  codeAny (model prog w) A (.builtin "ValueError.__new__" ⟨.ref C::rest,[]⟩) R ⟨h,g,d,t,os⟩:=by
 have Fn:=PySem.F.excBase_ValueError;have hends:=Fn.ends;have hcB:(Value.ref C::bm).contains (.type "ValueError")=true:=by rw[Za5,hV,Bool.or_true]
 have hcA:(Value.ref C::bm).contains (.type "AttributeError")=false:=by rw[Za5,hA];rfl
 have hcN:(Value.ref C::bm).contains (.type "NameError")=false:=by rw[Za5,hN];rfl
 refine codeAny_builtinAt Fn.entry ?_;unfold Builtin.«BaseException.__new__»;refine PySem.wpAt_bind ?_;show PySem.wpAt _ _ _ (stack>>=_) _ _ _
 refine PySem.wpAt_bind (PySem.wpAt_stack λp below=>PySem.wpAt_of_wpAny ?_)
 wp_walk
 refine PySem.wpAt_of_wpAny ?_;rw[Fn.owner];repeat (first|with_reducible refine wpAny_madeHere_exc Fn.canon hC ?_|with_reducible refine wpAny_loadPart_at hC ?_|(with_reducible refine wpAny_isSubtype_exc hC ?_;first|rw[hcB]|rw[hcA]|rw[hcN])|wp_step)
 show R _ _
 rw[Heap.size_push];exact hq
theorem M7{rest:List Value}(X:K.In h)(hV:bm.contains (.type "ValueError")=true)(hA:bm.contains (.type "AttributeError")=false)(hN:bm.contains (.type "NameError")=false)
  (hC:h.get? C=some (excClassObj nm q C N bs bm hdct sn sub ab col dd k0 k1 k2 k3 k5 "ValueError.__new__"))
  (hi:PySem.W.findIn K (.ref C) "__init__"=some (some (.ref f)))(hf:PySem.W.typeIn K (.ref f)=some (.type "function"))(hrest:rest.length<=sizeLine)
  (hq:codeAny (model prog w) (A.under (.builtin "type.__call__" ⟨.ref C::rest,[]⟩)) (.call (.ref f) ⟨.ref (h.objs.size+1)::rest,[]⟩) (PySem.W.InitBack (h.objs.size+1) R)
   ⟨(h.push { cls:=.type "tuple",data:=.seq rest.toArray }).push (yl C h.objs.size none),g,d,t,os⟩) :
  codeAny (model prog w) A (.call (.ref C) ⟨rest,[]⟩) R ⟨h,g,d,t,os⟩:=by
 have f1:=tc_lookup;have f2:=tc_bind (.ref C);have Fn:=PySem.F.excBase_ValueError;have hT:(⟨h,g,d,t,os⟩:Shared).TypeIs (.ref C) "type":=⟨_,hC,rfl⟩;refine codeAny_of_tree ?_;show wpAny _ _ (callAny (.ref C) _) _ _ _
 repeat (any_goals (first|assumption|with_reducible refine wpAny_loadPart_at hC ?_|wp_step))
 refine⟨rfl,?_⟩;refine codeAny_call_builtin_at (Code.quiet_builtin _ (by decide +kernel)) entry_typeCall (wpAny_check_type_call_sub hC ?_)
 repeat (first|with_reducible refine wpAny_loadPart_at hC ?_|with_reducible refine wpAny_madeBy_exc hC ?_|wp_step)
 refine codeAny_call_builtin_code (Code.quiet_builtin _ Fn.quiet) (Gk hV hC ?_);refine newX hV hA hN hC ?_ hrest;show wpAny _ _ _ _ _ _
 have k:∀ b o,h.get? b=some o->((h.push { cls:=.type "tuple",data:=.seq rest.toArray }).push (yl C h.objs.size none)).get? b=some o:=λb o e=>Zac _ (Zac _ e);have hC₁:=k _ _ hC;have hget:((h.push { cls:=.type "tuple",data:=.seq rest.toArray }).push (yl C h.objs.size none)).get? (h.objs.size+1)=some (yl C h.objs.size none):=by heap_get
 have hcC:(Value.ref C::bm).contains (.ref C)=true:=by simp
 unfold isInstance;repeat (first|with_reducible refine wpAny_loadPart_at hget ?_|wp_step)
 show wpAny _ _ (isSubtype (.ref C) (.ref C)) _ _ _
 refine wpAny_isSubtype_exc hC₁ ?_;rw[hcC];repeat wp_step
 show wpAny _ _ (typeLookup (.ref C) _) _ _ _
 refine((PySem.W.looks_findIn X hi).keeps k).at ?_;refine wpAny_holding (Zae (((PySem.W.bind_fn X (.ref (h.objs.size+1)) hf).keeps k).at ?_));refine Zae (wpAny_call (codeAny_mono hq λr s' z=>?_));rcases r with e|(v|_|_|_)<;>first|exact z|exact z.elim|skip;obtain⟨rfl,z⟩:=z;exact Zaq (Zaq z)
end
open PySem PySem.Spec PyProof.Rows PySem.Calls Builtin Builtin.ObjectAttr
noncomputable abbrev Gm:List Value:=[.type "ValueError",.type "Exception",.type "BaseException",.type "object"]
def jh:List Value->Bool
 |.ref _::r=>jh r
 |l=>l==Gm
theorem yV(self:Value):∀ (l:List Value),jh l=true->refuseLoop self "__setattr__" l=pure ()
 |l,e=>by
  unfold jh at e;split at e
  ·rw[refuseLoop_ref];exact yV self _ e
  ·rw[beq_iff_eq.mp e];exact PySem.F.store_ValueError.passes self
termination_by l=>l.length
theorem Aa{x:Value}(hx:Gm.contains x=true):∀ (l:List Value),jh l=true->l.contains x=true
 |l,e=>by
  unfold jh at e;split at e
  ·rw[Za5,Aa hx _ e,Bool.or_true]
  ·rw[beq_iff_eq.mp e];exact hx
termination_by l=>l.length
theorem Gn{n:String}(hx:Gm.contains (.type n)=false):∀ (l:List Value),jh l=true->l.contains (.type n)=false
 |l,e=>by
  unfold jh at e;split at e
  ·rw[Za5,Gn hx _ e];rfl
  ·rw[beq_iff_eq.mp e];exact hx
termination_by l=>l.length
theorem Wq{l:List Value}(e:jh l=true):l.isEmpty=false:=by
 cases l with
 |nil=>exact absurd e (by decide)
 |cons _ _=>rfl
structure XCls(K:PySem.W.Frag)(C:Addr)(cd:ClassData):Prop where
 at_:PySem.W.clsIn K C=some cd
 ve:jh cd.mro=true
 hd:cd.hasDict=true
 sa:PySem.W.findIn K (.ref C) "__setattr__"=some (some (.builtin "object.__setattr__"))
section
variable{prog:Program}{w:World}{A:Around}{K:PySem.W.Frag}{C x:Addr}{s:Shared}{cd:ClassData}{E:Value->Shared->Prop}
theorem QH{R:Result->Shared->Prop}{ox:Obj}{od:Option Obj}{name:Str}{tk:Tok}{v:Value}(X:K.In s.heap)(I:PySem.W.InstAt s.heap x ox C od)(Y:XCls K C cd)(ht:PySem.W.findIn K (.ref C) name=some none)
  (h:∀ b,wpAny (model prog w) A.in1 (storeInOwnDict (.ref x) (.ref C) (.str name tk) name v b)
   (λfin s'=>match fin with|.done f=>R (.ok f) s'|.again c'=>c'.quiet=true/\codeAny (model prog w) A c' R s') (λe s'=>R (.error e) s') s) :
  codeAny (model prog w) A (.call (.builtin "object.__setattr__") ⟨[.ref x,.str name tk,v],[]⟩) R s:=by
 have SF:=PySem.F.store_object;have hc:=Y.at_;have ne:=Wq Y.ve;have sub:PySem.W.Looks (model prog w) s.heap (isInstance (.ref x) (.type "object")) true:=I.type.andThen (PySem.W.looks_mroIn X (by unfold PySem.W.mroIn;rw[hc,Option.bind_some,Zal (by rw[ne];decide),Aa (by decide) _ Y.ve]))
 refine codeAny_call_builtin SF.slot.plain SF.entry (@PySem.W.check_slot (model prog w) _ _ s "object.__setattr__" "object" "__setattr__" (.ref x) [.str name tk,v] [] _ SF.kind SF.split sub (SF.args (.ref x) (.str name tk) v) ?_);have hm:PySem.W.Looks (model prog w) s.heap (mroOf (.ref C)) cd.mro:=(PySem.W.looks_clsIn X hc).andThen .now;have L3:PySem.W.Looks (model prog w) s.heap (storeTaker? none) none:=.now;rw[PySem.W.osa_eq,refuse_eq];refine Zae (Zae (I.type.here (Zae (hm.here ?_))));rw[yV _ _ Y.ve];refine Zaq (Zae (I.type.here (Zae ((PySem.W.looks_findIn X ht).here (Zae (L3.here ?_))))));exact h _
theorem M8{name:Str}{v:Value}{Q:Unit->Shared->Prop}{vs:Array Value}(X:K.In s.heap)(Y:XCls K C cd)(ht:PySem.W.findIn K (.ref C) name=some none)
  (hx:s.heap.get? x=some { cls:=.ref C,data:=.fields vs })
  (h:∀ h' dx,dx=s.heap.objs.size->h'.get? x=some { cls:=.ref C,dict:=some dx,data:=.fields vs }->h'.Ns1 dx (λy=>if y=name then some v else none) ->
   (∀ b o,b≠x->s.heap.get? b=some o->h'.get? b=some o)->Q () { s with heap:=h',toks:=s.toks+2 }) :
  wpAny (model prog w) A (setAttr (.ref x) name v) Q E s:=by
 have I:PySem.W.InstAt s.heap x { cls:=.ref C,data:=.fields vs } C none:=⟨hx,rfl,rfl,trivial⟩;refine PySem.W.set_plain X I Y.sa (QH (s:={ s with toks:=s.toks+1 }) X I Y ht λb=>?_);refine Zae (Zaq (Zae (Zae (wpAny_loadPart hx (Zae (PySem.W.Looks.here (s:={ s with toks:=s.toks+1 }) (PySem.W.looks_clsIn X Y.at_) ?_))))));rw[Y.hd];show wpAny (model prog w) A.in1 (alloc { cls:=.type "dict",data:=.dict #[] }>>=λdx=>update x (λo=>{ cls:=o.cls,dict:=some dx,data:=o.data,slots:=o.slots })>>=λ_=>dictMade (.ref C) x dx) _ _ _
 have hx₁:(s.heap.push { cls:=.type "dict",data:=.dict #[] }).get? x=some { cls:=.ref C,data:=.fields vs }:=Zac _ hx;have hxs:x≠s.heap.objs.size:=ZaA (Zai hx);refine Zae (wpAny_alloc ?_);refine Zae (wpAny_update hx₁ ?_);refine Zaq (a:=some s.heap.objs.size) ?_;have hgd:((s.heap.push { cls:=.type "dict",data:=.dict #[] }).update x λo=>{ cls:=o.cls,dict:=some s.heap.objs.size,data:=o.data,slots:=o.slots }).get? s.heap.objs.size
   = some { cls:=.type "dict",data:=.dict #[] }:=
  (Heap.get?_update_ne _ _ _ _ hxs.symm).trans (Heap.get?_push_at rfl rfl)
 have hnd:((s.heap.push { cls:=.type "dict",data:=.dict #[] }).update x λo=>{ cls:=o.cls,dict:=some s.heap.objs.size,data:=o.data,slots:=o.slots }).Ns s.heap.objs.size (λ_=>none):=
  ⟨_,#[],_,hgd,rfl,λe he=>absurd he (by simp),λ_=>rfl⟩
 show wpAny _ _ (storeInDict s.heap.objs.size (.str name s.toks) name v) _ _ _
 unfold storeInDict newKeyGuard;refine Zae (Zaq (Zae (wpAny_nsSet1 (s:=⟨_,_,_,_,_⟩) (Heap.Ns1.of_empty hnd) λh' hn' hs=>?_)));obtain⟨oD,esD,epD,hoD,hdD,hcD⟩:=hn'.count (PySem.Within.cons name v PySem.Within.nil);refine Zae (wpAny_lookBehind hoD (by rw[hdD];exact pastItsLine_dict (ZaF hcD (by rw[ZaG,List.length_nil,sizeLine_eq];omega))) ?_)
 refine Zaq (h h' _ rfl ((hs.2 x hxs).trans (Heap.get?_update_self _ hx₁ rfl)) hn' λb ob hbx hb=>?_);exact(hs.2 b (ZaA (Zai hb))).trans ((Heap.get?_update_ne _ _ _ _ hbx).trans (Zac _ hb))
end
def XN(e C:Addr)(d:Option Addr):HO:=.ext λh=>∃ vs:Array Value,h.get? e=some { cls:=.ref C,dict:=d,data:=.fields vs }/\1<vs.size/\vs[1]?=some .none
def XD(dx:Addr)(fs:List (Str×V)):HO:=.ext λh=>fs.length<=1000/\∃ mA,h.Ns1 dx mA/\(∀ f,vy (fs.lookup f) (mA f))/\PySem.Within mA (fs.map (·.1))
section
variable{P:Program}{w:World}{H:Hp}{h:Heap}{e C dx:Addr}{d:Option Addr}{fs:List (Str×V)}
theorem XN.mk{vs:Array Value}(a:h.get? e=some { cls:=.ref C,dict:=d,data:=.fields vs })(b:1<vs.size)(c:vs[1]?=some .none):dX P w H h e (XN e C d):=
 ⟨⟨vs,a,b,c⟩,⟨_,a⟩,λ_ _ ⟨vs,a,b,c⟩ k=>⟨vs,k _ a,b,c⟩⟩
theorem XO.mk{vs:Array Value}(a:h.get? e=some { cls:=.ref C,dict:=d,data:=.fields vs }):dX P w H h e (XO e C d):=
 ⟨⟨vs,a⟩,⟨_,a⟩,λ_ _ ⟨vs,a⟩ k=>⟨vs,k _ a⟩⟩
theorem XD.mk{mA:Str->Option Value}(l:fs.length<=1000)(n:h.Ns1 dx mA)(r:∀ f,vy (fs.lookup f) (mA f))(wi:PySem.Within mA (fs.map (·.1))):dX P w H h dx (XD dx fs):=
 ⟨⟨l,mA,n,r,wi⟩,let⟨o,_,_,e',_⟩:=n;⟨o,e'⟩,λ_ _ ⟨l,mA,n,r,wi⟩ k=>⟨l,mA,n.at k,r,wi⟩⟩
theorem XN.get(x:dX P w H h e (XN e C d)):∃ vs:Array Value,h.get? e=some { cls:=.ref C,dict:=d,data:=.fields vs }/\1<vs.size/\vs[1]?=some .none:=x.1
theorem XD.get(x:dX P w H h dx (XD dx fs)):fs.length<=1000/\∃ mA,h.Ns1 dx mA/\(∀ f,vy (fs.lookup f) (mA f))/\PySem.Within mA (fs.map (·.1)):=x.1
end
structure XMk(K:PySem.W.Frag)(C f:Addr)(cd:ClassData):Prop extends XCls K C cd where
 ob:∃ nm q N bs bm sn sub ab col dd k0 k1 k2 k3 k5,K.lookup C=some (excClassObj nm q C N bs bm true sn sub ab col dd k0 k1 k2 k3 k5 "ValueError.__new__")/\cd.mro=.ref C::bm
 init:PySem.W.findIn K (.ref C) "__init__"=some (some (.ref f))
 fn:PySem.W.typeIn K (.ref f)=some (.type "function")
 kp:keepIn K (.ref C)=true
section
variable{X:Cx}{pins:List (Addr×Obj)}{σ:St}{H:Hp}{s:Shared}{C f:Addr}{cd:ClassData}{fd:FuncData}{ps:List Str}{sp:Sp}{k:Nat}{x:Str}{p pos:Pos}{e:Expr}{es:List Expr}{t:TA}{us:List Value}{vs:List V}
theorem Gp{QA:Addr->Hp->Prop}(Y:XMk X.K C f cd)(F:sV X.prog X.w X.K X.mg X.base CX0 k f fd ps sp)(hr:fD (k+1) X.A)(hb:Binds X.K fd ps [])(I:Inv X pins σ H s)(r:Vals vs us)(hz:vs.length<=sizeLine)
  (h:∀ a,H a=none->sp (.ref a::vs) (upd H a (XN a C none)) (λv H2=>v=.non/\QA a H2) E0) :
  wpAny (model X.prog X.w) X.A (call (.ref C) us) (λu s'=>∃ H',u=.ref (s.heap.objs.size+1)/\Inv X pins σ H' s'/\QA (s.heap.objs.size+1) H') X.xe s:=by
 obtain⟨nm,q,N,bs,bm,sn,sub,ab,col,dd,k0,k1,k2,k3,k5,hC,hm⟩:=Y.ob;have ve:jh bm=true:=by have:=Y.ve;rw[hm] at this;exact this
 have hq:=h (s.heap.objs.size+1) (I.hok.fresh (Nat.le_succ _));have k1':∀ b o,s.heap.get? b=some o->(s.heap.push { cls:=.type "tuple",data:=.seq us.toArray }).get? b=some o:=λb o e=>Zac _ e;have I1:Inv X pins σ H { s with heap:=s.heap.push { cls:=.type "tuple",data:=.seq us.toArray } }:=I.kept (t':=s.toks) k1';have hget:((s.heap.push { cls:=.type "tuple",data:=.seq us.toArray }).push (yl C s.heap.objs.size none)).get? (s.heap.objs.size+1)=some (yl C s.heap.objs.size none):=by
  have:=Zar (s.heap.push { cls:=.type "tuple",data:=.seq us.toArray }) (o:=yl C s.heap.objs.size none) rfl
  rwa [Heap.size_push] at this
 have I2:Inv X pins σ (upd H (s.heap.objs.size+1) (XN (s.heap.objs.size+1) C none)) { s with heap:=(s.heap.push { cls:=.type "tuple",data:=.seq us.toArray }).push (yl C s.heap.objs.size none) }:=
  I1.laid (t':=s.toks) (λb o e=>Zac _ e) (Nat.le_of_eq (Heap.size_push _ _)) (XN.mk hget (by simp) rfl)
 have r2:Vals (V.ref (s.heap.objs.size+1)::vs) (Value.ref (s.heap.objs.size+1)::us):=.cons rfl r;have hl:(Value.ref (s.heap.objs.size+1)::us++[]).length=ps.length:=by
  have e:=r2.length;rw[F.len _ _ _ _ hq] at e;rw[Zav];exact e.symm
 have hbs:=hb { s with heap:=(s.heap.push { cls:=.type "tuple",data:=.seq us.toArray }).push (yl C s.heap.objs.size none) } (Value.ref (s.heap.objs.size+1)::us) I2.kIn hl;rw[Zav] at hbs;obtain⟨hh,g,d,tk,os⟩:=s;refine wpAny_call (M7 (f:=f) I.kIn (Aa (by decide) _ ve) (Gn (by decide) _ ve) (Gn (by decide) _ ve) (I.kIn _ _ hC) Y.init Y.fn (by rw[<-r.length];exact hz)
  (codeAny_mono (F.run _ X.stack _ _ ⟨Value.ref (hh.objs.size+1)::us,[]⟩ (Value.ref (hh.objs.size+1)::us) _ _ E0 (hr.make C us []) (I2.env0.make C us []) hbs r2 hq) λr s' hq'=>?_))
 cases r with
 |error e=>exact False.elim hq'
 |ok fl=>
  cases fl with
  |ret u=>
   obtain⟨v,H',I3,rv,ev,q3⟩:=I2.after hq';subst ev;exact⟨rv,⟨H',rfl,I3,q3⟩⟩
  |next=>exact False.elim hq'
  |brk=>exact False.elim hq'
  |cont=>exact False.elim hq'
def del(H:Hp)(a:Addr):Hp:=λb=>if b=a then none else H b
theorem Do{H:Hp}{a:Addr}:del H a a=none:=by unfold del;rw[Zao rfl]
theorem sY{H:Hp}{a b:Addr}(h:b≠a):del H a b=H b:=by unfold del;rw[Zal h]
theorem Inv.QJ{a:Addr}{φ:Heap->Prop}(I:Inv X pins σ H s)(h:H a=some (.ext φ)):Inv X pins σ (del H a) s:=by
 have ne:∀ b o,H b=some o->(∀ ψ,o≠.ext ψ)->b≠a:=λb o q n z=>by subst z;rw[q] at h;exact n φ (Zaa h)
 have nn:∀ b,H b=none->del H a b=none:=λb q=>by unfold del;split<;>first|rfl|exact q
 refine⟨I.ok,I.os,I.bare,⟨I.base.keep,I.base.slot,λb o q n x=>nn b (I.base.free b o q n x),I.base.there,λb xs q=>?_,λb o u q=>?_,λb ps q=>?_⟩,I.loc,I.cell,nn _ I.free,λx c q=>nn _ (I.freeC x c q),λp hp=>?_,λb o q=>?_,I.len⟩
 ·have:=I.base.tups b xs q;rw[sY (ne b _ this λ_ z=>by cases z)];exact this
 ·have:=I.base.frzs b o u q;rw[sY (ne b _ this λ_ z=>by cases z)];exact this
 ·obtain⟨m,this⟩:=I.base.tbls b ps q;exact⟨m,by rw[sY (ne b _ this λ_ z=>by cases z)];exact this⟩
 ·obtain⟨a1,a2,a3⟩:=I.pin p hp;exact⟨a1,nn _ a2,a3⟩
 ·unfold del at q;split at q
  ·cases q
  ·rename_i hb;refine(I.hok b o q).stay (λc u _ z=>z) (λc z=>?_) λc xs z=>?_
   ·rw[sY (ne c _ z λ_ y=>by cases y)];exact z
   ·rw[sY (ne c _ z λ_ y=>by cases y)];exact z
theorem Inv.Ws{a:Addr}{fs:List (Str×V)}(I:Inv X pins σ H s)(h:H a=some (XD a fs)):Inv X pins σ (upd H a (.xd fs)) s:=by
 have ne:∀ b o,H b=some o->(∀ ψ,o≠.ext ψ)->b≠a:=λb o q n z=>by subst z;rw[q] at h;exact n _ (Zaa h)
 have nn:∀ b,H b=none->upd H a (.xd fs) b=none:=λb q=>by
  have:b≠a:=λz=>by rw[z,h] at q;cases q
  rw[aQ this];exact q
 refine⟨I.ok,I.os,I.bare,⟨I.base.keep,I.base.slot,λb o q n x=>nn b (I.base.free b o q n x),I.base.there,λb xs q=>?_,λb o u q=>?_,λb ps q=>?_⟩,I.loc,I.cell,nn _ I.free,λx c q=>nn _ (I.freeC x c q),λp hp=>?_,λb o q=>?_,I.len⟩
 ·have:=I.base.tups b xs q;rw[aQ (ne b _ this λ_ z=>by cases z)];exact this
 ·have:=I.base.frzs b o u q;rw[aQ (ne b _ this λ_ z=>by cases z)];exact this
 ·obtain⟨m,this⟩:=I.base.tbls b ps q;exact⟨m,by rw[aQ (ne b _ this λ_ z=>by cases z)];exact this⟩
 ·obtain⟨a1,a2,a3⟩:=I.pin p hp;exact⟨a1,nn _ a2,a3⟩
 ·by_cases hb:b=a
  ·subst hb;rw[aX] at q;cases q;obtain⟨_,mA,n,r,_⟩:=XD.get (I.hok _ _ h);exact⟨mA,n,r⟩
  ·rw[aQ hb] at q;refine(I.hok b o q).stay (λc u _ z=>z) (λc z=>?_) λc xs z=>?_
   ·rw[aQ (ne c _ z λ_ y=>by cases y)];exact z
   ·rw[aQ (ne c _ z λ_ y=>by cases y)];exact z
theorem Gq{M:Model}{A:Around}{E:Value->Shared->Prop}{env:Env}{y:Sem Value}{QF:Flow->Shared->Prop}{nm q:Str}{N:Addr}{bs bm:List Value}{hdct:Bool}{sn:List Str}{sub:List Value}{ab:Bool}{col:Option Bool}{dd:Option Addr}{k0 k1 k2 k3 k5:Option Value}{newId:String}
  (hbase:bm.contains (.type "BaseException")=true)(hh:A.handled=none)
  (h:wpAny M A y (λv s₁=>∃ e d,∃ vs:Array Value,v=.ref e/\s₁.heap.get? C=some (excClassObj nm q C N bs bm hdct sn sub ab col dd k0 k1 k2 k3 k5 newId) /\
   s₁.heap.get? e=some { cls:=.ref C,dict:=d,data:=.fields vs }/\vs[1]?=some .none/\E (.ref e) s₁) E s) :
  wpAny M A (raiseStmt env (some y) none) QF E s:=by
 have hcB:(Value.ref C::bm).contains (.type "BaseException")=true:=by rw[Za5,hbase,Bool.or_true]
 unfold raiseStmt;refine Zae (ZaV h (λv s₁ h₁=>?_) λ_ _ x=>x);obtain⟨e,d,vs,rfl,hC,he,hv1,hE⟩:=h₁;obtain⟨hp,g,dr,tk,os⟩:=s₁;repeat (first|with_reducible refine wpAny_loadPart_at he ?_|with_reducible refine wpAny_loadPart_at hC ?_|(with_reducible refine wpAny_isSubtype_exc hC ?_;rw[hcB])|wp_step)
 rw[hv1];refine Zaq ?_;rw[Zal (by decide)]
 exact Zaq (wpAny_raiseNew_none hh hE)
def vU(C:Addr)(sp:Sp)(E:XK)(t:TA):TS:=λ_ σ H=>t σ H λvs H1=>vs.length<=sizeLine/\∀ a,H1 a=none ->
 sp (.ref a::vs) (upd H1 a (XN a C none)) (λv H2=>v=.non/\∃ dx fs,H2 a=some (XN a C (some dx))/\H2 dx=some (XD dx fs)/\dx≠a/\E (.ref C) (some dx) (upd (del H2 a) dx (.xd fs))) E0
theorem JW{E:XK}{rpos:Pos}(Y:XMk X.K C f cd)(F:sV X.prog X.w X.K X.mg X.base CX0 k f fd ps sp)(hr:fD (k+1) X.A)(hg:Gl X x)(hm:X.mg x=some (.ref C))(hb:Binds X.K fd ps [])(hh:X.A.handled=none)
  (hx:∀ (pins:List (Addr×Obj)) (σ:St) (H:Hp) (s:Shared) (e:Addr) (C:Value) (d:Option Addr),Inv X pins σ H s->Fly X pins H s.heap e C d->E C d H->X.xe (.ref e) s)
  (ha:PA X (e::es) t)(hdb:(x==("__debug__":Str))=false:=by decide)(he:starEach (e::es) X.env=(false,eval e X.env)::starEach es X.env:=by rfl)(hpl:(backTo pos (starEach es X.env)).any (·.1)=false:=by rfl) :
  PS X (.Raise (some (.Call (.Name x p) (e::es) [] pos)) none rpos) (vU C sp E t):=by
 obtain⟨nm,q,N,bs,bm,sn,sub,ab,col,dd,k0,k1,k2,k3,k5,hC,hmr⟩:=Y.ob;have ve:jh bm=true:=by have:=Y.ve;rw[hmr] at this;exact this
 intro pins s σ H D I h;rw[arm_exec_Raise];have key:wpAny (model X.prog X.w) X.A (eval (.Call (.Name x p) (e::es) [] pos) X.env) (λv s₁=>∃ e d,∃ vs:Array Value,v=.ref e/\s₁.heap.get? C=some (excClassObj nm q C N bs bm true sn sub ab col dd k0 k1 k2 k3 k5 "ValueError.__new__") /\
   s₁.heap.get? e=some { cls:=.ref C,dict:=d,data:=.fields vs }/\vs[1]?=some .none/\X.xe (.ref e) s₁) X.xe s:=by
  refine wpAny_Call_Name_kw (tO I hg hm ?_ hdb);refine PySem.W.callWith_K (h₀:=X.base) I.ok.mod.kin Y.kp (thn (ha pos pins s σ H _ I h) λus s1 ⟨vs,H1,I1,r,hz,q⟩=>⟨I1.kIn,?_⟩) he hpl;refine thn (Gp (QA:=λa H2=>∃ dx fs,H2 a=some (XN a C (some dx))/\H2 dx=some (XD dx fs)/\dx≠a/\E (.ref C) (some dx) (upd (del H2 a) dx (.xd fs))) Y F hr hb I1 r hz q) ?_;rintro u s2 ⟨H2,eu,I2,q2⟩;obtain⟨dx,fs,h2,h3,ne,hE⟩:=q2;obtain⟨vs2,hget,hsz,h1⟩:=XN.get (I2.hok _ _ h2);have I3:=Inv.Ws (Inv.QJ I2 h2) (a:=dx) (fs:=fs) (by rw[sY ne];exact h3)
  refine⟨_,some dx,vs2,eu,I2.kIn _ _ hC,hget,h1,hx pins σ _ s2 _ _ (some dx) I3 ⟨ug I1 (Nat.le_succ _),by rw[aQ (Za6 ne)];exact Do,_,vs2,hget,rfl,rfl,rfl,rfl,hsz,.inl h1⟩ hE⟩
 exact Zae (wpAny_standAt (Gq (C:=C) (nm:=nm) (q:=q) (N:=N) (bs:=bs) (bm:=bm) (hdct:=true) (sn:=sn) (sub:=sub) (ab:=ab) (col:=col) (dd:=dd) (k0:=k0) (k1:=k1) (k2:=k2) (k3:=k3) (k5:=k5) (newId:="ValueError.__new__") (Aa (by decide) _ ve) hh
  (Zae (thn key λv s1 z=>Zae (wpAny_standAt (Zaq z))))))
end
section
variable{X:Cx}{pins:List (Addr×Obj)}{σ:St}{H:Hp}{s:Shared}{o value:Expr}{f:Str}{pos pos':Pos}{ta tv:TE}
def sX0(K:PySem.W.Frag)(ta tv:TE)(f:Str):TS:=λD σ H=>tv σ H λy H1=>ta σ H1 λx H2=>∃ e C cd,x=.ref e/\H2 e=some (XN e C none)/\XCls K C cd/\PySem.W.findIn K (.ref C) f=some none /\
 ∀ dx,H2 dx=none->D.nx σ (upd (upd H2 dx (XD dx [(f,y)])) e (XN e C (some dx)))
theorem Wt(ha:PE X o ta)(hv:PE X value tv)(hs:swapsWith value (some (.Attribute o f pos')) pos.line X.env=pure false):PS X (.Assign [.Attribute o f pos'] value pos) (sX0 X.K ta tv f):=by
 intro pins s σ H D I h;refine plainObj_wpAny_Assign_Attribute (thn (hv pins s σ H _ I h) λu s1 ⟨y,H1,I1,ry,q⟩=>thn (ha pins s1 σ H1 _ I1 q) ?_) hs;rintro ov s2 ⟨x,H2,I2,rx,e,C,cd,ex,ee,c,n,q2⟩;subst ex;obtain rfl:ov=Value.ref e:=rx;obtain⟨vs,hget,hsz,h1⟩:=XN.get (I2.hok _ _ ee);refine M8 I2.kIn c n hget λh' dx hdx hx' hn' keep=>?_;have nd:H2 dx=none:=I2.hok.fresh (by rw[hdx];exact Zag _)
 have ne:dx≠e:=λz=>by rw[z,ee] at nd;cases nd
 obtain⟨oD,eD⟩:∃ oD,h'.get? dx=some oD:=let⟨o,_,_,e',_⟩:=hn';⟨o,e'⟩;have hfr:=(Heap.get?_some_iff.mp eD).2;have g1:(s2.heap.push oD).get? dx=some oD:=by rw[hdx];exact Zar _ hfr
 have I3:Inv X pins σ (upd H2 dx (XD dx [(f,y)])) { s2 with heap:=s2.heap.push oD,toks:=s2.toks+2 }:=by
  refine I2.laid (t':=s2.toks+2) (λb u z=>Zac _ z) (by rw[hdx];exact Zag _) (XD.mk (by simp) (hn'.at λo z=>?_) (λg=>?_) λg hg=>?_)
  ·rw[eD] at z;rw[g1];exact z
  ·by_cases hgf:g=f
   ·subst hgf;rw[Zao rfl];have:([(g,y)]:List (Str×V)).lookup g=some y:=by simp[List.lookup]
    rw[this];exact ry
   ·rw[Zal hgf];have:([(f,y)]:List (Str×V)).lookup g=none:=by
     have hb:(g==f)=false:=beq_eq_false_iff_ne.mpr hgf;simp only[List.lookup,hb]
    rw[this];exact True.intro
  ·by_cases hgf:g=f
   ·simp[hgf]
   ·exact absurd (Zal hgf) hg
 have I4:=Inv.write (h':=h') (t':=s2.toks+2) I3 (x:=e) (e:=e) (o:=XN e C (some dx)) (by rw[aQ (Za6 ne),ee];exact True.intro) (.inl rfl) (λb u hb z=>?_) ⟨_,hx'⟩ (XN.mk hx' hsz h1)
 ·exact⟨σ,_,I4,q2 dx nd⟩
 ·rcases Heap.get?_push_cases z with⟨z1,z2⟩|z
  ·rw[z1,z2,<-hdx];exact eD
  ·exact keep b u hb z
end
noncomputable abbrev Cx.hand(X:Cx)(ev:Value)(E:Value->Shared->Prop):Cx:={ X with A:=X.A.mark (some ev),calm:=false,xe:=E }
section
variable{X:Cx}{pins:List (Addr×Obj)}{σ:St}{H:Hp}{s:Shared}{ev:Value}{E:Value->Shared->Prop}{e C:Addr}{d:Option Addr}
theorem Inv.hand(I:Inv X pins σ H s)(ev:Value)(E:Value->Shared->Prop):Inv (Cx.hand X ev E) pins σ H s:=
 let ok:=I.ok
 ⟨⟨ok.mod,ok.kind,ok.glob,ok.blt,ok.above,ok.inj,ok.has,ok.cab,(λz=>by cases z),ok.frames,ok.stk,ok.exf,ok.bs,ok.bsz,ok.noex,ok.exfs,ok.sU,ok.frf⟩,I.os,I.bare,I.base,I.loc,I.cell,I.free,I.freeC,I.pin,I.hok,I.len⟩
theorem Inv.Ab(ok:X.Ok)(I:Inv (Cx.hand X ev E) pins σ H s):Inv X pins σ H s:=
 ⟨ok,I.os,I.bare,I.base,I.loc,I.cell,I.free,I.freeC,I.pin,I.hok,I.len⟩
theorem Inv.track(I:Inv X pins σ H s)(fl:Fly X pins H s.heap e (.ref C) d):Inv X pins σ (upd H e (XO e C d)) s:=by
 obtain⟨m,nh,oe,vs,he,hc,hdd,hsl,hd,hsz,h1⟩:=fl;have ne:∀ b o,H b=some o->b≠e:=λb o q z=>by rw[z,nh] at q;cases q
 have obj:s.heap.get? e=some { cls:=.ref C,dict:=d,data:=.fields vs }:=by
  rw[he];obtain⟨c,dd,dt,sl⟩:=oe;cases hc;cases hdd;cases hsl;cases hd;rfl
 refine⟨I.ok,I.os,I.bare,⟨I.base.keep,I.base.slot,λb o q n x=>?_,I.base.there,λb xs q=>?_,λb o u q=>?_,λb ps q=>?_⟩,I.loc,I.cell,?_,λx c q=>?_,λp hp=>?_,λb o q=>?_,I.len⟩
 ·rw[aQ (ZaA (Zan (Zai q) m.sz))];exact I.base.free b o q n x
 ·have:=I.base.tups b xs q;rw[aQ (ne b _ this)];exact this
 ·have:=I.base.frzs b o u q;rw[aQ (ne b _ this)];exact this
 ·obtain⟨z,this⟩:=I.base.tbls b ps q;exact⟨z,by rw[aQ (ne b _ this)];exact this⟩
 ·rw[aQ (Za6 m.loc)];exact I.free
 ·rw[aQ (m.cl x c q)];exact I.freeC x c q
 ·obtain⟨a1,a2,a3⟩:=I.pin p hp;exact⟨a1,by rw[aQ (m.pn p hp)];exact a2,a3⟩
 ·by_cases hb:b=e
  ·subst hb;rw[aX] at q;cases q;exact XO.mk obj
  ·rw[aQ hb] at q;exact(I.hok b o q).stay (λc u _ z=>z) (λc z=>by rw[aQ (ne c _ z)];exact z) λc xs z=>by rw[aQ (ne c _ z)];exact z
theorem goes{M:Model}{A:Around}{E:Value->Shared->Prop}{i:Nat}{n:Str}{pos:Pos}{Q:Unit->Shared->Prop}(I:Inv X pins σ H s)(hN:X.N.Nodup)(hi:X.N[i]?=some n)(hk:X.env.kindOf n=some .local)
  (h:∀ s',Inv X pins (σ.set i none) H s'->Q () s'):wpAny M A (do bindName X.env n .none;unbindBehindTheSuite X.env n pos) Q E s:=by
 obtain⟨m,hn,hl⟩:=id I.loc;have hcls:(X.env.scope.kind==.class||(X.env.scope.kind==.module&&X.env.locals != X.env.globals))=false:=by rw[I.ok.kind];rfl
 have hiσ:i<σ.length:=by rw[I.len];exact(Zaj.mp hi).1
 have cne:=I.cne;refine wpAny_nameGoes_keeps hk hn hcls λh' v hn' hs=>?_;obtain⟨oL,_,_,hoL,_⟩:=id hn;have lo:∀ b o,X.s₀.heap.get? b=some o->b≠X.env.locals:=λb o e=>ZaA (Zan (Zai e) I.ok.above);refine h _ ⟨I.ok,I.os,I.bare,⟨λb o e n hb hx=>(hs.2 b (lo b o e)).trans (I.base.keep b o e n hb hx),λb o e n hb hx=>?_,I.base.free,λb o e hx=>?_,I.base.tups,I.base.frzs,I.base.tbls⟩,⟨_,hn',λj y v' e1 e2 e3=>?_⟩,λy c e=>?_,I.free,I.freeC,λp hp=>?_,λb ob e=>?_,by simpa using I.len⟩
 ·obtain⟨sl,e1⟩:=I.base.slot b o e n hb hx;exact⟨sl,(hs.2 b (lo b o e)).trans e1⟩
 ·obtain⟨o',e1⟩:=I.base.there b o e hx;exact⟨o',(hs.2 b (lo b o e)).trans e1⟩
 ·by_cases hj:j=i
  ·subst hj;rw[ZaL hiσ] at e2;cases e2
  ·rw[Zah (Za6 hj)] at e2;obtain⟨u',r',q⟩:=hl j y v' e1 e2 e3;refine⟨u',r',?_⟩;rcases q with⟨k,e⟩|⟨k,c,e,z⟩
   ·refine .inl ⟨k,?_⟩;have:y≠n:=λe=>hj (vZ hN e1 (e▸hi));simp[this,e]
   ·exact .inr ⟨k,c,e,z.sameBut hs (cne y c e)⟩
 ·obtain⟨w',z⟩:=I.cell y c e;exact⟨w',z.sameBut hs (cne y c e)⟩
 ·obtain⟨e,n,ne,nf,dd⟩:=I.pin p hp;exact⟨(hs.2 p.1 ne).trans e,n,ne,nf,dd⟩
 ·refine(I.hok b ob e).stay (λc w' hc q=>(hs.2 c ?_).trans q) (λ_ q=>q) λ_ _ q=>q;rintro rfl;rcases hc with rfl|hc
  ·rw[I.free] at e;cases e
  ·rw[I.free] at hc;cases hc
end
structure Catch(K:PySem.W.Frag)(T:Addr):Prop where
 cls:∃ oc od cd sl,K.lookup T=some ⟨oc,od,.cls cd,sl⟩
 nt:PySem.W.instIn K (.ref T) (.type "tuple")=some false
 be:PySem.W.subIn K (.ref T) (.type "BaseException")=some true
theorem caught{K:PySem.W.Frag}{M:Model}{A:Around}{E:Value->Shared->Prop}{s:Shared}{e C T:Addr}{oe:Obj}{b:Bool}{Q:Bool->Shared->Prop}(X:K.In s.heap)(Y:Catch K T)(he:s.heap.get? e=some oe)(hc:oe.cls=.ref C)
  (hb:PySem.W.subIn K (.ref C) (.ref T)=some b)(h:Q b s):wpAny M A (excMatches (.ref e) (.ref T)) Q E s:=by
 obtain⟨oc,od,cd,sl,hT⟩:=Y.cls;have L1:=PySem.W.looks_instIn (M:=M) X Y.nt;have L2:=PySem.W.looks_subIn (M:=M) X Y.be;have L3:=PySem.W.looks_subIn (M:=M) X hb;have hT':=X _ _ hT;unfold excMatches;refine Zae (L1.here ?_);obtain⟨hp,g,dr,tk,os⟩:=s;repeat (first|with_reducible refine wpAny_loadPart_at he ?_|with_reducible refine wpAny_loadPart_at hT' ?_|with_reducible refine L2.at ?_|with_reducible refine L3.at ?_|wp_step)
 rw[hc];refine L3.at ?_;cases b<;>(wp_walk;exact h)
noncomputable abbrev THs:=Value->Option Addr->TS
def PHs(X:Cx)(hs:List ExceptHandler)(th:THs):Prop:=∀ (pins:List (Addr×Obj)) (s:Shared) (σ:St) (H:Hp) (D:Ends) (e:Addr) (C:Value) (d:Option Addr),Inv X pins σ H s->Fly X pins H s.heap e C d->th C d D σ H ->
 wpAny (model X.prog X.w) X.A (handleBy (.ref e) X.env hs) (SP X pins D) X.xe s
def Ends.gone(D:Ends)(i:Nat):Ends:={ nx:=λσ H=>D.nx (σ.set i none) H,rt:=D.rt,bk:=λσ H=>D.bk (σ.set i none) H,ct:=λσ H=>D.ct (σ.set i none) H }
def Wu:THs:=λ_ _ _ _ _=>False
def hAs(K:PySem.W.Frag)(T:Addr)(i:Nat)(ts:TS)(rest:THs):THs:=λC d D σ H=>∃ Ca b,C=.ref Ca/\PySem.W.subIn K (.ref Ca) (.ref T)=some b /\
 if b=true then ∀ a,H a=none->ts (Ends.gone D i) (σ.set i (some (.ref a))) (upd H a (XO a Ca d)) else rest C d D σ H
section
variable{X:Cx}{T:Addr}{x n:Str}{np pos:Pos}{b₀:Stmt}{suite body:List Stmt}{ts:TS}{rest:List ExceptHandler}{tr:THs}{i:Nat}
theorem Uu:PHs X [] Wu:=λ_ _ _ _ _ _ _ _ _ _ h=>h.elim
theorem Wv(hg:Gl X x)(hm:X.mg x=some (.ref T))(Y:Catch X.K T)(hN:X.N.Nodup)(hi:X.N[i]?=some n)(hk:X.env.kindOf n=some .local)(hs:∀ ev,PSs (Cx.hand X ev λ_ _=>False) (b₀::suite) ts)(hr:PHs X rest tr)
  (hd:(x==("__debug__":Str))=false:=by decide):PHs X (.ExceptHandler (some (.Name x np)) (some n) (b₀::suite) pos::rest) (hAs X.K T i ts tr):=by
 intro pins s σ H D e C d I fl h;obtain⟨Ca,b,rfl,hb,h⟩:=h;obtain⟨m,nh,oe,vs,he,hc,hrest⟩:=id fl;refine wpAny_handleBy_cons (codeAny_handlers_test (tO (X:=Cx.hand X (.ref e) X.xe) (Inv.hand I (.ref e) X.xe) hg hm ?_ hd)) (by intro q;cases q)
 refine caught I.kIn Y he hc hb ?_;cases b with
 |false=>exact hr pins s σ H D e _ d I fl h
 |true=>
  refine codeAny_handlers_suite_as (oV I fl λs1 I1 f1=>?_);refine wg (Inv.track I1 f1) hN hi (.inl hk) (v:=.ref e) rfl (λs2 I2=>?_) (.inr hk);refine ZaV (hs (.ref e) pins s2 _ _ (Ends.gone D i) (Inv.hand I2 (.ref e) λ_ _=>False) (h e nh)) (λf s3 q=>?_) λ_ _ z=>z.elim
  ·cases f with
   |next=>obtain⟨σ',H',J,q⟩:=q;exact goes (Inv.Ab I.ok J) hN hi hk λs4 J4=>⟨_,H',J4,q⟩
   |brk=>obtain⟨σ',H',J,q⟩:=q;exact goes (Inv.Ab I.ok J) hN hi hk λs4 J4=>⟨_,H',J4,q⟩
   |cont=>obtain⟨σ',H',J,q⟩:=q;exact goes (Inv.Ab I.ok J) hN hi hk λs4 J4=>⟨_,H',J4,q⟩
   |ret u=>obtain⟨v,σ',H',J,r,q⟩:=q;exact goes (Inv.Ab I.ok J) hN hi hk λs4 J4=>⟨v,_,H',J4,r,q⟩
def Sy(X:Cx)(body:List Stmt)(tb:XK->TS):Prop:=∀ (pins:List (Addr×Obj)) (σ:St) (E:XK) (xe:Value->Shared->Prop),(∀ (H:Hp) (s:Shared) (ev:Value) (s':Shared),Inv X pins σ H s->CXS X.prog X.w X.stack H s E ev s'->xe ev s') ->
 ∀ (s:Shared) (H:Hp) (D:Ends),Inv X pins σ H s->tb E D σ H->wpAny (model X.prog X.w) X.A (execs body X.env) (SP X pins D) xe s
def Ww(tb:XK->TS)(th:THs):TS:=λD σ H=>tb (λC d H'=>th C d D σ H') D σ H
theorem Uv{h₀:ExceptHandler}{hs:List ExceptHandler}{tb:XK->TS}{th:THs}(hst:X.stack=X.env::X.outer)(hf:X.env.frame=some X.env.locals)(hb:Sy X body tb)(hh:PHs X (h₀::hs) th):PS X (.Try body (h₀::hs) [] [] pos) (Ww tb th):=by
 intro pins s σ H D I h;refine wpAny_Try_except (ZaV (hb pins σ _ (FlS X pins σ λC d H'=>th C d D σ H') (λH s ev s' I c=>FlS.Il I c) s H D I h) (λf s1 q=>?_) λev s1 q=>?_)
 ·cases f with
  |next=>exact Zaq q
  |brk=>exact q
  |cont=>exact q
  |ret u=>exact q
 ·obtain⟨e,C,d,H',rfl,I1,f1,q⟩:=q;exact w6 I1 hst hf f1 λs2 I2 f2 _=>oV I2 f2 λs3 I3 f3=>hh pins s3 σ H' D e C d I3 f3 q
end
def Wx(X:Cx)(e:Expr)(te:XK->TE):Prop:=∀ (pins:List (Addr×Obj)) (σ:St) (E:XK) (xe:Value->Shared->Prop),(∀ (H:Hp) (s:Shared) (ev:Value) (s':Shared),Inv X pins σ H s->CXS X.prog X.w X.stack H s E ev s'->xe ev s') ->
 ∀ (s:Shared) (H:Hp) (Q:VK),Inv X pins σ H s->te E σ H Q->wpAny (model X.prog X.w) X.A (eval e X.env) (EP X pins σ Q) xe s
section
variable{X:Cx}{k:Nat}{ps:List Str}{sp:Sp}{x:Str}{p pos:Pos}{e:Expr}{es:List Expr}{t:TA}{te:XK->TE}
theorem JX(G:xf X.prog X.w X.K X.mg X.base x k ps sp)(hr:fD k X.A)(hg:Gl X x)(ha:PA X.nox (e::es) t)(hdb:(x==("__debug__":Str))=false:=by decide)
  (he:starEach (e::es) X.env=(false,eval e X.env)::starEach es X.env:=by rfl)(hpl:(backTo pos (starEach es X.env)).any (·.1)=false:=by rfl):Wx X (.Call (.Name x p) (e::es) [] pos) (λE=>pL sp [] E t):=by
 obtain⟨f,fd,hm,hk,hb,F⟩:=G;intro pins σ E xe hx s H Q I h;refine wpAny_Call_Name_kw (tO I hg hm ?_ hdb);refine PySem.W.callWith_K (h₀:=X.base) I.ok.mod.kin hk (ZaV (ha pos pins s σ H _ (I.wish _) h) (λus s1 ⟨vs,H1,I1,r,q⟩=>⟨I1.kIn,?_⟩) λ_ _ z=>z.elim) he hpl;have I1:=I1.jJ;have q':sp (vs++[]) H1 Q E:=q;rw[Zav] at q';have hl:(us++[]).length=ps.length:=by rw[Zav,<-r.length];exact F.len _ _ _ _ q'
 have hb':=hb s1 us I1.kIn hl;rw[Zav] at hb';refine wpAny_call (codeAny_mono (F.run X.A X.stack s1 H1 ⟨us,[]⟩ us vs Q E hr I1.env0 hb' r q') λr s' hq=>?_);cases r with
 |error ev=>exact hx H1 s1 ev s' I1 hq
 |ok fl=>
  cases fl with
  |ret u=>exact I1.after hq
  |next=>exact False.elim hq
  |brk=>exact False.elim hq
  |cont=>exact False.elim hq
theorem Uw{xe:Value->Shared->Prop}{pins:List (Addr×Obj)}{D:Ends}{st:Stmt}{s:Shared}(h:wpAny (model X.prog X.w) X.A (exec st X.env) (SP X pins D) xe s):wpAny (model X.prog X.w) X.A (execs [st] X.env) (SP X pins D) xe s:=by
 refine wpAny_execs_cons (thn h λf s1 q=>?_);cases f with
 |next=>exact wpAny_execs_nil q
 |ret v=>exact q
 |brk=>exact q
 |cont=>exact q
theorem JZ(he:Wx X e te)(hs:swapsWith e none pos.line X.env=pure false:=by rfl):Sy X [.Expr e pos] (λE=>Cd (te E)):=by
 intro pins σ E xe hp s H D I h;exact Uw (wpAny_Expr_any (thn (he pins σ E xe hp s H _ I h) λv s1 ⟨x,H1,I1,r1,q1⟩=>⟨σ,H1,I1,q1⟩) I.quiet hs)
end
def XRS(K:PySem.W.Frag):Hp->Value->Option Addr->PV->Prop:=λF ev d z=>∃ c l Ca dx xs,z=.exc c l/\ev=.ref Ca/\d=some dx/\XNm K Ca c/\F dx=some (.xd xs)/\xs.map (·.1)=l.map (·.1)/\∀ (j:Nat) x p,xs[j]?=some x->l[j]?=some p->Rep K F x.2 p.2
def PrU(K:PySem.W.Frag){α:Type}(F H:Hp)(E:XK)(ok:α->Prop):Res α->Prop
 |.ok a=>ok a
 |.ex z=>∀ e d F' H',Up F H F' H'->XRS K F' e d z->E e d H'
def MJx{α:Type}(K:PySem.W.Frag)(C:Cg)(A:Rel α)(te:XK->TE)(f:Fn α):Prop:=
 ∀ E F H σ ρ Q r,RE K C.toCf F H σ ρ->f ρ=some r->PrU K F H E (λa=>∀ v F' H',Up F H F' H'->A F' H' v a->Q v H') r->te E σ H Q
def POx(K:PySem.W.Frag)(C:Cg)(F H:Hp)(E:XK)(D:Ends):Out->Prop
 |.ex z=>∀ e d F' H',Up F H F' H'->XRS K F' e d z->E e d H'
 |o=>PO' K C F D o
def MSx(K:PySem.W.Frag)(C:Cg)(tb:XK->TS)(b:Sn):Prop:=∀ E F H σ ρ D o,RE K C.toCf F H σ ρ->b ρ=some o->POx K C F H E D o->tb E D σ H
noncomputable abbrev Cq(C:Cg):Cg:=⟨C.toCf,XR0⟩
section
variable{K:PySem.W.Frag}{C:Cg}{t:TA}{f:Fn (List PV)}{m:List PV->Option (Res PV)}{te:XK->TE}{fe:Fn PV}
theorem M9(h:MA K (Cq C) t f):MJx K C (aF K) (λE=>pL (spM K (XRS K) m) [] E t) (bJ m f):=by
 intro E F H σ ρ Q r R e P;rcases cV e with⟨z,e1,rfl⟩|⟨l,e1,hk⟩
 ·exact h F H σ ρ _ _ R e1 λ_ _ _ _ _ _ x=>x.elim
 ·refine h F H σ ρ _ _ R e1 λxs F1 H1 u a=>?_;refine⟨l,F1,r,u.fh,by rw[Zav];exact a,hk,?_⟩
  cases r with
  |ok p=>exact λv F' H' u' rv=>P v F' H' (u.trans u') rv
  |ex z=>exact λe d F' H' u' x=>P e d F' H' (u.trans u') x
theorem Nb(h:MJx K C (aF K) te fe):MSx K C (λE=>Cd (te E)) (yL fe):=by
 intro E F H σ ρ D o R e P;rcases gk e with⟨z,e1,rfl⟩|⟨p,e1,hk⟩
 ·exact h E F H σ ρ _ _ R e1 P
 ·cases hk;exact h E F H σ ρ _ _ R e1 λv F1 H1 u a=>P F1 H1 σ u.ff (R.up u)
def MHs(K:PySem.W.Frag)(C:Cg)(th:THs)(h:PV->Sn):Prop:=∀ F H σ ρ D o z ev d,RE K C.toCf F H σ ρ->XRS K F ev d z->h z ρ=some o->PO' K C F D o->th ev d D σ H
def Gr(b:Sn)(h:PV->Sn):Sn:=λρ=>match b ρ with
 |some (.ex z)=>h z ρ
 |o=>o
theorem Ux{tb:XK->TS}{th:THs}{b:Sn}{h:PV->Sn}(hb:MSx K C tb b)(hh:MHs K C th h):MS K C (Ww tb th) (Gr b h):=by
 intro F H σ ρ D o R e P;unfold Gr at e;split at e
 ·rename_i z hz;refine hb _ F H σ ρ D (.ex z) R hz λev d F' H' u x=>?_;exact hh F' H' σ ρ D o z ev d (R.up u) x e (P.up u.ff)
 ·rename_i hn;refine hb _ F H σ ρ D o R e ?_;cases o with
  |ex z=>exact absurd e (hn z)
  |nx ρ=>exact P
  |bk ρ=>exact P
  |ct ρ=>exact P
  |rt p=>exact P
  |ro p=>exact P
  |rd p=>exact P
def SJ:PV->Sn:=λ_ _=>none
theorem Uy:MHs K C Wu SJ:=λ_ _ _ _ _ _ _ _ _ _ _ e=>by cases e
def SM(K:PySem.W.Frag)(c t:Str)(b:Bool):Prop:=∃ Ca T,nsIn K mainGlobals c=some (some (.ref Ca))/\nsIn K mainGlobals t=some (some (.ref T))/\PySem.W.subIn K (.ref Ca) (.ref T)=some b
def SN(i:Nat):Option Out->Option Out
 |some (.nx ρ)=>some (.nx (ρ.set i none))
 |some (.bk ρ)=>some (.bk (ρ.set i none))
 |some (.ct ρ)=>some (.ct (ρ.set i none))
 |o=>o
def QK(sub:Str->Option Bool)(i:Nat)(suite:Sn)(rest:PV->Sn):PV->Sn:=λz ρ=>match z with
 |.exc c _=>(match sub c with
  |some true=>SN i (suite (ρ.set i (some (.sh z))))
  |some false=>rest z ρ
  |none=>none)
 |_=>none
theorem RE.gone{Cc:Cf}{F H:Hp}{σ:St}{ρ:Rho}(h:RE K Cc F H σ ρ)(i:Nat):RE K Cc F H (σ.set i none) (ρ.set i none) where
 rb:=h.rb
 len:=by simp[h.len]
 sh:=λj q e=>by
  rcases get_set e with⟨e1,e2⟩|⟨e1,e2⟩
  ·cases e2
  ·obtain⟨w,e3,e4⟩:=h.sh j q e2;exact⟨w,by rw[Zah e1];exact e3,e4⟩
 ow:=λj q e=>by
  rcases get_set e with⟨e1,e2⟩|⟨e1,e2⟩
  ·cases e2
  ·obtain⟨w,e3,e4⟩:=h.ow j q e2;exact⟨w,by rw[Zah e1];exact e3,e4⟩
 dis:=λj k q q' a e e' f f'=>by
  rcases get_set e with⟨e1,e2⟩|⟨e1,e2⟩
  ·cases e2
  ·rcases get_set e' with⟨e1',e2'⟩|⟨e1',e2'⟩
   ·cases e2'
   ·rw[Zah e1] at f;rw[Zah e1'] at f';exact h.dis j k q q' a e2 e2' f f'
 dd:=let⟨P,d⟩:=h.dd;⟨P,d.own,d.dis,λj k q b z e f=>by
   rcases get_set e with⟨e1,e2⟩|⟨e1,e2⟩
   ·cases e2
   ·rw[Zah e1] at f;exact d.ow j k q b z e2 f,λj q e=>by
   rcases get_set e with⟨e1,e2⟩|⟨e1,e2⟩
   ·cases e2
   ·obtain⟨w,e3,e4⟩:=d.dp j q e2;exact⟨w,by rw[Zah e1];exact e3,e4⟩⟩
theorem Wy{T:Addr}{tn:Str}{i:Nat}{ts:TS}{tr:THs}{sub:Str->Option Bool}{suite:Sn}{rest:PV->Sn}(hT:nsIn K mainGlobals tn=some (some (.ref T)))(hsub:∀ c b,sub c=some b->SM K c tn b)
  (hs:MS K C ts suite)(hr:MHs K C tr rest):MHs K C (hAs K T i ts tr) (QK sub i suite rest):=by
 intro F H σ ρ D o z ev d R x e P;obtain⟨c,l,Ca,dx,xs,rfl,rfl,rfl,nm,hd,hl,hr'⟩:=id x;unfold QK at e;dsimp only at e;split at e
 ·rename_i hb;obtain⟨Ca',T',h1,h2,h3⟩:=hsub c _ hb;rw[nm.ns] at h1;cases h1;rw[hT] at h2;cases h2;refine⟨Ca,true,rfl,h3,?_⟩;rw[Zao rfl];intro a na;have u:Up F H (upd F a (XO a Ca (some dx))) (upd H a (XO a Ca (some dx))):=Up.new R.rb.sub na;have rep:Rep K (upd F a (XO a Ca (some dx))) (.ref a) (.exc c l):=.exc nm aX (u.ff _ _ hd) hl λj x p a b=>(hr' j x p a b).up u.ff;cases ho:suite (ρ.set i (some (.sh (.exc c l)))) with
  |none=>rw[ho] at e;cases e
  |some oo=>
   rw[ho] at e;refine hs _ _ _ _ (Ends.gone D i) oo ((R.up u).set i rep) ho ?_;cases oo with
   |nx ρ'=>cases e;exact λF' H' σ' s' R'=>P F' H' _ (u.ff.trans s') (R'.gone i)
   |bk ρ'=>cases e;exact λF' H' σ' s' R'=>P F' H' _ (u.ff.trans s') (R'.gone i)
   |ct ρ'=>cases e;exact λF' H' σ' s' R'=>P F' H' _ (u.ff.trans s') (R'.gone i)
   |rt p=>cases e;exact λv F' H' s' rb rv=>P v F' H' (u.ff.trans s') rb rv
   |ro p=>cases e;exact λv F' H' s' rb rv=>P v F' H' (u.ff.trans s') rb rv
   |rd p=>cases e;exact λv F' H' S s'=>P v F' H' S (u.ff.trans s')
   |ex z=>cases e;exact PX.up P u.ff
 ·rename_i hb;obtain⟨Ca',T',h1,h2,h3⟩:=hsub c _ hb;rw[nm.ns] at h1;cases h1;rw[hT] at h2;cases h2;refine⟨Ca,false,rfl,h3,?_⟩;rw[Zal (by decide)]
  exact hr F H σ ρ D o _ _ _ R x e P
 ·cases e
end
def spI(Ca:Addr)(fs:List Str):Sp:=λvs H Q _=>∃ e args,vs=.ref e::args/\args.length=fs.length/\H e=some (XN e Ca none) /\
 ∀ dx H',H dx=none->H' e=some (XN e Ca (some dx))->H' dx=some (XD dx (fs.zip args))->(∀ b,b≠e->b≠dx->H' b=H b)->Q .non H'
theorem QL{Ca:Addr}{fs:List Str}{vs:List V}{H:Hp}{Q:VK}{E:XK}(h:spI Ca fs vs H Q E):vs.length=fs.length+1:=by
 obtain⟨e,args,rfl,hl,_⟩:=h;simp[hl]
section
variable{K:PySem.W.Frag}{Ca:Addr}{cd:ClassData}{vs:List V}{H:Hp}{Q:VK}{E:XK}{N:List Str}{f1:Str}
theorem yW{vs:List V}{i:Nat}{v:V}(h:vs[i]?=some v):(start N vs)[i]?=some (some v):=by
 unfold start;have hi:i<vs.length:=(Zaj.mp h).1;rw[Zap (by simpa using hi),Zaf,h];rfl
theorem J0(Y:XCls K Ca cd)(n1:PySem.W.findIn K (.ref Ca) f1=some none)(h:spI Ca [f1] vs H Q E) :
  sX0 K (tM 0) (tM 1) f1 { nx:=λ_ H'=>Q .non H',rt:=Q } (start N vs) H:=by
 obtain⟨e,args,rfl,hl,he,h⟩:=h
 match args,hl with
 |[v1],_=>
  refine⟨v1,yW rfl,.ref e,yW rfl,e,Ca,cd,rfl,he,Y,n1,λdx nd=>h dx _ nd aX ?_ λb b1 b2=>?_⟩
  ·rw[aQ (λz=>by rw[z,he] at nd;cases nd),aX];rfl
  ·rw[aQ b1,aQ b2]
end
section
variable{K:PySem.W.Frag}{C:Cg}{t:TA}{f:Fn (List PV)}{Ca:Addr}{c:Str}{fs:List Str}
def uU(c:Str)(fs:List Str)(f:Fn (List PV)):Sn:=λρ=>mR (f ρ) λl=>if l.length=fs.length then some (.ex (.exc c (fs.zip l))) else none
theorem MA.vB{ta:TA}{F H:Hp}{σ:St}{ρ:Rho}{D:Ends}{o:Out}{Q:List V->Hp->Prop}{k:List PV->Option Out}(h:MA K C ta f)(R:RE K C.toCf F H σ ρ)(hb:mR (f ρ) k=some o)(P:PO' K C F D o)
  (go:∀ l xs F1 H1,k l=some o->Up F H F1 H1->b8 K F1 xs l->Q xs H1):ta σ H Q:=by
 rcases gk hb with⟨z,e,rfl⟩|⟨p,e,hk⟩
 ·exact h F H σ ρ Q _ R e P
 ·exact h F H σ ρ Q _ R e λxs F1 H1 u a=>go p xs F1 H1 hk u a
theorem Ac{α β:Type}:∀ {fs:List α}{l:List β},l.length=fs.length->(fs.zip l).map (·.1)=fs
 |[],[],_=>rfl
 |f::fs,x::l,h=>by simp only[List.zip_cons_cons,Zay];rw[Ac (by simpa using h)]
theorem Nf(hX:C.XR=XRS K)(nm:XNm K Ca c)(hz:fs.length<=sizeLine)(h:MA K C t f):MS K C (vU Ca (spI Ca fs) C.E t) (uU c fs f):=by
 intro F H σ ρ D o R e P;refine h.vB R e P λl xs F1 H1 hk u a=>?_;split at hk
 ·rename_i hl;cases hk;refine⟨by rw[a.1,hl];exact hz,λb nb=>⟨b,xs,rfl,by rw[a.1,hl],aX,λdx H' nd h1 h2 h3=>⟨rfl,dx,fs.zip xs,h1,h2,?_,?_⟩⟩⟩
  ·intro z;subst z;rw[aX] at nd;cases nd
  ·have ne:dx≠b:=λz=>by subst z;rw[aX] at nd;cases nd
   have nd1:H1 dx=none:=by rw[aQ ne] at nd;exact nd
   have eq:upd (del H' b) dx (.xd (fs.zip xs))=upd H1 dx (.xd (fs.zip xs)):=by
    funext g
    by_cases g1:g=dx
    ·subst g1;rw[aX,aX]
    ·rw[aQ g1,aQ g1];by_cases g2:g=b
     ·subst g2;rw[Do,nb]
     ·rw[sY g2,h3 g g2 g1,aQ g2]
   rw[eq];have u2:Up F1 H1 (upd F1 dx (.xd (fs.zip xs))) (upd H1 dx (.xd (fs.zip xs))):=Up.new u.fh nd1;have ut:=u.trans u2;refine P (.ref Ca) (some dx) _ _ ut.ff (R.rb.up ut) ?_;rw[hX];refine⟨c,fs.zip l,Ca,dx,fs.zip xs,rfl,rfl,rfl,nm,aX,?_,λj x p e1 e2=>?_⟩
   ·rw[Ac (by rw[a.1,hl]),Ac hl]
   ·have z1:=List.getElem?_zip_eq_some.mp e1;have z2:=List.getElem?_zip_eq_some.mp e2;exact(a.2 j _ _ z1.2 z2.2).up u2.ff
 ·cases hk
end
noncomputable abbrev CE(K:PySem.W.Frag)(E:XK)(io:Addr->Prop)(H0 F0:Hp):Cg:=⟨⟨io,True,H0,F0,E⟩,XRS K⟩
section
variable{K:PySem.W.Frag}{N:List Str}{vs:List V}{H:Hp}{Q:VK}{E:XK}{t:TS}{b:Sn}{m:List PV->Option (Res PV)}
theorem QM{k n:Nat}(hk:N.length=k+n)(hm:∀ ps r,m ps=some r->ps.length=k/\fin (b (startR ps n))=some r)(h:spM K (XRS K) m vs H Q E)(hS:∀ (io:Addr->Prop) (H0 F0:Hp),(∀ a,¬io a)->MS K (CE K E io H0 F0) t b) :
  t { nx:=λ_ H'=>Q .non H',rt:=Q } (start N vs) H:=by
 obtain⟨ps,F,r,s,rp,e,P⟩:=h;obtain⟨hl,e⟩:=hm ps r e;have R:=qF (E:=E) (N:=N) (n:=n) s rp (by rw[rp.1,hl];exact hk)
 have up:∀ {F' H':Hp},bf F F'->RB ⟨λ_=>False,True,H,F,E⟩ F' H'->Up F H F' H':=λs' rb=>⟨s',λc o q=>rb.keep c o q id,rb.new,rb.sub⟩;have M:=hS (λ_=>False) H F (λ_ h=>h);cases ho:b (startR ps n) with
 |none=>rw[ho] at e;cases e
 |some o=>
  rw[ho] at e;refine M F H _ _ _ o R ho ?_;cases o with
  |nx ρ=>cases e;exact λF' H' σ s' R'=>P .non F' H' (up s' R'.rb) .non
  |rt p=>cases e;exact λv F' H' s' rb rv=>P v F' H' (up s' rb) rv
  |ex z=>cases e;exact λev d F' H' s' rb x=>P ev d F' H' (up s' rb) x
  |ro p=>cases e
  |rd p=>cases e
  |bk ρ=>cases e
  |ct ρ=>cases e
theorem Ng{k n:Nat}(hk:N.length=k+n)(hm:∀ ps r,m ps=some r->ps.length=k/\qD (b (startR ps n))=some r)(h:spO K (XRS K) m vs H Q E)(hS:∀ (io:Addr->Prop) (H0 F0:Hp),(∀ a,¬io a)->MS K (CE K E io H0 F0) t b) :
  t { nx:=λ_ H'=>Q .non H',rt:=Q } (start N vs) H:=by
 obtain⟨ps,F,r,s,rp,e,P⟩:=h;obtain⟨hl,e⟩:=hm ps r e;have R:=qF (E:=E) (N:=N) (n:=n) s rp (by rw[rp.1,hl];exact hk)
 have up:∀ {F' H':Hp},bf F F'->RB ⟨λ_=>False,True,H,F,E⟩ F' H'->Up F H F' H':=λs' rb=>⟨s',λc o q=>rb.keep c o q id,rb.new,rb.sub⟩;have M:=hS (λ_=>False) H F (λ_ h=>h);cases ho:b (startR ps n) with
 |none=>rw[ho] at e;cases e
 |some o=>
  rw[ho] at e;refine M F H _ _ _ o R ho ?_;cases o with
  |ro p=>cases e;exact λa F' H' s' rb w n1 n2=>P a F' H' (up s' rb) n2 n1 w
  |rd p=>cases e
  |ex z=>cases e;exact λev d F' H' s' rb x=>P ev d F' H' (up s' rb) x
  |nx ρ=>cases e
  |rt p=>cases e
  |bk ρ=>cases e
  |ct ρ=>cases e
variable{C:Cg}{ta:TA}{f:Fn (List PV)}
theorem qG(h:MA K C ta f):MJ K C (aF K) (pL (spM K XR0 m) [] E0 ta) (bJ m f):=by
 intro F H σ ρ Q r R e P;refine h.run R e P λl xs F1 H1 hk u a=>?_;refine⟨l,F1,r,u.fh,by rw[Zav];exact a,hk,?_⟩
 cases r with
 |ok p=>exact λv F' H' u' rv=>P v F' H' (u.trans u') rv
 |ex z=>exact λe d F' H' u' x=>x.elim
theorem Nh(h:MA K C ta f):MO K C (pL (spO K XR0 m) [] E0 ta) (bJ m f):=by
 intro F H σ ρ Q r R e P;refine h.run R e P λl xs F1 H1 hk u a=>?_;refine⟨l,F1,r,u.fh,by rw[Zav];exact a,hk,?_⟩
 cases r with
 |ok p=>exact λv F' H' u' n1 n2 rv=>P v F' H' (u.trans u') (u.hh.free n1) n2 rv
 |ex z=>exact λe d F' H' u' x=>x.elim
theorem J1(h:MAL K C ta f):MJ K C (aF K) (pL (spM K XR0 m) [] E0 ta) (zU m f):=by
 intro F H σ ρ Q r R e P;refine h.run R e P λl xs F1 H1 hk u a=>?_;split at hk
 ·rename_i p hp;split at hk
  ·rename_i hf;cases hk;refine⟨l,H1,.ok p,bf.refl _,by rw[Zav];exact a,hp,λv F' H' u' rv=>?_⟩
   exact P v F1 H' (u.trans ⟨bf.refl _,u'.hh,λ_ _ q=>.inl q,u.fh.trans u'.hh⟩) (Rep.free rv hf)
  ·cases hk
 ·cases hk
end
section
variable{P:Program}{w:World}{K:PySem.W.Frag}{mg:Str->Option Value}{base:Heap}
theorem aZ.okX{x:Str}{st:Stmt}{ps N:List Str}{k:Nat}{sp:Sp}(D:aZ K mg x st ps)(S:bw N ps (aG st))(len:∀ vs H Q E,sp vs H Q E->vs.length=ps.length)
  (hbody:∀ (f:Addr) (cdv:Value) (A:Around) (outer:List Env) (s:Shared) (H:Hp) (vs:List V) (Q:VK) (E:XK),fD k (A.deeper (envOfC x (aG st) s.heap.objs.size f cdv))->sp vs H Q E ->
   ∃ t,PSs (cxX P w K mg base N x (aG st) f cdv A outer s H E) (bh st) t/\t { nx:=λ_ H'=>Q .non H',rt:=Q } (start N vs) H):xf P w K mg base x (k+1) ps sp:=by
 obtain⟨f,fd,e,F,b⟩:=D.ex;obtain⟨oc,od,kV,doc,pm,an,cdv,ct,osl,rfl,lk,hcd⟩:=F.ex;refine⟨f,_,e,F.kp,b,RZ lk hcd S len λA outer s H vs Q E hr hsp=>?_⟩;obtain⟨t,h,q⟩:=hbody f cdv A outer s H vs Q E hr hsp;exact⟨t,PSs.ofX (λe s' z=>leaves z) h,q⟩
end
section
variable{X:Cx}{k:Nat}{ps:List Str}{sp:Sp}{x:Str}{p pos:Pos}{e:Expr}{es:List Expr}{t:TA}{E:XK}
theorem Ni(hx:uJ (CXS X.prog X.w) X E)(G:xf X.prog X.w X.K X.mg X.base x k ps sp)(hr:fD k X.A)(hg:Gl X x)(ha:PA X (e::es) t)(hdb:(x==("__debug__":Str))=false:=by decide)
  (he:starEach (e::es) X.env=(false,eval e X.env)::starEach es X.env:=by rfl)(hpl:(backTo pos (starEach es X.env)).any (·.1)=false:=by rfl):PE X (.Call (.Name x p) (e::es) [] pos) (pL sp [] E t):=by
 obtain⟨f,fd,e1,e2,e3,e4⟩:=G;exact Hv e4 hr hg e1 e2 e3 .nil hx ha hdb he hpl
end
open PySem PySem.Spec PyProof.Rows PySem.Calls PySem.W Builtin Builtin.ObjectAttr
theorem Nj{prog:Program}{w:World}{A:Around}{E:Value->Shared->Prop}{s:Shared}{K:Frag}{x C:Addr}{ox:Obj}{od:Option Obj}{name:Str}{expr:Bool}{Q:Value->Shared->Prop}{v:Value}(X:K.In s.heap)(I:InstAt s.heap x ox C od)(hga:findIn K (.ref C) "__getattribute__"=some (some (.builtin "BaseException.__getattribute__")))
  (hgn:findIn K (.ref C) "__getattr__"=some none)(hb:subIn K (.ref C) (.type "BaseException")=some true)
  (hf:findObj K C od name=some (.value v))(hh:handedIn v=true)(h:Q v { s with toks:=s.toks+1 }):wpAny (model prog w) A (getAttr (.ref x) name expr) Q E s:=by
 obtain⟨hp,g,d,t,os⟩:=s;have L0:=I.type (M:=model prog w);have L1:=looks_findIn (M:=model prog w) X hga;have L2:=looks_findIn (M:=model prog w) X hgn;have L3:=looks_find (M:=model prog w) X I hf;have LB:Looks (model prog w) hp (isInstance (.ref x) (.type "BaseException")) true:=L0.andThen (looks_subIn X hb);have f3:=Zbi.ga.bind (.ref x);have hx0:(expr&&onTheHeap (Value.builtin "BaseException.__getattribute__"))=false:=by cases expr<;>rfl
 have hx2:(Value.builtin "BaseException.__getattribute__"==Value.builtin "object.__getattribute__")=false:=by decide +kernel
 have hx1:(onTheHeap (Value.ref C)&&Value.builtin "BaseException.__getattribute__"==Value.builtin "object.__getattribute__")=false:=by rw[hx2];rfl
 unfold getAttr getAttrBy;refine Zae (wpAny_mkText (wpAny_holding (Zae (L0.at (Zae (L1.at ?_))))));dsimp only;repeat (any_goals (first|assumption|with_reducible refine L2.at ?_|wp_step))
 have ha:argsOk "BaseException.__getattribute__" ⟨[.ref x,.str name t],[]⟩:=by unfold argsOk;kernel_rfl
 refine codeAny_call_builtin Zbi.ga.plain PySem.F.entry_bexc_ga (check_slot (i:="BaseException.__getattribute__") (owner:="BaseException") (n:="__getattribute__") (by decide +kernel) (by decide +kernel) LB ha ?_)
 unfold Builtin.«object.__getattribute__»;repeat (any_goals (first|assumption|with_reducible refine L0.at ?_|with_reducible refine L3.at ?_|wp_step))
 show wpAny _ _ (handedOut v) _ _ _
 rw[handedOut_of hh];exact Zaq h
theorem Gs{prog:Program}{w:World}{A:Around}{E:Value->Shared->Prop}{s:Shared}{K:Frag}{x C:Addr}{ox:Obj}{od:Option Obj}{Q:Option Value->Shared->Prop}(X:K.In s.heap)(I:InstAt s.heap x ox C od)(hga:findIn K (.ref C) "__getattribute__"=some (some (.builtin "BaseException.__getattribute__")))
  (hgn:findIn K (.ref C) "__getattr__"=some none)(hb:subIn K (.ref C) (.type "BaseException")=some true)
  (hf:findObj K C od "__class__"=some (.bind (.builtin "getset_descriptor.__get__") (.builtin "object.__class__")))(hm:mroIn K C (.type "object")=some true)
  (h:Q (some (.ref C)) { s with toks:=s.toks+1 }):wpAny (model prog w) A (getAttr? (.ref x) "__class__") Q E s:=by
 obtain⟨hp,g,d,t,os⟩:=s;have L0:=I.type (M:=model prog w);have L1:=looks_findIn (M:=model prog w) X hga;have L2:=looks_findIn (M:=model prog w) X hgn;have L3:=looks_find (M:=model prog w) X I hf;have LB:Looks (model prog w) hp (isInstance (.ref x) (.type "BaseException")) true:=L0.andThen (looks_subIn X hb);have f3:=Zbi.ga.bind (.ref x);have hx2:(Value.builtin "BaseException.__getattribute__"==Value.builtin "object.__getattribute__")=false:=by decide +kernel
 have hx1:(onTheHeap (Value.ref C)&&Value.builtin "BaseException.__getattribute__"==Value.builtin "object.__getattribute__")=false:=by rw[hx2];rfl
 unfold getAttr? getAttrBy?;repeat (any_goals (first|assumption|with_reducible refine L0.at ?_|with_reducible refine L1.at ?_|with_reducible refine L2.at ?_|wp_step))
 have ha:argsOk "BaseException.__getattribute__" ⟨[.ref x,.str "__class__" t],[]⟩:=by unfold argsOk;kernel_rfl
 refine codeAny_call_builtin Zbi.ga.plain PySem.F.entry_bexc_ga (check_slot (i:="BaseException.__getattribute__") (owner:="BaseException") (n:="__getattribute__") (by decide +kernel) (by decide +kernel) LB ha ?_)
 unfold Builtin.«object.__getattribute__»;repeat (any_goals (first|assumption|with_reducible refine L0.at ?_|with_reducible refine L3.at ?_|wp_step))
 refine class_get (ox:=ox) (od:=od) X I hm ?_;repeat (any_goals (first|assumption|wp_step))
structure XI(K:Frag)(C:Addr):Prop where
 ga:findIn K (.ref C) "__getattribute__"=some (some (.builtin "BaseException.__getattribute__"))
 gn:findIn K (.ref C) "__getattr__"=some none
 be:subIn K (.ref C) (.type "BaseException")=some true
 hd:hasDictIn K C=true
 cl:findIn K (.ref C) "__class__"=some (some (.builtin "object.__class__"))
 sp:specialIn K (.builtin "object.__class__") "__get__"=some (some (.builtin "getset_descriptor.__get__"))
 tk:takesIn K (.builtin "object.__class__")=some true
 ob:mroIn K C (.type "object")=some true
theorem Dq{K:Frag}{x D:Addr}{ox od:Obj}(Y:XI K D):KitX K (.ref x) (.ref D) (λh=>InstAt h x ox D (some od)) where
 ty:=λ_ _ _ I=>I.type
 it:=λ_ _ X _=>by
  obtain⟨cdD,hcD,_⟩:=any_some Y.hd;unfold clsIn at hcD;split at hcD
  ·rename_i c' d' cd' sl' ho;intro A' Q' E' s' k q;unfold isType loadHead;exact Zae (wpAny_loadPart (k _ _ (X _ _ ho)) (Zaq q))
  ·cases hcD
 ne:=λh tp dd its n sl X htp=>by
  obtain⟨cdD,hcD,_⟩:=any_some Y.hd;refine Bool.eq_false_iff.mpr λq=>?_;have e:D=tp:=ZaP (beq_iff_eq.mp q);subst e;unfold clsIn at hcD;split at hcD
  ·rename_i c' d' cd' sl' ho;have z:=(X _ _ ho).symm.trans htp;cases z
  ·cases hcD
 ca:=λX I k=>Gs X I Y.ga Y.gn Y.be (findObj_data (by obtain⟨cd,hc,_⟩:=any_some Y.hd;rw[hc];rfl) Y.cl Y.sp Y.tk) Y.ob k
structure KCl(K:Frag)(T:Addr):Prop where
 cls:∃ oc od cd sl,K.lookup T=some ⟨oc,od,.cls cd,sl⟩
 ty:typeIn K (.ref T)=some (.type "type")
theorem bC{K:Frag}{t:Value}{T:Addr}{b:Bool}(Y:KCl K T)(hs:subIn K t (.ref T)=some b)(hb:t=.ref T->b=true):kitOne K t (.ref T)=some b:=by
 unfold kitOne;split
 ·rename_i e;rw[hb (beq_iff_eq.mp e)]
 ·obtain⟨oc,od,cd,sl,hl⟩:=Y.cls;unfold kitCls;dsimp only;rw[Zao (by unfold clsIn;rw[hl,Y.ty];rfl)]
  exact hs
theorem J3{K:Frag}{C:Addr}{T:String}{b:Bool}(hm:kitMeta T=true)(hs:subIn K (.ref C) (.type T)=some b):kitOne K (.ref C) (.type T)=some b:=by
 unfold kitOne;rw[Zal (by simp)]
 unfold kitCls;dsimp only;rw[Zao hm];exact hs
theorem oW{K:Frag}{t:Value}:kitAny K t []=some false:=rfl
theorem bM{K:Frag}{t c:Value}{r:List Value}{b:Bool}(h:kitOne K t c=some false)(hr:kitAny K t r=some b):kitAny K t (c::r)=some b:=by
 unfold kitAny;rw[h];exact hr
def Uz(K:PySem.W.Frag)(T:V)(Tv:Value):List V->Hp->VK->Prop:=λxs H Q=>∃ x b,xs=[x,T]/\((∃ a C dx fs,x=.ref a/\H a=some (XO a C (some dx))/\H dx=some (.xd fs)/\XI K C/\PySem.W.kitOne K (.ref C) Tv=some b) \/
 (x=.non/\PySem.W.kitOne K (.type "NoneType") Tv=some b))/\Q (.bl b) H
def Nk(K:PySem.W.Frag)(Ts:List Addr):List V->Hp->VK->Prop:=λxs H Q=>∃ x tp b,xs=[x,.ref tp]/\SqT K H tp (Ts.map V.ref)/\((∃ a C dx fs,x=.ref a/\H a=some (XO a C (some dx))/\H dx=some (.xd fs)/\XI K C/\PySem.W.kitAny K (.ref C) (Ts.map Value.ref)=some b) \/
 (x=.non/\PySem.W.kitAny K (.type "NoneType") (Ts.map Value.ref)=some b))/\Q (.bl b) H
section
variable{X:Cx}{pins:List (Addr×Obj)}{σ:St}{H:Hp}{s:Shared}
theorem XO.inst(I:Inv X pins σ H s){a C dx:Addr}{fs:List (Str×V)}(h:H a=some (XO a C (some dx)))(hd:H dx=some (.xd fs)):∃ ox od mA,PySem.W.InstAt s.heap a ox C (some od)/\s.heap.Ns1 dx mA/\(∀ f,vy (fs.lookup f) (mA f)) /\
  ∃ vs:Array Value,s.heap.get? a=some { cls:=.ref C,dict:=some dx,data:=.fields vs }:=by
 obtain⟨vs,e⟩:=XO.at I h;obtain⟨mA,n,r⟩:=I.hok _ _ hd;obtain⟨od,ho,hl⟩:=yC n;exact⟨_,od,mA,⟨e,rfl,rfl,ho⟩,n,r,vs,e⟩
theorem Dr{T:V}{Tv:Value}(hT:RelV T Tv)(hu:∀ u,RelV T u->u=Tv):pK X (.builtin "isinstance") (Uz X.K T Tv):=by
 intro pins s σ H xs us Q I rv h;obtain⟨x,b,rfl,h,q⟩:=h;obtain⟨u,v,rfl,ru,rv'⟩:=rv.two;obtain rfl:=hu v rv';have fin:∀ tk,EP X pins σ Q (.bool b) { s with toks:=tk }:=λtk=>⟨.bl b,H,I.tok _,rfl,q⟩;rcases h with⟨a,C,dx,fs,rfl,ha,hd,Y,e⟩|⟨rfl,e⟩
 ·cases ru;obtain⟨ox,od,mA,J,_⟩:=XO.inst I ha hd;exact ZaY (Dq Y) I.kIn J e (λz=>nomatch z) fin
 ·cases ru;exact ZaY PySem.W.kitx_none I.kIn True.intro e (λz=>nomatch z) fin
theorem yX:∀ {Ts:List Addr}{us:List Value},Vals (Ts.map V.ref) us->us=Ts.map Value.ref
 |[],us,h=>by cases h;rfl
 |t::Ts,us,h=>by
  cases h with
  |cons r t=>cases r;rw[yX t];rfl
theorem yZ{Ts:List Addr}:pK X (.builtin "isinstance") (Nk X.K Ts):=by
 intro pins s σ H xs us Q I rv h;obtain⟨x,tp,b,rfl,hs,h,q⟩:=h;obtain⟨u,v,rfl,ru,rv'⟩:=rv.two;cases rv';have fin:∀ tk,EP X pins σ Q (.bool b) { s with toks:=tk }:=λtk=>⟨.bl b,H,I.tok _,rfl,q⟩;obtain⟨its,r,⟨⟨oc,dd,dt,sl⟩,e1,e2,n,e3⟩,_⟩:=I.tuple hs;cases e2;cases e3;obtain rfl:=yX r;rcases h with⟨a,C,dx,fs,rfl,ha,hd,Y,e⟩|⟨rfl,e⟩
 ·cases ru;obtain⟨ox,od,mA,J,_⟩:=XO.inst I ha hd;exact PySem.W.kia_tup (Dq Y) I.kIn J e1 e (λz=>nomatch z) fin
 ·cases ru;exact PySem.W.kia_tup PySem.W.kitx_none I.kIn True.intro e1 e (λz=>nomatch z) fin
def Nm(K:PySem.W.Frag)(te:TE)(f:Str):TE:=λσ H Q=>te σ H λx H1=>∃ a C dx fs v,x=.ref a/\H1 a=some (XO a C (some dx))/\H1 dx=some (.xd fs)/\XI K C/\PySem.W.findIn K (.ref C) f=some none/\fs.lookup f=some v/\Q v H1
theorem QQ{e:Expr}{te:TE}{f:Str}{pos:Pos}(he:PE X e te)(hb:attributeBase e f X.env (eval e X.env)=eval e X.env):PE X (.Attribute e f pos) (Nm X.K te f):=by
 intro pins s σ H Q I h;refine Pn hb (thn (he pins s σ H _ I h) ?_);rintro u s1 ⟨x,H1,I1,rx,a,C,dx,fs,v,ex,ea,ed,Y,n,l,q⟩;subst ex;obtain rfl:u=Value.ref a:=rx;obtain⟨ox,od,mA,J,n1,r,vs,hx⟩:=XO.inst I1 ea ed;have rf:=r f;rw[l] at rf;cases hv:mA f with
 |none=>rw[hv] at rf;exact rf.elim
 |some u'=>
  rw[hv] at rf;have rf:RelV v u':=rf;obtain⟨od2,ho2,hl2⟩:=yC n1;have J2:PySem.W.InstAt s1.heap a _ C (some od2):=⟨hx,rfl,rfl,ho2⟩;exact Nj I1.kIn J2 Y.ga Y.gn Y.be (PySem.W.findObj_own Y.hd n rfl (by rw[hl2,hv])) (Jt rf) ⟨v,H1,I1.tok _,rf,q⟩
end
section
variable{K:PySem.W.Frag}{C:Cg}{te:TE}{f:Fn PV}
def Ds(sub:Str->Option Bool)(no:Bool)(f:Fn PV):Fn PV:=λρ=>bnd (f ρ) λp=>match p with
 |.exc c (_::_)=>(sub c).map λb=>.ok (.bl b)
 |.non=>some (.ok (.bl no))
 |_=>none
theorem Rep.Ad{F:Hp}{v:V}{c:Str}{x:Str×PV}{l:List (Str×PV)}(h:Rep K F v (.exc c (x::l))):∃ a Ca dx xs,v=.ref a/\XNm K Ca c/\F a=some (XO a Ca (some dx))/\F dx=some (.xd xs)/\xs.map (·.1)=(x::l).map (·.1)/\∀ (j:Nat) y p,xs[j]?=some y->(x::l)[j]?=some p->Rep K F y.2 p.2:=by
 generalize hq:PV.exc c (x::l)=q at h
 cases h with
 |exc nm h1 h2 h3 h4=>cases hq;exact⟨_,_,_,_,rfl,nm,h1,h2,h3,h4⟩
 |exc0 nm h1=>cases hq
 |_=>cases hq
def UG(K:PySem.W.Frag)(c:Str)(Tv:Value)(b:Bool):Prop:=∃ Ca,nsIn K mainGlobals c=some (some (.ref Ca))/\XI K Ca/\PySem.W.kitOne K (.ref Ca) Tv=some b
def Np(K:PySem.W.Frag)(c:Str)(Ts:List Addr)(b:Bool):Prop:=∃ Ca,nsIn K mainGlobals c=some (some (.ref Ca))/\XI K Ca/\PySem.W.kitAny K (.ref Ca) (Ts.map Value.ref)=some b
theorem Nq{T:V}{Tv:Value}{sub:Str->Option Bool}{no:Bool}(hs:∀ c b,sub c=some b->UG K c Tv b)(hno:PySem.W.kitOne K (.type "NoneType") Tv=some no)(h:MJ K C (aH K) te f) :
  MJ K C (aF K) (tCB (Uz K T Tv) (lH te (lH (tC T) ye))) (Ds sub no f):=by
 intro F H σ ρ Q r R e P;refine h.run R e P λp v F1 H1 hk u a=>?_;show Uz K T Tv [v,T] H1 Q
 split at hk
 ·rename_i c x l;obtain⟨b,hb,rfl⟩:=Option.map_eq_some_iff.mp hk;obtain⟨Ca,n1,Y,k⟩:=hs c b hb;obtain⟨a',Ca',dx,xs,rfl,nm,h1,h2,_,_⟩:=Rep.Ad a;rw[nm.ns] at n1;cases n1;exact⟨_,b,rfl,.inl ⟨a',Ca,dx,xs,rfl,h1,h2,Y,k⟩,P _ F1 H1 u .bl⟩
 ·cases hk;cases a;exact⟨_,no,rfl,.inr ⟨rfl,hno⟩,P _ F1 H1 u .bl⟩
 ·cases hk
theorem Im{Ts:List Addr}{tt:TA}{sub:Str->Option Bool}{no:Bool}(hs:∀ c b,sub c=some b->Np K c Ts b)(hno:PySem.W.kitAny K (.type "NoneType") (Ts.map Value.ref)=some no)(hz:Ts.length<=sizeLine)
  (ht:∀ σ H QA,QA (Ts.map V.ref) H->tt σ H QA)(h:MJ K C (aH K) te f) :
  MJ K C (aF K) (tCB (Nk K Ts) (lH te (lH (Tu tt) ye))) (Ds sub no f):=by
 intro F H σ ρ Q r R e P;refine h.run R e P λp v F1 H1 hk u a=>?_;refine ht _ _ _ ⟨by simpa using hz,λtp htp=>?_⟩
 have u2:Up F1 H1 F1 (upd H1 tp (.tup (Ts.map V.ref))):=Up.CJ u.fh htp;have ut:=u.trans u2;show Nk K Ts [v,.ref tp] _ Q
 have hs':SqT K (upd H1 tp (.tup (Ts.map V.ref))) tp (Ts.map V.ref):=SqT.of aX;split at hk
 ·rename_i c x l;obtain⟨b,hb,rfl⟩:=Option.map_eq_some_iff.mp hk;obtain⟨Ca,n1,Y,k⟩:=hs c b hb;obtain⟨a',Ca',dx,xs,rfl,nm,h1,h2,_,_⟩:=Rep.Ad a;rw[nm.ns] at n1;cases n1;exact⟨_,tp,b,rfl,hs',.inl ⟨a',Ca,dx,xs,rfl,u2.hh _ _ h1,u2.hh _ _ h2,Y,k⟩,P _ F1 _ ut .bl⟩
 ·cases hk;cases a;exact⟨_,tp,no,rfl,hs',.inr ⟨rfl,hno⟩,P _ F1 _ ut .bl⟩
 ·cases hk
def za(names:Str->Bool)(g:Str)(f:Fn PV):Fn PV:=λρ=>bnd (f ρ) λp=>match p with
 |.exc c (x::l)=>if names c=true then((x::l).lookup g).map .ok else none
 |_=>none
theorem uh{K:PySem.W.Frag}{F:Hp}{g:Str}:∀ {xs:List (Str×V)}{l:List (Str×PV)}{p:PV},xs.map (·.1)=l.map (·.1)->(∀ (j:Nat) y q,xs[j]?=some y->l[j]?=some q->Rep K F y.2 q.2)->l.lookup g=some p->∃ v,xs.lookup g=some v/\Rep K F v p
 |[],[],_,_,_,h=>by simp at h
 |[],_::_,_,h,_,_=>by simp at h
 |_::_,[],_,h,_,_=>by simp at h
 |(k,v)::xs,(k',q)::l,p,h,r,e=>by
  simp only[Zay,Zbm] at h;obtain⟨rfl,h⟩:=h;have r0:=r 0 (k,v) (k,q) rfl rfl;by_cases hg:(g==k)=true
  ·simp only[List.lookup,hg] at e ⊢;cases e;exact⟨v,rfl,r0⟩
  ·rw[Bool.not_eq_true] at hg;simp only[List.lookup,hg] at e ⊢;exact uh h (λj y q a b=>r (j+1) y q (by simpa using a) (by simpa using b)) e
theorem Ae{names:Str->Bool}{g:Str}(hs:∀ c,names c=true->∃ Ca,nsIn K mainGlobals c=some (some (.ref Ca))/\XI K Ca/\PySem.W.findIn K (.ref Ca) g=some none)(h:MJ K C (aF K) te f):MJ K C (aF K) (Nm K te g) (za names g f):=by
 intro F H σ ρ Q r R e P;refine h.run R e P λp v F1 H1 hk u a=>?_;split at hk
 ·rename_i c x l;split at hk
  ·rename_i hc;obtain⟨p,hp,rfl⟩:=Option.map_eq_some_iff.mp hk;obtain⟨Ca,n1,Y,k⟩:=hs c hc;obtain⟨a',Ca',dx,xs,rfl,nm,h1,h2,h3,h4⟩:=Rep.Ad a;rw[nm.ns] at n1;cases n1;obtain⟨v,hv,rv⟩:=uh h3 h4 hp;exact⟨a',Ca,dx,xs,v,rfl,u.fh _ _ h1,u.fh _ _ h2,Y,k,hv,P v F1 H1 u rv⟩
  ·cases hk
 ·cases hk
end
section
variable{X:Cx}{x:Str}{T:Addr}{pos:Pos}
theorem lO(hg:Gl X x)(h:X.mg x=some (.ref T))(hd:(x==("__debug__":Str))=false:=by decide):PE X (.Name x pos) (tC (.ref T)):=Ht hg h rfl hd
end
theorem UJ{K:PySem.W.Frag}{C f:Addr}{dd:Option Addr}{cd:ClassData}{k0 k1 k2 k3 k5:Option Value}{bm:List Value}
  (l:K.lookup C=some ⟨.type "type",dd,.cls cd,#[k0,k1,k2,k3,some (.builtin "ValueError.__new__"),k5]⟩)(h1:cd.hasDel=false)(h2:cd.hasDict=true)(h3:cd.mro=.ref C::bm)(h4:jh bm=true)
  (sa:PySem.W.findIn K (.ref C) "__setattr__"=some (some (.builtin "object.__setattr__")))(init:PySem.W.findIn K (.ref C) "__init__"=some (some (.ref f)))(fn:PySem.W.typeIn K (.ref f)=some (.type "function"))(kp:keepIn K (.ref C)=true):XMk K C f cd:=by
 refine⟨⟨?_,by rw[h3];exact h4,h2,sa⟩,?_,init,fn,kp⟩
 ·unfold PySem.W.clsIn;rw[l]
 ·obtain⟨nm,bs,mro,ns,q,hd,sn,sub,ab,col,hdel⟩:=cd;dsimp only at h1 h2 h3;subst h1 h2 h3;exact⟨nm,q,ns,bs,bm,sn,sub,ab,col,dd,k0,k1,k2,k3,k5,l,rfl⟩
theorem UL{K:PySem.W.Frag}{C:Addr}{c:Str}{oc:Value}{dd:Option Addr}{cd:ClassData}{sl:Array (Option Value)}(n:nsIn K mainGlobals c=some (some (.ref C)))(l:K.lookup C=some ⟨oc,dd,.cls cd,sl⟩)(h:cd.name=c):XNm K C c:=
 ⟨n,cd,by unfold PySem.W.clsIn;rw[l],h⟩
section
variable{P:Program}{w:World}{K:PySem.W.Frag}{mg:Str->Option Value}{base:Heap}
theorem zb{N:List Str}{x:Str}{sc:Scope}{f:Addr}{cdv:Value}{A:Around}{outer:List Env}{s0:Shared}{H0:Hp}{E:XK} :
  ∀ (pins:List (Addr×Obj)) (σ:St) (H:Hp) (s:Shared) (e:Addr) (C:Value) (d:Option Addr),Inv (cxX P w K mg base N x sc f cdv A outer s0 H0 E) pins σ H s->Fly (cxX P w K mg base N x sc f cdv A outer s0 H0 E) pins H s.heap e C d->E C d H ->
   (cxX P w K mg base N x sc f cdv A outer s0 H0 E).xe (.ref e) s:=
 λpins σ H s e C d I fl h=>⟨pins,σ,e,C,d,H,rfl,I.jJ,⟨⟨fl.own.sz,fl.own.loc,fl.own.cl,fl.own.pn⟩,fl.nh,let⟨oe,vs,a1,a2,a3,a4,a5,a6,a7⟩:=fl.ob;⟨oe,vs,a1,a2,a3,a4,a5,a6,a7.imp id λ⟨T,oT,ts,b1,b2,b3,b4⟩=>⟨T,oT,ts,b1,b2,⟨b3.sz,b3.loc,b3.cl,b3.pn⟩,b4⟩⟩⟩,h⟩
end
structure QR(K:PySem.W.Frag)(mg:Str->Option Value)(c:Str)(fs:List Str)(C:Addr):Prop where
 ex:∃ f cd fd ps,XMk K C f cd/\Binds K fd ps []/\∀ (P:Program) (w:World) (base:Heap),sV P w K mg base CX0 1 f fd ps (spI C fs)
 nm:XNm K C c
 xi:XI K C
 mg:mg c=some (.ref C)
 fl:∀ f∈fs,PySem.W.findIn K (.ref C) f=some none
section
variable{X:Cx}{c:Str}{fs:List Str}{C:Addr}{p pos rpos:Pos}{e:Expr}{es:List Expr}{t:TA}{E:XK}{k:Nat}
theorem zc(U:QR X.K X.mg c fs C)(hr:fD (k+2) X.A)(hg:Gl X c)
  (hx:∀ (pins:List (Addr×Obj)) (σ:St) (H:Hp) (s:Shared) (e:Addr) (C:Value) (d:Option Addr),Inv X pins σ H s->Fly X pins H s.heap e C d->E C d H->X.xe (.ref e) s)
  (ha:PA X (e::es) t)(hdb:(c==("__debug__":Str))=false:=by decide)(he:starEach (e::es) X.env=(false,eval e X.env)::starEach es X.env:=by rfl)(hpl:(backTo pos (starEach es X.env)).any (·.1)=false:=by rfl) :
  PS X (.Raise (some (.Call (.Name c p) (e::es) [] pos)) none rpos) (vU C (spI C fs) E t):=by
 obtain⟨f,cd,fd,ps,Y,hb,F⟩:=U.ex;exact JW Y (F _ _ _) (hr.mono (by omega)) hg U.mg hb hr.hd hx ha hdb he hpl
theorem zf{K:PySem.W.Frag}{mg:Str->Option Value}{C:Addr}{Cg':Cg}{f:Fn (List PV)}(hX:Cg'.XR=XRS K)(U:QR K mg c fs C)(hz:fs.length<=1000)(h:MA K Cg' t f):MS K Cg' (vU C (spI C fs) Cg'.E t) (uU c fs f):=
 Nf hX U.nm (by rw[sizeLine_eq];omega) h
theorem xg(K:PySem.W.Frag){f:Str}{te:TE}(hK:X.K=K)(he:PE X e te)(hb:attributeBase e f X.env (eval e X.env)=eval e X.env):PE X (.Attribute e f pos) (Nm K te f):=hK▸QQ he hb
end
open PySem PySem.Spec PyProof PyProof.Rows
section
variable{K:PySem.W.Frag}{C:Cg}{ta:TA}
theorem Nr{fe:Fn (List PV)}{m:List PV->Option (Res PV)}(h:MA K C ta fe):MD K C (pL (spD K XR0 m) [] E0 ta) (bJ m fe):=by
 intro F H σ ρ Q r R e P;refine h.run R e P λl xs F1 H1 hk u a=>?_;refine⟨l,F1,r,u.fh,by rw[Zav];exact a,hk,?_⟩
 cases r with
 |ok p=>exact λv F' H' S u' d n=>P v F' H' S (u.trans u') d λb q=>⟨u.hh.free (n b q).1,(n b q).2⟩
 |ex z=>exact λe d F' H' u' x=>x.elim
end
end L2.MP
namespace MM
open PySem PySem.Spec PyProof.Rows L2 L2.MP
def Tv{α:Type}(x:Option (Res α))(Q:α->Prop):Prop:=∃ a,x=some (.ok a)/\Q a
def Out.calm:Out->Prop
 |.ex _=>False
 |_=>True
def To(x:Option Out)(Q:Out->Prop):Prop:=∃ o,x=some o/\Out.calm o/\Q o
def ym(k:Rho->Prop)(Q:Out->Prop):Out->Prop
 |.nx ρ=>k ρ
 |o=>Q o
section
variable{α β γ:Type}{Q:α->Prop}{QS:Out->Prop}{k:β->Prop}{f:Fn PV}{g h:Fn PV}{ρ:Rho}{a:β}{z p:PV}{i:Nat}{s t:Sn}
theorem onNx_nx{k:Rho->Prop}:ym k QS (.nx ρ)=k ρ:=rfl
theorem onNx_rt{k:Rho->Prop}:ym k QS (.rt p)=QS (.rt p):=rfl
theorem onNx_ro{k:Rho->Prop}:ym k QS (.ro p)=QS (.ro p):=rfl
theorem onNx_rd{k:Rho->Prop}:ym k QS (.rd p)=QS (.rd p):=rfl
theorem onNx_bk{k:Rho->Prop}:ym k QS (.bk ρ)=QS (.bk ρ):=rfl
theorem onNx_ct{k:Rho->Prop}:ym k QS (.ct ρ)=QS (.ct ρ):=rfl
theorem tv_some{a:α}:Tv (some (.ok a)) Q=Q a:=by
 refine propext ⟨?_,λq=>⟨a,rfl,q⟩⟩;rintro⟨r',e,q⟩;cases e;exact q
theorem to_nx:To (some (.nx ρ)) QS=QS (.nx ρ):=propext ⟨λ⟨_,e,_,q⟩=>by cases e;exact q,λq=>⟨_,rfl,trivial,q⟩⟩
theorem to_rt:To (some (.rt p)) QS=QS (.rt p):=propext ⟨λ⟨_,e,_,q⟩=>by cases e;exact q,λq=>⟨_,rfl,trivial,q⟩⟩
theorem to_ro:To (some (.ro p)) QS=QS (.ro p):=propext ⟨λ⟨_,e,_,q⟩=>by cases e;exact q,λq=>⟨_,rfl,trivial,q⟩⟩
theorem to_rd:To (some (.rd p)) QS=QS (.rd p):=propext ⟨λ⟨_,e,_,q⟩=>by cases e;exact q,λq=>⟨_,rfl,trivial,q⟩⟩
theorem to_bk:To (some (.bk ρ)) QS=QS (.bk ρ):=propext ⟨λ⟨_,e,_,q⟩=>by cases e;exact q,λq=>⟨_,rfl,trivial,q⟩⟩
theorem to_ct:To (some (.ct ρ)) QS=QS (.ct ρ):=propext ⟨λ⟨_,e,_,q⟩=>by cases e;exact q,λq=>⟨_,rfl,trivial,q⟩⟩
theorem tv_bnd{x:Option (Res β)}{kk:β->Option (Res α)}:Tv (bnd x kk) Q=Tv x (λb=>Tv (kk b) Q):=by
 refine propext ⟨?_,?_⟩
 ·rintro⟨r,e,q⟩;rcases cV e with⟨z,e1,e2⟩|⟨b,e1,e2⟩
  ·cases e2
  ·exact⟨_,e1,r,e2,q⟩
 ·rintro⟨b,e,q⟩;subst e;exact q
theorem to_bnd{x:Option (Res β)}{kk:β->Option Out}:To (mR x kk) QS=Tv x (λb=>To (kk b) QS):=by
 refine propext ⟨?_,?_⟩
 ·rintro⟨r,e,c,q⟩;rcases gk e with⟨z,e1,rfl⟩|⟨b,e1,e2⟩
  ·exact c.elim
  ·exact⟨_,e1,r,e2,c,q⟩
 ·rintro⟨b,e,q⟩;subst e;exact q
theorem to_seq:To (bB s t ρ) QS=To (s ρ) (ym (λρ'=>To (t ρ') QS) QS):=by
 refine propext ⟨?_,?_⟩
 ·rintro⟨r,e,c,q⟩;unfold bB at e;split at e
  ·rename_i ρ' h;exact⟨_,h,trivial,r,e,c,q⟩
  ·rename_i x hx;refine⟨r,e,c,?_⟩;cases r with
   |nx ρ'=>exact absurd e (hx ρ')
   |_=>exact q
 ·rintro⟨o,e,c,q⟩;unfold bB To;rw[e];cases o with
  |nx ρ'=>exact q
  |_=>exact⟨_,rfl,c,q⟩
theorem j4:Tv (none:Option (Res α)) Q=False:=propext ⟨λ⟨_,e,_⟩=>(nomatch e),λh=>h.elim⟩
theorem Io:To none QS=False:=propext ⟨λ⟨_,e,_⟩=>(nomatch e),λh=>h.elim⟩
theorem tv_m2{op:β->γ->Option (Res α)}{f:Fn β}{g:Fn γ}:Tv (m2 op f g ρ) Q=Tv (f ρ) (λa=>Tv (g ρ) (λb=>Tv (op a b) Q)):=by
 unfold m2;simp only[tv_bnd]
theorem tv_m1{op:β->Option (Res α)}{f:Fn β}:Tv (m1 op f ρ) Q=Tv (f ρ) (λa=>Tv (op a) Q):=by unfold m1;rw[tv_bnd]
theorem tv_var{Q:PV->Prop}:Tv (mV i ρ) Q=∃ p,ρ[i]?=some (some (.sh p))/\Q p:=by
 refine propext ⟨?_,λ⟨p,e,q⟩=>⟨_,by unfold mV;rw[e],q⟩⟩
 rintro⟨r,e,q⟩;unfold mV at e;split at e
 ·rename_i p hp;cases e;exact⟨_,hp,q⟩
 ·cases e
theorem tv_lend{Q:PV->Prop}:Tv (mVL i ρ) Q=∃ s,ρ[i]?=some (some s)/\(match s with|.sh p=>Q p|.ow p=>Q p|.dp _=>False):=by
 refine propext ⟨?_,?_⟩
 ·rintro⟨r,e,q⟩;unfold mVL at e;split at e
  ·rename_i p hp;cases e;exact⟨_,hp,q⟩
  ·rename_i p hp;cases e;exact⟨_,hp,q⟩
  ·cases e
 ·rintro⟨s,e,q⟩;cases s with
  |sh p=>exact⟨_,by unfold mVL;rw[e],q⟩
  |ow p=>exact⟨_,by unfold mVL;rw[e],q⟩
  |dp p=>exact q.elim
theorem tv_c{Q:PV->Prop}:Tv (mC p ρ) Q=Q p:=tv_some
theorem tv_view{Q:List PV->Prop}:Tv (lg f ρ) Q=Tv (f ρ) (λa=>Tv (vd a) Q):=tv_bnd
theorem tv_viewN{Q:List PV->Prop}:Tv (gM i ρ) Q=Tv (mVL i ρ) (λa=>Tv (vd a) Q):=tv_bnd
theorem tv_asLst{l:List PV}{Q:List PV->Prop}:Tv (vd (.lst l)) Q=Q l:=tv_some
theorem tv_nil{Q:List PV->Prop}:Tv (aU ρ) Q=Q []:=tv_some
theorem tv_cons{g:Fn (List PV)}{Q:List PV->Prop}:Tv (az f g ρ) Q=Tv (f ρ) (λa=>Tv (g ρ) (λl=>Q (a::l))):=by
 unfold az;simp only[tv_bnd,tv_some]
theorem cI{c:Prop}[Decidable c]{a:α}:Tv (if c then some (.ok a) else none) Q=(c/\Q a):=by
 by_cases h:c
 ·rw[Zao h,tv_some];simp[h]
 ·rw[Zal h,j4];simp[h]
theorem tv_tup{f:Fn (List PV)}{Q:PV->Prop}:Tv (dM f ρ) Q=Tv (f ρ) (λl=>l.length<=sizeLine/\Q (.tup l)):=by
 unfold dM;simp only[tv_bnd,cI]
theorem tv_lst{f:Fn (List PV)}{Q:PV->Prop}:Tv (jc f ρ) Q=Tv (f ρ) (λl=>l.length<=sizeLine/\Q (.lst l)):=by
 unfold jc;simp only[tv_bnd,cI]
theorem tv_call{m:List PV->Option (Res PV)}{f:Fn (List PV)}{Q:PV->Prop}:Tv (bJ m f ρ) Q=Tv (f ρ) (λl=>Tv (m l) Q):=tv_bnd
theorem tv_callL{m:List PV->Option (Res PV)}{f:Fn (List PV)}{Q:PV->Prop}:Tv (zU m f ρ) Q=Tv (f ρ) (λl=>Tv (m l) (λp=>p.flat=true/\Q p)):=by
 unfold zU;rw[tv_bnd];congr 1
 funext l
 refine propext ⟨?_,λ⟨p,e,hf,q⟩=>⟨p,by simp only[e,hf,if_true],q⟩⟩
 rintro⟨r,e,q⟩;split at e
 ·rename_i p hp;split at e
  ·rename_i hf;cases e;exact⟨_,hp,hf,q⟩
  ·cases e
 ·cases e
theorem tv_ite{c:Prop}[Decidable c]{x y:Option (Res α)}:Tv (if c then x else y) Q=if c then Tv x Q else Tv y Q:=by split<;>rfl
theorem to_ite{c:Prop}[Decidable c]{x y:Option Out}:To (if c then x else y) QS=if c then To x QS else To y QS:=by split<;>rfl
theorem tv_mIf{c:Fn Bool}{f g:Fn α}:Tv (mIf c f g ρ) Q=Tv (c ρ) (λb=>if b=true then Tv (f ρ) Q else Tv (g ρ) Q):=by
 unfold mIf;simp only[tv_bnd,tv_ite]
theorem tv_mAnd{c d:Fn Bool}{Q:Bool->Prop}:Tv (zT c d ρ) Q=Tv (c ρ) (λb=>if b=true then Tv (d ρ) Q else Q false):=by
 unfold zT;simp only[tv_bnd,tv_ite,tv_some]
theorem tv_mOr{c d:Fn Bool}{Q:Bool->Prop}:Tv (mOr c d ρ) Q=Tv (c ρ) (λb=>if b=true then Q true else Tv (d ρ) Q):=by
 unfold mOr;simp only[tv_bnd,tv_ite,tv_some]
theorem tv_mNot{c:Fn Bool}{Q:Bool->Prop}:Tv (oE c ρ) Q=Tv (c ρ) (λb=>Q (!b)):=by
 unfold oE;simp only[tv_bnd,tv_some]
theorem tv_and{Q:PV->Prop}:Tv (nA f g ρ) Q=Tv (f ρ) (λa=>∃ b,a=.bl b/\if b=true then Tv (g ρ) Q else Q (.bl false)):=by
 unfold nA;rw[tv_bnd];congr 1;funext a
 refine propext ⟨?_,?_⟩
 ·rintro⟨r,e,q⟩;split at e
  ·exact⟨true,rfl,by rw[Zao rfl];exact⟨r,e,q⟩⟩
  ·cases e;exact⟨false,rfl,by rw[Zal (by decide)];exact q⟩
  ·cases e
 ·rintro⟨b,e,q⟩;subst e;cases b with
  |true=>rw[Zao rfl] at q;exact q
  |false=>rw[Zal (by decide)] at q;exact⟨_,rfl,q⟩
theorem tv_or{Q:PV->Prop}:Tv (Qc f g ρ) Q=Tv (f ρ) (λa=>∃ b,a=.bl b/\if b=true then Q (.bl true) else Tv (g ρ) Q):=by
 unfold Qc;rw[tv_bnd];congr 1;funext a
 refine propext ⟨?_,?_⟩
 ·rintro⟨r,e,q⟩;split at e
  ·cases e;exact⟨true,rfl,by rw[Zao rfl];exact q⟩
  ·exact⟨false,rfl,by rw[Zal (by decide)];exact⟨r,e,q⟩⟩
  ·cases e
 ·rintro⟨b,e,q⟩;subst e;cases b with
  |true=>rw[Zao rfl] at q;exact⟨_,rfl,q⟩
  |false=>rw[Zal (by decide)] at q;exact q
theorem tv_chain{o1 o2:PV->PV->Option (Res PV)}{Q:PV->Prop}:Tv (wC o1 o2 f g h ρ) Q=Tv (f ρ) (λa=>Tv (g ρ) (λb=>Tv (o1 a b) (λz=>∃ t,z=.bl t/\if t=true then Tv (h ρ) (λc=>Tv (o2 b c) Q) else Q (.bl false)))):=by
 unfold wC;simp only[tv_bnd];congr 1;funext a
 congr 1;funext b
 congr 1;funext c
 refine propext ⟨?_,?_⟩
 ·rintro⟨r,e,q⟩;split at e
  ·refine⟨true,rfl,?_⟩;rw[Zao rfl,<-tv_bnd];exact⟨r,e,q⟩
  ·cases e;exact⟨false,rfl,by rw[Zal (by decide)];exact q⟩
  ·cases e
 ·rintro⟨t,e,q⟩;subst e;cases t with
  |true=>rw[Zao rfl,<-tv_bnd] at q;exact q
  |false=>rw[Zal (by decide)] at q;exact⟨_,rfl,q⟩
theorem tv_comp{it:Fn (List PV)}{fr:List (Option Nat)}{tg:PV->Rho->Option Rho}{tst:Fn Bool}{el:Fn PV}{Q:PV->Prop}:Tv (jB it fr tg tst el ρ) Q=Tv (it ρ) (λl=>l.length<=sizeLine/\Tv (gH tg tst el (frR fr ρ) l) (λr=>Q (.lst r))):=by
 unfold jB;rw[tv_bnd];congr 1;funext l
 by_cases hl:l.length<=sizeLine
 ·rw[Zao hl,tv_bnd];simp only[tv_some,hl,true_and]
 ·rw[Zal hl,j4];simp[hl]
theorem to_next:To (dR ρ) QS=QS (.nx ρ):=to_nx
theorem to_ret:To (di f ρ) QS=Tv (f ρ) (λp=>QS (.rt p)):=by unfold di;simp only[to_bnd,to_rt]
theorem to_retO:To (wF f ρ) QS=Tv (f ρ) (λp=>QS (.ro p)):=by unfold wF;simp only[to_bnd,to_ro]
theorem to_drop:To (yL f ρ) QS=Tv (f ρ) (λ_=>QS (.nx ρ)):=by unfold yL;simp only[to_bnd,to_nx]
theorem to_setO:To (kO i f ρ) QS=Tv (f ρ) (λp=>QS (.nx (ρ.set i (some (.ow p))))):=by unfold kO;simp only[to_bnd,to_nx]
theorem to_asg{tg:PV->Rho->Option Rho}:To (cM f tg ρ) QS=Tv (f ρ) (λp=>∃ ρ',tg p ρ=some ρ'/\QS (.nx ρ')):=by
 unfold cM;rw[to_bnd];congr 1;funext a
 cases e:tg a ρ with
 |none=>rw[Io];exact propext ⟨λh=>h.elim,λ⟨_,z,_⟩=>nomatch z⟩
 |some ρ'=>rw[to_nx];exact propext ⟨λq=>⟨ρ',rfl,q⟩,λ⟨_,z,q⟩=>by cases z;exact q⟩
theorem to_asgN:To (cM f (gN i) ρ) QS=Tv (f ρ) (λp=>QS (.nx (ρ.set i (some (.sh p))))):=by
 rw[to_asg];congr 1;funext a
 exact propext ⟨λ⟨ρ',e,q⟩=>by cases e;exact q,λq=>⟨_,rfl,q⟩⟩
theorem to_if{c:Fn Bool}:To (eZ c s t ρ) QS=Tv (c ρ) (λb=>if b=true then To (s ρ) QS else To (t ρ) QS):=by
 unfold eZ;simp only[to_bnd,to_ite]
theorem to_for{it:Fn (List PV)}{tg:PV->Rho->Option Rho}:To (lE it tg s ρ) QS=Tv (it ρ) (λl=>To (loop tg s l ρ) QS):=to_bnd
theorem to_retOw:To (kW i ρ) QS=∃ p,ρ[i]?=some (some (.ow p))/\QS (.ro p):=by
 refine propext ⟨?_,λ⟨p,e,q⟩=>⟨.ro p,by unfold kW ownAt;rw[e],trivial,q⟩⟩
 rintro⟨r,e,c,q⟩;unfold kW at e;split at e
 ·rename_i p hp;cases e;exact⟨p,dm hp,q⟩
 ·cases e
theorem to_app:To (oG i f ρ) QS=∃ l,ρ[i]?=some (some (.ow (.lst l)))/\Tv (f ρ) (λp=>l.length<sizeLine/\QS (.nx (ρ.set i (some (.ow (.lst (l++[p]))))))):=by
 refine propext ⟨?_,?_⟩
 ·rintro⟨r,e,c,q⟩;unfold oG at e;split at e
  ·rename_i l hl;refine⟨l,dm hl,?_⟩;rcases gk e with⟨z,e1,rfl⟩|⟨p,e1,e2⟩
   ·exact c.elim
   ·split at e2
    ·rename_i hlen;cases e2;exact⟨_,e1,hlen,q⟩
    ·cases e2
  ·cases e
 ·rintro⟨l,e,p,e1,h,q⟩;have eo:ownAt i ρ=some (.lst l):=by unfold ownAt;rw[e]
  unfold To oG;rw[eo];exact⟨.nx _,by simp only[e1,mR];exact Zao h,trivial,q⟩
theorem to_frz:To (Wj i s ρ) QS=To (s (FZ i ρ)) QS:=rfl
theorem UT{p:PV}(h:ρ[i]?=some (some (.ow p))):FZ i ρ=ρ.set i (some (.sh p)):=by unfold FZ ownAt;rw[h]
theorem lq{c:Int->Int->Bool}{F:Int->Int->PV}{x y:Int}{Q:PV->Prop}:Tv (MP.opI c F (.int x) (.int y)) Q=(c x y=true/\Q (F x y)):=cI
theorem tv_sub{x y:Int}{Q:PV->Prop}:Tv (qC (.int x) (.int y)) Q=Q (.int (x-y)):=by unfold qC;rw[lq];simp[cT]
theorem tv_and'{x y:Int}{Q:PV->Prop}:Tv (CT (.int x) (.int y)) Q=Q (.int (Builtin.bitAnd x y)):=by unfold CT;rw[lq];simp[cT]
theorem tv_or'{x y:Int}{Q:PV->Prop}:Tv (Qg (.int x) (.int y)) Q=Q (.int (Builtin.bitOr x y)):=by unfold Qg;rw[lq];simp[cT]
theorem tv_gt{x y:Int}{Q:PV->Prop}:Tv (Qh (.int x) (.int y)) Q=Q (.bl (decide (y<x))):=by unfold Qh;rw[lq];simp[cT]
theorem tv_ge{x y:Int}{Q:PV->Prop}:Tv (JP (.int x) (.int y)) Q=Q (.bl (decide (y<=x))):=by unfold JP;rw[lq];simp[cT]
theorem tv_div{x y:Int}{Q:PV->Prop}:Tv (vf (.int x) (.int y)) Q=((0<y/\y<1073741824)/\Q (.int (x/y))):=by unfold vf;rw[lq];simp[Ue]
theorem tv_mod{x y:Int}{Q:PV->Prop}:Tv (cG (.int x) (.int y)) Q=(0<y/\Q (.int (x%y))):=by unfold cG;rw[lq];simp[Wb]
theorem tv_pow{x y:Int}{Q:PV->Prop}:Tv (pO (.int x) (.int y)) Q=((0<=y/\y<=1000000/\x.natAbs<2^64)/\Q (.int (x^y.toNat))):=by unfold pO;rw[lq];simp[LQ]
theorem tv_shl{x y:Int}{Q:PV->Prop}:Tv (CQ (.int x) (.int y)) Q=((0<=y/\y<=1000000/\x.natAbs<2^64)/\Q (.int (x*2^y.toNat))):=by unfold CQ;rw[lq];simp[LQ]
theorem tv_shr{x y:Int}{Q:PV->Prop}:Tv (HR (.int x) (.int y)) Q=(0<=y/\Q (.int (x/2^y.toNat))):=by unfold HR;rw[lq];simp[Wc]
theorem tv_add{x y:Int}{Q:PV->Prop}:Tv (cH (.int x) (.int y)) Q=Q (.int (x+y)):=tv_some
theorem tv_addS{x y:Str}{Q:PV->Prop}:Tv (cH (.str x) (.str y)) Q=(x.length+y.length<=sizeLine/\Q (.str (x++y))):=cI
theorem tv_addT{x y:List PV}{Q:PV->Prop}:Tv (cH (.tup x) (.tup y)) Q=((x≠[]/\x.length+y.length<=sizeLine)/\Q (.tup (x++y))):=cI
theorem tv_mul{x y:Int}{Q:PV->Prop}:Tv (je (.int x) (.int y)) Q=(Fp x y/\Q (.int (x*y))):=by
 show Tv (if LK x y=true then _ else none) Q=_
 rw[cI];unfold LK Fp;simp
theorem tv_mulS{z:Str}{n:Int}{Q:PV->Prop}:Tv (je (.str z) (.int n)) Q=((-(2^63)<=n/\n<2^63/\z.length*n.toNat<=sizeLine)/\Q (.str (Ug z n.toNat))):=cI
theorem tv_lt{x y:Int}{Q:PV->Prop}:Tv (wG (.int x) (.int y)) Q=Q (.bl (decide (x<y))):=tv_some
theorem tv_ltS{x y:Str}{Q:PV->Prop}:Tv (wG (.str x) (.str y)) Q=Q (.bl (decide (x.cps.toList<y.cps.toList))):=tv_some
theorem tv_le{x y:Int}{Q:PV->Prop}:Tv (Ga (.int x) (.int y)) Q=Q (.bl (decide (x<=y))):=tv_some
theorem tv_leS{x y:Str}{Q:PV->Prop}:Tv (Ga (.str x) (.str y)) Q=Q (.bl (!(decide (y.cps.toList<x.cps.toList)))):=tv_some
theorem tv_eq{p q:PV}{Q:PV->Prop}:Tv (iC p q) Q=∃ r,eqF 32 p q=some r/\Q (.bl r):=by
 refine propext ⟨?_,λ⟨r,e,k⟩=>⟨_,by unfold iC;rw[e],k⟩⟩
 rintro⟨r,e,k⟩;unfold iC at e;split at e
 ·rename_i b hb;cases e;exact⟨b,hb,k⟩
 ·cases e
theorem tv_ne{p q:PV}{Q:PV->Prop}:Tv (rW p q) Q=∃ r,eqF 32 p q=some r/\Q (.bl (!r)):=by
 refine propext ⟨?_,λ⟨r,e,k⟩=>⟨_,by unfold rW;rw[e],k⟩⟩
 rintro⟨r,e,k⟩;unfold rW at e;split at e
 ·rename_i b hb;cases e;exact⟨b,hb,k⟩
 ·cases e
theorem eqF_int(n:Nat)(i j:Int):eqF n (.int i) (.int j)=some (decide (i=j)):=by cases n<;>rfl
theorem eqF_str(n:Nat)(i j:Str):eqF n (.str i) (.str j)=some (decide (i=j)):=by cases n<;>rfl
theorem eqF_bl(n:Nat)(i j:Bool):eqF n (.bl i) (.bl j)=some (decide (i=j)):=by cases n<;>rfl
theorem tv_eqI{x y:Int}{Q:PV->Prop}:Tv (iC (.int x) (.int y)) Q=Q (.bl (decide (x=y))):=by rw[tv_eq,eqF_int];simp
theorem tv_eqS{x y:Str}{Q:PV->Prop}:Tv (iC (.str x) (.str y)) Q=Q (.bl (decide (x=y))):=by rw[tv_eq,eqF_str];simp
theorem tv_neI{x y:Int}{Q:PV->Prop}:Tv (rW (.int x) (.int y)) Q=Q (.bl (!decide (x=y))):=by rw[tv_ne,eqF_int];simp
theorem tv_neS{x y:Str}{Q:PV->Prop}:Tv (rW (.str x) (.str y)) Q=Q (.bl (!decide (x=y))):=by rw[tv_ne,eqF_str];simp
theorem tv_notin{p q:PV}{Q:PV->Prop}:Tv (oJ p q) Q=∃ r,inU p q=some r/\Q (.bl (!r)):=by
 refine propext ⟨?_,λ⟨r,e,k⟩=>⟨_,by unfold oJ;rw[e],k⟩⟩
 rintro⟨r,e,k⟩;unfold oJ at e;split at e
 ·rename_i b hb;cases e;exact⟨b,hb,k⟩
 ·cases e
theorem tv_isN{p:PV}{Q:PV->Prop}:Tv (HS p .non) Q=Q (.bl p.pP):=tv_some
theorem tv_notN{p:PV}{Q:PV->Prop}:Tv (Gb p .non) Q=Q (.bl (!p.pP)):=tv_some
theorem Af{x:Option PV}{Q:PV->Prop}:Tv (ofO x) Q=∃ p,x=some p/\Q p:=by
 refine propext ⟨?_,λ⟨p,e,k⟩=>⟨_,by subst e;rfl,k⟩⟩
 rintro⟨r,e,k⟩;obtain⟨p,e1,e2⟩:=ud e;cases e2;exact⟨_,e1,k⟩
theorem tv_ixL{l:List PV}{n:Int}{Q:PV->Prop}:Tv (aY (.lst l) (.int n)) Q=∃ p,atI l n=some p/\Q p:=Af
theorem tv_ixT{l:List PV}{n:Int}{Q:PV->Prop}:Tv (aY (.tup l) (.int n)) Q=∃ p,atI l n=some p/\Q p:=Af
theorem tv_ixV{l:List PV}{n:Int}{Q:PV->Prop}:Tv (wH l (.int n)) Q=∃ p,atI l n=some p/\Q p:=Af
theorem tv_ixS{z:Str}{n:Int}{Q:PV->Prop}:Tv (aY (.str z) (.int n)) Q=(z.length<=sizeLine/\∃ c,atI z.cps.toList n=some c/\Q (.str ⟨#[c]⟩)):=by
 show Tv (if z.length<=sizeLine then _ else none) Q=_
 by_cases hz:z.length<=sizeLine
 ·rw[Zao hz,Af];simp only[hz,true_and];refine propext ⟨?_,λ⟨c,e,k⟩=>⟨_,by rw[e];rfl,k⟩⟩
  rintro⟨p,e,k⟩;cases e1:atI z.cps.toList n with
  |none=>rw[e1] at e;cases e
  |some c=>rw[e1] at e;cases e;exact⟨c,rfl,k⟩
 ·rw[Zal hz];exact propext ⟨λ⟨r,e,q⟩=>(nomatch e),λ⟨z,_⟩=>absurd z hz⟩
theorem tv_lenS{z:Str}{Q:PV->Prop}:Tv (fZ (.str z)) Q=(z.length<=sizeLine/\Q (.int z.length)):=cI
theorem tv_lenL{l:List PV}{Q:PV->Prop}:Tv (fZ (.lst l)) Q=Q (.int l.length):=tv_some
theorem tv_lenT{l:List PV}{Q:PV->Prop}:Tv (fZ (.tup l)) Q=Q (.int l.length):=tv_some
theorem tv_is{T:String}{Q:PV->Prop}:Tv (rY p (.ty T)) Q=∃ b,isI p T=some b/\Q (.bl b):=by
 refine propext ⟨?_,λ⟨r,e,k⟩=>⟨_,by unfold rY;simp only[e],k⟩⟩
 rintro⟨r,e,k⟩;unfold rY at e;simp only at e;split at e
 ·rename_i b hb;cases e;exact⟨b,hb,k⟩
 ·cases e
theorem tv_asBl{b:Bool}{Q:Bool->Prop}:Tv (cU (.bl b)) Q=Q b:=tv_some
theorem tv_not{b:Bool}{Q:PV->Prop}:Tv (CG (.bl b)) Q=Q (.bl (!b)):=tv_some
theorem tv_intI{x:Int}{Q:PV->Prop}:Tv (Ib (.int x)) Q=Q (.int x):=tv_some
theorem tv_intB{x:Bool}{Q:PV->Prop}:Tv (Ib (.bl x)) Q=Q (.int (if x then 1 else 0)):=tv_some
theorem tv_list{l:List PV}{Q:PV->Prop}:Tv (z8 l) Q=Q (.lst l):=tv_some
theorem tv_opTup{l:List PV}{Q:PV->Prop}:Tv (Dg l) Q=Q (.tup l):=tv_some
theorem tv_cat{l m:List PV}{Q:PV->Prop}:Tv (wJ l m) Q=(l.length+m.length<=sizeLine/\Q (.lst (l++m))):=cI
theorem tv_asSeqL{l:List PV}{Q:List PV->Prop}:Tv (pQ (.lst l)) Q=Q l:=tv_some
theorem tv_asSeqT{l:List PV}{Q:List PV->Prop}:Tv (pQ (.tup l)) Q=Q l:=tv_some
theorem tv_asSeqS{z:Str}{Q:List PV->Prop}:Tv (pQ (.str z)) Q=Q (signs z):=tv_some
theorem tv_rng1{j:Int}{Q:List PV->Prop}:Tv (jg [.int j]) Q=((-(2^62)<=j/\j<2^62)/\Q (mU 0 j.toNat)):=cI
theorem tv_rng2{x y:Int}{Q:List PV->Prop}:Tv (z7 [.int x,.int y]) Q=((-(2^62)<=x/\x<2^62/\-(2^62)<=y/\y<2^62)/\Q (mU x (y-x).toNat)):=cI
theorem tv_enum{l:List PV}{Q:List PV->Prop}:Tv (oK [.lst l]) Q=Q (kZ l):=tv_some
theorem tv_pn{Q:Option Int->Prop}:Tv (mPn ρ) Q=Q none:=tv_some
theorem tv_asInt{x:Int}{Q:Option Int->Prop}:Tv (asInt (.int x)) Q=Q (some x):=tv_some
theorem tv_slL{f:Fn (List PV)}{lo hi:Fn (Option Int)}{Q:PV->Prop}:Tv (z6 f lo hi ρ) Q=Tv (f ρ) (λl=>Tv (lo ρ) (λa=>Tv (hi ρ) (λb=>Q (.lst (nG l a b))))):=by
 unfold z6;simp only[tv_bnd,tv_some]
theorem tv_slK{f:Fn (List PV)}{lo hi st:Fn (Option Int)}{Q:PV->Prop}:Tv (Qq f lo hi st ρ) Q=Tv (f ρ) (λl=>Tv (lo ρ) (λa=>Tv (hi ρ) (λb=>Tv (st ρ) (λc=>c≠some 0/\Q (.lst (Dh l a b c)))))):=by
 have ite:∀ {c:Prop} [Decidable c] {r:PV},Tv (if c then none else some (.ok r)) Q=(¬c/\Q r):=λ{c} _ {r}=>by
  by_cases h:c
  ·rw[Zao h,j4];simp[h]
  ·rw[Zal h,tv_some];simp[h]
 unfold Qq;simp only[tv_bnd,ite,ne_eq]
theorem tv_opSlS{x:Str}{a b:Option Int}{Q:PV->Prop}:Tv (Ma a b (.str x)) Q=(x.length<=sizeLine/\Q (.str (Txt.slice x a b))):=cI
theorem tv_opSlT{l:List PV}{a b:Option Int}{Q:PV->Prop}:Tv (Mf a b (.tup l)) Q=(¬(HT.sIx l.length 0 a=0/\HT.sIx l.length l.length b=l.length)/\Q (.tup (nG l a b))):=cI
theorem tv_slS{lo hi:Fn (Option Int)}{Q:PV->Prop}:Tv (JQ f lo hi ρ) Q=Tv (f ρ) (λz=>Tv (lo ρ) (λa=>Tv (hi ρ) (λb=>Tv (Ma a b z) Q))):=by
 unfold JQ;simp only[tv_bnd]
theorem tv_slT{lo hi:Fn (Option Int)}{Q:PV->Prop}:Tv (Qk f lo hi ρ) Q=Tv (f ρ) (λz=>Tv (lo ρ) (λa=>Tv (hi ρ) (λb=>Tv (Mf a b z) Q))):=by
 unfold Qk;simp only[tv_bnd]
theorem tv_opRep{l:List PV}{n:Int}{Q:PV->Prop}:Tv (LR (.lst l) (.int n)) Q=((-(2^63)<=n/\n<2^63/\l.length*n.toNat<=sizeLine)/\Q (.lst (List.replicate n.toNat l).flatten)):=cI
theorem tv_rep{Q:PV->Prop}:Tv (Qj f g ρ) Q=Tv (f ρ) (λa=>Tv (g ρ) (λb=>Tv (LR a b) Q)):=tv_m2
theorem tv_opJoin{z:Str}{l:List PV}{Q:PV->Prop}:Tv (wL z l) Q=∃ ys,oN l=some ys/\(ys.map (·.length)).sum+ys.length*z.length<=16777216/\Q (.str (Txt.join z ys)):=by
 unfold wL;cases e:oN l with
 |none=>simp only;rw[j4];exact propext ⟨λh=>h.elim,λ⟨_,z,_⟩=>nomatch z⟩
 |some ys=>simp only;rw[cI];exact propext ⟨λh=>⟨ys,rfl,h⟩,λ⟨_,z,h⟩=>by cases z;exact h⟩
theorem tv_join{g:Fn (List PV)}{Q:PV->Prop}:Tv (Ie f g ρ) Q=Tv (f ρ) (λa=>∃ z,a=.str z/\Tv (g ρ) (λl=>Tv (wL z l) Q)):=by
 unfold Ie;rw[tv_bnd];congr 1;funext a
 cases a with
 |str z=>simp only;rw[tv_bnd];exact propext ⟨λh=>⟨z,rfl,h⟩,λ⟨_,e,h⟩=>by cases e;exact h⟩
 |_=>simp only;rw[j4];exact propext ⟨λh=>h.elim,λ⟨_,e,_⟩=>nomatch e⟩
theorem tv_all{l:List PV}{Q:PV->Prop}:Tv (yO l) Q=∃ bs,rH l=some bs/\Q (.bl (bs.all id)):=by
 refine propext ⟨?_,λ⟨r,e,k⟩=>⟨_,by unfold yO;rw[e],k⟩⟩
 rintro⟨r,e,k⟩;unfold yO at e;split at e
 ·rename_i b hb;cases e;exact⟨b,hb,k⟩
 ·cases e
end
section
variable{QS:Out->Prop}{Q:PV->Prop}{ρ:Rho}{i j:Nat}{f g:Fn PV}
theorem tv_consO{g:Fn (List PV)}{Q:List PV->Prop}:Tv (wQ i g ρ) Q=∃ p,ρ[i]?=some (some (.ow p))/\Tv (g ρ) (λl=>Q (p::l)):=by
 unfold wQ;cases h:ownAt i ρ with
 |none=>
  simp only;rw[j4];exact propext ⟨λh=>h.elim,λ⟨p,e,_⟩=>by unfold ownAt at h;rw[e] at h;cases h⟩
 |some p=>
  simp only;rw[tv_bnd];simp only[tv_some];exact propext ⟨λq=>⟨p,dm h,q⟩,λ⟨p',e,q⟩=>by rw[dm h] at e;cases e;exact q⟩
theorem to_io{m:List PV->Option (Res PV)}{f:Fn (List PV)}:To (mIO i m f ρ) QS=∃ p,ρ[i]?=some (some (.ow p))/\Tv (f ρ) (λl=>Tv (m l) (λp'=>QS (.nx (ρ.set i (some (.ow p')))))):=by
 unfold mIO;cases h:ownAt i ρ with
 |none=>
  simp only;rw[Io];exact propext ⟨λh=>h.elim,λ⟨p,e,_⟩=>by unfold ownAt at h;rw[e] at h;cases h⟩
 |some p=>
  simp only;rw[to_bnd];refine propext ⟨λ⟨l,e,q⟩=>⟨p,dm h,l,e,?_⟩,λ⟨p',_,l,e,p2,e2,q⟩=>⟨l,e,?_⟩⟩
  ·obtain⟨o,eo,c,q⟩:=q;split at eo
   ·rename_i p' hp;cases eo;exact⟨_,hp,q⟩
   ·cases eo
  ·exact⟨.nx _,by rw[e2],trivial,q⟩
theorem Nt{x:Option Out}{P:PV->Prop}(h:To x λo=>∃ p,Di j (some o)=some (.ok p)/\P p):∃ p,Di j x=some (.ok p)/\P p:=by
 obtain⟨o,e,_,q⟩:=h;rw[e];exact q
theorem finIO_nx{p:PV}:(Di j (some (.nx ρ))=some (.ok p))=(ρ[j]?=some (some (.ow p))):=by
 show((match ownAt j ρ with|some p=>some (Res.ok p)|none=>none)=some (.ok p))=_
 cases h:ownAt j ρ with
 |none=>exact propext ⟨λe=>(nomatch e),λe=>by unfold ownAt at h;rw[e] at h;cases h⟩
 |some q=>exact propext ⟨λe=>by cases e;exact dm h,λe=>by rw[dm h] at e;cases e;rfl⟩
end
def turn(I:Rho->Prop)(QS:Out->Prop):Out->Prop
 |.nx ρ=>I ρ
 |.ct ρ=>I ρ
 |.bk ρ=>QS (.nx ρ)
 |o=>QS o
theorem turn_nx{I:Rho->Prop}{QS:Out->Prop}{ρ:Rho}:turn I QS (.nx ρ)=I ρ:=rfl
theorem turn_ct{I:Rho->Prop}{QS:Out->Prop}{ρ:Rho}:turn I QS (.ct ρ)=I ρ:=rfl
theorem turn_bk{I:Rho->Prop}{QS:Out->Prop}{ρ:Rho}:turn I QS (.bk ρ)=QS (.nx ρ):=rfl
theorem turn_rt{I:Rho->Prop}{QS:Out->Prop}{p:PV}:turn I QS (.rt p)=QS (.rt p):=rfl
theorem turn_ro{I:Rho->Prop}{QS:Out->Prop}{p:PV}:turn I QS (.ro p)=QS (.ro p):=rfl
theorem turn_rd{I:Rho->Prop}{QS:Out->Prop}{p:PV}:turn I QS (.rd p)=QS (.rd p):=rfl
theorem Ag{tg:PV->Rho->Option Rho}{body:Sn}{QS:Out->Prop}(I:Nat->Rho->Prop):∀ {l:List PV}{ρ:Rho},I 0 ρ ->
  (∀ (i:Nat) x ρ,l[i]?=some x->I i ρ->∃ ρ1,tg x ρ=some ρ1/\To (body ρ1) (turn (I (i+1)) QS)) ->
  (∀ ρ',I l.length ρ'->QS (.nx ρ'))->To (loop tg body l ρ) QS:=by
 intro l;induction l generalizing I with
 |nil=>exact λh0 _ hd=>⟨_,rfl,trivial,hd _ h0⟩
 |cons x xs ih=>
  intro ρ h0 hs hd;obtain⟨ρ1,e1,o,e2,c,q⟩:=hs 0 x ρ rfl h0;unfold To;rw[loop,e1];simp only[e2];cases o with
  |nx ρ2=>exact ih (λi=>I (i+1)) q (λi y ρ e=>hs (i+1) y ρ (by simpa using e)) hd
  |ct ρ2=>exact ih (λi=>I (i+1)) q (λi y ρ e=>hs (i+1) y ρ (by simpa using e)) hd
  |bk ρ2=>exact⟨_,rfl,trivial,q⟩
  |rt p=>exact⟨_,rfl,trivial,q⟩
  |ro p=>exact⟨_,rfl,trivial,q⟩
  |rd p=>exact⟨_,rfl,trivial,q⟩
  |ex z=>exact c.elim
theorem xj{x:Option Out}{I:Rho->Prop}{Q:Out->Prop}(h:∀ QS:Out->Prop,(∀ ρ,I ρ->QS (.nx ρ))->To x QS):To x (turn I Q):=h _ λ_ h=>h
theorem Wz{x:Option Out}{I:Rho->Prop}{Q:Out->Prop}(h:∀ QS:Out->Prop,(∀ ρ,I ρ->QS (.nx ρ))->(∀ ρ,I ρ->QS (.ct ρ))->(∀ p,Q (.rt p)->QS (.rt p))->(∀ p,Q (.ro p)->QS (.ro p))->(∀ p,Q (.rd p)->QS (.rd p))->To x QS):To x (turn I Q):=h _ (λ_ h=>h) (λ_ h=>h) (λ_ h=>h) (λ_ h=>h) λ_ h=>h
theorem sr{x:Option Out}{Q:Out->Prop}(h:∀ QS:Out->Prop,(∀ o,Q o->QS o)->To x QS):To x Q:=h _ λ_ h=>h
theorem gm{j:Nat}{body:Sn}{QS:Out->Prop}(I:Nat->Rho->Prop){l:List PV}{ρ:Rho}(h0:I 0 ρ)
  (hs:∀ (i:Nat) x ρ,l[i]?=some x->I i ρ->To (body (ρ.set j (some (.sh x)))) (turn (I (i+1)) QS))(hd:∀ ρ',I l.length ρ'->QS (.nx ρ')):To (loop (gN j) body l ρ) QS:=
 Ag I h0 (λi x ρ e hI=>⟨_,rfl,hs i x ρ e hI⟩) hd
theorem lr{a b:Nat}{body:Sn}{QS:Out->Prop}(I:Nat->Rho->Prop){l:List PV}{ρ:Rho}(h0:I 0 ρ)
  (hs:∀ (i:Nat) x ρ,l[i]?=some x->I i ρ->To (body ((ρ.set a (some (.sh (.int i)))).set b (some (.sh x)))) (turn (I (i+1)) QS))(hd:∀ ρ',I l.length ρ'->QS (.nx ρ')):To (loop (gT 2 (gsCons (gN a) (gsCons (gN b) gsNil))) body (kZ l) ρ) QS:=by
 have hl:(kZ l).length=l.length:=by simp[kZ]
 refine Ag I h0 (λi x ρ e hI=>?_) λρ'=>by rw[hl];exact hd ρ'
 unfold kZ at e;rw[Zbe] at e;cases h:l[i]? with
 |none=>rw[h] at e;cases e
 |some y=>
  rw[h] at e;cases e;exact⟨_,rfl,hs i y ρ h hI⟩
theorem Nu{a b:Nat}{body:Sn}{QS:Out->Prop}(I:Nat->Rho->Prop){l:List (PV×PV)}{ρ:Rho}(h0:I 0 ρ)
  (hs:∀ (i:Nat) x y ρ,l[i]?=some (x,y)->I i ρ->To (body ((ρ.set a (some (.sh x))).set b (some (.sh y)))) (turn (I (i+1)) QS))(hd:∀ ρ',I l.length ρ'->QS (.nx ρ')):To (loop (gT 2 (gsCons (gN a) (gsCons (gN b) gsNil))) body (l.map λc=>.tup [c.1,c.2]) ρ) QS:=by
 refine Ag I h0 (λi x ρ e hI=>?_) λρ'=>by rw[List.length_map];exact hd ρ'
 rw[Zaf] at e;cases h:l[i]? with
 |none=>rw[h] at e;cases e
 |some y=>
  rw[h] at e;cases e;exact⟨_,rfl,hs i y.1 y.2 ρ h hI⟩
theorem bQ{x:Option Out}{r:Res PV}(h:To x λo=>fin (some o)=some r):fin x=some r:=by
 obtain⟨o,e,_,q⟩:=h;rw[e];exact q
theorem Ah{x:Option Out}{r:Res PV}(h:To x λo=>qD (some o)=some r):qD x=some r:=by
 obtain⟨o,e,_,q⟩:=h;rw[e];exact q
theorem qH{x:Option Out}{P:PV->Prop}(h:To x λo=>∃ p,fin (some o)=some (.ok p)/\P p):∃ p,fin x=some (.ok p)/\P p:=by
 obtain⟨o,e,_,q⟩:=h;rw[e];exact q
theorem ul{x:Option Out}{P:PV->Prop}(h:To x λo=>∃ p,qD (some o)=some (.ok p)/\P p):∃ p,qD x=some (.ok p)/\P p:=by
 obtain⟨o,e,_,q⟩:=h;rw[e];exact q
theorem fin_nx{ρ:Rho}:fin (some (.nx ρ))=some (.ok .non):=rfl
theorem fin_rt{p:PV}:fin (some (.rt p))=some (.ok p):=rfl
theorem finO_ro{p:PV}:qD (some (.ro p))=some (.ok p):=rfl
theorem xm{tg:PV->Rho->Option Rho}{tst:Fn Bool}{el:Fn PV}{ρb:Rho}(t:PV->Bool)(f:PV->PV):∀ (l:List PV),
  (∀ x∈l,∃ ρ1,tg x ρb=some ρ1/\tst ρ1=some (.ok (t x))/\(t x=true->el ρ1=some (.ok (f x))))->gH tg tst el ρb l=some (.ok ((l.filter t).map f))
 |[],_=>rfl
 |x::xs,h=>by
  obtain⟨ρ1,e1,e2,e3⟩:=h x List.mem_cons_self;have ih:=xm t f xs λy hy=>h y (List.mem_cons_of_mem _ hy);rw[gH,e1];simp only[e2,bnd];cases ht:t x with
  |true=>rw[Zao rfl,e3 ht];simp only[ih,List.filter_cons,ht,if_true,Zay]
  |false=>rw[Zal (by decide)];simp only[ih,List.filter_cons,ht,Bool.false_eq_true,if_false]
theorem J5{tg:PV->Rho->Option Rho}{el:Fn PV}{ρb:Rho}(f:PV->PV)(l:List PV)(h:∀ x∈l,∃ ρ1,tg x ρb=some ρ1/\el ρ1=some (.ok (f x))):gH tg qj el ρb l=some (.ok (l.map f)):=by
 have:=xm (tg:=tg) (tst:=qj) (el:=el) (ρb:=ρb) (λ_=>true) f l λx hx=>let⟨ρ1,a,b⟩:=h x hx;⟨ρ1,a,rfl,λ_=>b⟩
 rwa [List.filter_eq_self.mpr λ_ _=>rfl] at this
theorem tv_compN{tg:PV->Rho->Option Rho}{tst:Fn Bool}{el:Fn PV}{ρb:Rho}{Q:List PV->Prop}:Tv (gH tg tst el ρb []) Q=Q []:=tv_some
theorem tv_compC{j:Nat}{tst:Fn Bool}{el:Fn PV}{ρb:Rho}{x:PV}{xs:List PV}{Q:List PV->Prop}:Tv (gH (gN j) tst el ρb (x::xs)) Q =
  Tv (tst (ρb.set j (some (.sh x)))) (λb=>if b=true then Tv (el (ρb.set j (some (.sh x)))) (λp=>Tv (gH (gN j) tst el ρb xs) (λr=>Q (p::r))) else Tv (gH (gN j) tst el ρb xs) Q):=by
 rw[gH];simp only[gN,tv_bnd,tv_ite,tv_some]
theorem tv_yes{ρ:Rho}{Q:Bool->Prop}:Tv (qj ρ) Q=Q true:=tv_some
theorem Ip{α:Type}{x:Option (Res α)}{q:α}(h:Tv x λp=>p=q):x=some (.ok q):=by
 obtain⟨p,e,rfl⟩:=h;exact e
theorem SQ{j:Nat}{el:Fn PV}{ρb:Rho}{l:List PV}(f:PV->PV)(h:∀ x∈l,Tv (el (ρb.set j (some (.sh x)))) λp=>p=f x):gH (gN j) qj el ρb l=some (.ok (l.map f)):=
 J5 f l λx hx=>⟨_,rfl,Ip (h x hx)⟩
def szP(w h:Int):PV:=.tup [.int w,.int h]
def cellP(c:Int×Int):PV:=.tup [.int c.1,.int c.2]
theorem snocI(l:List Int)(a:Int):l.map PV.int++[PV.int a]=(l++[a]).map PV.int:=by rw[ZaS];rfl
theorem snocS(l:List Str)(a:Str):l.map PV.str++[PV.str a]=(l++[a]).map PV.str:=by rw[ZaS];rfl
theorem snocC(l:List (Int×Int))(a b:Int):l.map cellP++[PV.tup [.int a,.int b]]=(l++[(a,b)]).map cellP:=by rw[ZaS];rfl
theorem is_non_int:isI .non "int"=some false:=rfl
theorem is_non_bool:isI .non "bool"=some false:=rfl
theorem is_non_str:isI .non "str"=some false:=rfl
theorem is_non_list:isI .non "list"=some false:=rfl
theorem is_non_tuple:isI .non "tuple"=some false:=rfl
theorem is_non_dict:isI .non "dict"=some false:=rfl
theorem is_bl_int{b:Bool}:isI (.bl b) "int"=some true:=rfl
theorem is_bl_bool{b:Bool}:isI (.bl b) "bool"=some true:=rfl
theorem is_bl_str{b:Bool}:isI (.bl b) "str"=some false:=rfl
theorem is_bl_list{b:Bool}:isI (.bl b) "list"=some false:=rfl
theorem is_bl_tuple{b:Bool}:isI (.bl b) "tuple"=some false:=rfl
theorem is_bl_dict{b:Bool}:isI (.bl b) "dict"=some false:=rfl
theorem is_int_int{i:Int}:isI (.int i) "int"=some true:=rfl
theorem is_int_bool{i:Int}:isI (.int i) "bool"=some false:=rfl
theorem is_int_str{i:Int}:isI (.int i) "str"=some false:=rfl
theorem is_int_list{i:Int}:isI (.int i) "list"=some false:=rfl
theorem is_int_tuple{i:Int}:isI (.int i) "tuple"=some false:=rfl
theorem is_int_dict{i:Int}:isI (.int i) "dict"=some false:=rfl
theorem is_str_int{z:Str}:isI (.str z) "int"=some false:=rfl
theorem is_str_bool{z:Str}:isI (.str z) "bool"=some false:=rfl
theorem is_str_str{z:Str}:isI (.str z) "str"=some true:=rfl
theorem is_str_list{z:Str}:isI (.str z) "list"=some false:=rfl
theorem is_str_tuple{z:Str}:isI (.str z) "tuple"=some false:=rfl
theorem is_str_dict{z:Str}:isI (.str z) "dict"=some false:=rfl
theorem is_tup_int{l:List PV}:isI (.tup l) "int"=some false:=rfl
theorem is_tup_bool{l:List PV}:isI (.tup l) "bool"=some false:=rfl
theorem is_tup_str{l:List PV}:isI (.tup l) "str"=some false:=rfl
theorem is_tup_list{l:List PV}:isI (.tup l) "list"=some false:=rfl
theorem is_tup_tuple{l:List PV}:isI (.tup l) "tuple"=some true:=rfl
theorem is_tup_dict{l:List PV}:isI (.tup l) "dict"=some false:=rfl
theorem is_lst_int{l:List PV}:isI (.lst l) "int"=some false:=rfl
theorem is_lst_bool{l:List PV}:isI (.lst l) "bool"=some false:=rfl
theorem is_lst_str{l:List PV}:isI (.lst l) "str"=some false:=rfl
theorem is_lst_list{l:List PV}:isI (.lst l) "list"=some true:=rfl
theorem is_lst_tuple{l:List PV}:isI (.lst l) "tuple"=some false:=rfl
theorem is_lst_dict{l:List PV}:isI (.lst l) "dict"=some false:=rfl
theorem Ir{α:Type}{f:PV->PV->Option Bool}{g:α->PV}[DecidableEq α](h:∀ a b,f (g a) (g b)=some (decide (a=b))):∀ l m:List α,eqL f (l.map g) (m.map g)=some (decide (l=m))
 |[],[]=>rfl
 |[],_::_=>rfl
 |_::_,[]=>rfl
 |x::xs,y::ys=>by
  rw[Zay,Zay,eqL,h x y,Ir h xs ys];simp only[Zbm,Bool.decide_and]
theorem QT{α:Type}{n:Nat}{g:α->PV}[DecidableEq α](h:∀ a b,eqF n (g a) (g b)=some (decide (a=b)))(l m:List α):eqF (n+1) (.lst (l.map g)) (.lst (m.map g))=some (decide (l=m)):=by
 show(if(l.map g).length=(m.map g).length then eqL (eqF n) (l.map g) (m.map g) else some false)=_
 by_cases hl:l.length=m.length
 ·rw[Zao (by simpa using hl)]
  exact Ir h l m
 ·rw[Zal (by simpa using hl),Zas λe=>hl (by rw[e])]
theorem Dt{α:Type}{g:α->PV}[DecidableEq α](h:∀ a b,eqF 31 (g a) (g b)=some (decide (a=b)))(a:α):∀ l:List α,inF (g a) (l.map g)=some (decide (a∈l))
 |[]=>rfl
 |x::xs=>by
  rw[Zay,inF,h x a,Dt h a xs];simp only[ZaB,Bool.decide_or];congr 2
  exact decide_eq_decide.mpr ⟨λe=>e.symm,λe=>e.symm⟩
theorem vV{α:Type}{g:α->PV}[DecidableEq α](h:∀ a b,eqF 31 (g a) (g b)=some (decide (a=b)))(a:α)(l:List α)[Decidable (a∈l)]:inF (g a) (l.map g)=some (decide (a∈l)):=by
 rw[Dt h a l];congr 1
 exact decide_eq_decide.mpr Iff.rfl
theorem QV{α β:Type}(f:α->β)(l:List α)(i:Int):atI (l.map f) i=(atI l i).map f:=by
 unfold atI;rw[List.length_map];cases ixN l.length i<;>simp
theorem fM{ns:List Int}{i:Int}(h0:0<=i)(h:i<ns.length):atI (ns.map PV.int) i=some (.int (ns.getD i.toNat 0)):=by
 obtain⟨v,e1,e2⟩:=wB (xs:=ns.map PV.int) h0 (by rw[List.length_map];exact h)
 rw[e1];rw[Zaf] at e2;have hl:i.toNat<ns.length:=by lia
 rw[Zad hl] at e2;rw[ZaQ,Zad hl];exact e2.symm
theorem atI_0{p:PV}{l:List PV}:atI (p::l) 0=some p:=jn (j:=0) rfl
theorem atI_1{p q:PV}{l:List PV}:atI (p::q::l) 1=some q:=jn (j:=1) rfl
theorem atI_2{p q r:PV}{l:List PV}:atI (p::q::r::l) 2=some r:=jn (j:=2) rfl
theorem atI_3{p q r s:PV}{l:List PV}:atI (p::q::r::s::l) 3=some s:=jn (j:=3) rfl
theorem QW(ns:List Int)(lo hi:Option Int):∃ ms:List Int,nG (ns.map PV.int) lo hi=ms.map PV.int/\ms.length<=ns.length:=by
 refine⟨(ns.drop (HT.sIx ns.length 0 lo)).take (HT.sIx ns.length ns.length hi-HT.sIx ns.length 0 lo),?_,?_⟩
 ·unfold nG;rw[List.length_map,List.map_take,List.map_drop]
 ·rw[Za0,Zbj];omega
theorem QX{α:Type}{l:List α}{i:Int}{v:α}(h0:0<=i)(h:l[i.toNat]?=some v):atI l i=some v:=by
 have:=jn h
 rwa [ZaU h0] at this
def ofL(l:List Nat):Str:=⟨l.toArray⟩
theorem iH(l:List Nat):(ofL l).length=l.length:=List.size_toArray ..
def Du(c:Nat):List (List Nat)->List Nat
 |[]=>[]
 |[r]=>r
 |r::q::rs=>r++c::Du c (q::rs)
theorem Iu(c:Nat):∀ (ys:List Str) (acc:Array Nat),(ys.foldl (λacc p=>acc++(⟨#[c]⟩:Str).cps++p.cps) acc).toList=acc.toList++(ys.map λy=>c::y.cps.toList).flatten
 |[],acc=>by simp
 |y::ys,acc=>by
  rw[List.foldl_cons,Iu c ys];simp
theorem xn(c:Nat)(r:List Nat):∀ (rs:List (List Nat)),Du c (r::rs)=r++(rs.map λy=>c::y).flatten
 |[]=>by simp[Du]
 |q::rs=>by
  rw[Du,xn c q rs];simp
theorem join_list(c:Nat)(ys:List Str):(Txt.join ⟨#[c]⟩ ys).cps.toList=Du c (ys.map λy=>y.cps.toList):=by
 cases ys with
 |nil=>rfl
 |cons y ys=>
  rw[Zay,xn,Za8];show((ys.foldl (λacc p=>acc++(⟨#[c]⟩:Str).cps++p.cps) y.cps)).toList=_
  rw[Iu];rfl
theorem tv_newD{ρ:Rho}{Q:PV->Prop}:Tv (Mw ρ) Q=Q (.dk []):=tv_some
theorem is_dk_int{l:List (Key×PV)}:isI (.dk l) "int"=some false:=rfl
theorem is_dk_str{l:List (Key×PV)}:isI (.dk l) "str"=some false:=rfl
theorem tv_neg{i:Int}{Q:PV->Prop}:Tv (wM (.int i)) Q=Q (.int (-i)):=tv_some
section
variable{ρ:Rho}{f g h:Fn PV}{i:Nat}{Q:PV->Prop}{QS:Out->Prop}{d k x p:PV}{l:List PV}
theorem UV:Tv (asD p) Q=(p.isD=true/\Q p):=cI
theorem tv_viewDN:Tv (rJ i ρ) Q=Tv (mVL i ρ) (λp=>p.isD=true/\Q p):=by unfold rJ;rw[tv_bnd];simp only[UV]
theorem QZ{α:Type}{o:Option α}{F:α->PV}:Tv (o.map λr=>Res.ok (F r)) Q=∃ r,o=some r/\Q (F r):=by
 cases o with
 |none=>exact propext ⟨(λ⟨_,e,_⟩=>by cases e),(λ⟨_,e,_⟩=>by cases e)⟩
 |some r=>exact propext ⟨λ⟨_,e,q⟩=>by cases e;exact⟨r,rfl,q⟩,λ⟨_,e,q⟩=>by cases e;exact⟨_,rfl,q⟩⟩
theorem tv_dget2:Tv (wX f g h ρ) Q=Tv (f ρ) (λd=>Tv (g ρ) (λk=>Tv (h ρ) (λx=>∃ r,wW d k=some r/\Q (r.getD x)))):=by
 unfold wX;simp only[tv_bnd,QZ]
theorem tv_dictP:Tv (ue d l) Q=∃ ps d',oU l=some ps/\jZ d ps=some d'/\Q d':=by
 unfold ue;split
 ·rename_i ps h;rw[h];refine propext ⟨?_,?_⟩
  ·rintro⟨r,e,q⟩;cases h2:jZ d ps with
   |none=>rw[h2] at e;cases e
   |some d'=>rw[h2] at e;cases e;exact⟨ps,_,rfl,h2,q⟩
  ·rintro⟨ps',d',e1,e2,q⟩;cases e1;exact⟨d',by rw[e2];rfl,q⟩
 ·rename_i h;rw[j4];exact propext ⟨λz=>z.elim,λ⟨ps,_,e,_⟩=>by rw[h] at e;cases e⟩
theorem tv_divL{x y:Int}:Tv (z9 (.int x) (.int y)) Q=((0<y/\y.natAbs.log2<9000)/\Q (.int (x/y))):=by unfold z9;rw[lq];simp[Sw]
theorem tv_inv{j:Int}:Tv (Mz (.int j)) Q=Q (.int (Builtin.bitNot j)):=tv_some
theorem to_dput:To (Ii i f g ρ) QS=Tv (f ρ) (λp=>∃ d,ρ[i]?=some (some (.ow d))/\Tv (g ρ) (λk=>∃ d',JS d k p=some d'/\QS (.nx (ρ.set i (some (.ow d')))))):=by
 unfold Ii;rw[to_bnd];congr 1;funext p
 refine propext ⟨?_,?_⟩
 ·rintro⟨r,e,c,q⟩;split at e
  ·rename_i d hd;refine⟨d,dm hd,?_⟩;rcases gk e with⟨z,e1,rfl⟩|⟨k,e1,e2⟩
   ·exact c.elim
   ·split at e2
    ·rename_i d' h';cases e2;exact⟨k,e1,d',h',q⟩
    ·cases e2
  ·cases e
 ·rintro⟨d,e,k,e1,d',h1,q⟩;refine⟨.nx (ρ.set i (some (.ow d'))),?_,trivial,q⟩;have eo:ownAt i ρ=some d:=by unfold ownAt;rw[e]
  rw[eo];simp only[e1,Qe,h1]
end
section
variable{l:List (Key×PV)}{t:List (List Key×PV)}{ks:List PV}{n:Int}{z:Str}{p:PV}
theorem dF_int:wW (.dk l) (.int n)=some (lG l (.inl n)):=rfl
theorem dF_str:wW (.dk l) (.str z)=some (lG l (.inr z)):=rfl
theorem dF_tup:wW (.dt t) (.tup ks)=(oR ks).map (lG t):=rfl
theorem Nv:JS (.dk l) (.int n) p=if l.length<sizeLine then some (.dk (mX l (.inl n) p)) else none:=rfl
theorem isD_dk:(PV.dk l).isD=true:=rfl
theorem isD_dt:(PV.dt t).isD=true:=rfl
end
section
variable{κ:Type}[DecidableEq κ]
theorem xq(k j:κ)(p:PV):∀ l:List (κ×PV),lG (mX l k p) j=if j=k then some p else lG l j
 |[]=>by
  unfold mX lG;by_cases h:k=j
  ·rw[Zao h,Zao h.symm]
  ·rw[Zal h,Zal (Za6 h)];rfl
 |(a,q)::l=>by
  have ih:=xq k j p l;unfold mX;by_cases h:a=k
  ·rw[Zao h];subst h;unfold lG;by_cases h2:a=j
   ·rw[Zao h2,Zao h2.symm]
   ·rw[Zal h2,Zal (Za6 h2),Zal h2];split
    ·rw[ih,Zal (Za6 h2)]
    ·rfl
  ·rw[Zal h];unfold lG;by_cases h2:a=j
   ·rw[Zao h2,Zao h2,Zal (λz=>h (h2.trans z))]
   ·rw[Zal h2,Zal h2,ih]
theorem xr(k:κ)(p:PV):∀ l:List (κ×PV),(mX l k p).length<=l.length+1
 |[]=>by simp[mX]
 |(a,q)::l=>by
  have ih:=xr k p l;unfold mX;split
  ·split
   ·simp only[ZaG];lia
   ·simp only[ZaG];lia
  ·simp only[ZaG];lia
end
section
variable{f:Fn PV}{ρ:Rho}{Q:PV->Prop}{QS:Out->Prop}{p:PV}
theorem tv_deep:Tv (Ij f ρ) Q=Tv (f ρ) (λp=>∃ l,p=.lst l/\l.all PV.still=true/\Q (.lst l)):=by
 unfold Ij;rw[tv_bnd];congr 1;funext p
 refine propext ⟨?_,?_⟩
 ·rintro⟨r,e,q⟩;cases p with
  |lst l=>
   have e:(if l.all PV.still=true then some (Res.ok (PV.lst l)) else none)=some (.ok r):=e;split at e
   ·rename_i h;cases e;exact⟨l,rfl,h,q⟩
   ·cases e
  |_=>cases e
 ·rintro⟨l,rfl,h,q⟩;exact⟨_,Zao h,q⟩
theorem to_retD:To (Ik f ρ) QS=Tv (f ρ) (λp=>QS (.rd p)):=by unfold Ik;simp only[to_bnd,to_rd]
theorem finT_rd:M4 (some (.rd p))=some (.ok p):=rfl
theorem Q0{x:Option Out}{r:Res PV}(h:To x λo=>M4 (some o)=some r):M4 x=some r:=by
 obtain⟨o,e,_,q⟩:=h;rw[e];exact q
end
section
variable{ρ:Rho}{QS:Out->Prop}{p:PV}
def Ny(QS:Out->Prop):Out->Prop
 |.rd _=>False
 |o=>QS o
theorem holdQ_nx:Ny QS (.nx ρ)=QS (.nx ρ):=rfl
theorem holdQ_rt:Ny QS (.rt p)=QS (.rt p):=rfl
theorem holdQ_ro:Ny QS (.ro p)=QS (.ro p):=rfl
end
section
variable{s t:Sn}{ρ:Rho}{z p:PV}{QS:Out->Prop}{Q:PV->Prop}{f:Fn PV}{i:Nat}
theorem Gu(h:s ρ=some (.ex z)):bB s t ρ=some (.ex z):=by unfold bB;rw[h]
theorem uV(h:To (s ρ) (ym (λρ'=>t ρ'=some (.ex z)) λ_=>False)):bB s t ρ=some (.ex z):=by
 obtain⟨o,e,_,q⟩:=h;cases o with
 |nx ρ'=>unfold bB;rw[e];exact q
 |_=>exact q.elim
theorem UW{it:Fn (List PV)}{tg:PV->Rho->Option Rho}(h:Tv (it ρ) λl=>loop tg s l ρ=some (.ex z)):lE it tg s ρ=some (.ex z):=by
 obtain⟨l,e,q⟩:=h;unfold lE;rw[e];exact q
theorem Nz{c:Fn Bool}(h:Tv (c ρ) λb=>if b=true then s ρ=some (.ex z) else t ρ=some (.ex z)):eZ c s t ρ=some (.ex z):=by
 obtain⟨b,e,q⟩:=h;unfold eZ;rw[e];cases b<;>exact q
theorem Dv{c:Str}{fs:List Str}{g:Fn (List PV)}(h:Tv (g ρ) λl=>l.length=fs.length/\.exc c (fs.zip l)=z):uU c fs g ρ=some (.ex z):=by
 obtain⟨l,e,q,rfl⟩:=h;unfold uU;rw[e];show(if _ then _ else _)=_
 rw[Zao q]
theorem U0{tg:PV->Rho->Option Rho}(h:f ρ=some (.ex z)):cM f tg ρ=some (.ex z):=by unfold cM;rw[h];rfl
theorem Q3(h:f ρ=some (.ex z)):yL f ρ=some (.ex z):=by unfold yL;rw[h];rfl
theorem Iv{m:List PV->Option (Res PV)}{g:Fn (List PV)}(h:Tv (g ρ) λl=>m l=some (.ex z)):bJ m g ρ=some (.ex z):=by
 obtain⟨l,e,q⟩:=h;unfold bJ;rw[e];exact q
theorem Q4{tg:PV->Rho->Option Rho}(I:Nat->Rho->Prop):∀ {l:List PV}{ρ:Rho}{k:Nat},k<l.length->I 0 ρ ->
  (∀ (i:Nat) x ρ,i<k->l[i]?=some x->I i ρ->∃ ρ1,tg x ρ=some ρ1/\To (s ρ1) (turn (I (i+1)) λ_=>False)) ->
  (∀ x ρ,l[k]?=some x->I k ρ->∃ ρ1,tg x ρ=some ρ1/\s ρ1=some (.ex z))->loop tg s l ρ=some (.ex z):=by
 intro l;induction l generalizing I with
 |nil=>exact λh=>absurd h (by simp)
 |cons x xs ih=>
  intro ρ k hk h0 hs hx;cases k with
  |zero=>
   obtain⟨ρ1,e1,e2⟩:=hx x ρ rfl h0;rw[loop,e1];simp only[e2]
  |succ k=>
   obtain⟨ρ1,e1,o,e2,c,q⟩:=hs 0 x ρ (by omega) rfl h0
   have go:∀ ρ2,I 1 ρ2->loop tg s xs ρ2=some (.ex z):=λρ2 q=>ih (λi=>I (i+1)) (by simpa using hk) q (λi y ρ hi e=>hs (i+1) y ρ (by omega) (by simpa using e)) λy ρ e=>hx y ρ (by simpa using e)
   rw[loop,e1];simp only[e2];cases o with
   |nx ρ2=>exact go ρ2 q
   |ct ρ2=>exact go ρ2 q
   |_=>exact q.elim
theorem zg{l:List PV}{i:Nat}{x:PV}(e:(kZ l)[i]?=some x):∃ y,l[i]?=some y/\x=.tup [.int i,y]:=by
 unfold kZ at e;rw[Zbe] at e;cases h:l[i]? with
 |none=>rw[h] at e;cases e
 |some y=>rw[h] at e;cases e;exact⟨y,rfl,rfl⟩
theorem NB{a b:Nat}(I:Nat->Rho->Prop){l:List PV}{k:Nat}(hk:k<l.length)(h0:I 0 ρ)
  (hs:∀ (i:Nat) x ρ,i<k->l[i]?=some x->I i ρ->To (s ((ρ.set a (some (.sh (.int i)))).set b (some (.sh x)))) (turn (I (i+1)) λ_=>False))
  (hx:∀ x ρ,l[k]?=some x->I k ρ->s ((ρ.set a (some (.sh (.int k)))).set b (some (.sh x)))=some (.ex z)):loop (gT 2 (gsCons (gN a) (gsCons (gN b) gsNil))) s (kZ l) ρ=some (.ex z):=by
 refine Q4 I (k:=k) (by simpa[kZ] using hk) h0 (λi x ρ hi e hI=>?_) λx ρ e hI=>?_
 ·obtain⟨y,e2,rfl⟩:=zg e;exact⟨_,rfl,hs i y ρ hi e2 hI⟩
 ·obtain⟨y,e2,rfl⟩:=zg e;exact⟨_,rfl,hx y ρ e2 hI⟩
theorem U3{hh:PV->Sn}(h:To (s ρ) QS):To (Gr s hh ρ) QS:=by
 obtain⟨o,e,c,q⟩:=h;refine⟨o,?_,c,q⟩;unfold Gr;rw[e];cases o with
 |ex z=>exact c.elim
 |_=>rfl
theorem U4{hh:PV->Sn}(h:s ρ=some (.ex z))(h2:To (hh z ρ) QS):To (Gr s hh ρ) QS:=by
 unfold Gr;rw[h];exact h2
def xu(i:Nat)(QS:Out->Prop):Out->Prop
 |.nx ρ=>QS (.nx (ρ.set i none))
 |.bk ρ=>QS (.bk (ρ.set i none))
 |.ct ρ=>QS (.ct (ρ.set i none))
 |o=>QS o
theorem goneQ_nx:xu i QS (.nx ρ)=QS (.nx (ρ.set i none)):=rfl
theorem goneQ_bk:xu i QS (.bk ρ)=QS (.bk (ρ.set i none)):=rfl
theorem goneQ_ct:xu i QS (.ct ρ)=QS (.ct (ρ.set i none)):=rfl
theorem goneQ_rt:xu i QS (.rt p)=QS (.rt p):=rfl
theorem goneQ_ro:xu i QS (.ro p)=QS (.ro p):=rfl
theorem to_gone{x:Option Out}:To (SN i x) QS=To x (xu i QS):=by
 refine propext ⟨?_,?_⟩
 ·rintro⟨o,e,c,q⟩;cases x with
  |none=>cases e
  |some y=>cases y<;>cases e<;>first|exact⟨_,rfl,trivial,q⟩|exact c.elim
 ·rintro⟨o,e,c,q⟩;subst e;cases o with
  |ex z=>exact c.elim
  |_=>exact⟨_,rfl,trivial,q⟩
theorem U5{sub:Str->Option Bool}{rest:PV->Sn}{c:Str}{l:List (Str×PV)}(h:sub c=some true):To (QK sub i s rest (.exc c l) ρ) QS=To (s (ρ.set i (some (.sh (.exc c l))))) (xu i QS):=by
 show To (match sub c with|some true=>_|some false=>_|none=>none) QS=_
 rw[h];exact to_gone
theorem nn_non:PV.non.pP=true:=rfl
theorem nn_int{i:Int}:(PV.int i).pP=false:=rfl
theorem nn_str{z:Str}:(PV.str z).pP=false:=rfl
theorem nn_bl{b:Bool}:(PV.bl b).pP=false:=rfl
theorem nn_tup{l:List PV}:(PV.tup l).pP=false:=rfl
theorem nn_lst{l:List PV}:(PV.lst l).pP=false:=rfl
theorem nn_exc{c:Str}{l:List (Str×PV)}:(PV.exc c l).pP=false:=rfl
def W4(sub:Str->Option Bool)(no:Bool):PV->Option Bool
 |.exc c (_::_)=>sub c
 |.non=>some no
 |_=>none
theorem tv_isX{sub:Str->Option Bool}{no:Bool}:Tv (Ds sub no f ρ) Q=Tv (f ρ) (λp=>∃ b,W4 sub no p=some b/\Q (.bl b)):=by
 unfold Ds;rw[tv_bnd];congr 1;funext p
 have no':∀ {P:Bool->Prop},Tv (none:Option (Res PV)) Q=∃ b,(none:Option Bool)=some b/\P b:=λ{P}=>by
  rw[j4];exact propext ⟨λh=>h.elim,λ⟨_,e,_⟩=>nomatch e⟩
 cases p with
 |non=>exact propext ⟨λ⟨r,e,q⟩=>by cases e;exact⟨no,rfl,q⟩,λ⟨b,e,q⟩=>by cases e;exact⟨_,rfl,q⟩⟩
 |exc c l=>
  cases l with
  |nil=>exact no'
  |cons x l=>
   show Tv ((sub c).map λb=>.ok (.bl b)) Q=∃ b,sub c=some b/\_
   cases h:sub c with
   |none=>exact no'
   |some b=>exact propext ⟨λ⟨r,e,q⟩=>by cases e;exact⟨b,rfl,q⟩,λ⟨b,e,q⟩=>by cases e;exact⟨_,rfl,q⟩⟩
 |_=>exact no'
def WD(nm:Str->Bool)(g:Str):PV->Option PV
 |.exc c (x::l)=>if nm c=true then(x::l).lookup g else none
 |_=>none
theorem tv_fldX{nm:Str->Bool}{g:Str}:Tv (za nm g f ρ) Q=Tv (f ρ) (λp=>∃ q,WD nm g p=some q/\Q q):=by
 unfold za;rw[tv_bnd];congr 1;funext p
 have no':Tv (none:Option (Res PV)) Q=∃ b,(none:Option PV)=some b/\Q b:=by
  rw[j4];exact propext ⟨λh=>h.elim,λ⟨_,e,_⟩=>nomatch e⟩
 cases p with
 |exc c l=>
  cases l with
  |nil=>exact no'
  |cons x l=>
   show Tv (if nm c=true then((x::l).lookup g).map .ok else none) Q=∃ q,(if nm c=true then(x::l).lookup g else none)=some q/\Q q
   by_cases hn:nm c=true
   ·rw[Zao hn,Zao hn];cases h:(x::l).lookup g with
    |none=>exact no'
    |some b=>exact propext ⟨λ⟨r,e,q⟩=>by cases e;exact⟨_,rfl,q⟩,λ⟨b,e,q⟩=>by cases e;exact⟨_,rfl,q⟩⟩
   ·rw[Zal hn,Zal hn];exact no'
 |_=>exact no'
end
def mY:Str->Option Bool:=λc=>if c="NoDeed" then some true else none
def uW:Str->Option Bool:=λc=>if c="NoDeed" then some true else none
def mZ:Str->Option Bool:=λc=>if c="NoDeed" then some true else none
def kt0:Str->Option Bool:=λc=>if c="NoDeed" then some false else none
def kt1:Str->Option Bool:=λc=>if c="NoDeed" then some false else none
def Dw:Str->Bool:=λc=>(["NoDeed"]:List Str).contains c
def eE:Sn:=
 (di (nA (m2 rY (mVL 0) (mC (.ty "int"))) (m1 CG (m2 rY (mVL 0) (mC (.ty "bool"))))))
def eN:List PV->Option (Res PV)
 |[a0]=>fin (eE (startR [a0] 0))
 |_=>none
def sZ:Sn:=
 (di (m2 cH (m2 je (m2 aY (mV 1) (mC (.int 1))) (m2 aY (mV 0) (mC (.int 0)))) (m2 aY (mV 1) (mC (.int 0)))))
def jj:List PV->Option (Res PV)
 |[a0,a1]=>fin (sZ (startR [a0,a1] 0))
 |_=>none
def tu:Sn:=
 (di (m2 iC (m2 CT (m2 HR (mV 1) (bJ jj (az (mV 0) (az (mV 2) aU)))) (mC (.int 1))) (mC (.int 1))))
def oX:List PV->Option (Res PV)
 |[a0,a1,a2]=>fin (tu (startR [a0,a1,a2] 0))
 |_=>none
def um:Sn:=
 (di (m2 qC (m2 CQ (mC (.int 1)) (m2 je (m2 aY (mV 0) (mC (.int 0))) (m2 aY (mV 0) (mC (.int 1))))) (mC (.int 1))))
def uo:List PV->Option (Res PV)
 |[a0]=>fin (um (startR [a0] 0))
 |_=>none
def xx:Sn:=
 (cM (m2 Qg (mV 2) (m2 CQ (mC (.int 1)) (bJ jj (az (mV 0) (az (mV 3) aU))))) (gN 2))
def xF:Sn:=
 (di (mV 2))
def xG:Sn:=
 (bB (cM (mC (.int 0)) (gN 2))
   (bB (lE (m1 pQ (mV 1)) (gN 3)
    xx)
   xF))
def uq:List PV->Option (Res PV)
 |[a0,a1]=>fin (xG (startR [a0,a1] 2))
 |_=>none
def rK:Sn:=
 (di (dM (az (m1 fZ (m2 aY (mV 0) (mC (.int 0)))) (az (m1 fZ (mVL 0)) aU))))
def rM:List PV->Option (Res PV)
 |[a0]=>fin (rK (startR [a0] 0))
 |_=>none
def m5:Sn:=
 (di (mC (.bl false)))
def su:Sn:=
 (di (mC (.bl false)))
def m6:Sn:=
 (di (nA (m1 yO (lg (jB (m1 pQ (Qk (mV 0) (m1 asInt (mC (.int 1))) mPn)) [none] (gN 0) qj (bJ eN (az (mV 0) aU))))) (m2 Ga (m2 aY (mV 0) (mC (.int 2))) (m2 aY (mV 0) (mC (.int 3))))))
def jq:Sn:=
 (bB (eZ (mOr (oE (m1 cU (m2 rY (m2 aY (mV 0) (mC (.int 0))) (mC (.ty "str"))))) (m1 cU (m2 oJ (m2 aY (mV 0) (mC (.int 0))) (dM (az (mC (.str "row")) (az (mC (.str "column")) aU))))))
    su
    dR)
   m6)
def cZ:Sn:=
 (bB (eZ (mOr (oE (m1 cU (m2 rY (mVL 0) (mC (.ty "tuple"))))) (m1 cU (m2 rW (m1 fZ (mVL 0)) (mC (.int 4)))))
    m5
    dR)
   jq)
def ik:List PV->Option (Res PV)
 |[a0]=>fin (cZ (startR [a0] 0))
 |_=>none
def oY:Sn:=
 (di (mIf (m1 cU (m2 iC (mVL 1) (mC (.str "row")))) (m2 aY (mV 0) (mC (.int 1))) (m2 aY (mV 0) (mC (.int 0)))))
def oZ:List PV->Option (Res PV)
 |[a0,a1]=>fin (oY (startR [a0,a1] 0))
 |_=>none
def lQ:Sn:=
 (di (mIf (m1 cU (m2 iC (mVL 1) (mC (.str "row")))) (m2 aY (mV 0) (mC (.int 0))) (m2 aY (mV 0) (mC (.int 1)))))
def lR:List PV->Option (Res PV)
 |[a0,a1]=>fin (lQ (startR [a0,a1] 0))
 |_=>none
def vh:Sn:=
 (di (mC (.bl false)))
def vm:Sn:=
 (di (nA (wC Ga wG (mC (.int 0)) (m2 aY (mV 1) (mC (.int 1))) (bJ oZ (az (mV 0) (az (m2 aY (mV 1) (mC (.int 0))) aU)))) (nA (m2 Ga (mC (.int 0)) (m2 aY (mV 1) (mC (.int 2)))) (m2 wG (m2 aY (mV 1) (mC (.int 3))) (bJ lR (az (mV 0) (az (m2 aY (mV 1) (mC (.int 0))) aU)))))))
def j9:Sn:=
 (bB (eZ (oE (m1 cU (bJ ik (az (mV 1) aU))))
    vh
    dR)
   vm)
def jk:List PV->Option (Res PV)
 |[a0,a1]=>fin (j9 (startR [a0,a1] 0))
 |_=>none
def nJ:Sn:=
 (wF (jB (m1 z7 (az (m2 aY (mV 0) (mC (.int 2))) (az (m2 cH (m2 aY (mV 0) (mC (.int 3))) (mC (.int 1))) aU))) [none,some 0] (gN 0) qj (dM (az (mV 0) (az (m2 aY (mV 1) (mC (.int 1))) aU)))))
def nM:Sn:=
 (wF (jB (m1 z7 (az (m2 aY (mV 0) (mC (.int 2))) (az (m2 cH (m2 aY (mV 0) (mC (.int 3))) (mC (.int 1))) aU))) [none,some 0] (gN 0) qj (dM (az (m2 aY (mV 1) (mC (.int 1))) (az (mV 0) aU)))))
def iI:Sn:=
 (bB (eZ (m1 cU (m2 iC (m2 aY (mV 0) (mC (.int 0))) (mC (.str "row"))))
    nJ
    dR)
   nM)
def iJ:List PV->Option (Res PV)
 |[a0]=>qD (iI (startR [a0] 0))
 |_=>none
def lU:Sn:=
 (di (bJ uq (az (mV 0) (az (bJ iJ (az (mV 1) aU)) aU))))
def lV:List PV->Option (Res PV)
 |[a0,a1]=>fin (lU (startR [a0,a1] 0))
 |_=>none
def ir:Sn:=
 (di (nA (bJ eN (az (mV 0) aU)) (m2 JP (mV 0) (mC (.int 0)))))
def dH:List PV->Option (Res PV)
 |[a0]=>fin (ir (startR [a0] 0))
 |_=>none
def qI:Sn:=
 (di (mC (.bl false)))
def qJ:Sn:=
 (di (mC (.bl false)))
def qK:Sn:=
 (di (bJ jk (az (mV 0) (az (m2 aY (mV 1) (mC (.int 2))) aU))))
def qL:Sn:=
 (di (nA (m2 iC (m2 aY (mV 1) (mC (.int 0))) (mC (.str "print"))) (bJ dH (az (m2 aY (mV 1) (mC (.int 2))) aU))))
def jC:Sn:=
 (bB (eZ (m1 cU (m2 iC (m2 aY (mV 1) (mC (.int 0))) (mC (.str "cut"))))
    qK
    dR)
   qL)
def gq:Sn:=
 (bB (eZ (mOr (oE (m1 cU (m2 rY (m2 aY (mV 1) (mC (.int 0))) (mC (.ty "str"))))) (oE (m1 cU (bJ dH (az (m2 aY (mV 1) (mC (.int 1))) aU)))))
    qJ
    dR)
   jC)
def cR:Sn:=
 (bB (eZ (mOr (oE (m1 cU (m2 rY (mVL 1) (mC (.ty "tuple"))))) (m1 cU (m2 rW (m1 fZ (mVL 1)) (mC (.int 3)))))
    qI
    dR)
   gq)
def kh:List PV->Option (Res PV)
 |[a0,a1]=>fin (cR (startR [a0,a1] 0))
 |_=>none
def qM:Sn:=
 (di (mC (.bl false)))
def lu:Sn:=
 (di (Qc (m2 iC (m1 fZ (mVL 0)) (mC (.int 0))) (m2 Qh (mV 1) (m2 aY (m2 aY (mV 0) (m1 wM (mC (.int 1)))) (mC (.int 0))))))
def d8:Sn:=
 (bB (eZ (zT (m1 cU (m2 Gb (mVL 2) (mC .non))) (m1 cU (m2 JP (mV 1) (mV 2))))
    qM
    dR)
   lu)
def fB:List PV->Option (Res PV)
 |[a0,a1,a2]=>fin (d8 (startR [a0,a1,a2] 0))
 |_=>none
def lW:Sn:=
 (uU "NoDeed" ["at"] (az (mV 5) aU))
def lX:Sn:=
 (Ii 3 (m2 CT (mV 7) (m1 Mz (bJ lV (az (mV 0) (az (m2 aY (mV 6) (mC (.int 2))) aU))))) (m2 aY (mV 6) (mC (.int 1))))
def lY:Sn:=
 (oG 4 (dM (az (m2 aY (mV 6) (mC (.int 2))) (az (mV 7) aU))))
def lZ:Sn:=
 (uU "NoDeed" ["at"] (az (mV 5) aU))
def iK:Sn:=
 (eZ (m1 cU (zU fB (az (mVL 4) (az (m2 aY (mV 6) (mC (.int 2))) (az (mVL 2) aU)))))
      lY
      lZ)
def iM:Sn:=
 (bB (cM (wX (rJ 3) (m2 aY (mV 6) (mC (.int 1))) (bJ uo (az (mV 0) aU))) (gN 7))
    (eZ (m1 cU (m2 iC (m2 aY (mV 6) (mC (.int 0))) (mC (.str "cut"))))
     lX
     iK))
def gb:Sn:=
 (bB (eZ (oE (m1 cU (bJ kh (az (mV 0) (az (mV 6) aU)))))
     lW
     dR)
    iM)
def mj:Sn:=
 (kW 4)
def dC:Sn:=
 (bB (kO 3 Mw)
   (bB (kO 4 (jc aU))
   (bB (lE (m1 oK (az (mV 1) aU)) (gT 2 (gsCons (gN 5) (gsCons (gN 6) gsNil)))
    gb)
   mj)))
def fJ:List PV->Option (Res PV)
 |[a0,a1,a2]=>qD (dC (startR [a0,a1,a2] 5))
 |_=>none
def Dy:Sn:=
 (di (m2 aY (mV 0) (mC (.int 2))))
def Dz:Sn:=
 (di (mV 3))
def DG:Sn:=
 (eZ (m1 cU (m2 iC (mVL 2) (mVL 1)))
     Dz
     dR)
def DK:Sn:=
 (di (mV 1))
def DN:Sn:=
 (bB (lE (m1 pQ (m2 aY (mV 0) (mC (.int 2)))) (gT 2 (gsCons (gN 2) (gsCons (gN 3) gsNil)))
    DG)
   DK)
def Ai:Sn:=
 (bB (eZ (m1 cU (m2 iC (m2 aY (mV 0) (mC (.int 0))) (mC (.str "cover"))))
    Dy
    dR)
   DN)
def Aj:List PV->Option (Res PV)
 |[a0,a1]=>fin (Ai (startR [a0,a1] 2))
 |_=>none
def sy:Sn:=
 (cM (bJ Aj (az (m2 aY (m2 aY (mV 0) (mC (.int 1))) (mV 3)) (az (mV 2) aU))) (gN 2))
def sE:Sn:=
 (di (mV 2))
def mq:Sn:=
 (bB (cM (m2 aY (mV 0) (mC (.int 0))) (gN 2))
   (bB (lE (m1 pQ (mV 1)) (gN 3)
    sy)
   sE))
def my:List PV->Option (Res PV)
 |[a0,a1]=>fin (mq (startR [a0,a1] 2))
 |_=>none
def o7:Sn:=
 (di (m1 Dg (lg (jB (m1 oK (az (mV 1) aU)) [none,none,some 0,some 2] (gT 2 (gsCons (gN 0) (gsCons (gN 1) gsNil))) (m1 cU (bJ oX (az (mV 2) (az (mV 1) (az (mV 3) aU))))) (mV 0)))))
def o8:List PV->Option (Res PV)
 |[a0,a1,a2]=>fin (o7 (startR [a0,a1,a2] 0))
 |_=>none
def jt:Sn:=
 (wF (jB (m1 jg (az (m2 aY (mV 1) (mC (.int 0))) aU)) [none,some 0,some 1,some 2,some 3] (gN 0) qj (bJ my (az (mV 1) (az (bJ o8 (az (mV 2) (az (mV 3) (az (dM (az (mV 0) (az (mV 4) aU))) aU)))) aU)))))
def ju:List PV->Option (Res PV)
 |[a0,a1,a2,a3]=>qD (jt (startR [a0,a1,a2,a3] 0))
 |_=>none
def rN:Sn:=
 (Ik (jB (m1 jg (az (m2 aY (mV 1) (mC (.int 1))) aU)) [none,some 0,some 1,some 2] (gN 0) qj (Ij (bJ ju (az (mV 1) (az (mV 2) (az (mV 3) (az (mV 0) aU))))))))
def rO:List PV->Option (Res PV)
 |[a0,a1,a2]=>M4 (rN (startR [a0,a1,a2] 0))
 |_=>none
def gC:Sn:=
 (bB (cM (m1 (ue (.dk [])) (gM 1)) (gN 2))
   (wF (jB (m1 jg (az (mV 0) aU)) [none,some 2] (gN 0) qj (wX (rJ 1) (mV 0) (mC (.int 0))))))
def eY:List PV->Option (Res PV)
 |[a0,a1]=>qD (gC (startR [a0,a1] 1))
 |_=>none
def nO:Sn:=
 (di (dM (az (mV 4) (az (mV 2) (az (mV 5) (az (m2 aY (m2 aY (mV 1) (mV 2)) (mV 4)) aU))))))
def nP:Sn:=
 (eZ (m1 cU (m2 rW (mVL 5) (m2 aY (m2 aY (mV 1) (mV 2)) (mV 4))))
      nO
      dR)
def nQ:Sn:=
 (lE (m1 oK (az (mV 3) aU)) (gT 2 (gsCons (gN 4) (gsCons (gN 5) gsNil)))
     nP)
def nR:Sn:=
 (di (mC .non))
def iQ:Sn:=
 (bB (lE (m1 oK (az (mV 0) aU)) (gT 2 (gsCons (gN 2) (gsCons (gN 3) gsNil)))
    nQ)
   nR)
def gr:List PV->Option (Res PV)
 |[a0,a1]=>fin (iQ (startR [a0,a1] 4))
 |_=>none
def gw:Sn:=
 (bB (cM (bJ rM (az (mV 1) aU)) (gN 3))
   (bB (cM (m1 fZ (m2 aY (mV 0) (mC (.int 1)))) (gN 4))
   (bB (cM (bJ fJ (az (mV 3) (az (mV 2) (az (mV 4) aU)))) (gN 5))
   (di (bJ gr (az (bJ rO (az (mV 0) (az (mV 3) (az (bJ eY (az (mV 4) (az (mV 5) aU))) aU)))) (az (mV 1) aU)))))))
def jD:List PV->Option (Res PV)
 |[a0,a1,a2]=>fin (gw (startR [a0,a1,a2] 3))
 |_=>none
def nU:Sn:=
 (di (m2 aY (mV 0) (mV 1)))
def nW:Sn:=
 (di (mC (.int 0)))
def lw:Sn:=
 (bB (eZ (m1 cU (m2 wG (mV 1) (m1 fZ (mVL 0))))
    nU
    dR)
   nW)
def cX:List PV->Option (Res PV)
 |[a0,a1]=>fin (lw (startR [a0,a1] 0))
 |_=>none
def pR:Sn:=
 (di (mV 0))
def pU:Sn:=
 (cM (m2 z9 (mV 0) (m2 pO (mC (.int 10)) (mC (.int 64)))) (gN 0))
def pW:Sn:=
 (di (m2 cH (m2 pO (mC (.int 10)) (mC (.int 20))) (mV 0)))
def pX:Sn:=
 (bB (lE (m1 jg (az (m2 je (mC (.int 4)) (mV 1)) aU)) (gN 2)
    pU)
   pW)
def jw:Sn:=
 (bB (eZ (m1 cU (m2 wG (mV 0) (m2 pO (mC (.int 10)) (mC (.int 20)))))
    pR
    dR)
   pX)
def du:List PV->Option (Res PV)
 |[a0,a1]=>fin (jw (startR [a0,a1] 1))
 |_=>none
def pY:Sn:=
 (bB (oG 2 (m2 cG (mV 3) (mC (.int 33554432))))
     (cM (m2 vf (mV 3) (mC (.int 33554432))) (gN 3)))
def pZ:Sn:=
 (kW 2)
def p6:Sn:=
 (bB (cM (m2 qC (mV 0) (m2 pO (mC (.int 10)) (mC (.int 20)))) (gN 3))
    (bB (lE (m1 jg (az (mV 1) aU)) (gN 4)
     pY)
    pZ))
def p7:Sn:=
 (bB (cM (m2 cH (m2 cH (m2 cH (m2 je (mV 3) (mV 3)) (m2 je (mC (.int 48271)) (mV 3))) (m2 je (mC (.int 7)) (mV 4))) (mC (.int 1))) (gN 3))
    (bB (cM (m2 cG (mV 3) (mC (.int 2147483647))) (gN 3))
    (oG 2 (m2 vf (mV 3) (mC (.int 64))))))
def p8:Sn:=
 (kW 2)
def qb:Sn:=
 (bB (cM (m2 cH (m2 cG (mV 0) (mC (.int 2147483647))) (mC (.int 48271))) (gN 3))
   (bB (lE (m1 jg (az (mV 1) aU)) (gN 4)
    p7)
   p8))
def m7:Sn:=
 (bB (kO 2 (jc aU))
   (bB (eZ (m1 cU (m2 JP (mV 0) (m2 pO (mC (.int 10)) (mC (.int 20)))))
    p6
    dR)
   qb))
def bW:List PV->Option (Res PV)
 |[a0,a1]=>qD (m7 (startR [a0,a1] 3))
 |_=>none
def qN:Sn:=
 (oG 6 (m2 cH (m2 cH (JQ (mV 4) mPn (m1 asInt (mV 5))) (mV 9)) (JQ (mV 4) (m1 asInt (mV 5)) mPn)))
def qO:Sn:=
 (oG 6 (m2 cH (mV 9) (JQ (mV 4) mPn (m1 asInt (m2 cG (mV 7) (m2 cH (m1 fZ (mVL 4)) (mC (.int 1))))))))
def qP:Sn:=
 (oG 6 (m2 cH (m2 aY (mV 2) (mV 8)) (mV 4)))
def qQ:Sn:=
 (eZ (m1 cU (m2 iC (m2 cG (m2 aY (mV 3) (mC (.int 10))) (mC (.int 3))) (mC (.int 1))))
      qO
      qP)
def qR:Sn:=
 (bB (cM (m2 cG (m2 cH (m2 aY (mV 3) (mC (.int 8))) (m2 je (m2 cH (mC (.int 1)) (m2 cG (m2 aY (mV 3) (mC (.int 9))) (mC (.int 22)))) (mV 7))) (mC (.int 23))) (gN 8))
    (bB (cM (m2 cH (m2 aY (mV 2) (m2 cG (m2 je (mV 8) (mC (.int 5))) (mC (.int 26)))) (m2 aY (mV 2) (mV 8))) (gN 9))
    (eZ (m1 cU (m2 iC (m2 cG (m2 aY (mV 3) (mC (.int 10))) (mC (.int 3))) (mC (.int 0))))
     qN
     qQ)))
def qT:Sn:=
 (kW 6)
def o9:Sn:=
 (bB (cM (mC (.str "abcdefghijklmnopqrstuvwxyz")) (gN 2))
   (bB (cM (bJ bW (az (mV 0) (az (mC (.int 12)) aU))) (gN 3))
   (bB (cM (Ie (mC (.str "")) (lg (jB (m1 pQ (z6 (gM 3) mPn (m1 asInt (m2 cG (m2 aY (mV 3) (mC (.int 6))) (mC (.int 7)))))) [none,some 2] (gN 0) qj (m2 aY (mV 1) (m2 cG (mV 0) (mC (.int 26))))))) (gN 4))
   (bB (cM (m2 cG (m2 aY (mV 3) (mC (.int 7))) (m2 cH (m1 fZ (mVL 4)) (mC (.int 1)))) (gN 5))
   (bB (kO 6 (jc aU))
   (bB (lE (m1 jg (az (mV 1) aU)) (gN 7)
    qR)
   qT))))))
def iR:List PV->Option (Res PV)
 |[a0,a1]=>qD (o9 (startR [a0,a1] 8))
 |_=>none
def sG:Sn:=
 (oG 0 (dM (az (mV 3) (az (m2 aY (mV 1) (m2 cG (m2 aY (mV 2) (mC (.int 2))) (m1 fZ (mVL 1)))) aU))))
def qU:Sn:=
 (bB (cM (m2 aY (mV 1) (m2 cG (m2 aY (mV 2) (mC (.int 1))) (m1 fZ (mVL 1)))) (gN 3))
   (eZ (zT (m1 cU (m2 wG (m1 fZ (mVL 0)) (mC (.int 8)))) (m1 cU (m2 oJ (mVL 3) (jB (gM 0) [none] (gN 0) qj (m2 aY (mV 0) (mC (.int 0)))))))
    sG
    dR))
def jE:List PV->Option (Res PV)
 |[a0,a1,a2]=>Di 0 (qU (jY 0 [a0,a1,a2] 1))
 |_=>none
def ur:Sn:=
 (di (dM (az (mC (.str "cover")) (az (mV 0) (az (m2 aY (mV 2) (m2 cG (m2 aY (mV 6) (mC (.int 1))) (m1 fZ (mVL 2)))) aU)))))
def pg:Sn:=
 (mIO 3 jE (wQ 3 (az (mV 2) (az (mV 6) aU))))
def uv:Sn:=
 (bB (cM (bJ bW (az (m2 cH (mV 5) (m2 je (mC (.int 31)) (mV 4))) (az (mC (.int 4)) aU))) (gN 6))
    (bB (eZ (zT (m1 cU (m2 iC (mVL 4) (mC (.int 0)))) (m1 cU (m2 iC (m2 cG (m2 aY (mV 6) (mC (.int 0))) (mC (.int 3))) (mC (.int 0)))))
     ur
     dR)
    pg))
def ph:Sn:=
 (di (dM (az (mC (.str "glaze")) (az (mV 0) (az (m1 Dg (gM 3)) aU)))))
def tD:Sn:=
 (bB (kO 3 (jc aU))
   (bB (lE (m1 oK (az (mV 1) aU)) (gT 2 (gsCons (gN 4) (gsCons (gN 5) gsNil)))
    uv)
   ph))
def lz:List PV->Option (Res PV)
 |[a0,a1,a2]=>fin (tD (startR [a0,a1,a2] 4))
 |_=>none
def qW:Sn:=
 (cM (jc (az (m2 cH (m2 aY (mV 1) (mC (.int 4))) (mV 6)) aU)) (gN 8))
def lA:Sn:=
 (oG 5 (bJ lz (az (mV 7) (az (mV 8) (az (mV 4) aU)))))
def qX:Sn:=
 (bB (cM (m2 aY (mV 2) (m2 cG (m2 cH (m2 aY (mV 1) (mC (.int 2))) (m2 je (m2 cH (mC (.int 1)) (m2 cG (m2 aY (mV 1) (mC (.int 3))) (mC (.int 22)))) (mV 6))) (mC (.int 23)))) (gN 7))
    (bB (cM (Qq (gM 0) (m1 asInt (m2 cH (mC (.int 2)) (mV 6))) (m1 asInt (mC (.int 63))) (m1 asInt (mV 3))) (gN 8))
    (bB (eZ (m1 cU (m2 iC (mVL 8) (jc aU)))
     qW
     dR)
    lA)))
def lB:Sn:=
 (Wj 5 (di (dM (az (m2 aY (mV 4) (m2 cG (m2 aY (mV 1) (mC (.int 5))) (m1 fZ (mVL 4)))) (az (mV 5) aU)))))
def pq:Sn:=
 (bB (cM (bJ bW (az (bJ cX (az (mV 0) (az (mC (.int 0)) aU))) (az (mC (.int 6)) aU))) (gN 1))
   (bB (cM (bJ iR (az (bJ cX (az (mV 0) (az (mC (.int 1)) aU))) (az (mC (.int 23)) aU))) (gN 2))
   (bB (cM (m2 cH (mC (.int 1)) (m2 cG (m2 aY (mV 1) (mC (.int 0))) (mC (.int 8)))) (gN 3))
   (bB (cM (z6 (gM 2) mPn (m1 asInt (m2 wH (lg (jc (az (m2 cH (mC (.int 1)) (m2 cG (m2 aY (mV 1) (mC (.int 1))) (mC (.int 10)))) (az (mC (.int 10)) aU)))) (m2 cG (m2 vf (m2 aY (mV 1) (mC (.int 1))) (mC (.int 10))) (mC (.int 2)))))) (gN 4))
   (bB (kO 5 (jc aU))
   (bB (lE (m1 jg (az (mV 3) aU)) (gN 6)
    qX)
   lB))))))
def iT:List PV->Option (Res PV)
 |[a0]=>fin (pq (startR [a0] 8))
 |_=>none
def mz:Sn:=
 (bB (cM (bJ bW (az (m2 cH (bJ du (az (mV 0) (az (mC (.int 1)) aU))) (mC (.int 5))) (az (mC (.int 4)) aU))) (gN 1))
   (di (m1 Dg (lg (jB (m1 jg (az (mC (.int 2)) aU)) [none,some 1] (gN 0) qj (m2 wH (lg (jc (az (mC (.int 1)) (az (mC (.int 24)) (az (m2 cH (mC (.int 1)) (m2 cG (m2 aY (mV 1) (mV 0)) (mC (.int 24)))) (az (m2 cH (mC (.int 1)) (m2 cG (m2 aY (mV 1) (mV 0)) (mC (.int 6)))) aU)))))) (m2 cG (m2 vf (m2 aY (mV 1) (m2 cH (mC (.int 2)) (mV 0))) (mC (.int 24))) (mC (.int 4)))))))))
def jF:List PV->Option (Res PV)
 |[a0]=>fin (mz (startR [a0] 1))
 |_=>none
def jx:Sn:=
 (bB (cM (m2 cG (m2 aY (mV 1) (mC (.int 1))) (mC (.int 2))) (gN 2))
   (bB (cM (m2 cG (m2 aY (mV 1) (mC (.int 2))) (m2 aY (mV 0) (m2 qC (mC (.int 1)) (mV 2)))) (gN 3))
   (bB (cM (m2 cG (m2 aY (mV 1) (mC (.int 3))) (m2 aY (mV 0) (mV 2))) (gN 4))
   (bB (cM (m2 cH (mV 4) (m2 cG (m2 aY (mV 1) (mC (.int 4))) (m2 qC (m2 aY (mV 0) (mV 2)) (mV 4)))) (gN 5))
   (di (dM (az (m2 wH (lg (jc (az (mC (.str "row")) (az (mC (.str "column")) aU)))) (mV 2)) (az (mV 3) (az (mV 4) (az (mV 5) aU))))))))))
def gP:List PV->Option (Res PV)
 |[a0,a1]=>fin (jx (startR [a0,a1] 4))
 |_=>none
def sI:Sn:=
 (bB (cM (m2 cH (mV 4) (m2 je (m2 cG (m2 aY (mV 7) (mC (.int 7))) (mC (.int 2))) (m2 cG (m2 vf (m2 aY (mV 7) (mC (.int 7))) (mC (.int 2))) (m2 qC (mV 2) (mV 4))))) (gN 4))
     (bB (oG 3 (dM (az (mC (.str "print")) (az (mV 8) (az (mV 4) aU)))))
     (cM (m2 cH (mV 4) (mC (.int 1))) (gN 4))))
def m9:Sn:=
 (oG 3 (dM (az (mC (.str "cut")) (az (mV 8) (az (bJ gP (az (mV 1) (az (mV 7) aU))) aU)))))
def sJ:Sn:=
 (bB (cM (bJ bW (az (m2 cH (m2 cH (bJ du (az (mV 6) (az (mC (.int 1)) aU))) (mC (.int 977))) (m2 je (mC (.int 31)) (mV 5))) (az (mC (.int 8)) aU))) (gN 7))
    (bB (cM (m2 wH (lg (jc (az (mC (.int 0)) (az (mC (.int 1)) (az (mC (.int 2)) (az (m2 cG (m2 aY (mV 7) (mC (.int 5))) (m2 pO (mC (.int 10)) (mC (.int 18)))) aU)))))) (m2 cG (m2 aY (mV 7) (mC (.int 6))) (mC (.int 4)))) (gN 8))
    (eZ (zT (m1 cU (m2 iC (m2 cG (m2 aY (mV 7) (mC (.int 0))) (mC (.int 4))) (mC (.int 0)))) (m1 cU (m2 wG (mV 4) (mV 2))))
     sI
     m9)))
def sO:Sn:=
 (kW 3)
def mD:Sn:=
 (bB (kO 3 (jc aU))
   (bB (cM (mC (.int 0)) (gN 4))
   (bB (lE (m1 oK (az (z6 (gM 0) (m1 asInt (mC (.int 3))) (m1 asInt (mC (.int 63)))) aU)) (gT 2 (gsCons (gN 5) (gsCons (gN 6) gsNil)))
    sJ)
   sO)))
def jG:List PV->Option (Res PV)
 |[a0,a1,a2]=>qD (mD (startR [a0,a1,a2] 6))
 |_=>none
def uw:Sn:=
 (oG 6 (dM (az (mC (.str "print")) (az (m2 cG (m2 aY (mV 2) (mC (.int 3))) (mC (.int 3))) (az (mV 7) aU)))))
def ux:Sn:=
 (oG 6 (dM (az (mC (.str "cut")) (az (mC (.int 0)) (az (mV 8) aU)))))
def uy:Sn:=
 (oG 6 (dM (az (mC (.str "cut")) (az (m2 cG (m2 aY (mV 2) (mC (.int 4))) (m2 pO (mC (.int 10)) (mC (.int 18)))) (az (mV 8) aU)))))
def uz:Sn:=
 (bB (kO 6 (m2 wJ (gM 6) (lg (jc (az (dM (az (mC (.str "print")) (az (mC (.int 0)) (az (mC (.bl true)) aU)))) (az (dM (az (mC (.str "print")) (az (mC (.bl true)) (az (m2 qC (mV 1) (mC (.int 1))) aU)))) (az (dM (az (mC (.str "print")) (az (mC (.bl false)) (az (mC (.int 0)) aU)))) (az (dM (az (jc aU) (az (mC (.int 0)) (az (dM (az (mC (.str "row")) (az (mC (.int 0)) (az (mC (.int 0)) (az (mC (.int 0)) aU))))) aU)))) aU))))))))
   (bB (oG 6 (dM (az (mC (.str "cut")) (az (mC (.bl false)) (az (dM (az (mC (.str "row")) (az (mC (.int 0)) (az (mC (.int 0)) (az (mC (.int 0)) aU))))) aU)))))
   (di (m2 wH (gM 6) (m2 cG (m2 aY (mV 2) (mC (.int 2))) (mC (.int 35)))))))
def uA:Sn:=
 (bB (lE (m1 pQ (jc (az (dM (az (mC (.str "column")) (az (mC (.int 0)) (az (mC (.int 0)) (az (mV 4) aU))))) (az (dM (az (mC (.str "line")) (az (mC (.int 0)) (az (mC (.int 0)) (az (mC (.int 0)) aU))))) (az (dM (az (mC (.str "row")) (az (m1 wM (mC (.int 1))) (az (mC (.int 0)) (az (mC (.int 0)) aU))))) (az (jc (az (mC (.str "row")) (az (mC (.int 0)) (az (mC (.int 0)) (az (mC (.int 0)) aU))))) (az (dM (az (mC (.str "row")) (az (mC (.int 0)) (az (m1 wM (mC (.int 1))) (az (mC (.int 0)) aU))))) aU))))))) (gN 8)
    uy)
   uz)
def uB:Sn:=
 (bB (lE (m1 pQ (jc (az (dM (az (mC (.str "row")) (az (mV 4) (az (mC (.int 0)) (az (mC (.int 0)) aU))))) (az (dM (az (mC (.str "row")) (az (mC (.int 0)) (az (mC (.int 0)) (az (mV 3) aU))))) (az (dM (az (mC (.str "row")) (az (mC (.int 0)) (az (mC (.int 1)) (az (mC (.int 0)) aU))))) (az (dM (az (mC (.str "column")) (az (mV 3) (az (mC (.int 0)) (az (mC (.int 0)) aU))))) (az (dM (az (mC (.str "row")) (az (mC (.int 0)) (az (mC (.int 0)) aU)))) aU))))))) (gN 8)
    ux)
   uA)
def pA:Sn:=
 (bB (cM (mV 0) (gT 2 (gsCons (gN 3) (gsCons (gN 4) gsNil))))
   (bB (cM (jc (az (mC (.int 0)) (az (m2 qC (mV 1) (mC (.int 1))) (az (mV 1) (az (m2 pO (mC (.int 10)) (mC (.int 18))) aU))))) (gN 5))
   (bB (kO 6 (jc (az (mC .non) (az (mC (.int 7)) (az (mC (.str "cut")) (az (jc aU) (az (dM aU) (az (dM (az (mC (.str "cut")) (az (mC (.int 0)) aU))) (az (jc (az (mC (.str "print")) (az (mC (.int 0)) (az (mC (.int 0)) aU)))) (az (dM (az (mC (.str "print")) (az (mC (.int 0)) aU))) (az (dM (az (mC (.str "print")) (az (m1 wM (mC (.int 1))) (az (mC (.int 0)) aU)))) (az (dM (az (mC (.str "print")) (az (mC (.int 0)) (az (mC .non) aU)))) aU))))))))))))
   (bB (kO 6 (m2 wJ (gM 6) (lg (jc (az (dM (az (mC (.str "print")) (az (mC (.int 0)) (az (m1 wM (mC (.int 1))) aU)))) (az (dM (az (mC (.str "print")) (az (mC (.int 0)) (az (mC (.str "0")) aU)))) (az (dM (az (mC (.str "print")) (az (mC (.str "0")) (az (mC (.int 0)) aU)))) (az (dM (az (mC (.str "Print")) (az (mC (.int 0)) (az (mC (.int 0)) aU)))) (az (dM (az (mC (.int 0)) (az (mC (.int 0)) (az (mC (.int 0)) aU)))) (az (dM (az (mC (.str "print")) (az (mC (.int 0)) (az (mC (.int 0)) (az (mC (.int 0)) aU))))) aU))))))))))
   (bB (lE (m1 pQ (mV 5)) (gN 7)
    uw)
   uB)))))
def pB:List PV->Option (Res PV)
 |[a0,a1,a2]=>fin (pA (startR [a0,a1,a2] 6))
 |_=>none
def qd:Sn:=
 (cM (m1 fZ (mVL 5)) (gN 7))
def qe:Sn:=
 (bB (cM (dM (az (mC (.str "print")) (az (mC (.int 0)) (az (m2 cH (mV 2) (m2 cG (m2 aY (mV 4) (mC (.int 10))) (mC (.int 5)))) aU)))) (gN 8))
     (cM (m1 fZ (mVL 5)) (gN 7)))
def jM:Sn:=
 (kO 5 (m2 wJ (lg (m2 wJ (lg (z6 (gM 5) mPn (m1 asInt (mV 7)))) (lg (jc (az (mV 8) aU))))) (lg (z6 (gM 5) (m1 asInt (mV 7)) mPn))))
def jN:Sn:=
 (bB (cM (bJ pB (az (mV 1) (az (mV 2) (az (z6 (gM 4) (m1 asInt (m2 je (mC (.int 5)) (mV 6))) mPn) aU)))) (gN 8))
    (bB (eZ (zT (m1 cU (m2 iC (mVL 6) (mC (.int 1)))) (m1 cU (m2 iC (m2 cG (m2 aY (mV 4) (mC (.int 11))) (mC (.int 3))) (mC (.int 0)))))
     qe
     dR)
    jM))
def qg:Sn:=
 (bB (cM (m2 cG (m2 aY (mV 4) (m2 cH (mC (.int 1)) (m2 je (mC (.int 5)) (mV 6)))) (m2 cH (m1 fZ (mVL 5)) (mC (.int 1)))) (gN 7))
    (bB (eZ (m1 cU (m2 iC (m2 cG (m2 aY (mV 4) (m2 cH (mC (.int 5)) (m2 je (mC (.int 5)) (mV 6)))) (mC (.int 4))) (mC (.int 0))))
     qd
     dR)
    jN))
def qi:Sn:=
 (kW 5)
def jy:Sn:=
 (bB (cM (bJ bW (az (m2 cH (bJ du (az (mV 3) (az (mC (.int 1)) aU))) (mC (.int 41))) (az (mC (.int 12)) aU))) (gN 4))
   (bB (kO 5 (m1 z8 (gM 0)))
   (bB (lE (m1 jg (az (m2 cH (mC (.int 1)) (m2 cG (m2 aY (mV 4) (mC (.int 0))) (mC (.int 2)))) aU)) (gN 6)
    qg)
   qi)))
def gQ:List PV->Option (Res PV)
 |[a0,a1,a2,a3]=>qD (jy (startR [a0,a1,a2,a3] 5))
 |_=>none
def dI:Sn:=
 (di (nA (m2 rY (mVL 0) (mC (.ty "int"))) (nA (m1 CG (m2 rY (mVL 0) (mC (.ty "bool")))) (wC Ga wG (mC (.int 0)) (mV 0) (mV 1)))))
def cF:List PV->Option (Res PV)
 |[a0,a1]=>fin (dI (startR [a0,a1] 0))
 |_=>none
def mF:Sn:=
 (di (mC (.bl false)))
def qY:Sn:=
 (di (mC (.bl false)))
def vo:Sn:=
 (di (bJ cF (az (m2 aY (mV 1) (mC (.int 2))) (az (m2 cH (m2 aY (mV 1) (mC (.int 3))) (mC (.int 1))) aU))))
def qZ:Sn:=
 (bB (cM (m1 Ib (m2 iC (m2 aY (mV 1) (mC (.int 0))) (mC (.str "column")))) (gN 2))
   (bB (eZ (mOr (oE (m1 cU (bJ cF (az (m2 aY (mV 1) (mC (.int 1))) (az (m2 aY (mV 0) (m2 qC (mC (.int 1)) (mV 2))) aU))))) (oE (m1 cU (bJ cF (az (m2 aY (mV 1) (mC (.int 3))) (az (m2 aY (mV 0) (mV 2)) aU))))))
    qY
    dR)
   vo))
def fO:Sn:=
 (bB (eZ (mOr (oE (m1 cU (m2 rY (mVL 1) (mC (.ty "tuple"))))) (mOr (m1 cU (m2 rW (m1 fZ (mVL 1)) (mC (.int 4)))) (zT (m1 cU (m2 rW (m2 aY (mV 1) (mC (.int 0))) (mC (.str "row")))) (m1 cU (m2 rW (m2 aY (mV 1) (mC (.int 0))) (mC (.str "column")))))))
    mF
    dR)
   qZ)
def iu:List PV->Option (Res PV)
 |[a0,a1]=>fin (fO (startR [a0,a1] 1))
 |_=>none
def iU:Sn:=
 (di (mV 4))
def iV:Sn:=
 (di (mV 4))
def q9:Sn:=
 (cM (m2 cH (m2 aY (mV 5) (mC (.int 2))) (mC (.int 1))) (gN 3))
def iW:Sn:=
 (bB (eZ (mOr (oE (m1 cU (bJ cF (az (m2 aY (mV 5) (mC (.int 2))) (az (mV 2) aU))))) (m1 cU (m2 wG (m2 aY (mV 5) (mC (.int 2))) (mV 3))))
      iV
      dR)
     q9)
def lC:Sn:=
 (di (mV 4))
def iY:Sn:=
 (eZ (mOr (m1 cU (m2 rW (m2 aY (mV 5) (mC (.int 0))) (mC (.str "cut")))) (oE (m1 cU (bJ iu (az (mV 1) (az (m2 aY (mV 5) (mC (.int 2))) aU))))))
      lC
      dR)
def dU:Sn:=
 (eZ (m1 cU (m2 iC (m2 aY (mV 5) (mC (.int 0))) (mC (.str "print"))))
     iW
     iY)
def cj:Sn:=
 (bB (eZ (mOr (oE (m1 cU (m2 rY (mVL 5) (mC (.ty "tuple"))))) (mOr (m1 cU (m2 rW (m1 fZ (mVL 5)) (mC (.int 3)))) (oE (m1 cU (bJ cF (az (m2 aY (mV 5) (mC (.int 1))) (az (m2 pO (mC (.int 10)) (mC (.int 19))) aU)))))))
     iU
     dR)
    dU)
def rA:Sn:=
 (di (mC .non))
def gD:Sn:=
 (bB (cM (mC (.int 0)) (gN 3))
   (bB (lE (m1 oK (az (mV 0) aU)) (gT 2 (gsCons (gN 4) (gsCons (gN 5) gsNil)))
    cj)
   rA))
def iZ:List PV->Option (Res PV)
 |[a0,a1,a2]=>fin (gD (startR [a0,a1,a2] 3))
 |_=>none
def xH:Sn:=
 (di (mC (.bl true)))
def rB:Sn:=
 (di (Ds kt1 false (mVL 0)))
def j5:Sn:=
 (bB (eZ (m1 cU (Ds kt0 false (mVL 0)))
    xH
    dR)
   rB)
def jb:List PV->Option (Res PV)
 |[a0]=>fin (j5 (startR [a0] 0))
 |_=>none
def Iw:Sn:=
 (cM (mV 8) (gN 7))
def Q5:Sn:=
 (di (mC (.bl false)))
def Iz:Sn:=
 (di (m2 HS (mVL 7) (mC .non)))
def Q6:Sn:=
 (di (mC (.bl false)))
def IK:Sn:=
 (di (nA (m2 rY (za Dw "at" (mV 7)) (mC (.ty "int"))) (nA (m1 CG (m2 rY (za Dw "at" (mV 7)) (mC (.ty "bool")))) (m2 iC (za Dw "at" (mV 7)) (mVL 5)))))
def IV:Sn:=
 (bB (eZ (mOr (oE (m1 cU (Ds uW false (mVL 7)))) (mOr (oE (m1 cU (Ds mZ false (mVL 7)))) (m1 cU (bJ jb (az (mV 7) aU)))))
    Q6
    dR)
   IK)
def Ak:Sn:=
 (bB (eZ (m1 cU (m2 HS (mVL 5) (mC .non)))
    Iz
    dR)
   IV)
def Al:Sn:=
 (bB (eZ (m1 cU (m2 rW (mVL 6) (mVL 4)))
    Q5
    dR)
   Ak)
def IW:Sn:=
 (bB (cM (bJ iT (az (mV 0) aU)) (gN 1))
   (bB (cM (bJ jF (az (bJ cX (az (mV 0) (az (mC (.int 0)) aU))) aU)) (gN 2))
   (bB (cM (m1 fZ (m2 aY (mV 1) (mC (.int 1)))) (gN 3))
   (bB (cM (bJ gQ (az (bJ jG (az (mV 0) (az (mV 2) (az (mV 3) aU)))) (az (mV 2) (az (mV 3) (az (bJ cX (az (mV 0) (az (mC (.int 2)) aU))) aU))))) (gN 4))
   (bB (cM (bJ iZ (az (mV 4) (az (mV 2) (az (mV 3) aU)))) (gN 5))
   (bB (cM (m1 z8 (gM 4)) (gN 6))
   (bB (cM (mC .non) (gN 7))
   (bB (Gr (yL (bJ jD (az (mV 1) (az (jB (m1 jg (az (m2 aY (mV 2) (mC (.int 1))) aU)) [none,some 2,some 1] (gN 0) qj (Qj (jc (az (m2 aY (mV 2) (mC (.int 0))) aU)) (m2 aY (mV 1) (mC (.int 0))))) (az (mV 6) aU)))))
    (QK mY 8 Iw SJ))
   Al))))))))
def zj:List PV->Option (Res PV)
 |[a0]=>fin (IW (startR [a0] 8))
 |_=>none
local macro_rules|`(tactic| walk_at "rd")=>do
 let ids:=("onNx_nx onNx_rt onNx_ro onNx_rd onNx_bk onNx_ct tv_some to_nx to_rt to_ro to_rd to_bk to_ct tv_ite to_ite turn_nx turn_ct turn_bk turn_rt turn_ro turn_rd tv_bnd to_bnd to_seq tv_m2 tv_m1 tv_var tv_lend tv_c tv_view tv_viewN tv_asLst tv_nil tv_cons tv_tup tv_lst tv_call tv_callL tv_mIf tv_mAnd tv_mOr tv_mNot tv_and tv_or tv_chain tv_comp tv_compN tv_compC tv_yes to_next to_ret to_retO to_drop holdQ_nx holdQ_rt holdQ_ro to_setO to_retD tv_deep to_asgN to_asg to_if to_for to_retOw to_app to_frz tv_consO to_io tv_neg tv_newD tv_viewDN tv_dget2 tv_dictP tv_inv tv_divL to_dput dF_int dF_str dF_tup isD_dk isD_dt is_dk_int is_dk_str finIO_nx tv_isX nn_non nn_int nn_str nn_bl nn_tup nn_lst nn_exc tv_fldX to_gone goneQ_nx goneQ_bk goneQ_ct goneQ_rt goneQ_ro tv_sub tv_and' tv_or' tv_gt tv_ge tv_div tv_mod tv_pow tv_shl tv_shr tv_add tv_addS tv_addT tv_mul tv_mulS tv_lt tv_ltS tv_le tv_leS tv_eqI tv_eqS tv_neI tv_neS tv_eq tv_ne tv_notin tv_isN tv_notN tv_ixL tv_ixT tv_ixV tv_ixS tv_lenS tv_lenL tv_lenT tv_is tv_asBl tv_not tv_intI tv_intB tv_list tv_opTup tv_cat tv_asSeqL tv_asSeqT tv_asSeqS tv_rng1 tv_rng2 tv_enum tv_pn tv_asInt tv_slL tv_slK tv_slS tv_slT tv_opSlS tv_opSlT tv_opRep tv_rep tv_join tv_opJoin tv_all startR fin_nx fin_rt finO_ro finT_rd gN gT gsCons gsNil szP cellP List.map_cons List.map_nil List.replicate_succ List.replicate_zero List.cons_append List.nil_append List.append_nil List.getElem?_cons_zero List.getElem?_cons_succ List.set_cons_zero List.set_cons_succ List.length_cons List.length_nil Nat.zero_le true_and and_true Option.some.injEq Sl.sh.injEq Sl.ow.injEq Sl.dp.injEq Res.ok.injEq PV.int.injEq PV.str.injEq PV.bl.injEq PV.lst.injEq PV.tup.injEq exists_eq_left' exists_eq_left exists_eq and_assoc exists_and_left if_true if_false not_true_eq_false not_false_eq_true Bool.false_eq_true Bool.not_true Bool.not_false decide_eq_true_eq Bool.not_eq_true' decide_eq_false_iff_not reduceCtorEq is_non_int is_non_bool is_non_str is_non_list is_non_tuple is_non_dict is_bl_int is_bl_bool is_bl_str is_bl_list is_bl_tuple is_bl_dict is_int_int is_int_bool is_int_str is_int_list is_int_tuple is_int_dict is_str_int is_str_bool is_str_str is_str_list is_str_tuple is_str_dict is_tup_int is_tup_bool is_tup_str is_tup_list is_tup_tuple is_tup_dict is_lst_int is_lst_bool is_lst_str is_lst_list is_lst_tuple is_lst_dict Int.reduceAdd Int.reduceSub Int.reduceMul Int.reduceNeg Int.reduceToNat atI_0 atI_1 atI_2 atI_3 snocI snocS snocC eqF_int eqF_str eqF_bl frR shOnly".splitOn " ").toArray.map λs=>Lean.mkIdent s.toName
 `(tactic| simp(maxSteps:=2000000) only[$[$ids:ident],*])
theorem kj(c m:Int)(m0:0<=m)(m1:m<=1000):∃ ns:List Int,bW [.int c,.int m]=some (.ok (.lst (ns.map .int)))/\(ns.length:Int)=m/\∀ n∈ns,0<=n/\n<33554432:=by
 have e1:((m.toNat:Nat):Int)=m:=ZaU m0;have b1:∀ n:Nat,n<m.toNat->n<sizeLine:=λn h=>bU (by omega)
 have more:∀ {ns:List Int}{z:Int},(∀ n∈ns,0<=n/\n<33554432)->0<=z->z<33554432->∀ n∈ns++[z],0<=n/\n<33554432:=λ{ns z} hb h1 h2 n hn=>by
  rcases ZaR.mp hn with h|h
  ·exact hb n h
  ·have e:n=z:=by simpa using h
   rw[e];exact⟨h1,h2⟩
 suffices h:∃ p,bW [.int c,.int m]=some (.ok p)/\∃ ns:List Int,p=.lst (ns.map .int)/\(ns.length:Int)=m/\∀ n∈ns,0<=n/\n<33554432 by
  obtain⟨p,e,ns,rfl,h⟩:=h;exact⟨ns,e,h⟩
 refine ul ?_;unfold m7;walk_at "rd"
 refine⟨by decide,by decide,by decide,jK (λ_=>?_) (λ_=>?_)⟩
 ·unfold p6;walk_at "rd"
  refine⟨by decide,by decide,by decide,by omega,by omega,?_⟩
  refine gm (λi ρ=>∃ (ns:List Int) (n:Int) (v:Option Sl),ρ=[some (.sh (.int c)),some (.sh (.int m)),some (.ow (.lst (ns.map .int))),some (.sh (.int n)),v]/\ns.length=i/\∀ n∈ns,0<=n/\n<33554432) ⟨[],_,none,rfl,rfl,λ_ h=>nomatch h⟩ ?_ ?_
  ·rintro i x ρ hx ⟨ns,n,v,rfl,hl,hb⟩;have hi:i<m.toNat:=by simpa[mU] using cY hx
   unfold pY;walk_at "rd"
   refine⟨by decide,by rw[List.length_map,hl];exact b1 i hi,by decide,by decide,ns++[n%33554432],_,_,rfl,by rw[List.length_append,hl];rfl,more hb (Zam _ (by decide)) (Zak _ (by decide))⟩
  ·rintro ρ ⟨ns,n,v,rfl,hl,hb⟩;unfold pZ;walk_at "rd"
   exact⟨ns,rfl,by rw[hl,cJ];exact e1,hb⟩
 ·unfold qb;walk_at "rd"
  refine⟨by decide,by omega,by omega,?_⟩
  refine gm (λi ρ=>∃ (ns:List Int) (n:Int) (v:Option Sl),ρ=[some (.sh (.int c)),some (.sh (.int m)),some (.ow (.lst (ns.map .int))),some (.sh (.int n)),v]/\ns.length=i/\(∀ n∈ns,0<=n/\n<33554432)/\0<=n/\n<4294967296)
   ⟨[],_,none,rfl,rfl,(λ_ h=>nomatch h),by omega,by omega⟩ ?_ ?_
  ·rintro i x ρ hx ⟨ns,n,v,rfl,hl,hb,n0,n1⟩;have hi:i<m.toNat:=by simpa[mU] using cY hx
   have ex:x=.int (0+(i:Int)):=by
    unfold mU at hx;rw[Zaf,ZaO hi] at hx;exact(Zaa hx).symm
   subst ex;unfold p7;walk_at "rd"
   refine⟨.inl ⟨by omega,by omega⟩,.inl ⟨by decide,by decide⟩,.inl ⟨by decide,by decide⟩,by decide,by decide,by decide,by rw[List.length_map,hl];exact b1 i hi,?_⟩
   generalize hz:(n*n+48271*n+7*(0+(i:Int))+1)%2147483647=z
   have z0:0<=z:=by rw[<-hz];exact Zam _ (by decide)
   have z1:z<2147483647:=by rw[<-hz];exact Zak _ (by decide)
   exact⟨ns++[z/64],_,_,rfl,by rw[List.length_append,hl];rfl,more hb (by omega) (by omega),by omega,by omega⟩
  ·rintro ρ ⟨ns,n,v,rfl,hl,hb,_⟩;unfold p8;walk_at "rd"
   exact⟨ns,rfl,by rw[hl,cJ];exact e1,hb⟩
theorem pC(ns:List Int)(i:Int)(i0:0<=i):∃ n:Int,cX [.lst (ns.map .int),.int i]=some (.ok (.int n)):=by
 suffices h:∃ p,cX [.lst (ns.map .int),.int i]=some (.ok p)/\∃ n,p=.int n by
  obtain⟨p,e,n,rfl⟩:=h;exact⟨n,e⟩
 refine qH ?_;unfold lw;walk_at "rd"
 refine jK (λh=>?_) (λh=>?_)
 ·unfold nU;walk_at "rd"
  exact⟨_,fM i0 (by rw[List.length_map] at h;exact h),_,rfl⟩
 ·unfold nW;walk_at "rd"
  exact⟨_,rfl⟩
structure Sz(w h:Int):Prop where
 w0:1<=w
 w1:w<=24
 h0:1<=h
 h1:h<=24
theorem Sz.mul{w h:Int}(s:Sz w h):1<=w*h/\w*h<=576:=by
 obtain⟨a,b,c,d⟩:=s;have e1:1*1<=w*h:=Int.mul_le_mul a c (by decide) (by lia)
 have e2:w*h<=24*24:=Int.mul_le_mul b d (by lia) (by decide)
 lia
theorem Sz.at{w h c r:Int}(_:Sz w h)(c0:0<=c)(c1:c<w)(r0:0<=r)(r1:r<h):0<=r*w+c/\r*w+c<w*h:=by
 have e1:0<=r*w:=Int.mul_nonneg r0 (by lia)
 have e2:(r+1)*w<=h*w:=Int.mul_le_mul_of_nonneg_right (by lia) (by lia)
 rw[Int.add_mul,Int.one_mul] at e2;rw[Int.mul_comm w h];lia
theorem Sz.nat{w h:Int}(s:Sz w h):w.toNat*h.toNat=(w*h).toNat/\w.toNat*h.toNat<=576:=by
 have hm:=s.mul;obtain⟨a,b,c,d⟩:=s;obtain⟨x,rfl⟩:=ZaZ (show 0<=w by omega)
 obtain⟨y,rfl⟩:=ZaZ (show 0<=h by omega)
 have e:(x:Int)*(y:Int)=((x*y:Nat):Int):=by simp
 rw[e] at hm ⊢;simp only[ZaJ];have h2:((x*y:Nat):Int)<=((576:Nat):Int):=hm.2;exact⟨trivial,Int.ofNat_le.mp h2⟩
structure Cell(w h c r:Int):Prop where
 c0:0<=c
 c1:c<w
 r0:0<=r
 r1:r<h
theorem Cell.pl{w h c r:Int}(z:Cell w h c r):(r*w+c).toNat=Mth.pl w.toNat (c,r)/\0<=r*w+c:=by
 obtain⟨c0,c1,r0,r1⟩:=z;obtain⟨a,rfl⟩:=ZaZ c0;obtain⟨b,rfl⟩:=ZaZ r0;obtain⟨v,rfl⟩:=ZaZ (show 0<=w by omega)
 unfold Mth.pl;simp only[ZaJ];have e:(b:Int)*(v:Int)+(a:Int)=((b*v+a:Nat):Int):=by simp
 rw[e,ZaJ];exact⟨rfl,Int.natCast_nonneg _⟩
theorem J6(a b:Nat):Builtin.bitOr (a:Int) (b:Int)=((a ||| b:Nat):Int):=by
 have n1:∀ x:Nat,¬0<=Builtin.bitNot (x:Int):=λx=>by unfold Builtin.bitNot;omega
 unfold Builtin.bitOr;rw[bitAnd_nn (n1 a) (n1 b),bitNot_bitNot,bitNot_bitNot,bitNot_bitNot,ZaJ,ZaJ]
theorem Q7(n p:Nat):decide (Builtin.bitAnd ((n:Int)/2^p) 1=1)=n.testBit p:=by
 have e:(n:Int)/2^p=((n/2^p:Nat):Int):=by simp
 rw[e,bitAnd_pp (Int.natCast_nonneg _) (by decide),ZaJ,show(1:Int).toNat=1 from rfl,Mth.PJ]
 cases n.testBit p<;>rfl
theorem Am{lo:Int}{n i:Nat}{x:PV}(h:(mU lo n)[i]?=some x):i<n/\x=.int (lo+(i:Int)):=by
 have hi:i<n:=by simpa[mU] using cY h
 unfold mU at h;rw[Zaf,ZaO hi] at h;exact⟨hi,(Zaa h).symm⟩
theorem take_snoc{α:Type}{l:List α}{i:Nat}{x:α}(h:l[i]?=some x):l.take (i+1)=l.take i++[x]:=by
 rw[List.take_succ,h];rfl
theorem DP{w h c r:Int}(sz:Sz w h)(cl:Cell w h c r):jj [.tup [.int w,.int h],.tup [.int c,.int r]]=some (.ok (.int (r*w+c))):=by
 refine bQ ?_;unfold sZ;walk_at "rd"
 have:=cl.r0;have:=cl.r1;have:=sz.h1;exact .inl ⟨by lia,by lia⟩
theorem U6{w h c r:Int}(sz:Sz w h)(cl:Cell w h c r)(n:Nat):oX [.tup [.int w,.int h],.int n,.tup [.int c,.int r]]=some (.ok (.bl (n.testBit (Mth.pl w.toNat (c,r))))):=by
 refine bQ ?_;unfold tu;walk_at "rd"
 obtain⟨e1,e2⟩:=cl.pl;rw[DP sz cl];walk_at "rd"
 rw[e1,Q7];exact⟨e2,rfl⟩
theorem J7{w h:Int}(sz:Sz w h)(ps:List (Int×Int))(hc:∀ c∈ps,Cell w h c.1 c.2):uq [.tup [.int w,.int h],.lst (ps.map cellP)]=some (.ok (.int (Mth.FJ w.toNat ps))):=by
 refine bQ ?_;unfold xG;walk_at "rd"
 refine gm (λi ρ=>∃ v,ρ=[some (.sh (.tup [.int w,.int h])),some (.sh (.lst (ps.map cellP))),some (.sh (.int (Mth.FJ w.toNat (ps.take i)))),v]) ⟨none,rfl⟩ ?_ ?_
 ·rintro i x ρ hx ⟨v,rfl⟩;rw[Zaf] at hx;cases hd:ps[i]? with
  |none=>rw[hd] at hx;cases hx
  |some d=>
   rw[hd] at hx;cases hx;have cl:=hc d (Zax hd);obtain⟨e1,e2⟩:=cl.pl;have hm:=sz.mul;have ha:=sz.at cl.c0 cl.c1 cl.r0 cl.r1;unfold xx;walk_at "rd"
   rw[DP sz cl];walk_at "rd"
   have e3:(1:Int)*2^Mth.pl w.toNat (d.1,d.2)=((2^Mth.pl w.toNat d:Nat):Int):=by simp
   rw[e1,e3,J6,take_snoc hd,Mth.Jx];exact⟨by lia,by lia,by decide,_,rfl⟩
 ·rintro ρ ⟨v,rfl⟩;unfold xF;walk_at "rd"
  rw[Zbk (by simp)]
def isL(c:Nat):Bool:=decide (97<=c/\c<=122)
def xJ(z:Str):Bool:=decide (1<=z.length/\z.length<=8)&&z.cps.toList.all isL
theorem letters:(Str.ofString "abcdefghijklmnopqrstuvwxyz").cps.toList=List.range' 97 26:=by decide +kernel
theorem An{n:Int}(h0:0<=n)(h:n<26):atI (Str.ofString "abcdefghijklmnopqrstuvwxyz").cps.toList n=some (97+n.toNat):=by
 refine QX h0 ?_;rw[letters,List.getElem?_range' (by omega)]
 simp
theorem Q8:(Str.ofString "abcdefghijklmnopqrstuvwxyz").length=26:=by decide +kernel
theorem Ao{n:Int}(h0:0<=n)(h:n<26):isL (97+n.toNat)=true:=by
 unfold isL;rw[decide_eq_true_eq];omega
theorem U7(n:Nat)(u:Option Int):Builtin.Str.strSliceIndices none u 1 n=Builtin.Str.strSliceIndices (some 0) u 1 n:=by
 have e:max (0:Int) (min 0 (n:Int))=0:=by omega
 simp[Builtin.Str.strSliceIndices,e]
theorem NK(n:Nat)(l:Option Int):Builtin.Str.strSliceIndices l none 1 n=Builtin.Str.strSliceIndices l (some (n:Int)) 1 n:=by
 have e:max (0:Int) (min (n:Int) (n:Int))=n:=by omega
 have e2:¬((n:Int)<0):=by omega
 simp[Builtin.Str.strSliceIndices,e,e2]
theorem DQ(x:Str){a b:Nat}(hab:a<=b)(hb:b<=x.length):Txt.slice x (some (a:Int)) (some (b:Int))=ofL ((x.cps.toList.drop a).take (b-a)):=by
 unfold Txt.slice;rw[PySem.StrLaws.sliced_plain x hab hb];split
 ·rename_i h;rw[PySem.StrLaws.strSliceIndices_plain hab hb] at h;have hl:b-a=x.length:=by simpa using h
  have ea:a=0:=by omega
  subst ea;rw[Za7,Nat.sub_zero,Zbk (by rw[Za9];show x.length<=b;omega)]
  rfl
 ·rfl
theorem DR(x:Str){b:Nat}(hb:b<=x.length):Txt.slice x none (some (b:Int))=ofL (x.cps.toList.take b):=by
 have:=DQ x (a:=0) (Zbh b) hb;rw[Za7,Nat.sub_zero] at this;rw[<-this];unfold Txt.slice;rw[U7];rfl
theorem Gv(x:Str){a:Nat}(ha:a<=x.length):Txt.slice x (some (a:Int)) none=ofL (x.cps.toList.drop a):=by
 have:=DQ x ha (Zag x.length);rw[Zbk (by rw[Zbj,Za9];exact Zag _)] at this
 rw[<-this];unfold Txt.slice;rw[NK]
theorem vW(a b:List Nat):ofL a++ofL b=ofL (a++b):=by
 apply Str.ext'
 apply Array.toList_inj.mp
 show((ofL a).cps++(ofL b).cps).toList=_
 rw[Array.toList_append];rfl
theorem Q9{a b:List Nat}(h:ofL a=ofL b):a=b:=by
 have:=congrArg (λ(s:Str)=>s.cps.toList) h;exact this
theorem Ra(c:Nat):(⟨#[c]⟩:Str)=ofL [c]:=rfl
theorem join_ones(cs:List Nat):Txt.join (Str.ofString "") (cs.map λc=>(⟨#[c]⟩:Str))=ofL cs:=by
 have go:∀ (cs:List Nat) (acc:Array Nat),((cs.map λc=>(⟨#[c]⟩:Str)).foldl (λacc p=>acc++(Str.ofString "").cps++p.cps) acc).toList=acc.toList++cs:=by
  intro cs;induction cs with
  |nil=>intro acc;simp
  |cons c cs ih=>
   intro acc;rw[Zay,List.foldl_cons,ih,Array.toList_append,Array.toList_append];show acc.toList++[]++[c]++cs=_
   simp
 apply Str.ext'
 apply Array.toList_inj.mp
 cases cs with
 |nil=>rfl
 |cons c cs=>exact go cs #[c]
theorem zm:∀ ys:List Str,oN (ys.map PV.str)=some ys
 |[]=>rfl
 |y::ys=>by rw[Zay,oN,zm ys];rfl
theorem NP(cs:List Nat):((cs.map λc=>(⟨#[c]⟩:Str)).map (·.length)).sum=cs.length:=by
 induction cs with
 |nil=>rfl
 |cons c cs ih=>rw[Zay,Zay,List.sum_cons,ih,ZaG];show 1+_=_;omega
theorem Ja:∀ a:Fin 23,∀ d:Fin 23,a.val≠0->d.val≠0->a.val*d.val%23≠0:=by decide +kernel
theorem vO{s:Int}{a:Int}(a0:1<=a)(a1:a<=22){i j:Nat}(hi:i<23)(hj:j<23)(h:(s+a*i)%23=(s+a*j)%23):i=j:=by
 rcases Nat.lt_trichotomy i j with h1|h1|h1
 ·exfalso;have:=Ja ⟨a.toNat,by omega⟩ ⟨j-i,by omega⟩ (by show a.toNat≠0;omega) (by show j-i≠0;omega)
  apply this
  show a.toNat*(j-i)%23=0
  have e:a*((j:Int)-i)%23=0:=by
   have:a*((j:Int)-i)=(s+a*j)-(s+a*i):=by rw[Int.mul_sub];omega
   rw[this];omega
  have e2:a*((j:Int)-i)=((a.toNat*(j-i):Nat):Int):=by
   rw[Int.natCast_mul,ZaU (by omega),Int.natCast_sub (by omega)]
  rw[e2] at e;omega
 ·exact h1
 ·exfalso;have:=Ja ⟨a.toNat,by omega⟩ ⟨i-j,by omega⟩ (by show a.toNat≠0;omega) (by show i-j≠0;omega)
  apply this
  show a.toNat*(i-j)%23=0
  have e:a*((i:Int)-j)%23=0:=by
   have:a*((i:Int)-j)=(s+a*i)-(s+a*j):=by rw[Int.mul_sub];omega
   rw[this];omega
  have e2:a*((i:Int)-j)=((a.toNat*(i-j):Nat):Int):=by
   rw[Int.natCast_mul,ZaU (by omega),Int.natCast_sub (by omega)]
  rw[e2] at e;omega
def ql(n:Int):Nat:=97+n.toNat
def jO(base:List Nat)(at_:Nat)(way:Int)(k:Nat)(n:Int):List Nat:=
 if way=0 then base.take at_++[ql (n*5%26),ql n]++base.drop at_
 else if way=1 then[ql (n*5%26),ql n]++base.take (k%(base.length+1))
 else[ql n]++base
theorem J8{base:List Nat}{at_:Nat}(ha:at_<=base.length){way:Int}{k j:Nat}{n m:Int}(n0:0<=n)(m0:0<=m)(h:jO base at_ way k n=jO base at_ way j m):n=m:=by
 have inj:ql n=ql m->n=m:=λh=>by unfold ql at h;omega
 unfold jO at h;split at h
 ·have h1:=(List.append_inj_left h (by simp))
  have h2:=(List.append_inj_right h1 (by simp))
  simp only[Zbm] at h2;exact inj h2.2.1
 ·split at h
  ·have h1:=(List.append_inj_left h (by simp))
   simp only[Zbm] at h1;exact inj h1.2.1
  ·have h1:=(List.append_inj_left h (by simp))
   simp only[Zbm] at h1;exact inj h1.1
theorem NQ{base:List Nat}{at_:Nat}(hb:base.length<=6)(hl:∀ c∈base,isL c=true){way:Int}{k:Nat}{n:Int}(n0:0<=n)(n1:n<23):xJ (ofL (jO base at_ way k n))=true:=by
 have l1:isL (ql n)=true:=Ao n0 (by omega)
 have l2:isL (ql (n*5%26))=true:=Ao (Zam _ (by decide)) (Zak _ (by decide))
 have key:(1<=(jO base at_ way k n).length/\(jO base at_ way k n).length<=8)/\∀ c∈jO base at_ way k n,isL c=true:=by
  unfold jO;split
  ·refine⟨by simp;omega,λc hc=>?_⟩
   simp only[ZaR,ZaB,ZaT,or_false] at hc;rcases hc with(h|rfl|rfl)|h
   ·exact hl c (List.mem_of_mem_take h)
   ·exact l2
   ·exact l1
   ·exact hl c (List.mem_of_mem_drop h)
  ·split
   ·refine⟨by simp;omega,λc hc=>?_⟩
    simp only[ZaR,ZaB,ZaT,or_false] at hc;rcases hc with(rfl|rfl)|h
    ·exact l2
    ·exact l1
    ·exact hl c (List.mem_of_mem_take h)
   ·refine⟨by simp;omega,λc hc=>?_⟩
    simp only[ZaR,ZaB,ZaT,or_false] at hc;rcases hc with rfl|h
    ·exact l1
    ·exact hl c h
 unfold xJ;rw[iH,Zaz key.1,Bool.true_and,Za1];exact key.2
theorem J9(c:Int):∃ ws:List Str,iR [.int c,.int 23]=some (.ok (.lst (ws.map .str)))/\ws.length=23/\(∀ w∈ws,xJ w=true)/\ws.Nodup:=by
 suffices h:∃ p,iR [.int c,.int 23]=some (.ok p)/\∃ ws:List Str,p=.lst (ws.map .str)/\ws.length=23/\(∀ w∈ws,xJ w=true)/\ws.Nodup by
  obtain⟨p,e,ws,rfl,h⟩:=h;exact⟨ws,e,h⟩
 refine ul ?_;obtain⟨ns,e,nl,nb⟩:=kj c 12 (by decide) (by decide)
 have at1:∀ i:Int,0<=i->i<12->atI (ns.map PV.int) i=some (.int (ns.getD i.toNat 0)):=λi h0 h1=>fM h0 (by omega)
 have big:∀ {n:Nat},n<=1000->n<=sizeLine:=λh=>ZaM (bU h);have ll:(Str.ofString "abcdefghijklmnopqrstuvwxyz").length<=sizeLine:=by rw[Q8];decide
 unfold o9;walk_at "rd"
 rw[e];walk_at "rd"
 simp only[at1 6 (by decide) (by decide)]
 walk_at "rd"
 have s6:ns.getD 6 0%7=(((ns.getD 6 0%7).toNat:Nat):Int):=(ZaU (Zam _ (by decide))).symm
 have s6':(ns.getD 6 0%7).toNat<=6:=by have:=Zak (ns.getD 6 0) (b:=7) (by decide);omega
 have em:nG (ns.map PV.int) none (some (ns.getD 6 0%7))=(ns.take (ns.getD 6 0%7).toNat).map PV.int:=by
  rw[s6];unfold nG;rw[HT.tU,HT.vN,Za7,Nat.sub_zero,List.map_take,ZaJ,List.length_map,Nat.min_eq_left (by omega)]
 rw[em];generalize hms:ns.take (ns.getD 6 0%7).toNat=ms
 have hm:ms.length<=6:=by rw[<-hms,Za0];omega
 refine⟨by decide,by rw[List.length_map];exact big (by omega),?_⟩
 rw[SQ (λx=>match x with|.int n=>.str ⟨#[ql (n%26)]⟩|_=>.non)]
 ·have e2:(ms.map PV.int).map (λx=>match x with|.int n=>PV.str ⟨#[ql (n%26)]⟩|_=>.non)=((ms.map λn=>ql (n%26)).map λc=>(⟨#[c]⟩:Str)).map PV.str:=by
   rw[Za8,Za8,Za8];rfl
  walk_at "rd"
  rw[e2,zm];refine⟨_,rfl,?_,?_⟩
  ·rw[NP,show(Str.ofString "").length=0 from rfl,List.length_map];omega
  ·rw[join_ones];have hbl:(ms.map λn=>ql (n%26)).length<=6:=by rw[List.length_map];exact hm
   have hba:∀ c∈ms.map λn=>ql (n%26),isL c=true:=λc hc=>by
    obtain⟨n,_,rfl⟩:=Zbn.mp hc;exact Ao (Zam _ (by decide)) (Zak _ (by decide))
   generalize ms.map (λn=>ql (n%26))=base at hbl hba ⊢
   simp only[at1 7 (by decide) (by decide)]
   walk_at "rd"
   rw[iH];refine⟨big (by omega),by omega,?_⟩
   have a0:0<=ns.getD 7 0%(base.length+1:Int):=Zam _ (by omega)
   have a1:ns.getD 7 0%(base.length+1:Int)<base.length+1:=Zak _ (by omega)
   obtain⟨at_,ha⟩:=ZaZ a0;rw[ha] at a1 ⊢;have ha':at_<=base.length:=by omega
   have g0:1<=1+ns.getD 9 0%22:=by have:=Zam (ns.getD 9 0) (b:=22) (by decide);omega
   have g1:1+ns.getD 9 0%22<=22:=by have:=Zak (ns.getD 9 0) (b:=22) (by decide);omega
   generalize hs8:ns.getD 8 0=s8
   generalize hgg:1+ns.getD 9 0%22=g at g0 g1
   generalize hwy:ns.getD 10 0%3=way
   refine⟨by decide,by decide,?_⟩
   refine gm (λi ρ=>∃ v7 v8 v9,ρ=[some (.sh (.int c)),some (.sh (.int 23)),some (.sh (.str (Str.ofString "abcdefghijklmnopqrstuvwxyz"))),some (.sh (.lst (ns.map .int))),some (.sh (.str (ofL base))),some (.sh (.int at_)),some (.ow (.lst (((List.range i).map λk=>ofL (jO base at_ way k ((s8+g*k)%23))).map .str))),v7,v8,v9]) ⟨none,none,none,rfl⟩ ?_ ?_
   ·rintro i x ρ hx ⟨v7,v8,v9,rfl⟩;obtain⟨hi,rfl⟩:=Am hx;have hi:i<23:=hi;have n0:0<=(s8+g*i)%23:=Zam _ (by decide)
    have n1:(s8+g*i)%23<23:=Zak _ (by decide)
    have m0:0<=(s8+g*i)%23*5%26:=Zam _ (by decide)
    have m1:(s8+g*i)%23*5%26<26:=Zak _ (by decide)
    unfold qR;walk_at "rd"
    simp only[at1 8 (by decide) (by decide),at1 9 (by decide) (by decide),at1 10 (by decide) (by decide)]
    walk_at "rd"
    simp only[Int.reduceToNat,hs8,hgg,hwy,Int.zero_add];refine⟨by decide,.inl ⟨by omega,by omega⟩,by decide,.inl ⟨by omega,by omega⟩,by decide,ll,_,An m0 m1,?_⟩
    refine⟨ll,_,An n0 (by omega),big (show 1+1<=1000 by decide),by decide,?_⟩
    generalize hnn:(s8+g*i)%23=n at n0 n1 m0 m1 ⊢
    have key:∀ y:Str,y=ofL (jO base at_ way i n)->((List.range i).map λk=>ofL (jO base at_ way k ((s8+g*k)%23)))++[y]=((List.range (i+1)).map λk=>ofL (jO base at_ way k ((s8+g*k)%23))):=λy hy=>by
     rw[List.range_succ,ZaS,hy,<-hnn];rfl
    have sz:(((List.range i).map λk=>ofL (jO base at_ way k ((s8+g*k)%23))).map PV.str).length<sizeLine:=by
     rw[List.length_map,List.length_map,ZaK];exact bU (by omega)
    have two:(⟨#[97+(n*5%26).toNat]⟩:Str)++(⟨#[97+n.toNat]⟩:Str)=ofL [ql (n*5%26),ql n]:=rfl;rw[two];have bl:(ofL base).length=base.length:=iH _;have bt:(ofL base).cps.toList=base:=rfl;refine jK (λhw=>?_) λhw=>?_
    ·unfold qN;walk_at "rd"
     rw[DR (ofL base) (by rw[bl];exact ha'),Gv (ofL base) (by rw[bl];exact ha'),bt,vW,vW]
     rw[key _ (by unfold jO;rw[Zao hw])]
     refine⟨by rw[bl];exact big (by omega),by rw[iH,iH];exact big (by simp;omega),by rw[bl];exact big (by omega),by rw[iH,iH];exact big (by simp;omega),sz,_,_,_,rfl⟩
    ·unfold qQ;walk_at "rd"
     simp only[at1 10 (by decide) (by decide)]
     walk_at "rd"
     simp only[Int.reduceToNat,hwy];refine⟨by decide,jK (λhw1=>?_) λhw1=>?_⟩
     ·unfold qO;walk_at "rd"
      rw[bl,show(i:Int)%(base.length+1:Int)=((i%(base.length+1):Nat):Int) by rw[Int.natCast_emod];rfl]
      have hk:i%(base.length+1)<base.length+1:=Nat.mod_lt _ (by omega)
      rw[DR (ofL base) (by rw[bl];omega),bt,vW]
      rw[key _ (by unfold jO;rw[Zal hw,Zao hw1])]
      refine⟨big (by omega),by omega,big (by omega),by rw[iH,iH];exact big (by simp;omega),sz,_,_,_,rfl⟩
     ·unfold qP;walk_at "rd"
      refine⟨ll,_,An n0 (by omega),?_⟩
      rw[Ra,vW];rw[key _ (by unfold jO;rw[Zal hw,Zal hw1];rfl)]
      refine⟨by rw[iH,iH];exact big (by simp;omega),sz,_,_,_,rfl⟩
   ·rintro ρ ⟨v7,v8,v9,rfl⟩;rw[cJ];unfold qT;walk_at "rd"
    refine⟨_,rfl,by rw[List.length_map,ZaK],λw hw=>?_,?_⟩
    ·obtain⟨k,_,rfl⟩:=Zbn.mp hw;exact NQ hbl hba (Zam _ (by decide)) (Zak _ (by decide))
    ·refine List.pairwise_map.mpr (List.Pairwise.imp_of_mem (λ{a b} ha hb hab h=>hab ?_) (List.nodup_range (n:=23)));exact vO g0 g1 (ZaW.mp ha) (ZaW.mp hb) (J8 ha' (Zam _ (by decide)) (Zam _ (by decide)) (Q9 h))
 ·intro x hx;obtain⟨n,hn,rfl⟩:=Zbn.mp hx;walk_at "rd"
  exact⟨by decide,ll,_,An (Zam _ (by decide)) (Zak _ (by decide)),rfl⟩
def prP(p:Str×Str):PV:=.tup [.str p.1,.str p.2]
inductive Ink where
 |cov (name colour:Str)
 |glz (name:Str) (ps:List (Str×Str))
def Ink.name:Ink->Str
 |.cov n _=>n
 |.glz n _=>n
def jd:Ink->PV
 |.cov n c=>.tup [.str "cover",.str n,.str c]
 |.glz n ps=>.tup [.str "glaze",.str n,.tup (ps.map prP)]
theorem WF(l:List (Str×Str))(a b:Str):l.map prP++[PV.tup [.str a,.str b]]=(l++[(a,b)]).map prP:=by rw[ZaS];rfl
theorem Ka{a b:Nat}{body:Sn}{QS:Out->Prop}(I:Nat->Rho->Prop){l:List (Str×Str)}{ρ:Rho}(h0:I 0 ρ)
  (hs:∀ (i:Nat) p ρ,l[i]?=some p->I i ρ->To (body ((ρ.set a (some (.sh (.str p.1)))).set b (some (.sh (.str p.2))))) (turn (I (i+1)) QS))(hd:∀ ρ',I l.length ρ'->QS (.nx ρ')):To (loop (gT 2 (gsCons (gN a) (gsCons (gN b) gsNil))) body (l.map prP) ρ) QS:=by
 have:=Nu (a:=a) (b:=b) (body:=body) (QS:=QS) I (l:=l.map λp=>(PV.str p.1,PV.str p.2)) (ρ:=ρ) h0 (λi x y ρ hx hI=>by
  rw[Zaf] at hx;cases hp:l[i]? with
  |none=>rw[hp] at hx;cases hx
  |some p=>rw[hp] at hx;cases hx;exact hs i p ρ hp hI) (by rw[List.length_map];exact hd)
 rw[Za8] at this;exact this
def Kc(cols:List Str)(ps:List (Str×Str)):Prop:=ps.length<=8/\(∀ p∈ps,p.1∈cols/\p.2∈cols)/\(ps.map (·.1)).Nodup
def xK(cols:List Str):Ink->Prop
 |.cov _ c=>c∈cols
 |.glz _ ps=>ps≠[]/\Kc cols ps
theorem xM{cs:List Str}{i:Int}(h0:0<=i)(h1:i<cs.length):∃ y,atI (cs.map PV.str) i=some (.str y)/\y∈cs/\cs[i.toNat]?=some y:=by
 obtain⟨y,e1,e2⟩:=wB (xs:=cs) h0 h1;exact⟨y,by rw[QV,e1];rfl,Zax e2,e2⟩
theorem Rc(a:Str)(l:List Str):inF (.str a) (l.map PV.str)=some (decide (a∈l)):=vV (g:=PV.str) (λa b=>eqF_str 31 a b) a l
theorem NT(ps:List (Str×Str))(cols:List Str)(h0:cols≠[])(hc:cols.length<=23)(ns:List Int)(hn:ns.length=4)(hp:Kc cols ps) :
  ∃ ps':List (Str×Str),jE [.lst (ps.map prP),.lst (cols.map .str),.lst (ns.map .int)]=some (.ok (.lst (ps'.map prP)))/\Kc cols ps'/\ps'≠[]:=by
 suffices h:∃ p,jE [.lst (ps.map prP),.lst (cols.map .str),.lst (ns.map .int)]=some (.ok p)/\∃ ps':List (Str×Str),p=.lst (ps'.map prP)/\Kc cols ps'/\ps'≠[] by
  obtain⟨p,e,z,rfl,h⟩:=h;exact⟨z,e,h⟩
 have hl:0<cols.length:=by cases cols with|nil=>exact absurd rfl h0|cons=>simp
 have at1:∀ i:Int,0<=i->i<4->atI (ns.map PV.int) i=some (.int (ns.getD i.toNat 0)):=λi h0 h1=>fM h0 (by omega)
 have big:∀ {n:Nat},n<=1000->n<=sizeLine:=λh=>ZaM (bU h);refine Nt ?_;rw[show jY 0 [PV.lst (ps.map prP),.lst (cols.map .str),.lst (ns.map .int)] 1=[some (.ow (.lst (ps.map prP))),some (.sh (.lst (cols.map .str))),some (.sh (.lst (ns.map .int))),none] from rfl];unfold qU;walk_at "rd"
 simp only[at1 1 (by decide) (by decide),List.length_map]
 walk_at "rd"
 obtain⟨u,eu,hu,_⟩:=xM (cs:=cols) (i:=ns.getD 1 0%(cols.length:Int)) (Zam _ (by omega)) (Zak _ (by omega))
 obtain⟨o,eo,ho,_⟩:=xM (cs:=cols) (i:=ns.getD 2 0%(cols.length:Int)) (Zam _ (by omega)) (Zak _ (by omega))
 refine⟨by omega,_,eu,jK (λh8=>?_) λh8=>?_⟩
 ·refine⟨big (by have:=hp.1;omega),?_⟩
  rw[SQ (λx=>match x with|.tup (a::_)=>a|_=>.non)]
  ·have e:(ps.map prP).map (λx=>match x with|.tup (a::_)=>a|_=>.non)=(ps.map (·.1)).map PV.str:=by
    rw[Za8,Za8];rfl
   walk_at "rd"
   rw[e];refine⟨_,Rc u _,?_⟩;walk_at "rd"
   refine jK (λhn=>?_) λhn=>?_
   ·unfold sG;walk_at "rd"
    simp only[at1 2 (by decide) (by decide),List.length_map]
    walk_at "rd"
    refine⟨by omega,_,eo,by decide,bU (by omega),?_⟩
    rw[WF];refine⟨_,rfl,⟨by rw[List.length_append];show _+1<=8;omega,λp hp'=>?_,?_⟩,by simp⟩
    ·rcases ZaR.mp hp' with h|h
     ·exact hp.2.1 p h
     ·rw[ZaD.mp h];exact⟨hu,ho⟩
    ·rw[ZaS,List.nodup_append];refine⟨hp.2.2,by simp,λa ha b hb e=>?_⟩
     have:b=u:=by simpa using hb
     subst this;subst e;have hn:¬a∈ps.map (·.1):=by simpa using hn
     exact hn ha
   ·have hn:u∈ps.map (·.1):=by simpa using hn
    refine⟨_,rfl,hp,λe=>?_⟩;rw[e] at hn;simp at hn
  ·intro x hx;obtain⟨p,_,rfl⟩:=Zbn.mp hx;unfold prP;walk_at "rd"
 ·refine⟨_,rfl,hp,λe=>?_⟩;rw[e] at h8;simp at h8
theorem Rf(name:Str)(cells:List Int)(hc0:cells≠[])(hcl:cells.length<=63)(cols:List Str)(h0:cols≠[])(hc:cols.length<=23) :
  ∃ k:Ink,lz [.str name,.lst (cells.map .int),.lst (cols.map .str)]=some (.ok (jd k))/\k.name=name/\xK cols k:=by
 suffices h:∃ p,lz [.str name,.lst (cells.map .int),.lst (cols.map .str)]=some (.ok p)/\∃ k:Ink,p=jd k/\k.name=name/\xK cols k by
  obtain⟨p,e,z,rfl,h⟩:=h;exact⟨z,e,h⟩
 have hl:0<cols.length:=by cases cols with|nil=>exact absurd rfl h0|cons=>simp
 have hcl0:0<cells.length:=by cases cells with|nil=>exact absurd rfl hc0|cons=>simp
 refine qH ?_;unfold tD;walk_at "rd"
 refine lr (λi ρ=>∃ (ps:List (Str×Str)) (v4 v5 v6:Option Sl),ρ=[some (.sh (.str name)),some (.sh (.lst (cells.map .int))),some (.sh (.lst (cols.map .str))),some (.ow (.lst (ps.map prP))),v4,v5,v6]/\Kc cols ps/\(0<i->ps≠[]))
  ⟨[],none,none,none,rfl,⟨by simp,by simp,by simp⟩,λh=>absurd h (by omega)⟩ ?_ ?_
 ·rintro i x ρ hx ⟨ps,v4,v5,v6,rfl,hp,hpi⟩;obtain⟨n,_,rfl⟩:=Zbn.mp (Zax hx);have hi:i<cells.length:=by simpa using cY hx
  obtain⟨ns,e,nl,nb⟩:=kj (n+31*i) 4 (by decide) (by decide)
  have at1:∀ i:Int,0<=i->i<4->atI (ns.map PV.int) i=some (.int (ns.getD i.toNat 0)):=λi h0 h1=>fM h0 (by omega)
  obtain⟨ps',ep,hp',np⟩:=NT ps cols h0 hc ns (by omega) hp
  unfold uv;walk_at "rd"
  refine⟨.inl ⟨by decide,by omega⟩,?_⟩
  rw[e];walk_at "rd"
  simp only[at1 0 (by decide) (by decide)]
  walk_at "rd"
  have go:To (pg [some (.sh (.str name)),some (.sh (.lst (cells.map .int))),some (.sh (.lst (cols.map .str))),some (.ow (.lst (ps.map prP))),some (.sh (.int i)),some (.sh (.int n)),some (.sh (.lst (ns.map .int)))]) (turn (λρ=>∃ (ps:List (Str×Str)) (v4 v5 v6:Option Sl),ρ=[some (.sh (.str name)),some (.sh (.lst (cells.map .int))),some (.sh (.lst (cols.map .str))),some (.ow (.lst (ps.map prP))),v4,v5,v6]/\Kc cols ps/\(0<i+1->ps≠[])) (ym (λρ'=>To (ph ρ') λo=>∃ p,fin (some o)=some (.ok p)/\∃ k:Ink,p=jd k/\k.name=name/\xK cols k) λo=>∃ p,fin (some o)=some (.ok p)/\∃ k:Ink,p=jd k/\k.name=name/\xK cols k)):=by
   unfold pg;walk_at "rd"
   rw[ep];walk_at "rd"
   exact⟨ps',_,_,_,rfl,hp',λ_=>np⟩
  refine jK (λhi0=>⟨by decide,jK (λh3=>?_) λh3=>go⟩) λhi0=>go
  unfold ur;walk_at "rd"
  simp only[at1 1 (by decide) (by decide),List.length_map]
  walk_at "rd"
  obtain⟨u,eu,hu,_⟩:=xM (cs:=cols) (i:=ns.getD 1 0%(cols.length:Int)) (Zam _ (by omega)) (Zak _ (by omega))
  exact⟨by omega,_,eu,by decide,.cov name u,rfl,rfl,hu⟩
 ·rintro ρ ⟨ps,v4,v5,v6,rfl,hp,hpi⟩;rw[List.length_map] at hpi;unfold ph;walk_at "rd"
  exact⟨by decide,.glz name ps,rfl,rfl,hpi hcl0,hp⟩
structure vX(paper:Str)(inks:List Ink):Prop where
 l0:inks≠[]
 l8:inks.length<=8
 nd:(inks.map Ink.name).Nodup
 ex:∃ cols:List Str,paper∈cols/\(∀ w∈cols,xJ w=true)/\∀ k∈inks,xJ k.name=true/\xK cols k
def xN(paper:Str)(inks:List Ink):PV:=.tup [.str paper,.lst (inks.map jd)]
theorem Kd{a b st:Int}(hs:1<=st)(h0:0<=a)(h1:b<=63):(sliceRange a b st).length<=63:=by
 unfold sliceRange;rw[List.length_map,ZaK,Zao (by omega:st>0)]
 split
 ·have:(b-a+st-1)/st<=b-a:=by
   have hb:b-a+st-1<=(b-a)*st:=by
    have:(b-a-1)*1<=(b-a-1)*st:=Int.mul_le_mul_of_nonneg_left hs (by omega)
    have e:(b-a)*st=(b-a-1)*st+st:=by rw[Int.sub_mul (b-a) 1 st];omega
    omega
   have:=Int.ediv_le_ediv (by omega:0<st) hb
   rwa [Int.mul_ediv_cancel _ (by omega)] at this
  omega
 ·simp
theorem NZ(ns:List Int)(lo:Int)(h0:0<=lo)(m:Int)(hm:1<=m):∃ ms:List Int,Dh (ns.map PV.int) (some lo) (some 63) (some m)=ms.map PV.int/\ms.length<=63:=by
 unfold Dh;generalize hb:sliceBounds (some lo) (some 63) (some m) (ns.map PV.int).length=bd
 have hl:(sliceRange bd.1 bd.2.1 bd.2.2).length<=63:=by
  rw[<-hb];have hp:m>0:=by omega
  have n1:¬(lo<0):=by omega
  simp only[sliceBounds,Option.getD_some,hp,n1,if_true,if_false];exact Kd hm (by omega) (by split<;>omega)
 have go:∀ js:List Nat,∃ ms:List Int,js.filterMap (λi=>(ns.map PV.int)[i]?)=ms.map PV.int/\ms.length<=js.length:=by
  intro js;induction js with
  |nil=>exact⟨[],rfl,Zag _⟩
  |cons j js ih=>
   obtain⟨ms,e,hl⟩:=ih;cases h:ns[j]? with
   |none=>exact⟨ms,by rw[Za3 (by rw[Zaf,h];rfl),e],by simp;omega⟩
   |some n=>exact⟨n::ms,by rw[Za4 (by rw[Zaf,h];rfl),e];rfl,by simp;omega⟩
 obtain⟨ms,e,hml⟩:=go (sliceRange bd.1 bd.2.1 bd.2.2);exact⟨ms,e,by omega⟩
theorem Ke(l:List PV)(k:Nat)(hk:k<=l.length):nG l none (some (k:Int))=l.take k:=by
 unfold nG;rw[HT.tU,HT.vN,Nat.min_eq_left hk,Za7,Nat.sub_zero]
theorem Kf{α:Type}{l:List α}(h:l.Nodup){x y:Nat}{v:α}(hx:l[x]?=some v)(hy:l[y]?=some v):x=y:=by
 have lx:=cY hx;have ly:=cY hy;rw[Zad lx] at hx;rw[Zad ly] at hy;have e:l[x]=l[y]:=by rw[Zaa hx,Zaa hy]
 have p:=List.pairwise_iff_getElem.mp h;rcases Nat.lt_trichotomy x y with q|q|q
 ·exact absurd e (p x y lx ly q)
 ·exact q
 ·exact absurd e.symm (p y x ly lx q)
theorem Kg(ns:List Int)(hn:ns.length<=63):∃ (paper:Str) (inks:List Ink),iT [.lst (ns.map .int)]=some (.ok (xN paper inks))/\vX paper inks:=by
 suffices h:∃ p,iT [.lst (ns.map .int)]=some (.ok p)/\∃ (paper:Str) (inks:List Ink),p=xN paper inks/\vX paper inks by
  obtain⟨p,e,a,b,rfl,h⟩:=h;exact⟨a,b,e,h⟩
 have big:∀ {n:Nat},n<=1000->n<=sizeLine:=λh=>ZaM (bU h);obtain⟨c0,ec0⟩:=pC ns 0 (by decide)
 obtain⟨c1,ec1⟩:=pC ns 1 (by decide)
 obtain⟨fs,ef,fl,fb⟩:=kj c0 6 (by decide) (by decide)
 have at1:∀ i:Int,0<=i->i<6->atI (fs.map PV.int) i=some (.int (fs.getD i.toNat 0)):=λi h0 h1=>fM h0 (by omega)
 obtain⟨ws,ew,wl,ww,wn⟩:=J9 c1;refine qH ?_;unfold pq;walk_at "rd"
 simp only[ec0,ec1];walk_at "rd"
 rw[ef];walk_at "rd"
 rw[ew];walk_at "rd"
 simp only[at1 0 (by decide) (by decide),at1 1 (by decide) (by decide)]
 walk_at "rd"
 obtain⟨cn,ecn,cn1,cn10⟩:∃ cn:Nat,atI [PV.int (1+fs.getD 1 0%10),PV.int 10] (fs.getD 1 0/10%2)=some (.int cn)/\1<=cn/\cn<=10:=by
  have h0:0<=fs.getD 1 0%10:=Zam _ (by decide)
  have h1:fs.getD 1 0%10<10:=Zak _ (by decide)
  rcases(show fs.getD 1 0/10%2=0\/fs.getD 1 0/10%2=1 by omega) with h|h
  ·rw[h,atI_0];exact⟨(1+fs.getD 1 0%10).toNat,by rw[ZaU (by omega)],by omega,by omega⟩
  ·rw[h,atI_1];exact⟨10,rfl,by decide,by decide⟩
 have m0:0<=fs.getD 0 0%8:=Zam _ (by decide)
 have m1:fs.getD 0 0%8<8:=Zak _ (by decide)
 refine⟨by decide,by decide,by decide,by decide,by decide,by decide,_,ecn,?_⟩
 walk_at "rd"
 rw[Ke (ws.map PV.str) cn (by rw[List.length_map];omega),<-List.map_take]
 have cl:(ws.take cn).length=cn:=by rw[Za0];omega
 have cw:∀ w∈ws.take cn,xJ w=true:=λw h=>ww w (List.mem_of_mem_take h);have cne:ws.take cn≠[]:=λe=>by rw[e] at cl;simp at cl;omega
 generalize ws.take cn=cols at cl cw cne ⊢
 have g0:1<=1+fs.getD 3 0%22:=by have:=Zam (fs.getD 3 0) (b:=22) (by decide);omega
 have g1:1+fs.getD 3 0%22<=22:=by have:=Zak (fs.getD 3 0) (b:=22) (by decide);omega
 generalize hgg:1+fs.getD 3 0%22=g at g0 g1
 generalize hf2:fs.getD 2 0=f2
 generalize hmm:1+fs.getD 0 0%8=many
 have nmx:∀ k:Nat,∃ y,atI (ws.map PV.str) ((f2+g*(k:Int))%23)=some (.str y)/\y∈ws/\ws[((f2+g*(k:Int))%23).toNat]?=some y:=λk=>
  xM (Zam _ (by decide)) (by rw[wl];exact Zak _ (by decide))
 refine⟨by omega,by omega,?_⟩
 refine gm (λi ρ=>∃ (inks:List Ink) (v6 v7 v8:Option Sl),ρ=[some (.sh (.lst (ns.map .int))),some (.sh (.lst (fs.map .int))),some (.sh (.lst (ws.map .str))),some (.sh (.int many)),some (.sh (.lst (cols.map .str))),some (.ow (.lst (inks.map jd))),v6,v7,v8]/\inks.length=i/\(∀ (j:Nat) k,inks[j]?=some k->ws[((f2+g*(j:Int))%23).toNat]?=some k.name)/\∀ k∈inks,xK cols k)
  ⟨[],none,none,none,rfl,rfl,λj k h=>by simp at h,λk h=>by simp at h⟩ ?_ ?_
 ·rintro i x ρ hx ⟨inks,v6,v7,v8,rfl,il,inm,iok⟩;obtain⟨hi,rfl⟩:=Am hx;obtain⟨nm,enm,hnm,hnm2⟩:=nmx i;rw[show(0:Int)+(i:Int)=i from Int.zero_add _];unfold qX;walk_at "rd"
  simp only[at1 2 (by decide) (by decide),at1 3 (by decide) (by decide)]
  walk_at "rd"
  simp only[Int.reduceToNat,hgg,hf2];refine⟨by decide,.inl ⟨by omega,by omega⟩,by decide,_,enm,?_⟩
  obtain⟨ms,ems,hms⟩:=NZ ns (2+(i:Int)) (by omega) many (by omega)
  rw[ems];have ee:eqF 32 (.lst (ms.map PV.int)) (.lst [])=some (decide (ms=[])):=QT (g:=PV.int) (n:=31) (λa b=>eqF_int 31 a b) ms [];refine⟨by first|omega|(intro e;have:=Zaa e;omega),_,ee,?_⟩
  walk_at "rd"
  have go:∀ cs:List Int,cs≠[]->cs.length<=63->To (lA [some (.sh (.lst (ns.map .int))),some (.sh (.lst (fs.map .int))),some (.sh (.lst (ws.map .str))),some (.sh (.int many)),some (.sh (.lst (cols.map .str))),some (.ow (.lst (inks.map jd))),some (.sh (.int i)),some (.sh (.str nm)),some (.sh (.lst (cs.map .int)))]) (turn (λρ=>∃ (inks:List Ink) (v6 v7 v8:Option Sl),ρ=[some (.sh (.lst (ns.map .int))),some (.sh (.lst (fs.map .int))),some (.sh (.lst (ws.map .str))),some (.sh (.int many)),some (.sh (.lst (cols.map .str))),some (.ow (.lst (inks.map jd))),v6,v7,v8]/\inks.length=i+1/\(∀ (j:Nat) k,inks[j]?=some k->ws[((f2+g*(j:Int))%23).toNat]?=some k.name)/\∀ k∈inks,xK cols k) (ym (λρ'=>To (lB ρ') λo=>∃ p,fin (some o)=some (.ok p)/\∃ (paper:Str) (inks:List Ink),p=xN paper inks/\vX paper inks) λo=>∃ p,fin (some o)=some (.ok p)/\∃ (paper:Str) (inks:List Ink),p=xN paper inks/\vX paper inks)):=λcs h0 hl=>by
   obtain⟨k,ek,kn,kok⟩:=Rf nm cs h0 hl cols cne (by omega)
   unfold lA;walk_at "rd"
   rw[ek];walk_at "rd"
   refine⟨by rw[List.length_map];exact bU (by omega),inks++[k],some (.sh (.int i)),some (.sh (.str nm)),some (.sh (.lst (cs.map .int))),?_,by simp[il],λj k' h=>?_,λk' h=>?_⟩
   ·rw[ZaS];rfl
   ·rw[List.getElem?_append] at h;split at h
    ·exact inm j k' h
    ·rename_i hj;have hj2:j-inks.length=0:=by
      have:=cY h;simp at this;omega
     rw[hj2] at h;cases h;rw[show j=i by omega,kn]
     exact hnm2
   ·rcases ZaR.mp h with h|h
    ·exact iok k' h
    ·rw[ZaD.mp h];exact kok
  refine jK (λh=>?_) λh=>go ms h hms;unfold qW;walk_at "rd"
  simp only[at1 4 (by decide) (by decide)]
  walk_at "rd"
  exact⟨by decide,go [_] (by simp) (by simp)⟩
 ·rintro ρ ⟨inks,v6,v7,v8,rfl,il,inm,iok⟩;rw[cJ] at il;unfold lB;walk_at "rd"
  rw[UT rfl];walk_at "rd"
  simp only[at1 5 (by decide) (by decide),List.length_map]
  walk_at "rd"
  obtain⟨u,eu,hu,_⟩:=xM (cs:=cols) (i:=fs.getD 5 0%(cols.length:Int)) (Zam _ (by omega)) (Zak _ (by omega))
  refine⟨by omega,_,eu,by decide,u,inks,rfl,⟨λe=>?_,by omega,?_,cols,hu,cw,λk hk=>⟨?_,iok k hk⟩⟩⟩
  ·rw[e] at il;simp at il;omega
  ·refine List.pairwise_iff_getElem.mpr λa b ha hb hab e=>?_;rw[List.length_map] at ha hb;rw[List.getElem_map,List.getElem_map] at e;have e1:=inm a _ (Zad ha);have e2:=inm b _ (Zad hb);rw[e] at e1;have:=Kf wn e1 e2;have n0:0<=(f2+g*(a:Int))%23:=Zam _ (by decide)
   have n1:0<=(f2+g*(b:Int))%23:=Zam _ (by decide)
   have:=vO g0 g1 (s:=f2) (i:=a) (j:=b) (by omega) (by omega) (by omega)
   omega
  ·obtain⟨j,hj,ej⟩:=List.mem_iff_getElem.mp hk;have:=inm j k (by rw[Zad hj,ej])
   exact ww _ (Zax this)
theorem xO{f:PV->PV->Option Bool}:∀ {l:List PV},(∀ x∈l,f x x=some true)->eqL f l l=some true
 |[],_=>rfl
 |x::xs,h=>by rw[eqL,h x List.mem_cons_self,xO λy hy=>h y (List.mem_cons_of_mem _ hy)];rfl
theorem N5{n:Nat}{l:List PV}(h:∀ x∈l,eqF n x x=some true):eqF (n+1) (.tup l) (.tup l)=some true:=by
 exact xO h
theorem DW{n:Nat}{l:List PV}(h:∀ x∈l,eqF n x x=some true):eqF (n+1) (.lst l) (.lst l)=some true:=by
 exact(Zao rfl).trans (xO h)
theorem N6(n:Nat)(z:Str):eqF n (.str z) (.str z)=some true:=by rw[eqF_str,Zaz rfl]
theorem N7(n:Nat)(z:Int):eqF n (.int z) (.int z)=some true:=by rw[eqF_int,Zaz rfl]
theorem jz{α:Type}{j:Nat}{el:Fn PV}{ρb:Rho}(g f:α->PV):∀ (l:List α),(∀ a∈l,Tv (el (ρb.set j (some (.sh (g a))))) λp=>p=f a)->gH (gN j) qj el ρb (l.map g)=some (.ok (l.map f))
 |[],_=>rfl
 |a::l,h=>by
  have e1:=Ip (h a List.mem_cons_self);have ih:=jz g f l λb hb=>h b (List.mem_cons_of_mem _ hb);rw[Zay,gH];simp only[gN,qj,bnd,if_true,e1,ih,Zay]
def lkp(ps:List (Str×Str))(c:Str):Str:=match ps.find? (λp=>decide (p.1=c)) with
 |some p=>p.2
 |none=>c
def N8:Ink->Str->Str
 |.cov _ d,_=>d
 |.glz _ ps,c=>lkp ps c
theorem Rg(k:Ink)(c:Str):Aj [jd k,.str c]=some (.ok (.str (N8 k c))):=by
 refine bQ (x:=Ai (startR [jd k,.str c] 2)) ?_;unfold Ai;cases k with
 |cov n d=>
  unfold jd;walk_at "rd"
  unfold Dy;walk_at "rd"
  rfl
 |glz n ps=>
  unfold jd;walk_at "rd"
  rw[Zal (by decide)]
  unfold DN;walk_at "rd"
  refine Ka (λi ρ=>∃ v2 v3,ρ=[some (.sh (jd (.glz n ps))),some (.sh (.str c)),v2,v3]/\(ps.take i).find? (λp=>decide (p.1=c))=none) ⟨none,none,rfl,rfl⟩ ?_ ?_
  ·rintro i p ρ hp ⟨v2,v3,rfl,hf⟩;have tk:ps.take (i+1)=ps.take i++[p]:=by rw[List.take_succ,hp];rfl
   unfold DG;walk_at "rd"
   refine jK (λh=>?_) λh=>?_
   ·unfold Dz;walk_at "rd"
    have e:ps.find? (λp=>decide (p.1=c))=some p:=by
     have hs:ps=ps.take (i+1)++ps.drop (i+1):=(List.take_append_drop _ _).symm;rw[hs,List.find?_append,tk,List.find?_append,hf];simp[h]
    show _=lkp ps c
    unfold lkp;rw[e]
   ·refine⟨_,_,rfl,?_⟩;rw[tk,List.find?_append,hf];simp[h]
  ·rintro ρ ⟨v2,v3,rfl,hf⟩;rw[List.take_length] at hf;unfold DK;walk_at "rd"
   show _=lkp ps c
   unfold lkp;rw[hf]
def SX:Ink:=.cov ⟨#[]⟩ ⟨#[]⟩
def mG(inks:List Ink)(paper:Str)(st:List Nat):Str:=st.foldl (λc n=>N8 (inks.getD n SX) c) paper
theorem Aq(paper:Str)(inks:List Ink)(st:List Nat)(hs:∀ n∈st,n<inks.length):my [.tup [.str paper,.lst (inks.map jd)],.tup (st.map λ(n:Nat)=>PV.int (n:Int))]=some (.ok (.str (mG inks paper st))):=by
 refine bQ (x:=mq (startR [.tup [.str paper,.lst (inks.map jd)],.tup (st.map λ(n:Nat)=>PV.int (n:Int))] 2)) ?_;unfold mq;walk_at "rd"
 refine gm (λi ρ=>∃ v3,ρ=[some (.sh (.tup [.str paper,.lst (inks.map jd)])),some (.sh (.tup (st.map λ(n:Nat)=>PV.int (n:Int)))),some (.sh (.str (mG inks paper (st.take i)))),v3]) ⟨none,rfl⟩ ?_ ?_
 ·rintro i x ρ hx ⟨v3,rfl⟩;rw[Zaf] at hx;cases hn:st[i]? with
  |none=>rw[hn] at hx;cases hx
  |some n=>
   rw[hn] at hx;cases hx;have hl:=hs n (Zax hn);unfold sy;walk_at "rd"
   refine⟨jd (inks.getD n SX),?_,?_⟩
   ·refine jn ?_;rw[Zaf,Zad hl,ZaQ,Zad hl];rfl
   ·rw[Rg];walk_at "rd"
    refine⟨some (.sh (.int n)),?_⟩;rw[List.take_succ,hn];unfold mG;rw[List.foldl_append];rfl
 ·rintro ρ ⟨v3,rfl⟩;rw[List.length_map,List.take_length];unfold sE;walk_at "rd"
theorem DX{α:Type}(g:α->PV)(d:α)(l:List α):kZ (l.map g)=(List.range l.length).map λ(i:Nat)=>PV.tup [.int (i:Int),g (l.getD i d)]:=by
 apply List.ext_getElem?
 intro i;unfold kZ;rw[Zbe,Zaf,Zaf];by_cases h:i<l.length
 ·rw[Zad h,ZaO h];show some (PV.tup [PV.int (i:Int),g l[i]])=some (PV.tup [PV.int (i:Int),g (l.getD i d)])
  rw[ZaQ,Zad h];rfl
 ·rw[ZaH (by omega),ZaH (by rw[ZaK];omega)]
  rfl
def tE(states:List Nat)(p:Nat):List Nat:=(List.range states.length).filter λk=>(states.getD k 0).testBit p
def sS(l:List Nat):PV:=.lst (l.map λ(n:Nat)=>PV.int (n:Int))
theorem DY{w h c r:Int}(sz:Sz w h)(cl:Cell w h c r)(states:List Nat)(hl:states.length<=1000):o8 [.tup [.int w,.int h],sS states,.tup [.int c,.int r]]=some (.ok (.tup ((tE states (Mth.pl w.toNat (c,r))).map λ(n:Nat)=>PV.int (n:Int)))):=by
 refine bQ (x:=o7 (startR [.tup [.int w,.int h],sS states,.tup [.int c,.int r]] 0)) ?_;unfold o7 sS;walk_at "rd"
 rw[DX (λn=>PV.int ((n:Nat):Int)) 0 states];refine⟨by rw[List.length_map,ZaK];exact ZaM (bU hl),?_⟩
 rw[xm (λx=>match x with|.tup [_,.int s]=>s.toNat.testBit (Mth.pl w.toNat (c,r))|_=>false) (λx=>match x with|.tup [a,_]=>a|_=>.non)]
 ·walk_at "rd"
  rw[List.filter_map,Za8];unfold tE;rfl
 ·intro x hx;obtain⟨i,hi,rfl⟩:=Zbn.mp hx;refine⟨_,rfl,?_,?_⟩
  ·refine Ip ?_;walk_at "rd"
   rw[U6 sz cl];walk_at "rd"
   rw[ZaJ]
  ·intro _;refine Ip ?_;walk_at "rd"
def vH(w h:Nat)(f:Nat->Nat->Str):PV:=.lst ((List.range h).map λr=>.lst ((List.range w).map λc=>.str (f c r)))
theorem uC(n:Nat):mU 0 n=(List.range n).map λi=>PV.int ((i:Nat):Int):=by
 unfold mU;exact List.map_congr_left λi _=>by rw[Int.zero_add]
theorem xP{w h:Int}(sz:Sz w h)(paper:Str)(inks:List Ink)(states:List Nat)(hl:states.length<=inks.length)(h8:inks.length<=8){r:Nat}(hr:r<h.toNat) :
  ju [.tup [.str paper,.lst (inks.map jd)],.tup [.int w,.int h],sS states,.int r]=some (.ok (.lst ((List.range w.toNat).map λc=>.str (mG inks paper (tE states (r*w.toNat+c)))))):=by
 have w0:=sz.w0;have w1:=sz.w1;refine Ah (x:=jt (startR [.tup [.str paper,.lst (inks.map jd)],.tup [.int w,.int h],sS states,.int r] 0)) ?_;unfold jt;walk_at "rd"
 refine⟨by omega,by omega,by rw[cJ];exact ZaM (bU (by omega)),?_⟩
 rw[uC,jz (λi=>PV.int ((i:Nat):Int)) (λc=>.str (mG inks paper (tE states (r*w.toNat+c)))) _ λc hc=>?_]
 ·walk_at "rd"
 ·have hc:=ZaW.mp hc;walk_at "rd"
  refine⟨by decide,?_⟩
  rw[DY sz (c:=(c:Int)) (r:=(r:Int)) ⟨by omega,by omega,by omega,by omega⟩ states (by omega)]
  walk_at "rd"
  rw[show Mth.pl w.toNat ((c:Int),(r:Int))=r*w.toNat+c from rfl];rw[Aq paper inks _ λn hn=>by
   have:=ZaW.mp (List.mem_filter.mp hn).1;omega]
  walk_at "rd"
def qm(row:Bool):Str:=if row then Str.ofString "row" else Str.ofString "column"
def j6(row:Bool)(l f t:Int):PV:=.tup [.str (qm row),.int l,.int f,.int t]
structure On(w h:Int)(row:Bool)(l f t:Int):Prop where
 l0:0<=l
 l1:l<if row then h else w
 f0:0<=f
 ft:f<=t
 t1:t<if row then w else h
def Ar(row:Bool)(l:Int)(p:Int):Int×Int:=if row then(p,l) else(l,p)
def rP(row:Bool)(l f t:Int):List (Int×Int):=(List.range (t+1-f).toNat).map λ(i:Nat)=>Ar row l (f+(i:Int))
theorem Rh(row:Bool):decide (qm row=Str.ofString "column")=!row:=by cases row<;>decide +kernel
theorem On.cell{w h:Int}{row:Bool}{l f t:Int}(o:On w h row l f t){c:Int×Int}(hc:c∈rP row l f t):Cell w h c.1 c.2:=by
 obtain⟨i,hi,rfl⟩:=Zbn.mp hc;have hi:=ZaW.mp hi;obtain⟨l0,l1,f0,ft,t1⟩:=o;unfold Ar;cases row
 ·exact⟨l0,l1,by show 0<=f+(i:Int);omega,by show f+(i:Int)<h;have t1:t<h:=t1;omega⟩
 ·exact⟨by show 0<=f+(i:Int);omega,by show f+(i:Int)<w;have t1:t<w:=t1;omega,l0,l1⟩
theorem Av(i:Int):eN [.int i]=some (.ok (.bl true)):=by
 refine bQ (x:=eE (startR [.int i] 0)) ?_;unfold eE;walk_at "rd"
theorem Gw{row:Bool}{l f t:Int}(h:f<=t):ik [j6 row l f t]=some (.ok (.bl true)):=by
 refine bQ (x:=cZ (startR [j6 row l f t] 0)) ?_;unfold cZ j6;walk_at "rd"
 unfold jq;walk_at "rd"
 refine⟨by decide,_,vV (g:=PV.str) (λa b=>eqF_str 31 a b) (qm row) [Str.ofString "row",Str.ofString "column"],?_⟩
 have:decide (qm row∈[Str.ofString "row",Str.ofString "column"])=true:=by cases row<;>decide +kernel
 rw[this];walk_at "rd"
 unfold m6;walk_at "rd"
 rw[show nG [PV.str (qm row),PV.int l,PV.int f,PV.int t] (some 1) none=[l,f,t].map PV.int from rfl];refine⟨by decide,ZaM (bU (show 3<=1000 by decide)),?_⟩
 rw[jz PV.int (λ_=>.bl true) _ λi _=>?_]
 ·walk_at "rd"
  refine⟨[true,true,true],rfl,?_⟩;rw[Zao (by rfl)]
  exact h
 ·walk_at "rd"
  rw[Av];walk_at "rd"
theorem Oa(w h:Int)(row:Bool):oZ [.tup [.int w,.int h],.str (qm row)]=some (.ok (.int (if row then h else w))):=by
 refine bQ (x:=oY (startR [.tup [.int w,.int h],.str (qm row)] 0)) ?_;unfold oY;walk_at "rd"
 cases row
 ·rw[Zal (by decide +kernel)];rfl
 ·rw[Zao (by rfl)];rfl
theorem Kh(w h:Int)(row:Bool):lR [.tup [.int w,.int h],.str (qm row)]=some (.ok (.int (if row then w else h))):=by
 refine bQ (x:=lQ (startR [.tup [.int w,.int h],.str (qm row)] 0)) ?_;unfold lQ;walk_at "rd"
 cases row
 ·rw[Zal (by decide +kernel)];rfl
 ·rw[Zao (by rfl)];rfl
theorem Jb{w h:Int}{row:Bool}{l f t:Int}(hft:f<=t):jk [.tup [.int w,.int h],j6 row l f t]=some (.ok (.bl (decide (0<=l/\(l<if row then h else w)/\0<=f/\t<if row then w else h)))):=by
 refine bQ (x:=j9 (startR [.tup [.int w,.int h],j6 row l f t] 0)) ?_;unfold j9;walk_at "rd"
 rw[Gw hft];walk_at "rd"
 unfold vm j6;walk_at "rd"
 rw[Oa,Kh];walk_at "rd"
 generalize (if row then h else w)=L
 generalize (if row then w else h)=P
 refine jK (λh1=>jK (λh2=>jK (λh3=>?_) λh3=>?_) λh2=>?_) λh1=>?_
 ·rw[decide_eq_decide];exact⟨λh=>⟨h1,h2,h3,h⟩,λh=>h.2.2.2⟩
 ·exact(Zas λh=>h3 h.2.2.1).symm
 ·exact(Zas λh=>h2 h.2.1).symm
 ·exact(Zas λh=>h1 h.1).symm
theorem Kl{row:Bool}{l f t:Int}(f0:0<=f)(ft:f<=t)(t1:t<=1000):iJ [j6 row l f t]=some (.ok (.lst ((rP row l f t).map cellP))):=by
 refine Ah (x:=iI (startR [j6 row l f t] 0)) ?_;unfold iI j6;walk_at "rd"
 have key:mU f (t+1-f).toNat=(List.range (t+1-f).toNat).map λi=>PV.int (f+((i:Nat):Int)):=rfl;have len:((List.range (t+1-f).toNat).map λi=>PV.int (f+((i:Nat):Int))).length<=sizeLine:=by
  rw[List.length_map,ZaK];exact ZaF (show _<=1001 by lia) (by decide)
 by_cases hr:row=true
 ·subst hr;rw[Zao (by rfl)]
  unfold nJ;walk_at "rd"
  rw[key];refine⟨by lia,by lia,by lia,by lia,len,?_⟩
  rw[jz (λi=>PV.int (f+((i:Nat):Int))) (λi=>cellP (Ar true l (f+((i:Nat):Int)))) _ λi _=>?_]
  ·walk_at "rd"
   unfold rP;rw[Za8];rfl
  ·walk_at "rd"
   exact⟨by decide,rfl⟩
 ·have hr:row=false:=by simpa using hr
  subst hr;rw[Zal (by decide +kernel)]
  unfold nM;walk_at "rd"
  rw[key];refine⟨by lia,by lia,by lia,by lia,len,?_⟩
  rw[jz (λi=>PV.int (f+((i:Nat):Int))) (λi=>cellP (Ar false l (f+((i:Nat):Int)))) _ λi _=>?_]
  ·walk_at "rd"
   unfold rP;rw[Za8];rfl
  ·walk_at "rd"
   exact⟨by decide,rfl⟩
theorem Aw{w h:Int}(sz:Sz w h){row:Bool}{l f t:Int}(o:On w h row l f t):lV [.tup [.int w,.int h],j6 row l f t]=some (.ok (.int (Mth.FJ w.toNat (rP row l f t)))):=by
 have t24:t<=1000:=by
  have q:=o.t1;have:=sz.w1;have:=sz.h1;split at q<;>omega
 refine bQ (x:=lU (startR [.tup [.int w,.int h],j6 row l f t] 0)) ?_;unfold lU;walk_at "rd"
 rw[Kl o.f0 o.ft t24];walk_at "rd"
 rw[J7 sz _ λc hc=>o.cell hc];walk_at "rd"
theorem Ob(a:Nat):∀ b:Nat,a+b=(a ^^^ b)+2*(a &&& b):=by
 induction a using Nat.strongRecOn with
 |_ a ih=>
  intro b;by_cases h:a=0
  ·subst h;simp
  ·have this:=ih (a/2) (by omega) (b/2)
   have e1:(a ^^^ b)/2=(a/2) ^^^ (b/2):=Nat.xor_div_two;have e2:(a &&& b)/2=(a/2) &&& (b/2):=Nat.and_div_two;have t1:=Nat.testBit_xor a b 0;have t2:=Nat.testBit_and a b 0;rw[<-e1,<-e2] at this;simp only[Nat.testBit_zero] at t1 t2;generalize a ^^^ b=x at *
   generalize a &&& b=y at *
   rcases Nat.mod_two_eq_zero_or_one a with p|p<;>rcases Nat.mod_two_eq_zero_or_one b with q|q<;>rw[p,q] at t1 t2<;>simp at t1 t2<;>omega
def Ri(n m:Nat):Nat:=n ^^^ (n &&& m)
theorem Oc(n m:Nat):Builtin.bitAnd (n:Int) (Builtin.bitNot (m:Int))=((Ri n m:Nat):Int):=by
 have hn:¬(0:Int)<=Builtin.bitNot (m:Int):=by unfold Builtin.bitNot;omega
 have e:Builtin.bitAnd (n:Int) (Builtin.bitNot (m:Int))=(n:Int)-((n &&& m:Nat):Int):=by
  unfold Builtin.bitAnd;rw[Zaz (Int.natCast_nonneg n),Zas hn,bitNot_bitNot,ZaJ,ZaJ]
 rw[e];have:=Ob n (n &&& m);rw[<-Nat.and_assoc,Nat.and_self] at this;unfold Ri;omega
def vI(w h:Int):Nat:=2^(w.toNat*h.toNat)-1
theorem uX{w h:Int}(sz:Sz w h):uo [.tup [.int w,.int h]]=some (.ok (.int (vI w h:Nat))):=by
 have hm:=sz.mul;refine bQ (x:=um (startR [.tup [.int w,.int h]] 0)) ?_;unfold um;walk_at "rd"
 refine⟨.inl ⟨by have:=sz.w0;have:=sz.w1;omega,by have:=sz.w0;have:=sz.w1;omega⟩,by omega,by omega,by decide,?_⟩
 unfold vI;rw[sz.nat.1];have:0<2^(w*h).toNat:=Nat.pow_pos (by decide)
 rw[Int.one_mul,show((2:Int)^(w*h).toNat)=((2^(w*h).toNat:Nat):Int) by norm_cast]
 congr 1
 omega
inductive Dd where
 |cut (b:Int) (row:Bool) (l f t:Int)
 |prt (b i:Int)
def Dd.p:Dd->PV
 |.cut b row l f t=>.tup [.str (Str.ofString "cut"),.int b,j6 row l f t]
 |.prt b i=>.tup [.str (Str.ofString "print"),.int b,.int i]
def Dd.ok(w h:Int):Dd->Prop
 |.cut b row l f t=>0<=b/\On w h row l f t
 |.prt b i=>0<=b/\0<=i
def Dd.block:Dd->Int
 |.cut b ..=>b
 |.prt b _=>b
def Dd.xQ:Dd->Option Int
 |.cut ..=>none
 |.prt _ i=>some i
def dW(l:List Dd):List Int:=l.filterMap Dd.xQ
theorem nY(i:Int):dH [.int i]=some (.ok (.bl (decide (0<=i)))):=by
 refine bQ (x:=ir (startR [.int i] 0)) ?_;unfold ir;walk_at "rd"
 rw[Av];walk_at "rd"
theorem xR{w h:Int}{d:Dd}(o:d.ok w h):kh [.tup [.int w,.int h],d.p]=some (.ok (.bl true)):=by
 refine bQ (x:=cR (startR [.tup [.int w,.int h],d.p] 0)) ?_;cases d with
 |cut b row l f t=>
  obtain⟨b0,o⟩:=o;unfold cR Dd.p;walk_at "rd"
  rw[Zal (by decide)]
  unfold gq;walk_at "rd"
  rw[nY,Zaz b0];walk_at "rd"
  unfold jC qK;walk_at "rd"
  rw[Jb o.ft];walk_at "rd"
  exact⟨o.l0,o.l1,o.f0,o.t1⟩
 |prt b i=>
  obtain⟨b0,i0⟩:=o;unfold cR Dd.p;walk_at "rd"
  rw[Zal (by decide)]
  unfold gq;walk_at "rd"
  rw[nY,Zaz b0];walk_at "rd"
  unfold jC qL;walk_at "rd"
  rw[nY,Zaz i0];walk_at "rd"
  rw[Zal (by decide +kernel)]
  trivial
def WK(w:Int)(W:Int->Nat):Dd->Int->Nat
 |.cut b row l f t,c=>if c=b then Ri (W b) (Mth.FJ w.toNat (rP row l f t)) else W c
 |.prt ..,c=>W c
def wd(w:Int):(Int->Nat)->List Dd->Int->Nat
 |W,[]=>W
 |W,d::l=>wd w (WK w W d) l
def pr(w:Int):(Int->Nat)->List Dd->List (Int×Nat)
 |_,[]=>[]
 |W,.cut b row l f t::r=>pr w (WK w W (.cut b row l f t)) r
 |W,.prt b i::r=>(i,W b)::pr w W r
def ni(x:Int×Nat):PV:=.tup [.int x.1,.int (x.2:Nat)]
theorem Gx(w:Int):∀ (l m:List Dd) (W:Int->Nat),wd w W (l++m)=wd w (wd w W l) m
 |[],_,_=>rfl
 |d::l,m,W=>Gx w l m _
theorem Ax(w:Int):∀ (l m:List Dd) (W:Int->Nat),pr w W (l++m)=pr w W l++pr w (wd w W l) m
 |[],_,_=>rfl
 |.cut ..::l,m,W=>Ax w l m _
 |.prt b i::l,m,W=>congrArg ((i,W b)::·) (Ax w l m W)
theorem rQ(w:Int):∀ (l:List Dd) (W:Int->Nat),(pr w W l).map Prod.fst=dW l
 |[],_=>rfl
 |.cut ..::l,W=>rQ w l _
 |.prt b i::l,W=>by show i::_=i::_;rw[rQ w l W];rfl
theorem pD{s u:Sn}{ρ:Rho}{QS:Out->Prop}(Q:Rho->Prop)(h1:To (s ρ) λo=>∃ ρ',o=.nx ρ'/\Q ρ')(h2:∀ ρ',Q ρ'->To (u ρ') QS):To (bB s u ρ) QS:=by
 rw[to_seq];obtain⟨o,e,c,ρ',rfl,q⟩:=h1;exact⟨_,e,c,h2 ρ' q⟩
theorem U8(b:Bool):eN [.bl b]=some (.ok (.bl false)):=by
 refine bQ (x:=eE (startR [.bl b] 0)) ?_;unfold eE;walk_at "rd"
theorem Rj(z:Str):eN [.str z]=some (.ok (.bl false)):=by
 refine bQ (x:=eE (startR [.str z] 0)) ?_;unfold eE;walk_at "rd"
theorem Rm:eN [.non]=some (.ok (.bl false)):=by
 refine bQ (x:=eE (startR [.non] 0)) ?_;unfold eE;walk_at "rd"
def Od(p:PV):Prop:=ik [p]=some (.ok (.bl false))
theorem vY{w h:Int}{p:PV}(hp:Od p):jk [.tup [.int w,.int h],p]=some (.ok (.bl false)):=by
 refine bQ (x:=j9 (startR [.tup [.int w,.int h],p] 0)) ?_;unfold j9;walk_at "rd"
 rw[show ik [p]=some (.ok (.bl false)) from hp];walk_at "rd"
 unfold vh;walk_at "rd"
theorem Ro{p:PV}(hp:isI p "tuple"=some false):Od p:=by
 refine bQ (x:=cZ (startR [p] 0)) ?_;unfold cZ;walk_at "rd"
 refine⟨false,hp,?_⟩;walk_at "rd"
 unfold m5;walk_at "rd"
theorem U9{l:List PV}(hl:¬(l.length:Int)=4):Od (.tup l):=by
 refine bQ (x:=cZ (startR [.tup l] 0)) ?_;unfold cZ;walk_at "rd"
 rw[Zao hl];unfold m5;walk_at "rd"
theorem Rp{z:Str}{b c d:PV}(hz:decide (z∈[Str.ofString "row",Str.ofString "column"])=false):Od (.tup [.str z,b,c,d]):=by
 refine bQ (x:=cZ (startR [.tup [.str z,b,c,d]] 0)) ?_;unfold cZ;walk_at "rd"
 unfold jq;walk_at "rd"
 refine⟨by decide,_,vV (g:=PV.str) (λa b=>eqF_str 31 a b) z [Str.ofString "row",Str.ofString "column"],?_⟩
 rw[hz];walk_at "rd"
 unfold su;walk_at "rd"
theorem Rq{L:List PV}{i:Int}{Q:PV->Prop}(h0:0<=i)(h1:i<L.length)(h:∀ p∈L,Q p):∃ p,atI L i=some p/\Q p:=by
 obtain⟨v,e1,e2⟩:=wB (xs:=L) h0 h1;exact⟨v,e1,h v (Zax e2)⟩
theorem Ea(x:Int){m:Nat}(h:0<m):∃ k:Nat,x%(m:Int)=(k:Int)/\k<m:=by
 have h0:=Zam x (show(m:Int)≠0 by omega)
 have h1:=Zak x (show(0:Int)<(m:Int) by omega)
 exact⟨(x%(m:Int)).toNat,by omega,by omega⟩
theorem tG(c t:Int)(t0:0<=t)(t1:t<=10):∃ n:Int,du [.int c,.int t]=some (.ok (.int n)):=by
 suffices h:∃ p,du [.int c,.int t]=some (.ok p)/\∃ n:Int,p=.int n by
  obtain⟨p,e,n,rfl⟩:=h;exact⟨n,e⟩
 refine qH (x:=jw (startR [.int c,.int t] 1)) (sr λQS hQ=>?_);unfold jw;rw[show startR [PV.int c,.int t] 1=[some (.sh (.int c)),some (.sh (.int t)),none] from rfl];walk_at "rd"
 refine⟨by decide,by decide,by decide,jK (λh=>?_) λh=>?_⟩
 ·unfold pR;walk_at "rd"
  exact hQ _ ⟨_,rfl,c,rfl⟩
 ·unfold pX;walk_at "rd"
  refine⟨.inl ⟨by decide,by decide⟩,by omega,by omega,?_⟩
  refine gm (λi ρ=>∃ (z:Int) (v2:Option Sl),ρ=[some (.sh (.int z)),some (.sh (.int t)),v2]) ⟨c,none,rfl⟩ ?_ ?_
  ·rintro i x ρ hx ⟨z,v2,rfl⟩;unfold pU;walk_at "rd"
   exact⟨by decide,by decide,by decide,by decide,by decide +kernel,_,_,rfl⟩
  ·rintro ρ ⟨z,v2,rfl⟩;unfold pW;walk_at "rd"
   exact⟨by decide,by decide,by decide,hQ _ ⟨_,rfl,_,rfl⟩⟩
def NoD(w h:Int)(p:PV):Prop:=kh [.tup [.int w,.int h],p]=some (.ok (.bl false))
theorem uD{w h:Int}{p:PV}(hp:isI p "tuple"=some false):NoD w h p:=by
 refine bQ (x:=cR (startR [.tup [.int w,.int h],p] 0)) ?_;unfold cR;walk_at "rd"
 refine⟨false,hp,?_⟩;walk_at "rd"
 unfold qI;walk_at "rd"
theorem Ay{w h:Int}{l:List PV}(hl:¬(l.length:Int)=3):NoD w h (.tup l):=by
 refine bQ (x:=cR (startR [.tup [.int w,.int h],.tup l] 0)) ?_;unfold cR;walk_at "rd"
 rw[Zao hl];unfold qI;walk_at "rd"
theorem Jc{w h:Int}{a b c:PV}(ha:isI a "str"=some false):NoD w h (.tup [a,b,c]):=by
 refine bQ (x:=cR (startR [.tup [.int w,.int h],.tup [a,b,c]] 0)) ?_;unfold cR;walk_at "rd"
 rw[Zal (by decide)]
 unfold gq;walk_at "rd"
 refine⟨false,ha,?_⟩;walk_at "rd"
 unfold qJ;walk_at "rd"
theorem Va{w h:Int}{z:Str}{b c:PV}(hb:dH [b]=some (.ok (.bl false))):NoD w h (.tup [.str z,b,c]):=by
 refine bQ (x:=cR (startR [.tup [.int w,.int h],.tup [.str z,b,c]] 0)) ?_;unfold cR;walk_at "rd"
 rw[Zal (by decide)]
 unfold gq;walk_at "rd"
 rw[hb];walk_at "rd"
 unfold qJ;walk_at "rd"
theorem Vb{w h:Int}{b:Int}{c:PV}(b0:0<=b)(hc:jk [.tup [.int w,.int h],c]=some (.ok (.bl false))):NoD w h (.tup [.str (Str.ofString "cut"),.int b,c]):=by
 refine bQ (x:=cR (startR [.tup [.int w,.int h],.tup [.str (Str.ofString "cut"),.int b,c]] 0)) ?_;unfold cR;walk_at "rd"
 rw[Zal (by decide)]
 unfold gq;walk_at "rd"
 rw[nY,Zaz b0];walk_at "rd"
 unfold jC qK;walk_at "rd"
 rw[hc];walk_at "rd"
theorem Oe{w h:Int}{z:Str}{b:Int}{c:PV}(b0:0<=b)(hz:z≠Str.ofString "cut")(hc:z=Str.ofString "print"->dH [c]=some (.ok (.bl false))):NoD w h (.tup [.str z,.int b,c]):=by
 refine bQ (x:=cR (startR [.tup [.int w,.int h],.tup [.str z,.int b,c]] 0)) ?_;unfold cR;walk_at "rd"
 rw[Zal (by decide)]
 unfold gq;walk_at "rd"
 rw[nY,Zaz b0];walk_at "rd"
 unfold jC qL;walk_at "rd"
 rw[Zal hz];by_cases q:z=Str.ofString "print"
 ·rw[Zao q,hc q];walk_at "rd"
 ·rw[Zal q];trivial
theorem Gy{p:PV}(hp:eN [p]=some (.ok (.bl false))):dH [p]=some (.ok (.bl false)):=by
 refine bQ (x:=ir (startR [p] 0)) ?_;unfold ir;walk_at "rd"
 rw[hp];walk_at "rd"
theorem Rr{i:Int}(hi:i<0):dH [.int i]=some (.ok (.bl false)):=by rw[nY,Zas (by omega)]
theorem Og(a b:Int):∃ v:Int,atI [PV.int 1,.int 24,.int (1+b%24),.int (1+b%6)] (a/24%4)=some (.int v)/\1<=v/\v<=24:=by
 obtain⟨m,em,hm⟩:=Ea (a/24) (show 0<4 by decide)
 rw[show a/24%4=(m:Int) from em];rcases(show m=0\/m=1\/m=2\/m=3 by omega) with rfl|rfl|rfl|rfl
 ·exact⟨1,rfl,by decide,by decide⟩
 ·exact⟨24,rfl,by decide,by decide⟩
 ·exact⟨1+b%24,rfl,by omega,by omega⟩
 ·exact⟨1+b%6,rfl,by omega,by omega⟩
theorem Gz(c:Int):∃ w h:Int,jF [.int c]=some (.ok (.tup [.int w,.int h]))/\Sz w h:=by
 suffices g:∃ p,jF [.int c]=some (.ok p)/\∃ w h:Int,p=.tup [.int w,.int h]/\Sz w h by
  obtain⟨p,e,w,h,rfl,o⟩:=g;exact⟨w,h,e,o⟩
 obtain⟨cc,ew⟩:=tG c 1 (by decide) (by decide)
 obtain⟨ns,es,h4,hp⟩:=kj (cc+5) 4 (by decide) (by decide)
 have h4:ns.length=4:=by omega
 have at1:∀ i:Int,0<=i->i<4->atI (ns.map PV.int) i=some (.int (ns.getD i.toNat 0)):=λi h0 h1=>fM h0 (by omega)
 obtain⟨v,ev,v0,v1⟩:=Og (ns.getD 2 0) (ns.getD 0 0);obtain⟨u,eu,u0,u1⟩:=Og (ns.getD 3 0) (ns.getD 1 0);refine qH (x:=mz (startR [.int c] 1)) (sr λQS hQ=>?_);unfold mz;rw[show startR [PV.int c] 1=[some (.sh (.int c)),none] from rfl];walk_at "rd"
 rw[ew];walk_at "rd"
 rw[es];walk_at "rd"
 refine⟨by decide,by decide,by rw[cJ];exact ZaM (bU (by decide)),?_⟩
 rw[show mU 0 2=[(0:Int),1].map PV.int from rfl,jz PV.int (λk=>if k=0 then .int v else .int u) _ λk hk=>?_]
 ·walk_at "rd"
  exact hQ _ ⟨_,rfl,v,u,rfl,v0,v1,u0,u1⟩
 ·simp only[ZaB,ZaT,or_false] at hk;rcases hk with rfl|rfl
  ·walk_at "rd"
   refine⟨_,at1 0 (by decide) (by decide),?_⟩
   walk_at "rd"
   refine⟨by decide,_,at1 0 (by decide) (by decide),?_⟩
   walk_at "rd"
   refine⟨by decide,by decide,_,at1 2 (by decide) (by decide),?_⟩
   walk_at "rd"
   exact⟨by decide,by decide,by decide,_,ev,rfl⟩
  ·walk_at "rd"
   refine⟨_,at1 1 (by decide) (by decide),?_⟩
   walk_at "rd"
   refine⟨by decide,_,at1 1 (by decide) (by decide),?_⟩
   walk_at "rd"
   refine⟨by decide,by decide,_,at1 3 (by decide) (by decide),?_⟩
   walk_at "rd"
   exact⟨by decide,by decide,by decide,_,eu,rfl⟩
theorem Az{w h:Int}(sz:Sz w h)(ns:List Int)(h8:5<=ns.length):∃ (row:Bool) (l f t:Int),gP [.tup [.int w,.int h],.lst (ns.map .int)]=some (.ok (j6 row l f t))/\On w h row l f t:=by
 suffices g:∃ p,gP [.tup [.int w,.int h],.lst (ns.map .int)]=some (.ok p)/\∃ (row:Bool) (l f t:Int),p=j6 row l f t/\On w h row l f t by
  obtain⟨p,e,row,l,f,t,rfl,o⟩:=g;exact⟨row,l,f,t,e,o⟩
 have at1:∀ i:Int,0<=i->i<5->atI (ns.map PV.int) i=some (.int (ns.getD i.toNat 0)):=λi h0 h1=>fM h0 (by omega)
 have w0:=sz.w0;have w1:=sz.w1;have h0:=sz.h0;have h1:=sz.h1;refine qH (x:=jx (startR [.tup [.int w,.int h],.lst (ns.map .int)] 4)) (sr λQS hQ=>?_);unfold jx;rw[show startR [.tup [.int w,.int h],PV.lst (ns.map .int)] 4=[some (.sh (.tup [.int w,.int h])),some (.sh (.lst (ns.map .int))),none,none,none,none] from rfl];walk_at "rd"
 refine⟨_,at1 1 (by decide) (by decide),?_⟩
 walk_at "rd"
 obtain⟨row,q⟩:∃ row:Bool,ns.getD 1 0%2=if row then 0 else 1:=by
  rcases(show ns.getD 1 0%2=0\/ns.getD 1 0%2=1 by omega) with q|q
  ·exact⟨true,q⟩
  ·exact⟨false,q⟩
 obtain⟨L,eL⟩:∃ L:Int,(if row then h else w)=L:=⟨_,rfl⟩;obtain⟨P,eP⟩:∃ P:Int,(if row then w else h)=P:=⟨_,rfl⟩;have L0:1<=L/\L<=24:=by rw[<-eL];split<;>omega
 have P0:1<=P/\P<=24:=by rw[<-eP];split<;>omega
 rw[q,show atI [PV.int w,.int h] (1-if row=true then 0 else 1)=some (.int L) by rw[<-eL];cases row<;>rfl,show atI [PV.int w,.int h] (if row=true then 0 else 1)=some (.int P) by rw[<-eP];cases row<;>rfl]
 refine⟨by decide,_,at1 2 (by decide) (by decide),_,rfl,?_⟩
 walk_at "rd"
 refine⟨by omega,_,at1 3 (by decide) (by decide),?_⟩
 walk_at "rd"
 rw[show atI [PV.str (Str.ofString "row"),.str (Str.ofString "column")] (if row=true then 0 else 1)=some (.str (qm row)) by cases row<;>rfl]
 refine⟨by omega,_,at1 4 (by decide) (by decide),?_⟩
 walk_at "rd"
 have f0:0<=ns.getD 3 0%P:=Zam _ (by omega)
 have f1:ns.getD 3 0%P<P:=Zak _ (by omega)
 generalize ns.getD 3 0%P=f at f0 f1 ⊢
 have r0:0<=ns.getD 4 0%(P-f):=Zam _ (by omega)
 have r1:ns.getD 4 0%(P-f)<P-f:=Zak _ (by omega)
 have l0:0<=ns.getD 2 0%L:=Zam _ (by omega)
 have l1:ns.getD 2 0%L<L:=Zak _ (by omega)
 exact⟨by omega,by decide,by decide,hQ _ ⟨_,rfl,row,_,f,_,rfl,⟨l0,by rw[eL];exact l1,f0,by omega,by rw[eP];omega⟩⟩⟩
theorem Rt(a b:Int):∃ v:Int,atI [PV.int 0,.int 1,.int 2,.int (a%10^18)] (b%4)=some (.int v)/\0<=v/\v<10^19:=by
 obtain⟨m,em,hm⟩:=Ea b (show 0<4 by decide)
 rw[show b%4=(m:Int) from em];rcases(show m=0\/m=1\/m=2\/m=3 by omega) with rfl|rfl|rfl|rfl
 ·exact⟨0,rfl,by decide,by decide⟩
 ·exact⟨1,rfl,by decide,by decide⟩
 ·exact⟨2,rfl,by decide,by decide⟩
 ·exact⟨a%10^18,rfl,by omega,by omega⟩
def Dk(w h:Int)(p:PV):Prop:=∃ d:Dd,p=d.p/\d.ok w h/\d.block<10^19
theorem pF{α:Type}{Q:α->Prop}{l:List α}{x:α}(h:∀ d∈l,Q d)(hx:Q x):∀ d∈l++[x],Q d:=λd hd=>by
 rcases ZaR.mp hd with q|q
 ·exact h d q
 ·rw[ZaD.mp q];exact hx
theorem GC{w h m:Int}(sz:Sz w h)(m1:1<=m)(m8:m<=8)(ns:List Int)(hn:ns.length<=63):∃ L:List PV,jG [.lst (ns.map .int),.tup [.int w,.int h],.int m]=some (.ok (.lst L))/\L.length<=63/\∀ p∈L,Dk w h p:=by
 suffices g:∃ p,jG [.lst (ns.map .int),.tup [.int w,.int h],.int m]=some (.ok p)/\∃ L:List PV,p=.lst L/\L.length<=63/\∀ p∈L,Dk w h p by
  obtain⟨p,e,L,rfl,o⟩:=g;exact⟨L,e,o⟩
 obtain⟨cs,ecs,lcs⟩:=QW ns (some 3) (some 63);refine ul (x:=mD (startR [.lst (ns.map .int),.tup [.int w,.int h],.int m] 6)) (sr λQS hQ=>?_);unfold mD;walk_at "rd"
 rw[ecs];refine lr (λi ρ=>∃ (L:List PV) (k:Int) (v5 v6 v7 v8:Option Sl),ρ=[some (.sh (.lst (ns.map .int))),some (.sh (.tup [.int w,.int h])),some (.sh (.int m)),some (.ow (.lst L)),some (.sh (.int k)),v5,v6,v7,v8]/\L.length=i/\(∀ p∈L,Dk w h p)/\0<=k/\k<=m) ⟨[],0,none,none,none,none,rfl,rfl,λ_ h=>by(cases h),by decide,by omega⟩ ?_ ?_
 ·rintro i x ρ hx ⟨L,k,v5,v6,v7,v8,rfl,hl,ho,k0,k1⟩;refine xj λQS hQ=>?_;rw[Zaf] at hx;cases hc:cs[i]? with
  |none=>rw[hc] at hx;cases hx
  |some c=>
   rw[hc] at hx;cases hx;have il:i<cs.length:=(Zaj.mp hc).1;obtain⟨cc,ew⟩:=tG c 1 (by decide) (by decide)
   obtain⟨fs,es,h8,hp⟩:=kj (cc+977+31*(i:Int)) 8 (by decide) (by decide)
   have h8:fs.length=8:=by omega
   have at1:∀ i:Int,0<=i->i<8->atI (fs.map PV.int) i=some (.int (fs.getD i.toNat 0)):=λi h0 h1=>fM h0 (by omega)
   obtain⟨b,eb,b0,b1⟩:=Rt (fs.getD 5 0) (fs.getD 6 0);obtain⟨row,l,f,t,es2,on⟩:=Az sz fs (by omega)
   have hlen:L.length<sizeLine:=bU (by omega)
   unfold sJ;walk_at "rd"
   rw[ew];walk_at "rd"
   refine⟨.inl ⟨by decide,by decide⟩,?_⟩
   rw[es];walk_at "rd"
   refine⟨_,at1 5 (by decide) (by decide),by decide,by decide,by decide,?_⟩
   walk_at "rd"
   refine⟨by decide,by decide,_,at1 6 (by decide) (by decide),?_⟩
   walk_at "rd"
   refine⟨by decide,_,eb,_,at1 0 (by decide) (by decide),?_⟩
   walk_at "rd"
   have cutS:To (m9 [some (Sl.sh (PV.lst (List.map PV.int ns))),some (Sl.sh (PV.tup [PV.int w,PV.int h])),some (Sl.sh (PV.int m)),some (Sl.ow (PV.lst L)),some (Sl.sh (PV.int k)),some (Sl.sh (PV.int (i:Int))),some (Sl.sh (PV.int c)),some (Sl.sh (.lst (fs.map .int))),some (Sl.sh (.int b))]) QS:=by
    unfold m9;walk_at "rd"
    rw[es2];walk_at "rd"
    exact⟨by decide,hlen,hQ _ ⟨L++[(Dd.cut b row l f t).p],k,_,_,_,_,rfl,by rw[List.length_append,hl];rfl,pF ho ⟨_,rfl,⟨b0,on⟩,b1⟩,k0,k1⟩⟩
   refine⟨by decide,jK (λ_=>jK (λkm=>?_) λ_=>cutS) λ_=>cutS⟩
   unfold sI;walk_at "rd"
   refine⟨_,at1 7 (by decide) (by decide),?_⟩
   walk_at "rd"
   refine⟨by decide,_,at1 7 (by decide) (by decide),?_⟩
   walk_at "rd"
   obtain⟨e,ee,e2⟩:=Ea (fs.getD 7 0) (show 0<2 by decide)
   rw[show fs.getD 7 0%2=(e:Int) from ee];have r0:0<=fs.getD 7 0/2%(m-k):=Zam _ (by omega)
   have r1:fs.getD 7 0/2%(m-k)<m-k:=Zak _ (by omega)
   generalize fs.getD 7 0/2%(m-k)=r at r0 r1 ⊢
   have er:(e:Int)*r=0\/(e:Int)*r=r:=by
    rcases(show e=0\/e=1 by omega) with rfl|rfl
    ·left;simp
    ·right;simp
   exact⟨by decide,by decide,by omega,.inl ⟨by omega,by omega⟩,by decide,hlen,hQ _ ⟨L++[(Dd.prt b (k+(e:Int)*r)).p],_,_,_,_,_,rfl,by rw[List.length_append,hl];rfl,pF ho ⟨_,rfl,⟨b0,by omega⟩,b1⟩,by omega,by omega⟩⟩
 ·rintro ρ ⟨L,k,v5,v6,v7,v8,rfl,hl,ho,k0,k1⟩;unfold sO;walk_at "rd"
  exact hQ _ ⟨_,rfl,L,rfl,by rw[hl,List.length_map];omega,ho⟩
theorem Oh(ps:List (Int×Nat))(i m:Int)(hm:i<m)(h:∀ x∈ps,x.1<i):fB [.lst (ps.map ni),.int i,.int m]=some (.ok (.bl true)):=by
 refine bQ (x:=d8 (startR [.lst (ps.map ni),.int i,.int m] 0)) ?_;unfold d8;walk_at "rd"
 rw[Zal (by omega)]
 unfold lu;walk_at "rd"
 rcases List.eq_nil_or_concat ps with rfl|⟨qs,x,rfl⟩
 ·rw[Zao (by rfl)];trivial
 ·rw[Zal (by simp;omega),List.concat_eq_append,ZaS]
  show ∃ p,atI (qs.map ni++[ni x]) (-1)=some p/\_
  refine⟨ni x,Cm _ _,?_⟩;unfold ni;walk_at "rd"
  exact h x (by simp)
theorem zp(ps:List (Int×Nat))(i m:Int)(hm:m<=i):fB [.lst (ps.map ni),.int i,.int m]=some (.ok (.bl false)):=by
 refine bQ (x:=d8 (startR [.lst (ps.map ni),.int i,.int m] 0)) ?_;unfold d8;walk_at "rd"
 rw[Zao (by omega)]
 unfold qM;walk_at "rd"
theorem Oi(ps:List (Int×Nat))(x:Int×Nat)(i m:Int)(h:i<=x.1):fB [.lst ((ps++[x]).map ni),.int i,.int m]=some (.ok (.bl false)):=by
 by_cases hm:m<=i
 ·exact zp _ _ _ hm
 refine bQ (x:=d8 (startR [.lst ((ps++[x]).map ni),.int i,.int m] 0)) ?_;unfold d8;walk_at "rd"
 rw[Zal (by omega)]
 unfold lu;walk_at "rd"
 rw[Zal (by simp;omega),ZaS]
 show ∃ p,atI (ps.map ni++[ni x]) (-1)=some p/\_
 refine⟨ni x,Cm _ _,?_⟩;unfold ni;walk_at "rd"
 omega
structure Good(w h m:Int)(l:List Dd):Prop where
 len:l.length<=1000
 ok:∀ d∈l,d.ok w h
 inks:(dW l).Pairwise (·<·)
 less:∀ i∈dW l,i<m
def Vc(w h m:Int)(l:List Dd)(p:PV):Prop:=
 NoD w h p\/∃ b j:Int,p=(Dd.prt b j).p/\0<=b/\0<=j/\(m<=j\/∃ x∈dW l,j<=x)
def RIM(w h m:Int)(L:List PV)(l:List Dd)(i:Nat)(ρ:Rho):Prop:=
 ∃ (kv:List (Key×PV)) (v5 v6 v7:Option Sl),ρ=[some (.sh (.tup [.int w,.int h])),some (.sh (.lst L)),some (.sh (.int m)),some (.ow (.dk kv)),some (.ow (.lst ((pr w (λ_=>vI w h) (l.take i)).map ni))),v5,v6,v7]/\kv.length<=i/\∀ b:Int,(lG kv (.inl b)).getD (.int (vI w h:Nat))=.int (wd w (λ_=>vI w h) (l.take i) b:Nat)
theorem RIM.zero{w h m:Int}{L:List PV}{l:List Dd}:RIM w h m L l 0 [some (.sh (.tup [.int w,.int h])),some (.sh (.lst L)),some (.sh (.int m)),some (.ow (.dk [])),some (.ow (.lst [])),none,none,none]:=⟨[],none,none,none,rfl,Zag _,λb=>rfl⟩
theorem zq{w h m:Int}(sz:Sz w h){L:List PV}{plan:List Dd}(g:Good w h m plan){QS:Out->Prop}{i:Nat}{d:Dd}{ρ:Rho}(ed:plan[i]?=some d)(hρ:RIM w h m L plan i ρ) :
  To (gb ((ρ.set 5 (some (.sh (.int i)))).set 6 (some (.sh d.p)))) (turn (RIM w h m L plan (i+1)) QS):=by
 obtain⟨kv,v5,v6,v7,rfl,hk,hv⟩:=hρ;have hl:=g.len;unfold RIM;have il:i<plan.length:=(Zaj.mp ed).1;have dk:=g.ok d (Zax ed);have tk:plan.take (i+1)=plan.take i++[d]:=take_snoc ed;rw[tk];refine xj λQS hQ=>?_;have pl:(pr w (λ_=>vI w h) (plan.take i)).length<=i:=by
  rw[<-List.length_map (f:=Prod.fst),rQ];refine ZaF (List.length_filterMap_le _ _) ?_;rw[Za0];omega
 unfold gb;walk_at "rd"
 rw[xR dk];walk_at "rd"
 unfold iM;cases d with
 |cut b row l f t=>
  rw[show(Dd.cut b row l f t).p=.tup [.str (Str.ofString "cut"),.int b,j6 row l f t] from rfl];walk_at "rd"
  rw[uX sz];walk_at "rd"
  rw[hv b];unfold lX;walk_at "rd"
  rw[Aw sz dk.2];walk_at "rd"
  rw[Oc];rw[show pr w (λ_=>vI w h) (plan.take i++[.cut b row l f t])=pr w (λ_=>vI w h) (plan.take i) by rw[Ax];exact Zav _] at hQ
  refine⟨_,by rw[Nv,Zao (bU (by omega))],hQ _ ⟨mX kv (.inl b) _,_,_,_,rfl,ZaF (xr _ _ kv) (by omega),λc=>?_⟩⟩
  ·rw[xq,Gx];show _=PV.int ((if c=b then Ri _ _ else _:Nat):Int)
   by_cases q:c=b
   ·subst q;rw[Zao rfl,Zao rfl];rfl
   ·rw[Zal (by intro z;cases z;exact q rfl),Zal q];exact hv c
 |prt b j=>
  rw[show(Dd.prt b j).p=.tup [.str (Str.ofString "print"),.int b,.int j] from rfl];walk_at "rd"
  rw[uX sz];walk_at "rd"
  rw[Zal (by decide +kernel),hv b]
  unfold iK;walk_at "rd"
  have ji:j∈dW plan:=List.mem_filterMap.mpr ⟨_,Zax ed,rfl⟩;rw[Oh _ _ _ (g.less j ji) ?_]
  ·walk_at "rd"
   unfold lY;walk_at "rd"
   refine⟨rfl,by decide,by rw[List.length_map];exact bU (by omega),hQ _ ⟨kv,some (.sh (.int i)),some (.sh (.tup [.str (Str.ofString "print"),.int b,.int j])),some (.sh (.int (wd w (λ_=>vI w h) (plan.take i) b:Nat))),?_,by omega,λc=>?_⟩⟩
   ·rw[Ax,ZaS];rfl
   ·rw[Gx];exact hv c
  ·intro x hx;have hp:(dW (plan.take (i+1))).Pairwise (·<·):=g.inks.sublist (List.Sublist.filterMap _ (List.take_sublist _ _));rw[tk] at hp;unfold dW at hp;rw[List.filterMap_append] at hp;refine(List.pairwise_append.mp hp).2.2 x.1 ?_ j (by simp[Dd.xQ])
   have:=rQ w (plan.take i) (λ_=>vI w h);unfold dW at this;rw[<-this];exact List.mem_map_of_mem hx
theorem Ru{w h m:Int}(sz:Sz w h){plan:List Dd}(g:Good w h m plan) :
  fJ [.tup [.int w,.int h],.lst (plan.map Dd.p),.int m]=some (.ok (.lst ((pr w (λ_=>vI w h) plan).map ni))):=by
 refine Ah (x:=dC (startR [.tup [.int w,.int h],.lst (plan.map Dd.p),.int m] 5)) ?_;unfold dC
 walk_at "rd"
 refine lr (RIM w h m (plan.map Dd.p) plan) RIM.zero ?_ ?_
 ·intro i x ρ hx hρ;rw[Zaf] at hx;cases ed:plan[i]? with
  |none=>rw[ed] at hx;cases hx
  |some d=>
   rw[ed] at hx;cases hx;exact zq sz g ed hρ
 ·rintro ρ ⟨kv,v5,v6,v7,rfl,hk,hv⟩;rw[List.length_map,List.take_length];unfold mj;walk_at "rd"
def jm(k:Nat):PV:=.exc "NoDeed" [("at",.int k)]
theorem Oj{w h:Int}{l:List Dd}(hi:(dW l).Pairwise (·<·)){x:Int}(hx:x∈dW l)(W:Int->Nat):∃ ps y,pr w W l=ps++[y]/\x<=y.1:=by
 have e:=rQ w l W;rcases List.eq_nil_or_concat (pr w W l) with q|⟨ps,y,q⟩
 ·rw[q] at e;rw[<-e] at hx;cases hx
 ·rw[List.concat_eq_append] at q;refine⟨ps,y,q,?_⟩;rw[q,ZaS] at e;rw[<-e] at hx hi;rcases ZaR.mp hx with r|r
  ·exact Int.le_of_lt ((List.pairwise_append.mp hi).2.2 x r y.1 (by simp))
  ·rw[ZaD.mp r];exact Int.le_refl _
theorem Km{w h m j:Int}{l:List Dd}(hi:(dW l).Pairwise (·<·))(hj:m<=j\/∃ x∈dW l,j<=x)(W:Int->Nat):fB [.lst ((pr w W l).map ni),.int j,.int m]=some (.ok (.bl false)):=by
 rcases hj with hj|⟨x,hx,hj⟩
 ·exact zp _ _ _ hj
 ·obtain⟨ps,y,e,hy⟩:=Oj (w:=w) (h:=h) hi hx W;rw[e];exact Oi ps y j m (by omega)
theorem Ol{w h m:Int}(sz:Sz w h){l:List Dd}(g:Good w h m l){p:PV}(hp:Vc w h m l p)(r:List PV) :
  fJ [.tup [.int w,.int h],.lst (l.map Dd.p++p::r),.int m]=some (.ex (jm l.length)):=by
 show qD (dC (startR [.tup [.int w,.int h],.lst (l.map Dd.p++p::r),.int m] 5))=_
 rw[show dC (startR [.tup [.int w,.int h],.lst (l.map Dd.p++p::r),.int m] 5)=some (.ex (jm l.length)) from ?_,show qD (some (.ex (jm l.length)))=some (.ex (jm l.length)) from rfl];unfold dC
 refine uV ?_;walk_at "rd"
 refine uV ?_;walk_at "rd"
 refine Gu (UW ?_);walk_at "rd"
 refine NB (RIM w h m (l.map Dd.p++p::r) l) (k:=l.length) (by simp) RIM.zero ?_ ?_
 ·intro i x ρ hil hx hρ;rw[Zap (by rw[List.length_map];exact hil),Zaf,Zad hil] at hx
  cases hx;exact zq sz g (Zad hil) hρ
 ·rintro x ρ hx ⟨kv,v5,v6,v7,rfl,hk,hv⟩;rw[Zaw (by rw[List.length_map];exact Zag _),List.length_map,Nat.sub_self] at hx
  cases hx;rw[List.take_length] at hv ⊢;unfold gb;rcases hp with hp|⟨b,j,rfl,b0,j0,hj⟩
  ·refine Gu (Nz ?_);walk_at "rd"
   rw[show kh [.tup [.int w,.int h],p]=_ from hp];walk_at "rd"
   unfold lW;refine Dv ?_;walk_at "rd"
   rfl
  ·refine uV ?_;walk_at "rd"
   rw[xR (show(Dd.prt b j).ok w h from⟨b0,j0⟩)];walk_at "rd"
   unfold iM;rw[show(Dd.prt b j).p=.tup [.str (Str.ofString "print"),.int b,.int j] from rfl];refine uV ?_;walk_at "rd"
   rw[uX sz];walk_at "rd"
   refine Nz ?_;walk_at "rd"
   rw[Zal (by decide +kernel),hv b]
   unfold iK;refine Nz ?_;walk_at "rd"
   rw[Km (w:=w) (h:=h) g.inks hj];walk_at "rd"
   unfold lZ;refine⟨rfl,Dv ?_⟩;walk_at "rd"
   rfl
theorem Ko{row:Bool}{l f t:Int}(h:t<f):Od (j6 row l f t):=by
 refine bQ (x:=cZ (startR [j6 row l f t] 0)) ?_;unfold cZ j6;walk_at "rd"
 unfold jq;walk_at "rd"
 refine⟨by decide,_,vV (g:=PV.str) (λa b=>eqF_str 31 a b) (qm row) [Str.ofString "row",Str.ofString "column"],?_⟩
 have:decide (qm row∈[Str.ofString "row",Str.ofString "column"])=true:=by cases row<;>decide +kernel
 rw[this];walk_at "rd"
 unfold m6;walk_at "rd"
 rw[show nG [PV.str (qm row),PV.int l,PV.int f,PV.int t] (some 1) none=[l,f,t].map PV.int from rfl];refine⟨by decide,ZaM (bU (show 3<=1000 by decide)),?_⟩
 rw[jz PV.int (λ_=>.bl true) _ λi _=>?_]
 ·walk_at "rd"
  refine⟨[true,true,true],rfl,?_⟩;rw[Zao (by rfl)]
  omega
 ·walk_at "rd"
  rw[Av];walk_at "rd"
theorem fK(i m:Int):cF [.int i,.int m]=some (.ok (.bl (decide (0<=i/\i<m)))):=by
 refine bQ (x:=dI (startR [.int i,.int m] 0)) ?_;unfold dI;walk_at "rd"
 split
 ·rename_i q;exact decide_eq_decide.mpr ⟨λz=>⟨q,z⟩,λz=>z.2⟩
 ·rename_i q;exact(Zas λz=>q z.1).symm
theorem Rv(b:Bool)(q:PV):cF [.bl b,q]=some (.ok (.bl false)):=by
 refine bQ (x:=dI (startR [.bl b,q] 0)) ?_;unfold dI;walk_at "rd"
theorem Jd{p:PV}(q:PV)(hp:isI p "int"=some false):cF [p,q]=some (.ok (.bl false)):=by
 refine bQ (x:=dI (startR [p,q] 0)) ?_;unfold dI;walk_at "rd"
 refine⟨false,hp,?_⟩;walk_at "rd"
def NoN(p:PV):Prop:=dH [p]=some (.ok (.bl false))/\∀ m:Int,cF [p,.int m]=some (.ok (.bl false))
theorem Je{i:Int}(h:i<0):NoN (.int i):=⟨Rr h,λm=>by rw[fK,Zas (by omega)]⟩
theorem Ba(b:Bool):NoN (.bl b):=⟨Gy (U8 b),λm=>Rv b _⟩
theorem Jf(z:Str):NoN (.str z):=⟨Gy (Rj z),λm=>Jd _ rfl⟩
theorem Rw:NoN .non:=⟨Gy Rm,λm=>Jd _ rfl⟩
def NoO(w h:Int)(p:PV):Prop:=jk [.tup [.int w,.int h],p]=some (.ok (.bl false))/\iu [.tup [.int w,.int h],p]=some (.ok (.bl false))
theorem Om(w h:Int)(row:Bool)(l f t:Int):iu [.tup [.int w,.int h],j6 row l f t]=some (.ok (.bl (decide (0<=l/\(l<if row then h else w)/\0<=f/\f<=t/\t<if row then w else h)))):=by
 refine bQ (x:=fO (startR [.tup [.int w,.int h],j6 row l f t] 1)) (sr λQS hQ=>?_);unfold fO j6;walk_at "rd"
 have fin4:To (qZ [some (Sl.sh (PV.tup [PV.int w,PV.int h])),some (Sl.sh (PV.tup [PV.str (qm row),PV.int l,PV.int f,PV.int t])),none]) QS:=by
  unfold qZ;walk_at "rd"
  obtain⟨L,eL⟩:∃ L:Int,(if row then h else w)=L:=⟨_,rfl⟩;obtain⟨P,eP⟩:∃ P:Int,(if row then w else h)=P:=⟨_,rfl⟩;rw[eL,eP] at hQ;have wc:=Rh row;rw[show(if qm row=Str.ofString "column" then(1:Int) else 0)=if row then 0 else 1 by cases row<;>rfl,show atI [PV.int w,.int h] (1-if row=true then 0 else 1)=some (.int L) by rw[<-eL];cases row<;>rfl,show atI [PV.int w,.int h] (if row=true then 0 else 1)=some (.int P) by rw[<-eP];cases row<;>rfl]
  refine⟨_,rfl,?_⟩;rw[fK];walk_at "rd"
  refine jK (λq=>?_) λq=>?_
  ·unfold qY;walk_at "rd"
   exact hQ _ (by rw[Zas λz=>q ⟨z.1,z.2.1⟩];rfl)
  rw[fK];walk_at "rd"
  refine jK (λq'=>?_) λq'=>?_
  ·unfold qY;walk_at "rd"
   exact hQ _ (by rw[Zas (by omega)];rfl)
  unfold vo;walk_at "rd"
  rw[fK];walk_at "rd"
  exact hQ _ (by rw[decide_eq_decide.mpr (show(0<=f/\f<t+1)↔(0<=l/\l<L/\0<=f/\f<=t/\t<P) by omega)];rfl)
 rw[Zal (by decide)]
 refine jK (λq=>?_) λ_=>fin4;refine jK (λq'=>?_) λ_=>fin4;cases row
 ·exact absurd rfl q'
 ·exact absurd rfl q
theorem Oo{w h:Int}{p:PV}(hp:isI p "tuple"=some false):iu [.tup [.int w,.int h],p]=some (.ok (.bl false)):=by
 refine bQ (x:=fO (startR [.tup [.int w,.int h],p] 1)) ?_;unfold fO;walk_at "rd"
 refine⟨false,hp,?_⟩;walk_at "rd"
 unfold mF;walk_at "rd"
theorem Rx{w h:Int}{l:List PV}(hl:¬(l.length:Int)=4):iu [.tup [.int w,.int h],.tup l]=some (.ok (.bl false)):=by
 refine bQ (x:=fO (startR [.tup [.int w,.int h],.tup l] 1)) ?_;unfold fO;walk_at "rd"
 rw[Zao hl];unfold mF;walk_at "rd"
theorem Oq{w h:Int}{z:Str}{b c d:PV}(h1:z≠Str.ofString "row")(h2:z≠Str.ofString "column"):iu [.tup [.int w,.int h],.tup [.str z,b,c,d]]=some (.ok (.bl false)):=by
 refine bQ (x:=fO (startR [.tup [.int w,.int h],.tup [.str z,b,c,d]] 1)) ?_;unfold fO;walk_at "rd"
 rw[Zal (by decide),Zao h1,Zao h2]
 unfold mF;walk_at "rd"
theorem pG{w h:Int}{row:Bool}{l f t:Int}(hn:¬(0<=l/\(l<if row then h else w)/\0<=f/\f<=t/\t<if row then w else h)):NoO w h (.tup [.str (qm row),.int l,.int f,.int t]):=by
 refine⟨?_,by rw[show PV.tup [.str (qm row),.int l,.int f,.int t]=j6 row l f t from rfl,Om,Zas hn]⟩
 by_cases ft:f<=t
 ·rw[show PV.tup [.str (qm row),.int l,.int f,.int t]=j6 row l f t from rfl,Jb ft,Zas λz=>hn ⟨z.1,z.2.1,z.2.2.1,ft,z.2.2.2⟩]
 ·exact vY (Ko (by omega))
def Bb(w h m:Int)(p:PV):Prop:=∀ (L:List PV) (lo:Int) (i:Nat),To (cj [some (.sh (.lst L)),some (.sh (.tup [.int w,.int h])),some (.sh (.int m)),some (.sh (.int lo)),some (.sh (.int i)),some (.sh p)]) λo=>o=.rt (.int i)
theorem uE{w h m:Int}{p:PV}(hp:isI p "tuple"=some false):Bb w h m p:=λL lo i=>by
 unfold cj;walk_at "rd"
 refine⟨false,hp,?_⟩;walk_at "rd"
 unfold iU;walk_at "rd"
theorem Bc{w h m:Int}{l:List PV}(hl:¬(l.length:Int)=3):Bb w h m (.tup l):=λL lo i=>by
 unfold cj;walk_at "rd"
 rw[Zao hl];unfold iU;walk_at "rd"
theorem Vd{w h m:Int}{a b c:PV}(hb:NoN b):Bb w h m (.tup [a,b,c]):=λL lo i=>by
 unfold cj;walk_at "rd"
 rw[Zal (by decide)]
 refine⟨by decide,by decide,by decide,?_⟩
 rw[hb.2];walk_at "rd"
 unfold iU;walk_at "rd"
theorem Bd{w h m:Int}{a c:PV}{b:Int}(b0:0<=b)(b1:b<10^19)(h1:eqF 32 a (.str (Str.ofString "print"))=some false)(h2:eqF 32 a (.str (Str.ofString "cut"))=some false):Bb w h m (.tup [a,.int b,c]):=λL lo i=>by
 unfold cj;walk_at "rd"
 rw[Zal (by decide)]
 refine⟨by decide,by decide,by decide,?_⟩
 rw[fK,Zaz ⟨b0,b1⟩];walk_at "rd"
 unfold dU;walk_at "rd"
 refine⟨_,h1,?_⟩;walk_at "rd"
 unfold iY;walk_at "rd"
 refine⟨_,h2,?_⟩;walk_at "rd"
 unfold lC;walk_at "rd"
theorem Ve{w h m:Int}{c:PV}{b:Int}(b0:0<=b)(b1:b<10^19)(hc:NoN c):Bb w h m (.tup [.str (Str.ofString "print"),.int b,c]):=λL lo i=>by
 unfold cj;walk_at "rd"
 rw[Zal (by decide)]
 refine⟨by decide,by decide,by decide,?_⟩
 rw[fK,Zaz ⟨b0,b1⟩];walk_at "rd"
 unfold dU;walk_at "rd"
 unfold iW;walk_at "rd"
 rw[hc.2];walk_at "rd"
 unfold iV;walk_at "rd"
theorem Vf{w h m:Int}{c:PV}{b:Int}(b0:0<=b)(b1:b<10^19)(hc:NoO w h c):Bb w h m (.tup [.str (Str.ofString "cut"),.int b,c]):=λL lo i=>by
 unfold cj;walk_at "rd"
 rw[Zal (by decide)]
 refine⟨by decide,by decide,by decide,?_⟩
 rw[fK,Zaz ⟨b0,b1⟩];walk_at "rd"
 unfold dU;walk_at "rd"
 rw[Zal (by decide +kernel)]
 unfold iY;walk_at "rd"
 rw[hc.2];walk_at "rd"
 unfold lC;walk_at "rd"
def plain:Nat->PV->Bool
 |_,.non=>true
 |_,.int _=>true
 |_,.bl _=>true
 |_,.str _=>true
 |n+1,.tup l=>l.all (plain n)
 |n+1,.lst l=>l.all (plain n)
 |_,_=>false
theorem tH:∀ (n:Nat) (p:PV),plain n p=true->eqF n p p=some true
 |0,.non,_=>rfl
 |n+1,.non,_=>rfl
 |n,.int i,_=>N7 n i
 |n,.str z,_=>N6 n z
 |n,.bl b,_=>by rw[eqF_bl,Zaz rfl]
 |n+1,.tup l,h=>N5 λx hx=>tH n x (Za1.mp h x hx)
 |n+1,.lst l,h=>DW λx hx=>tH n x (Za1.mp h x hx)
structure Th(w h m:Int)(p:PV):Prop where
 kind:(NoD w h p/\Bb w h m p)\/Dk w h p
 plain:plain 31 p=true
theorem ie{w h m:Int}{p:PV}(a:NoD w h p)(b:Bb w h m p)(c:plain 31 p=true):Th w h m p:=⟨.inl ⟨a,b⟩,c⟩
theorem xT{w h m:Int}{z:Str}{b c:PV}(hb:NoN b)(hp:plain 31 (.tup [.str z,b,c])=true):Th w h m (.tup [.str z,b,c]):=ie (Va hb.1) (Vd hb) hp
theorem Be{w h m:Int}{b:Int}{c:PV}(b0:0<=b)(b1:b<10^19)(hc:NoN c)(hp:plain 31 (.tup [.str (Str.ofString "print"),.int b,c])=true):Th w h m (.tup [.str (Str.ofString "print"),.int b,c]):=ie (Oe b0 (by decide +kernel) λ_=>hc.1) (Ve b0 b1 hc) hp
theorem Ot{w h m:Int}{b:Int}{c:PV}(b0:0<=b)(b1:b<10^19)(hc:NoO w h c)(hp:plain 31 (.tup [.str (Str.ofString "cut"),.int b,c])=true):Th w h m (.tup [.str (Str.ofString "cut"),.int b,c]):=ie (Vb b0 hc.1) (Vf b0 b1 hc) hp
theorem Dd.plain(d:Dd):MM.plain 31 d.p=true:=by cases d<;>rfl
theorem S5{w h m:Int}{p:PV}(hp:Dk w h p):Th w h m p:=⟨.inr hp,by obtain⟨d,rfl,_⟩:=hp;exact d.plain⟩
theorem Ou{w h m b j:Int}(b0:0<=b)(b1:b<10^19)(j0:0<=j):Th w h m (.tup [.str (Str.ofString "print"),.int b,.int j]):=S5 ⟨.prt b j,rfl,⟨b0,j0⟩,b1⟩
theorem W5{w h m:Int}:∀ p∈([.non,.int 7,.str (Str.ofString "cut"),.lst [],.tup [],.tup [.str (Str.ofString "cut"),.int 0],.lst [.str (Str.ofString "print"),.int 0,.int 0],.tup [.str (Str.ofString "print"),.int 0],.tup [.str (Str.ofString "print"),.int (-1),.int 0],.tup [.str (Str.ofString "print"),.int 0,.non]]:List PV),Th w h m p:=by
 intro p hp;simp only[ZaB,ZaT,or_false] at hp;rcases hp with rfl|rfl|rfl|rfl|rfl|rfl|rfl|rfl|rfl|rfl
 ·exact ie (uD rfl) (uE rfl) rfl
 ·exact ie (uD rfl) (uE rfl) rfl
 ·exact ie (uD rfl) (uE rfl) rfl
 ·exact ie (uD rfl) (uE rfl) rfl
 ·exact ie (Ay (by decide)) (Bc (by decide)) rfl
 ·exact ie (Ay (by show ¬((2:Nat):Int)=3;decide)) (Bc (by show ¬((2:Nat):Int)=3;decide)) rfl
 ·exact ie (uD rfl) (uE rfl) rfl
 ·exact ie (Ay (by show ¬((2:Nat):Int)=3;decide)) (Bc (by show ¬((2:Nat):Int)=3;decide)) rfl
 ·exact xT (Je (by decide)) rfl
 ·exact Be (by decide) (by decide) Rw rfl
theorem W6{w h m:Int}:∀ p∈([.tup [.str (Str.ofString "print"),.int 0,.int (-1)],.tup [.str (Str.ofString "print"),.int 0,.str (Str.ofString "0")],.tup [.str (Str.ofString "print"),.str (Str.ofString "0"),.int 0],.tup [.str (Str.ofString "Print"),.int 0,.int 0],.tup [.int 0,.int 0,.int 0],.tup [.str (Str.ofString "print"),.int 0,.int 0,.int 0]]:List PV),Th w h m p:=by
 intro p hp;simp only[ZaB,ZaT,or_false] at hp;rcases hp with rfl|rfl|rfl|rfl|rfl|rfl
 ·exact Be (by decide) (by decide) (Je (by decide)) rfl
 ·exact Be (by decide) (by decide) (Jf _) rfl
 ·exact xT (Jf _) rfl
 ·exact ie (Oe (by decide) (by decide +kernel) λe=>absurd e (by decide +kernel)) (Bd (by decide) (by decide) (by decide +kernel) (by decide +kernel)) rfl
 ·exact ie (Jc rfl) (Bd (by decide) (by decide) (by decide +kernel) (by decide +kernel)) rfl
 ·exact ie (Ay (by show ¬((4:Nat):Int)=3;decide)) (Bc (by show ¬((4:Nat):Int)=3;decide)) rfl
theorem W7{w h:Int}(sz:Sz w h):∀ p∈([.tup [.str (Str.ofString "row"),.int h,.int 0,.int 0],.tup [.str (Str.ofString "row"),.int 0,.int 0,.int w],.tup [.str (Str.ofString "row"),.int 0,.int 1,.int 0],.tup [.str (Str.ofString "column"),.int w,.int 0,.int 0],.tup [.str (Str.ofString "row"),.int 0,.int 0]]:List PV),NoO w h p/\plain 30 p=true:=by
 have w0:=sz.w0;have h0:=sz.h0;intro p hp;simp only[ZaB,ZaT,or_false] at hp;rcases hp with rfl|rfl|rfl|rfl|rfl
 ·exact⟨pG (row:=true) (by simp),rfl⟩
 ·exact⟨pG (row:=true) (by simp),rfl⟩
 ·exact⟨pG (row:=true) (by simp),rfl⟩
 ·exact⟨pG (row:=false) (by simp),rfl⟩
 ·exact⟨⟨vY (U9 (by show ¬((3:Nat):Int)=4;decide)),Rx (by show ¬((3:Nat):Int)=4;decide)⟩,rfl⟩
theorem W8{w h:Int}(sz:Sz w h):∀ p∈([.tup [.str (Str.ofString "column"),.int 0,.int 0,.int h],.tup [.str (Str.ofString "line"),.int 0,.int 0,.int 0],.tup [.str (Str.ofString "row"),.int (-1),.int 0,.int 0],.lst [.str (Str.ofString "row"),.int 0,.int 0,.int 0],.tup [.str (Str.ofString "row"),.int 0,.int (-1),.int 0]]:List PV),NoO w h p/\plain 30 p=true:=by
 have w0:=sz.w0;have h0:=sz.h0;intro p hp;simp only[ZaB,ZaT,or_false] at hp;rcases hp with rfl|rfl|rfl|rfl|rfl
 ·exact⟨pG (row:=false) (by simp),rfl⟩
 ·exact⟨⟨vY (Rp (by decide +kernel)),Oq (by decide +kernel) (by decide +kernel)⟩,rfl⟩
 ·exact⟨pG (row:=true) (by simp),rfl⟩
 ·exact⟨⟨vY (Ro rfl),Oo rfl⟩,rfl⟩
 ·exact⟨pG (row:=true) (by simp),rfl⟩
theorem W9{w h m:Int}:∀ p∈([.tup [.str (Str.ofString "print"),.int 0,.bl true],.tup [.str (Str.ofString "print"),.bl true,.int (m-1)],.tup [.str (Str.ofString "print"),.bl false,.int 0],.tup [.lst [],.int 0,.tup [.str (Str.ofString "row"),.int 0,.int 0,.int 0]]]:List PV),Th w h m p:=by
 intro p hp;simp only[ZaB,ZaT,or_false] at hp;rcases hp with rfl|rfl|rfl|rfl
 ·exact Be (by decide) (by decide) (Ba _) rfl
 ·exact xT (Ba _) rfl
 ·exact xT (Ba _) rfl
 ·exact ie (Jc rfl) (Bd (by decide) (by decide) (by decide +kernel) (by decide +kernel)) rfl
theorem Xa{w h m:Int}:Th w h m (.tup [.str (Str.ofString "cut"),.bl false,.tup [.str (Str.ofString "row"),.int 0,.int 0,.int 0]]):=xT (Ba _) rfl
theorem jA{α:Type}{Q:α->Prop}{l m:List α}(h:∀ p∈l,Q p)(h':∀ p∈m,Q p):∀ p∈l++m,Q p:=λp hp=>(ZaR.mp hp).elim (h p) (h' p)
theorem Kp{w h m:Int}(sz:Sz w h)(m1:1<=m)(m8:m<=8)(ns:List Int)(h8:5<=ns.length):∃ p,pB [.tup [.int w,.int h],.int m,.lst (ns.map .int)]=some (.ok p)/\Th w h m p:=by
 have at1:∀ i:Int,0<=i->i<5->atI (ns.map PV.int) i=some (.int (ns.getD i.toNat 0)):=λi h0 h1=>fM h0 (by omega)
 refine qH (x:=pA (startR [.tup [.int w,.int h],.int m,.lst (ns.map .int)] 6)) (sr λQS hQ=>?_);unfold pA;rw[show startR [PV.tup [.int w,.int h],.int m,.lst (ns.map .int)] 6=[some (.sh (.tup [.int w,.int h])),some (.sh (.int m)),some (.sh (.lst (ns.map .int))),none,none,none,none,none,none] from rfl];refine pD (λρ'=>ρ'=[some (.sh (.tup [.int w,.int h])),some (.sh (.int m)),some (.sh (.lst (ns.map .int))),some (.sh (.int w)),some (.sh (.int h)),none,none,none,none]) ?_ ?_
 ·walk_at "rd"
  exact⟨_,rfl,rfl⟩
 rintro _ rfl;refine pD (λρ'=>ρ'=[some (.sh (.tup [.int w,.int h])),some (.sh (.int m)),some (.sh (.lst (ns.map .int))),some (.sh (.int w)),some (.sh (.int h)),some (.sh (.lst [.int 0,.int (m-1),.int m,.int (10^18)])),none,none,none]) ?_ ?_
 ·walk_at "rd"
  repeat (refine⟨by decide,?_⟩)
  exact⟨_,rfl,rfl⟩
 rintro _ rfl;refine pD (λρ'=>∃ L:List PV,ρ'=[some (.sh (.tup [.int w,.int h])),some (.sh (.int m)),some (.sh (.lst (ns.map .int))),some (.sh (.int w)),some (.sh (.int h)),some (.sh (.lst [.int 0,.int (m-1),.int m,.int (10^18)])),some (.ow (.lst L)),none,none]/\L.length=10/\∀ p∈L,Th w h m p) ?_ ?_
 ·walk_at "rd"
  repeat (refine⟨by decide,?_⟩)
  exact⟨_,rfl,_,rfl,rfl,W5⟩
 rintro _ ⟨L,rfl,nL,hL⟩;refine pD (λρ'=>∃ L:List PV,ρ'=[some (.sh (.tup [.int w,.int h])),some (.sh (.int m)),some (.sh (.lst (ns.map .int))),some (.sh (.int w)),some (.sh (.int h)),some (.sh (.lst [.int 0,.int (m-1),.int m,.int (10^18)])),some (.ow (.lst L)),none,none]/\L.length=16/\∀ p∈L,Th w h m p) ?_ ?_
 ·walk_at "rd"
  repeat (refine⟨by decide,?_⟩)
  exact⟨by rw[nL];decide,_,rfl,_,rfl,by rw[List.length_append,nL];rfl,jA hL W6⟩
 rintro _ ⟨L,rfl,nL,hL⟩;refine pD (λρ'=>∃ (L:List PV) (v7 v8:Option Sl),ρ'=[some (.sh (.tup [.int w,.int h])),some (.sh (.int m)),some (.sh (.lst (ns.map .int))),some (.sh (.int w)),some (.sh (.int h)),some (.sh (.lst [.int 0,.int (m-1),.int m,.int (10^18)])),some (.ow (.lst L)),v7,v8]/\L.length=20/\∀ p∈L,Th w h m p) ?_ ?_
 ·walk_at "rd"
  refine gm (λi ρ=>∃ (L:List PV) (v7 v8:Option Sl),ρ=[some (.sh (.tup [.int w,.int h])),some (.sh (.int m)),some (.sh (.lst (ns.map .int))),some (.sh (.int w)),some (.sh (.int h)),some (.sh (.lst [.int 0,.int (m-1),.int m,.int (10^18)])),some (.ow (.lst L)),v7,v8]/\L.length=16+i/\∀ p∈L,Th w h m p) ⟨L,_,_,rfl,nL,hL⟩ ?_ ?_
  ·rintro i x ρ hx ⟨L,v7,v8,rfl,nL,hL⟩;have il:=(Zaj.mp hx).1;have il:i<4:=il;have hx:=Zax hx;refine xj λQS hQ=>?_;obtain⟨j,rfl,j0⟩:∃ j:Int,x=.int j/\0<=j:=by
    simp only[ZaB,ZaT,or_false] at hx;rcases hx with rfl|rfl|rfl|rfl
    ·exact⟨_,rfl,by decide⟩
    ·exact⟨_,rfl,by omega⟩
    ·exact⟨_,rfl,by omega⟩
    ·exact⟨_,rfl,by decide⟩
   unfold uw;walk_at "rd"
   refine⟨_,at1 3 (by decide) (by decide),?_⟩
   walk_at "rd"
   exact⟨by decide,by decide,bU (by omega),hQ _ ⟨_,_,_,rfl,by rw[List.length_append,nL];rfl,jA hL λp hp=>by
    rw[ZaD.mp hp];exact Ou (by omega) (by omega) j0⟩⟩
  ·rintro ρ ⟨L,v7,v8,rfl,nL,hL⟩;exact⟨_,rfl,L,v7,v8,rfl,nL,hL⟩
 rintro _ ⟨L,v7,v8,rfl,nL,hL⟩;unfold uB;refine pD (λρ'=>∃ (L:List PV) (v7 v8:Option Sl),ρ'=[some (.sh (.tup [.int w,.int h])),some (.sh (.int m)),some (.sh (.lst (ns.map .int))),some (.sh (.int w)),some (.sh (.int h)),some (.sh (.lst [.int 0,.int (m-1),.int m,.int (10^18)])),some (.ow (.lst L)),v7,v8]/\L.length=25/\∀ p∈L,Th w h m p) ?_ ?_
 ·walk_at "rd"
  repeat (refine⟨by decide,?_⟩)
  refine gm (λi ρ=>∃ (L:List PV) (v7 v8:Option Sl),ρ=[some (.sh (.tup [.int w,.int h])),some (.sh (.int m)),some (.sh (.lst (ns.map .int))),some (.sh (.int w)),some (.sh (.int h)),some (.sh (.lst [.int 0,.int (m-1),.int m,.int (10^18)])),some (.ow (.lst L)),v7,v8]/\L.length=20+i/\∀ p∈L,Th w h m p) ⟨L,_,_,rfl,nL,hL⟩ ?_ ?_
  ·rintro i x ρ hx ⟨L,v7,v8,rfl,nL,hL⟩;have il:=(Zaj.mp hx).1;have il:i<5:=il;have hx:=Zax hx;refine xj λQS hQ=>?_;have hx:=W7 sz x hx;unfold ux;walk_at "rd"
   exact⟨by decide,bU (by omega),hQ _ ⟨_,_,_,rfl,by rw[List.length_append,nL];rfl,jA hL λp hp=>by
    rw[ZaD.mp hp];exact Ot (by decide) (by decide) hx.1 (by simp[plain,hx.2])⟩⟩
  ·rintro ρ ⟨L,v7,v8,rfl,nL,hL⟩;exact⟨_,rfl,L,v7,v8,rfl,nL,hL⟩
 rintro _ ⟨L,v7,v8,rfl,nL,hL⟩;unfold uA;refine pD (λρ'=>∃ (L:List PV) (v7 v8:Option Sl),ρ'=[some (.sh (.tup [.int w,.int h])),some (.sh (.int m)),some (.sh (.lst (ns.map .int))),some (.sh (.int w)),some (.sh (.int h)),some (.sh (.lst [.int 0,.int (m-1),.int m,.int (10^18)])),some (.ow (.lst L)),v7,v8]/\L.length=30/\∀ p∈L,Th w h m p) ?_ ?_
 ·walk_at "rd"
  repeat (refine⟨by decide,?_⟩)
  refine gm (λi ρ=>∃ (L:List PV) (v7 v8:Option Sl),ρ=[some (.sh (.tup [.int w,.int h])),some (.sh (.int m)),some (.sh (.lst (ns.map .int))),some (.sh (.int w)),some (.sh (.int h)),some (.sh (.lst [.int 0,.int (m-1),.int m,.int (10^18)])),some (.ow (.lst L)),v7,v8]/\L.length=25+i/\∀ p∈L,Th w h m p) ⟨L,_,_,rfl,nL,hL⟩ ?_ ?_
  ·rintro i x ρ hx ⟨L,v7,v8,rfl,nL,hL⟩;have il:=(Zaj.mp hx).1;have il:i<5:=il;have hx:=Zax hx;refine xj λQS hQ=>?_;have hx:=W8 sz x hx;unfold uy;walk_at "rd"
   refine⟨_,at1 4 (by decide) (by decide),by decide,by decide,by decide,?_⟩
   walk_at "rd"
   exact⟨by decide,by decide,bU (by omega),hQ _ ⟨_,_,_,rfl,by rw[List.length_append,nL];rfl,jA hL λp hp=>by
    rw[ZaD.mp hp];exact Ot (by omega) (by omega) hx.1 (by simp[plain,hx.2])⟩⟩
  ·rintro ρ ⟨L,v7,v8,rfl,nL,hL⟩;exact⟨_,rfl,L,v7,v8,rfl,nL,hL⟩
 rintro _ ⟨L,v7,v8,rfl,nL,hL⟩;unfold uz;walk_at "rd"
 repeat (refine⟨by decide,?_⟩)
 refine⟨by rw[nL];decide,by decide,by decide,by rw[List.length_append,nL];exact bU (show 30+4<=1000 by decide),_,at1 2 (by decide) (by decide),?_⟩
 have hL:=jA (jA hL W9) (λp hp=>by rw[ZaD.mp hp];exact Xa (w:=w) (h:=h) (m:=m):∀ p∈[PV.tup [.str (Str.ofString "cut"),.bl false,.tup [.str (Str.ofString "row"),.int 0,.int 0,.int 0]]],Th w h m p)
 have nL:(L++[PV.tup [PV.str (Str.ofString "print"),PV.int 0,PV.bl true],PV.tup [PV.str (Str.ofString "print"),PV.bl true,PV.int (m-1)],PV.tup [PV.str (Str.ofString "print"),PV.bl false,PV.int 0],PV.tup [PV.lst [],PV.int 0,PV.tup [PV.str (Str.ofString "row"),PV.int 0,PV.int 0,PV.int 0]]]++[PV.tup [.str (Str.ofString "cut"),.bl false,.tup [.str (Str.ofString "row"),.int 0,.int 0,.int 0]]]).length=35:=by rw[List.length_append,List.length_append,nL];rfl
 walk_at "rd"
 obtain⟨p,e,hp⟩:=Rq (i:=ns.getD 2 0%35) (Zam _ (by decide)) (by rw[nL];exact Zak _ (by decide)) hL
 exact⟨by decide,p,e,hQ _ ⟨_,rfl,hp⟩⟩
theorem Kq(l:List PV)(k:Nat)(hk:k<=l.length):nG l none (some (k:Int))=l.take k:=by
 unfold nG;rw[HT.tU,HT.vN,Nat.min_eq_left hk,Za7,Nat.sub_zero]
theorem zr(l:List PV)(k:Nat)(hk:k<=l.length):nG l (some (k:Int)) none=l.drop k:=by
 unfold nG;rw[HT.tU,HT.vN,Nat.min_eq_left hk,Zbk (by simp)]
theorem GD{w h m:Int}(sz:Sz w h)(m1:1<=m)(m8:m<=8)(L:List PV)(hl:L.length<=63)(hL:∀ p∈L,Th w h m p)(c:Int):∃ L2:List PV,gQ [.lst L,.tup [.int w,.int h],.int m,.int c]=some (.ok (.lst L2))/\L2.length<=65/\∀ p∈L2,Th w h m p:=by
 suffices g:∃ p,gQ [.lst L,.tup [.int w,.int h],.int m,.int c]=some (.ok p)/\∃ L2:List PV,p=.lst L2/\L2.length<=65/\∀ p∈L2,Th w h m p by
  obtain⟨p,e,L,rfl,o⟩:=g;exact⟨L,e,o⟩
 obtain⟨cc,ew⟩:=tG c 1 (by decide) (by decide)
 obtain⟨fs,es,h8,hp⟩:=kj (cc+41) 12 (by decide) (by decide)
 have h8:fs.length=12:=by omega
 have at1:∀ i:Int,0<=i->i<12->atI (fs.map PV.int) i=some (.int (fs.getD i.toNat 0)):=λi h0 h1=>fM h0 (by omega)
 have big:∀ {n:Nat},n<=900->n<=sizeLine:=λh=>ZaM (bU (by omega))
 refine ul (x:=jy (startR [.lst L,.tup [.int w,.int h],.int m,.int c] 5)) (sr λQS hQ=>?_);unfold jy;walk_at "rd"
 rw[ew];walk_at "rd"
 rw[es];walk_at "rd"
 refine⟨_,at1 0 (by decide) (by decide),?_⟩
 walk_at "rd"
 obtain⟨e,ee,e2⟩:=Ea (fs.getD 0 0) (show 0<2 by decide)
 rw[show fs.getD 0 0%2=(e:Int) from ee];refine⟨by decide,by omega,by omega,?_⟩
 refine gm (λi ρ=>∃ (L2:List PV) (v6 v7 v8:Option Sl),ρ=[some (.sh (.lst L)),some (.sh (.tup [.int w,.int h])),some (.sh (.int m)),some (.sh (.int c)),some (.sh (.lst (fs.map .int))),some (.ow (.lst L2)),v6,v7,v8]/\L2.length=L.length+i/\∀ p∈L2,Th w h m p) ⟨L,_,_,_,rfl,rfl,hL⟩ ?_ ?_
 ·rintro i x ρ hx ⟨L2,v6,v7,v8,rfl,nL,hL2⟩;obtain⟨hi,rfl⟩:=Am hx;rw[Int.zero_add];have hi:i<2:=by omega
  refine xj λQS hQ=>?_;have fin3:∀ (a:Nat) (p:PV) (v6:Option Sl),a<=L2.length->Th w h m p->To (jM [some (.sh (.lst L)),some (.sh (.tup [.int w,.int h])),some (.sh (.int m)),some (.sh (.int c)),some (.sh (.lst (fs.map .int))),some (.ow (.lst L2)),v6,some (.sh (.int a)),some (.sh p)]) QS:=λa p v6 ha hp=>by
   unfold jM;walk_at "rd"
   rw[Kq _ _ ha,zr _ _ ha];refine⟨by decide,by rw[Za0];exact big (by show min a L2.length+1<=900;omega),?_⟩
   have ln:(L2.take a++[p]++L2.drop a).length=L2.length+1:=by rw[List.length_append,List.length_append,Za0,Zbj];show min a L2.length+1+_=_;omega
   refine⟨by rw[<-List.length_append,ln];exact big (by omega),hQ _ ⟨_,_,_,_,rfl,by rw[ln];omega,?_⟩⟩
   exact jA (jA (λq hq=>hL2 q (List.mem_of_mem_take hq)) λq hq=>by rw[ZaD.mp hq];exact hp) λq hq=>hL2 q (List.mem_of_mem_drop hq)
  have fin4:∀ (a:Nat) (v8:Option Sl),a<=L2.length->To (jN [some (.sh (.lst L)),some (.sh (.tup [.int w,.int h])),some (.sh (.int m)),some (.sh (.int c)),some (.sh (.lst (fs.map .int))),some (.ow (.lst L2)),some (.sh (.int i)),some (.sh (.int a)),v8]) QS:=λa v8 ha=>by
   unfold jN;walk_at "rd"
   refine⟨.inl ⟨by decide,by decide⟩,?_⟩
   rw[show nG (fs.map PV.int) (some (5*(i:Int))) none=(fs.drop (5*i)).map PV.int by
    rw[show(5*(i:Int))=((5*i:Nat):Int) by omega,zr _ _ (by rw[List.length_map];omega),List.map_drop]]
   obtain⟨p,ep,hp⟩:=Kp sz m1 m8 (fs.drop (5*i)) (by rw[Zbj];omega)
   rw[ep];walk_at "rd"
   refine jK (λq=>?_) λq=>fin3 a p _ ha hp;refine⟨_,at1 11 (by decide) (by decide),?_⟩
   walk_at "rd"
   refine⟨by decide,jK (λq=>?_) λq=>fin3 a p _ ha hp⟩
   unfold qe;walk_at "rd"
   refine⟨_,at1 10 (by decide) (by decide),?_⟩
   walk_at "rd"
   exact⟨by decide,by decide,fin3 L2.length _ _ (Zag _) (Ou (by decide) (by decide) (by omega))⟩
  unfold qg;walk_at "rd"
  refine⟨.inl ⟨by decide,by decide⟩,_,at1 _ (by omega) (by omega),?_⟩
  walk_at "rd"
  obtain⟨a,ea,ha⟩:=Ea (fs.getD (1+5*(i:Int)).toNat 0) (show 0<L2.length+1 by omega)
  rw[show((L2.length:Int)+1)=((L2.length+1:Nat):Int) by omega,ea]
  refine⟨by omega,.inl ⟨by decide,by decide⟩,_,at1 _ (by omega) (by omega),?_⟩
  walk_at "rd"
  refine⟨by decide,jK (λq=>?_) λq=>fin4 a _ (by omega)⟩
  unfold qd;walk_at "rd"
  exact fin4 _ _ (Zag _)
 ·rintro ρ ⟨L2,v6,v7,v8,rfl,nL,hL2⟩;unfold qi;walk_at "rd"
  exact hQ _ ⟨_,rfl,L2,rfl,by rw[nL,cJ];omega,hL2⟩
theorem rR(l:List Dd)(d:Dd):dW (l++[d])=dW l++(d.xQ.toList):=by
 unfold dW;rw[List.filterMap_append];cases d<;>rfl
def Stop(w h m:Int)(l:List Dd)(p:PV):Prop:=(NoD w h p/\Bb w h m p)\/∃ b j:Int,p=(Dd.prt b j).p/\0<=b/\b<10^19/\0<=j/\(m<=j\/∃ x∈dW l,j<=x)
structure vp(w h m:Int)(l:List Dd):Prop extends Good w h m l where
 bl:∀ d∈l,d.block<10^19
inductive Spl(w h m:Int)(acc:List Dd):List PV->Prop
 |all (l:List Dd) (g:vp w h m (acc++l)):Spl w h m acc (l.map Dd.p)
 |at (l:List Dd) (p:PV) (r:List PV) (g:vp w h m (acc++l)) (s:Stop w h m (acc++l) p):Spl w h m acc (l.map Dd.p++p::r)
theorem Spl.cons{w h m:Int}{acc:List Dd}{d:Dd}{L:List PV}(s:Spl w h m (acc++[d]) L):Spl w h m acc (d.p::L):=by
 have e:∀ l:List Dd,acc++[d]++l=acc++d::l:=λl=>by rw[List.append_assoc];rfl
 cases s with
 |all l g=>rw[e] at g;exact .all (d::l) g
 |«at» l p r g s=>rw[e] at g s;exact .at (d::l) p r g s
theorem Jg{w h m:Int}:∀ (L:List PV) (acc:List Dd),vp w h m acc->acc.length+L.length<=1000->(∀ p∈L,Th w h m p)->Spl w h m acc L
 |[],acc,g,hl,hL=>.all [] (by rw[Zav];exact g)
 |p::L,acc,g,hl,hL=>by
  have hp:=hL p List.mem_cons_self;rw[ZaG] at hl;have stop:Stop w h m acc p->Spl w h m acc (p::L):=λz=>.at [] p L (by rw[Zav];exact g) (by rw[Zav];exact z)
  rcases hp.kind with z|⟨d,rfl,dok,db⟩
  ·exact stop (.inl z)
  ·have go:(∀ x∈d.xQ.toList,x<m/\∀ y∈dW acc,y<x)->Spl w h m acc (d.p::L):=λhx=>by
    have g2:vp w h m (acc++[d]):=by
     refine⟨⟨by rw[List.length_append];show _+1<=_;omega,pF g.ok dok,?_,?_⟩,pF g.bl db⟩
     ·rw[rR];refine List.pairwise_append.mpr ⟨g.inks,?_,λy hy x hx'=>(hx x hx').2 y hy⟩;cases d.xQ with
      |none=>exact List.Pairwise.nil
      |some i=>exact List.pairwise_singleton _ _
     ·rw[rR];exact jA g.less λx hx'=>(hx x hx').1
    exact(Jg L (acc++[d]) g2 (by rw[List.length_append];show _+1+_<=_;omega) λq hq=>hL q (List.mem_cons_of_mem _ hq)).cons
   cases d with
   |cut b row l f t=>exact go λx hx=>by cases hx
   |prt b j=>
    by_cases q:m<=j\/∃ x∈dW acc,j<=x
    ·exact stop (.inr ⟨b,j,rfl,dok.1,db,dok.2,q⟩)
    ·refine go λx hx=>?_;rw[show(Dd.prt b j).xQ.toList=[j] from rfl,ZaD] at hx;subst hx;exact⟨by omega,λy hy=>Int.not_le.mp λz=>q (.inr ⟨y,hy,z⟩)⟩
def LoI(w h m:Int)(L:List PV)(l:List Dd)(i:Nat)(ρ:Rho):Prop:=
 ∃ (lo:Int) (v4 v5:Option Sl),ρ=[some (.sh (.lst L)),some (.sh (.tup [.int w,.int h])),some (.sh (.int m)),some (.sh (.int lo)),v4,v5]/\i<=l.length/\(∀ x∈dW (l.take i),x<lo)/\∀ j:Int,0<=j->(∀ x∈dW (l.take i),x<j)->lo<=j
theorem xU{w h m:Int}{L:List PV}{l:List Dd}(g:vp w h m l){QS:Out->Prop}{i:Nat}{d:Dd}{ρ:Rho}(ed:l[i]?=some d)(hρ:LoI w h m L l i ρ) :
  To (cj ((ρ.set 4 (some (.sh (.int i)))).set 5 (some (.sh d.p)))) (turn (LoI w h m L l (i+1)) QS):=by
 obtain⟨lo,v4,v5,rfl,il,h1,h2⟩:=hρ;have il:i<l.length:=(Zaj.mp ed).1;have dk:=g.ok d (Zax ed);have db:=g.bl d (Zax ed);have tk:l.take (i+1)=l.take i++[d]:=take_snoc ed;unfold LoI;rw[tk,rR];refine xj λQS hQ=>?_;unfold cj;cases d with
 |cut b row a f t=>
  rw[show(Dd.cut b row a f t).p=.tup [.str (Str.ofString "cut"),.int b,j6 row a f t] from rfl];walk_at "rd"
  rw[Zal (by decide)]
  refine⟨by decide,by decide,by decide,?_⟩
  rw[fK,Zaz ⟨dk.1,db⟩];walk_at "rd"
  unfold dU;walk_at "rd"
  rw[Zal (by decide +kernel)]
  unfold iY;walk_at "rd"
  rw[Om,Zaz ⟨dk.2.l0,dk.2.l1,dk.2.f0,dk.2.ft,dk.2.t1⟩];walk_at "rd"
  exact hQ _ ⟨lo,_,_,rfl,by omega,by rw[show(Dd.cut b row a f t).xQ.toList=[] from rfl,Zav];exact h1,by rw[show(Dd.cut b row a f t).xQ.toList=[] from rfl,Zav];exact h2⟩
 |prt b j=>
  have ji:j∈dW l:=List.mem_filterMap.mpr ⟨_,Zax ed,rfl⟩;have jl:∀ x∈dW (l.take i),x<j:=by
   have hp:(dW (l.take (i+1))).Pairwise (·<·):=g.inks.sublist (List.Sublist.filterMap _ (List.take_sublist _ _));rw[tk,rR] at hp;exact λx hx=>(List.pairwise_append.mp hp).2.2 x hx j (by simp[Dd.xQ])
  have lj:=h2 j dk.2 jl;rw[show(Dd.prt b j).p=.tup [.str (Str.ofString "print"),.int b,.int j] from rfl];walk_at "rd"
  rw[Zal (by decide)]
  refine⟨by decide,by decide,by decide,?_⟩
  rw[fK,Zaz ⟨dk.1,db⟩];walk_at "rd"
  unfold dU;walk_at "rd"
  unfold iW;walk_at "rd"
  rw[fK,Zaz ⟨dk.2,g.less j ji⟩];walk_at "rd"
  rw[Zal (by omega)]
  unfold q9;walk_at "rd"
  refine hQ _ ⟨j+1,_,_,rfl,by omega,jA (λx hx=>by have:=jl x hx;omega) λx hx=>?_,λk k0 hk=>?_⟩
  ·rw[show(Dd.prt b j).xQ.toList=[j] from rfl,ZaD] at hx;omega
  ·have:=hk j (ZaC _ (by simp[Dd.xQ]))
   omega
theorem LoI.zero{w h m:Int}{L:List PV}{l:List Dd}:LoI w h m L l 0 [some (.sh (.lst L)),some (.sh (.tup [.int w,.int h])),some (.sh (.int m)),some (.sh (.int 0)),none,none]:=⟨0,_,_,rfl,Zbh _,λ_ h=>by(cases h),λ_ h _=>h⟩
theorem Ov{w h m:Int}{l:List Dd}(g:vp w h m l):iZ [.lst (l.map Dd.p),.tup [.int w,.int h],.int m]=some (.ok .non):=by
 refine bQ (x:=gD (startR [.lst (l.map Dd.p),.tup [.int w,.int h],.int m] 3)) ?_;unfold gD;walk_at "rd"
 refine lr (LoI w h m (l.map Dd.p) l) LoI.zero ?_ ?_
 ·intro i x ρ hx hρ;rw[Zaf] at hx;cases ed:l[i]? with
  |none=>rw[ed] at hx;cases hx
  |some d=>
   rw[ed] at hx;cases hx;exact xU g ed hρ
 ·rintro ρ ⟨lo,v4,v5,rfl,il,h1,h2⟩;unfold rA;walk_at "rd"
theorem Ow{w h m:Int}{l:List Dd}(g:vp w h m l){p:PV}(hp:Stop w h m l p)(r:List PV):iZ [.lst (l.map Dd.p++p::r),.tup [.int w,.int h],.int m]=some (.ok (.int l.length)):=by
 refine bQ (x:=gD (startR [.lst (l.map Dd.p++p::r),.tup [.int w,.int h],.int m] 3)) ?_;unfold gD;walk_at "rd"
 refine lr (LoI w h m (l.map Dd.p++p::r) l) LoI.zero ?_ ?_
 ·intro i x ρ hx hρ;by_cases il:i<l.length
  ·rw[Zap (by rw[List.length_map];exact il),Zaf,Zad il] at hx
   cases hx;exact xU g (Zad il) hρ
  ·obtain⟨lo,v4,v5,rfl,il2,h1,h2⟩:=hρ;have e:i=l.length:=by omega
   subst e;rw[Zaw (by rw[List.length_map];exact Zag _),List.length_map,Nat.sub_self] at hx
   cases hx;rw[List.take_length] at h1 h2;have fin:To (cj [some (.sh (.lst (l.map Dd.p++p::r))),some (.sh (.tup [.int w,.int h])),some (.sh (.int m)),some (.sh (.int lo)),some (.sh (.int (l.length:Nat))),some (.sh p)]) λo=>o=.rt (.int (l.length:Nat)):=by
    rcases hp with⟨_,hp⟩|⟨b,j,rfl,b0,b1,j0,hj⟩
    ·exact hp _ lo _
    ·unfold cj;rw[show(Dd.prt b j).p=.tup [.str (Str.ofString "print"),.int b,.int j] from rfl];walk_at "rd"
     rw[Zal (by decide)]
     refine⟨by decide,by decide,by decide,?_⟩
     rw[fK,Zaz ⟨b0,b1⟩];walk_at "rd"
     unfold dU;walk_at "rd"
     unfold iW;walk_at "rd"
     rw[fK];walk_at "rd"
     refine jK (λq=>?_) λq=>?_
     ·unfold iV;walk_at "rd"
     ·rw[Zao (by
       rcases hj with z|⟨x,hx,z⟩
       ·omega
       ·have:=h1 x hx;omega)]
      unfold iV;walk_at "rd"
   obtain⟨o,e,c,rfl⟩:=fin;exact⟨_,e,c,rfl⟩
 ·rintro ρ ⟨lo,v4,v5,rfl,il,h1,h2⟩;rw[List.length_append,List.length_map,ZaG] at il;omega
theorem zu{w h:Nat}(f:Nat->Nat->Str)(h0:0<h):rM [vH w h f]=some (.ok (.tup [.int w,.int h])):=by
 refine bQ (x:=rK (startR [vH w h f] 0)) ?_;unfold rK vH;walk_at "rd"
 have e0:atI ((List.range h).map λr=>PV.lst ((List.range w).map λc=>.str (f c r))) ((0:Nat):Int)=some (PV.lst ((List.range w).map λc=>.str (f c 0))):=jn (by rw[Zaf,ZaO h0];rfl)
 refine⟨_,e0,?_⟩;walk_at "rd"
 refine⟨by decide,?_⟩
 rw[List.length_map,ZaK,List.length_map,ZaK]
theorem Eb{w h:Int}(sz:Sz w h)(paper:Str)(inks:List Ink)(states:List Nat)(hl:states.length<=inks.length)(h8:inks.length<=8) :
  rO [.tup [.str paper,.lst (inks.map jd)],.tup [.int w,.int h],sS states]=some (.ok (vH w.toNat h.toNat λc r=>mG inks paper (tE states (r*w.toNat+c)))):=by
 have h0:=sz.h0;have h1:=sz.h1;refine Q0 (x:=rN (startR [.tup [.str paper,.lst (inks.map jd)],.tup [.int w,.int h],sS states] 0)) ?_;unfold rN;walk_at "rd"
 refine⟨by omega,by omega,by rw[cJ];exact ZaM (bU (by omega)),?_⟩
 rw[uC,jz (λi=>PV.int ((i:Nat):Int)) (λr=>.lst ((List.range w.toNat).map λc=>.str (mG inks paper (tE states (r*w.toNat+c))))) _ λr hr=>?_]
 ·walk_at "rd"
  rfl
 ·walk_at "rd"
  rw[xP sz paper inks states hl h8 (ZaW.mp hr)];walk_at "rd"
  exact Za1.mpr λx hx=>by obtain⟨c,_,rfl⟩:=Zbn.mp hx;rfl
def Vg(l:List (Key×PV)):Prop:=∀ k p,lG l k=some p->∃ n:Nat,p=.int (n:Int)
theorem zx:∀ ps:List (Int×Nat),oU (ps.map ni)=some (ps.map λx=>(PV.int x.1,PV.int (x.2:Nat)))
 |[]=>rfl
 |x::ps=>by
  rw[Zay];unfold oU;rw[zx ps];rfl
theorem xV:∀ (ps:List (Int×Nat)) (l0:List (Key×PV)),l0.length+ps.length<=1000->Vg l0->∃ l,jZ (.dk l0) (ps.map λx=>(PV.int x.1,PV.int (x.2:Nat)))=some (.dk l)/\Vg l
 |[],l0,_,h=>⟨l0,rfl,h⟩
 |x::ps,l0,hl,h=>by
  rw[ZaG] at hl;have h1:=xr (Sum.inl x.1:Key) (.int (x.2:Nat)) l0;obtain⟨l,e,hv⟩:=xV ps (mX l0 (.inl x.1) (.int (x.2:Nat))) (by omega) λk p e=>by
   rw[xq] at e;split at e
   ·cases e;exact⟨_,rfl⟩
   ·exact h k p e
  refine⟨l,?_,hv⟩;rw[Zay];unfold jZ;rw[show JS (.dk l0) (.int x.1) (.int (x.2:Nat))=some (.dk (mX l0 (.inl x.1) (.int (x.2:Nat)))) from by rw[Nv,Zao (bU (by omega))]]
  exact e
def Ry(l:List (Key×PV))(i:Int):Nat:=match lG l (.inl i) with
 |some (.int k)=>k.toNat
 |_=>0
theorem Rz{l:List (Key×PV)}(h:Vg l)(i:Int):(lG l (.inl i)).getD (.int 0)=.int (Ry l i:Nat):=by
 unfold Ry;cases e:lG l (.inl i) with
 |none=>rfl
 |some p=>
  obtain⟨n,rfl⟩:=h _ p e;rfl
theorem GF(m:Nat)(hm:m<=8)(ps:List (Int×Nat))(hl:ps.length<=900):∃ st:List Nat,eY [.int m,.lst (ps.map ni)]=some (.ok (sS st))/\st.length=m:=by
 suffices g:∃ p,eY [.int m,.lst (ps.map ni)]=some (.ok p)/\∃ st:List Nat,p=sS st/\st.length=m by
  obtain⟨p,e,st,rfl,o⟩:=g;exact⟨st,e,o⟩
 refine ul (x:=gC (startR [.int m,.lst (ps.map ni)] 1)) (sr λQS hQ=>?_);unfold gC;walk_at "rd"
 obtain⟨l,el,hl2⟩:=xV ps [] (by show 0+_<=_;omega) λk p e=>by cases e
 refine⟨_,zx ps,_,el,by omega,by omega,by rw[cJ];exact ZaM (bU (by omega)),?_⟩
 rw[ZaJ,uC,jz (λi=>PV.int ((i:Nat):Int)) (λi=>PV.int (Ry l (i:Int):Nat)) _ λi hi=>?_]
 ·walk_at "rd"
  refine hQ _ ⟨_,rfl,(List.range m).map λ(i:Nat)=>Ry l (i:Int),?_,by rw[List.length_map,ZaK]⟩
  unfold sS;rw[Za8];rfl
 ·walk_at "rd"
  exact Rz hl2 _
theorem Kr{w h:Nat}(f:Nat->Nat->Str)(G:List PV)(hG:∀ r,r<h->∃ row,atI G ((r:Nat):Int)=some (.lst row)/\∀ c,c<w->∃ z,atI row ((c:Nat):Int)=some (.str z)):∃ p,gr [vH w h f,.lst G]=some (.ok p):=by
 suffices q:∃ p,gr [vH w h f,.lst G]=some (.ok p)/\True by
  obtain⟨p,e,-⟩:=q;exact⟨p,e⟩
 refine qH (x:=iQ (startR [vH w h f,.lst G] 4)) (sr λQS hQ=>?_);obtain⟨F,eF,hF⟩:∃ F:List PV,vH w h f=.lst F/\∀ (r:Nat) x,F[r]?=some x->r<h/\∃ row,x=.lst row/\∀ (c:Nat) y,row[c]?=some y->c<w/\∃ z,y=.str z:=by
  refine⟨_,rfl,λr x hx=>?_⟩;rw[Zaf] at hx;by_cases hr:r<h
  ·rw[ZaO hr] at hx;cases hx;refine⟨hr,_,rfl,λc y hy=>?_⟩;rw[Zaf] at hy;by_cases hc:c<w
   ·rw[ZaO hc] at hy;cases hy;exact⟨hc,_,rfl⟩
   ·rw[ZaH (by rw[ZaK];omega)] at hy;cases hy
  ·rw[ZaH (by rw[ZaK];omega)] at hx;cases hx
 unfold iQ;rw[eF,show startR [.lst F,PV.lst G] 4=[some (.sh (.lst F)),some (.sh (.lst G)),none,none,none,none] from rfl];walk_at "rd"
 refine lr (λi ρ=>∃ v2 v3 v4 v5:Option Sl,ρ=[some (.sh (.lst F)),some (.sh (.lst G)),v2,v3,v4,v5]) ⟨_,_,_,_,rfl⟩ ?_ ?_
 ·rintro r x ρ hx ⟨v2,v3,v4,v5,rfl⟩;obtain⟨hr,row,rfl,hrow⟩:=hF r x hx;obtain⟨grow,e1,hg⟩:=hG r hr;unfold nQ;walk_at "rd"
  refine lr (λi ρ=>∃ v4 v5:Option Sl,ρ=[some (.sh (.lst F)),some (.sh (.lst G)),some (.sh (.int r)),some (.sh (.lst row)),v4,v5]) ⟨_,_,rfl⟩ ?_ ?_
  ·rintro c y ρ hy ⟨v4,v5,rfl⟩;obtain⟨hc,z,rfl⟩:=hrow c y hy;obtain⟨u,e2⟩:=hg c hc;refine Wz λQT hN _ hR _ _=>?_;unfold nP;walk_at "rd"
   refine⟨_,e1,?_⟩;walk_at "rd"
   refine⟨_,e2,?_⟩;walk_at "rd"
   refine jK (λq=>?_) λq=>?_
   ·unfold nO;walk_at "rd"
    refine⟨_,e1,?_⟩;walk_at "rd"
    exact⟨_,e2,by decide,hR _ (hQ _ ⟨_,rfl,trivial⟩)⟩
   ·exact hN _ ⟨_,_,rfl⟩
  ·rintro ρ ⟨v4,v5,rfl⟩;exact⟨_,_,_,_,rfl⟩
 ·rintro ρ ⟨v2,v3,v4,v5,rfl⟩;unfold nR;walk_at "rd"
  exact hQ _ ⟨_,rfl,trivial⟩
theorem WL{w h:Nat}(g:Nat->Nat->Str):∃ G:List PV,vH w h g=.lst G/\∀ r,r<h->∃ row,atI G ((r:Nat):Int)=some (.lst row)/\∀ c,c<w->∃ z,atI row ((c:Nat):Int)=some (.str z):=
 ⟨_,rfl,λr hr=>⟨_,jn (by rw[Zaf,ZaO hr];rfl),λc hc=>⟨_,jn (by rw[Zaf,ZaO hc];rfl)⟩⟩⟩
theorem Vh{w h:Int}(sz:Sz w h)(paper:Str)(inks:List Ink)(h8:inks.length<=8)(g:Nat->Nat->Str){l:List Dd}(gd:Good w h inks.length l)(hl:l.length<=900):∃ p,jD [.tup [.str paper,.lst (inks.map jd)],vH w.toNat h.toNat g,.lst (l.map Dd.p)]=some (.ok p):=by
 have h0:=sz.h0;have w0:=sz.w0;have pl:(pr w (λ_=>vI w h) l).length<=900:=by
  rw[<-List.length_map (f:=Prod.fst),rQ];exact ZaF (List.length_filterMap_le _ _) hl
 obtain⟨st,es,sl⟩:=GF inks.length h8 _ pl;obtain⟨G,eG,hG⟩:=WL (w:=w.toNat) (h:=h.toNat) g;obtain⟨p,ep⟩:=Kr (w:=w.toNat) (h:=h.toNat) (λc r=>mG inks paper (tE st (r*w.toNat+c))) G hG;have e1:=zu (w:=w.toNat) (h:=h.toNat) g (by omega)
 rw[show((w.toNat:Nat):Int)=w by omega,show((h.toNat:Nat):Int)=h by omega] at e1
 rw[eG] at e1 ⊢;refine⟨p,bQ (x:=gw (startR [.tup [.str paper,.lst (inks.map jd)],.lst G,.lst (l.map Dd.p)] 3)) ?_⟩;unfold gw;walk_at "rd"
 rw[e1];walk_at "rd"
 rw[List.length_map,Ru sz gd];walk_at "rd"
 rw[es];walk_at "rd"
 rw[Eb sz paper inks st (by omega) h8]
 walk_at "rd"
 rw[ep];walk_at "rd"
theorem RC{w h:Int}(sz:Sz w h)(paper:Str)(inks:List Ink)(g:Nat->Nat->Str){l:List Dd}(gd:Good w h inks.length l){p:PV}(hp:Vc w h inks.length l p)(r:List PV):jD [.tup [.str paper,.lst (inks.map jd)],vH w.toNat h.toNat g,.lst (l.map Dd.p++p::r)]=some (.ex (jm l.length)):=by
 have h0:=sz.h0;have w0:=sz.w0;have e1:=zu (w:=w.toNat) (h:=h.toNat) g (by omega)
 rw[show((w.toNat:Nat):Int)=w by omega,show((h.toNat:Nat):Int)=h by omega] at e1
 obtain⟨G,eG,-⟩:=WL (w:=w.toNat) (h:=h.toNat) g;rw[eG] at e1 ⊢;show fin (gw (startR [.tup [.str paper,.lst (inks.map jd)],.lst G,.lst (l.map Dd.p++p::r)] 3))=_
 rw[show gw (startR [.tup [.str paper,.lst (inks.map jd)],.lst G,.lst (l.map Dd.p++p::r)] 3)=some (.ex (jm l.length)) from ?_,show fin (some (.ex (jm l.length)))=some (.ex (jm l.length)) from rfl];unfold gw;refine uV ?_;walk_at "rd"
 rw[e1];walk_at "rd"
 refine uV ?_;walk_at "rd"
 refine Gu (U0 (Iv ?_));walk_at "rd"
 rw[List.length_map];exact Ol sz gd hp r
theorem GJ(k:Nat):jb [jm k]=some (.ok (.bl false)):=by
 refine bQ (x:=j5 (startR [jm k] 0)) ?_;unfold j5 jm;walk_at "rd"
 refine⟨false,rfl,?_⟩;walk_at "rd"
 unfold rB;walk_at "rd"
 exact⟨false,rfl,rfl⟩
theorem Ec{w h m:Int}{L:List PV}(hL:∀ p∈L,Th w h m p):eqF 32 (.lst L) (.lst L)=some true:=DW λp hp=>tH 31 p (hL p hp).plain
theorem Good.nil{w h m:Int}:vp w h m []:=⟨⟨by decide,λ_ h=>by(cases h),List.Pairwise.nil,λ_ h=>by(cases h)⟩,λ_ h=>by(cases h)⟩
theorem Stop.bad{w h m:Int}{l:List Dd}{p:PV}(s:Stop w h m l p):Vc w h m l p:=by
 rcases s with⟨a,_⟩|⟨b,j,e,b0,_,j0,hj⟩
 ·exact .inl a
 ·exact .inr ⟨b,j,e,b0,j0,hj⟩
theorem Vi{w h:Int}(sz:Sz w h)(paper:Str)(inks:PV):∃ R,gH (gN 0) qj (Qj (jc (az (m2 aY (mV 2) (mC (PV.int 0))) aU)) (m2 aY (mV 1) (mC (PV.int 0)))) [none,some (.sh (.tup [.int w,.int h])),some (.sh (.tup [.str paper,inks]))] (mU 0 h.toNat)=some (.ok R)/\PV.lst R=vH w.toNat h.toNat λ_ _=>paper:=by
 have w0:=sz.w0;have w1:=sz.w1;refine⟨_,?_,rfl⟩;rw[uC,jz (λi=>PV.int ((i:Nat):Int)) (λr=>.lst ((List.range w.toNat).map λc=>.str paper)) _ λr hr=>?_];walk_at "rd"
 refine⟨by decide,by omega,by omega,ZaM (bU (by omega)),?_⟩
 rw[List.flatten_replicate_singleton,List.map_const',ZaK]
theorem law_main(ns:List Int)(hn:ns.length<=63):zj [.lst (ns.map .int)]=some (.ok (.bl true)):=by
 refine bQ (x:=IW (startR [.lst (ns.map .int)] 8)) (sr λQS hQ=>?_);obtain⟨paper,inks,eb,ok⟩:=Kg ns hn;have i1:1<=inks.length:=List.length_pos_iff.mpr ok.l0;have i8:=ok.l8;obtain⟨c0,ec0⟩:=pC ns 0 (by decide)
 obtain⟨c2,ec2⟩:=pC ns 2 (by decide)
 obtain⟨w,h,es,sz⟩:=Gz c0;obtain⟨L,eL,lL,hL⟩:=GC sz (m:=(inks.length:Int)) (by lia) (by lia) ns hn
 obtain⟨L2,eL2,lL2,hL2⟩:=GD sz (m:=(inks.length:Int)) (by lia) (by lia) L lL (λp hp=>S5 (hL p hp)) c2
 have spl:=Jg L2 [] Good.nil (by show 0+_<=_;lia) hL2
 have self:=Ec hL2;have w0:=sz.w0;have h0:=sz.h0;have w1:=sz.w1;have h1:=sz.h1;have big:∀ {n:Nat},n<=900->n<=sizeLine:=λh=>ZaM (bU (by lia))
 obtain⟨R,eR,hR⟩:=Vi sz paper (.lst (inks.map jd));unfold IW;rw[show startR [PV.lst (ns.map .int)] 8=[some (.sh (.lst (ns.map .int))),none,none,none,none,none,none,none,none] from rfl];walk_at "rd"
 rw[eb];walk_at "rd"
 rw[ec0];walk_at "rd"
 rw[es,show xN paper inks=.tup [.str paper,.lst (inks.map jd)] from rfl];walk_at "rd"
 rw[List.length_map,eL];walk_at "rd"
 rw[ec2];walk_at "rd"
 rw[eL2];walk_at "rd"
 cases spl with
 |all l g=>
  rw[List.nil_append] at g;rw[Ov g];walk_at "rd"
  refine U3 ?_;walk_at "rd"
  refine⟨by lia,by lia,by rw[cJ];exact big (by lia),?_⟩
  rw[eR];walk_at "rd"
  obtain⟨p,ep⟩:=Vh sz paper inks i8 (λ_ _=>paper) g.toGood (by rw[List.length_map] at lL2;lia)
  rw[hR,ep];walk_at "rd"
  unfold Al;walk_at "rd"
  refine⟨_,self,?_⟩;walk_at "rd"
  unfold Ak;walk_at "rd"
  unfold Iz;walk_at "rd"
  exact hQ _ rfl
 |«at» l p r g s=>
  rw[List.nil_append] at g s;rw[Ow g s];walk_at "rd"
  refine U4 (z:=jm l.length) (Q3 (Iv ?_)) ?_
  ·walk_at "rd"
   refine⟨by lia,by lia,by rw[cJ];exact big (by lia),?_⟩
   rw[eR];walk_at "rd"
   rw[hR];exact RC sz paper inks _ g.toGood s.bad r
  ·unfold jm;rw[U5 rfl];unfold Iw;walk_at "rd"
   unfold Al;walk_at "rd"
   refine⟨_,self,?_⟩;walk_at "rd"
   unfold Ak;walk_at "rd"
   unfold IV;walk_at "rd"
   refine⟨true,rfl,?_⟩;walk_at "rd"
   refine⟨true,rfl,?_⟩;walk_at "rd"
   rw[show jb [PV.exc (Str.ofString "NoDeed") [(Str.ofString "at",PV.int (l.length:Int))]]=some (.ok (.bl false)) from GJ l.length];walk_at "rd"
   unfold IK;walk_at "rd"
   refine⟨_,rfl,?_⟩;walk_at "rd"
   refine⟨_,rfl,?_⟩;walk_at "rd"
   refine⟨_,rfl,?_⟩;walk_at "rd"
   exact hQ _ (by rw[Zaz trivial];rfl)
def top(i:Nat):Stmt:=PySem.Challenge.pw_lostblock_k43_plans_refused.main.body.getD i (.Pass ⟨0,0,0,0⟩)
structure Txt(mg:Str->Option Value):Prop where
 tt:True
 Bv:mg "ValueError"=none
 WM:mg "all"=none
 Hi:mg "bool"=none
 Vn:mg "dict"=none
 gA:mg "enumerate"=none
 Ji:mg "int"=none
 b7:mg "isinstance"=none
 iw:mg "len"=none
 OD:mg "list"=none
 gG:mg "range"=none
 S6:mg "str"=none
 pH:mg "tuple"=none
 OJ:∃ t,mg "COLUMN"=some (.str "column" t)
 RK:∃ t,mg "COVER"=some (.str "cover" t)
 S7:∃ t,mg "CUT"=some (.str "cut" t)
 RL:∃ t,mg "PRINT"=some (.str "print" t)
 Jj:∃ t,mg "ROW"=some (.str "row" t)
structure Ads where
 (x_NoDeed x_NoSet x_NoBench x_NoPicture x_NoStack x_Kept x_NoPlan x_TooMany x_NoName x_Twice x_Order x_Wrong x_NoStroke x_NoRow x_BlockError:Addr)
structure Xt(K:PySem.W.Frag)(mg:Str->Option Value)(d:Ads):Prop where
 u_NoDeed:QR K mg "NoDeed" ["at"] d.x_NoDeed
 n_NoDeed:nsIn K mainGlobals "NoDeed"=some (some (.ref d.x_NoDeed))
 g_NoDeed:mg "NoDeed"=some (.ref d.x_NoDeed)
 n_NoSet:nsIn K mainGlobals "NoSet"=some (some (.ref d.x_NoSet))
 g_NoSet:mg "NoSet"=some (.ref d.x_NoSet)
 n_NoBench:nsIn K mainGlobals "NoBench"=some (some (.ref d.x_NoBench))
 g_NoBench:mg "NoBench"=some (.ref d.x_NoBench)
 n_NoPicture:nsIn K mainGlobals "NoPicture"=some (some (.ref d.x_NoPicture))
 g_NoPicture:mg "NoPicture"=some (.ref d.x_NoPicture)
 n_NoStack:nsIn K mainGlobals "NoStack"=some (some (.ref d.x_NoStack))
 g_NoStack:mg "NoStack"=some (.ref d.x_NoStack)
 n_Kept:nsIn K mainGlobals "Kept"=some (some (.ref d.x_Kept))
 g_Kept:mg "Kept"=some (.ref d.x_Kept)
 n_NoPlan:nsIn K mainGlobals "NoPlan"=some (some (.ref d.x_NoPlan))
 g_NoPlan:mg "NoPlan"=some (.ref d.x_NoPlan)
 n_TooMany:nsIn K mainGlobals "TooMany"=some (some (.ref d.x_TooMany))
 g_TooMany:mg "TooMany"=some (.ref d.x_TooMany)
 n_NoName:nsIn K mainGlobals "NoName"=some (some (.ref d.x_NoName))
 g_NoName:mg "NoName"=some (.ref d.x_NoName)
 n_Twice:nsIn K mainGlobals "Twice"=some (some (.ref d.x_Twice))
 g_Twice:mg "Twice"=some (.ref d.x_Twice)
 n_Order:nsIn K mainGlobals "Order"=some (some (.ref d.x_Order))
 g_Order:mg "Order"=some (.ref d.x_Order)
 n_Wrong:nsIn K mainGlobals "Wrong"=some (some (.ref d.x_Wrong))
 g_Wrong:mg "Wrong"=some (.ref d.x_Wrong)
 n_NoStroke:nsIn K mainGlobals "NoStroke"=some (some (.ref d.x_NoStroke))
 g_NoStroke:mg "NoStroke"=some (.ref d.x_NoStroke)
 n_NoRow:nsIn K mainGlobals "NoRow"=some (some (.ref d.x_NoRow))
 g_NoRow:mg "NoRow"=some (.ref d.x_NoRow)
 n_BlockError:nsIn K mainGlobals "BlockError"=some (some (.ref d.x_BlockError))
 g_BlockError:mg "BlockError"=some (.ref d.x_BlockError)
 ca_BlockError:Catch K d.x_BlockError
 s_NoDeed_BlockError:PySem.W.subIn K (.ref d.x_NoDeed) (.ref d.x_BlockError)=some true
 no_NoDeed:PySem.W.kitOne K (.type "NoneType") (.ref d.x_NoDeed)=some false
 k_NoDeed_NoDeed:PySem.W.kitOne K (.ref d.x_NoDeed) (.ref d.x_NoDeed)=some true
 nob_ValueError:PySem.W.kitOne K (.type "NoneType") (.type "ValueError")=some false
 kb_NoDeed_ValueError:PySem.W.kitOne K (.ref d.x_NoDeed) (.type "ValueError")=some true
 not0:PySem.W.kitAny K (.type "NoneType") ([d.x_NoSet,d.x_NoBench,d.x_NoPicture,d.x_NoStack,d.x_Kept,d.x_NoPlan,d.x_TooMany].map Value.ref)=some false
 kt0_NoDeed:PySem.W.kitAny K (.ref d.x_NoDeed) ([d.x_NoSet,d.x_NoBench,d.x_NoPicture,d.x_NoStack,d.x_Kept,d.x_NoPlan,d.x_TooMany].map Value.ref)=some false
 not1:PySem.W.kitAny K (.type "NoneType") ([d.x_NoName,d.x_Twice,d.x_Order,d.x_Wrong,d.x_NoStroke,d.x_NoRow].map Value.ref)=some false
 kt1_NoDeed:PySem.W.kitAny K (.ref d.x_NoDeed) ([d.x_NoName,d.x_Twice,d.x_Order,d.x_Wrong,d.x_NoStroke,d.x_NoRow].map Value.ref)=some false
section
seal PE PA PS PSs PG PGs PI PPs MJ MT MA MAL MO MS MG MGs MI
variable{P:Program}{w:World}{K:PySem.W.Frag}{mg:Str->Option Value}{base:Heap}
theorem uY{d:Ads}(Z:Xt K mg d):∀ c b,mY c=some b->SM K c "BlockError" b:=by
 intro c b h;unfold mY at h;by_cases h_NoDeed:c="NoDeed"
 ·subst h_NoDeed;rw[Zao rfl] at h;cases h;exact⟨_,_,Z.n_NoDeed,Z.n_BlockError,Z.s_NoDeed_BlockError⟩
 rw[Zal h_NoDeed] at h;cases h
theorem Bf{d:Ads}(Z:Xt K mg d):∀ c b,uW c=some b->UG K c (.ref d.x_NoDeed) b:=by
 intro c b h;unfold uW at h;by_cases h_NoDeed:c="NoDeed"
 ·subst h_NoDeed;rw[Zao rfl] at h;cases h;exact⟨_,Z.n_NoDeed,Z.u_NoDeed.xi,Z.k_NoDeed_NoDeed⟩
 rw[Zal h_NoDeed] at h;cases h
theorem uZ{d:Ads}(Z:Xt K mg d):∀ c b,mZ c=some b->UG K c (.type "ValueError") b:=by
 intro c b h;unfold mZ at h;by_cases h_NoDeed:c="NoDeed"
 ·subst h_NoDeed;rw[Zao rfl] at h;cases h;exact⟨_,Z.n_NoDeed,Z.u_NoDeed.xi,Z.kb_NoDeed_ValueError⟩
 rw[Zal h_NoDeed] at h;cases h
theorem Vj{d:Ads}(Z:Xt K mg d):∀ c b,kt0 c=some b->Np K c [d.x_NoSet,d.x_NoBench,d.x_NoPicture,d.x_NoStack,d.x_Kept,d.x_NoPlan,d.x_TooMany] b:=by
 intro c b h;unfold kt0 at h;by_cases h_NoDeed:c="NoDeed"
 ·subst h_NoDeed;rw[Zao rfl] at h;cases h;exact⟨_,Z.n_NoDeed,Z.u_NoDeed.xi,Z.kt0_NoDeed⟩
 rw[Zal h_NoDeed] at h;cases h
theorem Vk{d:Ads}(Z:Xt K mg d):∀ c b,kt1 c=some b->Np K c [d.x_NoName,d.x_Twice,d.x_Order,d.x_Wrong,d.x_NoStroke,d.x_NoRow] b:=by
 intro c b h;unfold kt1 at h;by_cases h_NoDeed:c="NoDeed"
 ·subst h_NoDeed;rw[Zao rfl] at h;cases h;exact⟨_,Z.n_NoDeed,Z.u_NoDeed.xi,Z.kt1_NoDeed⟩
 rw[Zal h_NoDeed] at h;cases h
theorem xW{d:Ads}(Z:Xt K mg d):∀ c,Dw c=true->∃ Ca,nsIn K mainGlobals c=some (some (.ref Ca))/\XI K Ca/\PySem.W.findIn K (.ref Ca) "at"=some none:=by
 intro c h;unfold Dw at h;by_cases h_NoDeed:c="NoDeed"
 ·subst h_NoDeed;exact⟨_,Z.n_NoDeed,Z.u_NoDeed.xi,Z.u_NoDeed.fl _ (by simp)⟩
 simp_all
theorem Ed:bw ["self","at"] ["self","at"] (aG (inClass (top 7) 0)):=⟨rfl,rfl,rfl,by decide +kernel,rfl,by decide +kernel,by decide +kernel⟩
theorem Ef{C f:Addr}{cd:ClassData}{fd:FuncData}(F:Fun K "__init__" "NoDeed.__init__" (inClass (top 7) 0) f fd)(Y:XCls K C cd)(n0:PySem.W.findIn K (.ref C) "at"=some none):sV P w K mg base CX0 1 f fd ["self","at"] (spI C ["at"]):=by
 refine F.ok Ed (λvs H Q E h=>QL h) (λcdv A outer s H vs Q E hr h=>?_);exact⟨_,(aK (Wt (pv 0) (pv 1) rfl)),J0 Y n0 h⟩
theorem Eg:bw ["thing"] ["thing"] (aG (top 17)):=⟨rfl,rfl,rfl,by decide +kernel,rfl,by decide +kernel,by decide +kernel⟩
theorem Eh(T:Txt mg)(D:aZ K mg "is_whole" (top 17) ["thing"]){d:Ads}(Z:Xt K mg d):FnAt P w K mg base "is_whole" 1 ["thing"] (spM K XR0 eN):=by
 refine D.ok Eg (λvs H Q E h=>cg h λps r e=>match ps,e with|[_],_=>rfl) (λf cdv A outer s H vs Q E hr h=>?_)
 refine⟨_,(aK (bc (mK (bD fH rfl T.b7 (by decide +kernel) (aj (pv 0) (aj (nu rfl T.Ji (n:="int") (by decide +kernel)) aB))) (qt (Fj (bD fH rfl T.b7 (by decide +kernel) (aj (pv 0) (aj (nu rfl T.Hi (n:="bool") (by decide +kernel)) aB)))))))),cu (b:=eE) (k:=1) (n:=0) rfl (λps r e=>match ps,e with|[_],e=>⟨rfl,e⟩) h λio H0 F0 hio=>?_⟩
 exact(bG (mQ (jL aH.up vC (bA 0) pN) (FW (jL aH.up vC (bA 0) pN))))
theorem Ei:bw ["size","cell"] ["size","cell"] (aG (top 18)):=⟨rfl,rfl,rfl,by decide +kernel,rfl,by decide +kernel,by decide +kernel⟩
theorem Ej(T:Txt mg)(D:aZ K mg "place_of" (top 18) ["size","cell"]){d:Ads}(Z:Xt K mg d):FnAt P w K mg base "place_of" 1 ["size","cell"] (spM K XR0 jj):=by
 refine D.ok Ei (λvs H Q E h=>cg h λps r e=>match ps,e with|[_,_],_=>rfl) (λf cdv A outer s H vs Q E hr h=>?_)
 refine⟨_,(aK (bc (aO bH (aO fu (aP aM (pv 1) aq (λ_ _=>rfl)) (aP aM (pv 0) aq (λ_ _=>rfl))) (aP aM (pv 1) aq (λ_ _=>rfl))))),cu (b:=sZ) (k:=2) (n:=0) rfl (λps r e=>match ps,e with|[_,_],e=>⟨rfl,e⟩) h λio H0 F0 hio=>?_⟩
 exact(bG (aA aF.up cQ (aA aF.up kY (aA aF.up bu (ao 1) au) (aA aF.up bu (ao 0) au)) (aA aF.up bu (ao 1) au)))
theorem Ek:bw ["size","some","cell"] ["size","some","cell"] (aG (top 19)):=⟨rfl,rfl,rfl,by decide +kernel,rfl,by decide +kernel,by decide +kernel⟩
theorem El(T:Txt mg)(D:aZ K mg "has_cell" (top 19) ["size","some","cell"]){d:Ads}(Z:Xt K mg d)(tK:FnAt P w K mg base "place_of" 1 ["size","cell"] (spM K XR0 jj)):FnAt P w K mg base "has_cell" 2 ["size","some","cell"] (spM K XR0 oX):=by
 refine D.ok Ek (λvs H Q E h=>cg h λps r e=>match ps,e with|[_,_,_],_=>rfl) (λf cdv A outer s H vs Q E hr h=>?_)
 refine⟨_,(aK (bc (iy (dY hr) (aO K3 (aO Tr (pv 1) (aR tK (hr.mono (by decide)) rfl (aj (pv 0) (aj (pv 2) aB)))) aq) aq (bO _)))),cu (b:=tu) (k:=3) (n:=0) rfl (λps r e=>match ps,e with|[_,_,_],e=>⟨rfl,e⟩) h λio H0 F0 hio=>?_⟩
 exact(bG (aA aH.up lF (bj (aA aF.up Ss (aA aF.up Wf (ao 1) (bV (ak (ao 0) (ak (ao 2) aJ)))) au)) (bj au)))
theorem Ks:bw ["size"] ["size"] (aG (top 20)):=⟨rfl,rfl,rfl,by decide +kernel,rfl,by decide +kernel,by decide +kernel⟩
theorem Ku(T:Txt mg)(D:aZ K mg "all_of" (top 20) ["size"]){d:Ads}(Z:Xt K mg d):FnAt P w K mg base "all_of" 1 ["size"] (spM K XR0 uo):=by
 refine D.ok Ks (λvs H Q E h=>cg h λps r e=>match ps,e with|[_],_=>rfl) (λf cdv A outer s H vs Q E hr h=>?_)
 refine⟨_,(aK (bc (aO qu (aO K1 aq (aO fu (aP aM (pv 0) aq (λ_ _=>rfl)) (aP aM (pv 0) aq (λ_ _=>rfl)))) aq))),cu (b:=um) (k:=1) (n:=0) rfl (λps r e=>match ps,e with|[_],e=>⟨rfl,e⟩) h λio H0 F0 hio=>?_⟩
 exact(bG (aA aF.up vg (aA aF.up Sq au (aA aF.up kY (aA aF.up bu (ao 0) au) (aA aF.up bu (ao 0) au))) au))
theorem rT:bw ["size","cells","some","cell"] ["size","cells"] (aG (top 21)):=⟨rfl,rfl,rfl,by decide +kernel,rfl,by decide +kernel,by decide +kernel⟩
theorem Kv(T:Txt mg)(D:aZ K mg "set_of" (top 21) ["size","cells"]){d:Ads}(Z:Xt K mg d)(tK:FnAt P w K mg base "place_of" 1 ["size","cell"] (spM K XR0 jj)):FnAt P w K mg base "set_of" 2 ["size","cells"] (spM K XR0 uq):=by
 refine D.ok rT (λvs H Q E h=>cg h λps r e=>match ps,e with|[_,_],_=>rfl) (λf cdv A outer s H vs Q E hr h=>?_)
 refine⟨_,(aC (aW (i:=2) rT.nd rfl (Or.inl rfl) aq)
   (aC (fQ ZaE rfl (jW (pv 1)) (cB (i:=3) rT.nd rfl (Or.inl rfl))
    (aK (aW (i:=2) rT.nd rfl (Or.inl rfl) (aO Vx (pv 2) (aO K1 aq (aR tK (hr.mono (by decide)) rfl (aj (pv 0) (aj (pv 3) aB))))))))
   (aK (bc (pv 2))))),cu (b:=xG) (k:=2) (n:=2) rfl (λps r e=>match ps,e with|[_,_],e=>⟨rfl,e⟩) h λio H0 F0 hio=>?_⟩
 exact(aN (bz au (aL 2))
   (aN (fU (lK (ao 1)) (aL 3)
    (bz (aA aF.up WX (ao 2) (aA aF.up Sq au (bV (ak (ao 0) (ak (ao 3) aJ))))) (aL 2)))
   (bG (ao 2))))
theorem GK:bw ["picture"] ["picture"] (aG (top 23)):=⟨rfl,rfl,rfl,by decide +kernel,rfl,by decide +kernel,by decide +kernel⟩
theorem GP(T:Txt mg)(D:aZ K mg "size_of" (top 23) ["picture"]){d:Ads}(Z:Xt K mg d):FnAt P w K mg base "size_of" 1 ["picture"] (spM K XR0 rM):=by
 refine D.ok GK (λvs H Q E h=>cg h λps r e=>match ps,e with|[_],_=>rfl) (λf cdv A outer s H vs Q E hr h=>?_)
 refine⟨_,(aK (bc (bK (aj (bD cP rfl T.iw (by decide +kernel) (aj (aP aM (pv 0) aq (λ_ _=>rfl)) aB)) (aj (bD cP rfl T.iw (by decide +kernel) (aj (pv 0) aB)) aB))))),cu (b:=rK) (k:=1) (n:=0) rfl (λps r e=>match ps,e with|[_],e=>⟨rfl,e⟩) h λio H0 F0 hio=>?_⟩
 exact(bG (bT (ak (dB ig (bj (aA aF.up bu (ao 0) au))) (ak (dB ig (bA 0)) aJ))))
theorem Bg:bw ["thing"] ["thing"] (aG (top 27)):=⟨rfl,rfl,rfl,by decide +kernel,rfl,by decide +kernel,by decide +kernel⟩
theorem Bh(T:Txt mg)(D:aZ K mg "is_stroke" (top 27) ["thing"]){d:Ads}(Z:Xt K mg d)(tL:FnAt P w K mg base "is_whole" 1 ["thing"] (spM K XR0 eN)):FnAt P w K mg base "is_stroke" 2 ["thing"] (spM K XR0 ik):=by
 refine D.ok Bg (λvs H Q E h=>cg h λps r e=>match ps,e with|[_],_=>rfl) (λf cdv A outer s H vs Q E hr h=>?_)
 refine⟨_,(aC (dw (PW.pt (nq (gJ (eU (bD fH rfl T.b7 (by decide +kernel) (aj (pv 0) (aj (nu rfl T.pH (n:="tuple") (by decide +kernel)) aB))))) (mJ (bL (oH hr) (bD cP rfl T.iw (by decide +kernel) (aj (pv 0) aB)) aq (bO _)))))
    (aK (bc km))
    cz)
   (aC (dw (PW.pt (nq (gJ (eU (bD fH rfl T.b7 (by decide +kernel) (aj (aP aM (pv 0) aq (λ_ _=>rfl)) (aj (nu rfl T.S6 (n:="str") (by decide +kernel)) aB))))) (mJ (bL (yM hr) (aP aM (pv 0) aq (λ_ _=>rfl)) (bK (aj (tZ rfl T.Jj) (aj (tZ rfl T.OJ) aB))) (by with_unfolding_all rfl)))))
    (aK (bc km))
    cz)
   (aK (bc (mK (bD (Le rfl) rfl T.WM (by decide +kernel) (aj (iz ["number"] [none] rfl (jW (gO TF (pv 0) (fV aq) jQ)) (λ_ _ _ _ _=>(fG (i:=0) (by decide +kernel) rfl rfl)) (λ_ _ _ _ _=>mO) (λ_ _ _ _ _=>(aR tL (hr.mono (by decide)) (glc rfl) (aj (pvl 0) aB)))) aB)) (qt (iy zX (aP aM (pv 0) aq (λ_ _=>rfl)) (aP aM (pv 0) aq (λ_ _=>rfl)) (bO _)))))))),cu (b:=cZ) (k:=1) (n:=0) rfl (λps r e=>match ps,e with|[_],e=>⟨rfl,e⟩) h λio H0 F0 hio=>?_⟩
 exact(aN (dz (nC (gK (eX (jL aH.up vC (bA 0) pN))) (bI (aA aH.up zY (bj (dB ig (bA 0))) (bj au))))
    (bG kJ)
    cA)
   (aN (dz (nC (gK (eX (jL aH.up vC (bj (aA aF.up bu (ao 0) au)) pN))) (bI (aA aH.up HW (bj (aA aF.up bu (ao 0) au)) (bj (bT (ak bF (ak bF aJ)))))))
    (bG kJ)
    cA)
   (bG (mQ (dB Wi (fX (jX (lK (Uk (ao 0) (fY au) jV)) (aL 0) (gY 0) mW (bV (ak (ao 0) aJ))))) (aA aF.up Qi (aA aF.up bu (ao 0) au) (aA aF.up bu (ao 0) au))))))
theorem Em:bw ["size","kind"] ["size","kind"] (aG (top 28)):=⟨rfl,rfl,rfl,by decide +kernel,rfl,by decide +kernel,by decide +kernel⟩
theorem En(T:Txt mg)(D:aZ K mg "lines_of" (top 28) ["size","kind"]){d:Ads}(Z:Xt K mg d):FnAt P w K mg base "lines_of" 1 ["size","kind"] (spM K XR0 oZ):=by
 refine D.ok Em (λvs H Q E h=>cg h λps r e=>match ps,e with|[_,_],_=>rfl) (λf cdv A outer s H vs Q E hr h=>?_)
 refine⟨_,(aK (bc (BZ (bL (dY hr) (pv 1) (tZ rfl T.Jj) (bO _)) (aP aM (pv 0) aq (λ_ _=>rfl)) (aP aM (pv 0) aq (λ_ _=>rfl))))),cu (b:=oY) (k:=2) (n:=0) rfl (λps r e=>match ps,e with|[_,_],e=>⟨rfl,e⟩) h λio H0 F0 hio=>?_⟩
 exact(bG (Sd (bI (aA aH.up lF (bA 1) (bj bF))) (aA aF.up bu (ao 0) au) (aA aF.up bu (ao 0) au)))
theorem Bj:bw ["size","kind"] ["size","kind"] (aG (top 29)):=⟨rfl,rfl,rfl,by decide +kernel,rfl,by decide +kernel,by decide +kernel⟩
theorem Bk(T:Txt mg)(D:aZ K mg "length_of" (top 29) ["size","kind"]){d:Ads}(Z:Xt K mg d):FnAt P w K mg base "length_of" 1 ["size","kind"] (spM K XR0 lR):=by
 refine D.ok Bj (λvs H Q E h=>cg h λps r e=>match ps,e with|[_,_],_=>rfl) (λf cdv A outer s H vs Q E hr h=>?_)
 refine⟨_,(aK (bc (BZ (bL (dY hr) (pv 1) (tZ rfl T.Jj) (bO _)) (aP aM (pv 0) aq (λ_ _=>rfl)) (aP aM (pv 0) aq (λ_ _=>rfl))))),cu (b:=lQ) (k:=2) (n:=0) rfl (λps r e=>match ps,e with|[_,_],e=>⟨rfl,e⟩) h λio H0 F0 hio=>?_⟩
 exact(bG (Sd (bI (aA aH.up lF (bA 1) (bj bF))) (aA aF.up bu (ao 0) au) (aA aF.up bu (ao 0) au)))
theorem GQ:bw ["size","thing"] ["size","thing"] (aG (top 30)):=⟨rfl,rfl,rfl,by decide +kernel,rfl,by decide +kernel,by decide +kernel⟩
theorem GR(T:Txt mg)(D:aZ K mg "lies_on" (top 30) ["size","thing"]){d:Ads}(Z:Xt K mg d)(Ey:FnAt P w K mg base "is_stroke" 2 ["thing"] (spM K XR0 ik))(Hj:FnAt P w K mg base "lines_of" 1 ["size","kind"] (spM K XR0 oZ))(Ez:FnAt P w K mg base "length_of" 1 ["size","kind"] (spM K XR0 lR)):FnAt P w K mg base "lies_on" 3 ["size","thing"] (spM K XR0 jk):=by
 refine D.ok GQ (λvs H Q E h=>cg h λps r e=>match ps,e with|[_,_],_=>rfl) (λf cdv A outer s H vs Q E hr h=>?_)
 refine⟨_,(aC (dw (gJ (eU (aR Ey (hr.mono (by decide)) rfl (aj (pv 1) aB))))
    (aK (bc km))
    cz)
   (aK (bc (mK (Cj zX qz aq (aP aM (pv 1) aq (λ_ _=>rfl)) (aR Hj (hr.mono (by decide)) rfl (aj (pv 0) (aj (aP aM (pv 1) aq (λ_ _=>rfl)) aB)))) (mK (iy zX aq (aP aM (pv 1) aq (λ_ _=>rfl)) (bO _)) (qt (iy qz (aP aM (pv 1) aq (λ_ _=>rfl)) (aR Ez (hr.mono (by decide)) rfl (aj (pv 0) (aj (aP aM (pv 1) aq (λ_ _=>rfl)) aB))) (bO _)))))))),cu (b:=j9) (k:=2) (n:=0) rfl (λps r e=>match ps,e with|[_,_],e=>⟨rfl,e⟩) h λio H0 F0 hio=>?_⟩
 exact(aN (dz (gK (eX (bV (ak (ao 1) aJ))))
    (bG kJ)
    cA)
   (bG (mQ (Cz Qi CW au (aA aF.up bu (ao 1) au) (bV (ak (ao 0) (ak (aA aF.up bu (ao 1) au) aJ)))) (mQ (aA aF.up Qi au (aA aF.up bu (ao 1) au)) (aA aF.up CW (aA aF.up bu (ao 1) au) (bV (ak (ao 0) (ak (aA aF.up bu (ao 1) au) aJ))))))))
theorem vJ:bw ["stroke"] ["stroke"] (aG (top 31)):=⟨rfl,rfl,rfl,by decide +kernel,rfl,by decide +kernel,by decide +kernel⟩
theorem vK(T:Txt mg)(D:aZ K mg "stroke_cells" (top 31) ["stroke"]){d:Ads}(Z:Xt K mg d):FnAt P w K mg base "stroke_cells" 1 ["stroke"] (spO K XR0 iJ):=by
 refine D.ok vJ (λvs H Q E h=>lM h λps r e=>match ps,e with|[_],_=>rfl) (λf cdv A outer s H vs Q E hr h=>?_)
 refine⟨_,(aC (dw (bL (dY hr) (aP aM (pv 0) aq (λ_ _=>rfl)) (tZ rfl T.Jj) (bO _))
    (aK (bc (iz ["column","stroke"] [none,some 0] rfl (yx rfl T.gG (aj (aP aM (pv 0) aq (λ_ _=>rfl)) (aj (aO bH (aP aM (pv 0) aq (λ_ _=>rfl)) aq) aB))) (λ_ _ _ _ _=>(fG (i:=0) (by decide +kernel) rfl rfl)) (λ_ _ _ _ _=>mO) (λ_ _ _ _ _=>(bK (aj (pvl 0) (aj (aP jo (pvf 1) aq (λ_ _=>rfl)) aB)))))))
    cz)
   (aK (bc (iz ["row","stroke"] [none,some 0] rfl (yx rfl T.gG (aj (aP aM (pv 0) aq (λ_ _=>rfl)) (aj (aO bH (aP aM (pv 0) aq (λ_ _=>rfl)) aq) aB))) (λ_ _ _ _ _=>(fG (i:=0) (by decide +kernel) rfl rfl)) (λ_ _ _ _ _=>mO) (λ_ _ _ _ _=>(bK (aj (aP jo (pvf 1) aq (λ_ _=>rfl)) (aj (pvl 0) aB)))))))),oO (b:=iI) (k:=1) (n:=0) rfl (λps r e=>match ps,e with|[_],e=>⟨rfl,e⟩) h λio H0 F0 hio=>?_⟩
 exact(aN (dz (bI (aA aH.up lF (bj (aA aF.up bu (ao 0) au)) (bj bF)))
    (vQ (jX (Ia (ak (aA aF.up bu (ao 0) au) (ak (aA aF.up cQ (aA aF.up bu (ao 0) au) au) aJ))) (aL 0) (gY 0) mW (bT (ak (ao 0) (ak (aA aF.up bu (ao 1) au) aJ)))))
    cA)
   (vQ (jX (Ia (ak (aA aF.up bu (ao 0) au) (ak (aA aF.up cQ (aA aF.up bu (ao 0) au) au) aJ))) (aL 0) (gY 0) mW (bT (ak (aA aF.up bu (ao 1) au) (ak (ao 0) aJ))))))
theorem Bl:bw ["size","stroke"] ["size","stroke"] (aG (top 32)):=⟨rfl,rfl,rfl,by decide +kernel,rfl,by decide +kernel,by decide +kernel⟩
theorem Bm(T:Txt mg)(D:aZ K mg "cells_cut" (top 32) ["size","stroke"]){d:Ads}(Z:Xt K mg d)(O1:FnAt P w K mg base "set_of" 2 ["size","cells"] (spM K XR0 uq))(xZ:FnAt P w K mg base "stroke_cells" 1 ["stroke"] (spO K XR0 iJ)):FnAt P w K mg base "cells_cut" 3 ["size","stroke"] (spM K XR0 lV):=by
 refine D.ok Bl (λvs H Q E h=>cg h λps r e=>match ps,e with|[_,_],_=>rfl) (λf cdv A outer s H vs Q E hr h=>?_)
 refine⟨_,(aK (bc (aR O1 (hr.mono (by decide)) rfl (aj (pv 0) (aj (aR xZ (hr.mono (by decide)) rfl (aj (pv 1) aB)) aB))))),cu (b:=lU) (k:=2) (n:=0) rfl (λps r e=>match ps,e with|[_,_],e=>⟨rfl,e⟩) h λio H0 F0 hio=>?_⟩
 exact(bG (bV (ak (ao 0) (ak (cL (gV (ak (ao 1) aJ))) aJ))))
theorem Bo:bw ["thing"] ["thing"] (aG (top 36)):=⟨rfl,rfl,rfl,by decide +kernel,rfl,by decide +kernel,by decide +kernel⟩
theorem Bp(T:Txt mg)(D:aZ K mg "is_number" (top 36) ["thing"]){d:Ads}(Z:Xt K mg d)(tL:FnAt P w K mg base "is_whole" 1 ["thing"] (spM K XR0 eN)):FnAt P w K mg base "is_number" 2 ["thing"] (spM K XR0 dH):=by
 refine D.ok Bo (λvs H Q E h=>cg h λps r e=>match ps,e with|[_],_=>rfl) (λf cdv A outer s H vs Q E hr h=>?_)
 refine⟨_,(aK (bc (mK (aR tL (hr.mono (by decide)) rfl (aj (pv 0) aB)) (qt (iy K4 (pv 0) aq (bO _)))))),cu (b:=ir) (k:=1) (n:=0) rfl (λps r e=>match ps,e with|[_],e=>⟨rfl,e⟩) h λio H0 F0 hio=>?_⟩
 exact(bG (mQ (bV (ak (ao 0) aJ)) (aA aF.up Uh (ao 0) au)))
theorem GX:bw ["size","thing"] ["size","thing"] (aG (top 37)):=⟨rfl,rfl,rfl,by decide +kernel,rfl,by decide +kernel,by decide +kernel⟩
theorem GZ(T:Txt mg)(D:aZ K mg "is_deed" (top 37) ["size","thing"]){d:Ads}(Z:Xt K mg d)(vq:FnAt P w K mg base "is_number" 2 ["thing"] (spM K XR0 dH))(KC:FnAt P w K mg base "lies_on" 3 ["size","thing"] (spM K XR0 jk)):FnAt P w K mg base "is_deed" 4 ["size","thing"] (spM K XR0 kh):=by
 refine D.ok GX (λvs H Q E h=>cg h λps r e=>match ps,e with|[_,_],_=>rfl) (λf cdv A outer s H vs Q E hr h=>?_)
 refine⟨_,(aC (dw (PW.pt (nq (gJ (eU (bD fH rfl T.b7 (by decide +kernel) (aj (pv 1) (aj (nu rfl T.pH (n:="tuple") (by decide +kernel)) aB))))) (mJ (bL (oH hr) (bD cP rfl T.iw (by decide +kernel) (aj (pv 1) aB)) aq (bO _)))))
    (aK (bc km))
    cz)
   (aC (dw (PW.pt (nq (gJ (eU (bD fH rfl T.b7 (by decide +kernel) (aj (aP aM (pv 1) aq (λ_ _=>rfl)) (aj (nu rfl T.S6 (n:="str") (by decide +kernel)) aB))))) (mJ (gJ (eU (aR vq (hr.mono (by decide)) rfl (aj (aP aM (pv 1) aq (λ_ _=>rfl)) aB)))))))
    (aK (bc km))
    cz)
   (aC (dw (bL (dY hr) (aP aM (pv 1) aq (λ_ _=>rfl)) (tZ rfl T.S7) (bO _))
    (aK (bc (aR KC (hr.mono (by decide)) rfl (aj (pv 0) (aj (aP aM (pv 1) aq (λ_ _=>rfl)) aB)))))
    cz)
   (aK (bc (mK (iy (dY hr) (aP aM (pv 1) aq (λ_ _=>rfl)) (tZ rfl T.RL) (bO _)) (qt (aR vq (hr.mono (by decide)) rfl (aj (aP aM (pv 1) aq (λ_ _=>rfl)) aB))))))))),cu (b:=cR) (k:=2) (n:=0) rfl (λps r e=>match ps,e with|[_,_],e=>⟨rfl,e⟩) h λio H0 F0 hio=>?_⟩
 exact(aN (dz (nC (gK (eX (jL aH.up vC (bA 1) pN))) (bI (aA aH.up zY (bj (dB ig (bA 1))) (bj au))))
    (bG kJ)
    cA)
   (aN (dz (nC (gK (eX (jL aH.up vC (bj (aA aF.up bu (ao 1) au)) pN))) (gK (eX (bV (ak (aA aF.up bu (ao 1) au) aJ)))))
    (bG kJ)
    cA)
   (aN (dz (bI (aA aH.up lF (bj (aA aF.up bu (ao 1) au)) (bj bF)))
    (bG (bV (ak (ao 0) (ak (aA aF.up bu (ao 1) au) aJ))))
    cA)
   (bG (mQ (aA aH.up lF (bj (aA aF.up bu (ao 1) au)) (bj bF)) (bV (ak (aA aF.up bu (ao 1) au) aJ)))))))
theorem yo:bw ["prints","ink","many_inks"] ["prints","ink","many_inks"] (aG (top 38)):=⟨rfl,rfl,rfl,by decide +kernel,rfl,by decide +kernel,by decide +kernel⟩
theorem yp(T:Txt mg)(D:aZ K mg "can_follow" (top 38) ["prints","ink","many_inks"]){d:Ads}(Z:Xt K mg d):FnAt P w K mg base "can_follow" 1 ["prints","ink","many_inks"] (spM K XR0 fB):=by
 refine D.ok yo (λvs H Q E h=>cg h λps r e=>match ps,e with|[_,_,_],_=>rfl) (λf cdv A outer s H vs Q E hr h=>?_)
 refine⟨_,(aC (dw (PW.pt (uI (bL Pk (pv 2) qp (bO _)) (rF (bL K4 (pv 1) (pv 2) (bO _)))))
    (aK (bc km))
    cz)
   (aK (bc (Vs (iy (dY hr) (bD cP rfl T.iw (by decide +kernel) (aj (pv 0) aB)) aq (bO _)) (qt (iy VB (pv 1) (aP aM (aP aM (pv 0) (yz wy aq) (λ_ _=>rfl)) aq (λ_ _=>rfl)) (bO _))))))),cu (b:=d8) (k:=3) (n:=0) rfl (λps r e=>match ps,e with|[_,_,_],e=>⟨rfl,e⟩) h λio H0 F0 hio=>?_⟩
 exact(aN (dz (uP (bI (aA aH.up Ui (bA 2) qx)) (bI (aA aF.up Uh (ao 1) (ao 2))))
    (bG kJ)
    cA)
   (bG (V5 (aA aH.up lF (bj (dB ig (bA 0))) (bj au)) (aA aF.up WY (ao 1) (aA aF.up bu (aA aF.up bu (ao 0) (wN au)) au)))))
theorem dN:bw ["size","plan","many_inks","woods","prints","place","thing","wood"] ["size","plan","many_inks"] (aG (top 39)):=⟨rfl,rfl,rfl,by decide +kernel,rfl,by decide +kernel,by decide +kernel⟩
theorem u5(T:Txt mg)(D:aZ K mg "replayed_with" (top 39) ["size","plan","many_inks"]){d:Ads}(Z:Xt K mg d)(KD:FnAt P w K mg base "is_deed" 4 ["size","thing"] (spM K XR0 kh))(O2:FnAt P w K mg base "all_of" 1 ["size"] (spM K XR0 uo))(EY:FnAt P w K mg base "cells_cut" 3 ["size","stroke"] (spM K XR0 lV))(Bw:FnAt P w K mg base "can_follow" 1 ["prints","ink","many_inks"] (spM K XR0 fB)):xf P w K mg base "replayed_with" 5 ["size","plan","many_inks"] (spO K (XRS K) fJ):=by
 refine aZ.okX D dN (λvs H Q E h=>lM h λps r e=>match ps,e with|[_,_,_],_=>rfl) (λf cdv A outer s H vs Q E hr h=>?_)
 refine⟨_,(aC (aW (i:=3) dN.nd rfl (Or.inl rfl) Ln)
   (aC (aW (i:=4) dN.nd rfl (Or.inl rfl) (dD aB))
   (aC (fQ QG rfl (ou rfl T.gA (aj (pv 1) aB)) (nZ (n:=2) rfl (dg (cB (i:=5) dN.nd rfl (Or.inl rfl)) (dg (cB (i:=6) dN.nd rfl (Or.inl rfl)) jP)))
    (aC (dw (gJ (eU (aR KD (hr.mono (by decide)) rfl (aj (pv 0) (aj (pv 6) aB)))))
     (aK (zc (k:=0) Z.u_NoDeed (hr.mono (by decide)) rfl zb (aj (pv 5) aB)))
     cz)
    (aC (aW (i:=7) dN.nd rfl (Or.inl rfl) (JT hr (pv 3) (aP aM (pv 6) aq (λ_ _=>rfl)) (aR O2 (hr.mono (by decide)) rfl (aj (pv 0) aB)) ⟨rfl,rfl,rfl,rfl⟩))
    (aK (dw (bL (dY hr) (aP aM (pv 6) aq (λ_ _=>rfl)) (tZ rfl T.S7) (bO _))
     (aK (PQ (La hr) (pv 3) (aP aM (pv 6) aq (λ_ _=>rfl)) (aO K3 (pv 7) (yz Tt (aR EY (hr.mono (by decide)) rfl (aj (pv 0) (aj (aP aM (pv 6) aq (λ_ _=>rfl)) aB))))) rfl))
     (aK (dw (eU (aR Bw (hr.mono (by decide)) rfl (aj (pv 4) (aj (aP aM (pv 6) aq (λ_ _=>rfl)) (aj (pv 2) aB)))))
      (aK (fj (kE Zau Zat PySem.F.type_list_append dq (pv 4) (aj (bK (aj (aP aM (pv 6) aq (λ_ _=>rfl)) (aj (pv 7) aB))) aB))))
      (aK (zc (k:=0) Z.u_NoDeed (hr.mono (by decide)) rfl zb (aj (pv 5) aB))))))))))
   (aK (bc (pv 4)))))),Ng (b:=dC) (k:=3) (n:=5) rfl (λps r e=>match ps,e with|[_,_,_],e=>⟨rfl,e⟩) h λio H0 F0 hio=>?_⟩
 exact(aN (gW (i:=3) trivial Qt)
   (aN (gW (i:=4) trivial (dG aJ))
   (aN (fU (oM (ak (ao 1) aJ)) (oF (dh (aL 5) (dh (aL 6) jU)))
    (aN (dz (gK (eX (qG (ak (ao 0) (ak (ao 6) aJ)))))
     (zf rfl Z.u_NoDeed (by decide) (ak (ao 5) aJ))
     cA)
    (aN (bz (Dm (yR 3) (aA aF.up bu (ao 6) au) (qG (ak (ao 0) aJ))) (aL 7))
    (dz (bI (aA aH.up lF (bj (aA aF.up bu (ao 6) au)) (bj bF)))
     (Qs (aA aF.up Ss (ao 7) (Ur (qG (ak (ao 0) (ak (aA aF.up bu (ao 6) au) aJ))))) (aA aF.up bu (ao 6) au))
     (dz (eX (J1 (wD (bA 4) (wD (bj (aA aF.up bu (ao 6) au)) (wD (bA 2) Qd)))))
      (iB (bT (ak (aA aF.up bu (ao 6) au) (ak (ao 7) aJ))))
      (zf rfl Z.u_NoDeed (by decide) (ak (ao 5) aJ)))))))
   (nF 4 hio))))
theorem Bq:bw ["ink","colour","under","over"] ["ink","colour"] (aG (top 42)):=⟨rfl,rfl,rfl,by decide +kernel,rfl,by decide +kernel,by decide +kernel⟩
theorem RG(T:Txt mg)(D:aZ K mg "laid" (top 42) ["ink","colour"]){d:Ads}(Z:Xt K mg d):FnAt P w K mg base "laid" 1 ["ink","colour"] (spM K XR0 Aj):=by
 refine D.ok Bq (λvs H Q E h=>cg h λps r e=>match ps,e with|[_,_],_=>rfl) (λf cdv A outer s H vs Q E hr h=>?_)
 refine⟨_,(aC (dw (bL (dY hr) (aP aM (pv 0) aq (λ_ _=>rfl)) (tZ rfl T.RK) (bO _))
    (aK (bc (aP aM (pv 0) aq (λ_ _=>rfl))))
    cz)
   (aC (fQ ZaE rfl (jW (aP aM (pv 0) aq (λ_ _=>rfl))) (nZ (n:=2) rfl (dg (cB (i:=2) Bq.nd rfl (Or.inl rfl)) (dg (cB (i:=3) Bq.nd rfl (Or.inl rfl)) jP)))
    (aK (dw (bL (dY hr) (pv 2) (pv 1) (bO _))
     (aK (bc (pv 3)))
     cz)))
   (aK (bc (pv 1))))),cu (b:=Ai) (k:=2) (n:=2) rfl (λps r e=>match ps,e with|[_,_],e=>⟨rfl,e⟩) h λio H0 F0 hio=>?_⟩
 exact(aN (dz (bI (aA aH.up lF (bj (aA aF.up bu (ao 0) au)) (bj bF)))
    (bG (aA aF.up bu (ao 0) au))
    cA)
   (aN (fU (lK (aA aF.up bu (ao 0) au)) (oF (dh (aL 2) (dh (aL 3) jU)))
    (dz (bI (aA aH.up lF (bA 2) (bA 1)))
     (bG (ao 3))
     cA))
   (bG (ao 1))))
theorem j7:bw ["bench","stack","colour","number"] ["bench","stack"] (aG (top 43)):=⟨rfl,rfl,rfl,by decide +kernel,rfl,by decide +kernel,by decide +kernel⟩
theorem Br(T:Txt mg)(D:aZ K mg "colour_of" (top 43) ["bench","stack"]){d:Ads}(Z:Xt K mg d)(Vo:FnAt P w K mg base "laid" 1 ["ink","colour"] (spM K XR0 Aj)):FnAt P w K mg base "colour_of" 2 ["bench","stack"] (spM K XR0 my):=by
 refine D.ok j7 (λvs H Q E h=>cg h λps r e=>match ps,e with|[_,_],_=>rfl) (λf cdv A outer s H vs Q E hr h=>?_)
 refine⟨_,(aC (aW (i:=2) j7.nd rfl (Or.inl rfl) (aP aM (pv 0) aq (λ_ _=>rfl)))
   (aC (fQ ZaE rfl (jW (pv 1)) (cB (i:=3) j7.nd rfl (Or.inl rfl))
    (aK (aW (i:=2) j7.nd rfl (Or.inl rfl) (aR Vo (hr.mono (by decide)) rfl (aj (aP aM (aP aM (pv 0) aq (λ_ _=>rfl)) (pv 3) (λ_ _=>rfl)) (aj (pv 2) aB))))))
   (aK (bc (pv 2))))),cu (b:=mq) (k:=2) (n:=2) rfl (λps r e=>match ps,e with|[_,_],e=>⟨rfl,e⟩) h λio H0 F0 hio=>?_⟩
 exact(aN (bz (aA aF.up bu (ao 0) au) (aL 2))
   (aN (fU (lK (ao 1)) (aL 3)
    (bz (bV (ak (aA aF.up bu (aA aF.up bu (ao 0) au) (ao 3)) (ak (ao 2) aJ))) (aL 2)))
   (bG (ao 2))))
theorem Eo:bw ["size","states","cell"] ["size","states","cell"] (aG (top 45)):=⟨rfl,rfl,rfl,by decide +kernel,rfl,by decide +kernel,by decide +kernel⟩
theorem Ep(T:Txt mg)(D:aZ K mg "stack_at" (top 45) ["size","states","cell"]){d:Ads}(Z:Xt K mg d)(Hk:FnAt P w K mg base "has_cell" 2 ["size","some","cell"] (spM K XR0 oX)):FnAt P w K mg base "stack_at" 3 ["size","states","cell"] (spM K XR0 o8):=by
 refine D.ok Eo (λvs H Q E h=>cg h λps r e=>match ps,e with|[_,_,_],_=>rfl) (λf cdv A outer s H vs Q E hr h=>?_)
 refine⟨_,(aK (bc (jf mL rfl T.pH (by decide +kernel) (aj (iz ["number","state","size","cell"] [none,none,some 0,some 2] rfl (ou rfl T.gA (aj (pv 1) aB)) (λ_ _ _ _ _=>(PP (n:=2) rfl (dg (fG (i:=0) (by decide +kernel) rfl rfl) (dg (fG (i:=1) (by decide +kernel) rfl rfl) jP)))) (λ_ _ _ _ _=>(TY (eU (aR Hk (hr.mono (by decide)) (glc rfl) (aj (pvf 2) (aj (pvl 1) (aj (pvf 3) aB))))))) (λ_ _ _ _ _=>(pvl 0))) aB)))),cu (b:=o7) (k:=3) (n:=0) rfl (λps r e=>match ps,e with|[_,_,_],e=>⟨rfl,e⟩) h λio H0 F0 hio=>?_⟩
 exact(bG (dB Mq (fX (jX (oM (ak (ao 1) aJ)) (oF (dh (aL 0) (dh (aL 1) jU))) (Ul (De (gY 0) (De (gY 1) Qn))) (eX (bV (ak (ao 2) (ak (ao 1) (ak (ao 3) aJ))))) (ao 0)))))
theorem xX:bw ["bench","size","states","row"] ["bench","size","states","row"] (aG (top 46)):=⟨rfl,rfl,rfl,by decide +kernel,rfl,by decide +kernel,by decide +kernel⟩
theorem xY(T:Txt mg)(D:aZ K mg "pressed_row" (top 46) ["bench","size","states","row"]){d:Ads}(Z:Xt K mg d)(Fb:FnAt P w K mg base "colour_of" 2 ["bench","stack"] (spM K XR0 my))(Hl:FnAt P w K mg base "stack_at" 3 ["size","states","cell"] (spM K XR0 o8)):FnAt P w K mg base "pressed_row" 4 ["bench","size","states","row"] (spO K XR0 ju):=by
 refine D.ok xX (λvs H Q E h=>lM h λps r e=>match ps,e with|[_,_,_,_],_=>rfl) (λf cdv A outer s H vs Q E hr h=>?_)
 refine⟨_,(aK (bc (iz ["column","bench","size","states","row"] [none,some 0,some 1,some 2,some 3] rfl (eV rfl T.gG (aj (aP aM (pv 1) aq (λ_ _=>rfl)) aB)) (λ_ _ _ _ _=>(fG (i:=0) (by decide +kernel) rfl rfl)) (λ_ _ _ _ _=>mO) (λ_ _ _ _ _=>(aR Fb (hr.mono (by decide)) (glc rfl) (aj (pvf 1) (aj (aR Hl (hr.mono (by decide)) (glc rfl) (aj (pvf 2) (aj (pvf 3) (aj (bK (aj (pvl 0) (aj (pvf 4) aB))) aB)))) aB))))))),oO (b:=jt) (k:=4) (n:=0) rfl (λps r e=>match ps,e with|[_,_,_,_],e=>⟨rfl,e⟩) h λio H0 F0 hio=>?_⟩
 exact(vQ (jX (iD (ak (aA aF.up bu (ao 1) au) aJ)) (aL 0) (gY 0) mW (bV (ak (ao 1) (ak (bV (ak (ao 2) (ak (ao 3) (ak (bT (ak (ao 0) (ak (ao 4) aJ))) aJ)))) aJ)))))
theorem Ha:bw ["bench","size","states"] ["bench","size","states"] (aG (top 47)):=⟨rfl,rfl,rfl,by decide +kernel,rfl,by decide +kernel,by decide +kernel⟩
theorem Hb(T:Txt mg)(D:aZ K mg "pressed" (top 47) ["bench","size","states"]){d:Ads}(Z:Xt K mg d)(yq:FnAt P w K mg base "pressed_row" 4 ["bench","size","states","row"] (spO K XR0 ju)):FnAt P w K mg base "pressed" 5 ["bench","size","states"] (spD K XR0 rO):=by
 refine D.ok Ha (λvs H Q E h=>QB h λps r e=>match ps,e with|[_,_,_],_=>rfl) (λf cdv A outer s H vs Q E hr h=>?_)
 refine⟨_,(aK (bc (iz ["row","bench","size","states"] [none,some 0,some 1,some 2] rfl (eV rfl T.gG (aj (aP aM (pv 1) aq (λ_ _=>rfl)) aB)) (λ_ _ _ _ _=>(fG (i:=0) (by decide +kernel) rfl rfl)) (λ_ _ _ _ _=>mO) (λ_ _ _ _ _=>(aR yq (hr.mono (by decide)) (glc rfl) (aj (pvf 1) (aj (pvf 2) (aj (pvf 3) (aj (pvl 0) aB))))))))),Qz (b:=rN) (k:=3) (n:=0) rfl (λps r e=>match ps,e with|[_,_,_],e=>⟨rfl,e⟩) h λio H0 F0 hio=>?_⟩
 exact(Qx (Qy (iD (ak (aA aF.up bu (ao 1) au) aJ)) (aL 0) (gY 0) mW (Wm (gV (ak (ao 1) (ak (ao 2) (ak (ao 3) (ak (ao 0) aJ))))))))
theorem mH:bw ["many_inks","prints","sets"] ["many_inks","prints"] (aG (top 49)):=⟨rfl,rfl,rfl,by decide +kernel,rfl,by decide +kernel,by decide +kernel⟩
theorem uF(T:Txt mg)(D:aZ K mg "states_printed" (top 49) ["many_inks","prints"]){d:Ads}(Z:Xt K mg d):FnAt P w K mg base "states_printed" 1 ["many_inks","prints"] (spO K XR0 eY):=by
 refine D.ok mH (λvs H Q E h=>lM h λps r e=>match ps,e with|[_,_],_=>rfl) (λf cdv A outer s H vs Q E hr h=>?_)
 refine⟨_,(aC (aW (i:=2) mH.nd rfl (Or.inr rfl) (jf (Gi hr rfl) rfl T.Vn (by decide +kernel) (aj (pv 1) aB)))
   (aK (bc (iz ["number","sets"] [none,some 2] rfl (eV rfl T.gG (aj (pv 0) aB)) (λ_ _ _ _ _=>(fG (i:=0) (by decide +kernel) rfl rfl)) (λ_ _ _ _ _=>mO) (λ_ _ _ _ _=>(Gj hr (pvf 1) (pvl 0) aq ⟨rfl,rfl,rfl,rfl⟩)))))),oO (b:=gC) (k:=2) (n:=1) rfl (λps r e=>match ps,e with|[_,_],e=>⟨rfl,e⟩) h λio H0 F0 hio=>?_⟩
 exact(aN (bz (cL (Ge (Qu λ_ _ _=>Qv) (dO 1))) (aL 2))
   (vQ (jX (iD (ak (ao 0) aJ)) (aL 0) (gY 0) mW (Dm (yR 1) (ao 0) au))))
theorem fL:bw ["picture","wished","row","colours","column","colour"] ["picture","wished"] (aG (top 50)):=⟨rfl,rfl,rfl,by decide +kernel,rfl,by decide +kernel,by decide +kernel⟩
theorem vL(T:Txt mg)(D:aZ K mg "first_unlike" (top 50) ["picture","wished"]){d:Ads}(Z:Xt K mg d):FnAt P w K mg base "first_unlike" 1 ["picture","wished"] (spM K XR0 gr):=by
 refine D.ok fL (λvs H Q E h=>cg h λps r e=>match ps,e with|[_,_],_=>rfl) (λf cdv A outer s H vs Q E hr h=>?_)
 refine⟨_,(aC (fQ ZaE rfl (ou rfl T.gA (aj (pv 0) aB)) (nZ (n:=2) rfl (dg (cB (i:=2) fL.nd rfl (Or.inl rfl)) (dg (cB (i:=3) fL.nd rfl (Or.inl rfl)) jP)))
    (aK (fQ ZaE rfl (ou rfl T.gA (aj (pv 3) aB)) (nZ (n:=2) rfl (dg (cB (i:=4) fL.nd rfl (Or.inl rfl)) (dg (cB (i:=5) fL.nd rfl (Or.inl rfl)) jP)))
     (aK (dw (bL (oH hr) (pv 5) (aP aM (aP aM (pv 1) (pv 2) (λ_ _=>rfl)) (pv 4) (λ_ _=>rfl)) (bO _))
      (aK (bc (bK (aj (pv 4) (aj (pv 2) (aj (pv 5) (aj (aP aM (aP aM (pv 1) (pv 2) (λ_ _=>rfl)) (pv 4) (λ_ _=>rfl)) aB)))))))
      cz)))))
   (aK (bc qp))),cu (b:=iQ) (k:=2) (n:=4) rfl (λps r e=>match ps,e with|[_,_],e=>⟨rfl,e⟩) h λio H0 F0 hio=>?_⟩
 exact(aN (fU (oM (ak (ao 0) aJ)) (oF (dh (aL 2) (dh (aL 3) jU)))
    (fU (oM (ak (ao 3) aJ)) (oF (dh (aL 4) (dh (aL 5) jU)))
     (dz (bI (aA aH.up zY (bA 5) (bj (aA aF.up bu (aA aF.up bu (ao 1) (ao 2)) (ao 4)))))
      (bG (bT (ak (ao 4) (ak (ao 2) (ak (ao 5) (ak (aA aF.up bu (aA aF.up bu (ao 1) (ao 2)) (ao 4)) aJ))))))
      cA)))
   (bG qx))
theorem j8:bw ["bench","picture","plan","size","many_inks","prints"] ["bench","picture","plan"] (aG (top 51)):=⟨rfl,rfl,rfl,by decide +kernel,rfl,by decide +kernel,by decide +kernel⟩
theorem Bs(T:Txt mg)(D:aZ K mg "unlike_at" (top 51) ["bench","picture","plan"]){d:Ads}(Z:Xt K mg d)(KH:FnAt P w K mg base "size_of" 1 ["picture"] (spM K XR0 rM))(vM:xf P w K mg base "replayed_with" 5 ["size","plan","many_inks"] (spO K (XRS K) fJ))(yc:FnAt P w K mg base "first_unlike" 1 ["picture","wished"] (spM K XR0 gr))(KJ:FnAt P w K mg base "pressed" 5 ["bench","size","states"] (spD K XR0 rO))(u6:FnAt P w K mg base "states_printed" 1 ["many_inks","prints"] (spO K XR0 eY)):xf P w K mg base "unlike_at" 6 ["bench","picture","plan"] (spM K (XRS K) jD):=by
 refine aZ.okX D j8 (λvs H Q E h=>cg h λps r e=>match ps,e with|[_,_,_],_=>rfl) (λf cdv A outer s H vs Q E hr h=>?_)
 refine⟨_,(aC (aW (i:=3) j8.nd rfl (Or.inl rfl) (aR KH (hr.mono (by decide)) rfl (aj (pv 1) aB)))
   (aC (aW (i:=4) j8.nd rfl (Or.inl rfl) (bD cP rfl T.iw (by decide +kernel) (aj (aP aM (pv 0) aq (λ_ _=>rfl)) aB)))
   (aC (aW (i:=5) j8.nd rfl (Or.inl rfl) (Ni M6 vM (hr.mono (by decide)) rfl (aj (pv 3) (aj (pv 2) (aj (pv 4) aB)))))
   (aK (bc (aR yc (hr.mono (by decide)) rfl (aj (aR KJ (hr.mono (by decide)) rfl (aj (pv 0) (aj (pv 3) (aj (aR u6 (hr.mono (by decide)) rfl (aj (pv 4) (aj (pv 5) aB))) aB)))) (aj (pv 1) aB)))))))),QM (b:=gw) (k:=3) (n:=3) rfl (λps r e=>match ps,e with|[_,_,_],e=>⟨rfl,e⟩) h λio H0 F0 hio=>?_⟩
 exact(aN (bz (qG (ak (ao 1) aJ)) (aL 3))
   (aN (bz (dB ig (bj (aA aF.up bu (ao 0) au))) (aL 4))
   (aN (bz (cL (gV (ak (ao 3) (ak (ao 2) (ak (ao 4) aJ))))) (aL 5))
   (bG (qG (ak (Ut (Nr (ak (ao 0) (ak (ao 3) (ak (cL (Nh (ak (ao 4) (ak (ao 5) aJ)))) aJ))))) (ak (ao 1) aJ)))))))
theorem Bt:bw ["_law_script","_law_k"] ["_law_script","_law_k"] (aG (top 53)):=⟨rfl,rfl,rfl,by decide +kernel,rfl,by decide +kernel,by decide +kernel⟩
theorem Bu(T:Txt mg)(D:aZ K mg "_law_cell_at" (top 53) ["_law_script","_law_k"]){d:Ads}(Z:Xt K mg d):FnAt P w K mg base "_law_cell_at" 1 ["_law_script","_law_k"] (spM K XR0 cX):=by
 refine D.ok Bt (λvs H Q E h=>cg h λps r e=>match ps,e with|[_,_],_=>rfl) (λf cdv A outer s H vs Q E hr h=>?_)
 refine⟨_,(aC (dw (bL qz (pv 1) (bD cP rfl T.iw (by decide +kernel) (aj (pv 0) aB)) (bO _))
    (aK (bc (aP aM (pv 0) (pv 1) (λ_ _=>rfl))))
    cz)
   (aK (bc aq))),cu (b:=lw) (k:=2) (n:=0) rfl (λps r e=>match ps,e with|[_,_],e=>⟨rfl,e⟩) h λio H0 F0 hio=>?_⟩
 exact(aN (dz (bI (aA aF.up CW (ao 1) (dB ig (bA 0))))
    (bG (aA aF.up bu (ao 0) (ao 1)))
    cA)
   (bG au))
theorem rC:bw ["_law_cell","_law_turn","_law_k"] ["_law_cell","_law_turn"] (aG (top 54)):=⟨rfl,rfl,rfl,by decide +kernel,rfl,by decide +kernel,by decide +kernel⟩
theorem Er(T:Txt mg)(D:aZ K mg "_law_window" (top 54) ["_law_cell","_law_turn"]){d:Ads}(Z:Xt K mg d):FnAt P w K mg base "_law_window" 1 ["_law_cell","_law_turn"] (spM K XR0 du):=by
 refine D.ok rC (λvs H Q E h=>cg h λps r e=>match ps,e with|[_,_],_=>rfl) (λf cdv A outer s H vs Q E hr h=>?_)
 refine⟨_,(aC (dw (bL qz (pv 0) (aO oh aq aq) (bO _))
    (aK (bc (pv 0)))
    cz)
   (aC (fQ ZaE rfl (eV rfl T.gG (aj (aO fu aq (pv 1)) aB)) (cB (i:=2) rC.nd rfl (Or.inl rfl))
    (aK (aW (i:=0) rC.nd rfl (Or.inl rfl) (aO MF (pv 0) (aO oh aq aq)))))
   (aK (bc (aO bH (aO oh aq aq) (pv 0)))))),cu (b:=jw) (k:=2) (n:=1) rfl (λps r e=>match ps,e with|[_,_],e=>⟨rfl,e⟩) h λio H0 F0 hio=>?_⟩
 exact(aN (dz (bI (aA aF.up CW (ao 0) (aA aF.up uc au au)))
    (bG (ao 0))
    cA)
   (aN (fU (iD (ak (aA aF.up kY au (ao 1)) aJ)) (aL 2)
    (bz (aA aF.up Us (ao 0) (aA aF.up uc au au)) (aL 0)))
   (bG (aA aF.up cQ (aA aF.up uc au au) (ao 0)))))
theorem d9:bw ["_law_cell","_law_many","_law_found","_law_number_here","_law_k"] ["_law_cell","_law_many"] (aG (top 55)):=⟨rfl,rfl,rfl,by decide +kernel,rfl,by decide +kernel,by decide +kernel⟩
theorem Es(T:Txt mg)(D:aZ K mg "_law_stream" (top 55) ["_law_cell","_law_many"]){d:Ads}(Z:Xt K mg d):FnAt P w K mg base "_law_stream" 1 ["_law_cell","_law_many"] (spO K XR0 bW):=by
 refine D.ok d9 (λvs H Q E h=>lM h λps r e=>match ps,e with|[_,_],_=>rfl) (λf cdv A outer s H vs Q E hr h=>?_)
 refine⟨_,(aC (aW (i:=2) d9.nd rfl (Or.inl rfl) (dD aB))
   (aC (dw (bL K4 (pv 0) (aO oh aq aq) (bO _))
    (aC (aW (i:=3) d9.nd rfl (Or.inl rfl) (aO qu (pv 0) (aO oh aq aq)))
    (aC (fQ ZaE rfl (eV rfl T.gG (aj (pv 1) aB)) (cB (i:=4) d9.nd rfl (Or.inl rfl))
     (aC (fj (kE Zau Zat PySem.F.type_list_append dq (pv 2) (aj (aO bY (pv 3) aq) aB)))
     (aK (aW (i:=3) d9.nd rfl (Or.inl rfl) (aO tR (pv 3) aq)))))
    (aK (bc (pv 2)))))
    cz)
   (aC (aW (i:=3) d9.nd rfl (Or.inl rfl) (aO bH (aO bY (pv 0) aq) aq))
   (aC (fQ ZaE rfl (eV rfl T.gG (aj (pv 1) aB)) (cB (i:=4) d9.nd rfl (Or.inl rfl))
    (aC (aW (i:=3) d9.nd rfl (Or.inl rfl) (aO bH (aO bH (aO bH (aO fu (pv 3) (pv 3)) (aO fu aq (pv 3))) (aO fu aq (pv 4))) aq))
    (aC (aW (i:=3) d9.nd rfl (Or.inl rfl) (aO bY (pv 3) aq))
    (aK (fj (kE Zau Zat PySem.F.type_list_append dq (pv 2) (aj (aO tR (pv 3) aq) aB)))))))
   (aK (bc (pv 2))))))),oO (b:=m7) (k:=2) (n:=3) rfl (λps r e=>match ps,e with|[_,_],e=>⟨rfl,e⟩) h λio H0 F0 hio=>?_⟩
 exact(aN (gW (i:=2) trivial (dG aJ))
   (aN (dz (bI (aA aF.up Uh (ao 0) (aA aF.up uc au au)))
    (aN (bz (aA aF.up vg (ao 0) (aA aF.up uc au au)) (aL 3))
    (aN (fU (iD (ak (ao 1) aJ)) (aL 4)
     (aN (iB (aA aF.up cO (ao 3) au))
     (bz (aA aF.up CV (ao 3) au) (aL 3))))
    (nF 2 hio)))
    cA)
   (aN (bz (aA aF.up cQ (aA aF.up cO (ao 0) au) au) (aL 3))
   (aN (fU (iD (ak (ao 1) aJ)) (aL 4)
    (aN (bz (aA aF.up cQ (aA aF.up cQ (aA aF.up cQ (aA aF.up kY (ao 3) (ao 3)) (aA aF.up kY au (ao 3))) (aA aF.up kY au (ao 4))) au) (aL 3))
    (aN (bz (aA aF.up cO (ao 3) au) (aL 3))
    (iB (aA aF.up CV (ao 3) au)))))
   (nF 2 hio)))))
theorem fC:bw ["_law_cell","_law_many","_law_letters","_law_some","_law_base","_law_at","_law_words_here","_law_k","_law_number_here","_law_two"] ["_law_cell","_law_many"] (aG (top 56)):=⟨rfl,rfl,rfl,by decide +kernel,rfl,by decide +kernel,by decide +kernel⟩
theorem Hc(T:Txt mg)(D:aZ K mg "_law_words" (top 56) ["_law_cell","_law_many"]){d:Ads}(Z:Xt K mg d)(cN:FnAt P w K mg base "_law_stream" 1 ["_law_cell","_law_many"] (spO K XR0 bW)):FnAt P w K mg base "_law_words" 2 ["_law_cell","_law_many"] (spO K XR0 iR):=by
 refine D.ok fC (λvs H Q E h=>lM h λps r e=>match ps,e with|[_,_],_=>rfl) (λf cdv A outer s H vs Q E hr h=>?_)
 refine⟨_,(aC (aW (i:=2) fC.nd rfl (Or.inr rfl) bN)
   (aC (aW (i:=3) fC.nd rfl (Or.inl rfl) (aR cN (hr.mono (by decide)) rfl (aj (pv 0) (aj aq aB))))
   (aC (aW (i:=4) fC.nd rfl (Or.inl rfl) (kE PySem.F.plainAttrs_str PySem.F.slot_str_join PySem.F.type_str_join PN bN (aj (iz ["_law_one","_law_letters"] [none,some 2] rfl (jW (gO rG (pv 3) jQ (fV (aO bY (aP aM (pv 3) aq (λ_ _=>rfl)) aq)))) (λ_ _ _ _ _=>(fG (i:=0) (by decide +kernel) rfl rfl)) (λ_ _ _ _ _=>mO) (λ_ _ _ _ _=>(aP jo (pvf 1) (aO bY (pvl 0) aq) (λ_ _=>rfl)))) aB)))
   (aC (aW (i:=5) fC.nd rfl (Or.inl rfl) (aO bY (aP aM (pv 3) aq (λ_ _=>rfl)) (aO bH (bD cP rfl T.iw (by decide +kernel) (aj (pv 4) aB)) aq)))
   (aC (aW (i:=6) fC.nd rfl (Or.inl rfl) (dD aB))
   (aC (fQ ZaE rfl (eV rfl T.gG (aj (pv 1) aB)) (cB (i:=7) fC.nd rfl (Or.inl rfl))
    (aC (aW (i:=8) fC.nd rfl (Or.inl rfl) (aO bY (aO bH (aP aM (pv 3) aq (λ_ _=>rfl)) (aO fu (aO bH aq (aO bY (aP aM (pv 3) aq (λ_ _=>rfl)) aq)) (pv 7))) aq))
    (aC (aW (i:=9) fC.nd rfl (Or.inl rfl) (aO bH (aP aM (pv 2) (aO bY (aO fu (pv 8) aq) aq) (λ_ _=>rfl)) (aP aM (pv 2) (pv 8) (λ_ _=>rfl))))
    (aK (dw (bL (dY hr) (aO bY (aP aM (pv 3) aq (λ_ _=>rfl)) aq) aq (bO _))
     (aK (fj (kE Zau Zat PySem.F.type_list_append dq (pv 6) (aj (aO bH (aO bH (gO FQ (pv 4) jQ (fV (pv 5))) (pv 9)) (gO FQ (pv 4) (fV (pv 5)) jQ)) aB))))
     (aK (dw (bL (dY hr) (aO bY (aP aM (pv 3) aq (λ_ _=>rfl)) aq) aq (bO _))
      (aK (fj (kE Zau Zat PySem.F.type_list_append dq (pv 6) (aj (aO bH (pv 9) (gO FQ (pv 4) jQ (fV (aO bY (pv 7) (aO bH (bD cP rfl T.iw (by decide +kernel) (aj (pv 4) aB)) aq))))) aB))))
      (aK (fj (kE Zau Zat PySem.F.type_list_append dq (pv 6) (aj (aO bH (aP aM (pv 2) (pv 8) (λ_ _=>rfl)) (pv 4)) aB)))))))))))
   (aK (bc (pv 6))))))))),oO (b:=o9) (k:=2) (n:=8) rfl (λps r e=>match ps,e with|[_,_],e=>⟨rfl,e⟩) h λio H0 F0 hio=>?_⟩
 exact(aN (bz bF (aL 2))
   (aN (bz (cL (gV (ak (ao 0) (ak au aJ)))) (aL 3))
   (aN (bz (Qp bF (fX (jX (lK (cL (uQ (dO 3) jV (fY (aA aF.up cO (aA aF.up bu (ao 3) au) au))))) (aL 0) (gY 0) mW (aA aF.up bu (ao 1) (aA aF.up cO (ao 0) au))))) (aL 4))
   (aN (bz (aA aF.up cO (aA aF.up bu (ao 3) au) (aA aF.up cQ (dB ig (bA 4)) au)) (aL 5))
   (aN (gW (i:=6) trivial (dG aJ))
   (aN (fU (iD (ak (ao 1) aJ)) (aL 7)
    (aN (bz (aA aF.up cO (aA aF.up cQ (aA aF.up bu (ao 3) au) (aA aF.up kY (aA aF.up cQ au (aA aF.up cO (aA aF.up bu (ao 3) au) au)) (ao 7))) au) (aL 8))
    (aN (bz (aA aF.up cQ (aA aF.up bu (ao 2) (aA aF.up cO (aA aF.up kY (ao 8) au) au)) (aA aF.up bu (ao 2) (ao 8))) (aL 9))
    (dz (bI (aA aH.up lF (bj (aA aF.up cO (aA aF.up bu (ao 3) au) au)) (bj au)))
     (iB (aA aF.up cQ (aA aF.up cQ (Gd (ao 4) jV (fY (ao 5))) (ao 9)) (Gd (ao 4) (fY (ao 5)) jV)))
     (dz (bI (aA aH.up lF (bj (aA aF.up cO (aA aF.up bu (ao 3) au) au)) (bj au)))
      (iB (aA aF.up cQ (ao 9) (Gd (ao 4) jV (fY (aA aF.up cO (ao 7) (aA aF.up cQ (dB ig (bA 4)) au))))))
      (iB (aA aF.up cQ (aA aF.up bu (ao 2) (ao 8)) (ao 4))))))))
   (nF 6 hio)))))))
theorem zy:bw ["_law_pairs","_law_colours","_law_some","_law_under"] ["_law_pairs","_law_colours","_law_some"] (aG (top 57)):=⟨rfl,rfl,rfl,by decide +kernel,rfl,by decide +kernel,by decide +kernel⟩
theorem Kw(T:Txt mg)(D:aZ K mg "_law_pair" (top 57) ["_law_pairs","_law_colours","_law_some"]){d:Ads}(Z:Xt K mg d):FnAt P w K mg base "_law_pair" 1 ["_law_pairs","_law_colours","_law_some"] (Ms K 0 jE):=by
 refine D.ok zy (λvs H Q E h=>Mu h λps r e=>match ps,e with|[_,_,_],_=>rfl) (λf cdv A outer s H vs Q E hr h=>?_)
 refine⟨_,(aC (aW (i:=3) zy.nd rfl (Or.inl rfl) (aP aM (pv 1) (aO bY (aP aM (pv 2) aq (λ_ _=>rfl)) (bD cP rfl T.iw (by decide +kernel) (aj (pv 1) aB))) (λ_ _=>rfl)))
   (aK (dw (PW.pt (uI (bL qz (bD cP rfl T.iw (by decide +kernel) (aj (pv 0) aB)) aq (bO _)) (rF (bL (yM hr) (pv 3) (iz ["_law_pair_here"] [none] rfl (jW (pv 0)) (λ_ _ _ _ _=>(fG (i:=0) (by decide +kernel) rfl rfl)) (λ_ _ _ _ _=>mO) (λ_ _ _ _ _=>(aP jo (pvl 0) aq (λ_ _=>rfl)))) (by with_unfolding_all rfl)))))
    (aK (fj (kE Zau Zat PySem.F.type_list_append dq (pv 0) (aj (bK (aj (pv 3) (aj (aP aM (pv 1) (aO bY (aP aM (pv 2) aq (λ_ _=>rfl)) (bD cP rfl T.iw (by decide +kernel) (aj (pv 1) aB))) (λ_ _=>rfl)) aB))) aB))))
    cz))),Mt (b:=qU) (k:=3) (n:=1) rfl (λps r e=>match ps,e with|[_,_,_],e=>⟨rfl,e⟩) h λioa H0 F0=>?_⟩
 exact(aN (bz (aA aF.up bu (ao 1) (aA aF.up cO (aA aF.up bu (ao 2) au) (dB ig (bA 1)))) (aL 3))
   (dz (uP (bI (aA aF.up CW (dB ig (bA 0)) au)) (bI (aA aH.up HW (bA 3) (bj (cL (Df (Mm (dO 0)) (aL 0) (gY 0) mW (aA aF.up bu (ao 0) au)))))))
    (iB (bT (ak (ao 3) (ak (aA aF.up bu (ao 1) (aA aF.up cO (aA aF.up bu (ao 2) au) (dB ig (bA 1)))) aJ))))
    cA))
theorem rD:bw ["_law_name","_law_cells","_law_colours","_law_pairs","_law_k","_law_cell","_law_some"] ["_law_name","_law_cells","_law_colours"] (aG (top 58)):=⟨rfl,rfl,rfl,by decide +kernel,rfl,by decide +kernel,by decide +kernel⟩
theorem Ox(T:Txt mg)(D:aZ K mg "_law_ink" (top 58) ["_law_name","_law_cells","_law_colours"]){d:Ads}(Z:Xt K mg d)(cN:FnAt P w K mg base "_law_stream" 1 ["_law_cell","_law_many"] (spO K XR0 bW))(Fd:FnAt P w K mg base "_law_pair" 1 ["_law_pairs","_law_colours","_law_some"] (Ms K 0 jE)):FnAt P w K mg base "_law_ink" 2 ["_law_name","_law_cells","_law_colours"] (spM K XR0 lz):=by
 refine D.ok rD (λvs H Q E h=>cg h λps r e=>match ps,e with|[_,_,_],_=>rfl) (λf cdv A outer s H vs Q E hr h=>?_)
 refine⟨_,(aC (aW (i:=3) rD.nd rfl (Or.inl rfl) (dD aB))
   (aC (fQ ZaE rfl (ou rfl T.gA (aj (pv 1) aB)) (nZ (n:=2) rfl (dg (cB (i:=4) rD.nd rfl (Or.inl rfl)) (dg (cB (i:=5) rD.nd rfl (Or.inl rfl)) jP)))
    (aC (aW (i:=6) rD.nd rfl (Or.inl rfl) (aR cN (hr.mono (by decide)) rfl (aj (aO bH (pv 5) (aO fu aq (pv 4))) (aj aq aB))))
    (aC (dw (PW.pt (uI (bL (dY hr) (pv 4) aq (bO _)) (rF (bL (dY hr) (aO bY (aP aM (pv 6) aq (λ_ _=>rfl)) aq) aq (bO _)))))
     (aK (bc (bK (aj bN (aj (pv 0) (aj (aP aM (pv 2) (aO bY (aP aM (pv 6) aq (λ_ _=>rfl)) (bD cP rfl T.iw (by decide +kernel) (aj (pv 2) aB))) (λ_ _=>rfl)) aB))))))
     cz)
    (aK (fj (aR Fd (hr.mono (by decide)) rfl (aj (pv 3) (aj (pv 2) (aj (pv 6) aB)))))))))
   (aK (bc (bK (aj bN (aj (pv 0) (aj (jf mL rfl T.pH (by decide +kernel) (aj (pv 3) aB)) aB)))))))),cu (b:=tD) (k:=3) (n:=4) rfl (λps r e=>match ps,e with|[_,_,_],e=>⟨rfl,e⟩) h λio H0 F0 hio=>?_⟩
 exact(aN (gW (i:=3) trivial (dG aJ))
   (aN (fU (oM (ak (ao 1) aJ)) (oF (dh (aL 4) (dh (aL 5) jU)))
    (aN (bz (cL (gV (ak (aA aF.up cQ (ao 5) (aA aF.up kY au (ao 4))) (ak au aJ)))) (aL 6))
    (aN (dz (uP (bI (aA aH.up lF (bA 4) (bj au))) (bI (aA aH.up lF (bj (aA aF.up cO (aA aF.up bu (ao 6) au) au)) (bj au))))
     (bG (bT (ak bF (ak (ao 0) (ak (aA aF.up bu (ao 2) (aA aF.up cO (aA aF.up bu (ao 6) au) (dB ig (bA 2)))) aJ)))))
     cA)
    (Wl (Mv (ak (ao 2) (ak (ao 6) aJ)))))))
   (bG (bT (ak bF (ak (ao 0) (ak (dB Mq (dO 3)) aJ)))))))
theorem eO:bw ["_law_script","_law_first","_law_words_here","_law_many","_law_colours","_law_inks","_law_k","_law_name","_law_cells"] ["_law_script"] (aG (top 59)):=⟨rfl,rfl,rfl,by decide +kernel,rfl,by decide +kernel,by decide +kernel⟩
theorem Hd(T:Txt mg)(D:aZ K mg "_law_bench" (top 59) ["_law_script"]){d:Ads}(Z:Xt K mg d)(cN:FnAt P w K mg base "_law_stream" 1 ["_law_cell","_law_many"] (spO K XR0 bW))(gB:FnAt P w K mg base "_law_cell_at" 1 ["_law_script","_law_k"] (spM K XR0 cX))(Bx:FnAt P w K mg base "_law_words" 2 ["_law_cell","_law_many"] (spO K XR0 iR))(Hm:FnAt P w K mg base "_law_ink" 2 ["_law_name","_law_cells","_law_colours"] (spM K XR0 lz)):FnAt P w K mg base "_law_bench" 3 ["_law_script"] (spM K XR0 iT):=by
 refine D.ok eO (λvs H Q E h=>cg h λps r e=>match ps,e with|[_],_=>rfl) (λf cdv A outer s H vs Q E hr h=>?_)
 refine⟨_,(aC (aW (i:=1) eO.nd rfl (Or.inl rfl) (aR cN (hr.mono (by decide)) rfl (aj (aR gB (hr.mono (by decide)) rfl (aj (pv 0) (aj aq aB))) (aj aq aB))))
   (aC (aW (i:=2) eO.nd rfl (Or.inl rfl) (aR Bx (hr.mono (by decide)) rfl (aj (aR gB (hr.mono (by decide)) rfl (aj (pv 0) (aj aq aB))) (aj aq aB))))
   (aC (aW (i:=3) eO.nd rfl (Or.inl rfl) (aO bH aq (aO bY (aP aM (pv 1) aq (λ_ _=>rfl)) aq)))
   (aC (aW (i:=4) eO.nd rfl (Or.inl rfl) (gO rG (pv 2) jQ (fV (aP aM (dD (aj (aO bH aq (aO bY (aP aM (pv 1) aq (λ_ _=>rfl)) aq)) (aj aq aB))) (aO bY (aO tR (aP aM (pv 1) aq (λ_ _=>rfl)) aq) aq) (λ_ _=>rfl)))))
   (aC (aW (i:=5) eO.nd rfl (Or.inl rfl) (dD aB))
   (aC (fQ ZaE rfl (eV rfl T.gG (aj (pv 3) aB)) (cB (i:=6) eO.nd rfl (Or.inl rfl))
    (aC (aW (i:=7) eO.nd rfl (Or.inl rfl) (aP aM (pv 2) (aO bY (aO bH (aP aM (pv 1) aq (λ_ _=>rfl)) (aO fu (aO bH aq (aO bY (aP aM (pv 1) aq (λ_ _=>rfl)) aq)) (pv 6))) aq) (λ_ _=>rfl)))
    (aC (aW (i:=8) eO.nd rfl (Or.inl rfl) (JF (pv 0) (fV (aO bH aq (pv 6))) (fV aq) (fV (pv 3))))
    (aC (dw (bL (dY hr) (pv 8) (dD aB) (bO _))
     (aK (aW (i:=8) eO.nd rfl (Or.inl rfl) (dD (aj (aO bH (aP aM (pv 1) aq (λ_ _=>rfl)) (pv 6)) aB))))
     cz)
    (aK (fj (kE Zau Zat PySem.F.type_list_append dq (pv 5) (aj (aR Hm (hr.mono (by decide)) rfl (aj (pv 7) (aj (pv 8) (aj (pv 4) aB)))) aB))))))))
   (aK (bc (bK (aj (aP aM (pv 4) (aO bY (aP aM (pv 1) aq (λ_ _=>rfl)) (bD cP rfl T.iw (by decide +kernel) (aj (pv 4) aB))) (λ_ _=>rfl)) (aj (pv 5) aB))))))))))),cu (b:=pq) (k:=1) (n:=8) rfl (λps r e=>match ps,e with|[_],e=>⟨rfl,e⟩) h λio H0 F0 hio=>?_⟩
 exact(aN (bz (cL (gV (ak (bV (ak (ao 0) (ak au aJ))) (ak au aJ)))) (aL 1))
   (aN (bz (cL (gV (ak (bV (ak (ao 0) (ak au aJ))) (ak au aJ)))) (aL 2))
   (aN (bz (aA aF.up cQ au (aA aF.up cO (aA aF.up bu (ao 1) au) au)) (aL 3))
   (aN (bz (cL (uQ (dO 2) jV (fY (aA aV.up Dc (fX (dG (ak (aA aF.up cQ au (aA aF.up cO (aA aF.up bu (ao 1) au) au)) (ak au aJ)))) (aA aF.up cO (aA aF.up CV (aA aF.up bu (ao 1) au) au) au))))) (aL 4))
   (aN (gW (i:=5) trivial (dG aJ))
   (aN (fU (iD (ak (ao 3) aJ)) (aL 6)
    (aN (bz (aA aF.up bu (ao 2) (aA aF.up cO (aA aF.up cQ (aA aF.up bu (ao 1) au) (aA aF.up kY (aA aF.up cQ au (aA aF.up cO (aA aF.up bu (ao 1) au) au)) (ao 6))) au)) (aL 7))
    (aN (bz (cL (Uq (dO 0) (fY (aA aF.up cQ au (ao 6))) (fY au) (fY (ao 3)))) (aL 8))
    (aN (dz (bI (aA aH.up lF (bA 8) (bj (cL (dG aJ)))))
     (bz (cL (dG (ak (aA aF.up cQ (aA aF.up bu (ao 1) au) (ao 6)) aJ))) (aL 8))
     cA)
    (iB (bV (ak (ao 7) (ak (ao 8) (ak (ao 4) aJ)))))))))
   (Ud 5 hio (bG (bT (ak (aA aF.up bu (ao 4) (aA aF.up cO (aA aF.up bu (ao 1) au) (dB ig (bA 4)))) (ak (ao 5) aJ)))))))))))
theorem zz:bw ["_law_cell","_law_some"] ["_law_cell"] (aG (top 60)):=⟨rfl,rfl,rfl,by decide +kernel,rfl,by decide +kernel,by decide +kernel⟩
theorem Ky(T:Txt mg)(D:aZ K mg "_law_size" (top 60) ["_law_cell"]){d:Ads}(Z:Xt K mg d)(cN:FnAt P w K mg base "_law_stream" 1 ["_law_cell","_law_many"] (spO K XR0 bW))(gU:FnAt P w K mg base "_law_window" 1 ["_law_cell","_law_turn"] (spM K XR0 du)):FnAt P w K mg base "_law_size" 2 ["_law_cell"] (spM K XR0 jF):=by
 refine D.ok zz (λvs H Q E h=>cg h λps r e=>match ps,e with|[_],_=>rfl) (λf cdv A outer s H vs Q E hr h=>?_)
 refine⟨_,(aC (aW (i:=1) zz.nd rfl (Or.inr rfl) (aR cN (hr.mono (by decide)) rfl (aj (aO bH (aR gU (hr.mono (by decide)) rfl (aj (pv 0) (aj aq aB))) aq) (aj aq aB))))
   (aK (bc (jf mL rfl T.pH (by decide +kernel) (aj (iz ["_law_k","_law_some"] [none,some 1] rfl (eV rfl T.gG (aj aq aB)) (λ_ _ _ _ _=>(fG (i:=0) (by decide +kernel) rfl rfl)) (λ_ _ _ _ _=>mO) (λ_ _ _ _ _=>(aP jo (dD (aj aq (aj aq (aj (aO wO aq (aO bY (aP jo (pvf 1) (pvl 0) (λ_ _=>rfl)) aq)) (aj (aO wO aq (aO bY (aP jo (pvf 1) (pvl 0) (λ_ _=>rfl)) aq)) aB))))) (aO bY (aO tR (aP jo (pvf 1) (aO wO aq (pvl 0)) (λ_ _=>rfl)) aq) aq) (λ_ _=>rfl)))) aB))))),cu (b:=mz) (k:=1) (n:=1) rfl (λps r e=>match ps,e with|[_],e=>⟨rfl,e⟩) h λio H0 F0 hio=>?_⟩
 exact(aN (bz (cL (gV (ak (aA aF.up cQ (bV (ak (ao 0) (ak au aJ))) au) (ak au aJ)))) (aL 1))
   (bG (dB Mq (fX (jX (iD (ak au aJ)) (aL 0) (gY 0) mW (aA aV.up Dc (fX (dG (ak au (ak au (ak (aA aF.up cQ au (aA aF.up cO (aA aF.up bu (ao 1) (ao 0)) au)) (ak (aA aF.up cQ au (aA aF.up cO (aA aF.up bu (ao 1) (ao 0)) au)) aJ)))))) (aA aF.up cO (aA aF.up CV (aA aF.up bu (ao 1) (aA aF.up cQ au (ao 0))) au) au)))))))
theorem jH:bw ["_law_size_here","_law_some","_law_way","_law_place","_law_first","_law_last"] ["_law_size_here","_law_some"] (aG (top 61)):=⟨rfl,rfl,rfl,by decide +kernel,rfl,by decide +kernel,by decide +kernel⟩
theorem Et(T:Txt mg)(D:aZ K mg "_law_stroke" (top 61) ["_law_size_here","_law_some"]){d:Ads}(Z:Xt K mg d):FnAt P w K mg base "_law_stroke" 1 ["_law_size_here","_law_some"] (spM K XR0 gP):=by
 refine D.ok jH (λvs H Q E h=>cg h λps r e=>match ps,e with|[_,_],_=>rfl) (λf cdv A outer s H vs Q E hr h=>?_)
 refine⟨_,(aC (aW (i:=2) jH.nd rfl (Or.inl rfl) (aO bY (aP aM (pv 1) aq (λ_ _=>rfl)) aq))
   (aC (aW (i:=3) jH.nd rfl (Or.inl rfl) (aO bY (aP aM (pv 1) aq (λ_ _=>rfl)) (aP aM (pv 0) (aO qu aq (pv 2)) (λ_ _=>rfl))))
   (aC (aW (i:=4) jH.nd rfl (Or.inl rfl) (aO bY (aP aM (pv 1) aq (λ_ _=>rfl)) (aP aM (pv 0) (pv 2) (λ_ _=>rfl))))
   (aC (aW (i:=5) jH.nd rfl (Or.inl rfl) (aO bH (pv 4) (aO bY (aP aM (pv 1) aq (λ_ _=>rfl)) (aO qu (aP aM (pv 0) (pv 2) (λ_ _=>rfl)) (pv 4)))))
   (aK (bc (bK (aj (aP aM (dD (aj bN (aj bN aB))) (pv 2) (λ_ _=>rfl)) (aj (pv 3) (aj (pv 4) (aj (pv 5) aB))))))))))),cu (b:=jx) (k:=2) (n:=4) rfl (λps r e=>match ps,e with|[_,_],e=>⟨rfl,e⟩) h λio H0 F0 hio=>?_⟩
 exact(aN (bz (aA aF.up cO (aA aF.up bu (ao 1) au) au) (aL 2))
   (aN (bz (aA aF.up cO (aA aF.up bu (ao 1) au) (aA aF.up bu (ao 0) (aA aF.up vg au (ao 2)))) (aL 3))
   (aN (bz (aA aF.up cO (aA aF.up bu (ao 1) au) (aA aF.up bu (ao 0) (ao 2))) (aL 4))
   (aN (bz (aA aF.up cQ (ao 4) (aA aF.up cO (aA aF.up bu (ao 1) au) (aA aF.up vg (aA aF.up bu (ao 0) (ao 2)) (ao 4)))) (aL 5))
   (bG (bT (ak (aA aV.up Dc (fX (dG (ak bF (ak bF aJ)))) (ao 2)) (ak (ao 3) (ak (ao 4) (ak (ao 5) aJ))))))))))
theorem gF:bw ["_law_script","_law_size_here","_law_many","_law_plan_here","_law_ink_here","_law_k","_law_cell","_law_some","_law_block"] ["_law_script","_law_size_here","_law_many"] (aG (top 62)):=⟨rfl,rfl,rfl,by decide +kernel,rfl,by decide +kernel,by decide +kernel⟩
theorem Kz(T:Txt mg)(D:aZ K mg "_law_plan" (top 62) ["_law_script","_law_size_here","_law_many"]){d:Ads}(Z:Xt K mg d)(cN:FnAt P w K mg base "_law_stream" 1 ["_law_cell","_law_many"] (spO K XR0 bW))(gU:FnAt P w K mg base "_law_window" 1 ["_law_cell","_law_turn"] (spM K XR0 du))(yr:FnAt P w K mg base "_law_stroke" 1 ["_law_size_here","_law_some"] (spM K XR0 gP)):FnAt P w K mg base "_law_plan" 2 ["_law_script","_law_size_here","_law_many"] (spO K XR0 jG):=by
 refine D.ok gF (λvs H Q E h=>lM h λps r e=>match ps,e with|[_,_,_],_=>rfl) (λf cdv A outer s H vs Q E hr h=>?_)
 refine⟨_,(aC (aW (i:=3) gF.nd rfl (Or.inl rfl) (dD aB))
   (aC (aW (i:=4) gF.nd rfl (Or.inl rfl) aq)
   (aC (fQ ZaE rfl (ou rfl T.gA (aj (gO rG (pv 0) (fV aq) (fV aq)) aB)) (nZ (n:=2) rfl (dg (cB (i:=5) gF.nd rfl (Or.inl rfl)) (dg (cB (i:=6) gF.nd rfl (Or.inl rfl)) jP)))
    (aC (aW (i:=7) gF.nd rfl (Or.inl rfl) (aR cN (hr.mono (by decide)) rfl (aj (aO bH (aO bH (aR gU (hr.mono (by decide)) rfl (aj (pv 6) (aj aq aB))) aq) (aO fu aq (pv 5))) (aj aq aB))))
    (aC (aW (i:=8) gF.nd rfl (Or.inl rfl) (aP aM (dD (aj aq (aj aq (aj aq (aj (aO bY (aP aM (pv 7) aq (λ_ _=>rfl)) (aO oh aq aq)) aB))))) (aO bY (aP aM (pv 7) aq (λ_ _=>rfl)) aq) (λ_ _=>rfl)))
    (aK (dw (PW.pt (uI (bL (dY hr) (aO bY (aP aM (pv 7) aq (λ_ _=>rfl)) aq) aq (bO _)) (rF (bL qz (pv 4) (pv 2) (bO _)))))
     (aC (aW (i:=4) gF.nd rfl (Or.inl rfl) (aO bH (pv 4) (aO fu (aO bY (aP aM (pv 7) aq (λ_ _=>rfl)) aq) (aO bY (aO tR (aP aM (pv 7) aq (λ_ _=>rfl)) aq) (aO qu (pv 2) (pv 4))))))
     (aC (fj (kE Zau Zat PySem.F.type_list_append dq (pv 3) (aj (bK (aj bN (aj (pv 8) (aj (pv 4) aB)))) aB)))
     (aK (aW (i:=4) gF.nd rfl (Or.inl rfl) (aO bH (pv 4) aq)))))
     (aK (fj (kE Zau Zat PySem.F.type_list_append dq (pv 3) (aj (bK (aj bN (aj (pv 8) (aj (aR yr (hr.mono (by decide)) rfl (aj (pv 1) (aj (pv 7) aB))) aB)))) aB)))))))))
   (aK (bc (pv 3)))))),oO (b:=mD) (k:=3) (n:=6) rfl (λps r e=>match ps,e with|[_,_,_],e=>⟨rfl,e⟩) h λio H0 F0 hio=>?_⟩
 exact(aN (gW (i:=3) trivial (dG aJ))
   (aN (bz au (aL 4))
   (aN (fU (oM (ak (cL (uQ (dO 0) (fY au) (fY au))) aJ)) (oF (dh (aL 5) (dh (aL 6) jU)))
    (aN (bz (cL (gV (ak (aA aF.up cQ (aA aF.up cQ (bV (ak (ao 6) (ak au aJ))) au) (aA aF.up kY au (ao 5))) (ak au aJ)))) (aL 7))
    (aN (bz (aA aV.up Dc (fX (dG (ak au (ak au (ak au (ak (aA aF.up cO (aA aF.up bu (ao 7) au) (aA aF.up uc au au)) aJ)))))) (aA aF.up cO (aA aF.up bu (ao 7) au) au)) (aL 8))
    (dz (uP (bI (aA aH.up lF (bj (aA aF.up cO (aA aF.up bu (ao 7) au) au)) (bj au))) (bI (aA aF.up CW (ao 4) (ao 2))))
     (aN (bz (aA aF.up cQ (ao 4) (aA aF.up kY (aA aF.up cO (aA aF.up bu (ao 7) au) au) (aA aF.up cO (aA aF.up CV (aA aF.up bu (ao 7) au) au) (aA aF.up vg (ao 2) (ao 4))))) (aL 4))
     (aN (iB (bT (ak bF (ak (ao 8) (ak (ao 4) aJ)))))
     (bz (aA aF.up cQ (ao 4) au) (aL 4))))
     (iB (bT (ak bF (ak (ao 8) (ak (bV (ak (ao 1) (ak (ao 7) aJ))) aJ)))))))))
   (nF 3 hio))))
theorem gR:bw ["_law_size_here","_law_many","_law_some","_law_wide","_law_high","_law_inks","_law_odd_here","_law_ink_here","_law_stroke_here"] ["_law_size_here","_law_many","_law_some"] (aG (top 63)):=⟨rfl,rfl,rfl,by decide +kernel,rfl,by decide +kernel,by decide +kernel⟩
theorem Oz(T:Txt mg)(D:aZ K mg "_law_odd" (top 63) ["_law_size_here","_law_many","_law_some"]){d:Ads}(Z:Xt K mg d):FnAt P w K mg base "_law_odd" 1 ["_law_size_here","_law_many","_law_some"] (spM K XR0 pB):=by
 refine D.ok gR (λvs H Q E h=>cg h λps r e=>match ps,e with|[_,_,_],_=>rfl) (λf cdv A outer s H vs Q E hr h=>?_)
 refine⟨_,(aC (Ti (pv 0) (nZ (n:=2) rfl (dg (cB (i:=3) gR.nd rfl (Or.inl rfl)) (dg (cB (i:=4) gR.nd rfl (Or.inl rfl)) jP))))
   (aC (aW (i:=5) gR.nd rfl (Or.inl rfl) (dD (aj aq (aj (aO qu (pv 1) aq) (aj (pv 1) (aj (aO oh aq aq) aB))))))
   (aC (aW (i:=6) gR.nd rfl (Or.inl rfl) (dD (aj qp (aj aq (aj bN (aj (dD aB) (aj (bK aB) (aj (bK (aj bN (aj aq aB))) (aj (dD (aj bN (aj aq (aj aq aB)))) (aj (bK (aj bN (aj aq aB))) (aj (bK (aj bN (aj (yz wy aq) (aj aq aB)))) (aj (bK (aj bN (aj aq (aj qp aB)))) aB))))))))))))
   (aC (aW (i:=6) gR.nd rfl (Or.inl rfl) (aO vR (pv 6) (dD (aj (bK (aj bN (aj aq (aj (yz wy aq) aB)))) (aj (bK (aj bN (aj aq (aj bN aB)))) (aj (bK (aj bN (aj bN (aj aq aB)))) (aj (bK (aj bN (aj aq (aj aq aB)))) (aj (bK (aj aq (aj aq (aj aq aB)))) (aj (bK (aj bN (aj aq (aj aq (aj aq aB))))) aB)))))))))
   (aC (fQ ZaE rfl (jW (pv 5)) (cB (i:=7) gR.nd rfl (Or.inl rfl))
    (aK (fj (kE Zau Zat PySem.F.type_list_append dq (pv 6) (aj (bK (aj bN (aj (aO bY (aP aM (pv 2) aq (λ_ _=>rfl)) aq) (aj (pv 7) aB)))) aB)))))
   (aC (fQ ZaE rfl (jW (dD (aj (bK (aj bN (aj (pv 4) (aj aq (aj aq aB))))) (aj (bK (aj bN (aj aq (aj aq (aj (pv 3) aB))))) (aj (bK (aj bN (aj aq (aj aq (aj aq aB))))) (aj (bK (aj bN (aj (pv 3) (aj aq (aj aq aB))))) (aj (bK (aj bN (aj aq (aj aq aB)))) aB))))))) (cB (i:=8) gR.nd rfl (Or.inl rfl))
    (aK (fj (kE Zau Zat PySem.F.type_list_append dq (pv 6) (aj (bK (aj bN (aj aq (aj (pv 8) aB)))) aB)))))
   (aC (fQ ZaE rfl (jW (dD (aj (bK (aj bN (aj aq (aj aq (aj (pv 4) aB))))) (aj (bK (aj bN (aj aq (aj aq (aj aq aB))))) (aj (bK (aj bN (aj (yz wy aq) (aj aq (aj aq aB))))) (aj (dD (aj bN (aj aq (aj aq (aj aq aB))))) (aj (bK (aj bN (aj aq (aj (yz wy aq) (aj aq aB))))) aB))))))) (cB (i:=8) gR.nd rfl (Or.inl rfl))
    (aK (fj (kE Zau Zat PySem.F.type_list_append dq (pv 6) (aj (bK (aj bN (aj (aO bY (aP aM (pv 2) aq (λ_ _=>rfl)) (aO oh aq aq)) (aj (pv 8) aB)))) aB)))))
   (aC (aW (i:=6) gR.nd rfl (Or.inl rfl) (aO vR (pv 6) (dD (aj (bK (aj bN (aj aq (aj km aB)))) (aj (bK (aj bN (aj km (aj (aO qu (pv 1) aq) aB)))) (aj (bK (aj bN (aj km (aj aq aB)))) (aj (bK (aj (dD aB) (aj aq (aj (bK (aj bN (aj aq (aj aq (aj aq aB))))) aB)))) aB)))))))
   (aC (fj (kE Zau Zat PySem.F.type_list_append dq (pv 6) (aj (bK (aj bN (aj km (aj (bK (aj bN (aj aq (aj aq (aj aq aB))))) aB)))) aB)))
   (aK (bc (aP aM (pv 6) (aO bY (aP aM (pv 2) aq (λ_ _=>rfl)) aq) (λ_ _=>rfl))))))))))))),cu (b:=pA) (k:=3) (n:=6) rfl (λps r e=>match ps,e with|[_,_,_],e=>⟨rfl,e⟩) h λio H0 F0 hio=>?_⟩
 exact(aN (bz (ao 0) (oF (dh (aL 3) (dh (aL 4) jU))))
   (aN (bz (cL (dG (ak au (ak (aA aF.up vg (ao 1) au) (ak (ao 1) (ak (aA aF.up uc au au) aJ)))))) (aL 5))
   (aN (gW (i:=6) trivial (dG (ak qx (ak au (ak bF (ak (cL (dG aJ)) (ak (bT aJ) (ak (bT (ak bF (ak au aJ))) (ak (cL (dG (ak bF (ak au (ak au aJ))))) (ak (bT (ak bF (ak au aJ))) (ak (bT (ak bF (ak (wN au) (ak au aJ)))) (ak (bT (ak bF (ak au (ak qx aJ)))) aJ))))))))))))
   (aN (gW (i:=6) trivial (HJ aV.up HX (dO 6) (fX (dG (ak (bT (ak bF (ak au (ak (wN au) aJ)))) (ak (bT (ak bF (ak au (ak bF aJ)))) (ak (bT (ak bF (ak bF (ak au aJ)))) (ak (bT (ak bF (ak au (ak au aJ)))) (ak (bT (ak au (ak au (ak au aJ)))) (ak (bT (ak bF (ak au (ak au (ak au aJ))))) aJ))))))))))
   (aN (fU (lK (ao 5)) (aL 7)
    (iB (bT (ak bF (ak (aA aF.up cO (aA aF.up bu (ao 2) au) au) (ak (ao 7) aJ))))))
   (aN (fU (lK (cL (dG (ak (bT (ak bF (ak (ao 4) (ak au (ak au aJ))))) (ak (bT (ak bF (ak au (ak au (ak (ao 3) aJ))))) (ak (bT (ak bF (ak au (ak au (ak au aJ))))) (ak (bT (ak bF (ak (ao 3) (ak au (ak au aJ))))) (ak (bT (ak bF (ak au (ak au aJ)))) aJ)))))))) (aL 8)
    (iB (bT (ak bF (ak au (ak (ao 8) aJ))))))
   (aN (fU (lK (cL (dG (ak (bT (ak bF (ak au (ak au (ak (ao 4) aJ))))) (ak (bT (ak bF (ak au (ak au (ak au aJ))))) (ak (bT (ak bF (ak (wN au) (ak au (ak au aJ))))) (ak (cL (dG (ak bF (ak au (ak au (ak au aJ)))))) (ak (bT (ak bF (ak au (ak (wN au) (ak au aJ))))) aJ)))))))) (aL 8)
    (iB (bT (ak bF (ak (aA aF.up cO (aA aF.up bu (ao 2) au) (aA aF.up uc au au)) (ak (ao 8) aJ))))))
   (aN (gW (i:=6) trivial (HJ aV.up HX (dO 6) (fX (dG (ak (bT (ak bF (ak au (ak kJ aJ)))) (ak (bT (ak bF (ak kJ (ak (aA aF.up vg (ao 1) au) aJ)))) (ak (bT (ak bF (ak kJ (ak au aJ)))) (ak (bT (ak (cL (dG aJ)) (ak au (ak (bT (ak bF (ak au (ak au (ak au aJ))))) aJ)))) aJ))))))))
   (aN (iB (bT (ak bF (ak kJ (ak (bT (ak bF (ak au (ak au (ak au aJ))))) aJ)))))
   (bG (aA aV.up Dc (dO 6) (aA aF.up cO (aA aF.up bu (ao 2) au) au))))))))))))
theorem dJ:bw ["_law_plan_here","_law_size_here","_law_many","_law_cell","_law_some","_law_made","_law_k","_law_at","_law_thing"] ["_law_plan_here","_law_size_here","_law_many","_law_cell"] (aG (top 64)):=⟨rfl,rfl,rfl,by decide +kernel,rfl,by decide +kernel,by decide +kernel⟩
theorem Eu(T:Txt mg)(D:aZ K mg "_law_spoilt" (top 64) ["_law_plan_here","_law_size_here","_law_many","_law_cell"]){d:Ads}(Z:Xt K mg d)(cN:FnAt P w K mg base "_law_stream" 1 ["_law_cell","_law_many"] (spO K XR0 bW))(gU:FnAt P w K mg base "_law_window" 1 ["_law_cell","_law_turn"] (spM K XR0 du))(Hn:FnAt P w K mg base "_law_odd" 1 ["_law_size_here","_law_many","_law_some"] (spM K XR0 pB)):FnAt P w K mg base "_law_spoilt" 2 ["_law_plan_here","_law_size_here","_law_many","_law_cell"] (spO K XR0 gQ):=by
 refine D.ok dJ (λvs H Q E h=>lM h λps r e=>match ps,e with|[_,_,_,_],_=>rfl) (λf cdv A outer s H vs Q E hr h=>?_)
 refine⟨_,(aC (aW (i:=4) dJ.nd rfl (Or.inl rfl) (aR cN (hr.mono (by decide)) rfl (aj (aO bH (aR gU (hr.mono (by decide)) rfl (aj (pv 3) (aj aq aB))) aq) (aj aq aB))))
   (aC (aW (i:=5) dJ.nd rfl (Or.inl rfl) (jf tW rfl T.OD (by decide +kernel) (aj (pv 0) aB)))
   (aC (fQ ZaE rfl (eV rfl T.gG (aj (aO bH aq (aO bY (aP aM (pv 4) aq (λ_ _=>rfl)) aq)) aB)) (cB (i:=6) dJ.nd rfl (Or.inl rfl))
    (aC (aW (i:=7) dJ.nd rfl (Or.inl rfl) (aO bY (aP aM (pv 4) (aO bH aq (aO fu aq (pv 6))) (λ_ _=>rfl)) (aO bH (bD cP rfl T.iw (by decide +kernel) (aj (pv 5) aB)) aq)))
    (aC (dw (bL (dY hr) (aO bY (aP aM (pv 4) (aO bH aq (aO fu aq (pv 6))) (λ_ _=>rfl)) aq) aq (bO _))
     (aK (aW (i:=7) dJ.nd rfl (Or.inl rfl) (bD cP rfl T.iw (by decide +kernel) (aj (pv 5) aB))))
     cz)
    (aC (aW (i:=8) dJ.nd rfl (Or.inl rfl) (aR Hn (hr.mono (by decide)) rfl (aj (pv 1) (aj (pv 2) (aj (gO rG (pv 4) (fV (aO fu aq (pv 6))) jQ) aB)))))
    (aC (dw (PW.pt (uI (bL (dY hr) (pv 6) aq (bO _)) (rF (bL (dY hr) (aO bY (aP aM (pv 4) aq (λ_ _=>rfl)) aq) aq (bO _)))))
     (aC (aW (i:=8) dJ.nd rfl (Or.inl rfl) (bK (aj bN (aj aq (aj (aO bH (pv 2) (aO bY (aP aM (pv 4) aq (λ_ _=>rfl)) aq)) aB)))))
     (aK (aW (i:=7) dJ.nd rfl (Or.inl rfl) (bD cP rfl T.iw (by decide +kernel) (aj (pv 5) aB)))))
     cz)
    (aK (aW (i:=5) dJ.nd rfl (Or.inl rfl) (aO vR (aO vR (gO rG (pv 5) jQ (fV (pv 7))) (dD (aj (pv 8) aB))) (gO rG (pv 5) (fV (pv 7)) jQ)))))))))
   (aK (bc (pv 5)))))),oO (b:=jy) (k:=4) (n:=5) rfl (λps r e=>match ps,e with|[_,_,_,_],e=>⟨rfl,e⟩) h λio H0 F0 hio=>?_⟩
 exact(aN (bz (cL (gV (ak (aA aF.up cQ (bV (ak (ao 3) (ak au aJ))) au) (ak au aJ)))) (aL 4))
   (aN (gW (i:=5) trivial (Ge Mp (dO 0)))
   (aN (fU (iD (ak (aA aF.up cQ au (aA aF.up cO (aA aF.up bu (ao 4) au) au)) aJ)) (aL 6)
    (aN (bz (aA aF.up cO (aA aF.up bu (ao 4) (aA aF.up cQ au (aA aF.up kY au (ao 6)))) (aA aF.up cQ (dB ig (bA 5)) au)) (aL 7))
    (aN (dz (bI (aA aH.up lF (bj (aA aF.up cO (aA aF.up bu (ao 4) (aA aF.up cQ au (aA aF.up kY au (ao 6)))) au)) (bj au)))
     (bz (dB ig (bA 5)) (aL 7))
     cA)
    (aN (bz (bV (ak (ao 1) (ak (ao 2) (ak (cL (uQ (dO 4) (fY (aA aF.up kY au (ao 6))) jV)) aJ)))) (aL 8))
    (aN (dz (uP (bI (aA aH.up lF (bA 6) (bj au))) (bI (aA aH.up lF (bj (aA aF.up cO (aA aF.up bu (ao 4) au) au)) (bj au))))
     (aN (bz (bT (ak bF (ak au (ak (aA aF.up cQ (ao 2) (aA aF.up cO (aA aF.up bu (ao 4) au) au)) aJ)))) (aL 8))
     (bz (dB ig (bA 5)) (aL 7)))
     cA)
    (gW (i:=5) trivial (HJ aV.up HX (fX (HJ aV.up HX (fX (uQ (dO 5) jV (fY (ao 7)))) (fX (dG (ak (ao 8) aJ))))) (fX (uQ (dO 5) (fY (ao 7)) jV)))))))))
   (nF 5 hio))))
theorem Ew:bw ["_law_thing","_law_most"] ["_law_thing","_law_most"] (aG (top 65)):=⟨rfl,rfl,rfl,by decide +kernel,rfl,by decide +kernel,by decide +kernel⟩
theorem Ex(T:Txt mg)(D:aZ K mg "_law_number" (top 65) ["_law_thing","_law_most"]){d:Ads}(Z:Xt K mg d):FnAt P w K mg base "_law_number" 1 ["_law_thing","_law_most"] (spM K XR0 cF):=by
 refine D.ok Ew (λvs H Q E h=>cg h λps r e=>match ps,e with|[_,_],_=>rfl) (λf cdv A outer s H vs Q E hr h=>?_)
 refine⟨_,(aK (bc (mK (bD fH rfl T.b7 (by decide +kernel) (aj (pv 0) (aj (nu rfl T.Ji (n:="int") (by decide +kernel)) aB))) (mK (Fj (bD fH rfl T.b7 (by decide +kernel) (aj (pv 0) (aj (nu rfl T.Hi (n:="bool") (by decide +kernel)) aB)))) (qt (Cj zX qz aq (pv 0) (pv 1))))))),cu (b:=dI) (k:=2) (n:=0) rfl (λps r e=>match ps,e with|[_,_],e=>⟨rfl,e⟩) h λio H0 F0 hio=>?_⟩
 exact(bG (mQ (jL aH.up vC (bA 0) pN) (mQ (FW (jL aH.up vC (bA 0) pN)) (Cz Qi CW au (ao 0) (ao 1)))))
theorem Jh:bw ["_law_size_here","_law_stroke_here","_law_way"] ["_law_size_here","_law_stroke_here"] (aG (top 66)):=⟨rfl,rfl,rfl,by decide +kernel,rfl,by decide +kernel,by decide +kernel⟩
theorem RJ(T:Txt mg)(D:aZ K mg "_law_on" (top 66) ["_law_size_here","_law_stroke_here"]){d:Ads}(Z:Xt K mg d)(fP:FnAt P w K mg base "_law_number" 1 ["_law_thing","_law_most"] (spM K XR0 cF)):FnAt P w K mg base "_law_on" 2 ["_law_size_here","_law_stroke_here"] (spM K XR0 iu):=by
 refine D.ok Jh (λvs H Q E h=>cg h λps r e=>match ps,e with|[_,_],_=>rfl) (λf cdv A outer s H vs Q E hr h=>?_)
 refine⟨_,(aC (dw (PW.pt (nq (gJ (eU (bD fH rfl T.b7 (by decide +kernel) (aj (pv 1) (aj (nu rfl T.pH (n:="tuple") (by decide +kernel)) aB))))) (nq (bL (oH hr) (bD cP rfl T.iw (by decide +kernel) (aj (pv 1) aB)) aq (bO _)) (mJ (PW.pt (uI (bL (oH hr) (aP aM (pv 1) aq (λ_ _=>rfl)) bN (bO _)) (rF (bL (oH hr) (aP aM (pv 1) aq (λ_ _=>rfl)) bN (bO _)))))))))
    (aK (bc km))
    cz)
   (aC (aW (i:=2) Jh.nd rfl (Or.inl rfl) (jf Js rfl T.Ji (by decide +kernel) (aj (iy (dY hr) (aP aM (pv 1) aq (λ_ _=>rfl)) bN (bO _)) aB)))
   (aC (dw (PW.pt (nq (gJ (eU (aR fP (hr.mono (by decide)) rfl (aj (aP aM (pv 1) aq (λ_ _=>rfl)) (aj (aP aM (pv 0) (aO qu aq (pv 2)) (λ_ _=>rfl)) aB))))) (mJ (gJ (eU (aR fP (hr.mono (by decide)) rfl (aj (aP aM (pv 1) aq (λ_ _=>rfl)) (aj (aP aM (pv 0) (pv 2) (λ_ _=>rfl)) aB))))))))
    (aK (bc km))
    cz)
   (aK (bc (aR fP (hr.mono (by decide)) rfl (aj (aP aM (pv 1) aq (λ_ _=>rfl)) (aj (aO bH (aP aM (pv 1) aq (λ_ _=>rfl)) aq) aB)))))))),cu (b:=fO) (k:=2) (n:=1) rfl (λps r e=>match ps,e with|[_,_],e=>⟨rfl,e⟩) h λio H0 F0 hio=>?_⟩
 exact(aN (dz (nC (gK (eX (jL aH.up vC (bA 1) pN))) (nC (bI (aA aH.up zY (bj (dB ig (bA 1))) (bj au))) (uP (bI (aA aH.up zY (bj (aA aF.up bu (ao 1) au)) (bj bF))) (bI (aA aH.up zY (bj (aA aF.up bu (ao 1) au)) (bj bF))))))
    (bG kJ)
    cA)
   (aN (bz (dB Uo (aA aH.up lF (bj (aA aF.up bu (ao 1) au)) (bj bF))) (aL 2))
   (aN (dz (nC (gK (eX (bV (ak (aA aF.up bu (ao 1) au) (ak (aA aF.up bu (ao 0) (aA aF.up vg au (ao 2))) aJ))))) (gK (eX (bV (ak (aA aF.up bu (ao 1) au) (ak (aA aF.up bu (ao 0) (ao 2)) aJ))))))
    (bG kJ)
    cA)
   (bG (bV (ak (aA aF.up bu (ao 1) au) (ak (aA aF.up cQ (aA aF.up bu (ao 1) au) au) aJ)))))))
theorem lD:bw ["_law_plan_here","_law_size_here","_law_many","_law_least","_law_place","_law_thing"] ["_law_plan_here","_law_size_here","_law_many"] (aG (top 67)):=⟨rfl,rfl,rfl,by decide +kernel,rfl,by decide +kernel,by decide +kernel⟩
theorem Hf(T:Txt mg)(D:aZ K mg "_law_fault" (top 67) ["_law_plan_here","_law_size_here","_law_many"]){d:Ads}(Z:Xt K mg d)(fP:FnAt P w K mg base "_law_number" 1 ["_law_thing","_law_most"] (spM K XR0 cF))(KN:FnAt P w K mg base "_law_on" 2 ["_law_size_here","_law_stroke_here"] (spM K XR0 iu)):FnAt P w K mg base "_law_fault" 3 ["_law_plan_here","_law_size_here","_law_many"] (spM K XR0 iZ):=by
 refine D.ok lD (λvs H Q E h=>cg h λps r e=>match ps,e with|[_,_,_],_=>rfl) (λf cdv A outer s H vs Q E hr h=>?_)
 refine⟨_,(aC (aW (i:=3) lD.nd rfl (Or.inl rfl) aq)
   (aC (fQ ZaE rfl (ou rfl T.gA (aj (pv 0) aB)) (nZ (n:=2) rfl (dg (cB (i:=4) lD.nd rfl (Or.inl rfl)) (dg (cB (i:=5) lD.nd rfl (Or.inl rfl)) jP)))
    (aC (dw (PW.pt (nq (gJ (eU (bD fH rfl T.b7 (by decide +kernel) (aj (pv 5) (aj (nu rfl T.pH (n:="tuple") (by decide +kernel)) aB))))) (nq (bL (oH hr) (bD cP rfl T.iw (by decide +kernel) (aj (pv 5) aB)) aq (bO _)) (mJ (gJ (eU (aR fP (hr.mono (by decide)) rfl (aj (aP aM (pv 5) aq (λ_ _=>rfl)) (aj (aO oh aq aq) aB)))))))))
     (aK (bc (pv 4)))
     cz)
    (aK (dw (bL (dY hr) (aP aM (pv 5) aq (λ_ _=>rfl)) bN (bO _))
     (aC (dw (PW.pt (nq (gJ (eU (aR fP (hr.mono (by decide)) rfl (aj (aP aM (pv 5) aq (λ_ _=>rfl)) (aj (pv 2) aB))))) (mJ (bL qz (aP aM (pv 5) aq (λ_ _=>rfl)) (pv 3) (bO _)))))
      (aK (bc (pv 4)))
      cz)
     (aK (aW (i:=3) lD.nd rfl (Or.inl rfl) (aO bH (aP aM (pv 5) aq (λ_ _=>rfl)) aq))))
     (aK (dw (PW.pt (nq (bL (oH hr) (aP aM (pv 5) aq (λ_ _=>rfl)) bN (bO _)) (mJ (gJ (eU (aR KN (hr.mono (by decide)) rfl (aj (pv 1) (aj (aP aM (pv 5) aq (λ_ _=>rfl)) aB))))))))
      (aK (bc (pv 4)))
      cz))))))
   (aK (bc qp)))),cu (b:=gD) (k:=3) (n:=3) rfl (λps r e=>match ps,e with|[_,_,_],e=>⟨rfl,e⟩) h λio H0 F0 hio=>?_⟩
 exact(aN (bz au (aL 3))
   (aN (fU (oM (ak (ao 0) aJ)) (oF (dh (aL 4) (dh (aL 5) jU)))
    (aN (dz (nC (gK (eX (jL aH.up vC (bA 5) pN))) (nC (bI (aA aH.up zY (bj (dB ig (bA 5))) (bj au))) (gK (eX (bV (ak (aA aF.up bu (ao 5) au) (ak (aA aF.up uc au au) aJ)))))))
     (bG (ao 4))
     cA)
    (dz (bI (aA aH.up lF (bj (aA aF.up bu (ao 5) au)) (bj bF)))
     (aN (dz (nC (gK (eX (bV (ak (aA aF.up bu (ao 5) au) (ak (ao 2) aJ))))) (bI (aA aF.up CW (aA aF.up bu (ao 5) au) (ao 3))))
      (bG (ao 4))
      cA)
     (bz (aA aF.up cQ (aA aF.up bu (ao 5) au) au) (aL 3)))
     (dz (nC (bI (aA aH.up zY (bj (aA aF.up bu (ao 5) au)) (bj bF))) (gK (eX (bV (ak (ao 1) (ak (aA aF.up bu (ao 5) au) aJ))))))
      (bG (ao 4))
      cA))))
   (bG qx)))
theorem Hg:bw ["_law_error"] ["_law_error"] (aG (top 68)):=⟨rfl,rfl,rfl,by decide +kernel,rfl,by decide +kernel,by decide +kernel⟩
theorem Hh(T:Txt mg)(D:aZ K mg "_law_other" (top 68) ["_law_error"]){d:Ads}(Z:Xt K mg d):FnAt P w K mg base "_law_other" 1 ["_law_error"] (spM K XR0 jb):=by
 refine D.ok Hg (λvs H Q E h=>cg h λps r e=>match ps,e with|[_],_=>rfl) (λf cdv A outer s H vs Q E hr h=>?_)
 refine⟨_,(aC (dw (eU (bD (yZ (Ts:=[d.x_NoSet,d.x_NoBench,d.x_NoPicture,d.x_NoStack,d.x_Kept,d.x_NoPlan,d.x_TooMany])) rfl T.b7 (by decide +kernel) (aj (pv 0) (aj (bK (aj (lO rfl Z.g_NoSet) (aj (lO rfl Z.g_NoBench) (aj (lO rfl Z.g_NoPicture) (aj (lO rfl Z.g_NoStack) (aj (lO rfl Z.g_Kept) (aj (lO rfl Z.g_NoPlan) (aj (lO rfl Z.g_TooMany) aB)))))))) aB))))
    (aK (bc km))
    cz)
   (aK (bc (bD (yZ (Ts:=[d.x_NoName,d.x_Twice,d.x_Order,d.x_Wrong,d.x_NoStroke,d.x_NoRow])) rfl T.b7 (by decide +kernel) (aj (pv 0) (aj (bK (aj (lO rfl Z.g_NoName) (aj (lO rfl Z.g_Twice) (aj (lO rfl Z.g_Order) (aj (lO rfl Z.g_Wrong) (aj (lO rfl Z.g_NoStroke) (aj (lO rfl Z.g_NoRow) aB))))))) aB)))))),cu (b:=j5) (k:=1) (n:=0) rfl (λps r e=>match ps,e with|[_],e=>⟨rfl,e⟩) h λio H0 F0 hio=>?_⟩
 exact(aN (dz (eX (Im (Ts:=[d.x_NoSet,d.x_NoBench,d.x_NoPicture,d.x_NoStack,d.x_Kept,d.x_NoPlan,d.x_TooMany]) (Vj Z) Z.not0 (by rw[sizeLine_eq];simp) (λ_ _ _ h=>h) (bA 0)))
    (bG kJ)
    cA)
   (bG (Im (Ts:=[d.x_NoName,d.x_Twice,d.x_Order,d.x_Wrong,d.x_NoStroke,d.x_NoRow]) (Vk Z) Z.not1 (by rw[sizeLine_eq];simp) (λ_ _ _ h=>h) (bA 0))))
theorem nj:bw ["_law_script","_law_bench_here","_law_size_here","_law_many","_law_plan_here","_law_due","_law_handed","_law_error","e"] ["_law_script"] (aG (top 69)):=⟨rfl,rfl,rfl,by decide +kernel,rfl,by decide +kernel,by decide +kernel⟩
theorem Vl(T:Txt mg){f:Addr}{fd:FuncData}(F:Fun K "law" "law" (top 69) f fd){d:Ads}(Z:Xt K mg d)(By:FnAt P w K mg base "_law_bench" 3 ["_law_script"] (spM K XR0 iT))(Fe:FnAt P w K mg base "_law_size" 2 ["_law_cell"] (spM K XR0 jF))(gB:FnAt P w K mg base "_law_cell_at" 1 ["_law_script","_law_k"] (spM K XR0 cX))(yt:FnAt P w K mg base "_law_spoilt" 2 ["_law_plan_here","_law_size_here","_law_many","_law_cell"] (spO K XR0 gQ))(Ff:FnAt P w K mg base "_law_plan" 2 ["_law_script","_law_size_here","_law_many"] (spO K XR0 jG))(BJ:FnAt P w K mg base "_law_fault" 3 ["_law_plan_here","_law_size_here","_law_many"] (spM K XR0 iZ))(Fg:xf P w K mg base "unlike_at" 6 ["bench","picture","plan"] (spM K (XRS K) jD))(BK:FnAt P w K mg base "_law_other" 1 ["_law_error"] (spM K XR0 jb)):sV P w K mg base CX0 7 f fd ["_law_script"] (spM K XR0 zj):=by
 refine F.ok nj (λvs H Q E h=>cg h λps r e=>match ps,e with|[_],_=>rfl) (λcdv A outer s H vs Q E hr h=>?_)
 refine⟨_,(aC (aW (i:=1) nj.nd rfl (Or.inr rfl) (aR By (hr.mono (by decide)) rfl (aj (pv 0) aB)))
   (aC (aW (i:=2) nj.nd rfl (Or.inr rfl) (aR Fe (hr.mono (by decide)) rfl (aj (aR gB (hr.mono (by decide)) rfl (aj (pv 0) (aj aq aB))) aB)))
   (aC (aW (i:=3) nj.nd rfl (Or.inl rfl) (bD cP rfl T.iw (by decide +kernel) (aj (aP aM (pv 1) aq (λ_ _=>rfl)) aB)))
   (aC (aW (i:=4) nj.nd rfl (Or.inl rfl) (aR yt (hr.mono (by decide)) rfl (aj (aR Ff (hr.mono (by decide)) rfl (aj (pv 0) (aj (pv 2) (aj (pv 3) aB)))) (aj (pv 2) (aj (pv 3) (aj (aR gB (hr.mono (by decide)) rfl (aj (pv 0) (aj aq aB))) aB))))))
   (aC (aW (i:=5) nj.nd rfl (Or.inl rfl) (aR BJ (hr.mono (by decide)) rfl (aj (pv 4) (aj (pv 2) (aj (pv 3) aB)))))
   (aC (aW (i:=6) nj.nd rfl (Or.inl rfl) (jf tW rfl T.OD (by decide +kernel) (aj (pv 4) aB)))
   (aC (aW (i:=7) nj.nd rfl (Or.inl rfl) qp)
   (aC (Uv rfl rfl (JZ (JX Fg (hr.mono (by decide)) rfl (aj (pv 1) (aj (iz ["_law_row","_law_size_here","_law_bench_here"] [none,some 2,some 1] rfl (eV rfl T.gG (aj (aP aM (pv 2) aq (λ_ _=>rfl)) aB)) (λ_ _ _ _ _=>(fG (i:=0) (by decide +kernel) rfl rfl)) (λ_ _ _ _ _=>mO) (λ_ _ _ _ _=>(aO TX (dD (aj (aP jo (pvf 2) aq (λ_ _=>rfl)) aB)) (aP jo (pvf 1) aq (λ_ _=>rfl))))) (aj (pv 6) aB)))))
    (Wv rfl Z.g_BlockError Z.ca_BlockError nj.nd (i:=8) rfl rfl (λ_=>(aK (aW (i:=7) nj.nd rfl (Or.inl rfl) (pv 8)))) Uu))
   (aC (dw (bL (oH hr) (pv 6) (pv 4) (bO _))
    (aK (bc km))
    cz)
   (aC (dw (bL K5 (pv 5) qp (bO _))
    (aK (bc (iy K5 (pv 7) qp (bO _))))
    cz)
   (aC (dw (PW.pt (nq (gJ (eU (bD (Dr (T:=.ref d.x_NoDeed) (Tv:=.ref d.x_NoDeed) rfl (λ_ h=>h)) rfl T.b7 (by decide +kernel) (aj (pv 7) (aj (lO rfl Z.g_NoDeed) aB))))) (nq (gJ (eU (bD (Dr (T:=.ty "ValueError") (Tv:=.type "ValueError") rfl (λ_ h=>h)) rfl T.b7 (by decide +kernel) (aj (pv 7) (aj (nu rfl T.Bv (n:="ValueError") (by decide +kernel)) aB))))) (mJ (eU (aR BK (hr.mono (by decide)) rfl (aj (pv 7) aB)))))))
    (aK (bc km))
    cz)
   (aK (bc (mK (bD fH rfl T.b7 (by decide +kernel) (aj (xg K rfl (pv 7) rfl) (aj (nu rfl T.Ji (n:="int") (by decide +kernel)) aB))) (mK (Fj (bD fH rfl T.b7 (by decide +kernel) (aj (xg K rfl (pv 7) rfl) (aj (nu rfl T.Hi (n:="bool") (by decide +kernel)) aB)))) (qt (iy (dY hr) (xg K rfl (pv 7) rfl) (pv 5) (bO _)))))))))))))))))),cu (b:=IW) (k:=1) (n:=8) rfl (λps r e=>match ps,e with|[_],e=>⟨rfl,e⟩) h λio H0 F0 hio=>?_⟩
 exact(aN (bz (bV (ak (ao 0) aJ)) (aL 1))
   (aN (bz (bV (ak (bV (ak (ao 0) (ak au aJ))) aJ)) (aL 2))
   (aN (bz (dB ig (bj (aA aF.up bu (ao 1) au))) (aL 3))
   (aN (bz (cL (gV (ak (cL (gV (ak (ao 0) (ak (ao 2) (ak (ao 3) aJ))))) (ak (ao 2) (ak (ao 3) (ak (bV (ak (ao 0) (ak au aJ))) aJ)))))) (aL 4))
   (aN (bz (bV (ak (ao 4) (ak (ao 2) (ak (ao 3) aJ)))) (aL 5))
   (aN (bz (cL (Ge Mp (dO 4))) (aL 6))
   (aN (bz qx (aL 7))
   (aN (Ux (Nb (M9 (ak (ao 1) (ak (cL (jX (iD (ak (aA aF.up bu (ao 2) au) aJ)) (aL 0) (gY 0) mW (cL (Uj (dG (ak (aA aF.up bu (ao 2) au) aJ)) (aA aF.up bu (ao 1) au))))) (ak (ao 6) aJ)))))
    (Wy Z.n_BlockError (uY Z) (bz (ao 8) (aL 7)) Uy))
   (aN (dz (bI (aA aH.up zY (bA 6) (bA 4)))
    (bG kJ)
    cA)
   (aN (dz (bI (aA aH.up Su (bA 5) qx))
    (bG (aA aH.up Su (bA 7) qx))
    cA)
   (aN (dz (nC (gK (eX (Nq (T:=.ref d.x_NoDeed) (Bf Z) Z.no_NoDeed (bA 7)))) (nC (gK (eX (Nq (T:=.ty "ValueError") (uZ Z) Z.nob_ValueError (bA 7)))) (eX (bV (ak (ao 7) aJ)))))
    (bG kJ)
    cA)
   (bG (mQ (jL aH.up vC (bj (Ae (xW Z) (ao 7))) pN) (mQ (FW (jL aH.up vC (bj (Ae (xW Z) (ao 7))) pN)) (aA aH.up lF (bj (Ae (xW Z) (ao 7))) (bA 5))))))))))))))))
end
theorem Vm{l:PySem.W.OpenLaw}{w:World}{K:PySem.W.Frag}{h:Heap}{mg:Str->Option Value}{fa f0 f1 f2 f3 f4 f5 f6 f7 f8 f9 f10 f11 f12 f13 f14 f15 f16 f17 f18 f19 f20 f21 f22 f23 f24 f25 f26 f27 f28 f29 f30 f31 f32 f33 f34 f35 f36 f37 f38 f39 f40:Addr}(X:K.In h)(G:h.Ns mainGlobals mg)(hfa:mg "law"=some (.ref fa))
  {od0 an0 od1 an1 od2 an2 od3 an3 od4 an4 od5 an5 od6 an6 od7 an7 od8 an8 od9 an9 od10 an10 od11 an11 od12 an12 od13 an13 od14 an14 od15 an15 od16 an16 od17 an17 od18 an18 od19 an19 od20 an20 od21 an21 od22 an22 od23 an23 od24 an24 od25 an25 od26 an26 od27 an27 od28 an28 od29 an29 od30 an30 od31 an31 od32 an32 od33 an33 od34 an34 od35 an35 od36 an36 od37 an37 od38 an38 od39 an39 od40 an40:Option Addr}{sl0 sl1 sl2 sl3 sl4 sl5 sl6 sl7 sl8 sl9 sl10 sl11 sl12 sl13 sl14 sl15 sl16 sl17 sl18 sl19 sl20 sl21 sl22 sl23 sl24 sl25 sl26 sl27 sl28 sl29 sl30 sl31 sl32 sl33 sl34 sl35 sl36 sl37 sl38 sl39 sl40:Array (Option Value)}{oc0 kV0 dc0 pm0 cd0 ct0 oc1 kV1 dc1 pm1 cd1 ct1 oc2 kV2 dc2 pm2 cd2 ct2 oc3 kV3 dc3 pm3 cd3 ct3 oc4 kV4 dc4 pm4 cd4 ct4 oc5 kV5 dc5 pm5 cd5 ct5 oc6 kV6 dc6 pm6 cd6 ct6 oc7 kV7 dc7 pm7 cd7 ct7 oc8 kV8 dc8 pm8 cd8 ct8 oc9 kV9 dc9 pm9 cd9 ct9 oc10 kV10 dc10 pm10 cd10 ct10 oc11 kV11 dc11 pm11 cd11 ct11 oc12 kV12 dc12 pm12 cd12 ct12 oc13 kV13 dc13 pm13 cd13 ct13 oc14 kV14 dc14 pm14 cd14 ct14 oc15 kV15 dc15 pm15 cd15 ct15 oc16 kV16 dc16 pm16 cd16 ct16 oc17 kV17 dc17 pm17 cd17 ct17 oc18 kV18 dc18 pm18 cd18 ct18 oc19 kV19 dc19 pm19 cd19 ct19 oc20 kV20 dc20 pm20 cd20 ct20 oc21 kV21 dc21 pm21 cd21 ct21 oc22 kV22 dc22 pm22 cd22 ct22 oc23 kV23 dc23 pm23 cd23 ct23 oc24 kV24 dc24 pm24 cd24 ct24 oc25 kV25 dc25 pm25 cd25 ct25 oc26 kV26 dc26 pm26 cd26 ct26 oc27 kV27 dc27 pm27 cd27 ct27 oc28 kV28 dc28 pm28 cd28 ct28 oc29 kV29 dc29 pm29 cd29 ct29 oc30 kV30 dc30 pm30 cd30 ct30 oc31 kV31 dc31 pm31 cd31 ct31 oc32 kV32 dc32 pm32 cd32 ct32 oc33 kV33 dc33 pm33 cd33 ct33 oc34 kV34 dc34 pm34 cd34 ct34 oc35 kV35 dc35 pm35 cd35 ct35 oc36 kV36 dc36 pm36 cd36 ct36 oc37 kV37 dc37 pm37 cd37 ct37 oc38 kV38 dc38 pm38 cd38 ct38 oc39 kV39 dc39 pm39 cd39 ct39 oc40 kV40 dc40 pm40 cd40 ct40:Value}{t_COLUMN t_COVER t_CUT t_PRINT t_ROW:Tok}
  (a0:nsIn K mainGlobals "is_whole"=some (some (.ref f0)))(l0:K.lookup f0=some ⟨oc0,od0,.func (fnOf "is_whole" "is_whole" (bx (top 17)) (bh (top 17)) (aG (top 17)) .none kV0 dc0 pm0 an0 cd0 ct0),sl0⟩)(c0:codeIn K cd0 "is_whole"=true)(k0:keepIn K (.ref f0)=true)
  (a1:nsIn K mainGlobals "place_of"=some (some (.ref f1)))(l1:K.lookup f1=some ⟨oc1,od1,.func (fnOf "place_of" "place_of" (bx (top 18)) (bh (top 18)) (aG (top 18)) .none kV1 dc1 pm1 an1 cd1 ct1),sl1⟩)(c1:codeIn K cd1 "place_of"=true)(k1:keepIn K (.ref f1)=true)
  (a2:nsIn K mainGlobals "has_cell"=some (some (.ref f2)))(l2:K.lookup f2=some ⟨oc2,od2,.func (fnOf "has_cell" "has_cell" (bx (top 19)) (bh (top 19)) (aG (top 19)) .none kV2 dc2 pm2 an2 cd2 ct2),sl2⟩)(c2:codeIn K cd2 "has_cell"=true)(k2:keepIn K (.ref f2)=true)
  (a3:nsIn K mainGlobals "all_of"=some (some (.ref f3)))(l3:K.lookup f3=some ⟨oc3,od3,.func (fnOf "all_of" "all_of" (bx (top 20)) (bh (top 20)) (aG (top 20)) .none kV3 dc3 pm3 an3 cd3 ct3),sl3⟩)(c3:codeIn K cd3 "all_of"=true)(k3:keepIn K (.ref f3)=true)
  (a4:nsIn K mainGlobals "set_of"=some (some (.ref f4)))(l4:K.lookup f4=some ⟨oc4,od4,.func (fnOf "set_of" "set_of" (bx (top 21)) (bh (top 21)) (aG (top 21)) .none kV4 dc4 pm4 an4 cd4 ct4),sl4⟩)(c4:codeIn K cd4 "set_of"=true)(k4:keepIn K (.ref f4)=true)
  (a5:nsIn K mainGlobals "size_of"=some (some (.ref f5)))(l5:K.lookup f5=some ⟨oc5,od5,.func (fnOf "size_of" "size_of" (bx (top 23)) (bh (top 23)) (aG (top 23)) .none kV5 dc5 pm5 an5 cd5 ct5),sl5⟩)(c5:codeIn K cd5 "size_of"=true)(k5:keepIn K (.ref f5)=true)
  (a6:nsIn K mainGlobals "is_stroke"=some (some (.ref f6)))(l6:K.lookup f6=some ⟨oc6,od6,.func (fnOf "is_stroke" "is_stroke" (bx (top 27)) (bh (top 27)) (aG (top 27)) .none kV6 dc6 pm6 an6 cd6 ct6),sl6⟩)(c6:codeIn K cd6 "is_stroke"=true)(k6:keepIn K (.ref f6)=true)
  (a7:nsIn K mainGlobals "lines_of"=some (some (.ref f7)))(l7:K.lookup f7=some ⟨oc7,od7,.func (fnOf "lines_of" "lines_of" (bx (top 28)) (bh (top 28)) (aG (top 28)) .none kV7 dc7 pm7 an7 cd7 ct7),sl7⟩)(c7:codeIn K cd7 "lines_of"=true)(k7:keepIn K (.ref f7)=true)
  (a8:nsIn K mainGlobals "length_of"=some (some (.ref f8)))(l8:K.lookup f8=some ⟨oc8,od8,.func (fnOf "length_of" "length_of" (bx (top 29)) (bh (top 29)) (aG (top 29)) .none kV8 dc8 pm8 an8 cd8 ct8),sl8⟩)(c8:codeIn K cd8 "length_of"=true)(k8:keepIn K (.ref f8)=true)
  (a9:nsIn K mainGlobals "lies_on"=some (some (.ref f9)))(l9:K.lookup f9=some ⟨oc9,od9,.func (fnOf "lies_on" "lies_on" (bx (top 30)) (bh (top 30)) (aG (top 30)) .none kV9 dc9 pm9 an9 cd9 ct9),sl9⟩)(c9:codeIn K cd9 "lies_on"=true)(k9:keepIn K (.ref f9)=true)
  (a10:nsIn K mainGlobals "stroke_cells"=some (some (.ref f10)))(l10:K.lookup f10=some ⟨oc10,od10,.func (fnOf "stroke_cells" "stroke_cells" (bx (top 31)) (bh (top 31)) (aG (top 31)) .none kV10 dc10 pm10 an10 cd10 ct10),sl10⟩)(c10:codeIn K cd10 "stroke_cells"=true)(k10:keepIn K (.ref f10)=true)
  (a11:nsIn K mainGlobals "cells_cut"=some (some (.ref f11)))(l11:K.lookup f11=some ⟨oc11,od11,.func (fnOf "cells_cut" "cells_cut" (bx (top 32)) (bh (top 32)) (aG (top 32)) .none kV11 dc11 pm11 an11 cd11 ct11),sl11⟩)(c11:codeIn K cd11 "cells_cut"=true)(k11:keepIn K (.ref f11)=true)
  (a12:nsIn K mainGlobals "is_number"=some (some (.ref f12)))(l12:K.lookup f12=some ⟨oc12,od12,.func (fnOf "is_number" "is_number" (bx (top 36)) (bh (top 36)) (aG (top 36)) .none kV12 dc12 pm12 an12 cd12 ct12),sl12⟩)(c12:codeIn K cd12 "is_number"=true)(k12:keepIn K (.ref f12)=true)
  (a13:nsIn K mainGlobals "is_deed"=some (some (.ref f13)))(l13:K.lookup f13=some ⟨oc13,od13,.func (fnOf "is_deed" "is_deed" (bx (top 37)) (bh (top 37)) (aG (top 37)) .none kV13 dc13 pm13 an13 cd13 ct13),sl13⟩)(c13:codeIn K cd13 "is_deed"=true)(k13:keepIn K (.ref f13)=true)
  (a14:nsIn K mainGlobals "can_follow"=some (some (.ref f14)))(l14:K.lookup f14=some ⟨oc14,od14,.func (fnOf "can_follow" "can_follow" (bx (top 38)) (bh (top 38)) (aG (top 38)) .none kV14 dc14 pm14 an14 cd14 ct14),sl14⟩)(c14:codeIn K cd14 "can_follow"=true)(k14:keepIn K (.ref f14)=true)
  (a15:nsIn K mainGlobals "replayed_with"=some (some (.ref f15)))(l15:K.lookup f15=some ⟨oc15,od15,.func (fnOf "replayed_with" "replayed_with" (bx (top 39)) (bh (top 39)) (aG (top 39)) .none kV15 dc15 pm15 an15 cd15 ct15),sl15⟩)(c15:codeIn K cd15 "replayed_with"=true)(k15:keepIn K (.ref f15)=true)
  (a16:nsIn K mainGlobals "laid"=some (some (.ref f16)))(l16:K.lookup f16=some ⟨oc16,od16,.func (fnOf "laid" "laid" (bx (top 42)) (bh (top 42)) (aG (top 42)) .none kV16 dc16 pm16 an16 cd16 ct16),sl16⟩)(c16:codeIn K cd16 "laid"=true)(k16:keepIn K (.ref f16)=true)
  (a17:nsIn K mainGlobals "colour_of"=some (some (.ref f17)))(l17:K.lookup f17=some ⟨oc17,od17,.func (fnOf "colour_of" "colour_of" (bx (top 43)) (bh (top 43)) (aG (top 43)) .none kV17 dc17 pm17 an17 cd17 ct17),sl17⟩)(c17:codeIn K cd17 "colour_of"=true)(k17:keepIn K (.ref f17)=true)
  (a18:nsIn K mainGlobals "stack_at"=some (some (.ref f18)))(l18:K.lookup f18=some ⟨oc18,od18,.func (fnOf "stack_at" "stack_at" (bx (top 45)) (bh (top 45)) (aG (top 45)) .none kV18 dc18 pm18 an18 cd18 ct18),sl18⟩)(c18:codeIn K cd18 "stack_at"=true)(k18:keepIn K (.ref f18)=true)
  (a19:nsIn K mainGlobals "pressed_row"=some (some (.ref f19)))(l19:K.lookup f19=some ⟨oc19,od19,.func (fnOf "pressed_row" "pressed_row" (bx (top 46)) (bh (top 46)) (aG (top 46)) .none kV19 dc19 pm19 an19 cd19 ct19),sl19⟩)(c19:codeIn K cd19 "pressed_row"=true)(k19:keepIn K (.ref f19)=true)
  (a20:nsIn K mainGlobals "pressed"=some (some (.ref f20)))(l20:K.lookup f20=some ⟨oc20,od20,.func (fnOf "pressed" "pressed" (bx (top 47)) (bh (top 47)) (aG (top 47)) .none kV20 dc20 pm20 an20 cd20 ct20),sl20⟩)(c20:codeIn K cd20 "pressed"=true)(k20:keepIn K (.ref f20)=true)
  (a21:nsIn K mainGlobals "states_printed"=some (some (.ref f21)))(l21:K.lookup f21=some ⟨oc21,od21,.func (fnOf "states_printed" "states_printed" (bx (top 49)) (bh (top 49)) (aG (top 49)) .none kV21 dc21 pm21 an21 cd21 ct21),sl21⟩)(c21:codeIn K cd21 "states_printed"=true)(k21:keepIn K (.ref f21)=true)
  (a22:nsIn K mainGlobals "first_unlike"=some (some (.ref f22)))(l22:K.lookup f22=some ⟨oc22,od22,.func (fnOf "first_unlike" "first_unlike" (bx (top 50)) (bh (top 50)) (aG (top 50)) .none kV22 dc22 pm22 an22 cd22 ct22),sl22⟩)(c22:codeIn K cd22 "first_unlike"=true)(k22:keepIn K (.ref f22)=true)
  (a23:nsIn K mainGlobals "unlike_at"=some (some (.ref f23)))(l23:K.lookup f23=some ⟨oc23,od23,.func (fnOf "unlike_at" "unlike_at" (bx (top 51)) (bh (top 51)) (aG (top 51)) .none kV23 dc23 pm23 an23 cd23 ct23),sl23⟩)(c23:codeIn K cd23 "unlike_at"=true)(k23:keepIn K (.ref f23)=true)
  (a24:nsIn K mainGlobals "_law_cell_at"=some (some (.ref f24)))(l24:K.lookup f24=some ⟨oc24,od24,.func (fnOf "_law_cell_at" "_law_cell_at" (bx (top 53)) (bh (top 53)) (aG (top 53)) .none kV24 dc24 pm24 an24 cd24 ct24),sl24⟩)(c24:codeIn K cd24 "_law_cell_at"=true)(k24:keepIn K (.ref f24)=true)
  (a25:nsIn K mainGlobals "_law_window"=some (some (.ref f25)))(l25:K.lookup f25=some ⟨oc25,od25,.func (fnOf "_law_window" "_law_window" (bx (top 54)) (bh (top 54)) (aG (top 54)) .none kV25 dc25 pm25 an25 cd25 ct25),sl25⟩)(c25:codeIn K cd25 "_law_window"=true)(k25:keepIn K (.ref f25)=true)
  (a26:nsIn K mainGlobals "_law_stream"=some (some (.ref f26)))(l26:K.lookup f26=some ⟨oc26,od26,.func (fnOf "_law_stream" "_law_stream" (bx (top 55)) (bh (top 55)) (aG (top 55)) .none kV26 dc26 pm26 an26 cd26 ct26),sl26⟩)(c26:codeIn K cd26 "_law_stream"=true)(k26:keepIn K (.ref f26)=true)
  (a27:nsIn K mainGlobals "_law_words"=some (some (.ref f27)))(l27:K.lookup f27=some ⟨oc27,od27,.func (fnOf "_law_words" "_law_words" (bx (top 56)) (bh (top 56)) (aG (top 56)) .none kV27 dc27 pm27 an27 cd27 ct27),sl27⟩)(c27:codeIn K cd27 "_law_words"=true)(k27:keepIn K (.ref f27)=true)
  (a28:nsIn K mainGlobals "_law_pair"=some (some (.ref f28)))(l28:K.lookup f28=some ⟨oc28,od28,.func (fnOf "_law_pair" "_law_pair" (bx (top 57)) (bh (top 57)) (aG (top 57)) .none kV28 dc28 pm28 an28 cd28 ct28),sl28⟩)(c28:codeIn K cd28 "_law_pair"=true)(k28:keepIn K (.ref f28)=true)
  (a29:nsIn K mainGlobals "_law_ink"=some (some (.ref f29)))(l29:K.lookup f29=some ⟨oc29,od29,.func (fnOf "_law_ink" "_law_ink" (bx (top 58)) (bh (top 58)) (aG (top 58)) .none kV29 dc29 pm29 an29 cd29 ct29),sl29⟩)(c29:codeIn K cd29 "_law_ink"=true)(k29:keepIn K (.ref f29)=true)
  (a30:nsIn K mainGlobals "_law_bench"=some (some (.ref f30)))(l30:K.lookup f30=some ⟨oc30,od30,.func (fnOf "_law_bench" "_law_bench" (bx (top 59)) (bh (top 59)) (aG (top 59)) .none kV30 dc30 pm30 an30 cd30 ct30),sl30⟩)(c30:codeIn K cd30 "_law_bench"=true)(k30:keepIn K (.ref f30)=true)
  (a31:nsIn K mainGlobals "_law_size"=some (some (.ref f31)))(l31:K.lookup f31=some ⟨oc31,od31,.func (fnOf "_law_size" "_law_size" (bx (top 60)) (bh (top 60)) (aG (top 60)) .none kV31 dc31 pm31 an31 cd31 ct31),sl31⟩)(c31:codeIn K cd31 "_law_size"=true)(k31:keepIn K (.ref f31)=true)
  (a32:nsIn K mainGlobals "_law_stroke"=some (some (.ref f32)))(l32:K.lookup f32=some ⟨oc32,od32,.func (fnOf "_law_stroke" "_law_stroke" (bx (top 61)) (bh (top 61)) (aG (top 61)) .none kV32 dc32 pm32 an32 cd32 ct32),sl32⟩)(c32:codeIn K cd32 "_law_stroke"=true)(k32:keepIn K (.ref f32)=true)
  (a33:nsIn K mainGlobals "_law_plan"=some (some (.ref f33)))(l33:K.lookup f33=some ⟨oc33,od33,.func (fnOf "_law_plan" "_law_plan" (bx (top 62)) (bh (top 62)) (aG (top 62)) .none kV33 dc33 pm33 an33 cd33 ct33),sl33⟩)(c33:codeIn K cd33 "_law_plan"=true)(k33:keepIn K (.ref f33)=true)
  (a34:nsIn K mainGlobals "_law_odd"=some (some (.ref f34)))(l34:K.lookup f34=some ⟨oc34,od34,.func (fnOf "_law_odd" "_law_odd" (bx (top 63)) (bh (top 63)) (aG (top 63)) .none kV34 dc34 pm34 an34 cd34 ct34),sl34⟩)(c34:codeIn K cd34 "_law_odd"=true)(k34:keepIn K (.ref f34)=true)
  (a35:nsIn K mainGlobals "_law_spoilt"=some (some (.ref f35)))(l35:K.lookup f35=some ⟨oc35,od35,.func (fnOf "_law_spoilt" "_law_spoilt" (bx (top 64)) (bh (top 64)) (aG (top 64)) .none kV35 dc35 pm35 an35 cd35 ct35),sl35⟩)(c35:codeIn K cd35 "_law_spoilt"=true)(k35:keepIn K (.ref f35)=true)
  (a36:nsIn K mainGlobals "_law_number"=some (some (.ref f36)))(l36:K.lookup f36=some ⟨oc36,od36,.func (fnOf "_law_number" "_law_number" (bx (top 65)) (bh (top 65)) (aG (top 65)) .none kV36 dc36 pm36 an36 cd36 ct36),sl36⟩)(c36:codeIn K cd36 "_law_number"=true)(k36:keepIn K (.ref f36)=true)
  (a37:nsIn K mainGlobals "_law_on"=some (some (.ref f37)))(l37:K.lookup f37=some ⟨oc37,od37,.func (fnOf "_law_on" "_law_on" (bx (top 66)) (bh (top 66)) (aG (top 66)) .none kV37 dc37 pm37 an37 cd37 ct37),sl37⟩)(c37:codeIn K cd37 "_law_on"=true)(k37:keepIn K (.ref f37)=true)
  (a38:nsIn K mainGlobals "_law_fault"=some (some (.ref f38)))(l38:K.lookup f38=some ⟨oc38,od38,.func (fnOf "_law_fault" "_law_fault" (bx (top 67)) (bh (top 67)) (aG (top 67)) .none kV38 dc38 pm38 an38 cd38 ct38),sl38⟩)(c38:codeIn K cd38 "_law_fault"=true)(k38:keepIn K (.ref f38)=true)
  (a39:nsIn K mainGlobals "_law_other"=some (some (.ref f39)))(l39:K.lookup f39=some ⟨oc39,od39,.func (fnOf "_law_other" "_law_other" (bx (top 68)) (bh (top 68)) (aG (top 68)) .none kV39 dc39 pm39 an39 cd39 ct39),sl39⟩)(c39:codeIn K cd39 "_law_other"=true)(k39:keepIn K (.ref f39)=true)
  (a40:nsIn K mainGlobals "law"=some (some (.ref f40)))(l40:K.lookup f40=some ⟨oc40,od40,.func (fnOf "law" "law" (bx (top 69)) (bh (top 69)) (aG (top 69)) .none kV40 dc40 pm40 an40 cd40 ct40),sl40⟩)(c40:codeIn K cd40 "law"=true)(k40:keepIn K (.ref f40)=true)
  {x_NoDeed x_NoSet x_NoBench x_NoPicture x_NoStack x_Kept x_NoPlan x_TooMany x_NoName x_Twice x_Order x_Wrong x_NoStroke x_NoRow x_BlockError uG:Addr}
  {dd_NoDeed iod_NoDeed ian_NoDeed:Option Addr}{cd_NoDeed:ClassData}{k0_NoDeed k1_NoDeed k2_NoDeed k3_NoDeed k5_NoDeed:Option Value}{bm_NoDeed:List Value}{isl_NoDeed:Array (Option Value)}{ioc_NoDeed ikV_NoDeed idc_NoDeed ipm_NoDeed icd_NoDeed ict_NoDeed:Value}
  {qoc_Kept:Value}{qod_Kept:Option Addr}{qcd_Kept:ClassData}{qsl_Kept:Array (Option Value)}
  {qoc_NoBench:Value}{qod_NoBench:Option Addr}{qcd_NoBench:ClassData}{qsl_NoBench:Array (Option Value)}
  {qoc_NoDeed:Value}{qod_NoDeed:Option Addr}{qcd_NoDeed:ClassData}{qsl_NoDeed:Array (Option Value)}
  {qoc_NoName:Value}{qod_NoName:Option Addr}{qcd_NoName:ClassData}{qsl_NoName:Array (Option Value)}
  {qoc_NoPicture:Value}{qod_NoPicture:Option Addr}{qcd_NoPicture:ClassData}{qsl_NoPicture:Array (Option Value)}
  {qoc_NoPlan:Value}{qod_NoPlan:Option Addr}{qcd_NoPlan:ClassData}{qsl_NoPlan:Array (Option Value)}
  {qoc_NoRow:Value}{qod_NoRow:Option Addr}{qcd_NoRow:ClassData}{qsl_NoRow:Array (Option Value)}
  {qoc_NoSet:Value}{qod_NoSet:Option Addr}{qcd_NoSet:ClassData}{qsl_NoSet:Array (Option Value)}
  {qoc_NoStack:Value}{qod_NoStack:Option Addr}{qcd_NoStack:ClassData}{qsl_NoStack:Array (Option Value)}
  {qoc_NoStroke:Value}{qod_NoStroke:Option Addr}{qcd_NoStroke:ClassData}{qsl_NoStroke:Array (Option Value)}
  {qoc_Order:Value}{qod_Order:Option Addr}{qcd_Order:ClassData}{qsl_Order:Array (Option Value)}
  {qoc_TooMany:Value}{qod_TooMany:Option Addr}{qcd_TooMany:ClassData}{qsl_TooMany:Array (Option Value)}
  {qoc_Twice:Value}{qod_Twice:Option Addr}{qcd_Twice:ClassData}{qsl_Twice:Array (Option Value)}
  {qoc_Wrong:Value}{qod_Wrong:Option Addr}{qcd_Wrong:ClassData}{qsl_Wrong:Array (Option Value)}
  {toc_BlockError:Value}{tod_BlockError:Option Addr}{tcd_BlockError:ClassData}{tsl_BlockError:Array (Option Value)}
  (pI:nsIn K mainGlobals "ValueError"=some none)(O3:nsIn K mainGlobals "all"=some none)(Ho:nsIn K mainGlobals "bool"=some none)(Hq:nsIn K mainGlobals "dict"=some none)(rE:nsIn K mainGlobals "enumerate"=some none)(O4:nsIn K mainGlobals "int"=some none)(pJ:nsIn K mainGlobals "isinstance"=some none)(O5:nsIn K mainGlobals "len"=some none)(Hr:nsIn K mainGlobals "list"=some none)(BL:nsIn K mainGlobals "range"=some none)(O6:nsIn K mainGlobals "str"=some none)(BP:nsIn K mainGlobals "tuple"=some none)(yd:nsIn K mainGlobals "COLUMN"=some (some (.str "column" t_COLUMN)))(BR:nsIn K mainGlobals "COVER"=some (some (.str "cover" t_COVER)))(O7:nsIn K mainGlobals "CUT"=some (some (.str "cut" t_CUT)))(BV:nsIn K mainGlobals "PRINT"=some (some (.str "print" t_PRINT)))(O8:nsIn K mainGlobals "ROW"=some (some (.str "row" t_ROW)))(nx_NoDeed:nsIn K mainGlobals "NoDeed"=some (some (.ref x_NoDeed)))(nx_NoSet:nsIn K mainGlobals "NoSet"=some (some (.ref x_NoSet)))(nx_NoBench:nsIn K mainGlobals "NoBench"=some (some (.ref x_NoBench)))(nx_NoPicture:nsIn K mainGlobals "NoPicture"=some (some (.ref x_NoPicture)))(nx_NoStack:nsIn K mainGlobals "NoStack"=some (some (.ref x_NoStack)))(nx_Kept:nsIn K mainGlobals "Kept"=some (some (.ref x_Kept)))(nx_NoPlan:nsIn K mainGlobals "NoPlan"=some (some (.ref x_NoPlan)))(nx_TooMany:nsIn K mainGlobals "TooMany"=some (some (.ref x_TooMany)))(nx_NoName:nsIn K mainGlobals "NoName"=some (some (.ref x_NoName)))(nx_Twice:nsIn K mainGlobals "Twice"=some (some (.ref x_Twice)))(nx_Order:nsIn K mainGlobals "Order"=some (some (.ref x_Order)))(nx_Wrong:nsIn K mainGlobals "Wrong"=some (some (.ref x_Wrong)))(nx_NoStroke:nsIn K mainGlobals "NoStroke"=some (some (.ref x_NoStroke)))(nx_NoRow:nsIn K mainGlobals "NoRow"=some (some (.ref x_NoRow)))(nx_BlockError:nsIn K mainGlobals "BlockError"=some (some (.ref x_BlockError)))(lx_NoDeed:K.lookup x_NoDeed=some ⟨.type "type",dd_NoDeed,.cls cd_NoDeed,#[k0_NoDeed,k1_NoDeed,k2_NoDeed,k3_NoDeed,some (.builtin "ValueError.__new__"),k5_NoDeed]⟩)(h1_NoDeed:cd_NoDeed.hasDel=false)(h2_NoDeed:cd_NoDeed.hasDict=true)(h3_NoDeed:cd_NoDeed.mro=.ref x_NoDeed::bm_NoDeed)(h4_NoDeed:jh bm_NoDeed=true)(h5_NoDeed:cd_NoDeed.name="NoDeed")(sa_NoDeed:PySem.W.findIn K (.ref x_NoDeed) "__setattr__"=some (some (.builtin "object.__setattr__")))(in_NoDeed:PySem.W.findIn K (.ref x_NoDeed) "__init__"=some (some (.ref uG)))(fn_NoDeed:PySem.W.typeIn K (.ref uG)=some (.type "function"))(kp_NoDeed:keepIn K (.ref x_NoDeed)=true)(li_NoDeed:K.lookup uG=some ⟨ioc_NoDeed,iod_NoDeed,.func (fnOf "__init__" "NoDeed.__init__" (bx (inClass (top 7) 0)) (bh (inClass (top 7) 0)) (aG (inClass (top 7) 0)) .none ikV_NoDeed idc_NoDeed ipm_NoDeed ian_NoDeed icd_NoDeed ict_NoDeed),isl_NoDeed⟩)(ci_NoDeed:codeIn K icd_NoDeed "NoDeed.__init__"=true)(kj_NoDeed:keepIn K (.ref uG)=true)(xa_NoDeed:PySem.W.findIn K (.ref x_NoDeed) "__getattribute__"=some (some (.builtin "BaseException.__getattribute__")))(xg_NoDeed:PySem.W.findIn K (.ref x_NoDeed) "__getattr__"=some none)(xh_NoDeed:PySem.W.subIn K (.ref x_NoDeed) (.type "BaseException")=some true)(sf_NoDeed:PySem.W.subIn K (.ref x_NoDeed) (.ref x_NoDeed)=some true)(xb_NoDeed:PySem.W.hasDictIn K x_NoDeed=true)(xc_NoDeed:PySem.W.findIn K (.ref x_NoDeed) "__class__"=some (some (.builtin "object.__class__")))(xd_NoDeed:PySem.W.specialIn K (.builtin "object.__class__") "__get__"=some (some (.builtin "getset_descriptor.__get__")))(xe_NoDeed:PySem.W.takesIn K (.builtin "object.__class__")=some true)(xf_NoDeed:PySem.W.mroIn K x_NoDeed (.type "object")=some true)(fl_NoDeed_at:PySem.W.findIn K (.ref x_NoDeed) "at"=some none)(tl_BlockError:K.lookup x_BlockError=some ⟨toc_BlockError,tod_BlockError,.cls tcd_BlockError,tsl_BlockError⟩)(tn_BlockError:PySem.W.instIn K (.ref x_BlockError) (.type "tuple")=some false)(tb_BlockError:PySem.W.subIn K (.ref x_BlockError) (.type "BaseException")=some true)(s_NoDeed_BlockError:PySem.W.subIn K (.ref x_NoDeed) (.ref x_BlockError)=some true)(ql_Kept:K.lookup x_Kept=some ⟨qoc_Kept,qod_Kept,.cls qcd_Kept,qsl_Kept⟩)(qt_Kept:PySem.W.typeIn K (.ref x_Kept)=some (.type "type"))(qn_Kept:PySem.W.subIn K (.type "NoneType") (.ref x_Kept)=some false)(qs_NoDeed_Kept:PySem.W.subIn K (.ref x_NoDeed) (.ref x_Kept)=some false)(ql_NoBench:K.lookup x_NoBench=some ⟨qoc_NoBench,qod_NoBench,.cls qcd_NoBench,qsl_NoBench⟩)(qt_NoBench:PySem.W.typeIn K (.ref x_NoBench)=some (.type "type"))(qn_NoBench:PySem.W.subIn K (.type "NoneType") (.ref x_NoBench)=some false)(qs_NoDeed_NoBench:PySem.W.subIn K (.ref x_NoDeed) (.ref x_NoBench)=some false)(ql_NoDeed:K.lookup x_NoDeed=some ⟨qoc_NoDeed,qod_NoDeed,.cls qcd_NoDeed,qsl_NoDeed⟩)(qt_NoDeed:PySem.W.typeIn K (.ref x_NoDeed)=some (.type "type"))(qn_NoDeed:PySem.W.subIn K (.type "NoneType") (.ref x_NoDeed)=some false)(qs_NoDeed_NoDeed:PySem.W.subIn K (.ref x_NoDeed) (.ref x_NoDeed)=some true)(ql_NoName:K.lookup x_NoName=some ⟨qoc_NoName,qod_NoName,.cls qcd_NoName,qsl_NoName⟩)(qt_NoName:PySem.W.typeIn K (.ref x_NoName)=some (.type "type"))(qn_NoName:PySem.W.subIn K (.type "NoneType") (.ref x_NoName)=some false)(qs_NoDeed_NoName:PySem.W.subIn K (.ref x_NoDeed) (.ref x_NoName)=some false)(ql_NoPicture:K.lookup x_NoPicture=some ⟨qoc_NoPicture,qod_NoPicture,.cls qcd_NoPicture,qsl_NoPicture⟩)(qt_NoPicture:PySem.W.typeIn K (.ref x_NoPicture)=some (.type "type"))(qn_NoPicture:PySem.W.subIn K (.type "NoneType") (.ref x_NoPicture)=some false)(qs_NoDeed_NoPicture:PySem.W.subIn K (.ref x_NoDeed) (.ref x_NoPicture)=some false)(ql_NoPlan:K.lookup x_NoPlan=some ⟨qoc_NoPlan,qod_NoPlan,.cls qcd_NoPlan,qsl_NoPlan⟩)(qt_NoPlan:PySem.W.typeIn K (.ref x_NoPlan)=some (.type "type"))(qn_NoPlan:PySem.W.subIn K (.type "NoneType") (.ref x_NoPlan)=some false)(qs_NoDeed_NoPlan:PySem.W.subIn K (.ref x_NoDeed) (.ref x_NoPlan)=some false)(ql_NoRow:K.lookup x_NoRow=some ⟨qoc_NoRow,qod_NoRow,.cls qcd_NoRow,qsl_NoRow⟩)(qt_NoRow:PySem.W.typeIn K (.ref x_NoRow)=some (.type "type"))(qn_NoRow:PySem.W.subIn K (.type "NoneType") (.ref x_NoRow)=some false)(qs_NoDeed_NoRow:PySem.W.subIn K (.ref x_NoDeed) (.ref x_NoRow)=some false)(ql_NoSet:K.lookup x_NoSet=some ⟨qoc_NoSet,qod_NoSet,.cls qcd_NoSet,qsl_NoSet⟩)(qt_NoSet:PySem.W.typeIn K (.ref x_NoSet)=some (.type "type"))(qn_NoSet:PySem.W.subIn K (.type "NoneType") (.ref x_NoSet)=some false)(qs_NoDeed_NoSet:PySem.W.subIn K (.ref x_NoDeed) (.ref x_NoSet)=some false)(ql_NoStack:K.lookup x_NoStack=some ⟨qoc_NoStack,qod_NoStack,.cls qcd_NoStack,qsl_NoStack⟩)(qt_NoStack:PySem.W.typeIn K (.ref x_NoStack)=some (.type "type"))(qn_NoStack:PySem.W.subIn K (.type "NoneType") (.ref x_NoStack)=some false)(qs_NoDeed_NoStack:PySem.W.subIn K (.ref x_NoDeed) (.ref x_NoStack)=some false)(ql_NoStroke:K.lookup x_NoStroke=some ⟨qoc_NoStroke,qod_NoStroke,.cls qcd_NoStroke,qsl_NoStroke⟩)(qt_NoStroke:PySem.W.typeIn K (.ref x_NoStroke)=some (.type "type"))(qn_NoStroke:PySem.W.subIn K (.type "NoneType") (.ref x_NoStroke)=some false)(qs_NoDeed_NoStroke:PySem.W.subIn K (.ref x_NoDeed) (.ref x_NoStroke)=some false)(ql_Order:K.lookup x_Order=some ⟨qoc_Order,qod_Order,.cls qcd_Order,qsl_Order⟩)(qt_Order:PySem.W.typeIn K (.ref x_Order)=some (.type "type"))(qn_Order:PySem.W.subIn K (.type "NoneType") (.ref x_Order)=some false)(qs_NoDeed_Order:PySem.W.subIn K (.ref x_NoDeed) (.ref x_Order)=some false)(ql_TooMany:K.lookup x_TooMany=some ⟨qoc_TooMany,qod_TooMany,.cls qcd_TooMany,qsl_TooMany⟩)(qt_TooMany:PySem.W.typeIn K (.ref x_TooMany)=some (.type "type"))(qn_TooMany:PySem.W.subIn K (.type "NoneType") (.ref x_TooMany)=some false)(qs_NoDeed_TooMany:PySem.W.subIn K (.ref x_NoDeed) (.ref x_TooMany)=some false)(ql_Twice:K.lookup x_Twice=some ⟨qoc_Twice,qod_Twice,.cls qcd_Twice,qsl_Twice⟩)(qt_Twice:PySem.W.typeIn K (.ref x_Twice)=some (.type "type"))(qn_Twice:PySem.W.subIn K (.type "NoneType") (.ref x_Twice)=some false)(qs_NoDeed_Twice:PySem.W.subIn K (.ref x_NoDeed) (.ref x_Twice)=some false)(ql_Wrong:K.lookup x_Wrong=some ⟨qoc_Wrong,qod_Wrong,.cls qcd_Wrong,qsl_Wrong⟩)(qt_Wrong:PySem.W.typeIn K (.ref x_Wrong)=some (.type "type"))(qn_Wrong:PySem.W.subIn K (.type "NoneType") (.ref x_Wrong)=some false)(qs_NoDeed_Wrong:PySem.W.subIn K (.ref x_NoDeed) (.ref x_Wrong)=some false)(qb_NoDeed_ValueError:PySem.W.subIn K (.ref x_NoDeed) (.type "ValueError")=some true) :
  ∃ fd:FuncData,(∀ (s:Shared) (v:Value),BindsTo s fd ⟨[v],[]⟩ [("_law_script",v)])/\∀ base:Heap,K.In base->base.Ns mainGlobals mg->sV l.prog w K mg base CX0 7 fa fd ["_law_script"] (spM K XR0 zj):=by
 have e:=hfa.symm.trans (Zab X G a40);cases e;have T:Txt mg:=⟨trivial,ZaI X G pI,ZaI X G O3,ZaI X G Ho,ZaI X G Hq,ZaI X G rE,ZaI X G O4,ZaI X G pJ,ZaI X G O5,ZaI X G Hr,ZaI X G BL,ZaI X G O6,ZaI X G BP,⟨_,Zab X G yd⟩,⟨_,Zab X G BR⟩,⟨_,Zab X G O7⟩,⟨_,Zab X G BV⟩,⟨_,Zab X G O8⟩⟩;have FX_NoDeed:=bZ (st:=inClass (top 7) 0) li_NoDeed ci_NoDeed kj_NoDeed;have Y_NoDeed:=UJ lx_NoDeed h1_NoDeed h2_NoDeed h3_NoDeed h4_NoDeed sa_NoDeed in_NoDeed fn_NoDeed kp_NoDeed;have U_NoDeed:QR K mg "NoDeed" ["at"] x_NoDeed:=⟨⟨_,_,_,["self","at"],Y_NoDeed,FX_NoDeed.binds (ps:=["self","at"]) λ_ _ _ _ _ _ us hl=>by obtain⟨_,_,rfl⟩:=nH hl;rfl,λP w base=>Ef FX_NoDeed Y_NoDeed.toXCls fl_NoDeed_at⟩,UL nx_NoDeed lx_NoDeed h5_NoDeed,⟨xa_NoDeed,xg_NoDeed,xh_NoDeed,xb_NoDeed,xc_NoDeed,xd_NoDeed,xe_NoDeed,xf_NoDeed⟩,Zab X G nx_NoDeed,λf hf=>by
  simp only[ZaB,List.mem_nil_iff,or_false] at hf;rcases hf with rfl
  ·exact fl_NoDeed_at⟩
 have QN_Kept:PySem.W.kitOne K (.type "NoneType") (.ref x_Kept)=some false:=bC ⟨⟨_,_,_,_,ql_Kept⟩,qt_Kept⟩ qn_Kept (λh=>by cases h)
 have QS_NoDeed_Kept:PySem.W.kitOne K (.ref x_NoDeed) (.ref x_Kept)=some false:=bC ⟨⟨_,_,_,_,ql_Kept⟩,qt_Kept⟩ qs_NoDeed_Kept (λh=>by rw[<-ZaP h,sf_NoDeed] at qs_NoDeed_Kept;cases qs_NoDeed_Kept)
 have QN_NoBench:PySem.W.kitOne K (.type "NoneType") (.ref x_NoBench)=some false:=bC ⟨⟨_,_,_,_,ql_NoBench⟩,qt_NoBench⟩ qn_NoBench (λh=>by cases h)
 have QS_NoDeed_NoBench:PySem.W.kitOne K (.ref x_NoDeed) (.ref x_NoBench)=some false:=bC ⟨⟨_,_,_,_,ql_NoBench⟩,qt_NoBench⟩ qs_NoDeed_NoBench (λh=>by rw[<-ZaP h,sf_NoDeed] at qs_NoDeed_NoBench;cases qs_NoDeed_NoBench)
 have QN_NoDeed:PySem.W.kitOne K (.type "NoneType") (.ref x_NoDeed)=some false:=bC ⟨⟨_,_,_,_,ql_NoDeed⟩,qt_NoDeed⟩ qn_NoDeed (λh=>by cases h)
 have QS_NoDeed_NoDeed:PySem.W.kitOne K (.ref x_NoDeed) (.ref x_NoDeed)=some true:=bC ⟨⟨_,_,_,_,ql_NoDeed⟩,qt_NoDeed⟩ qs_NoDeed_NoDeed (λ_=>rfl);have QN_NoName:PySem.W.kitOne K (.type "NoneType") (.ref x_NoName)=some false:=bC ⟨⟨_,_,_,_,ql_NoName⟩,qt_NoName⟩ qn_NoName (λh=>by cases h)
 have QS_NoDeed_NoName:PySem.W.kitOne K (.ref x_NoDeed) (.ref x_NoName)=some false:=bC ⟨⟨_,_,_,_,ql_NoName⟩,qt_NoName⟩ qs_NoDeed_NoName (λh=>by rw[<-ZaP h,sf_NoDeed] at qs_NoDeed_NoName;cases qs_NoDeed_NoName)
 have QN_NoPicture:PySem.W.kitOne K (.type "NoneType") (.ref x_NoPicture)=some false:=bC ⟨⟨_,_,_,_,ql_NoPicture⟩,qt_NoPicture⟩ qn_NoPicture (λh=>by cases h)
 have QS_NoDeed_NoPicture:PySem.W.kitOne K (.ref x_NoDeed) (.ref x_NoPicture)=some false:=bC ⟨⟨_,_,_,_,ql_NoPicture⟩,qt_NoPicture⟩ qs_NoDeed_NoPicture (λh=>by rw[<-ZaP h,sf_NoDeed] at qs_NoDeed_NoPicture;cases qs_NoDeed_NoPicture)
 have QN_NoPlan:PySem.W.kitOne K (.type "NoneType") (.ref x_NoPlan)=some false:=bC ⟨⟨_,_,_,_,ql_NoPlan⟩,qt_NoPlan⟩ qn_NoPlan (λh=>by cases h)
 have QS_NoDeed_NoPlan:PySem.W.kitOne K (.ref x_NoDeed) (.ref x_NoPlan)=some false:=bC ⟨⟨_,_,_,_,ql_NoPlan⟩,qt_NoPlan⟩ qs_NoDeed_NoPlan (λh=>by rw[<-ZaP h,sf_NoDeed] at qs_NoDeed_NoPlan;cases qs_NoDeed_NoPlan)
 have QN_NoRow:PySem.W.kitOne K (.type "NoneType") (.ref x_NoRow)=some false:=bC ⟨⟨_,_,_,_,ql_NoRow⟩,qt_NoRow⟩ qn_NoRow (λh=>by cases h)
 have QS_NoDeed_NoRow:PySem.W.kitOne K (.ref x_NoDeed) (.ref x_NoRow)=some false:=bC ⟨⟨_,_,_,_,ql_NoRow⟩,qt_NoRow⟩ qs_NoDeed_NoRow (λh=>by rw[<-ZaP h,sf_NoDeed] at qs_NoDeed_NoRow;cases qs_NoDeed_NoRow)
 have QN_NoSet:PySem.W.kitOne K (.type "NoneType") (.ref x_NoSet)=some false:=bC ⟨⟨_,_,_,_,ql_NoSet⟩,qt_NoSet⟩ qn_NoSet (λh=>by cases h)
 have QS_NoDeed_NoSet:PySem.W.kitOne K (.ref x_NoDeed) (.ref x_NoSet)=some false:=bC ⟨⟨_,_,_,_,ql_NoSet⟩,qt_NoSet⟩ qs_NoDeed_NoSet (λh=>by rw[<-ZaP h,sf_NoDeed] at qs_NoDeed_NoSet;cases qs_NoDeed_NoSet)
 have QN_NoStack:PySem.W.kitOne K (.type "NoneType") (.ref x_NoStack)=some false:=bC ⟨⟨_,_,_,_,ql_NoStack⟩,qt_NoStack⟩ qn_NoStack (λh=>by cases h)
 have QS_NoDeed_NoStack:PySem.W.kitOne K (.ref x_NoDeed) (.ref x_NoStack)=some false:=bC ⟨⟨_,_,_,_,ql_NoStack⟩,qt_NoStack⟩ qs_NoDeed_NoStack (λh=>by rw[<-ZaP h,sf_NoDeed] at qs_NoDeed_NoStack;cases qs_NoDeed_NoStack)
 have QN_NoStroke:PySem.W.kitOne K (.type "NoneType") (.ref x_NoStroke)=some false:=bC ⟨⟨_,_,_,_,ql_NoStroke⟩,qt_NoStroke⟩ qn_NoStroke (λh=>by cases h)
 have QS_NoDeed_NoStroke:PySem.W.kitOne K (.ref x_NoDeed) (.ref x_NoStroke)=some false:=bC ⟨⟨_,_,_,_,ql_NoStroke⟩,qt_NoStroke⟩ qs_NoDeed_NoStroke (λh=>by rw[<-ZaP h,sf_NoDeed] at qs_NoDeed_NoStroke;cases qs_NoDeed_NoStroke)
 have QN_Order:PySem.W.kitOne K (.type "NoneType") (.ref x_Order)=some false:=bC ⟨⟨_,_,_,_,ql_Order⟩,qt_Order⟩ qn_Order (λh=>by cases h)
 have QS_NoDeed_Order:PySem.W.kitOne K (.ref x_NoDeed) (.ref x_Order)=some false:=bC ⟨⟨_,_,_,_,ql_Order⟩,qt_Order⟩ qs_NoDeed_Order (λh=>by rw[<-ZaP h,sf_NoDeed] at qs_NoDeed_Order;cases qs_NoDeed_Order)
 have QN_TooMany:PySem.W.kitOne K (.type "NoneType") (.ref x_TooMany)=some false:=bC ⟨⟨_,_,_,_,ql_TooMany⟩,qt_TooMany⟩ qn_TooMany (λh=>by cases h)
 have QS_NoDeed_TooMany:PySem.W.kitOne K (.ref x_NoDeed) (.ref x_TooMany)=some false:=bC ⟨⟨_,_,_,_,ql_TooMany⟩,qt_TooMany⟩ qs_NoDeed_TooMany (λh=>by rw[<-ZaP h,sf_NoDeed] at qs_NoDeed_TooMany;cases qs_NoDeed_TooMany)
 have QN_Twice:PySem.W.kitOne K (.type "NoneType") (.ref x_Twice)=some false:=bC ⟨⟨_,_,_,_,ql_Twice⟩,qt_Twice⟩ qn_Twice (λh=>by cases h)
 have QS_NoDeed_Twice:PySem.W.kitOne K (.ref x_NoDeed) (.ref x_Twice)=some false:=bC ⟨⟨_,_,_,_,ql_Twice⟩,qt_Twice⟩ qs_NoDeed_Twice (λh=>by rw[<-ZaP h,sf_NoDeed] at qs_NoDeed_Twice;cases qs_NoDeed_Twice)
 have QN_Wrong:PySem.W.kitOne K (.type "NoneType") (.ref x_Wrong)=some false:=bC ⟨⟨_,_,_,_,ql_Wrong⟩,qt_Wrong⟩ qn_Wrong (λh=>by cases h)
 have QS_NoDeed_Wrong:PySem.W.kitOne K (.ref x_NoDeed) (.ref x_Wrong)=some false:=bC ⟨⟨_,_,_,_,ql_Wrong⟩,qt_Wrong⟩ qs_NoDeed_Wrong (λh=>by rw[<-ZaP h,sf_NoDeed] at qs_NoDeed_Wrong;cases qs_NoDeed_Wrong)
 have Z:Xt K mg ⟨x_NoDeed,x_NoSet,x_NoBench,x_NoPicture,x_NoStack,x_Kept,x_NoPlan,x_TooMany,x_NoName,x_Twice,x_Order,x_Wrong,x_NoStroke,x_NoRow,x_BlockError⟩:=⟨U_NoDeed,nx_NoDeed,Zab X G nx_NoDeed,nx_NoSet,Zab X G nx_NoSet,nx_NoBench,Zab X G nx_NoBench,nx_NoPicture,Zab X G nx_NoPicture,nx_NoStack,Zab X G nx_NoStack,nx_Kept,Zab X G nx_Kept,nx_NoPlan,Zab X G nx_NoPlan,nx_TooMany,Zab X G nx_TooMany,nx_NoName,Zab X G nx_NoName,nx_Twice,Zab X G nx_Twice,nx_Order,Zab X G nx_Order,nx_Wrong,Zab X G nx_Wrong,nx_NoStroke,Zab X G nx_NoStroke,nx_NoRow,Zab X G nx_NoRow,nx_BlockError,Zab X G nx_BlockError,⟨⟨_,_,_,_,tl_BlockError⟩,tn_BlockError,tb_BlockError⟩,s_NoDeed_BlockError,QN_NoDeed,QS_NoDeed_NoDeed,(by kernel_rfl),(J3 (by kernel_rfl) qb_NoDeed_ValueError),(bM QN_NoSet (bM QN_NoBench (bM QN_NoPicture (bM QN_NoStack (bM QN_Kept (bM QN_NoPlan (bM QN_TooMany oW))))))),(bM QS_NoDeed_NoSet (bM QS_NoDeed_NoBench (bM QS_NoDeed_NoPicture (bM QS_NoDeed_NoStack (bM QS_NoDeed_Kept (bM QS_NoDeed_NoPlan (bM QS_NoDeed_TooMany oW))))))),(bM QN_NoName (bM QN_Twice (bM QN_Order (bM QN_Wrong (bM QN_NoStroke (bM QN_NoRow oW)))))),(bM QS_NoDeed_NoName (bM QS_NoDeed_Twice (bM QS_NoDeed_Order (bM QS_NoDeed_Wrong (bM QS_NoDeed_NoStroke (bM QS_NoDeed_NoRow oW))))))⟩
 have F0:=bZ (st:=top 17) l0 c0 k0;have D0:aZ K mg "is_whole" (top 17) ["thing"]:=⟨⟨_,_,Zab X G a0,F0,F0.binds λ_ _ _ _ _ _ us hl=>by obtain⟨_,rfl⟩:=yh hl;rfl⟩⟩
 have F1:=bZ (st:=top 18) l1 c1 k1;have D1:aZ K mg "place_of" (top 18) ["size","cell"]:=⟨⟨_,_,Zab X G a1,F1,F1.binds λ_ _ _ _ _ _ us hl=>by obtain⟨_,_,rfl⟩:=nH hl;rfl⟩⟩
 have F2:=bZ (st:=top 19) l2 c2 k2;have D2:aZ K mg "has_cell" (top 19) ["size","some","cell"]:=⟨⟨_,_,Zab X G a2,F2,F2.binds λ_ _ _ _ _ _ us hl=>by obtain⟨_,_,_,rfl⟩:=vG hl;rfl⟩⟩
 have F3:=bZ (st:=top 20) l3 c3 k3;have D3:aZ K mg "all_of" (top 20) ["size"]:=⟨⟨_,_,Zab X G a3,F3,F3.binds λ_ _ _ _ _ _ us hl=>by obtain⟨_,rfl⟩:=yh hl;rfl⟩⟩
 have F4:=bZ (st:=top 21) l4 c4 k4;have D4:aZ K mg "set_of" (top 21) ["size","cells"]:=⟨⟨_,_,Zab X G a4,F4,F4.binds λ_ _ _ _ _ _ us hl=>by obtain⟨_,_,rfl⟩:=nH hl;rfl⟩⟩
 have F5:=bZ (st:=top 23) l5 c5 k5;have D5:aZ K mg "size_of" (top 23) ["picture"]:=⟨⟨_,_,Zab X G a5,F5,F5.binds λ_ _ _ _ _ _ us hl=>by obtain⟨_,rfl⟩:=yh hl;rfl⟩⟩
 have F6:=bZ (st:=top 27) l6 c6 k6;have D6:aZ K mg "is_stroke" (top 27) ["thing"]:=⟨⟨_,_,Zab X G a6,F6,F6.binds λ_ _ _ _ _ _ us hl=>by obtain⟨_,rfl⟩:=yh hl;rfl⟩⟩
 have F7:=bZ (st:=top 28) l7 c7 k7;have D7:aZ K mg "lines_of" (top 28) ["size","kind"]:=⟨⟨_,_,Zab X G a7,F7,F7.binds λ_ _ _ _ _ _ us hl=>by obtain⟨_,_,rfl⟩:=nH hl;rfl⟩⟩
 have F8:=bZ (st:=top 29) l8 c8 k8;have D8:aZ K mg "length_of" (top 29) ["size","kind"]:=⟨⟨_,_,Zab X G a8,F8,F8.binds λ_ _ _ _ _ _ us hl=>by obtain⟨_,_,rfl⟩:=nH hl;rfl⟩⟩
 have F9:=bZ (st:=top 30) l9 c9 k9;have D9:aZ K mg "lies_on" (top 30) ["size","thing"]:=⟨⟨_,_,Zab X G a9,F9,F9.binds λ_ _ _ _ _ _ us hl=>by obtain⟨_,_,rfl⟩:=nH hl;rfl⟩⟩
 have F10:=bZ (st:=top 31) l10 c10 k10;have D10:aZ K mg "stroke_cells" (top 31) ["stroke"]:=⟨⟨_,_,Zab X G a10,F10,F10.binds λ_ _ _ _ _ _ us hl=>by obtain⟨_,rfl⟩:=yh hl;rfl⟩⟩
 have F11:=bZ (st:=top 32) l11 c11 k11;have D11:aZ K mg "cells_cut" (top 32) ["size","stroke"]:=⟨⟨_,_,Zab X G a11,F11,F11.binds λ_ _ _ _ _ _ us hl=>by obtain⟨_,_,rfl⟩:=nH hl;rfl⟩⟩
 have F12:=bZ (st:=top 36) l12 c12 k12;have D12:aZ K mg "is_number" (top 36) ["thing"]:=⟨⟨_,_,Zab X G a12,F12,F12.binds λ_ _ _ _ _ _ us hl=>by obtain⟨_,rfl⟩:=yh hl;rfl⟩⟩
 have F13:=bZ (st:=top 37) l13 c13 k13;have D13:aZ K mg "is_deed" (top 37) ["size","thing"]:=⟨⟨_,_,Zab X G a13,F13,F13.binds λ_ _ _ _ _ _ us hl=>by obtain⟨_,_,rfl⟩:=nH hl;rfl⟩⟩
 have F14:=bZ (st:=top 38) l14 c14 k14;have D14:aZ K mg "can_follow" (top 38) ["prints","ink","many_inks"]:=⟨⟨_,_,Zab X G a14,F14,F14.binds λ_ _ _ _ _ _ us hl=>by obtain⟨_,_,_,rfl⟩:=vG hl;rfl⟩⟩
 have F15:=bZ (st:=top 39) l15 c15 k15;have D15:aZ K mg "replayed_with" (top 39) ["size","plan","many_inks"]:=⟨⟨_,_,Zab X G a15,F15,F15.binds λ_ _ _ _ _ _ us hl=>by obtain⟨_,_,_,rfl⟩:=vG hl;rfl⟩⟩
 have F16:=bZ (st:=top 42) l16 c16 k16;have D16:aZ K mg "laid" (top 42) ["ink","colour"]:=⟨⟨_,_,Zab X G a16,F16,F16.binds λ_ _ _ _ _ _ us hl=>by obtain⟨_,_,rfl⟩:=nH hl;rfl⟩⟩
 have F17:=bZ (st:=top 43) l17 c17 k17;have D17:aZ K mg "colour_of" (top 43) ["bench","stack"]:=⟨⟨_,_,Zab X G a17,F17,F17.binds λ_ _ _ _ _ _ us hl=>by obtain⟨_,_,rfl⟩:=nH hl;rfl⟩⟩
 have F18:=bZ (st:=top 45) l18 c18 k18;have D18:aZ K mg "stack_at" (top 45) ["size","states","cell"]:=⟨⟨_,_,Zab X G a18,F18,F18.binds λ_ _ _ _ _ _ us hl=>by obtain⟨_,_,_,rfl⟩:=vG hl;rfl⟩⟩
 have F19:=bZ (st:=top 46) l19 c19 k19;have D19:aZ K mg "pressed_row" (top 46) ["bench","size","states","row"]:=⟨⟨_,_,Zab X G a19,F19,F19.binds λ_ _ _ _ _ _ us hl=>by obtain⟨_,_,_,_,rfl⟩:=Wn hl;rfl⟩⟩
 have F20:=bZ (st:=top 47) l20 c20 k20;have D20:aZ K mg "pressed" (top 47) ["bench","size","states"]:=⟨⟨_,_,Zab X G a20,F20,F20.binds λ_ _ _ _ _ _ us hl=>by obtain⟨_,_,_,rfl⟩:=vG hl;rfl⟩⟩
 have F21:=bZ (st:=top 49) l21 c21 k21;have D21:aZ K mg "states_printed" (top 49) ["many_inks","prints"]:=⟨⟨_,_,Zab X G a21,F21,F21.binds λ_ _ _ _ _ _ us hl=>by obtain⟨_,_,rfl⟩:=nH hl;rfl⟩⟩
 have F22:=bZ (st:=top 50) l22 c22 k22;have D22:aZ K mg "first_unlike" (top 50) ["picture","wished"]:=⟨⟨_,_,Zab X G a22,F22,F22.binds λ_ _ _ _ _ _ us hl=>by obtain⟨_,_,rfl⟩:=nH hl;rfl⟩⟩
 have F23:=bZ (st:=top 51) l23 c23 k23;have D23:aZ K mg "unlike_at" (top 51) ["bench","picture","plan"]:=⟨⟨_,_,Zab X G a23,F23,F23.binds λ_ _ _ _ _ _ us hl=>by obtain⟨_,_,_,rfl⟩:=vG hl;rfl⟩⟩
 have F24:=bZ (st:=top 53) l24 c24 k24;have D24:aZ K mg "_law_cell_at" (top 53) ["_law_script","_law_k"]:=⟨⟨_,_,Zab X G a24,F24,F24.binds λ_ _ _ _ _ _ us hl=>by obtain⟨_,_,rfl⟩:=nH hl;rfl⟩⟩
 have F25:=bZ (st:=top 54) l25 c25 k25;have D25:aZ K mg "_law_window" (top 54) ["_law_cell","_law_turn"]:=⟨⟨_,_,Zab X G a25,F25,F25.binds λ_ _ _ _ _ _ us hl=>by obtain⟨_,_,rfl⟩:=nH hl;rfl⟩⟩
 have F26:=bZ (st:=top 55) l26 c26 k26;have D26:aZ K mg "_law_stream" (top 55) ["_law_cell","_law_many"]:=⟨⟨_,_,Zab X G a26,F26,F26.binds λ_ _ _ _ _ _ us hl=>by obtain⟨_,_,rfl⟩:=nH hl;rfl⟩⟩
 have F27:=bZ (st:=top 56) l27 c27 k27;have D27:aZ K mg "_law_words" (top 56) ["_law_cell","_law_many"]:=⟨⟨_,_,Zab X G a27,F27,F27.binds λ_ _ _ _ _ _ us hl=>by obtain⟨_,_,rfl⟩:=nH hl;rfl⟩⟩
 have F28:=bZ (st:=top 57) l28 c28 k28;have D28:aZ K mg "_law_pair" (top 57) ["_law_pairs","_law_colours","_law_some"]:=⟨⟨_,_,Zab X G a28,F28,F28.binds λ_ _ _ _ _ _ us hl=>by obtain⟨_,_,_,rfl⟩:=vG hl;rfl⟩⟩
 have F29:=bZ (st:=top 58) l29 c29 k29;have D29:aZ K mg "_law_ink" (top 58) ["_law_name","_law_cells","_law_colours"]:=⟨⟨_,_,Zab X G a29,F29,F29.binds λ_ _ _ _ _ _ us hl=>by obtain⟨_,_,_,rfl⟩:=vG hl;rfl⟩⟩
 have F30:=bZ (st:=top 59) l30 c30 k30;have D30:aZ K mg "_law_bench" (top 59) ["_law_script"]:=⟨⟨_,_,Zab X G a30,F30,F30.binds λ_ _ _ _ _ _ us hl=>by obtain⟨_,rfl⟩:=yh hl;rfl⟩⟩
 have F31:=bZ (st:=top 60) l31 c31 k31;have D31:aZ K mg "_law_size" (top 60) ["_law_cell"]:=⟨⟨_,_,Zab X G a31,F31,F31.binds λ_ _ _ _ _ _ us hl=>by obtain⟨_,rfl⟩:=yh hl;rfl⟩⟩
 have F32:=bZ (st:=top 61) l32 c32 k32;have D32:aZ K mg "_law_stroke" (top 61) ["_law_size_here","_law_some"]:=⟨⟨_,_,Zab X G a32,F32,F32.binds λ_ _ _ _ _ _ us hl=>by obtain⟨_,_,rfl⟩:=nH hl;rfl⟩⟩
 have F33:=bZ (st:=top 62) l33 c33 k33;have D33:aZ K mg "_law_plan" (top 62) ["_law_script","_law_size_here","_law_many"]:=⟨⟨_,_,Zab X G a33,F33,F33.binds λ_ _ _ _ _ _ us hl=>by obtain⟨_,_,_,rfl⟩:=vG hl;rfl⟩⟩
 have F34:=bZ (st:=top 63) l34 c34 k34;have D34:aZ K mg "_law_odd" (top 63) ["_law_size_here","_law_many","_law_some"]:=⟨⟨_,_,Zab X G a34,F34,F34.binds λ_ _ _ _ _ _ us hl=>by obtain⟨_,_,_,rfl⟩:=vG hl;rfl⟩⟩
 have F35:=bZ (st:=top 64) l35 c35 k35;have D35:aZ K mg "_law_spoilt" (top 64) ["_law_plan_here","_law_size_here","_law_many","_law_cell"]:=⟨⟨_,_,Zab X G a35,F35,F35.binds λ_ _ _ _ _ _ us hl=>by obtain⟨_,_,_,_,rfl⟩:=Wn hl;rfl⟩⟩
 have F36:=bZ (st:=top 65) l36 c36 k36;have D36:aZ K mg "_law_number" (top 65) ["_law_thing","_law_most"]:=⟨⟨_,_,Zab X G a36,F36,F36.binds λ_ _ _ _ _ _ us hl=>by obtain⟨_,_,rfl⟩:=nH hl;rfl⟩⟩
 have F37:=bZ (st:=top 66) l37 c37 k37;have D37:aZ K mg "_law_on" (top 66) ["_law_size_here","_law_stroke_here"]:=⟨⟨_,_,Zab X G a37,F37,F37.binds λ_ _ _ _ _ _ us hl=>by obtain⟨_,_,rfl⟩:=nH hl;rfl⟩⟩
 have F38:=bZ (st:=top 67) l38 c38 k38;have D38:aZ K mg "_law_fault" (top 67) ["_law_plan_here","_law_size_here","_law_many"]:=⟨⟨_,_,Zab X G a38,F38,F38.binds λ_ _ _ _ _ _ us hl=>by obtain⟨_,_,_,rfl⟩:=vG hl;rfl⟩⟩
 have F39:=bZ (st:=top 68) l39 c39 k39;have D39:aZ K mg "_law_other" (top 68) ["_law_error"]:=⟨⟨_,_,Zab X G a39,F39,F39.binds λ_ _ _ _ _ _ us hl=>by obtain⟨_,rfl⟩:=yh hl;rfl⟩⟩
 have F40:=bZ (st:=top 69) l40 c40 k40;refine⟨fnOf "law" "law" (bx (top 69)) (bh (top 69)) (aG (top 69)) .none kV40 dc40 pm40 an40 cd40 ct40,λs v=>.of_eq rfl,λbase _ _=>?_⟩;have G0:=Eh (P:=l.prog) (w:=w) (base:=base) T D0 Z;have G1:=Ej (P:=l.prog) (w:=w) (base:=base) T D1 Z;have G2:=El (P:=l.prog) (w:=w) (base:=base) T D2 Z G1;have G3:=Ku (P:=l.prog) (w:=w) (base:=base) T D3 Z;have G4:=Kv (P:=l.prog) (w:=w) (base:=base) T D4 Z G1;have G5:=GP (P:=l.prog) (w:=w) (base:=base) T D5 Z;have G6:=Bh (P:=l.prog) (w:=w) (base:=base) T D6 Z G0;have G7:=En (P:=l.prog) (w:=w) (base:=base) T D7 Z;have G8:=Bk (P:=l.prog) (w:=w) (base:=base) T D8 Z;have G9:=GR (P:=l.prog) (w:=w) (base:=base) T D9 Z G6 G7 G8;have G10:=vK (P:=l.prog) (w:=w) (base:=base) T D10 Z;have G11:=Bm (P:=l.prog) (w:=w) (base:=base) T D11 Z G4 G10;have G12:=Bp (P:=l.prog) (w:=w) (base:=base) T D12 Z G0;have G13:=GZ (P:=l.prog) (w:=w) (base:=base) T D13 Z G12 G9;have G14:=yp (P:=l.prog) (w:=w) (base:=base) T D14 Z;have G15:=u5 (P:=l.prog) (w:=w) (base:=base) T D15 Z G13 G3 G11 G14;have G16:=RG (P:=l.prog) (w:=w) (base:=base) T D16 Z;have G17:=Br (P:=l.prog) (w:=w) (base:=base) T D17 Z G16;have G18:=Ep (P:=l.prog) (w:=w) (base:=base) T D18 Z G2;have G19:=xY (P:=l.prog) (w:=w) (base:=base) T D19 Z G17 G18;have G20:=Hb (P:=l.prog) (w:=w) (base:=base) T D20 Z G19;have G21:=uF (P:=l.prog) (w:=w) (base:=base) T D21 Z;have G22:=vL (P:=l.prog) (w:=w) (base:=base) T D22 Z;have G23:=Bs (P:=l.prog) (w:=w) (base:=base) T D23 Z G5 G15 G22 G20 G21;have G24:=Bu (P:=l.prog) (w:=w) (base:=base) T D24 Z;have G25:=Er (P:=l.prog) (w:=w) (base:=base) T D25 Z;have G26:=Es (P:=l.prog) (w:=w) (base:=base) T D26 Z;have G27:=Hc (P:=l.prog) (w:=w) (base:=base) T D27 Z G26;have G28:=Kw (P:=l.prog) (w:=w) (base:=base) T D28 Z;have G29:=Ox (P:=l.prog) (w:=w) (base:=base) T D29 Z G26 G28;have G30:=Hd (P:=l.prog) (w:=w) (base:=base) T D30 Z G26 G24 G27 G29;have G31:=Ky (P:=l.prog) (w:=w) (base:=base) T D31 Z G26 G25;have G32:=Et (P:=l.prog) (w:=w) (base:=base) T D32 Z;have G33:=Kz (P:=l.prog) (w:=w) (base:=base) T D33 Z G26 G25 G32;have G34:=Oz (P:=l.prog) (w:=w) (base:=base) T D34 Z;have G35:=Eu (P:=l.prog) (w:=w) (base:=base) T D35 Z G26 G25 G34;have G36:=Ex (P:=l.prog) (w:=w) (base:=base) T D36 Z;have G37:=RJ (P:=l.prog) (w:=w) (base:=base) T D37 Z G36;have G38:=Hf (P:=l.prog) (w:=w) (base:=base) T D38 Z G36 G37;have G39:=Hh (P:=l.prog) (w:=w) (base:=base) T D39 Z;exact Vl (P:=l.prog) (w:=w) (base:=base) T F40 Z G30 G31 G24 G35 G33 G38 G23 G39
theorem walk{l:PySem.W.OpenLaw}{q:Program}{loose:List Str}{XP:(Str->Option Value)->Heap->Prop}{YP:World->Heap->Prop}{d:DefRec}{K:Params->PySem.W.Frag}(hn:l.most=some 63)(hdf:d.params.defaults=[])
  (hY:∀ (w:World) (h:Heap),YP w h->(K w.params).In h)
  (F:∀ (w:World) (mg:Str->Option Value) (fa:Addr) (h:Heap),(K w.params).In h->h.Ns mainGlobals mg->mg d.name=some (.ref fa) ->
   ∃ fd:FuncData,(∀ (s:Shared) (u:Value),BindsTo s fd ⟨[u],[]⟩ [("_law_script",u)])/\∀ base:Heap,(K w.params).In base->base.Ns mainGlobals mg->sV l.prog w (K w.params) mg base CX0 7 fa fd ["_law_script"] (spM (K w.params) XR0 zj))
  (main:∀ ns:List Int,ns.length<=63->zj [.lst (ns.map PV.int)]=some (.ok (.bl true))) :
  PySem.W.WalkO q loose XP YP l.row.toRowW d [] (λf vs=>PySem.call f vs):=
 L2.PB (n:=63) (k:=7) (x:="_law_script") (CX:=λ_=>CX0) (sp:=λw=>spM (K w.params) XR0 zj) hn (by decide) hdf ⟨rfl,by decide,by decide⟩ hY F (λw H a ns hl _ hS=>⟨[.lst (ns.map PV.int)],H,.ok (.bl true),bf.refl _,b8.nil.cons (.lst hS (b8.zR (K:=K w.params) (F:=H) ns).1 (b8.zR ns).2),main ns hl,λv F' H' _ rv=>Rep.gj rv⟩) λ_ _ _ _ _ z=>z
end MM
open PySem PySem.W PyProof.Rows
set_option maxRecDepth 100000 in
set_option maxHeartbeats 0 in
theorem PySem.Challenge.cw_lostblock_k43_plans_refused_holds : PySem.Challenge.rw_lostblock_k43_plans_refused.Holds := by
 w_on;o_law;k_head;(case hw=>w_witness2)
 k_fill
 refine MM.walk (l:=PySem.Challenge.rw_lostblock_k43_plans_refused) rfl rfl (λw h Y=>PySem.W.kIn_of Y) ?F MM.law_main
 case F=>
  intro w mg fa h KX G hmg;refine' MM.Vm KX G hmg ?a0 ?l0 ?c0 ?k0 ?a1 ?l1 ?c1 ?k1 ?a2 ?l2 ?c2 ?k2 ?a3 ?l3 ?c3 ?k3 ?a4 ?l4 ?c4 ?k4 ?a5 ?l5 ?c5 ?k5 ?a6 ?l6 ?c6 ?k6 ?a7 ?l7 ?c7 ?k7 ?a8 ?l8 ?c8 ?k8 ?a9 ?l9 ?c9 ?k9 ?a10 ?l10 ?c10 ?k10 ?a11 ?l11 ?c11 ?k11 ?a12 ?l12 ?c12 ?k12 ?a13 ?l13 ?c13 ?k13 ?a14 ?l14 ?c14 ?k14 ?a15 ?l15 ?c15 ?k15 ?a16 ?l16 ?c16 ?k16 ?a17 ?l17 ?c17 ?k17 ?a18 ?l18 ?c18 ?k18 ?a19 ?l19 ?c19 ?k19 ?a20 ?l20 ?c20 ?k20 ?a21 ?l21 ?c21 ?k21 ?a22 ?l22 ?c22 ?k22 ?a23 ?l23 ?c23 ?k23 ?a24 ?l24 ?c24 ?k24 ?a25 ?l25 ?c25 ?k25 ?a26 ?l26 ?c26 ?k26 ?a27 ?l27 ?c27 ?k27 ?a28 ?l28 ?c28 ?k28 ?a29 ?l29 ?c29 ?k29 ?a30 ?l30 ?c30 ?k30 ?a31 ?l31 ?c31 ?k31 ?a32 ?l32 ?c32 ?k32 ?a33 ?l33 ?c33 ?k33 ?a34 ?l34 ?c34 ?k34 ?a35 ?l35 ?c35 ?k35 ?a36 ?l36 ?c36 ?k36 ?a37 ?l37 ?c37 ?k37 ?a38 ?l38 ?c38 ?k38 ?a39 ?l39 ?c39 ?k39 ?a40 ?l40 ?c40 ?k40 ?pI ?O3 ?Ho ?Hq ?rE ?O4 ?pJ ?O5 ?Hr ?BL ?O6 ?BP ?yd ?BR ?O7 ?BV ?O8 ?nx_NoDeed ?nx_NoSet ?nx_NoBench ?nx_NoPicture ?nx_NoStack ?nx_Kept ?nx_NoPlan ?nx_TooMany ?nx_NoName ?nx_Twice ?nx_Order ?nx_Wrong ?nx_NoStroke ?nx_NoRow ?nx_BlockError ?lx_NoDeed ?h1_NoDeed ?h2_NoDeed ?h3_NoDeed ?h4_NoDeed ?h5_NoDeed ?sa_NoDeed ?in_NoDeed ?fn_NoDeed ?kp_NoDeed ?li_NoDeed ?ci_NoDeed ?kj_NoDeed ?xa_NoDeed ?xg_NoDeed ?xh_NoDeed ?sf_NoDeed ?xb_NoDeed ?xc_NoDeed ?xd_NoDeed ?xe_NoDeed ?xf_NoDeed ?fl_NoDeed_at ?tl_BlockError ?tn_BlockError ?tb_BlockError ?s_NoDeed_BlockError ?ql_Kept ?qt_Kept ?qn_Kept ?qs_NoDeed_Kept ?ql_NoBench ?qt_NoBench ?qn_NoBench ?qs_NoDeed_NoBench ?ql_NoDeed ?qt_NoDeed ?qn_NoDeed ?qs_NoDeed_NoDeed ?ql_NoName ?qt_NoName ?qn_NoName ?qs_NoDeed_NoName ?ql_NoPicture ?qt_NoPicture ?qn_NoPicture ?qs_NoDeed_NoPicture ?ql_NoPlan ?qt_NoPlan ?qn_NoPlan ?qs_NoDeed_NoPlan ?ql_NoRow ?qt_NoRow ?qn_NoRow ?qs_NoDeed_NoRow ?ql_NoSet ?qt_NoSet ?qn_NoSet ?qs_NoDeed_NoSet ?ql_NoStack ?qt_NoStack ?qn_NoStack ?qs_NoDeed_NoStack ?ql_NoStroke ?qt_NoStroke ?qn_NoStroke ?qs_NoDeed_NoStroke ?ql_Order ?qt_Order ?qn_Order ?qs_NoDeed_Order ?ql_TooMany ?qt_TooMany ?qn_TooMany ?qs_NoDeed_TooMany ?ql_Twice ?qt_Twice ?qn_Twice ?qs_NoDeed_Twice ?ql_Wrong ?qt_Wrong ?qn_Wrong ?qs_NoDeed_Wrong ?qb_NoDeed_ValueError
  (case a0=>k_is)
  (case l0=>k_is)
  (case c0=>k_is)
  (case k0=>k_is)
  (case a1=>k_is)
  (case l1=>k_is)
  (case c1=>k_is)
  (case k1=>k_is)
  (case a2=>k_is)
  (case l2=>k_is)
  (case c2=>k_is)
  (case k2=>k_is)
  (case a3=>k_is)
  (case l3=>k_is)
  (case c3=>k_is)
  (case k3=>k_is)
  (case a4=>k_is)
  (case l4=>k_is)
  (case c4=>k_is)
  (case k4=>k_is)
  (case a5=>k_is)
  (case l5=>k_is)
  (case c5=>k_is)
  (case k5=>k_is)
  (case a6=>k_is)
  (case l6=>k_is)
  (case c6=>k_is)
  (case k6=>k_is)
  (case a7=>k_is)
  (case l7=>k_is)
  (case c7=>k_is)
  (case k7=>k_is)
  (case a8=>k_is)
  (case l8=>k_is)
  (case c8=>k_is)
  (case k8=>k_is)
  (case a9=>k_is)
  (case l9=>k_is)
  (case c9=>k_is)
  (case k9=>k_is)
  (case a10=>k_is)
  (case l10=>k_is)
  (case c10=>k_is)
  (case k10=>k_is)
  (case a11=>k_is)
  (case l11=>k_is)
  (case c11=>k_is)
  (case k11=>k_is)
  (case a12=>k_is)
  (case l12=>k_is)
  (case c12=>k_is)
  (case k12=>k_is)
  (case a13=>k_is)
  (case l13=>k_is)
  (case c13=>k_is)
  (case k13=>k_is)
  (case a14=>k_is)
  (case l14=>k_is)
  (case c14=>k_is)
  (case k14=>k_is)
  (case a15=>k_is)
  (case l15=>k_is)
  (case c15=>k_is)
  (case k15=>k_is)
  (case a16=>k_is)
  (case l16=>k_is)
  (case c16=>k_is)
  (case k16=>k_is)
  (case a17=>k_is)
  (case l17=>k_is)
  (case c17=>k_is)
  (case k17=>k_is)
  (case a18=>k_is)
  (case l18=>k_is)
  (case c18=>k_is)
  (case k18=>k_is)
  (case a19=>k_is)
  (case l19=>k_is)
  (case c19=>k_is)
  (case k19=>k_is)
  (case a20=>k_is)
  (case l20=>k_is)
  (case c20=>k_is)
  (case k20=>k_is)
  (case a21=>k_is)
  (case l21=>k_is)
  (case c21=>k_is)
  (case k21=>k_is)
  (case a22=>k_is)
  (case l22=>k_is)
  (case c22=>k_is)
  (case k22=>k_is)
  (case a23=>k_is)
  (case l23=>k_is)
  (case c23=>k_is)
  (case k23=>k_is)
  (case a24=>k_is)
  (case l24=>k_is)
  (case c24=>k_is)
  (case k24=>k_is)
  (case a25=>k_is)
  (case l25=>k_is)
  (case c25=>k_is)
  (case k25=>k_is)
  (case a26=>k_is)
  (case l26=>k_is)
  (case c26=>k_is)
  (case k26=>k_is)
  (case a27=>k_is)
  (case l27=>k_is)
  (case c27=>k_is)
  (case k27=>k_is)
  (case a28=>k_is)
  (case l28=>k_is)
  (case c28=>k_is)
  (case k28=>k_is)
  (case a29=>k_is)
  (case l29=>k_is)
  (case c29=>k_is)
  (case k29=>k_is)
  (case a30=>k_is)
  (case l30=>k_is)
  (case c30=>k_is)
  (case k30=>k_is)
  (case a31=>k_is)
  (case l31=>k_is)
  (case c31=>k_is)
  (case k31=>k_is)
  (case a32=>k_is)
  (case l32=>k_is)
  (case c32=>k_is)
  (case k32=>k_is)
  (case a33=>k_is)
  (case l33=>k_is)
  (case c33=>k_is)
  (case k33=>k_is)
  (case a34=>k_is)
  (case l34=>k_is)
  (case c34=>k_is)
  (case k34=>k_is)
  (case a35=>k_is)
  (case l35=>k_is)
  (case c35=>k_is)
  (case k35=>k_is)
  (case a36=>k_is)
  (case l36=>k_is)
  (case c36=>k_is)
  (case k36=>k_is)
  (case a37=>k_is)
  (case l37=>k_is)
  (case c37=>k_is)
  (case k37=>k_is)
  (case a38=>k_is)
  (case l38=>k_is)
  (case c38=>k_is)
  (case k38=>k_is)
  (case a39=>k_is)
  (case l39=>k_is)
  (case c39=>k_is)
  (case k39=>k_is)
  (case a40=>k_is)
  (case l40=>k_is)
  (case c40=>k_is)
  (case k40=>k_is)
  (case pI=>k_is)
  (case O3=>k_is)
  (case Ho=>k_is)
  (case Hq=>k_is)
  (case rE=>k_is)
  (case O4=>k_is)
  (case pJ=>k_is)
  (case O5=>k_is)
  (case Hr=>k_is)
  (case BL=>k_is)
  (case O6=>k_is)
  (case BP=>k_is)
  (case yd=>k_is)
  (case BR=>k_is)
  (case O7=>k_is)
  (case BV=>k_is)
  (case O8=>k_is)
  (case nx_NoDeed=>k_is)
  (case nx_NoSet=>k_is)
  (case nx_NoBench=>k_is)
  (case nx_NoPicture=>k_is)
  (case nx_NoStack=>k_is)
  (case nx_Kept=>k_is)
  (case nx_NoPlan=>k_is)
  (case nx_TooMany=>k_is)
  (case nx_NoName=>k_is)
  (case nx_Twice=>k_is)
  (case nx_Order=>k_is)
  (case nx_Wrong=>k_is)
  (case nx_NoStroke=>k_is)
  (case nx_NoRow=>k_is)
  (case nx_BlockError=>k_is)
  (case lx_NoDeed=>k_is)
  (case h1_NoDeed=>first|rfl|decide +kernel|k_is)
  (case h2_NoDeed=>first|rfl|decide +kernel|k_is)
  (case h3_NoDeed=>first|rfl|decide +kernel|k_is)
  (case h4_NoDeed=>first|rfl|decide +kernel|k_is)
  (case h5_NoDeed=>first|rfl|decide +kernel|k_is)
  (case sa_NoDeed=>k_is)
  (case in_NoDeed=>k_is)
  (case fn_NoDeed=>k_is)
  (case kp_NoDeed=>k_is)
  (case li_NoDeed=>k_is)
  (case ci_NoDeed=>k_is)
  (case kj_NoDeed=>k_is)
  (case xa_NoDeed=>k_is)
  (case xg_NoDeed=>k_is)
  (case xh_NoDeed=>k_is)
  (case sf_NoDeed=>k_is)
  (case xb_NoDeed=>k_is)
  (case xc_NoDeed=>k_is)
  (case xd_NoDeed=>k_is)
  (case xe_NoDeed=>k_is)
  (case xf_NoDeed=>k_is)
  (case fl_NoDeed_at=>k_is)
  (case tl_BlockError=>k_is)
  (case tn_BlockError=>k_is)
  (case tb_BlockError=>k_is)
  (case s_NoDeed_BlockError=>k_is)
  (case ql_Kept=>k_is)
  (case qt_Kept=>k_is)
  (case qn_Kept=>k_is)
  (case qs_NoDeed_Kept=>k_is)
  (case ql_NoBench=>k_is)
  (case qt_NoBench=>k_is)
  (case qn_NoBench=>k_is)
  (case qs_NoDeed_NoBench=>k_is)
  (case ql_NoDeed=>k_is)
  (case qt_NoDeed=>k_is)
  (case qn_NoDeed=>k_is)
  (case qs_NoDeed_NoDeed=>k_is)
  (case ql_NoName=>k_is)
  (case qt_NoName=>k_is)
  (case qn_NoName=>k_is)
  (case qs_NoDeed_NoName=>k_is)
  (case ql_NoPicture=>k_is)
  (case qt_NoPicture=>k_is)
  (case qn_NoPicture=>k_is)
  (case qs_NoDeed_NoPicture=>k_is)
  (case ql_NoPlan=>k_is)
  (case qt_NoPlan=>k_is)
  (case qn_NoPlan=>k_is)
  (case qs_NoDeed_NoPlan=>k_is)
  (case ql_NoRow=>k_is)
  (case qt_NoRow=>k_is)
  (case qn_NoRow=>k_is)
  (case qs_NoDeed_NoRow=>k_is)
  (case ql_NoSet=>k_is)
  (case qt_NoSet=>k_is)
  (case qn_NoSet=>k_is)
  (case qs_NoDeed_NoSet=>k_is)
  (case ql_NoStack=>k_is)
  (case qt_NoStack=>k_is)
  (case qn_NoStack=>k_is)
  (case qs_NoDeed_NoStack=>k_is)
  (case ql_NoStroke=>k_is)
  (case qt_NoStroke=>k_is)
  (case qn_NoStroke=>k_is)
  (case qs_NoDeed_NoStroke=>k_is)
  (case ql_Order=>k_is)
  (case qt_Order=>k_is)
  (case qn_Order=>k_is)
  (case qs_NoDeed_Order=>k_is)
  (case ql_TooMany=>k_is)
  (case qt_TooMany=>k_is)
  (case qn_TooMany=>k_is)
  (case qs_NoDeed_TooMany=>k_is)
  (case ql_Twice=>k_is)
  (case qt_Twice=>k_is)
  (case qn_Twice=>k_is)
  (case qs_NoDeed_Twice=>k_is)
  (case ql_Wrong=>k_is)
  (case qt_Wrong=>k_is)
  (case qn_Wrong=>k_is)
  (case qs_NoDeed_Wrong=>k_is)
  (case qb_NoDeed_ValueError=>k_is)
#print axioms PySem.Challenge.cw_lostblock_k43_plans_refused_holds
