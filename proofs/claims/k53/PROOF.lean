import PyProof.Rows.All
import Wide.All
import OpenK.AllK
import Wide.FinOn
import Lean
import PyProof.EqAt
import PyProof.EqKinds
import PyProof.TupleCall
import PySem.Challenge.RW_lostblock_k53_names_of_a_shop
set_option Elab.async false
set_option linter.all false
set_option maxRecDepth 100000
def PySem.W.Fast.tw18176677118639634811:=()
def PySem.W.Fast.tw13250969870512544328:=()
def PySem.W.Fast.tw9106332205298862063:=()
def PySem.W.Fast.tw18182048753266994043:=()
def PySem.W.Fast.tw13114528340389557568:=()
def PySem.W.Fast.tw8947203742740550799:=()
def PySem.W.Fast.tw4568806983058094759:=()
def PySem.W.Fast.tw15339127262927029857:=()
def PySem.W.Fast.tw5156663648876187299:=()
def PySem.W.Fast.tw18382054511292832240:=()
def PySem.W.Fast.tw2803396251332569573:=()
def PySem.W.Fast.tw5292253090511278823:=()
def PySem.W.Fast.tw7699668148908173426:=()
def PySem.W.Fast.tw6134608379093186136:=()
def PySem.W.Fast.tw1700470550969889239:=()
def PySem.W.Fast.tw7142012916749891343:=()
def PySem.W.Fast.tw2536740863164839830:=()
def PySem.W.Fast.tw17148275841373870386:=()
def PySem.W.Fast.tw3453971407444054417:=()
def PySem.W.Fast.tw15985805910653574119:=()
def PySem.W.Fast.tw17974880306783747800:=()
def PySem.W.Fast.tw11345468494727679139:=()
def PySem.W.Fast.tw10250633210669049327:=()
def PySem.W.Fast.tw6625998095629971811:=()
def PySem.W.Fast.tw12177374347251629551:=()
def PySem.W.Fast.tw3301950331515357954:=()
def PySem.W.Fast.tw7441307060817525417:=()
def PySem.W.Fast.tw16333911626403888249:=()
def PySem.W.Fast.tw12473566081147749369:=()
def PySem.W.Fast.tw435523044197208569:=()
def PySem.W.Fast.tw6427139038690228539:=()
def PySem.W.Fast.tw16994041284854717954:=()
def PySem.W.Fast.tw6384269195523395871:=()
def PySem.W.Fast.tw11452111239490045552:=()
def PySem.W.Fast.tw17800017330623567141:=()
def PySem.W.Fast.tw16185296977007789421:=()
def PySem.W.Fast.tw1021721747494521462:=()
def PySem.W.Fast.tw14215928969251618011:=()
def PySem.W.Fast.tw10618466296626898167:=()
def PySem.W.Fast.tw2864057027069314779:=()
def PySem.W.Fast.tw17893715727635871866:=()
def PySem.W.Fast.tw7920034741176140052:=()
def PySem.W.Fast.tw2272927121629703138:=()
def PySem.W.Fast.tw3681822201316210111:=()
def PySem.W.Fast.tw3243221417444073354:=()
def PySem.W.Fast.tw597974019433968127:=()
def PySem.W.Fast.tw16859955634755046097:=()
def PySem.W.Fast.tw14951486623652932485:=()
def PySem.W.Fast.tw9683625321092190609:=()
def PySem.W.Fast.tw4415838322801364910:=()
def PySem.W.Fast.tw10115562150980605425:=()
def PySem.W.Fast.tw7542365022733415521:=()
def PySem.W.Fast.tw1947947331254901567:=()
def PySem.W.Fast.tw555410623295028408:=()
def PySem.W.Fast.tw5972818924240530709:=()
def PySem.W.Fast.tw490010745245812583:=()
def PySem.W.Fast.tw1679617840854181747:=()
def PySem.W.Fast.tw15222326430168941765:=()
def PySem.W.Fast.tw7773992165956829596:=()
def PySem.W.Fast.tw14924204480356645358:=()
def PySem.W.Fast.tw8923484779266794312:=()
def PySem.W.Fast.tw7231256722118654362:=()
def PySem.W.Fast.tw8298531431943912217:=()
def PySem.W.Fast.tw1956158742796102719:=()
def PySem.W.Fast.tw9955434515454921318:=()
def PySem.W.Fast.tw12043561140026158854:=()
def PySem.W.Fast.tw4080855068829474755:=()
def PySem.W.Fast.tw8865491426123214934:=()
def PySem.W.Fast.tw17512880298691307490:=()
def PySem.W.Fast.tw11929914710242466680:=()
def PySem.W.Fast.tw18078933611217160626:=()
def PySem.W.Fast.tw17134116694712120134:=()
def PySem.W.Fast.tw15707241325240907638:=()
def PySem.W.Fast.tw12507927538666054861:=()
def PySem.W.Fast.tw4982534387208470171:=()
def PySem.W.Fast.tw10008152881841908492:=()
def PySem.W.Fast.tw9923556279969039653:=()
def PySem.W.Fast.tw9276376358649032994:=()
def PySem.W.Fast.tw15321407417318586651:=()
def PySem.W.Fast.tw9745399031154400082:=()
local macro_rules|`(tactic|walk_at "s")=>`(tactic|exact⟨rfl,rfl,rfl,by decide +kernel,rfl,by decide +kernel,by decide +kernel⟩)
local macro_rules|`(command| def $d:declId $s:optDeclSig $v:declVal)=>`(command| noncomputable def $d:declId $s:optDeclSig $v:declVal)
open PySem.W (instObj emptyDict keepIn fnOf nsIn)
def Zaa:=@Option.some.inj
def Zab:=@List.getElem?_set_ne
def Zac:=@List.length_map
def Zad:=@List.getElem?_eq_getElem
def Zae:=@PySem.Heap.get?_push_of_some
def Zaf:=@List.getElem?_map
def Zag:=@if_pos
def Zah:=@Nat.le_refl
def Zai:=@PySem.wpAny_bind
def Zaj:=@List.getElem?_append_left
def Zak:=@PySem.Heap.lt_size
def Zal:=@if_neg
def Zam:=@List.getElem?_append_right
def Zan:=@Nat.lt_of_lt_of_le
def Zao:=@List.map_cons
def Zap:=@List.mem_of_getElem?
def Zaq:=@List.all_eq_true
def Zar:=@List.mem_cons_of_mem
def Zas:=@List.getElem?_eq_some_iff
def Zat:=@PySem.Heap.get?_push_size
def Zau:=@List.length_append
def Zav:=@List.getD_eq_getElem?_getD
def Zaw:=@List.append_nil
def Zax:=@Int.toNat_natCast
def Zay:=@PySem.wpAny_pure
def Zaz:=@Nat.ne_of_lt
def ZaA:=@List.mem_append_right
def ZaB:=@List.length_cons
def ZaC:=@decide_eq_false
def ZaD:=@Option.map_eq_some_iff
def ZaE:=@Nat.le_trans
def ZaF:=@List.mem_cons_self
def ZaG:=@List.map_append
def ZaH:=@if_false
def ZaI:=@List.getElem?_set_self
def ZaJ:=@List.mem_cons
def ZaK:=@PySem.wpAny_mono
def ZaL:=@PySem.W.mg_none_of
def ZaM:=@List.replicate_succ
def ZaN:=@List.mem_map
def ZaO:=@List.getElem?_replicate
def ZaP:=@PySem.F.plainAttrs_list
def ZaQ:=@List.contains_cons
def ZaR:=@PySem.Heap.get?_update_other
def ZaS:=@PySem.PassesOwn.never
def ZaT:=@decide_eq_true
def ZaU:=@PySem.W.mg_of
def ZaV:=@if_true
def ZaW:=@List.getElem?_eq_none
def ZaX:=@PySem.F.slot_list_append
def ZaY:=@PySem.W.kia_one
def ZaZ:=@Nat.le_of_lt
def Za0:=@Ne.symm
def Za1:=@Nat.lt_irrefl
def Za2:=@List.mem_range
def Za3:=@List.filter_cons
def Za4:=@Int.eq_ofNat_of_zero_le
def Za5:=@PySem.F.excBase_ValueError
def Za6:=@Bool.and_eq_true
def Za7:=@List.length_replicate
def Za8:=@List.drop_eq_getElem_cons
def Za9:=@List.flatten_cons
def Zba:=@List.length_range
def Zbb:=@List.map_map
def Zbc:=@Array.length_toList
def Zbd:=@PySem.mem_of_lookup
def Zbe:=@PySem.F.attr_ValueError
def Zbf:=@PySem.Calls.callWith_builtin
def Zbg:=@Bool.false_eq_true
def Zbh:=@congrArg
def Zbi:=@PyProof.Rows.callWith_type1
def Zbj:=@Nat.zero_le
def Zbk:=@List.nodup_cons
def Zbl:=@PySem.Heap.get?_update_self
def Zbm:=@List.find?_cons
def Zbn:=@List.cons.injEq
def Zbo:=@List.getElem?_set
def Zbp:=@List.lookup_cons
def Zbq:=@Bool.not_eq_true
def Zbr:=@List.map_congr_left
def Zbs:=@Int.toNat_of_nonneg
def Zbt:=@List.mem_filter
def Zbu:=@PySem.Calls.spliced_cons
def Zbv:=@Option.map_some
def Zbw:=@List.any_cons
def Zbx:=@List.eraseIdx_cons_succ
def Zby:=@Eq.trans
def Zbz:=@Nat.le_succ
def ZbA:=@List.ext_getElem?
def ZbB:=@Array.size_append
def ZbC:=@PySem.Heap.size_push
def ZbD:=@Nat.ne_of_gt
def ZbE:=@Array.getElem?_toList
def ZbF:=@List.getElem?_toArray
def ZbG:=@PySem.F.slot_dict_get
def ZbH:=@Bool.beq_eq_decide_eq
def ZbI:=@Bool.or_true
def ZbJ:=@List.getElem_mem
def ZbK:=@List.drop_length
def ZbL:=@List.not_mem_nil
def ZbM:=@List.mem_append_left
def ZbN:=@PySem.Calls.evalArgs_plain
def ZbO:=@List.mem_iff_getElem
def ZbP:=@List.getElem?_mapIdx
def ZbQ:=@List.filterMap_cons
def ZbR:=@PySem.W.plainGet_of
def ZbS:=@Array.getD_eq_getD_getElem?
def ZbT:=@List.getElem?_range
def ZbU:=@List.filter_eq_self
def ZbV:=@Int.emod_nonneg
def ZbW:=@Nat.testBit_two_pow_sub_one
def ZbX:=@Int.fdiv_eq_ediv_of_nonneg
def ZbY:=@Int.natCast_nonneg
def ZbZ:=@Bool.false_ne_true
def Zb0:=@PySem.W.callWith_K
def Zb1:=@Nat.lt_of_le_of_lt
def Zb2:=@Int.zero_add
def Zb3:=@Int.emod_lt_of_pos
def Zb4:=@List.drop_zero
def Zb5:=@PySem.Calls.spliced_nil
def Zb6:=@List.append_assoc
def Zb7:=@Nat.lt_succ_of_lt
def Zb8:=@Option.isSome_map
def Zb9:=@Option.some.injEq
def Zca:=@List.find?_append
def Zcb:=@Nat.lt_succ_self
def Zcc:=@List.length_take
def Zcd:=@List.any_eq_true
def Zce:=@List.take_length
def Zcf:=@List.mem_append
def Zcg:=@List.of_mem_zip
def Zch:=@List.foldl_cons
def Zci:=@Bool.eq_iff_iff
def Zcj:=@Nat.sub_self
def Zck:=@List.range_succ
def Zcl:=@Int.mul_le_mul
def Zcm:=@List.take_succ
def Zcn:=@Sum.inr.inj
set_option compiler.extract_closed false
set_option bootstrap.genMatcherCode false
set_option genSizeOf false
local macro_rules|`(tactic| omega)=>`(tactic| first|(grind only)|omega (config:={}))
local macro_rules|`(tactic| lia)=>`(tactic| first|lia -verbose|omega (config:={}))
namespace L2
open PySem PySem.Spec PyProof.Rows
noncomputable abbrev Key:=Sum Int Str
def yP:Key->Value->Bool
 |.inl k,v=>Value.isInt k v
 |.inr x,v=>Value.isStrOf x v
def X6(w:World):Key->Int
 |.inl k=>hashInt k
 |.inr x=>hashStr w x
theorem cO:∀ {k:Key}{v:Value},yP k v=true->(∃ i t,k=Sum.inl i/\v=Value.int i t)\/(∃ x t,k=Sum.inr x/\v=Value.str x t)
 |.inl i,v,h=>by
  obtain⟨t,e⟩:=Value.isInt_shape (k:=i) (v:=v) h;exact .inl ⟨i,t,rfl,e⟩
 |.inr x,v,h=>by
  obtain⟨t,e⟩:=Value.isStrOf_shape (x:=x) (v:=v) h;exact .inr ⟨x,t,rfl,e⟩
theorem Kw(i:Int)(t:Tok):yP (.inl i) (.int i t)=true:=by simp[yP,Value.isInt]
theorem Ky(x:Str)(t:Tok):yP (.inr x) (.str x t)=true:=by simp[yP,Value.isStrOf]
theorem U6(a b:Int):decide ((Sum.inl a:Key)=Sum.inl b)=(a==b):=by
 by_cases e:a=b
 ·subst e;simp
 ·have h:¬(Sum.inl a:Key)=Sum.inl b:=λq=>e (Sum.inl.inj q);rw[ZaC h];exact(beq_eq_false_iff_ne.mpr e).symm
theorem U7(a b:Str):decide ((Sum.inr a:Key)=Sum.inr b)=decide (a=b):=by
 by_cases e:a=b
 ·subst e;simp
 ·have h:¬(Sum.inr a:Key)=Sum.inr b:=λq=>e (Zcn q);rw[ZaC h,ZaC e]
theorem U8(a:Int)(b:Str):decide ((Sum.inl a:Key)=Sum.inr b)=false:=ZaC (λq=>nomatch q)
theorem U9(a:Str)(b:Int):decide ((Sum.inr a:Key)=Sum.inl b)=false:=ZaC (λq=>nomatch q)
def cF(prog:Program)(w:World):PySem.KeyKind prog w Key where
 is:=yP
 hash:=X6 w
 inj:=λv a b ha hb=>by
  rcases cO ha with⟨i,t,rfl,rfl⟩|⟨x,t,rfl,rfl⟩
  ·rcases cO hb with⟨j,u,rfl,e⟩|⟨y,u,rfl,e⟩
   ·injection e with e1 _;rw[e1]
   ·exact nomatch e
  ·rcases cO hb with⟨j,u,rfl,e⟩|⟨y,u,rfl,e⟩
   ·exact nomatch e
   ·injection e with e1 _;rw[e1]
 byValue:=λk v h=>by
  rcases cO h with⟨i,t,rfl,rfl⟩|⟨x,t,rfl,rfl⟩<;>rfl
 pyHash:=λhv h=>by
  rcases cO hv with⟨i,t,rfl,rfl⟩|⟨x,t,rfl,rfl⟩
  ·exact wpAny_pyHash_int h
  ·exact wpAny_pyHash_str h
 eqBool:=λhu hv h=>by
  rcases cO hu with⟨i,t,rfl,rfl⟩|⟨x,t,rfl,rfl⟩
  ·rcases cO hv with⟨j,u,rfl,rfl⟩|⟨y,u,rfl,rfl⟩
   ·rw[U6] at h;exact wpAny_eqBool_int h
   ·rw[U8] at h;exact SeqAt.EqAt.int_str i t y u _ _ _ _ h
  ·rcases cO hv with⟨j,u,rfl,rfl⟩|⟨y,u,rfl,rfl⟩
   ·rw[U9] at h;exact SeqAt.EqAt.str_int x t j u _ _ _ _ h
   ·rw[U7] at h;exact wpAny_eqBool_str h
 «strs»:=λk x t v h=>by
  rcases cO h with⟨i,u,rfl,e⟩|⟨y,u,rfl,e⟩
  ·exact nomatch e
  ·injection e with e1 _
   subst e1;cases v<;>rfl
theorem Dl(prog:Program)(w:World)(i:Int)(t:Tok):(cF prog w).is (.inl i) (.int i t)=true:=Kw i t
theorem Dm(prog:Program)(w:World)(x:Str)(t:Tok):(cF prog w).is (.inr x) (.str x t)=true:=Ky x t
inductive V where
 |non|bl (b:Bool)|int (i:Int)|str (x:Str)|byt (b:Array UInt8)|flt (b:UInt64)|ref (a:Addr)|ty (n:String)
 deriving DecidableEq
def RelV:V->Value->Prop
 |.non,u=>u=Value.none
 |.bl b,u=>u=Value.bool b
 |.int i,u=>∃ t,u=Value.int i t
 |.str x,u=>∃ t,u=Value.str x t
 |.byt b,u=>∃ t,u=Value.bytes b t
 |.flt b,u=>∃ t,u=Value.float b t
 |.ref a,u=>u=Value.ref a
 |.ty n,u=>u=Value.type n
noncomputable abbrev Vals:List V->List Value->Prop:=Paired RelV
theorem Vals.length{xs:List V}{us:List Value}(r:Vals xs us):xs.length=us.length:=Paired.length r
theorem Vals.get:∀ {xs:List V}{us:List Value}{i:Nat}{x:V},Vals xs us->xs[i]?=some x->∃ u,us[i]?=some u/\RelV x u
 |_,_,_,_,.nil,e=>by simp at e
 |_,_,0,_,.cons r _,e=>by simp at e;subst e;exact⟨_,rfl,r⟩
 |_,_,i+1,x,.cons _ t,e=>by
  obtain⟨u,h1,h2⟩:=Vals.get (i:=i) (x:=x) t (by simpa using e)
  exact⟨u,by simpa using h1,h2⟩
theorem Vals.set{x:V}{u:Value}(r:RelV x u):∀ {xs:List V}{us:List Value} (i:Nat),Vals xs us->Vals (xs.set i x) (us.set i u)
 |_,_,_,.nil=>.nil
 |_,_,0,.cons _ t=>.cons r t
 |_,_,i+1,.cons q t=>.cons q (Vals.set r i t)
theorem Vals.append:∀ {xs ys:List V}{us ws:List Value},Vals xs us->Vals ys ws->Vals (xs++ys) (us++ws)
 |_,_,_,_,.nil,s=>s
 |_,_,_,_,.cons r t,s=>.cons r (Vals.append t s)
theorem Vals.take:∀ {xs:List V}{us:List Value} (n:Nat),Vals xs us->Vals (xs.take n) (us.take n)
 |_,_,0,_=>.nil
 |_,_,_+1,.nil=>.nil
 |_,_,n+1,.cons r t=>.cons r (Vals.take n t)
theorem Vals.drop:∀ {xs:List V}{us:List Value} (n:Nat),Vals xs us->Vals (xs.drop n) (us.drop n)
 |_,_,0,r=>r
 |_,_,_+1,.nil=>.nil
 |_,_,n+1,.cons _ t=>Vals.drop n t
def kO:Option V->Option Value->Prop
 |some v,some u=>RelV v u
 |none,none=>True
 |_,_=>False
def KV{κ:Type}:List (κ×V)->List (κ×Value)->Prop:=Paired λ(p:κ×V) (q:κ×Value)=>p.1=q.1/\RelV p.2 q.2
def kV:Key->V
 |.inl i=>.int i
 |.inr x=>.str x
inductive HO where
 |lst (xs:List V)
 |tup (xs:List V)
 |dK (kvs:List (Key×V))|dT (kvs:List (List Key×V))
 |set (S:Int->Bool) (n:Nat)
 |ins (C dx:Addr) (fs:List (Str×V))
 |own (x:Addr)
 |xd (fs:List (Str×V))
 |met (f x:Addr)
 |rng (lo hi:Int)
 |frz (o:Obj) (u:HO)
 |tbl (ps:Array Value)
 |ext (φ:Heap->Prop)
noncomputable abbrev Hp:=Addr->Option HO
def upd(H:Hp)(a:Addr)(o:HO):Hp:=λb=>if b=a then some o else H b
theorem aN{H:Hp}{a:Addr}{o:HO}:upd H a o a=some o:=by unfold upd;rw[Zag rfl]
theorem aK{H:Hp}{a b:Addr}{o:HO}(h:b≠a):upd H a o b=H b:=by unfold upd;rw[Zal h]
theorem Wv{H:Hp}{a b:Addr}{o u:HO}(h:H a=some o)(h':H b=some u)(d:o≠u):a≠b:=by
 intro e;subst e;rw[h] at h';exact d (Zaa h')
theorem bO{H:Hp}{a b:Addr}{o:HO}(h:H a=some o)(h':H b=none):a≠b:=by
 intro e;subst e;rw[h] at h';cases h'
def gO(h:Heap)(a:Addr)(items:Array Value):Prop:=IsTup h a items/\∀ o,h.get? a=some o->o.dict=none
theorem gO.new(h:Heap)(items:Array Value):gO (h.push { cls:=.type "tuple",data:=.seq items }) h.objs.size items:=⟨IsTup.new h items,λo e=>by rw[Zat _ rfl] at e;cases e;rfl⟩
theorem gO.mk{h:Heap}{a:Addr}{items:Array Value}{n:Nat}(e:h.get? a=some { cls:=.type "tuple",data:=.seq items n }):gO h a items:=⟨⟨_,e,rfl,_,rfl⟩,λo q=>by rw[e] at q;cases q;rfl⟩
theorem gO.lt{h:Heap}{a:Addr}{items:Array Value}(x:gO h a items):a<h.objs.size:=x.1.lt
theorem gO.at'{h h':Heap}{a:Addr}{items:Array Value}(x:gO h a items)(e:∀ o,h.get? a=some o->h'.get? a=some o):gO h' a items:=by
 obtain⟨⟨o,h1,r⟩,d⟩:=x;exact⟨⟨o,e o h1,r⟩,λu q=>by rw[e o h1] at q;cases q;exact d o h1⟩
section
variable(P:Program)(w:World)
def dB(H:Hp)(h:Heap)(a:Addr):HO->Prop
 |.lst xs=>xs.length<=sizeLine/\∃ (its:List Value) (n:Nat),Vals xs its/\h.get? a=some { cls:=.type "list",data:=.seq its.toArray n }
 |.tup xs=>xs.length<=sizeLine/\∃ its:List Value,Vals xs its/\gO h a its.toArray
 |.dK kvs=>kvs.length<=sizeLine/\(a==sysModules)=false/\∃ vs,KV kvs vs/\h.DictOf (cF P w) a vs
 |.dT kvs=>kvs.length<=sizeLine/\(a==sysModules)=false/\∃ xs:List (List Key×Addr×Value),
   Paired (λ(p:List Key×V) (q:List Key×Addr×Value)=>p.1=q.1/\H q.2.1=some (.tup (p.1.map kV))/\RelV p.2 q.2.2) kvs xs /\
   ∃ o es ep,h.get? a=some o/\o.ExactDict/\o.data=.dict es ep/\es.toList=xs.map (entryOfKey (tupleKind (cF P w)))/\(xs.map (·.1)).Nodup
 |.set S n=>h.SetOf (intKind P w) a S n
 |.ins C dx fs=>H dx=some (.own a)/\fs.length<=1000/\dx≠a/\h.get? a=some (instObj C dx) /\
   ∃ mA,h.Ns1 dx mA/\(∀ f,kO (fs.lookup f) (mA f))/\PySem.Within mA (fs.map (·.1))
 |.own _=>∃ o,h.get? a=some o
 |.xd fs=>∃ mA,h.Ns1 a mA/\∀ f,kO (fs.lookup f) (mA f)
 |.rng lo hi=>∃ t u v,h.get? a=some { cls:=.type "range",data:=.fields #[.int lo t,.int hi u,.int 1 v] }
 |.frz o u=>h.get? a=some o/\dB H h a u
 |.tbl ps=>h.get? a=some { cls:=.none,data:=.fields ps }
 |.met f x=>h.get? a=some (PySem.W.methodObj (.ref f) (.ref x))
 |.ext φ=>φ h/\(∃ o,h.get? a=some o)/\∀ h1 h2:Heap,φ h1->(∀ o,h1.get? a=some o->h2.get? a=some o)->φ h2
def HOk(H:Hp)(h:Heap):Prop:=∀ a o,H a=some o->dB P w H h a o
end
section
variable{P:Program}{w:World}{H H':Hp}{h h':Heap}{a:Addr}{o:HO}
theorem dB.lt(x:dB P w H h a o):a<h.objs.size:=by
 cases o with
 |lst xs=>obtain⟨_,_,_,_,e⟩:=x;exact Zak e
 |tup xs=>obtain⟨_,_,_,p⟩:=x;exact p.lt
 |dK kvs=>obtain⟨_,_,_,_,o,_,_,e,_⟩:=x;exact Zak e
 |dT kvs=>obtain⟨_,_,_,_,o,_,_,e,_⟩:=x;exact Zak e
 |set S n=>obtain⟨o,_,_,_,e,_⟩:=x;exact Zak e
 |ins C dx fs=>obtain⟨_,_,_,e,_⟩:=x;exact Zak e
 |own y=>obtain⟨_,e⟩:=x;exact Zak e
 |xd fs=>obtain⟨_,⟨_,_,_,e,_⟩,_⟩:=x;exact Zak e
 |rng lo hi=>obtain⟨_,_,_,e⟩:=x;exact Zak e
 |frz ob u=>obtain⟨e,_⟩:=x;exact Zak e
 |tbl ps=>exact Zak (show h.get? a=some _ from x)
 |met f y=>exact Zak (show h.get? a=some _ from x)
 |ext φ=>obtain⟨_,⟨_,e⟩,_⟩:=x;exact Zak e
theorem Paired.Va{α β:Type}{F G:α->β->Prop}:∀ {l₁:List α}{l₂:List β},Paired F l₁ l₂->(∀ a b,F a b->G a b)->Paired G l₁ l₂
 |_,_,.nil,_=>.nil
 |_,_,.cons r t,f=>.cons (f _ _ r) (Paired.Va t f)
theorem dB.stay(x:dB P w H h a o)(k:∀ b u,(b=a\/H b=some (.own a))->h.get? b=some u->h'.get? b=some u)
  (ho:∀ b,H b=some (.own a)->H' b=some (.own a))(ht:∀ b xs,H b=some (.tup xs)->H' b=some (.tup xs)):dB P w H' h' a o:=by
 induction o with
 |lst xs=>obtain⟨z,its,n,r,e⟩:=x;exact⟨z,its,n,r,k _ _ (.inl rfl) e⟩
 |tup xs=>obtain⟨z,its,r,c⟩:=x;exact⟨z,its,r,c.at' λo e=>k _ _ (.inl rfl) e⟩
 |dK kvs=>obtain⟨z,y,vs,r,ob,es,ep,e,c⟩:=x;exact⟨z,y,vs,r,ob,es,ep,k _ _ (.inl rfl) e,c⟩
 |dT kvs=>
  obtain⟨z,y,xs,r,ob,es,ep,e,c⟩:=x;exact⟨z,y,xs,Paired.Va r λp q z=>⟨z.1,ht _ _ z.2.1,z.2.2⟩,ob,es,ep,k _ _ (.inl rfl) e,c⟩
 |set S n=>obtain⟨ob,es,ep,t,e,c⟩:=x;exact⟨ob,es,ep,t,k _ _ (.inl rfl) e,c⟩
 |ins C dx fs=>
  obtain⟨d,z,ne,e,mA,⟨od,es,ep,e2,c⟩,r⟩:=x;exact⟨ho _ d,z,ne,k _ _ (.inl rfl) e,mA,⟨od,es,ep,k _ _ (.inr d) e2,c⟩,r⟩
 |own y=>obtain⟨ob,e⟩:=x;exact⟨ob,k _ _ (.inl rfl) e⟩
 |xd fs=>obtain⟨mA,⟨od,es,ep,e,c⟩,r⟩:=x;exact⟨mA,⟨od,es,ep,k _ _ (.inl rfl) e,c⟩,r⟩
 |rng lo hi=>obtain⟨t,u,v,e⟩:=x;exact⟨t,u,v,k _ _ (.inl rfl) e⟩
 |frz ob u ih=>obtain⟨e,q⟩:=x;exact⟨k _ _ (.inl rfl) e,ih q⟩
 |tbl ps=>
  have e:h.get? a=some { cls:=.none,data:=.fields ps }:=x;show h'.get? a=some { cls:=.none,data:=.fields ps }
  exact k a _ (.inl rfl) e
 |met f y=>
  have e:h.get? a=some (PySem.W.methodObj (.ref f) (.ref y)):=x;show h'.get? a=some (PySem.W.methodObj (.ref f) (.ref y))
  exact k a _ (.inl rfl) e
 |ext φ=>obtain⟨p,⟨o,e⟩,st⟩:=x;exact⟨st _ _ p λo q=>k _ _ (.inl rfl) q,⟨o,k _ _ (.inl rfl) e⟩,st⟩
theorem HOk.lt(x:HOk P w H h)(e:H a=some o):a<h.objs.size:=(x a o e).lt
theorem HOk.fresh(x:HOk P w H h)(e:h.objs.size<=a):H a=none:=by
 cases q:H a with
 |none=>rfl
 |some u=>exact absurd (Zan (x.lt q) e) (Za1 _)
theorem HOk.kept(x:HOk P w H h)(k:∀ b u,h.get? b=some u->h'.get? b=some u):HOk P w H h':=λa o e=>
 (x a o e).stay (λb u _ q=>k b u q) (λ_ q=>q) λ_ _ q=>q
theorem HOk.laid(x:HOk P w H h)(k:∀ b u,h.get? b=some u->h'.get? b=some u)(hp:h.objs.size<=a)(new:dB P w (upd H a o) h' a o):HOk P w (upd H a o) h':=λb u e=>by
 have hn:=x.fresh hp;by_cases hb:b=a
 ·subst hb;rw[aN] at e;cases e;exact new
 ·rw[aK hb] at e;exact(x b u e).stay (λc v _ q=>k c v q) (λc q=>by rw[aK (bO q hn)];exact q) λc xs q=>by rw[aK (bO q hn)];exact q
end
def Rd(H:Hp)(a:Addr)(u:HO):Prop:=H a=some u\/∃ o,H a=some (.frz o u)
theorem Rd.ok{P:Program}{w:World}{H:Hp}{h:Heap}{a:Addr}{u:HO}(r:Rd H a u)(x:HOk P w H h):dB P w H h a u:=by
 rcases r with r|⟨o,r⟩
 ·exact x a u r
 ·obtain⟨_,q⟩:=x a _ r;exact q
def Mut:Option HO->Prop
 |some (.lst _)=>True
 |some (.dK _)=>True
 |some (.dT _)=>True
 |some (.set _ _)=>True
 |some (.ins _ _ _)=>True
 |some (.ext _)=>True
 |_=>False
section
variable{P:Program}{w:World}{H:Hp}{h h':Heap}{x e:Addr}{o':HO}
theorem HOk.write(ok:HOk P w H h)(mu:Mut (H x))(he:e=x\/H e=some (.own x))(k:∀ b u,b≠e->h.get? b=some u->h'.get? b=some u)(heo:∃ u,h'.get? e=some u)
  (new:dB P w (upd H x o') h' x o'):HOk P w (upd H x o') h':=λb u q=>by
 have nown:∀ c y,H c=some (.own y)->c≠x:=λc y r z=>by subst z;rw[r] at mu;exact mu
 have ntup:∀ c xs,H c=some (.tup xs)->c≠x:=λc xs r z=>by subst z;rw[r] at mu;exact mu
 by_cases hb:b=x
 ·subst hb;rw[aN] at q;cases q;exact new
 ·rw[aK hb] at q;by_cases hbe:b=e
  ·have q':H b=some (.own x):=by
    rcases he with z|z
    ·exact absurd (hbe.trans z) hb
    ·rw[hbe];exact z
   rw[q] at q';cases q';obtain⟨v,hv⟩:=heo;exact⟨v,by rw[hbe];exact hv⟩
  ·refine(ok b u q).stay (λc v hc r=>k c v ?_ r) (λc r=>by rw[aK (nown c b r)];exact r) λc xs r=>by rw[aK (ntup c xs r)];exact r
   rcases hc with rfl|hc
   ·exact hbe
   ·rintro rfl;rcases he with z|z
    ·exact nown c b hc z
    ·rw[hc] at z;cases z;exact hb rfl
end
structure Un(fs ex:List Addr)(H H':Hp)(h h':Heap):Prop where
 keep:∀ b o,h.get? b=some o->H b=none->b ∉ fs->b ∉ ex->h'.get? b=some o
 slot:∀ b o,h.get? b=some o->H b=none->b∈fs->b ∉ ex->∃ sl,h'.get? b=some { o with slots:=sl }
 free:∀ b o,h.get? b=some o->H b=none->b ∉ ex->H' b=none
 there:∀ b o,h.get? b=some o->b ∉ ex->∃ o',h'.get? b=some o'
 tups:∀ b xs,H b=some (.tup xs)->H' b=some (.tup xs)
 frzs:∀ b o u,H b=some (.frz o u)->H' b=some (.frz o u)
 tbls:∀ b ps,H b=some (.tbl ps)->∃ more,H' b=some (.tbl (ps++more))
section
variable{fs ex:List Addr}{H H1:Hp}{h h1 h':Heap}{a x e:Addr}{o:HO}
theorem Un.any(u:Un fs ex H H1 h h1){b:Addr}{ob:Obj}(q:h.get? b=some ob)(n:H b=none)(hx:b ∉ ex):∃ sl,h1.get? b=some { ob with slots:=sl }:=by
 by_cases hb:b∈fs
 ·exact u.slot b ob q n hb hx
 ·exact⟨ob.slots,u.keep b ob q n hb hx⟩
theorem Un.kept(k:∀ b u,h.get? b=some u->h'.get? b=some u):Un fs ex H H h h':=
 ⟨λb ob q _ _ _=>k b ob q,λb ob q _ _ _=>⟨ob.slots,k b ob q⟩,λ_ _ _ n _=>n,λb ob q _=>⟨ob,k b ob q⟩,λ_ _ q=>q,λ_ _ _ q=>q,λ_ ps q=>⟨#[],by rw[q];simp⟩⟩
theorem Un.refl:Un fs ex H H h h:=Un.kept λ_ _ q=>q
theorem Un.laid(k:∀ b u,h.get? b=some u->h'.get? b=some u)(hp:h.objs.size<=a)(hn:H a=none):Un fs ex H (upd H a o) h h' where
 keep:=λb u q _ _ _=>k b u q
 slot:=λb u q _ _ _=>⟨u.slots,k b u q⟩
 free:=λb u q n _=>by rw[aK (Zaz (Zan (Zak q) hp))];exact n
 there:=λb u q _=>⟨u,k b u q⟩
 tups:=λb xs q=>by rw[aK (bO q hn)];exact q
 frzs:=λb u xs q=>by rw[aK (bO q hn)];exact q
 tbls:=λb ps q=>⟨#[],by rw[aK (bO q hn),q];simp⟩
theorem Un.write(mu:Mut (H x))(he:e=x\/H e=some (.own x))(k:∀ b u,b≠e->h.get? b=some u->h'.get? b=some u)(heo:∃ u,h'.get? e=some u):Un fs ex H (upd H x o) h h':=by
 have hx:∀ b,H b=none->b≠x:=λb n z=>by subst z;rw[n] at mu;exact mu
 have hb:∀ b,H b=none->b≠e:=λb n z=>by
  subst z;rcases he with r|r
  ·exact hx b n r
  ·rw[n] at r;cases r
 have hm:∀ b u,H b=some u->¬Mut (some u)->b≠x:=λb u q nm z=>by subst z;rw[q] at mu;exact nm mu
 refine⟨λb u q n _ _=>k b u (hb b n) q,λb u q n _ _=>⟨u.slots,k b u (hb b n) q⟩,λb u q n _=>by rw[aK (hx b n)];exact n,λb u q _=>?_,
  λb xs q=>by rw[aK (hm b _ q λz=>z)];exact q,λb u xs q=>by rw[aK (hm b _ q λz=>z)];exact q,λb ps q=>⟨#[],by rw[aK (hm b _ q λz=>z),q];simp⟩⟩
 by_cases hbe:b=e
 ·subst hbe;exact heo
 ·exact⟨u,k b u hbe q⟩
end
def trk(h:Heap)(H:Hp):List Addr:=(List.range h.objs.size).filter λa=>(H a).isSome
def zZ(h:Heap)(H:Hp):Heap:=PySem.W.hideAll h (trk h H)
theorem Kz(h:Heap)(H:Hp):(zZ h H).objs.size=h.objs.size:=PySem.W.hideAll_size _ _
theorem M3{h:Heap}{H:Hp}{b:Addr}{o:Obj}(e:h.get? b=some o)(n:H b=none):(zZ h H).get? b=some o:=
 PySem.W.hideAll_get _ e λhm=>by
  have q:(H b).isSome=true:=(Zbt.mp hm).2;rw[n] at q;simp at q
theorem Rg{h:Heap}{H:Hp}{b:Addr}{o:Obj}(e:(zZ h H).get? b=some o):h.get? b=some o/\H b=none:=by
 have e':h.get? b=some o:=PySem.W.of_hideAll (trk h H) e;refine⟨e',?_⟩;cases q:H b with
 |none=>rfl
 |some x=>
  have hm:b∈trk h H:=Zbt.mpr ⟨Za2.mpr (Zak e'),by simp[q]⟩
  have z:(zZ h H).get? b=none:=PySem.W.hideAll_none (trk h H) hm;rw[z] at e;cases e
def Rh(g h:Heap)(L:Addr):List (Addr×Obj):=(List.range h.objs.size).filterMap λa=>if a=L\/(g.get? a).isSome=true then none else(h.get? a).map λo=>(a,o)
def rest(g h:Heap)(L d:Addr):List (Addr×Obj):=(Rh g h L).filter λp=>decide (p.1≠d)
structure Mod(K:PySem.W.Frag)(mg:Str->Option Value)(base:Heap):Prop where
 kin:K.In base
 glob:base.Ns mainGlobals mg
 blt:∃ mb,base.Ns builtinsNs mb/\∀ x:Str,x≠"__name__"->mb x=bootBuiltins x
 nolimit:base.NoLimit
structure Cx where
 prog:Program
 w:World
 K:PySem.W.Frag
 mg:Str->Option Value
 base:Heap
 A:Around
 N:List Str
 s₀:Shared
 H₀:Hp
 env:Env
 outer:List Env
 stack:List Env
 ex:List Addr
 fn:Str->Bool
 calm:Bool
 pn:List (Addr×Obj)
 xe:Value->Shared->Prop
def frs(l:List Env):List Addr:=l.filterMap (·.frame)
noncomputable abbrev Cx.fs(X:Cx):List Addr:=frs X.outer
def Vis(sc:Scope)(x:Str):Prop:=sc.names.lookup x=some .local\/sc.names.lookup x=some .cell\/sc.names.lookup x=some .free
def Loc(sc:Scope)(x:Str):Prop:=sc.names.lookup x=some .local\/sc.names.lookup x=some .cell
def Look(env:Env)(h:Heap)(m:Str->Option Value)(x:Str)(u:Value):Prop:=
 (env.kindOf x=some .local/\m x=some u)\/((env.kindOf x=some .cell\/env.kindOf x=some .free)/\∃ c,env.cells.lookup x=some c/\h.IsCell c (some u))
structure Cx.Ok(X:Cx):Prop where
 mod:Mod X.K X.mg X.base
 kind:X.env.scope.kind=.function
 glob:X.env.globals=mainGlobals
 blt:X.env.builtins=builtinsNs
 above:X.s₀.heap.objs.size<=X.env.locals
 inj:∀ x y c,X.env.cells.lookup x=some c->X.env.cells.lookup y=some c->x=y
 has:∀ x,(X.env.kindOf x=some .cell\/X.env.kindOf x=some .free)->∃ c,X.env.cells.lookup x=some c
 cab:∀ x c,X.fn x=true->X.env.cells.lookup x=some c->X.s₀.heap.objs.size<=c
 hd:X.calm=true->X.A.handled=none
 frames:X.A.frames=some X.stack
 stk:X.stack=X.outer\/(X.stack=X.env::X.outer/\X.env.frame=some X.env.locals)
 exf:∀ b∈X.ex,b≠X.env.locals/\∀ x c,X.env.cells.lookup x=some c->c≠b
 bs:∀ b o,X.base.get? b=some o->X.s₀.heap.get? b=some o/\X.H₀ b=none
 bsz:X.base.objs.size<=X.s₀.heap.objs.size
 noex:∀ b o,X.base.get? b=some o->b ∉ X.ex
 exfs:∀ b∈X.ex,b ∉ X.fs
 qM:X.s₀.heap.FunFrames X.base X.outer
 frf:∀ b∈X.fs,X.H₀ b=none
structure Inv(X:Cx)(pins:List (Addr×Obj))(σ:List (Option V))(H:Hp)(s:Shared):Prop where
 ok:X.Ok
 os:s.os=X.s₀.os
 bare:AllBare s.gens
 base:Un X.fs X.ex X.H₀ H X.s₀.heap s.heap
 loc:∃ m,s.heap.Ns X.env.locals m/\∀ (i:Nat) (x:Str) (v:V),X.N[i]?=some x->σ[i]?=some (some v)->Vis X.env.scope x->∃ u,RelV v u/\Look X.env s.heap m x u
 cell:∀ x c,X.env.cells.lookup x=some c->∃ v,s.heap.IsCell c v
 free:H X.env.locals=none
 freeC:∀ x c,X.env.cells.lookup x=some c->H c=none
 pin:∀ p∈X.pn++pins,s.heap.get? p.1=some p.2/\H p.1=none/\p.1≠X.env.locals/\p.1 ∉ X.fs/\∀ v,p.2.data≠.cell v
 hok:HOk X.prog X.w H s.heap
 len:σ.length=X.N.length
section
variable{X:Cx}{pins:List (Addr×Obj)}{σ:List (Option V)}{H H':Hp}{s:Shared}{h':Heap}
theorem Cx.Ok.Vb(ok:X.Ok){b:Addr}{o:Obj}(e:X.base.get? b=some o):b ∉ X.fs:=λhb=>by
 have:=(ok.qM.mem hb).1;rw[e] at this;cases this
theorem Inv.bs(I:Inv X pins σ H s):∀ b o,X.base.get? b=some o->s.heap.get? b=some o/\H b=none:=λb o e=>
 ⟨I.base.keep b o (I.ok.bs b o e).1 (I.ok.bs b o e).2 (I.ok.Vb e) (I.ok.noex b o e),I.base.free b o (I.ok.bs b o e).1 (I.ok.bs b o e).2 (I.ok.noex b o e)⟩
theorem Inv.bk(I:Inv X pins σ H s):∀ b o,X.base.get? b=some o->s.heap.get? b=some o:=λb o e=>(I.bs b o e).1
theorem Inv.mod(I:Inv X pins σ H s):Mod X.K X.mg X.base:=I.ok.mod
theorem Inv.kIn(I:Inv X pins σ H s):X.K.In s.heap:=I.ok.mod.kin.keeps I.bk
theorem Inv.lt(I:Inv X pins σ H s):X.env.locals<s.heap.objs.size:=let⟨_,hn,_⟩:=I.loc;hn.lt
theorem Inv.sz(I:Inv X pins σ H s):X.s₀.heap.objs.size<=s.heap.objs.size:=ZaE I.ok.above (ZaZ I.lt)
theorem Inv.X7(I:Inv X pins σ H s){a:Addr}(h:s.heap.objs.size<=a):a ∉ X.fs:=λhb=>by
 obtain⟨_,o,ho,_⟩:=I.ok.qM.mem hb;exact absurd (Zan (Zak ho) (ZaE I.sz h)) (Za1 _)
theorem Inv.cne(I:Inv X pins σ H s):∀ x c,X.env.cells.lookup x=some c->c≠X.env.locals:=λx c e z=>by
 obtain⟨v,o,ho,hd⟩:=I.cell x c e;obtain⟨m,⟨o',es,ep,ho',hd',_⟩,_⟩:=I.loc;rw[z,ho'] at ho;cases ho;rw[hd'] at hd;cases hd
theorem Inv.qM(I:Inv X pins σ H s):s.heap.FunFrames X.base X.outer:=by
 have all:∀ (l:List Env),(∀ b∈frs l,b∈X.fs)->X.s₀.heap.FunFrames X.base l->s.heap.FunFrames X.base l:=by
  intro l;induction l with
  |nil=>intro _ _;trivial
  |cons env r ih=>
   intro hs hl;obtain⟨hk,⟨L,o,hf,hn,ho,hd⟩,hr⟩:=hl;have hL:L∈X.fs:=hs L (by unfold frs;rw[ZbQ,hf];exact ZaF)
   obtain⟨sl,e⟩:=I.base.slot L o ho (I.ok.frf L hL) hL λz=>I.ok.exfs L z hL;exact⟨hk,⟨L,_,hf,hn,e,hd⟩,ih (λb hb=>hs b (by unfold frs;rw[ZbQ,hf];exact Zar _ hb)) hr⟩
 exact all X.outer (λ_ hb=>hb) I.ok.qM
theorem Inv.stack(I:Inv X pins σ H s):s.heap.FunFrames X.base X.stack:=by
 rcases I.ok.stk with e|⟨e,hf⟩
 ·rw[e];exact I.qM
 ·rw[e];obtain⟨m,hn,_⟩:=I.loc;refine .cons (by rw[I.ok.kind];decide) hf hn ?_ I.qM
  exact Heap.get?_none_of_le (ZaE I.ok.bsz I.ok.above)
theorem Inv.z9(I:Inv X pins σ H s):∀ b∈frs X.stack,b∈X.env.locals::X.fs:=λb hb=>by
 rcases I.ok.stk with e|⟨e,hf⟩
 ·rw[e] at hb;exact Zar _ hb
 ·rw[e] at hb;unfold frs at hb;rw[ZbQ,hf] at hb;exact hb
theorem Inv.Aa(I:Inv X pins σ H s):∀ b∈frs X.stack,H b=none:=λb hb=>by
 rcases ZaJ.mp (I.z9 b hb) with e|hb
 ·rw[e];exact I.free
 ·obtain⟨_,o,ho,_⟩:=I.ok.qM.mem hb;exact I.base.free b o ho (I.ok.frf b hb) λz=>I.ok.exfs b z hb
theorem Inv.step{g':Array GenState}{t':Nat}{d':Drawn}{ch:List Addr}(I:Inv X pins σ H s)
  (hch:∀ b∈ch,(b∈X.ex\/X.s₀.heap.objs.size<=b)/\b≠X.env.locals/\(∀ x c,X.env.cells.lookup x=some c->c≠b)/\∀ p∈X.pn++pins,p.1≠b)
  (keep:∀ b o,b≠X.env.locals->b ∉ X.fs->b ∉ ch->s.heap.get? b=some o->H b=none->h'.get? b=some o)
  (slot:∀ b o,b≠X.env.locals->b∈X.fs->b ∉ ch->s.heap.get? b=some o->H b=none->∃ sl,h'.get? b=some { o with slots:=sl })(free:∀ b o,b ∉ ch->s.heap.get? b=some o->H b=none->H' b=none)
  (there:∀ b o,b ∉ ch->s.heap.get? b=some o->∃ o',h'.get? b=some o')
  (tups:∀ b xs,H b=some (.tup xs)->H' b=some (.tup xs))(frzs:∀ b o u,H b=some (.frz o u)->H' b=some (.frz o u))(tbls:∀ b ps,H b=some (.tbl ps)->∃ more,H' b=some (.tbl (ps++more)))
  (ns:∀ m,s.heap.Ns X.env.locals m->h'.Ns X.env.locals m)(hok:HOk X.prog X.w H' h')(hg:AllBare g') :
  Inv X pins σ H' { s with heap:=h',gens:=g',drawn:=d',toks:=t' }:=by
 have neL:∀ b o,X.s₀.heap.get? b=some o->b≠X.env.locals:=λb o e=>Zaz (Zan (Zak e) I.ok.above);have neC:∀ b o,X.s₀.heap.get? b=some o->b ∉ X.ex->b ∉ ch:=λb o e hx hb=>by
  rcases(hch b hb).1 with z|z
  ·exact hx z
  ·exact absurd (Zan (Zak e) z) (Za1 _)
 have cellK:∀ x c,X.env.cells.lookup x=some c->∀ v,s.heap.IsCell c v->h'.IsCell c v:=λx c e v ⟨o,ho,hd⟩=>by
  have nch:c ∉ ch:=λz=>(hch c z).2.2.1 x c e rfl;by_cases hc:c∈X.fs
  ·obtain⟨sl,q⟩:=slot c o (I.cne x c e) hc nch ho (I.freeC x c e);exact⟨_,q,hd⟩
  ·exact⟨o,keep c o (I.cne x c e) hc nch ho (I.freeC x c e),hd⟩
 refine⟨I.ok,I.os,hg,⟨λb o e n hb hx=>?_,λb o e n hb hx=>?_,λb o e n hx=>?_,λb o e hx=>?_,λb xs e=>tups b xs (I.base.tups b xs e),λb o xs e=>frzs b o xs (I.base.frzs b o xs e),λb ps e=>?_⟩,?_,λx c e=>?_,?_,λx c e=>?_,λp hp=>?_,hok,I.len⟩
 ·exact keep b o (neL b o e) hb (neC b o e hx) (I.base.keep b o e n hb hx) (I.base.free b o e n hx)
 ·obtain⟨sl,e1⟩:=I.base.slot b o e n hb hx;obtain⟨sl',e2⟩:=slot b _ (neL b o e) hb (neC b o e hx) e1 (I.base.free b o e n hx);exact⟨sl',e2⟩
 ·obtain⟨o',e1⟩:=I.base.there b o e hx;exact free b o' (neC b o e hx) e1 (I.base.free b o e n hx)
 ·obtain⟨o',e1⟩:=I.base.there b o e hx;exact there b o' (neC b o e hx) e1
 ·obtain⟨m1,e1⟩:=I.base.tbls b ps e;obtain⟨m2,e2⟩:=tbls b _ e1;exact⟨m1++m2,by rw[e2,Array.append_assoc]⟩
 ·obtain⟨m,hn,hl⟩:=I.loc;refine⟨m,ns m hn,λi x v e1 e2 e3=>?_⟩;obtain⟨u,r,l⟩:=hl i x v e1 e2 e3;refine⟨u,r,?_⟩;rcases l with l|⟨k,c,e,z⟩
  ·exact .inl l
  ·exact .inr ⟨k,c,e,cellK x c e _ z⟩
 ·obtain⟨v,z⟩:=I.cell x c e;exact⟨v,cellK x c e v z⟩
 ·obtain⟨m,⟨o,_,_,ho,_⟩,_⟩:=I.loc;exact free _ o (λz=>(hch _ z).2.1 rfl) ho I.free
 ·obtain⟨v,o,ho,hd⟩:=I.cell x c e;exact free c o (λz=>(hch c z).2.2.1 x c e rfl) ho (I.freeC x c e)
 ·obtain⟨e,n,ne,nf,d⟩:=I.pin p hp;have nch:p.1 ∉ ch:=λz=>(hch p.1 z).2.2.2 p hp rfl;exact⟨keep p.1 p.2 ne nf nch e n,free p.1 p.2 nch e n,ne,nf,d⟩
theorem Inv.un{t':Nat}(I:Inv X pins σ H s)(u:Un X.fs [] H H' s.heap h')(hok:HOk X.prog X.w H' h'):Inv X pins σ H' { s with heap:=h',toks:=t' }:=by
 obtain⟨m,⟨o,es,ep,ho,r⟩,_⟩:=id I.loc;obtain⟨sl,hL⟩:=u.any ho I.free (by simp)
 exact I.step (g':=s.gens) (d':=s.drawn) (ch:=[]) (λ_ z=>nomatch z) (λb o _ hb _ e n=>u.keep b o e n hb (by simp)) (λb o _ hb _ e n=>u.slot b o e n hb (by simp)) (λb o _ e n=>u.free b o e n (by simp)) (λb o _ e=>u.there b o e (by simp)) u.tups u.frzs u.tbls (λm' hm=>by
  obtain⟨o',es',ep',ho',r'⟩:=hm;rw[ho] at ho';cases ho';exact⟨_,es',ep',hL,r'⟩) hok I.bare
theorem Inv.call{g':Array GenState}{t':Nat}{d':Drawn}{ch:List Addr}(I:Inv X pins σ H s)(u:Un (frs X.stack) ch H H' s.heap h')(hok:HOk X.prog X.w H' h')(hg:AllBare g')
  (hch:∀ b∈ch,(b∈X.ex\/X.s₀.heap.objs.size<=b)/\b≠X.env.locals/\(∀ x c,X.env.cells.lookup x=some c->c≠b)/\∀ p∈X.pn++pins,p.1≠b) :
  Inv X pins σ H' { s with heap:=h',gens:=g',drawn:=d',toks:=t' }:=by
 obtain⟨m,⟨o,es,ep,ho,r⟩,_⟩:=id I.loc;obtain⟨sl,hL⟩:=u.any ho I.free λz=>(hch _ z).2.1 rfl;exact I.step (ch:=ch) hch (λb o hL hb hc e n=>u.keep b o e n (λz=>(ZaJ.mp (I.z9 b z)).elim hL hb) hc) (λb o _ _ hc e n=>u.any e n hc) (λb o hc e n=>u.free b o e n hc) (λb o hc e=>u.there b o e hc) u.tups u.frzs u.tbls (λm' hm=>by
  obtain⟨o',es',ep',ho',r'⟩:=hm;rw[ho] at ho';cases ho';exact⟨_,es',ep',hL,r'⟩) hok hg
theorem Inv.turned{t':Nat}{it:Addr}(I:Inv X pins σ H s)(k:∀ b o,b≠it->s.heap.get? b=some o->h'.get? b=some o)(hn:H it=none)(hL:it≠X.env.locals)
  (h1:it∈X.ex\/X.s₀.heap.objs.size<=it)(h2:∀ x c,X.env.cells.lookup x=some c->c≠it)(h3:∀ p∈X.pn++pins,p.1≠it):Inv X pins σ H { s with heap:=h',toks:=t' }:=by
 have nit:∀ b u,H b=some u->b≠it:=λb u e z=>by rw[z,hn] at e;cases e
 refine I.step (g':=s.gens) (d':=s.drawn) (ch:=[it]) (λb hb=>?_) (λb o _ _ hc e _=>k b o (λz=>hc (by simp[z])) e) (λb o _ _ hc e _=>⟨o.slots,k b o (λz=>hc (by simp[z])) e⟩) (λ_ _ _ _ n=>n)
  (λb o hc e=>⟨o,k b o (λz=>hc (by simp[z])) e⟩) (λ_ _ e=>e) (λ_ _ _ e=>e) (λb ps e=>⟨#[],by rw[e];simp⟩) (λm hm=>?_) (λb u e=>?_) I.bare
 ·have e:b=it:=by simpa using hb
  subst e;exact⟨h1,hL,h2,h3⟩
 ·obtain⟨o,es,ep,ho,r⟩:=hm;exact⟨o,es,ep,k _ o (Za0 hL) ho,r⟩
 ·refine(I.hok b u e).stay (λc v hc q=>k c v ?_ q) (λ_ q=>q) λ_ _ q=>q;rcases hc with z|z
  ·rw[z];exact nit b u e
  ·exact nit c _ z
theorem Inv.tok(I:Inv X pins σ H s)(t:Nat):Inv X pins σ H { s with toks:=t }:=I.un (h':=s.heap) (t':=t) Un.refl I.hok
theorem Inv.kept{t':Nat}(I:Inv X pins σ H s)(k:∀ b u,s.heap.get? b=some u->h'.get? b=some u):Inv X pins σ H { s with heap:=h',toks:=t' }:=I.un (Un.kept k) (I.hok.kept k)
theorem Inv.laid{a:Addr}{o:HO}{t':Nat}(I:Inv X pins σ H s)(k:∀ b u,s.heap.get? b=some u->h'.get? b=some u)(hp:s.heap.objs.size<=a)(new:dB X.prog X.w (upd H a o) h' a o) :
  Inv X pins σ (upd H a o) { s with heap:=h',toks:=t' }:=I.un (Un.laid k hp (I.hok.fresh hp)) (I.hok.laid k hp new)
theorem Inv.write{x e:Addr}{o:HO}{t':Nat}(I:Inv X pins σ H s)(mu:Mut (H x))(he:e=x\/H e=some (.own x))(k:∀ b u,b≠e->s.heap.get? b=some u->h'.get? b=some u)(heo:∃ u,h'.get? e=some u)
  (new:dB X.prog X.w (upd H x o) h' x o):Inv X pins σ (upd H x o) { s with heap:=h',toks:=t' }:=I.un (Un.write mu he k heo) (I.hok.write mu he k heo new)
theorem Inv.Jl{pins':List (Addr×Obj)}(I:Inv X pins σ H s)(h:∀ p∈pins',s.heap.get? p.1=some p.2/\H p.1=none/\p.1≠X.env.locals/\p.1 ∉ X.fs/\∀ v,p.2.data≠.cell v):Inv X pins' σ H s:=
 ⟨I.ok,I.os,I.bare,I.base,I.loc,I.cell,I.free,I.freeC,λp hp=>(Zcf.mp hp).elim (λz=>I.pin p (ZbM _ z)) (h p),I.hok,I.len⟩
theorem vJ{N:List Str}(hN:N.Nodup){i j:Nat}{x:Str}(a:N[i]?=some x)(b:N[j]?=some x):i=j:=by
 obtain⟨h1,e1⟩:=Zas.mp a;obtain⟨h2,e2⟩:=Zas.mp b;exact(List.getElem_inj hN).mp (e1.trans e2.symm)
theorem yQ{M:Model}{A:Around}{E:Value->Shared->Prop}{i:Nat}{x:Str}{v:V}{u:Value}{Q:Unit->Shared->Prop}(I:Inv X pins σ H s)(hN:X.N.Nodup)(hi:X.N[i]?=some x)(hx:Loc X.env.scope x)(r:RelV v u)
  (h:∀ s',Inv X pins (σ.set i (some v)) H s'->(∃ a,Heap.SameBut a s.heap s'.heap/\(a=X.env.locals\/X.env.cells.lookup x=some a))->Q () s')(hf:X.fn x=true\/X.env.scope.names.lookup x=some .local:=by first|exact .inl rfl|exact .inr rfl|assumption):wpAny M A (storeName X.env x u) Q E s:=by
 obtain⟨m,hn,hl⟩:=id I.loc;have hcls:(X.env.scope.kind==.class||(X.env.scope.kind==.module&&X.env.locals != X.env.globals))=false:=by rw[I.ok.kind];rfl
 have hiσ:i<σ.length:=by rw[I.len];exact(Zas.mp hi).1
 have cne:=I.cne;have tracked:∀ {a:Addr}{h':Heap},(∃ o,s.heap.get? a=some o/\H a=none)->Heap.SameBut a s.heap h'->HOk X.prog X.w H h':=λ{a h'} ha hs b ob e=>by
  obtain⟨_,_,hfree⟩:=ha;refine(I.hok b ob e).stay (λc w' hc q=>(hs.2 c ?_).trans q) (λ_ q=>q) λ_ _ q=>q;rintro rfl;rcases hc with rfl|hc
  ·rw[hfree] at e;cases e
  ·rw[hfree] at hc;cases hc
 rcases hx with hk|hk
 ·refine wpAny_storeName_local hk hn (λh' hn' hs=>?_) hcls;obtain⟨oL,_,_,hoL,_⟩:=id hn;refine h _ ⟨I.ok,I.os,I.bare,⟨λb o e n hb hx=>?_,λb o e n hb hx=>?_,I.base.free,λb o e hx=>?_,I.base.tups,I.base.frzs,I.base.tbls⟩,⟨_,hn',λj y v' e1 e2 e3=>?_⟩,λy c e=>?_,I.free,I.freeC,λp hp=>?_,tracked ⟨oL,hoL,I.free⟩ hs,by simpa using I.len⟩ ⟨_,hs,.inl rfl⟩
  ·exact(hs.2 b (Zaz (Zan (Zak e) I.ok.above))).trans (I.base.keep b o e n hb hx)
  ·obtain⟨sl,e1⟩:=I.base.slot b o e n hb hx;exact⟨sl,(hs.2 b (Zaz (Zan (Zak e) I.ok.above))).trans e1⟩
  ·obtain⟨o',e1⟩:=I.base.there b o e hx;exact⟨o',(hs.2 b (Zaz (Zan (Zak e) I.ok.above))).trans e1⟩
  ·by_cases hj:j=i
   ·subst hj;rw[hi] at e1;cases e1;rw[ZaI hiσ] at e2;cases e2;exact⟨u,r,.inl ⟨hk,by simp⟩⟩
   ·rw[Zab (Za0 hj)] at e2;obtain⟨u',r',q⟩:=hl j y v' e1 e2 e3;refine⟨u',r',?_⟩;rcases q with⟨k,e⟩|⟨k,c,e,z⟩
    ·refine .inl ⟨k,?_⟩;have:y≠x:=λe=>hj (vJ hN e1 (e▸hi));simp[this,e]
    ·exact .inr ⟨k,c,e,z.sameBut hs (cne y c e)⟩
  ·obtain⟨w',z⟩:=I.cell y c e;exact⟨w',z.sameBut hs (cne y c e)⟩
  ·obtain⟨e,n,ne,nf,d⟩:=I.pin p hp;exact⟨(hs.2 p.1 ne).trans e,n,ne,nf,d⟩
 ·have hfn:X.fn x=true:=by
   rcases hf with z|z
   ·exact z
   ·rw[z] at hk;cases hk
  obtain⟨c,hc⟩:=I.ok.has x (.inl hk);obtain⟨w',z⟩:=I.cell x c hc;refine wpAny_storeName_cell I.ok.kind hk hc z (λh' hc' hs=>?_);obtain⟨oc,hoc,hocd⟩:=id z;refine h { s with heap:=h' } ⟨I.ok,I.os,I.bare,⟨λb o e n hb hx=>?_,λb o e n hb hx=>?_,I.base.free,λb o e hx=>?_,I.base.tups,I.base.frzs,I.base.tbls⟩,⟨m,hn.sameBut hs (Za0 (cne x c hc)),λj y v' e1 e2 e3=>?_⟩,λy c' e=>?_,I.free,I.freeC,λp hp=>?_,tracked ⟨oc,hoc,I.freeC x c hc⟩ hs,by simpa using I.len⟩ ⟨c,hs,.inr hc⟩
  ·exact(hs.2 b (Zaz (Zan (Zak e) (I.ok.cab x c hfn hc)))).trans (I.base.keep b o e n hb hx)
  ·obtain⟨sl,e1⟩:=I.base.slot b o e n hb hx;exact⟨sl,(hs.2 b (Zaz (Zan (Zak e) (I.ok.cab x c hfn hc)))).trans e1⟩
  ·obtain⟨o',e1⟩:=I.base.there b o e hx;exact⟨o',(hs.2 b (Zaz (Zan (Zak e) (I.ok.cab x c hfn hc)))).trans e1⟩
  ·by_cases hj:j=i
   ·subst hj;rw[hi] at e1;cases e1;rw[ZaI hiσ] at e2;cases e2;exact⟨u,r,.inr ⟨.inl hk,c,hc,hc'⟩⟩
   ·rw[Zab (Za0 hj)] at e2;obtain⟨u',r',q⟩:=hl j y v' e1 e2 e3;refine⟨u',r',?_⟩;rcases q with q|⟨k,c',e,z'⟩
    ·exact .inl q
    ·refine .inr ⟨k,c',e,z'.sameBut hs ?_⟩;rintro rfl;exact hj (vJ hN e1 (I.ok.inj _ _ _ e hc▸hi))
  ·by_cases hcc:c'=c
   ·subst hcc;exact⟨_,hc'⟩
   ·obtain⟨w2,z2⟩:=I.cell y c' e;exact⟨w2,z2.sameBut hs hcc⟩
  ·obtain⟨e,n,ne,nf,d⟩:=I.pin p hp;refine⟨(hs.2 p.1 ?_).trans e,n,ne,nf,d⟩;intro q;rw[q,hoc] at e;have q':oc=p.2:=Zaa e;exact d w' (by rw[<-q'];exact hocd)
theorem rD{M:Model}{A:Around}{E:Value->Shared->Prop}{i:Nat}{x:Str}{v:V}{u:Value}{Q:Unit->Shared->Prop}(I:Inv X pins σ H s)(hN:X.N.Nodup)(hi:X.N[i]?=some x)(hx:Loc X.env.scope x)(r:RelV v u)
  (h:∀ s',Inv X pins (σ.set i (some v)) H s'->Q () s')(hf:X.fn x=true\/X.env.scope.names.lookup x=some .local:=by first|exact .inl rfl|exact .inr rfl|assumption):wpAny M A (storeName X.env x u) Q E s:=
 yQ I hN hi hx r (λs' I' _=>h s' I') hf
theorem Inv.call'{s':Shared}{ch:List Addr}(I:Inv X pins σ H s)(ho:s'.os=s.os)(u:Un (frs X.stack) ch H H' s.heap s'.heap)(hok:HOk X.prog X.w H' s'.heap)(hg:AllBare s'.gens)
  (hch:∀ b∈ch,(b∈X.ex\/X.s₀.heap.objs.size<=b)/\b≠X.env.locals/\(∀ x c,X.env.cells.lookup x=some c->c≠b)/\∀ p∈X.pn++pins,p.1≠b):Inv X pins σ H' s':=by
 obtain⟨h',g',d',t',o'⟩:=s';have e:o'=s.os:=ho;subst e;exact I.call (g':=g') (t':=t') (d':=d') u hok hg hch
end
noncomputable abbrev XK:=Value->Option Addr->Hp->Prop
noncomputable abbrev St:=List (Option V)
noncomputable abbrev VK:=V->Hp->Prop
noncomputable abbrev TE:=St->Hp->VK->Prop
noncomputable abbrev TT:=St->Hp->(Bool->Hp->Prop)->Prop
noncomputable abbrev TA:=St->Hp->(List V->Hp->Prop)->Prop
structure Ends where
 nx:St->Hp->Prop
 rt:VK
 bk:St->Hp->Prop:=λ_ _=>False
 ct:St->Hp->Prop:=λ_ _=>False
noncomputable abbrev TS:=Ends->St->Hp->Prop
def EP(X:Cx)(pins:List (Addr×Obj))(σ:St)(Q:VK)(u:Value)(s':Shared):Prop:=∃ v H',Inv X pins σ H' s'/\RelV v u/\Q v H'
def TP(X:Cx)(pins:List (Addr×Obj))(σ:St)(Q:Bool->Hp->Prop)(b:Bool)(s':Shared):Prop:=∃ H',Inv X pins σ H' s'/\Q b H'
def AP(X:Cx)(pins:List (Addr×Obj))(σ:St)(Q:List V->Hp->Prop)(us:List Value)(s':Shared):Prop:=∃ vs H',Inv X pins σ H' s'/\Vals vs us/\Q vs H'
def SP(X:Cx)(pins:List (Addr×Obj))(D:Ends)(f:Flow)(s':Shared):Prop:=
 match f with
 |.next=>∃ σ' H',Inv X pins σ' H' s'/\D.nx σ' H'
 |.brk=>∃ σ' H',Inv X pins σ' H' s'/\D.bk σ' H'
 |.cont=>∃ σ' H',Inv X pins σ' H' s'/\D.ct σ' H'
 |.ret u=>∃ v σ' H',Inv X pins σ' H' s'/\RelV v u/\D.rt v H'
def PE(X:Cx)(e:Expr)(t:TE):Prop:=
 ∀ (pins:List (Addr×Obj)) (s:Shared) (σ:St) (H:Hp) (Q:VK),Inv X pins σ H s->t σ H Q->wpAny (model X.prog X.w) X.A (eval e X.env) (EP X pins σ Q) X.xe s
def PT(X:Cx)(e:Expr)(t:TT):Prop:=
 ∀ (pins:List (Addr×Obj)) (s:Shared) (σ:St) (H:Hp) (Q:Bool->Hp->Prop),Inv X pins σ H s->t σ H Q->wpAny (model X.prog X.w) X.A (isTrue e X.env (eval e X.env)) (TP X pins σ Q) X.xe s
def PW(X:Cx)(e:Expr)(t:TT):Prop:=
 ∀ (whole:Sem Value) (pins:List (Addr×Obj)) (s:Shared) (σ:St) (H:Hp) (Q:Bool->Hp->Prop),Inv X pins σ H s->t σ H Q->wpAny (model X.prog X.w) X.A (isTrue e X.env whole) (TP X pins σ Q) X.xe s
theorem PW.pt{X:Cx}{e:Expr}{t:TT}(h:PW X e t):PT X e t:=h _
def PA(X:Cx)(es:List Expr)(t:TA):Prop:=
 ∀ (pos:Pos) (pins:List (Addr×Obj)) (s:Shared) (σ:St) (H:Hp) (Q:List V->Hp->Prop),Inv X pins σ H s->t σ H Q->wpAny (model X.prog X.w) X.A (spliced (backTo pos (starEach es X.env))) (AP X pins σ Q) X.xe s
def PS(X:Cx)(st:Stmt)(t:TS):Prop:=
 ∀ (pins:List (Addr×Obj)) (s:Shared) (σ:St) (H:Hp) (D:Ends),Inv X pins σ H s->t D σ H->wpAny (model X.prog X.w) X.A (exec st X.env) (SP X pins D) X.xe s
def PSs(X:Cx)(st:List Stmt)(t:TS):Prop:=
 ∀ (pins:List (Addr×Obj)) (s:Shared) (σ:St) (H:Hp) (D:Ends),Inv X pins σ H s->t D σ H->wpAny (model X.prog X.w) X.A (execs st X.env) (SP X pins D) X.xe s
theorem thn{α:Type}{t:Sem α}{Q Q':α->Shared->Prop}{M:Model}{A:Around}{E:Value->Shared->Prop}{s:Shared}(h:wpAny M A t Q E s)(hQ:∀ a s,Q a s->Q' a s):wpAny M A t Q' E s:=ZaK h hQ λ_ _ x=>x
section
variable{X:Cx}
def my(i:Nat):TE:=λσ H Q=>∃ v,σ[i]?=some (some v)/\Q v H
def tC(v:V):TE:=λ_ H Q=>Q v H
theorem GJ{i:Nat}{x:Str}{pos:Pos}(hN:X.N[i]?=some x)(hv:Vis X.env.scope x)(hd:(x==("__debug__":Str))=false:=by decide)(hcd:(x==("__classdict__":Str))=false:=by decide):PE X (.Name x pos) (my i):=by
 intro pins s σ H Q I h;obtain⟨v,e,h⟩:=h;obtain⟨m,hn,hl⟩:=I.loc;obtain⟨u,r,l⟩:=hl i x v hN e hv;have fin:EP X pins σ Q u s:=⟨v,H,I,r,h⟩;rcases l with⟨hk,hm⟩|⟨hk,c,hc,hcell⟩
 ·exact wpAny_Name (wpAny_loadName_local I.ok.kind hk hn hm fin) hd
 ·rcases hk with hk|hk
  ·exact wpAny_Name (wpAny_loadName_cell I.ok.kind hk hc hcell fin) hd
  ·exact wpAny_Name (wpAny_loadName_free I.ok.kind hk hc hcell fin hcd) hd
theorem aA{i j pos}:PE X (.Constant (.int i) j pos) (tC (.int i)):=λ_ _ _ H _ I h=>wpAny_Constant_int ⟨.int i,H,I.tok _,⟨_,rfl⟩,h⟩
theorem m7{b j pos}:PE X (.Constant (.bool b) j pos) (tC (.bl b)):=λ_ _ _ H _ I h=>Constant_bool ⟨.bl b,H,I,rfl,h⟩
theorem M4{j pos}:PE X (.Constant .none j pos) (tC .non):=λ_ _ _ H _ I h=>Constant_none ⟨.non,H,I,rfl,h⟩
theorem cB{x j pos}:PE X (.Constant (.str x) j pos) (tC (.str x)):=λ_ _ _ H _ I h=>Calls.Constant_str ⟨.str x,H,I.tok _,⟨_,rfl⟩,h⟩
def Gl(X:Cx)(x:Str):Prop:=X.env.kindOf x=some .globalImplicit
theorem rE{E:Value->Shared->Prop}{pins:List (Addr×Obj)}{s:Shared}{σ:St}{H:Hp}{x:Str}{u:Value}{pos:Pos}{Q:Value->Shared->Prop}(I:Inv X pins σ H s)(hg:Gl X x)(hm:X.mg x=some u)(h:Q u s)
  (hd:(x==("__debug__":Str))=false:=by decide):wpAny (model X.prog X.w) X.A (eval (.Name x pos) X.env) Q E s:=
 Calls.Name_function_global I.ok.kind hg (Calls.loadGlobal_global (by rw[I.ok.glob];exact I.mod.glob.keeps I.bk) hm h) hd
theorem vK{E:Value->Shared->Prop}{pins:List (Addr×Obj)}{s:Shared}{σ:St}{H:Hp}{x:Str}{u:Value}{pos:Pos}{Q:Value->Shared->Prop}(I:Inv X pins σ H s)(hg:Gl X x)(hm:X.mg x=none)(hv:bootBuiltins x=some u)(h:Q u s)
  (hn:x≠"__name__":=by decide)(hd:(x==("__debug__":Str))=false:=by decide):wpAny (model X.prog X.w) X.A (eval (.Name x pos) X.env) Q E s:=by
 obtain⟨mb,h1,h2⟩:=I.mod.blt;exact Calls.Name_function_global I.ok.kind hg (Calls.loadGlobal_builtin (by rw[I.ok.glob];exact I.mod.glob.keeps I.bk) hm (by rw[I.ok.blt];exact h1.keeps I.bk) ((h2 x hn).trans hv) h) hd
theorem Ab{x:Str}{v:V}{u:Value}{pos:Pos}(hg:Gl X x)(hm:X.mg x=some u)(r:RelV v u)(hd:(x==("__debug__":Str))=false:=by decide):PE X (.Name x pos) (tC v):=
 λ_ _ _ H _ I h=>rE I hg hm ⟨v,H,I,r,h⟩ hd
theorem Ri{x:Str}{v:V}{u:Value}{pos:Pos}(hg:Gl X x)(hm:X.mg x=none)(hv:bootBuiltins x=some u)(r:RelV v u)(hn:x≠"__name__":=by decide)(hd:(x==("__debug__":Str))=false:=by decide):PE X (.Name x pos) (tC v):=
 λ_ _ _ H _ I h=>vK I hg hm hv ⟨v,H,I,r,h⟩ hn hd
variable{a b:Expr}{ta tb:TE}{pos:Pos}
def tB(t:TE):TT:=λσ H Q=>t σ H λx H1=>∃ c,x=.bl c/\Q c H1
theorem mz{e:Expr}{t:TE}(h:PE X e t)(he:∀ whole,isTrue e X.env whole=(do let v <-whole;standAt e.pos;holding [v] (truthy v)):=by intro _;rfl):PT X e (tB t):=by
 intro pins s σ H Q I hw;refine isTrue_plain (thn (h pins s σ H _ I hw) ?_) (he _);rintro v s1 ⟨x,H1,I1,r1,q1⟩;obtain⟨d,rfl,q⟩:=q1;cases r1;exact wpAny_truthy_bool ⟨H1,I1,q⟩
variable{tA tB':TT}{rest:List Expr}
def Ww(t u:TT):TT:=λσ H Q=>t σ H λc H1=>if c=true then u σ H1 Q else Q false H1
def tOr(t u:TT):TT:=λσ H Q=>t σ H λc H1=>if c=true then Q true H1 else u σ H1 Q
def Wx(t:TT):TT:=λσ H Q=>t σ H λc H1=>Q (!c) H1
theorem mD(ha:PT X a tA):PW X (.BoolOp .And [a] pos) tA:=by
 intro wh pins s σ H Q I h;refine isTrue_and (thn (ha pins s σ H Q I h) λc s1 e=>?_);cases c with
 |true=>exact isTrue_and_nil e
 |false=>exact e
theorem Ac(ha:PT X a tA):PW X (.BoolOp .Or [a] pos) tA:=by
 intro wh pins s σ H Q I h;refine isTrue_or (thn (ha pins s σ H Q I h) λc s1 e=>?_);cases c with
 |false=>exact isTrue_or_nil e
 |true=>exact e
theorem qN(ha:PT X a tA)(hb:PW X (.BoolOp .And (b::rest) pos) tB'):PW X (.BoolOp .And (a::b::rest) pos) (Ww tA tB'):=by
 intro wh pins s σ H Q I h;refine isTrue_and (thn (ha pins s σ H _ I h) ?_);rintro c s1 ⟨H1,I1,q1⟩;cases c with
 |true=>exact hb wh pins s1 σ H1 Q I1 q1
 |false=>exact⟨H1,I1,q1⟩
theorem Jm(ha:PT X a tA)(hb:PW X (.BoolOp .Or (b::rest) pos) tB'):PW X (.BoolOp .Or (a::b::rest) pos) (tOr tA tB'):=by
 intro wh pins s σ H Q I h;refine isTrue_or (thn (ha pins s σ H _ I h) ?_);rintro c s1 ⟨H1,I1,q1⟩;cases c with
 |true=>exact⟨H1,I1,q1⟩
 |false=>exact hb wh pins s1 σ H1 Q I1 q1
theorem nZ(ha:PT X a tA):PT X (.UnaryOp .Not a pos) (Wx tA):=by
 intro pins s σ H Q I h;exact isTrue_not (ha pins s σ H (λc H1=>Q (!c) H1) I h)
def T9(ta tb:TE):TE:=λσ H Q=>ta σ H λx H1=>∃ c,x=.bl c/\if c=true then tb σ H1 Q else Q (.bl false) H1
theorem GK{op}{t:TE}(h:PE X a t):PE X (.BoolOp op [a] pos) t:=λpins s σ H Q I hw=>BoolOp_one (h pins s σ H Q I hw)
theorem GP(ha:PE X a ta)(hb:PE X (.BoolOp .And (b::rest) pos) tb):PE X (.BoolOp .And (a::b::rest) pos) (T9 ta tb):=by
 intro pins s σ H Q I h;refine BoolOp_and (thn (ha pins s σ H _ I h) ?_);rintro v s1 ⟨x,H1,I1,r1,q1⟩;obtain⟨c,rfl,q1⟩:=q1;cases r1;refine wpAny_truthy_bool ?_;cases c with
 |true=>exact hb pins s1 σ H1 Q I1 q1
 |false=>exact⟨.bl false,H1,I1,rfl,q1⟩
end
def SqL(K:PySem.W.Frag)(H:Hp)(a:Addr)(xs:List V):Prop:=
 Rd H a (.lst xs) \/
  ∃ (o:Obj) (its:Array Value) (n:Nat),K.lookup a=some o/\o.cls=.type "list"/\o.dict=none/\o.data=.seq its n/\its.size<=sizeLine/\Vals xs its.toList
def SqT(K:PySem.W.Frag)(H:Hp)(a:Addr)(xs:List V):Prop:=
 Rd H a (.tup xs) \/
  ∃ (o:Obj) (its:Array Value) (n:Nat),K.lookup a=some o/\o.cls=.type "tuple"/\o.data=.seq its n/\its.size<=sizeLine/\Vals xs its.toList
def X8:Value->Option V
 |.none=>some .non
 |.bool b=>some (.bl b)
 |.int i _=>some (.int i)
 |.str x _=>some (.str x)
 |.bytes b _=>some (.byt b)
 |.float b _=>some (.flt b)
 |.ref a=>some (.ref a)
 |.type n=>some (.ty n)
 |_=>none
theorem RelV.abs{x:V}{u:Value}(r:RelV x u):X8 u=some x:=by
 cases x with
 |non=>cases r;rfl
 |bl _=>cases r;rfl
 |int _=>obtain⟨t,rfl⟩:=r;rfl
 |str _=>obtain⟨t,rfl⟩:=r;rfl
 |byt _=>obtain⟨t,rfl⟩:=r;rfl
 |flt _=>obtain⟨t,rfl⟩:=r;rfl
 |ref _=>cases r;rfl
 |ty _=>cases r;rfl
theorem RelV.inj{x y:V}{u:Value}(r:RelV x u)(q:RelV y u):x=y:=Zaa (r.abs.symm.trans q.abs)
theorem Vals.inj:∀ {xs ys:List V}{us:List Value},Vals xs us->Vals ys us->xs=ys
 |_,_,_,.nil,.nil=>rfl
 |_,_,_,.cons r t,.cons r' t'=>by rw[r.inj r',Vals.inj t t']
section
variable{X:Cx}{pins:List (Addr×Obj)}{σ:St}{H:Hp}{s:Shared}{a:Addr}{xs ys:List V}
theorem SqL.of{K:PySem.W.Frag}(h:H a=some (.lst xs)):SqL K H a xs:=.inl (.inl h)
theorem SqT.of{K:PySem.W.Frag}(h:H a=some (.tup xs)):SqT K H a xs:=.inl (.inl h)
theorem Inv.list(I:Inv X pins σ H s)(h:SqL X.K H a xs):∃ its:List Value,Vals xs its/\PlainL s.heap a its.toArray/\xs.length<=sizeLine:=by
 rcases h with h|⟨o,its,n,hk,hc,hd,hs,hz,r⟩
 ·obtain⟨z,its,n,r,e⟩:=h.ok I.hok;exact⟨its,r,⟨_,n,e,rfl,rfl,rfl⟩,z⟩
 ·refine⟨its.toList,r,⟨o,n,I.kIn a o hk,hc,hd,by simpa using hs⟩,?_⟩
  have e:=r.length;simp only[Zbc] at e;lia
theorem Inv.tuple(I:Inv X pins σ H s)(h:SqT X.K H a xs):∃ its:List Value,Vals xs its/\IsTup s.heap a its.toArray/\xs.length<=sizeLine:=by
 rcases h with h|⟨o,its,n,hk,hc,hs,hz,r⟩
 ·obtain⟨z,its,r,p⟩:=h.ok I.hok;exact⟨its,r,p.1,z⟩
 ·refine⟨its.toList,r,⟨o,I.kIn a o hk,hc,n,by simpa using hs⟩,?_⟩
  have e:=r.length;simp only[Zbc] at e;omega
theorem Inv.vL(I:Inv X pins σ H s)(h:SqL X.K H a xs)(h':SqL X.K H a ys):xs=ys:=by
 obtain⟨its,r,⟨o,n,e,_,_,d⟩,_⟩:=I.list h;obtain⟨its',r',⟨o',n',e',_,_,d'⟩,_⟩:=I.list h';rw[e] at e';cases e';rw[d] at d';injection d' with d1 _
 have:its=its':=by simpa using Zbh Array.toList d1
 subst this;exact r.inj r'
theorem Inv.yR(I:Inv X pins σ H s)(h:SqT X.K H a xs)(h':SqT X.K H a ys):xs=ys:=by
 obtain⟨its,r,⟨o,e,_,n,d⟩,_⟩:=I.tuple h;obtain⟨its',r',⟨o',e',_,n',d'⟩,_⟩:=I.tuple h';rw[e] at e';cases e';rw[d] at d';injection d' with d1 _
 have:its=its':=by simpa using Zbh Array.toList d1
 subst this;exact r.inj r'
end
noncomputable abbrev Cx.wish(X:Cx)(E:Value->Shared->Prop):Cx:={ X with xe:=E }
noncomputable abbrev Cx.nox(X:Cx):Cx:=X.wish λ_ _=>False
theorem Cx.Ok.wish{X:Cx}(ok:X.Ok)(E:Value->Shared->Prop):(X.wish E).Ok:=
 ⟨ok.mod,ok.kind,ok.glob,ok.blt,ok.above,ok.inj,ok.has,ok.cab,ok.hd,ok.frames,ok.stk,ok.exf,ok.bs,ok.bsz,ok.noex,ok.exfs,ok.qM,ok.frf⟩
theorem Cx.Ok.gP{X:Cx}{E:Value->Shared->Prop}(ok:(X.wish E).Ok):X.Ok:=
 ⟨ok.mod,ok.kind,ok.glob,ok.blt,ok.above,ok.inj,ok.has,ok.cab,ok.hd,ok.frames,ok.stk,ok.exf,ok.bs,ok.bsz,ok.noex,ok.exfs,ok.qM,ok.frf⟩
section
variable{X:Cx}{pins:List (Addr×Obj)}{σ:St}{H:Hp}{s:Shared}{E:Value->Shared->Prop}
theorem Inv.wish(I:Inv X pins σ H s)(E:Value->Shared->Prop):Inv (X.wish E) pins σ H s:=⟨I.ok.wish E,I.os,I.bare,I.base,I.loc,I.cell,I.free,I.freeC,I.pin,I.hok,I.len⟩
theorem Inv.gP(I:Inv (X.wish E) pins σ H s):Inv X pins σ H s:=⟨I.ok.gP,I.os,I.bare,I.base,I.loc,I.cell,I.free,I.freeC,I.pin,I.hok,I.len⟩
theorem SP.gP{D:Ends}{f:Flow}{s':Shared}(h:SP (X.wish E) pins D f s'):SP X pins D f s':=by
 cases f with
 |next=>obtain⟨σ',H',I,q⟩:=h;exact⟨σ',H',I.gP,q⟩
 |brk=>obtain⟨σ',H',I,q⟩:=h;exact⟨σ',H',I.gP,q⟩
 |cont=>obtain⟨σ',H',I,q⟩:=h;exact⟨σ',H',I.gP,q⟩
 |ret u=>obtain⟨v,σ',H',I,r,q⟩:=h;exact⟨v,σ',H',I.gP,r,q⟩
theorem PSs.nox{st:List Stmt}{t:TS}(h:PSs X.nox st t):PSs X st t:=λpins s σ H D I hw=>
 ZaK (h pins s σ H D (I.wish _) hw) (λ_ _ q=>q.gP) λ_ _ z=>False.elim z
end
section
variable{X:Cx}{st:Stmt}{rest:List Stmt}{t u:TS}{e:Expr}{te:TE}{pos:Pos}
def Ua:TS:=λD σ H=>D.nx σ H
def KC(t u:TS):TS:=λD σ H=>t { D with nx:=u D } σ H
theorem bQ:PSs X [] Ua:=λ_ _ σ H _ I h=>wpAny_execs_nil ⟨σ,H,I,h⟩
theorem aB(h1:PS X st t)(h2:PSs X rest u):PSs X (st::rest) (KC t u):=by
 intro pins s σ H D I h;refine wpAny_execs_cons (thn (h1 pins s σ H { D with nx:=u D } I h) λf s1 q=>?_);cases f with
 |next=>
  obtain⟨σ',H',I',q⟩:=q;exact h2 pins s1 σ' H' D I' q
 |ret v=>exact q
 |brk=>exact q
 |cont=>exact q
theorem aG(h1:PS X st t):PSs X [st] t:=by
 intro pins s σ H D I h;refine wpAny_execs_cons (thn (h1 pins s σ H D I h) λf s1 q=>?_);cases f with
 |next=>exact wpAny_execs_nil q
 |ret v=>exact q
 |brk=>exact q
 |cont=>exact q
theorem Inv.quiet{pins:List (Addr×Obj)}{σ:St}{H:Hp}{s:Shared}(I:Inv X pins σ H s):interactive X.env=false:=by simp[interactive,I.ok.kind]
def uG(te:TE):TS:=λD σ H=>te σ H λ_ H1=>D.nx σ H1
theorem eF(he:PE X e te)(hs:swapsWith e none pos.line X.env=pure false:=by rfl):PS X (.Expr e pos) (uG te):=by
 intro pins s σ H D I h;exact wpAny_Expr_any (thn (he pins s σ H _ I h) λv s1 ⟨x,H1,I1,r1,q1⟩=>⟨σ,H1,I1,q1⟩) I.quiet hs
def GQ(te:TE):TS:=λD σ H=>te σ H D.rt
theorem bh(he:PE X e te):PS X (.Return (some e) pos) (GQ te):=by
 intro pins s σ H D I h;exact wpAny_Return_some (thn (he pins s σ H _ I h) λv s1 ⟨x,H1,I1,r1,q1⟩=>⟨x,σ,H1,I1,r1,q1⟩)
def M5(c:TT)(t u:TS):TS:=λD σ H=>c σ H λb H1=>if b=true then t D σ H1 else u D σ H1
theorem dR{c:Expr}{a b:List Stmt}{tc:TT}(hc:PT X c tc)(ha:PSs X a t)(hb:PSs X b u):PS X (.If c a b pos) (M5 tc t u):=by
 intro pins s σ H D I h;refine wpAny_If (thn (hc pins s σ H _ I h) ?_);rintro d s1 ⟨H1,I1,q1⟩;cases d with
 |true=>exact ha pins s1 σ H1 D I1 q1
 |false=>exact hb pins s1 σ H1 D I1 q1
end
noncomputable abbrev TG:=V->St->Hp->(St->Hp->Prop)->Prop
noncomputable abbrev TGs:=List V->St->Hp->(St->Hp->Prop)->Prop
def PG(X:Cx)(target:Expr)(t:TG):Prop:=
 ∀ (pins:List (Addr×Obj)) (s:Shared) (σ:St) (H:Hp) (v:V) (u:Value) (Q:St->Hp->Prop),Inv X pins σ H s->RelV v u->t v σ H Q ->
  wpAny (model X.prog X.w) X.A (assign target X.env u) (λ_ s'=>∃ σ' H',Inv X pins σ' H' s'/\Q σ' H') X.xe s
def PGs(X:Cx)(ts:List Expr)(t:TGs):Prop:=
 ∀ (pins:List (Addr×Obj)) (s:Shared) (σ:St) (H:Hp) (vs:List V) (us:List Value) (Q:St->Hp->Prop),Inv X pins σ H s->Vals vs us->t vs σ H Q ->
  wpAny (model X.prog X.w) X.A (assignInOrder ((assignEach ts X.env).map (·.2)) us) (λ_ s'=>∃ σ' H',Inv X pins σ' H' s'/\Q σ' H') X.xe s
noncomputable abbrev Vc:=V->V->V->Hp->(Hp->Prop)->Prop
def Wy(X:Cx)(t:Vc):Prop:=
 ∀ (pins:List (Addr×Obj)) (s:Shared) (σ:St) (H:Hp) (o i v:V) (ov iv u:Value) (Q:Hp->Prop),Inv X pins σ H s->RelV o ov->RelV i iv->RelV v u->t o i v H Q ->
  wpAny (model X.prog X.w) X.A (setItem ov iv u) (λ_ s'=>∃ H',Inv X pins σ H' s'/\Q H') X.xe s
section
variable{X:Cx}{pos:Pos}
def lD(i:Nat):TG:=λv σ H Q=>Q (σ.set i (some v)) H
theorem dq{i:Nat}{x:Str}(hN:X.N.Nodup)(hi:X.N[i]?=some x)(hx:Loc X.env.scope x)(hf:X.fn x=true\/X.env.scope.names.lookup x=some .local:=by first|exact .inl rfl|exact .inr rfl|assumption):PG X (.Name x pos) (lD i):=by
 intro pins s σ H v u Q I r h;exact wpAny_assign_Name (rD I hN hi hx r (λs' I'=>⟨_,H,I',h⟩) hf)
def Vd:TGs:=λvs σ H Q=>vs=[]/\Q σ H
def Jo(t:TG)(u:TGs):TGs:=λvs σ H Q=>∃ v r,vs=v::r/\t v σ H λσ' H'=>u r σ' H' Q
theorem vh:PGs X [] Vd:=by
 intro pins s σ H vs us Q I r h;obtain⟨e,h⟩:=h;subst e;cases r;exact assignInOrder_nil ⟨σ,H,I,h⟩
theorem iT{e:Expr}{es:List Expr}{t:TG}{u:TGs}(h1:PG X e t)(h2:PGs X es u)
  (hs:(assignEach (e::es) X.env).map (·.2)=assign e X.env::(assignEach es X.env).map (·.2):=by rfl):PGs X (e::es) (Jo t u):=by
 intro pins s σ H vs us Q I r h;obtain⟨v,vr,e1,h⟩:=h;subst e1;cases r with
 |cons r rr=>
  rw[hs];refine assignInOrder_cons (thn (h1 pins s σ H _ _ _ I r h) ?_);rintro _ s1 ⟨σ1,H1,I1,q1⟩;exact h2 pins s1 σ1 H1 _ _ Q I1 rr q1
def Rj(K:PySem.W.Frag)(n:Nat)(t:TGs):TG:=λv σ H Q=>∃ a xs,v=.ref a/\SqT K H a xs/\xs.length=n/\t xs σ H Q
theorem Ad{es:List Expr}{k:Nat}{t:TGs}{n:Nat}(hc:X.calm=true)(h:PGs X es t)
  (hn:(assignEach es X.env).length=n:=by rfl)(hst:(assignEach es X.env).findIdx? (·.1)=none:=by rfl):PG X (.Tuple es k pos) (Rj X.K n t):=by
 intro pins s σ H v u Q I r hw;obtain⟨a,xs,e1,hq,hl,hw⟩:=hw;subst e1;cases r;obtain⟨its,rv,ht,hz⟩:=I.tuple hq;refine assign_Tuple_tuple (I.ok.hd hc) ht (by simp[hn,<-hl,rv.length]) hst λh' hx=>?_
 have I1:Inv X pins σ H { s with heap:=h' }:=I.kept (t':=s.toks) λb o e=>hx b o (Zaz (Zak e)) e;exact h pins _ σ H xs _ Q I1 (by simpa using rv) hw
def Wz(to ti:TE)(t:Vc):TG:=λv σ H Q=>to σ H λo H1=>ti σ H1 λi H2=>t o i v H2 λH3=>Q σ H3
theorem Ve{o i:Expr}{to ti:TE}{t:Vc}(ho:PE X o to)(hi:PE X i ti)(hs:Wy X t)
  (ha:∀ v,assign (.Subscript o i pos) X.env v=(do
   let ov <-holding [v] (eval o X.env)
   let iv <-holding [v,ov] (eval i X.env)
   standAt pos
   holding [v,ov,iv] (setItem ov iv v)
   release [v,ov,iv] []):=by intro _;rfl):PG X (.Subscript o i pos) (Wz to ti t):=by
 intro pins s σ H v u Q I r h;rw[ha];refine Zai (wpAny_holding (thn (ho pins s σ H _ I h) ?_));rintro ov s1 ⟨x,H1,I1,r1,q1⟩;refine Zai (wpAny_holding (thn (hi pins s1 σ H1 _ I1 q1) ?_));rintro iv s2 ⟨y,H2,I2,r2,q2⟩;refine Zai (wpAny_standAt (Zai (wpAny_holding (thn (hs pins s2 σ H2 x y v ov iv u _ I2 r1 r2 r q2) ?_))));rintro _ s3 ⟨H3,I3,q3⟩;exact wpAny_release ⟨σ,H3,I3,q3⟩
def uY(te:TE)(g:TG):TS:=λD σ H=>te σ H λx H1=>g x σ H1 D.nx
theorem M6{tg e:Expr}{te:TE}{g:TG}(he:PE X e te)(hg:PG X tg g)(hs:swapsWithSole [tg] e pos.line X.env=pure false:=by rfl)(hw:swappedStores [tg] e X.env=pure none:=by rfl)
  (h1:(assignEach [tg] X.env).map (·.2)=[assign tg X.env]:=by rfl):PS X (.Assign [tg] e pos) (uY te g):=by
 intro pins s σ H D I h;refine wpAny_Assign_stores (thn (he pins s σ H _ I h) ?_) hs hw;rintro v s1 ⟨x,H1,I1,r1,q1⟩;rw[h1];exact thn (hg pins s1 σ H1 x v _ I1 r1 q1) λ_ s2 q=>q
theorem bj{i:Nat}{x:Str}{e:Expr}{te:TE}{pos':Pos}(hN:X.N.Nodup)(hi:X.N[i]?=some x)(hx:Loc X.env.scope x)(he:PE X e te)(hs:swapsWith e (some (.Name x pos')) pos.line X.env=pure false:=by rfl)(hf:X.fn x=true\/X.env.scope.names.lookup x=some .local:=by first|exact .inl rfl|exact .inr rfl|assumption) :
  PS X (.Assign [.Name x pos'] e pos) (uY te (lD i)):=by
 intro pins s σ H D I h;refine wpAny_Assign_Name (thn (he pins s σ H _ I h) ?_) hs;rintro v s1 ⟨y,H1,I1,r1,q1⟩;exact rD I1 hN hi hx r1 (λs2 I2=>⟨_,H1,I2,q1⟩) hf
end
structure It where
 go:Nat->Hp->Prop
 yld:Nat->Hp->V->Hp->Prop
 stop:Nat->Hp->Prop
def ye(X:Cx)(pins:List (Addr×Obj))(H:Hp)(b:Addr):Prop:=
 H b=none/\b≠X.env.locals/\b ∉ X.fs/\(b∈X.ex\/X.s₀.heap.objs.size<=b)/\(∀ x c,X.env.cells.lookup x=some c->c≠b)/\∀ p∈X.pn++pins,p.1≠b
theorem Inv.Ro{X:Cx}{pins:List (Addr×Obj)}{σ:St}{H H':Hp}{s:Shared}{b:Addr}(I:Inv X pins σ H s)(hb:s.heap.objs.size<=b)(hn:H' b=none):ye X pins H' b:=by
 refine⟨hn,ZbD (Zan I.lt hb),I.X7 hb,.inr (ZaE I.sz hb),λx c e z=>?_,λp hp z=>?_⟩
 ·obtain⟨v,q⟩:=I.cell x c e;exact absurd (Zan q.lt (by rw[z];exact hb)) (Za1 _)
 ·exact absurd (Zan (Zak (I.pin p hp).1) (by rw[z];exact hb)) (Za1 _)
structure Turn(P:Program)(w:World)(K:PySem.W.Frag)(tg:Expr)(J:It)(fp:List Addr)(it:Addr)(tn:Nat->Heap->Prop):Prop where
 mem:it∈fp
 obj:∀ i h,tn i h->∀ b∈fp,∃ o,h.get? b=some o/\∀ v,o.data≠.cell v
 keep:∀ i h h',tn i h->(∀ b∈fp,∀ o,h.get? b=some o->h'.get? b=some o)->tn i h'
 item:∀ (X:Cx),X.prog=P->X.w=w->X.K=K->X.calm=true->∀ (i:Nat) (pins:List (Addr×Obj)) (s:Shared) (σ:St) (H:Hp) (E:Value->Shared->Prop),Inv X pins σ H s->(∀ b∈fp,ye X pins H b)->tn i s.heap->J.go i H ->
  wpAny (model P w) X.A (pyNext (.ref it)) (λr s1=>∃ u,r=some u /\
   wpAny (model P w) X.A (letOwnedTupleGo tg (.ref it) u) (λ_ s2=>∃ x H',Inv X pins σ H' s2/\RelV x u/\J.yld i H x H'/\tn (i+1) s2.heap/\∀ b∈fp,H' b=none) E s1) E s
 done:∀ (X:Cx),X.prog=P->X.w=w->X.K=K->X.calm=true->∀ (i:Nat) (pins:List (Addr×Obj)) (s:Shared) (σ:St) (H:Hp) (E:Value->Shared->Prop),Inv X pins σ H s->(∀ b∈fp,ye X pins H b)->tn i s.heap->J.stop i H ->
  wpAny (model P w) X.A (pyNext (.ref it)) (λr s1=>r=none/\Inv X pins σ H s1) E s
 self:∀ (A:Around) (i:Nat) (s:Shared) (Q:Value->Shared->Prop) (E:Value->Shared->Prop),tn i s.heap->Q (.ref it) s->wpAny (model P w) A (pyIter (.ref it)) Q E s
noncomputable abbrev TI:=St->Hp->(It->Hp->Prop)->Prop
def PIE(X:Cx)(pins:List (Addr×Obj))(σ:St)(tg:Expr)(R:It->Hp->Prop)(itv:Value)(s2:Shared):Prop:=
 ∃ (it:Addr) (fp:List Addr) (tn:Nat->Heap->Prop) (J:It) (H':Hp),itv=.ref it/\Inv X pins σ H' s2/\Turn X.prog X.w X.K tg J fp it tn/\tn 0 s2.heap/\(∀ b∈fp,ye X pins H' b)/\R J H'
def PI(X:Cx)(tg iter:Expr)(wi:TI):Prop:=
 ∀ (pins:List (Addr×Obj)) (s:Shared) (σ:St) (H:Hp) (R:It->Hp->Prop),Inv X pins σ H s->wi σ H R ->
  wpAny (model X.prog X.w) X.A (eval iter X.env) (λv s1=>wpAny (model X.prog X.w) X.A (pyIter v) (PIE X pins σ tg R) X.xe s1) X.xe s
theorem Jp{M:Model}{A:Around}{E:Value->Shared->Prop}{s:Shared}{tg:Expr}{it:Addr}{u:Value}{o:Obj}{n:String}{vs:Array Value}{Q:Unit->Shared->Prop}(ho:s.heap.get? it=some o)(hc:o.cls=.type n)(hd:o.data=.fields vs)
  (hn:["enumerate","zip","dict_itemiterator","dict_reverseitemiterator","odict_iterator","itertools.zip_longest","itertools.pairwise"].contains n=false)(hQ:Q () s):wpAny M A (letOwnedTupleGo tg (.ref it) u) Q E s:=by
 unfold letOwnedTupleGo;cases tg<;>first
  |exact Zay hQ
  |(cases u<;>first
    |exact Zay hQ
    |(refine Zai (wpAny_load ho ?_)
      rw[hc,hd];show wpAny M A (if(["enumerate","zip","dict_itemiterator","dict_reverseitemiterator","odict_iterator","itertools.zip_longest","itertools.pairwise"].contains n&&vs[0]?==some (rawInt _))=true then _ else _) Q E s
      rw[Zal (by intro h;rw[hn,Bool.false_and] at h;cases h)]
      exact Zay hQ))
def Itl(K:PySem.W.Frag)(a:Addr):It:=
 ⟨λi H=>∃ xs x,SqL K H a xs/\xs[i]?=some x,λi H x H'=>H'=H/\∀ xs,SqL K H a xs->xs[i]?=some x,λi H=>∃ xs,SqL K H a xs/\xs.length<=i⟩
def Itt(K:PySem.W.Frag)(a:Addr):It:=
 ⟨λi H=>∃ xs x,SqT K H a xs/\xs[i]?=some x,λi H x H'=>H'=H/\∀ xs,SqT K H a xs->xs[i]?=some x,λi H=>∃ xs,SqT K H a xs/\xs.length<=i⟩
def Itr(lo:Int)(n:Nat):It:=⟨λi _=>i<n,λi H x H'=>H'=H/\x=.int (lo+i),λi _=>n<=i⟩
theorem KD{P:Program}{w:World}{K:PySem.W.Frag}{tg:Expr}(a it:Addr):Turn P w K tg (Itl K a) [it] it (λi h=>h.IsListIter it a i) where
 mem:=by simp
 obj:=λi h st b hb=>by
  have e:b=it:=by simpa using hb
  subst e;obtain⟨o,e,c,d⟩:=st;exact⟨o,e,λv z=>by rw[d] at z;cases z⟩
 keep:=λi h h' st k=>st.at λo e=>k it (by simp) o e
 item:=by
  intro X hP hw hK hc i pins s σ H E I hf st hg;subst hP hw hK;obtain⟨xs,x,hq,hx⟩:=hg;obtain⟨its,rv,p,hz⟩:=I.list hq;obtain⟨u,hu,ru⟩:=rv.get hx;obtain⟨f0,f1,f2,f3,f4,f5⟩:=hf it (by simp)
  refine wpAny_pyNext_list_item st p.isList (x:=u) (by simpa using hu) λh' st' sb=>?_
  have I1:Inv X pins σ H { s with heap:=h' }:=I.turned (t':=s.toks) (λb o hb e=>(sb.2 b hb).trans e) f0 f1 f3 f4 f5;obtain⟨o,e,c,d⟩:=id st';exact⟨u,rfl,Jp (s:={ s with heap:=h' }) e c d (by decide) ⟨x,H,I1,ru,⟨rfl,λys hy=>by rw[I.vL hy hq];exact hx⟩,st',λb hb=>(hf b hb).1⟩⟩
 done:=by
  intro X hP hw hK hc i pins s σ H E I hf st hg;subst hP hw hK;obtain⟨xs,hq,hx⟩:=hg;obtain⟨its,rv,p,hz⟩:=I.list hq;obtain⟨f0,f1,f2,f3,f4,f5⟩:=hf it (by simp)
  have hl:=rv.length;exact wpAny_pyNext_list_end (I.ok.hd hc) st p.isList (by simp;lia) λh' eb=>⟨rfl,I.turned (t':=s.toks) (λb o hb e=>eb b o hb e) f0 f1 f3 f4 f5⟩
 self:=λ_ _ _ _ _ st h=>wpAny_pyIter_listiter st h
theorem GR{P:Program}{w:World}{K:PySem.W.Frag}{tg:Expr}(a it:Addr):Turn P w K tg (Itt K a) [it] it (λi h=>h.IsTupleIter it a i) where
 mem:=by simp
 obj:=λi h st b hb=>by
  have e:b=it:=by simpa using hb
  subst e;obtain⟨o,e,c,d⟩:=st;exact⟨o,e,λv z=>by rw[d] at z;cases z⟩
 keep:=λi h h' st k=>st.at λo e=>k it (by simp) o e
 item:=by
  intro X hP hw hK hc i pins s σ H E I hf st hg;subst hP hw hK;obtain⟨xs,x,hq,hx⟩:=hg;obtain⟨its,rv,p,hz⟩:=I.tuple hq;obtain⟨u,hu,ru⟩:=rv.get hx;obtain⟨f0,f1,f2,f3,f4,f5⟩:=hf it (by simp)
  refine wpAny_pyNext_tuple_item st (show s.heap.IsTuple a its.toArray from p) (x:=u) (by simpa using hu) λh' st' sb=>?_
  have I1:Inv X pins σ H { s with heap:=h' }:=I.turned (t':=s.toks) (λb o hb e=>(sb.2 b hb).trans e) f0 f1 f3 f4 f5;obtain⟨o,e,c,d⟩:=id st';exact⟨u,rfl,Jp (s:={ s with heap:=h' }) e c d (by decide) ⟨x,H,I1,ru,⟨rfl,λys hy=>by rw[I.yR hy hq];exact hx⟩,st',λb hb=>(hf b hb).1⟩⟩
 done:=by
  intro X hP hw hK hc i pins s σ H E I hf st hg;subst hP hw hK;obtain⟨xs,hq,hx⟩:=hg;obtain⟨its,rv,p,hz⟩:=I.tuple hq;obtain⟨f0,f1,f2,f3,f4,f5⟩:=hf it (by simp)
  have hl:=rv.length;exact wpAny_pyNext_tuple_end (I.ok.hd hc) st (show s.heap.IsTuple a its.toArray from p) (by simp;omega) λh' eb=>⟨rfl,I.turned (t':=s.toks) (λb o hb e=>eb b o hb e) f0 f1 f3 f4 f5⟩
 self:=λ_ _ _ _ _ st h=>wpAny_pyIter_tupleiter st h
theorem GX{P:Program}{w:World}{K:PySem.W.Frag}{tg:Expr}(it:Addr)(lo:Int)(n:Nat):Turn P w K tg (Itr lo n) [it] it (λi h=>IsRangeIter h it (lo+(i:Nat)*1) ((n:Int)-(i:Nat)) 1) where
 mem:=by simp
 obj:=λi h st b hb=>by
  have e:b=it:=by simpa using hb
  subst e;exact⟨_,st,λv z=>by
   have z':Data.fields _=Data.cell v:=z;cases z'⟩
 keep:=λi h h' st k=>k it (by simp) _ st
 item:=by
  intro X hP hw hK hc i pins s σ H E I hf st hg;subst hP hw hK;obtain⟨f0,f1,f2,f3,f4,f5⟩:=hf it (by simp)
  have W:=Walks.range (prog:=X.prog) (w:=X.w) (I.ok.hd hc) it lo 1 n;refine W.item i s _ _ hg st λv h' tk hv st' kk=>?_;obtain⟨t,rfl⟩:=hv;have I1:Inv X pins σ H { s with heap:=h',toks:=tk }:=I.turned (λb o hb e=>kk b o (by simpa using hb) e) f0 f1 f3 f4 f5
  refine⟨_,rfl,Jp (s:={ s with heap:=h',toks:=tk }) (n:="range_iterator") st' rfl rfl (by decide) ⟨.int (lo+i),H,I1,⟨t,?_⟩,⟨rfl,rfl⟩,st',λb hb=>(hf b hb).1⟩⟩
  rw[Int.mul_one]
 done:=by
  intro X hP hw hK hc i pins s σ H E I hf st hg;subst hP hw hK;obtain⟨f0,f1,f2,f3,f4,f5⟩:=hf it (by simp)
  exact wpAny_pyNext_range_end (I.ok.hd hc) st (by have:n<=i:=hg;omega) λh' eb=>⟨rfl,I.turned (t':=s.toks) (λb o hb e=>eb b o hb e) f0 f1 f3 f4 f5⟩
 self:=λ_ _ _ _ _ st h=>wpAny_pyIter_rangeiter st h
section
variable{X:Cx}{tg:Expr}
theorem M7{pins:List (Addr×Obj)}{σ:St}{H:Hp}{s:Shared}{R:It->Hp->Prop}{E:Value->Shared->Prop}{lo hi:Int}{t u v:Tok}{tk:Nat}(I:Inv X pins σ H s)(h1:-(2^62)<=lo)(h2:lo<2^62)(h3:-(2^62)<=hi)(h4:hi<2^62)
  (q:R (Itr lo (hi-lo).toNat) H):wpAny (model X.prog X.w) X.A (pyIter (.ref s.heap.objs.size)) (PIE X pins σ tg R) E { s with heap:=s.heap.push { cls:=.type "range",data:=.fields #[.int lo t,.int hi u,.int 1 v] },toks:=tk }:=by
 refine wpAny_pyIter_range (IsRange.new ..) (small_one h1 h2 h3 h4) ?_;have I1:Inv X pins σ H { s with heap:=s.heap.push { cls:=.type "range",data:=.fields #[.int lo t,.int hi u,.int 1 v] },toks:=tk }:=I.kept λb o e=>Zae _ e;refine⟨(s.heap.push { cls:=.type "range",data:=.fields #[.int lo t,.int hi u,.int 1 v] }).objs.size,[(s.heap.push { cls:=.type "range",data:=.fields #[.int lo t,.int hi u,.int 1 v] }).objs.size],_,_,H,rfl,
  I1.kept (t':=tk) λb o e=>Zae _ e,GX _ lo (hi-lo).toNat,?_,λb hb=>?_,q⟩
 ·have e1:lo+((0:Nat):Int)*1=lo:=by simp
  have e2:(((hi-lo).toNat:Nat):Int)-((0:Nat):Int)=Builtin.Range.rangeSize lo hi 1:=by rw[rangeSize_one];split<;>omega
  show IsRangeIter _ _ (lo+((0:Nat):Int)*1) ((((hi-lo).toNat:Nat):Int)-((0:Nat):Int)) 1
  rw[e1,e2];exact Zat _ rfl
 ·have e:b=(s.heap.push { cls:=.type "range",data:=.fields #[.int lo t,.int hi u,.int 1 v] }).objs.size:=by simpa using hb
  subst e;exact I1.Ro (Zah _) (I1.hok.fresh (Zah _))
def M8(ta:TA):TI:=λσ H R=>ta σ H λvs H1=>∃ j:Int,vs=[.int j]/\-(2^62)<=j/\j<2^62/\R (Itr 0 j.toNat) H1
theorem dC{a:Expr}{ta:TA}{p pos:Pos}(hg:Gl X "range")(hm:X.mg "range"=none)(ha:PA X [a] ta)(hs:starEach [a] X.env=[(false,eval a X.env)]:=by rfl):PI X tg (.Call (.Name "range" p) [a] [] pos) (M8 ta):=by
 intro pins s σ H R I h;refine Call_ (vK I hg hm boot_range (Zbi (thn (ha pos pins s σ H _ I h) ?_) hs rfl));rintro us s1 ⟨vs,H1,I1,r1,q1⟩;obtain⟨j,e,q1,q2,q⟩:=q1;subst e;cases r1 with
 |cons r rr=>
  cases rr;obtain⟨t,rfl⟩:=r;exact call_range_1 (M7 I1 (by omega) (by omega) q1 q2 (by simpa using q))
def Rp(wi:TI)(g:TG)(tb:TS):TS:=λD σ H=>wi σ H λJ H1=>∃ W:Nat->Nat->St->Hp->Prop,(∃ m,W 0 m σ H1)/\∀ i m σ H,W i m σ H ->
 (J.stop i H/\D.nx σ H)\/(J.go i H/\∃ N:St->Hp->Prop,(∀ σ' H',N σ' H'->∃ m',m'<m/\W (i+1) m' σ' H')/\∀ x H',J.yld i H x H'->g x σ H' λσ2 H2=>tb { D with nx:=N,ct:=N,bk:=D.nx } σ2 H2)
def vM(fp:List Addr)(h:Heap):List (Addr×Obj):=fp.filterMap λb=>(h.get? b).map λo=>(b,o)
theorem mF{fp:List Addr}{h:Heap}{b:Addr}{o:Obj}(hb:b∈fp)(e:h.get? b=some o):(b,o)∈vM fp h:=List.mem_filterMap.mpr ⟨b,hb,by rw[e];rfl⟩
theorem KH{fp:List Addr}{h:Heap}{p:Addr×Obj}(hp:p∈vM fp h):p.1∈fp/\h.get? p.1=some p.2:=by
 obtain⟨b,hb,e⟩:=List.mem_filterMap.mp hp;cases q:h.get? b with
 |none=>rw[q] at e;cases e
 |some o=>
  rw[q] at e;have e':(b,o)=p:=Zaa e;subst e';exact⟨hb,q⟩
theorem Inv.pinned{pins:List (Addr×Obj)}{σ:St}{H:Hp}{s:Shared}{fp:List Addr}(I:Inv X pins σ H s)(hf:∀ b∈fp,ye X pins H b)(ho:∀ b∈fp,∃ o,s.heap.get? b=some o/\∀ v,o.data≠.cell v):Inv X (pins++vM fp s.heap) σ H s:=
 I.Jl λp hp=>(Zcf.mp hp).elim (λz=>I.pin p (ZaA _ z)) λz=>by
  obtain⟨hb,e⟩:=KH z;obtain⟨f0,f1,f2,_⟩:=hf p.1 hb;obtain⟨o,e',d⟩:=ho p.1 hb;rw[e] at e';cases e';exact⟨e,f0,f1,f2,d⟩
theorem Inv.rF{pins pl:List (Addr×Obj)}{σ:St}{H:Hp}{s:Shared}(I:Inv X (pins++pl) σ H s):Inv X pins σ H s:=I.Jl λp hp=>I.pin p (ZaA _ (ZbM _ hp))
theorem jD{iter:Expr}{body:List Stmt}{wi:TI}{g:TG}{tb:TS}{pos:Pos}(hp:PassesOwn (model X.prog X.w) X.A X.env X.xe)(hc:X.calm=true)(hi:PI X tg iter wi)(hg:PG X tg g)(hb:PSs X body tb)
  (hs:∀ x,foldedSetIterable iter X.env x=pure x:=by intro _;rfl):PS X (.For tg iter body [] pos) (Rp wi g tb):=by
 intro pins s σ H D I h;refine wpAny_For (thn (hi pins s σ H _ I h) λv s1 h1=>thn h1 λitv s2 h2=>?_) hs;obtain⟨it,fp,tn,J,H2,e,I2,T,st2,f2,W,⟨m0,w0⟩,turn⟩:=h2;subst e;have stat:∀ {H':Hp},(∀ b∈fp,H' b=none)->∀ b∈fp,ye X pins H' b:=λhn b hb=>⟨hn b hb,(f2 b hb).2⟩;refine codeAny_forLoop_any (λn s'=>∃ i σ' H',Inv X pins σ' H' s'/\tn i s'.heap/\(∀ b∈fp,H' b=none)/\W i n σ' H') ?_ m0 ⟨0,σ,H2,I2,st2,λb hb=>(f2 b hb).1,w0⟩;rintro n s3 ⟨i,σ3,H3,I3,st3,fr3,w3⟩;rcases turn i n σ3 H3 w3 with⟨stop,qn⟩|⟨go,N,hN,step⟩
 ·refine wpAny_passesOwn hp (thn (T.done X rfl rfl rfl hc i pins s3 σ3 H3 X.xe I3 (stat fr3) st3 stop) ?_);rintro r s4 ⟨hr,I4⟩;subst hr;exact wpAny_execs_nil ⟨σ3,H3,I4,qn⟩
 ·refine wpAny_passesOwn hp (thn (T.item X rfl rfl rfl hc i pins s3 σ3 H3 X.xe I3 (stat fr3) st3 go) ?_);rintro r s4 ⟨u,hr,h4⟩;subst hr;refine wpAny_passesOwn hp (thn h4 ?_);rintro _ s5 ⟨x,H5,I5,r5,y5,st5,fr5⟩;have I5':=I5.pinned (stat fr5) (T.obj _ _ st5);refine wpAny_passesOwn hp (thn (hg _ s5 σ3 H5 x u _ I5' r5 (step x H5 y5)) ?_);rintro _ s6 ⟨σ6,H6,I6,q6⟩;refine wpAny_passesOwn hp (thn (hb _ s6 σ6 H6 _ I6 q6) λf s7 q7=>?_);have again:∀ {σ7:St}{H7:Hp},Inv X (pins++vM fp s5.heap) σ7 H7 s7->N σ7 H7->∃ m,m<n/\∃ i σ' H',Inv X pins σ' H' s7/\tn i s7.heap/\(∀ b∈fp,H' b=none)/\W i m σ' H':=λ{σ7 H7} I7 n7=>by
   obtain⟨m',hm,w7⟩:=hN σ7 H7 n7;refine⟨m',hm,i+1,σ7,H7,I7.rF,T.keep _ _ _ st5 λb hb o e=>(I7.pin (b,o) (ZaA _ (ZaA _ (mF hb e)))).1,λb hb=>?_,w7⟩;obtain⟨o,e,d⟩:=T.obj _ _ st5 b hb;exact(I7.pin (b,o) (ZaA _ (ZaA _ (mF hb e)))).2.1
  cases f with
  |next=>obtain⟨σ7,H7,I7,n7⟩:=q7;exact again I7 n7
  |cont=>obtain⟨σ7,H7,I7,n7⟩:=q7;exact again I7 n7
  |brk=>obtain⟨σ7,H7,I7,q7⟩:=q7;exact⟨σ7,H7,I7.rF,q7⟩
  |ret v=>obtain⟨x7,σ7,H7,I7,r7,q7⟩:=q7;exact⟨x7,σ7,H7,I7.rF,r7,q7⟩
end
noncomputable abbrev R2:=V->V->Hp->VK->Prop
def OpR(X:Cx)(f:Value->Value->Sem Value)(r:R2):Prop:=
 ∀ (pins:List (Addr×Obj)) (s:Shared) (σ:St) (H:Hp) (x y:V) (v u:Value) (Q:VK),Inv X pins σ H s->RelV x v->RelV y u->r x y H Q ->
  wpAny (model X.prog X.w) X.A (f v u) (EP X pins σ Q) X.xe s
def m8(X:Cx)(f:Value)(r:List V->Hp->VK->Prop):Prop:=
 ∀ (pins:List (Addr×Obj)) (s:Shared) (σ:St) (H:Hp) (xs:List V) (us:List Value) (Q:VK),Inv X pins σ H s->Vals xs us->r xs H Q ->
  wpAny (model X.prog X.w) X.A (call f us) (EP X pins σ Q) X.xe s
def tOp(r:R2)(ta tb:TE):TE:=λσ H Q=>ta σ H λx H1=>tb σ H1 λy H2=>r x y H2 Q
def rI(C:Int->Int->Prop)(g:Int->Int->V):R2:=λx y H Q=>∃ i j,x=.int i/\y=.int j/\C i j/\Q (g i j) H
def rI0(g:Int->Int->V):R2:=λx y H Q=>∃ i j,x=.int i/\y=.int j/\Q (g i j) H
section
variable{X:Cx}{a b:Expr}{ta tb:TE}{pos:Pos}
theorem Vf(ha:PE X a ta)(hb:PE X b tb){pins:List (Addr×Obj)}{s:Shared}{σ:St}{H:Hp}{R:V->V->Hp->Prop}(I:Inv X pins σ H s)
  (h:ta σ H λx H1=>tb σ H1 λy H2=>R x y H2){Q:Value->Shared->Prop}{f:Value->Value->Sem Value}
  (hf:∀ v u s2 x y H2,Inv X pins σ H2 s2->RelV x v->RelV y u->R x y H2->wpAny (model X.prog X.w) X.A (f v u) Q X.xe s2) :
  wpAny (model X.prog X.w) X.A (eval a X.env) (λv s₁=>wpAny (model X.prog X.w) X.A (eval b X.env) (λu s₂=>wpAny (model X.prog X.w) X.A (f v u) Q X.xe s₂) X.xe s₁) X.xe s:=by
 refine thn (ha pins s σ H _ I h) ?_;rintro v s1 ⟨x,H1,I1,r1,q1⟩;refine thn (hb pins s1 σ H1 _ I1 q1) ?_;rintro u s2 ⟨y,H2,I2,r2,q2⟩;exact hf v u s2 x y H2 I2 r1 r2 q2
theorem aY{op:Operator}{r:R2}(ho:OpR X (binaryOp op) r)(ha:PE X a ta)(hb:PE X b tb):PE X (.BinOp a op b pos) (tOp r ta tb):=by
 intro pins s σ H Q I h;exact wpAny_BinOp (Vf ha hb I h λv u s2 x y H2 I2 rx ry q=>ho pins s2 σ H2 x y v u Q I2 rx ry q)
theorem opI{f:Value->Value->Sem Value}{C:Int->Int->Prop}{g:Int->Int->Int}
  (rule:∀ (i j:Int) (t u:Tok) (s:Shared) (Q:Value->Shared->Prop) (E:Value->Shared->Prop),C i j->Q (.int (g i j) s.toks) { s with toks:=s.toks+1 }->wpAny (model X.prog X.w) X.A (f (.int i t) (.int j u)) Q E s) :
  OpR X f (rI C λi j=>.int (g i j)):=by
 intro pins s σ H x y v u Q I rx ry h;obtain⟨i,j,rfl,rfl,hc,q⟩:=h;obtain⟨t,rfl⟩:=rx;obtain⟨t',rfl⟩:=ry;exact rule i j t t' s _ _ hc ⟨.int (g i j),H,I.tok _,⟨_,rfl⟩,q⟩
theorem Rq{f:Value->Value->Sem Value}{g:Int->Int->Int}
  (rule:∀ (i j:Int) (t u:Tok) (s:Shared) (Q:Value->Shared->Prop) (E:Value->Shared->Prop),Q (.int (g i j) s.toks) { s with toks:=s.toks+1 }->wpAny (model X.prog X.w) X.A (f (.int i t) (.int j u)) Q E s) :
  OpR X f (rI0 λi j=>.int (g i j)):=by
 intro pins s σ H x y v u Q I rx ry h;obtain⟨i,j,rfl,rfl,q⟩:=h;obtain⟨t,rfl⟩:=rx;obtain⟨t',rfl⟩:=ry;exact rule i j t t' s _ _ ⟨.int (g i j),H,I.tok _,⟨_,rfl⟩,q⟩
theorem Rr{f:Value->Value->Sem Value}{g:Int->Int->Bool}
  (rule:∀ (i j:Int) (t u:Tok) (s:Shared) (Q:Value->Shared->Prop) (E:Value->Shared->Prop),Q (.bool (g i j)) s->wpAny (model X.prog X.w) X.A (f (.int i t) (.int j u)) Q E s) :
  OpR X f (rI0 λi j=>.bl (g i j)):=by
 intro pins s σ H x y v u Q I rx ry h;obtain⟨i,j,rfl,rfl,q⟩:=h;obtain⟨t,rfl⟩:=rx;obtain⟨t',rfl⟩:=ry;exact rule i j t t' s _ _ ⟨.bl (g i j),H,I,rfl,q⟩
def Vg(i j:Int):Prop:=0<j/\j<1073741824
def M9(i j:Int):Prop:=0<=j/\j<=1000000/\i.natAbs<2^64
def GZ(i j:Int):Prop:=(-(2^64)<i/\i<2^64)\/(-(2^64)<j/\j<2^64)
theorem GZ.ok{i j:Int}(h:GZ i j):IntMulOk i j:=by
 rcases h with⟨h1,h2⟩|⟨h1,h2⟩
 ·exact .of_left (intBits_le_64 h1 h2)
 ·exact .of_right (intBits_le_64 h1 h2)
theorem Ha(k:Nat):(0:Int)<=2^k:=by
 rw[two_pow_cast];exact ZbY _
theorem Vh:OpR X (binaryOp .Add) (rI0 λi j=>.int (i+j)):=Rq λ_ _ _ _ _ _ _ q=>add_int q
theorem Nb:OpR X (binaryOp .Sub) (rI0 λi j=>.int (i-j)):=Rq λ_ _ _ _ _ _ _ q=>sub_int q
theorem Vi:OpR X (binaryOp .Mult) (rI GZ λi j=>.int (i*j)):=opI λ_ _ _ _ _ _ _ hc q=>mul_int q hc.ok
theorem vm:OpR X (binaryOp .FloorDiv) (rI Vg λi j=>.int (i/j)):=opI λi j _ _ _ _ _ hc q=>by
 have h1:(0:Int)<j:=hc.1;have h2:j<1073741824:=hc.2;exact floordiv_int (by omega) (by rw[ZbX i (by omega)];exact q) (.inl (PyProof.noPylong_small (by omega)))
theorem iz:OpR X (binaryOp .Mod) (rI (λ_ j=>0<j) λi j=>.int (i%j)):=opI λi j _ _ _ _ _ hc q=>by
 have h1:(0:Int)<j:=hc;exact mod_int' (by omega) (by rw[Int.fmod_eq_emod_of_nonneg i (by omega)];exact q)
theorem Ng:OpR X (binaryOp .Pow) (rI M9 λi j=>.int (i^j.toNat)):=opI λ_ _ _ _ _ _ _ hc q=>pow_int_small hc.1 hc.2.1 hc.2.2 q
theorem Nh:OpR X (binaryOp .LShift) (rI M9 λi j=>.int (i*2^j.toNat)):=opI λ_ _ _ _ _ _ _ hc q=>lshift_int_small hc.1 hc.2.1 hc.2.2 q
theorem Ni:OpR X (binaryOp .RShift) (rI (λ_ j=>0<=j) λi j=>.int (i/2^j.toNat)):=opI λi j _ _ _ _ _ hc q=>
 rshift_int hc (by rw[ZbX i (Ha _)];exact q)
theorem Nj:OpR X (binaryOp .BitAnd) (rI0 λi j=>.int (Builtin.bitAnd i j)):=Rq λ_ _ _ _ _ _ _ q=>and_int q
theorem WD:OpR X (binaryOp .BitOr) (rI0 λi j=>.int (Builtin.bitOr i j)):=Rq λ_ _ _ _ _ _ _ q=>or_int q
end
section
variable{X:Cx}{a b c:Expr}{ta tb tc:TE}{pos:Pos}
theorem Hb{pins:List (Addr×Obj)}{σ:St}{H:Hp}{s:Shared}{Q:VK}{k k':Bool}(I:Inv X pins σ H s)(q:Q (.bl k) H)(e:k=k'):EP X pins σ Q (.bool k') s:=by
 subst e;exact⟨.bl k,H,I,rfl,q⟩
theorem WF:OpR X (compareOp .Lt) (rI0 λi j=>.bl (decide (i<j))):=Rr λ_ _ _ _ _ _ _ q=>lt_int q
theorem WK:OpR X (compareOp .LtE) (rI0 λi j=>.bl (decide (i<=j))):=Rr λ_ _ _ _ _ _ _ q=>le_int q
theorem WL:OpR X (compareOp .Gt) (rI0 λi j=>.bl (decide (j<i))):=Rr λ_ _ _ _ _ _ _ q=>gt_int q
theorem WM:OpR X (compareOp .GtE) (rI0 λi j=>.bl (decide (j<=i))):=Rr λ_ _ _ _ _ _ _ q=>ge_int q
theorem KJ:OpR X (compareOp .Lt) (λx y H Q=>∃ i j,x=.str i/\y=.str j/\Q (.bl (decide (i.cps.toList<j.cps.toList))) H):=by
 intro pins s σ H x y v u Q I rx ry h;obtain⟨i,j,rfl,rfl,q⟩:=h;obtain⟨t,rfl⟩:=rx;obtain⟨t',rfl⟩:=ry;exact lt_str (Hb I q rfl)
theorem KN:OpR X (compareOp .In) (λx y H Q=>∃ i j,x=.str i/\y=.str j/\Q (.bl (!(Builtin.Str.occurrences j i 0 j.length 1).isEmpty)) H):=by
 intro pins s σ H x y v u Q I rx ry h;obtain⟨i,j,rfl,rfl,q⟩:=h;obtain⟨t,rfl⟩:=rx;obtain⟨t',rfl⟩:=ry;exact in_str (Hb I q rfl)
theorem OpR.or{f:Value->Value->Sem Value}{r r':R2}(h:OpR X f r)(h':OpR X f r'):OpR X f (λx y H Q=>r x y H Q\/r' x y H Q):=by
 intro pins s σ H x y v u Q I rx ry q;rcases q with q|q
 ·exact h pins s σ H x y v u Q I rx ry q
 ·exact h' pins s σ H x y v u Q I rx ry q
theorem bJ(b:Expr){op:CmpOp}(h:op≠.In:=by decide)(h2:op≠.NotIn:=by decide):behindInMarks op b=false:=by
 have e1:(op==CmpOp.In)=false:=by cases op<;>first|rfl|exact absurd rfl h
 have e2:(op==CmpOp.NotIn)=false:=by cases op<;>first|rfl|exact absurd rfl h2
 cases b<;>simp[behindInMarks,e1,e2]
theorem jT{op:CmpOp}{r:R2}(ho:OpR X (compareOp op) r)(ha:PE X a ta)(hb:PE X b tb)(hm:behindInMarks op b=false):PE X (.Compare a [op] [b] pos) (tOp r ta tb):=by
 intro pins s σ H Q I h;exact wpAny_Compare1 (Vf ha hb I h λv u s2 x y H2 I2 rx ry q=>ho pins s2 σ H2 x y v u Q I2 rx ry q) hm
def Jq(t:TE):TT:=λσ H Q=>t σ H λx H'=>∃ k,x=.bl k/\Q k H'
theorem bu{op:CmpOp}{r:R2}(ho:OpR X (compareOp op) r)(ha:PE X a ta)(hb:PE X b tb)(hm:behindInMarks op b=false):PT X (.Compare a [op] [b] pos) (Jq (tOp r ta tb)):=by
 intro pins s σ H Q I h;refine wpAny_isTrue_Compare1 (thn (ha pins s σ H _ I h) λv s1 ⟨x,H1,I1,r1,q1⟩=>thn (hb pins s1 σ H1 _ I1 q1) λu s2 ⟨y,H2,I2,r2,q2⟩=>
  thn (ho pins s2 σ H2 x y v u _ I2 r1 r2 q2) λc s3 ⟨z,H3,I3,r3,k,e,q3⟩=>?_) hm
 subst e;cases r3;exact wpAny_truthy_bool ⟨H3,I3,q3⟩
def Nk(r r':R2)(ta tb tc:TE):TE:=λσ H Q=>ta σ H λx H1=>tb σ H1 λy H2=>r x y H2 λz H3=>∃ k,z=.bl k /\
 (if k=true then tc σ H3 λw' H4=>r' y w' H4 Q else Q (.bl false) H3)
theorem Nm{op op':CmpOp}{r r':R2}(ho:OpR X (compareOp op) r)(ho':OpR X (compareOp op') r')(ha:PE X a ta)(hb:PE X b tb)(hc:PE X c tc)
  (hm:lastMarks [op,op'] [b,c]=false:=by with_unfolding_all rfl):PT X (.Compare a [op,op'] [b,c] pos) (Jq (Nk r r' ta tb tc)):=by
 intro pins s σ H Q I h;refine isTrue_chain (thn (ha pins s σ H _ I h) λv s1 ⟨x,H1,I1,r1,q1⟩=>test_link (thn (hb pins s1 σ H1 _ I1 q1) λu s2 ⟨y,H2,I2,r2,q2⟩=>
  thn (ho pins s2 σ H2 x y v u _ I2 r1 r2 q2) λd s3 ⟨z,H3,I3,r3,k,e,q3⟩=>?_)) hm
 subst e;cases r3;refine wpAny_truthy_bool ?_;cases k with
 |false=>
  obtain⟨k',e',q'⟩:=q3;cases e';exact ite_ff ⟨H3,I3,q'⟩
 |true=>
  refine ite_tt (test_last (thn (hc pins s3 σ H3 _ I3 q3) λw' s4 ⟨z',H4,I4,r4,q4⟩=>thn (ho' pins s4 σ H4 y z' u w' _ I4 r2 r4 q4) ?_));rintro d' s5 ⟨z2,H5,I5,r5,k2,e2,q5⟩;subst e2;cases r5;exact wpAny_truthy_bool ⟨H5,I5,q5⟩
theorem vN:(sizeLine:Nat)<2^63:=by rw[sizeLine_eq];decide
theorem Hc:OpR X (binaryOp .Add) (λx y H Q=>∃ i j,x=.str i/\y=.str j/\i.length+j.length<=sizeLine/\Q (.str (i++j)) H):=by
 intro pins s σ H x y v u Q I rx ry h;obtain⟨i,j,rfl,rfl,hz,q⟩:=h;obtain⟨t,rfl⟩:=rx;obtain⟨t',rfl⟩:=ry;exact add_str (λt' tk=>⟨.str (i++j),H,I.tok _,⟨_,rfl⟩,q⟩) hz
theorem vals1{x:V}{us:List Value}(r:Vals [x] us):∃ u,us=[u]/\RelV x u:=by
 cases r with
 |cons r1 r2=>cases r2;exact⟨_,rfl,r1⟩
def WN(K:PySem.W.Frag)(x:V)(H:Hp)(n:Nat):Prop:=
 match x with
 |.str y=>y.length<=sizeLine/\n=y.length
 |.byt y=>y.size<=sizeLine/\n=y.size
 |.ref p=>(∃ xs,SqL K H p xs/\n=xs.length)\/∃ xs,SqT K H p xs/\n=xs.length
 |_=>False
theorem eQ:m8 X (.builtin "len") (λxs H Q=>∃ x n,xs=[x]/\WN X.K x H n/\Q (.int n) H):=by
 intro pins s σ H xs us Q I r h;obtain⟨x,n,rfl,e,q⟩:=h;obtain⟨u,rfl,rx⟩:=vals1 r;have hl:=vN;have hs:sizeLine=16777216:=sizeLine_eq;cases x with
 |str y=>
  obtain⟨t,rfl⟩:=rx;obtain⟨hy,e'⟩:y.length<=sizeLine/\n=y.length:=e;subst e';exact len_str (by lia) ⟨.int _,H,I.tok _,⟨_,rfl⟩,q⟩
 |byt y=>
  obtain⟨t,rfl⟩:=rx;obtain⟨hy,e'⟩:y.size<=sizeLine/\n=y.size:=e;subst e';exact PySem.W.len_bytes (by lia) ⟨.int _,H,I.tok _,⟨_,rfl⟩,q⟩
 |ref p=>
  cases rx;have e':(∃ xs,SqL X.K H p xs/\n=xs.length)\/∃ xs,SqT X.K H p xs/\n=xs.length:=e;rcases e' with⟨xs,hx,e'⟩|⟨xs,hx,e'⟩
  ·subst e';obtain⟨its,r',pl,hz⟩:=I.list hx;have hlen:=r'.length;exact Calls.call_len_list pl.isList (by simp only[List.size_toArray];lia) ⟨.int xs.length,H,I.tok _,⟨_,by simp only[List.size_toArray];rw[hlen]⟩,q⟩
  ·subst e';obtain⟨its,r',pl,hz⟩:=I.tuple hx;have hlen:=r'.length;exact len_tuple pl (by simp only[List.size_toArray];lia) ⟨.int xs.length,H,I.tok _,⟨_,by simp only[List.size_toArray];rw[hlen]⟩,q⟩
 |_=>exact(show False from e).elim
end
structure Hd(h:Heap)(x dx C:Addr)(mA:Str->Option Value):Prop where
 obj:h.get? x=some (instObj C dx)
 ns:h.Ns1 dx mA
 ne:dx≠x
theorem tX{h:Heap}{dx:Addr}{mA:Str->Option Value}(n:h.Ns1 dx mA):∃ od,h.get? dx=some od/\∀ name,PySem.W.lookIn name od=some (mA name):=by
 obtain⟨o,es,ep,ho,hd,hk,_,hm⟩:=n;refine⟨o,ho,λname=>?_⟩;have e:=hm name;unfold nsFind findBy at e;rw[<-Array.find?_toList] at e;unfold PySem.W.lookIn;rw[hd];dsimp only;split
 ·rename_i y q;rw[q] at e;exact Zbh some e
 ·rename_i q;rw[q] at e;have a:es.toList.any (·.refKey)=false:=by
   rw[List.any_eq_false];intro y hy;obtain⟨z,t,hkey⟩:=hk y (Array.mem_toList_iff.mp hy);simp[DictEntry.refKey,hkey]
  have a':¬es.toList.any (·.refKey)=true:=by rw[a];exact ZbZ
  rw[Zal a'];exact Zbh some e
theorem Hd.look{h:Heap}{x dx C:Addr}{mA:Str->Option Value}(I:Hd h x dx C mA):∃ od,PySem.W.InstAt h x (instObj C dx) C (some od)/\∀ name,PySem.W.lookIn name od=some (mA name):=
 let⟨od,ho,hl⟩:=tX I.ns
 ⟨od,⟨I.obj,rfl,rfl,ho⟩,hl⟩
section
variable{prog:Program}{w:World}{A:Around}{E:Value->Shared->Prop}{s:Shared}{K:PySem.W.Frag}{x dx C f:Addr}{mA:Str->Option Value}{name:Str}{v:Value}
theorem Rt{expr:Bool}{Q:Value->Shared->Prop}(X:K.In s.heap)(I:Hd s.heap x dx C mA)(hg:PySem.W.plainGet K C name=true)(hh:PySem.W.hasDictIn K C=true)
  (ha:PySem.W.findIn K (.ref C) name=some none)(hv:mA name=some v)(hv':PySem.W.handedIn v=true)(h:Q v { s with toks:=s.toks+1 }) :
  wpAny (model prog w) A (getAttr (.ref x) name expr) Q E s:=by
 obtain⟨od,J,hl⟩:=I.look;exact PySem.W.get_value X J (ZbR hg).1 (PySem.W.findObj_own hh ha rfl (by rw[hl,hv])) hv' h
theorem Np{pl:Sem Bool}{Q:Value×List Value->Shared->Prop}(X:K.In s.heap)(I:Hd s.heap x dx C mA)(hg:PySem.W.plainGet K C name=true)
  (hf:PySem.W.findIn K (.ref C) name=some (some (.ref f)))(ht:PySem.W.isFn K (.ref f)=true)(hv:mA name=none)(h:Q (.ref f,[.ref x]) s) :
  wpAny (model prog w) A (getMethod (.ref x) name pl) Q E s:=by
 obtain⟨od,J,hl⟩:=I.look;exact PySem.W.method_fn X J (ZbR hg).1 (ZbR hg).2 hf (beq_iff_eq.mp ht) (by show(PySem.W.lookIn name od).map (·.isSome)=some false;rw[hl,hv];rfl) h
theorem Ru{ns:List Str}{Q:Unit->Shared->Prop}(X:K.In s.heap)(I:Hd s.heap x dx C mA)
  (hs:PySem.W.findIn K (.ref C) "__setattr__"=some (some (.builtin "object.__setattr__")))(hp:PySem.W.plainOver K C=true)(ht:PySem.W.takerIn K C name=some none)(hh:PySem.W.hasDictIn K C=true)
  (hw:PySem.Within mA ns)(hsz:ns.length<=sizeLine)
  (h:∀ h',Hd h' x dx C (λy=>if y=name then some v else mA y)->Heap.SameBut dx s.heap h'->Q () { s with heap:=h',toks:=s.toks+2 }) :
  wpAny (model prog w) A (setAttr (.ref x) name v) Q E s:=by
 obtain⟨od,J,hl⟩:=I.look;refine PySem.W.set_plain X J hs (PySem.W.osa_open (s:={ s with toks:=s.toks+1 }) (r:=none) X J hp ht λb=>?_);obtain⟨cd,hc,hd'⟩:=PySem.W.any_some hh;have hx:s.heap.get? x=some ⟨.ref C,some dx,.plain,#[]⟩:=I.obj;refine Zai (Zay (Zai (Zai (wpAny_loadPart hx (Zai (PySem.W.Looks.here (s:={ s with toks:=s.toks+1 }) (PySem.W.looks_clsIn X hc) ?_))))));rw[hd'];refine Zay (a:=some dx) (Zai (Zay (Zai ?_)));refine wpAny_nsSet1 (s:={ s with toks:=s.toks+1 }) I.ns λh' hn2 hs2=>?_;obtain⟨oD,esD,epD,hoD,hdD,hcD⟩:=hn2.count (PySem.Within.cons name v hw);refine Zai (wpAny_lookBehind hoD (by rw[hdD];exact pastItsLine_dict (ZaE hcD (by rw[ZaB];omega))) ?_)
 exact Zay (h _ ⟨(hs2.2 _ (Za0 I.ne)).trans I.obj,hn2,I.ne⟩ hs2)
theorem Nq{R:Result->Shared->Prop}{vs:List Value}{kw:List (Str×Value)}(X:K.In s.heap)(hm:PySem.W.makesIn K C=true)
  (hi:PySem.W.findIn K (.ref C) "__init__"=some (some (.ref f)))(hf:PySem.W.typeIn K (.ref f)=some (.type "function"))
  (h:codeAny (model prog w) (A.under (.builtin "type.__call__" ⟨.ref C::vs,kw⟩)) (.call (.ref f) ⟨.ref (s.heap.objs.size+1)::vs,kw⟩) (PySem.W.InitBack (s.heap.objs.size+1) R)
   { s with heap:=(s.heap.push emptyDict).push (instObj C s.heap.objs.size) }) :
  codeAny (model prog w) A (.call (.ref C) ⟨vs,kw⟩) R s:=by
 obtain⟨hh,g,d,t,os⟩:=s;exact PySem.W.make_core (PySem.W.makes_of X hm) (PySem.W.looks_findIn X hi) (λself=>PySem.W.bind_fn X self hf) (.inl rfl) h
end
def nW(f:Str)(v:V):List (Str×V)->List (Str×V)
 |[]=>[(f,v)]
 |(g,x)::r=>if g=f then(g,v)::r else(g,x)::nW f v r
theorem uH(f g:Str)(v:V):∀ fs:List (Str×V),(nW f v fs).lookup g=if g=f then some v else fs.lookup g
 |[]=>by
  show List.lookup g [(f,v)]=_
  by_cases h:g=f
  ·have hb:(g==f)=true:=beq_iff_eq.mpr h;simp only[List.lookup,hb,Zag h]
  ·have hb:(g==f)=false:=beq_eq_false_iff_ne.mpr h;simp only[List.lookup,hb,Zal h]
 |(k,x)::r=>by
  have ih:=uH f g v r;rw[show nW f v ((k,x)::r)=(if k=f then(k,v)::r else(k,x)::nW f v r) from rfl];by_cases hk:k=f
  ·rw[Zag hk];by_cases h:g=k
   ·have hb:(g==k)=true:=beq_iff_eq.mpr h;simp only[List.lookup,hb,Zag (h.trans hk)]
   ·have hb:(g==k)=false:=beq_eq_false_iff_ne.mpr h;simp only[List.lookup,hb,Zal (λe:g=f=>h (e.trans hk.symm))]
  ·rw[Zal hk];by_cases h:g=k
   ·have hb:(g==k)=true:=beq_iff_eq.mpr h;simp only[List.lookup,hb,Zal (λe:g=f=>hk (h.symm.trans e))]
   ·have hb:(g==k)=false:=beq_eq_false_iff_ne.mpr h;simp only[List.lookup,hb];exact ih
theorem tY(f:Str)(v:V):∀ fs:List (Str×V),f∈(nW f v fs).map (·.1)/\∀ g,g∈fs.map (·.1)->g∈(nW f v fs).map (·.1)
 |[]=>⟨by simp[nW],λg h=>by simp at h⟩
 |(k,x)::r=>by
  obtain⟨i1,i2⟩:=tY f v r;rw[show nW f v ((k,x)::r)=(if k=f then(k,v)::r else(k,x)::nW f v r) from rfl];by_cases hk:k=f
  ·rw[Zag hk];subst hk;exact⟨by simp,λg h=>by simpa using h⟩
  ·rw[Zal hk];refine⟨?_,λg h=>?_⟩
   ·rw[Zao];exact Zar _ i1
   ·rw[Zao] at h ⊢;rcases ZaJ.mp h with e|e
    ·exact ZaJ.mpr (.inl e)
    ·exact Zar _ (i2 g e)
theorem uI(f:Str)(v:V):∀ fs:List (Str×V),(nW f v fs).length<=fs.length+1
 |[]=>by simp[nW]
 |(k,x)::r=>by
  have ih:=uI f v r;rw[show nW f v ((k,x)::r)=(if k=f then(k,v)::r else(k,x)::nW f v r) from rfl];by_cases hk:k=f
  ·rw[Zag hk,ZaB,ZaB];omega
  ·rw[Zal hk,ZaB,ZaB];omega
theorem kO.some_of{v:V}{o:Option Value}(r:kO (some v) o):∃ u,o=some u/\RelV v u:=by
 cases o with
 |none=>exact(show False from r).elim
 |some u=>exact⟨u,rfl,r⟩
theorem kO.none_of{o:Option Value}(r:kO none o):o=none:=by
 cases o with
 |none=>rfl
 |some u=>exact(show False from r).elim
theorem yS{v:V}{u:Value}(r:RelV v u):PySem.W.handedIn u=true:=by
 cases v with
 |non=>cases (show u=Value.none from r);rfl
 |bl b=>cases (show u=Value.bool b from r);rfl
 |int i=>obtain⟨t,e⟩:=(show ∃ t,u=Value.int i t from r);cases e;rfl
 |str x=>obtain⟨t,e⟩:=(show ∃ t,u=Value.str x t from r);cases e;rfl
 |byt b=>obtain⟨t,e⟩:=(show ∃ t,u=Value.bytes b t from r);cases e;rfl
 |flt b=>obtain⟨t,e⟩:=(show ∃ t,u=Value.float b t from r);cases e;rfl
 |ref a=>cases (show u=Value.ref a from r);rfl
 |ty n=>cases (show u=Value.type n from r);rfl
section
variable{P:Program}{w:World}{H:Hp}{h:Heap}{a C dx:Addr}{fs:List (Str×V)}
theorem Ae(hok:HOk P w H h)(e:H a=some (.ins C dx fs)):∃ mA,Hd h a dx C mA/\(∀ f,kO (fs.lookup f) (mA f))/\PySem.Within mA (fs.map (·.1))/\fs.length<=1000/\H dx=some (.own a):=by
 obtain⟨d,z,ne,ob,mA,n,r,q⟩:=(show dB P w H h a (.ins C dx fs) from hok a _ e);exact⟨mA,⟨ob,n,ne⟩,r,q,z,d⟩
end
structure Cls(K:PySem.W.Frag)(C:Addr):Prop where
 pg:PySem.W.plainGet K C Str.empty=true
 hd:PySem.W.hasDictIn K C=true
 po:PySem.W.plainOver K C=true
 sa:PySem.W.findIn K (.ref C) "__setattr__"=some (some (.builtin "object.__setattr__"))
theorem Cls.get{K:PySem.W.Frag}{C:Addr}(c:Cls K C)(f:Str):PySem.W.plainGet K C f=true:=c.pg
def gQ(K:PySem.W.Frag)(C:Addr)(f:Str):Prop:=PySem.W.findIn K (.ref C) f=some none
theorem gQ.taker{K:PySem.W.Frag}{C:Addr}{f:Str}(n:gQ K C f):PySem.W.takerIn K C f=some none:=by
 unfold PySem.W.takerIn;rw[show PySem.W.findIn K (.ref C) f=some none from n];rfl
structure Meth(K:PySem.W.Frag)(C:Addr)(m:Str)(f:Addr):Prop where
 at_:PySem.W.findIn K (.ref C) m=some (some (.ref f))
 fn:PySem.W.isFn K (.ref f)=true
 kp:keepIn K (.ref f)=true
section
variable{X:Cx}{pins:List (Addr×Obj)}{σ:St}{H:Hp}{s:Shared}{a C dx:Addr}{fs:List (Str×V)}{f:Str}{v:V}{A:Around}{E:Value->Shared->Prop}
theorem Hf{b:Bool}{Q:Value->Shared->Prop}(I:Inv X pins σ H s)(e:H a=some (.ins C dx fs))(c:Cls X.K C)(n:gQ X.K C f)(l:fs.lookup f=some v)
  (h:∀ u s',Inv X pins σ H s'->RelV v u->Q u s'):wpAny (model X.prog X.w) A (getAttr (.ref a) f b) Q E s:=by
 obtain⟨mA,O,r,_,_,_⟩:=Ae I.hok e;obtain⟨u,hu,ru⟩:=kO.some_of (v:=v) (o:=mA f) (by rw[<-l];exact r f)
 exact Rt I.kIn O (c.get f) c.hd n hu (yS ru) (h u _ (I.tok _) ru)
theorem vO{m:Str}{g:Addr}{pl:Sem Bool}{Q:Value×List Value->Shared->Prop}(I:Inv X pins σ H s)(e:H a=some (.ins C dx fs))(c:Cls X.K C)(k:Meth X.K C m g)(l:fs.lookup m=none)
  (h:Q (.ref g,[.ref a]) s):wpAny (model X.prog X.w) A (getMethod (.ref a) m pl) Q E s:=by
 obtain⟨mA,O,r,_,_,_⟩:=Ae I.hok e;have hn:mA m=none:=kO.none_of (by rw[<-l];exact r m)
 exact Np I.kIn O (c.get m) k.at_ k.fn hn h
theorem Hg{y:V}{u:Value}{Q:Unit->Shared->Prop}(I:Inv X pins σ H s)(e:H a=some (.ins C dx fs))(c:Cls X.K C)(n:gQ X.K C f)(hl:fs.length<1000)(ry:RelV y u)
  (h:∀ s',Inv X pins σ (upd H a (.ins C dx (nW f y fs))) s'->Q () s'):wpAny (model X.prog X.w) A (setAttr (.ref a) f u) Q E s:=by
 obtain⟨mA,O,r,wi,_,ho⟩:=Ae I.hok e;have hz:(fs.map (·.1)).length<=sizeLine:=by rw[Zac,sizeLine_eq];omega
 refine Ru I.kIn O c.sa c.po n.taker c.hd wi hz λh' O' sb=>h _ ?_;have hd:∃ o,h'.get? dx=some o:=let⟨o,_,_,e',_⟩:=O'.ns;⟨o,e'⟩;refine I.write (x:=a) (e:=dx) (by rw[e];exact True.intro) (.inr ho) (λb q hb z=>(sb.2 b hb).trans z) hd ?_
 refine⟨by rw[aK O.ne];exact ho,?_,O.ne,O'.obj,_,O'.ns,λg=>?_,λg hg=>?_⟩
 ·have:=uI f y fs;omega
 ·show kO ((nW f y fs).lookup g) (if g=f then some u else mA g)
  rw[uH];by_cases q:g=f
  ·rw[Zag q,Zag q];exact ry
  ·rw[Zal q,Zal q];exact r g
 ·by_cases q:g=f
  ·rw[q];exact(tY f y fs).1
  ·refine(tY f y fs).2 g (wi g λz=>hg ?_);show(if g=f then some u else mA g)=none
   rw[Zal q];exact z
theorem Inv.made(I:Inv X pins σ H s):Inv X pins σ (upd (upd H s.heap.objs.size (.own (s.heap.objs.size+1))) (s.heap.objs.size+1) (.ins C s.heap.objs.size []))
  { s with heap:=(s.heap.push emptyDict).push (instObj C s.heap.objs.size) }:=by
 have e1:(s.heap.push emptyDict).get? s.heap.objs.size=some emptyDict:=Zat s.heap rfl;have e2:((s.heap.push emptyDict).push (instObj C s.heap.objs.size)).get? (s.heap.objs.size+1)=some (instObj C s.heap.objs.size):=by
  have:=Zat (s.heap.push emptyDict) (o:=instObj C s.heap.objs.size) rfl
  rwa [ZbC] at this
 have e3:(s.heap.push emptyDict).Ns s.heap.objs.size (λ_=>none):=⟨emptyDict,#[],_,e1,rfl,(λe he=>absurd he (by simp)),λ_=>rfl⟩
 have I1:=I.laid (a:=s.heap.objs.size) (o:=.own (s.heap.objs.size+1)) (h':=s.heap.push emptyDict) (t':=s.toks) (λb u q=>Zae _ q) (Zah _) ⟨_,e1⟩;refine I1.laid (a:=s.heap.objs.size+1) (o:=.ins C s.heap.objs.size []) (t':=s.toks) (λb u q=>Zae _ q) (Nat.le_of_eq (ZbC _ _)) ?_;have ne:s.heap.objs.size≠s.heap.objs.size+1:=Zaz (Zcb _);refine⟨by rw[aK ne,aN],Zbj _,ne,e2,λ_=>none,(Heap.Ns1.of_empty e3).at λo q=>Zae _ q,λ_=>True.intro,λy hy=>absurd rfl hy⟩
theorem Jr{prog:Program}{w:World}{env:Env}{e:Expr}{f:Str}{pos:Pos}{s:Shared}{Q:Value->Shared->Prop}(hb:attributeBase e f env (eval e env)=eval e env)
  (h:wpAny (model prog w) A (eval e env) (λo s₁=>wpAny (model prog w) A (getAttr o f true) Q E s₁) E s):wpAny (model prog w) A (eval (.Attribute e f pos) env) Q E s:=
 Attribute_any_ h (by rw[arm_eval_Attribute,hb])
end
def Rv(K:PySem.W.Frag)(ta:TE)(f:Str):TE:=λσ H Q=>ta σ H λx H1=>∃ a C dx fs v,x=.ref a/\H1 a=some (.ins C dx fs)/\Cls K C/\gQ K C f/\fs.lookup f=some v/\Q v H1
def Vj(K:PySem.W.Frag)(ta tv:TE)(f:Str):TS:=λD σ H=>tv σ H λy H1=>ta σ H1 λx H2=>∃ a C dx fs,x=.ref a/\H2 a=some (.ins C dx fs)/\Cls K C/\gQ K C f/\fs.length<1000 /\
 D.nx σ (upd H2 a (.ins C dx (nW f y fs)))
section
variable{X:Cx}{o e value:Expr}{f:Str}{pos pos':Pos}{ta tv:TE}
theorem Vk(he:PE X e ta)(hb:attributeBase e f X.env (eval e X.env)=eval e X.env):PE X (.Attribute e f pos) (Rv X.K ta f):=by
 intro pins s σ H Q I h;refine Jr hb (thn (he pins s σ H _ I h) ?_);rintro u s1 ⟨x,H1,I1,rx,a,C,dx,fs,v,ex,ea,c,n,l,q⟩;subst ex;obtain rfl:u=Value.ref a:=rx;exact Hf I1 ea c n l λu' s2 I2 ru=>⟨v,H1,I2,ru,q⟩
theorem Vl(ha:PE X o ta)(hv:PE X value tv)(hs:swapsWith value (some (.Attribute o f pos')) pos.line X.env=pure false):PS X (.Assign [.Attribute o f pos'] value pos) (Vj X.K ta tv f):=by
 intro pins s σ H D I h;refine plainObj_wpAny_Assign_Attribute (thn (hv pins s σ H _ I h) λu s1 ⟨y,H1,I1,ry,q⟩=>thn (ha pins s1 σ H1 _ I1 q) ?_) hs;rintro ov s2 ⟨x,H2,I2,rx,a,C,dx,fs,ex,ea,c,n,l,q2⟩;subst ex;obtain rfl:ov=Value.ref a:=rx;exact Hg I2 ea c n l ry λs3 I3=>⟨σ,_,I3,q2⟩
end
structure cU(k:Nat)(A:Around):Prop where
 hd:A.handled=none
 dp:A.depth+3*k+5<recursionLimit
 un:A.units+16*k+200<cLine
theorem cU.mono{j k:Nat}{A:Around}(r:cU k A)(h:j<=k):cU j A:=⟨r.hd,by have:=r.dp;lia,by have:=r.un;lia⟩
theorem cU.deeper{k:Nat}{A:Around}(r:cU (k+1) A)(env:Env):cU k (A.deeper env):=
 ⟨r.hd,by have:=r.dp;show A.depth+1+3*k+5<_;lia,by have:=r.un;show A.units+3+16*k+200<_;lia⟩
theorem Hh{A:Around}{C:Addr}{us:List Value}{kw:List (Str×Value)}:(A.under (.builtin "type.__call__" ⟨.ref C::us,kw⟩)).depth=A.depth+1:=by
 first|rfl|simp[Around.under,Code.weight,Code.isCreation,Code.isGuard,Code.isCaller,Code.frames,Code.isFrame,guardIds]
theorem Hi{A:Around}{C:Addr}{us:List Value}{kw:List (Str×Value)}:(A.under (.builtin "type.__call__" ⟨.ref C::us,kw⟩)).units=A.units+1:=by
 first|rfl|simp[Around.under,Code.cUnits,Code.frames,Code.isFrame]
theorem cU.make{k:Nat}{A:Around}(r:cU (k+1) A)(C:Addr)(us:List Value)(kw:List (Str×Value)):cU k (A.under (.builtin "type.__call__" ⟨.ref C::us,kw⟩)):=
 ⟨r.hd,by have:=r.dp;rw[Hh];omega,by have:=r.un;rw[Hi];omega⟩
theorem cU.depth{k:Nat}{A:Around}(r:cU k A):A.depth<recursionLimit:=by have:=r.dp;omega
theorem cU.units{k:Nat}{A:Around}(r:cU k A):A.units+64<cLine:=by have:=r.un;omega
def qi:TA:=λ_ H Q=>Q [] H
def gR(ta:TE)(tr:TA):TA:=λσ H Q=>ta σ H λx H1=>tr σ H1 λxs H2=>Q (x::xs) H2
section
variable{X:Cx}{e:Expr}{es:List Expr}{te:TE}{t:TA}{pos:Pos}
theorem aq:PA X [] qi:=λ_ _ _ _ H Q I h=>Zb5 ⟨[],H,I,.nil,h⟩
theorem aj(ha:PE X e te)(hr:PA X es t)(hs:starEach (e::es) X.env=(false,eval e X.env)::starEach es X.env:=by rfl):PA X (e::es) (gR te t):=by
 intro pos pins s σ H Q I h;rw[hs];show wpAny _ _ (spliced ((false,eval e X.env)::backTo pos (starEach es X.env))) _ _ s
 refine Zbu (thn (ha pins s σ H _ I h) ?_);rintro u s1 ⟨x,H1,I1,r1,q1⟩;exact thn (hr pos pins s1 σ H1 _ I1 q1) λus s2 ⟨xs,H2,I2,r2,q2⟩=>⟨x::xs,H2,I2,.cons r1 r2,q2⟩
def Rw(t:TA):TE:=λσ H Q=>t σ H λxs H1=>xs.length<=sizeLine/\∀ p,H1 p=none->Q (.ref p) (upd H1 p (.tup xs))
def Vm(t:TA):TE:=λσ H Q=>t σ H λxs H1=>xs.length<=sizeLine/\∀ p,H1 p=none->Q (.ref p) (upd H1 p (.lst xs))
theorem jd{x1}(h:PA X es t):PE X (.Tuple es x1 pos) (Rw t):=by
 intro pins s σ H Q I hq;refine wpAny_Tuple_spliced (thn (h pos pins s σ H _ I hq) λus s1 ⟨xs,H1,I1,r,z,q⟩=>⟨by rw[<-r.length];exact z,?_⟩)
 have hf:H1 s1.heap.objs.size=none:=I1.hok.fresh (Zah _);refine⟨.ref s1.heap.objs.size,upd H1 s1.heap.objs.size (.tup xs),I1.laid (t':=s1.toks) (λb u e=>Zae _ e) (Zah _) ?_,rfl,q _ hf⟩;exact⟨z,us,r,gO.mk (Zat _ rfl)⟩
theorem di(h:PA X es t):PE X (.List es pos) (Vm t):=by
 intro pins s σ H Q I hq;refine wpAny_List_spliced (thn (h pos pins s σ H _ I hq) λus s1 ⟨xs,H1,I1,r,z,q⟩=>⟨by rw[<-r.length];exact z,?_⟩)
 have hf:H1 s1.heap.objs.size=none:=I1.hok.fresh (Zah _);refine⟨.ref s1.heap.objs.size,upd H1 s1.heap.objs.size (.lst xs),I1.laid (t':=s1.toks) (λb u e=>Zae _ e) (Zah _) ?_,rfl,q _ hf⟩;exact⟨z,us,0,r,Zat _ rfl⟩
end
noncomputable abbrev Sp:=List V->Hp->VK->XK->Prop
noncomputable abbrev CXT:=List Env->Hp->Shared->XK->Value->Shared->Prop
structure Hj(P:Program)(w:World)(K:PySem.W.Frag)(mg:Str->Option Value)(base:Heap)(A:Around)(outer:List Env)(s:Shared)(H:Hp):Prop where
 frames:A.frames=some outer
 mod:Mod K mg base
 bs:∀ b o,base.get? b=some o->s.heap.get? b=some o/\H b=none
 bsz:base.objs.size<=s.heap.objs.size
 qM:s.heap.FunFrames base outer
 frf:∀ b∈frs outer,H b=none
 hok:HOk P w H s.heap
 bare:AllBare s.gens
def CE(outer:List Env)(P:Program)(w:World)(H:Hp)(s:Shared)(Q:VK)(u:Value)(s':Shared):Prop:=
 ∃ v H',s'.os=s.os/\AllBare s'.gens/\Un (frs outer) [] H H' s.heap s'.heap/\HOk P w H' s'.heap/\RelV v u/\Q v H'
def CR(CX:CXT)(outer:List Env)(P:Program)(w:World)(H:Hp)(s:Shared)(Q:VK)(E:XK)(r:Result)(s':Shared):Prop:=
 match r with
 |.ok (.ret u)=>CE outer P w H s Q u s'
 |.ok _=>False
 |.error e=>CX outer H s E e s'
structure iU(P:Program)(w:World)(K:PySem.W.Frag)(mg:Str->Option Value)(base:Heap)(CX:CXT)(k:Nat)(f:Addr)(fd:FuncData)(ps:List Str)(sp:Sp):Prop where
 len:∀ vs H Q E,sp vs H Q E->vs.length=ps.length
 run:∀ (A:Around) (outer:List Env) (s:Shared) (H:Hp) (args:Args) (us:List Value) (vs:List V) (Q:VK) (E:XK),cU k A->Hj P w K mg base A outer s H->BindsTo s fd args (ps.zip us)->Vals vs us->sp vs H Q E ->
  codeAny (model P w) A (.call (.ref f) args) (CR CX outer P w H s Q E) s
theorem Hj.make{P:Program}{w:World}{K:PySem.W.Frag}{mg:Str->Option Value}{base:Heap}{A:Around}{outer:List Env}{s:Shared}{H:Hp}(e:Hj P w K mg base A outer s H)(C:Addr)(us:List Value)(kw:List (Str×Value)) :
  Hj P w K mg base (A.under (.builtin "type.__call__" ⟨.ref C::us,kw⟩)) outer s H:=⟨by first|exact e.frames|(simpa[Around.under,Code.envs,Code.isFrame,pushEnvs] using e.frames),e.mod,e.bs,e.bsz,e.qM,e.frf,e.hok,e.bare⟩
section
variable{X:Cx}{pins:List (Addr×Obj)}{σ:St}{H:Hp}{s s':Shared}
theorem Inv.env0(I:Inv X pins σ H s):Hj X.prog X.w X.K X.mg X.base X.A X.stack s H:=
 ⟨I.ok.frames,I.ok.mod,I.bs,ZaE I.ok.bsz I.sz,I.stack,I.Aa,I.hok,I.bare⟩
theorem Inv.after{Q:VK}{u:Value}(I:Inv X pins σ H s)(h:CE X.stack X.prog X.w H s Q u s'):EP X pins σ Q u s':=by
 obtain⟨v,H',os,bare,un,hok,r,q⟩:=h;obtain⟨hh,g,d,t,os'⟩:=s';obtain rfl:os'=s.os:=os;exact⟨v,H',I.call (h':=hh) (g':=g) (d':=d) (t':=t) (ch:=[]) un hok bare (λb z=>absurd z (by simp)),r,q⟩
end
def m9(sp:Sp)(dvs:List V)(E:XK)(t:TA):TE:=λσ H Q=>t σ H λvs H1=>sp (vs++dvs) H1 Q E
def uJ(C:Addr)(m:Str)(sp:Sp)(dvs:List V)(E:XK)(ta:TE)(t:TA):TE:=λσ H Q=>ta σ H λx H1=>∃ a dx fs,x=.ref a/\H1 a=some (.ins C dx fs)/\fs.lookup m=none /\
 t σ H1 λvs H2=>sp (x::(vs++dvs)) H2 Q E
def Nr(C:Addr)(sp:Sp)(dvs:List V)(E:XK)(t:TA):TE:=λσ H Q=>t σ H λvs H1=>∀ x dx,H1 x=none->H1 dx=none->dx≠x ->
 sp (.ref x::(vs++dvs)) (upd (upd H1 dx (.own x)) x (.ins C dx [])) (λv H2=>v=.non/\Q (.ref x) H2) E
def Binds(K:PySem.W.Frag)(fd:FuncData)(ps:List Str)(ds:List Value):Prop:=
 ∀ (s:Shared) (us:List Value),K.In s.heap->(us++ds).length=ps.length->BindsTo s fd ⟨us,[]⟩ (ps.zip (us++ds))
theorem Binds.all{K:PySem.W.Frag}{fd:FuncData}{ps:List Str}(h:∀ us:List Value,us.length=ps.length->bindArgs fd ⟨us,[]⟩=pure (ps.zip us)):Binds K fd ps []:=λs us _ hl=>by
 rw[Zaw] at hl ⊢;exact .of_eq (h us hl)
def jE(CX:CXT)(X:Cx)(E:XK):Prop:=∀ (pins:List (Addr×Obj)) (σ:St) (H:Hp) (s:Shared) (e:Value) (s':Shared),Inv X pins σ H s->CX X.stack H s E e s'->X.xe e s'
section
variable{X:Cx}{CX:CXT}{k:Nat}{f C:Addr}{fd:FuncData}{ps:List Str}{sp:Sp}{dvs:List V}{ds:List Value}{E:XK}{x m:Str}{p pos apos:Pos}{e o:Expr}{es:List Expr}{ta:TE}{t:TA}
theorem Nt{pins:List (Addr×Obj)}{σ:St}{H:Hp}{s:Shared}{Q:VK}{us:List Value}{vs:List V}(F:iU X.prog X.w X.K X.mg X.base CX k f fd ps sp)(hr:cU k X.A)(hb:Binds X.K fd ps ds)(hd:Vals dvs ds)(hx:jE CX X E)
  (I:Inv X pins σ H s)(r:Vals vs us)(h:sp (vs++dvs) H Q E):wpAny (model X.prog X.w) X.A (call (.ref f) us) (EP X pins σ Q) X.xe s:=by
 have r2:Vals (vs++dvs) (us++ds):=r.append hd;have hl:(us++ds).length=ps.length:=by rw[<-r2.length];exact F.len _ _ _ _ h
 refine wpAny_call (codeAny_mono (F.run X.A X.stack s H ⟨us,[]⟩ (us++ds) (vs++dvs) Q E hr I.env0 (hb s us I.kIn hl) r2 h) λr s' hq=>?_);cases r with
 |error e=>exact hx pins σ H s e s' I hq
 |ok fl=>
  cases fl with
  |ret u=>exact I.after hq
  |next=>exact False.elim hq
  |brk=>exact False.elim hq
  |cont=>exact False.elim hq
theorem Js(F:iU X.prog X.w X.K X.mg X.base CX k f fd ps sp)(hr:cU k X.A)(hg:Gl X x)(hm:X.mg x=some (.ref f))(hk:keepIn X.K (.ref f)=true)(hb:Binds X.K fd ps ds)(hd:Vals dvs ds)(hx:jE CX X E)
  (ha:PA X (e::es) t)(hdb:(x==("__debug__":Str))=false:=by decide)(he:starEach (e::es) X.env=(false,eval e X.env)::starEach es X.env:=by rfl)(hpl:(backTo pos (starEach es X.env)).any (·.1)=false:=by rfl) :
  PE X (.Call (.Name x p) (e::es) [] pos) (m9 sp dvs E t):=by
 intro pins s σ H Q I h;refine wpAny_Call_Name_kw (rE I hg hm ?_ hdb);refine Zb0 (h₀:=X.base) I.ok.mod.kin hk (thn (ha pos pins s σ H _ I h) λus s1 ⟨vs,H1,I1,r,q⟩=>⟨I1.kIn,?_⟩) he hpl;exact Nt F hr hb hd hx I1 r q
theorem Nu{pl:Sem Bool}(he:PE X o ta)(c:Cls X.K C)(hm:Meth X.K C m f)(F:iU X.prog X.w X.K X.mg X.base CX k f fd ps sp)(hr:cU k X.A)(hb:Binds X.K fd ps ds)(hd:Vals dvs ds)(hx:jE CX X E)
  (ht:eval (.Call (.Attribute o m apos) [] [] pos) X.env=(do
   let ov <-eval o X.env
   standAt apos.atName
   let(f,first) <-holding [ov] (getMethod ov m pl)
   callWith pos f first (backTo pos (starEach [] X.env)) (backToKw pos (keywordEach [] X.env))):=by rfl) :
  PE X (.Call (.Attribute o m apos) [] [] pos) (uJ C m sp dvs E ta qi):=by
 intro pins s σ H Q I h;refine PySem.W.methodCall_KW (pl:=pl) (thn (he pins s σ H _ I h) ?_) ht;rintro u s1 ⟨x,H1,I1,rx,a,dx,fs,ex,ea,l,q⟩;subst ex;obtain rfl:u=Value.ref a:=rx;refine vO I1 ea c hm l ?_;exact PySem.W.callWith_K0 (first:=[.ref a]) I1.kIn hm.kp (Nt (us:=[.ref a]) (vs:=[.ref a]) F hr hb hd hx I1 (.cons rfl .nil) q)
structure Mk(K:PySem.W.Frag)(C f:Addr):Prop where
 makes:PySem.W.makesIn K C=true
 init:PySem.W.findIn K (.ref C) "__init__"=some (some (.ref f))
 fn:PySem.W.isFn K (.ref f)=true
 kp:keepIn K (.ref C)=true
theorem Nv{pins:List (Addr×Obj)}{σ:St}{H:Hp}{s:Shared}{Q:VK}{us:List Value}{vs:List V}(M:Mk X.K C f)(F:iU X.prog X.w X.K X.mg X.base CX k f fd ps sp)(hr:cU (k+1) X.A)(hb:Binds X.K fd ps ds)(hd:Vals dvs ds)
  (hx:jE CX X E)(I:Inv X pins σ H s)(r:Vals vs us)
  (h:∀ x dx,H x=none->H dx=none->dx≠x->sp (.ref x::(vs++dvs)) (upd (upd H dx (.own x)) x (.ins C dx [])) (λv H2=>v=.non/\Q (.ref x) H2) E) :
  wpAny (model X.prog X.w) X.A (call (.ref C) us) (EP X pins σ Q) X.xe s:=by
 have hq:=h (s.heap.objs.size+1) s.heap.objs.size (I.hok.fresh (Zbz _)) (I.hok.fresh (Zah _)) (Zaz (Zcb _));have I2:=Inv.made (C:=C) I;have r2:Vals (V.ref (s.heap.objs.size+1)::(vs++dvs)) (Value.ref (s.heap.objs.size+1)::(us++ds)):=.cons rfl (r.append hd);have hl:(Value.ref (s.heap.objs.size+1)::us++ds).length=ps.length:=by
  have e:=r2.length;rw[F.len _ _ _ _ hq] at e;exact e.symm
 refine wpAny_call (Nq (f:=f) I.kIn M.makes M.init (beq_iff_eq.mp M.fn) (codeAny_mono (F.run _ X.stack _ _ ⟨Value.ref (s.heap.objs.size+1)::us,[]⟩ (Value.ref (s.heap.objs.size+1)::(us++ds)) _ _ E (hr.make C us [])
  (I2.env0.make C us []) (hb _ (Value.ref (s.heap.objs.size+1)::us) I2.kIn hl) r2 hq) λr s' hq'=>?_))
 cases r with
 |error e=>exact hx pins σ _ _ e s' I2 hq'
 |ok fl=>
  cases fl with
  |ret u=>
   obtain⟨v,H',I3,rv,ev,q3⟩:=I2.after hq';subst ev;exact⟨rv,⟨V.ref (s.heap.objs.size+1),H',I3,rfl,q3⟩⟩
  |next=>exact False.elim hq'
  |brk=>exact False.elim hq'
  |cont=>exact False.elim hq'
theorem Rx(M:Mk X.K C f)(F:iU X.prog X.w X.K X.mg X.base CX k f fd ps sp)(hr:cU (k+1) X.A)(hg:Gl X x)(hm:X.mg x=some (.ref C))(hb:Binds X.K fd ps ds)(hd:Vals dvs ds)(hx:jE CX X E)
  (ha:PA X (e::es) t)(hdb:(x==("__debug__":Str))=false:=by decide)(he:starEach (e::es) X.env=(false,eval e X.env)::starEach es X.env:=by rfl)(hpl:(backTo pos (starEach es X.env)).any (·.1)=false:=by rfl) :
  PE X (.Call (.Name x p) (e::es) [] pos) (Nr C sp dvs E t):=by
 intro pins s σ H Q I h;refine wpAny_Call_Name_kw (rE I hg hm ?_ hdb);refine Zb0 (h₀:=X.base) I.ok.mod.kin M.kp (thn (ha pos pins s σ H _ I h) λus s1 ⟨vs,H1,I1,r,q⟩=>⟨I1.kIn,?_⟩) he hpl;exact Nv M F hr hb hd hx I1 r q
end
structure aU(N P:List Str)(sc:Scope):Prop where
 kind:sc.kind=.function
 co:sc.isCoroutine=false
 gen:sc.isGenerator=false
 nd:N.Nodup
 pre:N.take P.length=P
 par:∀ x∈P,sc.names.lookup x=some .local\/sc.names.lookup x=some .cell
 nofree:∀ y∈sc.names,y.2≠.free
theorem yU{kindOf:Str->Option NameKind}{x:Str}:∀ {binds:List (Str×Value)}{m:Str->Option Value},(∀ v,(x,v) ∉ binds)->bindL kindOf binds m x=m x
 |[],_,_=>rfl
 |(n,v)::r,m,h=>by
  unfold bindL;rw[yU λw hw=>h w (Zar _ hw)];split
  ·have:x≠n:=by rintro rfl;exact h v ZaF
   simp[this]
  ·rfl
theorem yV{kindOf:Str->Option NameKind}{x:Str}:∀ {binds:List (Str×Value)}{m:Str->Option Value},(∀ v,(x,v) ∉ binds)->bindC kindOf binds m x=m x
 |[],_,_=>rfl
 |(n,v)::r,m,h=>by
  unfold bindC;rw[yV λw hw=>h w (Zar _ hw)];split
  ·rfl
  ·have:x≠n:=by rintro rfl;exact h v ZaF
   simp[this]
theorem yW{kindOf:Str->Option NameKind}{x:Str}{v:Value}:∀ {P:List Str}{vs:List Value}{i:Nat}{m:Str->Option Value},P.Nodup->P[i]?=some x->vs[i]?=some v->kindOf x=some .local ->
  bindL kindOf (P.zip vs) m x=some v
 |[],_,_,_,_,h,_,_=>by simp at h
 |_::_,[],_,_,_,_,h,_=>by simp at h
 |p::P,w::vs,0,m,nd,h1,h2,hk=>by
  simp at h1 h2;subst h1;subst h2;show bindL kindOf ((p,w)::P.zip vs) m p=_
  unfold bindL;rw[yU λv hv=>(Zbk.mp nd).1 (Zcg hv).1,Zag hk];simp
 |p::P,w::vs,i+1,m,nd,h1,h2,hk=>by
  show bindL kindOf ((p,w)::P.zip vs) m x=_
  unfold bindL;exact yW (i:=i) (Zbk.mp nd).2 (by simpa using h1) (by simpa using h2) hk
theorem yX{kindOf:Str->Option NameKind}{x:Str}{v:Value}:∀ {P:List Str}{vs:List Value}{i:Nat}{m:Str->Option Value},P.Nodup->P[i]?=some x->vs[i]?=some v->kindOf x≠some .local ->
  bindC kindOf (P.zip vs) m x=some v
 |[],_,_,_,_,h,_,_=>by simp at h
 |_::_,[],_,_,_,_,h,_=>by simp at h
 |p::P,w::vs,0,m,nd,h1,h2,hk=>by
  simp at h1 h2;subst h1;subst h2;show bindC kindOf ((p,w)::P.zip vs) m p=_
  unfold bindC;rw[yV λv hv=>(Zbk.mp nd).1 (Zcg hv).1,Zal hk];simp
 |p::P,w::vs,i+1,m,nd,h1,h2,hk=>by
  show bindC kindOf ((p,w)::P.zip vs) m x=_
  unfold bindC;exact yX (i:=i) (Zbk.mp nd).2 (by simpa using h1) (by simpa using h2) hk
def start(N:List Str)(vs:List V):St:=vs.map some++List.replicate (N.length-vs.length) none
def uZ(CX:CXT)(P:Program)(w:World)(K:PySem.W.Frag)(mg:Str->Option Value)(base:Heap)(N:List Str)(qual:Str)(scope:Scope)(f:Addr)(cd:Value)(A:Around)(outer:List Env)(s:Shared)(H:Hp)(E:XK):Cx where
 prog:=P
 w:=w
 K:=K
 mg:=mg
 base:=base
 A:=A.deeper (envOfC qual scope s.heap.objs.size f cd)
 N:=N
 s₀:=s
 H₀:=H
 env:=envOfC qual scope s.heap.objs.size f cd
 outer:=outer
 stack:=envOfC qual scope s.heap.objs.size f cd::outer
 ex:=[]
 calm:=true
 fn:=λ_=>true
 pn:=[]
 xe:=λe s'=>wpAny (model P w) (A.deeper (envOfC qual scope s.heap.objs.size f cd)) (leaving (envOfC qual scope s.heap.objs.size f cd) e) (λ_ s''=>CX outer H s E e s'') (λe' s''=>CX outer H s E e' s'') s'
theorem Dn{sc:Scope}{n:Nat}{x:Str}(h:sc.names.lookup x=some .cell):∃ c,(cellsFrom n sc.names []).lookup x=some c:=by
 have q:=PySem.W.cellsFrom_some sc.names n [] (.inl h);exact Option.isSome_iff_exists.mp q
theorem KQ{CX:CXT}{P:Program}{w:World}{K:PySem.W.Frag}{mg:Str->Option Value}{base:Heap}{N ps:List Str}{qual:Str}{scope:Scope}{f:Addr}{cd:Value}{A:Around}{outer:List Env}{s s1:Shared}{H:Hp}{E:XK}{us:List Value}{vs:List V}
  (S:aU N ps scope)(hd:A.handled=none)(e0:Hj P w K mg base A outer s H)(hl:vs.length=ps.length)(r:Vals vs us)
  (x:InCallC s s.heap.objs.size (bindL (envOfC qual scope s.heap.objs.size f cd).kindOf (ps.zip us) λ_=>none) (cellsFrom (s.heap.objs.size+1) scope.names []) (bindC (envOfC qual scope s.heap.objs.size f cd).kindOf (ps.zip us) λ_=>none) s1) :
  Inv (uZ CX P w K mg base N qual scope f cd A outer s H E) [] (start N vs) H s1:=by
 have hpl:ps.length<=N.length:=by have:=Zbh List.length S.pre;rw[Zcc] at this;lia
 obtain⟨h1,tk,rfl,hk⟩:=x.done;have noA:∀ b:Addr,b ∉ (uZ CX P w K mg base N qual scope f cd A outer s H E).ex:=λb z=>absurd (show b∈([]:List Addr) from z) (by simp)
 refine⟨⟨e0.mod,S.kind,rfl,rfl,Zah _,λy z c h1 h2=>?_,λy hy=>?_,λy c _ h=>?_,λ_=>hd,Around.frames_deeper e0.frames,.inr ⟨rfl,rfl⟩,λb z=>absurd z (noA b),e0.bs,e0.bsz,λb _ _=>noA b,λb z=>absurd z (noA b),e0.qM,e0.frf⟩,
  rfl,e0.bare,Un.kept hk,⟨_,x.toInCall.ns,λi y v h1 h2 h3=>?_⟩,λy c h=>⟨_,x.cell y c h⟩,e0.hok.fresh (Zah _),λy c h=>?_,λp hp=>absurd (show p∈([]:List (Addr×Obj)) from hp) (by simp),e0.hok.kept hk,?_⟩
 ·exact name_of_addr x.apart (Zbd h1) (Zbd h2)
 ·have hy:scope.names.lookup y=some .cell\/scope.names.lookup y=some .free:=hy;rcases hy with hy|hy
  ·exact Dn hy
  ·exact absurd rfl (S.nofree _ (Zbd hy))
 ·exact ZaZ (x.above y c (Zbd h))
 ·have hi:i<vs.length:=by
   unfold start at h2;by_cases hi:i<vs.length
   ·exact hi
   ·rw[Zam (by simpa using hi)] at h2
    rw[ZaO] at h2;split at h2<;>cases h2
  have ha:vs[i]?=some v:=by
   unfold start at h2;rw[Zaj (by simpa using hi),Zaf] at h2
   cases e:vs[i]? with
   |none=>rw[e] at h2;cases h2
   |some a=>rw[e] at h2;cases h2;rfl
  obtain⟨u,hu,rv⟩:=r.get ha;have hp:ps[i]?=some y:=by
   rw[<-S.pre,List.getElem?_take_of_lt (by lia)];exact h1
  have ndP:ps.Nodup:=by rw[<-S.pre];exact S.nd.sublist (List.take_sublist _ _)
  refine⟨u,rv,?_⟩;rcases S.par y (Zap hp) with k|k
  ·exact .inl ⟨k,yW ndP hp hu k⟩
  ·obtain⟨c,e⟩:=Dn (n:=s.heap.objs.size+1) k;refine .inr ⟨.inl k,c,e,?_⟩;have q:=x.cell y c e;rw[yX ndP hp hu (by show scope.names.lookup y≠_;rw[k];decide)] at q
   exact q
 ·exact e0.hok.fresh (ZaZ (x.above y c (Zbd h)))
 ·unfold start;show _=N.length
  rw[Zau,Zac,Za7];lia
theorem Ny{CX:CXT}{P:Program}{w:World}{K:PySem.W.Frag}{mg:Str->Option Value}{base:Heap}{k:Nat}{f:Addr}{name qual:Str}{params:Arguments}{body:List Stmt}{scope:Scope}{dV kV doc pm cdv ct oc:Value}{an od:Option Addr}
  {osl:Array (Option Value)}{N ps:List Str}{sp:Sp}(lk:K.lookup f=some ⟨oc,od,.func (fnOf name qual params body scope dV kV doc pm an cdv ct),osl⟩)(hcd:PySem.W.codeIn K cdv qual=true)(S:aU N ps scope)
  (len:∀ vs H Q E,sp vs H Q E->vs.length=ps.length)
  (hbody:∀ (A:Around) (outer:List Env) (s:Shared) (H:Hp) (vs:List V) (Q:VK) (E:XK),cU k (A.deeper (envOfC qual scope s.heap.objs.size f cdv))->sp vs H Q E ->
   ∃ t,PSs (uZ CX P w K mg base N qual scope f cdv A outer s H E) body t/\t { nx:=λ_ H'=>Q .non H',rt:=Q } (start N vs) H) :
  iU P w K mg base CX (k+1) f (fnOf name qual params body scope dV kV doc pm an cdv ct) ps sp:=by
 refine⟨len,λA outer s H args us vs Q E hr e0 hb r hsp=>?_⟩;have hl:=len _ _ _ _ hsp;have KX:K.In s.heap:=e0.mod.kin.keeps λb o e=>(e0.bs b o e).1;have lim:s.heap.NoLimit:=e0.mod.nolimit.keeps λb o e=>(e0.bs b o e).1;have hkind:∀ y∈ps.zip us,scope.names.lookup y.1=some .local\/(scope.names.lookup y.1=some .cell/\((cellsFrom (s.heap.objs.size+1) scope.names []).lookup y.1).isSome=true):=λ⟨n,v⟩ hy=>by
  rcases S.par n (Zcg hy).1 with q|q
  ·exact .inl q
  ·exact .inr ⟨q,PySem.W.cellsFrom_some _ _ _ (.inl q)⟩
 refine codeAny_call_function hr.depth (KX _ _ lk) rfl S.co S.gen rfl (PySem.W.codeRec_of KX hcd) (hb _ _ _ _ ?_);refine wpAny_newFunctionEnv_cells S.kind hkind λenv he s1 x=>?_;subst he;refine⟨lim.keeps x.toInCall.keep,codeAny_func ?_⟩;obtain⟨t,ht,hq⟩:=hbody A outer s H vs Q E (hr.deeper _) hsp;have I:Inv (uZ CX P w K mg base N qual scope f cdv A outer s H E) [] (start N vs) H s1:=KQ S hr.hd e0 hl r x;refine ZaK (ht [] s1 (start N vs) H _ I hq) (λfl s' hs=>?_) λe s' hs=>hs;have fin:∀ {σ':St}{H':Hp}{v:V}{u:Value},Inv (uZ CX P w K mg base N qual scope f cdv A outer s H E) [] σ' H' s'->RelV v u->Q v H'->CE outer P w H s Q u s':=
  λ{σ' H' v u} J rv q=>⟨v,H',J.os,J.bare,J.base,J.hok,rv,q⟩
 cases fl with
 |ret u=>
  obtain⟨v,σ',H',J,rv,q⟩:=hs;exact fin J rv q
 |next=>
  obtain⟨σ',H',J,q⟩:=hs;exact fin (v:=V.non) (u:=Value.none) J rfl q
 |brk=>
  obtain⟨_,_,_,q⟩:=hs;exact False.elim q
 |cont=>
  obtain⟨_,_,_,q⟩:=hs;exact False.elim q
section
variable{X:Cx}{x:Str}{p pos:Pos}{e:Expr}{es:List Expr}{t:TA}{id T:String}{r:List V->Hp->VK->Prop}
def tCB(r:List V->Hp->VK->Prop)(t:TA):TE:=λσ H Q=>t σ H λvs H1=>r vs H1 Q
theorem bz(hc:m8 X (.builtin id) r)(hg:Gl X x)(hm:X.mg x=none)(hv:bootBuiltins x=some (.builtin id))(ha:PA X (e::es) t)(hn:x≠"__name__":=by decide)(hdb:(x==("__debug__":Str))=false:=by decide)
  (he:starEach (e::es) X.env=(false,eval e X.env)::starEach es X.env:=by rfl)(hpl:(backTo pos (starEach es X.env)).any (·.1)=false:=by rfl):PE X (.Call (.Name x p) (e::es) [] pos) (tCB r t):=by
 intro pins s σ H Q I h;refine wpAny_Call_Name_kw (vK I hg hm hv ?_ hn hdb);exact PyProof.Rows.callWith_builtin1 (thn (ha pos pins s σ H _ I h) λus s1 ⟨vs,H1,I1,r1,q1⟩=>hc pins s1 σ H1 vs us Q I1 r1 q1) he hpl
theorem fK(hc:m8 X (.type T) r)(hg:Gl X x)(hm:X.mg x=none)(hv:bootBuiltins x=some (.type T))(ha:PA X (e::es) t)(hn:x≠"__name__":=by decide)(hdb:(x==("__debug__":Str))=false:=by decide)
  (he:starEach (e::es) X.env=(false,eval e X.env)::starEach es X.env:=by rfl)(hpl:(backTo pos (starEach es X.env)).any (·.1)=false:=by rfl):PE X (.Call (.Name x p) (e::es) [] pos) (tCB r t):=by
 intro pins s σ H Q I h;refine wpAny_Call_Name_kw (vK I hg hm hv ?_ hn hdb);exact Zbi (thn (ha pos pins s σ H _ I h) λus s1 ⟨vs,H1,I1,r1,q1⟩=>hc pins s1 σ H1 vs us Q I1 r1 q1) he hpl
end
end L2
namespace HT
open PySem PyProof.Rows
section
variable{prog:Program}{w:World}{A:Around}{E:Value->Shared->Prop}{s:Shared}
theorem Ry{t b:Addr}{vs ws:List Value}{Q:Value->Shared->Prop}(ht:IsTup s.heap t vs.toArray)(hb:IsTup s.heap b ws.toArray)(hv:vs≠[])
  (h1:ws=[]->Q (.ref t) s)(h2:ws≠[]->Q (.ref s.heap.objs.size) { s with heap:=s.heap.push { cls:=.type "tuple",data:=.seq (vs++ws).toArray } })
  (hsz:vs.length+ws.length<=sizeLine):wpAny (model prog w) A (binaryOp .Add (.ref t) (.ref b)) Q E s:=by
 obtain⟨⟨cls,dd,data,sl⟩,ho,hc,n,hd⟩:=id ht;obtain⟨⟨cls2,dd2,data2,sl2⟩,ho2,hc2,n2,hd2⟩:=id hb;simp only at hc hd hc2 hd2;subst hc hd hc2 hd2;have e:vs.toArray++ws.toArray=(vs++ws).toArray:=by simp
 by_cases hw:ws=[]
 ·exact concat_meets ⟨_,ho,rfl⟩ ⟨_,ho2,rfl⟩ noFill_tuple_add seq_tuple_add PySem.F.slot_tuple_add PySem.F.entry_tuple_add (PySem.F.args_tuple_add_2 _ _)
   (tuple_addW1 t b vs.toArray ws.toArray n n2 dd dd2 sl sl2 (by simpa using hv) (by simp[hw])) ⟨ho,ho2,h1 hw⟩
 ·refine concat_meets ⟨_,ho,rfl⟩ ⟨_,ho2,rfl⟩ noFill_tuple_add seq_tuple_add PySem.F.slot_tuple_add PySem.F.entry_tuple_add (PySem.F.args_tuple_add_2 _ _)
   (tuple_addW2 t b vs.toArray ws.toArray n n2 dd dd2 sl sl2 (by simpa using hv) (by simpa using hw) (by rw[List.size_toArray,List.size_toArray];exact hsz)) ⟨ho,ho2,?_⟩
  rw[e];exact h2 hw
def sIx(n d:Nat):Option Int->Nat
 |none=>d
 |some v=>if v<0 then(v+(n:Int)).toNat else min v.toNat n
end
end HT
namespace L2
open PySem PySem.Spec PyProof.Rows
noncomputable abbrev TO:=St->Hp->(Option Int->Hp->Prop)->Prop
def PO(X:Cx)(e:Option Expr)(t:TO):Prop:=
 ∀ (pins:List (Addr×Obj)) (s:Shared) (σ:St) (H:Hp) (Q:Option Int->Hp->Prop),Inv X pins σ H s->t σ H Q ->
  wpAny (model X.prog X.w) X.A (evalPart e X.env) (λu s'=>∃ o H',Inv X pins σ H' s'/\IsPart u o/\Q o H') X.xe s
def Jt:TO:=λ_ H Q=>Q none H
def Ub(t:TE):TO:=λσ H Q=>t σ H λx H1=>∃ i,x=.int i/\Q (some i) H1
section
variable{X:Cx}{e:Expr}{te:TE}{lo hi:Option Expr}{tl th:TO}{pos p2:Pos}
theorem pK:PO X none Jt:=by
 intro pins s σ H Q I h;rw[evalPart_none];exact Zay ⟨none,H,I,.none,h⟩
theorem pL(h:PE X e te):PO X (some e) (Ub te):=by
 intro pins s σ H Q I hw;rw[evalPart_some];refine thn (h pins s σ H _ I hw) ?_;rintro u s1 ⟨x,H1,I1,r1,q1⟩;obtain⟨i,rfl,q⟩:=q1;obtain⟨t,rfl⟩:=r1;exact⟨some i,H1,I1,.int i t,q⟩
def SlR(X:Cx)(r:V->Option Int->Option Int->Hp->VK->Prop):Prop:=
 ∀ (pins:List (Addr×Obj)) (s:Shared) (σ:St) (H:Hp) (x:V) (v vl vu:Value) (lo hi:Option Int) (sl:Addr) (Q:VK),Inv X pins σ H s->RelV x v->s.heap.IsSliceOf sl vl vu .none->IsPart vl lo->IsPart vu hi->r x lo hi H Q ->
  ∃ T id,typeLookup (.type T) "__getitem__"=pure (some (.builtin id))/\s.TypeIs v T/\wpAny (model X.prog X.w) X.A (getItem v (.ref sl)) (EP X pins σ Q) X.xe s
def tSl(r:V->Option Int->Option Int->Hp->VK->Prop)(te:TE)(tl th:TO):TE:=λσ H Q=>te σ H λx H1=>tl σ H1 λl H2=>th σ H2 λu H3=>r x l u H3 Q
theorem lE{r:V->Option Int->Option Int->Hp->VK->Prop}(hr:SlR X r)(he:PE X e te)(hl:PO X lo tl)(hu:PO X hi th):PE X (.Subscript e (.Slice lo hi none p2) pos) (tSl r te tl th):=by
 intro pins s σ H Q I h;refine Subscript_ (thn (he pins s σ H _ I h) ?_);rintro v s1 ⟨x,H1,I1,r1,q1⟩;refine wpAny_Slice (thn (hl pins s1 σ H1 _ I1 q1) λvl s2 ⟨l,H2,I2,pl,q2⟩=>thn (hu pins s2 σ H2 _ I2 q2) ?_);rintro vu s3 ⟨u,H3,I3,pu,q3⟩;rw[evalPart_none];refine Zay ?_;have I4:Inv X pins σ H3 { s3 with heap:=s3.heap.push { cls:=.type "slice",data:=.fields #[vl,vu,.none] } }:=I3.kept (t':=s3.toks) λb ob q=>Zae _ q;obtain⟨T,id,hT,ht,hg⟩:=hr pins { s3 with heap:=s3.heap.push { cls:=.type "slice",data:=.fields #[vl,vu,.none] } } σ H3 x v vl vu l u s3.heap.objs.size Q I4 r1 (Heap.IsSliceOf.new ..) pl pu q3;show wpAny (model X.prog X.w) X.A (subscriptTail e (.Slice lo hi none p2) v (.ref s3.heap.objs.size)) (EP X pins σ Q) X.xe { s3 with heap:=s3.heap.push { cls:=.type "slice",data:=.fields #[vl,vu,.none] } }
 exact tail_any (ops:=[.ref s3.heap.objs.size,v]) ht hT hg (by with_unfolding_all rfl)
def KR(xs:List V)(lo hi:Option Int):List V:=(xs.drop (HT.sIx xs.length 0 lo)).take (HT.sIx xs.length xs.length hi-HT.sIx xs.length 0 lo)
theorem Do(xs:List V)(lo hi:Option Int):(KR xs lo hi).length<=xs.length:=by
 unfold KR;rw[Zcc,List.length_drop];omega
def Uc(K:PySem.W.Frag):R2:=λx y H Q=>∃ a b xs ys,x=.ref a/\y=.ref b/\SqT K H a xs/\SqT K H b ys/\xs≠[]/\xs.length+ys.length<=sizeLine /\
 (ys=[]->Q (.ref a) H)/\(ys≠[]->∀ p,H p=none->Q (.ref p) (upd H p (.tup (xs++ys))))
theorem Vals.Af{xs:List V}{us:List Value}(r:Vals xs us):us=[]↔xs=[]:=by
 cases r with
 |nil=>simp
 |cons _ _=>simp
theorem Rz:OpR X (binaryOp .Add) (Uc X.K):=by
 intro pins s σ H x y v u Q I rx ry h;obtain⟨a,b,xs,ys,rfl,rfl,ha,hb,hx,hz,q1,q2⟩:=h;cases rx;cases ry;obtain⟨its,r1,p1,_⟩:=I.tuple ha;obtain⟨its2,r2,p2,_⟩:=I.tuple hb;refine HT.Ry p1 p2 (λz=>hx (r1.Af.mp z)) (λz=>⟨.ref a,H,I,rfl,q1 (r2.Af.mp z)⟩) (λz=>?_) (by rw[<-r1.length,<-r2.length];exact hz)
 refine⟨.ref s.heap.objs.size,_,I.laid (t':=s.toks) (o:=.tup (xs++ys)) (λb ob q=>Zae _ q) (Zah _) ?_,rfl,q2 (λw=>z (r2.Af.mpr w)) _ (I.hok.fresh (Zah _))⟩;exact⟨by rw[Zau];exact hz,_,r1.append r2,gO.new _ _⟩
end
def ixN(n:Nat)(i:Int):Option Nat:=if 0<=i then(if i<n then some i.toNat else none) else if -(n:Int)<=i then some (i+n).toNat else none
def atI{α:Type}(xs:List α)(i:Int):Option α:=(ixN xs.length i).bind λj=>xs[j]?
theorem Ju{n:Nat}{i:Int}{j:Nat}(h:ixN n i=some j):seqIndex? i n=some j/\j<n/\-(n:Int)<=i/\i<n:=by
 unfold ixN at h;by_cases h0:0<=i
 ·rw[Zag h0] at h;by_cases h1:i<n
  ·rw[Zag h1] at h;have e:i.toNat=j:=Zaa h;exact⟨by rw[seqIndex_of h0 h1,e],by lia,by lia,h1⟩
  ·rw[Zal h1] at h;cases h
 ·rw[Zal h0] at h;by_cases h1:-(n:Int)<=i
  ·rw[Zag h1] at h;have e:(i+n).toNat=j:=Zaa h;exact⟨by rw[seqIndex_neg (by lia) h1,e],by lia,h1,by lia⟩
  ·rw[Zal h1] at h;cases h
theorem Ag{α:Type}{xs:List α}{i:Int}{v:α}(h:atI xs i=some v):∃ j,seqIndex? i xs.length=some j/\xs[j]?=some v/\j<xs.length/\-(xs.length:Int)<=i/\i<xs.length:=by
 unfold atI at h;cases e:ixN xs.length i with
 |none=>rw[e] at h;cases h
 |some j=>
  rw[e] at h;obtain⟨h1,h2,h3,h4⟩:=Ju e;exact⟨j,h1,h,h2,h3,h4⟩
theorem jn{α:Type}{xs:List α}{j:Nat}{v:α}(h:xs[j]?=some v):atI xs (j:Int)=some v:=by
 have hj:j<xs.length:=(Zas.mp h).1;have e:ixN xs.length (j:Int)=some j:=by
  unfold ixN;rw[Zag (by lia),Zag (by lia)];simp
 unfold atI;rw[e];exact h
def RC(b:Expr):Prop:=∀ o i,subscripted b false o i=operate [o,i] (getItem o i)
def IxR(X:Cx)(r:R2):Prop:=
 ∀ (value slice:Expr) (pins:List (Addr×Obj)) (s:Shared) (σ:St) (H:Hp) (x y:V) (v u:Value) (Q:VK),Inv X pins σ H s->RelV x v->RelV y u->r x y H Q ->
  subscripted slice false v u=operate [v,u] (getItem v u)->wpAny (model X.prog X.w) X.A (subscriptTail value slice v u) (EP X pins σ Q) X.xe s
def MtR(X:Cx)(id:String)(r:V->List V->Hp->VK->Prop):Prop:=
 ∀ (pins:List (Addr×Obj)) (s:Shared) (σ:St) (H:Hp) (x:V) (xs:List V) (v:Value) (us:List Value) (Q:VK),Inv X pins σ H s->RelV x v->Vals xs us->r x xs H Q ->
  wpAny (model X.prog X.w) X.A (call (.builtin id) (v::us)) (EP X pins σ Q) X.xe s
section
variable{X:Cx}{a b:Expr}{ta tb:TE}{pos:Pos}
theorem IxR.or{r r':R2}(h:IxR X r)(h':IxR X r'):IxR X (λx y H Q=>r x y H Q\/r' x y H Q):=by
 intro value slice pins s σ H x y v u Q I rx ry q hs;rcases q with q|q
 ·exact h value slice pins s σ H x y v u Q I rx ry q hs
 ·exact h' value slice pins s σ H x y v u Q I rx ry q hs
theorem bD{r:R2}(hr:IxR X r)(ha:PE X a ta)(hb:PE X b tb)(hs:RC b):PE X (.Subscript a b pos) (tOp r ta tb):=by
 intro pins s σ H Q I h;exact Subscript_ (Vf ha hb I h λv u s2 x y H2 I2 rx ry q=>hr a b pins s2 σ H2 x y v u Q I2 rx ry q (hs _ _))
def WP(K:PySem.W.Frag):R2:=λx y H Q=>∃ p xs i v,x=.ref p/\y=.int i/\SqL K H p xs/\atI xs i=some v/\Q v H
def WQ(K:PySem.W.Frag):R2:=λx y H Q=>∃ p xs i v,x=.ref p/\y=.int i/\SqT K H p xs/\atI xs i=some v/\Q v H
def WR:R2:=λx y H Q=>∃ z i c,x=.str z/\y=.int i/\z.length<=sizeLine/\atI z.cps.toList i=some c/\Q (.str ⟨#[c]⟩) H
theorem RG:IxR X (WP X.K):=by
 intro value slice pins s σ H x y v u Q I rx ry h hs;obtain⟨p,xs,i,z,rfl,rfl,hq,he,q⟩:=h;cases rx;obtain⟨t,rfl⟩:=ry;obtain⟨its,r,pl,hz⟩:=I.list hq;obtain⟨j,h1,h2,h3,h4,h5⟩:=Ag he;obtain⟨w,ew,rw'⟩:=r.get h2;have hl:=r.length;have hn:=vN;have fin:EP X pins σ Q w s:=⟨z,H,I,rw',q⟩;by_cases h0:0<=i
 ·have hj:i.toNat=j:=by
   rw[seqIndex_of h0 h5] at h1;exact Zaa h1
  exact item_listR pl.isList h0 (by lia) (by rw[hj];simpa using ew) fin hs
 ·have hj:(i+(its.toArray.size:Int)).toNat=j:=by
   rw[seqIndex_neg (by lia) h4] at h1
   rw[List.size_toArray,<-hl];exact Zaa h1
  exact subscriptTail_builtinR (x:=w) pl.isList.typeIs slot_list_getitem.lookup
   (wpAny_getItem_list_neg (Q:=λr s'=>r=w/\EP X pins σ Q r s') pl.isList (by lia) (by rw[List.size_toArray]<;>lia) (by lia) (by rw[hj];simpa using ew) ⟨rfl,fin⟩) hs
theorem Vn:IxR X (WQ X.K):=by
 intro value slice pins s σ H x y v u Q I rx ry h hs;obtain⟨p,xs,i,z,rfl,rfl,hq,he,q⟩:=h;cases rx;obtain⟨t,rfl⟩:=ry;obtain⟨its,r,pl,hz⟩:=I.tuple hq;obtain⟨j,h1,h2,h3,h4,h5⟩:=Ag he;obtain⟨w,ew,rw'⟩:=r.get h2;have hl:=r.length;have hn:=vN;have fin:EP X pins σ Q w s:=⟨z,H,I,rw',q⟩;exact subscriptTail_builtinR (x:=w) pl.typeIs slot_tuple_getitem.lookup
  (getItem_tuple (j:=j) (Q:=λr s'=>r=w/\EP X pins σ Q r s') pl (by omega) (by omega) (by rw[List.size_toArray,<-hl];exact h1) (by simpa using ew) ⟨rfl,fin⟩) hs
theorem Vo:IxR X WR:=by
 intro value slice pins s σ H x y v u Q I rx ry h hs;obtain⟨z,i,c,rfl,rfl,hz,he,q⟩:=h;obtain⟨t,rfl⟩:=rx;obtain⟨t',rfl⟩:=ry;obtain⟨j,h1,h2,h3,h4,h5⟩:=Ag he;have hl:z.cps.toList.length=z.length:=by simp[Str.length]
 rw[hl] at h1 h4 h5;have hn:=vN;exact tail_any (typeIs_str s z t) slot_str_getitem.lookup (getItem_str (c:=c) (by
  have e1:decide (i < -(2^63:Int))=false:=ZaC (by lia)
  have e2:decide (i>=2^63)=false:=ZaC (by lia)
  rw[e1,e2,Bool.or_false]) (by rw[h1];simpa using h2) ⟨.str ⟨#[c]⟩,H,I.tok _,⟨_,rfl⟩,q⟩) hs
def rIx(K:PySem.W.Frag):R2:=λx y H Q=>WP K x y H Q\/WQ K x y H Q\/WR x y H Q
theorem aW:IxR X (rIx X.K):=RG.or (Vn.or Vo)
theorem Hk(its:List Value)(n j:Nat)(u:Value):Obj.mapSeq (·.setIfInBounds j u) { cls:=.type "list",data:=.seq its.toArray n }={ cls:=.type "list",data:=.seq (its.set j u).toArray n }:=by
 simp[Obj.mapSeq]
theorem Inv.lst{pins:List (Addr×Obj)}{σ:St}{H:Hp}{s:Shared}{p:Addr}{xs:List V}(I:Inv X pins σ H s)(h:H p=some (.lst xs)) :
  ∃ (its:List Value) (n:Nat),Vals xs its/\s.heap.get? p=some { cls:=.type "list",data:=.seq its.toArray n }/\xs.length<=sizeLine:=by
 obtain⟨z,its,n,r,e⟩:=I.hok p _ h;exact⟨its,n,r,e,z⟩
theorem Inv.Vp{pins:List (Addr×Obj)}{σ:St}{H:Hp}{s:Shared}{p:Addr}{xs ys:List V}{its its':List Value}{n n':Nat}{f:Obj->Obj}(I:Inv X pins σ H s)(h:H p=some (.lst xs))
  (ho:s.heap.get? p=some { cls:=.type "list",data:=.seq its.toArray n })(hf:f { cls:=.type "list",data:=.seq its.toArray n }={ cls:=.type "list",data:=.seq its'.toArray n' })(r:Vals ys its')(hz:ys.length<=sizeLine)(t:Nat) :
  Inv X pins σ (upd H p (.lst ys)) { s with heap:=s.heap.update p f,toks:=t }:=by
 have e:(s.heap.update p f).get? p=some { cls:=.type "list",data:=.seq its'.toArray n' }:=by
  rw[Zbl f ho (by rw[hf]<;>rfl),hf]
 refine I.write (x:=p) (e:=p) (by rw[h];trivial) (.inl rfl) (λb u hb q=>(ZaR _ _ (Za0 hb)).trans q) ⟨_,e⟩ ?_
 exact⟨hz,its',n',r,e⟩
def Ud:V->V->V->Hp->(Hp->Prop)->Prop:=λo i v H Q=>∃ p xs k j,o=.ref p/\i=.int k/\H p=some (.lst xs)/\ixN xs.length k=some j/\Q (upd H p (.lst (xs.set j v)))
theorem set_list:Wy X Ud:=by
 intro pins s σ H o i v ov iv u Q I ro ri rv h;obtain⟨p,xs,k,j,rfl,rfl,hp,hj,q⟩:=h;cases ro;obtain⟨t,rfl⟩:=ri;obtain⟨its,n,r,ho,hz⟩:=I.lst hp;obtain⟨h1,h2,h3,h4⟩:=Ju hj;have hl:=r.length;have hn:=vN;have I':Inv X pins σ (upd H p (.lst (xs.set j v))) { s with heap:=s.heap.update p (Obj.mapSeq (·.setIfInBounds j u)) }:=
  I.Vp hp ho (Hk its n j u) (r.set rv j) (by rw[List.length_set];exact hz) s.toks
 by_cases h0:0<=k
 ·have hk:k.toNat=j:=by
   rw[seqIndex_of h0 h4] at h1;exact Zaa h1
  exact PySem.W.ki_setAt ho h0 (by omega) (by rw[List.size_toArray,<-hl];exact h4) (by rw[hk];exact⟨_,I',q⟩)
 ·have hk:(k+(its.toArray.size:Int)).toNat=j:=by
   rw[seqIndex_neg (by omega) h3] at h1
   rw[List.size_toArray,<-hl];exact Zaa h1
  exact PySem.W.ki_setBack ho (by omega) (by rw[List.size_toArray,<-hl];exact h3) (by omega) (by rw[hk];exact⟨_,I',q⟩)
theorem Ah(lo hi:Option Int)(n:Nat):(sliceBounds lo hi none n).1=((HT.sIx n 0 lo:Nat):Int)/\(sliceBounds lo hi none n).2.1=((HT.sIx n n hi:Nat):Int)/\(sliceBounds lo hi none n).2.2=1:=by
 refine⟨?_,?_,rfl⟩
 ·cases lo with
  |none=>simp[sliceBounds,HT.sIx]
  |some i=>
   simp only[sliceBounds,HT.sIx,Option.getD_none,show(1:Int)>0 by decide,ZaV]
   by_cases h:i<0
   ·simp only[h,ZaV]<;>lia
   ·simp only[h,ZaH]<;>lia
 ·cases hi with
  |none=>simp[sliceBounds,HT.sIx]
  |some i=>
   simp only[sliceBounds,HT.sIx,Option.getD_none,show(1:Int)>0 by decide,ZaV]
   by_cases h:i<0
   ·simp only[h,ZaV]<;>lia
   ·simp only[h,ZaH]<;>lia
theorem yf(its:List Value)(lo hi:Option Int):slicePick its.toArray lo hi none=((its.drop (HT.sIx its.length 0 lo)).take (HT.sIx its.length its.length hi-HT.sIx its.length 0 lo)).toArray:=by
 obtain⟨h1,h2,h3⟩:=Ah lo hi its.toArray.size;unfold slicePick;rw[h1,h2,h3];simp only[sliceRange_one,pick_run,List.size_toArray]<;>rfl
def WT(K:PySem.W.Frag):V->Option Int->Option Int->Hp->VK->Prop:=λx lo hi H Q=>∃ a xs,x=.ref a/\SqL K H a xs/\∀ p,H p=none->Q (.ref p) (upd H p (.lst (KR xs lo hi)))
theorem RJ:SlR X (WT X.K):=by
 intro pins s σ H x v vl vu lo hi sl Q I rx hs pl pu h;obtain⟨a,xs,rfl,hx,q⟩:=h;cases rx;obtain⟨its,r,ht,hz⟩:=I.list hx;have hlen:=r.length;refine⟨"list",_,slot_list_getitem.lookup,ht.isList.typeIs,?_⟩;refine wpAny_getItem_list_slice ht.isList hs pl pu .none (by simp) ?_ (by rw[List.size_toArray]<;>lia)
 rw[yf,<-hlen];refine⟨.ref s.heap.objs.size,_,I.laid (t':=s.toks) (o:=.lst (KR xs lo hi)) (λb ob q=>Zae _ q) (Zah _) ?_,rfl,q _ (I.hok.fresh (Zah _))⟩;exact⟨ZaE (Do xs lo hi) hz,_,0,(r.drop (HT.sIx xs.length 0 lo)).take (HT.sIx xs.length xs.length hi-HT.sIx xs.length 0 lo),Zat _ rfl⟩
def Yr:V->Bool
 |.non=>true
 |.bl _=>true
 |.int _=>true
 |.str _=>true
 |_=>false
def eqV:V->V->Bool
 |.non,.non=>true
 |.bl a,.bl b=>a==b
 |.bl a,.int b=>(if a then 1 else 0)==b
 |.int a,.bl b=>a==(if b then 1 else 0)
 |.int a,.int b=>a==b
 |.str a,.str b=>a==b
 |_,_=>false
theorem rG:m8 X (.type "list") (λxs H Q=>∃ p ys,xs=[.ref p]/\(SqL X.K H p ys\/SqT X.K H p ys)/\∀ l,H l=none->Q (.ref l) (upd H l (.lst ys))):=by
 intro pins s σ H xs us Q I r h;obtain⟨p,ys,rfl,hq,q⟩:=h;obtain⟨u,rfl,rx⟩:=vals1 r;cases rx;have fin:∀ (its:List Value),Vals ys its->ys.length<=sizeLine->∀ (h':Heap) (c':Nat),(∀ b o',s.heap.get? b=some o'->h'.get? b=some o') ->
   h'.get? s.heap.objs.size=some { cls:=.type "list",dict:=none,data:=.seq its.toArray c',slots:=#[] }->EP X pins σ Q (.ref s.heap.objs.size) { s with heap:=h' }:=λits r' hz h' c' kp e=>
  ⟨.ref s.heap.objs.size,_,I.laid (t':=s.toks) kp (Zah _) (show dB X.prog X.w _ h' _ (.lst ys) from⟨hz,its,c',r',e⟩),rfl,q _ (I.hok.fresh (Zah _))⟩
 rcases hq with hq|hq
 ·obtain⟨its,r',pl,hz⟩:=I.list hq;have hlen:=r'.length;obtain⟨o,ho,hc,n,hd⟩:=pl.isList;exact call_list_seq p (.inl rfl) ho hc hd (λh' c' kp e=>fin its r' hz h' c' kp e) (by simp only[List.size_toArray]<;>omega)
 ·obtain⟨its,r',pl,hz⟩:=I.tuple hq;have hlen:=r'.length;obtain⟨o,ho,hc,n,hd⟩:=pl;exact call_list_seq p (.inr rfl) ho hc hd (λh' c' kp e=>fin its r' hz h' c' kp e) (by simp only[List.size_toArray]<;>omega)
theorem ql:m8 X (.type "tuple") (λxs H Q=>∃ p ys,xs=[.ref p]/\((SqL X.K H p ys/\∀ l,H l=none->Q (.ref l) (upd H l (.tup ys)))\/(SqT X.K H p ys/\Q (.ref p) H))):=by
 intro pins s σ H xs us Q I r h;obtain⟨p,ys,rfl,h⟩:=h;obtain⟨u,rfl,rx⟩:=vals1 r;cases rx;rcases h with⟨hq,q⟩|⟨hq,q⟩
 ·obtain⟨its,r',pl,hz⟩:=I.list hq;have hlen:=r'.length;refine call_tuple_list pl.isList (λh' kp=>?_) (by simp only[List.size_toArray]<;>omega)
  have I1:Inv X pins σ H { s with heap:=h' }:=I.kept (t':=s.toks) kp;have I2:Inv X pins σ (upd H h'.objs.size (.tup ys)) { s with heap:=h'.push { cls:=.type "tuple",data:=.seq its.toArray } }:=
   I1.laid (t':=s.toks) (λb o e=>Zae _ e) (Zah _) (show dB X.prog X.w _ _ _ (.tup ys) from⟨hz,its,r',gO.new _ _⟩)
  exact⟨.ref h'.objs.size,_,I2,rfl,q _ (I1.hok.fresh (Zah _))⟩
 ·obtain⟨its,r',pl,hz⟩:=I.tuple hq;exact call_tuple_same pl ⟨.ref p,H,I,rfl,q⟩
def tyV(K:PySem.W.Frag)(T:String)(x:V)(H:Hp):Prop:=match x with
 |.str _=>T="str"
 |.int _=>T="int"
 |.ref p=>(T="list"/\∃ xs,SqL K H p xs)\/(T="tuple"/\∃ o,K.lookup p=some o/\o.cls=.type "tuple"/\o.dict=none) \/
   (T="dict"/\((∃ kvs,H p=some (.dK kvs))\/∃ kvs,H p=some (.dT kvs)))\/(T="set"/\∃ S n,H p=some (.set S n))
 |_=>False
theorem Nz{pins:List (Addr×Obj)}{σ:St}{H:Hp}{s:Shared}{T:String}{x:V}{v:Value}(I:Inv X pins σ H s)(r:RelV x v)(ty:tyV X.K T x H) :
  s.TypeIs v T/\∀ a,v=.ref a->∃ ob,s.heap.get? a=some ob/\ob.dict=none:=by
 cases x with
 |str z=>
  obtain⟨t,rfl⟩:=r;cases (show T="str" from ty);exact⟨typeIs_str s z t,λ_ e=>nomatch e⟩
 |int i=>
  obtain⟨t,rfl⟩:=r;cases (show T="int" from ty);exact⟨typeIs_int s i t,λ_ e=>nomatch e⟩
 |ref p=>
  cases r;rcases ty with⟨rfl,xs,hq⟩|⟨rfl,o,hk,hc,hd⟩|⟨rfl,hk⟩|⟨rfl,S,n,hk⟩
  ·obtain⟨its,_,pl,_⟩:=I.list hq;refine⟨pl.isList.typeIs,λa e=>?_⟩;cases e;obtain⟨o,n,e,c,hd,_⟩:=pl;exact⟨o,e,hd⟩
  ·refine⟨⟨o,I.kIn p o hk,hc⟩,λa e=>?_⟩;cases e;exact⟨o,I.kIn _ o hk,hd⟩
  ·have z:∃ o,s.heap.get? p=some o/\o.ExactDict:=by
    rcases hk with⟨kvs,hk⟩|⟨kvs,hk⟩
    ·obtain⟨_,_,_,_,o,_,_,e,ex,_⟩:=I.hok p _ hk;exact⟨o,e,ex⟩
    ·obtain⟨_,_,_,_,o,_,_,e,ex,_⟩:=I.hok p _ hk;exact⟨o,e,ex⟩
   obtain⟨o,e,ex⟩:=z;refine⟨⟨o,e,ex.1⟩,λa e2=>?_⟩;cases e2;exact⟨o,e,ex.2.1⟩
  ·obtain⟨o,_,_,_,e,ex,_⟩:=I.hok p _ hk;refine⟨⟨o,e,ex.1⟩,λa e2=>?_⟩;cases e2;exact⟨o,e,ex.2.1⟩
 |_=>exact False.elim ty
def WW(K:PySem.W.Frag)(T:String)(r:V->List V->Hp->VK->Prop)(to:TE):TE:=λσ H Q=>to σ H λx H1=>tyV K T x H1/\r x [] H1 Q
def tBM(K:PySem.W.Frag)(T:String)(r:V->List V->Hp->VK->Prop)(to:TE)(t:TA):TE:=λσ H Q=>to σ H λx H1=>tyV K T x H1/\t σ H1 λxs H2=>r x xs H2 Q
variable{o e:Expr}{es:List Expr}{to:TE}{t:TA}{name:Str}{apos cpos:Pos}{T id:String}{r:V->List V->Hp->VK->Prop}
theorem Vq(pa:PlainAttrs T)(slot:Slot T name id)(hty:typeOf (.builtin id)=pure (.type "method_descriptor"))(hm:MtR X id r)(ho:PE X o to)
  (hbase:attributeBase o name X.env (eval o X.env)=eval o X.env:=by rfl)(hline:(apos.endLine==cpos.line)=true:=by rfl):PE X (.Call (.Attribute o name apos) [] [] cpos) (WW X.K T r to):=by
 intro pins s σ H Q I h;refine wpAny_Call_method0_late hbase hline (thn (ho pins s σ H _ I h) ?_);rintro v s1 ⟨x,H1,I1,r1,ty,q1⟩;obtain⟨h1,h2⟩:=Nz I1 r1 ty;exact⟨T,id,pa,slot,hty,h1,h2,Zbf rfl (PySem.evalArgs_none (hm pins s1 σ H1 x [] v [] Q I1 r1 .nil q1))⟩
theorem vP(pa:PlainAttrs T)(slot:Slot T name id)(hty:typeOf (.builtin id)=pure (.type "method_descriptor"))(hm:MtR X id r)(ho:PE X o to)(ha:PA X (e::es) t)
  (hbase:attributeBase o name X.env (eval o X.env)=eval o X.env:=by rfl)
  (hfew:((backTo cpos (starEach (e::es) X.env)).all (λx=>!x.1)&&(backToKw cpos (keywordEach [] X.env)).all (λx=>x.1.isSome)
   && decide ((e::es).length+([]:List Keyword).length+(if([]:List Keyword).isEmpty then 0 else 1)<30))=true:=by rfl)
  (hline:(apos.endLine==cpos.line)=true:=by rfl)(hs:starEach (e::es) X.env=(false,eval e X.env)::starEach es X.env:=by rfl)(hplain:(backTo cpos (starEach es X.env)).any (·.1)=false:=by rfl) :
  PE X (.Call (.Attribute o name apos) (e::es) [] cpos) (tBM X.K T r to t):=by
 intro pins s σ H Q I h;refine wpAny_Call_method_late hbase hfew hline rfl (thn (ho pins s σ H _ I h) ?_);rintro v s1 ⟨x,H1,I1,r1,ty,q1⟩;obtain⟨h1,h2⟩:=Nz I1 r1 ty;refine⟨T,id,pa,slot,hty,h1,h2,?_⟩;have hA:=ha cpos pins s1 σ H1 _ I1 q1;rw[hs] at hA ⊢;refine Zbf (by show(false||(backTo cpos (starEach es X.env)).any (·.1))=false;rw[hplain]<;>rfl) (ZbN ?_)
 exact thn hA λus s2 ⟨vs,H2,I2,r2,q2⟩=>hm pins s2 σ H2 x vs v us Q I2 r1 r2 q2
end
def MtM(X:Cx)(id:String)(r:V->List V->Hp->VK->Prop):Prop:=
 ∀ (pins:List (Addr×Obj)) (s:Shared) (σ:St) (H:Hp) (x:V) (xs:List V) (v:Value) (us:List Value) (Q:VK),Inv X pins σ H s->RelV x v->Vals xs us->r x xs H Q ->
  wpAny (model X.prog X.w) X.A (call (.builtin id) (v::us)) (EP X pins σ Q) X.xe s
theorem Vals.one:∀ {x:V}{us:List Value},Vals [x] us->∃ u,us=[u]/\RelV x u
 |_,_,.cons r .nil=>⟨_,rfl,r⟩
theorem Vals.two:∀ {x y:V}{us:List Value},Vals [x,y] us->∃ u v,us=[u,v]/\RelV x u/\RelV y v
 |_,_,_,.cons r (.cons q .nil)=>⟨_,_,rfl,r,q⟩
theorem Vals.eraseIdx:∀ {xs:List V}{us:List Value} (i:Nat),Vals xs us->Vals (xs.eraseIdx i) (us.eraseIdx i)
 |_,_,_,.nil=>.nil
 |_,_,0,.cons _ t=>t
 |_,_,i+1,.cons r t=>.cons r (Vals.eraseIdx i t)
theorem Vals.rep{xs:List V}{us:List Value}(h:Vals xs us):∀ k:Nat,Vals (List.replicate k xs).flatten (List.replicate k us).flatten
 |0=>.nil
 |k+1=>by
  rw[ZaM,ZaM,Za9,Za9];exact Vals.append h (Vals.rep h k)
theorem yZ{α:Type}:∀ (l:List α) (i:Nat),(l.eraseIdx i).length<=l.length
 |[],_=>Zah _
 |_::_,0=>Zbz _
 |_::r,i+1=>Nat.succ_le_succ (yZ r i)
theorem foldl_rep(its:List Value):∀ (k:Nat) (acc:List Value),
  List.foldl (λx1 x2=>x1++x2) acc.toArray (List.replicate k its.toArray)=(acc++(List.replicate k its).flatten).toArray
 |0,acc=>by simp
 |k+1,acc=>by
  have e:acc.toArray++its.toArray=(acc++its).toArray:=by simp
  have e2:(acc++its)++(List.replicate k its).flatten=acc++(List.replicate (k+1) its).flatten:=by
   rw[ZaM,Za9,Zb6]
  rw[<-e2,<-foldl_rep its k (acc++its),<-e,ZaM,Zch]
section
variable{X:Cx}{pins:List (Addr×Obj)}{σ:St}{H:Hp}{s:Shared}{l:Addr}{xs ys:List V}
theorem Inv.WX{its its':List Value}{n:Nat}{f:Array Value->Array Value}{t':Nat}(I:Inv X pins σ H s)(hH:H l=some (.lst xs))
  (e:s.heap.get? l=some { cls:=.type "list",data:=.seq its.toArray n })(hf:f its.toArray=its'.toArray)(hv:Vals ys its')(hz:ys.length<=sizeLine) :
  Inv X pins σ (upd H l (.lst ys)) { s with heap:=s.heap.update l (Obj.mapSeq f),toks:=t' }:=by
 have q:=PySem.IsL.update e f;rw[hf] at q;refine I.write (x:=l) (e:=l) (by rw[hH];exact trivial) (.inl rfl) (λb' u hb hu=>(ZaR s.heap (Obj.mapSeq f) (Za0 hb)).trans hu) ⟨_,q⟩ ?_
 exact⟨hz,its',_,hv,q⟩
theorem Inv.WY{its:List Value}{t':Nat}(I:Inv X pins σ H s)(hv:Vals ys its)(hz:ys.length<=sizeLine) :
  Inv X pins σ (upd H s.heap.objs.size (.lst ys)) { s with heap:=s.heap.push { cls:=.type "list",data:=.seq its.toArray },toks:=t' }:=
 I.laid (λ_ _ q=>Zae _ q) (Zah _) ⟨hz,its,0,hv,Zat _ rfl⟩
theorem Inv.fresh(I:Inv X pins σ H s):H s.heap.objs.size=none:=I.hok.fresh (Zah _)
theorem Inv.Vr(I:Inv X pins σ H s)(hH:H l=some (.lst xs)):xs.length<=sizeLine/\∃ (its:List Value) (n:Nat),Vals xs its/\xs.length=its.length/\s.heap.get? l=some { cls:=.type "list",data:=.seq its.toArray n }:=by
 obtain⟨z,its,n,r,e⟩:=I.hok l _ hH;exact⟨z,its,n,r,r.length,e⟩
theorem NB{n:Nat}(h:n<=sizeLine):Builtin.List.listTooLong n=false:=by
 unfold Builtin.List.listTooLong;exact ZaC (by omega)
end
section
variable{X:Cx}
def Ai:V->List V->Hp->VK->Prop:=λx vs H Q=>∃ l xs y,x=.ref l/\vs=[y]/\H l=some (.lst xs)/\xs.length<sizeLine/\Q .non (upd H l (.lst (xs++[y])))
theorem iB:MtM X "list.append" Ai:=by
 intro pins s σ H x vs v us Q I rx rv h;obtain⟨l,xs,y,rfl,rfl,hH,hz,q⟩:=h;cases rx;obtain⟨u,rfl,ru⟩:=rv.one;obtain⟨z,its,n,r,hl,e⟩:=I.Vr hH;refine call_meets F.slot_list_append ⟨_,e,rfl⟩ F.entry_list_append (F.args_list_append_2 _ _) (PySem.list_append l its.toArray n u (by rw[List.size_toArray];lia)) ⟨e,?_⟩
 refine⟨.non,_,I.WX (its':=its++[u]) hH e (by simp) (r.append (.cons ru .nil)) ?_,rfl,q⟩
 rw[Zau,List.length_singleton];lia
def NK:V->List V->Hp->VK->Prop:=λx vs H Q=>∃ l xs i k y,x=.ref l/\vs=[.int i]/\H l=some (.lst xs)/\-(2^63)<=i/\i<2^63/\seqIndex? i xs.length=some k/\xs[k]?=some y/\Q y (upd H l (.lst (xs.eraseIdx k)))
theorem NP:MtM X "list.pop" NK:=by
 intro pins s σ H x vs v us Q I rx rv h;obtain⟨l,xs,i,k,y,rfl,rfl,hH,h1,h2,hk,hy,q⟩:=h;cases rx;obtain⟨u,rfl,ru⟩:=rv.one;obtain⟨t,rfl⟩:=ru;obtain⟨z,its,n,r,hl,e⟩:=I.Vr hH;obtain⟨w,hw,rw'⟩:=r.get hy;refine call_meets F.slot_list_pop ⟨_,e,rfl⟩ F.entry_list_pop (F.args_list_pop_2 _ _)
  (MeetsSeq.list_pop_at l its.toArray n i t k w (fitsIndex_both h1 h2) (by rw[List.size_toArray,<-hl];exact hk) (by rw[<-ZbE];exact hw) (by rw[List.size_toArray];omega)) ⟨e,?_⟩
 refine⟨y,_,I.WX (its':=its.eraseIdx k) hH e ?_ (r.eraseIdx k) ?_,rw',q⟩
 ·show its.toArray.eraseIdxIfInBounds k=(its.eraseIdx k).toArray
  rw[List.eraseIdxIfInBounds_toArray]
 ·have:=yZ xs k;omega
def W0:R2:=λx y H Q=>∃ l k xs,x=.ref l/\y=.int k/\H l=some (.lst xs)/\-(2^63)<=k/\k<2^63/\xs.length*k.toNat<=sizeLine /\
 ∀ p,H p=none->Q (.ref p) (upd H p (.lst (List.replicate k.toNat xs).flatten))
theorem len_rep{α:Type}(xs:List α)(k:Nat):(List.replicate k xs).flatten.length=k*xs.length:=by
 induction k with
 |zero=>simp
 |succ k ih=>rw[ZaM,Za9,Zau,ih,Nat.succ_mul,Nat.add_comm]
theorem Hl:OpR X (binaryOp .Mult) W0:=by
 intro pins s σ H x y v u Q I rx ry h;obtain⟨l,k,xs,rfl,rfl,hH,h1,h2,hz,q⟩:=h;cases rx;obtain⟨t,rfl⟩:=ry;obtain⟨z,its,n,r,hl,e⟩:=I.Vr hH;have hlen:its.toArray.size*k.toNat<=sizeLine:=by rw[List.size_toArray,<-hl];exact hz
 have hcap:¬its.toArray.size*k.toNat>(2^63-1)/8:=by
  have:(sizeLine:Nat)<=(2^63-1)/8:=by decide
  omega
 have hfit:¬(!Builtin.List.listFitsIndex k)=true:=by
  rw[fitsIndex_both h1 h2];exact ZbZ
 have hlong:¬Builtin.List.listTooLong (its.toArray.size*k.toNat)=true:=by
  rw[NB hlen];exact ZbZ
 have hnew:List.foldl (λx1 x2=>x1++x2) #[] (List.replicate (if its.toArray.isEmpty=true then 0 else k.toNat) its.toArray)=(List.replicate k.toNat its).flatten.toArray:=by
  have f0:∀ m:Nat,List.foldl (λx1 x2=>x1++x2) #[] (List.replicate m its.toArray)=(List.replicate m its).flatten.toArray:=λm=>by
   have:=foldl_rep its m [];rw[List.nil_append] at this;exact this
  rw[f0];cases its with
  |nil=>simp
  |cons a r'=>rw[Zal (by simp)]
 refine wpAny_binaryOp_repeat_ref (T:="list") (U:="int") (by decide) ⟨_,e,rfl⟩ (λs'=>typeIs_int s' k t) noFill_list_mul F.fills_int_mul F.slot_int_rmul repeat_list F.slot_int_index.lookup
  (call_meets F.slot_int_rmul (typeIs_int s k t) F.entry_int_rmul (F.args_int_rmul_2 _ _) (int___rmul___int_list k t l its.toArray n)
   ⟨e,rfl,⟨_,e,rfl⟩,call_meets F.slot_list_mul ⟨_,e,rfl⟩ F.entry_list_mul (F.args_list_mul_2 _ _) (AutoListH.list___mul___list_int_3 l its.toArray n k t hfit hcap hlong) ⟨e,?_⟩⟩)
 rw[hnew];exact⟨.ref _,_,I.WY (t':=s.toks) (r.rep k.toNat) (by rw[len_rep,Nat.mul_comm];exact hz),rfl,q _ I.fresh⟩
end
end L2
namespace Att
open PySem PySem.W PySem.Calls PyProof.Rows
theorem u0{P:Params}{h:Heap}:∀ (ns:List Int) (vs:List Value),WellAll P h vs (ns.map WData.int)->IntsAre vs ns:=by
 intro ns;induction ns with
 |nil=>
  intro vs w;rw[List.map_nil] at w;cases w;exact .nil
 |cons n ns ih=>
  intro vs w;rw[Zao] at w;cases w with
  |cons a b=>
   cases a;exact .cons _ _ (ih _ b)
theorem KY{l:OpenLaw}{n:Nat}(hn:l.most=some n){P:Params}{h:Heap}{args:List WData}{vals:List Value}
  (hpre:l.row.toRowW.claim.pre args=true)(hwl:WellAll P h vals args) :
  ∃ a vs ns,vals=[Value.ref a]/\args=[WData.list (ns.map WData.int)]/\h.get? a=some { cls:=.type "list",data:=.seq vs.toArray }/\IntsAre vs ns/\ns.length<=n:=by
 have hsh:WShape.hasAll [] args [.list .int]=true:=(pre_splitW hpre).1;have hc:l.pre.holds [] { args:=args }=true:=(pre_splitW hpre).2;obtain⟨d,r,rfl,h1,h2⟩:=hasAllW_cons hsh;obtain rfl:=hasAllW_nil h2;obtain⟨xs,rfl,h3⟩:=hasW_list h1;obtain⟨ns,rfl⟩:=items_int h3;have hlen:ns.length<=n:=by
  unfold OpenLaw.pre at hc;have h4:(WTm.not (.lt (.lit (.int (n:Int))) (.len (.arg 0)))).holds [] { args:=[.list (ns.map .int)] }=true:=by
   have h4:=(holds_andW hc).1;rw[hn] at h4;exact h4
  have h5:=condW_of h4 (w_not (w_lt w_lit (w_len_list (w_arg rfl))));rw[Zac] at h5;refine Nat.le_of_not_lt λq=>?_;have q':(n:Int)<((ns.length:Nat):Int):=by omega
  first
   |(rw[ZaT q'] at h5;exact absurd h5 (by decide))
   |(simp at h5;omega)
 cases hwl with
 |cons w1 w2=>
  cases w2;cases w1 with
  |list ho hall=>exact⟨_,_,ns,rfl,rfl,ho,u0 ns _ hall,hlen⟩
theorem KZ(l:OpenLaw)(args:List WData):l.row.toRowW.claim.post args (.bool true) args=true:=
 postW_of (r:=l.row.toRowW) (X:=(true==true))
  (show WShape.has [] (.bool true) .bool=true by first|rfl|decide|simp[WShape.has,WShape.arms,WShape.armsAll])
  (show(WTm.eq .res (.lit (.bool true))).value [] { args:=args,res:=some (.bool true),after:=args }=some (.bool (true==true)) from w_eq_bool (w_res rfl) w_lit) rfl
theorem Dq{l:OpenLaw}{n:Nat}{q:Program}{loose:List Str}{XP:(Str->Option Value)->Heap->Prop}{YP:World->Heap->Prop}{d:DefRec}
  (hn:l.most=some n)(hdf:d.params.defaults=[])
  (call:∀ (w:World) (s₀ s₁:Shared) (mg mb:Str->Option Value) (fa:Addr) (o:Obj) (pm cd doc:Value) (a:Addr) (vs:List Value) (ns:List Int),
   Ground q loose [] XP w s₀ mg mb s₁.heap->YP w s₁.heap ->
   s₁.heap.get? fa=some o->o.data=.func (docDef d.name d.params d.body d.scope pm cd doc)->s₁.heap.CodeRec cd d.name->mg d.name=some (.ref fa) ->
   s₁.heap.get? a=some { cls:=.type "list",data:=.seq vs.toArray }->IntsAre vs ns->ns.length<=n->s₁.gens=#[] ->
   codeAny (model l.prog w) callerA (.call (.ref fa) ⟨[.ref a],[]⟩) (λr s'=>r=.ok (.ret (.bool true))/\OldK s₁.heap s'.heap/\s'.os=s₁.os/\AllBare s'.gens) s₁) :
  WalkO q loose XP YP l.row.toRowW d [] (λf vs=>PySem.call f vs):=by
 intro w s₀ s₁ mg mb G Y fa o pm cd doc dV kV ho hd hcd hD hmg hg args vals as hpre hlay hrd hwl hlo;obtain rfl:dV=.none:=Dflts.none hD hdf;obtain rfl:kV=.none:=Dflts.noKw hD;obtain⟨a,vs,ns,rfl,rfl,hobj,hints,hlen⟩:=KY hn hpre hwl;refine enter_call (codeAny_mono (call w s₀ s₁ mg mb fa o pm cd doc a vs ns G Y ho (fd_plain hd) hcd hmg hobj hints hlen hg) λr s' hq=>?_);obtain⟨rfl,h2,h3,h4⟩:=hq;exact⟨.inl ⟨.bool true,.bool true,[],rfl,λ_=>rfl,.bool true,KZ l _,λ_=>⟨List.Pairwise.nil,λ_ hm=>(nomatch hm)⟩⟩,h2,h3,h4⟩
end Att
namespace L2
open PySem PySem.Spec PyProof.Rows
theorem pM:∀ {vs:List Value}{ns:List Int},IntsAre vs ns->Vals (ns.map V.int) vs
 |_,_,.nil=>.nil
 |_,_,.cons n t h=>.cons ⟨t,rfl⟩ (pM h)
def Only(H:Hp):Prop:=∀ b,H b=none\/∃ o xs,H b=some (.frz o (.lst xs))
theorem NQ{P:Program}{w:World}{K:PySem.W.Frag}{mg mb:Str->Option Value}{CX:CXT}{k:Nat}{fa a:Addr}{fd:FuncData}{x:Str}{sp:Sp}{s₁:Shared}{vs:List Value}{ns:List Int}
  (KX:K.In s₁.heap)(hns:s₁.heap.Ns mainGlobals mg)(hb:s₁.heap.Ns builtinsNs mb)(hbb:∀ x:Str,x≠"__name__"->mb x=bootBuiltins x)(hlim:s₁.heap.NoLimit)(hg:s₁.gens=#[])
  (ha:s₁.heap.get? a=some { cls:=.type "list",data:=.seq vs.toArray })(hi:IntsAre vs ns)(hl:ns.length<=sizeLine)(hr:cU k callerA)
  (F:∀ base:Heap,K.In base->base.Ns mainGlobals mg->iU P w K mg base CX k fa fd [x] sp)(hbind:∀ (s:Shared) (u:Value),BindsTo s fd ⟨[u],[]⟩ [(x,u)])
  (hsp:∀ H:Hp,Only H->SqL K H a (ns.map V.int)->sp [.ref a] H (λv _=>v=.bl true) λ_ _ _=>False)
  (hCX:∀ H e s',CX [] H s₁ (λ_ _ _=>False) e s'->False) :
  codeAny (model P w) callerA (.call (.ref fa) ⟨[.ref a],[]⟩) (λr s'=>r=.ok (.ret (.bool true))/\OldK s₁.heap s'.heap/\s'.os=s₁.os/\AllBare s'.gens) s₁:=by
 have rv:=pM hi;have lenV:=hi.length;have core:∀ H:Hp,Only H->SqL K H a (ns.map V.int)->HOk P w H s₁.heap->(∀ b,H b≠none->b=a)->(H a≠none->K.lookup a=none) ->
   codeAny (model P w) callerA (.call (.ref fa) ⟨[.ref a],[]⟩) (λr s'=>r=.ok (.ret (.bool true))/\OldK s₁.heap s'.heap/\s'.os=s₁.os/\AllBare s'.gens) s₁:=by
  intro H hO hS hok hA hK;have base_of:∀ {b:Addr}{o:Obj},s₁.heap.get? b=some o->H b=none->(zZ s₁.heap H).get? b=some o:=λe n=>M3 e n;have noA:∀ {b:Addr}{o:Obj}{es:Array DictEntry}{ep:Nat},s₁.heap.get? b=some o->o.data=.dict es ep->H b=none:=λ{b o es ep} e d=>by
   cases q:H b with
   |none=>rfl
   |some u=>
    have e':b=a:=hA b (by rw[q];simp)
    subst e';rw[ha] at e;cases e;have d':Data.seq vs.toArray _=Data.dict es ep:=d;cases d'
  have nsK:∀ {b:Addr}{m:Str->Option Value},s₁.heap.Ns b m->(zZ s₁.heap H).Ns b m:=λ{b m} ⟨o,es,ep,e,d,r⟩=>⟨o,es,ep,base_of e (noA e d),d,r⟩;have hKb:K.In (zZ s₁.heap H):=λb o e=>base_of (KX b o e) (by
   cases q:H b with
   |none=>rfl
   |some u=>
    have e':b=a:=hA b (by rw[q];simp)
    subst e';rw[hK (by rw[q];simp)] at e;cases e)
  have hM:Mod K mg (zZ s₁.heap H):=⟨hKb,nsK hns,⟨mb,nsK hb,hbb⟩,let⟨mc,h1,h2⟩:=hlim;⟨mc,nsK h1,h2⟩⟩;have e0:Hj P w K mg (zZ s₁.heap H) callerA [] s₁ H:=⟨rfl,hM,λb o e=>Rg e,Nat.le_of_eq (Kz _ _),trivial,λb hb=>absurd (show b∈([]:List Addr) from hb) (by simp),hok,.of_eq hg⟩
  refine codeAny_mono ((F _ hKb (nsK hns)).run callerA [] s₁ H ⟨[.ref a],[]⟩ [.ref a] [.ref a] _ _ hr e0 (hbind s₁ (.ref a)) (.cons rfl .nil) (hsp H hO hS)) λr s' h=>?_;cases r with
  |error e=>exact(hCX H e s' h).elim
  |ok fl=>
   cases fl with
   |next=>exact False.elim h
   |brk=>exact False.elim h
   |cont=>exact False.elim h
   |ret u=>
    obtain⟨v,H',os,bare,un,hok',r',q⟩:=h;have q':v=.bl true:=q;subst q';obtain rfl:u=Value.bool true:=r';refine⟨rfl,OldK.of_keep λb o e=>?_,os,bare⟩;cases q:H b with
    |none=>exact un.keep b o e q (by intro z;exact absurd (show b∈([]:List Addr) from z) (by simp)) (by simp)
    |some u=>
     rcases hO b with z|⟨ob,xs,z⟩
     ·rw[q] at z;cases z
     ·have z2:=un.frzs b ob _ z;obtain⟨e1,_⟩:=hok b _ z;obtain⟨e2,_⟩:=hok' b _ z2;rw[e] at e1;cases e1;exact e2
 cases hk:K.lookup a with
 |some o=>
  have e:=KX a o hk;rw[ha] at e;cases e;refine core (λ_=>none) (λ_=>.inl rfl) (.inr ⟨_,vs.toArray,_,hk,rfl,rfl,rfl,by rw[List.size_toArray,lenV];exact hl,by simpa using rv⟩) (λb u z=>by have z':(none:Option HO)=some u:=z;cases z') (λb z=>absurd rfl z) λz=>absurd rfl z
 |none=>
  refine core (λb=>if b=a then some (.frz { cls:=.type "list",data:=.seq vs.toArray } (.lst (ns.map V.int))) else none) (λb=>?_) (.inl (.inr ⟨{ cls:=.type "list",data:=.seq vs.toArray },Zag rfl⟩)) (λb u z=>?_) (λb z=>?_) λ_=>hk
  ·by_cases hb:b=a
   ·exact .inr ⟨_,_,Zag hb⟩
   ·exact .inl (Zal hb)
  ·by_cases hb:b=a
   ·have z':=(Zag hb).symm.trans z;cases z';subst hb;exact⟨ha,by rw[Zac];exact hl,vs,_,rv,ha⟩
   ·have z':=(Zal hb).symm.trans z;cases z'
  ·by_cases hb:b=a
   ·exact hb
   ·exact absurd (Zal hb) z
theorem RK{l:PySem.W.OpenLaw}{n k:Nat}{q:Program}{loose:List Str}{XP:(Str->Option Value)->Heap->Prop}{YP:World->Heap->Prop}{d:DefRec}{K:Params->PySem.W.Frag}{CX:World->CXT}{sp:World->Sp}{x:Str}
  (hn:l.most=some n)(hn2:n<=sizeLine)(hdf:d.params.defaults=[])(hr:cU k callerA)
  (hY:∀ (w:World) (h:Heap),YP w h->(K w.params).In h)
  (F:∀ (w:World) (mg:Str->Option Value) (fa:Addr) (h:Heap),(K w.params).In h->h.Ns mainGlobals mg->mg d.name=some (.ref fa) ->
   ∃ fd:FuncData,(∀ (s:Shared) (u:Value),BindsTo s fd ⟨[u],[]⟩ [(x,u)]) /\
    ∀ base:Heap,(K w.params).In base->base.Ns mainGlobals mg->iU l.prog w (K w.params) mg base (CX w) k fa fd [x] (sp w))
  (hsp:∀ (w:World) (H:Hp) (a:Addr) (ns:List Int),ns.length<=n->Only H->SqL (K w.params) H a (ns.map V.int)->sp w [.ref a] H (λv _=>v=.bl true) λ_ _ _=>False)
  (hCX:∀ (w:World) (H:Hp) (s:Shared) (e:Value) (s':Shared),CX w [] H s (λ_ _ _=>False) e s'->False) :
  PySem.W.WalkO q loose XP YP l.row.toRowW d [] (λf vs=>PySem.call f vs):=by
 refine Att.Dq hn hdf λw s₀ s₁ mg mb fa o pm cd doc a vs ns G Y ho hd hcd hmg hobj hints hlen hg=>?_;have KX:=hY w _ Y;obtain⟨fd,hb,hF⟩:=F w mg fa _ KX G.T.g hmg;exact NQ KX G.T.g G.T.b G.T.builtins G.T.nolimit hg hobj hints (ZaE hlen hn2) hr hF hb (λH hO hS=>hsp w H a ns hlen hO hS) λH e s'=>hCX w H s₁ e s'
def inClass(s:Stmt)(j:Nat):Stmt:=match s with
 |.ClassDef _ _ _ body _ _ _ _ _ _ _=>body.getD j (.Pass ⟨0,0,0,0⟩)
 |_=>.Pass ⟨0,0,0,0⟩
def jU(s:Stmt):Arguments:=match s with
 |.FunctionDef _ a _ _ _ _ _ _ _ _=>a
 |_=>{ posonlyargs:=[],args:=[],vararg:=none,kwonlyargs:=[],kw_defaults:=[],kwarg:=none,defaults:=[] }
def gA(s:Stmt):List Stmt:=match s with
 |.FunctionDef _ _ b _ _ _ _ _ _ _=>b
 |_=>[]
def aM(s:Stmt):Scope:=match s with
 |.FunctionDef _ _ _ _ _ _ sc _ _ _=>sc
 |_=>{ kind:=.function,names:=[],isGenerator:=false,isCoroutine:=false }
noncomputable abbrev CX0:CXT:=λ_ _ _ _ _ _=>False
noncomputable abbrev E0:XK:=λ_ _ _=>False
theorem Ue{X:Cx}:jE CX0 X E0:=λ_ _ _ _ _ _ _ h=>h.elim
structure Fun(K:PySem.W.Frag)(x qual:Str)(st:Stmt)(f:Addr)(fd:FuncData):Prop where
 ex:∃ (oc:Value) (od:Option Addr) (kV doc pm:Value) (an:Option Addr) (cdv ct:Value) (osl:Array (Option Value)),
  fd=fnOf x qual (jU st) (gA st) (aM st) .none kV doc pm an cdv ct/\K.lookup f=some ⟨oc,od,.func fd,osl⟩/\PySem.W.codeIn K cdv qual=true
 kp:keepIn K (.ref f)=true
section
variable{P:Program}{w:World}{K:PySem.W.Frag}{mg:Str->Option Value}{base:Heap}
theorem Fun.ok{x qual:Str}{st:Stmt}{f:Addr}{fd:FuncData}{N ps:List Str}{k:Nat}{sp:Sp}(F:Fun K x qual st f fd)(S:aU N ps (aM st))(len:∀ vs H Q E,sp vs H Q E->vs.length=ps.length)
  (hbody:∀ (cdv:Value) (A:Around) (outer:List Env) (s:Shared) (H:Hp) (vs:List V) (Q:VK) (E:XK),cU k (A.deeper (envOfC qual (aM st) s.heap.objs.size f cdv))->sp vs H Q E ->
   ∃ t,PSs (uZ CX0 P w K mg base N qual (aM st) f cdv A outer s H E).nox (gA st) t/\t { nx:=λ_ H'=>Q .non H',rt:=Q } (start N vs) H):iU P w K mg base CX0 (k+1) f fd ps sp:=by
 obtain⟨oc,od,kV,doc,pm,an,cdv,ct,osl,rfl,lk,hcd⟩:=F.ex;refine Ny lk hcd S len λA outer s H vs Q E hr hsp=>?_;obtain⟨t,h,q⟩:=hbody cdv A outer s H vs Q E hr hsp;exact⟨t,h.nox,q⟩
theorem Fun.binds{x qual:Str}{st:Stmt}{f:Addr}{fd:FuncData}{ps:List Str}(F:Fun K x qual st f fd)
  (h:∀ (kV doc pm:Value) (an:Option Addr) (cdv ct:Value) (us:List Value),us.length=ps.length->bindArgs (fnOf x qual (jU st) (gA st) (aM st) .none kV doc pm an cdv ct) ⟨us,[]⟩=pure (ps.zip us)):Binds K fd ps []:=by
 obtain⟨oc,od,kV,doc,pm,an,cdv,ct,osl,rfl,lk,hcd⟩:=F.ex;exact .all (h kV doc pm an cdv ct)
end
theorem uK{A:Around}{k:Nat}(hr:cU k A):A.units+1<cLine:=Zb1 (Nat.add_le_add_left (by decide:1<=64) _) hr.units
theorem bG{n:Nat}(h:n<=1000):n<sizeLine:=Zb1 h (by decide)
section
variable{X:Cx}
theorem pv(i:Nat){x:Str}{pos:Pos}(hN:X.N[i]?=some x:=by rfl)(hv:Vis X.env.scope x:=by first|exact Or.inl rfl|exact Or.inr (Or.inl rfl)|exact Or.inr (Or.inr rfl))(hd:(x==("__debug__":Str))=false:=by decide)
  (hcd:(x==("__classdict__":Str))=false:=by decide):PE X (.Name x pos) (my i):=GJ hN hv hd hcd
end
theorem K1{c A B:Prop}[Decidable c](h1:c->A)(h2:¬c->B):if c then A else B:=by
 by_cases h:c
 ·rw[Zag h];exact h1 h
 ·rw[Zal h];exact h2 h
def aL(H H':Hp):Prop:=∀ b o,H b=some o->H' b=some o
theorem aL.refl(H:Hp):aL H H:=λ_ _ h=>h
theorem aL.trans{H H1 H2:Hp}(a:aL H H1)(b:aL H1 H2):aL H H2:=λc o h=>b c o (a c o h)
theorem aL.free{H H':Hp}(e:aL H H'){l:Addr}(h:H' l=Option.none):H l=Option.none:=by
 cases q:H l with
 |none=>rfl
 |some o=>
  rw[e l o q] at h;cases h
theorem aL.seq{K:PySem.W.Frag}{H H':Hp}{a:Addr}{xs:List V}(e:aL H H')(h:SqL K H a xs):SqL K H' a xs:=by
 rcases h with(h|⟨o,h⟩)|h
 ·exact .inl (.inl (e _ _ h))
 ·exact .inl (.inr ⟨o,e _ _ h⟩)
 ·exact .inr h
end L2
set_option maxHeartbeats 4000000
namespace Mth
def sub(l m:List Bool):Bool:=(List.range l.length).all λi=>!l.getD i false||m.getD i false
theorem RL(n p:Nat):(n/2^p) &&& 1=(n.testBit p).toNat:=by
 have h:=Nat.testBit_eq_decide_div_mod_eq (x:=n) (i:=p);rw[Nat.and_one_is_mod,h];by_cases e:n/2^p%2=1
 ·simp[e]
 ·have:n/2^p%2=0:=by omega
  simp[this]
def pl(W:Nat)(c:Int×Int):Nat:=c.2.toNat*W+c.1.toNat
def cellOf(W:Nat)(i:Nat):Int×Int:=(((i%W:Nat):Int),((i/W:Nat):Int))
end Mth
namespace L2
open PySem PySem.Spec PyProof.Rows
theorem qO{env:Env}:∀ (names:List (Str×NameKind)) (cs:List (Str×Addr)),(∀ x∈names,x.2=.free->∃ c,env.cells.lookup x.1=some c) ->
  (∀ x c,cs.lookup x=some c->env.cells.lookup x=some c) ->
  ∃ cl,(forIn names cs λx s=>if(x.snd==NameKind.free)=true then do let d <-cellOf env x.fst;pure (ForInStep.yield ((x.fst,d)::s)) else pure (ForInStep.yield s):Sem _)=pure cl /\
   (∀ x c,cl.lookup x=some c->env.cells.lookup x=some c)/\(∀ x c,cs.lookup x=some c->cl.lookup x=some c)/\∀ x,(x,NameKind.free)∈names->∃ c,cl.lookup x=some c
 |[],cs,_,h2=>⟨cs,rfl,h2,λ_ _ e=>e,λ_ h=>nomatch h⟩
 |(n,k)::r,cs,h1,h2=>by
  rw[List.forIn_cons];by_cases hk:k=.free
  ·subst hk;obtain⟨c,hc⟩:=h1 (n,.free) ZaF rfl;have ec:cellOf env n=pure c:=by unfold cellOf;simp only[hc]
   obtain⟨cl,e,p1,p2,p3⟩:=qO r ((n,c)::cs) (λx hx=>h1 x (Zar _ hx)) (λx d e=>by
    rw[Zbp] at e;by_cases hx:x=n
    ·subst hx;simp at e;subst e;exact hc
    ·have hb:(x==n)=false:=beq_eq_false_iff_ne.mpr hx;rw[hb] at e;exact h2 x d e)
   refine⟨cl,?_,p1,λx d e'=>?_,λx hx=>?_⟩
   ·simp only[beq_self_eq_true,ZaV,ec];exact e
   ·by_cases hx:x=n
    ·subst hx;have:=h2 _ _ e';rw[hc] at this;cases this;exact p2 x c (by simp)
    ·have hb:(x==n)=false:=beq_eq_false_iff_ne.mpr hx;exact p2 x d (by rw[Zbp,hb];exact e')
   ·rcases ZaJ.mp hx with e|hx
    ·cases e;exact⟨c,p2 n c (by simp)⟩
    ·exact p3 x hx
  ·obtain⟨cl,e,p1,p2,p3⟩:=qO r cs (λx hx=>h1 x (Zar _ hx)) h2;have hb:(k==NameKind.free)=false:=by simpa using hk
   refine⟨cl,?_,p1,p2,λx hx=>?_⟩
   ·simp only[hb,Zbg,ZaH];exact e
   ·rcases ZaJ.mp hx with e|hx
    ·cases e;exact absurd rfl hk
    ·exact p3 x hx
theorem Hm{scope:Scope}{env:Env}(h:∀ x∈scope.names,x.2=.free->∃ c,env.cells.lookup x.1=some c):∃ cl,closureFor scope env=pure cl /\
  (∀ x c,cl.lookup x=some c->env.cells.lookup x=some c)/\∀ x,(x,NameKind.free)∈scope.names->∃ c,cl.lookup x=some c:=by
 obtain⟨cl,e,p1,_,p3⟩:=qO scope.names [] h (λ_ _ e=>nomatch e);refine⟨cl,?_,p1,p3⟩;simp only[closureFor];rw[e];rfl
noncomputable abbrev ni(env:Env)(x:Str×NameKind):Str×NameKind:=if(x.2==NameKind.free&&env.scope.kind==.function&&env.kindOf x.1==some .cell)=true then(x.1,NameKind.cell) else x
theorem K3(env:Env)(x:Str×NameKind):(ni env x).1=x.1:=by unfold ni;split<;>rfl
theorem rH{env:Env}:∀ (names:List (Str×NameKind)) (x:Str),(names.map (ni env)).lookup x=(names.lookup x).map λk=>(ni env (x,k)).2
 |[],x=>rfl
 |(n,k)::r,x=>by
  rw[Zao];have e1:ni env (n,k)=(n,(ni env (n,k)).2):=by
   have:=K3 env (n,k);cases h:ni env (n,k) with
   |mk a b=>rw[h] at this;cases this;rfl
  rw[e1,Zbp,Zbp,rH r x];by_cases hx:x=n
  ·subst hx;simp
  ·have hb:(x==n)=false:=beq_eq_false_iff_ne.mpr hx;rw[hb]
theorem yg(scope:Scope)(env:Env):(relabel scope env).names=scope.names.map (ni env):=by
 unfold relabel;show List.map _ _=_
 refine Zbr λx _=>?_;obtain⟨n,k⟩:=x;rfl
theorem jF(scope:Scope)(env:Env)(x:Str):(relabel scope env).names.lookup x=(scope.names.lookup x).map λk=>(ni env (x,k)).2:=by
 rw[yg,rH]
theorem jo{scope:Scope}{env:Env}{x:Str}{k:NameKind}(hk:k≠.free)(h:scope.names.lookup x=some k):(relabel scope env).names.lookup x=some k:=by
 rw[jF,h];simp[ni,hk]
theorem rJ{scope:Scope}{env:Env}{x:Str}(h:scope.names.lookup x=some .free):(relabel scope env).names.lookup x=some .cell\/(relabel scope env).names.lookup x=some .free:=by
 rw[jF,h];simp only[Zbv,ni];split
 ·exact .inl rfl
 ·exact .inr rfl
theorem Hn{scope:Scope}{env:Env}{x:Str}(h0:scope.names.lookup x≠some .cell)(h:(relabel scope env).names.lookup x=some .cell\/(relabel scope env).names.lookup x=some .free):scope.names.lookup x=some .free:=by
 rw[jF] at h;cases e:scope.names.lookup x with
 |none=>rw[e] at h;simp at h
 |some k=>
  by_cases hk:k=.free
  ·rw[hk]
  ·rw[e] at h;simp[ni,hk] at h;subst h;exact absurd e h0
theorem lookup_mem{β:Type}:∀ {l:List (Str×β)}{x:Str}{v:β},l.lookup x=some v->(x,v)∈l
 |[],_,_,h=>nomatch h
 |(n,k)::r,x,v,h=>by
  rw[Zbp] at h;by_cases hx:x=n
  ·subst hx;simp at h;subst h;exact ZaF
  ·have hb:(x==n)=false:=beq_eq_false_iff_ne.mpr hx;rw[hb] at h;exact Zar _ (lookup_mem h)
noncomputable abbrev Cx.comp(X:Cx)(N:List Str)(scope:Scope)(cl:List (Str×Addr))(C:Addr)(s2:Shared)(H2:Hp)(fp:List Addr):Cx where
 prog:=X.prog
 w:=X.w
 K:=X.K
 mg:=X.mg
 base:=X.base
 A:=X.A
 N:=N
 s₀:=s2
 H₀:=H2
 env:=compEnvC scope cl C X.env
 outer:=X.stack
 stack:=X.stack
 ex:=fp
 fn:=λ_=>false
 calm:=X.calm
 pn:=[]
 xe:=λ_ _=>False
def vQ(XN N:List Str)(xs scope:Scope)(fr:List (Option Nat)):Bool:=
 decide (fr.length=N.length)&&(scope.kind==.function)&&(scope.names.all λx=>!(x.2==.cell))&&(scope.names.all λx=>!(x.2==.local)||scope.names.lookup x.1==some .local) &&
 (scope.names.all λx=>!(x.2==.free)||(xs.names.lookup x.1==some .cell||xs.names.lookup x.1==some .free)) &&
 (List.range N.length).all λj=>match fr[j]?,N[j]? with
  |some (some i),some x=>decide (XN[i]?=some x)&&(scope.names.lookup x==some .free)
  |_,_=>true
theorem Dr{XN N:List Str}{xs scope:Scope}{fr:List (Option Nat)}(h:vQ XN N xs scope fr=true) :
  fr.length=N.length/\scope.kind=.function/\(∀ x∈scope.names,x.2≠.cell)/\(∀ x∈scope.names,x.2=.local->scope.names.lookup x.1=some .local) /\
  (∀ x∈scope.names,x.2=.free->xs.names.lookup x.1=some .cell\/xs.names.lookup x.1=some .free) /\
  ∀ (j i:Nat) (x:Str),fr[j]?=some (some i)->N[j]?=some x->XN[i]?=some x/\scope.names.lookup x=some .free:=by
 unfold vQ at h;simp only[Za6,decide_eq_true_eq,Zaq] at h;obtain⟨⟨⟨⟨⟨h1,h2⟩,h3⟩,h4⟩,h5⟩,h6⟩:=h;refine⟨h1,by simpa using h2,λx hx=>by simpa using h3 x hx,λx hx e=>?_,λx hx e=>?_,λj i x e1 e2=>?_⟩
 ·have:=h4 x hx;simp[e] at this;exact this
 ·have:=h5 x hx;simp[e] at this;exact this
 ·have hj:j<N.length:=(Zas.mp e2).1;have:=h6 j (Za2.mpr hj);rw[e1,e2] at this;simpa using this
def frσ(fr:List (Option Nat))(σ:St):St:=fr.map λo=>match o with
 |some i=>match σ[i]? with
  |some v=>v
  |none=>none
 |none=>none
theorem RM{fr:List (Option Nat)}{σ:St}{j:Nat}{v:V}(h:(frσ fr σ)[j]?=some (some v)):∃ i,fr[j]?=some (some i)/\σ[i]?=some (some v):=by
 unfold frσ at h;rw[Zaf] at h;cases e:fr[j]? with
 |none=>rw[e] at h;cases h
 |some o=>
  rw[e] at h;cases o with
  |none=>cases h
  |some i=>
   simp only[Zbv] at h;cases e2:σ[i]? with
   |none=>rw[e2] at h;cases h
   |some w=>rw[e2] at h;exact⟨i,rfl,by simpa[e2] using h⟩
def NT(X:Cx)(ifs:List Expr)(t:TT):Prop:=
 ∀ (pins:List (Addr×Obj)) (s:Shared) (σ:St) (H:Hp) (Q:Bool->Hp->Prop),Inv X pins σ H s->t σ H Q ->
  wpAny (model X.prog X.w) X.A (forIn ifs true λc r=>if r=true then do let ok <-isTrue c X.env (eval c X.env);pure (ForInStep.yield ok) else pure (ForInStep.yield r)) (TP X pins σ Q) X.xe s
def W2:TT:=λ_ H Q=>Q true H
theorem tZ{X:Cx}:NT X [] W2:=λ_ _ _ H _ I h=>wpAny_tests_nil ⟨H,I,h⟩
theorem Aj{X:Cx}{c:Expr}{t:TT}(h:PT X c t):NT X [c] t:=λpins s σ H Q I hw=>wpAny_tests_one (h pins s σ H Q I hw)
def W3(D:Addr)(tc:TT)(te:TE):TS:=λE σ H=>tc σ H λb H1=>if b=true then te σ H1 λv H2=>∃ ys,H2 D=some (.lst ys)/\ys.length<sizeLine/\E.nx σ (upd H2 D (.lst (ys++[v]))) else E.nx σ H1
def endC(Q:VK)(D:Addr):Ends:={ nx:=λ_ H=>Q (.ref D) H,rt:=λ_ _=>False }
def vR(wi:TI)(fr:List (Option Nat))(g:TG)(tc:TT)(te:TE):TE:=λσ H Q=>wi σ H λJ H1=>∀ D,H1 D=none->∃ W:Nat->Nat->St->Hp->Prop,(∃ m,W 0 m (frσ fr σ) (upd H1 D (.lst [])))/\∀ i m σ H,W i m σ H ->
 (J.stop i H/\(endC Q D).nx σ H)\/(J.go i H/\∃ N:St->Hp->Prop,(∀ σ' H',N σ' H'->∃ m',m'<m/\W (i+1) m' σ' H')/\∀ x H',J.yld i H x H'->g x σ H' λσ2 H2=>W3 D tc te { endC Q D with nx:=N,ct:=N,bk:=(endC Q D).nx } σ2 H2)
section
variable{prog:Program}{w:World}{A:Around}{R:Result->Shared->Prop}{s:Shared}
theorem K4{elt target iter:Expr}{ifs:List Expr}{scope:Scope}{pos:Pos}{it acc:Value}{env:Env}(I:Nat->Shared->Prop)
  (turn:∀ n s,I n s->wpAny (model prog w) A (pyNext it) (λr s₁=>match r with
   |none=>R (.ok .next) s₁
   |some v=>wpAny (model prog w) A (letOwnedTupleGo target it v) (λ_ s₁=>wpAny (model prog w) A (assign target env v) (λ_ s₂=>
     wpAny (model prog w) A (forIn ifs true λc r=>if r=true then do let ok <-isTrue c env (eval c env);pure (ForInStep.yield ok) else pure (ForInStep.yield r)) (λok s₃=>
      if ok=true then wpAny (model prog w) A (eval elt env) (λx s₄=>
       wpAny (model prog w) A (call (.builtin "list.append") [acc,x]) (λ_ s₅=>∃ m,m<n/\I m s₅) (notedBy (model prog w) A env λe s'=>R (.error e) s') s₄) (notedBy (model prog w) A env λe s'=>R (.error e) s') s₃
      else ∃ m,m<n/\I m s₃) (notedBy (model prog w) A env λe s'=>R (.error e) s') s₂) (notedBy (model prog w) A env λe s'=>R (.error e) s') s₁) (notedBy (model prog w) A env λe s'=>R (.error e) s') s₁) (notedBy (model prog w) A env λe s'=>R (.error e) s') s)
  (n:Nat)(h:I n s) :
  codeAny (model prog w) A (.compLoop (.ListComp elt [⟨target,iter,ifs,0⟩] scope pos) 0 it acc env) R s:=by
 refine codeAny_loop rfl I (λn s hI=>?_) n h;show wpAny _ A ((compTurn (.ListComp elt [⟨target,iter,ifs,0⟩] scope pos) 0 it acc env).onRaise (λx=>do noteFrame x env;theTreesLotGoes x)) _ _ s
 refine wpAny_noted ?_;rw[compTurn_list];refine Zai (wpAny_standAt (Zai (ZaK (turn n s hI) (λr s₁ h₁=>?_) λ_ _ h'=>h')));cases r with
 |none=>exact Zay h₁
 |some v=>
  refine Zai (ZaK h₁ (λ_ s₁' h₁'=>?_) λ_ _ h'=>h');refine Zai (ZaK h₁' (λ_ s₂ h₂=>Zai (ZaK h₂ (λok s₃ h₃=>?_) λ_ _ h'=>h')) λ_ _ h'=>h');cases ok with
  |false=>exact Zay ⟨rfl,h₃⟩
  |true=>
   exact Zai (Zai (ZaK h₃ (λx s₄ h₄=>Zai (ZaK h₄ (λ_ s₅ h₅=>Zay (Zay ⟨rfl,h₅⟩)) λ_ _ h'=>h')) λ_ _ h'=>h'))
end
structure Apart(X:Cx)(pins:List (Addr×Obj))(C:Addr):Prop where
 ne:C≠X.env.locals
 ab:X.s₀.heap.objs.size<=C
 cells:∀ x c,X.env.cells.lookup x=some c->c≠C
 pins:∀ p∈X.pn++pins,p.1≠C
section
variable{X:Cx}{elt tg iter:Expr}{ifs:List Expr}{scope:Scope}{pos pos':Pos}{wi:TI}{g:TG}{tc:TT}{te:TE}{pins:List (Addr×Obj)}{σ:St}{H:Hp}{s:Shared}
theorem Ds(N:List Str)(fr:List (Option Nat))(hc:X.calm=true)(hi:PI X tg iter wi)(hg:∀ cl C s2 H2 fp,PG (X.comp N scope cl C s2 H2 fp) tg g)
  (ht:∀ cl C s2 H2 fp,NT (X.comp N scope cl C s2 H2 fp) ifs tc)(he:∀ cl C s2 H2 fp,PE (X.comp N scope cl C s2 H2 fp) elt te)
  (ok:vQ X.N N X.env.scope scope fr=true)(hs:∀ x,foldedSetIterable iter X.env x=pure x){Q:VK}{Q':Value->Shared->Prop}{use:Option (Value->Sem Unit)}
  (I:Inv X pins σ H s)(h:vR wi fr g tc te σ H Q)
  (fin:∀ D C s' H',Inv X pins σ H' s'->H' C=none->Apart X pins C->(∃ m,s'.heap.Ns C m)->Q (.ref D) H'->compPost (model X.prog X.w) X.A X.xe use Q' (.ref D) C (.ok .next) s') :
  wpAny (model X.prog X.w) X.A (comprehension (.ListComp elt [⟨tg,iter,ifs,0⟩] scope pos) scope X.env pos' (newList []) false (eval iter X.env) use) Q' X.xe s:=by
 obtain⟨o1,o2,o3,o4,o5,o6⟩:=Dr ok;obtain⟨cl,hclos,c1,c2⟩:=Hm (scope:=scope) (env:=X.env) (λx hx hf=>I.ok.has x.1 (o5 x hx hf));refine wpAny_comprehension_free (use:=use) rfl hs hclos o2 o4 (thn (hi pins s σ H _ I h) λxv s1 h1=>thn h1 λitv s2 h2=>?_);obtain⟨it,fp,tn,J,H2,rfl,I2,T,st2,f2,hW⟩:=h2;refine wpAny_newObj_type (wpAny_newFunctionEnv o3 (by intro y hy;simp at hy) (λh₁ hns₁ hsb₁=>?_) o2)
 dsimp only at hns₁ hsb₁ ⊢;generalize hHH:s2.heap.push { cls:=.type "list",dict:=none,data:=.seq ([]:List Value).toArray }=HH at hns₁ hsb₁ ⊢
 have hC:HH.objs.size=s2.heap.objs.size+1:=by rw[<-hHH,ZbC]
 have hDC:s2.heap.objs.size≠HH.objs.size:=by rw[hC];exact Zaz (Zcb _)
 have hCle:s2.heap.objs.size<=HH.objs.size:=by rw[hC];exact Zbz _
 have neC:∀ b,b<s2.heap.objs.size->b≠HH.objs.size:=λb hb=>by rw[hC];exact Zaz (Zb7 hb)
 have old:∀ b o,s2.heap.get? b=some o->h₁.get? b=some o:=λb o e=>hsb₁.extBut b o (neC b (Zak e)) (Zae _ (hHH▸Zae _ e));have atD:h₁.get? s2.heap.objs.size=some { cls:=.type "list",data:=.seq ([]:List Value).toArray }:=hsb₁.extBut _ _ hDC (Zae _ (hHH▸Zat _ rfl));have ltf:∀ b∈fp,b<s2.heap.objs.size:=λb hb=>let⟨o,e,_⟩:=T.obj _ _ st2 b hb;Zak e;have ltc:∀ x c,X.env.cells.lookup x=some c->c<s2.heap.objs.size:=λx c e=>let⟨v,q⟩:=I2.cell x c e;q.lt;have ltp:∀ p∈X.pn++pins,p.1<s2.heap.objs.size:=λp hp=>Zak (I2.pin p hp).1;have fresh:H2 s2.heap.objs.size=none:=I2.hok.fresh (Zah _);have freshC:H2 HH.objs.size=none:=I2.hok.fresh hCle;have ap:Apart X pins HH.objs.size:=⟨ZbD (Zan I2.lt hCle),ZaE I2.sz hCle,λx c e=>neC c (ltc x c e),λp hp=>neC _ (ltp p hp)⟩;have okY:(X.comp N scope cl HH.objs.size s2 H2 fp).Ok:={
  mod:=I2.ok.mod
  kind:=o2
  glob:=I2.ok.glob
  blt:=I2.ok.blt
  above:=hCle
  inj:=λx y c a b=>I2.ok.inj x y c (c1 _ _ a) (c1 _ _ b)
  has:=λx hx=>c2 x (lookup_mem (Hn (λz=>o3 _ (lookup_mem z) rfl) hx))
  cab:=λx c hx _=>by cases hx
  hd:=I2.ok.hd
  frames:=I2.ok.frames
  stk:=.inl rfl
  exf:=λb hb=>⟨neC b (ltf b hb),λx c e=>(f2 b hb).2.2.2.2.1 x c (c1 x c e)⟩
  bs:=I2.bs
  bsz:=ZaE I2.ok.bsz I2.sz
  noex:=λb o e hb=>by
   rcases(f2 b hb).2.2.2.1 with z|z
   ·exact I2.ok.noex b o e z
   ·exact absurd (Zan (Zak e) (ZaE I2.ok.bsz z)) (Za1 _)
  exfs:=λb hb hf=>by
   rcases ZaJ.mp (I2.z9 b hf) with z|z
   ·exact(f2 b hb).2.1 z
   ·exact(f2 b hb).2.2.1 z
  qM:=I2.stack
  frf:=I2.Aa }
 have IY:Inv (X.comp N scope cl HH.objs.size s2 H2 fp) [] (frσ fr σ) (upd H2 s2.heap.objs.size (.lst [])) { s2 with heap:=h₁,toks:=s2.toks+([]:List (Str×Value)).length }:={
  ok:=okY
  os:=rfl
  bare:=I2.bare
  base:=Un.laid old (Zah _) fresh
  loc:=by
   refine⟨_,hns₁,λj x v e1 e2 e3=>?_⟩;obtain⟨i,f1,f2'⟩:=RM e2;obtain⟨g1,g2⟩:=o6 j i x f1 e1;have k2:=o5 _ (lookup_mem g2) rfl;obtain⟨m2,hm2,l2⟩:=I2.loc;obtain⟨u,ru,lk⟩:=l2 i x v g1 f2' (.inr k2);refine⟨u,ru,.inr ⟨rJ g2,?_⟩⟩;obtain⟨c,hcl⟩:=c2 x (lookup_mem g2);refine⟨c,hcl,?_⟩;rcases lk with⟨k,_⟩|⟨_,c',e',z⟩
   ·rcases k2 with k2|k2
    ·rw[show X.env.kindOf x=X.env.scope.names.lookup x from rfl,k2] at k;cases k
    ·rw[show X.env.kindOf x=X.env.scope.names.lookup x from rfl,k2] at k;cases k
   ·rw[c1 x c hcl] at e';cases e';obtain⟨oc,hoc,hd⟩:=z;exact⟨oc,old c oc hoc,hd⟩
  cell:=λx c e=>by
   obtain⟨v,oc,hoc,hd⟩:=I2.cell x c (c1 x c e);exact⟨v,oc,old c oc hoc,hd⟩
  free:=(aK (Za0 hDC)).trans freshC
  freeC:=λx c e=>by
   rw[aK (Zaz (ltc x c (c1 x c e)))];exact I2.freeC x c (c1 x c e)
  pin:=λp hp=>by cases hp
  hok:=I2.hok.laid old (Zah _) ⟨Zbj _,[],0,.nil,atD⟩
  len:=by unfold frσ;rw[Zac];exact o1 }
 have stat:∀ {H':Hp}{pp:List (Addr×Obj)},pp=[]->(∀ b∈fp,H' b=none)->∀ b∈fp,ye (X.comp N scope cl HH.objs.size s2 H2 fp) pp H' b:=λ{H' pp} hp hn b hb=>by
  subst hp;exact⟨hn b hb,neC b (ltf b hb),λz=>okY.exfs b hb z,.inl hb,λx c e=>(f2 b hb).2.2.2.2.1 x c (c1 x c e),λp hp=>by cases hp⟩
 have back:∀ {σ':St}{H':Hp}{s':Shared},Inv (X.comp N scope cl HH.objs.size s2 H2 fp) [] σ' H' s'->Inv X pins σ H' s':=λ{σ' H' s'} I'=>
  I2.call' (ch:=fp) I'.os I'.base I'.hok I'.bare λb hb=>⟨(f2 b hb).2.2.2.1,(f2 b hb).2.1,(f2 b hb).2.2.2.2.1,(f2 b hb).2.2.2.2.2⟩
 have loop:∀ s₃:Shared,s₃={ s2 with heap:=h₁,toks:=s2.toks+([]:List (Str×Value)).length } ->
   codeAny (model X.prog X.w) X.A (.compLoop (.ListComp elt [⟨tg,iter,ifs,0⟩] scope pos) 0 (.ref it) (.ref s2.heap.objs.size) (compEnvC scope cl HH.objs.size X.env))
    (compPost (model X.prog X.w) X.A X.xe use Q' (.ref s2.heap.objs.size) HH.objs.size) s₃:=by
  rintro s₃ rfl;obtain⟨W,⟨m0,w0⟩,turn⟩:=hW s2.heap.objs.size fresh;refine K4 (λn s'=>∃ i σ' H',Inv (X.comp N scope cl HH.objs.size s2 H2 fp) [] σ' H' s'/\tn i s'.heap/\(∀ b∈fp,H' b=none)/\W i n σ' H') ?_ m0
   ⟨0,_,_,IY,T.keep _ _ _ st2 λb _ o e=>old b o e,λb hb=>by rw[aK (Zaz (ltf b hb))];exact(f2 b hb).1,w0⟩
  rintro n s3 ⟨i,σ3,H3,I3,st3,fr3,w3⟩;rcases turn i n σ3 H3 w3 with⟨stop,q⟩|⟨go,Nx,hN,step⟩
  ·refine thn (T.done (X.comp N scope cl HH.objs.size s2 H2 fp) rfl rfl rfl hc i [] s3 σ3 H3 _ I3 (stat rfl fr3) st3 stop) ?_;rintro r s4 ⟨hr,I4⟩;subst hr;obtain⟨m4,hm4,_⟩:=I4.loc;exact fin _ _ s4 H3 (back I4) I4.free ap ⟨m4,hm4⟩ q
  ·refine thn (T.item (X.comp N scope cl HH.objs.size s2 H2 fp) rfl rfl rfl hc i [] s3 σ3 H3 _ I3 (stat rfl fr3) st3 go) ?_;rintro r s4 ⟨u,hr,h4⟩;subst hr;refine thn h4 ?_;rintro _ s5 ⟨x,H5,I5,r5,y5,st5,fr5⟩;have I5':=I5.pinned (stat rfl fr5) (T.obj _ _ st5);refine ZaK (hg cl HH.objs.size s2 H2 fp _ s5 σ3 H5 x u _ I5' r5 (step x H5 y5)) (?_) λ_ _ f=>f.elim;rintro _ s6 ⟨σ6,H6,I6,q6⟩;have again:∀ {s7:Shared}{σ7:St}{H7:Hp},Inv (X.comp N scope cl HH.objs.size s2 H2 fp) ([]++vM fp s5.heap) σ7 H7 s7->Nx σ7 H7 ->
     ∃ m,m<n/\∃ i σ' H',Inv (X.comp N scope cl HH.objs.size s2 H2 fp) [] σ' H' s7/\tn i s7.heap/\(∀ b∈fp,H' b=none)/\W i m σ' H':=λ{s7 σ7 H7} I7 n7=>by
    obtain⟨m',hm,w7⟩:=hN σ7 H7 n7;refine⟨m',hm,i+1,σ7,H7,I7.rF,T.keep _ _ _ st5 λb hb o e=>(I7.pin (b,o) (ZaA _ (ZaA _ (mF hb e)))).1,λb hb=>?_,w7⟩;obtain⟨o,e,d⟩:=T.obj _ _ st5 b hb;exact(I7.pin (b,o) (ZaA _ (ZaA _ (mF hb e)))).2.1
   refine ZaK (ht cl HH.objs.size s2 H2 fp _ s6 σ6 H6 _ I6 q6) (?_) λ_ _ f=>f.elim;rintro b s7 ⟨H7,I7,q7⟩;cases b with
   |false=>
    rw[Zal (by decide)] at q7 ⊢
    exact again I7 q7
   |true=>
    rw[Zag rfl] at q7 ⊢;refine ZaK (he cl HH.objs.size s2 H2 fp _ s7 σ6 H7 _ I7 q7) (?_) λ_ _ f=>f.elim;rintro y s8 ⟨v,H8,I8,r8,q8⟩;obtain⟨ys,e8,l8,n8⟩:=q8;refine ZaK (iB (X:=X.comp N scope cl HH.objs.size s2 H2 fp) _ s8 σ6 H8 (.ref s2.heap.objs.size) [v] (.ref s2.heap.objs.size) [y] (λ_ H9=>Nx σ6 H9) I8 rfl (.cons r8 .nil) ⟨_,ys,v,rfl,rfl,e8,l8,n8⟩) (?_) λ_ _ f=>f.elim;rintro _ s9 ⟨_,H9,I9,_,n9⟩;exact again I9 n9
 exact codeAny_compStart_list (loop _ rfl) (T.self _ 0 _ _ _ (T.keep _ _ _ st2 λb _ o e=>old b o e) (loop _ rfl))
theorem jV(N:List Str)(fr:List (Option Nat))(hc:X.calm=true)(hi:PI X tg iter wi)(hg:∀ cl C s2 H2 fp,PG (X.comp N scope cl C s2 H2 fp) tg g)
  (ht:∀ cl C s2 H2 fp,NT (X.comp N scope cl C s2 H2 fp) ifs tc)(he:∀ cl C s2 H2 fp,PE (X.comp N scope cl C s2 H2 fp) elt te)
  (ok:vQ X.N N X.env.scope scope fr=true:=by kernel_rfl)(hs:∀ x,foldedSetIterable iter X.env x=pure x:=by intro _;rfl) :
  PE X (.ListComp elt [⟨tg,iter,ifs,0⟩] scope pos) (vR wi fr g tc te):=by
 intro pins s σ H Q I h;rw[eval_ListComp];refine Ds (use:=none) N fr hc hi hg ht he ok hs I h λD C s' H' I' hn ap hm q=>?_;obtain⟨m,hm⟩:=hm;exact⟨m,hm,λh' sb=>⟨.ref D,H',I'.turned (t':=s'.toks) (λb o hb e=>(sb.2 b hb).trans e) hn ap.ne (.inr ap.ab) ap.cells ap.pins,rfl,q⟩⟩
theorem Jv{i:Nat}{y:Str}{py spos:Pos}(N:List Str)(fr:List (Option Nat))(hc:X.calm=true)(hN:X.N.Nodup)(hiy:X.N[i]?=some y)(hy:X.env.scope.names.lookup y=some .local)(hi:PI X tg iter wi)
  (hg:∀ cl C s2 H2 fp,PG (X.comp N scope cl C s2 H2 fp) tg g)(ht:∀ cl C s2 H2 fp,NT (X.comp N scope cl C s2 H2 fp) ifs tc)(he:∀ cl C s2 H2 fp,PE (X.comp N scope cl C s2 H2 fp) elt te)
  (ok:vQ X.N N X.env.scope scope fr=true:=by kernel_rfl)(hs:∀ x,foldedSetIterable iter X.env x=pure x:=by intro _;rfl)
  (hsw:swapsWith (.ListComp elt [⟨tg,iter,ifs,0⟩] scope pos) (some (.Name y py)) spos.line X.env=pure true:=by rfl) :
  PS X (.Assign [.Name y py] (.ListComp elt [⟨tg,iter,ifs,0⟩] scope pos) spos) (uY (vR wi fr g tc te) (lD i)):=by
 intro pins s σ H D I h;rw[exec_Assign_Name_used _ _ _ _ hsw];refine Zai (wpAny_standAt (Zai ?_));show wpAny _ X.A (do let _ <-comprehension (.ListComp elt [⟨tg,iter,ifs,0⟩] scope pos) scope X.env _ (newList []) false (eval iter X.env) (some (assign (.Name y py) X.env))) _ _ s
 refine Zai (ZaK (Ds (use:=some (assign (.Name y py) X.env)) (Q':=λ_ s'=>SP X pins D .next s') N fr hc hi hg ht he ok hs I h λDa C s' H' I' hn ap hm q=>?_) (λ_ s' hq=>Zay (Zay hq)) λ_ _ e=>e);obtain⟨m,hm⟩:=hm;show wpAny _ X.A (assign (.Name y py) X.env (.ref Da)) _ _ _
 refine wpAny_assign_Name (yQ I' hN hiy (.inl hy) (v:=.ref Da) rfl (λs'' I'' hsb=>?_) (.inr hy));obtain⟨a,sb,ha⟩:=hsb;have hne:C≠a:=by
  rcases ha with z|z
  ·rw[z];exact ap.ne
  ·exact Za0 (ap.cells y a z)
 exact⟨m,hm.sameBut sb hne,λh' sb'=>⟨_,H',I''.turned (t':=s''.toks) (λb o hb e=>(sb'.2 b hb).trans e) hn ap.ne (.inr ap.ab) ap.cells ap.pins,q⟩⟩
end
section
variable{X:Cx}{pins:List (Addr×Obj)}{σ:List (Option V)}{H:Hp}{s:Shared}{h':Heap}
theorem Inv.RN{t':Nat}{ch:List Addr}(I:Inv X pins σ H s)(k:∀ b o,b ∉ ch->s.heap.get? b=some o->h'.get? b=some o)(hf:∀ b∈ch,ye X pins H b):Inv X pins σ H { s with heap:=h',toks:=t' }:=by
 have nit:∀ b u,H b=some u->b ∉ ch:=λb u e z=>by rw[(hf b z).1] at e;cases e
 refine I.step (g':=s.gens) (d':=s.drawn) (ch:=ch) (λb hb=>⟨(hf b hb).2.2.2.1,(hf b hb).2.1,(hf b hb).2.2.2.2.1,(hf b hb).2.2.2.2.2⟩) (λb o _ _ hc e _=>k b o hc e) (λb o _ _ hc e _=>⟨o.slots,k b o hc e⟩) (λ_ _ _ _ n=>n)
  (λb o hc e=>⟨o,k b o hc e⟩) (λ_ _ e=>e) (λ_ _ _ e=>e) (λb ps e=>⟨#[],by rw[e];simp⟩) (λm hm=>?_) (λb u e=>?_) I.bare
 ·obtain⟨o,es,ep,ho,r⟩:=hm;exact⟨o,es,ep,k _ o (λz=>(hf _ z).2.1 rfl) ho,r⟩
 ·refine(I.hok b u e).stay (λc v hc q=>k c v ?_ q) (λ_ q=>q) λ_ _ q=>q;rcases hc with z|z
  ·rw[z];exact nit b u e
  ·exact nit c _ z
theorem Inv.K5{t':Nat}{ch:List Addr}{a:Addr}{o:HO}(I:Inv X pins σ H s)(k:∀ b o,b ∉ ch->s.heap.get? b=some o->h'.get? b=some o)(hf:∀ b∈ch,ye X pins H b)(ha:s.heap.objs.size<=a)
  (new:dB X.prog X.w (upd H a o) h' a o):Inv X pins σ (upd H a o) { s with heap:=h',toks:=t' }:=by
 have hn:H a=none:=I.hok.fresh ha;have nit:∀ b u,H b=some u->b ∉ ch:=λb u e z=>by rw[(hf b z).1] at e;cases e
 have ne:∀ b ob,s.heap.get? b=some ob->b≠a:=λb ob e z=>by rw[z] at e;exact absurd (Zan (Zak e) ha) (Za1 _)
 refine I.step (g':=s.gens) (d':=s.drawn) (ch:=ch) (λb hb=>⟨(hf b hb).2.2.2.1,(hf b hb).2.1,(hf b hb).2.2.2.2.1,(hf b hb).2.2.2.2.2⟩) (λb o _ _ hc e _=>k b o hc e) (λb o _ _ hc e _=>⟨o.slots,k b o hc e⟩) (λb ob _ e n=>by rw[aK (ne b ob e)];exact n)
  (λb o hc e=>⟨o,k b o hc e⟩) (λb xs e=>by rw[aK (bO e hn)];exact e) (λb ob u e=>by rw[aK (bO e hn)];exact e) (λb ps e=>⟨#[],by rw[aK (bO e hn),e];simp⟩) (λm hm=>?_) (λb u e=>?_) I.bare
 ·obtain⟨o,es,ep,ho,r⟩:=hm;exact⟨o,es,ep,k _ o (λz=>(hf _ z).2.1 rfl) ho,r⟩
 ·by_cases hb:b=a
  ·subst hb;rw[aN] at e;cases e;exact new
  ·rw[aK hb] at e;refine(I.hok b u e).stay (λc v hc q=>k c v ?_ q) (λc q=>by rw[aK (bO q hn)];exact q) λc xs q=>by rw[aK (bO q hn)];exact q
   rcases hc with z|z
   ·rw[z];exact nit b u e
   ·exact nit c _ z
end
def Itf(f:Nat->V)(n:Nat):It:=⟨λi _=>i<n,λi H x H'=>H'=H/\x=f i,λi _=>i=n⟩
def sgn(z:Str)(i:Nat):V:=.str ⟨#[z.cps.getD i 0]⟩
theorem za{P:Program}{w:World}{A:Around}(hh:A.handled=none)(it:Addr)(z:Str)(t:Tok):Walks P w A it [it] [it] z.cps.size (SignAt z) (λi h=>h.IsStrIter it (strIterType z) z t i):=by
 unfold strIterType;split
 ·exact Walks.strAscii hh it z t
 ·exact Walks.strWide hh it z t
theorem NZ{P:Program}{w:World}{K:PySem.W.Frag}{tg:Expr}(it:Addr)(z:Str)(t:Tok):Turn P w K tg (Itf (sgn z) z.cps.size) [it] it (λi h=>h.IsStrIter it (strIterType z) z t i) where
 mem:=by simp
 obj:=λi h st b hb=>by
  have e:b=it:=by simpa using hb
  subst e;obtain⟨o,e,c,d⟩:=st;exact⟨o,e,λv z=>by rw[d] at z;cases z⟩
 keep:=λi h h' st k=>let⟨o,e,r⟩:=st;⟨o,k it (by simp) o e,r⟩
 item:=by
  intro X hP hw hK hc i pins s σ H E I hf st hg;subst hP hw hK;obtain⟨f0,f1,f2,f3,f4,f5⟩:=hf it (by simp)
  have W:=za (P:=X.prog) (w:=X.w) (I.ok.hd hc) it z t;refine W.item i s _ _ hg st λv h' tk hv st' kk=>?_;obtain⟨c,u,hx,rfl⟩:=hv;have I1:Inv X pins σ H { s with heap:=h',toks:=tk }:=I.turned (λb o hb e=>kk b o (by simpa using hb) e) f0 f1 f3 f4 f5
  obtain⟨o,e,cc,d⟩:=id st';have ec:z.cps.getD i 0=c:=by rw[ZbS,hx];rfl
  refine⟨_,rfl,Jp (s:={ s with heap:=h',toks:=tk }) e cc d (by unfold strIterType;split<;>decide) ⟨sgn z i,H,I1,⟨u,?_⟩,⟨rfl,rfl⟩,st',λb hb=>(hf b hb).1⟩⟩
  rw[ec]
 done:=by
  intro X hP hw hK hc i pins s σ H E I hf st hg;subst hP hw hK;have hg':i=z.cps.size:=hg;subst hg';obtain⟨f0,f1,f2,f3,f4,f5⟩:=hf it (by simp)
  have W:=za (P:=X.prog) (w:=X.w) (I.ok.hd hc) it z t;exact W.done s _ _ st λh' tk kk=>⟨rfl,I.turned (λb o hb e=>kk b o (by simpa using hb) e) f0 f1 f3 f4 f5⟩
 self:=λA i s Q E st h=>by
  unfold strIterType at st;split at st
  ·exact wpAny_pyIter_striter_ascii st h
  ·exact wpAny_pyIter_striter_wide st h
def Ite(K:PySem.W.Frag)(a:Addr):It:=
 ⟨λi H=>∃ xs x,SqL K H a xs/\xs[i]?=some x,λi H x H'=>∃ p y,H p=none/\x=.ref p/\H'=upd H p (.tup [.int i,y])/\∀ xs,SqL K H a xs->xs[i]?=some y,λi H=>∃ xs,SqL K H a xs/\xs.length<=i⟩
theorem K6{P:Program}{w:World}{K:PySem.W.Frag}{elts:List Expr}{x1:Nat}{pos:Pos}(a e it:Addr)(hei:e≠it) :
  Turn P w K (.Tuple elts x1 pos) (Ite K a) [e,it] e (λi h=>(∃ old,IsEnum h e it (i:Int) old)/\h.IsListIter it a i) where
 mem:=by simp
 obj:=λi h st b hb=>by
  obtain⟨⟨old,he⟩,o,ho,c,d⟩:=st;rcases ZaJ.mp hb with z|z
  ·subst z;exact⟨_,he,λv q=>by cases q⟩
  ·have z:b=it:=by simpa using z
   subst z;exact⟨o,ho,λv q=>by rw[d] at q;cases q⟩
 keep:=λi h h' st k=>by
  obtain⟨⟨old,he⟩,hit⟩:=st;exact⟨⟨old,k e (by simp) _ he⟩,hit.at λo q=>k it (by simp) o q⟩
 item:=by
  intro X hP hw hK hc i pins s σ H E I hf st hg;subst hP hw hK;obtain⟨xs,x,hq,hx⟩:=hg;obtain⟨its,rv,p,hz⟩:=I.list hq;obtain⟨u,hu,ru⟩:=rv.get hx;obtain⟨⟨old,he⟩,hit⟩:=st;have hl:=p.isList;have hai:a≠it:=by
   rintro rfl;obtain⟨o1,e1,c1,_⟩:=hl;obtain⟨o2,e2,c2,_⟩:=hit;rw[e1] at e2;cases e2;rw[c1] at c2;exact absurd c2 (by decide)
  have hae:a≠e:=by
   rintro rfl;obtain⟨o1,e1,c1,_⟩:=hl;rw[he] at e1;cases e1;exact absurd (show Value.type "enumerate"=Value.type "list" from c1) (by decide)
  have D:=Draws.list (prog:=X.prog) (w:=X.w) (A:=X.A.in1) (I.ok.hd hc) it a hai its.toArray;have hlt:i<its.toArray.size:=by
   have:=(Zas.mp hu).1;simpa using this
  refine wpAny_pyNext_enum_itemD D he ⟨hit,hl⟩ hlt hei (by simp[hei,Za0 hae]) λv h1 tk hP ho hst hT hsz hk=>?_
  have ev:v=u:=by
   have hP':its.toArray[i]?=some v:=hP;rw[ZbF,hu] at hP';exact(Zaa hP').symm
  subst ev;refine⟨_,rfl,wpAny_letOwnedTupleGo_enum ho λh2 he2 hs2=>?_⟩;have elt:e<s.heap.objs.size:=Zak he;have hT2:h2.get? s.heap.objs.size=some { cls:=.type "tuple",data:=.seq #[.int i tk,v] }:=(hs2.2 _ (ZbD elt)).trans hT;refine⟨.ref s.heap.objs.size,upd H s.heap.objs.size (.tup [.int i,x]),I.K5 (ch:=[e,it]) (λb o hb q=>?_) hf (Zah _) ⟨by show 2<=sizeLine;decide,[.int i tk,v],.cons ⟨tk,rfl⟩ (.cons ru .nil),gO.mk hT2⟩,rfl,⟨_,x,I.hok.fresh (Zah _),rfl,rfl,λys hy=>by rw[I.vL hy hq];exact hx⟩,⟨⟨v,by simpa using he2⟩,?_⟩,λb hb=>?_⟩
  ·have h1':b≠e:=λz=>hb (by simp[z])
   have h2':b≠it:=λz=>hb (by simp[z])
   exact(hs2.2 b h1').trans (hk b o h1' h2' q)
  ·exact hst.1.at λo q=>(hs2.2 it (Za0 hei)).trans q
  ·rw[aK ?_]
   ·exact(hf b hb).1
   ·rcases ZaJ.mp hb with z|z
    ·rw[z];exact Zaz elt
    ·have z:b=it:=by simpa using z
     rw[z];obtain⟨o2,e2,_⟩:=hit;exact Zaz (Zak e2)
 done:=by
  intro X hP hw hK hc i pins s σ H E I hf st hg;subst hP hw hK;obtain⟨xs,hq,hx⟩:=hg;obtain⟨its,rv,p,hz⟩:=I.list hq;obtain⟨⟨old,he⟩,hit⟩:=st;have hl:=p.isList;have ln:=rv.length;refine wpAny_pyNext_enum_end (I.ok.hd hc) he hit hl (by rw[ZbF];exact List.getElem?_eq_none_iff.mpr (by omega)) λh1 eb=>⟨rfl,?_⟩
  exact I.RN (t':=s.toks) (ch:=[e,it]) (λb o hb q=>eb b o (λz=>hb (by simp[z])) q) hf
 self:=λA i s Q E st h=>by
  obtain⟨⟨old,he⟩,_⟩:=st;exact wpAny_pyIter_enum he h
def Ug(K:PySem.W.Frag)(ta:TA):TI:=λσ H R=>ta σ H λvs H1=>∃ a,vs=[.ref a]/\(∃ xs,SqL K H1 a xs)/\R (Ite K a) H1
theorem RP{X:Cx}{l:Expr}{ta:TA}{elts:List Expr}{x1:Nat}{tpos p pos:Pos}(hg:Gl X "enumerate")(hm:X.mg "enumerate"=none)(ha:PA X [l] ta)(hs:starEach [l] X.env=[(false,eval l X.env)]:=by rfl) :
  PI X (.Tuple elts x1 tpos) (.Call (.Name "enumerate" p) [l] [] pos) (Ug X.K ta):=by
 intro pins s σ H R I h;refine Call_ (vK I hg hm boot_enumerate (Zbi (thn (ha pos pins s σ H _ I h) ?_) hs rfl));rintro us s1 ⟨vs,H1,I1,r1,q1⟩;obtain⟨a,e,⟨xs,hq⟩,q⟩:=q1;subst e;cases r1 with
 |cons r rr=>
  cases rr;cases r;obtain⟨its,rv,p,hz⟩:=I1.list hq;refine call_enumerate_list p.isList λh1 he hit hsz hk=>?_;refine wpAny_pyIter_enum he ?_;have I2:Inv X pins σ H1 { s1 with heap:=h1 }:=I1.kept (t':=s1.toks) hk;refine⟨s1.heap.objs.size+1,[s1.heap.objs.size+1,s1.heap.objs.size],_,_,H1,rfl,I2,K6 a _ _ (by simp),⟨⟨_,he⟩,hit⟩,λb hb=>?_,q⟩
  rcases ZaJ.mp hb with z|z
  ·subst z;exact I1.Ro (Zbz _) (I1.hok.fresh (Zbz _))
  ·have z:b=s1.heap.objs.size:=by simpa using z
   subst z;exact I1.Ro (Zah _) (I1.hok.fresh (Zah _))
section
variable{X:Cx}{b c e:Expr}
theorem all_range(bs:List Bool):(List.range bs.length).all (λi=>bs.getD i true)=bs.all id:=by
 rw[Zci];simp only[Zaq,Za2,id];constructor
 ·intro h x hx;obtain⟨i,hi,rfl⟩:=ZbO.mp hx;have:=h i hi;simpa[Zav,hi] using this
 ·intro h i hi;have:=h bs[i] (ZbJ hi);simpa[Zav,hi] using this
theorem N5(hc:X.calm=true):m8 X (.builtin "all") (λxs H Q=>∃ (p:Addr) (bs:List Bool),xs=[.ref p]/\SqL X.K H p (bs.map V.bl)/\Q (.bl (bs.all id)) H):=by
 intro pins s σ H xs us Q I rv h;obtain⟨p,bs,rfl,hq,q⟩:=h;obtain⟨u,rfl,ru⟩:=rv.one;cases ru;obtain⟨its,r,pl,hz⟩:=I.list hq;have ln:=r.length;rw[Zac] at ln;refine call_all_walk (wpAny_pyIter_list pl.isList ?_);have hne:p≠s.heap.objs.size:=by
  obtain⟨o,n,e,_⟩:=pl;exact Zaz (Zak e)
 refine⟨s.heap.objs.size,_,_,_,_,_,λi=>bs.getD i true,rfl,Walks.list (A:=X.A.in1) (I.ok.hd hc) s.heap.objs.size p hne its.toArray,⟨⟨_,Zat _ rfl,rfl,rfl⟩,pl.isList.at λo e=>Zae _ e⟩,?_,λh' tk kk=>?_⟩
 ·intro i v s' Q' E' hP hQ;have hP':its.toArray[i]?=some v:=hP;rw[ZbF] at hP';have hi:i<its.length:=(Zas.mp hP').1;have hb:(bs.map V.bl)[i]?=some (V.bl (bs.getD i true)):=by
   rw[Zaf,Zad (by omega)]
   simp[Zav,show i<bs.length by omega]
  obtain⟨u,hu,ru⟩:=r.get hb;rw[hP'] at hu;cases hu;cases ru;exact wpAny_truthy_bool hQ
 ·have en:(List.range its.toArray.size).all (λi=>bs.getD i true)=bs.all id:=by
   rw[List.size_toArray,<-ln];exact all_range bs
  rw[en];refine⟨.bl _,H,?_,rfl,q⟩;refine I.kept λb o e=>kk b o ?_ (Zae _ e);simp;exact Zaz (Zak e)
theorem K7:OpR X (compareOp .LtE) (λx y H Q=>∃ i j,x=.str i/\y=.str j/\Q (.bl (!(decide (j.cps.toList<i.cps.toList)))) H):=by
 intro pins s σ H x y v u Q I rx ry h;obtain⟨i,j,rfl,rfl,q⟩:=h;obtain⟨t,rfl⟩:=rx;obtain⟨t',rfl⟩:=ry;exact PySem.P.le_str (Hb I q rfl)
def W4:V->Option Int->Option Int->Hp->VK->Prop:=λx lo hi H Q=>∃ z,x=.str z/\z.length<=sizeLine/\Q (.str (Txt.slice z lo hi)) H
theorem vU:SlR X W4:=by
 intro pins s σ H x v vl vu lo hi sl Q I rx hs pl pu h;obtain⟨z,rfl,hz,q⟩:=h;obtain⟨t,rfl⟩:=rx;obtain⟨o,e,c,d⟩:=hs;refine⟨"str",_,F.slot_str_getitem.lookup,typeIs_str _ _ _,?_⟩;have fin:∀ t' k,EP X pins σ Q (.str (Txt.slice z lo hi) t') { s with toks:=k }:=λt' k=>⟨.str _,H,I.tok _,⟨t',rfl⟩,q⟩;cases pl with
 |none=>
  cases pu with
  |none=>exact wpAny_getItem_str_slice (l:=none) (u:=none) (st:=none) ⟨o,e,c,d⟩ rfl (post_val_or_str ⟨ZaE (Txt.slice_le z _ _) hz,fin⟩)
  |int j u=>exact wpAny_getItem_str_slice (l:=none) (u:=some (j,u)) (st:=none) ⟨o,e,c,d⟩ rfl (post_val_or_str ⟨ZaE (Txt.slice_le z _ _) hz,fin⟩)
 |int i t2=>
  cases pu with
  |none=>exact wpAny_getItem_str_slice (l:=some (i,t2)) (u:=none) (st:=none) ⟨o,e,c,d⟩ rfl (post_val_or_str ⟨ZaE (Txt.slice_le z _ _) hz,fin⟩)
  |int j u=>exact wpAny_getItem_str_slice (l:=some (i,t2)) (u:=some (j,u)) (st:=none) ⟨o,e,c,d⟩ rfl (post_val_or_str ⟨ZaE (Txt.slice_le z _ _) hz,fin⟩)
end
structure cI(K:PySem.W.Frag)(mg:Str->Option Value)(x:Str)(st:Stmt)(ps:List Str):Prop where
 ex:∃ (f:Addr) (fd:FuncData),mg x=some (.ref f)/\Fun K x x st f fd/\Binds K fd ps []
def FnAt(P:Program)(w:World)(K:PySem.W.Frag)(mg:Str->Option Value)(base:Heap)(x:Str)(k:Nat)(ps:List Str)(sp:Sp):Prop:=
 ∃ (f:Addr) (fd:FuncData),mg x=some (.ref f)/\keepIn K (.ref f)=true/\Binds K fd ps []/\iU P w K mg base CX0 k f fd ps sp
theorem cI.ok{P:Program}{w:World}{K:PySem.W.Frag}{mg:Str->Option Value}{base:Heap}{x:Str}{st:Stmt}{ps N:List Str}{k:Nat}{sp:Sp}(D:cI K mg x st ps)(S:aU N ps (aM st))(len:∀ vs H Q E,sp vs H Q E->vs.length=ps.length)
  (hbody:∀ (f:Addr) (cdv:Value) (A:Around) (outer:List Env) (s:Shared) (H:Hp) (vs:List V) (Q:VK) (E:XK),cU k (A.deeper (envOfC x (aM st) s.heap.objs.size f cdv))->sp vs H Q E ->
   ∃ t,PSs (uZ CX0 P w K mg base N x (aM st) f cdv A outer s H E).nox (gA st) t/\t { nx:=λ_ H'=>Q .non H',rt:=Q } (start N vs) H):FnAt P w K mg base x (k+1) ps sp:=by
 obtain⟨f,fd,e,F,b⟩:=D.ex;exact⟨f,fd,e,F.kp,b,F.ok S len λcdv A outer s H vs Q E=>hbody f cdv A outer s H vs Q E⟩
section
variable{X:Cx}{k:Nat}{ps:List Str}{sp:Sp}{x:Str}{p pos:Pos}{e:Expr}{es:List Expr}{t:TA}
theorem aQ(G:FnAt X.prog X.w X.K X.mg X.base x k ps sp)(hr:cU k X.A)(hg:Gl X x)(ha:PA X (e::es) t)(hdb:(x==("__debug__":Str))=false:=by decide)
  (he:starEach (e::es) X.env=(false,eval e X.env)::starEach es X.env:=by rfl)(hpl:(backTo pos (starEach es X.env)).any (·.1)=false:=by rfl):PE X (.Call (.Name x p) (e::es) [] pos) (m9 sp [] E0 t):=by
 obtain⟨f,fd,e1,e2,e3,e4⟩:=G;exact Js e4 hr hg e1 e2 e3 .nil Ue ha hdb he hpl
end
section
variable{X:Cx}{N:List Str}{scope:Scope}{cl:List (Str×Addr)}{C:Addr}{s2:Shared}{H2:Hp}{fp:List Addr}{x:Str}{pos:Pos}
theorem pvl(i:Nat)(hN:N[i]?=some x:=by rfl)(hv:scope.names.lookup x=some .local:=by rfl)(hd:(x==("__debug__":Str))=false:=by decide)(hcd:(x==("__classdict__":Str))=false:=by decide) :
  PE (X.comp N scope cl C s2 H2 fp) (.Name x pos) (my i):=GJ hN (.inl (jo (by decide) hv)) hd hcd
theorem pvf(i:Nat)(hN:N[i]?=some x:=by rfl)(hv:scope.names.lookup x=some .free:=by rfl)(hd:(x==("__debug__":Str))=false:=by decide)(hcd:(x==("__classdict__":Str))=false:=by decide) :
  PE (X.comp N scope cl C s2 H2 fp) (.Name x pos) (my i):=GJ hN (.inr (rJ hv)) hd hcd
theorem glc(h:scope.names.lookup x=some .globalImplicit):Gl (X.comp N scope cl C s2 H2 fp) x:=jo (by decide) h
theorem eU{i:Nat}(hN:N.Nodup)(hi:N[i]?=some x)(hx:scope.names.lookup x=some .local):PG (X.comp N scope cl C s2 H2 fp) (.Name x pos) (lD i):=
 dq hN hi (.inl (jo (by decide) hx)) (.inr (jo (by decide) hx))
end
section
variable{X:Cx}{x:Str}{i:Int}{z:Str}{pos:Pos}
theorem W5(hg:Gl X x)(h:∃ t,X.mg x=some (.int i t))(hd:(x==("__debug__":Str))=false:=by decide):PE X (.Name x pos) (tC (.int i)):=by
 obtain⟨t,h⟩:=h;exact Ab hg h ⟨t,rfl⟩ hd
theorem Uh(hg:Gl X x)(h:∃ t,X.mg x=some (.str z t))(hd:(x==("__debug__":Str))=false:=by decide):PE X (.Name x pos) (tC (.str z)):=by
 obtain⟨t,h⟩:=h;exact Ab hg h ⟨t,rfl⟩ hd
theorem N6{n:String}(hg:Gl X x)(hm:X.mg x=none)(hv:bootBuiltins x=some (.type n))(hn:x≠"__name__":=by decide)(hd:(x==("__debug__":Str))=false:=by decide):PE X (.Name x pos) (tC (.ty n)):=
 Ri hg hm hv rfl hn hd
end
theorem tyL{K:PySem.W.Frag}{H:Hp}{p:Addr}{xs:List V}(h:H p=some (.lst xs)):tyV K "list" (.ref p) H:=.inl ⟨rfl,xs,SqL.of h⟩
theorem gk{H:Hp}{p:Addr}{o:HO}(h:H p=none):aL H (upd H p o):=λb u e=>by rw[aK (bO e h)];exact e
theorem t6{H H1:Hp}{p:Addr}{o:HO}(h:H p=none)(s:aL H H1):aL H (upd H1 p o):=λb u e=>by rw[aK (bO e h)];exact s b u e
theorem aL.tup{K:PySem.W.Frag}{H H':Hp}{a:Addr}{xs:List V}(e:aL H H')(h:SqT K H a xs):SqT K H' a xs:=by
 rcases h with(h|⟨o,h⟩)|h
 ·exact .inl (.inl (e _ _ h))
 ·exact .inl (.inr ⟨o,e _ _ h⟩)
 ·exact .inr h
theorem vV{α:Type}{xs:List α}{i:Int}(h0:0<=i)(h:i<xs.length):∃ v,atI xs i=some v/\xs[i.toNat]?=some v:=by
 have hl:i.toNat<xs.length:=by lia
 refine⟨xs[i.toNat],?_,by simp[hl]⟩
 have:=jn (xs:=xs) (j:=i.toNat) (v:=xs[i.toNat]) (by simp[hl])
 rwa [Zbs h0] at this
theorem tyS{K:PySem.W.Frag}{H:Hp}{z:Str}:tyV K "str" (.str z) H:=rfl
theorem N7{K:PySem.W.Frag}{T:String}:PySem.W.kitOne K (.type T) (.type T)=some true:=by
 unfold PySem.W.kitOne;rw[Zag (by simp)]
def Yb(J:It)(g:TG)(tb:TS)(D:Ends)(σ:St)(H:Hp):Prop:=∃ W:Nat->Nat->St->Hp->Prop,(∃ m,W 0 m σ H)/\∀ i m σ H,W i m σ H ->
 (J.stop i H/\D.nx σ H)\/(J.go i H/\∃ N:St->Hp->Prop,(∀ σ' H',N σ' H'->∃ m',m'<m/\W (i+1) m' σ' H')/\∀ x H',J.yld i H x H'->g x σ H' λσ2 H2=>tb { D with nx:=N,ct:=N,bk:=D.nx } σ2 H2)
def SameBut(p:Addr)(H H':Hp):Prop:=∀ b o,H b=some o->b≠p->H' b=some o
section
variable{X:Cx}{N:List Str}{scope:Scope}{cl:List (Str×Addr)}{C:Addr}{s2:Shared}{H2:Hp}{fp:List Addr}
theorem RQ{es:List Expr}{k:Nat}{t:TGs}{n:Nat}{pos:Pos}(hc:X.calm=true)(h:PGs (X.comp N scope cl C s2 H2 fp) es t)
  (hn:(assignEach es (X.comp N scope cl C s2 H2 fp).env).length=n:=by rfl)(hst:(assignEach es (X.comp N scope cl C s2 H2 fp).env).findIdx? (·.1)=none:=by rfl):PG (X.comp N scope cl C s2 H2 fp) (.Tuple es k pos) (Rj X.K n t):=Ad hc h hn hst
end
section
theorem rK{xs:List V}{its:List Value}(r:Vals xs its){j:Nat}(h:j<its.toArray.size):∃ x,xs[j]?=some x/\RelV x its.toArray[j]:=by
 have hl:j<its.length:=by simpa using h
 have hx:j<xs.length:=by rw[r.length];exact hl
 obtain⟨u,hu,ru⟩:=r.get (i:=j) (x:=xs[j]) (by simp[hx])
 refine⟨xs[j],by simp[hx],?_⟩
 have:its.toArray[j]=u:=by
  rw[Zad hl] at hu;simpa using hu
 rw[this];exact ru
end
section
variable{k:Nat}
theorem Ho{A:Around}(hr:cU k A):A.units+32<cLine:=Zb1 (Nat.add_le_add_left (by decide:32<=64) _) hr.units
end
section
variable{κ:Type}[DecidableEq κ]
def mG(kvs:List (κ×V))(k:κ):Option V:=(kvs.find? λkv=>decide (kv.1=k)).map (·.2)
def putK(kvs:List (κ×V))(k:κ)(v:V):List (κ×V):=
 if(kvs.any λkv=>decide (kv.1=k))=true then kvs.map (λkv=>if kv.1=k then(kv.1,v) else kv) else kvs++[(k,v)]
def zb(kvs:List (κ×V))(k:κ):List (κ×V):=kvs.filter λkv=>decide (kv.1≠k)
theorem lF{p:κ×V}{r:List (κ×V)}{k:κ}(e:p.1=k):mG (p::r) k=some p.2:=by simp[mG,Zbm,e]
theorem iV{p:κ×V}{r:List (κ×V)}{k:κ}(e:¬p.1=k):mG (p::r) k=mG r k:=by simp[mG,Zbm,e]
theorem vW(k:κ):∀ kvs:List (κ×V),(kvs.any λkv=>decide (kv.1=k))=(mG kvs k).isSome
 |[]=>rfl
 |p::r=>by
  rw[Zbw];by_cases e:p.1=k
  ·simp only[lF e,ZaT e,Bool.true_or,Option.isSome_some]
  ·rw[iV e,ZaC e,Bool.false_or];exact vW k r
theorem uL(kvs:List (κ×V))(k:κ)(v:V):(putK kvs k v).length<=kvs.length+1:=by
 unfold putK;split
 ·rw[Zac];omega
 ·rw[Zau,ZaB,List.length_nil];omega
theorem Dt{kvs:List (κ×V)}{k:κ}(v:V)(h:mG kvs k=none):putK kvs k v=kvs++[(k,v)]:=by
 unfold putK;rw[vW,h];exact Zal (by decide)
theorem kO.lG{o:Option V}{u:Option Value}(r:kO o u):o.isSome=u.isSome:=by
 cases o with
 |none=>cases u with
  |none=>rfl
  |some _=>exact(show False from r).elim
 |some _=>cases u with
  |none=>exact(show False from r).elim
  |some _=>rfl
theorem kO.getD{o:Option V}{u:Option Value}{d:V}{d':Value}(r:kO o u)(rd:RelV d d'):RelV (o.getD d) (u.getD d'):=by
 cases o with
 |none=>cases u with
  |none=>exact rd
  |some _=>exact(show False from r).elim
 |some _=>cases u with
  |none=>exact(show False from r).elim
  |some _=>exact r
theorem KV.val{kvs:List (κ×V)}{vs:List (κ×Value)}(r:KV kvs vs)(k:κ):kO (mG kvs k) (valueAt vs k):=by
 unfold KV at r;induction r with
 |nil=>exact True.intro
 |@cons p q ps qs h t ih=>
  obtain⟨h1,h2⟩:=h;by_cases e:p.1=k
  ·have e':q.1=k:=h1.symm.trans e;have b:valueAt (q::qs) k=some q.2:=by simp[valueAt,Zbm,e']
   rw[lF e,b];exact h2
  ·have e':¬q.1=k:=λz=>e (h1.trans z);have b:valueAt (q::qs) k=valueAt qs k:=by simp[valueAt,Zbm,e']
   rw[iV e,b];exact ih
theorem KV.any{kvs:List (κ×V)}{vs:List (κ×Value)}(r:KV kvs vs)(k:κ):(kvs.any λkv=>decide (kv.1=k))=vs.any λkv=>decide (kv.1=k):=by
 unfold KV at r;induction r with
 |nil=>rfl
 |cons h t ih=>rw[Zbw,Zbw,ih,h.1]
theorem KV.repl{kvs:List (κ×V)}{vs:List (κ×Value)}(r:KV kvs vs)(k:κ){y:V}{u:Value}(ry:RelV y u) :
  KV (kvs.map λkv=>if kv.1=k then(kv.1,y) else kv) (vs.map λkv=>if kv.1=k then(kv.1,u) else kv):=by
 unfold KV at r ⊢;induction r with
 |nil=>exact .nil
 |@cons p q ps qs h t ih=>
  rw[Zao,Zao];refine .cons ?_ ih;obtain⟨h1,h2⟩:=h;by_cases e:p.1=k
  ·rw[Zag e,Zag (h1.symm.trans e)];exact⟨h1,ry⟩
  ·rw[Zal e,Zal (λz=>e (h1.trans z))];exact⟨h1,h2⟩
theorem KV.put{kvs:List (κ×V)}{vs:List (κ×Value)}(r:KV kvs vs)(k:κ){y:V}{u:Value}(ry:RelV y u):KV (putK kvs k y) (stored vs k u):=by
 unfold putK stored;rw[r.any k];by_cases e:(vs.any λkv=>decide (kv.1=k))=true
 ·rw[Zag e,Zag e];exact r.repl k ry
 ·rw[Zal e,Zal e];exact Paired.snoc r ⟨rfl,ry⟩
theorem KV.drop{kvs:List (κ×V)}{vs:List (κ×Value)}(r:KV kvs vs)(k:κ):KV (zb kvs k) (without vs k):=by
 unfold KV at r ⊢;unfold zb without;induction r with
 |nil=>exact .nil
 |@cons p q ps qs h t ih=>
  obtain⟨h1,h2⟩:=h;rw[Za3,Za3];by_cases e:p.1=k
  ·have a:¬decide (p.1≠k)=true:=by simp[e]
   have b:¬decide (q.1≠k)=true:=by simp[h1.symm.trans e]
   rw[Zal a,Zal b];exact ih
  ·have e':¬q.1=k:=λz=>e (h1.trans z);have a:decide (p.1≠k)=true:=by simp[e]
   have b:decide (q.1≠k)=true:=by simp[e']
   rw[Zag a,Zag b];exact .cons ⟨h1,h2⟩ ih
theorem KV.keys{kvs:List (κ×V)}{vs:List (κ×Value)}(r:KV kvs vs):kvs.map (·.1)=vs.map (·.1):=by
 unfold KV at r;induction r with
 |nil=>rfl
 |cons h t ih=>rw[Zao,Zao,ih,h.1]
theorem KV.length{kvs:List (κ×V)}{vs:List (κ×Value)}(r:KV kvs vs):kvs.length=vs.length:=Paired.length r
theorem N8(kvs:List (κ×V))(k:κ):(zb kvs k).length<=kvs.length:=List.length_filter_le _ _
end
theorem vX{P:Program}{w:World}{k:Key}{u:Value}(r:RelV (kV k) u):(cF P w).is k u=true:=by
 cases k with
 |inl i=>obtain⟨t,e⟩:=(show ∃ t,u=Value.int i t from r);subst e;exact Dl P w i t
 |inr x=>obtain⟨t,e⟩:=(show ∃ t,u=Value.str x t from r);subst e;exact Dm P w x t
theorem zc{P:Program}{w:World}:∀ {ks:List Key}{us:List Value},Vals (ks.map kV) us->ItemsAre (cF P w) ks us
 |[],_,r=>by rw[List.map_nil] at r;cases r;exact .nil
 |k::ks,_,r=>by
  rw[Zao] at r;cases r with
  |cons h t=>exact .cons (vX h) (zc t)
noncomputable abbrev KT(H:Hp):List (List Key×V)->List (List Key×Addr×Value)->Prop:=Paired λp q=>p.1=q.1/\H q.2.1=some (.tup (p.1.map kV))/\RelV p.2 q.2.2
theorem KT.val{H:Hp}{kvs:List (List Key×V)}{xs:List (List Key×Addr×Value)}(r:KT H kvs xs)(k:List Key):kO (mG kvs k) ((atKey xs k).map (·.2)):=by
 induction r with
 |nil=>exact True.intro
 |@cons p q ps qs h t ih=>
  obtain⟨h1,_,h2⟩:=h;by_cases e:p.1=k
  ·have e':q.1=k:=h1.symm.trans e;have b:atKey (q::qs) k=some q.2:=by simp[atKey,Zbm,e']
   rw[lF e,b];exact h2
  ·have e':¬q.1=k:=λz=>e (h1.trans z);have b:atKey (q::qs) k=atKey qs k:=by simp[atKey,Zbm,e']
   rw[iV e,b];exact ih
theorem KT.repl{H:Hp}{kvs:List (List Key×V)}{xs:List (List Key×Addr×Value)}(r:KT H kvs xs)(k:List Key){y:V}{u:Value}(ry:RelV y u) :
  KT H (kvs.map λkv=>if kv.1=k then(kv.1,y) else kv) (xs.map (putAt k u)):=by
 induction r with
 |nil=>exact .nil
 |@cons p q ps qs h t ih=>
  rw[Zao,Zao];refine .cons ?_ ih;obtain⟨h1,h2,h3⟩:=h;unfold putAt;by_cases e:p.1=k
  ·rw[Zag e,Zag (h1.symm.trans e)];exact⟨h1,h2,ry⟩
  ·rw[Zal e,Zal (λz=>e (h1.trans z))];exact⟨h1,h2,h3⟩
theorem KT.put{H:Hp}{kvs:List (List Key×V)}{xs:List (List Key×Addr×Value)}(r:KT H kvs xs)(k:List Key){b:Addr}{y:V}{u:Value}(hb:H b=some (.tup (k.map kV)))(ry:RelV y u) :
  KT H (putK kvs k y) (storedH xs k b u):=by
 have e:(kvs.any λkv=>decide (kv.1=k))=(atKey xs k).isSome:=by
  rw[vW,(r.val k).lG,Zb8]
 unfold putK storedH;rw[e];by_cases q:(atKey xs k).isSome=true
 ·rw[Zag q,Zag q];exact r.repl k ry
 ·rw[Zal q,Zal q];exact Paired.snoc r ⟨rfl,hb,ry⟩
theorem KT.keeps{H H':Hp}{kvs:List (List Key×V)}{xs:List (List Key×Addr×Value)}(r:KT H kvs xs)(ht:∀ b ys,H b=some (.tup ys)->H' b=some (.tup ys)):KT H' kvs xs:=
 Paired.Va r λ_ _ z=>⟨z.1,ht _ _ z.2.1,z.2.2⟩
section
variable{P:Program}{w:World}{H:Hp}{h:Heap}{a:Addr}
theorem Ui{u:HO}(ok:HOk P w H h)(e:Rd H a u):dB P w H h a u:=e.ok ok
theorem rM{kvs:List (Key×V)}(ok:HOk P w H h)(e:Rd H a (.dK kvs)):kvs.length<=sizeLine/\(a==sysModules)=false/\∃ vs,KV kvs vs/\h.DictOf (cF P w) a vs:=
 show dB P w H h a (.dK kvs) from Ui ok e
theorem Uj{kvs:List (Key×V)}(ok:HOk P w H h)(e:H a=some (.dK kvs)):kvs.length<=sizeLine/\(a==sysModules)=false/\∃ vs,KV kvs vs/\h.DictOf (cF P w) a vs:=rM ok (.inl e)
theorem kW{ks:List Key}(ok:HOk P w H h)(e:H a=some (.tup (ks.map kV))):(tupleKind (cF P w)).is h ks a:=by
 obtain⟨_,its,r,⟨o,h1,h2,n,h3⟩,_⟩:=(show dB P w H h a (.tup (ks.map kV)) from ok a _ e);exact⟨o,its.toArray,n,h1,h2,h3,by simpa using zc r⟩
theorem vY{kvs:List (List Key×V)}(ok:HOk P w H h)(e:Rd H a (.dT kvs)):kvs.length<=sizeLine/\(a==sysModules)=false /\
  ∃ xs,KT H kvs xs/\h.DictOfH (tupleKind (cF P w)) a xs:=by
 obtain⟨z,y,xs,r,o,es,ep,h1,h2,h3,h4,h5⟩:=(show dB P w H h a (.dT kvs) from Ui ok e);refine⟨z,y,xs,r,o,es,ep,h1,h2,h3,h4,λx hx=>?_,h5⟩;have all:∀ {l:List (List Key×V)}{m:List (List Key×Addr×Value)},KT H l m->∀ x∈m,(tupleKind (cF P w)).is h x.1 x.2.1:=by
  intro l m q;induction q with
  |nil=>intro x hx;exact nomatch hx
  |@cons p q ps qs hq t ih=>
   intro x hx;rcases ZaJ.mp hx with e|hx
   ·subst e;exact kW ok (by rw[<-hq.1];exact hq.2.1)
   ·exact ih x hx
 exact all r x hx
theorem W6{kvs:List (List Key×V)}(ok:HOk P w H h)(e:H a=some (.dT kvs)):kvs.length<=sizeLine/\(a==sysModules)=false /\
  ∃ xs,KT H kvs xs/\h.DictOfH (tupleKind (cF P w)) a xs:=vY ok (.inl e)
end
def rN(H:Hp)(a:Addr)(y:V)(r:Option V):Prop:=
 (∃ kvs k,Rd H a (.dK kvs)/\y=kV k/\r=mG kvs k)\/∃ kvs k b,Rd H a (.dT kvs)/\y=.ref b/\H b=some (.tup (k.map kV))/\r=mG kvs k
def K8(H:Hp)(a:Addr)(y v:V)(H':Hp):Prop:=
 (∃ kvs k,H a=some (.dK kvs)/\y=kV k/\kvs.length<sizeLine/\H'=upd H a (.dK (putK kvs k v))) \/
 ∃ kvs k b,H a=some (.dT kvs)/\y=.ref b/\H b=some (.tup (k.map kV))/\kvs.length<sizeLine/\H'=upd H a (.dT (putK kvs k v))
theorem K8.k{H:Hp}{a:Addr}{kvs:List (Key×V)}{k:Key}{v:V}(e:H a=some (.dK kvs))(hl:kvs.length<sizeLine):K8 H a (kV k) v (upd H a (.dK (putK kvs k v))):=.inl ⟨kvs,k,e,rfl,hl,rfl⟩
section
variable{X:Cx}{pins:List (Addr×Obj)}{σ:St}{H:Hp}{s:Shared}{a:Addr}{y v:V}{u r:Value}{o:Option V}{A:Around}{E:Value->Shared->Prop}
theorem Inv.big(I:Inv X pins σ H s):sysModules<s.heap.objs.size:=by
 have h:mainGlobals<s.heap.objs.size:=(I.mod.glob.keeps I.bk).lt;exact Nat.lt_trans (by decide) h
theorem K9{Q:Value->Shared->Prop}(hu:A.units+1<cLine)(I:Inv X pins σ H s)(g:rN H a y (some v))(ry:RelV y u)(h:∀ w' s',Inv X pins σ H s'->RelV v w'->Q w' s') :
  wpAny (model X.prog X.w) A (getItem (.ref a) u) Q E s:=by
 rcases g with⟨kvs,k,e,ey,l⟩|⟨kvs,k,b,e,ey,eb,l⟩
 ·subst ey;obtain⟨z,hd,vs,rel,dd⟩:=rM I.hok e;obtain⟨w',hw,rw'⟩:=kO.some_of (v:=v) (o:=valueAt vs k) (by rw[l];exact rel.val k)
  exact wpAny_getItem_of (vX ry) dd.mapOf hw (h w' _ (I.tok _) rw')
 ·subst ey;cases (show u=Value.ref b from ry);obtain⟨z,hd,xs,rel,dd⟩:=vY I.hok e;obtain⟨w',hw,rw'⟩:=kO.some_of (v:=v) (o:=(atKey xs k).map (·.2)) (by rw[l];exact rel.val k)
  obtain⟨p,hp,hp2⟩:=ZaD.mp hw;refine wpAny_getItem_heap (tupleKind_room_in1 hu) (kW I.hok eb) dd hp ?_;rw[hp2];exact h w' _ (I.tok _) rw'
theorem Yc{Q:Value->Shared->Prop}(hu:A.units+1<cLine)(I:Inv X pins σ H s)(g:rN H a y o)(ry:RelV y u)(h:∀ s',Inv X pins σ H s'->Q (.bool o.isSome) s') :
  wpAny (model X.prog X.w) A (compareOp .In u (.ref a)) Q E s:=by
 rcases g with⟨kvs,k,e,ey,l⟩|⟨kvs,k,b,e,ey,eb,l⟩
 ·subst ey;obtain⟨z,hd,vs,rel,dd⟩:=rM I.hok e;refine wpAny_in_of (vX ry) hd dd.mapOf ?_;rw[<-(rel.val k).lG,<-l];exact h _ (I.tok _)
 ·subst ey;cases (show u=Value.ref b from ry);obtain⟨z,hd,xs,rel,dd⟩:=vY I.hok e;refine wpAny_in_heap (tupleKind_room_in1 hu) (kW I.hok eb) hd dd ?_;have q:=(rel.val k).lG;rw[Zb8] at q;rw[<-q,<-l];exact h _ (I.tok _)
theorem RT{Q:Value->Shared->Prop}(hu:A.units+1<cLine)(I:Inv X pins σ H s)(g:rN H a y o)(ry:RelV y u)(h:∀ s',Inv X pins σ H s'->Q (.bool (!o.isSome)) s') :
  wpAny (model X.prog X.w) A (compareOp .NotIn u (.ref a)) Q E s:=by
 rcases g with⟨kvs,k,e,ey,l⟩|⟨kvs,k,b,e,ey,eb,l⟩
 ·subst ey;obtain⟨z,hd,vs,rel,dd⟩:=rM I.hok e;refine wpAny_notIn_of (vX ry) hd dd.mapOf ?_;rw[<-(rel.val k).lG,<-l];exact h _ (I.tok _)
 ·subst ey;cases (show u=Value.ref b from ry);obtain⟨z,hd,xs,rel,dd⟩:=vY I.hok e;refine wpAny_notIn_heap (tupleKind_room_in1 hu) (kW I.hok eb) hd dd ?_;have q:=(rel.val k).lG;rw[Zb8] at q;rw[<-q,<-l];exact h _ (I.tok _)
theorem Ak{h':Heap}{t':Nat}{ob:HO}(I:Inv X pins σ H s)(mu:Mut (H a))(hs:Heap.SameBut a s.heap h')(he:∃ q,h'.get? a=some q)(new:dB X.prog X.w (upd H a ob) h' a ob) :
  Inv X pins σ (upd H a ob) { s with heap:=h',toks:=t' }:=
 I.write (x:=a) (e:=a) mu (.inl rfl) (λb q hb z=>(hs.2 b hb).trans z) he new
theorem Oa{P:Program}{w:World}{H':Hp}{h':Heap}{kvs:List (Key×V)}{vs:List (Key×Value)}(z:kvs.length<=sizeLine)(hd:(a==sysModules)=false)(rel:KV kvs vs)(dd:h'.DictOf (cF P w) a vs) :
  dB P w H' h' a (.dK kvs):=⟨z,hd,vs,rel,dd⟩
theorem La{H':Hp}{Q:Unit->Shared->Prop}(hu:A.units+1<cLine)(I:Inv X pins σ H s)(g:K8 H a y v H')(ry:RelV y u)(rv:RelV v r)(h:∀ s',Inv X pins σ H' s'->Q () s') :
  wpAny (model X.prog X.w) A (setItem (.ref a) u r) Q E s:=by
 rcases g with⟨kvs,k,e,ey,l,eH⟩|⟨kvs,k,b,e,ey,eb,l,eH⟩
 ·subst ey eH;obtain⟨z,hd,vs,rel,dd⟩:=Uj I.hok e;have hz:vs.length<=sizeLine:=by rw[<-rel.length];exact z
  have hl:(putK kvs k v).length<=sizeLine:=by have:=uL kvs k v;lia
  refine wpAny_setItem_pairs (hsz:=hz) (vX ry) dd λh' dd' hs=>h _ ?_;have he:∃ q,h'.get? a=some q:=let⟨q,_,_,hq,_⟩:=dd';⟨q,hq⟩;exact Ak I (by rw[e];exact True.intro) hs he (Oa hl hd (rel.put k rv) dd')
 ·subst ey eH;cases (show u=Value.ref b from ry);obtain⟨z,hd,xs,rel,dd⟩:=W6 I.hok e;have hz:xs.length<=sizeLine:=by rw[<-Paired.length rel];exact z
  have hl:(putK kvs k v).length<=sizeLine:=by have:=uL kvs k v;lia
  refine wpAny_setItem_heap (hsz:=hz) (tupleKind_room_in1 hu) (kW I.hok eb) dd λh' dd' hs=>h _ ?_;obtain⟨q,es,ep,hq,h2,h3,h4,_,h5⟩:=dd';refine Ak I (by rw[e];exact True.intro) hs ⟨q,hq⟩ ⟨hl,hd,_,(rel.put k eb rv).keeps λc ys ec=>?_,q,es,ep,hq,h2,h3,h4,h5⟩
  rw[aK (Wv ec e (λz=>nomatch z))];exact ec
end
section
variable{X:Cx}{pins:List (Addr×Obj)}{σ:St}{H:Hp}{s:Shared}{a:Addr}{kvs:List (Key×V)}{k:Key}{u:Value}{A:Around}{E:Value->Shared->Prop}
theorem W7{v:V}{more:List Value}{Q:Value->Shared->Prop}(I:Inv X pins σ H s)(e:H a=some (.dK kvs))(ry:RelV (kV k) u)(l:mG kvs k=some v)(hm:more=[]\/∃ x,more=[x])
  (h:∀ w' s',Inv X pins σ (upd H a (.dK (zb kvs k))) s'->RelV v w'->Q w' s'):wpAny (model X.prog X.w) A (call (.builtin "dict.pop") (.ref a::u::more)) Q E s:=by
 obtain⟨z,hd,vs,rel,dd⟩:=Uj I.hok e;obtain⟨w',hw,rw'⟩:=kO.some_of (v:=v) (o:=valueAt vs k) (by rw[<-l];exact rel.val k)
 have hp:(keyPart u).isSome=true:=by
  cases k with
  |inl i=>obtain⟨t,q⟩:=(show ∃ t,u=Value.int i t from ry);subst q;rfl
  |inr x=>obtain⟨t,q⟩:=(show ∃ t,u=Value.str x t from ry);subst q;rfl
 have ha:argsOk "dict.pop" ⟨.ref a::u::more,[]⟩:=by
  rcases hm with q|⟨x,q⟩
  ·subst q;exact PySem.F.args_dict_pop_2 _ _
  ·subst q;exact PySem.F.args_dict_pop_3 _ _ _
 refine call_meetsIn PySem.F.slot_dict_pop dd.typeIs PySem.F.entry_dict_pop ha (meets_dict_pop_there (cF X.prog X.w) a (vX ry) more hm hp)
  ⟨vs,w',dd,by rw[<-rel.length];exact z,hw,λh' dd' hs=>h w' _ ?_ rw'⟩
 have he:∃ q,h'.get? a=some q:=let⟨q,_,_,hq,_⟩:=dd';⟨q,hq⟩;exact Ak I (by rw[e];exact True.intro) hs he (Oa (ZaE (N8 kvs k) z) hd (rel.drop k) dd')
end
def RV(i:Expr):Prop:=∀ ov iv,subscripted i false ov iv=operate [ov,iv] (getItem ov iv)
theorem RW{prog:Program}{w:World}{A:Around}{E:Value->Shared->Prop}{s:Shared}{env:Env}{value slice:Expr}{pos:Pos}{T id:String}{Q:Value->Shared->Prop}
  (hl:typeLookup (.type T) "__getitem__"=pure (some (.builtin id)))(hs:RV slice)
  (h:wpAny (model prog w) A (eval value env) (λo s₁=>wpAny (model prog w) A (eval slice env) (λi s₂=>s₂.TypeIs o T/\wpAny (model prog w) A (getItem o i) Q E s₂) E s₁) E s) :
  wpAny (model prog w) A (eval (.Subscript value slice pos) env) Q E s:=by
 refine Subscript_ (ZaK h (λo s₁ h₁=>ZaK h₁ (λi s₂ h₂=>?_) λ_ _ x=>x) λ_ _ x=>x);obtain⟨hT,h₂⟩:=h₂;unfold subscriptTail;refine Zai ?_;rw[getitemInPython_of_ne hT.not_modules];refine Zai (wpAny_specialOf hT hl ?_);have fin:wpAny (model prog w) A (subscripted slice false o i) (λr s₃=>wpAny (model prog w) A (letTemporaryGo value o r>>=λ_=>pure r) Q E s₃) E s₂:=by
  rw[hs o i];exact wpAny_operating (ZaK h₂ (λr s₃ h₃=>Zai (wpAny_letTemporaryGo (Zay h₃))) λ_ _ x=>x)
 first
  |exact Zay (Zai fin)
  |exact Zai (Zay (Zai fin))
  |exact Zai fin
theorem Du{X:Cx}{pins:List (Addr×Obj)}{σ:St}{H:Hp}{s:Shared}{a:Addr}{y:V}{o:Option V}(I:Inv X pins σ H s)(g:rN H a y o):s.TypeIs (.ref a) "dict":=by
 rcases g with⟨kvs,k,e,_,_⟩|⟨kvs,k,b,e,_,_,_⟩
 ·obtain⟨_,_,vs,_,dd⟩:=rM I.hok e;exact dd.typeIs
 ·obtain⟨_,_,xs,_,dd⟩:=vY I.hok e;exact dd.typeIs
def Jw(td ty:TE):TE:=λσ H Q=>td σ H λx H1=>ty σ H1 λy H2=>∃ a v,x=.ref a/\rN H2 a y (some v)/\Q v H2
def Ob(td ty tv:TE):TS:=λD σ H=>tv σ H λv H1=>td σ H1 λx H2=>ty σ H2 λy H3=>∃ a H4,x=.ref a/\K8 H3 a y v H4/\D.nx σ H4
section
variable{X:Cx}{o i value:Expr}{pos pos':Pos}{td ty tv:TE}
theorem Jx(hu:X.A.units+1<cLine)(ho:PE X o td)(hi:PE X i ty)(hs:RV i):PE X (.Subscript o i pos) (Jw td ty):=by
 intro pins s σ H Q I h;refine RW PySem.F.slot_dict_getitem.lookup hs (thn (ho pins s σ H _ I h) λu s1 ⟨x,H1,I1,rx,q1⟩=>thn (hi pins s1 σ H1 _ I1 q1) ?_);rintro iv s2 ⟨y,H2,I2,ry,a,v,ex,g,q2⟩;subst ex;obtain rfl:u=Value.ref a:=rx;exact⟨Du I2 g,K9 hu I2 g ry λw' s3 I3 rw'=>⟨v,H2,I3,rw',q2⟩⟩
theorem Al(hu:X.A.units+1<cLine)(ho:PE X o td)(hi:PE X i ty)(hv:PE X value tv)(hs:swapsWith value (some (.Subscript o i pos')) pos.line X.env=pure false) :
  PS X (.Assign [.Subscript o i pos'] value pos) (Ob td ty tv):=by
 intro pins s σ H D I h;refine wpAny_Assign_Subscript (thn (hv pins s σ H _ I h) λr s1 ⟨v,H1,I1,rv,q1⟩=>thn (ho pins s1 σ H1 _ I1 q1) λu s2 ⟨x,H2,I2,rx,q2⟩=>thn (hi pins s2 σ H2 _ I2 q2) ?_) hs;rintro iv s3 ⟨y,H3,I3,ry,a,H4,ex,g,q3⟩;subst ex;obtain rfl:u=Value.ref a:=rx;exact La hu I3 g ry rv λs4 I4=>⟨σ,H4,I4,q3⟩
end
theorem Oc{P:Program}{w:World}{H:Hp}(h:Heap)(hb:sysModules<h.objs.size):dB P w H (h.push { cls:=.type "dict",data:=.dict #[] }) h.objs.size (.dK []):=
 ⟨Zbj _,beq_eq_false_iff_ne.mpr (Za0 (Zaz hb)),[],.nil,Heap.DictOf.new h⟩
def Od:TE:=λ_ H Q=>∀ p,H p=none->Q (.ref p) (upd H p (.dK []))
section
variable{X:Cx}{pos:Pos}
theorem n6:PE X (.Dict [] [] pos) Od:=λpins s σ H Q I h=>
 wpAny_Dict_empty ⟨.ref s.heap.objs.size,_,I.laid (a:=s.heap.objs.size) (o:=.dK []) (t':=s.toks) (λ_ _ q=>Zae _ q) (Zah _) (Oc s.heap I.big),rfl,h _ (I.hok.fresh (Zah _))⟩
end
def Oe:List (TE×TE)->St->Hp->(List (V×V)->Hp->Prop)->Prop
 |[],_,H,Q=>Q [] H
 |(tk,tv)::r,σ,H,Q=>tk σ H λx H1=>tv σ H1 λy H2=>Oe r σ H2 λps H3=>Q ((x,y)::ps) H3
noncomputable abbrev VV:List (V×V)->List (Value×Value)->Prop:=Paired λp q=>RelV p.1 q.1/\RelV p.2 q.2
def PPs(X:Cx)(pos:Pos)(keys:List (Option Expr))(values:List Expr)(trs:List (TE×TE)):Prop:=
 ∀ (pins:List (Addr×Obj)) (s:Shared) (σ:St) (H:Hp) (Q:List (V×V)->Hp->Prop),Inv X pins σ H s->Oe trs σ H Q ->
  wpAny (model X.prog X.w) X.A (evalPairs (pairTrees keys values X.env pos)) (λvs s'=>∃ ps H',Inv X pins σ H' s'/\VV ps vs/\Q ps H') X.xe s
structure M1(X:Cx)(o:Expr)(m:Str)(apos:Pos)(e:Expr)(cpos:Pos):Prop where
 base:attributeBase o m X.env (eval o X.env)=eval o X.env
 few:((backTo cpos (starEach [e] X.env)).all (λx=>!x.1)&&(backToKw cpos (keywordEach [] X.env)).all (λx=>x.1.isSome)
  && decide (([e]:List Expr).length+([]:List Keyword).length+(if([]:List Keyword).isEmpty then 0 else 1)<30))=true
 line:(apos.endLine==cpos.line)=true
 trees:backTo cpos (starEach [e] X.env)=[(false,eval e X.env)]
structure M2(X:Cx)(o:Expr)(m:Str)(apos:Pos)(e f:Expr)(cpos:Pos):Prop where
 base:attributeBase o m X.env (eval o X.env)=eval o X.env
 few:((backTo cpos (starEach [e,f] X.env)).all (λx=>!x.1)&&(backToKw cpos (keywordEach [] X.env)).all (λx=>x.1.isSome)
  && decide (([e,f]:List Expr).length+([]:List Keyword).length+(if([]:List Keyword).isEmpty then 0 else 1)<30))=true
 line:(apos.endLine==cpos.line)=true
 trees:backTo cpos (starEach [e,f] X.env)=[(false,eval e X.env),(false,eval f X.env)]
def IsD(H:Hp)(a:Addr):Prop:=(∃ kvs,Rd H a (.dK kvs))\/∃ kvs,Rd H a (.dT kvs)
theorem Og{X:Cx}{pins:List (Addr×Obj)}{σ:St}{H:Hp}{s:Shared}{a:Addr}(I:Inv X pins σ H s)(d:IsD H a) :
  s.TypeIs (.ref a) "dict"/\(∀ b,Value.ref a=.ref b->∃ ob,s.heap.get? b=some ob/\ob.dict=none)/\(a==sysModules)=false:=by
 rcases d with⟨kvs,e⟩|⟨kvs,e⟩
 ·obtain⟨_,hd,vs,_,dd⟩:=rM I.hok e;refine⟨dd.typeIs,λb q=>?_,hd⟩;cases q;obtain⟨ob,_,_,h1,h2,_⟩:=dd;exact⟨ob,h1,h2.2.1⟩
 ·obtain⟨_,hd,xs,_,dd⟩:=vY I.hok e;refine⟨dd.typeIs,λb q=>?_,hd⟩;cases q;obtain⟨ob,_,_,h1,h2,_⟩:=dd;exact⟨ob,h1,h2.2.1⟩
section
variable{X:Cx}{pins:List (Addr×Obj)}{σ:St}{H:Hp}{s:Shared}{a:Addr}{y d:V}{u r:Value}{o:Option V}{A:Around}{E:Value->Shared->Prop}
theorem Vs{Q:Value->Shared->Prop}(hu:A.units+1<cLine)(I:Inv X pins σ H s)(g:rN H a y o)(ry:RelV y u)(rd:RelV d r)(h:∀ w' s',Inv X pins σ H s'->RelV (o.getD d) w'->Q w' s') :
  wpAny (model X.prog X.w) A (call (.builtin "dict.get") [.ref a,u,r]) Q E s:=by
 rcases g with⟨kvs,k,e,ey,l⟩|⟨kvs,k,b,e,ey,eb,l⟩
 ·subst ey;obtain⟨z,hd,vs,rel,dd⟩:=rM I.hok e;refine call_meetsIn ZbG dd.typeIs PySem.F.entry_dict_get (PySem.F.args_dict_get_3 _ _ _) (meets_dict_get_default (cF X.prog X.w) a (vX ry) hd r) ⟨_,dd.mapOf,h _ _ (I.tok _) ?_⟩;rw[l];exact(rel.val k).getD rd
 ·subst ey;cases (show u=Value.ref b from ry);obtain⟨z,hd,xs,rel,dd⟩:=vY I.hok e;refine call_meetsIn ZbG dd.typeIs PySem.F.entry_dict_get (PySem.F.args_dict_get_3 _ _ _) (meetsH_dict_get_default (tupleKind (cF X.prog X.w)) a b hd r) ⟨tupleKind_room_in1 hu,k,xs,kW I.hok eb,dd,h _ _ (I.tok _) ?_⟩;rw[l];exact(rel.val k).getD rd
end
def Hq(td ty tx:TE):TE:=λσ H Q=>td σ H λx H1=>∃ a,x=.ref a/\IsD H1 a/\ty σ H1 λy H2=>tx σ H2 λz H3=>∃ o,rN H3 a y o/\Q (o.getD z) H3
def Oh(td ty:TE):TE:=λσ H Q=>td σ H λx H1=>∃ a,x=.ref a/\IsD H1 a/\ty σ H1 λy H2=>∃ kvs k v,H2 a=some (.dK kvs)/\y=kV k/\mG kvs k=some v/\Q v (upd H2 a (.dK (zb kvs k)))
section
variable{X:Cx}{o e f:Expr}{apos cpos:Pos}{td ty tx:TE}
theorem Oi(hu:X.A.units+1<cLine)(ho:PE X o td)(he:PE X e ty)(hf:PE X f tx)(m:M2 X o "get" apos e f cpos):PE X (.Call (.Attribute o "get" apos) [e,f] [] cpos) (Hq td ty tx):=by
 intro pins s σ H Q I h;refine wpAny_Call_method m.base m.few m.line PySem.F.plainAttrs_dict ZbG PySem.F.type_dict_get (thn (ho pins s σ H _ I h) ?_);rintro u s1 ⟨x,H1,I1,rx,a,ex,d,q1⟩;subst ex;obtain rfl:u=Value.ref a:=rx;obtain⟨t1,t2,_⟩:=Og I1 d;refine⟨t1,t2,?_⟩;rw[m.trees];refine Zbf rfl (ZbN (Zbu (thn (he pins s1 σ H1 _ I1 q1) λiv s2 ⟨y,H2,I2,ry,q2⟩=>
  Zbu (thn (hf pins s2 σ H2 _ I2 q2) λfv s3 ⟨z,H3,I3,rz,ov,g,q3⟩=>Zb5 ?_))))
 exact Vs hu I3 g ry rz λw' s4 I4 rw'=>⟨_,H3,I4,rw',q3⟩
theorem Dv(ho:PE X o td)(he:PE X e ty)(m:M1 X o "pop" apos e cpos):PE X (.Call (.Attribute o "pop" apos) [e] [] cpos) (Oh td ty):=by
 intro pins s σ H Q I h;refine wpAny_Call_method m.base m.few m.line PySem.F.plainAttrs_dict PySem.F.slot_dict_pop PySem.F.type_dict_pop (thn (ho pins s σ H _ I h) ?_);rintro u s1 ⟨x,H1,I1,rx,a,ex,d,q1⟩;subst ex;obtain rfl:u=Value.ref a:=rx;obtain⟨t1,t2,_⟩:=Og I1 d;refine⟨t1,t2,?_⟩;rw[m.trees];refine Zbf rfl (ZbN (Zbu (thn (he pins s1 σ H1 _ I1 q1) λiv s2 ⟨y,H2,I2,ry,kvs,k,v,ea,ey,l,q2⟩=>Zb5 ?_)));subst ey;exact W7 I2 ea ry l (.inl rfl) λw' s3 I3 rw'=>⟨v,_,I3,rw',q2⟩
end
end L2
namespace L2.MP
open PySem PySem.Spec PyProof.Rows
inductive PV where
 |non|bl (b:Bool)|int (i:Int)|str (x:Str)|ty (n:String)
 |tup (l:List PV)|lst (l:List PV)|dk (l:List (Key×PV))|dt (l:List (List Key×PV))
 |exc (c:Str) (fs:List (Str×PV))|obj (c:Str) (fs:List (Str×PV))
noncomputable instance:Inhabited PV:=⟨.non⟩
def PV.flat:PV->Bool
 |.non|.bl _|.int _|.str _|.ty _=>true
 |_=>false
def kZ:Nat->PV->Bool
 |0,p=>p.flat
 |n+1,.tup l=>l.all (kZ n)
 |_+1,p=>p.flat
def PV.still(p:PV):Bool:=kZ 5 p
inductive Res(α:Type) where
 |ok (a:α)|ex (z:PV)
def bnd{α β:Type}(x:Option (Res α))(k:α->Option (Res β)):Option (Res β):=match x with
 |some (.ok a)=>k a
 |some (.ex z)=>some (.ex z)
 |none=>none
theorem Oj{α β:Type}{a:α}{k:α->Option (Res β)}:bnd (some (.ok a)) k=k a:=rfl
def XO(e C:Addr)(d:Option Addr):HO:=.ext λh=>∃ vs:Array Value,h.get? e=some { cls:=.ref C,dict:=d,data:=.fields vs }
structure XNm(K:PySem.W.Frag)(C:Addr)(c:Str):Prop where
 ns:nsIn K mainGlobals c=some (some (.ref C))
 cl:∃ cd,PySem.W.clsIn K C=some cd/\cd.name=c
inductive Rep(K:PySem.W.Frag)(F:Hp):V->PV->Prop
 |non:Rep K F .non .non
 |bl {b:Bool}:Rep K F (.bl b) (.bl b)
 |int {i:Int}:Rep K F (.int i) (.int i)
 |str {x:Str}:Rep K F (.str x) (.str x)
 |ty {n:String}:Rep K F (.ty n) (.ty n)
 |tup {a:Addr}{xs:List V}{l:List PV} (h:F a=some (.tup xs)) (hl:xs.length=l.length) (hr:∀ (j:Nat) x p,xs[j]?=some x->l[j]?=some p->Rep K F x p):Rep K F (.ref a) (.tup l)
 |lst {a:Addr}{xs:List V}{l:List PV} (h:SqL K F a xs) (hl:xs.length=l.length) (hr:∀ (j:Nat) x p,xs[j]?=some x->l[j]?=some p->Rep K F x p):Rep K F (.ref a) (.lst l)
 |dk {a:Addr}{xs:List (Key×V)}{l:List (Key×PV)} (h:Rd F a (.dK xs)) (hl:xs.map (·.1)=l.map (·.1)) (hr:∀ (j:Nat) x p,xs[j]?=some x->l[j]?=some p->Rep K F x.2 p.2):Rep K F (.ref a) (.dk l)
 |dt {a:Addr}{xs:List (List Key×V)}{l:List (List Key×PV)} (h:Rd F a (.dT xs)) (hl:xs.map (·.1)=l.map (·.1)) (hr:∀ (j:Nat) x p,xs[j]?=some x->l[j]?=some p->Rep K F x.2 p.2):Rep K F (.ref a) (.dt l)
 |exc {a C dx:Addr}{c:Str}{xs:List (Str×V)}{l:List (Str×PV)} (nm:XNm K C c) (h:F a=some (XO a C (some dx))) (hd:F dx=some (.xd xs)) (hl:xs.map (·.1)=l.map (·.1)) (hr:∀ (j:Nat) x p,xs[j]?=some x->l[j]?=some p->Rep K F x.2 p.2):Rep K F (.ref a) (.exc c l)
 |exc0 {a C:Addr}{c:Str} (nm:XNm K C c) (h:F a=some (XO a C none)):Rep K F (.ref a) (.exc c [])
 |obj {a C dx:Addr}{c:Str}{xs:List (Str×V)}{l:List (Str×PV)} (nm:XNm K C c) (h:F a=some (.ins C dx xs)) (hl:xs.map (·.1)=l.map (·.1)) (hr:∀ (j:Nat) x p,xs[j]?=some x->l[j]?=some p->Rep K F x.2 p.2):Rep K F (.ref a) (.obj c l)
def bw(K:PySem.W.Frag)(F:Hp)(xs:List V)(l:List PV):Prop:=xs.length=l.length/\∀ (j:Nat) x p,xs[j]?=some x->l[j]?=some p->Rep K F x p
section
variable{K:PySem.W.Frag}{F F':Hp}{v:V}{p:PV}{xs ys:List V}{l m:List PV}
theorem _root_.L2.Rd.same{F F':Hp}{a:Addr}{u:HO}(h:Rd F a u)(s:aL F F'):Rd F' a u:=h.imp (s _ _) λ⟨o,e⟩=>⟨o,s _ _ e⟩
theorem Rep.up(h:Rep K F v p)(s:aL F F'):Rep K F' v p:=by
 induction h with
 |non=>exact .non
 |bl=>exact .bl
 |int=>exact .int
 |str=>exact .str
 |ty=>exact .ty
 |tup h hl _ ih=>exact .tup (s _ _ h) hl ih
 |lst h hl _ ih=>exact .lst (s.seq h) hl ih
 |dk h hl _ ih=>exact .dk (h.same s) hl ih
 |dt h hl _ ih=>exact .dt (h.same s) hl ih
 |exc nm h hd hl _ ih=>exact .exc nm (s _ _ h) (s _ _ hd) hl ih
 |exc0 nm h=>exact .exc0 nm (s _ _ h)
 |obj nm h hl _ ih=>exact .obj nm (s _ _ h) hl ih
theorem bw.up(h:bw K F xs l)(s:aL F F'):bw K F' xs l:=⟨h.1,λj x p a b=>(h.2 j x p a b).up s⟩
theorem Rep.free(h:Rep K F v p)(hf:p.flat=true):Rep K F' v p:=by
 cases h with
 |non=>exact .non
 |bl=>exact .bl
 |int=>exact .int
 |str=>exact .str
 |ty=>exact .ty
 |tup=>cases hf
 |lst=>cases hf
 |dk=>cases hf
 |dt=>cases hf
 |exc=>cases hf
 |exc0=>cases hf
 |obj=>cases hf
theorem bw.nil:bw K F [] []:=⟨rfl,λj x p h=>by simp at h⟩
theorem bw.cons(h:Rep K F v p)(t:bw K F xs l):bw K F (v::xs) (p::l):=by
 refine⟨by simp[t.1],λj x q a b=>?_⟩
 cases j with
 |zero=>simp at a b;subst a b;exact h
 |succ j=>exact t.2 j x q (by simpa using a) (by simpa using b)
theorem bw.append(h:bw K F xs l)(t:bw K F ys m):bw K F (xs++ys) (l++m):=by
 refine⟨by rw[Zau,Zau,h.1,t.1],λj x p a b=>?_⟩
 by_cases hj:j<xs.length
 ·rw[Zaj hj] at a;rw[Zaj (by rw[<-h.1];exact hj)] at b
  exact h.2 j x p a b
 ·rw[Zam (by lia)] at a
  rw[Zam (by rw[<-h.1];lia),<-h.1] at b
  exact t.2 _ x p a b
theorem bw.snoc(h:bw K F xs l)(t:Rep K F v p):bw K F (xs++[v]) (l++[p]):=h.append (bw.nil.cons t)
theorem bw.get(h:bw K F xs l){j:Nat}(e:l[j]?=some p):∃ x,xs[j]?=some x/\Rep K F x p:=by
 have hj:j<xs.length:=by rw[h.1];exact(Zas.mp e).1
 exact⟨xs[j],by simp[hj],h.2 j _ p (by simp[hj]) e⟩
theorem bw.got(h:bw K F xs l){j:Nat}(e:xs[j]?=some v):∃ p,l[j]?=some p/\Rep K F v p:=by
 have hj:j<l.length:=by rw[<-h.1];exact(Zas.mp e).1
 exact⟨l[j],by simp[hj],h.2 j v _ e (by simp[hj])⟩
theorem bw.take(h:bw K F xs l)(n:Nat):bw K F (xs.take n) (l.take n):=by
 refine⟨by simp[h.1],λj x p a b=>?_⟩
 rw[List.getElem?_take] at a b;split at a
 ·rename_i hj;rw[Zag hj] at b;exact h.2 j x p a b
 ·cases a
theorem bw.drop(h:bw K F xs l)(n:Nat):bw K F (xs.drop n) (l.drop n):=by
 refine⟨by simp[h.1],λj x p a b=>?_⟩
 rw[List.getElem?_drop] at a b;exact h.2 _ x p a b
theorem bw.set(h:bw K F xs l)(t:Rep K F v p)(i:Nat):bw K F (xs.set i v) (l.set i p):=by
 refine⟨by simp[h.1],λj x q a b=>?_⟩
 rw[Zbo] at a b;by_cases hj:i=j
 ·subst hj;rw[Zag rfl] at a b;split at a
  ·rename_i hl;rw[Zag (by rw[<-h.1];exact hl)] at b
   cases a;cases b;exact t
  ·cases a
 ·rw[Zal hj] at a b;exact h.2 j x q a b
theorem bw.oh(h:bw K F xs (p::l)):∃ v ys,xs=v::ys/\Rep K F v p/\bw K F ys l:=by
 obtain⟨hl,hr⟩:=h
 match xs,hl,hr with
 |[],hl,_=>simp at hl
 |v::ys,hl,hr=>exact⟨v,ys,rfl,hr 0 v p rfl rfl,by simpa using hl,λj x q a b=>hr (j+1) x q (by simpa using a) (by simpa using b)⟩
theorem bw.rO(h:bw K F xs []):xs=[]:=by
 have:=h.1;simpa using this
theorem bw.Am:∀ (ns:List Int),bw K F (ns.map V.int) (ns.map PV.int)
 |[]=>.nil
 |n::ns=>(bw.Am ns).cons .int
theorem Rep.aZ{i:Int}(h:Rep K F v (.int i)):v=.int i:=by cases h;rfl
theorem Rep.gU{b:Bool}(h:Rep K F v (.bl b)):v=.bl b:=by cases h;rfl
theorem Rep.bI{z:Str}(h:Rep K F v (.str z)):v=.str z:=by cases h;rfl
theorem Rep.eG(h:Rep K F v .non):v=.non:=by cases h;rfl
theorem Rep.Vt{n:String}(h:Rep K F v (.ty n)):v=.ty n:=by cases h;rfl
theorem Rep.cG(h:Rep K F v (.tup l)):∃ a xs,v=.ref a/\SqT K F a xs/\bw K F xs l:=by cases h with|tup h hl hr=>exact⟨_,_,rfl,SqT.of h,hl,hr⟩
theorem Rep.Ol(h:Rep K F v (.tup l)):∃ a xs,v=.ref a/\F a=some (.tup xs)/\bw K F xs l:=by cases h with|tup h hl hr=>exact⟨_,_,rfl,h,hl,hr⟩
theorem Rep.cJ(h:Rep K F v (.lst l)):∃ a xs,v=.ref a/\SqL K F a xs/\bw K F xs l:=by cases h with|lst h hl hr=>exact⟨_,_,rfl,h,hl,hr⟩
end
structure Cf where
 io:Addr->Prop
 nw:Prop
 H0:Hp
 F0:Hp
 E:XK
inductive Sl where
 |sh (p:PV)|ow (p:PV)|dp (p:PV)
noncomputable abbrev Rho:=List (Option Sl)
def Own(K:PySem.W.Frag)(F H:Hp)(a:Addr):PV->Prop
 |.lst l=>∃ xs,H a=some (.lst xs)/\bw K F xs l
 |.dk l=>∃ xs,H a=some (.dK xs)/\xs.map (·.1)=l.map (·.1)/\∀ (j:Nat) x p,xs[j]?=some x->l[j]?=some p->Rep K F x.2 p.2
 |.dt l=>∃ xs,H a=some (.dT xs)/\xs.map (·.1)=l.map (·.1)/\∀ (j:Nat) x p,xs[j]?=some x->l[j]?=some p->Rep K F x.2 p.2
 |_=>False
inductive Dp(K:PySem.W.Frag)(F H:Hp):(Addr->Prop)->V->PV->Prop
 |fr {P:Addr->Prop}{v:V}{p:PV} (h:Rep K F v p) (st:p.still=true):Dp K F H P v p
 |lst {P:Addr->Prop}{S:Nat->Addr->Prop}{a:Addr}{xs:List V}{l:List PV} (h:H a=some (.lst xs)) (hp:P a) (hs:∀ j b,S j b->P b/\b≠a) (dj:∀ i j b,S i b->S j b->i=j) (hl:xs.length=l.length)
   (hr:∀ (j:Nat) x p,xs[j]?=some x->l[j]?=some p->Dp K F H (S j) x p):Dp K F H P (.ref a) (.lst l)
 |tup {P:Addr->Prop}{S:Nat->Addr->Prop}{a:Addr}{xs:List V}{l:List PV} (h:H a=some (.tup xs)) (hs:∀ j b,S j b->P b) (dj:∀ i j b,S i b->S j b->i=j) (hl:xs.length=l.length)
   (hr:∀ (j:Nat) x p,xs[j]?=some x->l[j]?=some p->Dp K F H (S j) x p):Dp K F H P (.ref a) (.tup l)
 |dk {P:Addr->Prop}{S:Nat->Addr->Prop}{a:Addr}{xs:List (Key×V)}{l:List (Key×PV)} (h:H a=some (.dK xs)) (hp:P a) (hs:∀ j b,S j b->P b/\b≠a) (dj:∀ i j b,S i b->S j b->i=j) (hl:xs.map (·.1)=l.map (·.1))
   (hr:∀ (j:Nat) x p,xs[j]?=some x->l[j]?=some p->Dp K F H (S j) x.2 p.2):Dp K F H P (.ref a) (.dk l)
 |dt {P:Addr->Prop}{S:Nat->Addr->Prop}{a:Addr}{xs:List (List Key×V)}{l:List (List Key×PV)} (h:H a=some (.dT xs)) (hp:P a) (hs:∀ j b,S j b->P b/\b≠a) (dj:∀ i j b,S i b->S j b->i=j) (hl:xs.map (·.1)=l.map (·.1))
   (hr:∀ (j:Nat) x p,xs[j]?=some x->l[j]?=some p->Dp K F H (S j) x.2 p.2):Dp K F H P (.ref a) (.dt l)
 |obj {P:Addr->Prop}{S:Nat->Addr->Prop}{a C dx:Addr}{c:Str}{xs:List (Str×V)}{l:List (Str×PV)} (nm:XNm K C c) (h:H a=some (.ins C dx xs)) (hp:P a) (hs:∀ j b,S j b->P b/\b≠a) (dj:∀ i j b,S i b->S j b->i=j) (hl:xs.map (·.1)=l.map (·.1))
   (hr:∀ (j:Nat) x p,xs[j]?=some x->l[j]?=some p->Dp K F H (S j) x.2 p.2):Dp K F H P (.ref a) (.obj c l)
section
variable{K:PySem.W.Frag}{F F' H H':Hp}{v:V}{p:PV}{P P':Addr->Prop}
theorem Dp.mono(h:Dp K F H P v p)(m:∀ b,P b->P' b):Dp K F H P' v p:=by
 cases h with
 |fr h st=>exact .fr h st
 |lst h hp hs dj hl hr=>exact .lst h (m _ hp) (λj b q=>⟨m _ (hs j b q).1,(hs j b q).2⟩) dj hl hr
 |tup h hs dj hl hr=>exact .tup h (λj b q=>m _ (hs j b q)) dj hl hr
 |dk h hp hs dj hl hr=>exact .dk h (m _ hp) (λj b q=>⟨m _ (hs j b q).1,(hs j b q).2⟩) dj hl hr
 |dt h hp hs dj hl hr=>exact .dt h (m _ hp) (λj b q=>⟨m _ (hs j b q).1,(hs j b q).2⟩) dj hl hr
 |obj nm h hp hs dj hl hr=>exact .obj nm h (m _ hp) (λj b q=>⟨m _ (hs j b q).1,(hs j b q).2⟩) dj hl hr
theorem Dp.up(h:Dp K F H P v p)(sf:aL F F')(sh:∀ b o,P b->H b=some o->H' b=some o)(ht:∀ b ys,H b=some (.tup ys)->H' b=some (.tup ys)):Dp K F' H' P v p:=by
 induction h with
 |fr h st=>exact .fr (h.up sf) st
 |lst h hp hs dj hl _ ih=>exact .lst (sh _ _ hp h) hp hs dj hl λj x p e1 e2=>ih j x p e1 e2 λb o q=>sh b o (hs j b q).1
 |tup h hs dj hl _ ih=>exact .tup (ht _ _ h) hs dj hl λj x p e1 e2=>ih j x p e1 e2 λb o q=>sh b o (hs j b q)
 |dk h hp hs dj hl _ ih=>exact .dk (sh _ _ hp h) hp hs dj hl λj x p e1 e2=>ih j x p e1 e2 λb o q=>sh b o (hs j b q).1
 |dt h hp hs dj hl _ ih=>exact .dt (sh _ _ hp h) hp hs dj hl λj x p e1 e2=>ih j x p e1 e2 λb o q=>sh b o (hs j b q).1
 |obj nm h hp hs dj hl _ ih=>exact .obj nm (sh _ _ hp h) hp hs dj hl λj x p e1 e2=>ih j x p e1 e2 λb o q=>sh b o (hs j b q).1
theorem Dp.seen(h:Dp K F H P v p)(sf:aL F F')(sh:∀ b o,P b->H b=some o->F' b=some o)(ht:∀ b ys,H b=some (.tup ys)->F' b=some (.tup ys)):Rep K F' v p:=by
 induction h with
 |fr h st=>exact h.up sf
 |lst h hp hs dj hl _ ih=>exact .lst (SqL.of (sh _ _ hp h)) hl λj x p e1 e2=>ih j x p e1 e2 λb o q=>sh b o (hs j b q).1
 |tup h hs dj hl _ ih=>exact .tup (ht _ _ h) hl λj x p e1 e2=>ih j x p e1 e2 λb o q=>sh b o (hs j b q)
 |dk h hp hs dj hl _ ih=>exact .dk (.inl (sh _ _ hp h)) hl λj x p e1 e2=>ih j x p e1 e2 λb o q=>sh b o (hs j b q).1
 |dt h hp hs dj hl _ ih=>exact .dt (.inl (sh _ _ hp h)) hl λj x p e1 e2=>ih j x p e1 e2 λb o q=>sh b o (hs j b q).1
 |obj nm h hp hs dj hl _ ih=>exact .obj nm (sh _ _ hp h) hl λj x p e1 e2=>ih j x p e1 e2 λb o q=>sh b o (hs j b q).1
theorem Dp.lent(h:Dp K F H P v p)(s:aL F H):Rep K H v p:=h.seen s (λ_ _ _ e=>e) λ_ _ e=>e
end
structure RD(K:PySem.W.Frag)(C:Cf)(F H:Hp)(σ:St)(ρ:Rho)(P:Nat->Addr->Prop):Prop where
 own:∀ i b,P i b->F b=none/\(∃ o,H b=some o/\∀ ys,o≠.tup ys)/\C.nw/\C.H0 b=none
 dis:∀ i j b,P i b->P j b->i=j
 ow:∀ (i j:Nat) q b,P i b->ρ[j]?=some (some (.ow q))->σ[j]?≠some (some (.ref b))
 dp:∀ (i:Nat) p,ρ[i]?=some (some (.dp p))->∃ v,σ[i]?=some (some v)/\Dp K F H (P i) v p
theorem RD.no{K:PySem.W.Frag}{C:Cf}{F H:Hp}{σ:St}{ρ:Rho}(h:∀ (i:Nat) p,ρ[i]?≠some (some (.dp p))):RD K C F H σ ρ (λ_ _=>False):=
 ⟨λ_ _ q=>q.elim,λ_ _ _ q=>q.elim,λ_ _ _ _ q=>q.elim,λi p e=>absurd e (h i p)⟩
def Frz(H:Hp)(b:Addr)(o:HO):Prop:=H b=none\/∃ ys,o=.tup ys
structure RB(C:Cf)(F H:Hp):Prop where
 sub:aL F H
 keep:∀ b o,C.H0 b=some o->¬C.io b->H b=some o
 new:∀ b o,F b=some o->C.F0 b=some o\/Frz C.H0 b o
 ios:∀ b,C.io b->H b≠none/\C.H0 b≠none
structure RE(K:PySem.W.Frag)(C:Cf)(F H:Hp)(σ:St)(ρ:Rho):Prop where
 rb:RB C F H
 len:σ.length=ρ.length
 sh:∀ (i:Nat) p,ρ[i]?=some (some (.sh p))->∃ v,σ[i]?=some (some v)/\Rep K F v p
 ow:∀ (i:Nat) p,ρ[i]?=some (some (.ow p))->∃ a,σ[i]?=some (some (.ref a))/\Own K F H a p/\F a=none/\(C.io a\/(C.nw/\C.H0 a=none))
 dis:∀ (i j:Nat) p q a,ρ[i]?=some (some (.ow p))->ρ[j]?=some (some (.ow q))->σ[i]?=some (some (.ref a))->σ[j]?=some (some (.ref a))->i=j
 dd:∃ P,RD K C F H σ ρ P
structure Up(F H F' H':Hp):Prop where
 ff:aL F F'
 hh:aL H H'
 fr:∀ b o,F' b=some o->F b=some o\/Frz H b o
 fh:aL F' H'
section
variable{K:PySem.W.Frag}{C:Cf}{F F1 F2 F' H H1 H2 H':Hp}{σ:St}{ρ:Rho}{a:Addr}{p:PV}{v:V}
theorem Up.refl(s:aL F H):Up F H F H:=⟨aL.refl _,aL.refl _,λ_ _ h=>.inl h,s⟩
theorem Up.trans(a:Up F H F1 H1)(b:Up F1 H1 F2 H2):Up F H F2 H2:=
 ⟨a.ff.trans b.ff,a.hh.trans b.hh,λc o h=>(b.fr c o h).elim (a.fr c o) λn=>.inr (n.imp (λn=>a.hh.free n) id),b.fh⟩
theorem Own.ne(h:Own K F H a p):∃ o,H a=some o:=by
 cases p with
 |lst l=>obtain⟨xs,e,_⟩:=h;exact⟨_,e⟩
 |dk l=>obtain⟨xs,e,_⟩:=h;exact⟨_,e⟩
 |dt l=>obtain⟨xs,e,_⟩:=h;exact⟨_,e⟩
 |_=>exact h.elim
theorem Own.uM{ys:List V}(h:Own K F H a p)(e:H a=some (.tup ys)):False:=by
 cases p with
 |lst l=>obtain⟨xs,e',_⟩:=h;rw[e] at e';cases e'
 |dk l=>obtain⟨xs,e',_⟩:=h;rw[e] at e';cases e'
 |dt l=>obtain⟨xs,e',_⟩:=h;rw[e] at e';cases e'
 |_=>exact h.elim
theorem RD.up{P:Nat->Addr->Prop}(d:RD K C F H σ ρ P)(u:Up F H F' H'):RD K C F' H' σ ρ P where
 own:=λi b q=>by
  obtain⟨a1,⟨o',a2,a3⟩,a4⟩:=d.own i b q;refine⟨?_,⟨o',u.hh _ _ a2,a3⟩,a4⟩;cases e:F' b with
  |none=>rfl
  |some o=>
   rcases u.fr b o e with z|z|⟨ys,z⟩
   ·rw[a1] at z;cases z
   ·rw[a2] at z;cases z
   ·subst z;have w:=u.fh _ _ e;rw[u.hh _ _ a2] at w;cases w;exact absurd rfl (a3 ys)
 dis:=d.dis
 ow:=d.ow
 dp:=λi p e=>let⟨v,e1,e2⟩:=d.dp i p e;⟨v,e1,e2.up u.ff (λb o _ q=>u.hh b o q) λb ys q=>u.hh b _ q⟩
theorem Own.up(h:Own K F H a p)(sf:aL F F')(sh:∀ o,H a=some o->H' a=some o):Own K F' H' a p:=by
 cases p with
 |lst l=>obtain⟨xs,e,r⟩:=h;exact⟨xs,sh _ e,r.up sf⟩
 |dk l=>obtain⟨xs,e,r,q⟩:=h;exact⟨xs,sh _ e,r,λj x p a b=>(q j x p a b).up sf⟩
 |dt l=>obtain⟨xs,e,r,q⟩:=h;exact⟨xs,sh _ e,r,λj x p a b=>(q j x p a b).up sf⟩
 |_=>exact h.elim
theorem Own.frozen(h:Own K F H a p)(hn:F a=none):∃ o,H a=some o/\Rep K (upd F a o) (.ref a) p:=by
 have s:∀ o,aL F (upd F a o):=λo=>gk hn;cases p with
 |lst l=>obtain⟨xs,e,r⟩:=h;exact⟨_,e,.lst (SqL.of aN) r.1 (r.up (s _)).2⟩
 |dk l=>obtain⟨xs,e,r,q⟩:=h;exact⟨_,e,.dk (.inl aN) r λj x p a b=>(q j x p a b).up (s _)⟩
 |dt l=>obtain⟨xs,e,r,q⟩:=h;exact⟨_,e,.dt (.inl aN) r λj x p a b=>(q j x p a b).up (s _)⟩
 |_=>exact h.elim
theorem Own.lent(h:Own K F H a p)(s:aL F H):Rep K H (.ref a) p:=by
 cases p with
 |lst l=>obtain⟨xs,e,r⟩:=h;exact .lst (SqL.of e) r.1 (r.up s).2
 |dk l=>obtain⟨xs,e,r,q⟩:=h;exact .dk (.inl e) r λj x p a b=>(q j x p a b).up s
 |dt l=>obtain⟨xs,e,r,q⟩:=h;exact .dt (.inl e) r λj x p a b=>(q j x p a b).up s
 |_=>exact h.elim
theorem RB.up(h:RB C F H)(u:Up F H F' H'):RB C F' H' where
 sub:=u.fh
 keep:=λb o e n=>u.hh _ _ (h.keep b o e n)
 new:=λb o e=>(u.fr b o e).elim (h.new b o) λn=>.inr (n.imp (λn=>by
  cases q:C.H0 b with
  |none=>rfl
  |some o'=>
   by_cases hi:C.io b
   ·exact absurd n (h.ios b hi).1
   ·rw[h.keep b o' q hi] at n;cases n) id)
 ios:=λb hb=>⟨λn=>(h.ios b hb).1 (u.hh.free n),(h.ios b hb).2⟩
theorem RB.nj(h:RB C F H){b:Addr}(n:H b=none):C.H0 b=none:=by
 cases q:C.H0 b with
 |none=>rfl
 |some o'=>
  by_cases hi:C.io b
  ·exact absurd n (h.ios b hi).1
  ·rw[h.keep b o' q hi] at n;cases n
theorem RE.up(h:RE K C F H σ ρ)(u:Up F H F' H'):RE K C F' H' σ ρ where
 rb:=h.rb.up u
 len:=h.len
 sh:=λi p e=>let⟨v,e1,e2⟩:=h.sh i p e;⟨v,e1,e2.up u.ff⟩
 ow:=λi p e=>by
  obtain⟨a,e1,e2,e3,e4⟩:=h.ow i p e;refine⟨a,e1,e2.up u.ff λo q=>u.hh _ _ q,?_,e4⟩;cases q:F' a with
  |none=>rfl
  |some o=>
   obtain⟨o',eo⟩:=e2.ne;rcases u.fr a o q with z|z|⟨ys,z⟩
   ·rw[e3] at z;cases z
   ·rw[eo] at z;cases z
   ·subst z;exact absurd (u.fh _ _ q) (λw=>by rw[u.hh _ _ eo] at w;cases w;exact e2.uM eo)
 dis:=h.dis
 dd:=let⟨P,d⟩:=h.dd;⟨P,d.up u⟩
theorem get_set{α:Type}{l:List α}{i j:Nat}{x y:α}(h:(l.set i x)[j]?=some y):(i=j/\x=y)\/(i≠j/\l[j]?=some y):=by
 rw[Zbo] at h;by_cases e:i=j
 ·subst e;rw[Zag rfl] at h;split at h
  ·exact .inl ⟨rfl,Zaa h⟩
  ·cases h
 ·rw[Zal e] at h;exact .inr ⟨e,h⟩
theorem bH{α:Type}{l:List α}{j:Nat}{y:α}(h:l[j]?=some y):j<l.length:=(Zas.mp h).1
theorem RE.set(h:RE K C F H σ ρ)(i:Nat)(r:Rep K F v p):RE K C F H (σ.set i (some v)) (ρ.set i (some (.sh p))) where
 rb:=h.rb
 len:=by simp[h.len]
 sh:=λj q e=>by
  rcases get_set e with⟨e1,e2⟩|⟨e1,e2⟩
  ·subst e1;cases e2;have:=bH e;exact⟨v,by rw[ZaI (by rw[h.len];simpa using this)],r⟩
  ·obtain⟨w,e3,e4⟩:=h.sh j q e2;exact⟨w,by rw[Zab e1];exact e3,e4⟩
 ow:=λj q e=>by
  rcases get_set e with⟨e1,e2⟩|⟨e1,e2⟩
  ·cases e2
  ·obtain⟨w,e3,e4⟩:=h.ow j q e2;exact⟨w,by rw[Zab e1];exact e3,e4⟩
 dis:=λj k q q' a e e' f f'=>by
  rcases get_set e with⟨e1,e2⟩|⟨e1,e2⟩
  ·cases e2
  ·rcases get_set e' with⟨e1',e2'⟩|⟨e1',e2'⟩
   ·cases e2'
   ·rw[Zab e1] at f;rw[Zab e1'] at f';exact h.dis j k q q' a e2 e2' f f'
 dd:=let⟨P,d⟩:=h.dd;⟨P,d.own,d.dis,λj k q b z e f=>by
   rcases get_set e with⟨e1,e2⟩|⟨e1,e2⟩
   ·cases e2
   ·rw[Zab e1] at f;exact d.ow j k q b z e2 f,λj q e=>by
   rcases get_set e with⟨e1,e2⟩|⟨e1,e2⟩
   ·cases e2
   ·obtain⟨w,e3,e4⟩:=d.dp j q e2;exact⟨w,by rw[Zab e1];exact e3,e4⟩⟩
theorem RE.W8(h:RE K C F H σ ρ)(i:Nat)(r:Own K F H a p)(hn:F a=none)(nw:C.nw)(h0:C.H0 a=none)(ha:∀ (j:Nat) q,ρ[j]?=some (some (.ow q))->j≠i->σ[j]?≠some (some (.ref a)))(hd:∃ P,RD K C F H σ ρ P/\∀ j,¬P j a) :
  RE K C F H (σ.set i (some (.ref a))) (ρ.set i (some (.ow p))) where
 rb:=h.rb
 len:=by simp[h.len]
 sh:=λj q e=>by
  rcases get_set e with⟨e1,e2⟩|⟨e1,e2⟩
  ·cases e2
  ·obtain⟨w,e3,e4⟩:=h.sh j q e2;exact⟨w,by rw[Zab e1];exact e3,e4⟩
 ow:=λj q e=>by
  rcases get_set e with⟨e1,e2⟩|⟨e1,e2⟩
  ·subst e1;cases e2;have:=bH e;exact⟨a,by rw[ZaI (by rw[h.len];simpa using this)],r,hn,.inr ⟨nw,h0⟩⟩
  ·obtain⟨w,e3,e4⟩:=h.ow j q e2;exact⟨w,by rw[Zab e1];exact e3,e4⟩
 dis:=λj k q q' b e e' f f'=>by
  rcases get_set e with⟨e1,e2⟩|⟨e1,e2⟩
  ·rcases get_set e' with⟨e1',e2'⟩|⟨e1',e2'⟩
   ·exact e1.symm.trans e1'
   ·subst e1;have:=bH e;rw[ZaI (by rw[h.len];simpa using this)] at f
    cases f;rw[Zab e1'] at f';exact absurd f' (ha k q' e2' (Za0 e1'))
  ·rcases get_set e' with⟨e1',e2'⟩|⟨e1',e2'⟩
   ·subst e1';have:=bH e';rw[ZaI (by rw[h.len];simpa using this)] at f'
    cases f';rw[Zab e1] at f;exact absurd f (ha j q e2 (Za0 e1))
   ·rw[Zab e1] at f;rw[Zab e1'] at f';exact h.dis j k q q' b e2 e2' f f'
 dd:=let⟨P,d,na⟩:=hd;⟨P,d.own,d.dis,λj k q b z e f=>by
   rcases get_set e with⟨e1,e2⟩|⟨e1,e2⟩
   ·subst e1;have:=bH e;rw[ZaI (by rw[h.len];simpa using this)] at f
    cases f;exact na j z
   ·rw[Zab e1] at f;exact d.ow j k q b z e2 f,λj q e=>by
   rcases get_set e with⟨e1,e2⟩|⟨e1,e2⟩
   ·cases e2
   ·obtain⟨w,e3,e4⟩:=d.dp j q e2;exact⟨w,by rw[Zab e1];exact e3,e4⟩⟩
theorem RE.Vu(h:RE K C F H σ ρ)(n:H a=none)(u:Up F H F' H'):∃ P,RD K C F' H' σ ρ P/\∀ j,¬P j a:=by
 obtain⟨P,d⟩:=h.dd;exact⟨P,d.up u,λj z=>by obtain⟨_,⟨o,e,_⟩,_⟩:=d.own j a z;rw[n] at e;cases e⟩
theorem RE.apart(h:RE K C F H σ ρ)(n:H a=none)(j:Nat)(q:PV)(e:ρ[j]?=some (some (.ow q))):σ[j]?≠some (some (.ref a)):=λf=>by
 obtain⟨b,e1,e2,_⟩:=h.ow j q e;rw[e1] at f;cases f;obtain⟨o,eo⟩:=e2.ne;rw[eo] at n;cases n
theorem RE.write(h:RE K C F H σ ρ){i:Nat}{o:HO}{p':PV}(e:ρ[i]?=some (some (.ow p)))(ea:σ[i]?=some (some (.ref a)))(r:Own K F (upd H a o) a p') :
  RE K C F (upd H a o) σ (ρ.set i (some (.ow p'))):=by
 obtain⟨a',e1,e2,e3,e4⟩:=h.ow i p e;rw[ea] at e1;cases e1;have ne:∀ b u,F b=some u->b≠a:=λb u q z=>by rw[z,e3] at q;cases q
 refine⟨⟨λb u q=>by rw[aK (ne b u q)];exact h.rb.sub b u q,λb u q n=>?_,h.rb.new,λb hb=>⟨?_,(h.rb.ios b hb).2⟩⟩,by simp[h.len],λj q f=>?_,λj q f=>?_,λj k q q' b f f' g g'=>?_,?_⟩
 ·have:b≠a:=λz=>by
   subst z;rcases e4 with z|z
   ·exact n z
   ·rw[z.2] at q;cases q
  rw[aK this];exact h.rb.keep b u q n
 ·by_cases hba:b=a
  ·subst hba;rw[aN];simp
  ·rw[aK hba];exact(h.rb.ios b hb).1
 ·rcases get_set f with⟨e1,f2⟩|⟨e1,f2⟩
  ·cases f2
  ·exact h.sh j q f2
 ·rcases get_set f with⟨e1,f2⟩|⟨e1,f2⟩
  ·subst e1;cases f2;exact⟨a,ea,r,e3,e4⟩
  ·obtain⟨b,g1,g2,g3,g4⟩:=h.ow j q f2;refine⟨b,g1,g2.up (aL.refl _) λu qq=>?_,g3,g4⟩;have:b≠a:=λz=>by subst z;exact e1 (h.dis i j p q b e f2 ea g1)
   rw[aK this];exact qq
 ·have key:∀ (j:Nat) q,(ρ.set i (some (Sl.ow p')))[j]?=some (some (.ow q))->∃ q0,ρ[j]?=some (some (.ow q0)):=λj q f=>by
   rcases get_set f with⟨e1,f2⟩|⟨e1,f2⟩
   ·subst e1;exact⟨p,e⟩
   ·exact⟨q,f2⟩
  obtain⟨q0,k0⟩:=key j q f;obtain⟨q1,k1⟩:=key k q' f';exact h.dis j k q0 q1 b k0 k1 g g'
 ·obtain⟨P,d⟩:=h.dd;have na:∀ j b,P j b->b≠a:=λj b z e'=>by subst e';exact d.ow j i p b z e ea
  refine⟨P,λj b z=>?_,d.dis,λj k q b z f g=>?_,λj q f=>?_⟩
  ·rw[aK (na j b z)];exact d.own j b z
  ·rcases get_set f with⟨f1,f2⟩|⟨f1,f2⟩
   ·subst f1;exact d.ow j i p b z e g
   ·exact d.ow j k q b z f2 g
  ·rcases get_set f with⟨f1,f2⟩|⟨f1,f2⟩
   ·cases f2
   ·obtain⟨w,e3,e5⟩:=d.dp j q f2;exact⟨w,e3,e5.up (aL.refl _) (λb o z q=>by rw[aK (na j b z)];exact q) λb ys q=>by rw[aK λz=>by subst z;exact e2.uM q];exact q⟩
theorem RE.frz(h:RE K C F H σ ρ){i:Nat}(e:ρ[i]?=some (some (.ow p)))(hio:∀ a,σ[i]?=some (some (.ref a))->¬C.io a):∃ F',aL F F'/\RE K C F' H σ (ρ.set i (some (.sh p))):=by
 obtain⟨a,e1,e2,e3,e4⟩:=h.ow i p e;obtain⟨o,eo,r⟩:=e2.frozen e3;have h0:C.H0 a=none:=(e4.resolve_left (hio a e1)).2;have sf:aL F (upd F a o):=gk e3;have li:=bH e;refine⟨upd F a o,sf,⟨⟨λb u q=>?_,h.rb.keep,λb u q=>?_,h.rb.ios⟩,by simp[h.len],λj q f=>?_,λj q f=>?_,λj k q q' b f f' g g'=>?_,?_⟩⟩
 ·by_cases hb:b=a
  ·subst hb;rw[aN] at q;cases q;exact eo
  ·rw[aK hb] at q;exact h.rb.sub b u q
 ·by_cases hb:b=a
  ·subst hb;exact .inr (.inl h0)
  ·rw[aK hb] at q;exact h.rb.new b u q
 ·rcases get_set f with⟨f1,f2⟩|⟨f1,f2⟩
  ·subst f1;cases f2;exact⟨_,e1,r⟩
  ·obtain⟨v,g1,g2⟩:=h.sh j q f2;exact⟨v,g1,g2.up sf⟩
 ·rcases get_set f with⟨f1,f2⟩|⟨f1,f2⟩
  ·cases f2
  ·obtain⟨b,g1,g2,g3,g4⟩:=h.ow j q f2;refine⟨b,g1,g2.up sf λ_ z=>z,?_,g4⟩;have:b≠a:=λz=>by subst z;exact f1 (h.dis i j p q b e f2 e1 g1)
   rw[aK this];exact g3
 ·rcases get_set f with⟨f1,f2⟩|⟨f1,f2⟩
  ·cases f2
  ·rcases get_set f' with⟨f1',f2'⟩|⟨f1',f2'⟩
   ·cases f2'
   ·exact h.dis j k q q' b f2 f2' g g'
 ·obtain⟨P,d⟩:=h.dd;have na:∀ j b,P j b->b≠a:=λj b z e'=>by subst e';exact d.ow j i p b z e e1
  refine⟨P,λj b z=>?_,d.dis,λj k q b z f g=>?_,λj q f=>?_⟩
  ·rw[aK (na j b z)];exact d.own j b z
  ·rcases get_set f with⟨f1,f2⟩|⟨f1,f2⟩
   ·cases f2
   ·exact d.ow j k q b z f2 g
  ·rcases get_set f with⟨f1,f2⟩|⟨f1,f2⟩
   ·cases f2
   ·obtain⟨w,e3,e5⟩:=d.dp j q f2;exact⟨w,e3,e5.up sf (λ_ _ _ q=>q) λ_ _ q=>q⟩
end
structure Cg extends Cf where
 XR:Hp->Value->Option Addr->PV->Prop
def PX(C:Cg)(F:Hp)(z:PV):Prop:=∀ e d F' H',aL F F'->RB C.toCf F' H'->C.XR F' e d z->C.E e d H'
def Pr{α:Type}(C:Cg)(F:Hp)(ok:α->Prop):Res α->Prop
 |.ok a=>ok a
 |.ex z=>PX C F z
noncomputable abbrev Rel(α:Type):=Hp->Hp->V->α->Prop
def aF(K:PySem.W.Frag):Rel PV:=λF _ v p=>Rep K F v p
def aH(K:PySem.W.Frag):Rel PV:=λ_ H v p=>Rep K H v p
def aV(K:PySem.W.Frag):Rel (List PV):=λF H v l=>∃ a xs,v=.ref a/\SqL K H a xs/\bw K F xs l
def UpM{α:Type}(A:Rel α):Prop:=∀ F H F' H' v a,Up F H F' H'->A F H v a->A F' H' v a
theorem aF.up{K:PySem.W.Frag}:UpM (aF K):=λ_ _ _ _ _ _ u h=>Rep.up h u.ff
theorem aH.up{K:PySem.W.Frag}:UpM (aH K):=λ_ _ _ _ _ _ u h=>Rep.up h u.hh
theorem aV.up{K:PySem.W.Frag}:UpM (aV K):=λ_ _ _ _ _ _ u h=>let⟨a,xs,e,s,r⟩:=h;⟨a,xs,e,u.hh.seq s,r.up u.ff⟩
noncomputable abbrev Fn(α:Type):=Rho->Option (Res α)
def MJ{α:Type}(K:PySem.W.Frag)(C:Cg)(A:Rel α)(te:TE)(f:Fn α):Prop:=
 ∀ F H σ ρ Q r,RE K C.toCf F H σ ρ->f ρ=some r->Pr C F (λa=>∀ v F' H',Up F H F' H'->A F' H' v a->Q v H') r->te σ H Q
def MT(K:PySem.W.Frag)(C:Cg)(tt:TT)(f:Fn Bool):Prop:=
 ∀ F H σ ρ Q r,RE K C.toCf F H σ ρ->f ρ=some r->Pr C F (λb=>∀ F' H',Up F H F' H'->Q b H') r->tt σ H Q
def MA(K:PySem.W.Frag)(C:Cg)(ta:TA)(f:Fn (List PV)):Prop:=
 ∀ F H σ ρ Q r,RE K C.toCf F H σ ρ->f ρ=some r->Pr C F (λl=>∀ xs F' H',Up F H F' H'->bw K F' xs l->Q xs H') r->ta σ H Q
def MAL(K:PySem.W.Frag)(C:Cg)(ta:TA)(f:Fn (List PV)):Prop:=
 ∀ F H σ ρ Q r,RE K C.toCf F H σ ρ->f ρ=some r->Pr C F (λl=>∀ xs F' H',Up F H F' H'->bw K H' xs l->Q xs H') r->ta σ H Q
def MO(K:PySem.W.Frag)(C:Cg)(te:TE)(f:Fn PV):Prop:=
 ∀ F H σ ρ Q r,RE K C.toCf F H σ ρ->f ρ=some r->Pr C F (λp=>∀ a F' H',Up F H F' H'->H a=none->F' a=none->Own K F' H' a p->Q (.ref a) H') r->te σ H Q
theorem aX{α β:Type}{x:Option (Res α)}{k:α->Option (Res β)}{r:Res β}(h:bnd x k=some r):(∃ z,x=some (.ex z)/\r=.ex z)\/∃ a,x=some (.ok a)/\k a=some r:=by
 match x,h with
 |some (.ok a),h=>exact .inr ⟨a,rfl,h⟩
 |some (.ex z),h=>exact .inl ⟨z,rfl,(Zaa h).symm⟩
theorem PX.up{C:Cg}{F F1:Hp}{z:PV}(h:PX C F z)(s:aL F F1):PX C F1 z:=λe d F' H' a b c=>h e d F' H' (s.trans a) b c
theorem Pr.mono{α:Type}{C:Cg}{F F1:Hp}{ok ok':α->Prop}{r:Res α}(h:Pr C F ok r)(s:aL F F1)(k:∀ a,ok a->ok' a):Pr C F1 ok' r:=by
 cases r with
 |ok a=>exact k a h
 |ex z=>exact PX.up h s
section
variable{K:PySem.W.Frag}{C:Cg}{α β γ:Type}{A:Rel α}{B:Rel β}{D:Rel γ}{ta tb:TE}{f:Fn α}{g:Fn β}{F H:Hp}{σ:St}{ρ:Rho}{Q:VK}
theorem MJ.run{ok:β->Prop}{k:α->Option (Res β)}{r:Res β}(h:MJ K C A ta f)(R:RE K C.toCf F H σ ρ)(hb:bnd (f ρ) k=some r)(P:Pr C F ok r)
  (go:∀ p v F1 H1,k p=some r->Up F H F1 H1->A F1 H1 v p->Q v H1):ta σ H Q:=by
 rcases aX hb with⟨z,e,rfl⟩|⟨p,e,hk⟩
 ·exact h F H σ ρ Q _ R e P
 ·exact h F H σ ρ Q _ R e λv F1 H1 u a=>go p v F1 H1 hk u a
theorem MT.run{tt:TT}{f:Fn Bool}{Q:Bool->Hp->Prop}{ok:β->Prop}{k:Bool->Option (Res β)}{r:Res β}(h:MT K C tt f)(R:RE K C.toCf F H σ ρ)(hb:bnd (f ρ) k=some r)(P:Pr C F ok r)
  (go:∀ b F1 H1,k b=some r->Up F H F1 H1->Q b H1):tt σ H Q:=by
 rcases aX hb with⟨z,e,rfl⟩|⟨p,e,hk⟩
 ·exact h F H σ ρ Q _ R e P
 ·exact h F H σ ρ Q _ R e λF1 H1 u=>go p F1 H1 hk u
theorem MA.run{t:TA}{f:Fn (List PV)}{Q:List V->Hp->Prop}{ok:β->Prop}{k:List PV->Option (Res β)}{r:Res β}(h:MA K C t f)(R:RE K C.toCf F H σ ρ)(hb:bnd (f ρ) k=some r)(P:Pr C F ok r)
  (go:∀ l xs F1 H1,k l=some r->Up F H F1 H1->bw K F1 xs l->Q xs H1):t σ H Q:=by
 rcases aX hb with⟨z,e,rfl⟩|⟨p,e,hk⟩
 ·exact h F H σ ρ Q _ R e P
 ·exact h F H σ ρ Q _ R e λxs F1 H1 u a=>go p xs F1 H1 hk u a
theorem MO.run{f:Fn PV}{ok:β->Prop}{k:PV->Option (Res β)}{r:Res β}(h:MO K C ta f)(R:RE K C.toCf F H σ ρ)(hb:bnd (f ρ) k=some r)(P:Pr C F ok r)
  (go:∀ p a F1 H1,k p=some r->Up F H F1 H1->H a=none->F1 a=none->Own K F1 H1 a p->Q (.ref a) H1):ta σ H Q:=by
 rcases aX hb with⟨z,e,rfl⟩|⟨p,e,hk⟩
 ·exact h F H σ ρ Q _ R e P
 ·exact h F H σ ρ Q _ R e λa F1 H1 u h1 h2 h3=>go p a F1 H1 hk u h1 h2 h3
theorem Pr.later{D:Rel γ}{r:Res γ}{F1 H1:Hp}(P:Pr C F (λa=>∀ v F' H',Up F H F' H'->D F' H' v a->Q v H') r)(u:Up F H F1 H1):Pr C F1 (λa=>∀ v F' H',Up F1 H1 F' H'->D F' H' v a->Q v H') r:=
 P.mono u.ff λ_ h v F' H' u' d=>h v F' H' (u.trans u') d
theorem Pr.Om{Q:Bool->Hp->Prop}{r:Res Bool}{F1 H1:Hp}(P:Pr C F (λb=>∀ F' H',Up F H F' H'->Q b H') r)(u:Up F H F1 H1):Pr C F1 (λb=>∀ F' H',Up F1 H1 F' H'->Q b H') r:=
 P.mono u.ff λ_ h F' H' u'=>h F' H' (u.trans u')
theorem Pr.t7{r:Res PV}{F1 H1:Hp}(P:Pr C F (λp=>∀ a F' H',Up F H F' H'->H a=none->F' a=none->Own K F' H' a p->Q (.ref a) H') r)(u:Up F H F1 H1) :
  Pr C F1 (λp=>∀ a F' H',Up F1 H1 F' H'->H1 a=none->F' a=none->Own K F' H' a p->Q (.ref a) H') r:=
 P.mono u.ff λ_ h a F' H' u' n1 n2 d=>h a F' H' (u.trans u') (u.hh.free n1) n2 d
theorem Pr.Vv{Q:List V->Hp->Prop}{r:Res (List PV)}{F1 H1:Hp}(P:Pr C F (λl=>∀ xs F' H',Up F H F' H'->bw K F' xs l->Q xs H') r)(u:Up F H F1 H1):Pr C F1 (λl=>∀ xs F' H',Up F1 H1 F' H'->bw K F' xs l->Q xs H') r:=
 P.mono u.ff λ_ h xs F' H' u' d=>h xs F' H' (u.trans u') d
def mV(i:Nat):Fn PV:=λρ=>match ρ[i]? with
 |some (some (.sh p))=>some (.ok p)
 |_=>none
theorem ak(i:Nat):MJ K C (aF K) (my i) (mV i):=by
 intro F H σ ρ Q r R e P;unfold mV at e;split at e
 ·rename_i p hp;cases e;obtain⟨v,e1,e2⟩:=R.sh i p hp;exact⟨v,e1,P v F H (Up.refl R.rb.sub) e2⟩
 ·cases e
def mVL(i:Nat):Fn PV:=λρ=>match ρ[i]? with
 |some (some (.sh p))=>some (.ok p)
 |some (some (.ow p))=>some (.ok p)
 |_=>none
theorem bc(i:Nat):MJ K C (aH K) (my i) (mVL i):=by
 intro F H σ ρ Q r R e P;unfold mVL at e;split at e
 ·rename_i p hp;cases e;obtain⟨v,e1,e2⟩:=R.sh i p hp;exact⟨v,e1,P v F H (Up.refl R.rb.sub) (e2.up R.rb.sub)⟩
 ·rename_i p hp;cases e;obtain⟨a,e1,e2,e3,_⟩:=R.ow i p hp;exact⟨_,e1,P _ F H (Up.refl R.rb.sub) (e2.lent R.rb.sub)⟩
 ·cases e
def uN:PV->Option (Res (List PV))
 |.lst l=>some (.ok l)
 |_=>none
theorem Jy{f:Fn PV}(h:MJ K C (aF K) ta f):MJ K C (aV K) ta (λρ=>bnd (f ρ) uN):=by
 intro F H σ ρ Q r R e P;refine h.run R e P λp v F1 H1 hk u a=>?_
 match p,hk with
 |.lst l,hk=>
  cases hk;obtain⟨b,xs,rfl,s,rr⟩:=Rep.cJ a;exact P _ F1 H1 u ⟨b,xs,rfl,u.fh.seq s,rr⟩
theorem lH(i:Nat):MJ K C (aV K) (my i) (λρ=>bnd (mVL i ρ) uN):=by
 intro F H σ ρ Q r R e P;rcases aX e with⟨z,e1,rfl⟩|⟨p,e1,hk⟩
 ·unfold mVL at e1;split at e1<;>cases e1
 ·unfold mVL at e1
  match p,hk with
  |.lst l,hk=>
   cases hk;split at e1
   ·rename_i q hq;cases e1;obtain⟨v,e2,e3⟩:=R.sh i _ hq;obtain⟨b,xs,rfl,s,rr⟩:=Rep.cJ e3;exact⟨_,e2,P _ F H (Up.refl R.rb.sub) ⟨b,xs,rfl,R.rb.sub.seq s,rr⟩⟩
   ·rename_i q hq;cases e1;obtain⟨a,e2,⟨xs,e3,rr⟩,_⟩:=R.ow i _ hq;exact⟨_,e2,P _ F H (Up.refl R.rb.sub) ⟨a,xs,rfl,SqL.of e3,rr⟩⟩
   ·cases e1
theorem bA{f:Fn PV}(h:MJ K C (aF K) ta f):MJ K C (aH K) ta f:=by
 intro F H σ ρ Q r R e P;refine h F H σ ρ Q r R e ?_;exact P.mono (aL.refl _) λ_ k v F' H' u d=>k v F' H' u (Rep.up d u.fh)
def mC(p:PV):Fn PV:=λ_=>some (.ok p)
theorem Oo{v:V}{p:PV}(h:∀ F,Rep K F v p):MJ K C (aF K) (tC v) (mC p):=by
 intro F H σ ρ Q r R e P;cases e;exact P v F H (Up.refl R.rb.sub) (h F)
theorem az{i:Int}:MJ K C (aF K) (tC (.int i)) (mC (.int i)):=Oo λ_=>.int
theorem nq{i:Bool}:MJ K C (aF K) (tC (.bl i)) (mC (.bl i)):=Oo λ_=>.bl
theorem cj{i:Str}:MJ K C (aF K) (tC (.str i)) (mC (.str i)):=Oo λ_=>.str
theorem Oq:MJ K C (aF K) (tC .non) (mC .non):=Oo λ_=>.non
theorem Uk{n:String}:MJ K C (aF K) (tC (.ty n)) (mC (.ty n)):=Oo λ_=>.ty
theorem cC{f:Fn PV}(h:MO K C ta f):MJ K C (aF K) ta f:=by
 intro F H σ ρ Q r R e P;refine h F H σ ρ Q r R e (P.mono (aL.refl _) λp k a F' H' u n1 n2 o=>?_);obtain⟨ob,eo,rr⟩:=o.frozen n2;refine k _ (upd F' a ob) H' ⟨u.ff.trans (gk n2),u.hh,λb x q=>?_,λb x q=>?_⟩ rr
 ·by_cases hb:b=a
  ·subst hb;exact .inr (.inl n1)
  ·rw[aK hb] at q;exact u.fr b x q
 ·by_cases hb:b=a
  ·subst hb;rw[aN] at q;cases q;exact eo
  ·rw[aK hb] at q;exact u.fh b x q
theorem pN{f:Fn PV}(h:MO K C ta f):MJ K C (aV K) ta (λρ=>bnd (f ρ) uN):=Jy (cC h)
def m2{α β γ:Type}(op:α->β->Option (Res γ))(f:Fn α)(g:Fn β):Fn γ:=λρ=>bnd (f ρ) λa=>bnd (g ρ) λb=>op a b
def R2M(C:Cg)(A:Rel α)(B:Rel β)(D:Rel γ)(r:R2)(op:α->β->Option (Res γ)):Prop:=
 ∀ F H x y a b res Q,aL F H->A F H x a->B F H y b->op a b=some res->Pr C F (λc=>∀ v F' H',Up F H F' H'->D F' H' v c->Q v H') res->r x y H Q
theorem aC{op:α->β->Option (Res γ)}{r2:R2}(up:UpM A)(rule:R2M C A B D r2 op)(ha:MJ K C A ta f)(hb:MJ K C B tb g):MJ K C D (tOp r2 ta tb) (m2 op f g):=by
 intro F H σ ρ Q r R e P;refine ha.run R e P λp v F1 H1 hk u a=>?_;refine hb.run (R.up u) hk (P.later u) λq w F2 H2 hk2 u2 b=>?_;exact rule F2 H2 v w p q r Q u2.fh (up _ _ _ _ _ _ u2 a) b hk2 (P.later (u.trans u2))
def R2O(K:PySem.W.Frag)(C:Cg)(A:Rel α)(B:Rel β)(r:R2)(op:α->β->Option (Res PV)):Prop:=
 ∀ F H x y a b res Q,aL F H->A F H x a->B F H y b->op a b=some res->Pr C F (λp=>∀ a F' H',Up F H F' H'->H a=none->F' a=none->Own K F' H' a p->Q (.ref a) H') res->r x y H Q
theorem Ul{op:α->β->Option (Res PV)}{r2:R2}(up:UpM A)(rule:R2O K C A B r2 op)(ha:MJ K C A ta f)(hb:MJ K C B tb g):MO K C (tOp r2 ta tb) (m2 op f g):=by
 intro F H σ ρ Q r R e P;refine ha.run R e P λp v F1 H1 hk u a=>?_;refine hb.run (R.up u) hk (P.t7 u) λq w F2 H2 hk2 u2 b=>?_;exact rule F2 H2 v w p q r Q u2.fh (up _ _ _ _ _ _ u2 a) b hk2 (P.t7 (u.trans u2))
def m1{α γ:Type}(op:α->Option (Res γ))(f:Fn α):Fn γ:=λρ=>bnd (f ρ) op
def An(o1 o2:PV->PV->Option (Res PV))(f g h:Fn PV):Fn PV:=λρ=>bnd (f ρ) λa=>bnd (g ρ) λb=>bnd (o1 a b) λz=>match z with
 |.bl true=>bnd (h ρ) λc=>o2 b c
 |.bl false=>some (.ok (.bl false))
 |_=>none
theorem Ot{o1 o2:PV->PV->Option (Res PV)}{r r':R2}{tc:TE}{f g h:Fn PV}(r1:R2M C (aF K) (aF K) (aF K) r o1)(r2:R2M C (aF K) (aF K) (aF K) r' o2)(ha:MJ K C (aF K) ta f)(hb:MJ K C (aF K) tb g)(hc:MJ K C (aF K) tc h) :
  MJ K C (aF K) (Nk r r' ta tb tc) (An o1 o2 f g h):=by
 intro F H σ ρ Q r R e P;refine ha.run R e P λp v F1 H1 hk u a=>?_;refine hb.run (R.up u) hk (P.later u) λq w F2 H2 hk2 u2 b=>?_;rcases aX hk2 with⟨z,e1,rfl⟩|⟨z,e1,hk3⟩
 ·exact r1 F2 H2 v w p q _ _ u2.fh (aF.up _ _ _ _ _ _ u2 a) b e1 (PX.up P (u.trans u2).ff)
 ·refine r1 F2 H2 v w p q _ _ u2.fh (aF.up _ _ _ _ _ _ u2 a) b e1 λvz F3 H3 u3 rz=>?_
  match z,hk3 with
  |.bl true,hk3=>
   cases Rep.gU rz;refine⟨true,rfl,?_⟩;rw[Zag rfl];have u13:=u.trans (u2.trans u3);refine hc.run (R.up u13) hk3 (P.later u13) λc wc F4 H4 hk4 u4 rc=>?_;exact r2 F4 H4 w wc q c _ Q u4.fh (Rep.up b (u3.trans u4).ff) rc hk4 (P.later (u13.trans u4))
  |.bl false,hk3=>
   cases Rep.gU rz;cases hk3;refine⟨false,rfl,?_⟩;rw[Zal (by decide)]
   exact P _ F3 H3 (u.trans (u2.trans u3)) .bl
def zf(f g:Fn PV):Fn PV:=λρ=>bnd (f ρ) λa=>match a with
 |.bl true=>g ρ
 |.bl false=>some (.ok (.bl false))
 |_=>none
theorem Hr{f g:Fn PV}(ha:MJ K C (aF K) ta f)(hb:MJ K C (aF K) tb g):MJ K C (aF K) (T9 ta tb) (zf f g):=by
 intro F H σ ρ Q r R e P;refine ha.run R e P λp v F1 H1 hk u a=>?_
 match p,hk with
 |.bl true,hk=>
  cases Rep.gU a;refine⟨true,rfl,?_⟩;rw[Zag rfl];exact hb F1 H1 σ ρ Q r (R.up u) hk (P.later u)
 |.bl false,hk=>
  cases Rep.gU a;cases hk;refine⟨false,rfl,?_⟩;rw[Zal (by decide)]
  exact P _ F1 H1 u .bl
def cV:PV->Option (Res Bool)
 |.bl b=>some (.ok b)
 |_=>none
theorem bf{f:Fn PV}(ha:MJ K C (aF K) ta f):MT K C (Jq ta) (m1 cV f):=by
 intro F H σ ρ Q r R e P;refine ha.run R e P λp v F1 H1 hk u a=>?_
 match p,hk with
 |.bl b,hk=>
  cases Rep.gU a;cases hk;exact⟨b,rfl,P F1 H1 u⟩
theorem mH{f:Fn PV}(ha:MJ K C (aF K) ta f):MT K C (tB ta) (m1 cV f):=bf ha
def yh(f g:Fn Bool):Fn Bool:=λρ=>bnd (f ρ) λa=>if a=true then g ρ else some (.ok false)
def mOr(f g:Fn Bool):Fn Bool:=λρ=>bnd (f ρ) λa=>if a=true then some (.ok true) else g ρ
def u5(f:Fn Bool):Fn Bool:=λρ=>bnd (f ρ) λa=>some (.ok (!a))
variable{c d:TT}{fc gc:Fn Bool}
theorem qP(ha:MT K C c fc)(hb:MT K C d gc):MT K C (Ww c d) (yh fc gc):=by
 intro F H σ ρ Q r R e P;refine ha.run R e P λb F1 H1 hk u=>?_;cases b with
 |true=>rw[Zag rfl] at hk ⊢;exact hb F1 H1 σ ρ Q r (R.up u) hk (P.Om u)
 |false=>rw[Zal (by decide)] at hk ⊢;cases hk;exact P F1 H1 u
theorem Jz(ha:MT K C c fc)(hb:MT K C d gc):MT K C (tOr c d) (mOr fc gc):=by
 intro F H σ ρ Q r R e P;refine ha.run R e P λb F1 H1 hk u=>?_;cases b with
 |true=>rw[Zag rfl] at hk ⊢;cases hk;exact P F1 H1 u
 |false=>rw[Zal (by decide)] at hk ⊢;exact hb F1 H1 σ ρ Q r (R.up u) hk (P.Om u)
theorem ou(ha:MT K C c fc):MT K C (Wx c) (u5 fc):=by
 intro F H σ ρ Q r R e P;refine ha.run R e P λb F1 H1 hk u=>?_;cases hk;exact P F1 H1 u
def aR:Fn (List PV):=λ_=>some (.ok [])
def au(f:Fn PV)(g:Fn (List PV)):Fn (List PV):=λρ=>bnd (f ρ) λa=>bnd (g ρ) λl=>some (.ok (a::l))
theorem aJ:MA K C qi aR:=λF H σ ρ Q r R e P=>by
 cases e;exact P [] F H (Up.refl R.rb.sub) .nil
theorem ao{f:Fn PV}{g:Fn (List PV)}{t:TA}(ha:MJ K C (aF K) ta f)(hb:MA K C t g):MA K C (gR ta t) (au f g):=by
 intro F H σ ρ Q r R e P;refine ha.run R e P λp v F1 H1 hk u a=>?_;refine hb.run (R.up u) hk (P.Vv u) λl xs F2 H2 hk2 u2 b=>?_;cases hk2;exact P _ F2 H2 (u.trans u2) (b.cons (Rep.up a u2.ff))
theorem Up.yj{F H:Hp}{a:Addr}{o:HO}(s:aL F H)(h:H a=none):Up F H F (upd H a o):=⟨aL.refl _,gk h,λ_ _ q=>.inl q,s.trans (gk h)⟩
theorem Up.new{F H:Hp}{a:Addr}{o:HO}(s:aL F H)(h:H a=none):Up F H (upd F a o) (upd H a o):=by
 have hf:F a=none:=s.free h;refine⟨gk hf,gk h,λb u q=>?_,λb u q=>?_⟩
 ·by_cases hb:b=a
  ·subst hb;exact .inr (.inl h)
  ·rw[aK hb] at q;exact .inl q
 ·by_cases hb:b=a
  ·subst hb;rw[aN] at q ⊢;exact q
  ·rw[aK hb] at q ⊢;exact s b u q
def t8(f:Fn (List PV)):Fn PV:=λρ=>bnd (f ρ) λl=>if l.length<=sizeLine then some (.ok (.tup l)) else none
def jq(f:Fn (List PV)):Fn PV:=λρ=>bnd (f ρ) λl=>if l.length<=sizeLine then some (.ok (.lst l)) else none
theorem vZ{t:TA}{f:Fn (List PV)}(h:MA K C t f):MJ K C (aF K) (Rw t) (t8 f):=by
 intro F H σ ρ Q r R e P;refine h.run R e P λl xs F1 H1 hk u a=>?_;split at hk
 ·rename_i hl;cases hk;refine⟨by rw[a.1];exact hl,λp hp=>?_⟩
  have un:=Up.new (o:=.tup xs) u.fh hp;exact P _ _ _ (u.trans un) (.tup aN a.1 (a.up un.ff).2)
 ·cases hk
theorem dD{t:TA}{f:Fn (List PV)}(h:MA K C t f):MO K C (Vm t) (jq f):=by
 intro F H σ ρ Q r R e P;refine h.run R e P λl xs F1 H1 hk u a=>?_;split at hk
 ·rename_i hl;cases hk;refine⟨by rw[a.1];exact hl,λp hp=>?_⟩
  exact P _ _ _ (u.trans (Up.yj u.fh hp)) (u.hh.free hp) (u.fh.free hp) ⟨xs,aN,a⟩
 ·cases hk
def spM(K:PySem.W.Frag)(XR:Hp->Value->Option Addr->PV->Prop)(m:List PV->Option (Res PV)):Sp:=λvs H Q E=>∃ ps F r,aL F H/\bw K F vs ps/\m ps=some r/\match r with
 |.ok p=>∀ v F' H',Up F H F' H'->Rep K F' v p->Q v H'
 |.ex z=>∀ e d F' H',Up F H F' H'->XR F' e d z->E e d H'
def spO(K:PySem.W.Frag)(XR:Hp->Value->Option Addr->PV->Prop)(m:List PV->Option (Res PV)):Sp:=λvs H Q E=>∃ ps F r,aL F H/\bw K F vs ps/\m ps=some r/\match r with
 |.ok p=>∀ a F' H',Up F H F' H'->H a=none->F' a=none->Own K F' H' a p->Q (.ref a) H'
 |.ex z=>∀ e d F' H',Up F H F' H'->XR F' e d z->E e d H'
def bR(m:List PV->Option (Res PV))(f:Fn (List PV)):Fn PV:=λρ=>bnd (f ρ) m
theorem cz{t:TA}{f:Fn (List PV)}{m:List PV->Option (Res PV)}(h:MA K C t f):MJ K C (aF K) (m9 (spM K C.XR m) [] C.E t) (bR m f):=by
 intro F H σ ρ Q r R e P;refine h.run R e P λl xs F1 H1 hk u a=>?_;refine⟨l,F1,r,u.fh,by rw[Zaw];exact a,hk,?_⟩
 cases r with
 |ok p=>exact λv F' H' u' rv=>P v F' H' (u.trans u') rv
 |ex z=>exact λe d F' H' u' x=>P e d F' H' (u.trans u').ff (R.rb.up (u.trans u')) x
theorem vo{t:TA}{f:Fn (List PV)}{m:List PV->Option (Res PV)}(h:MA K C t f):MO K C (m9 (spO K C.XR m) [] C.E t) (bR m f):=by
 intro F H σ ρ Q r R e P;refine h.run R e P λl xs F1 H1 hk u a=>?_;refine⟨l,F1,r,u.fh,by rw[Zaw];exact a,hk,?_⟩
 cases r with
 |ok p=>exact λv F' H' u' n1 n2 rv=>P v F' H' (u.trans u') (u.hh.free n1) n2 rv
 |ex z=>exact λe d F' H' u' x=>P e d F' H' (u.trans u').ff (R.rb.up (u.trans u')) x
end
inductive Out where
 |nx (ρ:Rho)|rt (p:PV)|ro (p:PV)|rd (p:PV)|bk (ρ:Rho)|ct (ρ:Rho)|ex (z:PV)
noncomputable abbrev Sn:=Rho->Option Out
def PO'(K:PySem.W.Frag)(C:Cg)(F:Hp)(D:Ends):Out->Prop
 |.nx ρ=>∀ F' H' σ,aL F F'->RE K C.toCf F' H' σ ρ->D.nx σ H'
 |.bk ρ=>∀ F' H' σ,aL F F'->RE K C.toCf F' H' σ ρ->D.bk σ H'
 |.ct ρ=>∀ F' H' σ,aL F F'->RE K C.toCf F' H' σ ρ->D.ct σ H'
 |.rt p=>∀ v F' H',aL F F'->RB C.toCf F' H'->Rep K F' v p->D.rt v H'
 |.ro p=>∀ a F' H',aL F F'->RB C.toCf F' H'->Own K F' H' a p->F' a=none->C.H0 a=none->D.rt (.ref a) H'
 |.rd p=>∀ v F' H' S,aL F F'->RB C.toCf F' H'->Dp K F' H' S v p->(∀ b,S b->F' b=none/\(∃ o,H' b=some o/\∀ ys,o≠.tup ys)/\C.H0 b=none)->D.rt v H'
 |.ex z=>PX C F z
def MS(K:PySem.W.Frag)(C:Cg)(t:TS)(f:Sn):Prop:=∀ F H σ ρ D o,RE K C.toCf F H σ ρ->f ρ=some o->PO' K C F D o->t D σ H
def gb{α:Type}(x:Option (Res α))(k:α->Option Out):Option Out:=match x with
 |some (.ok a)=>k a
 |some (.ex z)=>some (.ex z)
 |none=>none
theorem bK{α:Type}{x:Option (Res α)}{k:α->Option Out}{o:Out}(h:gb x k=some o):(∃ z,x=some (.ex z)/\o=.ex z)\/∃ a,x=some (.ok a)/\k a=some o:=by
 match x,h with
 |some (.ok a),h=>exact .inr ⟨a,rfl,h⟩
 |some (.ex z),h=>exact .inl ⟨z,rfl,(Zaa h).symm⟩
section
variable{K:PySem.W.Frag}{C:Cg}{α:Type}{A:Rel α}{ta tb te:TE}{F H:Hp}{σ:St}{ρ:Rho}{D:Ends}{t u:TS}{f g:Sn}{o:Out}
theorem PO'.up{F1:Hp}(h:PO' K C F D o)(s:aL F F1):PO' K C F1 D o:=by
 cases o with
 |nx ρ=>exact λF' H' σ a=>h F' H' σ (s.trans a)
 |bk ρ=>exact λF' H' σ a=>h F' H' σ (s.trans a)
 |ct ρ=>exact λF' H' σ a=>h F' H' σ (s.trans a)
 |rt p=>exact λv F' H' a=>h v F' H' (s.trans a)
 |ro p=>exact λv F' H' a=>h v F' H' (s.trans a)
 |rd p=>exact λv F' H' S a=>h v F' H' S (s.trans a)
 |ex z=>exact PX.up h s
theorem MJ.oA{fe:Fn α}{Q:VK}{k:α->Option Out}(h:MJ K C A ta fe)(R:RE K C.toCf F H σ ρ)(hb:gb (fe ρ) k=some o)(P:PO' K C F D o)
  (go:∀ p v F1 H1,k p=some o->Up F H F1 H1->A F1 H1 v p->Q v H1):ta σ H Q:=by
 rcases bK hb with⟨z,e,rfl⟩|⟨p,e,hk⟩
 ·exact h F H σ ρ Q _ R e P
 ·exact h F H σ ρ Q _ R e λv F1 H1 u a=>go p v F1 H1 hk u a
theorem MO.oA{fe:Fn PV}{Q:VK}{k:PV->Option Out}(h:MO K C ta fe)(R:RE K C.toCf F H σ ρ)(hb:gb (fe ρ) k=some o)(P:PO' K C F D o)
  (go:∀ p a F1 H1,k p=some o->Up F H F1 H1->H a=none->F1 a=none->Own K F1 H1 a p->Q (.ref a) H1):ta σ H Q:=by
 rcases bK hb with⟨z,e,rfl⟩|⟨p,e,hk⟩
 ·exact h F H σ ρ Q _ R e P
 ·exact h F H σ ρ Q _ R e λa F1 H1 u n1 n2 w=>go p a F1 H1 hk u n1 n2 w
theorem MT.oA{tt:TT}{fe:Fn Bool}{Q:Bool->Hp->Prop}{k:Bool->Option Out}(h:MT K C tt fe)(R:RE K C.toCf F H σ ρ)(hb:gb (fe ρ) k=some o)(P:PO' K C F D o)
  (go:∀ b F1 H1,k b=some o->Up F H F1 H1->Q b H1):tt σ H Q:=by
 rcases bK hb with⟨z,e,rfl⟩|⟨p,e,hk⟩
 ·exact h F H σ ρ Q _ R e P
 ·exact h F H σ ρ Q _ R e λF1 H1 u=>go p F1 H1 hk u
def dU:Sn:=λρ=>some (.nx ρ)
def bB(f g:Sn):Sn:=λρ=>match f ρ with
 |some (.nx ρ')=>g ρ'
 |x=>x
theorem bT:MS K C Ua dU:=λF H σ ρ D o R e P=>by
 cases e;exact P F H σ (aL.refl _) R
theorem aP(h1:MS K C t f)(h2:MS K C u g):MS K C (KC t u) (bB f g):=by
 intro F H σ ρ D o R e P;unfold bB at e;split at e
 ·rename_i ρ' h;refine h1 F H σ ρ _ _ R h ?_;exact λF' H' σ' s R'=>h2 F' H' σ' ρ' D o R' e (P.up s)
 ·rename_i x hx;cases o with
  |nx ρ'=>exact absurd e (hx ρ')
  |bk ρ=>exact h1 F H σ _ _ _ R e P
  |ct ρ=>exact h1 F H σ _ _ _ R e P
  |rt p=>exact h1 F H σ _ _ _ R e P
  |ro p=>exact h1 F H σ _ _ _ R e P
  |rd p=>exact h1 F H σ _ _ _ R e P
  |ex z=>exact h1 F H σ _ _ _ R e P
def MG(K:PySem.W.Frag)(C:Cg)(g:TG)(tg:PV->Rho->Option Rho):Prop:=
 ∀ F H σ ρ v p ρ' Q,RE K C.toCf F H σ ρ->Rep K F v p->tg p ρ=some ρ'->(∀ σ',RE K C.toCf F H σ' ρ'->Q σ' H)->g v σ H Q
def MGs(K:PySem.W.Frag)(C:Cg)(g:TGs)(tg:List PV->Rho->Option Rho):Prop:=
 ∀ F H σ ρ vs ps ρ' Q,RE K C.toCf F H σ ρ->bw K F vs ps->tg ps ρ=some ρ'->(∀ σ',RE K C.toCf F H σ' ρ'->Q σ' H)->g vs σ H Q
def gN(i:Nat):PV->Rho->Option Rho:=λp ρ=>some (ρ.set i (some (.sh p)))
theorem aO(i:Nat):MG K C (lD i) (gN i):=λF H σ ρ v p ρ' Q R r e k=>by
 cases e;exact k _ (R.set i r)
def gsNil:List PV->Rho->Option Rho
 |[],ρ=>some ρ
 |_::_,_=>none
def gsCons(t:PV->Rho->Option Rho)(u:List PV->Rho->Option Rho):List PV->Rho->Option Rho
 |[],_=>none
 |p::l,ρ=>match t p ρ with
  |some ρ'=>u l ρ'
  |none=>none
theorem Ao:MGs K C Vd gsNil:=λF H σ ρ vs ps ρ' Q R r e k=>by
 cases ps with
 |nil=>cases e;exact⟨r.rO,k σ R⟩
 |cons p l=>cases e
theorem lJ{g:TG}{gs:TGs}{tg:PV->Rho->Option Rho}{tgs:List PV->Rho->Option Rho}(h:MG K C g tg)(hs:MGs K C gs tgs):MGs K C (Jo g gs) (gsCons tg tgs):=λF H σ ρ vs ps ρ' Q R r e k=>by
 cases ps with
 |nil=>cases e
 |cons p l=>
  obtain⟨v,ys,rfl,r1,r2⟩:=r.oh;have e':(match tg p ρ with
   |some ρ'=>tgs l ρ'
   |none=>none)=some ρ':=e
  split at e'
  ·rename_i ρ1 h1;exact⟨v,ys,rfl,h F H σ ρ v p ρ1 _ R r1 h1 λσ' R'=>hs F H σ' ρ1 ys l ρ' Q R' r2 e' k⟩
  ·cases e'
def gT(n:Nat)(t:List PV->Rho->Option Rho):PV->Rho->Option Rho:=λp ρ=>match p with
 |.tup l=>if l.length=n then t l ρ else none
 |_=>none
theorem Hs{n:Nat}{gs:TGs}{tgs:List PV->Rho->Option Rho}(hs:MGs K C gs tgs):MG K C (Rj K n gs) (gT n tgs):=λF H σ ρ v p ρ' Q R r e k=>by
 unfold gT at e;split at e
 ·rename_i l;split at e
  ·rename_i hn;obtain⟨a,xs,rfl,hq,rr⟩:=r.cG;exact⟨a,xs,rfl,R.rb.sub.tup hq,by rw[rr.1];exact hn,hs F H σ ρ xs l ρ' Q R rr e k⟩
  ·cases e
 ·cases e
def dW(fe:Fn PV)(tg:PV->Rho->Option Rho):Sn:=λρ=>gb (fe ρ) λp=>match tg p ρ with
 |some ρ'=>some (.nx ρ')
 |none=>none
theorem bN{fe:Fn PV}{gt:TG}{tg:PV->Rho->Option Rho}(h:MJ K C (aF K) te fe)(hg:MG K C gt tg):MS K C (uY te gt) (dW fe tg):=by
 intro F H σ ρ D o R e P;refine h.oA R e P λp v F1 H1 hk u a=>?_;split at hk
 ·rename_i ρ' h1;cases hk;exact hg F1 H1 σ ρ v p ρ' _ (R.up u) a h1 λσ' R'=>P F1 H1 σ' u.ff R'
 ·cases hk
def uO(i:Nat)(fe:Fn PV):Sn:=λρ=>gb (fe ρ) λp=>some (.nx (ρ.set i (some (.ow p))))
theorem rP{i:Nat}{fe:Fn PV}(nw:C.nw)(h:MO K C te fe):MS K C (uY te (lD i)) (uO i fe):=by
 intro F H σ ρ D o R e P;refine h.oA R e P λp a F1 H1 hk u n1 n2 w=>?_;cases hk;exact P F1 H1 _ u.ff ((R.up u).W8 i w n2 nw (R.rb.nj n1) (λj q hj _=>R.apart n1 j q hj) (R.Vu n1 u))
def nu(fe:Fn PV):Sn:=λρ=>gb (fe ρ) λ_=>some (.nx ρ)
theorem Aq{fe:Fn PV}(h:MJ K C (aF K) te fe):MS K C (uG te) (nu fe):=by
 intro F H σ ρ D o R e P;refine h.oA R e P λp v F1 H1 hk u a=>?_;cases hk;exact P F1 H1 σ u.ff (R.up u)
def gm(fe:Fn PV):Sn:=λρ=>gb (fe ρ) λp=>some (.rt p)
theorem bU{fe:Fn PV}(h:MJ K C (aF K) te fe):MS K C (GQ te) (gm fe):=by
 intro F H σ ρ D o R e P;refine h.oA R e P λp v F1 H1 hk u a=>?_;cases hk;exact P v F1 H1 u.ff (R.rb.up u) a
def oE(fe:Fn PV):Sn:=λρ=>gb (fe ρ) λp=>some (.ro p)
theorem jW{fe:Fn PV}(h:MO K C te fe):MS K C (GQ te) (oE fe):=by
 intro F H σ ρ D o R e P;refine h.oA R e P λp a F1 H1 hk u n1 n2 w=>?_;cases hk;exact P a F1 H1 u.ff (R.rb.up u) w n2 (R.rb.nj n1)
def ownAt(i:Nat)(ρ:Rho):Option PV:=match ρ[i]? with
 |some (some (.ow p))=>some p
 |_=>none
theorem bC{i:Nat}{p:PV}(h:ownAt i ρ=some p):ρ[i]?=some (some (.ow p)):=by
 unfold ownAt at h;split at h
 ·rename_i q hq;cases h;exact hq
 ·cases h
def Ht(i:Nat)(ρ:Rho):Rho:=match ownAt i ρ with
 |some p=>ρ.set i (some (.sh p))
 |none=>ρ
theorem Hu(i:Nat)(hio:∀ a,¬C.io a)(h:MS K C t f):MS K C t (λρ=>f (Ht i ρ)):=by
 intro F H σ ρ D o R e P;have e:f (Ht i ρ)=some o:=e;unfold Ht at e;cases hp:ownAt i ρ with
 |none=>rw[hp] at e;exact h F H σ ρ D o R e P
 |some p=>
  rw[hp] at e;obtain⟨F',s,R'⟩:=R.frz (bC hp) λa _=>hio a;exact h F' H σ _ D o R' e (P.up s)
def Ar(i:Nat)(fe:Fn PV):Sn:=λρ=>match ownAt i ρ with
 |some (.lst l)=>gb (fe ρ) λp=>if l.length<sizeLine then some (.nx (ρ.set i (some (.ow (.lst (l++[p])))))) else none
 |_=>none
theorem Av{i:Nat}{fe:Fn PV}(h:MJ K C (aF K) te fe):MS K C (uG (tBM K "list" Ai (my i) (gR te qi))) (Ar i fe):=by
 intro F H σ ρ D o R e P;unfold Ar at e;split at e
 ·rename_i l hl;obtain⟨a,g1,⟨xs,g2,g3⟩,g4,g5⟩:=R.ow i _ (bC hl);refine⟨_,g1,tyL g2,h.oA R e P λp v F1 H1 hk u w=>?_⟩;split at hk
  ·rename_i hlen;cases hk;obtain⟨a',k1,⟨ys,k2,k3⟩,k4,k5⟩:=(R.up u).ow i _ (bC hl);rw[g1] at k1;cases k1;refine⟨a,ys,v,rfl,rfl,k2,by rw[k3.1];exact hlen,?_⟩
   exact P F1 _ σ u.ff ((R.up u).write (bC hl) g1 ⟨_,aN,k3.snoc w⟩)
  ·cases hk
 ·cases e
def RX(i:Nat)(fe fi:Fn PV):Sn:=λρ=>gb (fe ρ) λp=>match ownAt i ρ with
 |some (.lst l)=>gb (fi ρ) λk=>match k with
  |.int k=>match ixN l.length k with
   |some j=>some (.nx (ρ.set i (some (.ow (.lst (l.set j p))))))
   |none=>none
  |_=>none
 |_=>none
theorem Vw{i:Nat}{fe fi:Fn PV}(h:MJ K C (aF K) te fe)(hi:MJ K C (aF K) tb fi):MS K C (uY te (Wz (my i) tb Ud)) (RX i fe fi):=by
 intro F H σ ρ D o R e P;refine h.oA R e P λp v F1 H1 hk u a=>?_;split at hk
 ·rename_i l hl;obtain⟨b,g1,_⟩:=R.ow i _ (bC hl);refine⟨_,g1,hi.oA (R.up u) hk (P.up u.ff) λq w F2 H2 hk2 u2 rw'=>?_⟩;split at hk2
  ·rename_i k;split at hk2
   ·rename_i j hj;cases hk2;cases Rep.aZ rw';obtain⟨a',k1,⟨ys,k2,k3⟩,k4,k5⟩:=(R.up (u.trans u2)).ow i _ (bC hl);rw[g1] at k1;cases k1;refine⟨b,ys,k,j,rfl,rfl,k2,by rw[k3.1];exact hj,?_⟩
    exact P F2 _ σ (u.trans u2).ff ((R.up (u.trans u2)).write (bC hl) g1 ⟨_,aN,k3.set (Rep.up a u2.ff) j⟩)
   ·cases hk2
  ·cases hk2
 ·cases hk
def eV(fc:Fn Bool)(f g:Sn):Sn:=λρ=>gb (fc ρ) λb=>if b=true then f ρ else g ρ
theorem eN{c:TT}{fc:Fn Bool}(hc:MT K C c fc)(h1:MS K C t f)(h2:MS K C u g):MS K C (M5 c t u) (eV fc f g):=by
 intro F H σ ρ D o R e P;refine hc.oA R e P λb F1 H1 hk uu=>?_;cases b with
 |true=>rw[Zag rfl] at hk ⊢;exact h1 F1 H1 σ ρ D o (R.up uu) hk (P.up uu.ff)
 |false=>rw[Zal (by decide)] at hk ⊢;exact h2 F1 H1 σ ρ D o (R.up uu) hk (P.up uu.ff)
structure ItR(K:PySem.W.Frag)(J:It)(F:Hp)(l:List PV):Prop where
 stop:∀ F' H',aL F F'->aL F' H'->J.stop l.length H'
 go:∀ i F' H',i<l.length->aL F F'->aL F' H'->J.go i H'
 yld:∀ i F' H' x H'',i<l.length->aL F F'->aL F' H'->J.yld i H' x H''->∃ F'' p,Up F' H' F'' H''/\l[i]?=some p/\Rep K F'' x p
def MI(K:PySem.W.Frag)(C:Cg)(wi:TI)(f:Fn (List PV)):Prop:=
 ∀ F H σ ρ R' r,RE K C.toCf F H σ ρ->f ρ=some r->Pr C F (λl=>∀ J F' H',Up F H F' H'->ItR K J F' l->R' J H') r->wi σ H R'
def loop(tg:PV->Rho->Option Rho)(body:Sn):List PV->Rho->Option Out
 |[],ρ=>some (.nx ρ)
 |x::xs,ρ=>match tg x ρ with
  |none=>none
  |some ρ1=>match body ρ1 with
   |some (.nx ρ2)=>loop tg body xs ρ2
   |some (.ct ρ2)=>loop tg body xs ρ2
   |some (.bk ρ2)=>some (.nx ρ2)
   |x=>x
def yl(it:Fn (List PV))(tg:PV->Rho->Option Rho)(body:Sn):Sn:=λρ=>gb (it ρ) λl=>loop tg body l ρ
theorem zg{J:It}{gt:TG}{tg:PV->Rho->Option Rho}{l:List PV}(hg:MG K C gt tg)(hb:MS K C t f)(hJ:ItR K J F l)(R:RE K C.toCf F H σ ρ)(e:loop tg f l ρ=some o)(P:PO' K C F D o):Yb J gt t D σ H:=by
 refine⟨λi m σ' H'=>∃ F' ρ',m=l.length-i/\i<=l.length/\aL F F'/\RE K C.toCf F' H' σ' ρ'/\loop tg f (l.drop i) ρ'=some o,⟨l.length,F,ρ,by simp,Zbj _,aL.refl _,R,by rw[Zb4];exact e⟩,?_⟩
 rintro i m σ' H' ⟨F',ρ',rfl,hi,s,R',e'⟩;by_cases hlt:i<l.length
 ·refine .inr ⟨hJ.go i F' H' hlt s R'.rb.sub,λσ2 H2=>∃ F2 ρ2,aL F F2/\RE K C.toCf F2 H2 σ2 ρ2/\loop tg f (l.drop (i+1)) ρ2=some o,λσ2 H2 ⟨F2,ρ2,s2,R2,e2⟩=>⟨l.length-(i+1),by omega,F2,ρ2,rfl,hlt,s2,R2,e2⟩,λx H'' y=>?_⟩
  obtain⟨F'',p,u,ep,rx⟩:=hJ.yld i F' H' x H'' hlt s R'.rb.sub y;have ed:l.drop i=p::l.drop (i+1):=by
   rw[Za8 hlt];rw[Zad hlt] at ep;rw[Zaa ep]
  rw[ed,loop] at e';split at e'
  ·cases e'
  ·rename_i ρ1 h1;refine hg F'' H'' σ' ρ' x p ρ1 _ (R'.up u) rx h1 λσ1 R1=>?_;have sF:aL F F'':=s.trans u.ff;split at e'
   ·rename_i ρ2 h2;exact hb F'' H'' σ1 ρ1 _ _ R1 h2 λF3 H3 σ3 s3 R3=>⟨F3,ρ2,sF.trans s3,R3,e'⟩
   ·rename_i ρ2 h2;exact hb F'' H'' σ1 ρ1 _ _ R1 h2 λF3 H3 σ3 s3 R3=>⟨F3,ρ2,sF.trans s3,R3,e'⟩
   ·rename_i ρ2 h2;cases e';exact hb F'' H'' σ1 ρ1 _ _ R1 h2 λF3 H3 σ3 s3 R3=>P F3 H3 σ3 (sF.trans s3) R3
   ·rename_i n1 n2 n3;cases o with
    |nx ρ2=>exact absurd e' (n1 ρ2)
    |ct ρ2=>exact absurd e' (n2 ρ2)
    |bk ρ2=>exact absurd e' (n3 ρ2)
    |rt p=>exact hb F'' H'' σ1 ρ1 _ _ R1 e' (PO'.up (D:=D) P sF)
    |ro p=>exact hb F'' H'' σ1 ρ1 _ _ R1 e' (PO'.up (D:=D) P sF)
    |rd p=>exact hb F'' H'' σ1 ρ1 _ _ R1 e' (PO'.up (D:=D) P sF)
    |ex z=>exact hb F'' H'' σ1 ρ1 _ _ R1 e' (PX.up P sF)
 ·have ei:i=l.length:=by omega
  subst ei;rw[ZbK] at e';cases e';exact .inl ⟨hJ.stop F' H' s R'.rb.sub,P F' H' σ' s R'⟩
theorem oF{wi:TI}{it:Fn (List PV)}{gt:TG}{tg:PV->Rho->Option Rho}(hi:MI K C wi it)(hg:MG K C gt tg)(hb:MS K C t f):MS K C (Rp wi gt t) (yl it tg f):=by
 intro F H σ ρ D o R e P;rcases bK e with⟨z,e1,rfl⟩|⟨l,e1,hk⟩
 ·exact hi F H σ ρ _ _ R e1 P
 ·exact hi F H σ ρ _ _ R e1 λJ F' H' u hJ=>zg hg hb hJ (R.up u) hk (P.up u.ff)
end
def eqL(f:PV->PV->Option Bool):List PV->List PV->Option Bool
 |[],[]=>some true
 |[],_::_=>some false
 |_::_,[]=>some false
 |x::xs,y::ys=>match f x y,eqL f xs ys with
  |some a,some b=>some (a&&b)
  |_,_=>none
def eqF:Nat->PV->PV->Option Bool
 |_,.non,.non=>some true
 |_,.non,.bl _=>some false
 |_,.non,.int _=>some false
 |_,.non,.str _=>some false
 |_,.bl _,.non=>some false
 |_,.bl a,.bl b=>some (decide (a=b))
 |_,.bl _,.str _=>some false
 |_,.int _,.non=>some false
 |_,.int a,.int b=>some (decide (a=b))
 |_,.int _,.str _=>some false
 |_,.str _,.non=>some false
 |_,.str _,.bl _=>some false
 |_,.str _,.int _=>some false
 |_,.str a,.str b=>some (decide (a=b))
 |_,.non,.tup _=>some false
 |_,.tup _,.non=>some false
 |_,.non,.lst _=>some false
 |_,.lst _,.non=>some false
 |_,.int _,.tup _=>some false
 |_,.tup _,.int _=>some false
 |_,.str _,.tup _=>some false
 |_,.tup _,.str _=>some false
 |_,.int _,.lst _=>some false
 |_,.lst _,.int _=>some false
 |_,.str _,.lst _=>some false
 |_,.lst _,.str _=>some false
 |_,.lst _,.tup _=>some false
 |_,.tup _,.lst _=>some false
 |n+1,.tup l,.tup m=>eqL (eqF n) l m
 |n+1,.lst l,.lst m=>if l.length=m.length then eqL (eqF n) l m else some false
 |_,_,_=>none
theorem oG{f:PV->PV->Option Bool}(h:∀ p r,f p p=some r->r=true):∀ {l:List PV}{r:Bool},eqL f l l=some r->r=true
 |[],r,e=>by cases e;rfl
 |x::xs,r,e=>by
  rw[eqL] at e;split at e
  ·rename_i a b h1 h2;cases e;rw[h x a h1,oG h h2];rfl
  ·cases e
theorem Dw:∀ (n:Nat) (p:PV) (r:Bool),eqF n p p=some r->r=true
 |n,p,r,e=>by
  induction n generalizing p r with
  |zero=>cases p<;>first|(cases (show some true=some r from e);rfl)|(cases (show some (decide _)=some r from e);exact ZaT rfl)|cases (show none=some r from e)
  |succ n ih=>
   cases p with
   |tup l=>exact oG ih e
   |lst l=>
    have e:(if l.length=l.length then eqL (eqF n) l l else some false)=some r:=e;rw[Zag rfl] at e;exact oG ih e
   |_=>first|(cases (show some true=some r from e);rfl)|(cases (show some (decide _)=some r from e);exact ZaT rfl)|cases (show none=some r from e)
theorem Aw{f:PV->PV->Option Bool}:∀ {l m:List PV}{r:Bool},eqL f l m=some r->∃ e:Nat->Bool,(∀ (j:Nat) x y,l[j]?=some x->m[j]?=some y->f x y=some (e j))/\r=((List.range (min l.length m.length)).all e&&l.length==m.length)
 |[],[],r,h=>⟨λ_=>true,λj x y a=>by simp at a,by cases h;rfl⟩
 |[],_::_,r,h=>⟨λ_=>true,λj x y a=>by simp at a,by cases h;simp⟩
 |_::_,[],r,h=>⟨λ_=>true,λj x y _ a=>by simp at a,by cases h;simp⟩
 |x::xs,y::ys,r,h=>by
  rw[eqL] at h;split at h
  ·rename_i a b h1 h2;cases h;obtain⟨e,e1,e2⟩:=Aw h2;refine⟨λj=>match j with|0=>a|j+1=>e j,λj x' y' a' b'=>?_,?_⟩
   ·cases j with
    |zero=>simp at a' b';subst a' b';exact h1
    |succ j=>exact e1 j x' y' (by simpa using a') (by simpa using b')
   ·rw[e2,ZaB,ZaB,Nat.succ_min_succ,List.range_succ_eq_map,List.all_cons,List.all_map];have:((xs.length+1==ys.length+1):Bool)=(xs.length==ys.length):=by
     rw[Zci];simp
    rw[this];cases a<;>simp[Function.comp_def]
  ·cases h
section
variable{X:Cx}{pins:List (Addr×Obj)}{σ:St}{H:Hp}{s:Shared}
theorem Rep.kinds(I:Inv X pins σ H s){a:Addr}{xs ys:List V}(h1:SqL X.K H a xs)(h2:SqT X.K H a ys):False:=by
 obtain⟨_,_,p1,_⟩:=I.list h1;obtain⟨_,_,p2,_⟩:=I.tuple h2;obtain⟨o,n,e,c,_⟩:=p1;obtain⟨o',e',c',_⟩:=p2;rw[e] at e';cases e';rw[c] at c';exact absurd c' (by decide)
theorem Dy{xs:List V}{l m:List PV}(h1:xs.length=l.length)(h2:xs.length=m.length)(h:∀ (j:Nat) x p q,xs[j]?=some x->l[j]?=some p->m[j]?=some q->p=q):l=m:=by
 apply ZbA
 intro j;by_cases hj:j<xs.length
 ·have hl:j<l.length:=by lia
  have hm:j<m.length:=by lia
  rw[Zad hl,Zad hm,h j xs[j] l[j] m[j] (by simp[hj]) (by simp[hl]) (by simp[hm])]
 ·rw[ZaW (by lia),ZaW (by lia)]
def HO.isDict:HO->Bool
 |.dK _=>true
 |.dT _=>true
 |_=>false
theorem RZ{H:Hp}{a:Addr}{u v:HO}(hu:HO.isDict u=true)(hv:HO.isDict v=true)(h:Rd H a u)(h':Rd H a v):u=v:=by
 rcases h with h|⟨o,h⟩<;>rcases h' with h'|⟨o',h'⟩<;>rw[h] at h'<;>cases h'
 ·rfl
 ·cases hu
 ·cases hv
 ·rfl
theorem Ax{H:Hp}{a:Addr}{u v:HO}(h:Rd H a u)(h':Rd H a v)(hu:HO.isDict u=true:=by rfl)(hv:HO.isDict v=true:=by rfl):u=v:=RZ hu hv h h'
theorem Rep.noDict(I:Inv X pins σ H s){a:Addr}{ks:List (Key×V)}{ts:List (List Key×V)}(h1:Rd H a (.dK ks)\/Rd H a (.dT ts))(h2:(∃ xs,SqL X.K H a xs)\/∃ xs,SqT X.K H a xs):False:=by
 have d:∃ o es ep,s.heap.get? a=some o/\o.data=.dict es ep:=by
  rcases h1 with h1|h1
  ·obtain⟨_,_,_,_,o,es,ep,e,x,d,_⟩:=h1.ok I.hok;exact⟨o,es,ep,e,d⟩
  ·obtain⟨_,_,_,_,o,es,ep,e,x,d,_⟩:=h1.ok I.hok;exact⟨o,es,ep,e,d⟩
 obtain⟨o,es,ep,e,d⟩:=d;rcases h2 with⟨xs,h2⟩|⟨xs,h2⟩
 ·obtain⟨_,_,p1,_⟩:=I.list h2;obtain⟨o',n,e',_,_,d'⟩:=p1;rw[e] at e';cases e';rw[d] at d';cases d'
 ·obtain⟨_,_,p1,_⟩:=I.tuple h2;obtain⟨o',e',_,n,d'⟩:=p1;rw[e] at e';cases e';rw[d] at d';cases d'
theorem XO.at(I:Inv X pins σ H s){a C:Addr}{d:Option Addr}(h:H a=some (XO a C d)):∃ vs:Array Value,s.heap.get? a=some { cls:=.ref C,dict:=d,data:=.fields vs }:=(I.hok _ _ h).1
theorem XO.inj(I:Inv X pins σ H s){a C C':Addr}{d d':Option Addr}(h:H a=some (XO a C d))(h':H a=some (XO a C' d')):C=C'/\d=d':=by
 obtain⟨vs,e⟩:=XO.at I h;obtain⟨vs',e'⟩:=XO.at I h';rw[e] at e';cases e';exact⟨rfl,rfl⟩
theorem XO.noSeq(I:Inv X pins σ H s){a C:Addr}{d:Option Addr}(h:H a=some (XO a C d))(h2:(∃ xs,SqL X.K H a xs)\/∃ xs,SqT X.K H a xs):False:=by
 obtain⟨vs,e⟩:=XO.at I h;rcases h2 with⟨xs,h2⟩|⟨xs,h2⟩
 ·obtain⟨_,_,p1,_⟩:=I.list h2;obtain⟨o',n,e',_,_,d'⟩:=p1;rw[e] at e';cases e';cases d'
 ·obtain⟨_,_,p1,_⟩:=I.tuple h2;obtain⟨o',e',_,n,d'⟩:=p1;rw[e] at e';cases e';cases d'
theorem Ins.noSeq(I:Inv X pins σ H s){a C dx:Addr}{fs:List (Str×V)}(h:H a=some (.ins C dx fs))(h2:(∃ xs,SqL X.K H a xs)\/∃ xs,SqT X.K H a xs):False:=by
 obtain⟨_,_,_,e,_⟩:=(show dB X.prog X.w H s.heap a (.ins C dx fs) from I.hok _ _ h);rcases h2 with⟨xs,h2⟩|⟨xs,h2⟩
 ·obtain⟨_,_,p1,_⟩:=I.list h2;obtain⟨o',n,e',_,_,d'⟩:=p1;rw[e] at e';cases e';cases d'
 ·obtain⟨_,_,p1,_⟩:=I.tuple h2;obtain⟨o',e',_,n,d'⟩:=p1;rw[e] at e';cases e';cases d'
theorem XNm.inj{K:PySem.W.Frag}{C:Addr}{c c':Str}(a:XNm K C c)(b:XNm K C c'):c=c':=by
 obtain⟨cd,h1,h2⟩:=a.cl;obtain⟨cd',h1',h2'⟩:=b.cl;rw[h1] at h1';cases h1';exact h2.symm.trans h2'
theorem Rep.inj(I:Inv X pins σ H s){x:V}{p:PV}(h:Rep X.K H x p):∀ {q:PV},Rep X.K H x q->p=q:=by
 have pairs:∀ {κ:Type}{xs:List (κ×V)}{l m:List (κ×PV)},xs.map (·.1)=l.map (·.1)->xs.map (·.1)=m.map (·.1)->(∀ (j:Nat) x p q,xs[j]?=some x->l[j]?=some p->m[j]?=some q->p.2=q.2)->l=m:=by
  intro κ xs l m h1 h2 h3;have l1:xs.length=l.length:=by simpa using Zbh List.length h1
  have l2:xs.length=m.length:=by simpa using Zbh List.length h2
  apply ZbA
  intro j;by_cases hj:j<xs.length
  ·have hl:j<l.length:=by lia
   have hm:j<m.length:=by lia
   rw[Zad hl,Zad hm];have k:=Zbh (·[j]?) (h1.symm.trans h2);simp[hl,hm] at k;have v:=h3 j xs[j] l[j] m[j] (by simp[hj]) (by simp[hl]) (by simp[hm])
   rw[Prod.ext k v]
  ·rw[ZaW (by lia),ZaW (by lia)]
 induction h with
 |non=>intro q h';cases h';rfl
 |bl=>intro q h';cases h';rfl
 |int=>intro q h';cases h';rfl
 |str=>intro q h';cases h';rfl
 |ty=>intro q h';cases h';rfl
 |@tup a xs l h hl _ ih=>
  intro q h';have h:=SqT.of (K:=X.K) h;cases h' with
  |tup h2 hl2 hr2=>
   cases I.yR h (SqT.of (K:=X.K) h2);rw[Dy hl hl2 λj x p q e1 e2 e3=>ih j x p e1 e2 (hr2 j x q e1 e3)]
  |lst h2=>exact(Rep.kinds I h2 h).elim
  |dk h2=>exact(Rep.noDict I (ts:=[]) (.inl h2) (.inr ⟨_,h⟩)).elim
  |dt h2=>exact(Rep.noDict I (ks:=[]) (.inr h2) (.inr ⟨_,h⟩)).elim
  |exc _ h2=>exact(XO.noSeq I h2 (.inr ⟨_,h⟩)).elim
  |exc0 _ h2=>exact(XO.noSeq I h2 (.inr ⟨_,h⟩)).elim
  |obj _ h2=>exact(Ins.noSeq I h2 (.inr ⟨_,h⟩)).elim
 |@lst a xs l h hl _ ih=>
  intro q h';cases h' with
  |tup h2=>exact(Rep.kinds I h (SqT.of h2)).elim
  |lst h2 hl2 hr2=>
   cases I.vL h h2;rw[Dy hl hl2 λj x p q e1 e2 e3=>ih j x p e1 e2 (hr2 j x q e1 e3)]
  |dk h2=>exact(Rep.noDict I (ts:=[]) (.inl h2) (.inl ⟨_,h⟩)).elim
  |dt h2=>exact(Rep.noDict I (ks:=[]) (.inr h2) (.inl ⟨_,h⟩)).elim
  |exc _ h2=>exact(XO.noSeq I h2 (.inl ⟨_,h⟩)).elim
  |exc0 _ h2=>exact(XO.noSeq I h2 (.inl ⟨_,h⟩)).elim
  |obj _ h2=>exact(Ins.noSeq I h2 (.inl ⟨_,h⟩)).elim
 |@dk a xs l h hl _ ih=>
  intro q h';cases h' with
  |tup h2=>exact(Rep.noDict I (ts:=[]) (.inl h) (.inr ⟨_,SqT.of h2⟩)).elim
  |lst h2=>exact(Rep.noDict I (ts:=[]) (.inl h) (.inl ⟨_,h2⟩)).elim
  |dk h2 hl2 hr2=>
   cases (Ax h h2);rw[pairs hl hl2 λj x p q e1 e2 e3=>ih j x p e1 e2 (hr2 j x q e1 e3)]
  |dt h2=>cases Ax h h2
  |exc _ h2=>rcases h with h|⟨o,h⟩<;>rw[h] at h2<;>cases h2
  |exc0 _ h2=>rcases h with h|⟨o,h⟩<;>rw[h] at h2<;>cases h2
  |obj _ h2=>rcases h with h|⟨o,h⟩<;>rw[h] at h2<;>cases h2
 |@dt a xs l h hl _ ih=>
  intro q h';cases h' with
  |tup h2=>exact(Rep.noDict I (ks:=[]) (.inr h) (.inr ⟨_,SqT.of h2⟩)).elim
  |lst h2=>exact(Rep.noDict I (ks:=[]) (.inr h) (.inl ⟨_,h2⟩)).elim
  |dk h2=>cases Ax h h2
  |dt h2 hl2 hr2=>
   cases (Ax h h2);rw[pairs hl hl2 λj x p q e1 e2 e3=>ih j x p e1 e2 (hr2 j x q e1 e3)]
  |exc _ h2=>rcases h with h|⟨o,h⟩<;>rw[h] at h2<;>cases h2
  |exc0 _ h2=>rcases h with h|⟨o,h⟩<;>rw[h] at h2<;>cases h2
  |obj _ h2=>rcases h with h|⟨o,h⟩<;>rw[h] at h2<;>cases h2
 |@exc a C dx c xs l nm h hd hl _ ih=>
  intro q h';cases h' with
  |tup h2=>exact(XO.noSeq I h (.inr ⟨_,SqT.of h2⟩)).elim
  |lst h2=>exact(XO.noSeq I h (.inl ⟨_,h2⟩)).elim
  |dk h2=>rcases h2 with h2|⟨o,h2⟩<;>rw[h] at h2<;>cases h2
  |dt h2=>rcases h2 with h2|⟨o,h2⟩<;>rw[h] at h2<;>cases h2
  |exc nm2 h2 hd2 hl2 hr2=>
   obtain⟨rfl,e⟩:=XO.inj I h h2;cases e;rw[hd] at hd2;cases hd2;cases XNm.inj nm nm2;rw[pairs hl hl2 λj x p q e1 e2 e3=>ih j x p e1 e2 (hr2 j x q e1 e3)]
  |exc0 nm2 h2=>cases (XO.inj I h h2).2
  |obj _ h2=>rw[h] at h2;cases h2
 |@exc0 a C c nm h=>
  intro q h';cases h' with
  |tup h2=>exact(XO.noSeq I h (.inr ⟨_,SqT.of h2⟩)).elim
  |lst h2=>exact(XO.noSeq I h (.inl ⟨_,h2⟩)).elim
  |dk h2=>rcases h2 with h2|⟨o,h2⟩<;>rw[h] at h2<;>cases h2
  |dt h2=>rcases h2 with h2|⟨o,h2⟩<;>rw[h] at h2<;>cases h2
  |exc nm2 h2=>cases (XO.inj I h h2).2
  |exc0 nm2 h2=>
   obtain⟨rfl,_⟩:=XO.inj I h h2;cases XNm.inj nm nm2;rfl
  |obj _ h2=>rw[h] at h2;cases h2
 |@obj a C dx c xs l nm h hl _ ih=>
  intro q h';cases h' with
  |tup h2=>exact(Ins.noSeq I h (.inr ⟨_,SqT.of h2⟩)).elim
  |lst h2=>exact(Ins.noSeq I h (.inl ⟨_,h2⟩)).elim
  |dk h2=>rcases h2 with h2|⟨o,h2⟩<;>rw[h] at h2<;>cases h2
  |dt h2=>rcases h2 with h2|⟨o,h2⟩<;>rw[h] at h2<;>cases h2
  |exc _ h2=>rw[h] at h2;cases h2
  |exc0 _ h2=>rw[h] at h2;cases h2
  |obj nm2 h2 hl2 hr2=>
   rw[h] at h2;cases h2;cases XNm.inj nm nm2;rw[pairs hl hl2 λj x p q e1 e2 e3=>ih j x p e1 e2 (hr2 j x q e1 e3)]
theorem Ou(I:Inv X pins σ H s):∀ {A:Around}{x y:V}{p q:PV}{r:Bool}{u v:Value},A.units<cLine->eqF 0 p q=some r->Rep X.K H x p->Rep X.K H y q->RelV x u->RelV y v ->
  SeqAt.RcAt A s u v r/\SeqAt.EqAt A s u v r/\SeqAt.RcNeAt A s u v (!r):=by
 intro A x y p q r u v hu e rx ry ru rv;have hu0:A.units<cLine:=hu
 match p,q,e with
 |.non,.non,e=>
  have e:=Zaa e;subst e;cases Rep.eG rx;cases Rep.eG ry;cases ru;cases rv;exact⟨SeqAt.RcAt.none_none,SeqAt.EqAt.same _,SeqAt.RcNeAt.none_none⟩
 |.non,.bl b,e=>
  have e:=Zaa e;subst e;cases Rep.eG rx;cases Rep.gU ry;cases ru;cases rv;exact⟨SeqAt.RcAt.none_bool _,SeqAt.EqAt.none_bool _,SeqAt.RcNeAt.none_bool _⟩
 |.non,.int b,e=>
  have e:=Zaa e;subst e;cases Rep.eG rx;cases Rep.aZ ry;cases ru;obtain⟨tb,rfl⟩:=rv;exact⟨SeqAt.RcAt.none_int _ _,SeqAt.EqAt.none_int _ _,SeqAt.RcNeAt.none_int _ _⟩
 |.non,.str b,e=>
  have e:=Zaa e;subst e;cases Rep.eG rx;cases Rep.bI ry;cases ru;obtain⟨tb,rfl⟩:=rv;exact⟨SeqAt.RcAt.none_str _ _,SeqAt.EqAt.none_str _ _,SeqAt.RcNeAt.none_str _ _⟩
 |.bl a,.non,e=>
  have e:=Zaa e;subst e;cases Rep.gU rx;cases Rep.eG ry;cases ru;cases rv;exact⟨SeqAt.RcAt.bool_none _,SeqAt.EqAt.bool_none _,SeqAt.RcNeAt.bool_none _⟩
 |.bl a,.bl b,e=>
  have e:=Zaa e;subst e;cases Rep.gU rx;cases Rep.gU ry;cases ru;cases rv;rw[<-ZbH];exact⟨SeqAt.RcAt.bool_bool _ _,SeqAt.EqAt.bool_bool _ _,SeqAt.RcNeAt.bool_bool _ _⟩
 |.bl a,.str b,e=>
  have e:=Zaa e;subst e;cases Rep.gU rx;cases Rep.bI ry;cases ru;obtain⟨tb,rfl⟩:=rv;exact⟨SeqAt.RcAt.bool_str _ _ _,SeqAt.EqAt.bool_str _ _ _,SeqAt.RcNeAt.bool_str _ _ _⟩
 |.int a,.non,e=>
  have e:=Zaa e;subst e;cases Rep.aZ rx;cases Rep.eG ry;obtain⟨ta,rfl⟩:=ru;cases rv;exact⟨SeqAt.RcAt.int_none _ _,SeqAt.EqAt.int_none _ _,SeqAt.RcNeAt.int_none _ _⟩
 |.int a,.int b,e=>
  have e:=Zaa e;subst e;cases Rep.aZ rx;cases Rep.aZ ry;obtain⟨ta,rfl⟩:=ru;obtain⟨tb,rfl⟩:=rv;rw[<-ZbH];exact⟨SeqAt.RcAt.int_int _ _ _ _,SeqAt.EqAt.int_int _ _ _ _,SeqAt.RcNeAt.int_int _ _ _ _⟩
 |.int a,.str b,e=>
  have e:=Zaa e;subst e;cases Rep.aZ rx;cases Rep.bI ry;obtain⟨ta,rfl⟩:=ru;obtain⟨tb,rfl⟩:=rv;exact⟨SeqAt.RcAt.int_str _ _ _ _,SeqAt.EqAt.int_str _ _ _ _,SeqAt.RcNeAt.int_str _ _ _ _⟩
 |.str a,.non,e=>
  have e:=Zaa e;subst e;cases Rep.bI rx;cases Rep.eG ry;obtain⟨ta,rfl⟩:=ru;cases rv;exact⟨SeqAt.RcAt.str_none _ _,SeqAt.EqAt.str_none _ _,SeqAt.RcNeAt.str_none _ _⟩
 |.str a,.bl b,e=>
  have e:=Zaa e;subst e;cases Rep.bI rx;cases Rep.gU ry;obtain⟨ta,rfl⟩:=ru;cases rv;exact⟨SeqAt.RcAt.str_bool _ _ _,SeqAt.EqAt.str_bool _ _ _,SeqAt.RcNeAt.str_bool _ _ _⟩
 |.str a,.int b,e=>
  have e:=Zaa e;subst e;cases Rep.bI rx;cases Rep.aZ ry;obtain⟨ta,rfl⟩:=ru;obtain⟨tb,rfl⟩:=rv;exact⟨SeqAt.RcAt.str_int _ _ _ _,SeqAt.EqAt.str_int _ _ _ _,SeqAt.RcNeAt.str_int _ _ _ _⟩
 |.str a,.str b,e=>
  have e:=Zaa e;subst e;cases Rep.bI rx;cases Rep.bI ry;obtain⟨ta,rfl⟩:=ru;obtain⟨tb,rfl⟩:=rv;rw[<-ZbH];exact⟨SeqAt.RcAt.str_str _ _ _ _,SeqAt.EqAt.str_str _ _ _ _,SeqAt.RcNeAt.str_str _ _ _ _⟩
 |.tup a,.non,e=>
  have e:=Zaa e;subst e;obtain⟨aa,xsa,rfl,ha,_⟩:=rx.cG;cases ru;obtain⟨_,_,pa,_⟩:=I.tuple ha;cases Rep.eG ry;cases rv;exact⟨SeqAt.RcAt.tuple_none pa hu0,SeqAt.EqAt.tuple_none pa hu0,SeqAt.RcNeAt.tuple_none pa hu0⟩
 |.non,.tup b,e=>
  have e:=Zaa e;subst e;cases Rep.eG rx;cases ru;obtain⟨ab,xsb,rfl,hb,_⟩:=ry.cG;cases rv;obtain⟨_,_,pb,_⟩:=I.tuple hb;exact⟨SeqAt.RcAt.none_tuple pb hu0,SeqAt.EqAt.none_tuple pb hu0,SeqAt.RcNeAt.none_tuple pb hu0⟩
 |.tup a,.int b,e=>
  have e:=Zaa e;subst e;obtain⟨aa,xsa,rfl,ha,_⟩:=rx.cG;cases ru;obtain⟨_,_,pa,_⟩:=I.tuple ha;cases Rep.aZ ry;obtain⟨tb,rfl⟩:=rv;exact⟨SeqAt.RcAt.tuple_int _ _ pa hu0,SeqAt.EqAt.tuple_int _ _ pa hu0,SeqAt.RcNeAt.tuple_int _ _ pa hu0⟩
 |.int a,.tup b,e=>
  have e:=Zaa e;subst e;cases Rep.aZ rx;obtain⟨ta,rfl⟩:=ru;obtain⟨ab,xsb,rfl,hb,_⟩:=ry.cG;cases rv;obtain⟨_,_,pb,_⟩:=I.tuple hb;exact⟨SeqAt.RcAt.int_tuple _ _ pb hu0,SeqAt.EqAt.int_tuple _ _ pb hu0,SeqAt.RcNeAt.int_tuple _ _ pb hu0⟩
 |.tup a,.str b,e=>
  have e:=Zaa e;subst e;obtain⟨aa,xsa,rfl,ha,_⟩:=rx.cG;cases ru;obtain⟨_,_,pa,_⟩:=I.tuple ha;cases Rep.bI ry;obtain⟨tb,rfl⟩:=rv;exact⟨SeqAt.RcAt.tuple_str _ _ pa hu0,SeqAt.EqAt.tuple_str _ _ pa hu0,SeqAt.RcNeAt.tuple_str _ _ pa hu0⟩
 |.str a,.tup b,e=>
  have e:=Zaa e;subst e;cases Rep.bI rx;obtain⟨ta,rfl⟩:=ru;obtain⟨ab,xsb,rfl,hb,_⟩:=ry.cG;cases rv;obtain⟨_,_,pb,_⟩:=I.tuple hb;exact⟨SeqAt.RcAt.str_tuple _ _ pb hu0,SeqAt.EqAt.str_tuple _ _ pb hu0,SeqAt.RcNeAt.str_tuple _ _ pb hu0⟩
 |.lst a,.non,e=>
  have e:=Zaa e;subst e;obtain⟨aa,xsa,rfl,ha,_⟩:=rx.cJ;cases ru;obtain⟨_,_,pa,_⟩:=I.list ha;cases Rep.eG ry;cases rv;exact⟨SeqAt.RcAt.list_none pa.isList hu0,SeqAt.EqAt.list_none pa.isList hu0,SeqAt.RcNeAt.list_none pa.isList hu0⟩
 |.non,.lst b,e=>
  have e:=Zaa e;subst e;cases Rep.eG rx;cases ru;obtain⟨ab,xsb,rfl,hb,_⟩:=ry.cJ;cases rv;obtain⟨_,_,pb,_⟩:=I.list hb;exact⟨SeqAt.RcAt.none_list pb.isList hu0,SeqAt.EqAt.none_list pb.isList hu0,SeqAt.RcNeAt.none_list pb.isList hu0⟩
 |.lst a,.int b,e=>
  have e:=Zaa e;subst e;obtain⟨aa,xsa,rfl,ha,_⟩:=rx.cJ;cases ru;obtain⟨_,_,pa,_⟩:=I.list ha;cases Rep.aZ ry;obtain⟨tb,rfl⟩:=rv;exact⟨SeqAt.RcAt.list_int _ _ pa.isList hu0,SeqAt.EqAt.list_int _ _ pa.isList hu0,SeqAt.RcNeAt.list_int _ _ pa.isList hu0⟩
 |.int a,.lst b,e=>
  have e:=Zaa e;subst e;cases Rep.aZ rx;obtain⟨ta,rfl⟩:=ru;obtain⟨ab,xsb,rfl,hb,_⟩:=ry.cJ;cases rv;obtain⟨_,_,pb,_⟩:=I.list hb;exact⟨SeqAt.RcAt.int_list _ _ pb.isList hu0,SeqAt.EqAt.int_list _ _ pb.isList hu0,SeqAt.RcNeAt.int_list _ _ pb.isList hu0⟩
 |.lst a,.str b,e=>
  have e:=Zaa e;subst e;obtain⟨aa,xsa,rfl,ha,_⟩:=rx.cJ;cases ru;obtain⟨_,_,pa,_⟩:=I.list ha;cases Rep.bI ry;obtain⟨tb,rfl⟩:=rv;exact⟨SeqAt.RcAt.list_str _ _ pa.isList hu0,SeqAt.EqAt.list_str _ _ pa.isList hu0,SeqAt.RcNeAt.list_str _ _ pa.isList hu0⟩
 |.str a,.lst b,e=>
  have e:=Zaa e;subst e;cases Rep.bI rx;obtain⟨ta,rfl⟩:=ru;obtain⟨ab,xsb,rfl,hb,_⟩:=ry.cJ;cases rv;obtain⟨_,_,pb,_⟩:=I.list hb;exact⟨SeqAt.RcAt.str_list _ _ pb.isList hu0,SeqAt.EqAt.str_list _ _ pb.isList hu0,SeqAt.RcNeAt.str_list _ _ pb.isList hu0⟩
 |.lst a,.tup b,e=>
  have e:=Zaa e;subst e;obtain⟨aa,xsa,rfl,ha,_⟩:=rx.cJ;cases ru;obtain⟨_,_,pa,_⟩:=I.list ha;obtain⟨ab,xsb,rfl,hb,_⟩:=ry.cG;cases rv;obtain⟨_,_,pb,_⟩:=I.tuple hb;exact⟨SeqAt.RcAt.list_tuple pa.isList pb hu0,SeqAt.EqAt.list_tuple pa.isList pb hu0,SeqAt.RcNeAt.list_tuple pa.isList pb hu0⟩
 |.tup a,.lst b,e=>
  have e:=Zaa e;subst e;obtain⟨aa,xsa,rfl,ha,_⟩:=rx.cG;cases ru;obtain⟨_,_,pa,_⟩:=I.tuple ha;obtain⟨ab,xsb,rfl,hb,_⟩:=ry.cJ;cases rv;obtain⟨_,_,pb,_⟩:=I.list hb;exact⟨SeqAt.RcAt.tuple_list pa pb.isList hu0,SeqAt.EqAt.tuple_list pa pb.isList hu0,SeqAt.RcNeAt.tuple_list pa pb.isList hu0⟩
def Ov:PV->PV->Bool
 |.tup _,.tup _=>true
 |.lst _,.lst _=>true
 |_,_=>false
theorem Ow{n:Nat}{p q:PV}(h:Ov p q=false):eqF (n+1) p q=eqF 0 p q:=by
 cases p<;>cases q<;>first|rfl|cases h
theorem Lb:∀ {p q:PV},Ov p q=true->(∃ l m,p=.tup l/\q=.tup m)\/∃ l m,p=.lst l/\q=.lst m
 |.tup l,q,h=>by
  cases q with
  |tup m=>exact .inl ⟨l,m,rfl,rfl⟩
  |_=>cases h
 |.lst l,q,h=>by
  cases q with
  |lst m=>exact .inr ⟨l,m,rfl,rfl⟩
  |_=>cases h
theorem Ox(I:Inv X pins σ H s):∀ (n:Nat) {A:Around}{x y:V}{p q:PV}{r:Bool}{u v:Value},A.units+n<cLine->eqF n p q=some r->Rep X.K H x p->Rep X.K H y q->RelV x u->RelV y v ->
  SeqAt.RcAt A s u v r/\SeqAt.EqAt A s u v r/\SeqAt.RcNeAt A s u v (!r):=by
 intro n;induction n with
 |zero=>exact λhu e=>Ou I (by lia) e
 |succ n ih=>
  intro A x y p q r u v hu e rx ry ru rv;have hu0:A.units<cLine:=by lia
  cases hr:Ov p q with
  |false=>exact Ou I hu0 (by rw[<-Ow hr];exact e) rx ry ru rv
  |true=>
  rcases Lb hr with⟨l,m,rfl,rfl⟩|⟨l,m,rfl,rfl⟩
  ·have e:eqL (eqF n) l m=some r:=e;obtain⟨a,xs,rfl,ha,r1⟩:=rx.cG;obtain⟨b,ys,rfl,hb,r2⟩:=ry.cG;cases ru;cases rv;obtain⟨i1,v1,t1,_⟩:=I.tuple ha;obtain⟨i2,v2,t2,_⟩:=I.tuple hb;obtain⟨g,g1,g2⟩:=Aw e;have hj:∀ j (h1:j<i1.toArray.size) (h2:j<i2.toArray.size),SeqAt.EqAt A.in1 s i1.toArray[j] i2.toArray[j] (g j):=λj h1 h2=>by
    obtain⟨x,hx,rx'⟩:=rK v1 h1;obtain⟨y,hy,ry'⟩:=rK v2 h2;obtain⟨p',hp,rp⟩:=r1.got hx;obtain⟨q',hq,rq⟩:=r2.got hy;exact(ih (A:=A.in1) (show A.units+1+n<cLine by lia) (g1 j p' q' hp hq) rp rq rx' ry').2.1
   have rc:=SeqAt.RcAt.tuples (A:=A) (e:=g) t1 t2 hu0 hj;have rn:=SeqAt.RcNeAt.tuples (A:=A) (e:=g) t1 t2 hu0 hj;rw[List.size_toArray,List.size_toArray,<-v1.length,<-v2.length,r1.1,r2.1,<-g2] at rc rn;refine⟨rc,?_,rn⟩;by_cases hab:a=b
   ·subst hab;have epq:PV.tup l=PV.tup m:=Rep.inj I rx ry;cases epq;have er:=oG (Dw n) e;subst er;exact SeqAt.EqAt.same _
   ·exact .of_refs hab rc
  ·obtain⟨a,xs,rfl,ha,r1⟩:=rx.cJ;obtain⟨b,ys,rfl,hb,r2⟩:=ry.cJ;cases ru;cases rv;obtain⟨i1,v1,t1,_⟩:=I.list ha;obtain⟨i2,v2,t2,_⟩:=I.list hb;have e:(if l.length=m.length then eqL (eqF n) l m else some false)=some r:=e;split at e
   ·rename_i hlm;obtain⟨g,g1,g2⟩:=Aw e;have hz:i1.toArray.size=i2.toArray.size:=by rw[List.size_toArray,List.size_toArray,<-v1.length,<-v2.length,r1.1,r2.1];exact hlm
    have hj:∀ j (h1:j<i1.toArray.size) (h2:j<i2.toArray.size),SeqAt.EqAt A.in1 s i1.toArray[j] i2.toArray[j] (g j):=λj h1 h2=>by
     obtain⟨x,hx,rx'⟩:=rK v1 h1;obtain⟨y,hy,ry'⟩:=rK v2 h2;obtain⟨p',hp,rp⟩:=r1.got hx;obtain⟨q',hq,rq⟩:=r2.got hy;exact(ih (A:=A.in1) (show A.units+1+n<cLine by lia) (g1 j p' q' hp hq) rp rq rx' ry').2.1
    have rc:=SeqAt.RcAt.lists (A:=A) (e:=g) t1.isList t2.isList hz hu0 hj;have e2:r=(List.range l.length).all g:=by rw[g2,<-hlm,Nat.min_self,beq_self_eq_true,Bool.and_true]
    have rn:=SeqAt.RcNeAt.lists (A:=A) (e:=g) t1.isList t2.isList hz hu0 hj;rw[List.size_toArray,<-v1.length,r1.1,<-e2] at rc rn;refine⟨rc,?_,rn⟩;by_cases hab:a=b
    ·subst hab;have epq:PV.lst l=PV.lst m:=Rep.inj I rx ry;cases epq;have er:=oG (Dw n) e;subst er;exact SeqAt.EqAt.same _
    ·exact .of_refs hab rc
   ·rename_i hlm;cases e;have hz:(i1.toArray.size != i2.toArray.size)=true:=by rw[List.size_toArray,List.size_toArray,<-v1.length,<-v2.length,r1.1,r2.1];simpa using hlm
    have rc:=SeqAt.RcAt.lists_lengths (A:=A) t1.isList t2.isList hz hu0;have hab:a≠b:=λz=>by
     subst z;have epq:PV.lst l=PV.lst m:=Rep.inj I rx ry;cases epq;exact hlm rfl
    exact⟨rc,.of_refs hab rc,SeqAt.RcNeAt.lists_lengths (A:=A) t1.isList t2.isList hz hu0⟩
end
section
variable{X:Cx}{k:Nat}
theorem OpR.or{f:Value->Value->Sem Value}{r r':R2}(h:OpR X f r)(h':OpR X f r'):OpR X f (λx y H Q=>r x y H Q\/r' x y H Q):=by
 intro pins s σ H x y v u Q I rx ry q;rcases q with q|q
 ·exact h pins s σ H x y v u Q I rx ry q
 ·exact h' pins s σ H x y v u Q I rx ry q
def Vx(K:PySem.W.Frag):R2:=λx y H Q=>∃ p q r,Rep K H x p/\Rep K H y q/\eqF 32 p q=some r/\Q (.bl r) H
def W9(K:PySem.W.Frag):R2:=λx y H Q=>∃ p q r,Rep K H x p/\Rep K H y q/\eqF 32 p q=some r/\Q (.bl (!r)) H
theorem dF(hr:cU k X.A):OpR X (compareOp .Eq) (Vx X.K):=by
 intro pins s σ H x y v u Q I rx ry h;obtain⟨p,q,r,h1,h2,e,h3⟩:=h;exact(Ox I 32 (Ho hr) e h1 h2 rx ry).1 X.prog X.w X.xe _ ⟨.bl r,H,I,rfl,h3⟩
theorem wg(hr:cU k X.A):OpR X (compareOp .NotEq) (W9 X.K):=by
 intro pins s σ H x y v u Q I rx ry h;obtain⟨p,q,r,h1,h2,e,h3⟩:=h;exact(Ox I 32 (Ho hr) e h1 h2 rx ry).2.2 X.prog X.w X.xe _ ⟨.bl (!r),H,I,rfl,h3⟩
def inF(p:PV):List PV->Option Bool
 |[]=>some false
 |x::xs=>match eqF 31 x p,inF p xs with
  |some a,some b=>some (a||b)
  |_,_=>none
theorem JB{p:PV}:∀ {l:List PV}{r:Bool},inF p l=some r->∃ e:Nat->Bool,(∀ (j:Nat) x,l[j]?=some x->eqF 31 x p=some (e j))/\r=(List.range l.length).any e
 |[],r,h=>⟨λ_=>true,λj x a=>by simp at a,by cases h;rfl⟩
 |x::xs,r,h=>by
  rw[inF] at h;split at h
  ·rename_i a b h1 h2;cases h;obtain⟨e,e1,e2⟩:=JB h2;refine⟨λj=>match j with|0=>a|j+1=>e j,λj x' a'=>?_,?_⟩
   ·cases j with
    |zero=>simp at a';subst a';exact h1
    |succ j=>exact e1 j x' (by simpa using a')
   ·rw[e2,ZaB,List.range_succ_eq_map,Zbw,List.any_map];rfl
  ·cases h
def Xa(K:PySem.W.Frag)(neg:Bool):R2:=λx y H Q=>∃ p l r,Rep K H x p/\(Rep K H y (.lst l)\/Rep K H y (.tup l))/\inF p l=some r/\Q (.bl (if neg=true then !r else r)) H
theorem Dz{pins:List (Addr×Obj)}{σ:St}{H:Hp}{s:Shared}(I:Inv X pins σ H s)(hr:cU k X.A){x:V}{v:Value}{p:PV}{xs:List V}{its:List Value}{l:List PV}{r:Bool}(rx:RelV x v)(h1:Rep X.K H x p)(rv:Vals xs its)(hl:bw X.K H xs l)(e:inF p l=some r) :
  ∃ f:Value->Bool,(∀ y,y∈its.toArray->SeqAt.EqAt X.A.in1 s y v (f y))/\its.toArray.any f=r:=by
 obtain⟨g,g1,g2⟩:=JB e;have key:∀ w'∈its,∃ j,∃ hj:j<its.length,its[j]=w':=λw' hw=>by
  obtain⟨j,hj,e⟩:=ZbO.mp hw;exact⟨j,hj,e⟩
 have look:∀ (j:Nat) (hj:j<its.length),∃ z q,l[j]?=some q/\RelV z its[j]/\Rep X.K H z q/\eqF 31 q p=some (g j):=λj hj=>by
  obtain⟨z,hz,rz⟩:=rK rv (j:=j) (by simpa using hj)
  obtain⟨q,hq,rq⟩:=hl.got hz;exact⟨z,q,hq,by simpa using rz,rq,g1 j q hq⟩
 classical
 let f:Value->Bool:=λw'=>if h:∃ j,∃ hj:j<its.length,its[j]=w' then g (Classical.choose h) else false
 have fe:∀ (j:Nat) (hj:j<its.length),f its[j]=g j:=λj hj=>by
  have hx:∃ i,∃ hi:i<its.length,its[i]=its[j]:=⟨j,hj,rfl⟩;show(if h:∃ i,∃ hi:i<its.length,its[i]=its[j] then g (Classical.choose h) else false)=g j
  rw[dif_pos hx];obtain⟨h1',h2'⟩:=Classical.choose_spec hx;generalize Classical.choose hx=i at h1' h2' ⊢
  obtain⟨z,q,_,rz,rq,eq1⟩:=look i h1';obtain⟨z',q',_,rz',rq',eq2⟩:=look j hj;rw[h2'] at rz;cases rz.inj rz';cases Rep.inj I rq rq';rw[eq1] at eq2;exact Zaa eq2
 refine⟨f,λy hy=>?_,?_⟩
 ·obtain⟨j,hj,e1⟩:=key y (by simpa using hy)
  obtain⟨z,q,_,rz,rq,eq1⟩:=look j hj;rw[<-e1,fe j hj];exact(Ox I 31 (A:=X.A.in1) (show X.A.units+1+31<cLine by have:=Ho hr;lia) eq1 rq h1 rz rx).2.1
 ·have hlen:its.length=l.length:=by rw[<-rv.length,hl.1]
  rw[g2,show its.toArray.any f=its.any f by simp,Zci,Zcd,Zcd]
  constructor
  ·rintro⟨w',hw,hf⟩;obtain⟨j,hj,e1⟩:=key w' hw;exact⟨j,Za2.mpr (by lia),by rw[<-fe j hj,e1];exact hf⟩
  ·rintro⟨j,hj,hf⟩;have hj':j<its.length:=by rw[hlen];exact Za2.mp hj
   exact⟨its[j],ZbJ hj',by rw[fe j hj'];exact hf⟩
theorem Vy(hr:cU k X.A):OpR X (compareOp .In) (Xa X.K false):=by
 intro pins s σ H x y v u Q I rx ry h;obtain⟨p,l,r,h1,h2,e,q⟩:=h;rcases h2 with h2|h2
 ·obtain⟨a,xs,rfl,hq,rr⟩:=h2.cJ;cases ry;obtain⟨its,rv,pl,_⟩:=I.list hq;obtain⟨f,f1,f2⟩:=Dz I hr rx h1 rv rr e;exact SeqAt.in_listAt f pl.isList f1 (by rw[f2];exact⟨.bl _,H,I,rfl,q⟩)
 ·obtain⟨a,xs,rfl,hq,rr⟩:=h2.cG;cases ry;obtain⟨its,rv,pl,_⟩:=I.tuple hq;obtain⟨f,f1,f2⟩:=Dz I hr rx h1 rv rr e;exact SeqAt.in_tupleAt f pl f1 (by rw[f2];exact⟨.bl _,H,I,rfl,q⟩)
def Vz(K:PySem.W.Frag):R2:=λx y H Q=>Xa K false x y H Q\/∃ i j,x=.str i/\y=.str j/\Q (.bl (!(Builtin.Str.occurrences j i 0 j.length 1).isEmpty)) H
theorem Oz(hr:cU k X.A):OpR X (compareOp .In) (Vz X.K):=OpR.or (Vy hr) KN
def OD(K:PySem.W.Frag):R2:=λx y H Q=>rI0 (λi j=>.int (i+j)) x y H Q\/(∃ i j,x=.str i/\y=.str j/\i.length+j.length<=sizeLine/\Q (.str (i++j)) H)\/Uc K x y H Q
theorem cZ:OpR X (binaryOp .Add) (OD X.K):=OpR.or Vh (OpR.or Hc Rz)
def Um:R2:=λx y H Q=>rI GZ (λi j=>.int (i*j)) x y H Q\/∃ z n,x=.str z/\y=.int n/\-(2^63)<=n/\n<2^63/\z.length*n.toNat<=sizeLine/\Q (.str ⟨(List.replicate n.toNat z.cps).foldl (·++·) #[]⟩) H
theorem rQ:OpR X (binaryOp .Mult) Um:=by
 refine OpR.or Vi ?_;intro pins s σ H x y v u Q I rx ry h;obtain⟨z,n,rfl,rfl,h1,h2,h3,q⟩:=h;obtain⟨t,rfl⟩:=rx;obtain⟨t',rfl⟩:=ry;have fin:∀ t k,EP X pins σ Q (.str ⟨(List.replicate n.toNat z.cps).foldl (·++·) #[]⟩ t) { s with toks:=k }:=λt k=>⟨.str _,H,I.tok _,⟨t,rfl⟩,q⟩;have hr:(decide (n < -(2^63:Int))||decide (n>=2^63))=false:=by
  rw[ZaC (by omega),ZaC (by omega)];rfl
 refine PySem.P.mul_str hr (λh4 h5=>?_) (λh4 h5=>?_) ?_
 ·have hn:1<=n:=by omega
  have h6:z.length<=sizeLine:=by
   have:z.length*1<=z.length*n.toNat:=Nat.mul_le_mul_left _ (by omega)
   omega
  have h7:n≠1:=λe=>by subst e;simp at h5
  have h8:(z.length:Int)*n<=16777216:=by
   have e:(z.length:Int)*n=((z.length*n.toNat:Nat):Int):=by
    rw[Int.natCast_mul,Zbs (by omega)]
   rw[e];have:z.length*n.toNat<=16777216:=h3;omega
  have h9:(z.length:Int)<=(2^63-1)/n:=by
   apply(Int.le_ediv_iff_mul_le (by omega)).mpr
   omega
  omega
 ·unfold Builtin.Str.tooLong;exact ZaC (by omega)
 ·by_cases h4:n<1
  ·rw[Zag h4];have e:n.toNat=0:=by omega
   rw[e] at fin;exact⟨Zbj _,fin _ _⟩
  ·rw[Zal h4];refine post_val_or_str ⟨?_,λt' k=>?_⟩
   ·have e1:∀ (m:Nat) (acc:Array Nat),((List.replicate m z.cps).foldl (·++·) acc).size=acc.size+m*z.cps.size:=λm=>by
     induction m with
     |zero=>intro acc;simp
     |succ m ih=>intro acc;rw[ZaM,Zch,ih,ZbB,Nat.succ_mul];omega
    have h6:z.length<=sizeLine:=by
     have:z.length*1<=z.length*n.toNat:=Nat.mul_le_mul_left _ (by omega)
     omega
    split
    ·exact h6
    ·show((List.replicate n.toNat z.cps).foldl (·++·) #[]).size<=sizeLine
     rw[e1,Nat.mul_comm];show 0+z.length*n.toNat<=_
     omega
   ·have fz:=fin t' k;split
    ·rename_i h5;have e:(⟨(List.replicate n.toNat z.cps).foldl (·++·) #[]⟩:Str)=z:=by
      rcases Bool.or_eq_true _ _▸h5 with h|h
      ·have:n=1:=by simpa using h
       subst this;show(⟨#[]++z.cps⟩:Str)=z
       rw[Array.empty_append]
      ·have h1:z.length=0:=by simpa using h
       have h0:z.cps=#[]:=Array.eq_empty_of_size_eq_zero h1;have e2:∀ m:Nat,(List.replicate m (#[]:Array Nat)).foldl (·++·) #[]=#[]:=λm=>by
        induction m with
        |zero=>rfl
        |succ m ih=>rw[ZaM,Zch];exact ih
       cases z with
       |mk c=>cases h0;rw[e2]
     rw[e] at fz;exact fz
    ·exact fz
def Xb:R2:=λx y H Q=>rI0 (λi j=>.bl (decide (i<j))) x y H Q\/∃ i j,x=.str i/\y=.str j/\Q (.bl (decide (i.cps.toList<j.cps.toList))) H
theorem uc:OpR X (compareOp .Lt) Xb:=OpR.or WF KJ
def Xc:R2:=λx y H Q=>rI0 (λi j=>.bl (decide (i<=j))) x y H Q\/∃ i j,x=.str i/\y=.str j/\Q (.bl (!(decide (j.cps.toList<i.cps.toList)))) H
theorem OJ:OpR X (compareOp .LtE) Xc:=OpR.or WK K7
theorem Ld(l b:Addr)(i1 i2:Array Value)(n1 n2:Nat)(s1 s2:Array (Option Value))(hz:i1.size+i2.size<=sizeLine) :
  Meets (Builtin.«list.__add__» ⟨[.ref l,.ref b],[]⟩) (λ_ R s=>s.heap.get? l=some ⟨.type "list",none,.seq i1 n1,s1⟩/\s.heap.get? b=some ⟨.type "list",none,.seq i2 n2,s2⟩ /\
   R (.ok (.ret (Value.ref s.heap.objs.size))) { s with heap:=s.heap.push { cls:=Value.type "list",data:=Data.seq (i1++i2) } }):=by
 refine .of_wp λprog w A R s h=>?_;obtain⟨hp,g,d,tk,os⟩:=s;obtain⟨h1,h2,h⟩:=h;have f1:=AutoSeq1.idx_int;have f2:=AutoSeq1.sub_tuple_tuple;have f3:=AutoSeq1.sub_list_list;have f4:=AutoSeq1.sub_tuple_list;have f5:=AutoSeq1.sub_list_tuple
 wp_walk using AutoSeq1.wpAny_loadPart' h1,AutoSeq1.wpAny_loadPart' h2
 exact⟨_,rfl,h⟩
theorem JC:OpR X (binaryOp .Add) (λx y H Q=>∃ l b xs zs,x=.ref l/\y=.ref b/\SqL X.K H l xs/\SqL X.K H b zs/\xs.length+zs.length<=sizeLine/\∀ p,H p=none->Q (.ref p) (upd H p (.lst (xs++zs)))):=by
 intro pins s σ H x y v u Q I rx ry h;obtain⟨l,b,xs,zs,rfl,rfl,hH,hB,hz,q⟩:=h;cases rx;cases ry;obtain⟨its,r,⟨⟨cl1,dd1,da1,sl1⟩,n1,g1,c1,d1,e1⟩,z1⟩:=I.list hH;obtain⟨its2,r2,⟨⟨cl2,dd2,da2,sl2⟩,n2,g2,c2,d2,e2⟩,z2⟩:=I.list hB;simp only at c1 d1 e1 c2 d2 e2;subst c1 d1 e1 c2 d2 e2;have hs:its.toArray.size+its2.toArray.size<=sizeLine:=by rw[List.size_toArray,List.size_toArray,<-r.length,<-r2.length];exact hz
 refine concat_meets ⟨_,g1,rfl⟩ ⟨_,g2,rfl⟩ noFill_list_add seq_list_add F.slot_list_add F.entry_list_add (F.args_list_add_2 _ _) (Ld l b its.toArray its2.toArray n1 n2 sl1 sl2 hs) ⟨g1,g2,?_⟩;have ea:its.toArray++its2.toArray=(its++its2).toArray:=by simp
 rw[ea];exact⟨.ref _,_,I.WY (t':=s.toks) (r.append r2) (by rw[Zau];lia),rfl,q _ I.fresh⟩
end
theorem noS{α:Type}{r:α}{C:Prop}(e:(none:Option α)=some r):C:=by cases e
def opI(c:Int->Int->Bool)(f:Int->Int->PV):PV->PV->Option (Res PV)
 |.int i,.int j=>if c i j=true then some (.ok (f i j)) else none
 |_,_=>none
def cT:Int->Int->Bool:=λ_ _=>true
def O1:Int->Int->Bool:=λi j=>decide ((-(2^64)<i/\i<2^64)\/(-(2^64)<j/\j<2^64))
def VB:Int->Int->Bool:=λ_ j=>decide (0<j/\j<1073741824)
def Xd:Int->Int->Bool:=λ_ j=>decide (0<j)
def O2:Int->Int->Bool:=λi j=>decide (0<=j/\j<=1000000/\i.natAbs<2^64)
def Xe:Int->Int->Bool:=λ_ j=>decide (0<=j)
def DG:=opI cT λi j=>.int (i-j)
def wj:=opI VB λi j=>.int (i/j)
def ji:=opI Xd λi j=>.int (i%j)
def DK:=opI O2 λi j=>.int (i^j.toNat)
def DN:=opI O2 λi j=>.int (i*2^j.toNat)
def DP:=opI Xe λi j=>.int (i/2^j.toNat)
def DR:=opI cT λi j=>.int (Builtin.bitAnd i j)
def R0:=opI cT λi j=>.int (Builtin.bitOr i j)
def R4:=opI cT λi j=>.bl (decide (j<i))
def R5:=opI cT λi j=>.bl (decide (j<=i))
def eX:PV->PV->Option (Res PV)
 |.int i,.int j=>some (.ok (.int (i+j)))
 |.str i,.str j=>if i.length+j.length<=sizeLine then some (.ok (.str (i++j))) else none
 |.tup l,.tup m=>if l≠[]/\l.length+m.length<=sizeLine then some (.ok (.tup (l++m))) else none
 |_,_=>none
def DW(z:Str)(n:Nat):Str:=⟨(List.replicate n z.cps).foldl (·++·) #[]⟩
def uP:PV->PV->Option (Res PV)
 |.int i,.int j=>if O1 i j=true then some (.ok (.int (i*j))) else none
 |.str z,.int n=>if -(2^63)<=n/\n<2^63/\z.length*n.toNat<=sizeLine then some (.ok (.str (DW z n.toNat))) else none
 |_,_=>none
def Ay:PV->PV->Option (Res PV)
 |.int i,.int j=>some (.ok (.bl (decide (i<j))))
 |.str i,.str j=>some (.ok (.bl (decide (i.cps.toList<j.cps.toList))))
 |_,_=>none
def O3:PV->PV->Option (Res PV)
 |.int i,.int j=>some (.ok (.bl (decide (i<=j))))
 |.str i,.str j=>some (.ok (.bl (!(decide (j.cps.toList<i.cps.toList)))))
 |_,_=>none
def gV(p q:PV):Option (Res PV):=match eqF 32 p q with
 |some r=>some (.ok (.bl r))
 |none=>none
def u6(p q:PV):Option (Res PV):=match eqF 32 p q with
 |some r=>some (.ok (.bl (!r)))
 |none=>none
def inU(p:PV):PV->Option Bool
 |.lst l=>inF p l
 |.tup l=>inF p l
 |.str j=>match p with
  |.str i=>some (!(Builtin.Str.occurrences j i 0 j.length 1).isEmpty)
  |_=>none
 |_=>none
def Hv(p q:PV):Option (Res PV):=match inU p q with
 |some r=>some (.ok (.bl r))
 |none=>none
def PV.wk:PV->Bool
 |.non=>true
 |_=>false
def ofO(x:Option PV):Option (Res PV):=match x with
 |some p=>some (.ok p)
 |none=>none
def cA:PV->PV->Option (Res PV)
 |.lst l,.int i=>ofO (atI l i)
 |.tup l,.int i=>ofO (atI l i)
 |.str z,.int i=>if z.length<=sizeLine then ofO ((atI z.cps.toList i).map λc=>.str ⟨#[c]⟩) else none
 |_,_=>none
def DX:List PV->PV->Option (Res PV)
 |l,.int i=>ofO (atI l i)
 |_,_=>none
section
variable{K:PySem.W.Frag}{C:Cg}{F H:Hp}
theorem Xf{i j:Int}(h:VB i j=true):Vg i j:=of_decide_eq_true (p:=0<j/\j<1073741824) h
theorem Uo{i j:Int}(h:O2 i j=true):M9 i j:=of_decide_eq_true (p:=0<=j/\j<=1000000/\i.natAbs<2^64) h
theorem Xg{i j:Int}(h:O1 i j=true):GZ i j:=of_decide_eq_true (p:=(-(2^64)<i/\i<2^64)\/(-(2^64)<j/\j<2^64)) h
theorem zj{c:Int->Int->Bool}{f:Int->Int->PV}{cond:Int->Int->Prop}{fv:Int->Int->V}(hc:∀ i j,c i j=true->cond i j)(hf:∀ i j F,Rep K F (fv i j) (f i j)):R2M C (aF K) (aF K) (aF K) (rI cond fv) (opI c f):=by
 intro F H x y a b res Q s ha hb e P;have inv:(∃ i j,a=.int i/\b=.int j):=by
  clear P ha hb
  cases a<;>first|exact noS e|(cases b<;>first|exact noS e|exact⟨_,_,rfl,rfl⟩)
 obtain⟨i,j,rfl,rfl⟩:=inv;cases Rep.aZ ha;cases Rep.aZ hb;have e:(if c i j=true then some (Res.ok (f i j)) else none)=some res:=e;split at e
 ·rename_i h;cases e;exact⟨i,j,rfl,rfl,hc i j h,P _ F H (Up.refl s) (hf i j F)⟩
 ·cases e
theorem wu{f:Int->Int->PV}{fv:Int->Int->V}(hf:∀ i j F,Rep K F (fv i j) (f i j)):R2M C (aF K) (aF K) (aF K) (rI0 fv) (opI cT f):=by
 intro F H x y a b res Q s ha hb e P;have inv:(∃ i j,a=.int i/\b=.int j):=by
  clear P ha hb
  cases a<;>first|exact noS e|(cases b<;>first|exact noS e|exact⟨_,_,rfl,rfl⟩)
 obtain⟨i,j,rfl,rfl⟩:=inv;cases Rep.aZ ha;cases Rep.aZ hb;cases e;exact⟨i,j,rfl,rfl,P _ F H (Up.refl s) (hf i j F)⟩
theorem Uq:R2M C (aF K) (aF K) (aF K) (rI0 λi j=>.int (i-j)) DG:=wu λ_ _ _=>.int
theorem JD:R2M C (aF K) (aF K) (aF K) (rI Vg λi j=>.int (i/j)) wj:=zj (λ_ _ h=>Xf h) λ_ _ _=>.int
theorem lK:R2M C (aF K) (aF K) (aF K) (rI (λ_ j=>0<j) λi j=>.int (i%j)) ji:=zj (λ_ _ h=>of_decide_eq_true h) λ_ _ _=>.int
theorem Ur:R2M C (aF K) (aF K) (aF K) (rI M9 λi j=>.int (i^j.toNat)) DK:=zj (λ_ _ h=>Uo h) λ_ _ _=>.int
theorem Us:R2M C (aF K) (aF K) (aF K) (rI M9 λi j=>.int (i*2^j.toNat)) DN:=zj (λ_ _ h=>Uo h) λ_ _ _=>.int
theorem Ut:R2M C (aF K) (aF K) (aF K) (rI (λ_ j=>0<=j) λi j=>.int (i/2^j.toNat)) DP:=zj (λ_ _ h=>of_decide_eq_true h) λ_ _ _=>.int
theorem Uu:R2M C (aF K) (aF K) (aF K) (rI0 λi j=>.int (Builtin.bitAnd i j)) DR:=wu λ_ _ _=>.int
theorem Yd:R2M C (aF K) (aF K) (aF K) (rI0 λi j=>.int (Builtin.bitOr i j)) R0:=wu λ_ _ _=>.int
theorem Ye:R2M C (aF K) (aF K) (aF K) (rI0 λi j=>.bl (decide (j<i))) R4:=wu λ_ _ _=>.bl
theorem Yg:R2M C (aF K) (aF K) (aF K) (rI0 λi j=>.bl (decide (j<=i))) R5:=wu λ_ _ _=>.bl
theorem gW:R2M C (aF K) (aF K) (aF K) (OD K) eX:=by
 intro F H x y a b res Q s ha hb e P;have inv:(∃ i j,a=.int i/\b=.int j)\/(∃ i j,a=.str i/\b=.str j)\/(∃ l m,a=.tup l/\b=.tup m):=by
  clear P ha hb
  cases a<;>first|exact noS e|(cases b<;>first|exact noS e|exact .inl ⟨_,_,rfl,rfl⟩|exact .inr (.inl ⟨_,_,rfl,rfl⟩)|exact .inr (.inr ⟨_,_,rfl,rfl⟩))
 rcases inv with⟨i,j,rfl,rfl⟩|⟨i,j,rfl,rfl⟩|⟨l,m,rfl,rfl⟩
 ·cases Rep.aZ ha;cases Rep.aZ hb;cases e;exact .inl ⟨i,j,rfl,rfl,P _ F H (Up.refl s) .int⟩
 ·cases Rep.bI ha;cases Rep.bI hb;have e:(if i.length+j.length<=sizeLine then some (Res.ok (PV.str (i++j))) else none)=some res:=e;split at e
  ·rename_i h;cases e;exact .inr (.inl ⟨i,j,rfl,rfl,h,P _ F H (Up.refl s) .str⟩)
  ·cases e
 ·have e:(if l≠[]/\l.length+m.length<=sizeLine then some (Res.ok (PV.tup (l++m))) else none)=some res:=e;split at e
  ·rename_i h;cases e;obtain⟨a1,xs,rfl,h1,r1⟩:=Rep.cG ha;obtain⟨a2,ys,rfl,h2,r2⟩:=Rep.cG hb;have hx:xs≠[]:=λz=>h.1 (by have:=r1.1;rw[z] at this;simpa using this.symm)
   refine .inr (.inr ⟨a1,a2,xs,ys,rfl,rfl,s.tup h1,s.tup h2,hx,by rw[r1.1,r2.1];exact h.2,λz=>?_,λ_ p hp=>?_⟩)
   ·subst z;have hm:m=[]:=by have:=r2.1;simpa using this.symm
    subst hm;rw[Zaw] at P;exact P _ F H (Up.refl s) ha
   ·have un:=Up.new (o:=.tup (xs++ys)) s hp;exact P _ _ _ un (.tup aN (r1.append r2).1 ((r1.append r2).up un.ff).2)
  ·cases e
theorem DY:R2M C (aF K) (aF K) (aF K) Um uP:=by
 intro F H x y a b res Q s ha hb e P;have inv:(∃ i j,a=.int i/\b=.int j)\/(∃ z n,a=.str z/\b=.int n):=by
  clear P ha hb
  cases a<;>first|exact noS e|(cases b<;>first|exact noS e|exact .inl ⟨_,_,rfl,rfl⟩|exact .inr ⟨_,_,rfl,rfl⟩)
 rcases inv with⟨i,j,rfl,rfl⟩|⟨z,n,rfl,rfl⟩
 ·cases Rep.aZ ha;cases Rep.aZ hb;have e:(if O1 i j=true then some (Res.ok (PV.int (i*j))) else none)=some res:=e;split at e
  ·rename_i h;cases e;exact .inl ⟨i,j,rfl,rfl,Xg h,P _ F H (Up.refl s) .int⟩
  ·cases e
 ·cases Rep.bI ha;cases Rep.aZ hb;have e:(if -(2^63)<=n/\n<2^63/\z.length*n.toNat<=sizeLine then some (Res.ok (PV.str (DW z n.toNat))) else none)=some res:=e;split at e
  ·rename_i h;cases e;exact .inr ⟨z,n,rfl,rfl,h.1,h.2.1,h.2.2,P _ F H (Up.refl s) .str⟩
  ·cases e
theorem Le:R2M C (aF K) (aF K) (aF K) Xb Ay:=by
 intro F H x y a b res Q s ha hb e P;have inv:(∃ i j,a=.int i/\b=.int j)\/(∃ i j,a=.str i/\b=.str j):=by
  clear P ha hb
  cases a<;>first|exact noS e|(cases b<;>first|exact noS e|exact .inl ⟨_,_,rfl,rfl⟩|exact .inr ⟨_,_,rfl,rfl⟩)
 rcases inv with⟨i,j,rfl,rfl⟩|⟨i,j,rfl,rfl⟩
 ·cases Rep.aZ ha;cases Rep.aZ hb;cases e;exact .inl ⟨i,j,rfl,rfl,P _ F H (Up.refl s) .bl⟩
 ·cases Rep.bI ha;cases Rep.bI hb;cases e;exact .inr ⟨i,j,rfl,rfl,P _ F H (Up.refl s) .bl⟩
theorem Xh:R2M C (aF K) (aF K) (aF K) Xc O3:=by
 intro F H x y a b res Q s ha hb e P;have inv:(∃ i j,a=.int i/\b=.int j)\/(∃ i j,a=.str i/\b=.str j):=by
  clear P ha hb
  cases a<;>first|exact noS e|(cases b<;>first|exact noS e|exact .inl ⟨_,_,rfl,rfl⟩|exact .inr ⟨_,_,rfl,rfl⟩)
 rcases inv with⟨i,j,rfl,rfl⟩|⟨i,j,rfl,rfl⟩
 ·cases Rep.aZ ha;cases Rep.aZ hb;cases e;exact .inl ⟨i,j,rfl,rfl,P _ F H (Up.refl s) .bl⟩
 ·cases Rep.bI ha;cases Rep.bI hb;cases e;exact .inr ⟨i,j,rfl,rfl,P _ F H (Up.refl s) .bl⟩
theorem jR:R2M C (aH K) (aH K) (aF K) (Vx K) gV:=by
 intro F H x y a b res Q s ha hb e P;unfold gV at e;split at e
 ·rename_i r h;cases e;exact⟨a,b,r,ha,hb,h,P _ F H (Up.refl s) .bl⟩
 ·cases e
theorem O4:R2M C (aH K) (aH K) (aF K) (W9 K) u6:=by
 intro F H x y a b res Q s ha hb e P;unfold u6 at e;split at e
 ·rename_i r h;cases e;exact⟨a,b,r,ha,hb,h,P _ F H (Up.refl s) .bl⟩
 ·cases e
theorem Xi:R2M C (aH K) (aH K) (aF K) (Vz K) Hv:=by
 intro F H x y a b res Q s ha hb e P;unfold Hv at e;split at e
 ·rename_i r h;cases e
  match b,h with
  |.lst l,h=>exact .inl ⟨a,l,r,ha,.inl hb,h,P _ F H (Up.refl s) .bl⟩
  |.tup l,h=>exact .inl ⟨a,l,r,ha,.inr hb,h,P _ F H (Up.refl s) .bl⟩
  |.str j,h=>
   match a,h with
   |.str i,h=>
    cases h;exact .inr ⟨i,j,Rep.bI ha,Rep.bI hb,P _ F H (Up.refl s) .bl⟩
 ·cases e
theorem Az{xs:List V}{l:List PV}{i:Int}{p:PV}(r:bw K F xs l)(h:atI l i=some p):∃ v,atI xs i=some v/\Rep K F v p:=by
 unfold atI at h ⊢;rw[r.1];cases e:ixN l.length i with
 |none=>rw[e] at h;cases h
 |some j=>
  rw[e] at h;exact r.get h
theorem rR{x:Option PV}{res:Res PV}(h:ofO x=some res):∃ p,x=some p/\res=.ok p:=by
 cases x with
 |none=>cases h
 |some p=>cases h;exact⟨p,rfl,rfl⟩
theorem cW:R2M C (aF K) (aF K) (aF K) (rIx K) cA:=by
 intro F H x y a b res Q s ha hb e P;have inv:(∃ l i,a=.lst l/\b=.int i)\/(∃ l i,a=.tup l/\b=.int i)\/(∃ z i,a=.str z/\b=.int i):=by
  clear P ha hb
  cases a<;>first|exact noS e|(cases b<;>first|exact noS e|exact .inl ⟨_,_,rfl,rfl⟩|exact .inr (.inl ⟨_,_,rfl,rfl⟩)|exact .inr (.inr ⟨_,_,rfl,rfl⟩))
 rcases inv with⟨l,i,rfl,rfl⟩|⟨l,i,rfl,rfl⟩|⟨z,i,rfl,rfl⟩
 ·cases Rep.aZ hb;obtain⟨p,e1,rfl⟩:=rR e;obtain⟨a1,xs,rfl,h1,r1⟩:=Rep.cJ ha;obtain⟨v,e2,rv⟩:=Az r1 e1;exact .inl ⟨a1,xs,i,v,rfl,rfl,s.seq h1,e2,P _ F H (Up.refl s) rv⟩
 ·cases Rep.aZ hb;obtain⟨p,e1,rfl⟩:=rR e;obtain⟨a1,xs,rfl,h1,r1⟩:=Rep.cG ha;obtain⟨v,e2,rv⟩:=Az r1 e1;exact .inr (.inl ⟨a1,xs,i,v,rfl,rfl,s.tup h1,e2,P _ F H (Up.refl s) rv⟩)
 ·cases Rep.aZ hb;cases Rep.bI ha;have e:(if z.length<=sizeLine then ofO ((atI z.cps.toList i).map λc=>PV.str ⟨#[c]⟩) else none)=some res:=e;split at e
  ·rename_i hz;obtain⟨p,e1,rfl⟩:=rR e;cases e2:atI z.cps.toList i with
   |none=>rw[e2] at e1;cases e1
   |some c=>
    rw[e2] at e1;cases e1;exact .inr (.inr ⟨z,i,c,rfl,rfl,hz,e2,P _ F H (Up.refl s) .str⟩)
  ·cases e
theorem O5:R2M C (aV K) (aF K) (aF K) (rIx K) DX:=by
 intro F H x y a b res Q s ha hb e P
 match b,e with
 |.int i,e=>
  cases Rep.aZ hb;obtain⟨p,e1,rfl⟩:=rR e;obtain⟨a1,xs,rfl,h1,r1⟩:=ha;obtain⟨v,e2,rv⟩:=Az r1 e1;exact .inl ⟨a1,xs,i,v,rfl,rfl,h1,e2,P _ F H (Up.refl s) rv⟩
def Ea(l m:List PV):Option (Res PV):=if l.length+m.length<=sizeLine then some (.ok (.lst (l++m))) else none
def Xj(K:PySem.W.Frag):R2:=λx y H Q=>∃ l b xs zs,x=.ref l/\y=.ref b/\SqL K H l xs/\SqL K H b zs/\xs.length+zs.length<=sizeLine/\∀ p,H p=none->Q (.ref p) (upd H p (.lst (xs++zs)))
theorem Uv:R2O K C (aV K) (aV K) (Xj K) Ea:=by
 intro F H x y a b res Q s ha hb e P;unfold Ea at e;split at e
 ·rename_i h;cases e;obtain⟨a1,xs,rfl,h1,r1⟩:=ha;obtain⟨a2,ys,rfl,h2,r2⟩:=hb;refine⟨a1,a2,xs,ys,rfl,rfl,h1,h2,by rw[r1.1,r2.1];exact h,λp hp=>?_⟩
  exact P p F _ (Up.yj s hp) hp (s.free hp) ⟨_,aN,r1.append r2⟩
 ·cases e
variable{ta tb te:TE}
def O6:PV->PV->Option (Res PV)
 |.lst l,.int k=>if -(2^63)<=k/\k<2^63/\l.length*k.toNat<=sizeLine then some (.ok (.lst (List.replicate k.toNat l).flatten)) else none
 |_,_=>none
def Lf(f g:Fn PV):Fn PV:=m2 O6 f g
theorem bw.rep{xs:List V}{l:List PV}(h:bw K F xs l):∀ n:Nat,bw K F (List.replicate n xs).flatten (List.replicate n l).flatten
 |0=>.nil
 |n+1=>by
  rw[ZaM,Za9,ZaM,Za9];exact h.append (bw.rep h n)
theorem Hw{f g:Fn PV}(ha:MO K C ta f)(hb:MJ K C (aF K) tb g):MO K C (tOp W0 ta tb) (Lf f g):=by
 intro F H σ ρ Q r R e P;refine ha.run R e P λp a F1 H1 hk u n1 n2 w=>?_;refine hb.run (R.up u) hk (P.t7 u) λq v F2 H2 hk2 u2 b=>?_
 match p,q,hk2 with
 |.lst l,.int k,hk2=>
  cases Rep.aZ b;have hk2:(if -(2^63)<=k/\k<2^63/\l.length*k.toNat<=sizeLine then some (Res.ok (PV.lst (List.replicate k.toNat l).flatten)) else none)=some r:=hk2;split at hk2
  ·rename_i h;cases hk2;obtain⟨xs,e1,r1⟩:=w;refine⟨a,k,xs,rfl,rfl,u2.hh _ _ e1,h.1,h.2.1,by rw[r1.1];exact h.2.2,λp hp=>?_⟩
   exact P p F2 _ (u.trans (u2.trans (Up.yj u2.fh hp))) ((u.hh.trans u2.hh).free hp) (u2.fh.free hp) ⟨_,aN,(r1.up u2.ff).rep _⟩
  ·cases hk2
def MP'(K:PySem.W.Frag)(C:Cg)(t:TO)(f:Fn (Option Int)):Prop:=
 ∀ F H σ ρ Q r,RE K C.toCf F H σ ρ->f ρ=some r->Pr C F (λo=>∀ F' H',Up F H F' H'->Q o H') r->t σ H Q
def mPn:Fn (Option Int):=λ_=>some (.ok none)
def asInt:PV->Option (Res (Option Int))
 |.int i=>some (.ok (some i))
 |_=>none
theorem pO:MP' K C Jt mPn:=λF H σ ρ Q r R e P=>by
 cases e;exact P F H (Up.refl R.rb.sub)
theorem pP{f:Fn PV}(h:MJ K C (aF K) te f):MP' K C (Ub te) (m1 asInt f):=by
 intro F H σ ρ Q r R e P;refine h.run R e P λp v F1 H1 hk u a=>?_
 match p,hk with
 |.int i,hk=>
  cases Rep.aZ a;cases hk;exact⟨i,rfl,P F1 H1 u⟩
theorem MP'.run{β:Type}{t:TO}{f:Fn (Option Int)}{σ:St}{ρ:Rho}{Q:Option Int->Hp->Prop}{ok:β->Prop}{k:Option Int->Option (Res β)}{r:Res β}(h:MP' K C t f)(R:RE K C.toCf F H σ ρ)(hb:bnd (f ρ) k=some r)(P:Pr C F ok r)
  (go:∀ o F1 H1,k o=some r->Up F H F1 H1->Q o H1):t σ H Q:=by
 rcases aX hb with⟨z,e,rfl⟩|⟨p,e,hk⟩
 ·exact h F H σ ρ Q _ R e P
 ·exact h F H σ ρ Q _ R e λF1 H1 u=>go p F1 H1 hk u
def Hx(l:List PV)(lo hi:Option Int):List PV:=(l.drop (HT.sIx l.length 0 lo)).take (HT.sIx l.length l.length hi-HT.sIx l.length 0 lo)
theorem bw.cut{xs:List V}{l:List PV}(h:bw K F xs l)(lo hi:Option Int):bw K F (KR xs lo hi) (Hx l lo hi):=by
 unfold KR Hx;rw[h.1];exact(h.drop _).take _
def R6(f:Fn (List PV))(lo hi:Fn (Option Int)):Fn PV:=λρ=>bnd (f ρ) λl=>bnd (lo ρ) λa=>bnd (hi ρ) λb=>some (.ok (.lst (Hx l a b)))
theorem VD{f:Fn (List PV)}{lo hi:Fn (Option Int)}{tl th:TO}(h:MJ K C (aV K) te f)(hl:MP' K C tl lo)(hh:MP' K C th hi):MO K C (tSl (WT K) te tl th) (R6 f lo hi):=by
 intro F H σ ρ Q r R e P;refine h.run R e P λl v F1 H1 hk u a=>?_;refine hl.run (R.up u) hk (P.t7 u) λo F2 H2 hk2 u2=>?_;refine hh.run (R.up (u.trans u2)) hk2 (P.t7 (u.trans u2)) λo2 F3 H3 hk3 u3=>?_;cases hk3;obtain⟨b,xs,rfl,h1,r1⟩:=a;have u23:=u2.trans u3;refine⟨b,xs,rfl,u23.hh.seq h1,λp hp=>?_⟩;exact P p F3 _ (u.trans (u23.trans (Up.yj u3.fh hp))) ((u.hh.trans u23.hh).free hp) (u3.fh.free hp) ⟨_,aN,(r1.up u23.ff).cut _ _⟩
def O7(a b:Option Int):PV->Option (Res PV)
 |.str z=>if z.length<=sizeLine then some (.ok (.str (Txt.slice z a b))) else none
 |_=>none
def Eb(f:Fn PV)(lo hi:Fn (Option Int)):Fn PV:=λρ=>bnd (f ρ) λz=>bnd (lo ρ) λa=>bnd (hi ρ) λb=>O7 a b z
theorem ww{f:Fn PV}{lo hi:Fn (Option Int)}{tl th:TO}(h:MJ K C (aF K) te f)(hl:MP' K C tl lo)(hh:MP' K C th hi):MJ K C (aF K) (tSl W4 te tl th) (Eb f lo hi):=by
 intro F H σ ρ Q r R e P;refine h.run R e P λl v F1 H1 hk u a=>?_;refine hl.run (R.up u) hk (P.later u) λo F2 H2 hk2 u2=>?_;refine hh.run (R.up (u.trans u2)) hk2 (P.later (u.trans u2)) λo2 F3 H3 hk3 u3=>?_
 match l,hk3 with
 |.str z,hk3=>
  cases Rep.bI a;have hk3:(if z.length<=sizeLine then some (Res.ok (PV.str (Txt.slice z o o2))) else none)=some r:=hk3;split at hk3
  ·rename_i hz;cases hk3;exact⟨z,rfl,hz,P _ F3 H3 (u.trans (u2.trans u3)) .str⟩
  ·cases hk3
end
def O8(K:PySem.W.Frag)(tl:TE):TI:=λσ H R=>tl σ H λx H1=>(∃ a,x=.ref a/\(∃ xs,SqL K H1 a xs)/\R (Itl K a) H1)\/(∃ a,x=.ref a/\(∃ xs,SqT K H1 a xs)/\R (Itt K a) H1)\/∃ z,x=.str z/\R (Itf (sgn z) z.cps.size) H1
theorem jr{X:Cx}{tg l:Expr}{tl:TE}(hl:PE X l tl):PI X tg l (O8 X.K tl):=by
 intro pins s σ H R I h;refine thn (hl pins s σ H _ I h) ?_;rintro v s1 ⟨x,H1,I1,r1,q1⟩;have keep:∀ (o:Obj),Inv X pins σ H1 { s1 with heap:=s1.heap.push o }:=λo=>I1.kept (t':=s1.toks) λb ob e=>Zae _ e;have fp:∀ b∈[s1.heap.objs.size],ye X pins H1 b:=λb hb=>by
  have e:b=s1.heap.objs.size:=by simpa using hb
  subst e;exact I1.Ro (Zah _) (I1.hok.fresh (Zah _))
 rcases q1 with⟨a,rfl,⟨xs,hq⟩,q⟩|⟨a,rfl,⟨xs,hq⟩,q⟩|⟨z,rfl,q⟩
 ·cases r1;obtain⟨its,rv,p,hz⟩:=I1.list hq;exact wpAny_pyIter_list p.isList ⟨_,[_],_,_,H1,rfl,keep _,KD a _,⟨_,Zat _ rfl,rfl,rfl⟩,fp,q⟩
 ·cases r1;obtain⟨its,rv,p,hz⟩:=I1.tuple hq;exact wpAny_pyIter_tuple (show s1.heap.IsTuple a its.toArray from p) ⟨_,[_],_,_,H1,rfl,keep _,GR a _,⟨_,Zat _ rfl,rfl,rfl⟩,fp,q⟩
 ·obtain⟨t,rfl⟩:=r1;exact wpAny_pyIter_strU ⟨_,[_],_,_,H1,rfl,keep _,NZ _ z t,⟨_,Zat _ rfl,rfl,rfl⟩,fp,q⟩
section
variable{K:PySem.W.Frag}{C:Cg}{F H:Hp}{σ:St}{ρ:Rho}{te:TE}{tA:TA}{a:Addr}{xs:List V}{l:List PV}
def signs(z:Str):List PV:=z.cps.toList.map λc=>.str ⟨#[c]⟩
def nC:PV->Option (Res (List PV))
 |.lst l=>some (.ok l)
 |.tup l=>some (.ok l)
 |.str z=>some (.ok (signs z))
 |_=>none
theorem O9(h:SqL K F a xs)(r:bw K F xs l):ItR K (Itl K a) F l where
 stop:=λF' H' s s'=>⟨xs,(s.trans s').seq h,by rw[r.1];exact Zah _⟩
 go:=λi F' H' hi s s'=>⟨xs,xs[i]'(by rw[r.1];exact hi),(s.trans s').seq h,by simp⟩
 yld:=λi F' H' x H'' hi s s' y=>by
  obtain⟨rfl,y⟩:=y;have e:=y xs ((s.trans s').seq h);obtain⟨p,e2,rp⟩:=r.got e;exact⟨F',p,Up.refl s',e2,rp.up s⟩
theorem R7(h:SqT K F a xs)(r:bw K F xs l):ItR K (Itt K a) F l where
 stop:=λF' H' s s'=>⟨xs,(s.trans s').tup h,by rw[r.1];exact Zah _⟩
 go:=λi F' H' hi s s'=>⟨xs,xs[i]'(by rw[r.1];exact hi),(s.trans s').tup h,by simp⟩
 yld:=λi F' H' x H'' hi s s' y=>by
  obtain⟨rfl,y⟩:=y;have e:=y xs ((s.trans s').tup h);obtain⟨p,e2,rp⟩:=r.got e;exact⟨F',p,Up.refl s',e2,rp.up s⟩
theorem R8(z:Str):ItR K (Itf (sgn z) z.cps.size) F (signs z) where
 stop:=λF' H' s s'=>by simp[signs,Itf]
 go:=λi F' H' hi s s'=>by simpa[signs,Itf] using hi
 yld:=λi F' H' x H'' hi s s' y=>by
  obtain⟨rfl,rfl⟩:=y;have hi':i<z.cps.size:=by simpa[signs] using hi
  refine⟨F',.str ⟨#[z.cps.getD i 0]⟩,Up.refl s',?_,.str⟩;unfold signs;rw[Zaf,ZbE,ZbS,Array.getElem?_eq_getElem hi'];rfl
theorem jX{f:Fn PV}(h:MJ K C (aF K) te f):MI K C (O8 K te) (m1 nC f):=by
 intro F H σ ρ R' r R e P;refine h.run R e P λp v F1 H1 hk u a=>?_
 match p,hk with
 |.lst l,hk=>
  cases hk;obtain⟨b,xs,rfl,h1,r1⟩:=Rep.cJ a;exact .inl ⟨b,rfl,⟨xs,u.fh.seq h1⟩,P _ F1 H1 u (O9 h1 r1)⟩
 |.tup l,hk=>
  cases hk;obtain⟨b,xs,rfl,h1,r1⟩:=Rep.cG a;exact .inr (.inl ⟨b,rfl,⟨xs,u.fh.tup h1⟩,P _ F1 H1 u (R7 h1 r1)⟩)
 |.str z,hk=>
  cases hk;cases Rep.bI a;exact .inr (.inr ⟨z,rfl,P _ F1 H1 u (R8 z)⟩)
def nY(lo:Int)(n:Nat):List PV:=(List.range n).map λ(i:Nat)=>.int (lo+(i:Int))
theorem bM(lo:Int)(n:Nat):(nY lo n).length=n:=by simp[nY]
theorem JF(lo:Int)(n:Nat):ItR K (Itr lo n) F (nY lo n) where
 stop:=λF' H' s s'=>by rw[bM];exact Zah _
 go:=λi F' H' hi s s'=>by rw[bM] at hi;exact hi
 yld:=λi F' H' x H'' hi s s' y=>by
  obtain⟨rfl,rfl⟩:=y;rw[bM] at hi;refine⟨F',.int (lo+i),Up.refl s',?_,.int⟩;unfold nY;rw[Zaf,ZbT hi];rfl
def jG:List PV->Option (Res (List PV))
 |[.int j]=>if -(2^62)<=j/\j<2^62 then some (.ok (nY 0 j.toNat)) else none
 |_=>none
theorem jt{f:Fn (List PV)}(h:MA K C tA f):MI K C (M8 tA) (m1 jG f):=by
 intro F H σ ρ R' r R e P;refine h.run R e P λl xs F1 H1 hk u a=>?_;have inv:∃ j,l=[.int j]:=by
  clear P u a
  rcases l with _|⟨x,_|⟨y,l⟩⟩<;>first|exact noS hk|(cases x<;>first|exact noS hk|exact⟨_,rfl⟩)
 obtain⟨j,rfl⟩:=inv;have hk:(if -(2^62)<=j/\j<2^62 then some (Res.ok (nY 0 j.toNat)) else none)=some r:=hk;split at hk
 ·rename_i hj;cases hk;obtain⟨v,ys,rfl,r1,r2⟩:=a.oh;cases r2.rO;cases Rep.aZ r1;exact⟨j,rfl,hj.1,hj.2,P _ F1 H1 u (JF 0 j.toNat)⟩
 ·cases hk
def wy(l:List PV):List PV:=l.mapIdx λ(i:Nat) x=>.tup [.int i,x]
def Hy:List PV->Option (Res (List PV))
 |[.lst l]=>some (.ok (wy l))
 |_=>none
theorem R9{f:Fn (List PV)}(h:MA K C tA f):MI K C (Ug K tA) (m1 Hy f):=by
 intro F H σ ρ R' r R e P;refine h.run R e P λl xs F1 H1 hk u a=>?_;have inv:∃ m,l=[.lst m]:=by
  clear P u a
  rcases l with _|⟨x,_|⟨y,l⟩⟩<;>first|exact noS hk|(cases x<;>first|exact noS hk|exact⟨_,rfl⟩)
 obtain⟨l,rfl⟩:=inv;cases hk;obtain⟨v,ys,rfl,r1,r2⟩:=a.oh;cases r2.rO;obtain⟨b,xs,rfl,h1,r1⟩:=Rep.cJ r1;have hl:(wy l).length=l.length:=by simp[wy]
 refine⟨b,rfl,⟨xs,u.fh.seq h1⟩,P _ F1 H1 u ⟨λF' H' s s'=>?_,λi F' H' hi s s'=>?_,λi F' H' x H'' hi s s' y=>?_⟩⟩
 ·exact⟨xs,(s.trans s').seq h1,by rw[hl,r1.1];exact Zah _⟩
 ·rw[hl] at hi;exact⟨xs,xs[i]'(by rw[r1.1];exact hi),(s.trans s').seq h1,by simp⟩
 ·obtain⟨p,y,hp,rfl,rfl,hy⟩:=y;have e:=hy xs ((s.trans s').seq h1);obtain⟨q,e2,rq⟩:=r1.got e;have un:=Up.new (o:=.tup [.int i,y]) s' hp;refine⟨_,.tup [.int i,q],un,?_,.tup aN rfl λj x p hx hp'=>?_⟩
  ·unfold wy;rw[ZbP,e2];rfl
  ·match j with
   |0=>simp at hx hp';subst hx hp';exact .int
   |1=>simp at hx hp';subst hx hp';exact rq.up (s.trans un.ff)
   |j+2=>simp at hx
def NoO(ρ:Rho):Prop:=∀ (j:Nat) q,ρ[j]?≠some (some (.ow q))/\ρ[j]?≠some (some (.dp q))
def Wr(T:List Nat)(tg:PV->Rho->Option Rho):Prop:=∀ x ρ ρ',tg x ρ=some ρ'->ρ'.length=ρ.length/\(∀ j,j ∉ T->ρ'[j]?=ρ[j]?)/\(NoO ρ->NoO ρ')
def WrS(T:List Nat)(tg:List PV->Rho->Option Rho):Prop:=∀ x ρ ρ',tg x ρ=some ρ'->ρ'.length=ρ.length/\(∀ j,j ∉ T->ρ'[j]?=ρ[j]?)/\(NoO ρ->NoO ρ')
theorem gY(i:Nat):Wr [i] (gN i):=λx ρ ρ' e=>by
 cases e;refine⟨by simp,λj hj=>?_,λh j q=>⟨λe=>?_,λe=>?_⟩⟩
 ·rw[Zab (by simpa using Za0 (by simpa using hj))]
 ·rcases get_set e with⟨_,e2⟩|⟨_,e2⟩
  ·cases e2
  ·exact(h j q).1 e2
 ·rcases get_set e with⟨_,e2⟩|⟨_,e2⟩
  ·cases e2
  ·exact(h j q).2 e2
theorem Sd:WrS [] gsNil:=λx ρ ρ' e=>by
 cases x with
 |nil=>cases e;exact⟨rfl,λ_ _=>rfl,λh=>h⟩
 |cons p l=>cases e
theorem Ec{T U:List Nat}{t:PV->Rho->Option Rho}{u:List PV->Rho->Option Rho}(h:Wr T t)(hs:WrS U u):WrS (T++U) (gsCons t u):=λx ρ ρ' e=>by
 cases x with
 |nil=>cases e
 |cons p l=>
  have e:(match t p ρ with
   |some ρ'=>u l ρ'
   |none=>none)=some ρ':=e
  split at e
  ·rename_i ρ1 h1;obtain⟨a1,a2,a3⟩:=h p ρ ρ1 h1;obtain⟨b1,b2,b3⟩:=hs l ρ1 ρ' e;exact⟨b1.trans a1,λj hj=>(b2 j λz=>hj (ZaA _ z)).trans (a2 j λz=>hj (ZbM _ z)),λz=>b3 (a3 z)⟩
  ·cases e
theorem VF{n:Nat}{U:List Nat}{u:List PV->Rho->Option Rho}(hs:WrS U u):Wr U (gT n u):=λx ρ ρ' e=>by
 unfold gT at e;split at e
 ·split at e
  ·exact hs _ ρ ρ' e
  ·cases e
 ·cases e
def shOnly:Option Sl->Option Sl
 |some (.sh p)=>some (.sh p)
 |_=>none
def frR(fr:List (Option Nat))(ρ:Rho):Rho:=fr.map λo=>match o with
 |some i=>match ρ[i]? with
  |some v=>shOnly v
  |none=>none
 |none=>none
def eY(tg:PV->Rho->Option Rho)(tst:Fn Bool)(el:Fn PV)(ρb:Rho):List PV->Option (Res (List PV))
 |[]=>some (.ok [])
 |x::xs=>match tg x ρb with
  |none=>none
  |some ρ1=>bnd (tst ρ1) λb=>if b=true then bnd (el ρ1) λp=>bnd (eY tg tst el ρb xs) λr=>some (.ok (p::r)) else eY tg tst el ρb xs
def jj(it:Fn (List PV))(fr:List (Option Nat))(tg:PV->Rho->Option Rho)(tst:Fn Bool)(el:Fn PV):Fn PV:=λρ=>bnd (it ρ) λl=>
 if l.length<=sizeLine then bnd (eY tg tst el (frR fr ρ) l) λr=>some (.ok (.lst r)) else none
def ud:Fn Bool:=λ_=>some (.ok true)
theorem ue:MT K C W2 ud:=λF H σ ρ Q r R e P=>by
 cases e;exact P F H (Up.refl R.rb.sub)
theorem RE.block(R:RE K C.toCf F H σ ρ)(fr:List (Option Nat)):RE K C.toCf F H (frσ fr σ) (frR fr ρ)/\NoO (frR fr ρ):=by
 have nd:∀ (j:Nat) q,(frR fr ρ)[j]?≠some (some (.dp q)):=λj q e=>by
  unfold frR at e;rw[Zaf] at e;cases e1:fr[j]? with
  |none=>rw[e1] at e;cases e
  |some o=>
   rw[e1] at e;cases o with
   |none=>cases e
   |some i=>
    simp only[Zbv,Zb9] at e;split at e
    ·rename_i v hv;unfold shOnly at e;split at e<;>cases e
    ·cases e
 have no:∀ (j:Nat) q,(frR fr ρ)[j]?≠some (some (.ow q)):=λj q e=>by
  unfold frR at e;rw[Zaf] at e;cases e1:fr[j]? with
  |none=>rw[e1] at e;cases e
  |some o=>
   rw[e1] at e;cases o with
   |none=>cases e
   |some i=>
    simp only[Zbv,Zb9] at e;split at e
    ·rename_i v hv;unfold shOnly at e;split at e<;>cases e
    ·cases e
 refine⟨⟨R.rb,by unfold frσ frR;simp,λj p e=>?_,λj p e=>absurd e (no j p),λi j p q a e=>absurd e (no i p),_,RD.no nd⟩,λj q=>⟨no j q,nd j q⟩⟩
 unfold frR at e;rw[Zaf] at e;unfold frσ;rw[Zaf];cases e1:fr[j]? with
 |none=>rw[e1] at e;cases e
 |some o=>
  rw[e1] at e;cases o with
  |none=>cases e
  |some i=>
   simp only[Zbv,Zb9] at e ⊢;split at e
   ·rename_i v hv;unfold shOnly at e;split at e
    ·cases e;obtain⟨w,e2,e3⟩:=R.sh i _ hv;exact⟨w,by rw[e2],e3⟩
    ·cases e
   ·cases e
theorem RE.other(R:RE K C.toCf F H σ ρ){D:Addr}{o:HO}(hf:F D=none)(h0:C.H0 D=none)(no:NoO ρ):RE K C.toCf F (upd H D o) σ ρ where
 rb:=⟨λb u q=>by rw[aK (bO q hf)];exact R.rb.sub b u q,λb u q n=>by rw[aK (bO q h0)];exact R.rb.keep b u q n,R.rb.new,λb hb=>⟨by
  have:=(R.rb.ios b hb);by_cases hbD:b=D
  ·subst hbD;exact absurd h0 this.2
  ·rw[aK hbD];exact this.1,(R.rb.ios b hb).2⟩⟩
 len:=R.len
 sh:=R.sh
 ow:=λi p e=>absurd e (no i p).1
 dis:=λi j p q a e=>absurd e (no i p).1
 dd:=⟨_,RD.no λi p=>(no i p).2⟩
theorem RE.weak{ρ':Rho}(R:RE K C.toCf F H σ ρ')(hl:ρ.length=ρ'.length)(h:∀ (j:Nat) s,ρ[j]?=some (some s)->ρ'[j]?=some (some s)):RE K C.toCf F H σ ρ where
 rb:=R.rb
 len:=by rw[R.len,hl]
 sh:=λi p e=>R.sh i p (h i _ e)
 ow:=λi p e=>R.ow i p (h i _ e)
 dis:=λi j p q a e e'=>R.dis i j p q a (h i _ e) (h j _ e')
 dd:=let⟨P,d⟩:=R.dd;⟨P,d.own,d.dis,λi j q b z e=>d.ow i j q b z (h j _ e),λi p e=>d.dp i p (h i _ e)⟩
structure ItH(K:PySem.W.Frag)(J:It)(F H:Hp)(l:List PV):Prop where
 stop:∀ F' H',aL F F'->aL F' H'->aL H H'->J.stop l.length H'
 go:∀ i F' H',i<l.length->aL F F'->aL F' H'->aL H H'->J.go i H'
 yld:∀ i F' H' x H'',i<l.length->aL F F'->aL F' H'->aL H H'->J.yld i H' x H''->∃ F'' p,Up F' H' F'' H''/\l[i]?=some p/\Rep K F'' x p
def MIH(K:PySem.W.Frag)(C:Cg)(wi:TI)(f:Fn (List PV)):Prop:=
 ∀ F H σ ρ R' r,RE K C.toCf F H σ ρ->f ρ=some r->Pr C F (λl=>∀ J F' H',Up F H F' H'->ItH K J F' H' l->R' J H') r->wi σ H R'
theorem MI.h{wi:TI}{f:Fn (List PV)}(h:MI K C wi f):MIH K C wi f:=λF H σ ρ R' r R e P=>
 h F H σ ρ R' r R e (Pr.mono P (aL.refl _) λl q J F' H' u x=>q J F' H' u ⟨λa b c d _=>x.stop a b c d,λi a b hi c d _=>x.go i a b hi c d,λi a b y z hi c d _=>x.yld i a b y z hi c d⟩)
theorem uf{α β γ:Type}{x:Option (Res α)}{f:α->Option (Res β)}{g:β->Option (Res γ)}:bnd (bnd x f) g=bnd x λa=>bnd (f a) g:=by
 match x with
 |some (.ok a)=>rfl
 |some (.ex z)=>rfl
 |none=>rfl
theorem Pa{wi:TI}{it:Fn (List PV)}{fr:List (Option Nat)}{gt:TG}{tg:PV->Rho->Option Rho}{T:List Nat}{tc:TT}{tst:Fn Bool}{el:Fn PV}(hi:MIH K C wi it)(hg:MG K C gt tg)(hT:Wr T tg)(ht:MT K C tc tst)(he:MJ K C (aF K) te el)
  (hfr:T.all (λj=>fr[j]?==some none)=true:=by rfl):MO K C (vR wi fr gt tc te) (jj it fr tg tst el):=by
 intro F H σ ρ Q r R e P;rcases aX e with⟨z,e1,rfl⟩|⟨l,e1,hk⟩
 ·exact hi F H σ ρ _ _ R e1 P
 split at hk
 case isFalse=>cases hk
 rename_i hlen;refine hi F H σ ρ _ _ R e1 λJ F1 H1 u hJ D hD=>?_;have R1:=R.up u;obtain⟨Rb,no⟩:=R1.block fr;have hD0:C.H0 D=none:=R1.rb.nj hD;have hFD:F1 D=none:=u.fh.free hD;have hρ:∀ (j:Nat),j∈T->(frR fr ρ)[j]?=some none:=λj hj=>by
  have:=Zaq.mp hfr j hj;unfold frR;rw[Zaf,show fr[j]?=some none by simpa using this]
  rfl
 refine⟨λi m σ' H'=>∃ F' ys acc,m=l.length-i/\i<=l.length/\aL F1 F'/\(∀ b o,F' b=some o->F1 b=some o\/Frz H1 b o)/\aL H1 H'/\H' D=some (.lst ys)/\F' D=none/\bw K F' ys acc/\acc.length<=i /\
   RE K C.toCf F' H' σ' (frR fr ρ)/\bnd (eY tg tst el (frR fr ρ) (l.drop i)) (λr=>some (.ok (.lst (acc++r))))=some r,
  ⟨l.length,F1,[],[],by simp,Zbj _,aL.refl _,λ_ _ q=>.inl q,gk hD,aN,hFD,.nil,Zah _,Rb.other hFD hD0 no,by rw[Zb4];exact hk⟩,?_⟩
 rintro i m σ' H' ⟨F',ys,acc,rfl,hil,s1,fr1,sH,eD,nD,ra,hacc,R',e'⟩;by_cases hlt:i<l.length
 case neg=>
  have ei:i=l.length:=by omega
  subst ei;rw[ZbK] at e';have e':some (Res.ok (PV.lst (acc++[])))=some r:=e';rw[Zaw] at e';cases e';exact .inl ⟨hJ.stop F' H' s1 R'.rb.sub sH,P D F' H' (u.trans ⟨s1,sH,fr1,R'.rb.sub⟩) (u.hh.free hD) nD ⟨ys,eD,ra⟩⟩
 refine .inr ⟨hJ.go i F' H' hlt s1 R'.rb.sub sH,λσ2 H2=>∃ F2 ys acc,aL F1 F2/\(∀ b o,F2 b=some o->F1 b=some o\/Frz H1 b o)/\aL H1 H2/\H2 D=some (.lst ys)/\F2 D=none/\bw K F2 ys acc/\acc.length<=i+1 /\
   RE K C.toCf F2 H2 σ2 (frR fr ρ)/\bnd (eY tg tst el (frR fr ρ) (l.drop (i+1))) (λr=>some (.ok (.lst (acc++r))))=some r,
  λσ2 H2 ⟨F2,ys,acc,z⟩=>⟨l.length-(i+1),by omega,F2,ys,acc,rfl,hlt,z⟩,λx H'' y=>?_⟩
 obtain⟨F'',p,u2,ep,rx⟩:=hJ.yld i F' H' x H'' hlt s1 R'.rb.sub sH y;have ed:l.drop i=p::l.drop (i+1):=by
  rw[Za8 hlt];rw[Zad hlt] at ep;rw[Zaa ep]
 rw[ed,eY] at e';split at e'
 ·cases e'
 rename_i ρ1 h1;obtain⟨w1,w2,w3⟩:=hT p _ ρ1 h1;have no1:=w3 no;have weak:∀ (j:Nat) s,(frR fr ρ)[j]?=some (some s)->ρ1[j]?=some (some s):=λj s ej=>by
  rw[w2 j λz=>by rw[hρ j z] at ej;cases ej];exact ej
 refine hg F'' H'' σ' (frR fr ρ) x p ρ1 _ (R'.up u2) rx h1 λσ1 R1'=>?_;have stay:∀ {F3 H3:Hp},Up F' H' F3 H3->aL F1 F3/\(∀ b o,F3 b=some o->F1 b=some o\/Frz H1 b o)/\aL H1 H3/\H3 D=some (.lst ys)/\F3 D=none/\bw K F3 ys acc:=λ{F3 H3} u3=>by
  refine⟨s1.trans u3.ff,λb o q=>?_,sH.trans u3.hh,u3.hh _ _ eD,?_,ra.up u3.ff⟩
  ·rcases u3.fr b o q with z|z
   ·exact fr1 b o z
   ·exact .inr (z.imp (λz=>sH.free z) id)
  ·cases q:F3 D with
   |none=>rfl
   |some o=>
    rcases u3.fr D o q with z|z|⟨ys,z⟩
    ·rw[nD] at z;cases z
    ·rw[eD] at z;cases z
    ·subst z;have w:=u3.fh _ _ q;rw[u3.hh _ _ eD] at w;cases w
 have Pl:∀ {F3 H3:Hp},Up F' H' F3 H3->∀ {z:PV},r=.ex z->PX C F3 z:=λ{F3 H3} u3 {z} ez=>by
  subst ez;exact PX.up P (u.ff.trans (s1.trans u3.ff))
 rw[uf] at e';rcases aX e' with⟨z',e4,ez⟩|⟨b,e4,e5⟩
 ·exact ht F'' H'' σ1 ρ1 _ _ R1' e4 (Pl u2 ez)
 refine ht F'' H'' σ1 ρ1 _ _ R1' e4 λF3 H3 u3=>?_;have u23:=u2.trans u3;cases b with
 |false=>
  rw[Zal (by decide)] at e5 ⊢
  obtain⟨a1,a2,a3,a4,a5,a6⟩:=stay u23;exact⟨F3,ys,acc,a1,a2,a3,a4,a5,a6,by omega,(R1'.up u3).weak w1.symm weak,e5⟩
 |true=>
  rw[Zag rfl] at e5 ⊢;rw[uf] at e5;rcases aX e5 with⟨z',e6,ez⟩|⟨q,e6,e7⟩
  ·exact he F3 H3 σ1 ρ1 _ _ (R1'.up u3) e6 (Pl u23 ez)
  refine he F3 H3 σ1 ρ1 _ _ (R1'.up u3) e6 λv F4 H4 u4 rv=>?_;have u24:=u23.trans u4;obtain⟨a1,a2,a3,a4,a5,a6⟩:=stay u24;refine⟨ys,a4,by rw[a6.1];omega,F4,ys++[v],acc++[q],a1,a2,t6 hD a3,aN,a5,a6.snoc rv,by simp;omega,((R1'.up (u3.trans u4)).other a5 hD0 no1).weak w1.symm weak,?_⟩
  rw[uf] at e7;rw[<-e7];congr 1
  funext rr
  show some (Res.ok (PV.lst (acc++[q]++rr)))=some (Res.ok (PV.lst (acc++q::rr)))
  rw[Zb6];rfl
theorem jY{wi:TI}{it:Fn (List PV)}{fr:List (Option Nat)}{gt:TG}{tg:PV->Rho->Option Rho}{T:List Nat}{tc:TT}{tst:Fn Bool}{el:Fn PV}(hi:MI K C wi it)(hg:MG K C gt tg)(hT:Wr T tg)(ht:MT K C tc tst)(he:MJ K C (aF K) te el)
  (hfr:T.all (λj=>fr[j]?==some none)=true:=by rfl):MO K C (vR wi fr gt tc te) (jj it fr tg tst el):=Pa hi.h hg hT ht he hfr
end
def tyN:PV->Option String
 |.non=>some "NoneType"
 |.bl _=>some "bool"
 |.int _=>some "int"
 |.str _=>some "str"
 |.tup _=>some "tuple"
 |.lst _=>some "list"
 |.dk _=>some "dict"
 |.dt _=>some "dict"
 |_=>none
def VG(t T:String):Option Bool:=
 if t=T then some true else
 if T="int" then some (t=="bool") else
 if T="bool"\/T="str"\/T="tuple"\/T="list"\/T="dict" then some false else none
theorem Sg{K:PySem.W.Frag}{p:PV}{t T:String}{b:Bool}(h:tyN p=some t)(e:VG t T=some b):PySem.W.kitOne K (.type t) (.type T)=some b:=by
 have ht:t="NoneType"\/t="bool"\/t="int"\/t="str"\/t="tuple"\/t="list"\/t="dict":=by
  cases p<;>simp[tyN] at h<;>subst h<;>simp
 unfold VG at e;split at e
 ·rename_i e1;subst e1;cases e;exact N7
 ·split at e
  ·rename_i n1 e1;subst e1;cases e;rcases ht with rfl|rfl|rfl|rfl|rfl|rfl|rfl<;>first|exact absurd rfl n1|kernel_rfl
  ·split at e
   ·rename_i n1 n2 e1;cases e;rcases e1 with rfl|rfl|rfl|rfl|rfl<;>rcases ht with rfl|rfl|rfl|rfl|rfl|rfl|rfl<;>first|exact absurd rfl n1|kernel_rfl
   ·cases e
def isI(p:PV)(T:String):Option Bool:=match tyN p with
 |some t=>VG t T
 |none=>none
section
variable{X:Cx}
def Xk(K:PySem.W.Frag):List V->Hp->VK->Prop:=λxs H Q=>∃ x p T b,xs=[x,.ty T]/\Rep K H x p/\isI p T=some b/\Q (.bl b) H
theorem Ed:m8 X (.builtin "isinstance") (Xk X.K):=by
 intro pins s σ H xs us Q I rv h;obtain⟨x,p,T,b,rfl,rp,e,q⟩:=h;obtain⟨u,v,rfl,ru,rw'⟩:=rv.two;cases rw';have fin:∀ tk,EP X pins σ Q (.bool b) { s with toks:=tk }:=λtk=>⟨.bl b,H,I.tok _,rfl,q⟩;unfold isI at e;split at e
 case h_2=>cases e
 rename_i t ht;have ek:=Sg (K:=X.K) ht e;cases rp with
 |non=>cases ru;cases ht;exact ZaY PySem.W.kitx_none I.kIn True.intro ek (λz=>nomatch z) fin
 |bl=>cases ru;cases ht;exact ZaY PySem.W.kitx_bool I.kIn True.intro ek (λz=>nomatch z) fin
 |int=>obtain⟨t,rfl⟩:=ru;cases ht;exact ZaY PySem.W.kitx_int I.kIn True.intro ek (λz=>nomatch z) fin
 |str=>obtain⟨t,rfl⟩:=ru;cases ht;exact ZaY PySem.W.kitx_str I.kIn True.intro ek (λz=>nomatch z) fin
 |ty=>cases ht
 |tup h=>
  cases ru;cases ht;obtain⟨_,_,⟨o,h1,h2,_⟩,_⟩:=I.tuple (SqT.of h);exact ZaY PySem.W.kitx_tuple I.kIn ⟨o,h1,h2⟩ ek (λz=>nomatch z) fin
 |lst h=>
  cases ru;cases ht;obtain⟨_,_,⟨o,n,h1,h2,_⟩,_⟩:=I.list h;exact ZaY PySem.W.kitx_list I.kIn ⟨o,h1,h2⟩ ek (λz=>nomatch z) fin
 |dk h=>
  cases ru;cases ht;obtain⟨_,_,vs,_,o,es,ep,h1,h2,_⟩:=h.ok I.hok;exact ZaY PySem.W.kitx_dict I.kIn ⟨o,h1,h2.1⟩ ek (λz=>nomatch z) fin
 |dt h=>
  cases ru;cases ht;obtain⟨_,_,vs,_,o,es,ep,h1,h2,_⟩:=h.ok I.hok;exact ZaY PySem.W.kitx_dict I.kIn ⟨o,h1,h2.1⟩ ek (λz=>nomatch z) fin
 |exc=>cases ht
 |exc0=>cases ht
 |obj=>cases ht
end
section
variable{K:PySem.W.Frag}{C:Cg}{α β γ:Type}{A:Rel α}{B:Rel β}{D:Rel γ}{ta tb:TE}{f:Fn α}{g:Fn β}{rr:List V->Hp->VK->Prop}
def R1M(C:Cg)(A:Rel α)(D:Rel γ)(rr:List V->Hp->VK->Prop)(op:α->Option (Res γ)):Prop:=
 ∀ F H x a res Q,aL F H->A F H x a->op a=some res->Pr C F (λc=>∀ v F' H',Up F H F' H'->D F' H' v c->Q v H') res->rr [x] H Q
theorem gZ{op:α->Option (Res γ)}(rule:R1M C A D rr op)(ha:MJ K C A ta f):MJ K C D (tCB rr (gR ta qi)) (m1 op f):=by
 intro F H σ ρ Q r R e P;refine ha.run R e P λp v F1 H1 hk u a=>?_;exact rule F1 H1 v p r Q u.fh a hk (P.later u)
def R1O(K:PySem.W.Frag)(C:Cg)(A:Rel α)(rr:List V->Hp->VK->Prop)(op:α->Option (Res PV)):Prop:=
 ∀ F H x a res Q,aL F H->A F H x a->op a=some res->Pr C F (λp=>∀ a F' H',Up F H F' H'->H a=none->F' a=none->Own K F' H' a p->Q (.ref a) H') res->rr [x] H Q
theorem mJ{op:α->Option (Res PV)}(rule:R1O K C A rr op)(ha:MJ K C A ta f):MO K C (tCB rr (gR ta qi)) (m1 op f):=by
 intro F H σ ρ Q r R e P;refine ha.run R e P λp v F1 H1 hk u a=>?_;exact rule F1 H1 v p r Q u.fh a hk (P.t7 u)
def R2B(C:Cg)(A:Rel α)(B:Rel β)(D:Rel γ)(rr:List V->Hp->VK->Prop)(op:α->β->Option (Res γ)):Prop:=
 ∀ F H x y a b res Q,aL F H->A F H x a->B F H y b->op a b=some res->Pr C F (λc=>∀ v F' H',Up F H F' H'->D F' H' v c->Q v H') res->rr [x,y] H Q
theorem Pb{op:α->β->Option (Res γ)}(up:UpM A)(rule:R2B C A B D rr op)(ha:MJ K C A ta f)(hb:MJ K C B tb g):MJ K C D (tCB rr (gR ta (gR tb qi))) (m2 op f g):=by
 intro F H σ ρ Q r R e P;refine ha.run R e P λp v F1 H1 hk u a=>?_;refine hb.run (R.up u) hk (P.later u) λq w F2 H2 hk2 u2 b=>?_;exact rule F2 H2 v w p q r Q u2.fh (up _ _ _ _ _ _ u2 a) b hk2 (P.later (u.trans u2))
def jk:PV->Option (Res PV)
 |.str z=>if z.length<=sizeLine then some (.ok (.int z.length)) else none
 |.lst l=>some (.ok (.int l.length))
 |.tup l=>some (.ok (.int l.length))
 |_=>none
theorem oH:R1M C (aH K) (aF K) (λxs H Q=>∃ x n,xs=[x]/\WN K x H n/\Q (.int n) H) jk:=by
 intro F H x a res Q s ha e P
 match a,e with
 |.str z,e=>
  cases Rep.bI ha;have e:(if z.length<=sizeLine then some (Res.ok (PV.int z.length)) else none)=some res:=e;split at e
  ·rename_i hz;cases e;exact⟨_,_,rfl,⟨hz,rfl⟩,P _ F H (Up.refl s) .int⟩
  ·cases e
 |.lst l,e=>
  cases e;obtain⟨b,xs,rfl,h1,r1⟩:=Rep.cJ ha;rw[<-r1.1] at P;exact⟨_,_,rfl,.inl ⟨xs,h1,rfl⟩,P _ F H (Up.refl s) .int⟩
 |.tup l,e=>
  cases e;obtain⟨b,xs,rfl,h1,r1⟩:=Rep.cG ha;rw[<-r1.1] at P;exact⟨_,_,rfl,.inr ⟨xs,h1,rfl⟩,P _ F H (Up.refl s) .int⟩
def Lg(p q:PV):Option (Res PV):=match q with
 |.ty T=>match isI p T with
  |some b=>some (.ok (.bl b))
  |none=>none
 |_=>none
theorem Xl:R2B C (aH K) (aF K) (aF K) (Xk K) Lg:=by
 intro F H x y a b res Q s ha hb e P
 match b,e with
 |.ty T,e=>
  cases Rep.Vt hb;have e:(match isI a T with
   |some b=>some (Res.ok (PV.bl b))
   |none=>none)=some res:=e
  split at e
  ·rename_i k hk;cases e;exact⟨x,a,T,k,rfl,ha,hk,P _ F H (Up.refl s) .bl⟩
  ·cases e
def jZ:List PV->Option (List Bool)
 |[]=>some []
 |.bl b::r=>(jZ r).map (b::·)
 |_=>none
theorem wC{F:Hp}:∀ {l:List PV}{bs:List Bool}{xs:List V},jZ l=some bs->bw K F xs l->xs=bs.map V.bl
 |[],bs,xs,e,r=>by cases e;exact r.rO
 |.bl b::l,bs,xs,e,r=>by
  rw[jZ] at e;cases h:jZ l with
  |none=>rw[h] at e;cases e
  |some cs=>
   rw[h] at e;cases e;obtain⟨v,ys,rfl,r1,r2⟩:=r.oh;rw[Rep.gU r1,wC h r2];rfl
def zm(l:List PV):Option (Res PV):=match jZ l with
 |some bs=>some (.ok (.bl (bs.all id)))
 |none=>none
theorem Xm:R1M C (aV K) (aF K) (λxs H Q=>∃ (p:Addr) (bs:List Bool),xs=[.ref p]/\SqL K H p (bs.map V.bl)/\Q (.bl (bs.all id)) H) zm:=by
 intro F H x a res Q s ha e P;unfold zm at e;split at e
 ·rename_i bs hb;cases e;obtain⟨b,xs,rfl,h1,r1⟩:=ha;rw[wC hb r1] at h1;exact⟨b,bs,rfl,h1,P _ F H (Up.refl s) .bl⟩
 ·cases e
def Ba(l:List PV):Option (Res PV):=some (.ok (.lst l))
theorem Pg:R1O K C (aV K) (λxs H Q=>∃ p ys,xs=[.ref p]/\(SqL K H p ys\/SqT K H p ys)/\∀ l,H l=none->Q (.ref l) (upd H l (.lst ys))) Ba:=by
 intro F H x a res Q s ha e P;cases e;obtain⟨b,xs,rfl,h1,r1⟩:=ha;exact⟨b,xs,rfl,.inl h1,λl hl=>P l F _ (Up.yj s hl) hl (s.free hl) ⟨_,aN,r1⟩⟩
def JG(l:List PV):Option (Res PV):=some (.ok (.tup l))
theorem Uw:R1M C (aV K) (aF K) (λxs H Q=>∃ p ys,xs=[.ref p]/\((SqL K H p ys/\∀ l,H l=none->Q (.ref l) (upd H l (.tup ys)))\/(SqT K H p ys/\Q (.ref p) H))) JG:=by
 intro F H x a res Q s ha e P;cases e;obtain⟨b,xs,rfl,h1,r1⟩:=ha;refine⟨b,xs,rfl,.inl ⟨h1,λl hl=>?_⟩⟩;have un:=Up.new (o:=.tup xs) s hl;exact P _ _ _ un (.tup aN r1.1 (r1.up un.ff).2)
def uQ(f:Fn PV):Fn (List PV):=λρ=>bnd (f ρ) uN
def qQ(i:Nat):Fn (List PV):=λρ=>bnd (mVL i ρ) uN
def Sh(i:Nat)(f:Sn):Sn:=λρ=>f (Ht i ρ)
end
noncomputable abbrev XR0:Hp->Value->Option Addr->PV->Prop:=λ_ _ _ _=>False
noncomputable abbrev C0(io:Addr->Prop)(H0 F0:Hp):Cg:=⟨⟨io,True,H0,F0,E0⟩,XR0⟩
def startR(ps:List PV)(k:Nat):Rho:=ps.map (λp=>some (.sh p))++List.replicate k none
def fin:Option Out->Option (Res PV)
 |some (.nx _)=>some (.ok .non)
 |some (.rt p)=>some (.ok p)
 |some (.ex z)=>some (.ex z)
 |_=>none
def ug:Option Out->Option (Res PV)
 |some (.ro p)=>some (.ok p)
 |some (.ex z)=>some (.ex z)
 |_=>none
section
variable{K:PySem.W.Frag}{XR:Hp->Value->Option Addr->PV->Prop}{N:List Str}{vs:List V}{H:Hp}{Q:VK}{E:XK}{t:TS}{b:Sn}{m:List PV->Option (Res PV)}
theorem iW{E:XK}{F:Hp}{ps:List PV}{n:Nat}(s:aL F H)(r:bw K F vs ps)(hN:N.length=vs.length+n):RE K ⟨λ_=>False,True,H,F,E⟩ F H (start N vs) (startR ps n) where
 rb:=⟨s,λ_ _ h _=>h,λ_ _ h=>.inl h,λ_ h=>h.elim⟩
 len:=by unfold start startR;rw[Zau,Zau,Zac,Zac,Za7,Za7,r.1,hN];have:=r.1;lia
 sh:=λi p e=>by
  unfold startR at e;unfold start;by_cases hi:i<ps.length
  ·rw[Zaj (by simpa using hi),Zaf] at e
   rw[Zaj (by rw[Zac,r.1];exact hi),Zaf]
   cases h:ps[i]? with
   |none=>rw[h] at e;cases e
   |some q=>
    rw[h] at e;cases e;obtain⟨x,hx,rx⟩:=r.get h;exact⟨x,by rw[hx];rfl,rx⟩
  ·rw[Zam (by simpa using hi),ZaO] at e
   split at e<;>cases e
 ow:=λi p e=>by
  exfalso;unfold startR at e;by_cases hi:i<ps.length
  ·rw[Zaj (by simpa using hi),Zaf] at e
   cases h:ps[i]? with
   |none=>rw[h] at e;cases e
   |some q=>rw[h] at e;cases e
  ·rw[Zam (by simpa using hi),ZaO] at e
   split at e<;>cases e
 dd:=⟨_,RD.no λi p e=>by
  unfold startR at e;by_cases hi:i<ps.length
  ·rw[Zaj (by simpa using hi),Zaf] at e
   cases h:ps[i]? with
   |none=>rw[h] at e;cases e
   |some q=>rw[h] at e;cases e
  ·rw[Zam (by simpa using hi),ZaO] at e
   split at e<;>cases e⟩
 dis:=λi j p q a e=>by
  exfalso;unfold startR at e;by_cases hi:i<ps.length
  ·rw[Zaj (by simpa using hi),Zaf] at e
   cases h:ps[i]? with
   |none=>rw[h] at e;cases e
   |some q=>rw[h] at e;cases e
  ·rw[Zam (by simpa using hi),ZaO] at e
   split at e<;>cases e
theorem dw{k n:Nat}(hk:N.length=k+n)(hm:∀ ps r,m ps=some r->ps.length=k/\fin (b (startR ps n))=some r)(h:spM K XR0 m vs H Q E)(hS:∀ (io:Addr->Prop) (H0 F0:Hp),(∀ a,¬io a)->MS K (C0 io H0 F0) t b) :
  t { nx:=λ_ H'=>Q .non H',rt:=Q } (start N vs) H:=by
 obtain⟨ps,F,r,s,rp,e,P⟩:=h;obtain⟨hl,e⟩:=hm ps r e;have R:=iW (E:=E0) (N:=N) (n:=n) s rp (by rw[rp.1,hl];exact hk)
 have up:∀ {F' H':Hp},aL F F'->RB ⟨λ_=>False,True,H,F,E0⟩ F' H'->Up F H F' H':=λs' rb=>⟨s',λc o q=>rb.keep c o q id,rb.new,rb.sub⟩;have M:=hS (λ_=>False) H F (λ_ h=>h);cases ho:b (startR ps n) with
 |none=>rw[ho] at e;cases e
 |some o=>
  rw[ho] at e;refine M F H _ _ _ o R ho ?_;cases o with
  |nx ρ=>cases e;exact λF' H' σ s' R'=>P .non F' H' (up s' R'.rb) .non
  |rt p=>cases e;exact λv F' H' s' rb rv=>P v F' H' (up s' rb) rv
  |ex z=>exact λ_ _ _ _ _ _ x=>x.elim
  |ro p=>cases e
  |rd p=>cases e
  |bk ρ=>cases e
  |ct ρ=>cases e
theorem vp{k n:Nat}(hk:N.length=k+n)(hm:∀ ps r,m ps=some r->ps.length=k/\ug (b (startR ps n))=some r)(h:spO K XR0 m vs H Q E)(hS:∀ (io:Addr->Prop) (H0 F0:Hp),(∀ a,¬io a)->MS K (C0 io H0 F0) t b) :
  t { nx:=λ_ H'=>Q .non H',rt:=Q } (start N vs) H:=by
 obtain⟨ps,F,r,s,rp,e,P⟩:=h;obtain⟨hl,e⟩:=hm ps r e;have R:=iW (E:=E0) (N:=N) (n:=n) s rp (by rw[rp.1,hl];exact hk)
 have up:∀ {F' H':Hp},aL F F'->RB ⟨λ_=>False,True,H,F,E0⟩ F' H'->Up F H F' H':=λs' rb=>⟨s',λc o q=>rb.keep c o q id,rb.new,rb.sub⟩;have M:=hS (λ_=>False) H F (λ_ h=>h);cases ho:b (startR ps n) with
 |none=>rw[ho] at e;cases e
 |some o=>
  rw[ho] at e;refine M F H _ _ _ o R ho ?_;cases o with
  |ro p=>cases e;exact λa F' H' s' rb w n1 n2=>P a F' H' (up s' rb) n2 n1 w
  |ex z=>exact λ_ _ _ _ _ _ x=>x.elim
  |nx ρ=>cases e
  |rt p=>cases e
  |rd p=>cases e
  |bk ρ=>cases e
  |ct ρ=>cases e
theorem c7(h:spM K XR m vs H Q E){k:Nat}(hm:∀ ps r,m ps=some r->ps.length=k):vs.length=k:=by
 obtain⟨ps,F,r,s,rp,e,P⟩:=h;rw[rp.1];exact hm ps r e
theorem pQ(h:spO K XR m vs H Q E){k:Nat}(hm:∀ ps r,m ps=some r->ps.length=k):vs.length=k:=by
 obtain⟨ps,F,r,s,rp,e,P⟩:=h;rw[rp.1];exact hm ps r e
end
section
variable{X:Cx}{k:Nat}{N:List Str}{scope:Scope}{cl:List (Str×Addr)}{C:Addr}{s2:Shared}{H2:Hp}{fp:List Addr}
theorem JH:IxR (X.comp N scope cl C s2 H2 fp) (rIx X.K):=aW
theorem Ef:OpR (X.comp N scope cl C s2 H2 fp) (binaryOp .Add) (OD X.K):=cZ
theorem Bb(hr:cU k X.A):OpR (X.comp N scope cl C s2 H2 fp) (compareOp .Eq) (Vx X.K):=dF hr
theorem Sq(hr:cU k X.A):OpR (X.comp N scope cl C s2 H2 fp) (compareOp .In) (Vz X.K):=Oz hr
end
structure Xn(a:Addr)(F H F' H':Hp):Prop where
 ff:aL F F'
 hb:SameBut a H H'
 fr:∀ b o,F' b=some o->F b=some o\/Frz H b o
 fh:aL F' H'
def Eg(K:PySem.W.Frag)(F:Hp)(a:Addr)(p:PV)(j:Nat)(xs:List V)(l:List PV):Prop:=
 xs.length=l.length/\xs[j]?=some (.ref a)/\l[j]?=some p/\∀ (k:Nat) x q,k≠j->xs[k]?=some x->l[k]?=some q->Rep K F x q
def cL(j:Nat)(ps:List PV)(n:Nat):Rho:=(ps.mapIdx λk p=>some (if k=j then Sl.ow p else Sl.sh p))++List.replicate n none
def Xo(j:Nat):Option Out->Option (Res PV)
 |some (.nx ρ)=>match ownAt j ρ with
  |some p=>some (.ok p)
  |none=>none
 |_=>none
section
variable{K:PySem.W.Frag}{C:Cg}{N:List Str}{vs:List V}{H F:Hp}{Q:VK}{E:XK}{t:TS}{b:Sn}{j:Nat}{ps:List PV}{a:Addr}{p:PV}{n:Nat}
theorem iY{i:Nat}{s:Sl}(e:(cL j ps n)[i]?=some (some s)):∃ q,ps[i]?=some q/\s=if i=j then Sl.ow q else Sl.sh q:=by
 unfold cL at e;by_cases hi:i<ps.length
 ·rw[Zaj (by simpa using hi),ZbP] at e
  cases h:ps[i]? with
  |none=>rw[h] at e;cases e
  |some q=>rw[h] at e;exact⟨q,rfl,(Zaa (Zaa e)).symm⟩
 ·rw[Zam (by simpa using hi),ZaO] at e
  split at e<;>cases e
theorem oJ{i:Nat}{x:V}(h:vs[i]?=some x):(start N vs)[i]?=some (some x):=by
 unfold start;rw[Zaj (by rw[Zac];exact bH h),Zaf,h]
 rfl
theorem wD(s:aL F H)(r:Eg K F a p j vs ps)(w:Own K F H a p)(hn:F a=none)(hN:N.length=vs.length+n):RE K ⟨λc=>c=a,False,H,F,E⟩ F H (start N vs) (cL j ps n) where
 rb:=⟨s,λ_ _ h _=>h,λ_ _ h=>.inl h,λb hb=>by
  obtain⟨o,eo⟩:=w.ne;subst hb;have h1:H b≠none:=by rw[eo];simp
  exact⟨h1,h1⟩⟩
 len:=by unfold start cL;rw[Zau,Zau,Zac,List.length_mapIdx,Za7,Za7,r.1,hN];have:=r.1;omega
 sh:=λi q e=>by
  obtain⟨q',e1,e2⟩:=iY e;by_cases hij:i=j
  ·rw[Zag hij] at e2;cases e2
  ·rw[Zal hij] at e2;cases e2;have hi:i<vs.length:=by rw[r.1];exact bH e1
   exact⟨vs[i],oJ (by simp[hi]),r.2.2.2 i _ _ hij (by simp[hi]) e1⟩
 ow:=λi q e=>by
  obtain⟨q',e1,e2⟩:=iY e;by_cases hij:i=j
  ·rw[Zag hij] at e2;cases e2;subst hij;rw[r.2.2.1] at e1;cases e1;exact⟨a,oJ r.2.1,w,hn,.inl rfl⟩
  ·rw[Zal hij] at e2;cases e2
 dis:=λi k q q' c e e' _ _=>by
  have key:∀ {i:Nat}{q:PV},(cL j ps n)[i]?=some (some (.ow q))->i=j:=λ{i q} e=>by
   obtain⟨q',e1,e2⟩:=iY e;by_cases hij:i=j
   ·exact hij
   ·rw[Zal hij] at e2;cases e2
  rw[key e,key e']
 dd:=⟨_,RD.no λi q e=>by
  obtain⟨q',e1,e2⟩:=iY e;by_cases hij:i=j
  ·rw[Zag hij] at e2;cases e2
  ·rw[Zal hij] at e2;cases e2⟩
noncomputable abbrev C1(a:Addr)(H0 F0:Hp):Cg:=⟨⟨λc=>c=a,False,H0,F0,E0⟩,XR0⟩
def MAH(K:PySem.W.Frag)(C:Cg)(i j:Nat)(t:TA)(f:Fn (List PV)):Prop:=
 ∀ F H σ ρ Q r a p,RE K C.toCf F H σ ρ->ρ[i]?=some (some (.ow p))->σ[i]?=some (some (.ref a))->f ρ=some r->Pr C F (λl=>∀ xs F' H',Up F H F' H'->Eg K F' a p j xs l->Q xs H') r->t σ H Q
def gD(i:Nat)(g:Fn (List PV)):Fn (List PV):=λρ=>match ownAt i ρ with
 |some p=>bnd (g ρ) λl=>some (.ok (p::l))
 |none=>none
theorem eZ{i:Nat}{t:TA}{g:Fn (List PV)}(h:MA K C t g):MAH K C i 0 (gR (my i) t) (gD i g):=by
 intro F H σ ρ Q r a p R e ea hf P;refine⟨_,ea,?_⟩;unfold gD at hf;have eo:ownAt i ρ=some p:=by unfold ownAt;rw[e]
 rw[eo] at hf;refine h.run R hf P λl xs F1 H1 hk u b=>?_;cases hk;refine P _ F1 H1 u ⟨by simp[b.1],rfl,rfl,λk x q hk ex eq=>?_⟩
 cases k with
 |zero=>exact absurd rfl hk
 |succ k=>exact b.2 k x q (by simpa using ex) (by simpa using eq)
theorem RE.Yh{F' H':Hp}{σ:St}{ρ:Rho}{p':PV}{i:Nat}(R:RE K C.toCf F H σ ρ)(e:ρ[i]?=some (some (.ow p)))(ea:σ[i]?=some (some (.ref a)))(u:Xn a F H F' H')(w:Own K F' H' a p')(hn:F' a=none):RE K C.toCf F' H' σ (ρ.set i (some (.ow p'))):=by
 obtain⟨a',e1,e2,e3,e4⟩:=R.ow i p e;rw[ea] at e1;cases e1;obtain⟨oa,eoa⟩:=e2.ne;refine⟨⟨u.fh,λb o q n=>?_,λb o q=>?_,λb hb=>⟨?_,(R.rb.ios b hb).2⟩⟩,by simp[R.len],λj q f=>?_,λj q f=>?_,λj k q q' b f f' g g'=>?_,?_⟩
 ·have:b≠a:=λz=>by
   subst z;rcases e4 with z|z
   ·exact n z
   ·rw[z.2] at q;cases q
  exact u.hb b o (R.rb.keep b o q n) this
 ·rcases u.fr b o q with z|z
  ·exact R.rb.new b o z
  ·exact .inr (z.imp (λz=>R.rb.nj z) id)
 ·by_cases hba:b=a
  ·subst hba;obtain⟨o,eo⟩:=w.ne;rw[eo];simp
  ·cases hb':H b with
   |none=>exact absurd hb' (R.rb.ios b hb).1
   |some o=>rw[u.hb b o hb' hba];simp
 ·rcases get_set f with⟨f1,f2⟩|⟨f1,f2⟩
  ·cases f2
  ·obtain⟨v,g1,g2⟩:=R.sh j q f2;exact⟨v,g1,g2.up u.ff⟩
 ·rcases get_set f with⟨f1,f2⟩|⟨f1,f2⟩
  ·subst f1;cases f2;exact⟨a,ea,w,hn,e4⟩
  ·obtain⟨b,g1,g2,g3,g4⟩:=R.ow j q f2;have hb:b≠a:=λz=>by subst z;exact f1 (R.dis i j p q b e f2 ea g1)
   refine⟨b,g1,g2.up u.ff λo qq=>u.hb b o qq hb,?_,g4⟩;cases hF:F' b with
   |none=>rfl
   |some o=>
    obtain⟨ob,eob⟩:=g2.ne;rcases u.fr b o hF with z|z|⟨ys,z⟩
    ·rw[g3] at z;cases z
    ·rw[eob] at z;cases z
    ·subst z;have w:=u.fh _ _ hF;rw[u.hb b _ eob hb] at w;cases w;exact(g2.uM eob).elim
 ·have key:∀ (j:Nat) q,(ρ.set i (some (Sl.ow p')))[j]?=some (some (.ow q))->∃ q0,ρ[j]?=some (some (.ow q0)):=λj q f=>by
   rcases get_set f with⟨f1,f2⟩|⟨f1,f2⟩
   ·subst f1;exact⟨p,e⟩
   ·exact⟨q,f2⟩
  obtain⟨q0,k0⟩:=key j q f;obtain⟨q1,k1⟩:=key k q' f';exact R.dis j k q0 q1 b k0 k1 g g'
 ·obtain⟨P,d⟩:=R.dd;have na:∀ j b,P j b->b≠a:=λj b z e'=>by subst e';exact d.ow j i p b z e ea
  refine⟨P,λj b z=>?_,d.dis,λj k q b z f g=>?_,λj q f=>?_⟩
  ·obtain⟨a1,⟨o',a2,a3⟩,a4⟩:=d.own j b z;have hb':=u.hb b _ a2 (na j b z);refine⟨?_,⟨o',hb',a3⟩,a4⟩;cases hF:F' b with
   |none=>rfl
   |some o=>
    rcases u.fr b o hF with w|w|⟨ys,w⟩
    ·rw[a1] at w;cases w
    ·rw[a2] at w;cases w
    ·subst w;have w:=u.fh _ _ hF;rw[hb'] at w;cases w;exact absurd rfl (a3 ys)
  ·rcases get_set f with⟨f1,f2⟩|⟨f1,f2⟩
   ·subst f1;exact d.ow j i p b z e g
   ·exact d.ow j k q b z f2 g
  ·rcases get_set f with⟨f1,f2⟩|⟨f1,f2⟩
   ·cases f2
   ·obtain⟨w,e3,e5⟩:=d.dp j q f2;exact⟨w,e3,e5.up u.ff (λb o z q=>u.hb b o q (na j b z)) λb ys q=>u.hb b _ q λz=>by subst z;exact e2.uM q⟩
end
section
def wF:Fn PV:=λ_=>some (.ok (.dk []))
end
section
variable{κ:Type}[DecidableEq κ]
def eO:List (κ×PV)->κ->Option PV
 |[],_=>none
 |(a,p)::l,k=>if a=k then some p else eO l k
def wG:List (κ×PV)->κ->PV->List (κ×PV)
 |[],k,p=>[(k,p)]
 |(a,q)::l,k,p=>if a=k then(a,p)::(if(l.any λe=>decide (e.1=k))=true then wG l k p else l) else(a,q)::wG l k p
inductive u9(K:PySem.W.Frag)(F:Hp):List (κ×V)->List (κ×PV)->Prop
 |nil:u9 K F [] []
 |cons {k:κ}{v:V}{p:PV}{xs:List (κ×V)}{l:List (κ×PV)} (h:Rep K F v p) (t:u9 K F xs l):u9 K F ((k,v)::xs) ((k,p)::l)
variable{K:PySem.W.Frag}{F:Hp}{xs:List (κ×V)}{l:List (κ×PV)}{k:κ}
theorem u9.of:∀ {xs:List (κ×V)}{l:List (κ×PV)},xs.map (·.1)=l.map (·.1)->(∀ (j:Nat) x p,xs[j]?=some x->l[j]?=some p->Rep K F x.2 p.2)->u9 K F xs l
 |[],[],_,_=>.nil
 |[],_::_,h,_=>by simp at h
 |_::_,[],h,_=>by simp at h
 |(a,v)::xs,(b,p)::l,h,hr=>by
  simp only[Zao,Zbn] at h;obtain⟨h1,h2⟩:=h;have h1:a=b:=h1;subst h1;exact .cons (hr 0 _ _ rfl rfl) (u9.of h2 λj x p e1 e2=>hr (j+1) x p (by simpa using e1) (by simpa using e2))
theorem u9.none(h:u9 K F xs l)(e:eO l k=none):mG xs k=none:=by
 induction h with
 |nil=>rfl
 |@cons a v p xs l h t ih=>
  unfold eO at e;split at e
  ·cases e
  ·rename_i hk;rw[iV hk];exact ih e
theorem u9.some{p:PV}(h:u9 K F xs l)(e:eO l k=some p):∃ v,mG xs k=some v/\Rep K F v p:=by
 induction h with
 |nil=>cases e
 |@cons a v q xs l h t ih=>
  unfold eO at e;split at e
  ·rename_i hk;cases e;exact⟨v,lF hk,h⟩
  ·rename_i hk;obtain⟨w,h1,h2⟩:=ih e;exact⟨w,by rw[iV hk];exact h1,h2⟩
end
def jH:PV->Option Key
 |.int i=>some (.inl i)
 |.str x=>some (.inr x)
 |_=>none
def qR:List PV->Option (List Key)
 |[]=>some []
 |p::l=>match jH p,qR l with
  |some k,some ks=>some (k::ks)
  |_,_=>none
theorem Eh{K:PySem.W.Frag}{F:Hp}{p:PV}{k:Key}{v:V}(h:jH p=some k)(r:Rep K F v p):v=kV k:=by
 cases p with
 |int i=>cases h;cases Rep.aZ r;rfl
 |str x=>cases h;cases Rep.bI r;rfl
 |_=>cases h
theorem zp{K:PySem.W.Frag}{F:Hp}:∀ {l:List PV}{ks:List Key}{xs:List V},qR l=some ks->bw K F xs l->xs=ks.map kV
 |[],ks,xs,h,r=>by cases h;exact r.rO
 |p::l,ks,xs,h,r=>by
  unfold qR at h;split at h
  ·rename_i k ks' h1 h2;cases h;obtain⟨v,ys,rfl,r1,r2⟩:=r.oh;rw[Eh h1 r1,zp h2 r2];rfl
  ·cases h
def PV.isD:PV->Bool
 |.dk _=>true
 |.dt _=>true
 |_=>false
def DLk(K:PySem.W.Frag)(F H:Hp)(a:Addr):PV->Prop
 |.dk l=>∃ xs,Rd H a (.dK xs)/\xs.map (·.1)=l.map (·.1)/\∀ (j:Nat) x p,xs[j]?=some x->l[j]?=some p->Rep K F x.2 p.2
 |.dt l=>∃ xs,Rd H a (.dT xs)/\xs.map (·.1)=l.map (·.1)/\∀ (j:Nat) x p,xs[j]?=some x->l[j]?=some p->Rep K F x.2 p.2
 |_=>False
theorem DLk.up{K:PySem.W.Frag}{F H F' H':Hp}{a:Addr}{p:PV}(o:DLk K F H a p)(sf:aL F F')(sh:aL H H'):DLk K F' H' a p:=by
 cases p with
 |dk l=>obtain⟨xs,e,r,q⟩:=o;exact⟨xs,e.same sh,r,λj x p a b=>(q j x p a b).up sf⟩
 |dt l=>obtain⟨xs,e,r,q⟩:=o;exact⟨xs,e.same sh,r,λj x p a b=>(q j x p a b).up sf⟩
 |_=>exact o.elim
theorem Own.look{K:PySem.W.Frag}{F H:Hp}{a:Addr}{p:PV}(o:Own K F H a p)(d:p.isD=true):DLk K F H a p:=by
 cases p with
 |dk l=>obtain⟨xs,e,r⟩:=o;exact⟨xs,.inl e,r⟩
 |dt l=>obtain⟨xs,e,r⟩:=o;exact⟨xs,.inl e,r⟩
 |_=>cases d
def aD(K:PySem.W.Frag):Rel PV:=λF H v p=>p.isD=true/\∃ a,v=.ref a/\DLk K F H a p
theorem aD.up{K:PySem.W.Frag}:UpM (aD K):=λ_ _ _ _ _ _ u ⟨h1,b,e,o⟩=>⟨h1,b,e,o.up u.ff u.hh⟩
def asD(p:PV):Option (Res PV):=if p.isD=true then some (.ok p) else none
theorem Rep.own{K:PySem.W.Frag}{F H:Hp}{v:V}{p:PV}(r:Rep K F v p)(s:aL F H)(d:p.isD=true):∃ a,v=.ref a/\DLk K F H a p:=by
 cases r with
 |dk h hl hr=>exact⟨_,rfl,_,h.same s,hl,hr⟩
 |dt h hl hr=>exact⟨_,rfl,_,h.same s,hl,hr⟩
 |_=>cases d
section
variable{K:PySem.W.Frag}{C:Cg}{ta tb tc:TE}{f g h:Fn PV}
def gf(f:Fn PV):Fn PV:=λρ=>bnd (f ρ) asD
def j0(i:Nat):Fn PV:=λρ=>bnd (mVL i ρ) asD
theorem dG(h:MJ K C (aF K) ta f):MJ K C (aD K) ta (gf f):=by
 intro F H σ ρ Q r R e P;refine h.run R e P λp v F1 H1 hk u a=>?_;unfold asD at hk;split at hk
 ·rename_i hd;cases hk;exact P v F1 H1 u ⟨hd,Rep.own a u.fh hd⟩
 ·cases hk
theorem pR(i:Nat):MJ K C (aD K) (my i) (j0 i):=by
 intro F H σ ρ Q r R e P;unfold j0 at e;rcases aX e with⟨z,e1,rfl⟩|⟨p,e1,hk⟩
 ·unfold mVL at e1;split at e1<;>cases e1
 ·unfold asD at hk;split at hk
  case isFalse=>cases hk
  rename_i hd;cases hk;unfold mVL at e1;split at e1
  ·rename_i q hq;cases e1;obtain⟨v,e2,e3⟩:=R.sh i _ hq;exact⟨v,e2,P v F H (Up.refl R.rb.sub) ⟨hd,Rep.own e3 R.rb.sub hd⟩⟩
  ·rename_i q hq;cases e1;obtain⟨a,e2,e3,_⟩:=R.ow i _ hq;exact⟨_,e2,P _ F H (Up.refl R.rb.sub) ⟨hd,a,rfl,e3.look hd⟩⟩
  ·cases e1
def jJ:PV->PV->Option (Option PV)
 |.dk l,k=>(jH k).map (eO l)
 |.dt l,.tup ks=>(qR ks).map (eO l)
 |_,_=>none
theorem rT{F H:Hp}{a:Addr}{d k:PV}{y:V}{r:Option PV}(s:aL F H)(o:DLk K F H a d)(ry:Rep K F y k)(e:jJ d k=some r) :
  ∃ o,rN H a y o/\(r=none->o=none)/\∀ p,r=some p->∃ v,o=some v/\Rep K F v p:=by
 have inv:(∃ l,d=.dk l)\/∃ l ks,d=.dt l/\k=.tup ks:=by
  clear o ry
  cases d<;>first|exact noS e|exact .inl ⟨_,rfl⟩|(cases k<;>first|exact noS e|exact .inr ⟨_,_,rfl,rfl⟩)
 rcases inv with⟨l,rfl⟩|⟨l,ks,rfl,rfl⟩
 ·obtain⟨xs,h1,h2,h3⟩:=o;have D:=u9.of (K:=K) (F:=F) h2 h3;have e:(jH k).map (eO l)=some r:=e;cases hk:jH k with
  |none=>rw[hk] at e;cases e
  |some k'=>
   rw[hk] at e;cases e;cases Eh hk ry;exact⟨_,.inl ⟨_,_,h1,rfl,rfl⟩,λn=>D.none n,λp q=>D.some q⟩
 ·obtain⟨xs,h1,h2,h3⟩:=o;have D:=u9.of (K:=K) (F:=F) h2 h3;have e:(qR ks).map (eO l)=some r:=e;cases hk:qR ks with
  |none=>rw[hk] at e;cases e
  |some k'=>
   rw[hk] at e;cases e;obtain⟨b,ys,rfl,hb,rr⟩:=Rep.Ol ry;cases zp hk rr;exact⟨_,.inr ⟨_,_,_,h1,rfl,s _ _ hb,rfl⟩,λn=>D.none n,λp q=>D.some q⟩
def oK(d k:PV):Option (Res PV):=match jJ d k with
 |some (some p)=>some (.ok p)
 |_=>none
def Ux:R2:=λx y H Q=>∃ a v,x=.ref a/\rN H a y (some v)/\Q v H
theorem VH:R2M C (aD K) (aF K) (aF K) Ux oK:=by
 intro F H x y a b res Q s ha hb e P;obtain⟨_,ad,rfl,o⟩:=ha;unfold oK at e;split at e
 ·rename_i p hp;cases e;obtain⟨ov,g,_,g2⟩:=rT s o hb hp;obtain⟨v,rfl,rv⟩:=g2 p rfl;exact⟨ad,v,rfl,g,P v F H (Up.refl s) rv⟩
 ·cases e
def zq(k d:PV):Option (Res PV):=(jJ d k).map λr=>.ok (.bl r.isSome)
def iZ(k d:PV):Option (Res PV):=(jJ d k).map λr=>.ok (.bl (!r.isSome))
theorem Uy:R2M C (aF K) (aD K) (aF K) (λy x H Q=>∃ a o,x=.ref a/\rN H a y o/\Q (.bl o.isSome) H) zq:=by
 intro F H x y a b res Q s ha hb e P;obtain⟨_,ad,rfl,o⟩:=hb;unfold zq at e;cases hp:jJ b a with
 |none=>rw[hp] at e;cases e
 |some r=>
  rw[hp] at e;cases e;obtain⟨ov,g,g1,g2⟩:=rT s o ha hp;have es:ov.isSome=r.isSome:=by
   cases r with
   |none=>rw[g1 rfl];rfl
   |some p=>obtain⟨v,rfl,_⟩:=g2 p rfl;rfl
  exact⟨ad,ov,rfl,g,by rw[es];exact P _ F H (Up.refl s) .bl⟩
theorem rU:R2M C (aF K) (aD K) (aF K) (λy x H Q=>∃ a o,x=.ref a/\rN H a y o/\Q (.bl (!o.isSome)) H) iZ:=by
 intro F H x y a b res Q s ha hb e P;obtain⟨_,ad,rfl,o⟩:=hb;unfold iZ at e;cases hp:jJ b a with
 |none=>rw[hp] at e;cases e
 |some r=>
  rw[hp] at e;cases e;obtain⟨ov,g,g1,g2⟩:=rT s o ha hp;have es:ov.isSome=r.isSome:=by
   cases r with
   |none=>rw[g1 rfl];rfl
   |some p=>obtain⟨v,rfl,_⟩:=g2 p rfl;rfl
  exact⟨ad,ov,rfl,g,by rw[es];exact P _ F H (Up.refl s) .bl⟩
theorem DLk.isD{F H:Hp}{a:Addr}{p:PV}(o:DLk K F H a p)(d:p.isD=true):IsD H a:=by
 cases p with
 |dk l=>obtain⟨xs,e,_⟩:=o;exact .inl ⟨xs,e⟩
 |dt l=>obtain⟨xs,e,_⟩:=o;exact .inr ⟨xs,e⟩
 |_=>cases d
def Bc(f g h:Fn PV):Fn PV:=λρ=>bnd (f ρ) λd=>bnd (g ρ) λk=>bnd (h ρ) λx=>(jJ d k).map λr=>.ok (r.getD x)
theorem Ph(ha:MJ K C (aD K) ta f)(hb:MJ K C (aF K) tb g)(hc:MJ K C (aF K) tc h):MJ K C (aF K) (Hq ta tb tc) (Bc f g h):=by
 intro F H σ ρ Q r R e P;refine ha.run R e P ?_;rintro d v F1 H1 hk u ⟨hd,a,ea,o⟩;subst ea;refine⟨a,rfl,o.isD hd,?_⟩;refine hb.run (R.up u) hk (P.later u) λk w F2 H2 hk2 u2 b=>?_;have u12:=u.trans u2;refine hc.run (R.up u12) hk2 (P.later u12) λx z F3 H3 hk3 u3 c=>?_;cases hp:jJ d k with
 |none=>rw[hp] at hk3;cases hk3
 |some q=>
  rw[hp] at hk3;cases hk3;have u23:=u2.trans u3;obtain⟨ov,g,g1,g2⟩:=rT u3.fh (o.up u23.ff u23.hh) (Rep.up b u3.ff) hp;refine⟨ov,g,P _ F3 H3 (u12.trans u3) ?_⟩;cases q with
  |none=>rw[g1 rfl];exact c
  |some p=>obtain⟨v,rfl,rv⟩:=g2 p rfl;exact rv
theorem rW:MO K C Od wF:=by
 intro F H σ ρ Q r R e P;cases e;intro p hp;exact P p F _ (Up.yj R.rb.sub hp) hp (R.rb.sub.free hp) ⟨[],aN,rfl,λj x p h=>by simp at h⟩
end
section
variable{K:PySem.W.Frag}{C:Cg}{ta tb:TE}{f g:Fn PV}
theorem Bd(ha:MJ K C (aD K) ta f)(hb:MJ K C (aF K) tb g):MJ K C (aF K) (Jw ta tb) (m2 oK f g):=aC (r2:=Ux) aD.up VH ha hb
end
section
variable{X:Cx}
theorem Pj{k:Nat}(hr:cU k X.A):OpR X (compareOp .In) (λy x H Q=>∃ a o,x=.ref a/\rN H a y o/\Q (.bl o.isSome) H):=by
 intro pins s σ H x y v u Q I rx ry h;obtain⟨a,o,rfl,g,q⟩:=h;cases ry;exact Yc (uK hr) I g rx λs3 I3=>⟨.bl o.isSome,H,I3,rfl,q⟩
theorem pU{k:Nat}(hr:cU k X.A):OpR X (compareOp .NotIn) (λy x H Q=>∃ a o,x=.ref a/\rN H a y o/\Q (.bl (!o.isSome)) H):=by
 intro pins s σ H x y v u Q I rx ry h;obtain⟨a,o,rfl,g,q⟩:=h;cases ry;exact RT (uK hr) I g rx λs3 I3=>⟨.bl (!o.isSome),H,I3,rfl,q⟩
end
section
variable{X:Cx}{k:Nat}{N:List Str}{scope:Scope}{cl:List (Str×Addr)}{C:Addr}{s2:Shared}{H2:Hp}{fp:List Addr}
theorem Hz(hr:cU k X.A):OpR (X.comp N scope cl C s2 H2 fp) (compareOp .NotIn) (λy x H Q=>∃ a o,x=.ref a/\rN H a y o/\Q (.bl (!o.isSome)) H):=pU hr
theorem Ei{X:Cx}{k:Nat}{o i:Expr}{pos:Pos}{td ty:TE}(hr:cU k X.A)(ho:PE X o td)(hi:PE X i ty)(hs:RV i):PE X (.Subscript o i pos) (Jw td ty):=Jx (uK hr) ho hi hs
theorem Lh{o i:Expr}{pos:Pos}{td ty:TE}(hr:cU k X.A)(ho:PE (X.comp N scope cl C s2 H2 fp) o td)(hi:PE (X.comp N scope cl C s2 H2 fp) i ty)(hs:RV i):PE (X.comp N scope cl C s2 H2 fp) (.Subscript o i pos) (Jw td ty):=Jx (uK hr) ho hi hs
theorem HB{o e f:Expr}{apos cpos:Pos}{td ty tx:TE}(hr:cU k X.A)(ho:PE (X.comp N scope cl C s2 H2 fp) o td)(he:PE (X.comp N scope cl C s2 H2 fp) e ty)(hf:PE (X.comp N scope cl C s2 H2 fp) f tx)(m:M2 (X.comp N scope cl C s2 H2 fp) o "get" apos e f cpos):PE (X.comp N scope cl C s2 H2 fp) (.Call (.Attribute o "get" apos) [e,f] [] cpos) (Hq td ty tx):=Oi (uK hr) ho he hf m
end
section
variable{X:Cx}
def CR(a b c:Int):Prop:=0<=a/\a<2^30/\-(2^30)<=b/\b<2^30/\0<c/\c<2^30
noncomputable instance(a b c:Int):Decidable (CR a b c):=inferInstanceAs (Decidable (_/\_))
def Uz:List V->Hp->VK->Prop:=λxs H Q=>∃ j:Int,xs=[.int j]/\-(2^30)<=j/\j<2^30/\∀ r,H r=none->Q (.ref r) (upd H r (.rng 0 j))
theorem zr:m8 X (.type "range") Uz:=by
 intro pins s σ H xs us Q I rv h;obtain⟨j,rfl,h1,h2,q⟩:=h;obtain⟨u,rfl,ru⟩:=rv.one;obtain⟨t,rfl⟩:=ru;refine call_range_1 ?_;exact⟨.ref s.heap.objs.size,_,I.laid (a:=s.heap.objs.size) (o:=.rng 0 j) (t':=s.toks+1+1) (λ_ _ q=>Zae _ q) (Zah _) ⟨_,_,_,Zat _ rfl⟩,rfl,q _ (I.hok.fresh (Zah _))⟩
def Ej(j:Int):List V:=(List.range j.toNat).map λi=>.int (i:Nat)
theorem Be:(2:Nat)^23<=sizeLine/\sizeLine<=2^24:=by decide
theorem Pk(j:Int):Builtin.Range.rangeSize 0 j 1=(j.toNat:Int):=by rw[rangeSize_one];split<;>omega
theorem pM{acc:Array Value}{n:Nat}(h:ItemsOf (λi v=>∃ t,v=.int (0+(i:Nat)*1) t) acc n):Vals ((List.range n).map λi=>V.int (i:Nat)) acc.toList:=by
 obtain⟨hs,hv⟩:=h;have go:∀ (l:List Value) (k:Nat),(∀ (i:Nat) v,l[i]?=some v->∃ t,v=Value.int (((k+i:Nat):Int)) t)->Vals ((List.range' k l.length).map λi=>V.int (i:Nat)) l:=by
  intro l;induction l with
  |nil=>intro k _;exact .nil
  |cons v l ih=>
   intro k h;rw[ZaB,List.range'_succ,Zao];obtain⟨t,e⟩:=h 0 v rfl;refine .cons ⟨t,by rw[e];rfl⟩ (ih (k+1) λi v hv=>?_)
   obtain⟨t,e⟩:=h (i+1) v (by simpa using hv)
   exact⟨t,by rw[e];congr 2;omega⟩
 have:=go acc.toList 0 λi v e=>by
  obtain⟨t,e2⟩:=hv i v (by simpa using e)
  exact⟨t,by rw[e2];congr 1;omega⟩
 rwa [Zbc,hs,<-List.range_eq_range'] at this
def Pn(mk:List V->HO):List V->Hp->VK->Prop:=λxs H Q=>∃ p j,xs=[.ref p]/\H p=some (.rng 0 j)/\-(2^30)<=j/\j<=1000000/\∀ l,H l=none->Q (.ref l) (upd H l (mk (Ej j)))
theorem Li{j:Int}(h:j<=1000000)(h0:-(2^62)<=j):Builtin.Range.small 0 j 1=true:=small_one (by decide) (by decide) h0 (by omega)
theorem zu(hc:X.calm=true):m8 X (.type "list") (Pn .lst):=by
 intro pins s σ H xs us Q I rv h;obtain⟨p,j,rfl,hp,h0,hj,q⟩:=h;obtain⟨u,rfl,ru⟩:=rv.one;cases ru;obtain⟨t,u,v,hr⟩:=(show dB X.prog X.w H s.heap p (.rng 0 j) from I.hok p _ hp);have big:=Be;refine call_list_range (I.ok.hd hc) hr (Li hj (by omega)) (Pk j) (by omega) λh' tk acc c' hk hS hacc=>?_
 have hv:=pM hacc;refine⟨.ref s.heap.objs.size,_,I.laid (a:=s.heap.objs.size) (t':=tk) (o:=.lst (Ej j)) hk (Zah _) (show dB X.prog X.w _ _ _ (.lst (Ej j)) from⟨?_,acc.toList,c',hv,by simpa using hS⟩),rfl,q _ (I.hok.fresh (Zah _))⟩
 unfold Ej;rw[Zac,Zba];omega
end
section
variable{K:PySem.W.Frag}{C:Cg}{F:Hp}{te:TE}{f:Fn PV}
def JK(mk:List PV->PV):PV->Option (Res PV)
 |.int j=>if -(2^30)<=j/\j<=1000000 then some (.ok (mk ((List.range j.toNat).map λi=>.int (i:Nat)))) else none
 |_=>none
theorem HD(n:Nat):bw K F ((List.range n).map λi=>V.int (i:Nat)) ((List.range n).map λi=>PV.int (i:Nat)):=by
 refine⟨by simp,λj x p a b=>?_⟩
 rw[Zaf] at a b;cases h:(List.range n)[j]? with
 |none=>rw[h] at a;cases a
 |some i=>rw[h] at a b;cases a;cases b;exact .int
theorem JL(h:MJ K C (aF K) te f):MO K C (tCB (Pn .lst) (gR (tCB Uz (gR te qi)) qi)) (m1 (JK .lst) f):=by
 intro F H σ ρ Q r R e P;refine h.run R e P λp v F1 H1 hk u a=>?_
 match p,hk with
 |.int j,hk=>
  have hk:(if -(2^30)<=j/\j<=1000000 then some (Res.ok (PV.lst ((List.range j.toNat).map λi=>PV.int (i:Nat)))) else none)=some r:=hk;split at hk
  ·rename_i hj;cases hk;cases Rep.aZ a;refine⟨j,rfl,hj.1,by omega,λrr hr=>⟨rr,j,rfl,aN,hj.1,hj.2,λl hl=>?_⟩⟩
   have u1:=Up.yj (o:=.rng 0 j) u.fh hr;have un:=Up.yj (o:=.lst (Ej j)) u1.fh hl;exact P l _ _ (u.trans (u1.trans un)) (u.hh.free (u1.hh.free hl)) (u1.fh.free hl) ⟨_,aN,HD _⟩
  ·cases hk
end
def POk(K:PySem.W.Frag)(C:Cg)(F:Hp)(D:Ends)(i:Nat)(c:Option (Option V)):Out->Prop
 |.nx ρ=>∀ F' H' σ,aL F F'->RE K C.toCf F' H' σ ρ->σ[i]?=c->D.nx σ H'
 |.bk ρ=>∀ F' H' σ,aL F F'->RE K C.toCf F' H' σ ρ->σ[i]?=c->D.bk σ H'
 |.ct ρ=>∀ F' H' σ,aL F F'->RE K C.toCf F' H' σ ρ->σ[i]?=c->D.ct σ H'
 |o=>PO' K C F D o
def MSk(K:PySem.W.Frag)(C:Cg)(i:Nat)(t:TS)(f:Sn):Prop:=∀ F H σ ρ D o,RE K C.toCf F H σ ρ->f ρ=some o->POk K C F D i (σ[i]?) o->t D σ H
def MGk(K:PySem.W.Frag)(C:Cg)(i:Nat)(g:TG)(tg:PV->Rho->Option Rho):Prop:=
 ∀ F H σ ρ v p ρ' Q,RE K C.toCf F H σ ρ->Rep K F v p->tg p ρ=some ρ'->(∀ σ',RE K C.toCf F H σ' ρ'->σ'[i]?=σ[i]?->Q σ' H)->g v σ H Q
section
variable{K:PySem.W.Frag}{C:Cg}{i:Nat}{te:TE}{F H:Hp}{σ:St}{ρ:Rho}{D:Ends}{t u:TS}{f g:Sn}{o:Out}{c:Option (Option V)}
theorem POk.up{F1:Hp}(h:POk K C F D i c o)(s:aL F F1):POk K C F1 D i c o:=by
 cases o with
 |nx ρ=>exact λF' H' σ a=>h F' H' σ (s.trans a)
 |bk ρ=>exact λF' H' σ a=>h F' H' σ (s.trans a)
 |ct ρ=>exact λF' H' σ a=>h F' H' σ (s.trans a)
 |rt p=>exact λv F' H' a=>h v F' H' (s.trans a)
 |ro p=>exact λv F' H' a=>h v F' H' (s.trans a)
 |rd p=>exact λv F' H' S a=>h v F' H' S (s.trans a)
 |ex z=>exact PX.up h s
theorem wH(j:Nat)(h:j≠i):MGk K C i (lD j) (gN j):=λF H σ ρ v p ρ' Q R r e k=>by
 cases e;exact k _ (R.set j r) (Zab h)
theorem MJ.Yi{α:Type}{A:Rel α}{ta:TE}{fe:Fn α}{Q:VK}{k:α->Option Out}(h:MJ K C A ta fe)(R:RE K C.toCf F H σ ρ)(hb:gb (fe ρ) k=some o)(P:POk K C F D i c o)
  (go:∀ p v F1 H1,k p=some o->Up F H F1 H1->A F1 H1 v p->Q v H1):ta σ H Q:=by
 rcases bK hb with⟨z,e,rfl⟩|⟨p,e,hk⟩
 ·exact h F H σ ρ Q _ R e P
 ·exact h F H σ ρ Q _ R e λv F1 H1 u a=>go p v F1 H1 hk u a
theorem Bf{fe:Fn PV}{gt:TG}{tg:PV->Rho->Option Rho}(h:MJ K C (aF K) te fe)(hg:MGk K C i gt tg):MSk K C i (uY te gt) (dW fe tg):=by
 intro F H σ ρ D o R e P;refine h.Yi R e P λp v F1 H1 hk u a=>?_;split at hk
 ·rename_i ρ' h1;cases hk;exact hg F1 H1 σ ρ v p ρ' _ (R.up u) a h1 λσ' R' k=>P F1 H1 σ' u.ff R' k
 ·cases hk
theorem vq(h1:MSk K C i t f)(h2:MSk K C i u g):MSk K C i (KC t u) (bB f g):=by
 intro F H σ ρ D o R e P;unfold bB at e;split at e
 ·rename_i ρ' h;refine h1 F H σ ρ _ _ R h ?_;exact λF' H' σ' s R' k=>h2 F' H' σ' ρ' D o R' e (by rw[k];exact P.up s)
 ·rename_i x hx;cases o with
  |nx ρ'=>exact absurd e (hx ρ')
  |bk ρ=>exact h1 F H σ _ _ _ R e P
  |ct ρ=>exact h1 F H σ _ _ _ R e P
  |rt p=>exact h1 F H σ _ _ _ R e P
  |ro p=>exact h1 F H σ _ _ _ R e P
  |rd p=>exact h1 F H σ _ _ _ R e P
  |ex z=>exact h1 F H σ _ _ _ R e P
end
def New(H F' H':Hp)(S:Addr->Prop):Prop:=∀ b,S b->H b=none/\F' b=none/\∃ o,H' b=some o/\∀ ys,o≠.tup ys
def MD(K:PySem.W.Frag)(C:Cg)(te:TE)(f:Fn PV):Prop:=
 ∀ F H σ ρ Q r,RE K C.toCf F H σ ρ->f ρ=some r->Pr C F (λp=>∀ v F' H' S,Up F H F' H'->Dp K F' H' S v p->New H F' H' S->Q v H') r->te σ H Q
def spD(K:PySem.W.Frag)(XR:Hp->Value->Option Addr->PV->Prop)(m:List PV->Option (Res PV)):Sp:=λvs H Q E=>∃ ps F r,aL F H/\bw K F vs ps/\m ps=some r/\match r with
 |.ok p=>∀ v F' H' S,Up F H F' H'->Dp K F' H' S v p->New H F' H' S->Q v H'
 |.ex z=>∀ e d F' H',Up F H F' H'->XR F' e d z->E e d H'
section
variable{K:PySem.W.Frag}{C:Cg}{te ta:TE}{F F1 F2 H H1 H2:Hp}{σ:St}{ρ:Rho}{D:Ends}{u:TS}{f g:Sn}{o:Out}{S:Addr->Prop}{v:V}{p:PV}
theorem New.up(n:New H F1 H1 S)(u:Up F1 H1 F2 H2):New H F2 H2 S:=λb q=>by
 obtain⟨n0,n1,o,n2,n3⟩:=n b q;refine⟨n0,?_,o,u.hh _ _ n2,n3⟩;cases e:F2 b with
 |none=>rfl
 |some o'=>
  rcases u.fr b o' e with z|z|⟨ys,z⟩
  ·rw[n1] at z;cases z
  ·rw[n2] at z;cases z
  ·subst z;have w:=u.fh _ _ e;rw[u.hh _ _ n2] at w;cases w;exact absurd rfl (n3 ys)
theorem Dp.stay(d:Dp K F1 H1 S v p)(u:Up F1 H1 F2 H2):Dp K F2 H2 S v p:=d.up u.ff (λb o _ q=>u.hh b o q) λb ys q=>u.hh b _ q
def lg(F H:Hp)(S:Addr->Prop):Hp:=λb=>@ite _ (S b\/∃ ys,H b=some (.tup ys)) (Classical.propDecidable _) (H b) (F b)
theorem gB{b:Addr}(h:S b\/∃ ys,H b=some (.tup ys)):lg F H S b=H b:=@if_pos _ (Classical.propDecidable _) h _ _ _
theorem fj{b:Addr}(h:¬(S b\/∃ ys,H b=some (.tup ys))):lg F H S b=F b:=@if_neg _ (Classical.propDecidable _) h _ _ _
theorem fL(s:aL F H):aL F (lg F H S):=λb o e=>by
 by_cases h:S b\/∃ ys,H b=some (.tup ys)
 ·rw[gB h];exact s b o e
 ·rw[fj h];exact e
theorem rY(s:aL F H):aL (lg F H S) H:=λb o e=>by
 by_cases h:S b\/∃ ys,H b=some (.tup ys)
 ·rw[gB h] at e;exact e
 ·rw[fj h] at e;exact s b o e
theorem Ek(d:Dp K F H S v p)(s:aL F H):Rep K (lg F H S) v p:=
 d.seen (fL s) (λb o q e=>by rw[gB (.inl q)];exact e) λb ys e=>by rw[gB (.inr ⟨ys,e⟩)];exact e
def qm(fe:Fn PV):Fn PV:=λρ=>bnd (fe ρ) λp=>match p with
 |.lst l=>if l.all PV.still=true then some (.ok (.lst l)) else none
 |_=>none
theorem wI{fe:Fn PV}(h:MO K C te fe):MD K C te (qm fe):=by
 intro F H σ ρ Q r R e P;rcases aX e with⟨z,e1,rfl⟩|⟨p,e1,hk⟩
 ·exact h F H σ ρ Q _ R e1 P
 ·split at hk
  ·rename_i l;split at hk
   ·rename_i hl;cases hk;refine h F H σ ρ Q _ R e1 λa F' H' u n1 n2 w=>?_;obtain⟨xs,e2,e3⟩:=w;refine P _ F' H' (λb=>b=a) u ?_ ?_
    ·refine .lst (S:=λ_ _=>False) e2 rfl (λj b q=>q.elim) (λi j b q=>q.elim) e3.1 λj x p e4 e5=>.fr (e3.2 j x p e4 e5) ?_;exact Zaq.mp hl p (Zap e5)
    ·rintro b rfl;exact⟨n1,n2,_,e2,λys q=>by cases q⟩
   ·cases hk
  ·cases hk
def qT(fe:Fn PV):Fn PV:=λρ=>bnd (fe ρ) λp=>if p.still=true then some (.ok p) else none
theorem rZ{fe:Fn PV}(h:MJ K C (aF K) te fe):MD K C te (qT fe):=by
 intro F H σ ρ Q r R e P;rcases aX e with⟨z,e1,rfl⟩|⟨p,e1,hk⟩
 ·exact h F H σ ρ Q _ R e1 P
 ·split at hk
  ·rename_i hp;cases hk;exact h F H σ ρ Q _ R e1 λv F' H' u w=>P v F' H' (λ_=>False) u (.fr w hp) λb q=>q.elim
  ·cases hk
def Dps(K:PySem.W.Frag)(F H:Hp)(S:Nat->Addr->Prop)(xs:List V)(l:List PV):Prop:=
 xs.length=l.length/\(∀ i j b,S i b->S j b->i=j)/\∀ (j:Nat) x p,xs[j]?=some x->l[j]?=some p->Dp K F H (S j) x p
def MDs(K:PySem.W.Frag)(C:Cg)(ta:TA)(f:Fn (List PV)):Prop:=
 ∀ F H σ ρ Q r,RE K C.toCf F H σ ρ->f ρ=some r->Pr C F (λl=>∀ xs F' H' S,Up F H F' H'->Dps K F' H' S xs l->New H F' H' (λb=>∃ j,S j b)->Q xs H') r->ta σ H Q
theorem sr:MDs K C qi aR:=λF H σ ρ Q r R e P=>by
 cases e;exact P [] F H (λ_ _=>False) (Up.refl R.rb.sub) ⟨rfl,λ_ _ _ q=>q.elim,λj x p e=>by simp at e⟩ λb ⟨_,q⟩=>q.elim
theorem gq{fe:Fn PV}{fs:Fn (List PV)}{ts:TA}(h:MD K C te fe)(hs:MDs K C ts fs):MDs K C (gR te ts) (au fe fs):=by
 intro F H σ ρ Q r R e P;rcases aX e with⟨z,e1,rfl⟩|⟨p,e1,hk⟩
 ·exact h F H σ ρ _ _ R e1 P
 refine h F H σ ρ _ _ R e1 λv F1 H1 S u d n=>?_;rcases aX hk with⟨z,e2,rfl⟩|⟨l,e2,hk2⟩
 ·exact hs F1 H1 σ ρ _ _ (R.up u) e2 (PX.up P u.ff)
 refine hs F1 H1 σ ρ _ _ (R.up u) e2 λxs F2 H2 S2 u2 d2 n2=>?_;cases hk2;refine P (v::xs) F2 H2 (λj b=>match j with|0=>S b|j+1=>S2 j b) (u.trans u2) ⟨by simp[d2.1],λi j b a1 a2=>?_,λj x q a1 a2=>?_⟩ ?_
 ·match i,j,a1,a2 with
  |0,0,_,_=>rfl
  |0,j+1,a1,a2=>
   obtain⟨_,_,o,c1,_⟩:=n b a1;have c2:=(n2 b ⟨j,a2⟩).1;rw[c1] at c2;cases c2
  |i+1,0,a1,a2=>
   obtain⟨_,_,o,c1,_⟩:=n b a2;have c2:=(n2 b ⟨i,a1⟩).1;rw[c1] at c2;cases c2
  |i+1,j+1,a1,a2=>exact Zbh (·+1) (d2.2.1 i j b a1 a2)
 ·match j,a1,a2 with
  |0,a1,a2=>cases a1;cases a2;exact d.stay u2
  |j+1,a1,a2=>exact d2.2.2 j x q (by simpa using a1) (by simpa using a2)
 ·rintro b ⟨j,q⟩
  match j,q with
  |0,q=>exact(n.up u2) b q
  |j+1,q=>obtain⟨c1,c2⟩:=n2 b ⟨j,q⟩;exact⟨u.hh.free c1,c2⟩
theorem Bg{fs:Fn (List PV)}{ts:TA}(h:MDs K C ts fs):MD K C (Rw ts) (t8 fs):=by
 intro F H σ ρ Q r R e P;rcases aX e with⟨z,e1,rfl⟩|⟨l,e1,hk⟩
 ·exact h F H σ ρ _ _ R e1 P
 split at hk
 ·rename_i hl;cases hk;refine h F H σ ρ _ _ R e1 λxs F1 H1 S u d n=>⟨by rw[d.1];exact hl,λa ha=>?_⟩
  have sa:∀ b,(∃ j,S j b)->b≠a:=λb q e'=>by subst e';obtain⟨_,_,o,c,_⟩:=n b q;rw[ha] at c;cases c
  have u2:Up F1 H1 F1 (upd H1 a (.tup xs)):=⟨aL.refl _,gk ha,λ_ _ q=>.inl q,λb o q=>by rw[aK (λz=>by subst z;have:=u.fh _ _ q;rw[ha] at this;cases this)];exact u.fh b o q⟩
  exact P (.ref a) F1 _ (λb=>∃ j,S j b) (u.trans u2) (.tup aN (λj b q=>⟨j,q⟩) d.2.1 d.1 λj x p a1 a2=>(d.2.2 j x p a1 a2).stay u2) (n.up u2)
 ·cases hk
def g8(i:Nat)(ρ:Rho):Option PV:=match ρ[i]? with
 |some (some (.dp p))=>some p
 |_=>none
theorem bV{i:Nat}{p:PV}(h:g8 i ρ=some p):ρ[i]?=some (some (.dp p)):=by
 unfold g8 at h;split at h
 ·rename_i q hq;cases h;exact hq
 ·cases h
theorem RE.Yj{C:Cf}(R:RE K C F H σ ρ)(i:Nat)(u:Up F H F1 H1)(d:Dp K F1 H1 S v p)(n:New H F1 H1 S)(nw:C.nw):RE K C F1 H1 (σ.set i (some v)) (ρ.set i (some (.dp p))) where
 rb:=R.rb.up u
 len:=by simp[R.len]
 sh:=λj q e=>by
  rcases get_set e with⟨e1,e2⟩|⟨e1,e2⟩
  ·cases e2
  ·obtain⟨w,e3,e4⟩:=(R.up u).sh j q e2;exact⟨w,by rw[Zab e1];exact e3,e4⟩
 ow:=λj q e=>by
  rcases get_set e with⟨e1,e2⟩|⟨e1,e2⟩
  ·cases e2
  ·obtain⟨w,e3,e4⟩:=(R.up u).ow j q e2;exact⟨w,by rw[Zab e1];exact e3,e4⟩
 dis:=λj k q q' b e e' f f'=>by
  rcases get_set e with⟨e1,e2⟩|⟨e1,e2⟩
  ·cases e2
  ·rcases get_set e' with⟨e1',e2'⟩|⟨e1',e2'⟩
   ·cases e2'
   ·rw[Zab e1] at f;rw[Zab e1'] at f';exact R.dis j k q q' b e2 e2' f f'
 dd:=by
  obtain⟨P,d0⟩:=R.dd;have d1:=d0.up u;refine⟨λj b=>if j=i then S b else P j b,λj b q=>?_,λj k b a1 a2=>?_,λj k q b z e f=>?_,λj q e=>?_⟩
  ·by_cases hj:j=i
   ·simp only[hj,ZaV] at q;obtain⟨c1,c2,c3⟩:=n b q;exact⟨c2,c3,nw,R.rb.nj c1⟩
   ·simp only[hj,ZaH] at q;exact d1.own j b q
  ·by_cases hj:j=i<;>by_cases hk:k=i
   ·rw[hj,hk]
   ·simp only[hj,hk,ZaV,ZaH] at a1 a2;obtain⟨_,⟨o,c,_⟩,_⟩:=d0.own k b a2;rw[(n b a1).1] at c;cases c
   ·simp only[hj,hk,ZaV,ZaH] at a1 a2;obtain⟨_,⟨o,c,_⟩,_⟩:=d0.own j b a1;rw[(n b a2).1] at c;cases c
   ·simp only[hj,hk,ZaH] at a1 a2;exact d0.dis j k b a1 a2
  ·rcases get_set e with⟨e1,e2⟩|⟨e1,e2⟩
   ·cases e2
   ·rw[Zab e1] at f;by_cases hj:j=i
    ·simp only[hj,ZaV] at z;exact R.apart (n b z).1 k q e2 f
    ·simp only[hj,ZaH] at z;exact d0.ow j k q b z e2 f
  ·rcases get_set e with⟨e1,e2⟩|⟨e1,e2⟩
   ·subst e1;cases e2;have:=bH e;refine⟨v,by rw[ZaI (by rw[R.len];simpa using this)],?_⟩
    simp only[ZaV];exact d
   ·obtain⟨w,e3,e4⟩:=d1.dp j q e2;refine⟨w,by rw[Zab e1];exact e3,?_⟩
    simp only[Za0 e1,ZaH];exact e4
def zx(i:Nat)(fe:Fn PV):Sn:=λρ=>gb (fe ρ) λp=>some (.nx (ρ.set i (some (.dp p))))
theorem Bh{i:Nat}{fe:Fn PV}(nw:C.nw)(h:MD K C te fe):MS K C (uY te (lD i)) (zx i fe):=by
 intro F H σ ρ D o R e P;rcases bK e with⟨z,e1,rfl⟩|⟨p,e1,hk⟩
 ·exact h F H σ ρ _ _ R e1 P
 ·cases hk;exact h F H σ ρ _ _ R e1 λv F1 H1 S u d n=>P F1 H1 _ u.ff (R.Yj i u d n nw)
theorem RE.Xp{C:Cf}(R:RE K C F H σ ρ){i:Nat}(e:ρ[i]?=some (some (.dp p))):∃ S v,σ[i]?=some (some v)/\Dp K F H S v p/\(∀ b,S b->F b=none/\(∃ o,H b=some o/\∀ ys,o≠.tup ys)/\C.H0 b=none)/\RE K C (lg F H S) H σ (ρ.set i (some (.sh p))):=by
 obtain⟨P,d⟩:=R.dd;obtain⟨v,e1,e2⟩:=d.dp i p e;have li:=bH e;have sf:aL F (lg F H (P i)):=fL R.rb.sub;refine⟨P i,v,e1,e2,λb q=>⟨(d.own i b q).1,(d.own i b q).2.1,(d.own i b q).2.2.2⟩,⟨⟨rY R.rb.sub,R.rb.keep,λb o q=>?_,R.rb.ios⟩,by simp[R.len],λj q f=>?_,λj q f=>?_,λj k q q' b f f' g g'=>?_,?_⟩⟩
 ·by_cases h:P i b\/∃ ys,H b=some (.tup ys)
  ·rw[gB h] at q;rcases h with h|⟨ys,h⟩
   ·exact .inr (.inl (d.own i b h).2.2.2)
   ·rw[h] at q;cases q;exact .inr (.inr ⟨ys,rfl⟩)
  ·rw[fj h] at q;exact R.rb.new b o q
 ·rcases get_set f with⟨f1,f2⟩|⟨f1,f2⟩
  ·subst f1;cases f2;exact⟨v,e1,Ek e2 R.rb.sub⟩
  ·obtain⟨w,g1,g2⟩:=R.sh j q f2;exact⟨w,g1,g2.up sf⟩
 ·rcases get_set f with⟨f1,f2⟩|⟨f1,f2⟩
  ·cases f2
  ·obtain⟨b,g1,g2,g3,g4⟩:=R.ow j q f2;refine⟨b,g1,g2.up sf λ_ z=>z,?_,g4⟩;rw[fj]
   ·exact g3
   ·rintro(z|⟨ys,z⟩)
    ·exact d.ow i j q b z f2 g1
    ·exact g2.uM z
 ·rcases get_set f with⟨f1,f2⟩|⟨f1,f2⟩
  ·cases f2
  ·rcases get_set f' with⟨f1',f2'⟩|⟨f1',f2'⟩
   ·cases f2'
   ·exact R.dis j k q q' b f2 f2' g g'
 ·refine⟨λj b=>j≠i/\P j b,λj b z=>?_,λj k b a1 a2=>d.dis j k b a1.2 a2.2,λj k q b z f g=>?_,λj q f=>?_⟩
  ·obtain⟨c1,c2,c3⟩:=d.own j b z.2;refine⟨?_,c2,c3⟩;rw[fj]
   ·exact c1
   ·rintro(y|⟨ys,y⟩)
    ·exact z.1 (d.dis j i b z.2 y)
    ·obtain⟨o,c4,c5⟩:=c2;rw[y] at c4;cases c4;exact c5 ys rfl
  ·rcases get_set f with⟨f1,f2⟩|⟨f1,f2⟩
   ·cases f2
   ·exact d.ow j k q b z.2 f2 g
  ·rcases get_set f with⟨f1,f2⟩|⟨f1,f2⟩
   ·cases f2
   ·obtain⟨w,g1,g2⟩:=d.dp j q f2;refine⟨w,g1,(g2.up sf (λ_ _ _ q=>q) λ_ _ q=>q).mono λb z=>⟨Za0 f1,z⟩⟩
def mFz(i:Nat)(fe:Fn PV):Fn PV:=λρ=>match g8 i ρ with
 |some p=>bnd (fe (ρ.set i (some (.sh p)))) λq=>if q.flat=true then some (.ok q) else none
 |none=>none
theorem Pu{i:Nat}{fe:Fn PV}(h:MJ K C (aF K) te fe):MJ K C (aF K) te (mFz i fe):=by
 intro F H σ ρ Q r R e P;unfold mFz at e;split at e
 ·rename_i p hp;obtain⟨S,v,_,_,_,R'⟩:=R.Xp (bV hp);have sf:aL F (lg F H S):=fL R.rb.sub;rcases aX e with⟨z,e1,rfl⟩|⟨q,e1,hk⟩
  ·exact h _ H σ _ Q _ R' e1 (PX.up P sf)
  ·split at hk
   ·rename_i hq;cases hk;exact h _ H σ _ Q _ R' e1 λw F1 H1 u rw'=>P w F H1 ⟨aL.refl _,u.hh,λ_ _ z=>.inl z,R.rb.sub.trans u.hh⟩ (Rep.free rw' hq)
   ·cases hk
 ·cases e
def HF(i:Nat)(fe:Fn Bool):Fn Bool:=λρ=>match g8 i ρ with
 |some p=>fe (ρ.set i (some (.sh p)))
 |none=>none
theorem UG{i:Nat}{tt:TT}{fe:Fn Bool}(h:MT K C tt fe):MT K C tt (HF i fe):=by
 intro F H σ ρ Q r R e P;unfold HF at e;split at e
 ·rename_i p hp;obtain⟨S,v,_,_,_,R'⟩:=R.Xp (bV hp);have sf:aL F (lg F H S):=fL R.rb.sub;cases r with
  |ex z=>exact h _ H σ _ Q _ R' e (PX.up P sf)
  |ok b=>exact h _ H σ _ Q _ R' e λF1 H1 u=>P F H1 ⟨aL.refl _,u.hh,λ_ _ z=>.inl z,R.rb.sub.trans u.hh⟩
 ·cases e
def wJ(fe:Fn PV):Sn:=λρ=>gb (fe ρ) λp=>some (.rd p)
theorem vy{fe:Fn PV}(h:MD K C te fe):MS K C (GQ te) (wJ fe):=by
 intro F H σ ρ D o R e P;rcases bK e with⟨z,e1,rfl⟩|⟨p,e1,hk⟩
 ·exact h F H σ ρ _ _ R e1 P
 ·cases hk;exact h F H σ ρ _ _ R e1 λv F1 H1 S u d n=>P v F1 H1 S u.ff (R.rb.up u) d λb q=>⟨(n b q).2.1,(n b q).2.2,R.rb.nj (n b q).1⟩
end
section
variable{K:PySem.W.Frag}{C:Cg}{te:TE}{F F1 F2 H H1 H2:Hp}{σ:St}{ρ:Rho}{D:Ends}{u:TS}{f g:Sn}{o:Out}{S:Addr->Prop}{v:V}{p:PV}
theorem El{S:Nat->Addr->Prop}{S4:Addr->Prop}{ys:List V}{acc:List PV}{q:PV}{D:Addr}{F4 H4 H1:Hp}(h:Dps K F4 H4 S ys acc)(rm:∀ j b,S j b->j<ys.length/\b≠D/\H1 b=none/\F4 b=none/\∃ o,H4 b=some o/\∀ zs,o≠.tup zs)(eD:H4 D=some (.lst ys))(d:Dp K F4 H4 S4 v q)
  (n4:∀ b,S4 b->(F4 b=none/\∃ o,H4 b=some o/\∀ zs,o≠.tup zs)/\H1 b=none)(nd:∀ b,S4 b->b≠D)(ap:∀ j b,S j b->¬S4 b) :
  Dps K F4 (upd H4 D (.lst (ys++[v]))) (λj b=>if j=ys.length then S4 b else S j b) (ys++[v]) (acc++[q])/\(∀ j b,(if j=ys.length then S4 b else S j b)->j<(ys++[v]).length/\b≠D/\H1 b=none/\F4 b=none/\∃ o,upd H4 D (.lst (ys++[v])) b=some o/\∀ zs,o≠.tup zs):=by
 have tups:∀ b zs,H4 b=some (.tup zs)->upd H4 D (.lst (ys++[v])) b=some (.tup zs):=λb zs e=>by
  rw[aK (λz=>by subst z;rw[eD] at e;cases e)];exact e
 refine⟨⟨by simp[h.1],λi j b a1 a2=>?_,λj x p e1 e2=>?_⟩,λj b a=>?_⟩
 ·by_cases hi:i=ys.length<;>by_cases hj:j=ys.length
  ·rw[hi,hj]
  ·simp only[hi,hj,ZaV,ZaH] at a1 a2;exact absurd a1 (ap j b a2)
  ·simp only[hi,hj,ZaV,ZaH] at a1 a2;exact absurd a2 (ap i b a1)
  ·simp only[hi,hj,ZaH] at a1 a2;exact h.2.1 i j b a1 a2
 ·by_cases hj:j<ys.length
  ·rw[Zaj hj] at e1;rw[Zaj (by rw[<-h.1];exact hj)] at e2
   simp only[show ¬j=ys.length by omega,ZaH]
   exact(h.2.2 j x p e1 e2).up (aL.refl _) (λb o z e=>by rw[aK (rm j b z).2.1];exact e) tups
  ·rw[Zam (by omega)] at e1
   rw[Zam (by rw[<-h.1];omega)] at e2
   have ej:j=ys.length:=by
    have:=bH e1;simp at this;omega
   rw[ej,Zcj] at e1;rw[ej,h.1,Zcj] at e2;cases e1;cases e2;simp only[ej,ZaV];exact d.up (aL.refl _) (λb o z e=>by rw[aK (nd b z)];exact e) tups
 ·by_cases hj:j=ys.length
  ·simp only[hj,ZaV] at a;obtain⟨⟨c1,o,c2,c3⟩,c4⟩:=n4 b a;exact⟨by simp;omega,nd b a,c4,c1,o,by rw[aK (nd b a)];exact c2,c3⟩
  ·simp only[hj,ZaH] at a;obtain⟨c0,c1,c2,c3,o,c4,c5⟩:=rm j b a;exact⟨by simp;omega,c1,c2,c3,o,by rw[aK c1];exact c4,c5⟩
theorem Px{wi:TI}{it:Fn (List PV)}{fr:List (Option Nat)}{gt:TG}{tg:PV->Rho->Option Rho}{T:List Nat}{tc:TT}{tst:Fn Bool}{el:Fn PV}(hi:MIH K C wi it)(hg:MG K C gt tg)(hT:Wr T tg)(ht:MT K C tc tst)(he:MD K C te el)
  (hfr:T.all (λj=>fr[j]?==some none)=true:=by rfl):MD K C (vR wi fr gt tc te) (jj it fr tg tst el):=by
 intro F H σ ρ Q r R e P;rcases aX e with⟨z,e1,rfl⟩|⟨l,e1,hk⟩
 ·exact hi F H σ ρ _ _ R e1 P
 split at hk
 case isFalse=>cases hk
 rename_i hlen;refine hi F H σ ρ _ _ R e1 λJ F1 H1 u hJ D hD=>?_;have R1:=R.up u;obtain⟨Rb,no⟩:=R1.block fr;have hD0:C.H0 D=none:=R1.rb.nj hD;have hFD:F1 D=none:=u.fh.free hD;have hρ:∀ (j:Nat),j∈T->(frR fr ρ)[j]?=some none:=λj hj=>by
  have:=Zaq.mp hfr j hj;unfold frR;rw[Zaf,show fr[j]?=some none by simpa using this]
  rfl
 refine⟨λi m σ' H'=>∃ F' ys acc S,m=l.length-i/\i<=l.length/\aL F1 F'/\(∀ b o,F' b=some o->F1 b=some o\/Frz H1 b o)/\aL H1 H'/\H' D=some (.lst ys)/\F' D=none/\Dps K F' H' S ys acc/\(∀ j b,S j b->j<ys.length/\b≠D/\H1 b=none/\F' b=none/\∃ o,H' b=some o/\∀ zs,o≠.tup zs)/\acc.length<=i /\
   RE K C.toCf F' H' σ' (frR fr ρ)/\bnd (eY tg tst el (frR fr ρ) (l.drop i)) (λr=>some (.ok (.lst (acc++r))))=some r,
  ⟨l.length,F1,[],[],λ_ _=>False,by simp,Zbj _,aL.refl _,λ_ _ q=>.inl q,gk hD,aN,hFD,⟨rfl,λ_ _ _ q=>q.elim,λj x p e=>by simp at e⟩,λ_ _ q=>q.elim,Zah _,Rb.other hFD hD0 no,by rw[Zb4];exact hk⟩,?_⟩
 rintro i m σ' H' ⟨F',ys,acc,S,rfl,hil,s1,fr1,sH,eD,nD,ra,rm,hacc,R',e'⟩;by_cases hlt:i<l.length
 case neg=>
  have ei:i=l.length:=by omega
  subst ei;rw[ZbK] at e';have e':some (Res.ok (PV.lst (acc++[])))=some r:=e';rw[Zaw] at e';cases e';refine .inl ⟨hJ.stop F' H' s1 R'.rb.sub sH,P (.ref D) F' H' (λb=>b=D\/∃ j,S j b) (u.trans ⟨s1,sH,fr1,R'.rb.sub⟩) (.lst eD (.inl rfl) (λj b q=>⟨.inr ⟨j,q⟩,(rm j b q).2.1⟩) ra.2.1 ra.1 ra.2.2) ?_⟩;rintro b (rfl|⟨j,q⟩)
  ·exact⟨u.hh.free hD,nD,_,eD,λzs q=>by cases q⟩
  ·obtain⟨_,_,c1,c2,c3⟩:=rm j b q;exact⟨u.hh.free c1,c2,c3⟩
 refine .inr ⟨hJ.go i F' H' hlt s1 R'.rb.sub sH,λσ2 H2=>∃ F2 ys acc S,aL F1 F2/\(∀ b o,F2 b=some o->F1 b=some o\/Frz H1 b o)/\aL H1 H2/\H2 D=some (.lst ys)/\F2 D=none/\Dps K F2 H2 S ys acc/\(∀ j b,S j b->j<ys.length/\b≠D/\H1 b=none/\F2 b=none/\∃ o,H2 b=some o/\∀ zs,o≠.tup zs)/\acc.length<=i+1 /\
   RE K C.toCf F2 H2 σ2 (frR fr ρ)/\bnd (eY tg tst el (frR fr ρ) (l.drop (i+1))) (λr=>some (.ok (.lst (acc++r))))=some r,
  λσ2 H2 ⟨F2,ys,acc,S,z⟩=>⟨l.length-(i+1),by omega,F2,ys,acc,S,rfl,hlt,z⟩,λx H'' y=>?_⟩
 obtain⟨F'',p,u2,ep,rx⟩:=hJ.yld i F' H' x H'' hlt s1 R'.rb.sub sH y;have ed:l.drop i=p::l.drop (i+1):=by
  rw[Za8 hlt];rw[Zad hlt] at ep;rw[Zaa ep]
 rw[ed,eY] at e';split at e'
 ·cases e'
 rename_i ρ1 h1;obtain⟨w1,w2,w3⟩:=hT p _ ρ1 h1;have no1:=w3 no;have weak:∀ (j:Nat) s,(frR fr ρ)[j]?=some (some s)->ρ1[j]?=some (some s):=λj s ej=>by
  rw[w2 j λz=>by rw[hρ j z] at ej;cases ej];exact ej
 refine hg F'' H'' σ' (frR fr ρ) x p ρ1 _ (R'.up u2) rx h1 λσ1 R1'=>?_;have stay:∀ {F3 H3:Hp},Up F' H' F3 H3->aL F1 F3/\(∀ b o,F3 b=some o->F1 b=some o\/Frz H1 b o)/\aL H1 H3/\H3 D=some (.lst ys)/\F3 D=none/\Dps K F3 H3 S ys acc/\(∀ j b,S j b->j<ys.length/\b≠D/\H1 b=none/\F3 b=none/\∃ o,H3 b=some o/\∀ zs,o≠.tup zs):=λ{F3 H3} u3=>by
  refine⟨s1.trans u3.ff,λb o q=>?_,sH.trans u3.hh,u3.hh _ _ eD,?_,⟨ra.1,ra.2.1,λj x p c1 c2=>(ra.2.2 j x p c1 c2).stay u3⟩,λj b q=>?_⟩
  ·rcases u3.fr b o q with z|z
   ·exact fr1 b o z
   ·exact .inr (z.imp (λz=>sH.free z) id)
  ·cases q:F3 D with
   |none=>rfl
   |some o=>
    rcases u3.fr D o q with z|z|⟨ys,z⟩
    ·rw[nD] at z;cases z
    ·rw[eD] at z;cases z
    ·subst z;have w:=u3.fh _ _ q;rw[u3.hh _ _ eD] at w;cases w
  ·obtain⟨c0,c1,c2,c3,c4⟩:=rm j b q;have nn:New H1 F' H' (S j):=λb q=>(rm j b q).2.2;exact⟨c0,c1,(nn.up u3) b q⟩
 have Pl:∀ {F3 H3:Hp},Up F' H' F3 H3->∀ {z:PV},r=.ex z->PX C F3 z:=λ{F3 H3} u3 {z} ez=>by
  subst ez;exact PX.up P (u.ff.trans (s1.trans u3.ff))
 rcases aX e' with⟨z,e2,rfl⟩|⟨r0,e2,e3⟩
 ·
  rcases aX e2 with⟨z',e4,ez⟩|⟨b,e4,e5⟩
  ·cases ez;exact ht F'' H'' σ1 ρ1 _ _ R1' e4 (Pl u2 rfl)
  ·refine ht F'' H'' σ1 ρ1 _ _ R1' e4 λF3 H3 u3=>?_;have u23:=u2.trans u3;cases b with
   |false=>
    rw[Zal (by decide)] at e5 ⊢
    obtain⟨a1,a2,a3,a4,a5,a6,a7⟩:=stay u23;exact⟨F3,ys,acc,S,a1,a2,a3,a4,a5,a6,a7,by omega,(R1'.up u3).weak w1.symm weak,by rw[e5];rfl⟩
   |true=>
    rw[Zag rfl] at e5 ⊢;rcases aX e5 with⟨z',e6,ez⟩|⟨q,e6,e7⟩
    ·cases ez;exact he F3 H3 σ1 ρ1 _ _ (R1'.up u3) e6 (Pl u23 rfl)
    ·refine he F3 H3 σ1 ρ1 _ _ (R1'.up u3) e6 λv F4 H4 S4 u4 rv n4=>?_;have u24:=u23.trans u4;obtain⟨_,_,_,_,_,_,a7s⟩:=stay u23;obtain⟨a1,a2,a3,a4,a5,a6,a7⟩:=stay u24;rcases aX e7 with⟨z',e8,ez⟩|⟨rr,e8,e9⟩
     ·cases ez;obtain⟨b1,b2⟩:=El a6 a7 a4 rv (λb z=>⟨(n4 b z).2,((sH.trans u23.hh).free (n4 b z).1)⟩) (λb z=>by intro e;subst e;have c:=(n4 b z).1;rw[u23.hh _ _ eD] at c;cases c) (λj b z z'=>by obtain⟨_,_,_,_,o,c,_⟩:=a7s j b z;have c':=(n4 b z').1;rw[c] at c';cases c')
      refine⟨ys,a4,by rw[a6.1];omega,F4,ys++[v],acc++[q],_,a1,a2,t6 hD a3,aN,a5,b1,b2,by simp;omega,((R1'.up (u3.trans u4)).other a5 hD0 no1).weak w1.symm weak,?_⟩
      rw[e8];rfl
     ·cases e9
 ·rcases aX e2 with⟨z',e4,ez⟩|⟨b,e4,e5⟩
  ·cases ez
  ·refine ht F'' H'' σ1 ρ1 _ _ R1' e4 λF3 H3 u3=>?_;have u23:=u2.trans u3;cases b with
   |false=>
    rw[Zal (by decide)] at e5 ⊢
    obtain⟨a1,a2,a3,a4,a5,a6,a7⟩:=stay u23;exact⟨F3,ys,acc,S,a1,a2,a3,a4,a5,a6,a7,by omega,(R1'.up u3).weak w1.symm weak,by rw[e5];exact e3⟩
   |true=>
    rw[Zag rfl] at e5 ⊢;rcases aX e5 with⟨z',e6,ez⟩|⟨q,e6,e7⟩
    ·cases ez
    ·refine he F3 H3 σ1 ρ1 _ _ (R1'.up u3) e6 λv F4 H4 S4 u4 rv n4=>?_;have u24:=u23.trans u4;obtain⟨_,_,_,_,_,_,a7s⟩:=stay u23;obtain⟨a1,a2,a3,a4,a5,a6,a7⟩:=stay u24;rcases aX e7 with⟨z',e8,ez⟩|⟨rr,e8,e9⟩
     ·cases ez
     ·cases e9;obtain⟨b1,b2⟩:=El a6 a7 a4 rv (λb z=>⟨(n4 b z).2,((sH.trans u23.hh).free (n4 b z).1)⟩) (λb z=>by intro e;subst e;have c:=(n4 b z).1;rw[u23.hh _ _ eD] at c;cases c) (λj b z z'=>by obtain⟨_,_,_,_,o,c,_⟩:=a7s j b z;have c':=(n4 b z').1;rw[c] at c';cases c')
      refine⟨ys,a4,by rw[a6.1];omega,F4,ys++[v],acc++[q],_,a1,a2,t6 hD a3,aN,a5,b1,b2,by simp;omega,((R1'.up (u3.trans u4)).other a5 hD0 no1).weak w1.symm weak,?_⟩
      rw[e8];show some (Res.ok (PV.lst (acc++[q]++rr)))=some r
      rw[Zb6];exact e3
theorem JM{wi:TI}{it:Fn (List PV)}{fr:List (Option Nat)}{gt:TG}{tg:PV->Rho->Option Rho}{T:List Nat}{tc:TT}{tst:Fn Bool}{el:Fn PV}(hi:MI K C wi it)(hg:MG K C gt tg)(hT:Wr T tg)(ht:MT K C tc tst)(he:MD K C te el)
  (hfr:T.all (λj=>fr[j]?==some none)=true:=by rfl):MD K C (vR wi fr gt tc te) (jj it fr tg tst el):=Px hi.h hg hT ht he hfr
theorem Dp.cJ{l:List PV}(d:Dp K F H S v (.lst l)):∃ (T:Nat->Addr->Prop) (a:Addr) (xs:List V),v=.ref a/\H a=some (.lst xs)/\S a/\(∀ j b,T j b->S b/\b≠a)/\Dps K F H T xs l:=by
 cases d with
 |fr h st=>cases st
 |lst h hp hs dj hl hr=>exact⟨_,_,_,rfl,h,hp,hs,hl,dj,hr⟩
theorem RE.Bj{C:Cf}(R:RE K C F H σ ρ){P:Nat->Addr->Prop}(d:RD K C F H σ ρ P){i:Nat}(e:ρ[i]?=some (some (.dp p)))(e1:σ[i]?=some (some v)){a:Addr}{ob:HO}(ha:P i a)(ho:∀ ys,ob≠.tup ys){p':PV}{S':Addr->Prop}
  (hd:Dp K F (upd H a ob) S' v p')(hS:∀ b,S' b->P i b\/(F b=none/\(∃ o,H b=some o/\∀ ys,o≠.tup ys)/\C.nw/\C.H0 b=none/\(∀ j,¬P j b)/\∀ (j:Nat) q,ρ[j]?=some (some (.ow q))->σ[j]?≠some (some (.ref b)))) :
  RE K C F (upd H a ob) σ (ρ.set i (some (.dp p'))):=by
 obtain⟨c1,⟨oa,c2,c3⟩,c4,c5⟩:=d.own i a ha;have hio:¬C.io a:=λz=>(R.rb.ios a z).2 c5;refine⟨⟨λb o q=>by rw[aK (λz=>by subst z;rw[c1] at q;cases q)];exact R.rb.sub b o q,λb o q z=>by rw[aK (λy=>by subst y;rw[c5] at q;cases q)];exact R.rb.keep b o q z,R.rb.new,λb z=>?_⟩,by simp[R.len],λj q f=>?_,λj q f=>?_,λj k q q' b f f' g g'=>?_,?_⟩
 ·refine⟨?_,(R.rb.ios b z).2⟩;rw[aK (λy=>by subst y;exact hio z)];exact(R.rb.ios b z).1
 ·rcases get_set f with⟨f1,f2⟩|⟨f1,f2⟩
  ·cases f2
  ·exact R.sh j q f2
 ·rcases get_set f with⟨f1,f2⟩|⟨f1,f2⟩
  ·cases f2
  ·obtain⟨b,g1,g2,g3,g4⟩:=R.ow j q f2;have nb:b≠a:=λz=>by subst z;exact d.ow i j q b ha f2 g1
   refine⟨b,g1,?_,g3,g4⟩;cases q with
   |lst l=>obtain⟨xs,k1,k2⟩:=g2;exact⟨xs,by rw[aK nb];exact k1,k2⟩
   |dk l=>obtain⟨xs,k1,k2⟩:=g2;exact⟨xs,by rw[aK nb];exact k1,k2⟩
   |dt l=>obtain⟨xs,k1,k2⟩:=g2;exact⟨xs,by rw[aK nb];exact k1,k2⟩
   |_=>exact g2.elim
 ·rcases get_set f with⟨f1,f2⟩|⟨f1,f2⟩
  ·cases f2
  ·rcases get_set f' with⟨f1',f2'⟩|⟨f1',f2'⟩
   ·cases f2'
   ·exact R.dis j k q q' b f2 f2' g g'
 ·have up:∀ b o,H b=some o->(∀ ys,o≠.tup ys)->∃ o',upd H a ob b=some o'/\∀ ys,o'≠.tup ys:=λb o q z=>by
   by_cases h:b=a
   ·subst h;exact⟨ob,aN,ho⟩
   ·exact⟨o,by rw[aK h];exact q,z⟩
  refine⟨λj b=>if j=i then S' b else P j b,λj b z=>?_,λj k b a1 a2=>?_,λj k q b z f g=>?_,λj q f=>?_⟩
  ·by_cases hj:j=i
   ·simp only[hj,ZaV] at z;rcases hS b z with w|⟨w1,⟨o,w2,w2'⟩,w3,w4,_⟩
    ·obtain⟨k1,⟨o,k2,k3⟩,k4⟩:=d.own i b w;exact⟨k1,up b o k2 k3,k4⟩
    ·exact⟨w1,up b o w2 w2',w3,w4⟩
   ·simp only[hj,ZaH] at z;obtain⟨k1,⟨o,k2,k3⟩,k4⟩:=d.own j b z;exact⟨k1,up b o k2 k3,k4⟩
  ·by_cases hj:j=i<;>by_cases hk:k=i
   ·rw[hj,hk]
   ·simp only[hj,hk,ZaV,ZaH] at a1 a2;rcases hS b a1 with w|⟨_,_,_,_,w,_⟩
    ·rw[hj];exact d.dis i k b w a2
    ·exact absurd a2 (w k)
   ·simp only[hj,hk,ZaV,ZaH] at a1 a2;rcases hS b a2 with w|⟨_,_,_,_,w,_⟩
    ·rw[hk];exact d.dis j i b a1 w
    ·exact absurd a1 (w j)
   ·simp only[hj,hk,ZaH] at a1 a2;exact d.dis j k b a1 a2
  ·rcases get_set f with⟨f1,f2⟩|⟨f1,f2⟩
   ·cases f2
   ·by_cases hj:j=i
    ·simp only[hj,ZaV] at z;rcases hS b z with w|⟨_,_,_,_,_,w⟩
     ·exact d.ow i k q b w f2 g
     ·exact w k q f2 g
    ·simp only[hj,ZaH] at z;exact d.ow j k q b z f2 g
  ·rcases get_set f with⟨f1,f2⟩|⟨f1,f2⟩
   ·subst f1;cases f2;refine⟨v,e1,?_⟩;simp only[ZaV];exact hd
   ·obtain⟨w,g1,g2⟩:=d.dp j q f2;refine⟨w,g1,?_⟩;simp only[Za0 f1,ZaH];refine g2.up (aL.refl _) (λb o z q=>?_) λb ys q=>?_
    ·rw[aK (λy=>by subst y;exact f1 (d.dis i j b ha z))];exact q
    ·rw[aK (λy=>by subst y;rw[c2] at q;cases q;exact c3 ys rfl)];exact q
end
section
variable{K:PySem.W.Frag}{F H:Hp}{S:Addr->Prop}{v:V}
theorem Dp.cG{l:List PV}(d:Dp K F H S v (.tup l))(hl:(PV.tup l).still=false):∃ (T:Nat->Addr->Prop) (a:Addr) (xs:List V),v=.ref a/\H a=some (.tup xs)/\(∀ j b,T j b->S b)/\Dps K F H T xs l:=by
 cases d with
 |fr h st=>rw[hl] at st;cases st
 |tup h hs dj hl hr=>exact⟨_,_,_,rfl,h,hs,hl,dj,hr⟩
end
def ym:Option Out->Option (Res PV)
 |some (.rd p)=>some (.ok p)
 |some (.ex z)=>some (.ex z)
 |_=>none
section
variable{K:PySem.W.Frag}{XR:Hp->Value->Option Addr->PV->Prop}{N:List Str}{vs:List V}{H:Hp}{Q:VK}{E:XK}{t:TS}{b:Sn}{m:List PV->Option (Res PV)}
theorem Ss{k n:Nat}(hk:N.length=k+n)(hm:∀ ps r,m ps=some r->ps.length=k/\ym (b (startR ps n))=some r)(h:spD K XR0 m vs H Q E)(hS:∀ (io:Addr->Prop) (H0 F0:Hp),(∀ a,¬io a)->MS K (C0 io H0 F0) t b) :
  t { nx:=λ_ H'=>Q .non H',rt:=Q } (start N vs) H:=by
 obtain⟨ps,F,r,s,rp,e,P⟩:=h;obtain⟨hl,e⟩:=hm ps r e;have R:=iW (E:=E0) (N:=N) (n:=n) s rp (by rw[rp.1,hl];exact hk)
 have up:∀ {F' H':Hp},aL F F'->RB ⟨λ_=>False,True,H,F,E0⟩ F' H'->Up F H F' H':=λs' rb=>⟨s',λc o q=>rb.keep c o q id,rb.new,rb.sub⟩;have M:=hS (λ_=>False) H F (λ_ h=>h);cases ho:b (startR ps n) with
 |none=>rw[ho] at e;cases e
 |some o=>
  rw[ho] at e;refine M F H _ _ _ o R ho ?_;cases o with
  |rd p=>cases e;exact λv F' H' S s' rb d n=>P v F' H' S (up s' rb) d λb q=>⟨(n b q).2.2,(n b q).1,(n b q).2.1⟩
  |ex z=>exact λ_ _ _ _ _ _ x=>x.elim
  |nx ρ=>cases e
  |rt p=>cases e
  |ro p=>cases e
  |bk ρ=>cases e
  |ct ρ=>cases e
theorem vz(h:spD K XR m vs H Q E){k:Nat}(hm:∀ ps r,m ps=some r->ps.length=k):vs.length=k:=by
 obtain⟨ps,F,r,s,rp,e,P⟩:=h;rw[rp.1];exact hm ps r e
end
end L2.MP
namespace L2
open PySem PySem.Spec PyProof PyProof.Rows
namespace MP
end MP
def Ys:HO->Prop
 |.dK _=>True
 |.dT _=>True
 |_=>False
section
variable{σ:St}{H:Hp}{a:Addr}{u:HO}{raw:Obj}
def Ends.loose(D:Ends)(a:Addr)(raw:Obj)(u:HO):Ends where
 nx:=λσ H=>H a=some (.frz raw u)/\D.nx σ (upd H a u)
 bk:=λσ H=>H a=some (.frz raw u)/\D.bk σ (upd H a u)
 ct:=λσ H=>H a=some (.frz raw u)/\D.ct σ (upd H a u)
 rt:=λv H=>H a=some (.frz raw u)/\D.rt v (upd H a u)
end
theorem Su{P:Program}{w:World}{k:Key}{u:Value}(h:(cF P w).is k u=true):RelV (kV k) u:=by
 rcases cO h with⟨i,t,rfl,rfl⟩|⟨x,t,rfl,rfl⟩
 ·exact⟨t,rfl⟩
 ·exact⟨t,rfl⟩
end L2
namespace L2.MP
open PySem PySem.Spec PyProof.Rows
end L2.MP
namespace L2
open PySem PySem.Spec PyProof PyProof.Rows
namespace MP
end MP
namespace MP
end MP
theorem Bk{h:Heap}{vs:List Value}{out:Array Value}{b:Addr}{o:Obj}(hb:h.get? b=some o):(sortedHeap (h.push (seqObj "list" vs.toArray 0)) h.objs.size vs out).get? b=some o:=by
 have hlt:b<h.objs.size:=Zak hb;rw[sortedHeap_old (Zaz hlt) (by rw[size_push'];exact Zb7 hlt)]
 exact Zae _ hb
namespace MP
end MP
end L2
namespace L2.MP
open PySem PySem.Spec PyProof.Rows
section
variable{K:PySem.W.Frag}{F G H:Hp}{S:Addr->Prop}{v:V}{p:PV}
theorem Rep.kZ:∀ {n:Nat}{v:V}{p:PV},Rep K F v p->MP.kZ n p=true->(∀ b ys,F b=some (.tup ys)->G b=some (.tup ys))->Rep K G v p
 |0,v,p,h,hs,g=>h.free hs
 |n+1,v,p,h,hs,g=>by
  cases h with
  |non=>exact .non
  |bl=>exact .bl
  |int=>exact .int
  |str=>exact .str
  |ty=>exact .ty
  |tup h hl hr=>exact .tup (g _ _ h) hl λj x p a b=>(hr j x p a b).kZ (n:=n) (Zaq.mp hs p (Zap b)) g
  |lst=>cases hs
  |dk=>cases hs
  |dt=>cases hs
  |exc=>cases hs
  |exc0=>cases hs
  |obj=>cases hs
theorem Dp.toG(d:Dp K F H S v p)(g:∀ b ys,F b=some (.tup ys)->G b=some (.tup ys)):Dp K G H S v p:=by
 induction d with
 |fr h st=>exact .fr (h.kZ st g) st
 |lst h hp hs dj hl _ ih=>exact .lst h hp hs dj hl ih
 |tup h hs dj hl _ ih=>exact .tup h hs dj hl ih
 |dk h hp hs dj hl _ ih=>exact .dk h hp hs dj hl ih
 |dt h hp hs dj hl _ ih=>exact .dt h hp hs dj hl ih
 |obj nm h hp hs dj hl _ ih=>exact .obj nm h hp hs dj hl ih
def PV.vA:PV->Bool
 |.lst l=>l.all PV.still
 |.dk l=>l.all λkv=>kv.2.still
 |.dt l=>l.all λkv=>kv.2.still
 |_=>false
theorem Own.dp{a:Addr}(w:Own K F H a p)(h:p.vA=true):Dp K F H (λb=>b=a) (.ref a) p:=by
 cases p with
 |lst l=>
  obtain⟨xs,e2,e3⟩:=w;exact .lst (S:=λ_ _=>False) e2 rfl (λj b q=>q.elim) (λi j b q=>q.elim) e3.1 λj x p e4 e5=>.fr (e3.2 j x p e4 e5) (Zaq.mp h p (Zap e5))
 |dk l=>
  obtain⟨xs,e2,e3,e4⟩:=w;exact .dk (S:=λ_ _=>False) e2 rfl (λj b q=>q.elim) (λi j b q=>q.elim) e3 λj x p e5 e6=>.fr (e4 j x p e5 e6) (Zaq.mp h p (Zap e6))
 |dt l=>
  obtain⟨xs,e2,e3,e4⟩:=w;exact .dt (S:=λ_ _=>False) e2 rfl (λj b q=>q.elim) (λi j b q=>q.elim) e3 λj x p e5 e6=>.fr (e4 j x p e5 e6) (Zaq.mp h p (Zap e6))
 |_=>cases h
end
open PySem PySem.Spec PyProof PyProof.Rows
def UJ(i j:Int):Prop:=i.natAbs<2^9000/\j.natAbs<2^9000
def UL(i j:Int):Bool:=decide (i.natAbs<2^9000/\j.natAbs<2^9000)
section
variable{K:PySem.W.Frag}{C:Cg}
theorem pW{X:Cx}:OpR X (binaryOp .Mult) (rI UJ λi j=>.int (i*j)):=_root_.L2.opI λ_ _ _ _ _ _ _ hc q=>mul_int q (PySem.IntMulOk.of_le (PyProof.Rows.intBits_le hc.1) (PyProof.Rows.intBits_le hc.2) (by decide))
def mK:=MP.opI UL λi j=>.int (i*j)
theorem uh:R2M C (aF K) (aF K) (aF K) (rI UJ λi j=>.int (i*j)) mK:=zj (λ_ _ h=>of_decide_eq_true (p:=_/\_) h) λ_ _ _=>.int
end
end L2.MP
namespace L2
open PySem PySem.Spec PyProof PyProof.Rows
open PySem PySem.W PyProof.Rows
def kIn{α:Type}(n:Nat)(P:α->Prop):KasT α->Prop
 |.ret a=>P a
 |.ask i j k=>i<n/\j<n/\∀ b,kIn n P (k b)
open PySem PySem.Spec PySem.W PyProof PyProof.Rows
open PySem PySem.Spec PySem.W PyProof PyProof.Rows
namespace MP
end MP
end L2
namespace L2.MP
open PySem PySem.Spec PyProof.Rows
end L2.MP
namespace L2
open PySem PySem.F PySem.Spec PyProof PyProof.Rows
namespace MP
end MP
open PySem PySem.Spec PyProof PyProof.Rows
section
variable{K:Type}[DecidableEq K]
theorem HJ{α β:Type}(f:α->β):∀ (l:List α) (j:Nat),(l.map f).eraseIdx j=(l.eraseIdx j).map f
 |[],_=>rfl
 |_::_,0=>rfl
 |x::l,j+1=>by rw[Zao,Zbx,Zbx,Zao,HJ f l j]
theorem Bl{V:Type}{k:K}{p:V}:∀ {xs:List (K×V)}{j:Nat},(xs.map (·.1)).Nodup->xs[j]?=some (k,p)->xs.eraseIdx j=xs.filter λx=>decide (x.1≠k)
 |[],j,_,e=>by simp at e
 |x::xs,0,nd,e=>by
  have e:x=(k,p):=by simpa using e
  subst e;rw[Zao,Zbk] at nd;rw[Za3,Zal (by simp),List.eraseIdx_cons_zero]
  symm
  apply ZbU.mpr
  intro y hy;exact ZaT λz=>nd.1 (z▸ZaN.mpr ⟨y,hy,rfl⟩)
 |x::xs,j+1,nd,e=>by
  rw[Zao,Zbk] at nd;have e:xs[j]?=some (k,p):=by simpa using e
  have hm:k∈xs.map (·.1):=ZaN.mpr ⟨(k,p),Zap e,rfl⟩;have hne:x.1≠k:=λz=>nd.1 (z▸hm);rw[Za3,Zag (ZaT hne),Zbx,Bl nd.2 e]
end
namespace MP
end MP
open PySem PySem.Spec PySem.W PyProof PyProof.Rows
namespace MP
end MP
end L2
namespace L2.MP
open PySem PySem.Spec PyProof.Rows
end L2.MP
namespace L2
open PySem PySem.Spec PyProof PyProof.Rows
namespace MP
end MP
end L2
namespace L2.MP
open PySem PySem.Spec PyProof.Rows
section
variable{K:PySem.W.Frag}{F H:Hp}{S:Addr->Prop}{v:V}{p:PV}
theorem Dp.Bm{l:List (Key×PV)}(d:Dp K F H S v (.dk l)):∃ (T:Nat->Addr->Prop) (a:Addr) (xs:List (Key×V)),v=.ref a/\H a=some (.dK xs)/\S a/\(∀ j b,T j b->S b/\b≠a)/\(∀ i j b,T i b->T j b->i=j)/\xs.map (·.1)=l.map (·.1)/\∀ (j:Nat) x p,xs[j]?=some x->l[j]?=some p->Dp K F H (T j) x.2 p.2:=by
 cases d with
 |fr r st=>cases st
 |dk h hp hs dj hl hr=>exact⟨_,_,_,rfl,h,hp,hs,dj,hl,hr⟩
end
section
variable{κ:Type}[DecidableEq κ]
def ul:List (κ×PV)->κ->PV->List (κ×PV)
 |[],k,p=>[(k,p)]
 |(a,q)::l,k,p=>if a=k then(a,p)::l else(a,q)::ul l k p
theorem zy{k:κ}{q:PV}:∀ {xs:List (κ×V)}{l:List (κ×PV)},xs.map (·.1)=l.map (·.1)->eO l k=some q->∃ (j:Nat) (v:V),l[j]?=some (k,q)/\xs[j]?=some (k,v)/\mG xs k=some v/\∀ p,ul l k p=l.set j (k,p)
 |[],[],_,e=>by cases e
 |[],_::_,h,_=>by simp at h
 |_::_,[],h,_=>by simp at h
 |(a,v)::xs,(b,r)::l,h,e=>by
  simp only[Zao,Zbn] at h;obtain⟨h1,h2⟩:=h;have h1:a=b:=h1;subst h1;by_cases hk:a=k
  ·subst hk;unfold eO at e;rw[Zag rfl] at e;cases e;exact⟨0,v,rfl,rfl,lF rfl,λp=>by unfold ul;rw[Zag rfl];rfl⟩
  ·unfold eO at e;rw[Zal hk] at e;obtain⟨j,w,e1,e2,e3,e4⟩:=zy h2 e;exact⟨j+1,w,by simpa using e1,by simpa using e2,by rw[iV hk];exact e3,λp=>by rw[ul,Zal hk,e4];rfl⟩
theorem Em{k:κ}:∀ {xs:List (κ×V)}{l:List (κ×PV)},xs.map (·.1)=l.map (·.1)->eO l k=none->mG xs k=none/\∀ p,ul l k p=l++[(k,p)]
 |[],[],_,_=>⟨rfl,λ_=>rfl⟩
 |[],_::_,h,_=>by simp at h
 |_::_,[],h,_=>by simp at h
 |(a,v)::xs,(b,r)::l,h,e=>by
  simp only[Zao,Zbn] at h;obtain⟨h1,h2⟩:=h;have h1:a=b:=h1;subst h1;by_cases hk:a=k
  ·unfold eO at e;rw[Zag hk] at e;cases e
  ·unfold eO at e;rw[Zal hk] at e;obtain⟨e1,e2⟩:=Em h2 e;exact⟨by rw[iV hk];exact e1,λp=>by rw[ul,Zal hk,e2];rfl⟩
end
def zz(fe:Fn PV):Fn PV:=λρ=>bnd (fe ρ) λp=>if p.vA=true then some (.ok p) else none
theorem wK{K:PySem.W.Frag}{C:Cg}{te:TE}{fe:Fn PV}(h:MO K C te fe):MD K C te (zz fe):=by
 intro F H σ ρ Q r R e P;rcases aX e with⟨z,e1,rfl⟩|⟨p,e1,hk⟩
 ·exact h F H σ ρ Q _ R e1 P
 ·split at hk
  ·rename_i hp;cases hk;refine h F H σ ρ Q _ R e1 λa F' H' u n1 n2 w=>P _ F' H' (λb=>b=a) u (w.dp hp) ?_;rintro b rfl;obtain⟨ob,eo⟩:=w.ne;exact⟨n1,n2,ob,eo,λys q=>by subst q;exact w.uM eo⟩
  ·cases hk
end L2.MP
namespace L2.TS
open PySem PySem.Spec PyProof.Rows
section
variable{r:Keyed->Nat}{la lb out:List Keyed}{ia ib:Nat}
def Srt(r:Keyed->Nat)(l:List Keyed):Prop:=l.Pairwise λx y=>r x<r y
structure Mg(r:Keyed->Nat)(la lb out:List Keyed)(ia ib:Nat):Prop where
 so:Srt r out
 lt:∀ o∈out,∀ z∈la.drop ia++lb.drop ib,r o<r z
 pm:out.Perm (la.take ia++lb.take ib)
end
section
variable{r:Keyed->Nat}{a b:Array Keyed}
def Good(r:Keyed->Nat)(a b out:Array Keyed):Prop:=Srt r out.toList/\out.toList.Perm (a.toList++b.toList)
structure In(r:Keyed->Nat)(a b out:Array Keyed)(ia ib:Nat):Prop where
 mg:Mg r a.toList b.toList out.toList ia ib
 ha:ia+1<a.size
 hb:ib<b.size
end
noncomputable abbrev T7:=Option (Array Keyed)×Nat×Nat×Array Keyed×Nat×Nat×Nat
noncomputable abbrev T6:=Option (Array Keyed)×Nat×Nat×Array Keyed×Nat×Nat
noncomputable abbrev T5:=Option (Array Keyed)×Nat×Nat×Array Keyed×Nat
section
variable{r:Keyed->Nat}{la lb out:List Keyed}{na nb:Nat}
structure Mh(r:Keyed->Nat)(la lb out:List Keyed)(na nb:Nat):Prop where
 so:Srt r out.reverse
 lt:∀ o∈out,∀ z∈la.take na++lb.take nb,r z<r o
 pm:out.Perm (la.drop na++lb.drop nb)
end
section
variable{r:Keyed->Nat}{a b:Array Keyed}
structure Ih(r:Keyed->Nat)(a b out:Array Keyed)(na nb:Nat):Prop where
 mh:Mh r a.toList b.toList out.toList na nb
 a0:1<=na
 a1:na<=a.size
 b0:2<=nb
 b1:nb<=b.size
def H7(r:Keyed->Nat)(a b:Array Keyed)(n:Nat):ForInStep T7->Prop
 |.done (some o,_)=>Good r a b o
 |.done (none,na,nb,out,_)=>Ih r a b out na nb/\na+nb<=n
 |.yield (none,na,nb,out,_)=>Ih r a b out na nb/\na+nb<=n
 |.yield (some _,_)=>False
def H6(r:Keyed->Nat)(a b:Array Keyed)(n:Nat):ForInStep T6->Prop
 |.done (some o,_)=>Good r a b o
 |.done (none,na,nb,out,_)=>Ih r a b out na nb/\na+nb<=n
 |.yield (none,na,nb,out,_)=>Ih r a b out na nb/\na+nb<=n
 |.yield (some _,_)=>False
def H5(r:Keyed->Nat)(a b:Array Keyed)(n:Nat):ForInStep T5->Prop
 |.done (some o,_)=>Good r a b o
 |.done (none,_)=>False
 |.yield (none,na,nb,out,_)=>Ih r a b out na nb/\na+nb<=n
 |.yield (some _,_)=>False
end
def Rk(r:Keyed->Nat)(a:Array Keyed)(k:Nat):Nat:=match a[k]? with
 |some x=>r x
 |none=>0
def Yk(r:Keyed->Nat)(a:Array Keyed)(i j:Nat):Prop:=∀ p q,i<=p->p<q->q<j->Rk r a p<Rk r a q
noncomputable abbrev Pd:=Nat×Nat×Nat
def Rn(r:Keyed->Nat)(a:Array Keyed):Nat->List Pd->Nat->Prop
 |s,[],e=>s=e
 |s,x::l,e=>x.1=s/\1<=x.2.1/\Yk r a s (s+x.2.1)/\Rn r a (s+x.2.1) l e
end L2.TS
namespace L2
open PySem PySem.Spec PyProof PyProof.Rows
namespace MP
end MP
open PySem PySem.Spec PySem.W PyProof PyProof.Rows
noncomputable abbrev Sk:=Str×List Int
open PySem PySem.Spec PySem.W PyProof PyProof.Rows
open PySem PySem.Spec PySem.W PyProof PyProof.Rows
end L2
namespace L2.MP
open PySem PySem.Spec PySem.W PyProof PyProof.Rows
end L2.MP
namespace L2
open PySem PySem.Spec PyProof PyProof.Rows
namespace MP
end MP
namespace MP
end MP
namespace MP
end MP
end L2
namespace L2.MP
section
variable{α:Type}{us:List α}
theorem len0(h:us.length=0):us=[]:=List.length_eq_zero_iff.mp h
theorem Sv{n:Nat}(h:us.length=n+1):∃ a vs,us=a::vs/\vs.length=n:=by
 cases us with
 |nil=>cases h
 |cons a vs=>exact⟨a,vs,rfl,Nat.succ.inj h⟩
theorem Xq(h:us.length=1):∃ a,us=[a]:=by
 obtain⟨a,vs,rfl,h2⟩:=Sv h;cases len0 h2;exact⟨a,rfl⟩
theorem Xr(h:us.length=2):∃ a b,us=[a,b]:=by
 obtain⟨a,vs,rfl,h2⟩:=Sv h;obtain⟨b,rfl⟩:=Xq h2;exact⟨a,b,rfl⟩
theorem Xu(h:us.length=3):∃ a b c,us=[a,b,c]:=by
 obtain⟨a,vs,rfl,h2⟩:=Sv h;obtain⟨b,c,rfl⟩:=Xr h2;exact⟨a,b,c,rfl⟩
theorem Yl(h:us.length=4):∃ a b c d,us=[a,b,c,d]:=by
 obtain⟨a,vs,rfl,h2⟩:=Sv h;obtain⟨b,c,d,rfl⟩:=Xu h2;exact⟨a,b,c,d,rfl⟩
end
end L2.MP
namespace L2
open PySem PySem.Spec PyProof PyProof.Rows
end L2
namespace L2.MP
open PySem PySem.Spec PyProof PyProof.Rows
end L2.MP
namespace L2.SE
open PySem
def Inc(xs:Array Nat):Prop:=xs.toList.Pairwise (·<·)
structure Good(b:Bool)(t:SetTable):Prop where
 led:t.led=b
 dum:t.dummies=#[]
 inc:Inc t.place
open PySem PySem.Spec PyProof PyProof.Rows
section
variable{prog:Program}{w:World}{K:Type}[DecidableEq K](knd:KeyKind prog w K)
def Apart(l:List (Int×Value)):Prop:=l.Pairwise λe f=>∀ k,knd.is k e.2=true->knd.is k f.2=true->False
variable{knd}
end
open PySem PySem.Spec PyProof PyProof.Rows
def byT(w:World):Bool:=w.params.followText "set-order"
noncomputable abbrev Ym(b:Bool):Obj:={ cls:=.type "set",dict:=none,data:=.set #[] 0 (.fresh 0 0 b) }
section
variable{prog:Program}{w:World}{K:Type}[DecidableEq K]{A:Around}{E:Value->Shared->Prop}{s:Shared}
def seen(key:Nat->K)(i:Nat):K->Bool:=λk=>(List.range i).any λj=>decide (k=key j)
theorem HN(x:Value){Q:Value->Shared->Prop}(h:Q (.ref s.heap.objs.size) { s with heap:=s.heap.push (Ym (!byT w)) }) :
  codeAny (model prog w) A (.call (.builtin "set.__new__") ⟨[.type "set",x],[]⟩) (wants Q E) s:=by
 refine codeAny_of_tree ?_;show wpAny _ A.in1 (checkBuiltinCall "set.__new__" ⟨[.type "set",x],[]⟩>>=λ_=>again (.builtin "set.__new__" ⟨[.type "set",x],[]⟩)) _ _ s
 refine Zai (wpAny_of_eq (F.newCall_set_1 x) (Zay ⟨plainId_quiet F.plain_set_new _,codeAny_builtin F.entry_set_new ?_⟩));rw[Around.under_plainId F.plain_set_new _];unfold Builtin.«set.__new__» Builtin.Frozenset.newClass;have hs:=sub_set_self;obtain⟨hp,g,d,tk,os⟩:=s;dsimp only at h ⊢
 wp_walk
 refine wpAny_askSetting (Zay ?_);dsimp only;simp only[newObj];exact Zai (wpAny_alloc (Zay (Zay h)))
end
open PySem PySem.Spec PyProof PyProof.Rows
def It(h:Heap)(I:Addr)(f:Value)(i:Nat)(a:Addr)(n ep:Nat):Prop:=∃ o,h.get? I=some o/\o.cls=.type "set_iterator"/\o.data=.fields #[f,.int i 0,.ref a,.int n 0,.int ep 0]
open PySem PySem.Spec PyProof PyProof.Rows
open PySem PySem.Spec PyProof PyProof.Rows
open PySem PySem.Spec PyProof PyProof.Rows
def slots(t:SetTable):Nat->Nat
 |0=>0
 |i+1=>t.place.getD i 0+1
end L2.SE
namespace L2
open PySem PySem.Spec PyProof PyProof.Rows
def dd:List Int->List Int
 |[]=>[]
 |x::l=>if x∈l then dd l else x::dd l
namespace MP
end MP
namespace MP
end MP
end L2
namespace L2.MP
open PySem PySem.Spec PyProof.Rows
open PySem PySem.Spec PyProof PyProof.Rows
open PySem PySem.Spec PyProof PyProof.Rows
open PySem PySem.Spec PyProof PyProof.Rows
end L2.MP
namespace L2
open PySem PySem.Spec PyProof PyProof.Rows
def leT(a b:Str):Bool:=!decide (b.cps.toList<a.cps.toList)
theorem mL{a b:Str}:leT a b=true↔a.cps.toList<=b.cps.toList:=by
 unfold leT;rw[Bool.not_eq_true',decide_eq_false_iff_not,List.not_lt]
theorem zA(a b c:Str)(h1:leT a b=true)(h2:leT b c=true):leT a c=true:=mL.mpr (List.le_trans (mL.mp h1) (mL.mp h2))
theorem Lj(a b:Str):(leT a b||leT b a)=true:=by
 rw[Bool.or_eq_true,mL,mL];exact List.le_total _ _
theorem Py{a b:Str}(h1:leT a b=true)(h2:leT b a=true):a=b:=by
 have e:=List.le_antisymm (mL.mp h1) (mL.mp h2);cases a;cases b;simp only[Str.mk.injEq];exact Array.toList_inj.mp e
def oM(l:List Str):List Str:=l.mergeSort leT
theorem um(l:List Str):(oM l).Perm l:=List.mergeSort_perm _ _
theorem En(l:List Str):(oM l).Pairwise λa b=>leT a b=true:=List.pairwise_mergeSort zA Lj l
theorem zB:∀ (p:Str) (l:List Str),risingS p l=true->(p::l).Pairwise λa b=>leT a b=true
 |p,[],_=>List.pairwise_singleton _ _
 |p,x::r,h=>by
  have h:(!ltCps x.cps.toList p.cps.toList&&risingS x r)=true:=h;rw[Za6,ltCps_eq] at h;have ih:=zB x r h.2;refine List.pairwise_cons.mpr ⟨λy hy=>?_,ih⟩;rcases ZaJ.mp hy with rfl|hy
  ·exact h.1
  ·exact zA _ _ _ h.1 ((List.pairwise_cons.mp ih).1 y hy)
theorem HQ:∀ {l:List Str},sortedS l=true->l.Pairwise λa b=>leT a b=true
 |[],_=>.nil
 |x::r,h=>zB x r h
theorem Bo{l m:List Str}(p:l.Perm m)(h:sortedS l=true):l=oM m:=
 List.Perm.eq_of_pairwise (le:=λa b=>leT a b=true) (λ_ _ _ _ h1 h2=>Py h1 h2) (HQ h) (En m) (p.trans (um m).symm)
theorem sE:∀ {vs:List Value}{ss:List Str},StrsAre vs ss->Vals (ss.map V.str) vs
 |_,_,.nil=>.nil
 |_,_,.cons y t h=>.cons ⟨t,rfl⟩ (sE h)
section
variable{prog:Program}{w:World}{A:Around}{E:Value->Shared->Prop}{s:Shared}
theorem wL{a:Addr}{vs:List Value}{ss:List Str}{n:Nat}{P:PySem.Fin->Shared->Prop}(ho:s.heap.get? a=some (seqObj "list" vs.toArray n))(hS:StrsAre vs ss)(h64:vs.length<64)
  (h:∀ (out:Array Value) (ss':List Str),StrsAre out.toList ss'->ss'.Perm ss->sortedS ss'=true->P (.done (.ret .none)) { s with heap:=sortedHeap s.heap a vs out }):wpAny (model prog w) A (Builtin.«list.sort» ⟨[.ref a],[]⟩) P E s:=by
 refine list_sort_treeK strKind_oneLt ho hS.keysOf (λv₁ v₂ rest e=>keyKind_strs (by rw[<-e];exact hS)) h64 λst' hp hs=>?_
 obtain⟨ss',h1,h2,h3⟩:=sorted_out_str hS hp hs;exact h _ ss' h1 h2 h3
end
def oN:List Key->Option (List Str)
 |[]=>some []
 |.inr n::ks=>(oN ks).map (n::·)
 |.inl _::_=>none
theorem sG:∀ {ks:List Key}{ns:List Str},oN ks=some ns->ns.length=ks.length
 |[],ns,e=>by cases e;rfl
 |.inr n::ks,ns,e=>by
  simp only[oN,ZaD] at e;obtain⟨ms,e,rfl⟩:=e;simp[sG e]
 |.inl _::_,ns,e=>by cases e
theorem sI{P:Program}{w:World}:∀ {ks:List Key}{ns:List Str}{vs:List Value},oN ks=some ns->vs.length=ks.length->(∀ (j:Nat) v,vs[j]?=some v->∃ k,ks[j]?=some k/\(cF P w).is k v=true)->StrsAre vs ns
 |[],ns,vs,e,hl,h=>by
  cases e;cases vs with
  |nil=>exact .nil
  |cons v vs=>cases hl
 |.inr n::ks,ns,vs,e,hl,h=>by
  simp only[oN,ZaD] at e;obtain⟨ms,e,rfl⟩:=e;cases vs with
  |nil=>cases hl
  |cons v vs=>
   obtain⟨k,e0,hk⟩:=h 0 v rfl;cases e0;obtain⟨t,rfl⟩:RelV (kV (.inr n)) v:=Su hk;exact .cons n t (sI (P:=P) (w:=w) e (by simpa using hl) λj v hv=>h (j+1) v hv)
 |.inl _::_,ns,vs,e,hl,h=>by cases e
def JN:List V->Hp->VK->Prop:=λxs H Q=>∃ p kvs ns,xs=[.ref p]/\Rd H p (.dK kvs)/\oN (kvs.map (·.1))=some ns/\ns.length<64/\∀ l,H l=none->Q (.ref l) (upd H l (.lst ((oM ns).map V.str)))
section
variable{X:Cx}
theorem dY(hc:X.calm=true):m8 X (.builtin "sorted") JN:=by
 intro pins s σ H xs us Q I rv h;obtain⟨p,kvs,ns,rfl,e,hk,h64,q⟩:=h;obtain⟨u,rfl,ru⟩:=rv.one;cases ru;obtain⟨z,hd,vs,rel,dd⟩:=rM I.hok e;obtain⟨o,es,ep,d1,d2,d3,d4⟩:=dd;have hl:=rel.length;have hn:ns.length=kvs.length:=by have:=sG hk;simpa using this
 refine Calls.call_function_entry kind_sorted plain_sorted entry_sorted (args_sorted1 _) ?_;unfold Builtin.«sorted»;refine Zai (m:=checkCount "sorted" 1 1 _) (Zay ?_);refine Zai (PySem.W.kdu_collect (PySem.W.kdl_dict (knd:=cF X.prog X.w) (kvs:=vs) (ep:=ep) hd) (I.ok.hd hc) ⟨o,es,d1,d2,d3,d4⟩ (by omega) λh' tk acc hold hacc=>?_)
 have hla:acc.toList.length=vs.length:=by rw[Zbc];exact hacc.1
 have hia:StrsAre acc.toList ns:=sI (P:=X.prog) (w:=X.w) hk (by rw[hla,Zac,hl]) λj v hv=>by
  obtain⟨k,x,q1,q2⟩:=hacc.2 j v (by rw[<-ZbE];exact hv)
  refine⟨k,?_,q2⟩;rw[rel.keys,Zaf,q1];rfl
 refine Zai (wpAny_newList ?_ (by rw[hla];omega))
 have hoL:(h'.push (seqObj "list" acc.toList.toArray 0)).get? h'.objs.size=some (seqObj "list" acc.toList.toArray 0):=Zat _ rfl;show wpAny _ _ _ _ _ { s with heap:=h'.push (seqObj "list" acc.toList.toArray 0),toks:=tk }
 refine Zai (wpAny_holding (wpAny_call_entry slot_list_sort ⟨_,hoL,rfl⟩ entry_list_sort (wL hoL hia (by omega) λout ns' a1 a2 a3=>⟨_,rfl,?_⟩) (args_list_sort _)))
 refine Zay ⟨_,rfl,?_⟩;obtain⟨e',he⟩:=sortedHeap_at (out:=out) hoL;have en:ns'=oM ns:=Bo a2 a3;subst en;have I1:Inv X pins σ H { s with heap:=h',toks:=tk }:=I.kept hold;have fresh:H h'.objs.size=none:=I1.hok.fresh (Zah _);refine⟨.ref h'.objs.size,upd H h'.objs.size (.lst ((oM ns).map V.str)),I1.laid (t':=tk) (λb o=>Bk) (Zah _) ⟨?_,out.toList,e',sE a1,by rw[Array.toArray_toList];exact he⟩,rfl,q _ fresh⟩
 rw[Zac,(um ns).length_eq];exact ZaE (ZaZ h64) (by decide)
end
namespace MP
theorem bw.JP{K:PySem.W.Frag}{F:Hp}:∀ ns:List Str,bw K F (ns.map V.str) (ns.map PV.str)
 |[]=>.nil
 |n::ns=>(bw.JP ns).cons .str
def ie:PV->Option (Res PV)
 |.dk l=>match oN (l.map (·.1)) with
  |some ns=>if ns.length<64 then some (.ok (.lst ((oM ns).map .str))) else none
  |none=>none
 |_=>none
section
variable{K:PySem.W.Frag}{C:Cg}{P:Program}
theorem lL:R1O K C (aD K) JN ie:=by
 intro F H x a res Q s ha e P
 match a,e with
 |.dk l,e=>
  obtain⟨_,ad,rfl,xs,h1,h2,h3⟩:=ha;replace e:(match oN (l.map (·.1)) with
   |some ns=>if ns.length<64 then some (Res.ok (PV.lst ((oM ns).map .str))) else none
   |none=>none)=some res:=e
  cases h:oN (l.map (·.1)) with
  |none=>rw[h] at e;cases e
  |some ns=>
   rw[h] at e;have e:(if ns.length<64 then some (Res.ok (PV.lst ((oM ns).map .str))) else none)=some res:=e;split at e
   ·rename_i h64;cases e;exact⟨ad,xs,ns,rfl,h1,by rw[h2];exact h,h64,λl' hl=>P l' F _ (Up.yj s hl) hl (s.free hl) ⟨_,aN,bw.JP _⟩⟩
   ·cases e
end
end MP
namespace MP
end MP
end L2
namespace L2.MP
open PySem PySem.Spec PyProof.Rows
structure yo(X:Cx)(pins:List (Addr×Obj))(b:Addr):Prop where
 sz:X.s₀.heap.objs.size<=b
 loc:b≠X.env.locals
 cl:∀ x c,X.env.cells.lookup x=some c->c≠b
 pn:∀ p∈X.pn++pins,p.1≠b
structure Fly(X:Cx)(pins:List (Addr×Obj))(H:Hp)(h:Heap)(e:Addr)(C:Value)(d:Option Addr):Prop where
 own:yo X pins e
 nh:H e=none
 ob:∃ oe vs,h.get? e=some oe/\oe.cls=C/\oe.dict=d/\oe.slots=#[]/\oe.data=.fields vs/\1<vs.size /\
  (vs[1]?=some .none\/∃ T oT ts,vs[1]?=some (.ref T)/\T≠e/\yo X pins T/\H T=none/\h.get? T=some oT/\oT.data=.fields ts/\3<ts.size)
def UT(h:Heap)(e:Addr):Prop:=∃ oe vs T,h.get? e=some oe/\oe.data=.fields vs/\vs[1]?=some (.ref T)
section
variable{X:Cx}{pins:List (Addr×Obj)}{σ:St}{H:Hp}{s:Shared}{e:Addr}{C:Value}{d:Option Addr}
theorem sJ(I:Inv X pins σ H s){b:Addr}(h:s.heap.objs.size<=b):yo X pins b where
 sz:=ZaE I.sz h
 loc:=λz=>by have:=I.lt;rw[<-z] at this;exact absurd (Zan this h) (Za1 _)
 cl:=λx c q z=>by
  obtain⟨v,o,ho,_⟩:=I.cell x c q;have:=Zak ho;rw[z] at this;exact absurd (Zan this h) (Za1 _)
 pn:=λp hp z=>by
  have:=Zak (I.pin p hp).1;rw[z] at this;exact absurd (Zan this h) (Za1 _)
theorem yo.ch(m:yo X pins e):(e∈X.ex\/X.s₀.heap.objs.size<=e)/\e≠X.env.locals/\(∀ x c,X.env.cells.lookup x=some c->c≠e)/\∀ p∈X.pn++pins,p.1≠e:=⟨.inr m.sz,m.loc,m.cl,m.pn⟩
theorem yo.Vb(I:Inv X pins σ H s)(m:yo X pins e):e ∉ frs X.stack:=λhb=>by
 rcases ZaJ.mp (I.z9 e hb) with z|z
 ·exact m.loc z
 ·obtain⟨_,o,ho,_⟩:=I.ok.qM.mem z;exact absurd (Zan (Zak ho) m.sz) (Za1 _)
theorem Inv.Xv(I:Inv X pins σ H s){h':Heap}(m:yo X pins e)(nh:H e=none)(k:∀ b o,b≠e->s.heap.get? b=some o->h'.get? b=some o):Inv X pins σ H { s with heap:=h' }:=by
 refine I.call (g':=s.gens) (d':=s.drawn) (t':=s.toks) (ch:=[e]) ⟨λb o q _ _ hc=>k b o (λz=>hc (by simp[z])) q,λb o q _ _ hc=>⟨o.slots,k b o (λz=>hc (by simp[z])) q⟩,λ_ _ _ n _=>n,λb o q hc=>⟨o,k b o (λz=>hc (by simp[z])) q⟩,λ_ _ q=>q,λ_ _ _ q=>q,λb ps q=>⟨#[],by rw[q];simp⟩⟩ ?_ I.bare λb hb=>?_
 ·intro b u q;refine(I.hok b u q).stay (λc v hc z=>k c v ?_ z) (λ_ z=>z) λ_ _ z=>z;rcases hc with z|z
  ·rw[z];intro y;rw[y,nh] at q;cases q
  ·intro y;rw[y,nh] at z;cases z
 ·obtain rfl:b=e:=by simpa using hb
  exact m.ch
variable{M:Model}{E':Value->Shared->Prop}
theorem zE{Q:Unit->Shared->Prop}{head:Value}{hadNext:Bool}(I:Inv X pins σ H s)(hs:X.stack=X.env::X.outer)(hf:X.env.frame=some X.env.locals)(m:yo X pins e)(nh:H e=none)
  {oe:Obj}{vs:Array Value}(he:s.heap.get? e=some oe)(hc:oe.cls=C)(hdd:oe.dict=d)(hsl:oe.slots=#[])(hd:oe.data=.fields vs)(hsz:1<vs.size)
  (k:∀ s',Inv X pins σ H s'->Fly X pins H s'.heap e C d->UT s'.heap e->Q () s') :
  wpAny M X.A (do let a <-frameOf X.env;let pl <-entryPlaceOf X.env.locals hadNext;let b <-EntryCells.newEntry head a .none (rawInt X.env.locals) .none pl;setField (.ref e) 1 b) Q E' s:=by
 have hfr:X.A.frames=some (X.env::X.outer):=by rw[<-hs];exact I.ok.frames
 have hl:s.heap.FunFrames X.base (X.env::X.outer):=by rw[<-hs];exact I.stack
 have hfe:(X.env::X.outer).filterMap (·.frame)=frs X.stack:=by rw[hs];rfl
 refine Zai (wpAny_frameOf_fun hfr hl hf λh₁ hs₁=>?_);rw[hfe] at hs₁;refine Zai (wpAny_entryPlaceOf λpl hpl=>?_);unfold EntryCells.newEntry newFields;refine Zai (wpAny_newObj_type ?_ (hpl.sizeOk5 _ _ _ _ _));have nf:=m.Vb I;have he₁:h₁.get? e=some oe:=(hs₁.2.1 e nf).trans he;have he₂:=Zae (h:=h₁) { cls:=.type "traceback",dict:=none,data:=.fields ([head,.ref X.env.locals,.none,rawInt X.env.locals,.none]++(if pl.isEmpty then List.replicate 6 Value.none else pl)).toArray } he₁;refine wpAny_setField he₂ hd hsz ?_;have hTe:h₁.objs.size≠e:=ZbD (Zak he₁);have hd₃:=Obj.data_mapFields hd (·.setIfInBounds 1 (Value.ref h₁.objs.size));have he₃:=Zbl (Obj.mapFields (·.setIfInBounds 1 (Value.ref h₁.objs.size))) he₂ (Obj.isFreed_of_fields hd₃);have hT₃:=(ZaR (h₁.push { cls:=.type "traceback",dict:=none,data:=.fields ([head,.ref X.env.locals,.none,rawInt X.env.locals,.none]++(if pl.isEmpty then List.replicate 6 Value.none else pl)).toArray })
  (Obj.mapFields (·.setIfInBounds 1 (Value.ref h₁.objs.size))) (Za0 hTe)).trans (Zat h₁ rfl)
 have keep:∀ b o,b≠e->h₁.get? b=some o->((h₁.push { cls:=.type "traceback",dict:=none,data:=.fields ([head,.ref X.env.locals,.none,rawInt X.env.locals,.none]++(if pl.isEmpty then List.replicate 6 Value.none else pl)).toArray }).update e (Obj.mapFields (·.setIfInBounds 1 (Value.ref h₁.objs.size)))).get? b=some o:=λb o hbe hb=>by
  rw[ZaR _ _ (Za0 hbe)];exact Zae _ hb
 have J:∀ h':Heap,(∀ b o,b≠e->h₁.get? b=some o->h'.get? b=some o)->Inv X pins σ H { s with heap:=h' }:=λh' keep=>by
  refine I.call (g':=s.gens) (d':=s.drawn) (t':=s.toks) (ch:=[e]) ⟨λb o q _ hb hc=>keep b o (λz=>hc (by simp[z])) ((hs₁.2.1 b hb).trans q),λb o q _ _ hc=>?_,λ_ _ _ n _=>n,λb o q hc=>?_,λ_ _ q=>q,λ_ _ _ q=>q,λb ps q=>⟨#[],by rw[q];simp⟩⟩ ?_ I.bare λb hb=>?_
  ·obtain⟨sl,z⟩:=hs₁.2.2 b o q;exact⟨sl,keep b _ (λz=>hc (by simp[z])) z⟩
  ·obtain⟨sl,z⟩:=hs₁.2.2 b o q;exact⟨_,keep b _ (λz=>hc (by simp[z])) z⟩
  ·intro b u q;refine(I.hok b u q).stay (λc v hc z=>keep c v ?_ ((hs₁.2.1 c ?_).trans z)) (λ_ z=>z) λ_ _ z=>z
   ·rcases hc with y|y
    ·rw[y];intro y;rw[y,nh] at q;cases q
    ·intro z;rw[z,nh] at y;cases y
   ·intro hm;have n:=I.Aa c hm;rcases hc with y|y
    ·rw[<-y,n] at q;cases q
    ·rw[n] at y;cases y
  ·obtain rfl:b=e:=by simpa using hb
   exact m.ch
 have mT:yo X pins h₁.objs.size:=sJ I (by rw[hs₁.1];exact Zah _)
 have nT:H h₁.objs.size=none:=I.hok.fresh (by rw[hs₁.1];exact Zah _)
 refine k _ ?_ ⟨m,nh,_,_,he₃,?_,?_,?_,hd₃,by simpa using hsz,.inr ⟨h₁.objs.size,_,_,by simp[hsz],hTe,mT,nT,hT₃,rfl,?_⟩⟩ ⟨_,_,h₁.objs.size,he₃,hd₃,by simp[hsz]⟩
 ·exact J _ keep
 ·rw[Obj.cls_mapFields];exact hc
 ·obtain⟨c,dd,dt,sl⟩:=oe;cases dt<;>first|exact hdd|cases hd
 ·obtain⟨c,dd,dt,sl⟩:=oe;cases dt<;>first|exact hsl|cases hd
 ·simp only[List.size_toArray,Zau,ZaB,List.length_nil];omega
theorem Eo{Q:Unit->Shared->Prop}(I:Inv X pins σ H s)(hs:X.stack=X.env::X.outer)(hf:X.env.frame=some X.env.locals)(fl:Fly X pins H s.heap e C d)
  (k:∀ s',Inv X pins σ H s'->Fly X pins H s'.heap e C d->UT s'.heap e->Q () s'):wpAny M X.A (noteFrame (.ref e) X.env) Q E' s:=by
 obtain⟨m,nh,oe,vs,he,hc,hdd,hsl,hd,hsz,h1⟩:=id fl;unfold noteFrame;simp only[hf];rcases h1 with h1|⟨T,oT,ts,h1,hTe,mT,nT,hT,hdT,h3⟩
 ·refine Zai (wpAny_field he hd h1 ?_);rw[Zal (by decide)]
  exact zE I hs hf m nh he hc hdd hsl hd hsz k
 ·refine Zai (wpAny_field he hd h1 ?_);rw[Zag (show(Value.ref T != Value.none)=true from by simp)]
  have h3':ts[3]?=some ts[3]:=by simp[h3]
  refine Zai (wpAny_field hT hdT h3' ?_);by_cases hz:(ts[3]==rawInt X.env.locals)=true
  ·rw[Zag hz];exact Zay (k s I fl ⟨oe,vs,T,he,hd,h1⟩)
  ·rw[Zal hz];refine Zai (wpAny_setField hT hdT h3 ?_);have other:∀ b,b≠T->(s.heap.update T (Obj.mapFields (·.setIfInBounds 3 Value.none))).get? b=s.heap.get? b:=λb hb=>ZaR _ _ (Za0 hb);have I1:=Inv.Xv I mT nT (h':=s.heap.update T (Obj.mapFields (·.setIfInBounds 3 Value.none))) λb o hb q=>(other b hb).trans q;exact zE I1 hs hf m nh ((other e (Za0 hTe)).trans he) hc hdd hsl hd hsz k
theorem qU{Q:Unit->Shared->Prop}{fr:Option Addr}(I:Inv X pins σ H s)(fl:Fly X pins H s.heap e C d)
  (k:∀ s',Inv X pins σ H s'->Fly X pins H s'.heap e C d->Q () s'){A:Around}:wpAny M A (setFlight (.ref e) fr) Q E' s:=by
 obtain⟨m,nh,oe,vs,he,hc,hdd,hsl,hd,hsz,h1⟩:=id fl;unfold setFlight;rcases h1 with h1|⟨T,oT,ts,h1,hTe,mT,nT,hT,hdT,h3⟩
 ·refine Zai (wpAny_field he hd h1 ?_);rw[Zal (by decide)]
  exact Zay (k s I fl)
 ·refine Zai (wpAny_field he hd h1 ?_);rw[Zag (show(Value.ref T != Value.none)=true from by simp)]
  refine wpAny_setField hT hdT h3 ?_;have hd₃:=Obj.data_mapFields hdT (·.setIfInBounds 3 (fr.elim Value.none λf=>rawInt f));have other:∀ b,b≠T->(s.heap.update T (Obj.mapFields (·.setIfInBounds 3 (fr.elim Value.none λf=>rawInt f)))).get? b=s.heap.get? b:=λb hb=>ZaR _ _ (Za0 hb);refine k _ (Inv.Xv I mT nT λb o hb q=>(other b hb).trans q) ⟨m,nh,oe,vs,(other e (Za0 hTe)).trans he,hc,hdd,hsl,hd,hsz,.inr ⟨T,_,_,h1,hTe,mT,nT,Zbl _ hT (Obj.isFreed_of_fields hd₃),hd₃,by simpa using h3⟩⟩
end
def FlS(X:Cx)(pins:List (Addr×Obj))(σ:St)(E:XK)(ev:Value)(s':Shared):Prop:=∃ e C d H',ev=.ref e/\Inv X pins σ H' s'/\Fly X pins H' s'.heap e C d/\E C d H'
def FlX(X:Cx)(E:XK)(ev:Value)(s':Shared):Prop:=∃ pins σ,FlS X pins σ E ev s'
structure Yn(n:Nat)(H:Hp)(h:Heap)(e:Addr)(C:Value)(d:Option Addr):Prop where
 sz:n<=e
 nh:H e=none
 ob:∃ oe vs,h.get? e=some oe/\oe.cls=C/\oe.dict=d/\oe.slots=#[]/\oe.data=.fields vs/\1<vs.size /\
  (vs[1]?=some .none\/∃ T oT ts,vs[1]?=some (.ref T)/\T≠e/\n<=T/\H T=none/\h.get? T=some oT/\oT.data=.fields ts/\3<ts.size)
def CXS(P:Program)(w:World):CXT:=λouter H s E ev s'=>∃ e C d H',ev=.ref e/\s'.os=s.os/\AllBare s'.gens/\Un (frs outer) [] H H' s.heap s'.heap/\HOk P w H' s'.heap/\Yn s.heap.objs.size H' s'.heap e C d/\E C d H'
theorem CXS.no{P:Program}{w:World}{o:List Env}{H:Hp}{s s':Shared}{e:Value}(h:CXS P w o H s (λ_ _ _=>False) e s'):False:=by
 obtain⟨_,_,_,_,_,_,_,_,_,_,z⟩:=h;exact z
section
variable{X:Cx}{pins:List (Addr×Obj)}{σ:St}{H:Hp}{s s':Shared}{E:XK}{ev:Value}
theorem FlS.JQ(I:Inv X pins σ H s)(h:CXS X.prog X.w X.stack H s E ev s'):FlS X pins σ E ev s':=by
 obtain⟨e,C,d,H',rfl,os,bare,un,hok,⟨sz,nh,oe,vs,he,hc,hdd,hsl,hd,hsz,h1⟩,hE⟩:=h;refine⟨e,C,d,H',rfl,I.call' (ch:=[]) os un hok bare (λb z=>absurd z (by simp)),⟨sJ I sz,nh,oe,vs,he,hc,hdd,hsl,hd,hsz,?_⟩,hE⟩
 rcases h1 with h1|⟨T,oT,ts,h1,a,b,c⟩
 ·exact .inl h1
 ·exact .inr ⟨T,oT,ts,h1,a,sJ I b,c⟩
theorem Sw:jE (CXS X.prog X.w) (X.wish (FlX X E)) E:=λpins σ H s e s' I h=>⟨pins,σ,FlS.JQ I.gP h⟩
end
section
variable{P:Program}{w:World}{K:PySem.W.Frag}{mg:Str->Option Value}{base:Heap}
theorem leaves{N:List Str}{q:Str}{sc:Scope}{f:Addr}{cd:Value}{A:Around}{o:List Env}{s:Shared}{H:Hp}{E:XK}{ev:Value}{s':Shared}
  (h:FlX (uZ (CXS P w) P w K mg base N q sc f cd A o s H E) E ev s'):(uZ (CXS P w) P w K mg base N q sc f cd A o s H E).xe ev s':=by
 obtain⟨pins,σ,e,C,d,H',rfl,I,fl,hE⟩:=h;show wpAny _ _ (leaving _ _) _ _ _
 unfold leaving;refine Zai (Eo I rfl rfl fl λs1 I1 f1 n1=>?_);refine qU I1 f1 λs2 I2 f2=>?_;obtain⟨m,nh,oe,vs,he,hc,hdd,hsl,hd,hsz,h1⟩:=f2;refine⟨e,C,d,H',rfl,I2.os,I2.bare,I2.base,I2.hok,⟨m.sz,nh,oe,vs,he,hc,hdd,hsl,hd,hsz,?_⟩,hE⟩;rcases h1 with h1|⟨T,oT,ts,h1,a,b,c⟩
 ·exact .inl h1
 ·exact .inr ⟨T,oT,ts,h1,a,b.sz,c⟩
theorem PSs.ofX{X:Cx}{E:Value->Shared->Prop}{st:List Stmt}{t:TS}(k:∀ e s',E e s'->X.xe e s')(h:PSs (X.wish E) st t):PSs X st t:=λpins s σ H D I hw=>
 ZaK (h pins s σ H D (I.wish _) hw) (λ_ _ q=>q.gP) λe s' z=>k e s' z
def qp(P:Program)(w:World)(K:PySem.W.Frag)(mg:Str->Option Value)(base:Heap)(x:Str)(k:Nat)(ps:List Str)(sp:Sp):Prop:=
 ∃ (f:Addr) (fd:FuncData),mg x=some (.ref f)/\keepIn K (.ref f)=true/\Binds K fd ps []/\iU P w K mg base (CXS P w) k f fd ps sp
noncomputable abbrev cxX(P:Program)(w:World)(K:PySem.W.Frag)(mg:Str->Option Value)(base:Heap)(N:List Str)(x:Str)(sc:Scope)(f:Addr)(cdv:Value)(A:Around)(outer:List Env)(s:Shared)(H:Hp)(E:XK):Cx:=
 (uZ (CXS P w) P w K mg base N x sc f cdv A outer s H E).wish (FlX (uZ (CXS P w) P w K mg base N x sc f cdv A outer s H E) E)
theorem lM{N:List Str}{x:Str}{sc:Scope}{f:Addr}{cdv:Value}{A:Around}{outer:List Env}{s:Shared}{H:Hp}{E:XK}:jE (CXS P w) (cxX P w K mg base N x sc f cdv A outer s H E) E:=
 Sw (X:=uZ (CXS P w) P w K mg base N x sc f cdv A outer s H E)
end
open PySem PySem.Spec PyProof.Rows PySem.Calls Builtin Builtin.ObjectAttr
noncomputable abbrev Pz(C t:Addr)(dx:Option Addr):Obj:={ cls:=.ref C,dict:=dx,data:=.fields #[.ref t,.none,.none,.none,.bool false,.none] }
section
variable{h:Heap}{g:Array GenState}{d:Drawn}{t:Nat}{os:OsState}
variable{nm q:Str}{C N:Addr}{bs bm:List Value}{hdct:Bool}{sn:List Str}{sub:List Value}{ab:Bool}{col:Option Bool}{dd:Option Addr}{k0 k1 k2 k3 k5:Option Value}
theorem HR{M:Model}{A:Around}{E:Value->Shared->Prop}(hV:bm.contains (.type "ValueError")=true){rest:List Value}{Q:Unit->Shared->Prop}
  (hC:h.get? C=some (excClassObj nm q C N bs bm hdct sn sub ab col dd k0 k1 k2 k3 k5 "ValueError.__new__"))(hq:Q () ⟨h,g,d,t,os⟩) :
  wpAny M A (checkBuiltinCall "ValueError.__new__" ⟨.ref C::rest,[]⟩) Q E ⟨h,g,d,t,os⟩:=by
 have Fn:=Za5;have hcont:(Value.ref C::bm).contains (.type "ValueError")=true:=by rw[ZaQ,hV,ZbI]
 have hstar:=Fn.noStar;simp only[checkBuiltinCall,Fn.newKind,Fn.newSplit,Fn.newRow];repeat (first|refine wpAny_loadPart_at hC ?_|(refine wpAny_isSubtype_exc hC ?_;rw[hcont])|refine wpAny_staticBase_exc hC ?_|refine wpAny_madeBy_exc hC ?_|simp only[bne_self_eq_false,Zbg,ZaH]|wp_step)
 exact hq
variable{prog:Program}{w:World}{A:Around}{R:Result->Shared->Prop}
theorem newX(hV:bm.contains (.type "ValueError")=true)(hA:bm.contains (.type "AttributeError")=false)(hN:bm.contains (.type "NameError")=false){rest:List Value}
  (hC:h.get? C=some (excClassObj nm q C N bs bm hdct sn sub ab col dd k0 k1 k2 k3 k5 "ValueError.__new__"))
  (hq:R (.ok (.ret (.ref (h.objs.size+1)))) ⟨(h.push { cls:=.type "tuple",data:=.seq rest.toArray }).push (Pz C h.objs.size none),g,d,t,os⟩)(hrest:rest.length<=sizeLine) :
  codeAny (model prog w) A (.builtin "ValueError.__new__" ⟨.ref C::rest,[]⟩) R ⟨h,g,d,t,os⟩:=by
 have Fn:=Za5;have hends:=Fn.ends;have hcB:(Value.ref C::bm).contains (.type "ValueError")=true:=by rw[ZaQ,hV,ZbI]
 have hcA:(Value.ref C::bm).contains (.type "AttributeError")=false:=by rw[ZaQ,hA];rfl
 have hcN:(Value.ref C::bm).contains (.type "NameError")=false:=by rw[ZaQ,hN];rfl
 refine codeAny_builtinAt Fn.entry ?_;unfold Builtin.«BaseException.__new__»;refine PySem.wpAt_bind ?_;show PySem.wpAt _ _ _ (stack>>=_) _ _ _
 refine PySem.wpAt_bind (PySem.wpAt_stack λp below=>PySem.wpAt_of_wpAny ?_)
 wp_walk
 refine PySem.wpAt_of_wpAny ?_;rw[Fn.owner];repeat (first|with_reducible refine wpAny_madeHere_exc Fn.canon hC ?_|with_reducible refine wpAny_loadPart_at hC ?_|(with_reducible refine wpAny_isSubtype_exc hC ?_;first|rw[hcB]|rw[hcA]|rw[hcN])|wp_step)
 show R _ _
 rw[ZbC];exact hq
end
open PySem PySem.Spec PyProof.Rows PySem.Calls Builtin Builtin.ObjectAttr
noncomputable abbrev HS:List Value:=[.type "ValueError",.type "Exception",.type "BaseException",.type "object"]
def qW:List Value->Bool
 |.ref _::r=>qW r
 |l=>l==HS
theorem HW{x:Value}(hx:HS.contains x=true):∀ (l:List Value),qW l=true->l.contains x=true
 |l,e=>by
  unfold qW at e;split at e
  ·rw[ZaQ,HW hx _ e,ZbI]
  ·rw[beq_iff_eq.mp e];exact hx
termination_by l=>l.length
theorem HX{n:String}(hx:HS.contains (.type n)=false):∀ (l:List Value),qW l=true->l.contains (.type n)=false
 |l,e=>by
  unfold qW at e;split at e
  ·rw[ZaQ,HX hx _ e];rfl
  ·rw[beq_iff_eq.mp e];exact hx
termination_by l=>l.length
def XN(e C:Addr)(d:Option Addr):HO:=.ext λh=>∃ vs:Array Value,h.get? e=some { cls:=.ref C,dict:=d,data:=.fields vs }/\1<vs.size/\vs[1]?=some .none
def XD(dx:Addr)(fs:List (Str×V)):HO:=.ext λh=>fs.length<=1000/\∃ mA,h.Ns1 dx mA/\(∀ f,kO (fs.lookup f) (mA f))/\PySem.Within mA (fs.map (·.1))
section
variable{P:Program}{w:World}{H:Hp}{h:Heap}{e C:Addr}{d:Option Addr}
theorem XO.mk{vs:Array Value}(a:h.get? e=some { cls:=.ref C,dict:=d,data:=.fields vs }):dB P w H h e (XO e C d):=
 ⟨⟨vs,a⟩,⟨_,a⟩,λ_ _ ⟨vs,a⟩ k=>⟨vs,k _ a⟩⟩
end
section
variable{H:Hp}{s:Shared}{C:Addr}{x:Str}{e:Expr}{vs:List V}
def del(H:Hp)(a:Addr):Hp:=λb=>if b=a then none else H b
theorem Ep{H:Hp}{a:Addr}:del H a a=none:=by unfold del;rw[Zag rfl]
theorem HY{H:Hp}{a b:Addr}(h:b≠a):del H a b=H b:=by unfold del;rw[Zal h]
theorem Ia{M:Model}{A:Around}{E:Value->Shared->Prop}{env:Env}{y:Sem Value}{QF:Flow->Shared->Prop}{nm q:Str}{N:Addr}{bs bm:List Value}{hdct:Bool}{sn:List Str}{sub:List Value}{ab:Bool}{col:Option Bool}{dd:Option Addr}{k0 k1 k2 k3 k5:Option Value}{newId:String}
  (hbase:bm.contains (.type "BaseException")=true)(hh:A.handled=none)
  (h:wpAny M A y (λv s₁=>∃ e d,∃ vs:Array Value,v=.ref e/\s₁.heap.get? C=some (excClassObj nm q C N bs bm hdct sn sub ab col dd k0 k1 k2 k3 k5 newId) /\
   s₁.heap.get? e=some { cls:=.ref C,dict:=d,data:=.fields vs }/\vs[1]?=some .none/\E (.ref e) s₁) E s) :
  wpAny M A (raiseStmt env (some y) none) QF E s:=by
 have hcB:(Value.ref C::bm).contains (.type "BaseException")=true:=by rw[ZaQ,hbase,ZbI]
 unfold raiseStmt;refine Zai (ZaK h (λv s₁ h₁=>?_) λ_ _ x=>x);obtain⟨e,d,vs,rfl,hC,he,hv1,hE⟩:=h₁;obtain⟨hp,g,dr,tk,os⟩:=s₁;repeat (first|with_reducible refine wpAny_loadPart_at he ?_|with_reducible refine wpAny_loadPart_at hC ?_|(with_reducible refine wpAny_isSubtype_exc hC ?_;rw[hcB])|wp_step)
 rw[hv1];refine Zay ?_;rw[Zal (by decide)]
 exact Zay (wpAny_raiseNew_none hh hE)
end
noncomputable abbrev Cx.hand(X:Cx)(ev:Value)(E:Value->Shared->Prop):Cx:={ X with A:=X.A.mark (some ev),calm:=false,xe:=E }
section
variable{X:Cx}{pins:List (Addr×Obj)}{σ:St}{H:Hp}{s:Shared}{ev:Value}{E:Value->Shared->Prop}{e C:Addr}{d:Option Addr}
theorem Inv.hand(I:Inv X pins σ H s)(ev:Value)(E:Value->Shared->Prop):Inv (Cx.hand X ev E) pins σ H s:=
 let ok:=I.ok
 ⟨⟨ok.mod,ok.kind,ok.glob,ok.blt,ok.above,ok.inj,ok.has,ok.cab,(λz=>by cases z),ok.frames,ok.stk,ok.exf,ok.bs,ok.bsz,ok.noex,ok.exfs,ok.qM,ok.frf⟩,I.os,I.bare,I.base,I.loc,I.cell,I.free,I.freeC,I.pin,I.hok,I.len⟩
theorem Inv.Bp(ok:X.Ok)(I:Inv (Cx.hand X ev E) pins σ H s):Inv X pins σ H s:=
 ⟨ok,I.os,I.bare,I.base,I.loc,I.cell,I.free,I.freeC,I.pin,I.hok,I.len⟩
theorem Inv.track(I:Inv X pins σ H s)(fl:Fly X pins H s.heap e (.ref C) d):Inv X pins σ (upd H e (XO e C d)) s:=by
 obtain⟨m,nh,oe,vs,he,hc,hdd,hsl,hd,hsz,h1⟩:=fl;have ne:∀ b o,H b=some o->b≠e:=λb o q z=>by rw[z,nh] at q;cases q
 have obj:s.heap.get? e=some { cls:=.ref C,dict:=d,data:=.fields vs }:=by
  rw[he];obtain⟨c,dd,dt,sl⟩:=oe;cases hc;cases hdd;cases hsl;cases hd;rfl
 refine⟨I.ok,I.os,I.bare,⟨I.base.keep,I.base.slot,λb o q n x=>?_,I.base.there,λb xs q=>?_,λb o u q=>?_,λb ps q=>?_⟩,I.loc,I.cell,?_,λx c q=>?_,λp hp=>?_,λb o q=>?_,I.len⟩
 ·rw[aK (Zaz (Zan (Zak q) m.sz))];exact I.base.free b o q n x
 ·have:=I.base.tups b xs q;rw[aK (ne b _ this)];exact this
 ·have:=I.base.frzs b o u q;rw[aK (ne b _ this)];exact this
 ·obtain⟨z,this⟩:=I.base.tbls b ps q;exact⟨z,by rw[aK (ne b _ this)];exact this⟩
 ·rw[aK (Za0 m.loc)];exact I.free
 ·rw[aK (m.cl x c q)];exact I.freeC x c q
 ·obtain⟨a1,a2,a3⟩:=I.pin p hp;exact⟨a1,by rw[aK (m.pn p hp)];exact a2,a3⟩
 ·by_cases hb:b=e
  ·subst hb;rw[aN] at q;cases q;exact XO.mk obj
  ·rw[aK hb] at q;exact(I.hok b o q).stay (λc u _ z=>z) (λc z=>by rw[aK (ne c _ z)];exact z) λc xs z=>by rw[aK (ne c _ z)];exact z
theorem goes{M:Model}{A:Around}{E:Value->Shared->Prop}{i:Nat}{n:Str}{pos:Pos}{Q:Unit->Shared->Prop}(I:Inv X pins σ H s)(hN:X.N.Nodup)(hi:X.N[i]?=some n)(hk:X.env.kindOf n=some .local)
  (h:∀ s',Inv X pins (σ.set i none) H s'->Q () s'):wpAny M A (do bindName X.env n .none;unbindBehindTheSuite X.env n pos) Q E s:=by
 obtain⟨m,hn,hl⟩:=id I.loc;have hcls:(X.env.scope.kind==.class||(X.env.scope.kind==.module&&X.env.locals != X.env.globals))=false:=by rw[I.ok.kind];rfl
 have hiσ:i<σ.length:=by rw[I.len];exact(Zas.mp hi).1
 have cne:=I.cne;refine wpAny_nameGoes_keeps hk hn hcls λh' v hn' hs=>?_;obtain⟨oL,_,_,hoL,_⟩:=id hn;have lo:∀ b o,X.s₀.heap.get? b=some o->b≠X.env.locals:=λb o e=>Zaz (Zan (Zak e) I.ok.above);refine h _ ⟨I.ok,I.os,I.bare,⟨λb o e n hb hx=>(hs.2 b (lo b o e)).trans (I.base.keep b o e n hb hx),λb o e n hb hx=>?_,I.base.free,λb o e hx=>?_,I.base.tups,I.base.frzs,I.base.tbls⟩,⟨_,hn',λj y v' e1 e2 e3=>?_⟩,λy c e=>?_,I.free,I.freeC,λp hp=>?_,λb ob e=>?_,by simpa using I.len⟩
 ·obtain⟨sl,e1⟩:=I.base.slot b o e n hb hx;exact⟨sl,(hs.2 b (lo b o e)).trans e1⟩
 ·obtain⟨o',e1⟩:=I.base.there b o e hx;exact⟨o',(hs.2 b (lo b o e)).trans e1⟩
 ·by_cases hj:j=i
  ·subst hj;rw[ZaI hiσ] at e2;cases e2
  ·rw[Zab (Za0 hj)] at e2;obtain⟨u',r',q⟩:=hl j y v' e1 e2 e3;refine⟨u',r',?_⟩;rcases q with⟨k,e⟩|⟨k,c,e,z⟩
   ·refine .inl ⟨k,?_⟩;have:y≠n:=λe=>hj (vJ hN e1 (e▸hi));simp[this,e]
   ·exact .inr ⟨k,c,e,z.sameBut hs (cne y c e)⟩
 ·obtain⟨w',z⟩:=I.cell y c e;exact⟨w',z.sameBut hs (cne y c e)⟩
 ·obtain⟨e,n,ne,nf,dd⟩:=I.pin p hp;exact⟨(hs.2 p.1 ne).trans e,n,ne,nf,dd⟩
 ·refine(I.hok b ob e).stay (λc w' hc q=>(hs.2 c ?_).trans q) (λ_ q=>q) λ_ _ q=>q;rintro rfl;rcases hc with rfl|hc
  ·rw[I.free] at e;cases e
  ·rw[I.free] at hc;cases hc
end
structure Catch(K:PySem.W.Frag)(T:Addr):Prop where
 cls:∃ oc od cd sl,K.lookup T=some ⟨oc,od,.cls cd,sl⟩
 nt:PySem.W.instIn K (.ref T) (.type "tuple")=some false
 be:PySem.W.subIn K (.ref T) (.type "BaseException")=some true
theorem caught{K:PySem.W.Frag}{M:Model}{A:Around}{E:Value->Shared->Prop}{s:Shared}{e C T:Addr}{oe:Obj}{b:Bool}{Q:Bool->Shared->Prop}(X:K.In s.heap)(Y:Catch K T)(he:s.heap.get? e=some oe)(hc:oe.cls=.ref C)
  (hb:PySem.W.subIn K (.ref C) (.ref T)=some b)(h:Q b s):wpAny M A (excMatches (.ref e) (.ref T)) Q E s:=by
 obtain⟨oc,od,cd,sl,hT⟩:=Y.cls;have L1:=PySem.W.looks_instIn (M:=M) X Y.nt;have L2:=PySem.W.looks_subIn (M:=M) X Y.be;have L3:=PySem.W.looks_subIn (M:=M) X hb;have hT':=X _ _ hT;unfold excMatches;refine Zai (L1.here ?_);obtain⟨hp,g,dr,tk,os⟩:=s;repeat (first|with_reducible refine wpAny_loadPart_at he ?_|with_reducible refine wpAny_loadPart_at hT' ?_|with_reducible refine L2.at ?_|with_reducible refine L3.at ?_|wp_step)
 rw[hc];refine L3.at ?_;cases b<;>(wp_walk;exact h)
noncomputable abbrev THs:=Value->Option Addr->TS
def PHs(X:Cx)(hs:List ExceptHandler)(th:THs):Prop:=∀ (pins:List (Addr×Obj)) (s:Shared) (σ:St) (H:Hp) (D:Ends) (e:Addr) (C:Value) (d:Option Addr),Inv X pins σ H s->Fly X pins H s.heap e C d->th C d D σ H ->
 wpAny (model X.prog X.w) X.A (handleBy (.ref e) X.env hs) (SP X pins D) X.xe s
def Ends.gone(D:Ends)(i:Nat):Ends:={ nx:=λσ H=>D.nx (σ.set i none) H,rt:=D.rt,bk:=λσ H=>D.bk (σ.set i none) H,ct:=λσ H=>D.ct (σ.set i none) H }
def Xw:THs:=λ_ _ _ _ _=>False
def hAs(K:PySem.W.Frag)(T:Addr)(i:Nat)(ts:TS)(rest:THs):THs:=λC d D σ H=>∃ Ca b,C=.ref Ca/\PySem.W.subIn K (.ref Ca) (.ref T)=some b /\
 if b=true then ∀ a,H a=none->ts (Ends.gone D i) (σ.set i (some (.ref a))) (upd H a (XO a Ca d)) else rest C d D σ H
section
variable{X:Cx}{T:Addr}{x n:Str}{np pos:Pos}{b₀:Stmt}{suite body:List Stmt}{ts:TS}{rest:List ExceptHandler}{tr:THs}{i:Nat}
theorem VJ:PHs X [] Xw:=λ_ _ _ _ _ _ _ _ _ _ h=>h.elim
theorem Xx(hg:Gl X x)(hm:X.mg x=some (.ref T))(Y:Catch X.K T)(hN:X.N.Nodup)(hi:X.N[i]?=some n)(hk:X.env.kindOf n=some .local)(hs:∀ ev,PSs (Cx.hand X ev λ_ _=>False) (b₀::suite) ts)(hr:PHs X rest tr)
  (hd:(x==("__debug__":Str))=false:=by decide):PHs X (.ExceptHandler (some (.Name x np)) (some n) (b₀::suite) pos::rest) (hAs X.K T i ts tr):=by
 intro pins s σ H D e C d I fl h;obtain⟨Ca,b,rfl,hb,h⟩:=h;obtain⟨m,nh,oe,vs,he,hc,hrest⟩:=id fl;refine wpAny_handleBy_cons (codeAny_handlers_test (rE (X:=Cx.hand X (.ref e) X.xe) (Inv.hand I (.ref e) X.xe) hg hm ?_ hd)) (by intro q;cases q)
 refine caught I.kIn Y he hc hb ?_;cases b with
 |false=>exact hr pins s σ H D e _ d I fl h
 |true=>
  refine codeAny_handlers_suite_as (qU I fl λs1 I1 f1=>?_);refine rD (Inv.track I1 f1) hN hi (.inl hk) (v:=.ref e) rfl (λs2 I2=>?_) (.inr hk);refine ZaK (hs (.ref e) pins s2 _ _ (Ends.gone D i) (Inv.hand I2 (.ref e) λ_ _=>False) (h e nh)) (λf s3 q=>?_) λ_ _ z=>z.elim
  ·cases f with
   |next=>obtain⟨σ',H',J,q⟩:=q;exact goes (Inv.Bp I.ok J) hN hi hk λs4 J4=>⟨_,H',J4,q⟩
   |brk=>obtain⟨σ',H',J,q⟩:=q;exact goes (Inv.Bp I.ok J) hN hi hk λs4 J4=>⟨_,H',J4,q⟩
   |cont=>obtain⟨σ',H',J,q⟩:=q;exact goes (Inv.Bp I.ok J) hN hi hk λs4 J4=>⟨_,H',J4,q⟩
   |ret u=>obtain⟨v,σ',H',J,r,q⟩:=q;exact goes (Inv.Bp I.ok J) hN hi hk λs4 J4=>⟨v,_,H',J4,r,q⟩
def zF(X:Cx)(body:List Stmt)(tb:XK->TS):Prop:=∀ (pins:List (Addr×Obj)) (σ:St) (E:XK) (xe:Value->Shared->Prop),(∀ (H:Hp) (s:Shared) (ev:Value) (s':Shared),Inv X pins σ H s->CXS X.prog X.w X.stack H s E ev s'->xe ev s') ->
 ∀ (s:Shared) (H:Hp) (D:Ends),Inv X pins σ H s->tb E D σ H->wpAny (model X.prog X.w) X.A (execs body X.env) (SP X pins D) xe s
def Xy(tb:XK->TS)(th:THs):TS:=λD σ H=>tb (λC d H'=>th C d D σ H') D σ H
theorem VL{h₀:ExceptHandler}{hs:List ExceptHandler}{tb:XK->TS}{th:THs}(hst:X.stack=X.env::X.outer)(hf:X.env.frame=some X.env.locals)(hb:zF X body tb)(hh:PHs X (h₀::hs) th):PS X (.Try body (h₀::hs) [] [] pos) (Xy tb th):=by
 intro pins s σ H D I h;refine wpAny_Try_except (ZaK (hb pins σ _ (FlS X pins σ λC d H'=>th C d D σ H') (λH s ev s' I c=>FlS.JQ I c) s H D I h) (λf s1 q=>?_) λev s1 q=>?_)
 ·cases f with
  |next=>exact Zay q
  |brk=>exact q
  |cont=>exact q
  |ret u=>exact q
 ·obtain⟨e,C,d,H',rfl,I1,f1,q⟩:=q;exact Eo I1 hst hf f1 λs2 I2 f2 _=>qU I2 f2 λs3 I3 f3=>hh pins s3 σ H' D e C d I3 f3 q
end
def VM(X:Cx)(e:Expr)(te:XK->TE):Prop:=∀ (pins:List (Addr×Obj)) (σ:St) (E:XK) (xe:Value->Shared->Prop),(∀ (H:Hp) (s:Shared) (ev:Value) (s':Shared),Inv X pins σ H s->CXS X.prog X.w X.stack H s E ev s'->xe ev s') ->
 ∀ (s:Shared) (H:Hp) (Q:VK),Inv X pins σ H s->te E σ H Q->wpAny (model X.prog X.w) X.A (eval e X.env) (EP X pins σ Q) xe s
section
variable{X:Cx}{x:Str}{pos:Pos}{e:Expr}{te:XK->TE}
theorem Ib{xe:Value->Shared->Prop}{pins:List (Addr×Obj)}{D:Ends}{st:Stmt}{s:Shared}(h:wpAny (model X.prog X.w) X.A (exec st X.env) (SP X pins D) xe s):wpAny (model X.prog X.w) X.A (execs [st] X.env) (SP X pins D) xe s:=by
 refine wpAny_execs_cons (thn h λf s1 q=>?_);cases f with
 |next=>exact wpAny_execs_nil q
 |ret v=>exact q
 |brk=>exact q
 |cont=>exact q
theorem wM{i:Nat}{y:Str}{pos':Pos}(hN:X.N.Nodup)(hi:X.N[i]?=some y)(hx:Loc X.env.scope y)(he:VM X e te)(hs:swapsWith e (some (.Name y pos')) pos.line X.env=pure false:=by rfl)(hf:X.fn y=true\/X.env.scope.names.lookup y=some .local:=by first|exact .inl rfl|exact .inr rfl|assumption) :
  zF X [.Assign [.Name y pos'] e pos] (λE=>uY (te E) (lD i)):=by
 intro pins σ E xe hp s H D I h;refine Ib (wpAny_Assign_Name (thn (he pins σ E xe hp s H _ I h) ?_) hs);rintro v s1 ⟨y,H1,I1,r1,q1⟩;exact rD I1 hN hi hx r1 (λs2 I2=>⟨_,H1,I2,q1⟩) hf
theorem uo(he:VM X e te)(hs:swapsWith e none pos.line X.env=pure false:=by rfl):zF X [.Expr e pos] (λE=>uG (te E)):=by
 intro pins σ E xe hp s H D I h;exact Ib (wpAny_Expr_any (thn (he pins σ E xe hp s H _ I h) λv s1 ⟨x,H1,I1,r1,q1⟩=>⟨σ,H1,I1,q1⟩) I.quiet hs)
end
def XFs(K:PySem.W.Frag)(F:Hp)(d:Option Addr)(l:List (Str×PV)):Prop:=(d=none/\l=[])\/∃ dx xs,d=some dx/\l≠[]/\F dx=some (.xd xs)/\xs.map (·.1)=l.map (·.1)/\∀ (j:Nat) x p,xs[j]?=some x->l[j]?=some p->Rep K F x.2 p.2
def XRS(K:PySem.W.Frag):Hp->Value->Option Addr->PV->Prop:=λF ev d z=>∃ c l Ca,z=.exc c l/\ev=.ref Ca/\XNm K Ca c/\XFs K F d l
def POx(K:PySem.W.Frag)(C:Cg)(F H:Hp)(E:XK)(D:Ends):Out->Prop
 |.ex z=>∀ e d F' H',Up F H F' H'->XRS K F' e d z->E e d H'
 |o=>PO' K C F D o
noncomputable abbrev Cq(C:Cg):Cg:=⟨C.toCf,XR0⟩
section
variable{K:PySem.W.Frag}{t:TA}{f:Fn (List PV)}
def UV:PV->Sn:=λ_ _=>none
def PB(K:PySem.W.Frag)(c t:Str)(b:Bool):Prop:=∃ Ca T,nsIn K mainGlobals c=some (some (.ref Ca))/\nsIn K mainGlobals t=some (some (.ref T))/\PySem.W.subIn K (.ref Ca) (.ref T)=some b
def UW(i:Nat):Option Out->Option Out
 |some (.nx ρ)=>some (.nx (ρ.set i none))
 |some (.bk ρ)=>some (.bk (ρ.set i none))
 |some (.ct ρ)=>some (.ct (ρ.set i none))
 |o=>o
def Sx(sub:Str->Option Bool)(i:Nat)(suite:Sn)(rest:PV->Sn):PV->Sn:=λz ρ=>match z with
 |.exc c _=>(match sub c with
  |some true=>UW i (suite (ρ.set i (some (.sh z))))
  |some false=>rest z ρ
  |none=>none)
 |_=>none
theorem RE.gone{Cc:Cf}{F H:Hp}{σ:St}{ρ:Rho}(h:RE K Cc F H σ ρ)(i:Nat):RE K Cc F H (σ.set i none) (ρ.set i none) where
 rb:=h.rb
 len:=by simp[h.len]
 sh:=λj q e=>by
  rcases get_set e with⟨e1,e2⟩|⟨e1,e2⟩
  ·cases e2
  ·obtain⟨w,e3,e4⟩:=h.sh j q e2;exact⟨w,by rw[Zab e1];exact e3,e4⟩
 ow:=λj q e=>by
  rcases get_set e with⟨e1,e2⟩|⟨e1,e2⟩
  ·cases e2
  ·obtain⟨w,e3,e4⟩:=h.ow j q e2;exact⟨w,by rw[Zab e1];exact e3,e4⟩
 dis:=λj k q q' a e e' f f'=>by
  rcases get_set e with⟨e1,e2⟩|⟨e1,e2⟩
  ·cases e2
  ·rcases get_set e' with⟨e1',e2'⟩|⟨e1',e2'⟩
   ·cases e2'
   ·rw[Zab e1] at f;rw[Zab e1'] at f';exact h.dis j k q q' a e2 e2' f f'
 dd:=let⟨P,d⟩:=h.dd;⟨P,d.own,d.dis,λj k q b z e f=>by
   rcases get_set e with⟨e1,e2⟩|⟨e1,e2⟩
   ·cases e2
   ·rw[Zab e1] at f;exact d.ow j k q b z e2 f,λj q e=>by
   rcases get_set e with⟨e1,e2⟩|⟨e1,e2⟩
   ·cases e2
   ·obtain⟨w,e3,e4⟩:=d.dp j q e2;exact⟨w,by rw[Zab e1];exact e3,e4⟩⟩
end
def spI(Ca:Addr)(fs:List Str):Sp:=λvs H Q _=>∃ e args,vs=.ref e::args/\args.length=fs.length/\H e=some (XN e Ca none) /\
 ∀ dx H',H dx=none->H' e=some (XN e Ca (some dx))->H' dx=some (XD dx (fs.zip args))->(∀ b,b≠e->b≠dx->H' b=H b)->Q .non H'
noncomputable abbrev CE(K:PySem.W.Frag)(E:XK)(io:Addr->Prop)(H0 F0:Hp):Cg:=⟨⟨io,True,H0,F0,E⟩,XRS K⟩
section
variable{K:PySem.W.Frag}{N:List Str}{vs:List V}{H:Hp}{Q:VK}{E:XK}{t:TS}{b:Sn}{m:List PV->Option (Res PV)}
theorem JR{k n:Nat}(hk:N.length=k+n)(hm:∀ ps r,m ps=some r->ps.length=k/\fin (b (startR ps n))=some r)(h:spM K (XRS K) m vs H Q E)(hS:∀ (io:Addr->Prop) (H0 F0:Hp),(∀ a,¬io a)->MS K (CE K E io H0 F0) t b) :
  t { nx:=λ_ H'=>Q .non H',rt:=Q } (start N vs) H:=by
 obtain⟨ps,F,r,s,rp,e,P⟩:=h;obtain⟨hl,e⟩:=hm ps r e;have R:=iW (E:=E) (N:=N) (n:=n) s rp (by rw[rp.1,hl];exact hk)
 have up:∀ {F' H':Hp},aL F F'->RB ⟨λ_=>False,True,H,F,E⟩ F' H'->Up F H F' H':=λs' rb=>⟨s',λc o q=>rb.keep c o q id,rb.new,rb.sub⟩;have M:=hS (λ_=>False) H F (λ_ h=>h);cases ho:b (startR ps n) with
 |none=>rw[ho] at e;cases e
 |some o=>
  rw[ho] at e;refine M F H _ _ _ o R ho ?_;cases o with
  |nx ρ=>cases e;exact λF' H' σ s' R'=>P .non F' H' (up s' R'.rb) .non
  |rt p=>cases e;exact λv F' H' s' rb rv=>P v F' H' (up s' rb) rv
  |ex z=>cases e;exact λev d F' H' s' rb x=>P ev d F' H' (up s' rb) x
  |ro p=>cases e
  |rd p=>cases e
  |bk ρ=>cases e
  |ct ρ=>cases e
theorem Er{k n:Nat}(hk:N.length=k+n)(hm:∀ ps r,m ps=some r->ps.length=k/\ug (b (startR ps n))=some r)(h:spO K (XRS K) m vs H Q E)(hS:∀ (io:Addr->Prop) (H0 F0:Hp),(∀ a,¬io a)->MS K (CE K E io H0 F0) t b) :
  t { nx:=λ_ H'=>Q .non H',rt:=Q } (start N vs) H:=by
 obtain⟨ps,F,r,s,rp,e,P⟩:=h;obtain⟨hl,e⟩:=hm ps r e;have R:=iW (E:=E) (N:=N) (n:=n) s rp (by rw[rp.1,hl];exact hk)
 have up:∀ {F' H':Hp},aL F F'->RB ⟨λ_=>False,True,H,F,E⟩ F' H'->Up F H F' H':=λs' rb=>⟨s',λc o q=>rb.keep c o q id,rb.new,rb.sub⟩;have M:=hS (λ_=>False) H F (λ_ h=>h);cases ho:b (startR ps n) with
 |none=>rw[ho] at e;cases e
 |some o=>
  rw[ho] at e;refine M F H _ _ _ o R ho ?_;cases o with
  |ro p=>cases e;exact λa F' H' s' rb w n1 n2=>P a F' H' (up s' rb) n2 n1 w
  |rd p=>cases e
  |ex z=>cases e;exact λev d F' H' s' rb x=>P ev d F' H' (up s' rb) x
  |nx ρ=>cases e
  |rt p=>cases e
  |bk ρ=>cases e
  |ct ρ=>cases e
variable{C:Cg}{ta:TA}{f:Fn (List PV)}
theorem wN(h:MA K C ta f):MJ K C (aF K) (m9 (spM K XR0 m) [] E0 ta) (bR m f):=by
 intro F H σ ρ Q r R e P;refine h.run R e P λl xs F1 H1 hk u a=>?_;refine⟨l,F1,r,u.fh,by rw[Zaw];exact a,hk,?_⟩
 cases r with
 |ok p=>exact λv F' H' u' rv=>P v F' H' (u.trans u') rv
 |ex z=>exact λe d F' H' u' x=>x.elim
theorem PJ(h:MA K C ta f):MO K C (m9 (spO K XR0 m) [] E0 ta) (bR m f):=by
 intro F H σ ρ Q r R e P;refine h.run R e P λl xs F1 H1 hk u a=>?_;refine⟨l,F1,r,u.fh,by rw[Zaw];exact a,hk,?_⟩
 cases r with
 |ok p=>exact λv F' H' u' n1 n2 rv=>P v F' H' (u.trans u') (u.hh.free n1) n2 rv
 |ex z=>exact λe d F' H' u' x=>x.elim
end
section
variable{P:Program}{w:World}{K:PySem.W.Frag}{mg:Str->Option Value}{base:Heap}
theorem cI.okX{x:Str}{st:Stmt}{ps N:List Str}{k:Nat}{sp:Sp}(D:cI K mg x st ps)(S:aU N ps (aM st))(len:∀ vs H Q E,sp vs H Q E->vs.length=ps.length)
  (hbody:∀ (f:Addr) (cdv:Value) (A:Around) (outer:List Env) (s:Shared) (H:Hp) (vs:List V) (Q:VK) (E:XK),cU k (A.deeper (envOfC x (aM st) s.heap.objs.size f cdv))->sp vs H Q E ->
   ∃ t,PSs (cxX P w K mg base N x (aM st) f cdv A outer s H E) (gA st) t/\t { nx:=λ_ H'=>Q .non H',rt:=Q } (start N vs) H):qp P w K mg base x (k+1) ps sp:=by
 obtain⟨f,fd,e,F,b⟩:=D.ex;obtain⟨oc,od,kV,doc,pm,an,cdv,ct,osl,rfl,lk,hcd⟩:=F.ex;refine⟨f,_,e,F.kp,b,Ny lk hcd S len λA outer s H vs Q E hr hsp=>?_⟩;obtain⟨t,h,q⟩:=hbody f cdv A outer s H vs Q E hr hsp;exact⟨t,PSs.ofX (λe s' z=>leaves z) h,q⟩
end
section
variable{X:Cx}{k:Nat}{ps:List Str}{sp:Sp}{x:Str}{p pos:Pos}{e:Expr}{es:List Expr}{t:TA}{E:XK}
theorem lN(hx:jE (CXS X.prog X.w) X E)(G:qp X.prog X.w X.K X.mg X.base x k ps sp)(hr:cU k X.A)(hg:Gl X x)(ha:PA X (e::es) t)(hdb:(x==("__debug__":Str))=false:=by decide)
  (he:starEach (e::es) X.env=(false,eval e X.env)::starEach es X.env:=by rfl)(hpl:(backTo pos (starEach es X.env)).any (·.1)=false:=by rfl):PE X (.Call (.Name x p) (e::es) [] pos) (m9 sp [] E t):=by
 obtain⟨f,fd,e1,e2,e3,e4⟩:=G;exact Js e4 hr hg e1 e2 e3 .nil hx ha hdb he hpl
end
open PySem PySem.Spec PyProof.Rows PySem.Calls PySem.W Builtin Builtin.ObjectAttr
theorem PK{prog:Program}{w:World}{A:Around}{E:Value->Shared->Prop}{s:Shared}{K:Frag}{x C:Addr}{ox:Obj}{od:Option Obj}{name:Str}{expr:Bool}{Q:Value->Shared->Prop}{v:Value}(X:K.In s.heap)(I:InstAt s.heap x ox C od)(hga:findIn K (.ref C) "__getattribute__"=some (some (.builtin "BaseException.__getattribute__")))
  (hgn:findIn K (.ref C) "__getattr__"=some none)(hb:subIn K (.ref C) (.type "BaseException")=some true)
  (hf:findObj K C od name=some (.value v))(hh:handedIn v=true)(h:Q v { s with toks:=s.toks+1 }):wpAny (model prog w) A (getAttr (.ref x) name expr) Q E s:=by
 obtain⟨hp,g,d,t,os⟩:=s;have L0:=I.type (M:=model prog w);have L1:=looks_findIn (M:=model prog w) X hga;have L2:=looks_findIn (M:=model prog w) X hgn;have L3:=looks_find (M:=model prog w) X I hf;have LB:Looks (model prog w) hp (isInstance (.ref x) (.type "BaseException")) true:=L0.andThen (looks_subIn X hb);have f3:=Zbe.ga.bind (.ref x);have hx0:(expr&&onTheHeap (Value.builtin "BaseException.__getattribute__"))=false:=by cases expr<;>rfl
 have hx2:(Value.builtin "BaseException.__getattribute__"==Value.builtin "object.__getattribute__")=false:=by decide +kernel
 have hx1:(onTheHeap (Value.ref C)&&Value.builtin "BaseException.__getattribute__"==Value.builtin "object.__getattribute__")=false:=by rw[hx2];rfl
 unfold getAttr getAttrBy;refine Zai (wpAny_mkText (wpAny_holding (Zai (L0.at (Zai (L1.at ?_))))));dsimp only;repeat (any_goals (first|assumption|with_reducible refine L2.at ?_|wp_step))
 have ha:argsOk "BaseException.__getattribute__" ⟨[.ref x,.str name t],[]⟩:=by unfold argsOk;kernel_rfl
 refine codeAny_call_builtin Zbe.ga.plain PySem.F.entry_bexc_ga (check_slot (i:="BaseException.__getattribute__") (owner:="BaseException") (n:="__getattribute__") (by decide +kernel) (by decide +kernel) LB ha ?_)
 unfold Builtin.«object.__getattribute__»;repeat (any_goals (first|assumption|with_reducible refine L0.at ?_|with_reducible refine L3.at ?_|wp_step))
 show wpAny _ _ (handedOut v) _ _ _
 rw[handedOut_of hh];exact Zay h
theorem Ie{prog:Program}{w:World}{A:Around}{E:Value->Shared->Prop}{s:Shared}{K:Frag}{x C:Addr}{ox:Obj}{od:Option Obj}{Q:Option Value->Shared->Prop}(X:K.In s.heap)(I:InstAt s.heap x ox C od)(hga:findIn K (.ref C) "__getattribute__"=some (some (.builtin "BaseException.__getattribute__")))
  (hgn:findIn K (.ref C) "__getattr__"=some none)(hb:subIn K (.ref C) (.type "BaseException")=some true)
  (hf:findObj K C od "__class__"=some (.bind (.builtin "getset_descriptor.__get__") (.builtin "object.__class__")))(hm:mroIn K C (.type "object")=some true)
  (h:Q (some (.ref C)) { s with toks:=s.toks+1 }):wpAny (model prog w) A (getAttr? (.ref x) "__class__") Q E s:=by
 obtain⟨hp,g,d,t,os⟩:=s;have L0:=I.type (M:=model prog w);have L1:=looks_findIn (M:=model prog w) X hga;have L2:=looks_findIn (M:=model prog w) X hgn;have L3:=looks_find (M:=model prog w) X I hf;have LB:Looks (model prog w) hp (isInstance (.ref x) (.type "BaseException")) true:=L0.andThen (looks_subIn X hb);have f3:=Zbe.ga.bind (.ref x);have hx2:(Value.builtin "BaseException.__getattribute__"==Value.builtin "object.__getattribute__")=false:=by decide +kernel
 have hx1:(onTheHeap (Value.ref C)&&Value.builtin "BaseException.__getattribute__"==Value.builtin "object.__getattribute__")=false:=by rw[hx2];rfl
 unfold getAttr? getAttrBy?;repeat (any_goals (first|assumption|with_reducible refine L0.at ?_|with_reducible refine L1.at ?_|with_reducible refine L2.at ?_|wp_step))
 have ha:argsOk "BaseException.__getattribute__" ⟨[.ref x,.str "__class__" t],[]⟩:=by unfold argsOk;kernel_rfl
 refine codeAny_call_builtin Zbe.ga.plain PySem.F.entry_bexc_ga (check_slot (i:="BaseException.__getattribute__") (owner:="BaseException") (n:="__getattribute__") (by decide +kernel) (by decide +kernel) LB ha ?_)
 unfold Builtin.«object.__getattribute__»;repeat (any_goals (first|assumption|with_reducible refine L0.at ?_|with_reducible refine L3.at ?_|wp_step))
 refine class_get (ox:=ox) (od:=od) X I hm ?_;repeat (any_goals (first|assumption|wp_step))
structure XI(K:Frag)(C:Addr):Prop where
 ga:findIn K (.ref C) "__getattribute__"=some (some (.builtin "BaseException.__getattribute__"))
 gn:findIn K (.ref C) "__getattr__"=some none
 be:subIn K (.ref C) (.type "BaseException")=some true
 hd:hasDictIn K C=true
 cl:findIn K (.ref C) "__class__"=some (some (.builtin "object.__class__"))
 sp:specialIn K (.builtin "object.__class__") "__get__"=some (some (.builtin "getset_descriptor.__get__"))
 tk:takesIn K (.builtin "object.__class__")=some true
 ob:mroIn K C (.type "object")=some true
theorem PL{K:Frag}{x D:Addr}{ox:Obj}{od:Option Obj}(Y:XI K D):KitX K (.ref x) (.ref D) (λh=>InstAt h x ox D od) where
 ty:=λ_ _ _ I=>I.type
 it:=λ_ _ X _=>by
  obtain⟨cdD,hcD,_⟩:=any_some Y.hd;unfold clsIn at hcD;split at hcD
  ·rename_i c' d' cd' sl' ho;intro A' Q' E' s' k q;unfold isType loadHead;exact Zai (wpAny_loadPart (k _ _ (X _ _ ho)) (Zay q))
  ·cases hcD
 ne:=λh tp dd its n sl X htp=>by
  obtain⟨cdD,hcD,_⟩:=any_some Y.hd;refine Bool.eq_false_iff.mpr λq=>?_;have e:D=tp:=Value.ref.inj (beq_iff_eq.mp q);subst e;unfold clsIn at hcD;split at hcD
  ·rename_i c' d' cd' sl' ho;have z:=(X _ _ ho).symm.trans htp;cases z
  ·cases hcD
 ca:=λX I k=>Ie X I Y.ga Y.gn Y.be (by
  obtain⟨cd,hc,_⟩:=any_some Y.hd;unfold findObj;rw[hc,Option.bind_some,Y.cl,Option.bind_some];simp[Y.sp,Y.tk]) Y.ob k
structure KCl(K:Frag)(T:Addr):Prop where
 cls:∃ oc od cd sl,K.lookup T=some ⟨oc,od,.cls cd,sl⟩
 ty:typeIn K (.ref T)=some (.type "type")
theorem fu{K:Frag}{t:Value}{T:Addr}{b:Bool}(Y:KCl K T)(hs:subIn K t (.ref T)=some b)(hb:t=.ref T->b=true):kitOne K t (.ref T)=some b:=by
 unfold kitOne;split
 ·rename_i e;rw[hb (beq_iff_eq.mp e)]
 ·obtain⟨oc,od,cd,sl,hl⟩:=Y.cls;unfold kitCls;dsimp only;rw[Zag (by unfold clsIn;rw[hl,Y.ty];rfl)]
  exact hs
theorem zG{K:Frag}{C:Addr}{T:String}{b:Bool}(hm:kitMeta T=true)(hs:subIn K (.ref C) (.type T)=some b):kitOne K (.ref C) (.type T)=some b:=by
 unfold kitOne;rw[Zal (by simp)]
 unfold kitCls;dsimp only;rw[Zag hm];exact hs
def XAt(H:Hp)(a C:Addr):Prop:=H a=some (XO a C none)\/∃ dx fs,H a=some (XO a C (some dx))/\H dx=some (.xd fs)
theorem Rep.xat{K:PySem.W.Frag}{F:Hp}{v:V}{c:Str}{l:List (Str×PV)}(h:Rep K F v (.exc c l)):∃ a Ca,v=.ref a/\XNm K Ca c/\XAt F a Ca:=by
 cases h with
 |exc nm h1 h2=>exact⟨_,_,rfl,nm,.inr ⟨_,_,h1,h2⟩⟩
 |exc0 nm h1=>exact⟨_,_,rfl,nm,.inl h1⟩
def VN(K:PySem.W.Frag)(T:V)(Tv:Value):List V->Hp->VK->Prop:=λxs H Q=>∃ x b,xs=[x,T]/\((∃ a C,x=.ref a/\XAt H a C/\XI K C/\PySem.W.kitOne K (.ref C) Tv=some b) \/
 (x=.non/\PySem.W.kitOne K (.type "NoneType") Tv=some b))/\Q (.bl b) H
section
variable{X:Cx}{pins:List (Addr×Obj)}{σ:St}{H:Hp}{s:Shared}
theorem XO.inst(I:Inv X pins σ H s){a C dx:Addr}{fs:List (Str×V)}(h:H a=some (XO a C (some dx)))(hd:H dx=some (.xd fs)):∃ ox od mA,PySem.W.InstAt s.heap a ox C (some od)/\s.heap.Ns1 dx mA/\(∀ f,kO (fs.lookup f) (mA f)) /\
  ∃ vs:Array Value,s.heap.get? a=some { cls:=.ref C,dict:=some dx,data:=.fields vs }:=by
 obtain⟨vs,e⟩:=XO.at I h;obtain⟨mA,n,r⟩:=I.hok _ _ hd;obtain⟨od,ho,hl⟩:=tX n;exact⟨_,od,mA,⟨e,rfl,rfl,ho⟩,n,r,vs,e⟩
theorem XAt.inst(I:Inv X pins σ H s){a C:Addr}(h:XAt H a C):∃ ox od,PySem.W.InstAt s.heap a ox C od:=by
 rcases h with h|⟨dx,fs,h1,h2⟩
 ·obtain⟨vs,e⟩:=XO.at I h;exact⟨_,none,e,rfl,rfl,trivial⟩
 ·obtain⟨ox,od,mA,J,_⟩:=XO.inst I h1 h2;exact⟨ox,some od,J⟩
theorem jK{T:V}{Tv:Value}(hT:RelV T Tv)(hu:∀ u,RelV T u->u=Tv):m8 X (.builtin "isinstance") (VN X.K T Tv):=by
 intro pins s σ H xs us Q I rv h;obtain⟨x,b,rfl,h,q⟩:=h;obtain⟨u,v,rfl,ru,rv'⟩:=rv.two;obtain rfl:=hu v rv';have fin:∀ tk,EP X pins σ Q (.bool b) { s with toks:=tk }:=λtk=>⟨.bl b,H,I.tok _,rfl,q⟩;rcases h with⟨a,C,rfl,ha,Y,e⟩|⟨rfl,e⟩
 ·cases ru;obtain⟨ox,od,J⟩:=ha.inst I;exact ZaY (PL Y) I.kIn J e (λz=>nomatch z) fin
 ·cases ru;exact ZaY PySem.W.kitx_none I.kIn True.intro e (λz=>nomatch z) fin
def PN(K:PySem.W.Frag)(te:TE)(f:Str):TE:=λσ H Q=>te σ H λx H1=>∃ a C dx fs v,x=.ref a/\H1 a=some (XO a C (some dx))/\H1 dx=some (.xd fs)/\XI K C/\PySem.W.findIn K (.ref C) f=some none/\fs.lookup f=some v/\Q v H1
theorem Sy{e:Expr}{te:TE}{f:Str}{pos:Pos}(he:PE X e te)(hb:attributeBase e f X.env (eval e X.env)=eval e X.env):PE X (.Attribute e f pos) (PN X.K te f):=by
 intro pins s σ H Q I h;refine Jr hb (thn (he pins s σ H _ I h) ?_);rintro u s1 ⟨x,H1,I1,rx,a,C,dx,fs,v,ex,ea,ed,Y,n,l,q⟩;subst ex;obtain rfl:u=Value.ref a:=rx;obtain⟨ox,od,mA,J,n1,r,vs,hx⟩:=XO.inst I1 ea ed;have rf:=r f;rw[l] at rf;cases hv:mA f with
 |none=>rw[hv] at rf;exact rf.elim
 |some u'=>
  rw[hv] at rf;have rf:RelV v u':=rf;obtain⟨od2,ho2,hl2⟩:=tX n1;have J2:PySem.W.InstAt s1.heap a _ C (some od2):=⟨hx,rfl,rfl,ho2⟩;exact PK I1.kIn J2 Y.ga Y.gn Y.be (PySem.W.findObj_own Y.hd n rfl (by rw[hl2,hv])) (yS rf) ⟨v,H1,I1.tok _,rf,q⟩
end
section
variable{K:PySem.W.Frag}{C:Cg}{te:TE}{f:Fn PV}
def yp(sub:Str->Option Bool)(no:Bool)(f:Fn PV):Fn PV:=λρ=>bnd (f ρ) λp=>match p with
 |.exc c _=>(sub c).map λb=>.ok (.bl b)
 |.non=>some (.ok (.bl no))
 |_=>none
theorem Rep.SJ{F:Hp}{v:V}{c:Str}{x:Str×PV}{l:List (Str×PV)}(h:Rep K F v (.exc c (x::l))):∃ a Ca dx xs,v=.ref a/\XNm K Ca c/\F a=some (XO a Ca (some dx))/\F dx=some (.xd xs)/\xs.map (·.1)=(x::l).map (·.1)/\∀ (j:Nat) y p,xs[j]?=some y->(x::l)[j]?=some p->Rep K F y.2 p.2:=by
 generalize hq:PV.exc c (x::l)=q at h
 cases h with
 |exc nm h1 h2 h3 h4=>cases hq;exact⟨_,_,_,_,rfl,nm,h1,h2,h3,h4⟩
 |exc0 nm h1=>cases hq
 |_=>cases hq
def qX(K:PySem.W.Frag)(c:Str)(Tv:Value)(b:Bool):Prop:=∃ Ca,nsIn K mainGlobals c=some (some (.ref Ca))/\XI K Ca/\PySem.W.kitOne K (.ref Ca) Tv=some b
theorem qY{T:V}{Tv:Value}{sub:Str->Option Bool}{no:Bool}(hs:∀ c b,sub c=some b->qX K c Tv b)(hno:PySem.W.kitOne K (.type "NoneType") Tv=some no)(h:MJ K C (aH K) te f) :
  MJ K C (aF K) (tCB (VN K T Tv) (gR te (gR (tC T) qi))) (yp sub no f):=by
 intro F H σ ρ Q r R e P;refine h.run R e P λp v F1 H1 hk u a=>?_;show VN K T Tv [v,T] H1 Q
 split at hk
 ·rename_i c l;obtain⟨b,hb,rfl⟩:=ZaD.mp hk;obtain⟨Ca,n1,Y,k⟩:=hs c b hb;obtain⟨a',Ca',rfl,nm,h1⟩:=Rep.xat a;rw[nm.ns] at n1;cases n1;exact⟨_,b,rfl,.inl ⟨a',Ca,rfl,h1,Y,k⟩,P _ F1 H1 u .bl⟩
 ·cases hk;cases a;exact⟨_,no,rfl,.inr ⟨rfl,hno⟩,P _ F1 H1 u .bl⟩
 ·cases hk
def Es(names:Str->Bool)(g:Str)(f:Fn PV):Fn PV:=λρ=>bnd (f ρ) λp=>match p with
 |.exc c (x::l)=>if names c=true then((x::l).lookup g).map .ok else none
 |_=>none
theorem mO{K:PySem.W.Frag}{F:Hp}{g:Str}:∀ {xs:List (Str×V)}{l:List (Str×PV)}{p:PV},xs.map (·.1)=l.map (·.1)->(∀ (j:Nat) y q,xs[j]?=some y->l[j]?=some q->Rep K F y.2 q.2)->l.lookup g=some p->∃ v,xs.lookup g=some v/\Rep K F v p
 |[],[],_,_,_,h=>by simp at h
 |[],_::_,_,h,_,_=>by simp at h
 |_::_,[],_,h,_,_=>by simp at h
 |(k,v)::xs,(k',q)::l,p,h,r,e=>by
  simp only[Zao,Zbn] at h;obtain⟨rfl,h⟩:=h;have r0:=r 0 (k,v) (k,q) rfl rfl;by_cases hg:(g==k)=true
  ·simp only[List.lookup,hg] at e ⊢;cases e;exact⟨v,rfl,r0⟩
  ·rw[Zbq] at hg;simp only[List.lookup,hg] at e ⊢;exact mO h (λj y q a b=>r (j+1) y q (by simpa using a) (by simpa using b)) e
theorem JS{names:Str->Bool}{g:Str}(hs:∀ c,names c=true->∃ Ca,nsIn K mainGlobals c=some (some (.ref Ca))/\XI K Ca/\PySem.W.findIn K (.ref Ca) g=some none)(h:MJ K C (aF K) te f):MJ K C (aF K) (PN K te g) (Es names g f):=by
 intro F H σ ρ Q r R e P;refine h.run R e P λp v F1 H1 hk u a=>?_;split at hk
 ·rename_i c x l;split at hk
  ·rename_i hc;obtain⟨p,hp,rfl⟩:=ZaD.mp hk;obtain⟨Ca,n1,Y,k⟩:=hs c hc;obtain⟨a',Ca',dx,xs,rfl,nm,h1,h2,h3,h4⟩:=Rep.SJ a;rw[nm.ns] at n1;cases n1;obtain⟨v,hv,rv⟩:=mO h3 h4 hp;exact⟨a',Ca,dx,xs,v,rfl,u.fh _ _ h1,u.fh _ _ h2,Y,k,hv,P v F1 H1 u rv⟩
  ·cases hk
 ·cases hk
end
section
variable{X:Cx}{x:Str}{T:Addr}{pos:Pos}
theorem zH(hg:Gl X x)(h:X.mg x=some (.ref T))(hd:(x==("__debug__":Str))=false:=by decide):PE X (.Name x pos) (tC (.ref T)):=Ab hg h rfl hd
end
theorem PP{K:PySem.W.Frag}{C:Addr}{c:Str}{oc:Value}{dd:Option Addr}{cd:ClassData}{sl:Array (Option Value)}(n:nsIn K mainGlobals c=some (some (.ref C)))(l:K.lookup C=some ⟨oc,dd,.cls cd,sl⟩)(h:cd.name=c):XNm K C c:=
 ⟨n,cd,by unfold PySem.W.clsIn;rw[l],h⟩
section
variable{P:Program}{w:World}{K:PySem.W.Frag}{mg:Str->Option Value}{base:Heap}
theorem uq{N:List Str}{x:Str}{sc:Scope}{f:Addr}{cdv:Value}{A:Around}{outer:List Env}{s0:Shared}{H0:Hp}{E:XK} :
  ∀ (pins:List (Addr×Obj)) (σ:St) (H:Hp) (s:Shared) (e:Addr) (C:Value) (d:Option Addr),Inv (cxX P w K mg base N x sc f cdv A outer s0 H0 E) pins σ H s->Fly (cxX P w K mg base N x sc f cdv A outer s0 H0 E) pins H s.heap e C d->E C d H ->
   (cxX P w K mg base N x sc f cdv A outer s0 H0 E).xe (.ref e) s:=
 λpins σ H s e C d I fl h=>⟨pins,σ,e,C,d,H,rfl,I.gP,⟨⟨fl.own.sz,fl.own.loc,fl.own.cl,fl.own.pn⟩,fl.nh,let⟨oe,vs,a1,a2,a3,a4,a5,a6,a7⟩:=fl.ob;⟨oe,vs,a1,a2,a3,a4,a5,a6,a7.imp id λ⟨T,oT,ts,b1,b2,b3,b4⟩=>⟨T,oT,ts,b1,b2,⟨b3.sz,b3.loc,b3.cl,b3.pn⟩,b4⟩⟩⟩,h⟩
end
section
variable{X:Cx}{pos:Pos}{e:Expr}
theorem Et(K:PySem.W.Frag){f:Str}{te:TE}(hK:X.K=K)(he:PE X e te)(hb:attributeBase e f X.env (eval e X.env)=eval e X.env):PE X (.Attribute e f pos) (PN K te f):=hK▸Sy he hb
end
open PySem PySem.Spec PyProof PyProof.Rows
section
variable{K:PySem.W.Frag}{C:Cg}{ta:TA}
theorem PQ{fe:Fn (List PV)}{m:List PV->Option (Res PV)}(h:MA K C ta fe):MD K C (m9 (spD K XR0 m) [] E0 ta) (bR m fe):=by
 intro F H σ ρ Q r R e P;refine h.run R e P λl xs F1 H1 hk u a=>?_;refine⟨l,F1,r,u.fh,by rw[Zaw];exact a,hk,?_⟩
 cases r with
 |ok p=>exact λv F' H' S u' d n=>P v F' H' S (u.trans u') d λb q=>⟨u.hh.free (n b q).1,(n b q).2⟩
 |ex z=>exact λe d F' H' u' x=>x.elim
end
end L2.MP
namespace L2
open PySem PySem.Spec PyProof PyProof.Rows
def Qa:List V->Hp->VK->Prop:=λxs H Q=>∃ p kvs,xs=[.ref p]/\Rd H p (.dK kvs)/\∀ l,H l=none->Q (.ref l) (upd H l (.dK kvs))
section
variable{X:Cx}
theorem Ig:m8 X (.type "dict") Qa:=by
 intro pins s σ H xs us Q I rv h;obtain⟨p,kvs,rfl,e,q⟩:=h;obtain⟨u,rfl,ru⟩:=rv.one;cases ru;obtain⟨z,hd,vs,kv,dd⟩:=rM I.hok e;have hl:=kv.length;refine kt_call_dict (knd:=cF X.prog X.w) hd dd (by omega) λh' d' sb=>?_
 have fresh:H s.heap.objs.size=none:=I.hok.fresh (Zah _);refine⟨.ref s.heap.objs.size,upd H s.heap.objs.size (.dK kvs),I.laid (t':=s.toks) (λb o eb=>?_) (Zah _) ⟨z,?_,vs,kv,d'⟩,rfl,q _ fresh⟩
 ·exact(sb.2 b (Zaz (Zak eb))).trans (Zae _ eb)
 ·exact beq_eq_false_iff_ne.mpr (ZbD I.big)
end
namespace MP
def JT:PV->Option (Res PV)
 |.dk l=>some (.ok (.dk l))
 |_=>none
section
variable{K:PySem.W.Frag}{C:Cg}
theorem SM:R1O K C (aD K) Qa JT:=by
 intro F H x a res Q s ha e P
 match a,e with
 |.dk l,e=>
  cases e;obtain⟨_,ad,rfl,xs,h1,h2,h3⟩:=ha;exact⟨ad,xs,rfl,h1,λl' hl=>P l' F _ (Up.yj s hl) hl (s.free hl) ⟨xs,aN,h2,h3⟩⟩
end
end MP
end L2
namespace L2.MP
open PySem PySem.Spec PyProof.Rows
def oO(f g:Sn):Sn:=λρ=>match f ρ with
 |some (.nx ρ')=>g ρ'
 |_=>none
open PySem PySem.Spec PyProof.Rows PySem.Calls Builtin Builtin.ObjectAttr
section
variable{h:Heap}{g:Array GenState}{d:Drawn}{t:Nat}{os:OsState}
variable{nm q:Str}{C N:Addr}{bs bm:List Value}{hdct:Bool}{sn:List Str}{sub:List Value}{ab:Bool}{col:Option Bool}{dd:Option Addr}{k0 k1 k2 k3 k5:Option Value}
variable{prog:Program}{w:World}{A:Around}{R:Result->Shared->Prop}{K:PySem.W.Frag}
theorem Eu{M:Model}{E:Value->Shared->Prop}{e:Addr}{oe:Obj}{Q:Unit->Shared->Prop}(hV:bm.contains (.type "ValueError")=true)
  (hC:h.get? C=some (excClassObj nm q C N bs bm hdct sn sub ab col dd k0 k1 k2 k3 k5 "ValueError.__new__"))(he:h.get? e=some oe)(hc:oe.cls=.ref C)(hq:Q () ⟨h,g,d,t,os⟩) :
  wpAny M A (checkBuiltinCall "ValueError.__init__" ⟨[.ref e],[]⟩) Q E ⟨h,g,d,t,os⟩:=by
 have Fn:=Za5;have hcont:(Value.ref C::bm).contains (.type "ValueError")=true:=by rw[ZaQ,hV,ZbI]
 have hstar:=Fn.noStar;simp only[checkBuiltinCall,Fn.initKind,Fn.initSplit,Fn.initRow];repeat (first|(refine wpAny_loadPart_at he ?_;rw[hc])|refine wpAny_loadPart_at hC ?_|(refine wpAny_isSubtype_exc hC ?_;rw[hcont])|wp_step)
 exact hq
theorem Lk(X:K.In h)(hV:bm.contains (.type "ValueError")=true)(hA:bm.contains (.type "AttributeError")=false)(hN:bm.contains (.type "NameError")=false)
  (hC:h.get? C=some (excClassObj nm q C N bs bm hdct sn sub ab col dd k0 k1 k2 k3 k5 "ValueError.__new__"))
  (hi:PySem.W.findIn K (.ref C) "__init__"=some (some (.builtin "ValueError.__init__")))
  (hq:∀ h':Heap,(∀ b o,h.get? b=some o->h'.get? b=some o)->(∃ u,h'.get? (h.objs.size+1)=some (Pz C u none))->R (.ok (.ret (.ref (h.objs.size+1)))) ⟨h',g,d,t,os⟩) :
  codeAny (model prog w) A (.call (.ref C) ⟨[],[]⟩) R ⟨h,g,d,t,os⟩:=by
 have f1:=tc_lookup;have f2:=tc_bind (.ref C);have Fn:=Za5;have hT:(⟨h,g,d,t,os⟩:Shared).TypeIs (.ref C) "type":=⟨_,hC,rfl⟩;refine codeAny_of_tree ?_;show wpAny _ _ (callAny (.ref C) _) _ _ _
 repeat (any_goals (first|assumption|with_reducible refine wpAny_loadPart_at hC ?_|wp_step))
 refine⟨rfl,?_⟩;refine codeAny_call_builtin_at (Code.quiet_builtin _ (by decide +kernel)) entry_typeCall (wpAny_check_type_call_sub hC ?_)
 repeat (first|with_reducible refine wpAny_loadPart_at hC ?_|with_reducible refine wpAny_madeBy_exc hC ?_|wp_step)
 refine codeAny_call_builtin_code (Code.quiet_builtin _ Fn.quiet) (HR hV hC ?_);refine newX hV hA hN hC ?_ (Zbj _);show wpAny _ _ _ _ _ _
 have k:∀ b o,h.get? b=some o->((h.push { cls:=.type "tuple",data:=.seq ([]:List Value).toArray }).push (Pz C h.objs.size none)).get? b=some o:=λb o e=>Zae _ (Zae _ e);have hC₁:=k _ _ hC;have hget:((h.push { cls:=.type "tuple",data:=.seq ([]:List Value).toArray }).push (Pz C h.objs.size none)).get? (h.objs.size+1)=some (Pz C h.objs.size none):=by heap_get
 have hcC:(Value.ref C::bm).contains (.ref C)=true:=by simp
 have hcB:(Value.ref C::bm).contains (.type "ValueError")=true:=by rw[ZaQ,hV,ZbI]
 unfold isInstance;repeat (first|with_reducible refine wpAny_loadPart_at hget ?_|wp_step)
 show wpAny _ _ (isSubtype (.ref C) (.ref C)) _ _ _
 refine wpAny_isSubtype_exc hC₁ ?_;rw[hcC];repeat wp_step
 show wpAny _ _ (typeLookup (.ref C) _) _ _ _
 refine((PySem.W.looks_findIn X hi).keeps k).at ?_;refine wpAny_holding (Zai (wpAny_of_eq (Fn.init.bind _) ?_));refine Zai (wpAny_call (codeAny_call_builtin Fn.init.plain Fn.initEntry (Eu hV hC₁ hget rfl ?_)))
 wp_walk
 refine hq _ (λb o hb=>?_) ⟨h.objs.size+2,?_⟩
 ·rw[ZaR _ _ (ZbD (Zb7 (Zak hb)))];exact Zae _ (k b o hb)
 ·rw[Zbl _ (Zae _ hget) rfl];simp only[ZbC];rfl
end
structure SN(K:PySem.W.Frag)(C:Addr):Prop where
 ob:∃ nm q N bs bm sn sub ab col dd k0 k1 k2 k3 k5,K.lookup C=some (excClassObj nm q C N bs bm true sn sub ab col dd k0 k1 k2 k3 k5 "ValueError.__new__")/\qW bm=true
 ini:PySem.W.findIn K (.ref C) "__init__"=some (some (.builtin "ValueError.__init__"))
 kp:keepIn K (.ref C)=true
theorem SQ{K:PySem.W.Frag}{C:Addr}{dd:Option Addr}{cd:ClassData}{k0 k1 k2 k3 k5:Option Value}{bm:List Value}
  (l:K.lookup C=some ⟨.type "type",dd,.cls cd,#[k0,k1,k2,k3,some (.builtin "ValueError.__new__"),k5]⟩)(h1:cd.hasDel=false)(h2:cd.hasDict=true)(h3:cd.mro=.ref C::bm)(h4:qW bm=true)
  (init:PySem.W.findIn K (.ref C) "__init__"=some (some (.builtin "ValueError.__init__")))(kp:keepIn K (.ref C)=true):SN K C:=by
 refine⟨?_,init,kp⟩;obtain⟨nm,bs,mro,ns,q,hd,sn,sub,ab,col,hdel⟩:=cd;dsimp only at h1 h2 h3;subst h1 h2 h3;exact⟨nm,q,ns,bs,bm,sn,sub,ab,col,dd,k0,k1,k2,k3,k5,l,h4⟩
def Bq(C:Addr)(E:XK):TS:=λ_ _ H=>E (.ref C) none H
section
variable{X:Cx}{x:Str}{C:Addr}{p pos rpos:Pos}{E:XK}
theorem Ln(Y:SN X.K C)(hr:cU 2 X.A)(hg:Gl X x)(hm:X.mg x=some (.ref C))
  (hx:∀ (pins:List (Addr×Obj)) (σ:St) (H:Hp) (s:Shared) (e:Addr) (C:Value) (d:Option Addr),Inv X pins σ H s->Fly X pins H s.heap e C d->E C d H->X.xe (.ref e) s)
  (hdb:(x==("__debug__":Str))=false:=by decide):PS X (.Raise (some (.Call (.Name x p) [] [] pos)) none rpos) (Bq C E):=by
 obtain⟨nm,q,N,bs,bm,sn,sub,ab,col,dd,k0,k1,k2,k3,k5,hC,ve⟩:=Y.ob;intro pins s σ H D I h;rw[arm_exec_Raise];have key:wpAny (model X.prog X.w) X.A (eval (.Call (.Name x p) [] [] pos) X.env) (λv s₁=>∃ e d,∃ vs:Array Value,v=.ref e/\s₁.heap.get? C=some (excClassObj nm q C N bs bm true sn sub ab col dd k0 k1 k2 k3 k5 "ValueError.__new__") /\
   s₁.heap.get? e=some { cls:=.ref C,dict:=d,data:=.fields vs }/\vs[1]?=some .none/\X.xe (.ref e) s₁) X.xe s:=by
  refine wpAny_Call_Name_kw (rE I hg hm ?_ hdb);refine PySem.W.callWith_K0 I.kIn Y.kp ?_;have kC:=I.kIn _ _ hC;have fr:H (s.heap.objs.size+1)=none:=I.hok.fresh (Zbz _);have mi:=sJ I (b:=s.heap.objs.size+1) (Zbz _);refine wpAny_call (Lk (g:=s.gens) (d:=s.drawn) (t:=s.toks) (os:=s.os) I.kIn (HW (by decide) _ ve) (HX (by decide) _ ve) (HX (by decide) _ ve) kC Y.ini λh' hk hu=>?_)
  obtain⟨u,hu⟩:=hu;exact⟨_,none,_,rfl,hk _ _ kC,hu,rfl,hx pins σ H { s with heap:=h' } _ (.ref C) none (I.kept (t':=s.toks) hk) ⟨mi,fr,_,_,hu,rfl,rfl,rfl,rfl,by simp,.inl rfl⟩ h⟩
 exact Zai (wpAny_standAt (Ia (C:=C) (nm:=nm) (q:=q) (N:=N) (bs:=bs) (bm:=bm) (hdct:=true) (sn:=sn) (sub:=sub) (ab:=ab) (col:=col) (dd:=dd) (k0:=k0) (k1:=k1) (k2:=k2) (k3:=k3) (k5:=k5) (newId:="ValueError.__new__") (HW (by decide) _ ve) hr.hd
  (Zai (thn key λv s1 z=>Zai (wpAny_standAt (Zay z))))))
end
structure Ew(K:PySem.W.Frag)(mg:Str->Option Value)(c:Str)(C:Addr):Prop where
 ex:SN K C
 nm:XNm K C c
 xi:XI K C
 mg:mg c=some (.ref C)
def vB(c:Str):Sn:=λ_=>some (.ex (.exc c []))
section
variable{X:Cx}{c:Str}{C:Addr}{p pos rpos:Pos}{E:XK}
theorem qZ(U:Ew X.K X.mg c C)(hr:cU 2 X.A)(hg:Gl X c)
  (hx:∀ (pins:List (Addr×Obj)) (σ:St) (H:Hp) (s:Shared) (e:Addr) (C:Value) (d:Option Addr),Inv X pins σ H s->Fly X pins H s.heap e C d->E C d H->X.xe (.ref e) s)
  (hdb:(c==("__debug__":Str))=false:=by decide):PS X (.Raise (some (.Call (.Name c p) [] [] pos)) none rpos) (Bq C E):=Ln U.ex hr hg U.mg hx hdb
theorem q9{K:PySem.W.Frag}{mg:Str->Option Value}{Cg':Cg}(hX:Cg'.XR=XRS K)(U:Ew K mg c C):MS K Cg' (Bq C Cg'.E) (vB c):=by
 intro F H σ ρ D o R e P;cases e;refine P (.ref C) none F H (aL.refl _) R.rb ?_;rw[hX];exact⟨c,[],C,rfl,rfl,U.nm,.inl ⟨rfl,rfl⟩⟩
end
noncomputable abbrev Fe(α:Type):=Rho->Option (Res (α×Rho))
def wO{α β:Type}(x:Option (Res (α×Rho)))(k:α->Rho->Option (Res β)):Option (Res β):=match x with
 |some (.ok (a,ρ))=>k a ρ
 |some (.ex z)=>some (.ex z)
 |none=>none
def oR{α:Type}(x:Option (Res (α×Rho)))(k:α->Rho->Option Out):Option Out:=match x with
 |some (.ok (a,ρ))=>k a ρ
 |some (.ex z)=>some (.ex z)
 |none=>none
theorem wQ{α β:Type}{x:Option (Res (α×Rho))}{k:α->Rho->Option (Res β)}{r:Res β}(h:wO x k=some r):(∃ z,x=some (.ex z)/\r=.ex z)\/∃ a ρ,x=some (.ok (a,ρ))/\k a ρ=some r:=by
 match x,h with
 |some (.ok (a,ρ)),h=>exact .inr ⟨a,ρ,rfl,h⟩
 |some (.ex z),h=>exact .inl ⟨z,rfl,(Zaa h).symm⟩
theorem lO{α:Type}{x:Option (Res (α×Rho))}{k:α->Rho->Option Out}{o:Out}(h:oR x k=some o):(∃ z,x=some (.ex z)/\o=.ex z)\/∃ a ρ,x=some (.ok (a,ρ))/\k a ρ=some o:=by
 match x,h with
 |some (.ok (a,ρ)),h=>exact .inr ⟨a,ρ,rfl,h⟩
 |some (.ex z),h=>exact .inl ⟨z,rfl,(Zaa h).symm⟩
def PrE{α:Type}(K:PySem.W.Frag)(C:Cg)(F:Hp)(σ:St)(ok:α->Hp->Hp->Prop):Res (α×Rho)->Prop
 |.ok (a,ρ')=>∀ F' H',aL F F'->RE K C.toCf F' H' σ ρ'->ok a F' H'
 |.ex z=>PX C F z
def MEJ(K:PySem.W.Frag)(C:Cg)(te:TE)(f:Fe PV):Prop:=∀ F H σ ρ Q r,RE K C.toCf F H σ ρ->f ρ=some r->PrE K C F σ (λp F' H'=>∀ v,Rep K F' v p->Q v H') r->te σ H Q
def MEA(K:PySem.W.Frag)(C:Cg)(ta:TA)(f:Fe (List PV)):Prop:=∀ F H σ ρ Q r,RE K C.toCf F H σ ρ->f ρ=some r->PrE K C F σ (λl F' H'=>∀ xs,bw K F' xs l->Q xs H') r->ta σ H Q
def MET(K:PySem.W.Frag)(C:Cg)(tt:TT)(f:Fe Bool):Prop:=∀ F H σ ρ Q r,RE K C.toCf F H σ ρ->f ρ=some r->PrE K C F σ (λb _ H'=>Q b H') r->tt σ H Q
section
variable{K:PySem.W.Frag}{C:Cg}{ta tb te:TE}{t:TA}{F F1 H H1:Hp}{σ:St}{ρ:Rho}{D:Ends}{o:Out}
theorem PrE.up{α:Type}{ok:α->Hp->Hp->Prop}{r:Res (α×Rho)}(h:PrE K C F σ ok r)(s:aL F F1):PrE K C F1 σ ok r:=by
 cases r with
 |ok a=>exact λF' H' s'=>h F' H' (s.trans s')
 |ex z=>exact PX.up h s
theorem MEJ.run{β:Type}{f:Fe PV}{Q:VK}{ok:β->Hp->Hp->Prop}{k:PV->Rho->Option (Res (β×Rho))}{r:Res (β×Rho)}(h:MEJ K C te f)(R:RE K C.toCf F H σ ρ)(e:wO (f ρ) k=some r)(P:PrE K C F σ ok r)
  (go:∀ p ρ' v F1 H1,k p ρ'=some r->aL F F1->RE K C.toCf F1 H1 σ ρ'->Rep K F1 v p->Q v H1):te σ H Q:=by
 rcases wQ e with⟨z,e1,rfl⟩|⟨p,ρ',e1,hk⟩
 ·exact h F H σ ρ Q _ R e1 P
 ·exact h F H σ ρ Q _ R e1 λF1 H1 s R1 v a=>go p ρ' v F1 H1 hk s R1 a
theorem MEA.run{β:Type}{f:Fe (List PV)}{Q:List V->Hp->Prop}{ok:β->Hp->Hp->Prop}{k:List PV->Rho->Option (Res (β×Rho))}{r:Res (β×Rho)}(h:MEA K C t f)(R:RE K C.toCf F H σ ρ)(e:wO (f ρ) k=some r)(P:PrE K C F σ ok r)
  (go:∀ l ρ' xs F1 H1,k l ρ'=some r->aL F F1->RE K C.toCf F1 H1 σ ρ'->bw K F1 xs l->Q xs H1):t σ H Q:=by
 rcases wQ e with⟨z,e1,rfl⟩|⟨p,ρ',e1,hk⟩
 ·exact h F H σ ρ Q _ R e1 P
 ·exact h F H σ ρ Q _ R e1 λF1 H1 s R1 v a=>go p ρ' v F1 H1 hk s R1 a
theorem MEJ.oA{f:Fe PV}{Q:VK}{k:PV->Rho->Option Out}(h:MEJ K C te f)(R:RE K C.toCf F H σ ρ)(e:oR (f ρ) k=some o)(P:PO' K C F D o)
  (go:∀ p ρ' v F1 H1,k p ρ'=some o->aL F F1->RE K C.toCf F1 H1 σ ρ'->Rep K F1 v p->Q v H1):te σ H Q:=by
 rcases lO e with⟨z,e1,rfl⟩|⟨p,ρ',e1,hk⟩
 ·exact h F H σ ρ Q _ R e1 P
 ·exact h F H σ ρ Q _ R e1 λF1 H1 s R1 v a=>go p ρ' v F1 H1 hk s R1 a
def eP{α:Type}(f:Fn α):Fe α:=λρ=>bnd (f ρ) λp=>some (.ok (p,ρ))
theorem nF{f:Fn PV}(h:MJ K C (aF K) te f):MEJ K C te (eP f):=by
 intro F H σ ρ Q r R e P;rcases aX e with⟨z,e1,rfl⟩|⟨p,e1,hk⟩
 ·exact h F H σ ρ Q _ R e1 P
 ·cases hk;exact h F H σ ρ Q _ R e1 λv F1 H1 u a=>P F1 H1 u.ff (R.up u) v a
def e2(op:PV->PV->Option (Res PV))(f g:Fe PV):Fe PV:=λρ=>wO (f ρ) λa ρ1=>wO (g ρ1) λb ρ2=>bnd (op a b) λc=>some (.ok (c,ρ2))
theorem Ex{op:PV->PV->Option (Res PV)}{r2:R2}{f g:Fe PV}(rule:R2M C (aF K) (aF K) (aF K) r2 op)(ha:MEJ K C ta f)(hb:MEJ K C tb g):MEJ K C (tOp r2 ta tb) (e2 op f g):=by
 intro F H σ ρ Q r R e P;refine ha.run R e P λp ρ1 v F1 H1 hk s1 R1 a=>?_;refine hb.run R1 hk (P.up s1) λq ρ2 w F2 H2 hk2 s2 R2 b=>?_;rcases aX hk2 with⟨z,e1,rfl⟩|⟨c,e1,hk3⟩
 ·exact rule F2 H2 v w p q _ Q R2.rb.sub (a.up s2) b e1 (PX.up P (s1.trans s2))
 ·cases hk3;exact rule F2 H2 v w p q _ Q R2.rb.sub (a.up s2) b e1 λx F3 H3 u d=>P F3 H3 ((s1.trans s2).trans u.ff) (R2.up u) x d
def Ey:Fe (List PV):=λρ=>some (.ok ([],ρ))
theorem pX:MEA K C qi Ey:=λF H σ ρ Q r R e P=>by
 cases e;exact P F H (aL.refl _) R [] .nil
def jl(f:Fe PV)(g:Fe (List PV)):Fe (List PV):=λρ=>wO (f ρ) λa ρ1=>wO (g ρ1) λl ρ2=>some (.ok (a::l,ρ2))
theorem dH{f:Fe PV}{g:Fe (List PV)}(ha:MEJ K C ta f)(hs:MEA K C t g):MEA K C (gR ta t) (jl f g):=by
 intro F H σ ρ Q r R e P;refine ha.run R e P λp ρ1 v F1 H1 hk s1 R1 a=>?_;refine hs.run R1 hk (P.up s1) λl ρ2 xs F2 H2 hk2 s2 R2 b=>?_;cases hk2;exact P F2 H2 (s1.trans s2) R2 _ (b.cons (a.up s2))
def zJ(m:List PV->Option (Res PV))(f:Fe (List PV)):Fe PV:=λρ=>wO (f ρ) λl ρ1=>bnd (m l) λc=>some (.ok (c,ρ1))
theorem Br{f:Fe (List PV)}{m:List PV->Option (Res PV)}(h:MEA K C t f):MEJ K C (m9 (spM K C.XR m) [] C.E t) (zJ m f):=by
 intro F H σ ρ Q r R e P;refine h.run R e P λl ρ1 xs F1 H1 hk s1 R1 a=>?_;rcases aX hk with⟨z,e1,rfl⟩|⟨c,e1,hk3⟩
 ·exact⟨l,F1,_,R1.rb.sub,by rw[Zaw];exact a,e1,λe d F' H' u x=>P e d F' H' (s1.trans u.ff) (R1.rb.up u) x⟩
 ·cases hk3;exact⟨l,F1,_,R1.rb.sub,by rw[Zaw];exact a,e1,λv F' H' u rv=>P F' H' (s1.trans u.ff) (R1.up u) v rv⟩
def Lp(f:Fe (List PV)):Fe PV:=λρ=>wO (f ρ) λl ρ1=>if l.length<=sizeLine then some (.ok (.tup l,ρ1)) else none
theorem Ii{f:Fe (List PV)}(h:MEA K C t f):MEJ K C (Rw t) (Lp f):=by
 intro F H σ ρ Q r R e P;refine h.run R e P λl ρ1 xs F1 H1 hk s1 R1 a=>?_;split at hk
 ·rename_i hl;cases hk;refine⟨by rw[a.1];exact hl,λb hb=>?_⟩
  have u:Up F1 H1 (upd F1 b (.tup xs)) (upd H1 b (.tup xs)):=Up.new R1.rb.sub hb;exact P _ _ (s1.trans u.ff) (R1.up u) _ (.tup aN a.1 λj x p e1 e2=>(a.2 j x p e1 e2).up u.ff)
 ·cases hk
def eBl(f:Fe PV):Fe Bool:=λρ=>wO (f ρ) λa ρ1=>match a with
 |.bl b=>some (.ok (b,ρ1))
 |_=>none
theorem Qc{f:Fe PV}(h:MEJ K C te f):MET K C (Jq te) (eBl f):=by
 intro F H σ ρ Q r R e P;refine h.run R e P λp ρ1 v F1 H1 hk s1 R1 a=>?_
 match p,hk with
 |.bl b,hk=>
  cases hk;cases Rep.gU a;exact⟨b,rfl,P F1 H1 s1 R1⟩
variable{ts us:TS}{f g:Sn}
def yq(fe:Fe PV)(tg:PV->Rho->Option Rho):Sn:=λρ=>oR (fe ρ) λp ρ1=>match tg p ρ1 with
 |some ρ'=>some (.nx ρ')
 |none=>none
theorem sO{fe:Fe PV}{gt:TG}{tg:PV->Rho->Option Rho}(h:MEJ K C te fe)(hg:MG K C gt tg):MS K C (uY te gt) (yq fe tg):=by
 intro F H σ ρ D o R e P;refine h.oA R e P λp ρ1 v F1 H1 hk s1 R1 a=>?_;split at hk
 ·rename_i ρ' h1;cases hk;exact hg F1 H1 σ ρ1 v p ρ' _ R1 a h1 λσ' R'=>P F1 H1 σ' s1 R'
 ·cases hk
def SX(fe:Fe PV):Sn:=λρ=>oR (fe ρ) λp _=>some (.rt p)
theorem S5{fe:Fe PV}(h:MEJ K C te fe):MS K C (GQ te) (SX fe):=by
 intro F H σ ρ D o R e P;refine h.oA R e P λp ρ1 v F1 H1 hk s1 R1 a=>?_;cases hk;exact P v F1 H1 s1 R1.rb a
def eIf(fc:Fe Bool)(f g:Sn):Sn:=λρ=>oR (fc ρ) λb ρ1=>if b=true then f ρ1 else g ρ1
theorem VP{c:TT}{fc:Fe Bool}(hc:MET K C c fc)(h1:MS K C ts f)(h2:MS K C us g):MS K C (M5 c ts us) (eIf fc f g):=by
 intro F H σ ρ D o R e P;rcases lO e with⟨z,e1,rfl⟩|⟨b,ρ1,e1,hk⟩
 ·exact hc F H σ ρ _ _ R e1 P
 refine hc F H σ ρ _ _ R e1 λF1 H1 s R1=>?_;cases b with
 |true=>rw[Zag rfl] at hk ⊢;exact h1 F1 H1 σ ρ1 D o R1 hk (P.up s)
 |false=>rw[Zal (by decide)] at hk ⊢;exact h2 F1 H1 σ ρ1 D o R1 hk (P.up s)
def Ez(fe:Fe PV)(tg:PV->Rho->Option Rho)(f:Sn):Sn:=λρ=>oR (fe ρ) λp ρ1=>match p with
 |.int j=>if -(2^62)<=j/\j<2^62 then loop tg f (nY 0 j.toNat) ρ1 else none
 |_=>none
theorem JV{fe:Fe PV}{gt:TG}{tg:PV->Rho->Option Rho}(h:MEJ K C te fe)(hg:MG K C gt tg)(hb:MS K C ts f):MS K C (Rp (M8 (gR te qi)) gt ts) (Ez fe tg f):=by
 intro F H σ ρ D o R e P;show te σ H _
 refine h.oA R e P λp ρ1 v F1 H1 hk s1 R1 a=>?_
 match p,hk with
 |.int j,hk=>
  have hk:(if -(2^62)<=j/\j<2^62 then loop tg f (nY 0 j.toNat) ρ1 else none)=some o:=hk;split at hk
  ·rename_i hj;cases Rep.aZ a;exact⟨j,rfl,hj.1,hj.2,zg hg hb (JF 0 _) R1 hk (P.up s1)⟩
  ·cases hk
def Ij(i:Nat)(fe:Fe PV):Sn:=λρ=>match ownAt i ρ with
 |some (.lst _)=>oR (fe ρ) λp ρ1=>match ownAt i ρ1 with
  |some (.lst l)=>if l.length<sizeLine then some (.nx (ρ1.set i (some (.ow (.lst (l++[p])))))) else none
  |_=>none
 |_=>none
theorem JW{i:Nat}{fe:Fe PV}(h:MEJ K C te fe):MS K C (uG (tBM K "list" Ai (my i) (gR te qi))) (Ij i fe):=by
 intro F H σ ρ D o R e P;unfold Ij at e;split at e
 ·rename_i l hl;obtain⟨a,g1,⟨xs,g2,g3⟩,g4,g5⟩:=R.ow i _ (bC hl);refine⟨_,g1,tyL g2,h.oA R e P λp ρ1 v F1 H1 hk s1 R1 w=>?_⟩;split at hk
  ·rename_i l1 hl1;split at hk
   ·rename_i hlen;cases hk;obtain⟨a',k1,⟨ys,k2,k3⟩,k4,k5⟩:=R1.ow i _ (bC hl1);rw[g1] at k1;cases k1;refine⟨a,ys,v,rfl,rfl,k2,by rw[k3.1];exact hlen,?_⟩
    exact P F1 _ σ s1 (R1.write (bC hl1) g1 ⟨_,aN,k3.snoc w⟩)
   ·cases hk
  ·cases hk
 ·cases e
theorem bw.erase{xs:List V}{l:List PV}(h:bw K F xs l)(k:Nat):bw K F (xs.eraseIdx k) (l.eraseIdx k):=by
 refine⟨by rw[List.length_eraseIdx,List.length_eraseIdx,h.1],λj x p e1 e2=>?_⟩
 rw[List.getElem?_eraseIdx] at e1 e2;split at e1
 ·rename_i hj;rw[Zag hj] at e2;exact h.2 _ x p e1 e2
 ·rename_i hj;rw[Zal hj] at e2;exact h.2 _ x p e1 e2
def Lq(g i:Nat)(fe:Fe PV):Sn:=λρ=>match ownAt i ρ with
 |some (.lst _)=>oR (fe ρ) λp ρ1=>match ownAt i ρ1,p with
  |some (.lst l),.int k=>if 0<=k/\k<2^62 then match l[k.toNat]? with
   |some y=>some (.nx ((ρ1.set i (some (.ow (.lst (l.eraseIdx k.toNat))))).set g (some (.sh y))))
   |none=>none else none
  |_,_=>none
 |_=>none
theorem S6{g i:Nat}{fe:Fe PV}(h:MEJ K C te fe):MS K C (uY (tBM K "list" NK (my i) (gR te qi)) (lD g)) (Lq g i fe):=by
 intro F H σ ρ D o R e P;unfold Lq at e;split at e
 ·rename_i l hl;obtain⟨a,g1,⟨xs,g2,g3⟩,g4,g5⟩:=R.ow i _ (bC hl);refine⟨_,g1,tyL g2,h.oA R e P λp ρ1 v F1 H1 hk s1 R1 w=>?_⟩;split at hk
  ·rename_i l1 k hl1;split at hk
   ·rename_i hk0;split at hk
    ·rename_i y hy;cases hk;cases Rep.aZ w;obtain⟨a',k1,⟨ys,k2,k3⟩,k4,k5⟩:=R1.ow i _ (bC hl1);rw[g1] at k1;cases k1;obtain⟨x,hx,rx⟩:=k3.get hy;have kl:k.toNat<ys.length:=by rw[k3.1];exact(Zas.mp hy).1
     refine⟨a,ys,k,k.toNat,x,rfl,rfl,k2,by omega,by omega,?_,hx,P F1 _ _ s1 ((R1.write (p':=.lst (l1.eraseIdx k.toNat)) (bC hl1) g1 ⟨_,aN,k3.erase _⟩).set g rx)⟩
     unfold seqIndex?;rw[Zal (by omega:¬k<0),Zag (by simp;omega)]
    ·cases hk
   ·cases hk
  ·cases hk
 ·cases e
end
def spR(K:PySem.W.Frag)(j:Nat)(m:List PV->Option (Res PV)):Sp:=λvs H Q _=>∃ ps F a p q p',aL F H/\Eg K F a p j vs ps/\Own K F H a p/\F a=none/\m ps=some (.ok (.tup [q,p'])) /\
 ∀ v F' H',Xn a F H F' H'->Own K F' H' a p'->F' a=none->Rep K F' v q->Q v H'
def POR(K:PySem.W.Frag)(C:Cg)(F:Hp)(D:Ends):Out->Prop
 |.rt (.tup [q,p'])=>∀ v F' H' a,aL F F'->RB C.toCf F' H'->(C.io a\/(C.nw/\C.H0 a=none))->Own K F' H' a p'->F' a=none->Rep K F' v q->D.rt v H'
 |_=>False
def MSR(K:PySem.W.Frag)(C:Cg)(t:TS)(f:Sn):Prop:=∀ F H σ ρ D o,RE K C.toCf F H σ ρ->f ρ=some o->POR K C F D o->t D σ H
def JX(j:Nat)(fe:Fn PV):Sn:=λρ=>gb (fe ρ) λq=>match ownAt j ρ with
 |some p=>some (.rt (.tup [q,p]))
 |none=>none
section
variable{K:PySem.W.Frag}{C:Cg}{t u:TS}{te:TE}{f g:Sn}{N:List Str}{vs:List V}{H:Hp}{Q:VK}{E:XK}{m:List PV->Option (Res PV)}{b:Sn}{n j:Nat}
theorem POR.up{F F1:Hp}{D:Ends}{o:Out}(h:POR K C F D o)(s:aL F F1):POR K C F1 D o:=by
 unfold POR at h ⊢;split at h
 ·exact λv F' H' a s'=>h v F' H' a (s.trans s')
 ·exact h.elim
theorem JZ(h1:MS K C t f)(h2:MSR K C u g):MSR K C (KC t u) (oO f g):=by
 intro F H σ ρ D o R e P;unfold oO at e;split at e
 ·rename_i ρ' h;exact h1 F H σ ρ _ _ R h λF' H' σ' s R'=>h2 F' H' σ' ρ' D o R' e (P.up s)
 ·cases e
theorem S7{fe:Fn PV}(h:MJ K C (aF K) te fe):MSR K C (GQ te) (JX j fe):=by
 intro F H σ ρ D o R e P;rcases bK e with⟨z,e1,rfl⟩|⟨q,e1,hk⟩
 ·exact P.elim
 refine h F H σ ρ _ _ R e1 λv F1 H1 u1 a=>?_;split at hk
 ·rename_i p hp;cases hk;obtain⟨b,g1,g2,g3,g4⟩:=(R.up u1).ow j _ (bC hp);exact P v F1 H1 b u1.ff (R.rb.up u1) g4 g2 g3 a
 ·cases hk
theorem S8(h:spR K j m vs H Q E){k:Nat}(hm:∀ ps r,m ps=some r->ps.length=k):vs.length=k:=by
 obtain⟨ps,F,a,p,q,p',s,rp,w,hn,e,P⟩:=h;rw[rp.1];exact hm ps _ e
theorem S9{k:Nat}(hk:N.length=k+n)(hm:∀ ps r,m ps=some r->ps.length=k/\fin (b (cL j ps n))=some r)(h:spR K j m vs H Q E)(hS:∀ (a:Addr) (H0 F0:Hp),MSR K (C1 a H0 F0) t b) :
  t { nx:=λ_ H'=>Q .non H',rt:=Q } (start N vs) H:=by
 obtain⟨ps,F,a,p,q,p',s,rp,w,hn,e,P⟩:=h;obtain⟨hl,e⟩:=hm ps _ e;have R:=wD (E:=E0) (N:=N) (n:=n) s rp w hn (by rw[rp.1,hl];exact hk)
 cases ho:b (cL j ps n) with
 |none=>rw[ho] at e;cases e
 |some o=>
  rw[ho] at e;cases o with
  |rt r=>
   cases e;refine hS a H F F H _ _ _ _ R ho λv F' H' c s' rb hc ow nf rv=>?_;have hc:c=a:=hc.elim id λz=>z.1.elim;subst hc;exact P v F' H' ⟨s',λb o q hb=>rb.keep b o q hb,rb.new,rb.sub⟩ ow nf rv
  |nx ρ=>cases e
  |ex z=>cases e
  |_=>cases e
end
def eIO(i:Nat)(m:List PV->Option (Res PV))(f:Fn (List PV)):Fe PV:=λρ=>match ownAt i ρ with
 |some _=>bnd (f ρ) λl=>match m l with
  |some (.ok (.tup [q,p']))=>some (.ok (q,ρ.set i (some (.ow p'))))
  |_=>none
 |none=>none
section
variable{K:PySem.W.Frag}{C:Cg}{t:TA}{f:Fn (List PV)}{m:List PV->Option (Res PV)}{E:XK}
theorem oU{i j:Nat}(h:MAH K C i j t f):MEJ K C (m9 (spR K j m) [] E t) (eIO i m f):=by
 intro F H σ ρ Q r R e P;unfold eIO at e;split at e
 case h_2=>cases e
 rename_i p hp;have hp:=bC hp;obtain⟨a,ea,w,hn,h4⟩:=R.ow i p hp;rcases aX e with⟨z,e1,rfl⟩|⟨l,e1,e2⟩
 ·exact h F H σ ρ _ _ a p R hp ea e1 P
 refine h F H σ ρ _ _ a p R hp ea e1 λxs F1 H1 u rr=>?_;split at e2
 ·rename_i q p' hm;cases e2;have R1:=R.up u;obtain⟨a',ea',w',hn',_⟩:=R1.ow i p hp;rw[ea] at ea';cases ea';exact⟨l,F1,a,p,q,p',u.fh,by rw[Zaw];exact rr,w',hn',hm,λv F2 H2 u2 w2 n2 rv=>P F2 H2 (u.ff.trans u2.ff) (R1.Yh hp ea u2 w2 n2) v rv⟩
 ·cases e2
end
structure Xz(a:Addr)(F H F' H':Hp):Prop where
 ff:aL F F'
 hb:SameBut a H H'
 fr:∀ b o,F' b=some o->F b=some o\/Frz H b o\/b=a
 fh:aL F' H'
def spG(K:PySem.W.Frag)(m:List PV->Option (Res PV)):Sp:=λvs H Q _=>∃ ps F a p q,aL F H/\Eg K F a p 0 vs ps/\Own K F H a p/\F a=none/\m ps=some (.ok q)/\∀ v F' H',Xz a F H F' H'->Rep K F' v q->Q v H'
section
variable{K:PySem.W.Frag}{t:TS}{N:List Str}{vs:List V}{H F:Hp}{Q:VK}{E:XK}{m:List PV->Option (Res PV)}{b:Sn}{n:Nat}{a:Addr}{p:PV}{ps:List PV}
theorem J0(h:spG K m vs H Q E){k:Nat}(hm:∀ ps r,m ps=some r->ps.length=k):vs.length=k:=by
 obtain⟨ps,F,a,p,q,s,rp,w,hn,e,P⟩:=h;rw[rp.1];exact hm ps _ e
theorem Lr(s:aL F H)(r:Eg K F a p 0 vs ps)(w:Own K F H a p)(hn:F a=none)(hN:N.length=vs.length+n):RE K ⟨λ_=>False,True,del H a,F,E⟩ F H (start N vs) (cL 0 ps n):=by
 have R:=wD (E:=E) (N:=N) (n:=n) s r w hn hN;refine⟨⟨s,λb o q _=>?_,λ_ _ h=>.inl h,λ_ h=>h.elim⟩,R.len,R.sh,λi q e=>?_,R.dis,⟨_,RD.no λi q e=>?_⟩⟩
 ·have q:del H a b=some o:=q;by_cases hb:b=a
  ·subst hb;rw[Ep] at q;cases q
  ·rw[HY hb] at q;exact q
 ·obtain⟨c,e1,e2,e3,e4⟩:=R.ow i q e;have hc:c=a:=e4.elim id λz=>z.1.elim;subst hc;exact⟨c,e1,e2,e3,.inr ⟨trivial,Ep⟩⟩
 ·obtain⟨q',e1,e2⟩:=iY e;by_cases hij:i=0
  ·rw[Zag hij] at e2;cases e2
  ·rw[Zal hij] at e2;cases e2
theorem J1{k:Nat}(hk:N.length=k+n)(hm:∀ ps r,m ps=some r->ps.length=k/\fin (b (cL 0 ps n))=some r)(h:spG K m vs H Q E)(hS:∀ (io:Addr->Prop) (H0 F0:Hp),(∀ a,¬io a)->MS K (C0 io H0 F0) t b) :
  t { nx:=λ_ H'=>Q .non H',rt:=Q } (start N vs) H:=by
 obtain⟨ps,F,a,p,q,s,rp,w,hn,e,P⟩:=h;obtain⟨hl,e⟩:=hm ps _ e;have R:=Lr (E:=E0) (N:=N) (n:=n) s rp w hn (by rw[rp.1,hl];exact hk)
 have up:∀ {F' H':Hp},aL F F'->RB ⟨λ_=>False,True,del H a,F,E0⟩ F' H'->Xz a F H F' H':=λ{F' H'} s' rb=>⟨s',λc o q hc=>rb.keep c o (show del H a c=some o by rw[HY hc];exact q) id,λc o q=>by
  rcases rb.new c o q with z|z|z
  ·exact .inl z
  ·by_cases hc:c=a
   ·exact .inr (.inr hc)
   ·have z:del H a c=none:=z;rw[HY hc] at z;exact .inr (.inl (.inl z))
  ·exact .inr (.inl (.inr z)),rb.sub⟩
 have M:=hS (λ_=>False) (del H a) F (λ_ h=>h);cases ho:b (cL 0 ps n) with
 |none=>rw[ho] at e;cases e
 |some o=>
  rw[ho] at e;refine M F H _ _ _ o R ho ?_;cases o with
  |nx ρ=>cases e;exact λF' H' σ s' R'=>P .non F' H' (up s' R'.rb) .non
  |rt p=>cases e;exact λv F' H' s' rb rv=>P v F' H' (up s' rb) rv
  |ex z=>exact λ_ _ _ _ _ _ x=>x.elim
  |ro p=>cases e
  |rd p=>cases e
  |bk ρ=>cases e
  |ct ρ=>cases e
end
def EY(m:List PV->Option (Res PV))(fa:Fn PV)(fs:Fn (List PV)):Fn PV:=λρ=>bnd (fa ρ) λp=>bnd (fs ρ) λl=>match m (p::l) with
 |some (.ok q)=>some (.ok q)
 |_=>none
section
variable{K:PySem.W.Frag}{C:Cg}{ta:TE}{t:TA}{fa:Fn PV}{fs:Fn (List PV)}{m:List PV->Option (Res PV)}{E:XK}
theorem J3(ha:MO K C ta fa)(hs:MA K C t fs):MJ K C (aF K) (m9 (spG K m) [] E (gR ta t)) (EY m fa fs):=by
 intro F H σ ρ Q r R e P;rcases aX e with⟨z,e1,rfl⟩|⟨p,e1,hk⟩
 ·exact ha F H σ ρ _ _ R e1 P
 refine ha F H σ ρ _ _ R e1 λa F1 H1 u1 n0 n1 w1=>?_;rcases aX hk with⟨z,e2,rfl⟩|⟨l,e2,hk2⟩
 ·exact hs F1 H1 σ ρ _ _ (R.up u1) e2 (PX.up P u1.ff)
 refine hs F1 H1 σ ρ _ _ (R.up u1) e2 λxs F2 H2 u2 rl=>?_;split at hk2
 case h_2=>cases hk2
 rename_i q hm;cases hk2;obtain⟨ob,eo⟩:=w1.ne;have nw:New H F1 H1 (λb=>b=a):=λb hb=>by subst hb;exact⟨n0,n1,ob,eo,λys z=>by subst z;exact w1.uM eo⟩
 have n2:F2 a=none:=((nw.up u2) a rfl).2.1;refine⟨p::l,F2,a,p,q,u2.fh,?_,w1.up u2.ff λo z=>u2.hh _ _ z,n2,hm,λv F' H' g rv=>P v F' H' ⟨(u1.trans u2).ff.trans g.ff,λb o z=>?_,λb o z=>?_,g.fh⟩ rv⟩
 ·rw[Zaw];refine⟨by simp[rl.1],rfl,rfl,λk x q hk e1 e2=>?_⟩
  cases k with
  |zero=>exact absurd rfl hk
  |succ k=>exact rl.2 k x q (by simpa using e1) (by simpa using e2)
 ·exact g.hb b o ((u1.trans u2).hh b o z) λhb=>by subst hb;rw[n0] at z;cases z
 ·rcases g.fr b o z with y|y|y
  ·exact(u1.trans u2).fr b o y
  ·exact .inr (y.imp (λy=>(u1.trans u2).hh.free y) id)
  ·subst y;exact .inr (.inl n0)
end
structure OC(K:PySem.W.Frag)(c:Str)(Ca:Addr):Prop where
 ns:nsIn K mainGlobals c=some (some (.ref Ca))
 cl:Cls K Ca
def ig(cls g:Str)(f:Fn PV):Fn PV:=λρ=>bnd (f ρ) λp=>match p with
 |.obj c l=>if c=cls then(l.lookup g).map .ok else none
 |_=>none
def je(cls mn:Str)(m:List PV->Option (Res PV))(fa:Fn PV)(fs:Fn (List PV)):Fn PV:=λρ=>bnd (fa ρ) λp=>match p with
 |.obj c l=>if c=cls/\l.lookup mn=none then bnd (fs ρ) λxs=>m (.obj c l::xs) else none
 |_=>none
section
variable{K:PySem.W.Frag}{C:Cg}{F H:Hp}{σ:St}{ρ:Rho}{v:V}{c cls g mn:Str}{l:List (Str×PV)}{Ca:Addr}{te ta:TE}{t:TA}{f fa:Fn PV}{fs:Fn (List PV)}{m:List PV->Option (Res PV)}
theorem Rep.mQ(h:Rep K F v (.obj c l)):∃ a Ca dx xs,v=.ref a/\XNm K Ca c/\F a=some (.ins Ca dx xs)/\xs.map (·.1)=l.map (·.1)/\∀ (j:Nat) x p,xs[j]?=some x->l[j]?=some p->Rep K F x.2 p.2:=by
 cases h with
 |obj nm h hl hr=>exact⟨_,_,_,_,rfl,nm,h,hl,hr⟩
theorem lookup_none:∀ {xs:List (Str×V)}{l:List (Str×PV)},xs.map (·.1)=l.map (·.1)->l.lookup mn=none->xs.lookup mn=none
 |[],[],_,_=>rfl
 |[],_::_,h,_=>by simp at h
 |_::_,[],h,_=>by simp at h
 |(k,v)::xs,(k',q)::l,h,e=>by
  simp only[Zao,Zbn] at h;obtain⟨rfl,h⟩:=h;by_cases hg:(mn==k)=true
  ·simp only[List.lookup,hg] at e;cases e
  ·rw[Zbq] at hg;simp only[List.lookup,hg] at e ⊢;exact lookup_none h e
theorem dz(O:OC K cls Ca)(n:gQ K Ca g)(h:MJ K C (aF K) te f):MJ K C (aF K) (Rv K te g) (ig cls g f):=by
 intro F H σ ρ Q r R e P;refine h.run R e P λp v F1 H1 hk u a=>?_;split at hk
 ·rename_i c l;split at hk
  ·rename_i hc;subst hc;obtain⟨p,hp,rfl⟩:=ZaD.mp hk;obtain⟨b,Ca',dx,xs,rfl,nm,h1,h3,h4⟩:=Rep.mQ a;have:=nm.ns;rw[O.ns] at this;cases this;obtain⟨v,hv,rv⟩:=mO h3 h4 hp;exact⟨b,Ca,dx,xs,v,rfl,u.fh _ _ h1,O.cl,n,hv,P v F1 H1 u rv⟩
  ·cases hk
 ·cases hk
theorem Tc{sp:Sp}{E:XK}{Q:VK}{r:Res PV}{ok:PV->Prop}(O:OC K cls Ca)(ha:MJ K C (aF K) ta fa)(hs:MA K C t fs)(R:RE K C.toCf F H σ ρ)(e:je cls mn m fa fs ρ=some r)(P:Pr C F ok r)
  (go:∀ ps xs F1 H1,m ps=some r->Up F H F1 H1->bw K F1 xs ps->sp xs H1 Q E):uJ Ca mn sp [] E ta t σ H Q:=by
 refine ha.run R e P λp v F1 H1 hk u a=>?_;split at hk
 ·rename_i c l;split at hk
  ·rename_i hc;obtain⟨rfl,hn⟩:=hc;obtain⟨b,Ca',dx,xs,rfl,nm,h1,h3,h4⟩:=Rep.mQ a;have:=nm.ns;rw[O.ns] at this;cases this;refine⟨b,dx,xs,rfl,u.fh _ _ h1,lookup_none h3 hn,?_⟩;refine hs.run (R.up u) hk (Pr.mono P u.ff λ_ q=>q) λls ys F2 H2 hk2 u2 rl=>?_;rw[Zaw];exact go _ _ F2 H2 hk2 (u.trans u2) (rl.cons (Rep.up a u2.ff))
  ·cases hk
 ·cases hk
end
theorem Dp.mQ{K:PySem.W.Frag}{F H:Hp}{S:Addr->Prop}{v:V}{c:Str}{l:List (Str×PV)}(d:Dp K F H S v (.obj c l)):∃ (T:Nat->Addr->Prop) (a Ca dx:Addr) (xs:List (Str×V)),v=.ref a/\XNm K Ca c/\H a=some (.ins Ca dx xs)/\S a/\(∀ j b,T j b->S b/\b≠a)/\(∀ i j b,T i b->T j b->i=j)/\xs.map (·.1)=l.map (·.1)/\∀ (j:Nat) x p,xs[j]?=some x->l[j]?=some p->Dp K F H (T j) x.2 p.2:=by
 cases d with
 |fr r st=>cases st
 |obj nm h hp hs dj hl hr=>exact⟨_,_,_,_,_,rfl,nm,h,hp,hs,dj,hl,hr⟩
theorem Fb{f:Str}{y:V}:∀ {fs:List (Str×V)},fs.lookup f=none->nW f y fs=fs++[(f,y)]
 |[],_=>rfl
 |(k,v)::fs,h=>by
  by_cases hk:(f==k)=true
  ·simp only[List.lookup,hk] at h;cases h
  ·rw[Zbq] at hk;simp only[List.lookup,hk] at h;have hne:k≠f:=λz=>by rw[z] at hk;simp at hk
   unfold nW;rw[Zal hne,Fb h];rfl
def POi(K:PySem.W.Frag)(C:Cg)(F:Hp)(D:Ends)(σ:St):Out->Prop
 |.nx ρ=>∀ F' H',aL F F'->RE K C.toCf F' H' σ ρ->D.nx σ H'
 |.ex z=>PX C F z
 |_=>False
def MSi(K:PySem.W.Frag)(C:Cg)(t:TS)(f:Sn):Prop:=∀ F H σ ρ D o,RE K C.toCf F H σ ρ->f ρ=some o->POi K C F D σ o->t D σ H
def ik(f:Sn):Sn:=λρ=>match f ρ with
 |some (.nx ρ')=>some (.nx ρ')
 |some (.ex z)=>some (.ex z)
 |_=>none
theorem U0{K:PySem.W.Frag}{C:Cg}{t:TS}{f:Sn}(h:MSi K C t f):MS K C t (ik f):=by
 intro F H σ ρ D o R e P;unfold ik at e;split at e
 ·rename_i ρ' h1;cases e;exact h F H σ ρ D _ R h1 λF' H' s R'=>P F' H' σ s R'
 ·rename_i z h1;cases e;exact h F H σ ρ D _ R h1 P
 ·cases e
theorem uR{K:PySem.W.Frag}{C:Cg}{t:TS}{f:Sn}{i:Nat}(h:MSi K C t f):MSk K C i t (ik f):=by
 intro F H σ ρ D o R e P;unfold ik at e;split at e
 ·rename_i ρ' h1;cases e;exact h F H σ ρ D _ R h1 λF' H' s R'=>P F' H' σ s R' rfl
 ·rename_i z h1;cases e;exact h F H σ ρ D _ R h1 P
 ·cases e
def ju(cls:Str)(i:Nat)(g:Str)(fe:Fn PV):Sn:=λρ=>match g8 i ρ with
 |some (.obj c l)=>if c=cls/\l.lookup g=none/\l.length<1000 then gb (fe ρ) λq=>some (.nx (ρ.set i (some (.dp (.obj c (l++[(g,q)])))))) else none
 |_=>none
section
variable{K:PySem.W.Frag}{C:Cg}{te:TE}{fe:Fn PV}{cls g:Str}{Ca:Addr}
theorem jL{i:Nat}(O:OC K cls Ca)(na:gQ K Ca g)(h:MD K C te fe):MSi K C (Vj K (my i) te g) (ju cls i g fe):=by
 intro F H σ ρ D o R e P;unfold ju at e;split at e
 case h_2=>cases e
 rename_i c l hl;split at e
 case isFalse=>cases e
 rename_i hc;obtain⟨rfl,hn,hlen⟩:=hc;obtain⟨P0,d0⟩:=R.dd;obtain⟨v0,e1,dp0⟩:=d0.dp i _ (bV hl);obtain⟨T,a,Ca',dx,xs,rfl,nm,ha,sa,ht,dj,hk,hr⟩:=dp0.mQ;have:=nm.ns;rw[O.ns] at this;cases this;have xl:xs.length=l.length:=by have:=Zbh List.length hk;simpa using this
 rcases bK e with⟨z,e2,rfl⟩|⟨q,e2,hq⟩
 ·exact h F H σ ρ _ _ R e2 P
 cases hq;refine h F H σ ρ _ _ R e2 λw F1 H1 S u d n=>?_;have ha1:=u.hh _ _ ha;refine⟨.ref a,e1,a,Ca,dx,xs,rfl,ha1,O.cl,na,by omega,?_⟩
 rw[Fb (lookup_none hk hn)];have R1:=R.up u;have d1:RD K C.toCf F1 H1 σ ρ P0:=d0.up u;have nS:∀ b,S b->b≠a:=λb z y=>by subst y;have:=(n b z).1;rw[ha] at this;cases this
 have nP:∀ b,S b->∀ j,¬P0 j b:=λb z j y=>by obtain⟨_,⟨o,c,_⟩,_⟩:=d0.own j b y;rw[(n b z).1] at c;cases c
 refine P F1 _ u.ff (R1.Bj d1 (bV hl) e1 sa (λys z=>by cases z) (S':=λb=>P0 i b\/S b) ?_ λb z=>?_)
 ·refine .obj (S:=λj b=>if j=xs.length then S b else j<xs.length/\T j b) nm aN (.inl sa) (λj b z=>?_) (λj k b z z'=>?_) (by rw[ZaG,ZaG,hk];rfl) λj x p c1 c2=>?_
  ·by_cases hj:j=xs.length
   ·simp only[hj,ZaV] at z;exact⟨.inr z,nS b z⟩
   ·simp only[hj,ZaH] at z;exact⟨.inl (ht j b z.2).1,(ht j b z.2).2⟩
  ·by_cases hj:j=xs.length<;>by_cases hk:k=xs.length
   ·rw[hj,hk]
   ·simp only[hj,hk,ZaV,ZaH] at z z';exact absurd (ht k b z'.2).1 (nP b z i)
   ·simp only[hj,hk,ZaV,ZaH] at z z';exact absurd (ht j b z.2).1 (nP b z' i)
   ·simp only[hj,hk,ZaH] at z z';exact dj j k b z.2 z'.2
  ·have tups:∀ b zs,H1 b=some (.tup zs)->upd H1 a (.ins Ca dx (xs++[(g,w)])) b=some (.tup zs):=λb zs c=>by
    rw[aK (λy=>by subst y;rw[ha1] at c;cases c)];exact c
   by_cases hj:j<xs.length
   ·rw[Zaj hj] at c1;rw[Zaj (by omega)] at c2
    simp only[show ¬j=xs.length by omega,ZaH]
    exact(((hr j x p c1 c2).stay u).up (aL.refl _) (λb o z c=>by rw[aK (ht j b z).2];exact c) tups).mono λb z=>⟨hj,z⟩
   ·rw[Zam (by omega)] at c1
    rw[Zam (by omega)] at c2
    have ej:j=xs.length:=by
     have:=bH c1;simp at this;omega
    subst ej;rw[Zcj] at c1;rw[xl,Zcj] at c2;cases c1;cases c2;simp only[ZaV];exact d.up (aL.refl _) (λb o z c=>by rw[aK (nS b z)];exact c) tups
 ·rcases z with z|z
  ·exact .inl z
  ·obtain⟨n0,n1,n2⟩:=n b z;exact .inr ⟨n1,n2,(d0.own i a sa).2.2.1,R.rb.nj n0,nP b z,λj q f g=>R.apart n0 j q f g⟩
end
def jw(H:Hp)(S:Addr->Prop):Hp:=λb=>@ite _ (S b) (Classical.propDecidable _) none (H b)
theorem mR{H:Hp}{S:Addr->Prop}{b:Addr}(h:S b):jw H S b=none:=@if_pos _ (Classical.propDecidable _) h _ _ _
theorem cX{H:Hp}{S:Addr->Prop}{b:Addr}(h:¬S b):jw H S b=H b:=@if_neg _ (Classical.propDecidable _) h _ _ _
structure SUp(S:Addr->Prop)(F H F' H':Hp):Prop where
 ff:aL F F'
 hb:∀ b o,H b=some o->¬S b->H' b=some o
 fr:∀ b o,F' b=some o->F b=some o\/Frz H b o\/S b
 fh:aL F' H'
def Rm(S:Addr->Prop)(F H:Hp):Prop:=∀ b,S b->F b=none/\∃ o,H b=some o/\∀ ys,o≠.tup ys
def spW(K:PySem.W.Frag)(m:List PV->Option (Res PV)):Sp:=λvs H Q E=>∃ v args p ps F S r,vs=v::args/\aL F H/\Dp K F H S v p/\Rm S F H/\bw K F args ps/\m (p::ps)=some r/\match r with
 |.ok (.tup [q,p'])=>∀ w F' H' S',SUp S F H F' H'->Dp K F' H' S' v p'->(∀ b,S' b->S b\/H b=none)->Rm S' F' H'->Rep K F' w q->Q w H'
 |.ok _=>False
 |.ex z=>∀ e d F' H',Up F H F' H'->XRS K F' e d z->E e d H'
section
variable{K:PySem.W.Frag}{C:Cg}{t u:TS}{N:List Str}{vs args:List V}{H F:Hp}{Q:VK}{E:XK}{m:List PV->Option (Res PV)}{b f g:Sn}{n:Nat}{ps:List PV}{v:V}{p:PV}{S:Addr->Prop}{te:TE}
theorem sS(h:spW K m vs H Q E){k:Nat}(hm:∀ ps r,m ps=some r->ps.length=k):vs.length=k:=by
 obtain⟨v,args,p,ps,F,S,r,rfl,_,_,_,rp,e,_⟩:=h;rw[<-hm _ _ e,ZaB,ZaB,rp.1]
theorem zK{ps:List PV}{n i:Nat}{s:Sl}(e:(startR ps n)[i]?=some (some s)):∃ p,s=.sh p:=by
 unfold startR at e;by_cases hi:i<ps.length
 ·rw[Zaj (by simpa using hi),Zaf] at e
  cases h:ps[i]? with
  |none=>rw[h] at e;cases e
  |some q=>rw[h] at e;cases e;exact⟨_,rfl⟩
 ·rw[Zam (by simpa using hi),ZaO] at e
  split at e<;>cases e
noncomputable abbrev oV(p:PV)(ps:List PV)(n:Nat):Rho:=some (.dp p)::startR ps n
theorem zL(s:aL F H)(d:Dp K F H S v p)(rm:Rm S F H)(r:bw K F args ps)(hN:N.length=args.length+1+n):RE K ⟨λ_=>False,True,jw H S,F,E⟩ F H (start N (v::args)) (oV p ps n):=by
 obtain⟨y,N',rfl⟩:∃ y N',N=y::N':=by
  cases N with
  |nil=>simp at hN;omega
  |cons y N'=>exact⟨y,N',rfl⟩
 have R:=iW (E:=E) (N:=N') (n:=n) s r (by simp at hN;omega)
 have st:start (y::N') (v::args)=some v::start N' args:=by unfold start;simp
 rw[st];have no:∀ {i:Nat}{q:PV},(oV p ps n)[i]?≠some (some (.ow q)):=λ{i q} e=>by
  cases i with
  |zero=>cases e
  |succ i=>obtain⟨_,z⟩:=zK (show(startR ps n)[i]?=_ from e);cases z
 refine⟨⟨s,λb o q _=>?_,λ_ _ h=>.inl h,λ_ h=>h.elim⟩,by simp[R.len],λi q e=>?_,λi q e=>absurd e no,λi k q q' a e=>absurd e no,⟨λj b=>j=0/\S b,λi b z=>?_,λi j b z z'=>by rw[z.1,z'.1],λi j q b z e=>absurd e no,λi q e=>?_⟩⟩
 ·have q:jw H S b=some o:=q;by_cases hb:S b
  ·rw[mR hb] at q;cases q
  ·rw[cX hb] at q;exact q
 ·cases i with
  |zero=>cases e
  |succ i=>exact R.sh i q e
 ·exact⟨(rm b z.2).1,(rm b z.2).2,trivial,mR z.2⟩
 ·cases i with
  |zero=>cases e;exact⟨v,rfl,d.mono λb z=>⟨rfl,z⟩⟩
  |succ i=>obtain⟨_,z⟩:=zK (show(startR ps n)[i]?=_ from e);cases z
theorem Ik{E:XK}{F' H':Hp}(s:aL F F')(rb:RB ⟨λ_=>False,True,jw H S,F,E⟩ F' H'):SUp S F H F' H':=
 ⟨s,λb o q hb=>rb.keep b o (show jw H S b=some o by rw[cX hb];exact q) id,λb o q=>by
  rcases rb.new b o q with z|z|z
  ·exact .inl z
  ·by_cases hb:S b
   ·exact .inr (.inr hb)
   ·have z:jw H S b=none:=z;rw[cX hb] at z;exact .inr (.inl (.inl z))
  ·exact .inr (.inl (.inr z)),rb.sub⟩
theorem Bs{c:Addr}(z:jw H S c=none):S c\/H c=none:=by
 by_cases hb:S c
 ·exact .inl hb
 ·rw[cX hb] at z;exact .inr z
def VR:Option Out->Option (Res PV)
 |some (.nx ρ)=>match g8 0 ρ with
  |some p=>some (.ok (.tup [.non,p]))
  |none=>none
 |_=>none
def Qd:Option Out->Option (Res PV)
 |some (.rt r)=>some (.ok r)
 |_=>none
theorem Qe{k:Nat}(hk:N.length=k+1+n)(hm:∀ ps r,m ps=some r->∃ p qs,ps=p::qs/\qs.length=k/\VR (b (oV p qs n))=some r)(h:spW K m vs H Q E)(hS:∀ (io:Addr->Prop) (H0 F0:Hp),(∀ a,¬io a)->MSk K (C0 io H0 F0) 0 t b) :
  t { nx:=λ_ H'=>Q .non H',rt:=Q } (start N vs) H:=by
 obtain⟨v,args,p,ps,F,S,r,rfl,s,d,rm,rp,e,P⟩:=h;obtain⟨p',qs,ee,hl,e⟩:=hm _ _ e;cases ee;have R:=zL (E:=E0) (N:=N) (n:=n) s d rm rp (by rw[rp.1,hl];exact hk)
 have M:=hS (λ_=>False) (jw H S) F (λ_ h=>h);have hst:(start N (v::args))[0]?=some (some v):=oJ rfl;cases ho:b (oV p ps n) with
 |none=>rw[ho] at e;cases e
 |some o=>
  rw[ho] at e;cases o with
  |nx ρ=>
   refine M F H _ _ _ _ R ho λF' H' σ' s' R' es=>?_;have e:(match g8 0 ρ with|some p=>some (Res.ok (PV.tup [.non,p]))|none=>none)=some r:=e
   split at e
   ·rename_i p1 hp;cases e;obtain⟨P1,d1⟩:=R'.dd;obtain⟨v1,e1,dp1⟩:=d1.dp 0 _ (bV hp);rw[es,hst] at e1;cases e1;exact P .non F' H' (P1 0) (Ik s' R'.rb) dp1 (λb z=>Bs (d1.own 0 b z).2.2.2) (λb z=>⟨(d1.own 0 b z).1,(d1.own 0 b z).2.1⟩) .non
   ·cases e
  |ex z=>cases e
  |_=>cases e
def POW(K:PySem.W.Frag)(C:Cg)(F:Hp)(D:Ends)(v:V):Out->Prop
 |.rt (.tup [q,p'])=>∀ w F' H' S',aL F F'->RB C.toCf F' H'->Dp K F' H' S' v p'->(∀ b,S' b->F' b=none/\(∃ o,H' b=some o/\∀ ys,o≠.tup ys)/\C.H0 b=none)->Rep K F' w q->D.rt w H'
 |_=>False
def Td(K:PySem.W.Frag)(C:Cg)(t:TS)(f:Sn):Prop:=∀ F H σ ρ D o v,RE K C.toCf F H σ ρ->σ[0]?=some (some v)->f ρ=some o->POW K C F D v o->t D σ H
def J5(fe:Fn PV):Sn:=λρ=>gb (fe ρ) λq=>match g8 0 ρ with
 |some p=>some (.rt (.tup [q,p]))
 |none=>none
theorem POW.up{F1:Hp}{D:Ends}{o:Out}(h:POW K C F D v o)(s:aL F F1):POW K C F1 D v o:=by
 unfold POW at h ⊢;split at h
 ·exact λw F' H' S' s'=>h w F' H' S' (s.trans s')
 ·exact h.elim
theorem wR(h1:MSk K C 0 t f)(h2:Td K C u g):Td K C (KC t u) (oO f g):=by
 intro F H σ ρ D o v R ev e P;unfold oO at e;split at e
 ·rename_i ρ' h;exact h1 F H σ ρ _ _ R h λF' H' σ' s R' es=>h2 F' H' σ' ρ' D o v R' (by rw[es];exact ev) e (P.up s)
 ·cases e
theorem Qf{fe:Fn PV}(h:MJ K C (aF K) te fe):Td K C (GQ te) (J5 fe):=by
 intro F H σ ρ D o v R ev e P;rcases bK e with⟨z,e1,rfl⟩|⟨q,e1,hk⟩
 ·exact P.elim
 refine h F H σ ρ _ _ R e1 λw F1 H1 u1 a=>?_;split at hk
 ·rename_i p hp;cases hk;obtain⟨P1,d1⟩:=(R.up u1).dd;obtain⟨v1,e1,dp1⟩:=d1.dp 0 _ (bV hp);rw[ev] at e1;cases e1;exact P w F1 H1 (P1 0) u1.ff (R.rb.up u1) dp1 (λb z=>⟨(d1.own 0 b z).1,(d1.own 0 b z).2.1,(d1.own 0 b z).2.2.2⟩) a
 ·cases hk
theorem Qg{k:Nat}(hk:N.length=k+1+n)(hm:∀ ps r,m ps=some r->∃ p qs,ps=p::qs/\qs.length=k/\Qd (b (oV p qs n))=some r)(h:spW K m vs H Q E)(hS:∀ (io:Addr->Prop) (H0 F0:Hp),(∀ a,¬io a)->Td K (C0 io H0 F0) t b) :
  t { nx:=λ_ H'=>Q .non H',rt:=Q } (start N vs) H:=by
 obtain⟨v,args,p,ps,F,S,r,rfl,s,d,rm,rp,e,P⟩:=h;obtain⟨p',qs,ee,hl,e⟩:=hm _ _ e;cases ee;have R:=zL (E:=E0) (N:=N) (n:=n) s d rm rp (by rw[rp.1,hl];exact hk)
 have M:=hS (λ_=>False) (jw H S) F (λ_ h=>h);cases ho:b (oV p ps n) with
 |none=>rw[ho] at e;cases e
 |some o=>
  rw[ho] at e;cases o with
  |rt r=>
   cases e;refine M F H _ _ _ _ v R (oJ rfl) ho ?_;unfold POW;split
   ·rename_i q p1 hq;cases hq;exact λw F' H' S' s' rb dp1 rm1 rw1=>P w F' H' S' (Ik s' rb) dp1 (λb z=>Bs (rm1 b z).2.2) (λb z=>⟨(rm1 b z).1,(rm1 b z).2.1⟩) rw1
   ·rename_i hn
    match r,P,hn with
    |.tup [q,p1],P,hn=>exact hn q p1 rfl
  |nx ρ=>cases e
  |ex z=>cases e
  |_=>cases e
end
section
variable{K:PySem.W.Frag}{F H F' H':Hp}{σ:St}{ρ:Rho}{v:V}{p':PV}
theorem RE.Qh{C:Cf}(R:RE K C F H σ ρ)(nw:C.nw){P:Nat->Addr->Prop}(d:RD K C F H σ ρ P){i:Nat}(e1:σ[i]?=some (some v)){S':Addr->Prop}(u:SUp (P i) F H F' H')(dp:Dp K F' H' S' v p')(hS:∀ b,S' b->P i b\/H b=none)(rm:Rm S' F' H') :
  RE K C F' H' σ (ρ.set i (some (.dp p'))):=by
 have out:∀ {b:Addr}{o:HO},H b=some o->(∀ ys,o≠.tup ys)->F b=none->¬P i b->F' b=none:=λ{b o} h1 h2 h3 h4=>by
  cases e:F' b with
  |none=>rfl
  |some o'=>
   rcases u.fr b o' e with z|z|z
   ·rw[h3] at z;cases z
   ·rcases z with z|⟨ys,z⟩
    ·rw[h1] at z;cases z
    ·subst z;have:=u.fh _ _ e;rw[u.hb b o h1 h4] at this;cases this;exact absurd rfl (h2 ys)
   ·exact absurd z h4
 refine⟨⟨u.fh,λb o q z=>?_,λb o q=>?_,λb z=>?_⟩,by simp[R.len],λj q f=>?_,λj q f=>?_,λj k q q' b f f' g g'=>?_,⟨λj b=>if j=i then S' b else P j b,λj b z=>?_,λj k b z z'=>?_,λj k q b z f g=>?_,λj q f=>?_⟩⟩
 ·exact u.hb b o (R.rb.keep b o q z) λy=>by rw[(d.own i b y).2.2.2] at q;cases q
 ·rcases u.fr b o q with z|z|z
  ·exact R.rb.new b o z
  ·exact .inr (z.imp (λz=>R.rb.nj z) id)
  ·exact .inr (.inl (d.own i b z).2.2.2)
 ·obtain⟨h1,h2⟩:=R.rb.ios b z;refine⟨?_,h2⟩;cases e:H b with
  |none=>exact absurd e h1
  |some o=>rw[u.hb b o e λy=>h2 (d.own i b y).2.2.2];simp
 ·rcases get_set f with⟨f1,f2⟩|⟨f1,f2⟩
  ·cases f2
  ·obtain⟨w,g1,g2⟩:=R.sh j q f2;exact⟨w,g1,g2.up u.ff⟩
 ·rcases get_set f with⟨f1,f2⟩|⟨f1,f2⟩
  ·cases f2
  ·obtain⟨b,g1,g2,g3,g4⟩:=R.ow j q f2;have nb:¬P i b:=λz=>d.ow i j q b z f2 g1;obtain⟨ob,eob⟩:=g2.ne;exact⟨b,g1,g2.up u.ff λo z=>u.hb b o z nb,out eob (λys z=>by subst z;exact g2.uM eob) g3 nb,g4⟩
 ·rcases get_set f with⟨f1,f2⟩|⟨f1,f2⟩
  ·cases f2
  ·rcases get_set f' with⟨f1',f2'⟩|⟨f1',f2'⟩
   ·cases f2'
   ·exact R.dis j k q q' b f2 f2' g g'
 ·by_cases hj:j=i
  ·simp only[hj,ZaV] at z;refine⟨(rm b z).1,(rm b z).2,nw,?_⟩;rcases hS b z with y|y
   ·exact(d.own i b y).2.2.2
   ·exact R.rb.nj y
  ·simp only[hj,ZaH] at z;obtain⟨k1,⟨o,k2,k3⟩,k4⟩:=d.own j b z;have nb:¬P i b:=λy=>hj (d.dis j i b z y);exact⟨out k2 k3 k1 nb,⟨o,u.hb b o k2 nb,k3⟩,k4⟩
 ·have ne:∀ j b,P j b->H b≠none:=λj b z y=>by obtain⟨_,⟨o,c,_⟩,_⟩:=d.own j b z;rw[y] at c;cases c
  by_cases hj:j=i<;>by_cases hk:k=i
  ·rw[hj,hk]
  ·simp only[hj,hk,ZaV,ZaH] at z z';rcases hS b z with y|y
   ·rw[hj];exact d.dis i k b y z'
   ·exact absurd y (ne k b z')
  ·simp only[hj,hk,ZaV,ZaH] at z z';rcases hS b z' with y|y
   ·rw[hk];exact d.dis j i b z y
   ·exact absurd y (ne j b z)
  ·simp only[hj,hk,ZaH] at z z';exact d.dis j k b z z'
 ·rcases get_set f with⟨f1,f2⟩|⟨f1,f2⟩
  ·cases f2
  ·by_cases hj:j=i
   ·simp only[hj,ZaV] at z;rcases hS b z with y|y
    ·exact d.ow i k q b y f2 g
    ·exact R.apart y k q f2 g
   ·simp only[hj,ZaH] at z;exact d.ow j k q b z f2 g
 ·rcases get_set f with⟨f1,f2⟩|⟨f1,f2⟩
  ·subst f1;cases f2;exact⟨v,e1,by simpa using dp⟩
  ·obtain⟨w,g1,g2⟩:=d.dp j q f2;refine⟨w,g1,?_⟩;have hj:¬j=i:=λz=>f1 z.symm;simp only[hj,ZaH];exact g2.up u.ff (λb o z y=>u.hb b o y λx=>hj (d.dis j i b z x)) λb ys y=>u.hb b _ y λx=>by obtain⟨_,⟨o,c,c3⟩,_⟩:=d.own i b x;rw[y] at c;cases c;exact c3 ys rfl
end
def Fd(cls:Str)(m:List PV->Option (Res PV))(f:Fn (List PV)):Fn PV:=λρ=>bnd (f ρ) λl=>match m (.obj cls []::l) with
 |some (.ok (.tup [.non,p]))=>some (.ok p)
 |_=>none
section
variable{K:PySem.W.Frag}{C:Cg}{t:TA}{f fs:Fn (List PV)}{m:List PV->Option (Res PV)}{cls mn:Str}{Ca:Addr}{E:XK}{i:Nat}
theorem J6(nm:XNm K Ca cls)(h:MA K C t f):MD K C (Nr Ca (spW K m) [] E t) (Fd cls m f):=by
 intro F H σ ρ Q r R e P;refine h.run R e P λl xs F1 H1 hk u a=>λx dx nx nd ne=>?_;split at hk
 case h_2=>cases hk
 rename_i p hm;cases hk;rw[Zaw];have h2:∀ {b:Addr},b≠x->b≠dx->upd (upd H1 dx (.own x)) x (.ins Ca dx []) b=H1 b:=λhx hd=>by rw[aK hx,aK hd]
 have s2:aL H1 (upd (upd H1 dx (.own x)) x (.ins Ca dx [])):=λb o q=>by
  rw[h2 (λz=>by subst z;rw[nx] at q;cases q) (λz=>by subst z;rw[nd] at q;cases q)];exact q
 have fx:F1 x=none:=u.fh.free nx;refine⟨.ref x,xs,.obj cls [],l,F1,λb=>b=x,_,rfl,u.fh.trans s2,.obj (S:=λ_ _=>False) nm aN rfl (λj b z=>z.elim) (λi j b z=>z.elim) rfl (λj y q z=>by simp at z),λb z=>by subst z;exact⟨fx,_,aN,λys z=>by cases z⟩,a,hm,λw F' H' S' su dp hS rm rw'=>⟨rw'.eG,?_⟩⟩
 have hx0:H x=none:=u.hh.free nx;have back:∀ b,upd (upd H1 dx (.own x)) x (.ins Ca dx []) b=none->H b=none:=λb q=>u.hh.free (s2.free q);refine P (.ref x) F' H' S' ⟨u.ff.trans su.ff,λb o q=>?_,λb o q=>?_,su.fh⟩ dp λb z=>⟨?_,(rm b z).1,(rm b z).2⟩
 ·exact su.hb b o (s2 b o (u.hh b o q)) λz=>by subst z;rw[hx0] at q;cases q
 ·rcases su.fr b o q with z|z|z
  ·exact u.fr b o z
  ·exact .inr (z.imp (back b) id)
  ·subst z;exact .inr (.inl hx0)
 ·rcases hS b z with y|y
  ·subst y;exact hx0
  ·exact back b y
def wU(cls mn:Str)(i:Nat)(m:List PV->Option (Res PV))(fs:Fn (List PV)):Sn:=λρ=>match g8 i ρ with
 |some (.obj c l)=>if c=cls/\l.lookup mn=none then gb (fs ρ) λxs=>match m (.obj c l::xs) with
  |some (.ok (.tup [.non,p']))=>some (.nx (ρ.set i (some (.dp p'))))
  |some (.ex z)=>some (.ex z)
  |_=>none else none
 |_=>none
theorem Qi{F H:Hp}{σ:St}{ρ:Rho}{o:Out}{Q:VK}(O:OC K cls Ca)(nw:C.nw)(hs:MA K C t fs)(R:RE K C.toCf F H σ ρ)(e:wU cls mn i m fs ρ=some o)
  (ho:∀ ρ',o=.nx ρ'->∀ w F' H',aL F F'->RE K C.toCf F' H' σ ρ'->w=.non->Q w H')(hx:∀ z,o=.ex z->fs ρ≠some (.ex z))(he:∀ z,o=.ex z->∀ e d F' H',Up F H F' H'->XRS K F' e d z->E e d H') :
  uJ Ca mn (spW K m) [] E (my i) t σ H Q:=by
 unfold wU at e;split at e
 case h_2=>cases e
 rename_i c l hl;split at e
 case isFalse=>cases e
 rename_i hc;obtain⟨rfl,hn⟩:=hc;obtain⟨P0,d0⟩:=R.dd;obtain⟨v0,e1,dp0⟩:=d0.dp i _ (bV hl);obtain⟨T,a,Ca',dx,xs,rfl,nm,ha,sa,ht,dj,hk,hr⟩:=dp0.mQ;have:=nm.ns;rw[O.ns] at this;cases this;refine⟨.ref a,e1,a,dx,xs,rfl,ha,lookup_none hk hn,?_⟩;rcases bK e with⟨z,e2,rfl⟩|⟨ls,e2,hq⟩
 ·exact absurd e2 (hx z rfl)
 refine hs F H σ ρ _ _ R e2 λys F1 H1 u rl=>?_;rw[Zaw];have R1:=R.up u;have d1:RD K C.toCf F1 H1 σ ρ P0:=d0.up u;obtain⟨v1,e1',dp1⟩:=d1.dp i _ (bV hl);rw[e1] at e1';cases e1';have rm1:Rm (P0 i) F1 H1:=λb z=>⟨(d1.own i b z).1,(d1.own i b z).2.1⟩;split at hq
 ·rename_i p' hm;cases hq;exact⟨.ref a,ys,_,ls,F1,P0 i,_,rfl,u.fh,dp1,rm1,rl,hm,λw F' H' S' su dp hS rm rw'=>ho _ rfl w F' H' (u.ff.trans su.ff) (R1.Qh nw d1 e1 su dp hS rm) rw'.eG⟩
 ·rename_i z hm;cases hq;exact⟨.ref a,ys,_,ls,F1,P0 i,_,rfl,u.fh,dp1,rm1,rl,hm,λe d F' H' u' x=>he z rfl e d F' H' (u.trans u') x⟩
 ·cases hq
def gF(cls mn:Str)(i:Nat)(m:List PV->Option (Res PV))(fs:Fn (List PV)):Sn:=λρ=>match fs ρ with
 |some (.ok _)=>wU cls mn i m fs ρ
 |_=>none
end
def XC(K:PySem.W.Frag)(C:Cg)(tb:XK->TS)(b:Sn):Prop:=∀ E F H σ ρ D o,RE K C.toCf F H σ ρ->b ρ=some o->(∀ ρ',o=.nx ρ'->∀ F' H',aL F F'->RE K C.toCf F' H' σ ρ'->D.nx σ H')->(∀ z,o=.ex z->∀ e d F' H',Up F H F' H'->XRS K F' e d z->E e d H')->(∃ ρ',o=.nx ρ')\/(∃ z,o=.ex z)->tb E D σ H
section
variable{K:PySem.W.Frag}{C:Cg}{t:TA}{fs:Fn (List PV)}{m:List PV->Option (Res PV)}{cls mn:Str}{Ca:Addr}{E:XK}{i:Nat}
theorem ur(O:OC K cls Ca)(nw:C.nw)(hs:MA K (Cq C) t fs):XC K C (λE=>uG (uJ Ca mn (spW K m) [] E (my i) t)) (gF cls mn i m fs):=by
 intro E F H σ ρ D o R e hn hx _;unfold gF at e;split at e
 ·rename_i l hl;exact Qi (C:=Cq C) O nw hs R e (λρ2 e2 w F' H' s' R' _=>hn ρ2 e2 F' H' s' R') (λz _ e3=>by rw[hl] at e3;cases e3) hx
 ·cases e
def Te(K:PySem.W.Frag)(C:Cg)(k:Nat)(th:THs)(h:PV->Sn):Prop:=∀ F H σ ρ D o z ev d,RE K C.toCf F H σ ρ->XRS K F ev d z->h z ρ=some o->POk K C F D k (σ[k]?) o->th ev d D σ H
def wV(b:Sn)(h:PV->Sn):Sn:=λρ=>match b ρ with
 |some (.ex z)=>h z ρ
 |some (.nx ρ')=>some (.nx ρ')
 |_=>none
theorem Tf{k:Nat}:Te K C k Xw UV:=λ_ _ _ _ _ _ _ _ _ _ _ e=>by cases e
theorem V0{k:Nat}{T:Addr}{tn:Str}{i:Nat}{ts:TS}{tr:THs}{sub:Str->Option Bool}{suite:Sn}{rest:PV->Sn}(hik:i≠k)(hT:nsIn K mainGlobals tn=some (some (.ref T)))(hsub:∀ c b,sub c=some b->PB K c tn b)
  (hs:MSk K C k ts suite)(hr:Te K C k tr rest):Te K C k (hAs K T i ts tr) (Sx sub i suite rest):=by
 intro F H σ ρ D o z ev d R x e P;obtain⟨c,l,Ca,rfl,rfl,nm,fx⟩:=id x;unfold Sx at e;dsimp only at e;split at e
 ·rename_i hb;obtain⟨Ca',T',h1,h2,h3⟩:=hsub c _ hb;rw[nm.ns] at h1;cases h1;rw[hT] at h2;cases h2;refine⟨Ca,true,rfl,h3,?_⟩;rw[Zag rfl];intro a na;have u:Up F H (upd F a (XO a Ca d)) (upd H a (XO a Ca d)):=Up.new R.rb.sub na;have rep:Rep K (upd F a (XO a Ca d)) (.ref a) (.exc c l):=by
   rcases fx with⟨rfl,rfl⟩|⟨dx,xs,rfl,_,hd,hl,hr'⟩
   ·exact .exc0 nm aN
   ·exact .exc nm aN (u.ff _ _ hd) hl λj x p a b=>(hr' j x p a b).up u.ff
  have k1:∀ (s:St) (w:Option V),(s.set i w)[k]?=s[k]?:=λs w=>Zab hik;cases ho:suite (ρ.set i (some (.sh (.exc c l)))) with
  |none=>rw[ho] at e;cases e
  |some oo=>
   rw[ho] at e;refine hs _ _ _ _ (Ends.gone D i) oo ((R.up u).set i rep) ho ?_;cases oo with
   |nx ρ'=>cases e;exact λF' H' σ' s' R' es=>P F' H' _ (u.ff.trans s') (R'.gone i) (by rw[k1,es,k1])
   |bk ρ'=>cases e;exact λF' H' σ' s' R' es=>P F' H' _ (u.ff.trans s') (R'.gone i) (by rw[k1,es,k1])
   |ct ρ'=>cases e;exact λF' H' σ' s' R' es=>P F' H' _ (u.ff.trans s') (R'.gone i) (by rw[k1,es,k1])
   |rt p=>cases e;exact λv F' H' s' rb rv=>P v F' H' (u.ff.trans s') rb rv
   |ro p=>cases e;exact λv F' H' s' rb rv=>P v F' H' (u.ff.trans s') rb rv
   |rd p=>cases e;exact λv F' H' S s'=>P v F' H' S (u.ff.trans s')
   |ex z=>cases e;exact PX.up P u.ff
 ·rename_i hb;obtain⟨Ca',T',h1,h2,h3⟩:=hsub c _ hb;rw[nm.ns] at h1;cases h1;rw[hT] at h2;cases h2;refine⟨Ca,false,rfl,h3,?_⟩;rw[Zal (by decide)]
  exact hr F H σ ρ D o _ _ _ R x e P
 ·cases e
def wW(i:Nat)(m:List PV->Option (Res PV))(fs:Fn (List PV)):Fe PV:=λρ=>match g8 i ρ with
 |some p=>bnd (fs ρ) λxs=>match m (p::xs) with
  |some (.ok (.tup [q,p']))=>some (.ok (q,ρ.set i (some (.dp p'))))
  |_=>none
 |none=>none
theorem Tg(nw:C.nw)(hs:MA K C t fs):MEJ K C (m9 (spW K m) [] E (gR (my i) t)) (wW i m fs):=by
 intro F H σ ρ Q r R e P;unfold wW at e;split at e
 case h_2=>cases e
 rename_i p hp;obtain⟨P0,d0⟩:=R.dd;obtain⟨v0,e1,dp0⟩:=d0.dp i _ (bV hp);refine⟨v0,e1,?_⟩;rcases aX e with⟨z,e2,rfl⟩|⟨ls,e2,hq⟩
 ·exact hs F H σ ρ _ _ R e2 P
 refine hs F H σ ρ _ _ R e2 λys F1 H1 u rl=>?_;show spW K m ((v0::ys)++[]) H1 Q E
 rw[Zaw];have R1:=R.up u;have d1:RD K C.toCf F1 H1 σ ρ P0:=d0.up u;obtain⟨v1,e1',dp1⟩:=d1.dp i _ (bV hp);rw[e1] at e1';cases e1';split at hq
 ·rename_i q p' hm;cases hq;exact⟨v0,ys,p,ls,F1,P0 i,_,rfl,u.fh,dp1,λb z=>⟨(d1.own i b z).1,(d1.own i b z).2.1⟩,rl,hm,λw F' H' S' su dp hS rm rw'=>P F' H' (u.ff.trans su.ff) (R1.Qh nw d1 e1 su dp hS rm) w rw'⟩
 ·cases hq
end
def yr:List (Str×PV)->Str->PV->List (Str×PV)
 |[],_,_=>[]
 |(k,v)::l,g,q=>if(g==k)=true then(k,q)::l else(k,v)::yr l g q
theorem wX{g:Str}{q:PV}:∀ {xs:List (Str×V)}{l:List (Str×PV)},xs.map (·.1)=l.map (·.1)->l.lookup g=some q->∃ j y,xs.lookup g=some y/\xs[j]?=some (g,y)/\l[j]?=some (g,q)/\∀ q',yr l g q'=l.set j (g,q')
 |[],[],_,e=>by simp at e
 |[],_::_,h,_=>by simp at h
 |_::_,[],h,_=>by simp at h
 |(k,v)::xs,(k',p)::l,h,e=>by
  simp only[Zao,Zbn] at h;obtain⟨rfl,h⟩:=h;by_cases hg:(g==k)=true
  ·simp only[List.lookup,hg] at e;cases e;obtain rfl:=eq_of_beq hg;exact⟨0,v,by simp only[List.lookup,hg],rfl,rfl,λq'=>by simp only[yr,hg,ZaV];rfl⟩
  ·rw[Zbq] at hg;simp only[List.lookup,hg] at e;obtain⟨j,y,e1,e2,e3,e4⟩:=wX h e;exact⟨j+1,y,by simp only[List.lookup,hg];exact e1,e2,e3,λq'=>by simp only[yr,hg,Zbg,ZaH,e4 q'];rfl⟩
structure Ent(K:PySem.W.Frag)(F H:Hp)(S:Addr->Prop)(v:V)(p:PV):Prop where
 s:aL F H
 d:Dp K F H S v p
 rm:Rm S F H
 tt:∀ b,S b->∀ xs,H b≠some (.xd xs)
theorem Dp.XF{K:PySem.W.Frag}{F H:Hp}{P:Addr->Prop}{v:V}{p:PV}(d:Dp K F H P v p):Dp K F H (λb=>P b/\∀ xs,H b≠some (.xd xs)) v p:=by
 induction d with
 |fr h st=>exact .fr h st
 |@lst P S a xs l h hp hs dj hl _ ih=>exact .lst (S:=λj b=>S j b/\∀ xs,H b≠some (.xd xs)) h ⟨hp,λxs z=>by rw[h] at z;cases z⟩ (λj b q=>⟨⟨(hs j b q.1).1,q.2⟩,(hs j b q.1).2⟩) (λi j b q q'=>dj i j b q.1 q'.1) hl ih
 |@tup P S a xs l h hs dj hl _ ih=>exact .tup (S:=λj b=>S j b/\∀ xs,H b≠some (.xd xs)) h (λj b q=>⟨hs j b q.1,q.2⟩) (λi j b q q'=>dj i j b q.1 q'.1) hl ih
 |@dk P S a xs l h hp hs dj hl _ ih=>exact .dk (S:=λj b=>S j b/\∀ xs,H b≠some (.xd xs)) h ⟨hp,λxs z=>by rw[h] at z;cases z⟩ (λj b q=>⟨⟨(hs j b q.1).1,q.2⟩,(hs j b q.1).2⟩) (λi j b q q'=>dj i j b q.1 q'.1) hl ih
 |@dt P S a xs l h hp hs dj hl _ ih=>exact .dt (S:=λj b=>S j b/\∀ xs,H b≠some (.xd xs)) h ⟨hp,λxs z=>by rw[h] at z;cases z⟩ (λj b q=>⟨⟨(hs j b q.1).1,q.2⟩,(hs j b q.1).2⟩) (λi j b q q'=>dj i j b q.1 q'.1) hl ih
 |@obj P S a Ca dx c xs l nm h hp hs dj hl _ ih=>exact .obj (S:=λj b=>S j b/\∀ xs,H b≠some (.xd xs)) nm h ⟨hp,λxs z=>by rw[h] at z;cases z⟩ (λj b q=>⟨⟨(hs j b q.1).1,q.2⟩,(hs j b q.1).2⟩) (λi j b q q'=>dj i j b q.1 q'.1) hl ih
noncomputable abbrev Cc(K:PySem.W.Frag)(E:XK)(F H:Hp)(S:Addr->Prop):Cg:=CE K E (λ_=>False) H (lg F H S)
noncomputable abbrev Cw(F H:Hp)(S:Addr->Prop):Cg:=C0 (λ_=>False) (jw H S) F
def XH:Option Sl->Bool
 |none=>true
 |some (.sh q)=>q.still
 |some (.ow q)=>q.vA
 |some (.dp _)=>false
def clr(s:Option Sl):Option Sl:=if XH s=true then s else none
def Ls(p:PV)(g:Sn):Sn:=λρ=>match ρ with
 |_::r=>g (some (.dp p)::r.map clr)
 |[]=>none
def sU(f g:Sn):Sn:=λρ=>match f ρ with
 |some (.nx ρ')=>g ρ'
 |some (.ex (.exc c l))=>if(l.all λkv=>kv.2.still)=true then some (.ex (.exc c l)) else none
 |_=>none
def Lw:Option Out->Option (Res PV)
 |some (.nx ρ)=>match g8 0 ρ with
  |some p=>some (.ok (.tup [.non,p]))
  |none=>none
 |some (.ex z)=>some (.ex z)
 |_=>none
def POC(K:PySem.W.Frag)(E:XK)(F H:Hp)(S:Addr->Prop)(v:V)(D:Ends):Out->Prop
 |.nx ρ=>∀ F' H' σ,aL F F'->RE K (Cw F H S).toCf F' H' σ ρ->σ[0]?=some (some v)->D.nx σ H'
 |.ex z=>∀ ev d F' H',Up F H F' H'->XRS K F' ev d z->E ev d H'
 |_=>False
def Th(K:PySem.W.Frag)(E:XK)(F H:Hp)(S:Addr->Prop)(v:V)(t:TS)(f:Sn):Prop:=
 ∀ F1 H1 σ ρ D o,RE K (Cc K E F H S).toCf F1 H1 σ ρ->aL (lg F H S) F1->σ[0]?=some (some v)->f ρ=some o->POC K E F H S v D o->t D σ H1
section
variable{K:PySem.W.Frag}{E:XK}{F H F1 H1:Hp}{S:Addr->Prop}{v:V}{p:PV}{t u:TS}{f g:Sn}{σ:St}{ρ:Rho}
theorem Ti(en:Ent K F H S v p){F1 H1:Hp}(rb:RB (Cc K E F H S).toCf F1 H1)(s0:aL (lg F H S) F1):Up F H (jw F1 S) H1:=by
 have sH:aL H H1:=λb o q=>rb.keep b o q id;have fd:∀ {b:Addr}{o:HO},jw F1 S b=some o->¬S b/\F1 b=some o:=λ{b o} q=>by
  by_cases z:S b
  ·rw[mR z] at q;cases q
  ·rw[cX z] at q;exact⟨z,q⟩
 refine⟨λb o q=>?_,sH,λb o q=>?_,λb o q=>rb.sub b o (fd q).2⟩
 ·have nb:¬S b:=λz=>by rw[(en.rm b z).1] at q;cases q
  rw[cX nb];exact s0 b o (fL en.s b o q)
 ·obtain⟨nb,q⟩:=fd q;rcases rb.new b o q with z|z|z
  ·have z:lg F H S b=some o:=z;by_cases hb:S b\/∃ ys,H b=some (.tup ys)
   ·rw[gB hb] at z;obtain⟨ys,y⟩:=hb.resolve_left nb;rw[y] at z;cases z;exact .inr (.inr ⟨ys,rfl⟩)
   ·rw[fj hb] at z;exact .inl z
  ·exact .inr (.inl z)
  ·exact .inr (.inr z)
theorem Il(en:Ent K F H S v p){F1 H1:Hp}(rb:RB (Cc K E F H S).toCf F1 H1){w:V}{q:PV}(r:Rep K F1 w q)(st:q.still=true):Rep K (jw F1 S) w q:=by
 refine r.kZ st λb ys q=>?_;have nb:¬S b:=λz=>by
  obtain⟨_,o,h1,h2⟩:=en.rm b z;have:=rb.keep b o h1 id;rw[rb.sub _ _ q] at this;cases this;exact h2 ys rfl
 rw[cX nb];exact q
theorem wY(en:Ent K F H S v p)(h1:MSk K (Cc K E F H S) 0 t f)(h2:Th K E F H S v u g):Th K E F H S v (KC t u) (sU f g):=by
 intro F1 H1 σ ρ D o R s0 ev e P;unfold sU at e;split at e
 ·rename_i ρ' h;exact h1 F1 H1 σ ρ _ _ R h λF' H' σ' s R' es=>h2 F' H' σ' ρ' D o R' (s0.trans s) (by rw[es];exact ev) e P
 ·rename_i c l h;split at e
  case isFalse=>cases e
  rename_i hst;cases e;refine h1 F1 H1 σ ρ _ _ R h λec d F' H' s rb x=>?_;obtain⟨c',l',Ca,e1,e2,nm,fx⟩:=x;cases e1;refine P ec d (jw F' S) H' (Ti en rb (s0.trans s)) ⟨c,l,Ca,rfl,e2,nm,?_⟩;rcases fx with⟨rfl,z⟩|⟨dx,xs,hd,ne,e3,e4,e5⟩
  ·exact .inl ⟨rfl,z⟩
  ·have nS:¬S dx:=λz=>by
    obtain⟨_,o,h1,_⟩:=en.rm dx z;have:=rb.keep dx o h1 id;rw[rb.sub _ _ e3] at this;cases this;exact en.tt dx z xs h1
   exact .inr ⟨dx,xs,hd,ne,by rw[cX nS];exact e3,e4,λj x q a b=>Il en rb (e5 j x q a b) (Zaq.mp hst q (Zap b))⟩
 ·cases e
theorem Bt(en:Ent K F H S v p)(h:MSk K (Cw F H S) 0 t g):Th K E F H S v t (Ls p g):=by
 intro F1 H1 σ ρ D o R s0 ev e P;unfold Ls at e;split at e
 case h_2=>cases e
 rename_i s1 r;have ok:∀ {i:Nat}{s:Sl},(r.map clr)[i]?=some (some s)->r[i]?=some (some s)/\XH (some s)=true:=λ{i s} h=>by
  rw[Zaf] at h;obtain⟨s',h1,h2⟩:=ZaD.mp h;unfold clr at h2;split at h2
  ·rename_i h3;subst h2;exact⟨h1,h3⟩
  ·cases h2
 have sH:aL H H1:=λb o q=>R.rb.keep b o q id;have d1:Dp K F H1 S v p:=en.d.up (aL.refl _) (λb o _ q=>sH b o q) λb ys q=>sH b _ q;have inS:∀ {b:Addr},S b->∃ o,H1 b=some o/\∀ ys,o≠.tup ys:=λ{b} z=>let⟨_,o,q,n⟩:=en.rm b z;⟨o,sH b o q,n⟩;have tupS:∀ {b:Addr}{ys:List V},F1 b=some (.tup ys)->¬S b:=λ{b ys} q z=>by
  obtain⟨o,h1,h2⟩:=inS z;rw[R.rb.sub _ _ q] at h1;cases h1;exact h2 ys rfl
 have tp:∀ b ys,F1 b=some (.tup ys)->jw F1 S b=some (.tup ys):=λb ys q=>by rw[cX (tupS q)];exact q
 have sF:aL F (jw F1 S):=λb o q=>by
  have nb:¬S b:=λz=>by rw[(en.rm b z).1] at q;cases q
  rw[cX nb];exact s0 b o (fL en.s b o q)
 have fd:∀ {b:Addr}{o:HO},jw F1 S b=some o->¬S b/\F1 b=some o:=λ{b o} q=>by
  by_cases z:S b
  ·rw[mR z] at q;cases q
  ·rw[cX z] at q;exact⟨z,q⟩
 have DW:∀ {w:V}{q:PV},Rep K F1 w q->q.still=true->Rep K (jw F1 S) w q:=λr st=>r.kZ st tp;have R2:RE K (Cw F H S).toCf (jw F1 S) H1 σ (some (.dp p)::r.map clr):=by
  refine⟨⟨λb o q=>R.rb.sub b o (fd q).2,λb o q _=>?_,λb o q=>?_,λ_ h=>h.elim⟩,by simpa using R.len,λi q e=>?_,λi q e=>?_,λi k q q' a e e' f f'=>?_,⟨λj b=>j=0/\S b,λi b z=>?_,λi j b z z'=>by rw[z.1,z'.1],λi j q b z e f=>?_,λi q e=>?_⟩⟩
  ·have q:jw H S b=some o:=q;by_cases z:S b
   ·rw[mR z] at q;cases q
   ·rw[cX z] at q;exact sH b o q
  ·obtain⟨nb,q⟩:=fd q;rcases R.rb.new b o q with z|z|z
   ·by_cases hb:S b\/∃ ys,H b=some (.tup ys)
    ·have z:lg F H S b=some o:=z;rw[gB hb] at z;obtain⟨ys,y⟩:=hb.resolve_left nb;rw[y] at z;cases z;exact .inr (.inr ⟨ys,rfl⟩)
    ·have z:lg F H S b=some o:=z;rw[fj hb] at z;exact .inl z
   ·have z:H b=none:=z;exact .inr (.inl (show jw H S b=none by rw[cX nb];exact z))
   ·exact .inr (.inr z)
  ·cases i with
   |zero=>cases e
   |succ i=>
    obtain⟨e,hq⟩:=ok e;obtain⟨w,g1,g2⟩:=R.sh (i+1) q e;exact⟨w,g1,DW g2 hq⟩
  ·cases i with
   |zero=>cases e
   |succ i=>
    obtain⟨e,sh⟩:=ok e;obtain⟨a,g1,g2,g3,g4⟩:=R.ow (i+1) q e;have na:H a=none:=(g4.resolve_left id).2;have nS:¬S a:=λz=>by obtain⟨_,o,c,_⟩:=en.rm a z;rw[na] at c;cases c
    have sh:q.vA=true:=sh;refine⟨a,g1,?_,by rw[cX nS];exact g3,.inr ⟨trivial,show jw H S a=none by rw[cX nS];exact na⟩⟩
    cases q with
    |lst l=>obtain⟨xs,k1,k2⟩:=g2;exact⟨xs,k1,k2.1,λj x q a b=>DW (k2.2 j x q a b) (Zaq.mp sh q (Zap b))⟩
    |dk l=>obtain⟨xs,k1,k2,k3⟩:=g2;exact⟨xs,k1,k2,λj x q a b=>DW (k3 j x q a b) (Zaq.mp sh q (Zap b))⟩
    |dt l=>obtain⟨xs,k1,k2,k3⟩:=g2;exact⟨xs,k1,k2,λj x q a b=>DW (k3 j x q a b) (Zaq.mp sh q (Zap b))⟩
    |_=>exact g2.elim
  ·cases i with
   |zero=>cases e
   |succ i=>
    cases k with
    |zero=>cases e'
    |succ k=>exact R.dis (i+1) (k+1) q q' a (ok e).1 (ok e').1 f f'
  ·exact⟨mR z.2,inS z.2,trivial,mR z.2⟩
  ·cases j with
   |zero=>cases e
   |succ j=>
    obtain⟨a,g1,g2,g3,g4⟩:=R.ow (j+1) q (ok e).1;rw[f] at g1;cases g1;have na:H b=none:=(g4.resolve_left id).2;obtain⟨_,o,c,_⟩:=en.rm b z.2;rw[na] at c;cases c
  ·cases i with
   |zero=>cases e;exact⟨v,ev,(d1.up sF (λb o _ q=>q) λb ys q=>q).mono λb z=>⟨rfl,z⟩⟩
   |succ i=>
    have:=(ok e).2;cases this
 refine h (jw F1 S) H1 σ _ D o R2 e ?_;cases o with
 |nx ρ'=>exact λF' H' σ' s' R' es=>P F' H' σ' (sF.trans s') R' (by rw[es];exact ev)
 |ex z=>exact λ_ _ _ _ _ _ x=>x.elim
 |rt p=>exact P.elim
 |ro p=>exact P.elim
 |rd p=>exact P.elim
 |bk ρ=>exact P.elim
 |ct ρ=>exact P.elim
theorem wZ{N:List Str}{vs:List V}{Q:VK}{m:List PV->Option (Res PV)}{b:PV->Sn}{k n:Nat}(hk:N.length=k+1+n)(hm:∀ ps r,m ps=some r->∃ p qs,ps=p::qs/\qs.length=k/\Lw (b p (startR (p::qs) n))=some r)(h:spW K m vs H Q E)
  (hS:∀ (F:Hp) (S:Addr->Prop) (v:V) (p:PV),Ent K F H S v p->Th K E F H S v t (b p)):t { nx:=λ_ H'=>Q .non H',rt:=Q } (start N vs) H:=by
 obtain⟨v,args,p,ps,F,S0,r,rfl,s,d0,rm0,rp,e,P0⟩:=h;obtain⟨p',qs,ee,hl,e⟩:=hm _ _ e;cases ee;have d:=d0.XF;generalize hS0:(λb=>S0 b/\∀ xs,H b≠some (.xd xs))=S at d
 have sub:∀ b,S b->S0 b/\∀ xs,H b≠some (.xd xs):=λb z=>by rw[<-hS0] at z;exact z
 have rm:Rm S F H:=λb z=>rm0 b (sub b z).1;have rp2:bw K (lg F H S) (v::args) (p::ps):=(rp.up (fL s)).cons (Ek d s);have R:=iW (E:=E) (N:=N) (n:=n) (rY s) rp2 (by rw[ZaB,rp.1,hl,hk])
 have M:=hS F S v p ⟨s,d,rm,λb z=>(sub b z).2⟩;have hst:(start N (v::args))[0]?=some (some v):=oJ rfl;cases ho:b p (startR (p::ps) n) with
 |none=>rw[ho] at e;cases e
 |some o=>
  rw[ho] at e;refine M _ H _ _ _ _ R (aL.refl _) hst ho ?_;cases o with
  |nx ρ=>
   intro F' H' σ' s' R' es;have e:(match g8 0 ρ with|some p=>some (Res.ok (PV.tup [.non,p]))|none=>none)=some r:=e
   split at e
   ·rename_i p1 hp;cases e;obtain⟨P1,d1⟩:=R'.dd;obtain⟨v1,e1,dp1⟩:=d1.dp 0 _ (bV hp);rw[es] at e1;cases e1;have su:=Ik s' R'.rb;exact P0 .non F' H' (P1 0) ⟨su.ff,λb o q n=>su.hb b o q λz=>n (sub b z).1,λb o q=>(su.fr b o q).imp id (·.imp id λz=>(sub b z).1),su.fh⟩ dp1 (λb z=>(Bs (d1.own 0 b z).2.2.2).imp (λz=>(sub b z).1) id) (λb z=>⟨(d1.own 0 b z).1,(d1.own 0 b z).2.1⟩) .non
   ·cases e
  |ex z=>cases e;exact P0
  |rt p=>cases e
  |ro p=>cases e
  |rd p=>cases e
  |bk ρ=>cases e
  |ct ρ=>cases e
end
def MethAt(P:Program)(w:World)(K:PySem.W.Frag)(mg:Str->Option Value)(base:Heap)(Ca:Addr)(mn:Str)(k:Nat)(ps:List Str)(sp:Sp):Prop:=
 ∃ (f:Addr) (fd:FuncData),Meth K Ca mn f/\Binds K fd ps []/\iU P w K mg base (CXS P w) k f fd ps sp
def Im(P:Program)(w:World)(K:PySem.W.Frag)(mg:Str->Option Value)(base:Heap)(Ca:Addr)(k:Nat)(ps:List Str)(sp:Sp):Prop:=
 ∃ (f:Addr) (fd:FuncData),Mk K Ca f/\Binds K fd ps []/\iU P w K mg base CX0 k f fd ps sp
theorem pY{X:Cx}:jE (CXS X.prog X.w) X E0:=λ_ _ _ _ _ _ _ h=>(CXS.no h).elim
section
variable{X:Cx}{k:Nat}{ps:List Str}{sp:Sp}{x mn:Str}{Ca:Addr}{p pos apos:Pos}{e o:Expr}{es:List Expr}{t:TA}{ta:TE}{E:XK}{pl:Sem Bool}
theorem jz(hx:jE (CXS X.prog X.w) X E)(G:MethAt X.prog X.w X.K X.mg X.base Ca mn k ps sp)(c:Cls X.K Ca)(hr:cU k X.A)(he:PE X o ta)
  (ht:eval (.Call (.Attribute o mn apos) [] [] pos) X.env=(do
   let ov <-eval o X.env
   standAt apos.atName
   let(f,first) <-holding [ov] (getMethod ov mn pl)
   callWith pos f first (backTo pos (starEach [] X.env)) (backToKw pos (keywordEach [] X.env))):=by rfl):PE X (.Call (.Attribute o mn apos) [] [] pos) (uJ Ca mn sp [] E ta qi):=by
 obtain⟨f,fd,e1,e2,e3⟩:=G;exact Nu he c e1 e3 hr e2 .nil hx ht
theorem jA(G:MethAt X.prog X.w X.K X.mg X.base Ca mn k ps sp)(c:Cls X.K Ca)(hr:cU k X.A)(he:PE X.nox o ta)(ha:PA X.nox (e::es) t)
  (hst:starEach (e::es) X.env=(false,eval e X.env)::starEach es X.env:=by rfl)(hpl:(backTo pos (starEach es X.env)).any (·.1)=false:=by rfl)
  (ht:eval (.Call (.Attribute o mn apos) (e::es) [] pos) X.env=(do
   let ov <-eval o X.env
   standAt apos.atName
   let(f,first) <-holding [ov] (getMethod ov mn pl)
   callWith pos f first (backTo pos (starEach (e::es) X.env)) (backToKw pos (keywordEach [] X.env))):=by rfl):VM X (.Call (.Attribute o mn apos) (e::es) [] pos) (λE=>uJ Ca mn sp [] E ta t):=by
 obtain⟨f,fd,hm,hb,F⟩:=G;intro pins σ E xe hx s H Q I h;refine PySem.W.methodCall_KW (pl:=pl) (ZaK (he pins s σ H _ (I.wish _) h) (?_) λ_ _ z=>z.elim) ht;rintro u s1 ⟨x,H1,I1,rx,a,dx,fs,ex,ea,l,q⟩;subst ex;obtain rfl:u=Value.ref a:=rx;refine vO I1.gP ea c hm l ?_;refine Zb0 (first:=[.ref a]) (h₀:=X.base) I.ok.mod.kin hm.kp (ZaK (ha pos pins s1 σ H1 _ I1 q) (λus s2 ⟨vs,H2,I2,r,q2⟩=>⟨I2.kIn,?_⟩) λ_ _ z=>z.elim) hst hpl;have I2:=I2.gP;have q':sp (.ref a::(vs++[])) H2 Q E:=q2;rw[Zaw] at q';have r2:Vals (.ref a::vs) (.ref a::us):=.cons rfl r;have hl:(Value.ref a::us).length=ps.length:=by rw[<-r2.length];exact F.len _ _ _ _ q'
 have hb':=hb s2 (Value.ref a::us) I2.kIn (by rw[Zaw];exact hl)
 rw[Zaw] at hb';refine wpAny_call (codeAny_mono (F.run X.A X.stack s2 H2 ⟨.ref a::us,[]⟩ (.ref a::us) (.ref a::vs) Q E hr I2.env0 hb' r2 q') λr s' hq=>?_);cases r with
 |error ev=>exact hx H2 s2 ev s' I2 hq
 |ok fl=>
  cases fl with
  |ret u=>exact I2.after hq
  |next=>exact False.elim hq
  |brk=>exact False.elim hq
  |cont=>exact False.elim hq
theorem Ff(G:Im X.prog X.w X.K X.mg X.base Ca k ps sp)(hr:cU (k+1) X.A)(hg:Gl X x)(hm:X.mg x=some (.ref Ca))(ha:PA X (e::es) t)(hdb:(x==("__debug__":Str))=false:=by decide)
  (he:starEach (e::es) X.env=(false,eval e X.env)::starEach es X.env:=by rfl)(hpl:(backTo pos (starEach es X.env)).any (·.1)=false:=by rfl):PE X (.Call (.Name x p) (e::es) [] pos) (Nr Ca sp [] E0 t):=by
 obtain⟨f,fd,e1,e2,e3⟩:=G;exact Rx e1 e3 hr hg hm e2 .nil Ue ha hdb he hpl
end
section
variable{P:Program}{w:World}{K:PySem.W.Frag}{mg:Str->Option Value}{base:Heap}
theorem _root_.L2.Fun.okX{x qual:Str}{st:Stmt}{f:Addr}{fd:FuncData}{N ps:List Str}{k:Nat}{sp:Sp}(F:Fun K x qual st f fd)(S:aU N ps (aM st))(len:∀ vs H Q E,sp vs H Q E->vs.length=ps.length)
  (hbody:∀ (cdv:Value) (A:Around) (outer:List Env) (s:Shared) (H:Hp) (vs:List V) (Q:VK) (E:XK),cU k (A.deeper (envOfC qual (aM st) s.heap.objs.size f cdv))->sp vs H Q E ->
   ∃ t,PSs (cxX P w K mg base N qual (aM st) f cdv A outer s H E) (gA st) t/\t { nx:=λ_ H'=>Q .non H',rt:=Q } (start N vs) H):iU P w K mg base (CXS P w) (k+1) f fd ps sp:=by
 obtain⟨oc,od,kV,doc,pm,an,cdv,ct,osl,rfl,lk,hcd⟩:=F.ex;refine Ny lk hcd S len λA outer s H vs Q E hr hsp=>?_;obtain⟨t,h,q⟩:=hbody cdv A outer s H vs Q E hr hsp;exact⟨t,PSs.ofX (λe s' z=>leaves z) h,q⟩
end
def vd(f:Fn PV):Fn PV:=λρ=>match f ρ with
 |some (.ok p)=>some (.ok p)
 |_=>none
section
variable{K:PySem.W.Frag}{C:Cg}{te:TE}{k:Nat}
theorem w6{fe:Fn PV}(h:MJ K C (aF K) te fe):MSk K C k (uG te) (nu fe):=by
 intro F H σ ρ D o R e P;rcases bK e with⟨z,e1,rfl⟩|⟨p,e1,hk⟩
 ·exact h F H σ ρ _ _ R e1 P
 ·cases hk;exact h F H σ ρ _ _ R e1 λv F1 H1 u a=>P F1 H1 σ u.ff (R.up u) rfl
end
section
variable{X:Cx}{e o value:Expr}{f:Str}{pos pos':Pos}{ta tv:TE}
theorem cM(K:PySem.W.Frag)(hK:X.K=K)(he:PE X e ta)(hb:attributeBase e f X.env (eval e X.env)=eval e X.env):PE X (.Attribute e f pos) (Rv K ta f):=hK▸Vk he hb
theorem sV(K:PySem.W.Frag)(hK:X.K=K)(ha:PE X o ta)(hv:PE X value tv)(hs:swapsWith value (some (.Attribute o f pos')) pos.line X.env=pure false):PS X (.Assign [.Attribute o f pos'] value pos) (Vj K ta tv f):=hK▸Vl ha hv hs
end
end L2.MP
namespace L2
open PySem PySem.Spec PyProof PyProof.Rows
namespace MP
end MP
end L2
namespace L2.MP
open PySem PySem.Spec PyProof.Rows
structure At(K:PySem.W.Frag)(F H:Hp)(S:Addr->Prop)(v:V)(p:PV)(T:Addr->Prop)(v1:V)(q:PV)(put:PV->PV):Prop where
 d:Dp K F H T v1 q
 sub:∀ b,T b->S b
 upd:∀ (F' H':Hp) (T':Addr->Prop) (q':PV),aL F F'->(∀ b o,S b->¬T b->H b=some o->H' b=some o)->(∀ b ys,H b=some (.tup ys)->H' b=some (.tup ys))->(∀ b,T' b->T b\/¬S b)->Dp K F' H' T' v1 q'->Dp K F' H' (λb=>(S b/\¬T b)\/T' b) v (put q')
section
variable{K:PySem.W.Frag}{F F1 H H1:Hp}{S T U T':Addr->Prop}{v v1 v2:V}{p q r:PV}{put nd:PV->PV}
theorem At.refl(d:Dp K F H S v p):At K F H S v p S v p id:=⟨d,λ_ h=>h,λF' H' T' q' _ _ _ hT d'=>d'.mono λb z=>.inr z⟩
theorem At.trans(A:At K F H S v p T v1 q put)(B:At K F H T v1 q U v2 r nd):At K F H S v p U v2 r (λr'=>put (nd r')) where
 d:=B.d
 sub:=λb z=>A.sub b (B.sub b z)
 upd:=λF' H' T' r' sf sh ht hT d'=>by
  have n:=B.upd F' H' T' r' sf (λb o tb nb e=>sh b o (A.sub b tb) nb e) ht (λb z=>(hT b z).imp id λy x=>y (A.sub b x)) d';refine(A.upd F' H' _ _ sf (λb o sb nb e=>sh b o sb (λz=>nb (B.sub b z)) e) ht (λb z=>?_) n).mono λb z=>?_
  ·rcases z with⟨z,_⟩|z
   ·exact .inl z
   ·rcases hT b z with y|y
    ·exact .inl (B.sub b y)
    ·exact .inr y
  ·rcases z with⟨z,y⟩|⟨z,y⟩|z
   ·exact .inl ⟨z,λx=>y (B.sub b x)⟩
   ·exact .inl ⟨A.sub b z,y⟩
   ·exact .inr z
theorem At.up(A:At K F H S v p T v1 q put)(u:Up F H F1 H1):At K F1 H1 S v p T v1 q put:=
 ⟨A.d.stay u,A.sub,λF' H' T' q' sf sh ht hT d'=>A.upd F' H' T' q' (u.ff.trans sf) (λb o sb nb e=>sh b o sb nb (u.hh b o e)) (λb ys e=>ht b ys (u.hh b _ e)) hT d'⟩
def rms(T:Nat->Addr->Prop)(j:Nat)(T':Addr->Prop):Nat->Addr->Prop:=λk b=>(k=j/\T' b)\/(k≠j/\T k b)
theorem V1{T:Nat->Addr->Prop}{j:Nat}{a:Addr}(ht:∀ j b,T j b->S b/\b≠a)(dj:∀ i j b,T i b->T j b->i=j)(sa:S a)(hT:∀ b,T' b->T j b\/¬S b):∀ k b,rms T j T' k b->((S b/\¬T j b)\/T' b)/\b≠a:=by
 rintro k b (⟨rfl,z⟩|⟨n,z⟩)
 ·refine⟨.inr z,λe=>?_⟩;rcases hT b z with y|y
  ·exact(ht k b y).2 e
  ·exact y (by rw[e];exact sa)
 ·exact⟨.inl ⟨(ht k b z).1,λy=>n (dj k j b z y)⟩,(ht k b z).2⟩
theorem Qj{T:Nat->Addr->Prop}{j:Nat}(ht:∀ j b,T j b->S b)(dj:∀ i j b,T i b->T j b->i=j)(hT:∀ b,T' b->T j b\/¬S b):∀ i k b,rms T j T' i b->rms T j T' k b->i=k:=by
 rintro i k b (⟨rfl,z⟩|⟨n,z⟩) (⟨rfl,z'⟩|⟨n',z'⟩)
 ·rfl
 ·rcases hT b z with y|y
  ·exact absurd (dj k i b z' y) n'
  ·exact absurd (ht k b z') y
 ·rcases hT b z' with y|y
  ·exact absurd (dj i k b z y) n
  ·exact absurd (ht i b z) y
 ·exact dj i k b z z'
theorem map_set{κ:Type}{l:List (κ×PV)}{k:κ}{q q':PV}{j:Nat}(e:l[j]?=some (k,q)):(l.set j (k,q')).map (·.1)=l.map (·.1):=by
 apply ZbA
 intro i;rw[Zaf,Zaf,Zbo];by_cases h:j=i
 ·subst h;rw[Zag rfl,Zag (bH e),e];rfl
 ·rw[Zal h]
theorem V2{c g:Str}{l:List (Str×PV)}(d:Dp K F H S v (.obj c l))(hg:l.lookup g=some r):∃ a Ca dx xs x U,v=.ref a/\XNm K Ca c/\H a=some (.ins Ca dx xs)/\xs.lookup g=some x/\At K F H S v (.obj c l) U x r (λr'=>.obj c (yr l g r')):=by
 obtain⟨T,a,Ca,dx,xs,rfl,nm,ha,sa,ht,dj,hkk,hr⟩:=d.mQ;obtain⟨j,y,x1,x2,x3,x4⟩:=wX hkk hg;have na:¬T j a:=λz=>(ht j a z).2 rfl;refine⟨a,Ca,dx,xs,y,T j,rfl,nm,ha,x1,hr j _ _ x2 x3,λb z=>(ht j b z).1,λF' H' T' r' sf sh tp hT d'=>?_⟩;refine .obj (S:=rms T j T') nm (sh a _ sa na ha) (.inl ⟨sa,na⟩) (V1 ht dj sa hT) (Qj (λj b z=>(ht j b z).1) dj hT) (by rw[x4,map_set x3];exact hkk) λk x q c1 c2=>?_
 rw[x4,Zbo] at c2;by_cases hjk:j=k
 ·subst hjk;rw[Zag rfl,Zag (bH x3)] at c2;cases c2;rw[x2] at c1;cases c1;exact d'.mono λb z=>.inl ⟨rfl,z⟩
 ·rw[Zal hjk] at c2;exact((hr k x q c1 c2).up sf (λb o z e=>sh b o (ht k b z).1 (λy=>hjk (dj j k b y z)) e) tp).mono λb z=>.inr ⟨Za0 hjk,z⟩
end
noncomputable abbrev Nf:=Rho->PV->Option (PV×(PV->PV))
def MNd(K:PySem.W.Frag)(C:Cg)(te:TE)(i:Nat)(f:Nf):Prop:=
 ∀ F H σ ρ Q S v p q put,RE K C.toCf F H σ ρ->σ[i]?=some (some v)->Dp K F H S v p->f ρ p=some (q,put)->(∀ v1 T F' H',Up F H F' H'->At K F' H' S v p T v1 q put->Q v1 H')->te σ H Q
def Fg:Nf:=λ_ p=>some (p,id)
def Io(cls g:Str)(f:Nf):Nf:=λρ p=>match f ρ p with
 |some (.obj c l,put)=>if c=cls then(match l.lookup g with
  |some r=>some (r,λr'=>put (.obj c (yr l g r')))
  |none=>none) else none
 |_=>none
section
variable{K:PySem.W.Frag}{C:Cg}{te tk tv:TE}{i:Nat}{f:Nf}{fk fe:Fn PV}{cls g:Str}{Ca:Addr}
theorem sW:MNd K C (my i) i Fg:=by
 intro F H σ ρ Q S v p q put R e d hf P;cases hf;exact⟨v,e,P v S F H (Up.refl R.rb.sub) (.refl d)⟩
theorem Bu(O:OC K cls Ca)(na:gQ K Ca g)(h:MNd K C te i f):MNd K C (Rv K te g) i (Io cls g f):=by
 intro F H σ ρ Q S v p q put R e d hf P;unfold Io at hf;split at hf
 case h_2=>cases hf
 rename_i c l put0 h0;split at hf
 case isFalse=>cases hf
 rename_i hc;subst hc;split at hf
 case h_2=>cases hf
 rename_i r hr;cases hf;refine h F H σ ρ _ S v p _ _ R e d h0 λv1 T F1 H1 u A=>?_;obtain⟨a,Ca',dx,xs,x,U,rfl,nm,ha,hx,B⟩:=V2 A.d hr;have:=nm.ns;rw[O.ns] at this;cases this;exact⟨a,Ca,dx,xs,x,rfl,ha,O.cl,na,hx,P x U F1 H1 u (A.trans B)⟩
theorem zM{κ:Type}[DecidableEq κ](k:κ)(p:PV):∀ l:List (κ×PV),wG l k p=if(l.any λe=>decide (e.1=k))=true then l.map (λe=>if e.1=k then(e.1,p) else e) else l++[(k,p)]
 |[]=>rfl
 |(a,q)::l=>by
  have ih:=zM k p l;have no:¬(l.any λe=>decide (e.1=k))=true->l.map (λe=>if e.1=k then(e.1,p) else e)=l:=λh=>by
   have:∀ e∈l,¬e.1=k:=λe he z=>h (Zcd.mpr ⟨e,he,ZaT z⟩)
   calc _=l.map id:=Zbr λe he=>Zal (this e he)
    _=l:=List.map_id l
  unfold wG;rw[Zbw,Zao];by_cases h:a=k
  ·simp only[h,ZaV,decide_true,Bool.true_or];by_cases h2:(l.any λe=>decide (e.1=k))=true
   ·rw[Zag h2,ih,Zag h2]
   ·rw[Zal h2,no h2]
  ·simp only[h,ZaH,decide_false,Bool.false_or];rw[ih];by_cases h2:(l.any λe=>decide (e.1=k))=true
   ·rw[Zag h2,Zag h2]
   ·rw[Zal h2,Zal h2];rfl
theorem Tj{κ:Type}[DecidableEq κ]{k:κ}{v:V}{p:PV}{xs:List (κ×V)}{l:List (κ×PV)}(h:xs.map (·.1)=l.map (·.1)):(putK xs k v).map (·.1)=(wG l k p).map (·.1)/\∀ (j:Nat) y r,(putK xs k v)[j]?=some y->(wG l k p)[j]?=some r->(y.2=v/\r.2=p)\/(xs[j]?=some y/\l[j]?=some r):=by
 have ea:(xs.any λkv=>decide (kv.1=k))=(l.any λe=>decide (e.1=k)):=by
  have e1:(xs.any λkv=>decide (kv.1=k))=((xs.map (·.1)).any λx=>decide (x=k)):=by rw[List.any_map];rfl
  have e2:(l.any λkv=>decide (kv.1=k))=((l.map (·.1)).any λx=>decide (x=k)):=by rw[List.any_map];rfl
  rw[e1,e2,h]
 have ey:∀ (j:Nat) y r,xs[j]?=some y->l[j]?=some r->y.1=r.1:=λj y r a b=>by
  have:(xs.map (·.1))[j]?=(l.map (·.1))[j]?:=by rw[h]
  rw[Zaf,Zaf,a,b] at this;exact Zaa this
 have len:xs.length=l.length:=by have:=Zbh List.length h;simpa using this
 rw[zM];unfold putK;rw[ea];by_cases c:(l.any λe=>decide (e.1=k))=true
 ·rw[Zag c,Zag c];refine⟨?_,λj y r a b=>?_⟩
  ·rw[Zbb,Zbb];have f1:((λx:κ×V=>x.1) ∘ λkv=>if kv.1=k then(kv.1,v) else kv)=λx=>x.1:=by funext x;show(if x.1=k then(x.1,v) else x).1=x.1;split<;>rfl
   have f2:((λx:κ×PV=>x.1) ∘ λkv=>if kv.1=k then(kv.1,p) else kv)=λx=>x.1:=by funext x;show(if x.1=k then(x.1,p) else x).1=x.1;split<;>rfl
   rw[f1,f2];exact h
  ·rw[Zaf] at a b;obtain⟨y0,a1,a2⟩:=ZaD.mp a;obtain⟨r0,b1,b2⟩:=ZaD.mp b;have e:=ey j y0 r0 a1 b1;by_cases hk:y0.1=k
   ·rw[Zag hk] at a2;rw[Zag (by rw[<-e];exact hk)] at b2
    subst a2 b2;exact .inl ⟨rfl,rfl⟩
   ·rw[Zal hk] at a2;rw[Zal (by rw[<-e];exact hk)] at b2
    subst a2 b2;exact .inr ⟨a1,b1⟩
 ·rw[Zal c,Zal c];refine⟨by rw[ZaG,ZaG,h];rfl,λj y r a b=>?_⟩
  rcases Nat.lt_or_ge j l.length with hj|hj
  ·rw[Zaj (by omega)] at a b
   exact .inr ⟨a,b⟩
  ·rw[Zam (by omega)] at a b
   have ej:j-l.length=0:=by have:=bH b;simp at this;omega
   rw[len,ej] at a;rw[ej] at b;cases a;cases b;exact .inl ⟨rfl,rfl⟩
theorem kW{F:Hp}{y:V}{k:PV}{k':Key}(ry:Rep K F y k)(hk:jH k=some k'):y=kV k':=by
 cases k with
 |int i=>cases hk;exact Rep.aZ ry
 |str z=>cases hk;exact Rep.bI ry
 |_=>cases hk
def Fi(i:Nat)(f:Nf)(fe fk:Fn PV):Sn:=λρ=>gb (fe ρ) λx=>match g8 i ρ with
 |some p=>(match f ρ p with
  |some (.dk l,put)=>gb (fk ρ) λk=>(match jH k with
   |some k=>if x.still=true/\l.length<sizeLine then some (.nx (ρ.set i (some (.dp (put (.dk (wG l k x))))))) else none
   |none=>none)
  |_=>none)
 |none=>none
theorem Fj(h:MNd K C te i f)(he:MJ K C (aF K) tv fe)(hk:MJ K C (aF K) tk fk):MSi K C (Ob te tk tv) (Fi i f fe fk):=by
 intro F H σ ρ D o R e P;rcases bK e with⟨z,e0,rfl⟩|⟨x,e0,hk1⟩
 ·exact he F H σ ρ _ _ R e0 P
 refine he F H σ ρ _ _ R e0 λv F1 H1 u a=>?_;split at hk1
 case h_2=>cases hk1
 rename_i p hp;split at hk1
 case h_2=>cases hk1
 rename_i l put h0;obtain⟨P0,d0⟩:=R.dd;obtain⟨v0,e1,dp0⟩:=(d0.up u).dp i _ (bV hp);refine h F1 H1 σ ρ _ (P0 i) v0 p _ _ (R.up u) e1 dp0 h0 λv1 T F2 H2 u2 A=>?_;have u12:=u.trans u2;rcases bK hk1 with⟨z,e2,rfl⟩|⟨k,e2,hk2⟩
 ·exact hk F2 H2 σ ρ _ _ (R.up u12) e2 (PX.up P u12.ff)
 refine hk F2 H2 σ ρ _ _ (R.up u12) e2 λy F3 H3 u3 ry=>?_;split at hk2
 case h_2=>cases hk2
 rename_i k' hk';split at hk2
 case isFalse=>cases hk2
 rename_i hst;cases hk2;have u13:=u12.trans u3;have A3:=A.up u3;obtain⟨U,w,xs,rfl,hw,tw,ht,dj,hkk,hr⟩:=A3.d.Bm;have len:xs.length=l.length:=by have:=Zbh List.length hkk;simpa using this
 rw[kW ry hk'];refine⟨w,_,rfl,K8.k hw (by rw[len];exact hst.2),P F3 _ u13.ff ?_⟩
 have R3:=R.up u13;have d3:RD K C.toCf F3 H3 σ ρ P0:=d0.up u13;have tups:∀ ob c zs,H3 c=some (.tup zs)->upd H3 w ob c=some (.tup zs):=λob c zs q=>by
  rw[aK (λy=>by subst y;rw[hw] at q;cases q)];exact q
 refine R3.Bj d3 (bV hp) e1 (A3.sub w tw) (λys z=>by cases z) (A3.upd F3 _ T _ (aL.refl _) (λb o _ nb q=>by rw[aK (λz=>by subst z;exact nb tw)];exact q) (tups _) (λb z=>.inl z) ?_) λb z=>.inl (z.elim (·.1) (A3.sub b))
 have par:=Tj (k:=k') (v:=v) (p:=x) hkk;refine .dk (S:=U) aN tw ht dj par.1 λj y r c1 c2=>?_;rcases par.2 j y r c1 c2 with⟨z1,z2⟩|⟨z1,z2⟩
 ·rw[z1,z2];exact .fr (Rep.up a (u2.trans u3).ff) hst.1
 ·exact(hr j y r z1 z2).up (aL.refl _) (λb o z q=>by rw[aK (λy=>by subst y;exact(ht j b z).2 rfl)];exact q) (tups _)
def Bv(i:Nat)(f:Nf)(fe fk:Fn PV):Sn:=λρ=>gb (fe ρ) λx=>match g8 i ρ with
 |some p=>(match f ρ p with
  |some (.dk l,put)=>gb (fk ρ) λk=>(match jH k with
   |some k=>if(eO l k).isNone=true/\l.length<sizeLine then some (.nx (ρ.set i (some (.dp (put (.dk (l++[(k,x)]))))))) else none
   |none=>none)
  |_=>none)
 |none=>none
theorem Dt{κ:Type}[DecidableEq κ]{k:κ}{v:V}{xs:List (κ×V)}(n:mG xs k=none):putK xs k v=xs++[(k,v)]:=by
 have:∀ ys:List (κ×V),mG ys k=none->(ys.any λkv=>decide (kv.1=k))=false:=by
  intro ys;induction ys with
  |nil=>intro _;rfl
  |cons y ys ih=>
   intro h;by_cases hy:y.1=k
   ·rw[lF hy] at h;cases h
   ·rw[iV hy] at h;rw[Zbw,ih h,ZaC hy];rfl
 unfold putK;rw[this xs n];rfl
theorem Lx(h:MNd K C te i f)(he:MD K C tv fe)(hk:MJ K C (aF K) tk fk):MSi K C (Ob te tk tv) (Bv i f fe fk):=by
 intro F H σ ρ D o R e P;rcases bK e with⟨z,e0,rfl⟩|⟨x,e0,hk1⟩
 ·exact he F H σ ρ _ _ R e0 P
 refine he F H σ ρ _ _ R e0 λv F1 H1 S2 u dx nx=>?_;split at hk1
 case h_2=>cases hk1
 rename_i p hp;split at hk1
 case h_2=>cases hk1
 rename_i l put h0;obtain⟨P0,d0⟩:=R.dd;obtain⟨v0,e1,dp0⟩:=(d0.up u).dp i _ (bV hp);refine h F1 H1 σ ρ _ (P0 i) v0 p _ _ (R.up u) e1 dp0 h0 λv1 T F2 H2 u2 A=>?_;have u12:=u.trans u2;rcases bK hk1 with⟨z,e2,rfl⟩|⟨k,e2,hk2⟩
 ·exact hk F2 H2 σ ρ _ _ (R.up u12) e2 (PX.up P u12.ff)
 refine hk F2 H2 σ ρ _ _ (R.up u12) e2 λy F3 H3 u3 ry=>?_;split at hk2
 case h_2=>cases hk2
 rename_i k' hk';split at hk2
 case isFalse=>cases hk2
 rename_i hst;cases hk2;have u13:=u12.trans u3;have u23:=u2.trans u3;have A3:=A.up u3;obtain⟨U,w,xs,rfl,hw,tw,ht,dj,hkk,hr⟩:=A3.d.Bm;have len:xs.length=l.length:=by have:=Zbh List.length hkk;simpa using this
 obtain⟨vn,_⟩:=Em hkk (Option.isNone_iff_eq_none.mp hst.1);rw[kW ry hk'];refine⟨w,_,rfl,K8.k hw (by rw[len];exact hst.2),P F3 _ u13.ff ?_⟩
 rw[Dt vn];have R3:=R.up u13;have d3:RD K C.toCf F3 H3 σ ρ P0:=d0.up u13;have n3:New H F3 H3 S2:=nx.up u23;have far:∀ b,S2 b->∀ j,¬P0 j b:=λb z j y=>by obtain⟨_,⟨o,c,_⟩,_⟩:=d0.own j b y;rw[(nx b z).1] at c;cases c
 have tups:∀ ob c zs,H3 c=some (.tup zs)->upd H3 w ob c=some (.tup zs):=λob c zs q=>by
  rw[aK (λy=>by subst y;rw[hw] at q;cases q)];exact q
 have cnw:=(d0.own i w (A3.sub w tw)).2.2.1;refine R3.Bj d3 (bV hp) e1 (A3.sub w tw) (λys z=>by cases z) (A3.upd F3 _ (λb=>T b\/S2 b) _ (aL.refl _) (λb o _ nb q=>by rw[aK (λz=>by subst z;exact nb tw)];exact q) (tups _) (λb z=>z.imp id λz=>far b z i) ?_) λb z=>?_
 ·have U1:∀ j b,U j b->j<l.length\/True:=λ_ _ _=>.inr trivial;refine .dk (S:=λj b=>(j<l.length/\U j b)\/(j=l.length/\S2 b)) aN (.inl tw) (λj b z=>?_) (λi j b z z'=>?_) (by rw[ZaG,ZaG,hkk];rfl) λj y r c1 c2=>?_
  ·rcases z with⟨_,z⟩|⟨_,z⟩
   ·exact⟨.inl (ht j b z).1,(ht j b z).2⟩
   ·exact⟨.inr z,λy=>by subst y;exact far b z i (A3.sub b tw)⟩
  ·rcases z with⟨_,z⟩|⟨k1,z⟩<;>rcases z' with⟨_,z'⟩|⟨k2,z'⟩
   ·exact dj i j b z z'
   ·exact absurd (A3.sub b (ht i b z).1) (far b z' _)
   ·exact absurd (A3.sub b (ht j b z').1) (far b z _)
   ·omega
  ·rcases Nat.lt_or_ge j l.length with hj|hj
   ·rw[Zaj (by omega)] at c1 c2
    exact((hr j y r c1 c2).up (aL.refl _) (λb o z q=>by rw[aK (λy=>by subst y;exact(ht j b z).2 rfl)];exact q) (tups _)).mono λb z=>.inl ⟨hj,z⟩
   ·rw[Zam (by omega)] at c1 c2
    have ej:j-l.length=0:=by have:=bH c2;simp at this;omega
    rw[len,ej] at c1;rw[ej] at c2;cases c1;cases c2;exact((dx.stay u23).up (aL.refl _) (λb o z q=>by rw[aK (λy=>by subst y;exact far b z i (A3.sub b tw))];exact q) (tups _)).mono λb z=>.inr ⟨by omega,z⟩
 ·rcases z with z|z|z
  ·exact .inl z.1
  ·exact .inl (A3.sub b z)
  ·obtain⟨n0,n1,n2⟩:=n3 b z;exact .inr ⟨n1,n2,cnw,R.rb.nj n0,far b z,λj q ej=>R.apart n0 j q ej⟩
end
end L2.MP
namespace L2
open PySem PySem.Spec PyProof PyProof.Rows
end L2
namespace L2.MP
open PySem PySem.Spec PyProof.Rows
section
variable{K:PySem.W.Frag}{mg:Str->Option Value}{h:Heap}{x c:Str}{st:Stmt}{ps:List Str}
def DQ(K:PySem.W.Frag)(x:Str)(st:Stmt):Prop:=∃ (f:Addr) (fd:FuncData),nsIn K mainGlobals x=some (some (.ref f))/\Fun K x x st f fd
def BQ(n:Nat)(x q:Str)(st:Stmt)(ps:List Str):Prop:=∀ (kV doc pm:Value) (an:Option Addr) (cdv ct:Value) (us:List Value),us.length=n->bindArgs (fnOf x q (jU st) (gA st) (aM st) .none kV doc pm an cdv ct) ⟨us,[]⟩=pure (ps.zip us)
theorem DQ.at(d:DQ K x st)(X:K.In h)(G:h.Ns mainGlobals mg)(hb:BQ ps.length x x st ps):cI K mg x st ps:=by
 obtain⟨f,fd,a,F⟩:=d;exact⟨⟨f,fd,ZaU X G a,F,F.binds hb⟩⟩
def MQ(K:PySem.W.Frag)(C:Addr)(x q:Str)(st:Stmt):Prop:=∃ (f:Addr) (fd:FuncData),Meth K C x f/\Fun K x q st f fd
structure XQ(K:PySem.W.Frag)(c:Str)(C:Addr):Prop where
 ex:SN K C
 nm:XNm K C c
 xi:XI K C
 sf:PySem.W.subIn K (.ref C) (.ref C)=some true
theorem XQ.use{C:Addr}(q:XQ K c C)(X:K.In h)(G:h.Ns mainGlobals mg):Ew K mg c C:=⟨q.ex,q.nm,q.xi,ZaU X G q.nm.ns⟩
theorem kY{C T:Addr}(Y:KCl K T)(h:PySem.W.subIn K (.ref C) (.ref T)=some true):PySem.W.kitOne K (.ref C) (.ref T)=some true:=fu Y h λ_=>rfl
theorem kF{C T:Addr}(Y:KCl K T)(sf:PySem.W.subIn K (.ref C) (.ref C)=some true)(h:PySem.W.subIn K (.ref C) (.ref T)=some false):PySem.W.kitOne K (.ref C) (.ref T)=some false:=fu Y h λe=>by rw[<-Value.ref.inj e,sf] at h;cases h
end
def yt(P:Str->Bool->Prop):List (Str×Bool)->Prop
 |[]=>True
 |(c,b)::l=>P c b/\yt P l
theorem mU{P:Str->Bool->Prop}:∀ {l:List (Str×Bool)},yt P l->∀ c b,l.lookup c=some b->P c b
 |[],_,c,b,e=>by cases e
 |(c',b')::l,h,c,b,e=>by
  by_cases hc:(c==c')=true
  ·simp only[List.lookup,hc] at e;cases e;rw[eq_of_beq hc];exact h.1
  ·rw[Zbq] at hc;simp only[List.lookup,hc] at e;exact mU h.2 c b e
section
variable{x q:Str}{st:Stmt}{ps:List Str}
theorem bq1(h:∀ kV doc pm an cdv ct a,bindArgs (fnOf x q (jU st) (gA st) (aM st) .none kV doc pm an cdv ct) ⟨[a],[]⟩=pure (ps.zip [a])):BQ 1 x q st ps:=λ_ _ _ _ _ _ us hl=>by obtain⟨_,rfl⟩:=Xq hl;exact h ..
theorem bq2(h:∀ kV doc pm an cdv ct a b,bindArgs (fnOf x q (jU st) (gA st) (aM st) .none kV doc pm an cdv ct) ⟨[a,b],[]⟩=pure (ps.zip [a,b])):BQ 2 x q st ps:=λ_ _ _ _ _ _ us hl=>by obtain⟨_,_,rfl⟩:=Xr hl;exact h ..
theorem bq3(h:∀ kV doc pm an cdv ct a b c,bindArgs (fnOf x q (jU st) (gA st) (aM st) .none kV doc pm an cdv ct) ⟨[a,b,c],[]⟩=pure (ps.zip [a,b,c])):BQ 3 x q st ps:=λ_ _ _ _ _ _ us hl=>by obtain⟨_,_,_,rfl⟩:=Xu hl;exact h ..
theorem bq4(h:∀ kV doc pm an cdv ct a b c d,bindArgs (fnOf x q (jU st) (gA st) (aM st) .none kV doc pm an cdv ct) ⟨[a,b,c,d],[]⟩=pure (ps.zip [a,b,c,d])):BQ 4 x q st ps:=λ_ _ _ _ _ _ us hl=>by obtain⟨_,_,_,_,rfl⟩:=Yl hl;exact h ..
end
section
variable{X:Cx}{pos:Pos}
theorem sX{c:Expr}{a b:List Stmt}{tc:TT}{ta tb:XK->TS}(hc:PT X.nox c tc)(ha:zF X a ta)(hb:zF X b tb):zF X [.If c a b pos] (λE=>M5 tc (ta E) (tb E)):=by
 intro pins σ E xe hp s H D I h;refine Ib (wpAny_If (ZaK (hc pins s σ H _ (I.wish _) h) (?_) λ_ _ z=>z.elim));rintro d s1 ⟨H1,I1,q1⟩;have I1:=I1.gP;cases d with
 |true=>exact ha pins σ E xe hp s1 H1 D I1 q1
 |false=>exact hb pins σ E xe hp s1 H1 D I1 q1
end
def lq(H0 H2:Hp)(G:Addr->Prop):Hp:=λb=>@ite _ (G b) (Classical.propDecidable _) (H2 b) (H0 b)
def Fl(F0:Hp)(G:Addr->Prop):Hp:=λb=>@ite _ (G b) (Classical.propDecidable _) none (F0 b)
noncomputable abbrev CG(io:Addr->Prop)(H0 F0 H2:Hp)(G:Addr->Prop):Cg:=C0 io (lq H0 H2 G) (Fl F0 G)
def Ly:PV->Bool
 |.str _=>true
 |_=>false
def Qk:PV->Bool
 |.lst l=>l.all Ly
 |_=>false
def V3:PV->Bool
 |.tup [x,y]=>Qk x&&Qk y
 |_=>false
def qt(a b:Nat)(f:Sn):List PV->Rho->Option Out
 |[],ρ=>some (.nx ρ)
 |p::l,ρ=>match p with
  |.tup [x,y]=>match f ((ρ.set a (some (.ow x))).set b (some (.ow y))) with
   |some (.nx ρ')=>qt a b f l ρ'
   |some (.rt q)=>some (.rt q)
   |_=>none
  |_=>none
def Bw(a b:Nat)(fs:Fn (List PV))(f:Sn):Sn:=λρ=>gb (fs ρ) λl=>if l.all V3=true/\l.length<=sizeLine then qt a b f l ρ else none
section
variable{K:PySem.W.Frag}{F F1 H H2 H0 F0:Hp}{σ:St}{ρ:Rho}{S G G':Addr->Prop}{v:V}{p:PV}{b:Addr}{io:Addr->Prop}
theorem sY(h:G b):lq H0 H2 G b=H2 b:=@if_pos _ (Classical.propDecidable _) h _ _ _
theorem dX(h:¬G b):lq H0 H2 G b=H0 b:=@if_neg _ (Classical.propDecidable _) h _ _ _
theorem J7(h:G b):Fl F0 G b=none:=@if_pos _ (Classical.propDecidable _) h _ _ _
theorem sZ(h:¬G b):Fl F0 G b=F0 b:=@if_neg _ (Classical.propDecidable _) h _ _ _
theorem Dp.txs(d:Dp K F H S v p)(h:Qk p=true):∃ a,v=.ref a/\S a/\Own K F H a p:=by
 cases p with
 |lst l=>
  obtain⟨T,a,xs,rfl,ha,sa,_,ds⟩:=d.cJ;refine⟨a,rfl,sa,xs,ha,ds.1,λj x q e1 e2=>?_⟩;have:=Zaq.mp h q (Zap e2);cases q with
  |str z=>
   cases ds.2.2 j x _ e1 e2 with
   |fr r _=>exact r
  |_=>cases this
 |_=>cases h
def Hid(H0 H2:Hp)(G:Addr->Prop):Prop:=∀ b,G b->H0 b=none/\∃ o,H2 b=some o/\∀ ys,o≠.tup ys
theorem none_of(hh:Hid H0 H2 G)(z:lq H0 H2 G b=none):¬G b/\H0 b=none:=by
 have ng:¬G b:=λg=>by
  obtain⟨_,o,h2,_⟩:=hh b g;rw[sY g,h2] at z;cases z
 rw[dX ng] at z;exact⟨ng,z⟩
theorem Ql(hh:Hid H0 H2 G)(gg:∀ b,G' b->G b)(hio:∀ a,¬io a)(R:RB (CG io H0 F0 H2 G).toCf F H):RB (CG io H0 F0 H2 G').toCf F H:=by
 refine⟨R.sub,λb o q _=>?_,λb o q=>?_,λb z=>(hio b z).elim⟩
 ·have q:lq H0 H2 G' b=some o:=q;refine R.keep b o (show lq H0 H2 G b=some o from ?_) (hio b);by_cases g':G' b
  ·rw[sY g'] at q;rw[sY (gg b g')];exact q
  ·rw[dX g'] at q;rw[dX λg=>by rw[(hh b g).1] at q;cases q];exact q
 ·rcases R.new b o q with z|z|z
  ·have z:Fl F0 G b=some o:=z;have ng:¬G b:=λg=>by rw[J7 g] at z;cases z
   rw[sZ ng] at z;exact .inl (show Fl F0 G' b=some o by rw[sZ λg=>ng (gg b g)];exact z)
  ·obtain⟨ng,z⟩:=none_of hh z;exact .inr (.inl (show lq H0 H2 G' b=none by rw[dX λg=>ng (gg b g)];exact z))
  ·exact .inr (.inr z)
theorem Qm(hh:Hid H0 H2 G)(gg:∀ b,G' b->G b)(hio:∀ a,¬io a)(R:RE K (CG io H0 F0 H2 G).toCf F H σ ρ):RE K (CG io H0 F0 H2 G').toCf F H σ ρ:=by
 have nn:∀ b,lq H0 H2 G b=none->lq H0 H2 G' b=none:=λb z=>by
  obtain⟨ng,z⟩:=none_of hh z;rw[dX λg=>ng (gg b g)];exact z
 refine⟨Ql hh gg hio R.rb,R.len,R.sh,λi p e=>?_,R.dis,?_⟩
 ·obtain⟨a,c1,c2,c3,c4⟩:=R.ow i p e;exact⟨a,c1,c2,c3,c4.imp id λz=>⟨z.1,nn a z.2⟩⟩
 ·obtain⟨P,d⟩:=R.dd;exact⟨P,λi b z=>⟨(d.own i b z).1,(d.own i b z).2.1,(d.own i b z).2.2.1,nn b (d.own i b z).2.2.2⟩,d.dis,d.ow,d.dp⟩
theorem U3:lq H0 H2 (λ_=>False)=H0:=funext λ_=>dX id
theorem U4:Fl F0 (λ_=>False)=F0:=funext λ_=>sZ id
theorem V4(hh:Hid H0 H2 G)(hio:∀ a,¬io a)(R:RB (CG io H0 F0 H2 G).toCf F H):RB (C0 io H0 F0).toCf F H:=by
 have:=Ql (G':=λ_=>False) hh (λ_ z=>z.elim) hio R;unfold CG at this;rw[U3,U4] at this;exact this
theorem V5(hh:Hid H0 H2 G)(hio:∀ a,¬io a)(R:RE K (CG io H0 F0 H2 G).toCf F H σ ρ):RE K (C0 io H0 F0).toCf F H σ ρ:=by
 have:=Qm (G':=λ_=>False) hh (λ_ z=>z.elim) hio R;unfold CG at this;rw[U3,U4] at this;exact this
theorem V6(hio:∀ a,¬io a)(R:RE K (C0 io H0 F0).toCf F H σ ρ)(u:Up F H F1 H2)(n:New H F1 H2 G):RE K (CG io H0 F0 H2 G).toCf F1 H2 σ ρ:=by
 have R1:=R.up u;have ng:∀ b,H b≠none->¬G b:=λb z g=>z (n b g).1;refine⟨⟨R1.rb.sub,λb o q _=>?_,λb o q=>?_,λb z=>(hio b z).elim⟩,R1.len,R1.sh,λi p e=>?_,R1.dis,?_⟩
 ·have q:lq H0 H2 G b=some o:=q;by_cases g:G b
  ·rw[sY g] at q;exact q
  ·rw[dX g] at q;exact R1.rb.keep b o q (hio b)
 ·have g:¬G b:=λg=>by rw[(n b g).2.1] at q;cases q
  rcases R1.rb.new b o q with z|z|z
  ·exact .inl (show Fl F0 G b=some o by rw[sZ g];exact z)
  ·exact .inr (.inl (show lq H0 H2 G b=none by rw[dX g];exact z))
  ·exact .inr (.inr z)
 ·obtain⟨a,c1,c2,c3,c4⟩:=R1.ow i p e;obtain⟨a',d1,d2,_⟩:=R.ow i p e;rw[c1] at d1;cases d1;obtain⟨ob,eo⟩:=d2.ne;refine⟨a,c1,c2,c3,c4.imp id λz=>⟨z.1,show lq H0 H2 G a=none from ?_⟩⟩;rw[dX (ng a (by rw[eo];simp))];exact z.2
 ·obtain⟨P,d⟩:=R.dd;have d1:RD K (C0 io H0 F0).toCf F1 H2 σ ρ P:=d.up u;refine⟨P,λi b z=>⟨(d1.own i b z).1,(d1.own i b z).2.1,(d1.own i b z).2.2.1,show lq H0 H2 G b=none from ?_⟩,d1.dis,d1.ow,d1.dp⟩;obtain⟨_,⟨o,c,_⟩,_⟩:=d.own i b z;rw[dX (ng b (by rw[c];simp))];exact(d1.own i b z).2.2.2
theorem Qn{x:Addr}{i:Nat}(hh:Hid H0 H2 G)(hio:∀ a,¬io a)(R:RE K (CG io H0 F0 H2 G).toCf F H σ ρ)(gx:G x)(sf:aL F1 F)(ow:Own K F1 H2 x p) :
  RE K (CG io H0 F0 H2 λb=>G b/\b≠x).toCf F H (σ.set i (some (.ref x))) (ρ.set i (some (.ow p))):=by
 obtain⟨h0,o,h2,nt⟩:=hh x gx;have ax:lq H0 H2 G x=some o:=by rw[sY gx];exact h2
 have hx:H x=some o:=R.rb.keep x o ax (hio x);have fx:F x=none:=by
  cases q:F x with
  |none=>rfl
  |some o'=>
   have hq:=R.rb.sub _ _ q;rw[hx] at hq;cases hq;rcases R.rb.new x _ q with z|z|⟨ys,z⟩
   ·have z:Fl F0 G x=some o:=z;rw[J7 gx] at z;cases z
   ·have z:lq H0 H2 G x=none:=z;rw[ax] at z;cases z
   ·exact absurd z (nt ys)
 have R1:=Qm (G':=λb=>G b/\b≠x) hh (λb z=>z.1) hio R;have own:Own K F H x p:=ow.up sf λo' z=>by rw[h2] at z;cases z;exact hx
 refine R1.W8 i own fx trivial (show lq H0 H2 (λb=>G b/\b≠x) x=none by rw[dX (G:=λb=>G b/\b≠x) λz=>z.2 rfl];exact h0) (λj q e _ z=>?_) ?_
 ·obtain⟨c,c1,_,_,c4⟩:=R.ow j q e;rw[z] at c1;cases c1;rcases c4 with c4|c4
  ·exact hio _ c4
  ·have:lq H0 H2 G x=none:=c4.2;rw[ax] at this;cases this
 ·obtain⟨P,d⟩:=R.dd;have nn:∀ b,lq H0 H2 G b=none->lq H0 H2 (λb=>G b/\b≠x) b=none:=λb z=>by
   obtain⟨ng,z⟩:=none_of hh z;rw[dX λg=>ng g.1];exact z
  refine⟨P,⟨λi b z=>⟨(d.own i b z).1,(d.own i b z).2.1,(d.own i b z).2.2.1,nn b (d.own i b z).2.2.2⟩,d.dis,d.ow,d.dp⟩,λj z=>?_⟩;have:lq H0 H2 G x=none:=(d.own j x z).2.2.2;rw[ax] at this;cases this
theorem Hid.sub(hh:Hid H0 H2 G)(gg:∀ b,G' b->G b):Hid H0 H2 G':=λb g=>hh b (gg b g)
end
section
variable{K:PySem.W.Frag}{io:Addr->Prop}{H0 F0:Hp}{ts:TA}{fs:Fn (List PV)}{t:TS}{f:Sn}{a b:Nat}
theorem Qo(hio:∀ a,¬io a)(hs:MDs K (C0 io H0 F0) ts fs)(hb:∀ H0 F0,MS K (C0 io H0 F0) t f) :
  MS K (C0 io H0 F0) (Rp (O8 K (Vm ts)) (Rj K 2 (Jo (lD a) (Jo (lD b) Vd))) t) (Bw a b fs f):=by
 intro F H σ ρ D o R e Pq;rcases bK e with⟨z,e1,rfl⟩|⟨l,e1,hk⟩
 ·exact hs F H σ ρ _ _ R e1 Pq
 split at hk
 case isFalse=>cases hk
 rename_i hl;refine hs F H σ ρ _ _ R e1 λvs F1 H1 S u dv n=>⟨by rw[dv.1];exact hl.2,λc hc=>?_⟩
 have u2:Up F1 H1 (upd F1 c (.lst vs)) (upd H1 c (.lst vs)):=Up.new u.fh hc;have s2:aL (upd F1 c (.lst vs)) (upd H1 c (.lst vs)):=u2.fh;have u3:Up (upd F1 c (.lst vs)) (upd H1 c (.lst vs)) (lg (upd F1 c (.lst vs)) (upd H1 c (.lst vs)) λ_=>False) (upd H1 c (.lst vs)):=⟨fL s2,aL.refl _,λb o q=>by
  by_cases hb:False\/∃ ys,upd H1 c (.lst vs) b=some (.tup ys)
  ·rw[gB hb] at q;obtain⟨ys,z⟩:=hb.resolve_left id;rw[z] at q;cases q;exact .inr (.inr ⟨ys,rfl⟩)
  ·rw[fj hb] at q;exact .inl q,rY s2⟩
 have uu:=(u.trans u2).trans u3;have nc:∀ j b,S j b->b≠c:=λj b z y=>by
  subst y;obtain⟨_,_,o,q,_⟩:=n b ⟨j,z⟩;rw[hc] at q;cases q
 generalize hF2:(lg (upd F1 c (.lst vs)) (upd H1 c (.lst vs)) λ_=>False)=F2 at uu u3
 generalize hH2:upd H1 c (.lst vs)=H2 at uu u3 s2 u2
 have n2:New H F2 H2 (λb=>∃ j,S j b):=λb ⟨j,z⟩=>by
  obtain⟨n0,n1,o,q,nt⟩:=n b ⟨j,z⟩;have hq:H2 b=some o:=by rw[<-hH2,aK (nc j b z)];exact q
  refine⟨n0,?_,o,hq,nt⟩;rw[<-hF2,fj,aK (nc j b z)]
  ·exact n1
  ·rintro(y|⟨ys,y⟩)
   ·exact y
   ·rw[hH2,hq] at y;cases y;exact nt ys rfl
 have hid:Hid H0 H2 (λb=>∃ j,S j b):=λb z=>⟨R.rb.nj (n2 b z).1,(n2 b z).2.2⟩;have f2c:F2 c=some (.lst vs):=by
  rw[<-hF2,fj,aN];rintro(y|⟨ys,y⟩)
  ·exact y
  ·rw[hH2,<-hH2,aN] at y;cases y
 have cell:∀ (j:Nat) w q,vs[j]?=some w->l[j]?=some q->∃ tt x y X Y,w=.ref tt/\F2 tt=some (.tup [.ref x,.ref y])/\q=.tup [X,Y]/\S j x/\S j y/\x≠y/\Own K F2 H2 x X/\Own K F2 H2 y Y:=λj w q e2 e3=>by
  have hp:=Zaq.mp hl.1 q (Zap e3);unfold V3 at hp;split at hp
  case h_2=>cases hp
  rename_i X Y;rw[Za6] at hp;have st:(PV.tup [X,Y]).still=false:=by
   cases X with
   |lst l=>rfl
   |_=>cases hp.1
  obtain⟨T,tt,xs,rfl,ht,hT,ds⟩:=(dv.2.2 j w _ e2 e3).cG st
  match xs,ds with
  |[v1,v2],ds=>
   obtain⟨x,rfl,sx,ox⟩:=(ds.2.2 0 v1 X rfl rfl).txs hp.1;obtain⟨y,rfl,sy,oy⟩:=(ds.2.2 1 v2 Y rfl rfl).txs hp.2;have st:∀ {z:Addr}{Z:PV},Own K F1 H1 z Z->S j z->Own K F2 H2 z Z:=λ{z Z} w sz=>w.up (u2.trans u3).ff λo q=>by rw[<-hH2,aK (nc j z sz)];exact q
   have htt:H2 tt=some (.tup [.ref x,.ref y]):=by rw[<-hH2,aK (λz=>by subst z;rw[hc] at ht;cases ht)];exact ht
   refine⟨tt,x,y,X,Y,rfl,?_,rfl,hT 0 x sx,hT 1 y sy,λz=>?_,st ox (hT 0 x sx),st oy (hT 1 y sy)⟩
   ·rw[<-hF2,gB (.inr ⟨_,by rw[hH2];exact htt⟩),hH2];exact htt
   ·subst z;exact absurd (ds.2.1 0 1 x sx sy) (by decide)
  |[],ds=>exact absurd ds.1 (by simp)
  |[_],ds=>exact absurd ds.1 (by simp)
  |_::_::_::_,ds=>exact absurd ds.1 (by simp)
 have vl:vs.length=l.length:=dv.1;refine .inl ⟨c,rfl,⟨vs,SqL.of (by rw[<-hH2,aN])⟩,?_⟩
 refine⟨λj m σ' H'=>∃ F' ρ' G,m=vs.length-j/\j<=vs.length/\aL F2 F'/\RE K (CG io H0 F0 H2 G).toCf F' H' σ' ρ'/\(∀ t b,j<=t->S t b->G b)/\(∀ b,G b->∃ t,S t b)/\qt a b f (l.drop j) ρ'=some o,⟨vs.length,F2,ρ,λb=>∃ j,S j b,by simp,Zbj _,aL.refl _,V6 hio R uu n2,λt b _ z=>⟨t,z⟩,λb z=>z,by rw[Zb4];exact hk⟩,?_⟩
 rintro j m σ' H' ⟨F',ρ',G,rfl,hj,sF,R',hG,hGS,e'⟩;have hidG:Hid H0 H2 G:=hid.sub hGS;have ha':H' c=some (.lst vs):=R'.rb.sub _ _ (sF _ _ f2c);by_cases hjl:j=vs.length
 ·left
  subst hjl;refine⟨⟨vs,SqL.of ha',Zah _⟩,?_⟩;rw[vl,ZbK] at e';cases e';exact Pq F' H' σ' (uu.ff.trans sF) (V5 hidG hio R')
 ·right
  have jlt:j<vs.length:=by omega
  have jll:j<l.length:=by omega
  obtain⟨w,hw⟩:∃ w,vs[j]?=some w:=⟨_,Zad jlt⟩;refine⟨⟨vs,w,SqL.of ha',hw⟩,λσ2 H3=>∃ F3 ρ2 G',aL F2 F3/\RE K (CG io H0 F0 H2 G').toCf F3 H3 σ2 ρ2/\(∀ t b,j+1<=t->S t b->G' b)/\(∀ b,G' b->∃ t,S t b)/\qt a b f (l.drop (j+1)) ρ2=some o,λσ2 H3 ⟨F3,ρ2,G',z1,z2,z3,z4,z5⟩=>⟨vs.length-(j+1),by omega,F3,ρ2,G',rfl,jlt,z1,z2,z3,z4,z5⟩,?_⟩
  rintro y H'' ⟨rfl,hy⟩;have ey:y=w:=by have:=hy vs (SqL.of ha');rw[hw] at this;exact(Zaa this).symm
  subst ey;obtain⟨q,hq⟩:∃ q,l[j]?=some q:=⟨_,Zad jll⟩;obtain⟨tt,x,z,X,Y,rfl,ft,rfl,sx,sz,nxz,ox,oz⟩:=cell j _ q hw hq;refine⟨tt,_,rfl,SqT.of (R'.rb.sub _ _ (sF _ _ ft)),rfl,_,_,rfl,_,_,rfl,rfl,?_⟩;have gx:=hG j x (Zah _) sx;have gz:=hG j z (Zah _) sz;have R1:=Qn (i:=a) hidG hio R' gx sF ox;have R2:=Qn (i:=b) (hidG.sub λb z=>z.1) hio R1 ⟨gz,Za0 nxz⟩ sF oz;have ed:l.drop j=.tup [X,Y]::l.drop (j+1):=by
   rw[Za8 jll];rw[Zad jll] at hq;rw[Zaa hq]
  rw[ed] at e';unfold qt at e';simp only at e';have hid2:Hid H0 H2 (λb=>(G b/\b≠x)/\b≠z):=hidG.sub λb y=>y.1.1;split at e'
  ·rename_i ρ3 h3;refine hb _ _ F' _ _ _ _ _ R2 h3 λF3 H3 σ3 s3 R3=>⟨F3,ρ3,_,sF.trans s3,R3,λt b ht hs=>⟨⟨hG t b (by omega) hs,λy=>?_⟩,λy=>?_⟩,λb y=>hGS b y.1.1,e'⟩
   ·subst y;have:=dv.2.1 t j b hs sx;omega
   ·subst y;have:=dv.2.1 t j b hs sz;omega
  ·rename_i q3 h3;cases e';exact hb _ _ F' _ _ _ _ _ R2 h3 λv F3 H3 s3 rb rv=>Pq v F3 H3 ((uu.ff.trans sF).trans s3) (V4 hid2 hio rb) rv
  ·cases e'
end
section
variable{K:PySem.W.Frag}{t:TS}{N:List Str}{vs:List V}{H:Hp}{Q:VK}{E:XK}{m:List PV->Option (Res PV)}{b:Sn}
theorem xf{k n:Nat}(hk:N.length=k+n)(hm:∀ ps r,m ps=some r->ps.length=k/\ym (b (startR ps n))=some r)(h:spD K (XRS K) m vs H Q E)(hS:∀ (io:Addr->Prop) (H0 F0:Hp),(∀ a,¬io a)->MS K (CE K E io H0 F0) t b) :
  t { nx:=λ_ H'=>Q .non H',rt:=Q } (start N vs) H:=by
 obtain⟨ps,F,r,s,rp,e,P⟩:=h;obtain⟨hl,e⟩:=hm ps r e;have R:=iW (E:=E) (N:=N) (n:=n) s rp (by rw[rp.1,hl];exact hk)
 have up:∀ {F' H':Hp},aL F F'->RB ⟨λ_=>False,True,H,F,E⟩ F' H'->Up F H F' H':=λs' rb=>⟨s',λc o q=>rb.keep c o q id,rb.new,rb.sub⟩;have M:=hS (λ_=>False) H F (λ_ h=>h);cases ho:b (startR ps n) with
 |none=>rw[ho] at e;cases e
 |some o=>
  rw[ho] at e;refine M F H _ _ _ o R ho ?_;cases o with
  |rd p=>cases e;exact λv F' H' S s' rb d n=>P v F' H' S (up s' rb) d λb q=>⟨(n b q).2.2,(n b q).1,(n b q).2.1⟩
  |ex z=>cases e;exact λev d F' H' s' rb x=>P ev d F' H' (up s' rb) x
  |nx ρ=>cases e
  |rt p=>cases e
  |ro p=>cases e
  |bk ρ=>cases e
  |ct ρ=>cases e
end
def Lz(K:PySem.W.Frag)(C:Cg)(k:Nat)(tb:XK->TS)(b:Sn):Prop:=∀ E F H σ ρ D o,RE K C.toCf F H σ ρ->b ρ=some o->(∀ ρ',o=.nx ρ'->∀ F' H' σ',aL F F'->RE K C.toCf F' H' σ' ρ'->σ'[k]?=σ[k]?->D.nx σ' H')->(∀ z,o=.ex z->∀ e d F' H',Up F H F' H'->XRS K F' e d z->E e d H')->(∃ ρ',o=.nx ρ')\/(∃ z,o=.ex z)->tb E D σ H
def jM(cls mn:Str)(i g:Nat)(m:List PV->Option (Res PV))(fs:Fn (List PV)):Sn:=λρ=>match g8 i ρ,fs ρ with
 |some (.obj c l),some (.ok xs)=>if c=cls/\l.lookup mn=none then(match m (.obj c l::xs) with
  |some (.ok q)=>some (.nx (ρ.set g (some (.sh q))))
  |some (.ex (.exc z []))=>some (.ex (.exc z []))
  |_=>none) else none
 |_,_=>none
section
variable{K:PySem.W.Frag}{C:Cg}{t:TA}{fs:Fn (List PV)}{m:List PV->Option (Res PV)}{cls mn:Str}{Ca:Addr}{i g k:Nat}{tb ub:XK->TS}{b:Sn}
theorem Ip(h:XC K C tb b):Lz K C k tb b:=λE F H σ ρ D o R e hn hx hd=>h E F H σ ρ D o R e (λρ' e1 F' H' s R'=>hn ρ' e1 F' H' σ s R' rfl) hx hd
theorem tu{c:TT}{fc:Fn Bool}{f h:Sn}(hc:MT K (Cq C) c fc)(h1:Lz K C k tb f)(h2:Lz K C k ub h):Lz K C k (λE=>M5 c (tb E) (ub E)) (eV fc f h):=by
 intro E F H σ ρ D o R e hn hx hd;rcases bK e with⟨z,e1,rfl⟩|⟨b,e1,hk⟩
 ·exact hc F H σ ρ _ (.ex z) R e1 λ_ _ _ _ _ _ x=>x.elim
 ·refine hc F H σ ρ _ (.ok b) R e1 λF1 H1 uu=>?_;have hn':=λρ' e1 F' H' σ' s=>hn ρ' e1 F' H' σ' (uu.ff.trans s);have hx':=λz e1 e d F' H' u=>hx z e1 e d F' H' (uu.trans u);cases b with
  |true=>rw[Zag rfl] at hk ⊢;exact h1 E F1 H1 σ ρ D o (R.up uu) hk hn' hx' hd
  |false=>rw[Zal (by decide)] at hk ⊢;exact h2 E F1 H1 σ ρ D o (R.up uu) hk hn' hx' hd
theorem Qp{th:THs}{h:PV->Sn}(hb:Lz K C k tb b)(hh:Te K C k th h):MSk K C k (Xy tb th) (wV b h):=by
 intro F H σ ρ D o R e P;unfold wV at e;split at e
 ·rename_i z hz;refine hb _ F H σ ρ D (.ex z) R hz (λ_ e2=>by cases e2) (λz2 e2 ev d F' H' u x=>?_) (.inr ⟨z,rfl⟩)
  cases e2;exact hh F' H' σ ρ D o z ev d (R.up u) x e (POk.up P u.ff)
 ·rename_i ρ' hz;cases e;exact hb _ F H σ ρ D _ R hz (λρ2 e2 F' H' σ' s' R' es=>by cases e2;exact P F' H' σ' s' R' es) (λz e2=>by cases e2) (.inl ⟨_,rfl⟩)
 ·cases e
theorem xg(O:OC K cls Ca)(hgk:g≠k)(hs:MA K (Cq C) t fs):Lz K C k (λE=>uY (uJ Ca mn (spD K (XRS K) m) [] E (my i) t) (lD g)) (jM cls mn i g m fs):=by
 intro E F H σ ρ D o R e hn hx _;unfold jM at e;split at e
 case h_2=>cases e
 rename_i c l ls hl hf;split at e
 case isFalse=>cases e
 rename_i hc;obtain⟨rfl,hn0⟩:=hc;obtain⟨P0,d0⟩:=R.dd;obtain⟨v0,e1,dp0⟩:=d0.dp i _ (bV hl);obtain⟨T,a,Ca',dx,xs,rfl,nm,ha,sa,ht,dj,hk,hr⟩:=dp0.mQ;have:=nm.ns;rw[O.ns] at this;cases this;refine⟨.ref a,e1,a,dx,xs,rfl,ha,lookup_none hk hn0,?_⟩;refine hs F H σ ρ _ _ R hf λys F1 H1 u rl=>?_;rw[Zaw];have d1:RD K C.toCf F1 H1 σ ρ P0:=d0.up u;obtain⟨v1,e1',dp1⟩:=d1.dp i _ (bV hl);rw[e1] at e1';cases e1';have rp:bw K H1 (.ref a::ys) (.obj c l::ls):=(bw.up rl u.fh).cons (dp1.lent u.fh);split at e
 ·rename_i q hm;cases e;refine⟨_,H1,_,aL.refl _,rp,hm,λv F' H' S u' d n=>?_⟩;have s1:aL F1 H':=u.fh.trans u'.hh;have up:Up F H (lg F1 H' S) H':=⟨u.ff.trans (fL s1),u.hh.trans u'.hh,λb o q=>by
   by_cases hb:S b\/∃ ys,H' b=some (.tup ys)
   ·rcases hb with z|⟨ys,z⟩
    ·exact .inr (.inl (u.hh.free (n b z).1))
    ·rw[gB (.inr ⟨ys,z⟩),z] at q;cases q;exact .inr (.inr ⟨ys,rfl⟩)
   ·rw[fj hb] at q;exact u.fr b o q,rY s1⟩
  have tp:∀ b ys,H' b=some (.tup ys)->lg F1 H' S b=some (.tup ys):=λb ys z=>by rw[gB (.inr ⟨ys,z⟩)];exact z
  have rep:Rep K (lg F1 H' S) v q:=(d.toG λb ys z=>tp b ys (u'.fh _ _ z)).seen (aL.refl _) (λb o z y=>by rw[gB (.inl z)];exact y) tp
  exact hn _ rfl _ H' _ up.ff ((R.up up).set g rep) (Zab hgk)
 ·rename_i z hm;cases e;refine⟨_,H1,_,aL.refl _,rp,hm,λev d F' H' u' x=>hx _ rfl ev d F1 H' ⟨u.ff,u.hh.trans u'.hh,u.fr,u.fh.trans u'.hh⟩ ?_⟩;obtain⟨c',l',Ca',ez,rfl,nm',fx⟩:=x;cases ez;refine⟨_,_,Ca',rfl,rfl,nm',?_⟩;rcases fx with fx|⟨_,_,_,fx,_⟩
  ·exact .inl fx
  ·exact absurd rfl fx
 ·cases e
end
theorem jB{K:PySem.W.Frag}{C:Cg}{ta:TE}{t:TA}{fa:Fn PV}{fs:Fn (List PV)}{m:List PV->Option (Res PV)}{cls mn:Str}{Ca:Addr}(O:OC K cls Ca)(ha:MJ K C (aF K) ta fa)(hs:MA K C t fs):MO K C (uJ Ca mn (spO K (XRS K) m) [] E0 ta t) (vd (je cls mn m fa fs)):=by
 intro F H σ ρ Q r R e P;unfold vd at e;split at e
 ·rename_i p hp;cases e;exact Tc O ha hs R hp P λps xs F1 H1 hm u rp=>⟨ps,F1,.ok p,u.fh,rp,hm,λv F' H' u' n1 n2 rv=>P v F' H' (u.trans u') (u.hh.free n1) n2 rv⟩
 ·cases e
section
variable{K:PySem.W.Frag}{F H:Hp}{S:Addr->Prop}{v:V}{r:PV}
theorem V7{l:List PV}{j:Nat}(d:Dp K F H S v (.tup l))(st:(PV.tup l).still=false)(hg:l[j]?=some r):∃ a xs x U,v=.ref a/\H a=some (.tup xs)/\xs[j]?=some x/\At K F H S v (.tup l) U x r (λr'=>.tup (l.set j r')):=by
 obtain⟨T,a,xs,rfl,ha,ht,ds⟩:=d.cG st;obtain⟨x,hx⟩:∃ x,xs[j]?=some x:=⟨_,Zad (by rw[ds.1];exact bH hg)⟩
 refine⟨a,xs,x,T j,rfl,ha,hx,ds.2.2 j x r hx hg,λb z=>ht j b z,λF' H' T' r' sf sh tp hT d'=>?_⟩;refine .tup (S:=rms T j T') (tp _ _ ha) (λk b z=>?_) (Qj ht ds.2.1 hT) (by rw[List.length_set];exact ds.1) λk y q c1 c2=>?_
 ·rcases z with⟨rfl,z⟩|⟨n,z⟩
  ·exact .inr z
  ·exact .inl ⟨ht k b z,λw=>n (ds.2.1 k j b z w)⟩
 ·rw[Zbo] at c2;by_cases hjk:j=k
  ·subst hjk;rw[Zag rfl,Zag (bH hg)] at c2;cases c2;rw[hx] at c1;cases c1;exact d'.mono λb z=>.inl ⟨rfl,z⟩
  ·rw[Zal hjk] at c2;exact((ds.2.2 k y q c1 c2).up sf (λb o z e=>sh b o (ht k b z) (λw=>hjk (ds.2.1 j k b w z)) e) tp).mono λb z=>.inr ⟨Za0 hjk,z⟩
end
def Tn(f:Nf)(fk:Fn PV):Nf:=λρ p=>match f ρ p,fk ρ with
 |some (.tup l,put),some (.ok (.int j))=>if 0<=j/\(PV.tup l).still=false then(match l[j.toNat]? with
  |some r=>some (r,λr'=>put (.tup (l.set j.toNat r')))
  |none=>none) else none
 |_,_=>none
def zN(i:Nat)(f:Nf)(fk:Fn PV):Sn:=λρ=>match g8 i ρ with
 |some p=>(match f ρ p with
  |some (.dk l,put)=>gb (fk ρ) λk=>(match jH k with
   |some k=>if(l.map (·.1)).Nodup/\(eO l k).isSome=true then some (.nx (ρ.set i (some (.dp (put (.dk (l.filter λe=>decide (e.1≠k)))))))) else none
   |none=>none)
  |_=>none)
 |none=>none
section
variable{K:PySem.W.Frag}{C:Cg}{te tk:TE}{i:Nat}{f:Nf}{fk:Fn PV}
theorem J8(h:MNd K C te i f)(hk:MJ K C (aF K) tk fk):MNd K C (tOp (rIx K) te tk) i (Tn f fk):=by
 intro F H σ ρ Q S v p q put R e d hf P;unfold Tn at hf;split at hf
 case h_2=>cases hf
 rename_i l put0 j h0 hk0;split at hf
 case isFalse=>cases hf
 rename_i hj;split at hf
 case h_2=>cases hf
 rename_i r hr;cases hf;refine h F H σ ρ _ S v p _ _ R e d h0 λv1 T F1 H1 u A=>?_;refine hk F1 H1 σ ρ _ _ (R.up u) hk0 λy F2 H2 u2 ry=>?_;have A2:=A.up u2;obtain⟨a,xs,x,U,rfl,ha,hx,B⟩:=V7 A2.d hj.2 hr;cases Rep.aZ ry;refine .inr (.inl ⟨a,xs,j,x,rfl,rfl,SqT.of ha,?_,P x U F2 H2 (u.trans u2) (A2.trans B)⟩);have:=jn hx;rw[Zbs hj.1] at this;exact this
theorem Fo(h:MNd K C te i f)(hk:MJ K C (aF K) tk fk):MSi K C (uG (Oh te tk)) (zN i f fk):=by
 intro F H σ ρ D o R e P;unfold zN at e;split at e
 case h_2=>cases e
 rename_i p hp;split at e
 case h_2=>cases e
 rename_i l put h0;obtain⟨P0,d0⟩:=R.dd;obtain⟨v0,e1,dp0⟩:=d0.dp i _ (bV hp);refine h F H σ ρ _ (P0 i) v0 p _ _ R e1 dp0 h0 λv1 T F2 H2 u2 A=>?_;obtain⟨_,w0,xs0,rfl,hw0,_⟩:=A.d.Bm;refine⟨w0,rfl,.inl ⟨xs0,.inl hw0⟩,?_⟩;rcases bK e with⟨z,e2,rfl⟩|⟨k,e2,hk2⟩
 ·exact hk F2 H2 σ ρ _ _ (R.up u2) e2 (PX.up P u2.ff)
 refine hk F2 H2 σ ρ _ _ (R.up u2) e2 λy F3 H3 u3 ry=>?_;split at hk2
 case h_2=>cases hk2
 rename_i k' hk';split at hk2
 case isFalse=>cases hk2
 rename_i hst;cases hk2;have u13:=u2.trans u3;have A3:=A.up u3;obtain⟨U,w,xs,ew,hw,tw,ht,dj,hkk,hr⟩:=A3.d.Bm;cases ew;obtain⟨q,hq⟩:=Option.isSome_iff_exists.mp hst.2;obtain⟨j,x,x3,x2,x1,_⟩:=zy hkk hq;rw[kW ry hk'];refine⟨xs,k',x,hw,rfl,x1,P F3 _ u13.ff ?_⟩;have R3:=R.up u13;have d3:RD K C.toCf F3 H3 σ ρ P0:=d0.up u13;have tups:∀ ob c zs,H3 c=some (.tup zs)->upd H3 w0 ob c=some (.tup zs):=λob c zs q=>by
  rw[aK (λy=>by subst y;rw[hw] at q;cases q)];exact q
 have n1:(xs.map (·.1)).Nodup:=by rw[hkk];exact hst.1
 have er1:zb xs k'=xs.eraseIdx j:=(Bl n1 x2).symm;have er2:(l.filter λe=>decide (e.1≠k'))=l.eraseIdx j:=(Bl hst.1 x3).symm;refine R3.Bj d3 (bV hp) e1 (A3.sub w0 tw) (λys z=>by cases z) (A3.upd F3 _ T _ (aL.refl _) (λb o _ nb q=>by rw[aK (λz=>by subst z;exact nb tw)];exact q) (tups _) (λb z=>.inl z) ?_) λb z=>.inl (z.elim (·.1) (A3.sub b))
 rw[er1,er2];refine .dk (S:=λn=>U (if n<j then n else n+1)) aN tw (λn b z=>ht _ b z) (λn n' b z z'=>?_) ?_ λn y r c1 c2=>?_
 ·have:=dj _ _ b z z';split at this<;>split at this<;>omega
 ·rw[<-HJ,<-HJ,hkk]
 ·rw[List.getElem?_eraseIdx] at c1 c2;have hh:Dp K F3 H3 (U (if n<j then n else n+1)) y.2 r.2:=by
   split at c1
   ·rename_i hj;rw[Zag hj] at c2;rw[Zag hj];exact hr n y r c1 c2
   ·rename_i hj;rw[Zal hj] at c2;rw[Zal hj];exact hr (n+1) y r c1 c2
  exact hh.up (aL.refl _) (λb o z q=>by rw[aK (λy=>by subst y;exact(ht _ b z).2 rfl)];exact q) (tups _)
end
def upS(z:Str):Str:=⟨PySem.placed z λ_ c=>Unicode.upperOf c⟩
def Qq(f:Fn PV):Fn PV:=λρ=>bnd (f ρ) λa=>match a with
 |.str z=>if Builtin.Str.tooLong (PySem.placed z λ_ c=>Unicode.upperOf c).size=false then some (.ok (.str (upS z))) else none
 |_=>none
section
variable{X:Cx}{K:PySem.W.Frag}{C:Cg}{te:TE}{f:Fn PV}
def Qs:V->List V->Hp->VK->Prop:=λx xs H Q=>∃ z:Str,x=.str z/\xs=[]/\Builtin.Str.tooLong (PySem.placed z λ_ c=>Unicode.upperOf c).size=false/\Q (.str (upS z)) H
theorem Qt:MtR X "str.upper" Qs:=by
 intro pins s σ H x xs v us Q I rx rv h;obtain⟨z,rfl,rfl,hz,q⟩:=h;obtain⟨t,rfl⟩:=rx;cases rv;exact call_gives F.slot_str_upper (typeIs_str _ _ _) F.entry_str_upper (F.args_str_upper_1 _) (gives_str_upper z t hz) ⟨fit_le hz,(show EP X pins σ Q (.str _ s.toks) { s with toks:=s.toks+1 } from⟨.str _,H,I.tok _,⟨s.toks,rfl⟩,q⟩)⟩
theorem Qu(h:MJ K C (aF K) te f):MJ K C (aF K) (WW K "str" Qs te) (Qq f):=by
 intro F H σ ρ Q r R e P;refine h.run R e P λp v F1 H1 hk u a=>?_
 match p,hk with
 |.str z,hk=>
  cases Rep.bI a;have hk:(if Builtin.Str.tooLong (PySem.placed z λ_ c=>Unicode.upperOf c).size=false then some (Res.ok (PV.str (upS z))) else none)=some r:=hk;split at hk
  ·rename_i hz;cases hk;exact⟨tyS,z,rfl,rfl,hz,P _ F1 H1 u .str⟩
  ·cases hk
end
end L2.MP
namespace MM
open PySem PySem.Spec PyProof.Rows L2 L2.MP
def Tv{α:Type}(x:Option (Res α))(Q:α->Prop):Prop:=∃ a,x=some (.ok a)/\Q a
def Out.calm:Out->Prop
 |.ex _=>False
 |_=>True
def To(x:Option Out)(Q:Out->Prop):Prop:=∃ o,x=some o/\Out.calm o/\Q o
def xj(k:Rho->Prop)(Q:Out->Prop):Out->Prop
 |.nx ρ=>k ρ
 |o=>Q o
section
variable{α β γ:Type}{Q:α->Prop}{QS:Out->Prop}{k:β->Prop}{f:Fn PV}{g h:Fn PV}{ρ:Rho}{a:β}{z p:PV}{i:Nat}{s t:Sn}
theorem onNx_nx{k:Rho->Prop}:xj k QS (.nx ρ)=k ρ:=rfl
theorem onNx_rt{k:Rho->Prop}:xj k QS (.rt p)=QS (.rt p):=rfl
theorem onNx_ro{k:Rho->Prop}:xj k QS (.ro p)=QS (.ro p):=rfl
theorem onNx_rd{k:Rho->Prop}:xj k QS (.rd p)=QS (.rd p):=rfl
theorem onNx_bk{k:Rho->Prop}:xj k QS (.bk ρ)=QS (.bk ρ):=rfl
theorem onNx_ct{k:Rho->Prop}:xj k QS (.ct ρ)=QS (.ct ρ):=rfl
theorem tv_some{a:α}:Tv (some (.ok a)) Q=Q a:=by
 refine propext ⟨?_,λq=>⟨a,rfl,q⟩⟩;rintro⟨r',e,q⟩;cases e;exact q
theorem to_nx:To (some (.nx ρ)) QS=QS (.nx ρ):=propext ⟨λ⟨_,e,_,q⟩=>by cases e;exact q,λq=>⟨_,rfl,trivial,q⟩⟩
theorem to_rt:To (some (.rt p)) QS=QS (.rt p):=propext ⟨λ⟨_,e,_,q⟩=>by cases e;exact q,λq=>⟨_,rfl,trivial,q⟩⟩
theorem to_ro:To (some (.ro p)) QS=QS (.ro p):=propext ⟨λ⟨_,e,_,q⟩=>by cases e;exact q,λq=>⟨_,rfl,trivial,q⟩⟩
theorem to_rd:To (some (.rd p)) QS=QS (.rd p):=propext ⟨λ⟨_,e,_,q⟩=>by cases e;exact q,λq=>⟨_,rfl,trivial,q⟩⟩
theorem to_bk:To (some (.bk ρ)) QS=QS (.bk ρ):=propext ⟨λ⟨_,e,_,q⟩=>by cases e;exact q,λq=>⟨_,rfl,trivial,q⟩⟩
theorem to_ct:To (some (.ct ρ)) QS=QS (.ct ρ):=propext ⟨λ⟨_,e,_,q⟩=>by cases e;exact q,λq=>⟨_,rfl,trivial,q⟩⟩
theorem tv_bnd{x:Option (Res β)}{kk:β->Option (Res α)}:Tv (bnd x kk) Q=Tv x (λb=>Tv (kk b) Q):=by
 refine propext ⟨?_,?_⟩
 ·rintro⟨r,e,q⟩;rcases aX e with⟨z,e1,e2⟩|⟨b,e1,e2⟩
  ·cases e2
  ·exact⟨_,e1,r,e2,q⟩
 ·rintro⟨b,e,q⟩;subst e;exact q
theorem to_bnd{x:Option (Res β)}{kk:β->Option Out}:To (gb x kk) QS=Tv x (λb=>To (kk b) QS):=by
 refine propext ⟨?_,?_⟩
 ·rintro⟨r,e,c,q⟩;rcases bK e with⟨z,e1,rfl⟩|⟨b,e1,e2⟩
  ·exact c.elim
  ·exact⟨_,e1,r,e2,c,q⟩
 ·rintro⟨b,e,q⟩;subst e;exact q
theorem to_seq:To (bB s t ρ) QS=To (s ρ) (xj (λρ'=>To (t ρ') QS) QS):=by
 refine propext ⟨?_,?_⟩
 ·rintro⟨r,e,c,q⟩;unfold bB at e;split at e
  ·rename_i ρ' h;exact⟨_,h,trivial,r,e,c,q⟩
  ·rename_i x hx;refine⟨r,e,c,?_⟩;cases r with
   |nx ρ'=>exact absurd e (hx ρ')
   |_=>exact q
 ·rintro⟨o,e,c,q⟩;unfold bB To;rw[e];cases o with
  |nx ρ'=>exact q
  |_=>exact⟨_,rfl,c,q⟩
theorem pZ:Tv (none:Option (Res α)) Q=False:=propext ⟨λ⟨_,e,_⟩=>(nomatch e),λh=>h.elim⟩
theorem Tp:To none QS=False:=propext ⟨λ⟨_,e,_⟩=>(nomatch e),λh=>h.elim⟩
theorem tv_m2{op:β->γ->Option (Res α)}{f:Fn β}{g:Fn γ}:Tv (m2 op f g ρ) Q=Tv (f ρ) (λa=>Tv (g ρ) (λb=>Tv (op a b) Q)):=by
 unfold m2;simp only[tv_bnd]
theorem tv_m1{op:β->Option (Res α)}{f:Fn β}:Tv (m1 op f ρ) Q=Tv (f ρ) (λa=>Tv (op a) Q):=by unfold m1;rw[tv_bnd]
theorem tv_var{Q:PV->Prop}:Tv (mV i ρ) Q=∃ p,ρ[i]?=some (some (.sh p))/\Q p:=by
 refine propext ⟨?_,λ⟨p,e,q⟩=>⟨_,by unfold mV;rw[e],q⟩⟩
 rintro⟨r,e,q⟩;unfold mV at e;split at e
 ·rename_i p hp;cases e;exact⟨_,hp,q⟩
 ·cases e
theorem tv_lend{Q:PV->Prop}:Tv (mVL i ρ) Q=∃ s,ρ[i]?=some (some s)/\(match s with|.sh p=>Q p|.ow p=>Q p|.dp _=>False):=by
 refine propext ⟨?_,?_⟩
 ·rintro⟨r,e,q⟩;unfold mVL at e;split at e
  ·rename_i p hp;cases e;exact⟨_,hp,q⟩
  ·rename_i p hp;cases e;exact⟨_,hp,q⟩
  ·cases e
 ·rintro⟨s,e,q⟩;cases s with
  |sh p=>exact⟨_,by unfold mVL;rw[e],q⟩
  |ow p=>exact⟨_,by unfold mVL;rw[e],q⟩
  |dp p=>exact q.elim
theorem tv_c{Q:PV->Prop}:Tv (mC p ρ) Q=Q p:=tv_some
theorem tv_view{Q:List PV->Prop}:Tv (uQ f ρ) Q=Tv (f ρ) (λa=>Tv (uN a) Q):=tv_bnd
theorem tv_viewN{Q:List PV->Prop}:Tv (qQ i ρ) Q=Tv (mVL i ρ) (λa=>Tv (uN a) Q):=tv_bnd
theorem tv_asLst{l:List PV}{Q:List PV->Prop}:Tv (uN (.lst l)) Q=Q l:=tv_some
theorem tv_nil{Q:List PV->Prop}:Tv (aR ρ) Q=Q []:=tv_some
theorem tv_cons{g:Fn (List PV)}{Q:List PV->Prop}:Tv (au f g ρ) Q=Tv (f ρ) (λa=>Tv (g ρ) (λl=>Q (a::l))):=by
 unfold au;simp only[tv_bnd,tv_some]
theorem bL{c:Prop}[Decidable c]{a:α}:Tv (if c then some (.ok a) else none) Q=(c/\Q a):=by
 by_cases h:c
 ·rw[Zag h,tv_some];simp[h]
 ·rw[Zal h,pZ];simp[h]
theorem tv_tup{f:Fn (List PV)}{Q:PV->Prop}:Tv (t8 f ρ) Q=Tv (f ρ) (λl=>l.length<=sizeLine/\Q (.tup l)):=by
 unfold t8;simp only[tv_bnd,bL]
theorem tv_lst{f:Fn (List PV)}{Q:PV->Prop}:Tv (jq f ρ) Q=Tv (f ρ) (λl=>l.length<=sizeLine/\Q (.lst l)):=by
 unfold jq;simp only[tv_bnd,bL]
theorem tv_call{m:List PV->Option (Res PV)}{f:Fn (List PV)}{Q:PV->Prop}:Tv (bR m f ρ) Q=Tv (f ρ) (λl=>Tv (m l) Q):=tv_bnd
theorem tv_ite{c:Prop}[Decidable c]{x y:Option (Res α)}:Tv (if c then x else y) Q=if c then Tv x Q else Tv y Q:=by split<;>rfl
theorem to_ite{c:Prop}[Decidable c]{x y:Option Out}:To (if c then x else y) QS=if c then To x QS else To y QS:=by split<;>rfl
theorem tv_mAnd{c d:Fn Bool}{Q:Bool->Prop}:Tv (yh c d ρ) Q=Tv (c ρ) (λb=>if b=true then Tv (d ρ) Q else Q false):=by
 unfold yh;simp only[tv_bnd,tv_ite,tv_some]
theorem tv_mOr{c d:Fn Bool}{Q:Bool->Prop}:Tv (mOr c d ρ) Q=Tv (c ρ) (λb=>if b=true then Q true else Tv (d ρ) Q):=by
 unfold mOr;simp only[tv_bnd,tv_ite,tv_some]
theorem tv_mNot{c:Fn Bool}{Q:Bool->Prop}:Tv (u5 c ρ) Q=Tv (c ρ) (λb=>Q (!b)):=by
 unfold u5;simp only[tv_bnd,tv_some]
theorem tv_and{Q:PV->Prop}:Tv (zf f g ρ) Q=Tv (f ρ) (λa=>∃ b,a=.bl b/\if b=true then Tv (g ρ) Q else Q (.bl false)):=by
 unfold zf;rw[tv_bnd];congr 1;funext a
 refine propext ⟨?_,?_⟩
 ·rintro⟨r,e,q⟩;split at e
  ·exact⟨true,rfl,by rw[Zag rfl];exact⟨r,e,q⟩⟩
  ·cases e;exact⟨false,rfl,by rw[Zal (by decide)];exact q⟩
  ·cases e
 ·rintro⟨b,e,q⟩;subst e;cases b with
  |true=>rw[Zag rfl] at q;exact q
  |false=>rw[Zal (by decide)] at q;exact⟨_,rfl,q⟩
theorem tv_chain{o1 o2:PV->PV->Option (Res PV)}{Q:PV->Prop}:Tv (An o1 o2 f g h ρ) Q=Tv (f ρ) (λa=>Tv (g ρ) (λb=>Tv (o1 a b) (λz=>∃ t,z=.bl t/\if t=true then Tv (h ρ) (λc=>Tv (o2 b c) Q) else Q (.bl false)))):=by
 unfold An;simp only[tv_bnd];congr 1;funext a
 congr 1;funext b
 congr 1;funext c
 refine propext ⟨?_,?_⟩
 ·rintro⟨r,e,q⟩;split at e
  ·refine⟨true,rfl,?_⟩;rw[Zag rfl,<-tv_bnd];exact⟨r,e,q⟩
  ·cases e;exact⟨false,rfl,by rw[Zal (by decide)];exact q⟩
  ·cases e
 ·rintro⟨t,e,q⟩;subst e;cases t with
  |true=>rw[Zag rfl,<-tv_bnd] at q;exact q
  |false=>rw[Zal (by decide)] at q;exact⟨_,rfl,q⟩
theorem tv_comp{it:Fn (List PV)}{fr:List (Option Nat)}{tg:PV->Rho->Option Rho}{tst:Fn Bool}{el:Fn PV}{Q:PV->Prop}:Tv (jj it fr tg tst el ρ) Q=Tv (it ρ) (λl=>l.length<=sizeLine/\Tv (eY tg tst el (frR fr ρ) l) (λr=>Q (.lst r))):=by
 unfold jj;rw[tv_bnd];congr 1;funext l
 by_cases hl:l.length<=sizeLine
 ·rw[Zag hl,tv_bnd];simp only[tv_some,hl,true_and]
 ·rw[Zal hl,pZ];simp[hl]
theorem to_next:To (dU ρ) QS=QS (.nx ρ):=to_nx
theorem to_ret:To (gm f ρ) QS=Tv (f ρ) (λp=>QS (.rt p)):=by unfold gm;simp only[to_bnd,to_rt]
theorem to_retO:To (oE f ρ) QS=Tv (f ρ) (λp=>QS (.ro p)):=by unfold oE;simp only[to_bnd,to_ro]
theorem to_drop:To (nu f ρ) QS=Tv (f ρ) (λ_=>QS (.nx ρ)):=by unfold nu;simp only[to_bnd,to_nx]
theorem to_setO:To (uO i f ρ) QS=Tv (f ρ) (λp=>QS (.nx (ρ.set i (some (.ow p))))):=by unfold uO;simp only[to_bnd,to_nx]
theorem to_asg{tg:PV->Rho->Option Rho}:To (dW f tg ρ) QS=Tv (f ρ) (λp=>∃ ρ',tg p ρ=some ρ'/\QS (.nx ρ')):=by
 unfold dW;rw[to_bnd];congr 1;funext a
 cases e:tg a ρ with
 |none=>rw[Tp];exact propext ⟨λh=>h.elim,λ⟨_,z,_⟩=>nomatch z⟩
 |some ρ'=>rw[to_nx];exact propext ⟨λq=>⟨ρ',rfl,q⟩,λ⟨_,z,q⟩=>by cases z;exact q⟩
theorem to_asgN:To (dW f (gN i) ρ) QS=Tv (f ρ) (λp=>QS (.nx (ρ.set i (some (.sh p))))):=by
 rw[to_asg];congr 1;funext a
 exact propext ⟨λ⟨ρ',e,q⟩=>by cases e;exact q,λq=>⟨_,rfl,q⟩⟩
theorem to_if{c:Fn Bool}:To (eV c s t ρ) QS=Tv (c ρ) (λb=>if b=true then To (s ρ) QS else To (t ρ) QS):=by
 unfold eV;simp only[to_bnd,to_ite]
theorem to_for{it:Fn (List PV)}{tg:PV->Rho->Option Rho}:To (yl it tg s ρ) QS=Tv (it ρ) (λl=>To (loop tg s l ρ) QS):=to_bnd
theorem to_app:To (Ar i f ρ) QS=∃ l,ρ[i]?=some (some (.ow (.lst l)))/\Tv (f ρ) (λp=>l.length<sizeLine/\QS (.nx (ρ.set i (some (.ow (.lst (l++[p]))))))):=by
 refine propext ⟨?_,?_⟩
 ·rintro⟨r,e,c,q⟩;unfold Ar at e;split at e
  ·rename_i l hl;refine⟨l,bC hl,?_⟩;rcases bK e with⟨z,e1,rfl⟩|⟨p,e1,e2⟩
   ·exact c.elim
   ·split at e2
    ·rename_i hlen;cases e2;exact⟨_,e1,hlen,q⟩
    ·cases e2
  ·cases e
 ·rintro⟨l,e,p,e1,h,q⟩;have eo:ownAt i ρ=some (.lst l):=by unfold ownAt;rw[e]
  unfold To Ar;rw[eo];exact⟨.nx _,by simp only[e1,gb];exact Zag h,trivial,q⟩
theorem to_put{fi:Fn PV}:To (RX i f fi ρ) QS=Tv (f ρ) (λp=>∃ l,ρ[i]?=some (some (.ow (.lst l)))/\Tv (fi ρ) (λk=>∃ n j,k=.int n/\ixN l.length n=some j/\QS (.nx (ρ.set i (some (.ow (.lst (l.set j p)))))))):=by
 unfold RX;rw[to_bnd];congr 1;funext p
 refine propext ⟨?_,?_⟩
 ·rintro⟨r,e,c,q⟩;split at e
  ·rename_i l hl;refine⟨l,bC hl,?_⟩;rcases bK e with⟨z,e1,rfl⟩|⟨k,e1,e2⟩
   ·exact c.elim
   ·split at e2
    ·rename_i n;split at e2
     ·rename_i j hj;cases e2;exact⟨_,e1,n,j,rfl,hj,q⟩
     ·cases e2
    ·cases e2
  ·cases e
 ·rintro⟨l,e,k,e1,n,j,ek,hj,q⟩;subst ek;have eo:ownAt i ρ=some (.lst l):=by unfold ownAt;rw[e]
  show To (match ownAt i ρ with|some (.lst l)=>_|_=>none) QS
  rw[eo];exact⟨.nx _,by simp only[e1,gb,hj],trivial,q⟩
theorem to_frz:To (Sh i s ρ) QS=To (s (Ht i ρ)) QS:=rfl
theorem Ir{p:PV}(h:ρ[i]?=some (some (.ow p))):Ht i ρ=ρ.set i (some (.sh p)):=by unfold Ht ownAt;rw[h]
theorem jN{c:Int->Int->Bool}{F:Int->Int->PV}{x y:Int}{Q:PV->Prop}:Tv (MP.opI c F (.int x) (.int y)) Q=(c x y=true/\Q (F x y)):=bL
theorem tv_sub{x y:Int}{Q:PV->Prop}:Tv (DG (.int x) (.int y)) Q=Q (.int (x-y)):=by unfold DG;rw[jN];simp[cT]
theorem tv_and'{x y:Int}{Q:PV->Prop}:Tv (DR (.int x) (.int y)) Q=Q (.int (Builtin.bitAnd x y)):=by unfold DR;rw[jN];simp[cT]
theorem tv_or'{x y:Int}{Q:PV->Prop}:Tv (R0 (.int x) (.int y)) Q=Q (.int (Builtin.bitOr x y)):=by unfold R0;rw[jN];simp[cT]
theorem tv_gt{x y:Int}{Q:PV->Prop}:Tv (R4 (.int x) (.int y)) Q=Q (.bl (decide (y<x))):=by unfold R4;rw[jN];simp[cT]
theorem tv_ge{x y:Int}{Q:PV->Prop}:Tv (R5 (.int x) (.int y)) Q=Q (.bl (decide (y<=x))):=by unfold R5;rw[jN];simp[cT]
theorem tv_div{x y:Int}{Q:PV->Prop}:Tv (wj (.int x) (.int y)) Q=((0<y/\y<1073741824)/\Q (.int (x/y))):=by unfold wj;rw[jN];simp[VB]
theorem tv_mod{x y:Int}{Q:PV->Prop}:Tv (ji (.int x) (.int y)) Q=(0<y/\Q (.int (x%y))):=by unfold ji;rw[jN];simp[Xd]
theorem tv_pow{x y:Int}{Q:PV->Prop}:Tv (DK (.int x) (.int y)) Q=((0<=y/\y<=1000000/\x.natAbs<2^64)/\Q (.int (x^y.toNat))):=by unfold DK;rw[jN];simp[O2]
theorem tv_shl{x y:Int}{Q:PV->Prop}:Tv (DN (.int x) (.int y)) Q=((0<=y/\y<=1000000/\x.natAbs<2^64)/\Q (.int (x*2^y.toNat))):=by unfold DN;rw[jN];simp[O2]
theorem tv_shr{x y:Int}{Q:PV->Prop}:Tv (DP (.int x) (.int y)) Q=(0<=y/\Q (.int (x/2^y.toNat))):=by unfold DP;rw[jN];simp[Xe]
theorem tv_add{x y:Int}{Q:PV->Prop}:Tv (eX (.int x) (.int y)) Q=Q (.int (x+y)):=tv_some
theorem tv_addS{x y:Str}{Q:PV->Prop}:Tv (eX (.str x) (.str y)) Q=(x.length+y.length<=sizeLine/\Q (.str (x++y))):=bL
theorem tv_addT{x y:List PV}{Q:PV->Prop}:Tv (eX (.tup x) (.tup y)) Q=((x≠[]/\x.length+y.length<=sizeLine)/\Q (.tup (x++y))):=bL
theorem tv_mul{x y:Int}{Q:PV->Prop}:Tv (uP (.int x) (.int y)) Q=(GZ x y/\Q (.int (x*y))):=by
 show Tv (if O1 x y=true then _ else none) Q=_
 rw[bL];unfold O1 GZ;simp
theorem tv_mulS{z:Str}{n:Int}{Q:PV->Prop}:Tv (uP (.str z) (.int n)) Q=((-(2^63)<=n/\n<2^63/\z.length*n.toNat<=sizeLine)/\Q (.str (DW z n.toNat))):=bL
theorem tv_lt{x y:Int}{Q:PV->Prop}:Tv (Ay (.int x) (.int y)) Q=Q (.bl (decide (x<y))):=tv_some
theorem tv_ltS{x y:Str}{Q:PV->Prop}:Tv (Ay (.str x) (.str y)) Q=Q (.bl (decide (x.cps.toList<y.cps.toList))):=tv_some
theorem tv_le{x y:Int}{Q:PV->Prop}:Tv (O3 (.int x) (.int y)) Q=Q (.bl (decide (x<=y))):=tv_some
theorem tv_leS{x y:Str}{Q:PV->Prop}:Tv (O3 (.str x) (.str y)) Q=Q (.bl (!(decide (y.cps.toList<x.cps.toList)))):=tv_some
theorem tv_eq{p q:PV}{Q:PV->Prop}:Tv (gV p q) Q=∃ r,eqF 32 p q=some r/\Q (.bl r):=by
 refine propext ⟨?_,λ⟨r,e,k⟩=>⟨_,by unfold gV;rw[e],k⟩⟩
 rintro⟨r,e,k⟩;unfold gV at e;split at e
 ·rename_i b hb;cases e;exact⟨b,hb,k⟩
 ·cases e
theorem tv_ne{p q:PV}{Q:PV->Prop}:Tv (u6 p q) Q=∃ r,eqF 32 p q=some r/\Q (.bl (!r)):=by
 refine propext ⟨?_,λ⟨r,e,k⟩=>⟨_,by unfold u6;rw[e],k⟩⟩
 rintro⟨r,e,k⟩;unfold u6 at e;split at e
 ·rename_i b hb;cases e;exact⟨b,hb,k⟩
 ·cases e
theorem eqF_int(n:Nat)(i j:Int):eqF n (.int i) (.int j)=some (decide (i=j)):=by cases n<;>rfl
theorem eqF_str(n:Nat)(i j:Str):eqF n (.str i) (.str j)=some (decide (i=j)):=by cases n<;>rfl
theorem eqF_bl(n:Nat)(i j:Bool):eqF n (.bl i) (.bl j)=some (decide (i=j)):=by cases n<;>rfl
theorem tv_eqI{x y:Int}{Q:PV->Prop}:Tv (gV (.int x) (.int y)) Q=Q (.bl (decide (x=y))):=by rw[tv_eq,eqF_int];simp
theorem tv_eqS{x y:Str}{Q:PV->Prop}:Tv (gV (.str x) (.str y)) Q=Q (.bl (decide (x=y))):=by rw[tv_eq,eqF_str];simp
theorem tv_neI{x y:Int}{Q:PV->Prop}:Tv (u6 (.int x) (.int y)) Q=Q (.bl (!decide (x=y))):=by rw[tv_ne,eqF_int];simp
theorem tv_neS{x y:Str}{Q:PV->Prop}:Tv (u6 (.str x) (.str y)) Q=Q (.bl (!decide (x=y))):=by rw[tv_ne,eqF_str];simp
theorem tv_in{p q:PV}{Q:PV->Prop}:Tv (Hv p q) Q=∃ r,inU p q=some r/\Q (.bl r):=by
 refine propext ⟨?_,λ⟨r,e,k⟩=>⟨_,by unfold Hv;rw[e],k⟩⟩
 rintro⟨r,e,k⟩;unfold Hv at e;split at e
 ·rename_i b hb;cases e;exact⟨b,hb,k⟩
 ·cases e
theorem Bx{x:Option PV}{Q:PV->Prop}:Tv (ofO x) Q=∃ p,x=some p/\Q p:=by
 refine propext ⟨?_,λ⟨p,e,k⟩=>⟨_,by subst e;rfl,k⟩⟩
 rintro⟨r,e,k⟩;obtain⟨p,e1,e2⟩:=rR e;cases e2;exact⟨_,e1,k⟩
theorem tv_ixL{l:List PV}{n:Int}{Q:PV->Prop}:Tv (cA (.lst l) (.int n)) Q=∃ p,atI l n=some p/\Q p:=Bx
theorem tv_ixT{l:List PV}{n:Int}{Q:PV->Prop}:Tv (cA (.tup l) (.int n)) Q=∃ p,atI l n=some p/\Q p:=Bx
theorem tv_ixV{l:List PV}{n:Int}{Q:PV->Prop}:Tv (DX l (.int n)) Q=∃ p,atI l n=some p/\Q p:=Bx
theorem tv_ixS{z:Str}{n:Int}{Q:PV->Prop}:Tv (cA (.str z) (.int n)) Q=(z.length<=sizeLine/\∃ c,atI z.cps.toList n=some c/\Q (.str ⟨#[c]⟩)):=by
 show Tv (if z.length<=sizeLine then _ else none) Q=_
 by_cases hz:z.length<=sizeLine
 ·rw[Zag hz,Bx];simp only[hz,true_and];refine propext ⟨?_,λ⟨c,e,k⟩=>⟨_,by rw[e];rfl,k⟩⟩
  rintro⟨p,e,k⟩;cases e1:atI z.cps.toList n with
  |none=>rw[e1] at e;cases e
  |some c=>rw[e1] at e;cases e;exact⟨c,rfl,k⟩
 ·rw[Zal hz];exact propext ⟨λ⟨r,e,q⟩=>(nomatch e),λ⟨z,_⟩=>absurd z hz⟩
theorem tv_lenS{z:Str}{Q:PV->Prop}:Tv (jk (.str z)) Q=(z.length<=sizeLine/\Q (.int z.length)):=bL
theorem tv_lenL{l:List PV}{Q:PV->Prop}:Tv (jk (.lst l)) Q=Q (.int l.length):=tv_some
theorem tv_lenT{l:List PV}{Q:PV->Prop}:Tv (jk (.tup l)) Q=Q (.int l.length):=tv_some
theorem tv_is{T:String}{Q:PV->Prop}:Tv (Lg p (.ty T)) Q=∃ b,isI p T=some b/\Q (.bl b):=by
 refine propext ⟨?_,λ⟨r,e,k⟩=>⟨_,by unfold Lg;simp only[e],k⟩⟩
 rintro⟨r,e,k⟩;unfold Lg at e;simp only at e;split at e
 ·rename_i b hb;cases e;exact⟨b,hb,k⟩
 ·cases e
theorem tv_asBl{b:Bool}{Q:Bool->Prop}:Tv (cV (.bl b)) Q=Q b:=tv_some
theorem tv_list{l:List PV}{Q:PV->Prop}:Tv (Ba l) Q=Q (.lst l):=tv_some
theorem tv_opTup{l:List PV}{Q:PV->Prop}:Tv (JG l) Q=Q (.tup l):=tv_some
theorem tv_cat{l m:List PV}{Q:PV->Prop}:Tv (Ea l m) Q=(l.length+m.length<=sizeLine/\Q (.lst (l++m))):=bL
theorem tv_asSeqL{l:List PV}{Q:List PV->Prop}:Tv (nC (.lst l)) Q=Q l:=tv_some
theorem tv_asSeqT{l:List PV}{Q:List PV->Prop}:Tv (nC (.tup l)) Q=Q l:=tv_some
theorem tv_asSeqS{z:Str}{Q:List PV->Prop}:Tv (nC (.str z)) Q=Q (signs z):=tv_some
theorem tv_rng1{j:Int}{Q:List PV->Prop}:Tv (jG [.int j]) Q=((-(2^62)<=j/\j<2^62)/\Q (nY 0 j.toNat)):=bL
theorem tv_enum{l:List PV}{Q:List PV->Prop}:Tv (Hy [.lst l]) Q=Q (wy l):=tv_some
theorem tv_pn{Q:Option Int->Prop}:Tv (mPn ρ) Q=Q none:=tv_some
theorem tv_asInt{x:Int}{Q:Option Int->Prop}:Tv (asInt (.int x)) Q=Q (some x):=tv_some
theorem tv_slL{f:Fn (List PV)}{lo hi:Fn (Option Int)}{Q:PV->Prop}:Tv (R6 f lo hi ρ) Q=Tv (f ρ) (λl=>Tv (lo ρ) (λa=>Tv (hi ρ) (λb=>Q (.lst (Hx l a b))))):=by
 unfold R6;simp only[tv_bnd,tv_some]
theorem tv_opSlS{x:Str}{a b:Option Int}{Q:PV->Prop}:Tv (O7 a b (.str x)) Q=(x.length<=sizeLine/\Q (.str (Txt.slice x a b))):=bL
theorem tv_slS{lo hi:Fn (Option Int)}{Q:PV->Prop}:Tv (Eb f lo hi ρ) Q=Tv (f ρ) (λz=>Tv (lo ρ) (λa=>Tv (hi ρ) (λb=>Tv (O7 a b z) Q))):=by
 unfold Eb;simp only[tv_bnd]
theorem tv_opRep{l:List PV}{n:Int}{Q:PV->Prop}:Tv (O6 (.lst l) (.int n)) Q=((-(2^63)<=n/\n<2^63/\l.length*n.toNat<=sizeLine)/\Q (.lst (List.replicate n.toNat l).flatten)):=bL
theorem tv_rep{Q:PV->Prop}:Tv (Lf f g ρ) Q=Tv (f ρ) (λa=>Tv (g ρ) (λb=>Tv (O6 a b) Q)):=tv_m2
theorem tv_all{l:List PV}{Q:PV->Prop}:Tv (zm l) Q=∃ bs,jZ l=some bs/\Q (.bl (bs.all id)):=by
 refine propext ⟨?_,λ⟨r,e,k⟩=>⟨_,by unfold zm;rw[e],k⟩⟩
 rintro⟨r,e,k⟩;unfold zm at e;split at e
 ·rename_i b hb;cases e;exact⟨b,hb,k⟩
 ·cases e
end
section
variable{Q:PV->Prop}{ρ:Rho}{i j:Nat}{g:Fn PV}
theorem tv_consO{g:Fn (List PV)}{Q:List PV->Prop}:Tv (gD i g ρ) Q=∃ p,ρ[i]?=some (some (.ow p))/\Tv (g ρ) (λl=>Q (p::l)):=by
 unfold gD;cases h:ownAt i ρ with
 |none=>
  simp only;rw[pZ];exact propext ⟨λh=>h.elim,λ⟨p,e,_⟩=>by unfold ownAt at h;rw[e] at h;cases h⟩
 |some p=>
  simp only;rw[tv_bnd];simp only[tv_some];exact propext ⟨λq=>⟨p,bC h,q⟩,λ⟨p',e,q⟩=>by rw[bC h] at e;cases e;exact q⟩
theorem finIO_nx{p:PV}:(Xo j (some (.nx ρ))=some (.ok p))=(ρ[j]?=some (some (.ow p))):=by
 show((match ownAt j ρ with|some p=>some (Res.ok p)|none=>none)=some (.ok p))=_
 cases h:ownAt j ρ with
 |none=>exact propext ⟨λe=>(nomatch e),λe=>by unfold ownAt at h;rw[e] at h;cases h⟩
 |some q=>exact propext ⟨λe=>by cases e;exact bC h,λe=>by rw[bC h] at e;cases e;rfl⟩
end
def turn(I:Rho->Prop)(QS:Out->Prop):Out->Prop
 |.nx ρ=>I ρ
 |.ct ρ=>I ρ
 |.bk ρ=>QS (.nx ρ)
 |o=>QS o
theorem turn_nx{I:Rho->Prop}{QS:Out->Prop}{ρ:Rho}:turn I QS (.nx ρ)=I ρ:=rfl
theorem turn_ct{I:Rho->Prop}{QS:Out->Prop}{ρ:Rho}:turn I QS (.ct ρ)=I ρ:=rfl
theorem turn_bk{I:Rho->Prop}{QS:Out->Prop}{ρ:Rho}:turn I QS (.bk ρ)=QS (.nx ρ):=rfl
theorem turn_rt{I:Rho->Prop}{QS:Out->Prop}{p:PV}:turn I QS (.rt p)=QS (.rt p):=rfl
theorem turn_ro{I:Rho->Prop}{QS:Out->Prop}{p:PV}:turn I QS (.ro p)=QS (.ro p):=rfl
theorem turn_rd{I:Rho->Prop}{QS:Out->Prop}{p:PV}:turn I QS (.rd p)=QS (.rd p):=rfl
theorem J9{tg:PV->Rho->Option Rho}{body:Sn}{QS:Out->Prop}(I:Nat->Rho->Prop):∀ {l:List PV}{ρ:Rho},I 0 ρ ->
  (∀ (i:Nat) x ρ,l[i]?=some x->I i ρ->∃ ρ1,tg x ρ=some ρ1/\To (body ρ1) (turn (I (i+1)) QS)) ->
  (∀ ρ',I l.length ρ'->QS (.nx ρ'))->To (loop tg body l ρ) QS:=by
 intro l;induction l generalizing I with
 |nil=>exact λh0 _ hd=>⟨_,rfl,trivial,hd _ h0⟩
 |cons x xs ih=>
  intro ρ h0 hs hd;obtain⟨ρ1,e1,o,e2,c,q⟩:=hs 0 x ρ rfl h0;unfold To;rw[loop,e1];simp only[e2];cases o with
  |nx ρ2=>exact ih (λi=>I (i+1)) q (λi y ρ e=>hs (i+1) y ρ (by simpa using e)) hd
  |ct ρ2=>exact ih (λi=>I (i+1)) q (λi y ρ e=>hs (i+1) y ρ (by simpa using e)) hd
  |bk ρ2=>exact⟨_,rfl,trivial,q⟩
  |rt p=>exact⟨_,rfl,trivial,q⟩
  |ro p=>exact⟨_,rfl,trivial,q⟩
  |rd p=>exact⟨_,rfl,trivial,q⟩
  |ex z=>exact c.elim
theorem Fp{x:Option Out}{I:Rho->Prop}{Q:Out->Prop}(h:∀ QS:Out->Prop,(∀ ρ,I ρ->QS (.nx ρ))->To x QS):To x (turn I Q):=h _ λ_ h=>h
theorem oW{x:Option Out}{Q:Out->Prop}(h:∀ QS:Out->Prop,(∀ o,Q o->QS o)->To x QS):To x Q:=h _ λ_ h=>h
theorem il{j:Nat}{body:Sn}{QS:Out->Prop}(I:Nat->Rho->Prop){l:List PV}{ρ:Rho}(h0:I 0 ρ)
  (hs:∀ (i:Nat) x ρ,l[i]?=some x->I i ρ->To (body (ρ.set j (some (.sh x)))) (turn (I (i+1)) QS))(hd:∀ ρ',I l.length ρ'->QS (.nx ρ')):To (loop (gN j) body l ρ) QS:=
 J9 I h0 (λi x ρ e hI=>⟨_,rfl,hs i x ρ e hI⟩) hd
theorem Qv{a b:Nat}{body:Sn}{QS:Out->Prop}(I:Nat->Rho->Prop){l:List (PV×PV)}{ρ:Rho}(h0:I 0 ρ)
  (hs:∀ (i:Nat) x y ρ,l[i]?=some (x,y)->I i ρ->To (body ((ρ.set a (some (.sh x))).set b (some (.sh y)))) (turn (I (i+1)) QS))(hd:∀ ρ',I l.length ρ'->QS (.nx ρ')):To (loop (gT 2 (gsCons (gN a) (gsCons (gN b) gsNil))) body (l.map λc=>.tup [c.1,c.2]) ρ) QS:=by
 refine J9 I h0 (λi x ρ e hI=>?_) λρ'=>by rw[Zac];exact hd ρ'
 rw[Zaf] at e;cases h:l[i]? with
 |none=>rw[h] at e;cases e
 |some y=>
  rw[h] at e;cases e;exact⟨_,rfl,hs i y.1 y.2 ρ h hI⟩
theorem dO{x:Option Out}{r:Res PV}(h:To x λo=>fin (some o)=some r):fin x=some r:=by
 obtain⟨o,e,_,q⟩:=h;rw[e];exact q
theorem vC{x:Option Out}{r:Res PV}(h:To x λo=>ug (some o)=some r):ug x=some r:=by
 obtain⟨o,e,_,q⟩:=h;rw[e];exact q
theorem Qw{x:Option Out}{P:PV->Prop}(h:To x λo=>∃ p,fin (some o)=some (.ok p)/\P p):∃ p,fin x=some (.ok p)/\P p:=by
 obtain⟨o,e,_,q⟩:=h;rw[e];exact q
theorem Tq{x:Option Out}{P:PV->Prop}(h:To x λo=>∃ p,ug (some o)=some (.ok p)/\P p):∃ p,ug x=some (.ok p)/\P p:=by
 obtain⟨o,e,_,q⟩:=h;rw[e];exact q
theorem fin_nx{ρ:Rho}:fin (some (.nx ρ))=some (.ok .non):=rfl
theorem fin_rt{p:PV}:fin (some (.rt p))=some (.ok p):=rfl
theorem finO_ro{p:PV}:ug (some (.ro p))=some (.ok p):=rfl
theorem xm{tg:PV->Rho->Option Rho}{tst:Fn Bool}{el:Fn PV}{ρb:Rho}(t:PV->Bool)(f:PV->PV):∀ (l:List PV),
  (∀ x∈l,∃ ρ1,tg x ρb=some ρ1/\tst ρ1=some (.ok (t x))/\(t x=true->el ρ1=some (.ok (f x))))->eY tg tst el ρb l=some (.ok ((l.filter t).map f))
 |[],_=>rfl
 |x::xs,h=>by
  obtain⟨ρ1,e1,e2,e3⟩:=h x ZaF;have ih:=xm t f xs λy hy=>h y (Zar _ hy);rw[eY,e1];simp only[e2,bnd];cases ht:t x with
  |true=>rw[Zag rfl,e3 ht];simp only[ih,Za3,ht,ZaV,Zao]
  |false=>rw[Zal (by decide)];simp only[ih,Za3,ht,Zbg,ZaH]
theorem LC{tg:PV->Rho->Option Rho}{el:Fn PV}{ρb:Rho}(f:PV->PV)(l:List PV)(h:∀ x∈l,∃ ρ1,tg x ρb=some ρ1/\el ρ1=some (.ok (f x))):eY tg ud el ρb l=some (.ok (l.map f)):=by
 have:=xm (tg:=tg) (tst:=ud) (el:=el) (ρb:=ρb) (λ_=>true) f l λx hx=>let⟨ρ1,a,b⟩:=h x hx;⟨ρ1,a,rfl,λ_=>b⟩
 rwa [ZbU.mpr λ_ _=>rfl] at this
theorem tv_compN{tg:PV->Rho->Option Rho}{tst:Fn Bool}{el:Fn PV}{ρb:Rho}{Q:List PV->Prop}:Tv (eY tg tst el ρb []) Q=Q []:=tv_some
theorem tv_compC{j:Nat}{tst:Fn Bool}{el:Fn PV}{ρb:Rho}{x:PV}{xs:List PV}{Q:List PV->Prop}:Tv (eY (gN j) tst el ρb (x::xs)) Q =
  Tv (tst (ρb.set j (some (.sh x)))) (λb=>if b=true then Tv (el (ρb.set j (some (.sh x)))) (λp=>Tv (eY (gN j) tst el ρb xs) (λr=>Q (p::r))) else Tv (eY (gN j) tst el ρb xs) Q):=by
 rw[eY];simp only[gN,tv_bnd,tv_ite,tv_some]
theorem tv_yes{ρ:Rho}{Q:Bool->Prop}:Tv (ud ρ) Q=Q true:=tv_some
theorem zO{α:Type}{x:Option (Res α)}{q:α}(h:Tv x λp=>p=q):x=some (.ok q):=by
 obtain⟨p,e,rfl⟩:=h;exact e
theorem XJ{j:Nat}{el:Fn PV}{ρb:Rho}{l:List PV}(f:PV->PV)(h:∀ x∈l,Tv (el (ρb.set j (some (.sh x)))) λp=>p=f x):eY (gN j) ud el ρb l=some (.ok (l.map f)):=
 LC f l λx hx=>⟨_,rfl,zO (h x hx)⟩
def szP(w h:Int):PV:=.tup [.int w,.int h]
def cellP(c:Int×Int):PV:=.tup [.int c.1,.int c.2]
theorem snocI(l:List Int)(a:Int):l.map PV.int++[PV.int a]=(l++[a]).map PV.int:=by rw[ZaG];rfl
theorem snocS(l:List Str)(a:Str):l.map PV.str++[PV.str a]=(l++[a]).map PV.str:=by rw[ZaG];rfl
theorem snocC(l:List (Int×Int))(a b:Int):l.map cellP++[PV.tup [.int a,.int b]]=(l++[(a,b)]).map cellP:=by rw[ZaG];rfl
theorem is_non_int:isI .non "int"=some false:=rfl
theorem is_non_bool:isI .non "bool"=some false:=rfl
theorem is_non_str:isI .non "str"=some false:=rfl
theorem is_non_list:isI .non "list"=some false:=rfl
theorem is_non_tuple:isI .non "tuple"=some false:=rfl
theorem is_non_dict:isI .non "dict"=some false:=rfl
theorem is_bl_int{b:Bool}:isI (.bl b) "int"=some true:=rfl
theorem is_bl_bool{b:Bool}:isI (.bl b) "bool"=some true:=rfl
theorem is_bl_str{b:Bool}:isI (.bl b) "str"=some false:=rfl
theorem is_bl_list{b:Bool}:isI (.bl b) "list"=some false:=rfl
theorem is_bl_tuple{b:Bool}:isI (.bl b) "tuple"=some false:=rfl
theorem is_bl_dict{b:Bool}:isI (.bl b) "dict"=some false:=rfl
theorem is_int_int{i:Int}:isI (.int i) "int"=some true:=rfl
theorem is_int_bool{i:Int}:isI (.int i) "bool"=some false:=rfl
theorem is_int_str{i:Int}:isI (.int i) "str"=some false:=rfl
theorem is_int_list{i:Int}:isI (.int i) "list"=some false:=rfl
theorem is_int_tuple{i:Int}:isI (.int i) "tuple"=some false:=rfl
theorem is_int_dict{i:Int}:isI (.int i) "dict"=some false:=rfl
theorem is_str_int{z:Str}:isI (.str z) "int"=some false:=rfl
theorem is_str_bool{z:Str}:isI (.str z) "bool"=some false:=rfl
theorem is_str_str{z:Str}:isI (.str z) "str"=some true:=rfl
theorem is_str_list{z:Str}:isI (.str z) "list"=some false:=rfl
theorem is_str_tuple{z:Str}:isI (.str z) "tuple"=some false:=rfl
theorem is_str_dict{z:Str}:isI (.str z) "dict"=some false:=rfl
theorem is_tup_int{l:List PV}:isI (.tup l) "int"=some false:=rfl
theorem is_tup_bool{l:List PV}:isI (.tup l) "bool"=some false:=rfl
theorem is_tup_str{l:List PV}:isI (.tup l) "str"=some false:=rfl
theorem is_tup_list{l:List PV}:isI (.tup l) "list"=some false:=rfl
theorem is_tup_tuple{l:List PV}:isI (.tup l) "tuple"=some true:=rfl
theorem is_tup_dict{l:List PV}:isI (.tup l) "dict"=some false:=rfl
theorem is_lst_int{l:List PV}:isI (.lst l) "int"=some false:=rfl
theorem is_lst_bool{l:List PV}:isI (.lst l) "bool"=some false:=rfl
theorem is_lst_str{l:List PV}:isI (.lst l) "str"=some false:=rfl
theorem is_lst_list{l:List PV}:isI (.lst l) "list"=some true:=rfl
theorem is_lst_tuple{l:List PV}:isI (.lst l) "tuple"=some false:=rfl
theorem is_lst_dict{l:List PV}:isI (.lst l) "dict"=some false:=rfl
theorem LK{ns:List Int}{i:Int}(h0:0<=i)(h:i<ns.length):atI (ns.map PV.int) i=some (.int (ns.getD i.toNat 0)):=by
 obtain⟨v,e1,e2⟩:=vV (xs:=ns.map PV.int) h0 (by rw[Zac];exact h)
 rw[e1];rw[Zaf] at e2;have hl:i.toNat<ns.length:=by lia
 rw[Zad hl] at e2;rw[Zav,Zad hl];exact e2.symm
theorem atI_0{p:PV}{l:List PV}:atI (p::l) 0=some p:=jn (j:=0) rfl
theorem atI_1{p q:PV}{l:List PV}:atI (p::q::l) 1=some q:=jn (j:=1) rfl
theorem atI_2{p q r:PV}{l:List PV}:atI (p::q::r::l) 2=some r:=jn (j:=2) rfl
theorem atI_3{p q r s:PV}{l:List PV}:atI (p::q::r::s::l) 3=some s:=jn (j:=3) rfl
theorem Tr(ns:List Int)(lo hi:Option Int):∃ ms:List Int,Hx (ns.map PV.int) lo hi=ms.map PV.int/\ms.length<=ns.length:=by
 refine⟨(ns.drop (HT.sIx ns.length 0 lo)).take (HT.sIx ns.length ns.length hi-HT.sIx ns.length 0 lo),?_,?_⟩
 ·unfold Hx;rw[Zac,List.map_take,List.map_drop]
 ·rw[Zcc,List.length_drop];omega
theorem tv_newD{ρ:Rho}{Q:PV->Prop}:Tv (wF ρ) Q=Q (.dk []):=tv_some
theorem is_dk_int{l:List (Key×PV)}:isI (.dk l) "int"=some false:=rfl
theorem is_dk_str{l:List (Key×PV)}:isI (.dk l) "str"=some false:=rfl
section
variable{ρ:Rho}{f g h:Fn PV}{i:Nat}{Q:PV->Prop}{d k x p:PV}
theorem Qx:Tv (asD p) Q=(p.isD=true/\Q p):=bL
theorem tv_viewD:Tv (gf f ρ) Q=Tv (f ρ) (λp=>p.isD=true/\Q p):=by unfold gf;rw[tv_bnd];simp only[Qx]
theorem tv_viewDN:Tv (j0 i ρ) Q=Tv (mVL i ρ) (λp=>p.isD=true/\Q p):=by unfold j0;rw[tv_bnd];simp only[Qx]
theorem By{α:Type}{o:Option α}{F:α->PV}:Tv (o.map λr=>Res.ok (F r)) Q=∃ r,o=some r/\Q (F r):=by
 cases o with
 |none=>exact propext ⟨(λ⟨_,e,_⟩=>by cases e),(λ⟨_,e,_⟩=>by cases e)⟩
 |some r=>exact propext ⟨λ⟨_,e,q⟩=>by cases e;exact⟨r,rfl,q⟩,λ⟨_,e,q⟩=>by cases e;exact⟨_,rfl,q⟩⟩
theorem tv_dget2:Tv (Bc f g h ρ) Q=Tv (f ρ) (λd=>Tv (g ρ) (λk=>Tv (h ρ) (λx=>∃ r,jJ d k=some r/\Q (r.getD x)))):=by
 unfold Bc;simp only[tv_bnd,By]
theorem tv_opDGet:Tv (oK d k) Q=∃ p,jJ d k=some (some p)/\Q p:=by
 unfold oK;split
 ·rename_i p h;rw[h,tv_some];exact propext ⟨λq=>⟨p,rfl,q⟩,λ⟨_,e,q⟩=>by cases e;exact q⟩
 ·rename_i h;rw[pZ];exact propext ⟨λz=>z.elim,λ⟨p,e,_⟩=>(h p e).elim⟩
theorem tv_opDIn:Tv (zq k d) Q=∃ r,jJ d k=some r/\Q (.bl r.isSome):=by unfold zq;rw[By]
theorem tv_opDNotIn:Tv (iZ k d) Q=∃ r,jJ d k=some r/\Q (.bl (!r.isSome)):=by unfold iZ;rw[By]
theorem tv_ofR{mk:List PV->PV}{j:Int}:Tv (JK mk (.int j)) Q=((-(2^30)<=j/\j<=1000000)/\Q (mk ((List.range j.toNat).map λi=>.int (i:Nat)))):=bL
end
section
variable{l:List (Key×PV)}{t:List (List Key×PV)}{ks:List PV}{n:Int}{z:Str}
theorem dF_int:jJ (.dk l) (.int n)=some (eO l (.inl n)):=rfl
theorem dF_str:jJ (.dk l) (.str z)=some (eO l (.inr z)):=rfl
theorem dF_tup:jJ (.dt t) (.tup ks)=(qR ks).map (eO t):=rfl
theorem isD_dk:(PV.dk l).isD=true:=rfl
theorem isD_dt:(PV.dt t).isD=true:=rfl
end
section
variable{f:Fn PV}{ρ:Rho}{Q:PV->Prop}{QS:Out->Prop}{i:Nat}{p:PV}
theorem tv_deep:Tv (qm f ρ) Q=Tv (f ρ) (λp=>∃ l,p=.lst l/\l.all PV.still=true/\Q (.lst l)):=by
 unfold qm;rw[tv_bnd];congr 1;funext p
 refine propext ⟨?_,?_⟩
 ·rintro⟨r,e,q⟩;cases p with
  |lst l=>
   have e:(if l.all PV.still=true then some (Res.ok (PV.lst l)) else none)=some (.ok r):=e;split at e
   ·rename_i h;cases e;exact⟨l,rfl,h,q⟩
   ·cases e
  |_=>cases e
 ·rintro⟨l,rfl,h,q⟩;exact⟨_,Zag h,q⟩
theorem tv_still:Tv (qT f ρ) Q=Tv (f ρ) (λp=>p.still=true/\Q p):=by
 unfold qT;rw[tv_bnd];congr 1;funext p
 exact bL
theorem to_setD:To (zx i f ρ) QS=Tv (f ρ) (λp=>QS (.nx (ρ.set i (some (.dp p))))):=by unfold zx;simp only[to_bnd,to_nx]
theorem to_retD:To (wJ f ρ) QS=Tv (f ρ) (λp=>QS (.rd p)):=by unfold wJ;simp only[to_bnd,to_rd]
theorem tv_fzT{f:Fn Bool}{Q:Bool->Prop}:Tv (HF i f ρ) Q=∃ p,ρ[i]?=some (some (.dp p))/\Tv (f (ρ.set i (some (.sh p)))) Q:=by
 refine propext ⟨?_,λ⟨p,e,r,e2,q⟩=>⟨r,by unfold HF g8;rw[e];exact e2,q⟩⟩
 rintro⟨r,e,q⟩;unfold HF at e;split at e
 ·rename_i p hp;exact⟨p,bV hp,r,e,q⟩
 ·cases e
theorem tv_fz:Tv (mFz i f ρ) Q=∃ p,ρ[i]?=some (some (.dp p))/\Tv (f (ρ.set i (some (.sh p)))) (λq=>q.flat=true/\Q q):=by
 refine propext ⟨?_,λ⟨p,e,r,e2,c,q⟩=>⟨r,by unfold mFz g8;rw[e];simp only[e2,bnd];rw[Zag c],q⟩⟩
 rintro⟨r,e,q⟩;unfold mFz at e;split at e
 ·rename_i p hp;rcases aX e with⟨z,_,e3⟩|⟨a,e3,e4⟩
  ·cases e3
  ·split at e4
   ·rename_i c;cases e4;exact⟨p,bV hp,r,e3,c,q⟩
   ·cases e4
 ·cases e
theorem finT_rd:ym (some (.rd p))=some (.ok p):=rfl
theorem vD{x:Option Out}{r:Res PV}(h:To x λo=>ym (some o)=some r):ym x=some r:=by
 obtain⟨o,e,_,q⟩:=h;rw[e];exact q
end
section
variable{ρ:Rho}{Q:PV->Prop}{QS:Out->Prop}{p:PV}
def Qy(QS:Out->Prop):Out->Prop
 |.rd _=>False
 |o=>QS o
theorem holdQ_nx:Qy QS (.nx ρ)=QS (.nx ρ):=rfl
theorem holdQ_rt:Qy QS (.rt p)=QS (.rt p):=rfl
theorem holdQ_ro:Qy QS (.ro p)=QS (.ro p):=rfl
theorem tv_mulL{x y:Int}:Tv (mK (.int x) (.int y)) Q=((x.natAbs<2^9000/\y.natAbs<2^9000)/\Q (.int (x*y))):=by unfold mK;rw[jN];simp[UL]
end
section
variable{s t:Sn}{ρ:Rho}{z p:PV}{QS:Out->Prop}{Q:PV->Prop}{f:Fn PV}{i:Nat}
theorem BJ(h:s ρ=some (.ex z)):bB s t ρ=some (.ex z):=by unfold bB;rw[h]
theorem V8(h:To (s ρ) (xj (λρ'=>t ρ'=some (.ex z)) λ_=>False)):bB s t ρ=some (.ex z):=by
 obtain⟨o,e,_,q⟩:=h;cases o with
 |nx ρ'=>unfold bB;rw[e];exact q
 |_=>exact q.elim
theorem Qz{c:Fn Bool}(h:Tv (c ρ) λb=>if b=true then s ρ=some (.ex z) else t ρ=some (.ex z)):eV c s t ρ=some (.ex z):=by
 obtain⟨b,e,q⟩:=h;unfold eV;rw[e];cases b<;>exact q
theorem p6(h:f ρ=some (.ex z)):nu f ρ=some (.ex z):=by unfold nu;rw[h];rfl
theorem p7{m:List PV->Option (Res PV)}{g:Fn (List PV)}(h:Tv (g ρ) λl=>m l=some (.ex z)):bR m g ρ=some (.ex z):=by
 obtain⟨l,e,q⟩:=h;unfold bR;rw[e];exact q
def xn(i:Nat)(QS:Out->Prop):Out->Prop
 |.nx ρ=>QS (.nx (ρ.set i none))
 |.bk ρ=>QS (.bk (ρ.set i none))
 |.ct ρ=>QS (.ct (ρ.set i none))
 |o=>QS o
theorem goneQ_nx:xn i QS (.nx ρ)=QS (.nx (ρ.set i none)):=rfl
theorem goneQ_bk:xn i QS (.bk ρ)=QS (.bk (ρ.set i none)):=rfl
theorem goneQ_ct:xn i QS (.ct ρ)=QS (.ct (ρ.set i none)):=rfl
theorem goneQ_rt:xn i QS (.rt p)=QS (.rt p):=rfl
theorem goneQ_ro:xn i QS (.ro p)=QS (.ro p):=rfl
theorem to_gone{x:Option Out}:To (UW i x) QS=To x (xn i QS):=by
 refine propext ⟨?_,?_⟩
 ·rintro⟨o,e,c,q⟩;cases x with
  |none=>cases e
  |some y=>cases y<;>cases e<;>first|exact⟨_,rfl,trivial,q⟩|exact c.elim
 ·rintro⟨o,e,c,q⟩;subst e;cases o with
  |ex z=>exact c.elim
  |_=>exact⟨_,rfl,trivial,q⟩
theorem V9{sub:Str->Option Bool}{rest:PV->Sn}{c:Str}{l:List (Str×PV)}(h:sub c=some true):To (Sx sub i s rest (.exc c l) ρ) QS=To (s (ρ.set i (some (.sh (.exc c l))))) (xn i QS):=by
 show To (match sub c with|some true=>_|some false=>_|none=>none) QS=_
 rw[h];exact to_gone
theorem nn_non:PV.non.wk=true:=rfl
theorem nn_int{i:Int}:(PV.int i).wk=false:=rfl
theorem nn_str{z:Str}:(PV.str z).wk=false:=rfl
theorem nn_bl{b:Bool}:(PV.bl b).wk=false:=rfl
theorem nn_tup{l:List PV}:(PV.tup l).wk=false:=rfl
theorem nn_lst{l:List PV}:(PV.lst l).wk=false:=rfl
theorem nn_exc{c:Str}{l:List (Str×PV)}:(PV.exc c l).wk=false:=rfl
def Yo(sub:Str->Option Bool)(no:Bool):PV->Option Bool
 |.exc c _=>sub c
 |.non=>some no
 |_=>none
theorem tv_isX{sub:Str->Option Bool}{no:Bool}:Tv (yp sub no f ρ) Q=Tv (f ρ) (λp=>∃ b,Yo sub no p=some b/\Q (.bl b)):=by
 unfold yp;rw[tv_bnd];congr 1;funext p
 have no':∀ {P:Bool->Prop},Tv (none:Option (Res PV)) Q=∃ b,(none:Option Bool)=some b/\P b:=λ{P}=>by
  rw[pZ];exact propext ⟨λh=>h.elim,λ⟨_,e,_⟩=>nomatch e⟩
 cases p with
 |non=>exact propext ⟨λ⟨r,e,q⟩=>by cases e;exact⟨no,rfl,q⟩,λ⟨b,e,q⟩=>by cases e;exact⟨_,rfl,q⟩⟩
 |exc c l=>
  show Tv ((sub c).map λb=>.ok (.bl b)) Q=∃ b,sub c=some b/\_
  cases h:sub c with
  |none=>exact no'
  |some b=>exact propext ⟨λ⟨r,e,q⟩=>by cases e;exact⟨b,rfl,q⟩,λ⟨b,e,q⟩=>by cases e;exact⟨_,rfl,q⟩⟩
 |_=>exact no'
def XM(nm:Str->Bool)(g:Str):PV->Option PV
 |.exc c (x::l)=>if nm c=true then(x::l).lookup g else none
 |_=>none
theorem tv_fldX{nm:Str->Bool}{g:Str}:Tv (Es nm g f ρ) Q=Tv (f ρ) (λp=>∃ q,XM nm g p=some q/\Q q):=by
 unfold Es;rw[tv_bnd];congr 1;funext p
 have no':Tv (none:Option (Res PV)) Q=∃ b,(none:Option PV)=some b/\Q b:=by
  rw[pZ];exact propext ⟨λh=>h.elim,λ⟨_,e,_⟩=>nomatch e⟩
 cases p with
 |exc c l=>
  cases l with
  |nil=>exact no'
  |cons x l=>
   show Tv (if nm c=true then((x::l).lookup g).map .ok else none) Q=∃ q,(if nm c=true then(x::l).lookup g else none)=some q/\Q q
   by_cases hn:nm c=true
   ·rw[Zag hn,Zag hn];cases h:(x::l).lookup g with
    |none=>exact no'
    |some b=>exact propext ⟨λ⟨r,e,q⟩=>by cases e;exact⟨_,rfl,q⟩,λ⟨b,e,q⟩=>by cases e;exact⟨_,rfl,q⟩⟩
   ·rw[Zal hn,Zal hn];exact no'
 |_=>exact no'
end
def Ev{α:Type}(x:Option (Res (α×Rho)))(Q:α->Rho->Prop):Prop:=∃ a ρ,x=some (.ok (a,ρ))/\Q a ρ
section
variable{α β:Type}{Q:α->Rho->Prop}{QS:Out->Prop}{ρ:Rho}{i j:Nat}{s t:Sn}
theorem ev_some{a:α}:Ev (some (.ok (a,ρ))) Q=Q a ρ:=propext ⟨λ⟨_,_,e,q⟩=>by cases e;exact q,λq=>⟨_,_,rfl,q⟩⟩
theorem xq{x:Option (Res (β×Rho))}{kk:β->Rho->Option (Res (α×Rho))}:Ev (wO x kk) Q=Ev x (λb ρ=>Ev (kk b ρ) Q):=by
 refine propext ⟨?_,λ⟨b,r,e,q⟩=>by subst e;exact q⟩
 rintro⟨a,r,e,q⟩;rcases wQ e with⟨z,_,e2⟩|⟨b,ρ',e1,e2⟩
 ·cases e2
 ·exact⟨b,ρ',e1,a,r,e2,q⟩
theorem QB{x:Option (Res β)}{kk:β->Option (Res (α×Rho))}:Ev (bnd x kk) Q=Tv x (λb=>Ev (kk b) Q):=by
 refine propext ⟨?_,λ⟨b,e,q⟩=>by subst e;exact q⟩
 rintro⟨a,r,e,q⟩;rcases aX e with⟨z,_,e2⟩|⟨b,e1,e2⟩
 ·cases e2
 ·exact⟨b,e1,a,r,e2,q⟩
theorem Ka{x:Option (Res (β×Rho))}{kk:β->Rho->Option Out}:To (oR x kk) QS=Ev x (λb ρ=>To (kk b ρ) QS):=by
 refine propext ⟨?_,λ⟨b,r,e,q⟩=>by subst e;exact q⟩
 rintro⟨a,e,c,q⟩;rcases lO e with⟨z,_,rfl⟩|⟨b,ρ',e1,e2⟩
 ·exact c.elim
 ·exact⟨b,ρ',e1,a,e2,c,q⟩
theorem ev_p{f:Fn α}:Ev (eP f ρ) Q=Tv (f ρ) (λa=>Q a ρ):=by unfold eP;simp only[QB,ev_some]
theorem ev_2{op:PV->PV->Option (Res PV)}{f g:Fe PV}{Q:PV->Rho->Prop}:Ev (e2 op f g ρ) Q=Ev (f ρ) (λa ρ1=>Ev (g ρ1) (λb ρ2=>Tv (op a b) (λc=>Q c ρ2))):=by unfold e2;simp only[xq,QB,ev_some]
theorem ev_nil{Q:List PV->Rho->Prop}:Ev (Ey ρ) Q=Q [] ρ:=ev_some
theorem ev_cons{f:Fe PV}{g:Fe (List PV)}{Q:List PV->Rho->Prop}:Ev (jl f g ρ) Q=Ev (f ρ) (λa ρ1=>Ev (g ρ1) (λl ρ2=>Q (a::l) ρ2)):=by unfold jl;simp only[xq,ev_some]
theorem ev_call{m:List PV->Option (Res PV)}{f:Fe (List PV)}{Q:PV->Rho->Prop}:Ev (zJ m f ρ) Q=Ev (f ρ) (λl ρ1=>Tv (m l) (λc=>Q c ρ1)):=by unfold zJ;simp only[xq,QB,ev_some]
theorem XS{c:Prop}[Decidable c]{x:Option (Res (α×Rho))}:Ev (if c then x else none) Q=(c/\Ev x Q):=by
 by_cases h:c
 ·rw[Zag h];exact propext ⟨λq=>⟨h,q⟩,λq=>q.2⟩
 ·rw[Zal h];exact propext ⟨λ⟨_,_,e,_⟩=>(by cases e),λq=>absurd q.1 h⟩
theorem ev_tup{f:Fe (List PV)}{Q:PV->Rho->Prop}:Ev (Lp f ρ) Q=Ev (f ρ) (λl ρ1=>l.length<=sizeLine/\Q (.tup l) ρ1):=by unfold Lp;simp only[xq,XS,ev_some]
theorem ev_bl{f:Fe PV}{Q:Bool->Rho->Prop}:Ev (eBl f ρ) Q=Ev (f ρ) (λa ρ1=>∃ b,a=.bl b/\Q b ρ1):=by
 unfold eBl;rw[xq];congr 1;funext a ρ1
 refine propext ⟨?_,λ⟨b,e,q⟩=>by subst e;exact⟨_,_,rfl,q⟩⟩
 rintro⟨b,r,e,q⟩;cases a<;>cases e;exact⟨_,rfl,q⟩
theorem ev_io{m:List PV->Option (Res PV)}{f:Fn (List PV)}{Q:PV->Rho->Prop}:Ev (eIO i m f ρ) Q=∃ p,ρ[i]?=some (some (.ow p))/\Tv (f ρ) (λl=>∃ q p',m l=some (.ok (.tup [q,p']))/\Q q (ρ.set i (some (.ow p')))):=by
 refine propext ⟨?_,λ⟨p,e,l,e1,q,p',e2,z⟩=>⟨q,_,?_,z⟩⟩
 ·rintro⟨a,r,e,q⟩;unfold eIO at e;split at e
  ·rename_i p hp;refine⟨p,bC hp,?_⟩;rcases aX e with⟨z,_,e2⟩|⟨l,e1,e2⟩
   ·cases e2
   ·split at e2
    ·rename_i q1 p1 hm;cases e2;exact⟨l,e1,_,_,hm,q⟩
    ·cases e2
  ·cases e
 ·unfold eIO ownAt;rw[e,e1,Oj,e2]
theorem ev_tree{m:List PV->Option (Res PV)}{f:Fn (List PV)}{Q:PV->Rho->Prop}:Ev (wW i m f ρ) Q=∃ p,ρ[i]?=some (some (.dp p))/\Tv (f ρ) (λl=>∃ q p',m (p::l)=some (.ok (.tup [q,p']))/\Q q (ρ.set i (some (.dp p')))):=by
 refine propext ⟨?_,λ⟨p,e,l,e1,q,p',e2,z⟩=>⟨q,_,?_,z⟩⟩
 ·rintro⟨a,r,e,q⟩;unfold wW at e;split at e
  ·rename_i p hp;refine⟨p,bV hp,?_⟩;rcases aX e with⟨z,_,e2⟩|⟨l,e1,e2⟩
   ·cases e2
   ·split at e2
    ·rename_i q1 p1 hm;cases e2;exact⟨l,e1,_,_,hm,q⟩
    ·cases e2
  ·cases e
 ·unfold wW g8;rw[e];show bnd (f ρ) _=_
  rw[e1,Oj,e2]
theorem to_asgE{f:Fe PV}:To (yq f (gN i) ρ) QS=Ev (f ρ) (λp ρ1=>QS (.nx (ρ1.set i (some (.sh p))))):=by unfold yq gN;simp only[Ka,to_nx]
theorem to_retE{f:Fe PV}:To (SX f ρ) QS=Ev (f ρ) (λp _=>QS (.rt p)):=by unfold SX;simp only[Ka,to_rt]
theorem to_ifE{c:Fe Bool}:To (eIf c s t ρ) QS=Ev (c ρ) (λb ρ1=>if b=true then To (s ρ1) QS else To (t ρ1) QS):=by unfold eIf;simp only[Ka,to_ite]
theorem to_forE{f:Fe PV}{tg:PV->Rho->Option Rho}:To (Ez f tg s ρ) QS=Ev (f ρ) (λp ρ1=>∃ j,p=.int j/\-(2^62)<=j/\j<2^62/\To (loop tg s (nY 0 j.toNat) ρ1) QS):=by
 unfold Ez;rw[Ka];congr 1;funext p ρ1
 refine propext ⟨?_,λ⟨j,e,h1,h2,q⟩=>by subst e;show To (if _ then _ else _) _;rw[Zag ⟨h1,h2⟩];exact q⟩
 rintro⟨o,e,c,q⟩;cases p with
 |int j=>
  have e:(if -(2^62)<=j/\j<2^62 then loop tg s (nY 0 j.toNat) ρ1 else none)=some o:=e;split at e
  ·rename_i h;exact⟨j,rfl,h.1,h.2,o,e,c,q⟩
  ·cases e
 |_=>cases e
theorem to_appE{f:Fe PV}:To (Ij i f ρ) QS=∃ l0,ρ[i]?=some (some (.ow (.lst l0)))/\Ev (f ρ) (λp ρ1=>∃ l,ρ1[i]?=some (some (.ow (.lst l)))/\l.length<sizeLine/\QS (.nx (ρ1.set i (some (.ow (.lst (l++[p]))))))):=by
 refine propext ⟨?_,λ⟨l0,e0,p,ρ1,e1,l,e2,h,q⟩=>⟨.nx _,?_,trivial,q⟩⟩
 ·rintro⟨o,e,c,q⟩;unfold Ij at e;split at e
  ·rename_i l0 hl;refine⟨l0,bC hl,?_⟩;rcases lO e with⟨z,_,rfl⟩|⟨p,ρ1,e1,e2⟩
   ·exact c.elim
   ·split at e2
    ·rename_i l hl1;split at e2
     ·rename_i h;cases e2;exact⟨p,ρ1,e1,l,bC hl1,h,q⟩
     ·cases e2
    ·cases e2
  ·cases e
 ·unfold Ij ownAt;rw[e0];show oR (f ρ) _=_
  rw[e1];show(match ownAt i ρ1 with|some (.lst l)=>_|_=>none)=_
  unfold ownAt;rw[e2];exact Zag h
theorem to_popE{g:Nat}{f:Fe PV}:To (Lq g i f ρ) QS=∃ l0,ρ[i]?=some (some (.ow (.lst l0)))/\Ev (f ρ) (λp ρ1=>∃ l k y,ρ1[i]?=some (some (.ow (.lst l)))/\p=.int k/\(0<=k/\k<2^62)/\l[k.toNat]?=some y/\QS (.nx ((ρ1.set i (some (.ow (.lst (l.eraseIdx k.toNat))))).set g (some (.sh y))))):=by
 refine propext ⟨?_,λ⟨l0,e0,p,ρ1,e1,l,k,y,e2,e3,h,hy,q⟩=>⟨.nx _,?_,trivial,q⟩⟩
 ·rintro⟨o,e,c,q⟩;unfold Lq at e;split at e
  ·rename_i l0 hl;refine⟨l0,bC hl,?_⟩;rcases lO e with⟨z,_,rfl⟩|⟨p,ρ1,e1,e2⟩
   ·exact c.elim
   ·split at e2
    ·rename_i l k hl1;split at e2
     ·rename_i h;split at e2
      ·rename_i y hy;cases e2;exact⟨_,ρ1,e1,l,k,y,bC hl1,rfl,h,hy,q⟩
      ·cases e2
     ·cases e2
    ·cases e2
  ·cases e
 ·subst e3;unfold Lq ownAt;rw[e0];show oR (f ρ) _=_
  rw[e1];show(match ownAt i ρ1,PV.int k with|some (.lst l),.int k=>_|_,_=>none)=_
  unfold ownAt;rw[e2];show(if _ then _ else _)=_
  rw[Zag h];show(match l[k.toNat]? with|some y=>_|none=>_)=_
  rw[hy]
theorem to_seqP:To (oO s t ρ) QS=To (s ρ) (xj (λρ'=>To (t ρ') QS) λ_=>False):=by
 unfold oO;refine propext ⟨?_,?_⟩
 ·rintro⟨o,e,c,q⟩;split at e
  ·rename_i ρ' h;exact⟨_,h,trivial,o,e,c,q⟩
  ·cases e
 ·rintro⟨o,e,c,q⟩;cases o with
  |nx ρ'=>rw[e];exact q
  |_=>exact q.elim
theorem to_retR{f:Fn PV}:To (JX j f ρ) QS=Tv (f ρ) (λq=>∃ p,ρ[j]?=some (some (.ow p))/\QS (.rt (.tup [q,p]))):=by
 unfold JX;rw[to_bnd];congr 1;funext q
 refine propext ⟨?_,λ⟨p,e,z⟩=>⟨.rt _,by unfold ownAt;rw[e],trivial,z⟩⟩
 rintro⟨o,e,c,z⟩;split at e
 ·rename_i p hp;cases e;exact⟨p,bC hp,z⟩
 ·cases e
theorem to_retW{f:Fn PV}:To (J5 f ρ) QS=Tv (f ρ) (λq=>∃ p,ρ[0]?=some (some (.dp p))/\QS (.rt (.tup [q,p]))):=by
 unfold J5;rw[to_bnd];congr 1;funext q
 refine propext ⟨?_,λ⟨p,e,z⟩=>⟨.rt _,by unfold g8;rw[e],trivial,z⟩⟩
 rintro⟨o,e,c,z⟩;split at e
 ·rename_i p hp;cases e;exact⟨p,bV hp,z⟩
 ·cases e
theorem jb(h:To (s ρ) λo=>∃ ρ',o=.nx ρ'/\QS (.nx ρ')):To (ik s ρ) QS:=by
 obtain⟨o,e,_,ρ',rfl,q⟩:=h;exact⟨.nx _,by unfold ik;rw[e],trivial,q⟩
theorem tv_fldO{cls g:Str}{f:Fn PV}{Q:PV->Prop}:Tv (ig cls g f ρ) Q=Tv (f ρ) (λp=>∃ c l q,p=.obj c l/\c=cls/\l.lookup g=some q/\Q q):=by
 unfold ig;rw[tv_bnd];congr 1;funext p
 refine propext ⟨?_,λ⟨c,l,q,e,e1,e2,z⟩=>⟨q,by subst e e1;show(if _ then _ else _)=_;rw[Zag rfl,e2];rfl,z⟩⟩
 rintro⟨r,e,z⟩;cases p with
 |obj c l=>
  have e:(if c=cls then(l.lookup g).map Res.ok else none)=some (.ok r):=e;split at e
  ·rename_i hc;obtain⟨q,hq,e⟩:=ZaD.mp e;cases e;exact⟨c,l,r,rfl,hc,hq,z⟩
  ·cases e
 |_=>cases e
theorem tv_callM{cls mn:Str}{m:List PV->Option (Res PV)}{fa:Fn PV}{fs:Fn (List PV)}{Q:PV->Prop}:Tv (vd (je cls mn m fa fs) ρ) Q=Tv (fa ρ) (λp=>∃ c l,p=.obj c l/\(c=cls/\l.lookup mn=none)/\Tv (fs ρ) (λxs=>Tv (m (.obj c l::xs)) Q)):=by
 have ok:Tv (vd (je cls mn m fa fs) ρ) Q=Tv (je cls mn m fa fs ρ) Q:=by
  refine propext ⟨?_,λ⟨r,e,z⟩=>⟨r,by unfold vd;rw[e],z⟩⟩
  rintro⟨r,e,z⟩;unfold vd at e;split at e
  ·rename_i p hp;cases e;exact⟨_,hp,z⟩
  ·cases e
 rw[ok];unfold je;rw[tv_bnd];congr 1;funext p
 refine propext ⟨?_,λ⟨c,l,e,e1,z⟩=>by subst e;show Tv (if _ then _ else _) _;rw[Zag e1,tv_bnd];exact z⟩
 rintro⟨r,e,z⟩;cases p with
 |obj c l=>
  have e:(if c=cls/\l.lookup mn=none then bnd (fs ρ) λxs=>m (.obj c l::xs) else none)=some (.ok r):=e;split at e
  ·rename_i hc;refine⟨c,l,rfl,hc,?_⟩;rw[<-tv_bnd];exact⟨r,e,z⟩
  ·cases e
 |_=>cases e
theorem to_seqX:To (sU s t ρ) QS=To (s ρ) (xj (λρ'=>To (t ρ') QS) λ_=>False):=by
 unfold sU;refine propext ⟨?_,?_⟩
 ·rintro⟨o,e,c,q⟩;split at e
  ·rename_i ρ' h;exact⟨_,h,trivial,o,e,c,q⟩
  ·split at e
   ·cases e;exact c.elim
   ·cases e
  ·cases e
 ·rintro⟨o,e,c,q⟩;cases o with
  |nx ρ'=>rw[e];exact q
  |_=>exact q.elim
theorem to_toW{p:PV}{x:Option Sl}{r:Rho}:To (Ls p s (x::r)) QS=To (s (some (.dp p)::r.map clr)) QS:=rfl
theorem clr_none:clr none=none:=rfl
theorem clr_int{n:Int}:clr (some (.sh (.int n)))=some (.sh (.int n)):=rfl
theorem clr_str{z:Str}:clr (some (.sh (.str z)))=some (.sh (.str z)):=rfl
end
def gr:Str->Option Bool:=λc=>([("NoName",true),("Twice",true)]:List (Str×Bool)).lookup c
def qu:Str->Option Bool:=λc=>([("NoName",true),("Twice",true)]:List (Str×Bool)).lookup c
def zP:Str->Option Bool:=λc=>([("NoName",true),("Twice",false)]:List (Str×Bool)).lookup c
def uT:Str->Option Bool:=λc=>([("NoName",false),("Twice",false)]:List (Str×Bool)).lookup c
def Fq:Str->Option Bool:=λc=>([("NoName",false),("Twice",false)]:List (Str×Bool)).lookup c
def Ft:Str->Option Bool:=λc=>([("NoName",false),("Twice",true)]:List (Str×Bool)).lookup c
def Fv:Str->Option Bool:=λc=>([("NoName",false),("Twice",false)]:List (Str×Bool)).lookup c
def iC:Str->Option Bool:=λc=>([("NoName",true),("Twice",true)]:List (Str×Bool)).lookup c
def ut:Str->Bool:=λc=>([]:List Str).contains c
def Iu:Str->Bool:=λc=>([]:List Str).contains c
def Fw:Sn:=
 (gm (m2 cA (mV 0) (mC (.int 2))))
def Fx:Sn:=
 (gm (mV 3))
def Fy:Sn:=
 (eV (m1 cV (m2 gV (mVL 2) (mVL 1)))
     Fx
     dU)
def Fz:Sn:=
 (gm (mV 1))
def FJ:Sn:=
 (bB (yl (m1 nC (m2 cA (mV 0) (mC (.int 2)))) (gT 2 (gsCons (gN 2) (gsCons (gN 3) gsNil)))
    Fy)
   Fz)
def BK:Sn:=
 (bB (eV (m1 cV (m2 gV (m2 cA (mV 0) (mC (.int 0))) (mC (.str "cover"))))
    Fw
    dU)
   FJ)
def BL:List PV->Option (Res PV)
 |[a0,a1]=>fin (BK (startR [a0,a1] 2))
 |_=>none
def qw:Sn:=
 (dW (bR BL (au (m2 cA (m2 cA (mV 0) (mC (.int 1))) (mV 3)) (au (mV 2) aR))) (gN 2))
def qx:Sn:=
 (gm (mV 2))
def j4:Sn:=
 (bB (dW (m2 cA (mV 0) (mC (.int 0))) (gN 2))
   (bB (yl (m1 nC (mV 1)) (gN 3)
    qw)
   qx))
def j5:List PV->Option (Res PV)
 |[a0,a1]=>fin (j4 (startR [a0,a1] 2))
 |_=>none
def oX:Sn:=
 (gm (mC (.bl false)))
def uU:Sn:=
 (gm (m1 zm (uQ (jj (m1 nC (mV 0)) [none] (gN 0) ud (m2 Hv (mVL 0) (mC (.str "abcdefghijklmnopqrstuvwxyz")))))))
def p8:Sn:=
 (bB (eV (mOr (u5 (m1 cV (m2 Lg (mVL 0) (mC (.ty "str"))))) (u5 (m1 cV (An O3 O3 (mC (.int 1)) (m1 jk (mVL 0)) (mC (.int (8)))))))
    oX
    dU)
   uU)
def jC:List PV->Option (Res PV)
 |[a0]=>fin (p8 (startR [a0] 0))
 |_=>none
def rA:Sn:=
 (gm (m2 eX (m2 uP (m2 cA (mV 1) (mC (.int 1))) (m2 cA (mV 0) (mC (.int 0)))) (m2 cA (mV 1) (mC (.int 0)))))
def mW:List PV->Option (Res PV)
 |[a0,a1]=>fin (rA (startR [a0,a1] 0))
 |_=>none
def rB:Sn:=
 (gm (m2 gV (m2 DR (m2 DP (mV 1) (bR mW (au (mV 0) (au (mV 2) aR)))) (mC (.int 1))) (mC (.int 1))))
def mX:List PV->Option (Res PV)
 |[a0,a1,a2]=>fin (rB (startR [a0,a1,a2] 0))
 |_=>none
def tD:Sn:=
 (gm (m2 DG (m2 DN (mC (.int 1)) (m2 uP (m2 cA (mV 0) (mC (.int 0))) (m2 cA (mV 0) (mC (.int 1))))) (mC (.int 1))))
def tE:List PV->Option (Res PV)
 |[a0]=>fin (tD (startR [a0] 0))
 |_=>none
def mY:Sn:=
 (gm (m1 JG (uQ (jj (m1 Hy (au (mV 1) aR)) [none,none,some 0,some 2] (gT 2 (gsCons (gN 0) (gsCons (gN 1) gsNil))) (m1 cV (bR mX (au (mV 2) (au (mV 1) (au (mV 3) aR))))) (mV 0)))))
def mZ:List PV->Option (Res PV)
 |[a0,a1,a2]=>fin (mY (startR [a0,a1,a2] 0))
 |_=>none
def iD:Sn:=
 (oE (jj (m1 jG (au (m2 cA (mV 1) (mC (.int 0))) aR)) [none,some 0,some 1,some 2,some 3] (gN 0) ud (bR j5 (au (mV 1) (au (bR mZ (au (mV 2) (au (mV 3) (au (t8 (au (mV 0) (au (mV 4) aR))) aR)))) aR)))))
def iG:List PV->Option (Res PV)
 |[a0,a1,a2,a3]=>ug (iD (startR [a0,a1,a2,a3] 0))
 |_=>none
def qb:Sn:=
 (wJ (jj (m1 jG (au (m2 cA (mV 1) (mC (.int 1))) aR)) [none,some 0,some 1,some 2] (gN 0) ud (qm (bR iG (au (mV 1) (au (mV 2) (au (mV 3) (au (mV 0) aR))))))))
def qd:List PV->Option (Res PV)
 |[a0,a1,a2]=>ym (qb (startR [a0,a1,a2] 0))
 |_=>none
def fM:Sn:=
 (bB (dW (m1 JT (j0 1)) (gN 2))
   (oE (jj (m1 jG (au (mV 0) aR)) [none,some 2] (gN 0) ud (Bc (j0 1) (mV 0) (mC (.int 0))))))
def fO:List PV->Option (Res PV)
 |[a0,a1]=>ug (fM (startR [a0,a1] 1))
 |_=>none
def yu:Sn:=
 (vB "NoName")
def yw:Sn:=
 (vB "Twice")
def lr:Sn:=
 (eV (m1 cV (m2 zq (mV 1) (j0 0)))
    yw
    dU)
def dJ:Sn:=
 (bB (eV (u5 (m1 cV (bR jC (au (mV 1) aR))))
    yu
    dU)
   lr)
def cP:List PV->Option (Res PV)
 |[a0,a1]=>fin (dJ (startR [a0,a1] 0))
 |_=>none
def vf:Sn:=
 (vB "NoName")
def dZ:Sn:=
 (eV (mOr (u5 (m1 cV (bR jC (au (mV 1) aR)))) (m1 cV (m2 iZ (mV 1) (j0 0))))
    vf
    dU)
def bx:List PV->Option (Res PV)
 |[a0,a1]=>fin (dZ (startR [a0,a1] 0))
 |_=>none
def gC:Sn:=
 (bB (ik (ju "Shop" 0 "bench" (t8 (au (qT (m2 cA (mV 1) (mC (.int 0)))) (au (qm (m1 Ba (uQ (m2 cA (mV 1) (mC (.int 1)))))) aR)))))
   (bB (ik (ju "Shop" 0 "size" (qT (mV 2))))
   (bB (ik (ju "Shop" 0 "states" (qm (m1 Ba (qQ 3)))))
   (bB (ik (ju "Shop" 0 "woods" (zz wF)))
   (ik (ju "Shop" 0 "prints" (zz wF)))))))
def dg:List PV->Option (Res PV)
 |[a0,a1,a2,a3]=>VR (gC (oV a0 [a1,a2,a3] 0))
 |_=>none
def oY:Sn:=
 (ik (Fi 0 (Io "Shop" "woods" Fg) (mFz 0 (bR tE (au (ig "Shop" "size" (mV 0)) aR))) (mV 1)))
def fP(p0:PV):Sn:=
 (sU (nu (bR cP (au (ig "Shop" "woods" (mV 0)) (au (mV 1) aR))))
   (Ls p0 oY))
def bW:List PV->Option (Res PV)
 |[a0,a1]=>Lw (fP a0 (startR [a0,a1] 0))
 |_=>none
def oZ:Sn:=
 (ik (Bv 0 (Io "Shop" "prints" Fg) (zz wF) (mV 1)))
def fQ(p0:PV):Sn:=
 (sU (nu (bR cP (au (ig "Shop" "prints" (mV 0)) (au (mV 1) aR))))
   (Ls p0 oZ))
def bY:List PV->Option (Res PV)
 |[a0,a1]=>Lw (fQ a0 (startR [a0,a1] 0))
 |_=>none
def o7:Sn:=
 (ik (zN 0 (Io "Shop" "prints" Fg) (mV 1)))
def fU(p0:PV):Sn:=
 (sU (nu (bR bx (au (ig "Shop" "prints" (mV 0)) (au (mV 1) aR))))
   (Ls p0 o7))
def bZ:List PV->Option (Res PV)
 |[a0,a1]=>Lw (fU a0 (startR [a0,a1] 0))
 |_=>none
def gH:Sn:=
 (bB (nu (bR bx (au (ig "Shop" "woods" (mV 0)) (au (mV 1) aR))))
   (wJ (qT (m2 oK (gf (ig "Shop" "woods" (mV 0))) (mV 1)))))
def cD:List PV->Option (Res PV)
 |[a0,a1]=>ym (gH (startR [a0,a1] 0))
 |_=>none
def fV:Sn:=
 (bB (nu (bR bx (au (ig "Shop" "prints" (mV 0)) (au (mV 1) aR))))
   (wJ (bR qd (au (ig "Shop" "bench" (mV 0)) (au (ig "Shop" "size" (mV 0)) (au (bR fO (au (m1 jk (m2 cA (ig "Shop" "bench" (mV 0)) (mC (.int 1)))) (au (m2 oK (gf (ig "Shop" "prints" (mV 0))) (mV 1)) aR))) aR))))))
def b7:List PV->Option (Res PV)
 |[a0,a1]=>ym (fV (startR [a0,a1] 0))
 |_=>none
def iH:Sn:=
 (oE (m1 ie (gf (ig "Shop" "woods" (mV 0)))))
def cQ:List PV->Option (Res PV)
 |[a0]=>ug (iH (startR [a0] 0))
 |_=>none
def iI:Sn:=
 (oE (m1 ie (gf (ig "Shop" "prints" (mV 0)))))
def cR:List PV->Option (Res PV)
 |[a0]=>ug (iI (startR [a0] 0))
 |_=>none
def fW:Sn:=
 (bB (nu (bR bx (au (ig "Shop" "prints" (mV 0)) (au (mV 1) aR))))
   (wJ (jj (m1 jG (au (m1 jk (m2 cA (ig "Shop" "bench" (mV 0)) (mC (.int 1)))) aR)) [none,some 1,some 0] (gN 0) (m1 cV (m2 iZ (mV 0) (gf (m2 oK (gf (ig "Shop" "prints" (mV 2))) (mV 1))))) (qT (mV 0)))))
def b8:List PV->Option (Res PV)
 |[a0,a1]=>ym (fW (startR [a0,a1] 0))
 |_=>none
def lQ:Sn:=
 (gm (m2 cA (mV 0) (mV 1)))
def uv:Sn:=
 (gm (mC (.int 0)))
def ir:Sn:=
 (bB (eV (m1 cV (m2 Ay (mV 1) (m1 jk (mVL 0))))
    lQ
    dU)
   uv)
def fB:List PV->Option (Res PV)
 |[a0,a1]=>fin (ir (startR [a0,a1] 0))
 |_=>none
def qy:Sn:=
 (dW (m2 cA (mV 0) (mV 1)) (gN 2))
def qz:Sn:=
 (oE (jq (au (m2 ji (mV 2) (m2 DK (mC (.int 10)) (mC (.int 60)))) aR)))
def qC:Sn:=
 (bB (dW (m2 ji (m2 eX (m2 mK (mV 3) (mC (.int 69621))) (m2 mK (mC (.int 7919)) (mV 5))) (mC (.int 2147483629))) (gN 3))
    (bB (dW (m2 ji (m2 mK (mV 3) (mV 3)) (mC (.int 2147483587))) (gN 3))
    (dW (m2 eX (m2 mK (mV 4) (mC (.int 2147483629))) (mV 3)) (gN 4))))
def qD:Sn:=
 (oE (jq (au (mV 4) aR)))
def qF:Sn:=
 (bB (dW (m2 eX (m2 eX (m2 ji (mV 2) (mC (.int 2147483647))) (m2 mK (m2 mK (mC (.int 48271)) (mV 1)) (mV 1))) (mC (.int 11))) (gN 3))
   (bB (dW (mC (.int 0)) (gN 4))
   (bB (yl (m1 jG (au (mC (.int 7)) aR)) (gN 5)
    qC)
   qD)))
def lu:Sn:=
 (bB (eV (m1 cV (m2 R5 (mV 2) (m2 DK (mC (.int 10)) (mC (.int 18)))))
    qz
    dU)
   qF)
def j6:Sn:=
 (bB (dW (mC (.int 0)) (gN 2))
   (bB (eV (m1 cV (m2 Ay (mV 1) (m1 jk (mVL 0))))
    qy
    dU)
   lu))
def gJ:List PV->Option (Res PV)
 |[a0,a1]=>ug (j6 (startR [a0,a1] 4))
 |_=>none
def j7:Sn:=
 (oO (dW (m2 ji (m2 DX (qQ 0) (mC (.int 0))) (mV 1)) (gN 2))
   (oO (RX 0 (m2 wj (m2 DX (qQ 0) (mC (.int 0))) (mV 1)) (mC (.int 0)))
   (JX 0 (mV 2))))
def bF:List PV->Option (Res PV)
 |[a0,a1]=>fin (j7 (cL 0 [a0,a1] 1))
 |_=>none
def j8:Sn:=
 (gm (m2 eX (m2 eX (Eb (mC (.str "mmmm")) mPn (m1 asInt (mV 0))) (m2 cA (mC (.str "kxadzqbfwcgjyehtvn")) (mV 1))) (Eb (mC (.str "mmm")) (m1 asInt (mV 0)) mPn)))
def dM:List PV->Option (Res PV)
 |[a0,a1]=>fin (j8 (startR [a0,a1] 0))
 |_=>none
def o8:Sn:=
 (Ij 4 (Lp (jl (eP (mC (.str "cover"))) (jl (eP (mV 6)) (jl (zJ dM (jl (eP (mV 1)) (jl (eIO 0 bF (gD 0 (au (mC (.int 6)) aR))) Ey))) Ey)))))
def o9:Sn:=
 (bB (Lq 10 7 (eIO 0 bF (gD 0 (au (m1 jk (mVL 7)) aR))))
      (Ij 8 (Lp (jl (eP (bR dM (au (mV 1) (au (mV 10) aR)))) (jl (zJ dM (jl (eP (mV 1)) (jl (eIO 0 bF (gD 0 (au (mC (.int 6)) aR))) Ey))) Ey)))))
def ph:Sn:=
 (Ar 4 (t8 (au (mC (.str "glaze")) (au (mV 6) (au (m1 JG (qQ 8)) aR)))))
def pq:Sn:=
 (bB (uO 7 (m1 (JK .lst) (mC (.int 6))))
     (bB (uO 8 (jq aR))
     (bB (Ez (e2 eX (eP (mC (.int 1))) (eIO 0 bF (gD 0 (au (mC (.int 3)) aR)))) (gN 9)
      o9)
     ph)))
def pA:Sn:=
 (bB (dW (bR dM (au (m2 ji (m2 eX (mV 1) (mC (.int 1))) (mC (.int 4))) (au (m2 ji (m2 eX (m2 uP (mC (.int 7)) (mV 5)) (mV 3)) (mC (.int 18))) aR))) (gN 6))
    (eIf (eBl (e2 Ay (eIO 0 bF (gD 0 (au (mC (.int 3)) aR))) (eP (mC (.int 2)))))
     o8
     pq))
def pB:Sn:=
 (Sh 4 (gm (t8 (au (mV 2) (au (mV 4) aR)))))
def jx:Sn:=
 (bB (yq (eIO 0 bF (gD 0 (au (mC (.int 4)) aR))) (gN 1))
   (bB (yq (zJ dM (jl (eP (mV 1)) (jl (eIO 0 bF (gD 0 (au (mC (.int 6)) aR))) Ey))) (gN 2))
   (bB (yq (eIO 0 bF (gD 0 (au (mC (.int 18)) aR))) (gN 3))
   (bB (uO 4 (jq aR))
   (bB (Ez (e2 eX (eP (mC (.int 2))) (eIO 0 bF (gD 0 (au (mC (.int 3)) aR)))) (gN 5)
    pA)
   pB)))))
def iu:List PV->Option (Res PV)
 |[a0]=>fin (jx (cL 0 [a0] 10))
 |_=>none
def j9:Sn:=
 (bB (yq (e2 eX (eP (mC (.int 1))) (eIO 0 bF (gD 0 (au (mC (.int 4)) aR)))) (gN 1))
   (SX (Lp (jl (eP (mV 1)) (jl (e2 eX (eP (mC (.int 1))) (eIO 0 bF (gD 0 (au (mC (.int 4)) aR)))) Ey)))))
def kh:List PV->Option (Res PV)
 |[a0]=>fin (j9 (cL 0 [a0] 1))
 |_=>none
def nG:Sn:=
 (dW (m2 cA (mV 4) (mC (.int 2))) (gN 2))
def nH:Sn:=
 (dW (m2 cA (m2 cA (mV 5) (mC (.int 0))) (mC (.int 1))) (gN 2))
def nJ:Sn:=
 (bB (dW (jj (m1 nC (m2 cA (mV 4) (mC (.int 2)))) [none,some 2] (gN 0) (m1 cV (m2 gV (m2 cA (mV 0) (mC (.int 0))) (mVL 1))) (mV 0)) (gN 5))
     (eV (m1 cV (m2 u6 (mVL 5) (jq aR)))
      nH
      dU))
def nM:Sn:=
 (bB (dW (m2 cA (m2 cA (mV 0) (mC (.int 1))) (mV 3)) (gN 4))
    (eV (m1 cV (m2 gV (m2 cA (mV 4) (mC (.int 0))) (mC (.str "cover"))))
     nG
     nJ))
def nO:Sn:=
 (gm (mV 2))
def iJ:Sn:=
 (bB (dW (m2 cA (mV 0) (mC (.int 0))) (gN 2))
   (bB (yl (m1 nC (mV 1)) (gN 3)
    nM)
   nO))
def iK:List PV->Option (Res PV)
 |[a0,a1]=>fin (iJ (startR [a0,a1] 4))
 |_=>none
def lR:Sn:=
 (bB (dW (m2 eX (m2 uP (mV 4) (m2 cA (mV 1) (mC (.int 0)))) (mV 6)) (gN 7))
     (Ar 5 (bR iK (au (mV 0) (au (jj (m1 jG (au (m1 jk (mVL 2)) aR)) [none,some 7,some 2] (gN 0) (m1 cV (m2 gV (m2 DR (m2 DP (m2 cA (mV 2) (mV 0)) (mV 1)) (mC (.int 1))) (mC (.int 1)))) (mV 0)) aR)))))
def lU:Sn:=
 (Sh 5 (Ar 3 (mV 5)))
def lV:Sn:=
 (bB (uO 5 (jq aR))
    (bB (yl (m1 jG (au (m2 cA (mV 1) (mC (.int 0))) aR)) (gN 6)
     lR)
    lU))
def lW:Sn:=
 (Sh 3 (gm (mV 3)))
def iw:Sn:=
 (bB (uO 3 (jq aR))
   (bB (yl (m1 jG (au (m2 cA (mV 1) (mC (.int 1))) aR)) (gN 4)
    lV)
   lW))
def fC:List PV->Option (Res PV)
 |[a0,a1,a2]=>fin (iw (startR [a0,a1,a2] 5))
 |_=>none
def qG:Sn:=
 (dW (m2 R0 (mV 1) (m2 DN (mC (.int 1)) (mV 2))) (gN 1))
def qH:Sn:=
 (gm (mV 1))
def kj:Sn:=
 (bB (dW (mC (.int 0)) (gN 1))
   (bB (yl (m1 jG (au (m2 uP (m2 cA (mV 0) (mC (.int 0))) (m2 cA (mV 0) (mC (.int 1)))) aR)) (gN 2)
    qG)
   qH))
def km:List PV->Option (Res PV)
 |[a0]=>fin (kj (startR [a0] 2))
 |_=>none
def yx:Sn:=
 (gm (jq (au (mC (.str "wrong")) (au (Es ut "column" (mV 0)) (au (Es Iu "row" (mV 0)) aR)))))
def yz:Sn:=
 (bB (dW (jq (au (yp zP false (mVL 0)) (au (yp Ft false (mVL 0)) (au (yp Fq false (mVL 0)) (au (yp uT false (mVL 0)) aR))))) (gN 1))
   (gm (m2 Ea (uQ (jq (au (zf (yp qu false (mVL 0)) (yp iC false (mVL 0))) aR))) (qQ 1))))
def uV:Sn:=
 (bB (eV (m1 cV (yp Fv false (mVL 0)))
    yx
    dU)
   yz)
def fD:List PV->Option (Res PV)
 |[a0]=>fin (uV (startR [a0] 1))
 |_=>none
def BP:Sn:=
 (oE (jq (au (mC (.bl false)) (au (mC (.bl false)) (au (mC (.bl false)) (au (mC (.bl false)) (au (mC (.bl false)) aR)))))))
def BR:Sn:=
 (oE (m2 Ea (uQ (jq (au (mC (.bl true)) aR))) (uQ (jj (m1 nC (jq (au (mC (.str "NoName")) (au (mC (.str "Twice")) (au (mC (.str "Order")) (au (mC (.str "NoStroke")) aR)))))) [none,some 0] (gN 0) ud (m2 gV (mVL 1) (mVL 0))))))
def xr:Sn:=
 (bB (eV (m1 cV (m2 gV (mVL 0) (mC (.str ""))))
    BP
    dU)
   BR)
def gG:List PV->Option (Res PV)
 |[a0]=>ug (xr (startR [a0] 0))
 |_=>none
def qI:Sn:=
 (dW (mV 5) (gN 3))
def dN:Sn:=
 (oO (dW (mC .non) (gN 3))
   (oO (dW (mC .non) (gN 4))
   (oO (wV (eV (m1 cV (m2 gV (mVL 1) (mC (.int 0))))
    (gF "Shop" "block" 0 bW (au (mV 2) aR))
    (eV (m1 cV (m2 gV (mVL 1) (mC (.int 1))))
    (gF "Shop" "sheet" 0 bY (au (mV 2) aR))
    (eV (m1 cV (m2 gV (mVL 1) (mC (.int 2))))
    (gF "Shop" "spoil" 0 bZ (au (mV 2) aR))
    (eV (m1 cV (m2 gV (mVL 1) (mC (.int 3))))
    (jM "Shop" "wood" 0 4 cD (au (mV 2) aR))
    (eV (m1 cV (m2 gV (mVL 1) (mC (.int 4))))
    (jM "Shop" "shows" 0 4 b7 (au (mV 2) aR))
    (jM "Shop" "lacks" 0 4 b8 (au (mV 2) aR)))))))
    (Sx gr 5 qI UV))
   (J5 (t8 (au (bR fD (au (mV 3) aR)) (au (mV 4) aR)))))))
def dh:List PV->Option (Res PV)
 |[a0,a1,a2]=>Qd (dN (oV a0 [a1,a2] 3))
 |_=>none
def qJ:Sn:=
 (gm (mC (.str "NoName")))
def qK:Sn:=
 (gm (mC (.str "Twice")))
def qL:Sn:=
 (gm (mC (.str "NoName")))
def lw:Sn:=
 (gm (mC (.str "")))
def lz:Sn:=
 (bB (eV (mOr (yh (m1 cV (m2 gV (mVL 0) (mC (.int 3)))) (m1 cV (m2 iZ (mV 1) (gf (m2 cA (mV 3) (mC (.int 0))))))) (yh (m1 cV (m2 Hv (mVL 0) (t8 (au (mC (.int 2)) (au (mC (.int 4)) (au (mC (.int 5)) aR)))))) (m1 cV (m2 iZ (mV 1) (gf (m2 cA (mV 3) (mC (.int 1))))))))
    qL
    dU)
   lw)
def lC:Sn:=
 (bB (eV (yh (m1 cV (m2 Ay (mV 0) (mC (.int 2)))) (m1 cV (m2 zq (mV 1) (gf (m2 cA (mV 3) (mV 0))))))
    qK
    dU)
   lz)
def gK:Sn:=
 (bB (eV (yh (m1 cV (m2 Ay (mV 0) (mC (.int 2)))) (u5 (m1 cV (mV 2))))
    qJ
    dU)
   lC)
def fG:List PV->Option (Res PV)
 |[a0,a1,a2,a3]=>fin (gK (startR [a0,a1,a2,a3] 0))
 |_=>none
def vg:Sn:=
 (gm (mC (.bl false)))
def nQ:Sn:=
 (Ar 2 (mC (.str "x")))
def jf:Sn:=
 (bB (eV (mOr (u5 (m1 cV (m2 Lg (mVL 2) (mC (.ty "list"))))) (m1 cV (m2 u6 (mVL 2) (mVL 3))))
     vg
     dU)
    nQ)
def jg:Sn:=
 (gm (zf (m2 gV (vd (je "Shop" "blocks" cQ (mV 0) aR)) (m1 ie (gf (m2 cA (mV 1) (mC (.int 0)))))) (m2 gV (vd (je "Shop" "sheets" cR (mV 0) aR)) (m1 ie (gf (m2 cA (mV 1) (mC (.int 1))))))))
def iM:Sn:=
 (bB (Bw 2 3 (au (t8 (au (qm (vd (je "Shop" "blocks" cQ (mV 0) aR))) (au (qm (m1 ie (gf (m2 cA (mV 1) (mC (.int 0)))))) aR))) (au (t8 (au (qm (vd (je "Shop" "sheets" cR (mV 0) aR))) (au (qm (m1 ie (gf (m2 cA (mV 1) (mC (.int 1)))))) aR))) aR))
    jf)
   jg)
def gw:List PV->Option (Res PV)
 |[a0,a1]=>fin (iM (startR [a0,a1] 2))
 |_=>none
def BV:Sn:=
 (dW (m2 DX (uQ (jq (au (mC (.str "")) (au (m2 eX (mV 8) (mV 8)) (au (Qq (mV 8)) (au (m2 eX (mV 8) (mC (.str " "))) (au (m2 eX (Eb (mV 8) mPn (m1 asInt (mC (.int 2)))) (mC (.str "1"))) aR))))))) (m2 ji (m2 wj (mV 7) (mC (.int 252))) (mC (.int 5)))) (gN 8))
def Tt:Sn:=
 (gm (mC (.bl false)))
def BW:Sn:=
 (ik (Fi 6 (Tn Fg (mV 10)) (mC (.bl true)) (mV 8)))
def Kc:Sn:=
 (ik (zN 6 (Tn Fg (mC (.int 1))) (mV 8)))
def Tu:Sn:=
 (gm (mC (.bl false)))
def Kd:Sn:=
 (bB (dW (jq (au (bR km (au (mV 2) aR)) (au (bR fC (au (mV 1) (au (mV 2) (au (Lf (jq (au (mC (.int 0)) aR)) (m1 jk (m2 cA (mV 1) (mC (.int 1))))) aR)))) (au (m1 (JK .lst) (m1 jk (m2 cA (mV 1) (mC (.int 1))))) aR)))) (gN 14))
     (eV (m1 cV (m2 u6 (mVL 12) (m2 cA (mV 14) (m2 DG (mV 10) (mC (.int 3))))))
      Tu
      dU))
def Tw:Sn:=
 (gm (mC (.bl false)))
def vG:Sn:=
 (eV (HF 6 (HF 3 (u5 (m1 cV (bR gw (au (mV 3) (au (mV 6) aR)))))))
     Tw
     dU)
def tG:Sn:=
 (bB (eV (yh (m1 cV (m2 gV (mVL 13) (mC (.str "")))) (m1 cV (m2 R4 (mV 10) (mC (.int 2)))))
     Kd
     dU)
    vG)
def tH:Sn:=
 (bB (eV (yh (m1 cV (m2 gV (mVL 13) (mC (.str "")))) (m1 cV (m2 gV (mVL 10) (mC (.int 2)))))
     Kc
     dU)
    tG)
def FN:Sn:=
 (bB (eV (yh (m1 cV (m2 gV (mVL 13) (mC (.str "")))) (m1 cV (m2 Ay (mV 10) (mC (.int 2)))))
     BW
     dU)
    tH)
def xu:Sn:=
 (bB (dW (m2 ji (mV 7) (mC (.int 6))) (gN 10))
    (bB (yq (wW 3 dh (au (mV 10) (au (mV 8) aR))) (gT 2 (gsCons (gN 11) (gsCons (gN 12) gsNil))))
    (bB (dW (mFz 6 (bR fG (au (mV 10) (au (mV 8) (au (mV 9) (au (mV 6) aR)))))) (gN 13))
    (bB (eV (m1 cV (m2 u6 (mVL 11) (bR gG (au (mV 13) aR))))
     Tt
     dU)
    FN))))
def xx:Sn:=
 (bB (dW (m2 cA (mV 5) (m2 ji (m2 wj (mV 7) (mC (.int 6))) (mC (.int 6)))) (gN 8))
    (bB (dW (m2 u6 (m2 ji (m2 wj (mV 7) (mC (.int 36))) (mC (.int 7))) (mC (.int 3))) (gN 9))
    (bB (eV (u5 (m1 cV (mV 9)))
     BV
     dU)
    xu)))
def xF:Sn:=
 (gm (mFz 4 (zf (m2 gV (vd (je "Shop" "blocks" cQ (mV 4) aR)) (jq aR)) (m2 gV (vd (je "Shop" "sheets" cR (mV 4) aR)) (jq aR)))))
def Ke:Sn:=
 (bB (dW (EY iu (bR gJ (au (mV 0) (au (mC (.int 0)) aR))) aR) (gN 1))
   (bB (dW (EY kh (bR gJ (au (mV 0) (au (mC (.int 1)) aR))) aR) (gN 2))
   (bB (zx 3 (Fd "Shop" dg (au (mV 1) (au (mV 2) (au (Lf (jq (au (mC (.int 0)) aR)) (m1 jk (m2 cA (mV 1) (mC (.int 1))))) aR)))))
   (bB (zx 4 (Fd "Shop" dg (au (mV 1) (au (mV 2) (au (Lf (jq (au (mC (.int 0)) aR)) (m1 jk (m2 cA (mV 1) (mC (.int 1))))) aR)))))
   (bB (dW (jj (m1 nC (mC (.str "kbtcxd"))) [none,some 0] (gN 0) ud (m2 eX (m2 eX (Eb (mC (.str "aaaaaa")) mPn (m1 asInt (m2 ji (bR fB (au (mV 1) (au (mC (.int 0)) aR))) (mC (.int 6))))) (mV 0)) (Eb (mC (.str "aaaaa")) (m1 asInt (m2 ji (bR fB (au (mV 1) (au (mC (.int 0)) aR))) (mC (.int 6)))) mPn))) (gN 5))
   (bB (zx 6 (t8 (au (zz wF) (au (zz wF) aR))))
   (bB (yl (m1 nC (R6 (qQ 0) mPn (m1 asInt (mC (.int 60))))) (gN 7)
    xx)
   xF)))))))
def zQ:List PV->Option (Res PV)
 |[a0]=>fin (Ke (startR [a0] 14))
 |_=>none
local macro_rules|`(tactic| walk_at "rd")=>do
 let ids:=("onNx_nx onNx_rt onNx_ro onNx_rd onNx_bk onNx_ct tv_some to_nx to_rt to_ro to_rd to_bk to_ct tv_ite to_ite turn_nx turn_ct turn_bk turn_rt turn_ro turn_rd tv_bnd to_bnd to_seq tv_m2 tv_m1 tv_var tv_lend tv_c tv_view tv_viewN tv_asLst tv_nil tv_cons tv_tup tv_lst tv_call tv_mAnd tv_mOr tv_mNot tv_and tv_chain tv_comp tv_compN tv_compC tv_yes to_next to_ret to_retO to_drop holdQ_nx holdQ_rt holdQ_ro to_setO to_setD to_retD tv_deep tv_still tv_fz tv_fzT to_asgN to_asg to_if to_for to_app to_put to_frz tv_consO tv_newD tv_viewD tv_viewDN tv_dget2 tv_opDGet tv_opDIn tv_opDNotIn tv_ofR tv_mulL dF_int dF_str dF_tup isD_dk isD_dt is_dk_int is_dk_str finIO_nx tv_isX nn_non nn_int nn_str nn_bl nn_tup nn_lst nn_exc tv_fldX to_gone goneQ_nx goneQ_bk goneQ_ct goneQ_rt goneQ_ro tv_sub tv_and' tv_or' tv_gt tv_ge tv_div tv_mod tv_pow tv_shl tv_shr tv_add tv_addS tv_addT tv_mul tv_mulS tv_lt tv_ltS tv_le tv_leS tv_eqI tv_eqS tv_neI tv_neS tv_eq tv_ne tv_in tv_ixL tv_ixT tv_ixV tv_ixS tv_lenS tv_lenL tv_lenT tv_is tv_asBl tv_list tv_opTup tv_cat tv_asSeqL tv_asSeqT tv_asSeqS tv_rng1 tv_enum tv_pn tv_asInt tv_slL tv_slS tv_opSlS tv_opRep tv_rep tv_all ev_some ev_p ev_2 ev_nil ev_cons ev_call ev_tup ev_bl ev_io ev_tree to_asgE to_retE to_ifE to_forE to_appE to_popE to_seqP to_retR to_retW tv_fldO tv_callM to_seqX to_toW clr_none clr_int clr_str startR fin_nx fin_rt finO_ro finT_rd gN gT gsCons gsNil szP cellP List.map_cons List.map_nil List.replicate_succ List.replicate_zero List.cons_append List.nil_append List.append_nil List.getElem?_cons_zero List.getElem?_cons_succ List.set_cons_zero List.set_cons_succ List.length_cons List.length_nil Nat.zero_le true_and and_true Option.some.injEq Sl.sh.injEq Sl.ow.injEq Sl.dp.injEq Res.ok.injEq PV.int.injEq PV.str.injEq PV.bl.injEq PV.lst.injEq PV.tup.injEq exists_eq_left' exists_eq_left exists_eq and_assoc exists_and_left if_true if_false not_true_eq_false not_false_eq_true Bool.false_eq_true Bool.not_true Bool.not_false decide_eq_true_eq Bool.not_eq_true' decide_eq_false_iff_not reduceCtorEq is_non_int is_non_bool is_non_str is_non_list is_non_tuple is_non_dict is_bl_int is_bl_bool is_bl_str is_bl_list is_bl_tuple is_bl_dict is_int_int is_int_bool is_int_str is_int_list is_int_tuple is_int_dict is_str_int is_str_bool is_str_str is_str_list is_str_tuple is_str_dict is_tup_int is_tup_bool is_tup_str is_tup_list is_tup_tuple is_tup_dict is_lst_int is_lst_bool is_lst_str is_lst_list is_lst_tuple is_lst_dict Int.reduceAdd Int.reduceSub Int.reduceMul Int.reduceNeg Int.reduceToNat atI_0 atI_1 atI_2 atI_3 snocI snocS snocC eqF_int eqF_str eqF_bl frR shOnly".splitOn " ").toArray.map λs=>Lean.mkIdent s.toName
 `(tactic| simp(maxSteps:=2000000) only[$[$ids:ident],*])
structure Sz(w h:Int):Prop where
 w0:1<=w
 w1:w<=24
 h0:1<=h
 h1:h<=24
theorem Sz.mul{w h:Int}(s:Sz w h):1<=w*h/\w*h<=576:=by
 obtain⟨a,b,c,d⟩:=s;have e1:1*1<=w*h:=Zcl a c (by decide) (by lia)
 have e2:w*h<=24*24:=Zcl b d (by lia) (by decide)
 lia
theorem Sz.nat{w h:Int}(s:Sz w h):w.toNat*h.toNat=(w*h).toNat/\w.toNat*h.toNat<=576:=by
 have hm:=s.mul;obtain⟨a,b,c,d⟩:=s;obtain⟨x,rfl⟩:=Za4 (show 0<=w by omega)
 obtain⟨y,rfl⟩:=Za4 (show 0<=h by omega)
 have e:(x:Int)*(y:Int)=((x*y:Nat):Int):=by simp
 rw[e] at hm ⊢;simp only[Zax];have h2:((x*y:Nat):Int)<=((576:Nat):Int):=hm.2;exact⟨trivial,Int.ofNat_le.mp h2⟩
structure Cell(w h c r:Int):Prop where
 c0:0<=c
 c1:c<w
 r0:0<=r
 r1:r<h
theorem Cell.pl{w h c r:Int}(z:Cell w h c r):(r*w+c).toNat=Mth.pl w.toNat (c,r)/\0<=r*w+c:=by
 obtain⟨c0,c1,r0,r1⟩:=z;obtain⟨a,rfl⟩:=Za4 c0;obtain⟨b,rfl⟩:=Za4 r0;obtain⟨v,rfl⟩:=Za4 (show 0<=w by omega)
 unfold Mth.pl;simp only[Zax];have e:(b:Int)*(v:Int)+(a:Int)=((b*v+a:Nat):Int):=by simp
 rw[e,Zax];exact⟨rfl,ZbY _⟩
theorem LQ(a b:Nat):Builtin.bitOr (a:Int) (b:Int)=((a ||| b:Nat):Int):=by
 have n1:∀ x:Nat,¬0<=Builtin.bitNot (x:Int):=λx=>by unfold Builtin.bitNot;omega
 unfold Builtin.bitOr;rw[bitAnd_nn (n1 a) (n1 b),bitNot_bitNot,bitNot_bitNot,bitNot_bitNot,Zax,Zax]
theorem Kf(n p:Nat):decide (Builtin.bitAnd ((n:Int)/2^p) 1=1)=n.testBit p:=by
 have e:(n:Int)/2^p=((n/2^p:Nat):Int):=by simp
 rw[e,bitAnd_pp (ZbY _) (by decide),Zax,show(1:Int).toNat=1 from rfl,Mth.RL]
 cases n.testBit p<;>rfl
theorem qe{lo:Int}{n i:Nat}{x:PV}(h:(nY lo n)[i]?=some x):i<n/\x=.int (lo+(i:Int)):=by
 have hi:i<n:=by simpa[nY] using bH h
 unfold nY at h;rw[Zaf,ZbT hi] at h;exact⟨hi,(Zaa h).symm⟩
theorem QD{w h c r:Int}(sz:Sz w h)(cl:Cell w h c r):mW [.tup [.int w,.int h],.tup [.int c,.int r]]=some (.ok (.int (r*w+c))):=by
 refine dO ?_;unfold rA;walk_at "rd"
 have:=cl.r0;have:=cl.r1;have:=sz.h1;exact .inl ⟨by lia,by lia⟩
theorem Wa{w h c r:Int}(sz:Sz w h)(cl:Cell w h c r)(n:Nat):mX [.tup [.int w,.int h],.int n,.tup [.int c,.int r]]=some (.ok (.bl (n.testBit (Mth.pl w.toNat (c,r))))):=by
 refine dO ?_;unfold rB;walk_at "rd"
 obtain⟨e1,e2⟩:=cl.pl;rw[QD sz cl];walk_at "rd"
 rw[e1,Kf];exact⟨e2,rfl⟩
def isL(c:Nat):Bool:=decide (97<=c/\c<=122)
def cH(z:Str):Bool:=decide (1<=z.length/\z.length<=8)&&z.cps.toList.all isL
theorem letters:(Str.ofString "abcdefghijklmnopqrstuvwxyz").cps.toList=List.range' 97 26:=by decide +kernel
theorem Iv(c:Nat):(!(Builtin.Str.occurrences (Str.ofString "abcdefghijklmnopqrstuvwxyz") ⟨#[c]⟩ 0 (Str.ofString "abcdefghijklmnopqrstuvwxyz").length 1).isEmpty)=isL c:=by
 rw[PySem.StrLaws.found_one,letters];unfold isL;rw[decide_eq_decide,List.mem_range'_1];omega
theorem tK:∀ ys:List Bool,jZ (ys.map PV.bl)=some ys
 |[]=>rfl
 |y::ys=>by rw[Zao,jZ,tK ys];rfl
theorem tL(z:Str)(hz:z.length<=sizeLine):jC [.str z]=some (.ok (.bl (cH z))):=by
 refine dO (x:=p8 (startR [.str z] 0)) ?_;have no:¬(1<=z.length/\z.length<=8)->cH z=false:=λh=>by unfold cH;rw[ZaC h];rfl
 have bad:∀ {K:Rho->Prop}{QS:Out->Prop},QS (.rt (.bl false))->To (oX [some (.sh (.str z))]) (xj K QS):=λ{K QS} q=>by
  unfold oX;walk_at "rd"
  exact q
 unfold p8;walk_at "rd"
 refine⟨hz,K1 (λh1=>K1 (λh2=>bad ?_) (λh2=>?_)) (λh1=>bad ?_)⟩
 ·rw[no (by omega)];rfl
 ·unfold uU;walk_at "rd"
  refine⟨by unfold MP.signs;rw[Zac,Zbc];exact hz,?_⟩
  rw[XJ (λx=>match x with|.str y=>.bl (!(Builtin.Str.occurrences (Str.ofString "abcdefghijklmnopqrstuvwxyz") y 0 (Str.ofString "abcdefghijklmnopqrstuvwxyz").length 1).isEmpty)|_=>.non)]
  ·have e:(MP.signs z).map (λx=>match x with|.str y=>PV.bl (!(Builtin.Str.occurrences (Str.ofString "abcdefghijklmnopqrstuvwxyz") y 0 (Str.ofString "abcdefghijklmnopqrstuvwxyz").length 1).isEmpty)|_=>.non)=(z.cps.toList.map isL).map PV.bl:=by
    unfold MP.signs;rw[Zbb,Zbb];refine Zbr λc _=>?_;show PV.bl (!(Builtin.Str.occurrences _ ⟨#[c]⟩ 0 _ 1).isEmpty)=PV.bl (isL c)
    rw[Iv]
   walk_at "rd"
   rw[e,tK];refine⟨_,rfl,?_⟩;unfold cH;rw[ZaT (show 1<=z.length/\z.length<=8 by omega),Bool.true_and,List.all_map]
   rfl
  ·intro x hx;obtain⟨c,hc,rfl⟩:=ZaN.mp hx;walk_at "rd"
   exact⟨_,rfl,rfl⟩
 ·rw[no (by omega)];rfl
def prP(p:Str×Str):PV:=.tup [.str p.1,.str p.2]
inductive Ink where
 |cov (name colour:Str)
 |glz (name:Str) (ps:List (Str×Str))
def Ink.name:Ink->Str
 |.cov n _=>n
 |.glz n _=>n
def eE:Ink->PV
 |.cov n c=>.tup [.str "cover",.str n,.str c]
 |.glz n ps=>.tup [.str "glaze",.str n,.tup (ps.map prP)]
theorem Iw(k:Ink):(eE k).still=true:=by
 cases k with
 |cov n c=>rfl
 |glz n ps=>
  show([PV.str (Str.ofString "glaze"),.str n,.tup (ps.map prP)].all λp=>kZ 4 p)=true
  simp only[List.all_cons,List.all_nil,Bool.and_true];rw[Za6,Za6];refine⟨rfl,rfl,?_⟩;show((ps.map prP).all λp=>kZ 3 p)=true
  rw[Zaq];intro p hp;obtain⟨q,_,rfl⟩:=ZaN.mp hp;rfl
theorem LR{a b:Nat}{body:Sn}{QS:Out->Prop}(I:Nat->Rho->Prop){l:List (Str×Str)}{ρ:Rho}(h0:I 0 ρ)
  (hs:∀ (i:Nat) p ρ,l[i]?=some p->I i ρ->To (body ((ρ.set a (some (.sh (.str p.1)))).set b (some (.sh (.str p.2))))) (turn (I (i+1)) QS))(hd:∀ ρ',I l.length ρ'->QS (.nx ρ')):To (loop (gT 2 (gsCons (gN a) (gsCons (gN b) gsNil))) body (l.map prP) ρ) QS:=by
 have:=Qv (a:=a) (b:=b) (body:=body) (QS:=QS) I (l:=l.map λp=>(PV.str p.1,PV.str p.2)) (ρ:=ρ) h0 (λi x y ρ hx hI=>by
  rw[Zaf] at hx;cases hp:l[i]? with
  |none=>rw[hp] at hx;cases hx
  |some p=>rw[hp] at hx;cases hx;exact hs i p ρ hp hI) (by rw[Zac];exact hd)
 rw[Zbb] at this;exact this
theorem FP{f:PV->PV->Option Bool}:∀ {l:List PV},(∀ x∈l,f x x=some true)->eqL f l l=some true
 |[],_=>rfl
 |x::xs,h=>by rw[eqL,h x ZaF,FP λy hy=>h y (Zar _ hy)];rfl
theorem pC{n:Nat}{l:List PV}(h:∀ x∈l,eqF n x x=some true):eqF (n+1) (.lst l) (.lst l)=some true:=by
 exact(Zag rfl).trans (FP h)
theorem FQ(n:Nat)(z:Str):eqF n (.str z) (.str z)=some true:=by rw[eqF_str,ZaT rfl]
theorem FT(n:Nat)(z:Int):eqF n (.int z) (.int z)=some true:=by rw[eqF_int,ZaT rfl]
theorem tM{α:Type}{j:Nat}{el:Fn PV}{ρb:Rho}(g f:α->PV):∀ (l:List α),(∀ a∈l,Tv (el (ρb.set j (some (.sh (g a))))) λp=>p=f a)->eY (gN j) ud el ρb (l.map g)=some (.ok (l.map f))
 |[],_=>rfl
 |a::l,h=>by
  have e1:=zO (h a ZaF);have ih:=tM g f l λb hb=>h b (Zar _ hb);rw[Zao,eY];simp only[gN,ud,bnd,ZaV,e1,ih,Zao]
theorem vH{α:Type}{j:Nat}{tst:Fn Bool}{el:Fn PV}{ρb:Rho}(g f:α->PV)(t:α->Bool):∀ (l:List α),(∀ a∈l,Tv (tst (ρb.set j (some (.sh (g a))))) λb=>b=t a)->(∀ a∈l,t a=true->Tv (el (ρb.set j (some (.sh (g a))))) λp=>p=f a)->eY (gN j) tst el ρb (l.map g)=some (.ok ((l.filter t).map f))
 |[],_,_=>rfl
 |a::l,h,h2=>by
  have e0:=zO (h a ZaF);have ih:=vH g f t l (λb hb=>h b (Zar _ hb)) λb hb=>h2 b (Zar _ hb);rw[Zao,eY];simp only[gN,bnd,e0,ih];cases ht:t a with
  |true=>
   have e1:=zO (h2 a ZaF ht);simp only[ZaV,e1,Za3,ht,Zao]
  |false=>simp only[Zbg,ZaH,Za3,ht]
def lkp(ps:List (Str×Str))(c:Str):Str:=match ps.find? (λp=>decide (p.1=c)) with
 |some p=>p.2
 |none=>c
def BX:Ink->Str->Str
 |.cov _ d,_=>d
 |.glz _ ps,c=>lkp ps c
theorem Tz(k:Ink)(c:Str):BL [eE k,.str c]=some (.ok (.str (BX k c))):=by
 refine dO (x:=BK (startR [eE k,.str c] 2)) ?_;unfold BK;cases k with
 |cov n d=>
  unfold eE;walk_at "rd"
  unfold Fw;walk_at "rd"
  rfl
 |glz n ps=>
  unfold eE;walk_at "rd"
  rw[Zal (by decide)]
  unfold FJ;walk_at "rd"
  refine LR (λi ρ=>∃ v2 v3,ρ=[some (.sh (eE (.glz n ps))),some (.sh (.str c)),v2,v3]/\(ps.take i).find? (λp=>decide (p.1=c))=none) ⟨none,none,rfl,rfl⟩ ?_ ?_
  ·rintro i p ρ hp ⟨v2,v3,rfl,hf⟩;have tk:ps.take (i+1)=ps.take i++[p]:=by rw[Zcm,hp];rfl
   unfold Fy;walk_at "rd"
   refine K1 (λh=>?_) λh=>?_
   ·unfold Fx;walk_at "rd"
    have e:ps.find? (λp=>decide (p.1=c))=some p:=by
     have hs:ps=ps.take (i+1)++ps.drop (i+1):=(List.take_append_drop _ _).symm;rw[hs,Zca,tk,Zca,hf];simp[h]
    show _=lkp ps c
    unfold lkp;rw[e]
   ·refine⟨_,_,rfl,?_⟩;rw[tk,Zca,hf];simp[h]
  ·rintro ρ ⟨v2,v3,rfl,hf⟩;rw[Zce] at hf;unfold Fz;walk_at "rd"
   show _=lkp ps c
   unfold lkp;rw[hf]
def zR:Ink:=.cov ⟨#[]⟩ ⟨#[]⟩
def cu(inks:List Ink)(paper:Str)(st:List Nat):Str:=st.foldl (λc n=>BX (inks.getD n zR) c) paper
theorem BZ(paper:Str)(inks:List Ink)(st:List Nat)(hs:∀ n∈st,n<inks.length):j5 [.tup [.str paper,.lst (inks.map eE)],.tup (st.map λ(n:Nat)=>PV.int (n:Int))]=some (.ok (.str (cu inks paper st))):=by
 refine dO (x:=j4 (startR [.tup [.str paper,.lst (inks.map eE)],.tup (st.map λ(n:Nat)=>PV.int (n:Int))] 2)) ?_;unfold j4;walk_at "rd"
 refine il (λi ρ=>∃ v3,ρ=[some (.sh (.tup [.str paper,.lst (inks.map eE)])),some (.sh (.tup (st.map λ(n:Nat)=>PV.int (n:Int)))),some (.sh (.str (cu inks paper (st.take i)))),v3]) ⟨none,rfl⟩ ?_ ?_
 ·rintro i x ρ hx ⟨v3,rfl⟩;rw[Zaf] at hx;cases hn:st[i]? with
  |none=>rw[hn] at hx;cases hx
  |some n=>
   rw[hn] at hx;cases hx;have hl:=hs n (Zap hn);unfold qw;walk_at "rd"
   refine⟨eE (inks.getD n zR),?_,?_⟩
   ·refine jn ?_;rw[Zaf,Zad hl,Zav,Zad hl];rfl
   ·rw[Tz];walk_at "rd"
    refine⟨some (.sh (.int n)),?_⟩;rw[Zcm,hn];unfold cu;rw[List.foldl_append];rfl
 ·rintro ρ ⟨v3,rfl⟩;rw[Zac,Zce];unfold qx;walk_at "rd"
theorem FW{α:Type}(g:α->PV)(d:α)(l:List α):wy (l.map g)=(List.range l.length).map λ(i:Nat)=>PV.tup [.int (i:Int),g (l.getD i d)]:=by
 apply ZbA
 intro i;unfold wy;rw[ZbP,Zaf,Zaf];by_cases h:i<l.length
 ·rw[Zad h,ZbT h];show some (PV.tup [PV.int (i:Int),g l[i]])=some (PV.tup [PV.int (i:Int),g (l.getD i d)])
  rw[Zav,Zad h];rfl
 ·rw[ZaW (by omega),ZaW (by rw[Zba];omega)]
  rfl
def gh(states:List Nat)(p:Nat):List Nat:=(List.range states.length).filter λk=>(states.getD k 0).testBit p
def fH(l:List Nat):PV:=.lst (l.map λ(n:Nat)=>PV.int (n:Int))
theorem FZ{w h c r:Int}(sz:Sz w h)(cl:Cell w h c r)(states:List Nat)(hl:states.length<=1000):mZ [.tup [.int w,.int h],fH states,.tup [.int c,.int r]]=some (.ok (.tup ((gh states (Mth.pl w.toNat (c,r))).map λ(n:Nat)=>PV.int (n:Int)))):=by
 refine dO (x:=mY (startR [.tup [.int w,.int h],fH states,.tup [.int c,.int r]] 0)) ?_;unfold mY fH;walk_at "rd"
 rw[FW (λn=>PV.int ((n:Nat):Int)) 0 states];refine⟨by rw[Zac,Zba];exact ZaZ (bG hl),?_⟩
 rw[xm (λx=>match x with|.tup [_,.int s]=>s.toNat.testBit (Mth.pl w.toNat (c,r))|_=>false) (λx=>match x with|.tup [a,_]=>a|_=>.non)]
 ·walk_at "rd"
  rw[List.filter_map,Zbb];unfold gh;rfl
 ·intro x hx;obtain⟨i,hi,rfl⟩:=ZaN.mp hx;refine⟨_,rfl,?_,?_⟩
  ·refine zO ?_;walk_at "rd"
   rw[Wa sz cl];walk_at "rd"
   rw[Zax]
  ·intro _;refine zO ?_;walk_at "rd"
def Ma(w h:Nat)(f:Nat->Nat->Str):PV:=.lst ((List.range h).map λr=>.lst ((List.range w).map λc=>.str (f c r)))
theorem pD(n:Nat):nY 0 n=(List.range n).map λi=>PV.int ((i:Nat):Int):=by
 unfold nY;exact Zbr λi _=>by rw[Zb2]
theorem xG{w h:Int}(sz:Sz w h)(paper:Str)(inks:List Ink)(states:List Nat)(hl:states.length<=inks.length)(h8:inks.length<=8){r:Nat}(hr:r<h.toNat) :
  iG [.tup [.str paper,.lst (inks.map eE)],.tup [.int w,.int h],fH states,.int r]=some (.ok (.lst ((List.range w.toNat).map λc=>.str (cu inks paper (gh states (r*w.toNat+c)))))):=by
 have w0:=sz.w0;have w1:=sz.w1;refine vC (x:=iD (startR [.tup [.str paper,.lst (inks.map eE)],.tup [.int w,.int h],fH states,.int r] 0)) ?_;unfold iD;walk_at "rd"
 refine⟨by omega,by omega,by rw[bM];exact ZaZ (bG (by omega)),?_⟩
 rw[pD,tM (λi=>PV.int ((i:Nat):Int)) (λc=>.str (cu inks paper (gh states (r*w.toNat+c)))) _ λc hc=>?_]
 ·walk_at "rd"
 ·have hc:=Za2.mp hc;walk_at "rd"
  refine⟨by decide,?_⟩
  rw[FZ sz (c:=(c:Int)) (r:=(r:Int)) ⟨by omega,by omega,by omega,by omega⟩ states (by omega)]
  walk_at "rd"
  rw[show Mth.pl w.toNat ((c:Int),(r:Int))=r*w.toNat+c from rfl];rw[BZ paper inks _ λn hn=>by
   have:=Za2.mp (Zbt.mp hn).1;omega]
  walk_at "rd"
def Yp(row:Bool):Str:=if row then Str.ofString "row" else Str.ofString "column"
def Yq(row:Bool)(l f t:Int):PV:=.tup [.str (Yp row),.int l,.int f,.int t]
structure On(w h:Int)(row:Bool)(l f t:Int):Prop where
 l0:0<=l
 l1:l<if row then h else w
 f0:0<=f
 ft:f<=t
 t1:t<if row then w else h
def qj(w h:Int):Nat:=2^(w.toNat*h.toNat)-1
theorem Mf{w h:Int}(sz:Sz w h):tE [.tup [.int w,.int h]]=some (.ok (.int (qj w h:Nat))):=by
 have hm:=sz.mul;refine dO (x:=tD (startR [.tup [.int w,.int h]] 0)) ?_;unfold tD;walk_at "rd"
 refine⟨.inl ⟨by have:=sz.w0;have:=sz.w1;omega,by have:=sz.w0;have:=sz.w1;omega⟩,by omega,by omega,by decide,?_⟩
 unfold qj;rw[sz.nat.1];have:0<2^(w*h).toNat:=Nat.pow_pos (by decide)
 rw[Int.one_mul,show((2:Int)^(w*h).toNat)=((2^(w*h).toNat:Nat):Int) by norm_cast]
 congr 1
 omega
inductive Dd where
 |cut (b:Int) (row:Bool) (l f t:Int)
 |prt (b i:Int)
def Dd.p:Dd->PV
 |.cut b row l f t=>.tup [.str (Str.ofString "cut"),.int b,Yq row l f t]
 |.prt b i=>.tup [.str (Str.ofString "print"),.int b,.int i]
def Dd.ok(w h:Int):Dd->Prop
 |.cut b row l f t=>0<=b/\On w h row l f t
 |.prt b i=>0<=b/\0<=i
def Dd.block:Dd->Int
 |.cut b ..=>b
 |.prt b _=>b
theorem p9{x:Int}(h0:0<=x)(h:x<2^250):x.natAbs<2^9000:=by
 have e:(2:Nat)^250<=2^9000:=Nat.pow_le_pow_right (by decide) (by decide)
 refine Zan ?_ e;have:x.natAbs<(2^250:Int).natAbs:=by omega
 rw[Int.natAbs_pow] at this;exact this
theorem Ga(ns:List Int)(k:Int)(k0:0<=k)(k1:k<=100):∃ n:Int,gJ [.lst (ns.map .int),.int k]=some (.ok (.lst [.int n]))/\0<=n:=by
 have b0:((2147483648^7:Nat):Int)<2^250:=by decide
 have sm:∀ {x:Int},0<=x->x<(2147483648^7:Nat)->x.natAbs<2^9000:=λh1 h2=>p9 h1 (Int.lt_trans h2 b0);have s1:∀ {x:Int},0<=x->x<4611686018427387904->x.natAbs<2^9000:=λh1 h2=>sm h1 (Int.lt_trans h2 (by decide))
 suffices h:∃ p,gJ [.lst (ns.map .int),.int k]=some (.ok p)/\∃ n:Int,p=.lst [.int n]/\0<=n by
  obtain⟨p,e,n,rfl,h⟩:=h;exact⟨n,e,h⟩
 refine Tq (x:=j6 (startR [.lst (ns.map .int),.int k] 4)) ?_;refine oW λQE hE=>?_;have go:∀ c:Int,To (lu [some (.sh (.lst (ns.map .int))),some (.sh (.int k)),some (.sh (.int c)),none,none,none]) QE:=by
  intro c;unfold lu;walk_at "rd"
  refine⟨by decide,by decide,by decide,K1 (λh=>?_) (λh=>?_)⟩
  ·unfold qz;walk_at "rd"
   refine⟨by decide,by decide,by decide,by decide,bG (by decide),hE _ ⟨_,rfl,_,rfl,ZbV _ (by decide)⟩⟩
  ·unfold qF;walk_at "rd"
   have kk:0<=48271*k*k/\48271*k*k<=4827100*100:=⟨Int.mul_nonneg (by omega) k0,Zcl (by omega) k1 k0 (by decide)⟩
   refine⟨by decide,s1 (by decide) (by decide),s1 k0 (by omega),s1 (by omega) (by omega),s1 k0 (by omega),by decide,by decide,?_⟩
   refine il (λi ρ=>∃ (n f:Int) (v:Option Sl),ρ=[some (.sh (.lst (ns.map .int))),some (.sh (.int k)),some (.sh (.int c)),some (.sh (.int n)),some (.sh (.int f)),v]/\0<=n/\n<4294967296/\0<=f/\f<(2147483648^i:Nat))
    ⟨_,_,none,rfl,by omega,by omega,by decide,by decide⟩ ?_ ?_
   ·rintro i x ρ hx ⟨n,f,v,rfl,n0,n1,f0,f1⟩;obtain⟨hi,rfl⟩:=qe hx;unfold qC;walk_at "rd"
    have hz:=ZbV (n*69621+7919*(0+(i:Int))) (show(2147483629:Int)≠0 by decide)
    have hy:=Zb3 (n*69621+7919*(0+(i:Int))) (show(0:Int)<2147483629 by decide)
    generalize (n*69621+7919*(0+(i:Int)))%2147483629=z at hz hy ⊢
    have gz:=ZbV (z*z) (show(2147483587:Int)≠0 by decide)
    have gy:=Zb3 (z*z) (show(0:Int)<2147483587 by decide)
    generalize z*z%2147483587=y at gz gy ⊢
    have hp:2147483648^i<=2147483648^7:=Nat.pow_le_pow_right (by decide) (ZaZ hi)
    refine⟨s1 n0 (by omega),s1 (by decide) (by decide),s1 (by decide) (by decide),s1 (by omega) (by omega),by decide,s1 hz (by omega),s1 hz (by omega),by decide,sm f0 (by omega),s1 (by decide) (by decide),y,_,_,rfl,gz,by omega,by omega,?_⟩
    rw[Nat.pow_succ];omega
   ·rintro ρ ⟨n,f,v,rfl,n0,n1,f0,f1⟩;unfold qD;walk_at "rd"
    exact⟨bG (by decide),hE _ ⟨_,rfl,_,rfl,f0⟩⟩
 unfold j6;walk_at "rd"
 refine K1 (λh=>?_) (λh=>go 0);unfold qy;walk_at "rd"
 exact⟨_,LK k0 (by rw[Zac] at h;exact h),go _⟩
theorem Gb(n m:Int)(m0:0<m)(m1:m<1073741824):bF [.lst [.int n],.int m]=some (.ok (.tup [.int (n%m),.lst [.int (n/m)]])):=by
 refine dO (x:=j7 (cL 0 [.lst [.int n],.int m] 1)) ?_;unfold j7;rw[show cL 0 [.lst [.int n],.int m] 1=[some (.ow (.lst [.int n])),some (.sh (.int m)),none] from rfl];walk_at "rd"
 exact⟨m0,m0,m1,0,rfl,rfl⟩
theorem iy{n m:Int}(m0:0<m)(m1:m<1073741824){Q:PV->PV->Prop}:(∃ q p',bF [.lst [.int n],.int m]=some (.ok (.tup [q,p']))/\Q q p')=Q (.int (n%m)) (.lst [.int (n/m)]):=by
 refine propext ⟨?_,λh=>⟨_,_,Gb n m m0 m1,h⟩⟩;rintro⟨q,p',e,h⟩;rw[Gb n m m0 m1] at e;cases e;exact h
theorem Iz(n:Int)(n0:0<=n):∃ w h:Int,kh [.lst [.int n]]=some (.ok (.tup [.int w,.int h]))/\1<=w/\w<=4/\1<=h/\h<=4:=by
 refine⟨1+n%4,1+n/4%4,?_,by omega,by omega,by omega,by omega⟩
 refine dO (x:=j9 (cL 0 [.lst [.int n]] 1)) ?_;unfold j9;rw[show cL 0 [.lst [.int n]] 1=[some (.ow (.lst [.int n])),none] from rfl];walk_at "rd"
 rw[iy (by decide) (by decide)]
 walk_at "rd"
 rw[iy (by decide) (by decide)]
 walk_at "rd"
 exact ZaZ (bG (by decide))
def W54(p k:Int):Str:=Txt.slice (Str.ofString "mmmm") none (some p)++⟨#[(Str.ofString "kxadzqbfwcgjyehtvn").cps.toList.getD k.toNat 0]⟩++Txt.slice (Str.ofString "mmm") (some p) none
theorem jO{p k:Int}(p0:0<=p)(p1:p<4)(k0:0<=k)(k1:k<18):dM [.int p,.int k]=some (.ok (.str (W54 p k))):=by
 refine dO (x:=j8 (startR [.int p,.int k] 0)) ?_;have sm:∀ {n:Nat},n<=30->n<=sizeLine:=λh=>ZaZ (bG (by omega))
 unfold j8;walk_at "rd"
 obtain⟨c,e,e'⟩:=vV (xs:=(Str.ofString "kxadzqbfwcgjyehtvn").cps.toList) k0 k1;have a:(Txt.slice (Str.ofString "mmmm") none (some p)).length<=4/\(Txt.slice (Str.ofString "mmm") (some p) none).length<=4:=by
  obtain rfl|rfl|rfl|rfl:p=0\/p=1\/p=2\/p=3:=by omega
  all_goals decide +kernel
 have b:∀ x y:Str,(x++y).length=x.length+y.length:=λx y=>ZbB;have u:(⟨#[c]⟩:Str).length=1:=rfl;refine⟨by decide,by decide,c,e,sm (by omega),by decide,sm (by rw[b];omega),?_⟩
 unfold W54;rw[Zav,e'];rfl
theorem zT{α β:Type}(f:α->β):∀ (l:List α) (i:Nat),(l.map f).eraseIdx i=(l.eraseIdx i).map f
 |[],_=>rfl
 |_::_,0=>rfl
 |x::l,i+1=>Zbh (f x::·) (zT f l i)
def Ink.small:Ink->Prop
 |.cov ..=>True
 |.glz _ ps=>ps.length<=10
theorem Gd(n:Int)(n0:0<=n):∃ (z:Str) (l:List Ink) (p s:Int),iu [.lst [.int n]]=some (.ok (.tup [.str z,.lst (l.map eE)]))/\(2<=l.length/\l.length<=4)/\(0<=p/\p<4)/\(∃ k:Int,0<=k/\k<6/\z=W54 p k)/\∀ (i:Nat) x,l[i]?=some x->x.name=W54 ((p+1)%4) ((7*i+s)%18)/\x.small:=by
 suffices h:∃ v,iu [.lst [.int n]]=some (.ok v)/\∃ (z:Str) (l:List Ink) (p s:Int),v=.tup [.str z,.lst (l.map eE)]/\(2<=l.length/\l.length<=4)/\(0<=p/\p<4)/\(∃ k:Int,0<=k/\k<6/\z=W54 p k)/\∀ (i:Nat) x,l[i]?=some x->x.name=W54 ((p+1)%4) ((7*i+s)%18)/\x.small by
  obtain⟨v,e,z,l,p,s,rfl,h⟩:=h;exact⟨z,l,p,s,e,h⟩
 have sm:∀ {n:Nat},n<=30->n<=sizeLine:=λh=>ZaZ (bG (by omega))
 refine Qw (x:=jx (cL 0 [.lst [.int n]] 10)) ?_;rw[show cL 0 [.lst [.int n]] 10=[some (.ow (.lst [.int n])),none,none,none,none,none,none,none,none,none,none] from rfl];refine oW λQE hE=>?_;unfold jx;walk_at "rd"
 rw[iy (by decide) (by decide)]
 have q0:0<=n%4:=by omega
 have q1:n%4<4:=by omega
 have q2:0<=n/4:=by omega
 generalize n%4=p at q0 q1 ⊢
 generalize n/4=m at q2 ⊢
 rw[iy (by decide) (by decide)]
 rw[jO q0 q1 (show 0<=m%6 by omega) (by omega),tv_some]
 rw[iy (by decide) (by decide)]
 rw[iy (by decide) (by decide)]
 have r0:0<=m/6/18/3:=by omega
 generalize m/6/18/3=a at r0 ⊢
 have s0:0<=m/6/18%3/\m/6/18%3<3:=by omega
 generalize m/6/18%3=c at s0 ⊢
 generalize m/6%18=s
 have t0:0<=m%6/\m%6<6:=by omega
 generalize m%6=k at t0 ⊢
 walk_at "rd"
 refine⟨by omega,by omega,?_⟩
 refine il (λi ρ=>∃ (n:Int) (l:List Ink) (v5 v6 v7 v8 v9 v10:Option Sl),ρ=[some (.ow (.lst [.int n])),some (.sh (.int p)),some (.sh (.str (W54 p k))),some (.sh (.int s)),some (.ow (.lst (l.map eE))),v5,v6,v7,v8,v9,v10]/\l.length=i/\0<=n/\∀ (i:Nat) x,l[i]?=some x->x.name=W54 ((p+1)%4) ((7*i+s)%18)/\x.small)
  ⟨a,[],none,none,none,none,none,none,rfl,rfl,r0,λi x h=>nomatch h⟩ ?_ ?_
 ·rintro i x ρ hx ⟨n,l,v5,v6,v7,v8,v9,v10,rfl,hl,n0,hN⟩;refine Fp λQS hQ=>?_;obtain⟨hi,rfl⟩:=qe hx;clear hE
  rw[show(0+(i:Int))=i from Zb2 _];have good:∀ {n:Int}{x:Ink}{v5 v6 v7 v8 v9 v10:Option Sl},0<=n->x.name=W54 ((p+1)%4) ((7*i+s)%18)/\x.small->QS (.nx [some (.ow (.lst [.int n])),some (.sh (.int p)),some (.sh (.str (W54 p k))),some (.sh (.int s)),some (.ow (.lst (l.map eE++[eE x]))),v5,v6,v7,v8,v9,v10]):=λ{n x} _ _ _ _ _ _ n0 hx=>by
   refine hQ _ ⟨n,l++[x],_,_,_,_,_,_,by rw[ZaG];rfl,by rw[Zau,hl];rfl,n0,λj y hy=>?_⟩
   rcases Nat.lt_or_ge j l.length with h|h
   ·rw[Zaj h] at hy;exact hN j y hy
   ·rw[Zam h] at hy;have:j-l.length=0:=by
     rcases Nat.eq_zero_or_pos (j-l.length) with h|h
     ·exact h
     ·rw[ZaW h] at hy;cases hy
    rw[this] at hy;cases hy;rw[show j=i by omega];exact hx
  clear hQ
  unfold pA;walk_at "rd"
  refine⟨by decide,.inl ⟨by decide,by decide⟩,by decide,?_⟩
  rw[jO (show 0<=(p+1)%4 by omega) (by omega) (show 0<=(7*(i:Int)+s)%18 by omega) (by omega),tv_some,iy (by decide) (by decide)]
  have m0:0<=n/3:=by omega
  generalize n/3=m at m0 ⊢
  walk_at "rd"
  refine K1 (λ_=>?_) (λ_=>?_)
  ·unfold o8;walk_at "rd"
   rw[iy (by decide) (by decide),jO q0 q1 (show 0<=m%6 by omega) (by omega)]
   walk_at "rd"
   exact⟨sm (by decide),by rw[Zac];exact bG (by omega),good (x:=.cov _ _) (by omega) ⟨rfl,trivial⟩⟩
  ·unfold pq;walk_at "rd"
   refine⟨by decide,by decide,?_⟩
   rw[iy (by decide) (by decide)]
   have c0:0<=m%3/\m%3<3:=by omega
   have a0:0<=m/3:=by omega
   generalize m%3=c at c0 ⊢
   generalize m/3=a at a0 ⊢
   walk_at "rd"
   refine⟨by omega,by omega,?_⟩
   refine il (λj ρ=>∃ (n:Int) (us:List Int) (ps:List (Str×Str)) (v9 v10:Option Sl),ρ=[some (.ow (.lst [.int n])),some (.sh (.int p)),some (.sh (.str (W54 p k))),some (.sh (.int s)),some (.ow (.lst (l.map eE))),some (.sh (.int i)),some (.sh (.str (W54 ((p+1)%4) ((7*i+s)%18)))),some (.ow (.lst (us.map .int))),some (.ow (.lst (ps.map prP))),v9,v10]/\0<=n/\ps.length=j/\us.length+j=6/\∀ u∈us,0<=u/\u<18)
    ⟨a,[0,1,2,3,4,5],[],v9,v10,rfl,a0,rfl,rfl,by decide⟩ ?_ ?_
   ·rintro j x ρ hx ⟨n,us,ps,v9,v10,rfl,n0,hp,hu,hb⟩;refine Fp λQT hT=>?_;have hj:=(qe hx).1;unfold o9;walk_at "rd"
    rw[iy (by rw[Zac];omega) (by rw[Zac];omega)]
    have h0:0<=n%((us.map PV.int).length:Int)/\n%((us.map PV.int).length:Int)<us.length:=by
     rw[Zac];exact⟨ZbV _ (by omega),Zb3 _ (by omega)⟩
    have g0:0<=n/((us.map PV.int).length:Int):=Int.ediv_nonneg n0 (by omega)
    generalize n%((us.map PV.int).length:Int)=e at h0 ⊢
    generalize n/((us.map PV.int).length:Int)=d at g0 ⊢
    have he:e.toNat<us.length:=by omega
    walk_at "rd"
    refine⟨by omega,by omega,.int us[e.toNat],by rw[Zaf,Zad he];rfl,?_⟩
    have hm:=hb _ (ZbJ he);generalize us[e.toNat]=u at hm ⊢
    rw[jO q0 q1 hm.1 hm.2,tv_some,iy (by decide) (by decide),jO q0 q1 (show 0<=d%6 by omega) (by omega)]
    walk_at "rd"
    refine⟨sm (by decide),by rw[Zac];exact bG (by omega),hT _ ⟨d/6,us.eraseIdx e.toNat,ps++[(_,_)],_,_,by rw[ZaG,zT];rfl,by omega,by rw[Zau,hp];rfl,by rw[List.length_eraseIdx_of_lt he];omega,λu hu=>hb u (List.mem_of_mem_eraseIdx hu)⟩⟩
   ·rintro ρ ⟨n,us,ps,v9,v10,rfl,n0,hp,hu,hb⟩;unfold ph;walk_at "rd"
    rw[bM] at hp;exact⟨sm (by decide),by rw[Zac];exact bG (by omega),good (x:=.glz _ _) n0 ⟨rfl,by show ps.length<=10;omega⟩⟩
 ·rintro ρ ⟨n,l,v5,v6,v7,v8,v9,v10,rfl,hl,n0,hN⟩;unfold pB;rw[onNx_nx,to_frz,Ir (p:=.lst (l.map eE)) rfl];walk_at "rd"
  rw[bM] at hl;exact⟨sm (by decide),hE _ ⟨_,rfl,_,_,p,s,rfl,⟨by omega,by omega⟩,⟨q0,q1⟩,⟨k,t0.1,t0.2,rfl⟩,hN⟩⟩
section
variable{ρ:Rho}{QS:Out->Prop}{Q:PV->Prop}{s t:Sn}{p:PV}
theorem Cd{c:Str}(h:s ρ=some (.ex (.exc c []))):sU s t ρ=some (.ex (.exc c [])):=by unfold sU;rw[h];rfl
theorem Ce{i:Nat}{f:Nf}{fe fk:Fn PV}{l:List (Key×PV)}{put:PV->PV}(h1:ρ[i]?=some (some (.dp p)))(h2:f ρ p=some (.dk l,put))(hl:l.length<sizeLine)
  (h:Tv (fe ρ) λx=>x.still=true/\Tv (fk ρ) λk=>∃ k',jH k=some k'/\QS (.nx (ρ.set i (some (.dp (put (.dk (wG l k' x)))))))):To (ik (Fi i f fe fk) ρ) QS:=by
 obtain⟨x,e,hx,k,ek,k',hk,q⟩:=h;refine jb ⟨.nx _,?_,trivial,_,rfl,q⟩;unfold Fi g8;rw[e,h1];show(match f ρ p with|some (.dk l,put)=>_|_=>none)=_
 rw[h2];show gb (fk ρ) _=_
 rw[ek];show(match jH k with|some k=>_|none=>none)=_
 rw[hk];exact Zag ⟨hx,hl⟩
theorem QG{i:Nat}{f:Nf}{fe fk:Fn PV}{l:List (Key×PV)}{put:PV->PV}(h1:ρ[i]?=some (some (.dp p)))(h2:f ρ p=some (.dk l,put))(hl:l.length<sizeLine)
  (h:Tv (fe ρ) λx=>Tv (fk ρ) λk=>∃ k',jH k=some k'/\eO l k'=none/\QS (.nx (ρ.set i (some (.dp (put (.dk (l++[(k',x)])))))))):To (ik (Bv i f fe fk) ρ) QS:=by
 obtain⟨x,e,k,ek,k',hk,hv,q⟩:=h;refine jb ⟨.nx _,?_,trivial,_,rfl,q⟩;unfold Bv g8;rw[e,h1];show(match f ρ p with|some (.dk l,put)=>_|_=>none)=_
 rw[h2];show gb (fk ρ) _=_
 rw[ek];show(match jH k with|some k=>_|none=>none)=_
 rw[hk];exact Zag ⟨by rw[hv];rfl,hl⟩
theorem lX{cls g:Str}{fe:Fn PV}{i:Nat}{l:List (Str×PV)}(h1:ρ[i]?=some (some (.dp (.obj cls l))))(h2:l.lookup g=none/\l.length<1000)(h:Tv (fe ρ) λq=>QS (.nx (ρ.set i (some (.dp (.obj cls (l++[(g,q)]))))))):To (ju cls i g fe ρ) QS:=by
 obtain⟨q,e,z⟩:=h;refine⟨.nx _,?_,trivial,z⟩;unfold ju g8;rw[h1];show(if _ then _ else _)=_
 rw[Zag ⟨rfl,h2.1,h2.2⟩,e];rfl
theorem Kg{m:List PV->Option (Res PV)}{fa:Fn PV}{fs:Fn (List PV)}:Tv (EY m fa fs ρ) Q=Tv (fa ρ) (λp=>Tv (fs ρ) λl=>Tv (m (p::l)) Q):=by
 unfold EY;rw[tv_bnd];congr 1;funext p;rw[tv_bnd];congr 1;funext l;refine propext ⟨?_,λ⟨r,e,q⟩=>⟨r,by rw[e],q⟩⟩
 rintro⟨r,e,q⟩;split at e
 ·rename_i q1 h1;cases e;exact⟨_,h1,q⟩
 ·cases e
theorem Kh{cls:Str}{m:List PV->Option (Res PV)}{fs:Fn (List PV)}:Tv (Fd cls m fs ρ) Q=Tv (fs ρ) (λl=>∃ p,m (.obj cls []::l)=some (.ok (.tup [.non,p]))/\Q p):=by
 unfold Fd;rw[tv_bnd];congr 1;funext l;refine propext ⟨?_,λ⟨r,e,q⟩=>⟨r,by rw[e],q⟩⟩
 rintro⟨r,e,q⟩;split at e
 ·rename_i q1 h1;cases e;exact⟨_,h1,q⟩
 ·cases e
theorem Ci{p:PV}(h:To (s ρ) λo=>∃ r,o=.nx (some (.dp p)::r)):Lw (s ρ)=some (.ok (.tup [.non,p])):=by
 obtain⟨o,e,_,r,rfl⟩:=h;rw[e];rfl
theorem TF{p:PV}(h:To (s ρ) λo=>∃ r,o=.nx (some (.dp p)::r)):VR (s ρ)=some (.ok (.tup [.non,p])):=by
 obtain⟨o,e,_,r,rfl⟩:=h;rw[e];rfl
theorem Cj{z:PV}(h:s ρ=some (.ex z)):Lw (s ρ)=some (.ex z):=by rw[h];rfl
end
theorem Kl{s:Sn}{hh:PV->Sn}{ρ ρ':Rho}{QS:Out->Prop}(h:s ρ=some (.nx ρ'))(q:QS (.nx ρ')):To (wV s hh ρ) QS:=⟨.nx _,by unfold wV;rw[h],trivial,q⟩
theorem TJ{s:Sn}{hh:PV->Sn}{ρ:Rho}{z:PV}{QS:Out->Prop}(h:s ρ=some (.ex z))(q:To (hh z ρ) QS):To (wV s hh ρ) QS:=by unfold wV;rw[h];exact q
theorem xH{x:Option Out}{p:PV}(h:To x λo=>o=.rt p):Qd x=some (.ok p):=by obtain⟨o,e,_,rfl⟩:=h;rw[e];rfl
section
variable{W:List (Key×PV)}{z:Str}{p:PV}
theorem xJ(h:cH z=true):z.length<=8:=by
 unfold cH at h;rw[Za6,decide_eq_true_eq] at h;exact h.1.2
theorem ws{n:Nat}(h:n<=1000):n<=sizeLine:=ZaZ (bG h)
theorem tO(hz:cH z=true)(hv:eO W (.inr z)=some p):bx [.dk W,.str z]=some (.ok .non):=by
 refine dO (x:=dZ (startR [.dk W,.str z] 0)) ?_;unfold dZ;walk_at "rd"
 rw[tL z (ws (by have:=xJ hz;omega)),hz]
 walk_at "rd"
 rw[hv];exact trivial
theorem tQ(hl:z.length<=1000)(h:cH z=false\/eO W (.inr z)=none):bx [.dk W,.str z]=some (.ex (.exc "NoName" [])):=by
 show fin (dZ (startR [.dk W,.str z] 0))=_
 unfold dZ;rw[Qz (z:=.exc "NoName" [])]
 ·rfl
 ·walk_at "rd"
  rw[tL z (ws hl)];walk_at "rd"
  by_cases h1:cH z=false
  ·rw[Zag h1];rfl
  ·rw[Zal h1,h.resolve_left h1];rfl
theorem HN(hz:cH z=true)(hv:eO W (.inr z)=none):cP [.dk W,.str z]=some (.ok .non):=by
 refine dO (x:=dJ (startR [.dk W,.str z] 0)) ?_;unfold dJ;walk_at "rd"
 rw[tL z (ws (by have:=xJ hz;omega)),hz]
 walk_at "rd"
 unfold lr;walk_at "rd"
 rw[hv];exact trivial
end
def jm(bench:PV)(w h:Int)(sts:List PV)(W P:List (Key×PV)):List (Str×PV):=[("bench",bench),("size",.tup [.int w,.int h]),("states",.lst sts),("woods",.dk W),("prints",.dk P)]
def nR(bench:PV)(w h:Int)(sts:List PV)(W P:List (Key×PV)):PV:=.obj "Shop" (jm bench w h sts W P)
section
variable{bench:PV}{w h:Int}{sts:List PV}{W P W':List (Key×PV)}{z:Str}
theorem xK:(jm bench w h sts W P).lookup (Str.ofString "bench")=some bench:=by kernel_rfl
theorem Km:(jm bench w h sts W P).lookup (Str.ofString "size")=some (.tup [.int w,.int h]):=by kernel_rfl
theorem lY:(jm bench w h sts W P).lookup (Str.ofString "woods")=some (.dk W):=by kernel_rfl
theorem dI:(jm bench w h sts W P).lookup (Str.ofString "prints")=some (.dk P):=by kernel_rfl
theorem Mi:yr (jm bench w h sts W P) "woods" (.dk W')=jm bench w h sts W' P:=by kernel_rfl
theorem xM{P':List (Key×PV)}:yr (jm bench w h sts W P) "prints" (.dk P')=jm bench w h sts W P':=by kernel_rfl
theorem QH{ρ:Rho}:Io "Shop" "woods" Fg ρ (nR bench w h sts W P)=some (.dk W,λr'=>.obj "Shop" (yr (jm bench w h sts W P) "woods" r')):=by kernel_rfl
theorem zU{ρ:Rho}:Io "Shop" "prints" Fg ρ (nR bench w h sts W P)=some (.dk P,λr'=>.obj "Shop" (yr (jm bench w h sts W P) "prints" r')):=by kernel_rfl
theorem f9{g:Str}{q:PV}{Q:PV->Prop}(e:(jm bench w h sts W P).lookup g=some q):(∃ c l,nR bench w h sts W P=.obj c l/\c=Str.ofString "Shop"/\∃ q',l.lookup g=some q'/\Q q')=Q q:=by
 refine propext ⟨?_,λz=>⟨_,_,rfl,rfl,q,e,z⟩⟩;rintro⟨c,l,e1,e2,q',e3,z⟩;unfold nR at e1;cases e1;rw[e] at e3;cases e3;exact z
theorem QJ(sz:Sz w h)(hz:cH z=true)(hv:eO W (.inr z)=none)(hl:W.length<=900) :
  bW [nR bench w h sts W P,.str z]=some (.ok (.tup [.non,nR bench w h sts (wG W (.inr z) (.int (qj w h:Nat))) P])):=by
 refine Ci (s:=fP (nR bench w h sts W P)) ?_;unfold fP;walk_at "rd"
 rw[f9 lY,HN hz hv];walk_at "rd"
 unfold oY;refine Ce rfl QH (bG (by omega)) ?_
 walk_at "rd"
 rw[f9 Km,Mf sz];walk_at "rd"
 exact⟨rfl,rfl,_,rfl,_,by rw[Mi];rfl⟩
theorem TQ{b:Str}{inks:List PV}(hi:inks.all PV.still=true)(hs:sts.all PV.still=true)(li:inks.length<=900)(ls:sts.length<=900) :
  dg [.obj "Shop" [],.tup [.str b,.lst inks],.tup [.int w,.int h],.lst sts]=some (.ok (.tup [.non,nR (.tup [.str b,.lst inks]) w h sts [] []])):=by
 refine TF (s:=gC) (ρ:=[some (.dp (.obj "Shop" [])),some (.sh (.tup [.str b,.lst inks])),some (.sh (.tup [.int w,.int h])),some (.sh (.lst sts))]) ?_;unfold gC;rw[to_seq];refine jb (lX rfl ⟨rfl,by show 0<1000;decide⟩ ?_)
 walk_at "rd"
 refine⟨rfl,hi,ws (by decide),_,rfl,?_⟩
 refine jb (lX rfl ⟨by kernel_rfl,by show 1<1000;decide⟩ ?_)
 walk_at "rd"
 refine⟨rfl,_,rfl,?_⟩;refine jb (lX rfl ⟨by kernel_rfl,by show 2<1000;decide⟩ ?_)
 walk_at "rd"
 refine⟨hs,_,rfl,?_⟩;refine jb (lX rfl ⟨by kernel_rfl,by show 3<1000;decide⟩ ⟨_,rfl,_,rfl,?_⟩)
 exact jb (lX rfl ⟨by kernel_rfl,by show 4<1000;decide⟩ ⟨_,rfl,_,rfl,_,rfl⟩)
end
theorem Wb(i:Nat):(2^i-1) ||| 2^i=2^(i+1)-1:=Nat.eq_of_testBit_eq λp=>by
 rw[Nat.testBit_or,ZbW,ZbW,Nat.testBit_two_pow];by_cases h:i=p
 ·subst h;simp
 ·have:decide (p<i)=decide (p<i+1):=decide_eq_decide.mpr (by omega)
  simp[h,this]
theorem QK{w h:Int}(sz:Sz w h):km [.tup [.int w,.int h]]=some (.ok (.int (qj w h:Nat))):=by
 have hm:=sz.mul;have w0:=sz.w0;have w1:=sz.w1;refine dO (x:=kj (startR [.tup [.int w,.int h]] 2)) (oW λQS hQ=>?_);unfold kj;walk_at "rd"
 refine⟨.inl ⟨by omega,by omega⟩,by omega,by omega,?_⟩
 refine il (λi ρ=>∃ v:Option Sl,ρ=[some (.sh (.tup [.int w,.int h])),some (.sh (.int (2^i-1:Nat))),v]) ⟨none,rfl⟩ ?_ ?_
 ·rintro i x ρ hx ⟨v,rfl⟩;obtain⟨hi,rfl⟩:=qe hx;unfold qG;walk_at "rd"
  refine⟨by omega,by omega,by decide,some (.sh (.int (0+(i:Int)))),?_⟩
  rw[show(1:Int)*2^(0+(i:Int)).toNat=((2^i:Nat):Int) by rw[Int.one_mul,Zb2,Zax];norm_cast,LQ,Wb]
 ·rintro ρ ⟨v,rfl⟩;unfold qH;walk_at "rd"
  refine hQ _ ?_;rw[bM];unfold qj;rw[sz.nat.1];rfl
def kE(a b c d e:Bool):PV:=.lst [.bl a,.bl b,.bl c,.bl d,.bl e]
theorem zV:fD [.non]=some (.ok (kE false false false false false)):=by kernel_rfl
theorem rC:fD [.exc "NoName" []]=some (.ok (kE true true false false false)):=by kernel_rfl
theorem lZ:gG [.str ""]=some (.ok (kE false false false false false)):=by kernel_rfl
theorem uw:gG [.str "NoName"]=some (.ok (kE true true false false false)):=by kernel_rfl
theorem QL(n w h:Nat)(f:Nat->Nat->Str):eqF (n+2) (Ma w h f) (Ma w h f)=some true:=by
 refine pC λx hx=>?_;obtain⟨r,_,rfl⟩:=ZaN.mp hx;refine pC λx hx=>?_;obtain⟨c,_,rfl⟩:=ZaN.mp hx;exact FQ _ _
theorem TV{α:Type}(n:Nat)(x:PV):(List.replicate n [x]).flatten=(List.range n).map λ_=>x:=by
 induction n with
 |zero=>rfl
 |succ n ih=>rw[List.replicate_succ',List.flatten_append,ih,Zck,ZaG];rfl
theorem Wc{inks:List Ink}{k:Nat}(hk:k<inks.length):atI (inks.map eE) (k:Int)=some (eE (inks.getD k zR)):=by
 refine jn ?_;rw[Zaf,Zad hk,Zav,Zad hk];rfl
theorem Wd{l:List Nat}{k:Nat}(hk:k<l.length):atI (l.map λ(n:Nat)=>PV.int (n:Int)) (k:Int)=some (.int ((l.getD k 0:Nat):Int)):=by
 refine jn ?_;rw[Zaf,Zad hk,Zav,Zad hk];rfl
theorem Ge{w h:Int}(sz:Sz w h)(paper:Str)(inks:List Ink)(states:List Nat)(hl:states.length<=inks.length)(h8:inks.length<=8) :
  qd [.tup [.str paper,.lst (inks.map eE)],.tup [.int w,.int h],fH states]=some (.ok (Ma w.toNat h.toNat λc r=>cu inks paper (gh states (r*w.toNat+c)))):=by
 have h0:=sz.h0;have h1:=sz.h1;refine vD (x:=qb (startR [.tup [.str paper,.lst (inks.map eE)],.tup [.int w,.int h],fH states] 0)) ?_;unfold qb;walk_at "rd"
 refine⟨by omega,by omega,by rw[bM];exact ZaZ (bG (by omega)),?_⟩
 rw[pD,tM (λi=>PV.int ((i:Nat):Int)) (λr=>.lst ((List.range w.toNat).map λc=>.str (cu inks paper (gh states (r*w.toNat+c))))) _ λr hr=>?_]
 ·walk_at "rd"
  rfl
 ·walk_at "rd"
  rw[xG sz paper inks states hl h8 (Za2.mp hr)];walk_at "rd"
  exact Zaq.mpr λx hx=>by obtain⟨c,_,rfl⟩:=ZaN.mp hx;rfl
theorem Ko{L:List PV}{i:Int}{Q:PV->Prop}(h0:0<=i)(h1:i<L.length)(h:∀ p∈L,Q p):∃ p,atI L i=some p/\Q p:=by
 obtain⟨v,e1,e2⟩:=vV (xs:=L) h0 h1;exact⟨v,e1,h v (Zap e2)⟩
def prD(st a:List Nat):List (Key×PV):=a.map λ(k:Nat)=>((.inl (k:Int):Key),PV.int (st.getD k 0:Nat))
theorem Kp(st:List Nat)(k:Nat):∀ a:List Nat,eO (prD st a) (.inl (k:Int))=if k∈a then some (.int (st.getD k 0:Nat)) else none
 |[]=>rfl
 |x::a=>by
  have ih:=Kp st k a;unfold prD at ih ⊢;rw[Zao];unfold eO;by_cases h:x=k
  ·subst h;rw[Zag rfl,Zag ZaF]
  ·rw[Zal (λz=>h (Int.ofNat_inj.mp (Sum.inl.inj z))),ih];by_cases q:k∈a
   ·rw[Zag q,Zag (Zar _ q)]
   ·rw[Zal q,Zal (λz=>(ZaJ.mp z).elim (λz=>h z.symm) q)]
theorem tR{p:PV}{k:Key}:∀ {l:List (Key×PV)},eO l k=none->wG l k p=l++[(k,p)]
 |[],_=>rfl
 |(a,q)::l,h=>by
  unfold eO at h;by_cases e:a=k
  ·rw[Zag e] at h;cases h
  ·rw[Zal e] at h;unfold wG;rw[Zal e,tR h];rfl
theorem IK(m:Nat)(hm:m<=8)(st a:List Nat):fO [.int m,.dk (prD st a)]=some (.ok (fH ((List.range m).map λk=>if k∈a then st.getD k 0 else 0))):=by
 refine vC (x:=fM (startR [.int m,.dk (prD st a)] 1)) (oW λQS hQ=>?_);unfold fM;walk_at "rd"
 refine⟨_,rfl,by omega,by omega,by rw[bM];exact ZaZ (bG (by omega)),?_⟩
 rw[Zax,pD,tM (λi=>PV.int ((i:Nat):Int)) (λk=>PV.int ((if k∈a then st.getD k 0 else 0:Nat):Int)) _ λk hk=>?_]
 ·walk_at "rd"
  refine hQ _ ?_;unfold fH;rw[Zbb];rfl
 ·walk_at "rd"
  rw[Kp];split<;>rfl
section
variable{bench:PV}{w h:Int}{sts:List PV}{W P:List (Key×PV)}{z s:Str}
theorem QM(hz:cH z=true)(hv:eO P (.inr z)=none)(hl:P.length<=900):bY [nR bench w h sts W P,.str z]=some (.ok (.tup [.non,nR bench w h sts W (P++[(.inr z,.dk [])])])):=by
 refine Ci (s:=fQ (nR bench w h sts W P)) ?_;unfold fQ;walk_at "rd"
 rw[f9 dI,HN hz hv];walk_at "rd"
 unfold oZ;refine QG rfl zU (bG (by omega)) ⟨_,rfl,?_⟩
 walk_at "rd"
 exact⟨_,rfl,hv,_,by rw[xM];rfl⟩
end
section
variable{bp:Str}{inks:List Ink}{st:List Nat}{a:List Nat}
def ux(bp:Str)(inks:List Ink):PV:=.tup [.str bp,.lst (inks.map eE)]
def jP(m:Nat)(st a:List Nat):List Nat:=(List.range m).map λk=>if k∈a then st.getD k 0 else 0
end
theorem Mj(ps:List (Str×Str))(c:Str):ps.find? (λp=>decide (p.1=c))=(ps.filter λp=>decide (p.1=c)).head?:=(List.head?_filter ..).symm
theorem Ml{bp:Str}{inks:List Ink}(hs:∀ k∈inks,k.small)(nums:List Nat)(hn:∀ n∈nums,n<inks.length):iK [.tup [.str bp,.lst (inks.map eE)],fH nums]=some (.ok (.str (cu inks bp nums))):=by
 refine dO (x:=iJ (startR [.tup [.str bp,.lst (inks.map eE)],fH nums] 4)) (oW λQS hQ=>?_);unfold iJ fH;walk_at "rd"
 refine il (λi ρ=>∃ v3 v4 v5,ρ=[some (.sh (.tup [.str bp,.lst (inks.map eE)])),some (.sh (.lst (nums.map λ(n:Nat)=>PV.int (n:Int)))),some (.sh (.str (cu inks bp (nums.take i)))),v3,v4,v5]) ⟨none,none,none,rfl⟩ ?_ ?_
 ·rintro i x ρ hx ⟨v3,v4,v5,rfl⟩;rw[Zaf] at hx;cases hm:nums[i]? with
  |none=>rw[hm] at hx;cases hx
  |some n=>
   rw[hm] at hx;cases hx;have hl:=hn n (Zap hm);have et:cu inks bp (nums.take (i+1))=BX (inks.getD n zR) (cu inks bp (nums.take i)):=by
    rw[Zcm,hm];unfold cu;rw[List.foldl_append];rfl
   rw[et];generalize cu inks bp (nums.take i)=c
   refine Fp λQT hT=>?_;unfold nM;walk_at "rd"
   refine⟨_,Wc hl,?_⟩;have sm:(inks.getD n zR).small:=hs _ (by rw[Zav,Zad hl];exact ZbJ hl)
   generalize inks.getD n zR=k at sm hT ⊢
   cases k with
   |cov a d=>
    rw[show eE (.cov a d)=.tup [.str "cover",.str a,.str d] from rfl];walk_at "rd"
    unfold nG;walk_at "rd"
    exact hT _ ⟨_,_,_,rfl⟩
   |glz a ps=>
    have sm:ps.length<=10:=sm;rw[show eE (.glz a ps)=.tup [.str "glaze",.str a,.tup (ps.map prP)] from rfl];walk_at "rd"
    rw[Zal (by decide)]
    unfold nJ;walk_at "rd"
    refine⟨by rw[Zac];exact ws (by omega),?_⟩
    rw[vH prP prP (λp=>decide (p.1=c)) _ (λp _=>?_) (λp _ _=>?_)]
    ·walk_at "rd"
     have sh:BX (.glz a ps) c=(match ps.filter (λp=>decide (p.1=c)) with|[]=>c|q::_=>q.2):=by
      show lkp ps c=_
      unfold lkp;rw[Mj];cases ps.filter (λp=>decide (p.1=c))<;>rfl
     cases hf:ps.filter (λp=>decide (p.1=c)) with
     |nil=>
      rw[hf] at sh;exact⟨true,rfl,hT _ ⟨_,_,_,by rw[sh]⟩⟩
     |cons q r=>
      rw[hf] at sh;refine⟨false,rfl,?_⟩;unfold nH;rw[Zag rfl,Zao,show prP q=.tup [.str q.1,.str q.2] from rfl];walk_at "rd"
      exact hT _ ⟨_,_,_,by rw[sh]⟩
    ·unfold prP;walk_at "rd"
    ·walk_at "rd"
 ·rintro ρ ⟨v3,v4,v5,rfl⟩;rw[Zac,Zce];unfold nO;walk_at "rd"
  exact hQ _ rfl
theorem IV{bp:Str}{inks:List Ink}{w h:Int}(sz:Sz w h)(hs:∀ k∈inks,k.small)(st:List Nat)(hl:st.length<=inks.length)(hi:inks.length<=4):fC [.tup [.str bp,.lst (inks.map eE)],.tup [.int w,.int h],fH st]=some (.ok (Ma w.toNat h.toNat λc r=>cu inks bp (gh st (r*w.toNat+c)))):=by
 have w0:=sz.w0;have w1:=sz.w1;have h0:=sz.h0;have h1:=sz.h1;refine dO (x:=iw (startR [.tup [.str bp,.lst (inks.map eE)],.tup [.int w,.int h],fH st] 5)) (oW λQS hQ=>?_);unfold iw;walk_at "rd"
 refine⟨by omega,by omega,?_⟩
 refine il (λi ρ=>∃ v4 v5 v6 v7,ρ=[some (.sh (.tup [.str bp,.lst (inks.map eE)])),some (.sh (.tup [.int w,.int h])),some (.sh (fH st)),some (.ow (.lst ((List.range i).map λr=>.lst ((List.range w.toNat).map λc=>.str (cu inks bp (gh st (r*w.toNat+c))))))),v4,v5,v6,v7]) ⟨none,none,none,none,rfl⟩ ?_ ?_
 ·rintro i x ρ hx ⟨v4,v5,v6,v7,rfl⟩;obtain⟨hr,rfl⟩:=qe hx;rw[Zb2];refine Fp λQT hT=>?_;unfold lV;walk_at "rd"
  refine⟨by omega,by omega,?_⟩
  refine il (λj ρ=>∃ v6 v7,ρ=[some (.sh (.tup [.str bp,.lst (inks.map eE)])),some (.sh (.tup [.int w,.int h])),some (.sh (fH st)),some (.ow (.lst ((List.range i).map λr=>.lst ((List.range w.toNat).map λc=>.str (cu inks bp (gh st (r*w.toNat+c))))))),some (.sh (.int i)),some (.ow (.lst ((List.range j).map λc=>.str (cu inks bp (gh st (i*w.toNat+c)))))),v6,v7]) ⟨v6,v7,rfl⟩ ?_ ?_
  ·rintro j x ρ hx ⟨v6,v7,rfl⟩;obtain⟨hj,rfl⟩:=qe hx;rw[Zb2];refine Fp λQU hU=>?_;have ew:(i:Int)*w+(j:Int)=((i*w.toNat+j:Nat):Int):=by rw[Int.natCast_add,Int.natCast_mul,Zbs (by omega)]
   unfold lR;walk_at "rd"
   rw[ew];refine⟨.inl ⟨by omega,by omega⟩,?_⟩
   generalize hN:fH st=N at hU ⊢
   rw[show N=.lst (st.map λ(n:Nat)=>PV.int (n:Int)) from hN.symm];walk_at "rd"
   rw[Zac];refine⟨by omega,by omega,by rw[bM];exact ws (by omega),?_⟩
   rw[Zax,pD,vH (λi=>PV.int ((i:Nat):Int)) (λi=>PV.int ((i:Nat):Int)) (λk=>(st.getD k 0).testBit (i*w.toNat+j)) _ (λk hk=>?_) (λk hk _=>?_)]
   ·rw[tv_some,show PV.lst (((List.range st.length).filter λk=>(st.getD k 0).testBit (i*w.toNat+j)).map λi=>PV.int ((i:Nat):Int))=fH (gh st (i*w.toNat+j)) from rfl,Ml hs _ λn hn=>by have:=Za2.mp (Zbt.mp hn).1;omega]
    walk_at "rd"
    refine⟨by rw[Zac,Zba];exact bG (by omega),hU _ ⟨some (.sh (.int j)),some (.sh (.int (i*w.toNat+j:Nat))),?_⟩⟩
    rw[Zck,ZaG,hN.symm];rfl
   ·walk_at "rd"
    refine⟨_,Wd (Za2.mp hk),?_⟩;walk_at "rd"
    exact⟨by omega,by rw[Zax];exact Kf _ _⟩
   ·walk_at "rd"
  ·rintro ρ ⟨v6,v7,rfl⟩;unfold lU;rw[onNx_nx,to_frz,Ir (p:=.lst ((List.range (nY 0 w.toNat).length).map λc=>.str (cu inks bp (gh st (i*w.toNat+c))))) rfl,bM];walk_at "rd"
   refine⟨by rw[Zac,Zba];exact bG (by omega),hT _ ⟨some (.sh (.int i)),some (.sh (.lst ((List.range w.toNat).map λc=>.str (cu inks bp (gh st (i*w.toNat+c)))))),v6,v7,?_⟩⟩
   rw[Zck,ZaG];rfl
 ·rintro ρ ⟨v4,v5,v6,v7,rfl⟩;unfold lW;rw[onNx_nx,to_frz,Ir (p:=.lst ((List.range (nY 0 h.toNat).length).map λr=>.lst ((List.range w.toNat).map λc=>.str (cu inks bp (gh st (r*w.toNat+c)))))) rfl,bM];walk_at "rd"
  exact hQ _ rfl
theorem uW:fD [.exc "Twice" []]=some (.ok (kE true false true false false)):=by kernel_rfl
theorem xN:gG [.str "Twice"]=some (.ok (kE true false true false false)):=by kernel_rfl
def kd(p:PV)(A:List Str):List (Key×PV):=A.map λz=>(.inr z,p)
section
variable{p:PV}{z:Str}{A:List Str}{Q:PV->Prop}
theorem IW:∀ A:List Str,eO (kd p A) (.inr z)=if z∈A then some p else none
 |[]=>rfl
 |x::A=>by
  have ih:=IW A;unfold kd at ih ⊢;rw[Zao];unfold eO;by_cases h:x=z
  ·subst h;rw[Zag rfl,Zag ZaF]
  ·rw[Zal (λy=>h (Zcn y)),ih];by_cases q:z∈A
   ·rw[Zag q,Zag (Zar _ q)]
   ·rw[Zal q,Zal (λy=>(ZaJ.mp y).elim (λy=>h y.symm) q)]
theorem kd_in(h:z∈A):eO (kd p A) (.inr z)=some p:=by rw[IW,Zag h]
theorem jh(h:z ∉ A):eO (kd p A) (.inr z)=none:=by rw[IW,Zal h]
theorem vI:kd p A++[(.inr z,p)]=kd p (A++[z]):=by unfold kd;rw[ZaG];rfl
theorem kd_len:(kd p A).length=A.length:=Zac _
theorem QQ:(kd p A).filter (λe=>decide (e.1≠.inr z))=kd p (A.filter λx=>decide (x≠z)):=by
 unfold kd;rw[List.filter_map];congr 1
 apply List.filter_congr
 intro x _;show decide ((.inr x:Key)≠.inr z)=decide (x≠z)
 exact decide_eq_decide.mpr ⟨λh y=>h (Zbh _ y),λh y=>h (Zcn y)⟩
theorem U5(h:A.Nodup):((kd p A).map (·.1)).Nodup:=by
 unfold kd;rw[Zbb];exact List.Pairwise.map _ (λa b (hab:a≠b)=>λe=>hab (Zcn e)) h
theorem Kq:∀ A:List Str,oN ((kd p A).map (·.1))=some A
 |[]=>rfl
 |x::A=>by
  show(oN ((kd p A).map (·.1))).map _=_
  rw[Kq A];rfl
theorem mj(hl:A.length<64):Tv (ie (.dk (kd p A))) Q=Q (.lst ((oM A).map .str)):=by
 unfold ie;simp only[Kq,Zag hl];exact tv_some
end
theorem QR{ρ:Rho}{QS:Out->Prop}{a b:Nat}{fs:Fn (List PV)}{f:Sn}(h:Tv (fs ρ) λl=>l.all V3=true/\l.length<=sizeLine/\To (qt a b f l ρ) QS):To (Bw a b fs f ρ) QS:=by
 obtain⟨l,e,h1,h2,o,e2,c,q⟩:=h;exact⟨o,by unfold Bw;rw[e];show(if _ then _ else _)=_;rw[Zag ⟨h1,h2⟩];exact e2,c,q⟩
theorem QT{ρ:Rho}{QS:Out->Prop}{a b:Nat}{f:Sn}{x y:PV}{l:List PV}(h:To (f ((ρ.set a (some (.ow x))).set b (some (.ow y)))) λo=>∃ ρ',o=.nx ρ'/\To (qt a b f l ρ') QS):To (qt a b f (.tup [x,y]::l) ρ) QS:=by
 obtain⟨_,e,_,ρ',rfl,o,e2,c,q⟩:=h;exact⟨o,by unfold qt;show(match f ((ρ.set a (some (.ow x))).set b (some (.ow y))) with|some (.nx ρ')=>qt a b f l ρ'|some (.rt q)=>some (.rt q)|_=>none)=_;rw[e];exact e2,c,q⟩
theorem QV{ρ ρ1:Rho}{QS:Out->Prop}{i j:Nat}{f:Fe PV}{a b:PV}(h:f ρ=some (.ok (.tup [a,b],ρ1)))(q:QS (.nx ((ρ1.set i (some (.sh a))).set j (some (.sh b))))):To (yq f (gT 2 (gsCons (gN i) (gsCons (gN j) gsNil))) ρ) QS:=⟨.nx _,by unfold yq;rw[h];rfl,trivial,q⟩
theorem kI{s u:Sn}{ρ:Rho}{QS:Out->Prop}(ρ':Rho)(h1:To (s ρ) λo=>o=.nx ρ')(h2:To (u ρ') QS):To (bB s u ρ) QS:=by
 rw[to_seq];obtain⟨o,e,c,rfl⟩:=h1;exact⟨_,e,c,h2⟩
theorem Kr{ρ:Rho}{QS:Out->Prop}{p:PV}{i:Nat}{f:Nf}{fk:Fn PV}{l:List (Key×PV)}{put:PV->PV}(h1:ρ[i]?=some (some (.dp p)))(h2:f ρ p=some (.dk l,put))
  (h:Tv (fk ρ) λk=>∃ k',jH k=some k'/\(l.map (·.1)).Nodup/\(eO l k').isSome=true/\QS (.nx (ρ.set i (some (.dp (put (.dk (l.filter λe=>decide (e.1≠k'))))))))):To (ik (zN i f fk) ρ) QS:=by
 obtain⟨k,ek,k',hk,nd,hv,q⟩:=h;refine jb ⟨.nx _,?_,trivial,_,rfl,q⟩;unfold zN g8;rw[h1];show(match f ρ p with|some (.dk l,put)=>_|_=>none)=_
 rw[h2];show gb (fk ρ) _=_
 rw[ek];show(match jH k with|some k=>_|none=>none)=_
 rw[hk];exact Zag ⟨nd,hv⟩
section
variable{W:List (Key×PV)}{z:Str}{p:PV}
theorem QW(hl:z.length<=1000)(h:cH z=false):cP [.dk W,.str z]=some (.ex (.exc "NoName" [])):=by
 show fin (dJ (startR [.dk W,.str z] 0))=_
 unfold dJ;rw[BJ (z:=.exc "NoName" [])]
 ·rfl
 ·refine Qz ?_;walk_at "rd"
  rw[tL z (ws hl),h];walk_at "rd"
  rfl
theorem Ks(hz:cH z=true)(hv:eO W (.inr z)=some p):cP [.dk W,.str z]=some (.ex (.exc "Twice" [])):=by
 show fin (dJ (startR [.dk W,.str z] 0))=_
 unfold dJ;rw[V8 (z:=.exc "Twice" [])]
 ·rfl
 ·walk_at "rd"
  rw[tL z (ws (by have:=xJ hz;omega)),hz]
  walk_at "rd"
  unfold lr;refine Qz ?_;walk_at "rd"
  rw[hv];rfl
end
noncomputable abbrev S53(bp:Str)(inks:List Ink)(w h:Int)(sts:List PV)(A B:List Str):PV:=nR (ux bp inks) w h sts (kd (.int (qj w h:Nat)) A) (kd (.dk []) B)
section
variable{bp:Str}{inks:List Ink}{w h:Int}{sts:List PV}{A B:List Str}{z c:Str}{q k:PV}{way:Int}{m:List PV->Option (Res PV)}
theorem QX(hc:cP [.dk (kd (.int (qj w h:Nat)) A),.str z]=some (.ex (.exc c []))):bW [S53 bp inks w h sts A B,.str z]=some (.ex (.exc c [])):=by
 refine Cj (s:=fP (S53 bp inks w h sts A B)) ?_;unfold fP;refine Cd (p6 (p7 ?_));walk_at "rd"
 rw[f9 lY,hc]
theorem QZ(hc:cP [.dk (kd (.dk []) B),.str z]=some (.ex (.exc c []))):bY [S53 bp inks w h sts A B,.str z]=some (.ex (.exc c [])):=by
 refine Cj (s:=fQ (S53 bp inks w h sts A B)) ?_;unfold fQ;refine Cd (p6 (p7 ?_));walk_at "rd"
 rw[f9 dI,hc]
theorem We(hc:bx [.dk (kd (.dk []) B),.str z]=some (.ex (.exc c []))):bZ [S53 bp inks w h sts A B,.str z]=some (.ex (.exc c [])):=by
 refine Cj (s:=fU (S53 bp inks w h sts A B)) ?_;unfold fU;refine Cd (p6 (p7 ?_));walk_at "rd"
 rw[f9 dI,hc]
theorem Ck{s:Sn}{ρ:Rho}{z:PV}(h:s ρ=some (.ex z)):ym (s ρ)=some (.ex z):=by rw[h];rfl
theorem Wf(hc:bx [.dk (kd (.int (qj w h:Nat)) A),.str z]=some (.ex (.exc c []))):cD [S53 bp inks w h sts A B,.str z]=some (.ex (.exc c [])):=by
 refine Ck (s:=gH) ?_;unfold gH;refine BJ (p6 (p7 ?_));walk_at "rd"
 rw[f9 lY,hc]
theorem Wg(hc:bx [.dk (kd (.dk []) B),.str z]=some (.ex (.exc c []))):b7 [S53 bp inks w h sts A B,.str z]=some (.ex (.exc c [])):=by
 refine Ck (s:=fV) ?_;unfold fV;refine BJ (p6 (p7 ?_));walk_at "rd"
 rw[f9 dI,hc]
theorem Wh(hc:bx [.dk (kd (.dk []) B),.str z]=some (.ex (.exc c []))):b8 [S53 bp inks w h sts A B,.str z]=some (.ex (.exc c [])):=by
 refine Ck (s:=fW) ?_;unfold fW;refine BJ (p6 (p7 ?_));walk_at "rd"
 rw[f9 dI,hc]
theorem Wi(sz:Sz w h)(hz:cH z=true)(hA:z ∉ A)(hl:A.length<=900):bW [S53 bp inks w h sts A B,.str z]=some (.ok (.tup [.non,S53 bp inks w h sts (A++[z]) B])):=by
 have e:=QJ (bench:=ux bp inks) (sts:=sts) (W:=kd (.int (qj w h:Nat)) A) (P:=kd (.dk []) B) sz hz (jh hA) (by rw[kd_len];exact hl)
 rw[tR (jh hA),vI] at e;exact e
theorem Wj(hz:cH z=true)(hB:z ∉ B)(hl:B.length<=900):bY [S53 bp inks w h sts A B,.str z]=some (.ok (.tup [.non,S53 bp inks w h sts A (B++[z])])):=by
 have e:=QM (bench:=ux bp inks) (w:=w) (h:=h) (sts:=sts) (W:=kd (.int (qj w h:Nat)) A) (P:=kd (.dk []) B) hz (jh hB) (by rw[kd_len];exact hl)
 rw[vI] at e;exact e
theorem Wk(hz:cH z=true)(hB:z∈B)(nd:B.Nodup):bZ [S53 bp inks w h sts A B,.str z]=some (.ok (.tup [.non,S53 bp inks w h sts A (B.filter λx=>decide (x≠z))])):=by
 refine Ci (s:=fU (S53 bp inks w h sts A B)) ?_;unfold fU;walk_at "rd"
 rw[f9 dI,tO hz (kd_in hB)];walk_at "rd"
 unfold o7;refine Kr rfl zU ⟨_,rfl,_,rfl,U5 nd,by rw[kd_in hB];rfl,?_⟩
 rw[QQ,xM];exact⟨_,rfl⟩
theorem Wl(hz:cH z=true)(hA:z∈A):cD [S53 bp inks w h sts A B,.str z]=some (.ok (.int (qj w h:Nat))):=by
 refine vD (x:=gH (startR [S53 bp inks w h sts A B,.str z] 0)) ?_;unfold gH;walk_at "rd"
 rw[f9 lY,tO hz (kd_in hA)];walk_at "rd"
 rw[f9 lY];walk_at "rd"
 exact⟨_,kd_in hA,rfl,rfl⟩
theorem Wm(sz:Sz w h)(hi:inks.length<=4)(hz:cH z=true)(hB:z∈B):b7 [S53 bp inks w h sts A B,.str z]=some (.ok (Ma w.toNat h.toNat λc r=>cu inks bp (gh (jP inks.length [] []) (r*w.toNat+c)))):=by
 refine vD (x:=fV (startR [S53 bp inks w h sts A B,.str z] 0)) ?_;unfold fV;walk_at "rd"
 rw[f9 dI,tO hz (kd_in hB)];walk_at "rd"
 rw[f9 xK,f9 Km,f9 xK];unfold ux;walk_at "rd"
 rw[f9 dI];walk_at "rd"
 refine⟨_,kd_in hB,?_⟩;rw[Zac];have e:=IK inks.length (by omega) [] []
 rw[show prD [] []=[] from rfl] at e;rw[e];walk_at "rd"
 rw[Ge sz bp inks _ (by simp) (by omega)]
 exact⟨_,rfl,rfl⟩
theorem Wn(hi:inks.length<=4)(hz:cH z=true)(hB:z∈B):b8 [S53 bp inks w h sts A B,.str z]=some (.ok (fH (List.range inks.length))):=by
 refine vD (x:=fW (startR [S53 bp inks w h sts A B,.str z] 0)) ?_;unfold fW;walk_at "rd"
 rw[f9 dI,tO hz (kd_in hB)];walk_at "rd"
 rw[f9 xK];unfold ux;walk_at "rd"
 rw[Zac];refine⟨by omega,by omega,by rw[bM];exact ws (by omega),?_⟩
 rw[Zax,pD,vH (λi=>PV.int ((i:Nat):Int)) (λi=>PV.int ((i:Nat):Int)) (λ_=>true) _ (λk hk=>?_) (λk hk _=>?_)]
 ·rw[ZbU.mpr λ_ _=>rfl];exact⟨_,rfl,rfl⟩
 ·walk_at "rd"
  rw[f9 dI];walk_at "rd"
  exact⟨_,kd_in hB,rfl,_,rfl,rfl⟩
 ·walk_at "rd"
  rfl
theorem Q0(hl:A.length<64):cQ [S53 bp inks w h sts A B]=some (.ok (.lst ((oM A).map .str))):=by
 refine vC (x:=iH (startR [S53 bp inks w h sts A B] 0)) ?_;unfold iH;walk_at "rd"
 rw[f9 lY];walk_at "rd"
 rw[mj hl]
theorem Q3(hl:B.length<64):cR [S53 bp inks w h sts A B]=some (.ok (.lst ((oM B).map .str))):=by
 refine vC (x:=iI (startR [S53 bp inks w h sts A B] 0)) ?_;unfold iI;walk_at "rd"
 rw[f9 dI];walk_at "rd"
 rw[mj hl]
theorem Cm{A' B':List Str}(hw:(way=0/\m=bW)\/(way=1/\m=bY)\/(way=2/\m=bZ))(hm:m [S53 bp inks w h sts A B,.str z]=some (.ok (.tup [.non,S53 bp inks w h sts A' B']))) :
  dh [S53 bp inks w h sts A B,.int way,.str z]=some (.ok (.tup [.tup [kE false false false false false,.non],S53 bp inks w h sts A' B'])):=by
 have go:∀ {mn:Str}{r:Rho},(jm (ux bp inks) w h sts (kd (.int (qj w h:Nat)) A) (kd (.dk []) B)).lookup mn=none->gF "Shop" mn 0 m (au (mV 2) aR) (some (.dp (S53 bp inks w h sts A B))::some (.sh (.int way))::some (.sh (.str z))::r)=some (.nx (some (.dp (S53 bp inks w h sts A' B'))::some (.sh (.int way))::some (.sh (.str z))::r)):=λ{mn r} hn=>by
  unfold gF wU g8;show(if _ then _ else _)=_
  rw[Zag ⟨rfl,hn⟩];show(match m [S53 bp inks w h sts A B,.str z] with|some (.ok (.tup [.non,p']))=>_|some (.ex z)=>_|_=>none)=_
  rw[hm];rfl
 refine xH (x:=dN [some (.dp (S53 bp inks w h sts A B)),some (.sh (.int way)),some (.sh (.str z)),none,none,none]) ?_;unfold dN;walk_at "rd"
 refine Kl (ρ':=[some (.dp (S53 bp inks w h sts A' B')),some (.sh (.int way)),some (.sh (.str z)),some (.sh .non),some (.sh .non),none]) ?_ ?_
 ·rcases hw with⟨rfl,rfl⟩|⟨rfl,rfl⟩|⟨rfl,rfl⟩
  ·exact Zby (b:=gF "Shop" "block" 0 bW (au (mV 2) aR) _) (by kernel_rfl) (go (by kernel_rfl))
  ·exact Zby (b:=gF "Shop" "sheet" 0 bY (au (mV 2) aR) _) (by kernel_rfl) (go (by kernel_rfl))
  ·exact Zby (b:=gF "Shop" "spoil" 0 bZ (au (mV 2) aR) _) (by kernel_rfl) (go (by kernel_rfl))
 ·walk_at "rd"
  rw[zV];walk_at "rd"
  exact ws (by decide)
theorem Cp(hw:(way=3/\m=cD)\/(way=4/\m=b7)\/(way=5/\m=b8))(hm:m [S53 bp inks w h sts A B,.str z]=some (.ok q)) :
  dh [S53 bp inks w h sts A B,.int way,.str z]=some (.ok (.tup [.tup [kE false false false false false,q],S53 bp inks w h sts A B])):=by
 have go:∀ {mn:Str}{v3 v5:Option Sl},(jm (ux bp inks) w h sts (kd (.int (qj w h:Nat)) A) (kd (.dk []) B)).lookup mn=none->jM "Shop" mn 0 4 m (au (mV 2) aR) [some (.dp (S53 bp inks w h sts A B)),some (.sh (.int way)),some (.sh (.str z)),v3,some (.sh .non),v5]=some (.nx [some (.dp (S53 bp inks w h sts A B)),some (.sh (.int way)),some (.sh (.str z)),v3,some (.sh q),v5]):=λ{mn v3 v5} hn=>by
  unfold jM g8;show(if _ then _ else _)=_
  rw[Zag ⟨rfl,hn⟩];show(match m [S53 bp inks w h sts A B,.str z] with|some (.ok q)=>_|some (.ex (.exc z []))=>_|_=>none)=_
  rw[hm];rfl
 refine xH (x:=dN [some (.dp (S53 bp inks w h sts A B)),some (.sh (.int way)),some (.sh (.str z)),none,none,none]) ?_;unfold dN;walk_at "rd"
 refine Kl (ρ':=[some (.dp (S53 bp inks w h sts A B)),some (.sh (.int way)),some (.sh (.str z)),some (.sh .non),some (.sh q),none]) ?_ ?_
 ·rcases hw with⟨rfl,rfl⟩|⟨rfl,rfl⟩|⟨rfl,rfl⟩
  ·exact Zby (b:=jM "Shop" "wood" 0 4 cD (au (mV 2) aR) _) (by kernel_rfl) (go (by kernel_rfl))
  ·exact Zby (b:=jM "Shop" "shows" 0 4 b7 (au (mV 2) aR) _) (by kernel_rfl) (go (by kernel_rfl))
  ·exact Zby (b:=jM "Shop" "lacks" 0 4 b8 (au (mV 2) aR) _) (by kernel_rfl) (go (by kernel_rfl))
 ·walk_at "rd"
  rw[zV];walk_at "rd"
  exact ws (by decide)
theorem tU(hw:(way=0/\m=bW)\/(way=1/\m=bY)\/(way=2/\m=bZ)\/(way=3/\m=cD)\/(way=4/\m=b7)\/(way=5/\m=b8))(hm:m [S53 bp inks w h sts A B,.str z]=some (.ex (.exc c [])))(hs:gr c=some true)(hk:fD [.exc c []]=some (.ok k)) :
  dh [S53 bp inks w h sts A B,.int way,.str z]=some (.ok (.tup [.tup [k,.non],S53 bp inks w h sts A B])):=by
 have g1:∀ {mn:Str},(jm (ux bp inks) w h sts (kd (.int (qj w h:Nat)) A) (kd (.dk []) B)).lookup mn=none->gF "Shop" mn 0 m (au (mV 2) aR) (some (.dp (S53 bp inks w h sts A B))::some (.sh (.int way))::some (.sh (.str z))::[some (.sh .non),some (.sh .non),none])=some (.ex (.exc c [])):=λ{mn} hn=>by
  unfold gF wU g8;show(if _ then _ else _)=_
  rw[Zag ⟨rfl,hn⟩];show(match m [S53 bp inks w h sts A B,.str z] with|some (.ok (.tup [.non,p']))=>_|some (.ex z)=>_|_=>none)=_
  rw[hm]
 have g2:∀ {mn:Str},(jm (ux bp inks) w h sts (kd (.int (qj w h:Nat)) A) (kd (.dk []) B)).lookup mn=none->jM "Shop" mn 0 4 m (au (mV 2) aR) (some (.dp (S53 bp inks w h sts A B))::some (.sh (.int way))::some (.sh (.str z))::[some (.sh .non),some (.sh .non),none])=some (.ex (.exc c [])):=λ{mn} hn=>by
  unfold jM g8;show(if _ then _ else _)=_
  rw[Zag ⟨rfl,hn⟩];show(match m [S53 bp inks w h sts A B,.str z] with|some (.ok q)=>_|some (.ex (.exc z []))=>_|_=>none)=_
  rw[hm]
 refine xH (x:=dN [some (.dp (S53 bp inks w h sts A B)),some (.sh (.int way)),some (.sh (.str z)),none,none,none]) ?_;unfold dN;walk_at "rd"
 refine TJ (z:=.exc c []) ?_ ?_
 ·rcases hw with⟨rfl,rfl⟩|⟨rfl,rfl⟩|⟨rfl,rfl⟩|⟨rfl,rfl⟩|⟨rfl,rfl⟩|⟨rfl,rfl⟩
  ·exact Zby (b:=gF "Shop" "block" 0 bW (au (mV 2) aR) _) (by kernel_rfl) (g1 (by kernel_rfl))
  ·exact Zby (b:=gF "Shop" "sheet" 0 bY (au (mV 2) aR) _) (by kernel_rfl) (g1 (by kernel_rfl))
  ·exact Zby (b:=gF "Shop" "spoil" 0 bZ (au (mV 2) aR) _) (by kernel_rfl) (g1 (by kernel_rfl))
  ·exact Zby (b:=jM "Shop" "wood" 0 4 cD (au (mV 2) aR) _) (by kernel_rfl) (g2 (by kernel_rfl))
  ·exact Zby (b:=jM "Shop" "shows" 0 4 b7 (au (mV 2) aR) _) (by kernel_rfl) (g2 (by kernel_rfl))
  ·exact Zby (b:=jM "Shop" "lacks" 0 4 b8 (au (mV 2) aR) _) (by kernel_rfl) (g2 (by kernel_rfl))
 ·rw[V9 hs];unfold qI;walk_at "rd"
  rw[hk];walk_at "rd"
  exact ws (by decide)
noncomputable abbrev T53(A B:List Str):PV:=.tup [.dk (kd (.bl true) A),.dk (kd (.bl true) B)]
theorem Gf{X:List Str}{good:Bool}(hw:(way=0/\X=A)\/(way=1/\X=B)):fG [.int way,.str z,.bl good,T53 A B]=some (.ok (.str (if good=true then(if z∈X then "Twice" else "") else "NoName"))):=by
 refine dO (x:=gK (startR [.int way,.str z,.bl good,T53 A B] 0)) (oW λQS hQ=>?_);unfold gK;cases good with
 |false=>
  rcases hw with⟨rfl,rfl⟩|⟨rfl,rfl⟩
  all_goals
   walk_at "rd"
   rw[Zag (by decide)]
   unfold qJ;walk_at "rd"
   exact hQ _ rfl
 |true=>
  rw[Zag rfl] at hQ;rcases hw with⟨rfl,rfl⟩|⟨rfl,rfl⟩
  all_goals
   walk_at "rd"
   rw[Zag (by decide)]
   unfold lC;walk_at "rd"
   rw[Zag (by decide)]
   by_cases hx:z∈X
   ·rw[kd_in hx,Zag (by decide)]
    unfold qK;walk_at "rd"
    exact hQ _ (by rw[Zag hx];rfl)
   ·rw[jh hx,Zal (by decide)]
    unfold lz;walk_at "rd"
    rw[Zal (by decide)]
    refine⟨ws (by decide),false,by kernel_rfl,?_⟩
    rw[Zal (by decide)]
    unfold lw;walk_at "rd"
    exact hQ _ (by rw[Zal hx];rfl)
theorem tV{X:List Str}{good:Bool}(hw:(way=3/\X=A)\/((way=2\/way=4\/way=5)/\X=B)):fG [.int way,.str z,.bl good,T53 A B]=some (.ok (.str (if z∈X then "" else "NoName"))):=by
 refine dO (x:=gK (startR [.int way,.str z,.bl good,T53 A B] 0)) (oW λQS hQ=>?_);unfold gK;have w2:¬way<2:=by omega
 walk_at "rd"
 rw[Zal w2];unfold lC;walk_at "rd"
 rw[Zal w2];have l3:∀ {ρ:Rho}{QC:Out->Prop},QC (.rt (.str "NoName"))->To (qL ρ) QC:=λh=>⟨_,rfl,trivial,h⟩;have l4:∀ {ρ:Rho},QS (.rt (.str ""))->To (lw ρ) QS:=λh=>⟨_,rfl,trivial,h⟩;unfold lz;walk_at "rd"
 rcases hw with⟨rfl,rfl⟩|⟨hw,rfl⟩
 ·rw[Zag rfl];by_cases hx:z∈X
  ·rw[kd_in hx,Zal (by decide)]
   exact⟨ws (by decide),false,by kernel_rfl,l4 (hQ _ (by rw[Zag hx];rfl))⟩
  ·rw[jh hx,Zag (by decide)]
   exact l3 (hQ _ (by rw[Zal hx];rfl))
 ·rw[Zal (by omega)]
  refine⟨ws (by decide),true,by rcases hw with rfl|rfl|rfl<;>kernel_rfl,?_⟩
  rw[Zag rfl];by_cases hx:z∈X
  ·rw[kd_in hx,Zal (by decide)]
   exact l4 (hQ _ (by rw[Zag hx];rfl))
  ·rw[jh hx,Zag (by decide)]
   exact l3 (hQ _ (by rw[Zal hx];rfl))
theorem Cr(n:Nat)(l:List Str):eqF (n+1) (.lst (l.map .str)) (.lst (l.map .str))=some true:=pC λx hx=>by obtain⟨z,_,rfl⟩:=ZaN.mp hx;exact FQ n z
theorem TX(hA:A.length<64)(hB:B.length<64):gw [S53 bp inks w h sts A B,T53 A B]=some (.ok (.bl true)):=by
 refine dO (x:=iM (startR [S53 bp inks w h sts A B,T53 A B] 2)) (oW λQS hQ=>?_);have eb:=Q0 (bp:=bp) (inks:=inks) (w:=w) (h:=h) (sts:=sts) (B:=B) hA;have es:=Q3 (bp:=bp) (inks:=inks) (w:=w) (h:=h) (sts:=sts) (A:=A) hB;unfold iM;rw[to_seq];refine QR ?_;walk_at "rd"
 have still:∀ l:List Str,(l.map PV.str).all PV.still=true:=λl=>Zaq.mpr λx hx=>by obtain⟨z,_,rfl⟩:=ZaN.mp hx;rfl
 have txs:∀ l:List Str,(l.map PV.str).all Ly=true:=λl=>Zaq.mpr λx hx=>by obtain⟨z,_,rfl⟩:=ZaN.mp hx;rfl
 refine⟨_,_,rfl,rfl,by kernel_rfl,_,eb,_,rfl,still _,?_⟩
 rw[mj hA];refine⟨_,rfl,still _,ws (by decide),_,_,rfl,rfl,by kernel_rfl,_,es,_,rfl,still _,?_⟩
 rw[mj hB];refine⟨_,rfl,still _,ws (by decide),?_,ws (by decide),?_⟩
 ·show((((oM A).map PV.str).all Ly&&((oM A).map PV.str).all Ly)&&((((oM B).map PV.str).all Ly&&((oM B).map PV.str).all Ly)&&true))=true
  rw[txs,txs];rfl
 have st:∀ {l:List Str}{QC:Out->Prop},l.length<=900->(∀ o,(∃ x y,o=.nx [some (.sh (S53 bp inks w h sts A B)),some (.sh (T53 A B)),x,y])->QC o)->To (jf [some (.sh (S53 bp inks w h sts A B)),some (.sh (T53 A B)),some (.ow (.lst (l.map .str))),some (.ow (.lst (l.map .str)))]) QC:=λ{l QC} hl hC=>by
  unfold jf;walk_at "rd"
  refine⟨true,Cr 31 l,?_⟩;rw[Zal (by decide)]
  unfold nQ;walk_at "rd"
  rw[Zac];exact⟨bG (by omega),hC _ ⟨_,_,rfl⟩⟩
 have sl:∀ {l:List Str},l.length<64->(oM l).length<=900:=λ{l} h=>by rw[(um l).length_eq];omega
 refine QT (st (sl hA) ?_);rintro _ ⟨x,y,rfl⟩;refine⟨_,rfl,QT (st (sl hB) ?_)⟩;rintro _ ⟨x,y,rfl⟩;refine⟨_,rfl,.nx _,rfl,trivial,?_⟩;show To (jg _) QS
 unfold jg;walk_at "rd"
 refine⟨_,_,rfl,rfl,by kernel_rfl,_,eb,?_⟩
 show Tv _ _
 rw[mj hA];refine⟨true,Cr 31 _,?_⟩;rw[Zag rfl];refine⟨_,_,rfl,rfl,by kernel_rfl,_,es,?_⟩
 show Tv _ _
 rw[mj hB];exact⟨true,Cr 31 _,hQ _ rfl⟩
def N53(p:Int)(c:Nat):Str:=Txt.slice (Str.ofString "aaaaaa") none (some p)++⟨#[c]⟩++Txt.slice (Str.ofString "aaaaa") (some p) none
def okN(z:Str):Bool:=cH z&&!cH (z++z)&&!cH (upS z)&&!cH (z++Str.ofString " ")&&!cH (Txt.slice z none (some 2)++Str.ofString "1")&&decide (z.length=6)&&decide ((upS z).length=6)&&decide ((Txt.slice z none (some 2)).length=2)
def TY:List Nat:=[107,98,116,99,120,100]
theorem T3:∀ (p:Fin 6) (i:Fin 6),okN (N53 p.val (TY.getD i.val 0))=true:=by decide +kernel
theorem Q4(ns:List Int):∃ c:Int,fB [.lst (ns.map .int),.int 0]=some (.ok (.int c)):=by
 obtain⟨p,e,c,rfl⟩:=Qw (x:=ir (startR [.lst (ns.map .int),.int 0] 0)) (P:=λp=>∃ c,p=.int c) (oW λQS hQ=>by
  unfold ir;walk_at "rd"
  cases ns with
  |nil=>
   rw[Zal (by decide)]
   exact⟨.rt (.int 0),rfl,trivial,hQ _ ⟨_,rfl,0,rfl⟩⟩
  |cons c ns=>
   rw[Zag (by rw[Zac,ZaB];omega)]
   unfold lQ;walk_at "rd"
   exact hQ _ ⟨_,rfl,c,rfl⟩)
 exact⟨c,e⟩
end
section
variable{ns:List Int}{bp:Str}{inks:List Ink}{w h:Int}{sts:List PV}{A B:List Str}{z:Str}{QS:Out->Prop}{nms:List PV}{v7 v8 v9 v10 v11 v12 v13 v14:Option Sl}
noncomputable abbrev R53(ns:List Int)(bp:Str)(inks:List Ink)(w h:Int)(sts nms:List PV)(A B C D:List Str)(r:Rho):Rho:=some (.sh (.lst (ns.map .int)))::some (.sh (ux bp inks))::some (.sh (.tup [.int w,.int h]))::some (.dp (S53 bp inks w h sts A B))::some (.dp (S53 bp inks w h sts [] []))::some (.sh (.lst nms))::some (.dp (T53 C D))::r
theorem XX(hA:A.length<64)(hB:B.length<64)(hQ:QS (.nx (R53 ns bp inks w h sts nms A B A B [v7,v8,v9,v10,v11,v12,v13,v14]))):To (vG (R53 ns bp inks w h sts nms A B A B [v7,v8,v9,v10,v11,v12,v13,v14])) QS:=by
 unfold vG;rw[to_if,tv_fzT];refine⟨_,rfl,?_⟩;rw[tv_fzT];refine⟨_,rfl,?_⟩;show Tv (u5 (m1 cV (bR gw (au (mV 3) (au (mV 6) aR)))) [_,_,_,some (.sh (S53 bp inks w h sts A B)),_,_,some (.sh (T53 A B)),v7,v8,v9,v10,v11,v12,v13,v14]) _
 walk_at "rd"
 rw[TX hA hB];walk_at "rd"
 exact hQ
def D53(bp:Str)(inks:List Ink)(w h:Int)(sts:List PV)(A B:List Str)(z:Str)(good:Bool)(way:Int):Prop:=
 ∃ word k found A' B',fG [.int way,.str z,.bl good,T53 A B]=some (.ok (.str word))/\dh [S53 bp inks w h sts A B,.int way,.str z]=some (.ok (.tup [.tup [k,found],S53 bp inks w h sts A' B']))/\gG [.str word]=some (.ok k)/\(∃ a b c d e,k=kE a b c d e) /\
   ((word≠""/\A'=A/\B'=B)\/(word=""/\((way=0/\z ∉ A/\good=true/\A'=A++[z]/\B'=B)\/(way=1/\z ∉ B/\good=true/\A'=A/\B'=B++[z])\/(way=2/\z∈B/\A'=A/\B'=B.filter λx=>decide (x≠z))\/(A'=A/\B'=B/\((way=3/\found=.int (qj w h:Nat))\/(way=4/\found=Ma w.toNat h.toNat λc r=>cu inks bp (gh (jP inks.length [] []) (r*w.toNat+c)))\/(way=5/\found=fH (List.range inks.length)))))))
theorem X3(sz:Sz w h)(hi:inks.length<=4)(nA:A.Nodup)(nB:B.Nodup)(hA:A.length<=62)(hB:B.length<=62)(wA:∀ x∈A,cH x=true)(wB:∀ x∈B,cH x=true){good:Bool}(hg:cH z=good)(hl:z.length<=1000){way:Int}(w0:0<=way)(w5:way<6):D53 bp inks w h sts A B z good way:=by
 have kk:∀ a b c d e,∃ a' b' c' d' e',kE a b c d e=kE a' b' c' d' e':=λa b c d e=>⟨a,b,c,d,e,rfl⟩;have s0:gr "NoName"=some true:=by decide +kernel
 have s1:gr "Twice"=some true:=by decide +kernel
 obtain rfl|rfl|hw:way=0\/way=1\/way=2\/way=3\/way=4\/way=5:=by omega
 ·have t:=Gf (way:=0) (A:=A) (B:=B) (z:=z) (good:=good) (.inl ⟨rfl,rfl⟩);cases good with
  |false=>
   rw[Zal (by decide)] at t
   exact⟨_,_,_,A,B,t,tU (.inl ⟨rfl,rfl⟩) (QX (QW hl hg)) s0 rC,uw,kk _ _ _ _ _,.inl ⟨by decide +kernel,rfl,rfl⟩⟩
  |true=>
   rw[Zag rfl] at t;by_cases hx:z∈A
   ·rw[Zag hx] at t;exact⟨_,_,_,A,B,t,tU (.inl ⟨rfl,rfl⟩) (QX (Ks hg (kd_in hx))) s1 uW,xN,kk _ _ _ _ _,.inl ⟨by decide +kernel,rfl,rfl⟩⟩
   ·rw[Zal hx] at t;exact⟨_,_,_,_,_,t,Cm (.inl ⟨rfl,rfl⟩) (Wi sz hg hx (by omega)),lZ,kk _ _ _ _ _,.inr ⟨rfl,.inl ⟨rfl,hx,rfl,rfl,rfl⟩⟩⟩
 ·have t:=Gf (way:=1) (A:=A) (B:=B) (z:=z) (good:=good) (.inr ⟨rfl,rfl⟩);cases good with
  |false=>
   rw[Zal (by decide)] at t
   exact⟨_,_,_,A,B,t,tU (.inr (.inl ⟨rfl,rfl⟩)) (QZ (QW hl hg)) s0 rC,uw,kk _ _ _ _ _,.inl ⟨by decide +kernel,rfl,rfl⟩⟩
  |true=>
   rw[Zag rfl] at t;by_cases hx:z∈B
   ·rw[Zag hx] at t;exact⟨_,_,_,A,B,t,tU (.inr (.inl ⟨rfl,rfl⟩)) (QZ (Ks hg (kd_in hx))) s1 uW,xN,kk _ _ _ _ _,.inl ⟨by decide +kernel,rfl,rfl⟩⟩
   ·rw[Zal hx] at t;exact⟨_,_,_,_,_,t,Cm (.inr (.inl ⟨rfl,rfl⟩)) (Wj hg hx (by omega)),lZ,kk _ _ _ _ _,.inr ⟨rfl,.inr (.inl ⟨rfl,hx,rfl,rfl,rfl⟩)⟩⟩
 ·have no:∀ {m:List PV->Option (Res PV)}{X:List Str},z ∉ X->(way=2/\m=bZ)\/(way=3/\m=cD)\/(way=4/\m=b7)\/(way=5/\m=b8)->m [S53 bp inks w h sts A B,.str z]=some (.ex (.exc "NoName" []))->fG [.int way,.str z,.bl good,T53 A B]=some (.ok (.str (if z∈X then "" else "NoName")))->D53 bp inks w h sts A B z good way:=λ{m X} hx hw hm t=>by
   rw[Zal hx] at t;exact⟨_,_,_,A,B,t,tU (.inr (.inr hw)) hm s0 rC,uw,kk _ _ _ _ _,.inl ⟨by decide +kernel,rfl,rfl⟩⟩
  have wz:∀ {X:List Str},(X=A\/X=B)->z∈X->cH z=true:=λhX q=>by
   rcases hX with rfl|rfl
   ·exact wA z q
   ·exact wB z q
  rcases hw with rfl|rfl|rfl|rfl
  ·have t:=tV (way:=2) (A:=A) (B:=B) (z:=z) (good:=good) (.inr ⟨.inl rfl,rfl⟩);by_cases hx:z∈B
   ·rw[Zag hx] at t;exact⟨_,_,_,_,_,t,Cm (.inr (.inr ⟨rfl,rfl⟩)) (Wk (wB z hx) hx nB),lZ,kk _ _ _ _ _,.inr ⟨rfl,.inr (.inr (.inl ⟨rfl,hx,rfl,rfl⟩))⟩⟩
   ·exact no hx (.inl ⟨rfl,rfl⟩) (We (tQ hl (.inr (jh hx)))) t
  ·have t:=tV (way:=3) (A:=A) (B:=B) (z:=z) (good:=good) (.inl ⟨rfl,rfl⟩);by_cases hx:z∈A
   ·rw[Zag hx] at t;exact⟨_,_,_,A,B,t,Cp (.inl ⟨rfl,rfl⟩) (Wl (wA z hx) hx),lZ,kk _ _ _ _ _,.inr ⟨rfl,.inr (.inr (.inr ⟨rfl,rfl,.inl ⟨rfl,rfl⟩⟩))⟩⟩
   ·exact no hx (.inr (.inl ⟨rfl,rfl⟩)) (Wf (tQ hl (.inr (jh hx)))) t
  ·have t:=tV (way:=4) (A:=A) (B:=B) (z:=z) (good:=good) (.inr ⟨.inr (.inl rfl),rfl⟩);by_cases hx:z∈B
   ·rw[Zag hx] at t;exact⟨_,_,_,A,B,t,Cp (.inr (.inl ⟨rfl,rfl⟩)) (Wm sz hi (wB z hx) hx),lZ,kk _ _ _ _ _,.inr ⟨rfl,.inr (.inr (.inr ⟨rfl,rfl,.inr (.inl ⟨rfl,rfl⟩)⟩))⟩⟩
   ·exact no hx (.inr (.inr (.inl ⟨rfl,rfl⟩))) (Wg (tQ hl (.inr (jh hx)))) t
  ·have t:=tV (way:=5) (A:=A) (B:=B) (z:=z) (good:=good) (.inr ⟨.inr (.inr rfl),rfl⟩);by_cases hx:z∈B
   ·rw[Zag hx] at t;exact⟨_,_,_,A,B,t,Cp (.inr (.inr ⟨rfl,rfl⟩)) (Wn hi (wB z hx) hx),lZ,kk _ _ _ _ _,.inr ⟨rfl,.inr (.inr (.inr ⟨rfl,rfl,.inr (.inr ⟨rfl,rfl⟩)⟩))⟩⟩
   ·exact no hx (.inr (.inr (.inr ⟨rfl,rfl⟩))) (Wh (tQ hl (.inr (jh hx)))) t
theorem Q5{Q:PV->Prop}:Tv (cA (ux bp inks) (.int 1)) Q=Q (.lst (inks.map eE)):=by unfold ux;walk_at "rd"
theorem zeros(n:Nat):PV.lst (List.replicate n [PV.int 0]).flatten=fH (jP n [] []):=by
 rw[TV (α:=Unit)];unfold fH jP;rw[Zbb];rfl
structure I53(A B:List Str)(i:Nat):Prop where
 nA:A.Nodup
 nB:B.Nodup
 wA:∀ x∈A,cH x=true
 wB:∀ x∈B,cH x=true
 lA:A.length<=i
 lB:B.length<=i
theorem Ku{α:Type}{l:List α}{x:α}(h:l.Nodup)(hx:x ∉ l):(l++[x]).Nodup:=List.nodup_append.mpr ⟨h,by simp,λa ha b hb=>by rw[List.mem_singleton.mp hb];exact λe=>hx (e▸ha)⟩
theorem Gg{P:Str->Prop}{l:List Str}{x:Str}(h:∀ y∈l,P y)(hx:P x):∀ y∈l++[x],P y:=λy hy=>(Zcf.mp hy).elim (h y) λq=>by rw[List.mem_singleton.mp q];exact hx
theorem Q6(sz:Sz w h)(hi:inks.length<=4)(hs:∀ k∈inks,k.small){i:Nat}(I:I53 A B i)(i62:i<=62){c:Int}{good:Bool}(hg:cH z=good)(hl:z.length<=1000)
  (hQ:∀ A' B' r,I53 A' B' (i+1)->(∃ v7 v8 v9 v10 v11 v12 v13 v14,r=[v7,v8,v9,v10,v11,v12,v13,v14])->QS (.nx (R53 ns bp inks w h sts nms A' B' A' B' r))) :
  To (xu (R53 ns bp inks w h sts nms A B A B [some (.sh (.int c)),some (.sh (.str z)),some (.sh (.bl good)),v10,v11,v12,v13,v14])) QS:=by
 obtain⟨word,k,found,A',B',t,d,du,⟨ka,kb,kc,kd',ke,rfl⟩,hc⟩:=X3 (bp:=bp) (sts:=sts) sz hi I.nA I.nB (ZaE I.lA i62) (ZaE I.lB i62) I.wA I.wB hg hl (way:=c%6) (by omega) (by omega)
 unfold xu;refine kI (R53 ns bp inks w h sts nms A B A B [some (.sh (.int c)),some (.sh (.str z)),some (.sh (.bl good)),some (.sh (.int (c%6))),v11,v12,v13,v14]) (by walk_at "rd";decide) ?_
 refine kI (R53 ns bp inks w h sts nms A' B' A B [some (.sh (.int c)),some (.sh (.str z)),some (.sh (.bl good)),some (.sh (.int (c%6))),some (.sh (kE ka kb kc kd' ke)),some (.sh found),v13,v14]) (QV (by
  unfold wW g8;show bnd (some (.ok [PV.int (c%6),.str z])) (λxs=>match dh (S53 bp inks w h sts A B::xs) with|some (.ok (.tup [q,p']))=>_|_=>none)=_
  show(match dh [S53 bp inks w h sts A B,.int (c%6),.str z] with|some (.ok (.tup [q,p']))=>_|_=>none)=_
  rw[d]) rfl) ?_
 refine kI (R53 ns bp inks w h sts nms A' B' A B [some (.sh (.int c)),some (.sh (.str z)),some (.sh (.bl good)),some (.sh (.int (c%6))),some (.sh (kE ka kb kc kd' ke)),some (.sh found),some (.sh (.str word)),v14]) (by
  walk_at "rd"
  rw[t];exact⟨_,rfl,rfl,rfl⟩) ?_
 refine kI (R53 ns bp inks w h sts nms A' B' A B [some (.sh (.int c)),some (.sh (.str z)),some (.sh (.bl good)),some (.sh (.int (c%6))),some (.sh (kE ka kb kc kd' ke)),some (.sh found),some (.sh (.str word)),v14]) (by
  walk_at "rd"
  rw[du];walk_at "rd"
  exact⟨true,pC (λx hx=>by simp only[ZaJ,ZbL,or_false] at hx;rcases hx with rfl|rfl|rfl|rfl|rfl<;>exact(eqF_bl _ _ _).trans (by rw[ZaT rfl])),by rw[Zal (by decide)];trivial⟩) ?_
 have w0:0<=c%6:=by omega
 have w5:c%6<6:=by omega
 generalize c%6=way at *
 have l8:∀ {A' B':List Str}{v11 v12 v13 v14:Option Sl},I53 A' B' (i+1)->To (vG (R53 ns bp inks w h sts nms A' B' A' B' [some (.sh (.int c)),some (.sh (.str z)),some (.sh (.bl good)),some (.sh (.int way)),v11,v12,v13,v14])) QS:=λ{A' B' v11 v12 v13 v14} J=>XX (by have:=J.lA;omega) (by have:=J.lB;omega) (hQ _ _ _ J ⟨_,_,_,_,_,_,_,_,rfl⟩)
 have I':I53 A B (i+1):=⟨I.nA,I.nB,I.wA,I.wB,by have:=I.lA;omega,by have:=I.lB;omega⟩
 have l9:∀ {A' B':List Str}{v11 v12 v14:Option Sl},I53 A' B' (i+1)->¬(word=Str.ofString ""/\2<way)->To (tG (R53 ns bp inks w h sts nms A' B' A' B' [some (.sh (.int c)),some (.sh (.str z)),some (.sh (.bl good)),some (.sh (.int way)),v11,v12,some (.sh (.str word)),v14])) QS:=λ{A' B' v11 v12 v14} J hn=>by
  unfold tG;walk_at "rd"
  by_cases h1:word=Str.ofString ""
  ·rw[Zag h1,Zal (λq=>hn ⟨h1,by omega⟩)];exact l8 J
  ·rw[Zal h1];exact l8 J
 have l10:∀ {A' B' C D:List Str}{v11 v12 v14:Option Sl},¬(word=Str.ofString ""/\way=2)->To (tG (R53 ns bp inks w h sts nms A' B' C D [some (.sh (.int c)),some (.sh (.str z)),some (.sh (.bl good)),some (.sh (.int way)),v11,v12,some (.sh (.str word)),v14])) QS->To (tH (R53 ns bp inks w h sts nms A' B' C D [some (.sh (.int c)),some (.sh (.str z)),some (.sh (.bl good)),some (.sh (.int way)),v11,v12,some (.sh (.str word)),v14])) QS:=λ{A' B' C D v11 v12 v14} hn h9=>by
  unfold tH;walk_at "rd"
  by_cases h1:word=Str.ofString ""
  ·rw[Zag h1,Zal (λq=>hn ⟨h1,q⟩)];exact h9
  ·rw[Zal h1];exact h9
 unfold FN;walk_at "rd"
 rcases hc with⟨h1,rfl,rfl⟩|⟨h1,hc⟩
 ·rw[Zal h1];exact l10 (λq=>h1 q.1) (l9 I' λq=>h1 q.1)
 rw[Zag h1];rcases hc with⟨rfl,hx,rfl,rfl,rfl⟩|⟨rfl,hx,rfl,rfl,rfl⟩|⟨rfl,hx,rfl,rfl⟩|⟨rfl,rfl,hc⟩
 ·rw[Zag (by decide)]
  unfold BW;refine Ce (l:=kd (.bl true) A) (put:=λr'=>.tup [r',.dk (kd (.bl true) B')]) rfl (by kernel_rfl) (by rw[kd_len];exact bG (by have:=I.lA;omega)) ⟨_,rfl,rfl,_,rfl,_,rfl,?_⟩
  rw[tR (jh hx),vI];exact l10 (λq=>absurd q.2 (by decide)) (l9 ⟨Ku I.nA hx,I.nB,Gg I.wA hg,I.wB,by rw[Zau];have:=I.lA;simp;omega,by have:=I.lB;omega⟩ λq=>absurd q.2 (by decide))
 ·rw[Zag (by decide)]
  unfold BW;refine Ce (l:=kd (.bl true) B) (put:=λr'=>.tup [.dk (kd (.bl true) A'),r']) rfl (by kernel_rfl) (by rw[kd_len];exact bG (by have:=I.lB;omega)) ⟨_,rfl,rfl,_,rfl,_,rfl,?_⟩
  rw[tR (jh hx),vI];exact l10 (λq=>absurd q.2 (by decide)) (l9 ⟨I.nA,Ku I.nB hx,I.wA,Gg I.wB hg,by have:=I.lA;omega,by rw[Zau];have:=I.lB;simp;omega⟩ λq=>absurd q.2 (by decide))
 ·rw[Zal (by decide)]
  unfold tH;walk_at "rd"
  rw[Zag h1];unfold Kc;refine Kr (l:=kd (.bl true) B) (put:=λr'=>.tup [.dk (kd (.bl true) A'),r']) rfl (by kernel_rfl) ⟨_,rfl,_,rfl,U5 I.nB,by rw[kd_in hx];rfl,?_⟩
  rw[QQ];exact l9 ⟨I.nA,I.nB.filter _,I.wA,λx hx=>I.wB x (Zbt.mp hx).1,by have:=I.lA;omega,ZaE (List.length_filter_le _ _) (by have:=I.lB;omega)⟩ λq=>absurd q.2 (by decide)
 ·have w3:3<=way:=by omega
  rw[Zal (by omega)]
  refine l10 (λq=>by omega) ?_
  unfold tG;walk_at "rd"
  rw[Zag h1,Zag (by omega)]
  unfold Kd;walk_at "rd"
  rw[QK sz];walk_at "rd"
  refine⟨ws (by decide),?_⟩
  rw[Q5];walk_at "rd"
  rw[Zac];have ep:fC [ux bp inks,.tup [.int w,.int h],fH (jP inks.length [] [])]=_:=IV sz hs (jP inks.length [] []) (by unfold jP;simp) hi
  refine⟨by omega,by omega,by rw[Zax];exact ws (by omega),?_⟩
  rw[Zax,zeros,ep,tv_some,Q5];walk_at "rd"
  rw[Zac,Zax];refine⟨by omega,by omega,ws (by decide),?_⟩
  rcases hc with⟨rfl,rfl⟩|⟨rfl,rfl⟩|⟨rfl,rfl⟩
  ·exact⟨_,rfl,true,FT _ _,l8 I'⟩
  ·exact⟨_,rfl,true,QL 30 _ _ _,l8 I'⟩
  ·exact⟨_,rfl,true,pC (λx hx=>by obtain⟨k,_,rfl⟩:=ZaN.mp hx;exact FT _ _),l8 I'⟩
theorem Wo(sz:Sz w h)(hi:inks.length<=4)(hs:∀ k∈inks,k.small){i:Nat}(I:I53 A B i)(i62:i<=62){c:Int}(nl:nms.length=6)(hn:∀ p∈nms,∃ z,p=.str z/\okN z=true)
  (hQ:∀ A' B' r,I53 A' B' (i+1)->(∃ v7 v8 v9 v10 v11 v12 v13 v14,r=[v7,v8,v9,v10,v11,v12,v13,v14])->QS (.nx (R53 ns bp inks w h sts nms A' B' A' B' r))) :
  To (xx (R53 ns bp inks w h sts nms A B A B [some (.sh (.int c)),v8,v9,v10,v11,v12,v13,v14])) QS:=by
 obtain⟨p,ep,z,rfl,hz⟩:=Ko (L:=nms) (i:=c/6%6) (Q:=λp=>∃ z,p=.str z/\okN z=true) (by omega) (by rw[nl];omega) hn
 unfold okN at hz;simp only[Za6,Bool.not_eq_true',decide_eq_true_eq] at hz;obtain⟨⟨⟨⟨⟨⟨⟨z1,z2⟩,z3⟩,z4⟩,z5⟩,z6⟩,z7⟩,z8⟩:=hz;unfold xx;refine kI (R53 ns bp inks w h sts nms A B A B [some (.sh (.int c)),some (.sh (.str z)),v9,v10,v11,v12,v13,v14]) (by
  walk_at "rd"
  exact⟨by decide,by decide,by decide,_,ep,rfl⟩) ?_
 refine kI (R53 ns bp inks w h sts nms A B A B [some (.sh (.int c)),some (.sh (.str z)),some (.sh (.bl (!decide (c/36%7=3)))),v10,v11,v12,v13,v14]) (by
  walk_at "rd"
  decide) ?_
 by_cases hg:c/36%7=3
 ·rw[show(!decide (c/36%7=3))=false by rw[ZaT hg];rfl]
  obtain⟨z',hz',hl,e⟩:∃ z',cH z'=false/\z'.length<=1000/\To (BV (R53 ns bp inks w h sts nms A B A B [some (.sh (.int c)),some (.sh (.str z)),some (.sh (.bl false)),v10,v11,v12,v13,v14])) λo=>o=.nx (R53 ns bp inks w h sts nms A B A B [some (.sh (.int c)),some (.sh (.str z')),some (.sh (.bl false)),v10,v11,v12,v13,v14]):=by
   have la:∀ a b:Str,(a++b).length=a.length+b.length:=λa b=>ZbB;have l1:(Str.ofString " ").length=1:=by decide +kernel
   have l2:(Str.ofString "1").length=1:=by decide +kernel
   obtain⟨p,ep,z',rfl,hz',hl⟩:=Ko (L:=[PV.str (Str.ofString ""),.str (z++z),.str (upS z),.str (z++Str.ofString " "),.str (Txt.slice z none (some 2)++Str.ofString "1")]) (i:=c/252%5) (Q:=λp=>∃ z',p=.str z'/\cH z'=false/\z'.length<=1000) (by omega) (by show c/252%5<5;omega) (by
    intro p hp;simp only[ZaJ,ZbL,or_false] at hp;rcases hp with rfl|rfl|rfl|rfl|rfl
    ·exact⟨_,rfl,by decide +kernel,by decide +kernel⟩
    ·exact⟨_,rfl,z2,by rw[la];omega⟩
    ·exact⟨_,rfl,z3,by omega⟩
    ·exact⟨_,rfl,z4,by rw[la];omega⟩
    ·exact⟨_,rfl,z5,by rw[la];omega⟩)
   refine⟨z',hz',hl,?_⟩;unfold BV;walk_at "rd"
   refine⟨ws (by omega),.str (upS z),?_,ws (by omega),ws (by omega),ws (by omega),ws (by decide),by decide,by decide,by decide,_,ep,rfl⟩
   show(if Builtin.Str.tooLong (PySem.placed z λ_ c=>Unicode.upperOf c).size=false then some (Res.ok (PV.str (upS z))) else none)=_
   refine Zag (ZaC ?_);have e:(PySem.placed z λ_ c=>Unicode.upperOf c).size=6:=z7;rw[e];exact Nat.not_lt.mpr (ws (by decide))
  refine kI (R53 ns bp inks w h sts nms A B A B [some (.sh (.int c)),some (.sh (.str z')),some (.sh (.bl false)),v10,v11,v12,v13,v14]) (by
   walk_at "rd"
   exact e) ?_
  exact Q6 sz hi hs I i62 hz' hl hQ
 ·rw[show(!decide (c/36%7=3))=true by rw[ZaC hg];rfl]
  refine kI (R53 ns bp inks w h sts nms A B A B [some (.sh (.int c)),some (.sh (.str z)),some (.sh (.bl true)),v10,v11,v12,v13,v14]) (by
   walk_at "rd") ?_
  exact Q6 sz hi hs I i62 z1 (by omega) hQ
end
theorem law_main(ns:List Int)(hn:ns.length<=63):zQ [.lst (ns.map .int)]=some (.ok (.bl true)):=by
 refine dO (x:=Ke (startR [.lst (ns.map .int)] 14)) (oW λQE hE=>?_);obtain⟨n,en,n0⟩:=Ga ns 0 (by decide) (by decide)
 obtain⟨m,em,m0⟩:=Ga ns 1 (by decide) (by decide)
 obtain⟨bp,inks,p,s,eb,hi,hp,hb,hN⟩:=Gd n n0;obtain⟨w,h,es,w0,w1',h0,h1⟩:=Iz m m0;have sz:Sz w h:=⟨w0,by lia,h0,by lia⟩
 have sm:∀ k∈inks,k.small:=λk hk=>by obtain⟨i,q⟩:=List.mem_iff_getElem?.mp hk;exact(hN i k q).2
 obtain⟨c0,ec⟩:=Q4 ns;unfold Ke;walk_at "rd"
 rw[Kg];walk_at "rd"
 rw[en];walk_at "rd"
 rw[eb];walk_at "rd"
 rw[Kg];walk_at "rd"
 rw[em];walk_at "rd"
 rw[es];walk_at "rd"
 have init:=TQ (w:=w) (h:=h) (b:=bp) (inks:=inks.map eE) (sts:=(jP inks.length [] []).map λ(n:Nat)=>PV.int (n:Int)) (Zaq.mpr λx hx=>by obtain⟨k,_,rfl⟩:=ZaN.mp hx;exact Iw k) (Zaq.mpr λx hx=>by obtain⟨k,_,rfl⟩:=ZaN.mp hx;rfl) (by rw[Zac];lia) (by rw[Zac];unfold jP;rw[Zac,Zba];lia)
 have rep:∀ {ρ:Rho}{Q:List PV->Prop},Q [.tup [.str bp,.lst (inks.map eE)],.tup [.int w,.int h],.lst ((jP inks.length [] []).map λ(n:Nat)=>PV.int (n:Int))]->Tv ((au (mV 1) (au (mV 2) (au (Lf (jq (au (mC (.int 0)) aR)) (m1 jk (m2 cA (mV 1) (mC (.int 1))))) aR))) (some (.sh (.lst (ns.map .int)))::some (.sh (.tup [.str bp,.lst (inks.map eE)]))::some (.sh (.tup [.int w,.int h]))::ρ)) Q:=λ{ρ Q} q=>by
  walk_at "rd"
  rw[Zac,Zax];refine⟨ws (by decide),by lia,by lia,ws (by lia),?_⟩
  rw[zeros];exact q
 rw[Kh];refine rep ⟨_,init,?_⟩;rw[Kh];refine rep ⟨_,init,?_⟩;refine⟨ws (by decide +kernel),?_⟩
 rw[show MP.signs (Str.ofString "kbtcxd")=TY.map λc=>.str ⟨#[c]⟩ by kernel_rfl,tM (λc=>PV.str ⟨#[c]⟩) (λc=>.str (N53 (c0%6) c)) _ λc hc=>?_]
 ·rw[tv_some];have hc:∀ i x,(Hx (ns.map PV.int) none (some 60))[i]?=some x->i<63/\∃ c,x=.int c:=λi x hx=>by
   obtain⟨ms,e,hm⟩:=Tr ns none (some 60);rw[e] at hx;have hi:=bH hx;rw[Zac] at hi;obtain⟨c,_,rfl⟩:=ZaN.mp (Zap hx);exact⟨by lia,c,rfl⟩
  have hnm:∀ p∈TY.map (λc=>PV.str (N53 (c0%6) c)),∃ z,p=.str z/\okN z=true:=λp hp=>by
   obtain⟨c,hc,rfl⟩:=ZaN.mp hp;obtain⟨i,hi,e⟩:=ZbO.mp hc;have:=T3 ⟨(c0%6).toNat,by lia⟩ ⟨i,hi⟩
   refine⟨_,rfl,?_⟩;rw[Zav,Zad hi,e] at this;have e6:(((c0%6).toNat:Nat):Int)=c0%6:=by lia
   rw[show((⟨(c0%6).toNat,by lia⟩:Fin 6).val:Int)=c0%6 from e6] at this
   exact this
  refine⟨_,rfl,_,rfl,ws (by decide),?_⟩
  refine il (λi ρ=>∃ A B r,ρ=R53 ns bp inks w h ((jP inks.length [] []).map λ(n:Nat)=>PV.int (n:Int)) (TY.map λc=>.str (N53 (c0%6) c)) A B A B r/\I53 A B i/\∃ v7 v8 v9 v10 v11 v12 v13 v14,r=[v7,v8,v9,v10,v11,v12,v13,v14]) ⟨[],[],_,rfl,⟨List.nodup_nil,List.nodup_nil,λ_ q=>absurd q ZbL,λ_ q=>absurd q ZbL,Zah _,Zah _⟩,_,_,_,_,_,_,_,_,rfl⟩ ?_ ?_
  ·rintro i x ρ hx ⟨A,B,r,rfl,I,v7,v8,v9,v10,v11,v12,v13,v14,rfl⟩;obtain⟨hi',c,rfl⟩:=hc i _ hx;exact Wo sz hi.2 sm I (by lia) rfl hnm λA' B' r J hr=>⟨A',B',r,rfl,J,hr⟩
  ·rintro ρ ⟨A,B,r,rfl,I,v7,v8,v9,v10,v11,v12,v13,v14,rfl⟩;show To (xF _) QE
   unfold xF;walk_at "rd"
   exact⟨_,_,rfl,rfl,by kernel_rfl,_,Q0 (A:=[]) (B:=[]) (by decide),true,by kernel_rfl,_,_,rfl,rfl,by kernel_rfl,_,Q3 (A:=[]) (B:=[]) (by decide),true,by kernel_rfl,rfl,hE _ rfl⟩
 ·walk_at "rd"
  rw[ec];walk_at "rd"
  have b:∀ x y:Str,(x++y).length=x.length+y.length:=λx y=>ZbB;have a:(Txt.slice (Str.ofString "aaaaaa") none (some (c0%6))).length<=6/\(Txt.slice (Str.ofString "aaaaa") (some (c0%6)) none).length<=6:=by
   obtain q|q|q|q|q|q:c0%6=0\/c0%6=1\/c0%6=2\/c0%6=3\/c0%6=4\/c0%6=5:=by lia
   all_goals rw[q];decide +kernel
  have u:(⟨#[c]⟩:Str).length=1:=rfl;exact⟨by decide,ws (by decide +kernel),ws (by lia),by decide,ws (by decide +kernel),ws (by rw[b];lia),rfl⟩
def top(i:Nat):Stmt:=PySem.Challenge.pw_lostblock_k53_names_of_a_shop.main.body.getD i (.Pass ⟨0,0,0,0⟩)
structure Txt(mg:Str->Option Value):Prop where
 tt:True
 CW:mg "ValueError"=none
 X4:mg "all"=none
 Wt:mg "dict"=none
 Gv:mg "enumerate"=none
 cN:mg "isinstance"=none
 pG:mg "len"=none
 xY:mg "list"=none
 fZ:mg "range"=none
 mq:mg "sorted"=none
 X5:mg "str"=none
 Kv:mg "tuple"=none
 T8:∃ t,mg "COVER"=some (.str "cover" t)
 MK:∃ t,mg "LETTERS"=some (.str "abcdefghijklmnopqrstuvwxyz" t)
 xZ:∃ t,mg "LONGEST_WORD"=some (.int 8 t)
structure Ads where
 (x_NoName x_Twice x_Shop x_Wrong x_Order x_NoStroke x_BlockError:Addr)
structure Xt(K:PySem.W.Frag)(mg:Str->Option Value)(d:Ads):Prop where
 u_NoName:Ew K mg "NoName" d.x_NoName
 u_Twice:Ew K mg "Twice" d.x_Twice
 o_Shop:OC K "Shop" d.x_Shop
 nm_Shop:XNm K d.x_Shop "Shop"
 na_Shop_bench:gQ K d.x_Shop "bench"
 na_Shop_size:gQ K d.x_Shop "size"
 na_Shop_states:gQ K d.x_Shop "states"
 na_Shop_woods:gQ K d.x_Shop "woods"
 na_Shop_prints:gQ K d.x_Shop "prints"
 n_NoName:nsIn K mainGlobals "NoName"=some (some (.ref d.x_NoName))
 g_NoName:mg "NoName"=some (.ref d.x_NoName)
 n_Twice:nsIn K mainGlobals "Twice"=some (some (.ref d.x_Twice))
 g_Twice:mg "Twice"=some (.ref d.x_Twice)
 n_Shop:nsIn K mainGlobals "Shop"=some (some (.ref d.x_Shop))
 g_Shop:mg "Shop"=some (.ref d.x_Shop)
 n_Wrong:nsIn K mainGlobals "Wrong"=some (some (.ref d.x_Wrong))
 g_Wrong:mg "Wrong"=some (.ref d.x_Wrong)
 n_Order:nsIn K mainGlobals "Order"=some (some (.ref d.x_Order))
 g_Order:mg "Order"=some (.ref d.x_Order)
 n_NoStroke:nsIn K mainGlobals "NoStroke"=some (some (.ref d.x_NoStroke))
 g_NoStroke:mg "NoStroke"=some (.ref d.x_NoStroke)
 n_BlockError:nsIn K mainGlobals "BlockError"=some (some (.ref d.x_BlockError))
 g_BlockError:mg "BlockError"=some (.ref d.x_BlockError)
 ca_BlockError:Catch K d.x_BlockError
 s_BlockError:yt (PB K · "BlockError" ·) [("NoName",true),("Twice",true)]
 no_BlockError:PySem.W.kitOne K (.type "NoneType") (.ref d.x_BlockError)=some false
 k_BlockError:yt (qX K · (.ref d.x_BlockError) ·) [("NoName",true),("Twice",true)]
 no_NoName:PySem.W.kitOne K (.type "NoneType") (.ref d.x_NoName)=some false
 k_NoName:yt (qX K · (.ref d.x_NoName) ·) [("NoName",true),("Twice",false)]
 no_NoStroke:PySem.W.kitOne K (.type "NoneType") (.ref d.x_NoStroke)=some false
 k_NoStroke:yt (qX K · (.ref d.x_NoStroke) ·) [("NoName",false),("Twice",false)]
 no_Order:PySem.W.kitOne K (.type "NoneType") (.ref d.x_Order)=some false
 k_Order:yt (qX K · (.ref d.x_Order) ·) [("NoName",false),("Twice",false)]
 no_Twice:PySem.W.kitOne K (.type "NoneType") (.ref d.x_Twice)=some false
 k_Twice:yt (qX K · (.ref d.x_Twice) ·) [("NoName",false),("Twice",true)]
 no_Wrong:PySem.W.kitOne K (.type "NoneType") (.ref d.x_Wrong)=some false
 k_Wrong:yt (qX K · (.ref d.x_Wrong) ·) [("NoName",false),("Twice",false)]
 nob_ValueError:PySem.W.kitOne K (.type "NoneType") (.type "ValueError")=some false
 iC:yt (qX K · (.type "ValueError") ·) [("NoName",true),("Twice",true)]
section
seal PE PA PS PSs PG PGs PI PPs MJ MT MA MAL MO MS MG MGs MI
variable{P:Program}{w:World}{K:PySem.W.Frag}{mg:Str->Option Value}{base:Heap}
theorem uy{d:Ads}(Z:Xt K mg d):∀ c b,gr c=some b->PB K c "BlockError" b:=mU Z.s_BlockError
theorem uz{d:Ads}(Z:Xt K mg d):∀ c b,qu c=some b->qX K c (.ref d.x_BlockError) b:=mU Z.k_BlockError
theorem Cu{d:Ads}(Z:Xt K mg d):∀ c b,zP c=some b->qX K c (.ref d.x_NoName) b:=mU Z.k_NoName
theorem xO{d:Ads}(Z:Xt K mg d):∀ c b,uT c=some b->qX K c (.ref d.x_NoStroke) b:=mU Z.k_NoStroke
theorem Gh{d:Ads}(Z:Xt K mg d):∀ c b,Fq c=some b->qX K c (.ref d.x_Order) b:=mU Z.k_Order
theorem Gi{d:Ads}(Z:Xt K mg d):∀ c b,Ft c=some b->qX K c (.ref d.x_Twice) b:=mU Z.k_Twice
theorem Gj{d:Ads}(Z:Xt K mg d):∀ c b,Fv c=some b->qX K c (.ref d.x_Wrong) b:=mU Z.k_Wrong
theorem uA{d:Ads}(Z:Xt K mg d):∀ c b,iC c=some b->qX K c (.type "ValueError") b:=mU Z.iC
theorem Cv{d:Ads}(Z:Xt K mg d):∀ c,ut c=true->∃ Ca,nsIn K mainGlobals c=some (some (.ref Ca))/\XI K Ca/\PySem.W.findIn K (.ref Ca) "column"=some none:=by
 intro c h;unfold ut at h;simp_all
theorem Mm{d:Ads}(Z:Xt K mg d):∀ c,Iu c=true->∃ Ca,nsIn K mainGlobals c=some (some (.ref Ca))/\XI K Ca/\PySem.W.findIn K (.ref Ca) "row"=some none:=by
 intro c h;unfold Iu at h;simp_all
theorem Cy:aU ["ink","colour","under","over"] ["ink","colour"] (aM (top 10)):=by walk_at "s"
theorem T4(T:Txt mg)(D:cI K mg "laid" (top 10) ["ink","colour"]){d:Ads}(Z:Xt K mg d):FnAt P w K mg base "laid" 1 ["ink","colour"] (spM K XR0 BL):=by
 refine D.ok Cy (λvs H Q E h=>c7 h λps r e=>match ps,e with|[_,_],_=>rfl) (λf cdv A outer s H vs Q E hr h=>?_)
 refine⟨_,(aB (dR (bu (dF hr) (bD aW (pv 0) aA (λ_ _=>rfl)) (Uh rfl T.T8) (bJ _))
    (aG (bh (bD aW (pv 0) aA (λ_ _=>rfl))))
    bQ)
   (aB (jD ZaS rfl (jr (bD aW (pv 0) aA (λ_ _=>rfl))) (Ad (n:=2) rfl (iT (dq (i:=2) Cy.nd rfl (Or.inl rfl)) (iT (dq (i:=3) Cy.nd rfl (Or.inl rfl)) vh)))
    (aG (dR (bu (dF hr) (pv 2) (pv 1) (bJ _))
     (aG (bh (pv 3)))
     bQ)))
   (aG (bh (pv 1))))),dw (b:=BK) (k:=2) (n:=2) rfl (λps r e=>match ps,e with|[_,_],e=>⟨rfl,e⟩) h λio H0 F0 hio=>?_⟩
 exact(aP (eN (bf (aC aH.up jR (bA (aC aF.up cW (ak 0) az)) (bA cj)))
    (bU (aC aF.up cW (ak 0) az))
    bT)
   (aP (oF (jX (aC aF.up cW (ak 0) az)) (Hs (lJ (aO 2) (lJ (aO 3) Ao)))
    (eN (bf (aC aH.up jR (bc 2) (bc 1)))
     (bU (ak 3))
     bT))
   (bU (ak 1))))
theorem jy:aU ["bench","stack","colour","number"] ["bench","stack"] (aM (top 11)):=by walk_at "s"
theorem Cz(T:Txt mg)(D:cI K mg "colour_of" (top 11) ["bench","stack"]){d:Ads}(Z:Xt K mg d)(Wu:FnAt P w K mg base "laid" 1 ["ink","colour"] (spM K XR0 BL)):FnAt P w K mg base "colour_of" 2 ["bench","stack"] (spM K XR0 j5):=by
 refine D.ok jy (λvs H Q E h=>c7 h λps r e=>match ps,e with|[_,_],_=>rfl) (λf cdv A outer s H vs Q E hr h=>?_)
 refine⟨_,(aB (bj (i:=2) jy.nd rfl (Or.inl rfl) (bD aW (pv 0) aA (λ_ _=>rfl)))
   (aB (jD ZaS rfl (jr (pv 1)) (dq (i:=3) jy.nd rfl (Or.inl rfl))
    (aG (bj (i:=2) jy.nd rfl (Or.inl rfl) (aQ Wu (hr.mono (by decide)) rfl (aj (bD aW (bD aW (pv 0) aA (λ_ _=>rfl)) (pv 3) (λ_ _=>rfl)) (aj (pv 2) aq))))))
   (aG (bh (pv 2))))),dw (b:=j4) (k:=2) (n:=2) rfl (λps r e=>match ps,e with|[_,_],e=>⟨rfl,e⟩) h λio H0 F0 hio=>?_⟩
 exact(aP (bN (aC aF.up cW (ak 0) az) (aO 2))
   (aP (oF (jX (ak 1)) (aO 3)
    (bN (cz (ao (aC aF.up cW (aC aF.up cW (ak 0) az) (ak 3)) (ao (ak 2) aJ))) (aO 2)))
   (bU (ak 2))))
theorem Ja:aU ["text"] ["text"] (aM (top 15)):=by walk_at "s"
theorem Jb(T:Txt mg)(D:cI K mg "is_word" (top 15) ["text"]){d:Ads}(Z:Xt K mg d):FnAt P w K mg base "is_word" 1 ["text"] (spM K XR0 jC):=by
 refine D.ok Ja (λvs H Q E h=>c7 h λps r e=>match ps,e with|[_],_=>rfl) (λf cdv A outer s H vs Q E hr h=>?_)
 refine⟨_,(aB (dR (PW.pt (Jm (nZ (mz (bz Ed rfl T.cN (by decide +kernel) (aj (pv 0) (aj (N6 rfl T.X5 (n:="str") (by decide +kernel)) aq))))) (Ac (nZ (Nm OJ OJ aA (bz eQ rfl T.pG (by decide +kernel) (aj (pv 0) aq)) (W5 rfl T.xZ))))))
    (aG (bh m7))
    bQ)
   (aG (bh (bz (N5 rfl) rfl T.X4 (by decide +kernel) (aj (jV ["sign"] [none] rfl (jr (pv 0)) (λ_ _ _ _ _=>(eU (i:=0) (by decide +kernel) rfl rfl)) (λ_ _ _ _ _=>tZ) (λ_ _ _ _ _=>(jT (Sq hr) (pvl 0) (Uh (glc rfl) T.MK) (by with_unfolding_all rfl)))) aq))))),dw (b:=p8) (k:=1) (n:=0) rfl (λps r e=>match ps,e with|[_],e=>⟨rfl,e⟩) h λio H0 F0 hio=>?_⟩
 exact(aP (eN (Jz (ou (mH (Pb aH.up Xl (bc 0) Uk))) (ou (bf (Ot Xh Xh az (gZ oH (bc 0)) az))))
    (bU nq)
    bT)
   (bU (gZ Xm (pN (jY (jX (ak 0)) (aO 0) (gY 0) ue (aC aH.up Xi (bc 0) (bA cj)))))))
theorem Gk:aU ["size","cell"] ["size","cell"] (aM (top 17)):=by walk_at "s"
theorem Gm(T:Txt mg)(D:cI K mg "place_of" (top 17) ["size","cell"]){d:Ads}(Z:Xt K mg d):FnAt P w K mg base "place_of" 1 ["size","cell"] (spM K XR0 mW):=by
 refine D.ok Gk (λvs H Q E h=>c7 h λps r e=>match ps,e with|[_,_],_=>rfl) (λf cdv A outer s H vs Q E hr h=>?_)
 refine⟨_,(aG (bh (aY cZ (aY rQ (bD aW (pv 1) aA (λ_ _=>rfl)) (bD aW (pv 0) aA (λ_ _=>rfl))) (bD aW (pv 1) aA (λ_ _=>rfl))))),dw (b:=rA) (k:=2) (n:=0) rfl (λps r e=>match ps,e with|[_,_],e=>⟨rfl,e⟩) h λio H0 F0 hio=>?_⟩
 exact(bU (aC aF.up gW (aC aF.up DY (aC aF.up cW (ak 1) az) (aC aF.up cW (ak 0) az)) (aC aF.up cW (ak 1) az)))
theorem Gn:aU ["size","some","cell"] ["size","some","cell"] (aM (top 18)):=by walk_at "s"
theorem Gp(T:Txt mg)(D:cI K mg "has_cell" (top 18) ["size","some","cell"]){d:Ads}(Z:Xt K mg d)(Jf:FnAt P w K mg base "place_of" 1 ["size","cell"] (spM K XR0 mW)):FnAt P w K mg base "has_cell" 2 ["size","some","cell"] (spM K XR0 mX):=by
 refine D.ok Gn (λvs H Q E h=>c7 h λps r e=>match ps,e with|[_,_,_],_=>rfl) (λf cdv A outer s H vs Q E hr h=>?_)
 refine⟨_,(aG (bh (jT (dF hr) (aY Nj (aY Ni (pv 1) (aQ Jf (hr.mono (by decide)) rfl (aj (pv 0) (aj (pv 2) aq)))) aA) aA (bJ _)))),dw (b:=rB) (k:=3) (n:=0) rfl (λps r e=>match ps,e with|[_,_,_],e=>⟨rfl,e⟩) h λio H0 F0 hio=>?_⟩
 exact(bU (aC aH.up jR (bA (aC aF.up Uu (aC aF.up Ut (ak 1) (cz (ao (ak 0) (ao (ak 2) aJ)))) az)) (bA az)))
theorem Mp:aU ["size"] ["size"] (aM (top 19)):=by walk_at "s"
theorem Mq(T:Txt mg)(D:cI K mg "all_of" (top 19) ["size"]){d:Ads}(Z:Xt K mg d):FnAt P w K mg base "all_of" 1 ["size"] (spM K XR0 tE):=by
 refine D.ok Mp (λvs H Q E h=>c7 h λps r e=>match ps,e with|[_],_=>rfl) (λf cdv A outer s H vs Q E hr h=>?_)
 refine⟨_,(aG (bh (aY Nb (aY Nh aA (aY rQ (bD aW (pv 0) aA (λ_ _=>rfl)) (bD aW (pv 0) aA (λ_ _=>rfl)))) aA))),dw (b:=tD) (k:=1) (n:=0) rfl (λps r e=>match ps,e with|[_],e=>⟨rfl,e⟩) h λio H0 F0 hio=>?_⟩
 exact(bU (aC aF.up Uq (aC aF.up Us az (aC aF.up DY (aC aF.up cW (ak 0) az) (aC aF.up cW (ak 0) az))) az))
theorem Gq:aU ["size","states","cell"] ["size","states","cell"] (aM (top 21)):=by walk_at "s"
theorem Gr(T:Txt mg)(D:cI K mg "stack_at" (top 21) ["size","states","cell"]){d:Ads}(Z:Xt K mg d)(Jg:FnAt P w K mg base "has_cell" 2 ["size","some","cell"] (spM K XR0 mX)):FnAt P w K mg base "stack_at" 3 ["size","states","cell"] (spM K XR0 mZ):=by
 refine D.ok Gq (λvs H Q E h=>c7 h λps r e=>match ps,e with|[_,_,_],_=>rfl) (λf cdv A outer s H vs Q E hr h=>?_)
 refine⟨_,(aG (bh (fK ql rfl T.Kv (by decide +kernel) (aj (jV ["number","state","size","cell"] [none,none,some 0,some 2] rfl (RP rfl T.Gv (aj (pv 1) aq)) (λ_ _ _ _ _=>(RQ (n:=2) rfl (iT (eU (i:=0) (by decide +kernel) rfl rfl) (iT (eU (i:=1) (by decide +kernel) rfl rfl) vh)))) (λ_ _ _ _ _=>(Aj (mz (aQ Jg (hr.mono (by decide)) (glc rfl) (aj (pvf 2) (aj (pvl 1) (aj (pvf 3) aq))))))) (λ_ _ _ _ _=>(pvl 0))) aq)))),dw (b:=mY) (k:=3) (n:=0) rfl (λps r e=>match ps,e with|[_,_,_],e=>⟨rfl,e⟩) h λio H0 F0 hio=>?_⟩
 exact(bU (gZ Uw (pN (jY (R9 (ao (ak 1) aJ)) (Hs (lJ (aO 0) (lJ (aO 1) Ao))) (VF (Ec (gY 0) (Ec (gY 1) Sd))) (mH (cz (ao (ak 2) (ao (ak 1) (ao (ak 3) aJ))))) (ak 0)))))
theorem xP:aU ["bench","size","states","row"] ["bench","size","states","row"] (aM (top 22)):=by walk_at "s"
theorem xQ(T:Txt mg)(D:cI K mg "pressed_row" (top 22) ["bench","size","states","row"]){d:Ads}(Z:Xt K mg d)(Gw:FnAt P w K mg base "colour_of" 2 ["bench","stack"] (spM K XR0 j5))(Jh:FnAt P w K mg base "stack_at" 3 ["size","states","cell"] (spM K XR0 mZ)):FnAt P w K mg base "pressed_row" 4 ["bench","size","states","row"] (spO K XR0 iG):=by
 refine D.ok xP (λvs H Q E h=>pQ h λps r e=>match ps,e with|[_,_,_,_],_=>rfl) (λf cdv A outer s H vs Q E hr h=>?_)
 refine⟨_,(aG (bh (jV ["column","bench","size","states","row"] [none,some 0,some 1,some 2,some 3] rfl (dC rfl T.fZ (aj (bD aW (pv 1) aA (λ_ _=>rfl)) aq)) (λ_ _ _ _ _=>(eU (i:=0) (by decide +kernel) rfl rfl)) (λ_ _ _ _ _=>tZ) (λ_ _ _ _ _=>(aQ Gw (hr.mono (by decide)) (glc rfl) (aj (pvf 1) (aj (aQ Jh (hr.mono (by decide)) (glc rfl) (aj (pvf 2) (aj (pvf 3) (aj (jd (aj (pvl 0) (aj (pvf 4) aq))) aq)))) aq))))))),vp (b:=iD) (k:=4) (n:=0) rfl (λps r e=>match ps,e with|[_,_,_,_],e=>⟨rfl,e⟩) h λio H0 F0 hio=>?_⟩
 exact(jW (jY (jt (ao (aC aF.up cW (ak 1) az) aJ)) (aO 0) (gY 0) ue (cz (ao (ak 1) (ao (cz (ao (ak 2) (ao (ak 3) (ao (vZ (ao (ak 0) (ao (ak 4) aJ))) aJ)))) aJ)))))
theorem Jc:aU ["bench","size","states"] ["bench","size","states"] (aM (top 23)):=by walk_at "s"
theorem Jd(T:Txt mg)(D:cI K mg "pressed" (top 23) ["bench","size","states"]){d:Ads}(Z:Xt K mg d)(yM:FnAt P w K mg base "pressed_row" 4 ["bench","size","states","row"] (spO K XR0 iG)):FnAt P w K mg base "pressed" 5 ["bench","size","states"] (spD K XR0 qd):=by
 refine D.ok Jc (λvs H Q E h=>vz h λps r e=>match ps,e with|[_,_,_],_=>rfl) (λf cdv A outer s H vs Q E hr h=>?_)
 refine⟨_,(aG (bh (jV ["row","bench","size","states"] [none,some 0,some 1,some 2] rfl (dC rfl T.fZ (aj (bD aW (pv 1) aA (λ_ _=>rfl)) aq)) (λ_ _ _ _ _=>(eU (i:=0) (by decide +kernel) rfl rfl)) (λ_ _ _ _ _=>tZ) (λ_ _ _ _ _=>(aQ yM (hr.mono (by decide)) (glc rfl) (aj (pvf 1) (aj (pvf 2) (aj (pvf 3) (aj (pvl 0) aq))))))))),Ss (b:=qb) (k:=3) (n:=0) rfl (λps r e=>match ps,e with|[_,_,_],e=>⟨rfl,e⟩) h λio H0 F0 hio=>?_⟩
 exact(vy (JM (jt (ao (aC aF.up cW (ak 1) az) aJ)) (aO 0) (gY 0) ue (wI (vo (ao (ak 1) (ao (ak 2) (ao (ak 3) (ao (ak 0) aJ))))))))
theorem kJ:aU ["many_inks","prints","sets"] ["many_inks","prints"] (aM (top 25)):=by walk_at "s"
theorem tW(T:Txt mg)(D:cI K mg "states_printed" (top 25) ["many_inks","prints"]){d:Ads}(Z:Xt K mg d):FnAt P w K mg base "states_printed" 1 ["many_inks","prints"] (spO K XR0 fO):=by
 refine D.ok kJ (λvs H Q E h=>pQ h λps r e=>match ps,e with|[_,_],_=>rfl) (λf cdv A outer s H vs Q E hr h=>?_)
 refine⟨_,(aB (bj (i:=2) kJ.nd rfl (Or.inr rfl) (fK Ig rfl T.Wt (by decide +kernel) (aj (pv 1) aq)))
   (aG (bh (jV ["number","sets"] [none,some 2] rfl (dC rfl T.fZ (aj (pv 0) aq)) (λ_ _ _ _ _=>(eU (i:=0) (by decide +kernel) rfl rfl)) (λ_ _ _ _ _=>tZ) (λ_ _ _ _ _=>(HB hr (pvf 1) (pvl 0) aA ⟨rfl,rfl,rfl,rfl⟩)))))),vp (b:=fM) (k:=2) (n:=1) rfl (λps r e=>match ps,e with|[_,_],e=>⟨rfl,e⟩) h λio H0 F0 hio=>?_⟩
 exact(aP (bN (cC (mJ SM (pR 1))) (aO 2))
   (jW (jY (jt (ao (ak 0) aJ)) (aO 0) (gY 0) ue (Ph (pR 1) (ak 0) az))))
theorem CJ:aU ["kept","name"] ["kept","name"] (aM (top 27)):=by walk_at "s"
theorem CK(T:Txt mg)(D:cI K mg "check_new" (top 27) ["kept","name"]){d:Ads}(Z:Xt K mg d)(uD:FnAt P w K mg base "is_word" 1 ["text"] (spM K XR0 jC)):qp P w K mg base "check_new" 3 ["kept","name"] (spM K (XRS K) cP):=by
 refine cI.okX D CJ (λvs H Q E h=>c7 h λps r e=>match ps,e with|[_,_],_=>rfl) (λf cdv A outer s H vs Q E hr h=>?_)
 refine⟨_,(aB (dR (nZ (mz (aQ uD (hr.mono (by decide)) rfl (aj (pv 1) aq))))
    (aG (qZ Z.u_NoName (hr.mono (by decide)) rfl uq))
    bQ)
   (aG (dR (bu (Pj hr) (pv 1) (pv 0) (by with_unfolding_all rfl))
    (aG (qZ Z.u_Twice (hr.mono (by decide)) rfl uq))
    bQ))),JR (b:=dJ) (k:=2) (n:=0) rfl (λps r e=>match ps,e with|[_,_],e=>⟨rfl,e⟩) h λio H0 F0 hio=>?_⟩
 exact(aP (eN (ou (mH (wN (ao (ak 1) aJ))))
    (q9 rfl Z.u_NoName)
    bT)
   (eN (bf (aC aF.up Uy (ak 1) (pR 0)))
    (q9 rfl Z.u_Twice)
    bT))
theorem xR:aU ["kept","name"] ["kept","name"] (aM (top 28)):=by walk_at "s"
theorem xT(T:Txt mg)(D:cI K mg "check_there" (top 28) ["kept","name"]){d:Ads}(Z:Xt K mg d)(uD:FnAt P w K mg base "is_word" 1 ["text"] (spM K XR0 jC)):qp P w K mg base "check_there" 3 ["kept","name"] (spM K (XRS K) bx):=by
 refine cI.okX D xR (λvs H Q E h=>c7 h λps r e=>match ps,e with|[_,_],_=>rfl) (λf cdv A outer s H vs Q E hr h=>?_)
 refine⟨_,(aG (dR (PW.pt (Jm (nZ (mz (aQ uD (hr.mono (by decide)) rfl (aj (pv 1) aq)))) (Ac (bu (pU hr) (pv 1) (pv 0) (by with_unfolding_all rfl)))))
    (aG (qZ Z.u_NoName (hr.mono (by decide)) rfl uq))
    bQ)),JR (b:=dZ) (k:=2) (n:=0) rfl (λps r e=>match ps,e with|[_,_],e=>⟨rfl,e⟩) h λio H0 F0 hio=>?_⟩
 exact(eN (Jz (ou (mH (wN (ao (ak 1) aJ)))) (bf (aC aF.up rU (ak 1) (pR 0))))
    (q9 rfl Z.u_NoName)
    bT)
theorem uB:aU ["self","bench","size","states"] ["self","bench","size","states"] (aM (inClass (top 29) 0)):=by walk_at "s"
theorem uC(T:Txt mg){f:Addr}{fd:FuncData}(F:Fun K "__init__" "Shop.__init__" (inClass (top 29) 0) f fd){d:Ads}(Z:Xt K mg d):iU P w K mg base CX0 1 f fd ["self","bench","size","states"] (spW K dg):=by
 refine F.ok uB (λvs H Q E h=>sS h λps r e=>match ps,e with|[_,_,_,_],_=>rfl) (λcdv A outer s H vs Q E hr h=>?_)
 refine⟨_,(aB (sV K rfl (pv 0) (jd (aj (bD aW (pv 1) aA (λ_ _=>rfl)) (aj (fK rG rfl T.xY (by decide +kernel) (aj (bD aW (pv 1) aA (λ_ _=>rfl)) aq)) aq))) rfl)
   (aB (sV K rfl (pv 0) (pv 2) rfl)
   (aB (sV K rfl (pv 0) (fK rG rfl T.xY (by decide +kernel) (aj (pv 3) aq)) rfl)
   (aB (sV K rfl (pv 0) n6 rfl)
   (aG (sV K rfl (pv 0) n6 rfl)))))),Qe (b:=gC) (k:=3) (n:=0) rfl (λps r e=>match ps,e with|[_,_,_,_],e=>⟨_,_,rfl,rfl,e⟩) h λio H0 F0 hio=>?_⟩
 exact(vq (uR (jL (i:=0) Z.o_Shop Z.na_Shop_bench (Bg (gq (rZ (aC aF.up cW (ak 1) az)) (gq (wI (mJ Pg (Jy (aC aF.up cW (ak 1) az)))) sr)))))
   (vq (uR (jL (i:=0) Z.o_Shop Z.na_Shop_size (rZ (ak 2))))
   (vq (uR (jL (i:=0) Z.o_Shop Z.na_Shop_states (wI (mJ Pg (lH 3)))))
   (vq (uR (jL (i:=0) Z.o_Shop Z.na_Shop_woods (wK rW)))
   (uR (jL (i:=0) Z.o_Shop Z.na_Shop_prints (wK rW)))))))
theorem yC:aU ["self","name"] ["self","name"] (aM (inClass (top 29) 1)):=by walk_at "s"
theorem yD(T:Txt mg){f:Addr}{fd:FuncData}(F:Fun K "block" "Shop.block" (inClass (top 29) 1) f fd){d:Ads}(Z:Xt K mg d)(pH:qp P w K mg base "check_new" 3 ["kept","name"] (spM K (XRS K) cP))(Q9:FnAt P w K mg base "all_of" 1 ["size"] (spM K XR0 tE)):iU P w K mg base (CXS P w) 4 f fd ["self","name"] (spW K bW):=by
 refine F.okX yC (λvs H Q E h=>sS h λps r e=>match ps,e with|[_,_],_=>rfl) (λcdv A outer s H vs Q E hr h=>?_)
 refine⟨_,(aB (eF (lN lM pH (hr.mono (by decide)) rfl (aj (cM K rfl (pv 0) rfl) (aj (pv 1) aq))))
   (aG (Al (uK hr) (cM K rfl (pv 0) rfl) (pv 1) (aQ Q9 (hr.mono (by decide)) rfl (aj (cM K rfl (pv 0) rfl) aq)) rfl))),wZ (b:=fP) (k:=1) (n:=0) rfl (λps r e=>match ps,e with|[_,_],e=>⟨_,_,rfl,rfl,e⟩) h λF S v p0 en=>?_⟩
 exact(wY en (w6 (cz (ao (dz Z.o_Shop Z.na_Shop_woods (ak 0)) (ao (ak 1) aJ))))
   (Bt en (uR (Fj (Bu Z.o_Shop Z.na_Shop_woods sW) (Pu (i:=0) (wN (ao (dz Z.o_Shop Z.na_Shop_size (ak 0)) aJ))) (ak 1)))))
theorem yE:aU ["self","name"] ["self","name"] (aM (inClass (top 29) 2)):=by walk_at "s"
theorem yF(T:Txt mg){f:Addr}{fd:FuncData}(F:Fun K "sheet" "Shop.sheet" (inClass (top 29) 2) f fd){d:Ads}(Z:Xt K mg d)(pH:qp P w K mg base "check_new" 3 ["kept","name"] (spM K (XRS K) cP)):iU P w K mg base (CXS P w) 4 f fd ["self","name"] (spW K bY):=by
 refine F.okX yE (λvs H Q E h=>sS h λps r e=>match ps,e with|[_,_],_=>rfl) (λcdv A outer s H vs Q E hr h=>?_)
 refine⟨_,(aB (eF (lN lM pH (hr.mono (by decide)) rfl (aj (cM K rfl (pv 0) rfl) (aj (pv 1) aq))))
   (aG (Al (uK hr) (cM K rfl (pv 0) rfl) (pv 1) n6 rfl))),wZ (b:=fQ) (k:=1) (n:=0) rfl (λps r e=>match ps,e with|[_,_],e=>⟨_,_,rfl,rfl,e⟩) h λF S v p0 en=>?_⟩
 exact(wY en (w6 (cz (ao (dz Z.o_Shop Z.na_Shop_prints (ak 0)) (ao (ak 1) aJ))))
   (Bt en (uR (Lx (Bu Z.o_Shop Z.na_Shop_prints sW) (wK rW) (ak 1)))))
theorem yG:aU ["self","name"] ["self","name"] (aM (inClass (top 29) 3)):=by walk_at "s"
theorem yH(T:Txt mg){f:Addr}{fd:FuncData}(F:Fun K "spoil" "Shop.spoil" (inClass (top 29) 3) f fd){d:Ads}(Z:Xt K mg d)(dm:qp P w K mg base "check_there" 3 ["kept","name"] (spM K (XRS K) bx)):iU P w K mg base (CXS P w) 4 f fd ["self","name"] (spW K bZ):=by
 refine F.okX yG (λvs H Q E h=>sS h λps r e=>match ps,e with|[_,_],_=>rfl) (λcdv A outer s H vs Q E hr h=>?_)
 refine⟨_,(aB (eF (lN lM dm (hr.mono (by decide)) rfl (aj (cM K rfl (pv 0) rfl) (aj (pv 1) aq))))
   (aG (eF (Dv (cM K rfl (pv 0) rfl) (pv 1) ⟨rfl,rfl,rfl,rfl⟩)))),wZ (b:=fU) (k:=1) (n:=0) rfl (λps r e=>match ps,e with|[_,_],e=>⟨_,_,rfl,rfl,e⟩) h λF S v p0 en=>?_⟩
 exact(wY en (w6 (cz (ao (dz Z.o_Shop Z.na_Shop_prints (ak 0)) (ao (ak 1) aJ))))
   (Bt en (uR (Fo (Bu Z.o_Shop Z.na_Shop_prints sW) (ak 1)))))
theorem CN:aU ["self","name"] ["self","name"] (aM (inClass (top 29) 6)):=by walk_at "s"
theorem CP(T:Txt mg){f:Addr}{fd:FuncData}(F:Fun K "wood" "Shop.wood" (inClass (top 29) 6) f fd){d:Ads}(Z:Xt K mg d)(dm:qp P w K mg base "check_there" 3 ["kept","name"] (spM K (XRS K) bx)):iU P w K mg base (CXS P w) 4 f fd ["self","name"] (spD K (XRS K) cD):=by
 refine F.okX CN (λvs H Q E h=>vz h λps r e=>match ps,e with|[_,_],_=>rfl) (λcdv A outer s H vs Q E hr h=>?_)
 refine⟨_,(aB (eF (lN lM dm (hr.mono (by decide)) rfl (aj (cM K rfl (pv 0) rfl) (aj (pv 1) aq))))
   (aG (bh (Ei hr (cM K rfl (pv 0) rfl) (pv 1) (λ_ _=>rfl))))),xf (b:=gH) (k:=2) (n:=0) rfl (λps r e=>match ps,e with|[_,_],e=>⟨rfl,e⟩) h λio H0 F0 hio=>?_⟩
 exact(aP (Aq (cz (ao (dz Z.o_Shop Z.na_Shop_woods (ak 0)) (ao (ak 1) aJ))))
   (vy (rZ (Bd (dG (dz Z.o_Shop Z.na_Shop_woods (ak 0))) (ak 1)))))
theorem yI:aU ["self","sheet"] ["self","sheet"] (aM (inClass (top 29) 7)):=by walk_at "s"
theorem yJ(T:Txt mg){f:Addr}{fd:FuncData}(F:Fun K "shows" "Shop.shows" (inClass (top 29) 7) f fd){d:Ads}(Z:Xt K mg d)(dm:qp P w K mg base "check_there" 3 ["kept","name"] (spM K (XRS K) bx))(MN:FnAt P w K mg base "pressed" 5 ["bench","size","states"] (spD K XR0 qd))(uE:FnAt P w K mg base "states_printed" 1 ["many_inks","prints"] (spO K XR0 fO)):iU P w K mg base (CXS P w) 6 f fd ["self","sheet"] (spD K (XRS K) b7):=by
 refine F.okX yI (λvs H Q E h=>vz h λps r e=>match ps,e with|[_,_],_=>rfl) (λcdv A outer s H vs Q E hr h=>?_)
 refine⟨_,(aB (eF (lN lM dm (hr.mono (by decide)) rfl (aj (cM K rfl (pv 0) rfl) (aj (pv 1) aq))))
   (aG (bh (aQ MN (hr.mono (by decide)) rfl (aj (cM K rfl (pv 0) rfl) (aj (cM K rfl (pv 0) rfl) (aj (aQ uE (hr.mono (by decide)) rfl (aj (bz eQ rfl T.pG (by decide +kernel) (aj (bD aW (cM K rfl (pv 0) rfl) aA (λ_ _=>rfl)) aq)) (aj (Ei hr (cM K rfl (pv 0) rfl) (pv 1) (λ_ _=>rfl)) aq))) aq))))))),xf (b:=fV) (k:=2) (n:=0) rfl (λps r e=>match ps,e with|[_,_],e=>⟨rfl,e⟩) h λio H0 F0 hio=>?_⟩
 exact(aP (Aq (cz (ao (dz Z.o_Shop Z.na_Shop_prints (ak 0)) (ao (ak 1) aJ))))
   (vy (PQ (ao (dz Z.o_Shop Z.na_Shop_bench (ak 0)) (ao (dz Z.o_Shop Z.na_Shop_size (ak 0)) (ao (cC (PJ (ao (gZ oH (bA (aC aF.up cW (dz Z.o_Shop Z.na_Shop_bench (ak 0)) az))) (ao (Bd (dG (dz Z.o_Shop Z.na_Shop_prints (ak 0))) (ak 1)) aJ)))) aJ))))))
theorem xU:aU ["self"] ["self"] (aM (inClass (top 29) 8)):=by walk_at "s"
theorem xV(T:Txt mg){f:Addr}{fd:FuncData}(F:Fun K "blocks" "Shop.blocks" (inClass (top 29) 8) f fd){d:Ads}(Z:Xt K mg d):iU P w K mg base (CXS P w) 3 f fd ["self"] (spO K (XRS K) cQ):=by
 refine F.okX xU (λvs H Q E h=>pQ h λps r e=>match ps,e with|[_],_=>rfl) (λcdv A outer s H vs Q E hr h=>?_)
 refine⟨_,(aG (bh (bz (dY rfl) rfl T.mq (by decide +kernel) (aj (cM K rfl (pv 0) rfl) aq)))),Er (b:=iH) (k:=1) (n:=0) rfl (λps r e=>match ps,e with|[_],e=>⟨rfl,e⟩) h λio H0 F0 hio=>?_⟩
 exact(jW (mJ lL (dG (dz Z.o_Shop Z.na_Shop_woods (ak 0)))))
theorem xW:aU ["self"] ["self"] (aM (inClass (top 29) 9)):=by walk_at "s"
theorem xX(T:Txt mg){f:Addr}{fd:FuncData}(F:Fun K "sheets" "Shop.sheets" (inClass (top 29) 9) f fd){d:Ads}(Z:Xt K mg d):iU P w K mg base (CXS P w) 3 f fd ["self"] (spO K (XRS K) cR):=by
 refine F.okX xW (λvs H Q E h=>pQ h λps r e=>match ps,e with|[_],_=>rfl) (λcdv A outer s H vs Q E hr h=>?_)
 refine⟨_,(aG (bh (bz (dY rfl) rfl T.mq (by decide +kernel) (aj (cM K rfl (pv 0) rfl) aq)))),Er (b:=iI) (k:=1) (n:=0) rfl (λps r e=>match ps,e with|[_],e=>⟨rfl,e⟩) h λio H0 F0 hio=>?_⟩
 exact(jW (mJ lL (dG (dz Z.o_Shop Z.na_Shop_prints (ak 0)))))
theorem yK:aU ["self","sheet"] ["self","sheet"] (aM (inClass (top 29) 10)):=by walk_at "s"
theorem yL(T:Txt mg){f:Addr}{fd:FuncData}(F:Fun K "lacks" "Shop.lacks" (inClass (top 29) 10) f fd){d:Ads}(Z:Xt K mg d)(dm:qp P w K mg base "check_there" 3 ["kept","name"] (spM K (XRS K) bx)):iU P w K mg base (CXS P w) 4 f fd ["self","sheet"] (spD K (XRS K) b8):=by
 refine F.okX yK (λvs H Q E h=>vz h λps r e=>match ps,e with|[_,_],_=>rfl) (λcdv A outer s H vs Q E hr h=>?_)
 refine⟨_,(aB (eF (lN lM dm (hr.mono (by decide)) rfl (aj (cM K rfl (pv 0) rfl) (aj (pv 1) aq))))
   (aG (bh (jV ["number","sheet","self"] [none,some 1,some 0] rfl (dC rfl T.fZ (aj (bz eQ rfl T.pG (by decide +kernel) (aj (bD aW (cM K rfl (pv 0) rfl) aA (λ_ _=>rfl)) aq)) aq)) (λ_ _ _ _ _=>(eU (i:=0) (by decide +kernel) rfl rfl)) (λ_ _ _ _ _=>(Aj (bu (Hz hr) (pvl 0) (Lh hr (cM K rfl (pvf 2) rfl) (pvf 1) (λ_ _=>rfl)) (by with_unfolding_all rfl)))) (λ_ _ _ _ _=>(pvl 0)))))),xf (b:=fW) (k:=2) (n:=0) rfl (λps r e=>match ps,e with|[_,_],e=>⟨rfl,e⟩) h λio H0 F0 hio=>?_⟩
 exact(aP (Aq (cz (ao (dz Z.o_Shop Z.na_Shop_prints (ak 0)) (ao (ak 1) aJ))))
   (vy (JM (jt (ao (gZ oH (bA (aC aF.up cW (dz Z.o_Shop Z.na_Shop_bench (ak 0)) az))) aJ)) (aO 0) (gY 0) (bf (aC aF.up rU (ak 0) (dG (Bd (dG (dz Z.o_Shop Z.na_Shop_prints (ak 2))) (ak 1))))) (rZ (ak 0)))))
theorem CQ:aU ["_law_script","_law_k"] ["_law_script","_law_k"] (aM (top 31)):=by walk_at "s"
theorem CT(T:Txt mg)(D:cI K mg "_law_cell_at" (top 31) ["_law_script","_law_k"]){d:Ads}(Z:Xt K mg d):FnAt P w K mg base "_law_cell_at" 1 ["_law_script","_law_k"] (spM K XR0 fB):=by
 refine D.ok CQ (λvs H Q E h=>c7 h λps r e=>match ps,e with|[_,_],_=>rfl) (λf cdv A outer s H vs Q E hr h=>?_)
 refine⟨_,(aB (dR (bu uc (pv 1) (bz eQ rfl T.pG (by decide +kernel) (aj (pv 0) aq)) (bJ _))
    (aG (bh (bD aW (pv 0) (pv 1) (λ_ _=>rfl))))
    bQ)
   (aG (bh aA))),dw (b:=ir) (k:=2) (n:=0) rfl (λps r e=>match ps,e with|[_,_],e=>⟨rfl,e⟩) h λio H0 F0 hio=>?_⟩
 exact(aP (eN (bf (aC aF.up Le (ak 1) (gZ oH (bc 0))))
    (bU (aC aF.up cW (ak 0) (ak 1)))
    bT)
   (bU az))
theorem fX:aU ["_law_script","_law_k","_law_cell","_law_number","_law_found","_law_turn"] ["_law_script","_law_k"] (aM (top 32)):=by walk_at "s"
theorem Mr(T:Txt mg)(D:cI K mg "_law_pool" (top 32) ["_law_script","_law_k"]){d:Ads}(Z:Xt K mg d):FnAt P w K mg base "_law_pool" 1 ["_law_script","_law_k"] (spO K XR0 gJ):=by
 refine D.ok fX (λvs H Q E h=>pQ h λps r e=>match ps,e with|[_,_],_=>rfl) (λf cdv A outer s H vs Q E hr h=>?_)
 refine⟨_,(aB (bj (i:=2) fX.nd rfl (Or.inl rfl) aA)
   (aB (dR (bu uc (pv 1) (bz eQ rfl T.pG (by decide +kernel) (aj (pv 0) aq)) (bJ _))
    (aG (bj (i:=2) fX.nd rfl (Or.inl rfl) (bD aW (pv 0) (pv 1) (λ_ _=>rfl))))
    bQ)
   (aB (dR (bu WM (pv 2) (aY Ng aA aA) (bJ _))
    (aG (bh (di (aj (aY iz (pv 2) (aY Ng aA aA)) aq))))
    bQ)
   (aB (bj (i:=3) fX.nd rfl (Or.inl rfl) (aY cZ (aY cZ (aY iz (pv 2) aA) (aY pW (aY pW aA (pv 1)) (pv 1))) aA))
   (aB (bj (i:=4) fX.nd rfl (Or.inl rfl) aA)
   (aB (jD ZaS rfl (dC rfl T.fZ (aj aA aq)) (dq (i:=5) fX.nd rfl (Or.inl rfl))
    (aB (bj (i:=3) fX.nd rfl (Or.inl rfl) (aY iz (aY cZ (aY pW (pv 3) aA) (aY pW aA (pv 5))) aA))
    (aB (bj (i:=3) fX.nd rfl (Or.inl rfl) (aY iz (aY pW (pv 3) (pv 3)) aA))
    (aG (bj (i:=4) fX.nd rfl (Or.inl rfl) (aY cZ (aY pW (pv 4) aA) (pv 3)))))))
   (aG (bh (di (aj (pv 4) aq)))))))))),vp (b:=j6) (k:=2) (n:=4) rfl (λps r e=>match ps,e with|[_,_],e=>⟨rfl,e⟩) h λio H0 F0 hio=>?_⟩
 exact(aP (bN az (aO 2))
   (aP (eN (bf (aC aF.up Le (ak 1) (gZ oH (bc 0))))
    (bN (aC aF.up cW (ak 0) (ak 1)) (aO 2))
    bT)
   (aP (eN (bf (aC aF.up Yg (ak 2) (aC aF.up Ur az az)))
    (jW (dD (ao (aC aF.up lK (ak 2) (aC aF.up Ur az az)) aJ)))
    bT)
   (aP (bN (aC aF.up gW (aC aF.up gW (aC aF.up lK (ak 2) az) (aC aF.up uh (aC aF.up uh az (ak 1)) (ak 1))) az) (aO 3))
   (aP (bN az (aO 4))
   (aP (oF (jt (ao az aJ)) (aO 5)
    (aP (bN (aC aF.up lK (aC aF.up gW (aC aF.up uh (ak 3) az) (aC aF.up uh az (ak 5))) az) (aO 3))
    (aP (bN (aC aF.up lK (aC aF.up uh (ak 3) (ak 3)) az) (aO 3))
    (bN (aC aF.up gW (aC aF.up uh (ak 4) az) (ak 3)) (aO 4)))))
   (jW (dD (ao (ak 4) aJ)))))))))
theorem zW:aU ["_law_pool_here","_law_many","_law_found"] ["_law_pool_here","_law_many"] (aM (top 33)):=by walk_at "s"
theorem Ms(T:Txt mg)(D:cI K mg "_law_take" (top 33) ["_law_pool_here","_law_many"]){d:Ads}(Z:Xt K mg d):FnAt P w K mg base "_law_take" 1 ["_law_pool_here","_law_many"] (spR K 0 bF):=by
 refine D.ok zW (λvs H Q E h=>S8 h λps r e=>match ps,e with|[_,_],_=>rfl) (λf cdv A outer s H vs Q E hr h=>?_)
 refine⟨_,(aB (bj (i:=2) zW.nd rfl (Or.inl rfl) (aY iz (bD aW (pv 0) aA (λ_ _=>rfl)) (pv 1)))
   (aB (M6 (aY vm (bD aW (pv 0) aA (λ_ _=>rfl)) (pv 1)) (Ve (pv 0) aA set_list))
   (aG (bh (pv 2))))),S9 (b:=j7) (k:=2) (n:=1) rfl (λps r e=>match ps,e with|[_,_],e=>⟨rfl,e⟩) h λioa H0 F0=>?_⟩
 exact(JZ (bN (aC aF.up lK (aC aV.up O5 (lH 0) az) (ak 1)) (aO 2))
   (JZ (Vw (aC aF.up JD (aC aV.up O5 (lH 0) az) (ak 1)) az)
   (S7 (j:=0) (ak 2))))
theorem Mt:aU ["_law_place","_law_k"] ["_law_place","_law_k"] (aM (top 34)):=by walk_at "s"
theorem Mu(T:Txt mg)(D:cI K mg "_law_word" (top 34) ["_law_place","_law_k"]){d:Ads}(Z:Xt K mg d):FnAt P w K mg base "_law_word" 1 ["_law_place","_law_k"] (spM K XR0 dM):=by
 refine D.ok Mt (λvs H Q E h=>c7 h λps r e=>match ps,e with|[_,_],_=>rfl) (λf cdv A outer s H vs Q E hr h=>?_)
 refine⟨_,(aG (bh (aY cZ (aY cZ (lE vU cB pK (pL (pv 0))) (bD aW cB (pv 1) (λ_ _=>rfl))) (lE vU cB (pL (pv 0)) pK)))),dw (b:=j8) (k:=2) (n:=0) rfl (λps r e=>match ps,e with|[_,_],e=>⟨rfl,e⟩) h λio H0 F0 hio=>?_⟩
 exact(bU (aC aF.up gW (aC aF.up gW (ww cj pO (pP (ak 0))) (aC aF.up cW cj (ak 1))) (ww cj (pP (ak 0)) pO)))
theorem cY:aU ["_law_pool_here","_law_place","_law_paper","_law_shift","_law_inks","_law_k","_law_name","_law_unders","_law_pairs","_law_j","_law_under"] ["_law_pool_here"] (aM (top 35)):=by walk_at "s"
theorem Je(T:Txt mg)(D:cI K mg "_law_bench" (top 35) ["_law_pool_here"]){d:Ads}(Z:Xt K mg d)(cg:FnAt P w K mg base "_law_take" 1 ["_law_pool_here","_law_many"] (spR K 0 bF))(jc:FnAt P w K mg base "_law_word" 1 ["_law_place","_law_k"] (spM K XR0 dM)):FnAt P w K mg base "_law_bench" 2 ["_law_pool_here"] (spG K iu):=by
 refine D.ok cY (λvs H Q E h=>J0 h λps r e=>match ps,e with|[_],_=>rfl) (λf cdv A outer s H vs Q E hr h=>?_)
 refine⟨_,(aB (bj (i:=1) cY.nd rfl (Or.inl rfl) (aQ cg (hr.mono (by decide)) rfl (aj (pv 0) (aj aA aq))))
   (aB (bj (i:=2) cY.nd rfl (Or.inl rfl) (aQ jc (hr.mono (by decide)) rfl (aj (pv 1) (aj (aQ cg (hr.mono (by decide)) rfl (aj (pv 0) (aj aA aq))) aq))))
   (aB (bj (i:=3) cY.nd rfl (Or.inl rfl) (aQ cg (hr.mono (by decide)) rfl (aj (pv 0) (aj aA aq))))
   (aB (bj (i:=4) cY.nd rfl (Or.inl rfl) (di aq))
   (aB (jD ZaS rfl (dC rfl T.fZ (aj (aY cZ aA (aQ cg (hr.mono (by decide)) rfl (aj (pv 0) (aj aA aq)))) aq)) (dq (i:=5) cY.nd rfl (Or.inl rfl))
    (aB (bj (i:=6) cY.nd rfl (Or.inl rfl) (aQ jc (hr.mono (by decide)) rfl (aj (aY iz (aY cZ (pv 1) aA) aA) (aj (aY iz (aY cZ (aY rQ aA (pv 5)) (pv 3)) aA) aq))))
    (aG (dR (bu uc (aQ cg (hr.mono (by decide)) rfl (aj (pv 0) (aj aA aq))) aA (bJ _))
     (aG (eF (vP ZaP ZaX PySem.F.type_list_append iB (pv 4) (aj (jd (aj cB (aj (pv 6) (aj (aQ jc (hr.mono (by decide)) rfl (aj (pv 1) (aj (aQ cg (hr.mono (by decide)) rfl (aj (pv 0) (aj aA aq))) aq))) aq)))) aq))))
     (aB (bj (i:=7) cY.nd rfl (Or.inl rfl) (fK (zu rfl) rfl T.xY (by decide +kernel) (aj (fK zr rfl T.fZ (by decide +kernel) (aj aA aq)) aq)))
     (aB (bj (i:=8) cY.nd rfl (Or.inl rfl) (di aq))
     (aB (jD ZaS rfl (dC rfl T.fZ (aj (aY cZ aA (aQ cg (hr.mono (by decide)) rfl (aj (pv 0) (aj aA aq)))) aq)) (dq (i:=9) cY.nd rfl (Or.inl rfl))
      (aB (bj (i:=10) cY.nd rfl (Or.inl rfl) (vP ZaP PySem.F.slot_list_pop PySem.F.type_list_pop NP (pv 7) (aj (aQ cg (hr.mono (by decide)) rfl (aj (pv 0) (aj (bz eQ rfl T.pG (by decide +kernel) (aj (pv 7) aq)) aq))) aq)))
      (aG (eF (vP ZaP ZaX PySem.F.type_list_append iB (pv 8) (aj (jd (aj (aQ jc (hr.mono (by decide)) rfl (aj (pv 1) (aj (pv 10) aq))) (aj (aQ jc (hr.mono (by decide)) rfl (aj (pv 1) (aj (aQ cg (hr.mono (by decide)) rfl (aj (pv 0) (aj aA aq))) aq))) aq))) aq))))))
     (aG (eF (vP ZaP ZaX PySem.F.type_list_append iB (pv 4) (aj (jd (aj cB (aj (pv 6) (aj (fK ql rfl T.Kv (by decide +kernel) (aj (pv 8) aq)) aq)))) aq)))))))))))
   (aG (bh (jd (aj (pv 2) (aj (pv 4) aq)))))))))),J1 (b:=jx) (k:=1) (n:=10) rfl (λps r e=>match ps,e with|[_],e=>⟨rfl,e⟩) h λio H0 F0 hio=>?_⟩
 exact(aP (sO (oU (eZ (ao az aJ))) (aO 1))
   (aP (sO (Br (dH (nF (ak 1)) (dH (oU (eZ (ao az aJ))) pX))) (aO 2))
   (aP (sO (oU (eZ (ao az aJ))) (aO 3))
   (aP (rP (i:=4) trivial (dD aJ))
   (aP (JV (Ex gW (nF az) (oU (eZ (ao az aJ)))) (aO 5)
    (aP (bN (cz (ao (aC aF.up lK (aC aF.up gW (ak 1) az) az) (ao (aC aF.up lK (aC aF.up gW (aC aF.up DY az (ak 5)) (ak 3)) az) aJ))) (aO 6))
    (VP (Qc (Ex Le (oU (eZ (ao az aJ))) (nF az)))
     (JW (i:=4) (Ii (dH (nF cj) (dH (nF (ak 6)) (dH (Br (dH (nF (ak 1)) (dH (oU (eZ (ao az aJ))) pX))) pX)))))
     (aP (rP (i:=7) trivial (JL az))
     (aP (rP (i:=8) trivial (dD aJ))
     (aP (JV (Ex gW (nF az) (oU (eZ (ao az aJ)))) (aO 9)
      (aP (S6 (g:=10) (i:=7) (oU (eZ (ao (gZ oH (bc 7)) aJ))))
      (JW (i:=8) (Ii (dH (nF (cz (ao (ak 1) (ao (ak 10) aJ)))) (dH (Br (dH (nF (ak 1)) (dH (oU (eZ (ao az aJ))) pX))) pX))))))
     (Av (vZ (ao cj (ao (ak 6) (ao (gZ Uw (lH 8)) aJ)))))))))))
   (Hu 4 hio (bU (vZ (ao (ak 2) (ao (ak 4) aJ))))))))))
theorem zX:aU ["_law_pool_here","_law_wide"] ["_law_pool_here"] (aM (top 36)):=by walk_at "s"
theorem Mv(T:Txt mg)(D:cI K mg "_law_size" (top 36) ["_law_pool_here"]){d:Ads}(Z:Xt K mg d)(cg:FnAt P w K mg base "_law_take" 1 ["_law_pool_here","_law_many"] (spR K 0 bF)):FnAt P w K mg base "_law_size" 2 ["_law_pool_here"] (spG K kh):=by
 refine D.ok zX (λvs H Q E h=>J0 h λps r e=>match ps,e with|[_],_=>rfl) (λf cdv A outer s H vs Q E hr h=>?_)
 refine⟨_,(aB (bj (i:=1) zX.nd rfl (Or.inl rfl) (aY cZ aA (aQ cg (hr.mono (by decide)) rfl (aj (pv 0) (aj aA aq)))))
   (aG (bh (jd (aj (pv 1) (aj (aY cZ aA (aQ cg (hr.mono (by decide)) rfl (aj (pv 0) (aj aA aq)))) aq)))))),J1 (b:=j9) (k:=1) (n:=1) rfl (λps r e=>match ps,e with|[_],e=>⟨rfl,e⟩) h λio H0 F0 hio=>?_⟩
 exact(aP (sO (Ex gW (nF az) (oU (eZ (ao az aJ)))) (aO 1))
   (S5 (Ii (dH (nF (ak 1)) (dH (Ex gW (nF az) (oU (eZ (ao az aJ)))) pX)))))
theorem fJ:aU ["_law_bench_here","_law_numbers","_law_colour_here","_law_number","_law_ink","_law_pairs"] ["_law_bench_here","_law_numbers"] (aM (top 39)):=by walk_at "s"
theorem Gs(T:Txt mg)(D:cI K mg "_law_colour" (top 39) ["_law_bench_here","_law_numbers"]){d:Ads}(Z:Xt K mg d):FnAt P w K mg base "_law_colour" 1 ["_law_bench_here","_law_numbers"] (spM K XR0 iK):=by
 refine D.ok fJ (λvs H Q E h=>c7 h λps r e=>match ps,e with|[_,_],_=>rfl) (λf cdv A outer s H vs Q E hr h=>?_)
 refine⟨_,(aB (bj (i:=2) fJ.nd rfl (Or.inr rfl) (bD aW (pv 0) aA (λ_ _=>rfl)))
   (aB (jD ZaS rfl (jr (pv 1)) (dq (i:=3) fJ.nd rfl (Or.inl rfl))
    (aB (bj (i:=4) fJ.nd rfl (Or.inl rfl) (bD aW (bD aW (pv 0) aA (λ_ _=>rfl)) (pv 3) (λ_ _=>rfl)))
    (aG (dR (bu (dF hr) (bD aW (pv 4) aA (λ_ _=>rfl)) cB (bJ _))
     (aG (bj (i:=2) fJ.nd rfl (Or.inr rfl) (bD aW (pv 4) aA (λ_ _=>rfl))))
     (aB (Jv (i:=5) ["_law_pair","_law_colour_here"] [none,some 2] rfl fJ.nd rfl rfl (jr (bD aW (pv 4) aA (λ_ _=>rfl))) (λ_ _ _ _ _=>(eU (i:=0) (by decide +kernel) rfl rfl)) (λ_ _ _ _ _=>(Aj (bu (Bb hr) (bD JH (pvl 0) aA (λ_ _=>rfl)) (pvf 1) (bJ _)))) (λ_ _ _ _ _=>(pvl 0)))
     (aG (dR (bu (wg hr) (pv 5) (di aq) (bJ _))
      (aG (bj (i:=2) fJ.nd rfl (Or.inr rfl) (bD aW (bD aW (pv 5) aA (λ_ _=>rfl)) aA (λ_ _=>rfl))))
      bQ)))))))
   (aG (bh (pv 2))))),dw (b:=iJ) (k:=2) (n:=4) rfl (λps r e=>match ps,e with|[_,_],e=>⟨rfl,e⟩) h λio H0 F0 hio=>?_⟩
 exact(aP (bN (aC aF.up cW (ak 0) az) (aO 2))
   (aP (oF (jX (ak 1)) (aO 3)
    (aP (bN (aC aF.up cW (aC aF.up cW (ak 0) az) (ak 3)) (aO 4))
    (eN (bf (aC aH.up jR (bA (aC aF.up cW (ak 4) az)) (bA cj)))
     (bN (aC aF.up cW (ak 4) az) (aO 2))
     (aP (bN (cC (jY (jX (aC aF.up cW (ak 4) az)) (aO 0) (gY 0) (bf (aC aH.up jR (bA (aC aF.up cW (ak 0) az)) (bc 1))) (ak 0))) (aO 5))
     (eN (bf (aC aH.up O4 (bc 5) (bA (cC (dD aJ)))))
      (bN (aC aF.up cW (aC aF.up cW (ak 5) az) az) (aO 2))
      bT)))))
   (bU (ak 2))))
theorem fY:aU ["_law_bench_here","_law_size_here","_law_states_here","_law_rows","_law_row","_law_words","_law_column","_law_place"] ["_law_bench_here","_law_size_here","_law_states_here"] (aM (top 40)):=by walk_at "s"
theorem CV(T:Txt mg)(D:cI K mg "_law_picture" (top 40) ["_law_bench_here","_law_size_here","_law_states_here"]){d:Ads}(Z:Xt K mg d)(yN:FnAt P w K mg base "_law_colour" 1 ["_law_bench_here","_law_numbers"] (spM K XR0 iK)):FnAt P w K mg base "_law_picture" 2 ["_law_bench_here","_law_size_here","_law_states_here"] (spM K XR0 fC):=by
 refine D.ok fY (λvs H Q E h=>c7 h λps r e=>match ps,e with|[_,_,_],_=>rfl) (λf cdv A outer s H vs Q E hr h=>?_)
 refine⟨_,(aB (bj (i:=3) fY.nd rfl (Or.inl rfl) (di aq))
   (aB (jD ZaS rfl (dC rfl T.fZ (aj (bD aW (pv 1) aA (λ_ _=>rfl)) aq)) (dq (i:=4) fY.nd rfl (Or.inl rfl))
    (aB (bj (i:=5) fY.nd rfl (Or.inl rfl) (di aq))
    (aB (jD ZaS rfl (dC rfl T.fZ (aj (bD aW (pv 1) aA (λ_ _=>rfl)) aq)) (dq (i:=6) fY.nd rfl (Or.inl rfl))
     (aB (bj (i:=7) fY.nd rfl (Or.inr rfl) (aY cZ (aY rQ (pv 4) (bD aW (pv 1) aA (λ_ _=>rfl))) (pv 6)))
     (aG (eF (vP ZaP ZaX PySem.F.type_list_append iB (pv 5) (aj (aQ yN (hr.mono (by decide)) rfl (aj (pv 0) (aj (jV ["_law_k","_law_place","_law_states_here"] [none,some 7,some 2] rfl (dC rfl T.fZ (aj (bz eQ rfl T.pG (by decide +kernel) (aj (pv 2) aq)) aq)) (λ_ _ _ _ _=>(eU (i:=0) (by decide +kernel) rfl rfl)) (λ_ _ _ _ _=>(Aj (bu (Bb hr) (aY Nj (aY Ni (bD JH (pvf 2) (pvl 0) (λ_ _=>rfl)) (pvf 1)) aA) aA (bJ _)))) (λ_ _ _ _ _=>(pvl 0))) aq))) aq))))))
    (aG (eF (vP ZaP ZaX PySem.F.type_list_append iB (pv 3) (aj (pv 5) aq)))))))
   (aG (bh (pv 3))))),dw (b:=iw) (k:=3) (n:=5) rfl (λps r e=>match ps,e with|[_,_,_],e=>⟨rfl,e⟩) h λio H0 F0 hio=>?_⟩
 exact(aP (rP (i:=3) trivial (dD aJ))
   (aP (oF (jt (ao (aC aF.up cW (ak 1) az) aJ)) (aO 4)
    (aP (rP (i:=5) trivial (dD aJ))
    (aP (oF (jt (ao (aC aF.up cW (ak 1) az) aJ)) (aO 6)
     (aP (bN (aC aF.up gW (aC aF.up DY (ak 4) (aC aF.up cW (ak 1) az)) (ak 6)) (aO 7))
     (Av (cz (ao (ak 0) (ao (cC (jY (jt (ao (gZ oH (bc 2)) aJ)) (aO 0) (gY 0) (bf (aC aH.up jR (bA (aC aF.up Uu (aC aF.up Ut (aC aF.up cW (ak 2) (ak 0)) (ak 1)) az)) (bA az))) (ak 0))) aJ))))))
    (Hu 5 hio (Av (ak 5))))))
   (Hu 3 hio (bU (ak 3)))))
theorem qg:aU ["_law_size_here","_law_found","_law_k"] ["_law_size_here"] (aM (top 42)):=by walk_at "s"
theorem Mw(T:Txt mg)(D:cI K mg "_law_full" (top 42) ["_law_size_here"]){d:Ads}(Z:Xt K mg d):FnAt P w K mg base "_law_full" 1 ["_law_size_here"] (spM K XR0 km):=by
 refine D.ok qg (λvs H Q E h=>c7 h λps r e=>match ps,e with|[_],_=>rfl) (λf cdv A outer s H vs Q E hr h=>?_)
 refine⟨_,(aB (bj (i:=1) qg.nd rfl (Or.inl rfl) aA)
   (aB (jD ZaS rfl (dC rfl T.fZ (aj (aY rQ (bD aW (pv 0) aA (λ_ _=>rfl)) (bD aW (pv 0) aA (λ_ _=>rfl))) aq)) (dq (i:=2) qg.nd rfl (Or.inl rfl))
    (aG (bj (i:=1) qg.nd rfl (Or.inl rfl) (aY WD (pv 1) (aY Nh aA (pv 2))))))
   (aG (bh (pv 1))))),dw (b:=kj) (k:=1) (n:=2) rfl (λps r e=>match ps,e with|[_],e=>⟨rfl,e⟩) h λio H0 F0 hio=>?_⟩
 exact(aP (bN az (aO 1))
   (aP (oF (jt (ao (aC aF.up DY (aC aF.up cW (ak 0) az) (aC aF.up cW (ak 0) az)) aJ)) (aO 2)
    (bN (aC aF.up Yd (ak 1) (aC aF.up Us az (ak 2))) (aO 1)))
   (bU (ak 1))))
theorem zY:aU ["_law_error","_law_seen"] ["_law_error"] (aM (top 43)):=by walk_at "s"
theorem Mx(T:Txt mg)(D:cI K mg "_law_kind" (top 43) ["_law_error"]){d:Ads}(Z:Xt K mg d):FnAt P w K mg base "_law_kind" 1 ["_law_error"] (spM K XR0 fD):=by
 refine D.ok zY (λvs H Q E h=>c7 h λps r e=>match ps,e with|[_],_=>rfl) (λf cdv A outer s H vs Q E hr h=>?_)
 refine⟨_,(aB (dR (mz (bz (jK (T:=.ref d.x_Wrong) (Tv:=.ref d.x_Wrong) rfl (λ_ h=>h)) rfl T.cN (by decide +kernel) (aj (pv 0) (aj (zH rfl Z.g_Wrong) aq))))
    (aG (bh (di (aj cB (aj (Et K rfl (pv 0) rfl) (aj (Et K rfl (pv 0) rfl) aq))))))
    bQ)
   (aB (bj (i:=1) zY.nd rfl (Or.inl rfl) (di (aj (bz (jK (T:=.ref d.x_NoName) (Tv:=.ref d.x_NoName) rfl (λ_ h=>h)) rfl T.cN (by decide +kernel) (aj (pv 0) (aj (zH rfl Z.g_NoName) aq))) (aj (bz (jK (T:=.ref d.x_Twice) (Tv:=.ref d.x_Twice) rfl (λ_ h=>h)) rfl T.cN (by decide +kernel) (aj (pv 0) (aj (zH rfl Z.g_Twice) aq))) (aj (bz (jK (T:=.ref d.x_Order) (Tv:=.ref d.x_Order) rfl (λ_ h=>h)) rfl T.cN (by decide +kernel) (aj (pv 0) (aj (zH rfl Z.g_Order) aq))) (aj (bz (jK (T:=.ref d.x_NoStroke) (Tv:=.ref d.x_NoStroke) rfl (λ_ h=>h)) rfl T.cN (by decide +kernel) (aj (pv 0) (aj (zH rfl Z.g_NoStroke) aq))) aq))))))
   (aG (bh (aY JC (di (aj (GP (bz (jK (T:=.ref d.x_BlockError) (Tv:=.ref d.x_BlockError) rfl (λ_ h=>h)) rfl T.cN (by decide +kernel) (aj (pv 0) (aj (zH rfl Z.g_BlockError) aq))) (GK (bz (jK (T:=.ty "ValueError") (Tv:=.type "ValueError") rfl (λ_ h=>h)) rfl T.cN (by decide +kernel) (aj (pv 0) (aj (N6 rfl T.CW (n:="ValueError") (by decide +kernel)) aq))))) aq)) (pv 1)))))),dw (b:=uV) (k:=1) (n:=1) rfl (λps r e=>match ps,e with|[_],e=>⟨rfl,e⟩) h λio H0 F0 hio=>?_⟩
 exact(aP (eN (mH (qY (T:=.ref d.x_Wrong) (Gj Z) Z.no_Wrong (bc 0)))
    (bU (cC (dD (ao cj (ao (JS (Cv Z) (ak 0)) (ao (JS (Mm Z) (ak 0)) aJ))))))
    bT)
   (aP (bN (cC (dD (ao (qY (T:=.ref d.x_NoName) (Cu Z) Z.no_NoName (bc 0)) (ao (qY (T:=.ref d.x_Twice) (Gi Z) Z.no_Twice (bc 0)) (ao (qY (T:=.ref d.x_Order) (Gh Z) Z.no_Order (bc 0)) (ao (qY (T:=.ref d.x_NoStroke) (xO Z) Z.no_NoStroke (bc 0)) aJ)))))) (aO 1))
   (bU (cC (Ul aV.up Uv (pN (dD (ao (Hr (qY (T:=.ref d.x_BlockError) (uz Z) Z.no_BlockError (bc 0)) (qY (T:=.ty "ValueError") (uA Z) Z.nob_ValueError (bc 0))) aJ))) (lH 1))))))
theorem Q7:aU ["_law_word_here"] ["_law_word_here"] (aM (top 44)):=by walk_at "s"
theorem Q8(T:Txt mg)(D:cI K mg "_law_due" (top 44) ["_law_word_here"]){d:Ads}(Z:Xt K mg d):FnAt P w K mg base "_law_due" 1 ["_law_word_here"] (spO K XR0 gG):=by
 refine D.ok Q7 (λvs H Q E h=>pQ h λps r e=>match ps,e with|[_],_=>rfl) (λf cdv A outer s H vs Q E hr h=>?_)
 refine⟨_,(aB (dR (bu (dF hr) (pv 0) cB (bJ _))
    (aG (bh (di (aj m7 (aj m7 (aj m7 (aj m7 (aj m7 aq))))))))
    bQ)
   (aG (bh (aY JC (di (aj m7 aq)) (jV ["_law_one","_law_word_here"] [none,some 0] rfl (jr (di (aj cB (aj cB (aj cB (aj cB aq)))))) (λ_ _ _ _ _=>(eU (i:=0) (by decide +kernel) rfl rfl)) (λ_ _ _ _ _=>tZ) (λ_ _ _ _ _=>(jT (Bb hr) (pvf 1) (pvl 0) (bJ _)))))))),vp (b:=xr) (k:=1) (n:=0) rfl (λps r e=>match ps,e with|[_],e=>⟨rfl,e⟩) h λio H0 F0 hio=>?_⟩
 exact(aP (eN (bf (aC aH.up jR (bc 0) (bA cj)))
    (jW (dD (ao nq (ao nq (ao nq (ao nq (ao nq aJ)))))))
    bT)
   (jW (Ul aV.up Uv (pN (dD (ao nq aJ))) (pN (jY (jX (cC (dD (ao cj (ao cj (ao cj (ao cj aJ))))))) (aO 0) (gY 0) ue (aC aH.up jR (bc 1) (bc 0)))))))
theorem gM:aU ["_law_shop","_law_way","_law_name","_law_error","_law_found","e"] ["_law_shop","_law_way","_law_name"] (aM (top 45)):=by walk_at "s"
theorem My(T:Txt mg)(D:cI K mg "_law_done" (top 45) ["_law_shop","_law_way","_law_name"]){d:Ads}(Z:Xt K mg d)(CZ:MethAt P w K mg base d.x_Shop "block" 4 ["self","name"] (spW K bW))(Dc:MethAt P w K mg base d.x_Shop "sheet" 4 ["self","name"] (spW K bY))(De:MethAt P w K mg base d.x_Shop "spoil" 4 ["self","name"] (spW K bZ))(Gx:MethAt P w K mg base d.x_Shop "wood" 4 ["self","name"] (spD K (XRS K) cD))(Df:MethAt P w K mg base d.x_Shop "shows" 6 ["self","sheet"] (spD K (XRS K) b7))(Dg:MethAt P w K mg base d.x_Shop "lacks" 4 ["self","sheet"] (spD K (XRS K) b8))(Gy:FnAt P w K mg base "_law_kind" 1 ["_law_error"] (spM K XR0 fD)):FnAt P w K mg base "_law_done" 7 ["_law_shop","_law_way","_law_name"] (spW K dh):=by
 refine D.ok gM (λvs H Q E h=>sS h λps r e=>match ps,e with|[_,_,_],_=>rfl) (λf cdv A outer s H vs Q E hr h=>?_)
 refine⟨_,(aB (bj (i:=3) gM.nd rfl (Or.inl rfl) M4)
   (aB (bj (i:=4) gM.nd rfl (Or.inl rfl) M4)
   (aB (VL rfl rfl (sX (bu (dF hr) (pv 1) aA (bJ _))
    (uo (jA CZ Z.o_Shop.cl (hr.mono (by decide)) (pv 0) (aj (pv 2) aq)))
    (sX (bu (dF hr) (pv 1) aA (bJ _))
    (uo (jA Dc Z.o_Shop.cl (hr.mono (by decide)) (pv 0) (aj (pv 2) aq)))
    (sX (bu (dF hr) (pv 1) aA (bJ _))
    (uo (jA De Z.o_Shop.cl (hr.mono (by decide)) (pv 0) (aj (pv 2) aq)))
    (sX (bu (dF hr) (pv 1) aA (bJ _))
    (wM (i:=4) gM.nd rfl (Or.inl rfl) (jA Gx Z.o_Shop.cl (hr.mono (by decide)) (pv 0) (aj (pv 2) aq)))
    (sX (bu (dF hr) (pv 1) aA (bJ _))
    (wM (i:=4) gM.nd rfl (Or.inl rfl) (jA Df Z.o_Shop.cl (hr.mono (by decide)) (pv 0) (aj (pv 2) aq)))
    (wM (i:=4) gM.nd rfl (Or.inl rfl) (jA Dg Z.o_Shop.cl (hr.mono (by decide)) (pv 0) (aj (pv 2) aq))))))))
    (Xx rfl Z.g_BlockError Z.ca_BlockError gM.nd (i:=5) rfl rfl (λ_=>(aG (bj (i:=3) gM.nd rfl (Or.inl rfl) (pv 5)))) VJ))
   (aG (bh (jd (aj (aQ Gy (hr.mono (by decide)) rfl (aj (pv 3) aq)) (aj (pv 4) aq)))))))),Qg (b:=dN) (k:=2) (n:=3) rfl (λps r e=>match ps,e with|[_,_,_],e=>⟨_,_,rfl,rfl,e⟩) h λio H0 F0 hio=>?_⟩
 exact(wR (Bf Oq (wH 3 (by decide)))
   (wR (Bf Oq (wH 4 (by decide)))
   (wR (Qp (tu (bf (aC aH.up jR (bc 1) (bA az)))
    (Ip (ur (i:=0) Z.o_Shop trivial (ao (ak 2) aJ)))
    (tu (bf (aC aH.up jR (bc 1) (bA az)))
    (Ip (ur (i:=0) Z.o_Shop trivial (ao (ak 2) aJ)))
    (tu (bf (aC aH.up jR (bc 1) (bA az)))
    (Ip (ur (i:=0) Z.o_Shop trivial (ao (ak 2) aJ)))
    (tu (bf (aC aH.up jR (bc 1) (bA az)))
    (xg (i:=0) (g:=4) Z.o_Shop (by decide) (ao (ak 2) aJ))
    (tu (bf (aC aH.up jR (bc 1) (bA az)))
    (xg (i:=0) (g:=4) Z.o_Shop (by decide) (ao (ak 2) aJ))
    (xg (i:=0) (g:=4) Z.o_Shop (by decide) (ao (ak 2) aJ)))))))
    (V0 (by decide) Z.n_BlockError (uy Z) (Bf (ak 5) (wH 3 (by decide))) Tf))
   (Qf (vZ (ao (cz (ao (ak 3) aJ)) (ao (ak 4) aJ)))))))
theorem Mz:aU ["_law_way","_law_name","_law_good","_law_there"] ["_law_way","_law_name","_law_good","_law_there"] (aM (top 46)):=by walk_at "s"
theorem MF(T:Txt mg)(D:cI K mg "_law_told" (top 46) ["_law_way","_law_name","_law_good","_law_there"]){d:Ads}(Z:Xt K mg d):FnAt P w K mg base "_law_told" 1 ["_law_way","_law_name","_law_good","_law_there"] (spM K XR0 fG):=by
 refine D.ok Mz (λvs H Q E h=>c7 h λps r e=>match ps,e with|[_,_,_,_],_=>rfl) (λf cdv A outer s H vs Q E hr h=>?_)
 refine⟨_,(aB (dR (PW.pt (qN (bu uc (pv 0) aA (bJ _)) (mD (nZ (mz (pv 2))))))
    (aG (bh cB))
    bQ)
   (aB (dR (PW.pt (qN (bu uc (pv 0) aA (bJ _)) (mD (bu (Pj hr) (pv 1) (bD aW (pv 3) (pv 0) (λ_ _=>rfl)) (by with_unfolding_all rfl)))))
    (aG (bh cB))
    bQ)
   (aB (dR (PW.pt (Jm (PW.pt (qN (bu (dF hr) (pv 0) aA (bJ _)) (mD (bu (pU hr) (pv 1) (bD aW (pv 3) aA (λ_ _=>rfl)) (by with_unfolding_all rfl))))) (Ac (PW.pt (qN (bu (Oz hr) (pv 0) (jd (aj aA (aj aA (aj aA aq)))) (by with_unfolding_all rfl)) (mD (bu (pU hr) (pv 1) (bD aW (pv 3) aA (λ_ _=>rfl)) (by with_unfolding_all rfl))))))))
    (aG (bh cB))
    bQ)
   (aG (bh cB))))),dw (b:=gK) (k:=4) (n:=0) rfl (λps r e=>match ps,e with|[_,_,_,_],e=>⟨rfl,e⟩) h λio H0 F0 hio=>?_⟩
 exact(aP (eN (qP (bf (aC aF.up Le (ak 0) az)) (ou (mH (ak 2))))
    (bU cj)
    bT)
   (aP (eN (qP (bf (aC aF.up Le (ak 0) az)) (bf (aC aF.up Uy (ak 1) (dG (aC aF.up cW (ak 3) (ak 0))))))
    (bU cj)
    bT)
   (aP (eN (Jz (qP (bf (aC aH.up jR (bc 0) (bA az))) (bf (aC aF.up rU (ak 1) (dG (aC aF.up cW (ak 3) az))))) (qP (bf (aC aH.up Xi (bc 0) (bA (vZ (ao az (ao az (ao az aJ))))))) (bf (aC aF.up rU (ak 1) (dG (aC aF.up cW (ak 3) az))))))
    (bU cj)
    bT)
   (bU cj))))
theorem pF:aU ["_law_shop","_law_there","_law_found","_law_due_here"] ["_law_shop","_law_there"] (aM (top 47)):=by walk_at "s"
theorem Gu(T:Txt mg)(D:cI K mg "_law_stands" (top 47) ["_law_shop","_law_there"]){d:Ads}(Z:Xt K mg d)(iQ:MethAt P w K mg base d.x_Shop "blocks" 3 ["self"] (spO K (XRS K) cQ))(iR:MethAt P w K mg base d.x_Shop "sheets" 3 ["self"] (spO K (XRS K) cR)):FnAt P w K mg base "_law_stands" 4 ["_law_shop","_law_there"] (spM K XR0 gw):=by
 refine D.ok pF (λvs H Q E h=>c7 h λps r e=>match ps,e with|[_,_],_=>rfl) (λf cdv A outer s H vs Q E hr h=>?_)
 refine⟨_,(aB (jD ZaS rfl (jr (di (aj (jd (aj (jz pY iQ Z.o_Shop.cl (hr.mono (by decide)) (pv 0)) (aj (bz (dY rfl) rfl T.mq (by decide +kernel) (aj (bD aW (pv 1) aA (λ_ _=>rfl)) aq)) aq))) (aj (jd (aj (jz pY iR Z.o_Shop.cl (hr.mono (by decide)) (pv 0)) (aj (bz (dY rfl) rfl T.mq (by decide +kernel) (aj (bD aW (pv 1) aA (λ_ _=>rfl)) aq)) aq))) aq)))) (Ad (n:=2) rfl (iT (dq (i:=2) pF.nd rfl (Or.inl rfl)) (iT (dq (i:=3) pF.nd rfl (Or.inl rfl)) vh)))
    (aB (dR (PW.pt (Jm (nZ (mz (bz Ed rfl T.cN (by decide +kernel) (aj (pv 2) (aj (N6 rfl T.xY (n:="list") (by decide +kernel)) aq))))) (Ac (bu (wg hr) (pv 2) (pv 3) (bJ _)))))
     (aG (bh m7))
     bQ)
    (aG (eF (vP ZaP ZaX PySem.F.type_list_append iB (pv 2) (aj cB aq))))))
   (aG (bh (GP (jT (dF hr) (jz pY iQ Z.o_Shop.cl (hr.mono (by decide)) (pv 0)) (bz (dY rfl) rfl T.mq (by decide +kernel) (aj (bD aW (pv 1) aA (λ_ _=>rfl)) aq)) (bJ _)) (GK (jT (dF hr) (jz pY iR Z.o_Shop.cl (hr.mono (by decide)) (pv 0)) (bz (dY rfl) rfl T.mq (by decide +kernel) (aj (bD aW (pv 1) aA (λ_ _=>rfl)) aq)) (bJ _))))))),dw (b:=iM) (k:=2) (n:=2) rfl (λps r e=>match ps,e with|[_,_],e=>⟨rfl,e⟩) h λio H0 F0 hio=>?_⟩
 exact(aP (Qo (a:=2) (b:=3) hio (gq (Bg (gq (wI (jB Z.o_Shop (ak 0) aJ)) (gq (wI (mJ lL (dG (aC aF.up cW (ak 1) az)))) sr))) (gq (Bg (gq (wI (jB Z.o_Shop (ak 0) aJ)) (gq (wI (mJ lL (dG (aC aF.up cW (ak 1) az)))) sr))) sr)) (λ_ _=>
    (aP (eN (Jz (ou (mH (Pb aH.up Xl (bc 2) Uk))) (bf (aC aH.up O4 (bc 2) (bc 3))))
     (bU nq)
     bT)
    (Av cj))))
   (bU (Hr (aC aH.up jR (bA (cC (jB Z.o_Shop (ak 0) aJ))) (bA (cC (mJ lL (dG (aC aF.up cW (ak 1) az)))))) (aC aH.up jR (bA (cC (jB Z.o_Shop (ak 0) aJ))) (bA (cC (mJ lL (dG (aC aF.up cW (ak 1) az)))))))))
theorem gj:aU ["_law_script","_law_bench_here","_law_size_here","_law_shop","_law_beside","_law_names","_law_there","_law_cell","_law_name","_law_good","_law_way","_law_kind_here","_law_found","_law_due_here","_law_told_here"] ["_law_script"] (aM (top 48)):=by walk_at "s"
theorem Wq(T:Txt mg){f:Addr}{fd:FuncData}(F:Fun K "law" "law" (top 48) f fd){d:Ads}(Z:Xt K mg d)(Dh:FnAt P w K mg base "_law_bench" 2 ["_law_pool_here"] (spG K iu))(uX:FnAt P w K mg base "_law_pool" 1 ["_law_script","_law_k"] (spO K XR0 gJ))(Gz:FnAt P w K mg base "_law_size" 2 ["_law_pool_here"] (spG K kh))(nU:Im P w K mg base d.x_Shop 1 ["self","bench","size","states"] (spW K dg))(pI:FnAt P w K mg base "_law_cell_at" 1 ["_law_script","_law_k"] (spM K XR0 fB))(GC:FnAt P w K mg base "_law_done" 7 ["_law_shop","_law_way","_law_name"] (spW K dh))(GD:FnAt P w K mg base "_law_told" 1 ["_law_way","_law_name","_law_good","_law_there"] (spM K XR0 fG))(Ji:FnAt P w K mg base "_law_due" 1 ["_law_word_here"] (spO K XR0 gG))(GF:FnAt P w K mg base "_law_full" 1 ["_law_size_here"] (spM K XR0 km))(yc:FnAt P w K mg base "_law_picture" 2 ["_law_bench_here","_law_size_here","_law_states_here"] (spM K XR0 fC))(yO:FnAt P w K mg base "_law_stands" 4 ["_law_shop","_law_there"] (spM K XR0 gw))(iQ:MethAt P w K mg base d.x_Shop "blocks" 3 ["self"] (spO K (XRS K) cQ))(iR:MethAt P w K mg base d.x_Shop "sheets" 3 ["self"] (spO K (XRS K) cR)):iU P w K mg base CX0 8 f fd ["_law_script"] (spM K XR0 zQ):=by
 refine F.ok gj (λvs H Q E h=>c7 h λps r e=>match ps,e with|[_],_=>rfl) (λcdv A outer s H vs Q E hr h=>?_)
 refine⟨_,(aB (bj (i:=1) gj.nd rfl (Or.inl rfl) (aQ Dh (hr.mono (by decide)) rfl (aj (aQ uX (hr.mono (by decide)) rfl (aj (pv 0) (aj aA aq))) aq)))
   (aB (bj (i:=2) gj.nd rfl (Or.inl rfl) (aQ Gz (hr.mono (by decide)) rfl (aj (aQ uX (hr.mono (by decide)) rfl (aj (pv 0) (aj aA aq))) aq)))
   (aB (bj (i:=3) gj.nd rfl (Or.inl rfl) (Ff nU (hr.mono (by decide)) rfl Z.g_Shop (aj (pv 1) (aj (pv 2) (aj (aY Hl (di (aj aA aq)) (bz eQ rfl T.pG (by decide +kernel) (aj (bD aW (pv 1) aA (λ_ _=>rfl)) aq))) aq)))))
   (aB (bj (i:=4) gj.nd rfl (Or.inl rfl) (Ff nU (hr.mono (by decide)) rfl Z.g_Shop (aj (pv 1) (aj (pv 2) (aj (aY Hl (di (aj aA aq)) (bz eQ rfl T.pG (by decide +kernel) (aj (bD aW (pv 1) aA (λ_ _=>rfl)) aq))) aq)))))
   (aB (Jv (i:=5) ["_law_sign","_law_script"] [none,some 0] rfl gj.nd rfl rfl (jr cB) (λ_ _ _ _ _=>(eU (i:=0) (by decide +kernel) rfl rfl)) (λ_ _ _ _ _=>tZ) (λ_ _ _ _ _=>(aY Ef (aY Ef (lE vU cB pK (pL (aY iz (aQ pI (hr.mono (by decide)) (glc rfl) (aj (pvf 1) (aj aA aq))) aA))) (pvl 0)) (lE vU cB (pL (aY iz (aQ pI (hr.mono (by decide)) (glc rfl) (aj (pvf 1) (aj aA aq))) aA)) pK))))
   (aB (bj (i:=6) gj.nd rfl (Or.inl rfl) (jd (aj n6 (aj n6 aq))))
   (aB (jD ZaS rfl (jr (lE RJ (pv 0) pK (pL aA))) (dq (i:=7) gj.nd rfl (Or.inl rfl))
    (aB (bj (i:=8) gj.nd rfl (Or.inl rfl) (bD aW (pv 5) (aY iz (aY vm (pv 7) aA) aA) (λ_ _=>rfl)))
    (aB (bj (i:=9) gj.nd rfl (Or.inl rfl) (jT (wg hr) (aY iz (aY vm (pv 7) aA) aA) aA (bJ _)))
    (aB (dR (nZ (mz (pv 9)))
     (aG (bj (i:=8) gj.nd rfl (Or.inl rfl) (bD aW (di (aj cB (aj (aY cZ (pv 8) (pv 8)) (aj (Vq PySem.F.plainAttrs_str PySem.F.slot_str_upper PySem.F.type_str_upper Qt (pv 8)) (aj (aY cZ (pv 8) cB) (aj (aY cZ (lE vU (pv 8) pK (pL aA)) cB) aq)))))) (aY iz (aY vm (pv 7) aA) aA) (λ_ _=>rfl))))
     bQ)
    (aB (bj (i:=10) gj.nd rfl (Or.inl rfl) (aY iz (pv 7) aA))
    (aB (M6 (aQ GC (hr.mono (by decide)) rfl (aj (pv 3) (aj (pv 10) (aj (pv 8) aq)))) (Ad (n:=2) rfl (iT (dq (i:=11) gj.nd rfl (Or.inl rfl)) (iT (dq (i:=12) gj.nd rfl (Or.inl rfl)) vh))))
    (aB (bj (i:=13) gj.nd rfl (Or.inl rfl) (aQ GD (hr.mono (by decide)) rfl (aj (pv 10) (aj (pv 8) (aj (pv 9) (aj (pv 6) aq))))))
    (aB (dR (bu (wg hr) (pv 11) (aQ Ji (hr.mono (by decide)) rfl (aj (pv 13) aq)) (bJ _))
     (aG (bh m7))
     bQ)
    (aB (dR (PW.pt (qN (bu (dF hr) (pv 13) cB (bJ _)) (mD (bu uc (pv 10) aA (bJ _)))))
     (aG (Al (uK hr) (bD aW (pv 6) (pv 10) (λ_ _=>rfl)) (pv 8) m7 rfl))
     bQ)
    (aB (dR (PW.pt (qN (bu (dF hr) (pv 13) cB (bJ _)) (mD (bu (dF hr) (pv 10) aA (bJ _)))))
     (aG (eF (Dv (bD aW (pv 6) aA (λ_ _=>rfl)) (pv 8) ⟨rfl,rfl,rfl,rfl⟩)))
     bQ)
    (aB (dR (PW.pt (qN (bu (dF hr) (pv 13) cB (bJ _)) (mD (bu WL (pv 10) aA (bJ _)))))
     (aB (bj (i:=14) gj.nd rfl (Or.inl rfl) (di (aj (aQ GF (hr.mono (by decide)) rfl (aj (pv 2) aq)) (aj (aQ yc (hr.mono (by decide)) rfl (aj (pv 1) (aj (pv 2) (aj (aY Hl (di (aj aA aq)) (bz eQ rfl T.pG (by decide +kernel) (aj (bD aW (pv 1) aA (λ_ _=>rfl)) aq))) aq)))) (aj (fK (zu rfl) rfl T.xY (by decide +kernel) (aj (fK zr rfl T.fZ (by decide +kernel) (aj (bz eQ rfl T.pG (by decide +kernel) (aj (bD aW (pv 1) aA (λ_ _=>rfl)) aq)) aq)) aq)) aq)))))
     (aG (dR (bu (wg hr) (pv 12) (bD aW (pv 14) (aY Nb (pv 10) aA) (λ_ _=>rfl)) (bJ _))
      (aG (bh m7))
      bQ)))
     bQ)
    (aG (dR (nZ (mz (aQ yO (hr.mono (by decide)) rfl (aj (pv 3) (aj (pv 6) aq)))))
     (aG (bh m7))
     bQ)))))))))))))
   (aG (bh (GP (jT (dF hr) (jz pY iQ Z.o_Shop.cl (hr.mono (by decide)) (pv 4)) (di aq) (bJ _)) (GK (jT (dF hr) (jz pY iR Z.o_Shop.cl (hr.mono (by decide)) (pv 4)) (di aq) (bJ _))))))))))))),dw (b:=Ke) (k:=1) (n:=14) rfl (λps r e=>match ps,e with|[_],e=>⟨rfl,e⟩) h λio H0 F0 hio=>?_⟩
 exact(aP (bN (J3 (vo (ao (ak 0) (ao az aJ))) aJ) (aO 1))
   (aP (bN (J3 (vo (ao (ak 0) (ao az aJ))) aJ) (aO 2))
   (aP (Bh (i:=3) trivial (J6 Z.nm_Shop (ao (ak 1) (ao (ak 2) (ao (cC (Hw (dD (ao az aJ)) (gZ oH (bA (aC aF.up cW (ak 1) az))))) aJ)))))
   (aP (Bh (i:=4) trivial (J6 Z.nm_Shop (ao (ak 1) (ao (ak 2) (ao (cC (Hw (dD (ao az aJ)) (gZ oH (bA (aC aF.up cW (ak 1) az))))) aJ)))))
   (aP (bN (cC (jY (jX cj) (aO 0) (gY 0) ue (aC aF.up gW (aC aF.up gW (ww cj pO (pP (aC aF.up lK (cz (ao (ak 1) (ao az aJ))) az))) (ak 0)) (ww cj (pP (aC aF.up lK (cz (ao (ak 1) (ao az aJ))) az)) pO)))) (aO 5))
   (aP (Bh (i:=6) trivial (Bg (gq (wK rW) (gq (wK rW) sr))))
   (aP (oF (jX (cC (VD (lH 0) pO (pP az)))) (aO 7)
    (aP (bN (aC aF.up cW (ak 5) (aC aF.up lK (aC aF.up JD (ak 7) az) az)) (aO 8))
    (aP (bN (aC aH.up O4 (bA (aC aF.up lK (aC aF.up JD (ak 7) az) az)) (bA az)) (aO 9))
    (aP (eN (ou (mH (ak 9)))
     (bN (aC aV.up O5 (pN (dD (ao cj (ao (aC aF.up gW (ak 8) (ak 8)) (ao (Qu (ak 8)) (ao (aC aF.up gW (ak 8) cj) (ao (aC aF.up gW (ww (ak 8) pO (pP az)) cj) aJ))))))) (aC aF.up lK (aC aF.up JD (ak 7) az) az)) (aO 8))
     bT)
    (aP (bN (aC aF.up lK (ak 7) az) (aO 10))
    (aP (sO (Tg (i:=3) trivial (ao (ak 10) (ao (ak 8) aJ))) (Hs (lJ (aO 11) (lJ (aO 12) Ao))))
    (aP (bN (Pu (i:=6) (cz (ao (ak 10) (ao (ak 8) (ao (ak 9) (ao (ak 6) aJ)))))) (aO 13))
    (aP (eN (bf (aC aH.up O4 (bc 11) (bA (cC (vo (ao (ak 13) aJ))))))
     (bU nq)
     bT)
    (aP (eN (qP (bf (aC aH.up jR (bc 13) (bA cj))) (bf (aC aF.up Le (ak 10) az)))
     (U0 (Fj (J8 sW (ak 10)) nq (ak 8)))
     bT)
    (aP (eN (qP (bf (aC aH.up jR (bc 13) (bA cj))) (bf (aC aH.up jR (bc 10) (bA az))))
     (U0 (Fo (J8 sW az) (ak 8)))
     bT)
    (aP (eN (qP (bf (aC aH.up jR (bc 13) (bA cj))) (bf (aC aF.up Ye (ak 10) az)))
     (aP (bN (cC (dD (ao (cz (ao (ak 2) aJ)) (ao (cz (ao (ak 1) (ao (ak 2) (ao (cC (Hw (dD (ao az aJ)) (gZ oH (bA (aC aF.up cW (ak 1) az))))) aJ)))) (ao (cC (JL (gZ oH (bA (aC aF.up cW (ak 1) az))))) aJ))))) (aO 14))
     (eN (bf (aC aH.up O4 (bc 12) (bA (aC aF.up cW (ak 14) (aC aF.up Uq (ak 10) az)))))
      (bU nq)
      bT))
     bT)
    (eN (UG (i:=6) (UG (i:=3) (ou (mH (cz (ao (ak 3) (ao (ak 6) aJ)))))))
     (bU nq)
     bT))))))))))))
   (bU (Pu (i:=4) (Hr (aC aH.up jR (bA (cC (jB Z.o_Shop (ak 4) aJ))) (bA (cC (dD aJ)))) (aC aH.up jR (bA (cC (jB Z.o_Shop (ak 4) aJ))) (bA (cC (dD aJ))))))))))))))
end
theorem Ws{l:PySem.W.OpenLaw}{w:World}{K:PySem.W.Frag}{h:Heap}{mg:Str->Option Value}{fa x_NoName x_Twice x_Shop x_Wrong x_Order x_NoStroke x_BlockError:Addr}{t_COVER t_LETTERS t_LONGEST_WORD:Tok}(X:K.In h)(G:h.Ns mainGlobals mg)(hfa:mg "law"=some (.ref fa))
  (m5:nsIn K mainGlobals "ValueError"=some none)(Ra:nsIn K mainGlobals "all"=some none)(Jj:nsIn K mainGlobals "dict"=some none)(pJ:nsIn K mainGlobals "enumerate"=some none)(m6:nsIn K mainGlobals "isinstance"=some none)(Rc:nsIn K mainGlobals "len"=some none)(Jk:nsIn K mainGlobals "list"=some none)(Di:nsIn K mainGlobals "range"=some none)(yd:nsIn K mainGlobals "sorted"=some none)(Rf:nsIn K mainGlobals "str"=some none)(Dj:nsIn K mainGlobals "tuple"=some none)(Dk:nsIn K mainGlobals "COVER"=some (some (.str "cover" t_COVER)))(uF:nsIn K mainGlobals "LETTERS"=some (some (.str "abcdefghijklmnopqrstuvwxyz" t_LETTERS)))(jQ:nsIn K mainGlobals "LONGEST_WORD"=some (some (.int 8 t_LONGEST_WORD)))(nx_NoName:nsIn K mainGlobals "NoName"=some (some (.ref x_NoName)))(nx_Twice:nsIn K mainGlobals "Twice"=some (some (.ref x_Twice)))(nx_Shop:nsIn K mainGlobals "Shop"=some (some (.ref x_Shop)))(nx_Wrong:nsIn K mainGlobals "Wrong"=some (some (.ref x_Wrong)))(nx_Order:nsIn K mainGlobals "Order"=some (some (.ref x_Order)))(nx_NoStroke:nsIn K mainGlobals "NoStroke"=some (some (.ref x_NoStroke)))(nx_BlockError:nsIn K mainGlobals "BlockError"=some (some (.ref x_BlockError)))(d0:DQ K "laid" (top 10))(d1:DQ K "colour_of" (top 11))(d2:DQ K "is_word" (top 15))(d3:DQ K "place_of" (top 17))(d4:DQ K "has_cell" (top 18))(d5:DQ K "all_of" (top 19))(d6:DQ K "stack_at" (top 21))(d7:DQ K "pressed_row" (top 22))(d8:DQ K "pressed" (top 23))(d9:DQ K "states_printed" (top 25))(d10:DQ K "check_new" (top 27))(d11:DQ K "check_there" (top 28))(d12:DQ K "_law_cell_at" (top 31))(d13:DQ K "_law_pool" (top 32))(d14:DQ K "_law_take" (top 33))(d15:DQ K "_law_word" (top 34))(d16:DQ K "_law_bench" (top 35))(d17:DQ K "_law_size" (top 36))(d18:DQ K "_law_colour" (top 39))(d19:DQ K "_law_picture" (top 40))(d20:DQ K "_law_full" (top 42))(d21:DQ K "_law_kind" (top 43))(d22:DQ K "_law_due" (top 44))(d23:DQ K "_law_done" (top 45))(d24:DQ K "_law_told" (top 46))(d25:DQ K "_law_stands" (top 47))(d26:DQ K "law" (top 48))(u_NoName:XQ K "NoName" x_NoName)(u_Twice:XQ K "Twice" x_Twice)(ca_BlockError:Catch K x_BlockError)(q_NoName_BlockError:PySem.W.subIn K (.ref x_NoName) (.ref x_BlockError)=some true)(q_Twice_BlockError:PySem.W.subIn K (.ref x_Twice) (.ref x_BlockError)=some true)(q_NoName_NoName:PySem.W.subIn K (.ref x_NoName) (.ref x_NoName)=some true)(q_Twice_NoName:PySem.W.subIn K (.ref x_Twice) (.ref x_NoName)=some false)(q_NoName_NoStroke:PySem.W.subIn K (.ref x_NoName) (.ref x_NoStroke)=some false)(q_Twice_NoStroke:PySem.W.subIn K (.ref x_Twice) (.ref x_NoStroke)=some false)(q_NoName_Order:PySem.W.subIn K (.ref x_NoName) (.ref x_Order)=some false)(q_Twice_Order:PySem.W.subIn K (.ref x_Twice) (.ref x_Order)=some false)(q_NoName_Twice:PySem.W.subIn K (.ref x_NoName) (.ref x_Twice)=some false)(q_Twice_Twice:PySem.W.subIn K (.ref x_Twice) (.ref x_Twice)=some true)(q_NoName_Wrong:PySem.W.subIn K (.ref x_NoName) (.ref x_Wrong)=some false)(q_Twice_Wrong:PySem.W.subIn K (.ref x_Twice) (.ref x_Wrong)=some false)(k_BlockError:KCl K x_BlockError)(qn_BlockError:PySem.W.subIn K (.type "NoneType") (.ref x_BlockError)=some false)(k_NoName:KCl K x_NoName)(qn_NoName:PySem.W.subIn K (.type "NoneType") (.ref x_NoName)=some false)(k_NoStroke:KCl K x_NoStroke)(qn_NoStroke:PySem.W.subIn K (.type "NoneType") (.ref x_NoStroke)=some false)(k_Order:KCl K x_Order)(qn_Order:PySem.W.subIn K (.type "NoneType") (.ref x_Order)=some false)(k_Twice:KCl K x_Twice)(qn_Twice:PySem.W.subIn K (.type "NoneType") (.ref x_Twice)=some false)(k_Wrong:KCl K x_Wrong)(qn_Wrong:PySem.W.subIn K (.type "NoneType") (.ref x_Wrong)=some false)(qb_NoName_ValueError:PySem.W.subIn K (.ref x_NoName) (.type "ValueError")=some true)(qb_Twice_ValueError:PySem.W.subIn K (.ref x_Twice) (.type "ValueError")=some true)(on_Shop:XNm K x_Shop "Shop")(oc_Shop:Cls K x_Shop)(oa_Shop_bench:PySem.W.findIn K (.ref x_Shop) "bench"=some none)(oa_Shop_size:PySem.W.findIn K (.ref x_Shop) "size"=some none)(oa_Shop_states:PySem.W.findIn K (.ref x_Shop) "states"=some none)(oa_Shop_woods:PySem.W.findIn K (.ref x_Shop) "woods"=some none)(oa_Shop_prints:PySem.W.findIn K (.ref x_Shop) "prints"=some none)(m_Shop___init__:∃ (f:Addr) (fd:FuncData),Mk K x_Shop f/\Fun K "__init__" "Shop.__init__" (inClass (top 29) 0) f fd)(m_Shop_block:MQ K x_Shop "block" "Shop.block" (inClass (top 29) 1))(m_Shop_sheet:MQ K x_Shop "sheet" "Shop.sheet" (inClass (top 29) 2))(m_Shop_spoil:MQ K x_Shop "spoil" "Shop.spoil" (inClass (top 29) 3))(m_Shop_wood:MQ K x_Shop "wood" "Shop.wood" (inClass (top 29) 6))(m_Shop_shows:MQ K x_Shop "shows" "Shop.shows" (inClass (top 29) 7))(m_Shop_blocks:MQ K x_Shop "blocks" "Shop.blocks" (inClass (top 29) 8))(m_Shop_sheets:MQ K x_Shop "sheets" "Shop.sheets" (inClass (top 29) 9))(m_Shop_lacks:MQ K x_Shop "lacks" "Shop.lacks" (inClass (top 29) 10)) :
  ∃ fd:FuncData,(∀ (s:Shared) (v:Value),BindsTo s fd ⟨[v],[]⟩ [("_law_script",v)])/\∀ base:Heap,K.In base->base.Ns mainGlobals mg->iU l.prog w K mg base CX0 8 fa fd ["_law_script"] (spM K XR0 zQ):=by
 obtain⟨_,fd,al,FL⟩:=d26;have e:=hfa.symm.trans (ZaU X G al);cases e;have T:Txt mg:=⟨trivial,ZaL X G m5,ZaL X G Ra,ZaL X G Jj,ZaL X G pJ,ZaL X G m6,ZaL X G Rc,ZaL X G Jk,ZaL X G Di,ZaL X G yd,ZaL X G Rf,ZaL X G Dj,⟨_,ZaU X G Dk⟩,⟨_,ZaU X G uF⟩,⟨_,ZaU X G jQ⟩⟩;have Z:Xt K mg ⟨x_NoName,x_Twice,x_Shop,x_Wrong,x_Order,x_NoStroke,x_BlockError⟩:=⟨u_NoName.use X G,u_Twice.use X G,⟨nx_Shop,oc_Shop⟩,on_Shop,oa_Shop_bench,oa_Shop_size,oa_Shop_states,oa_Shop_woods,oa_Shop_prints,nx_NoName,ZaU X G nx_NoName,nx_Twice,ZaU X G nx_Twice,nx_Shop,ZaU X G nx_Shop,nx_Wrong,ZaU X G nx_Wrong,nx_Order,ZaU X G nx_Order,nx_NoStroke,ZaU X G nx_NoStroke,nx_BlockError,ZaU X G nx_BlockError,ca_BlockError,⟨⟨_,_,nx_NoName,nx_BlockError,q_NoName_BlockError⟩,⟨_,_,nx_Twice,nx_BlockError,q_Twice_BlockError⟩,trivial⟩,fu k_BlockError qn_BlockError (λh=>by cases h),⟨⟨_,nx_NoName,u_NoName.xi,kY k_BlockError q_NoName_BlockError⟩,⟨_,nx_Twice,u_Twice.xi,kY k_BlockError q_Twice_BlockError⟩,trivial⟩,fu k_NoName qn_NoName (λh=>by cases h),⟨⟨_,nx_NoName,u_NoName.xi,kY k_NoName q_NoName_NoName⟩,⟨_,nx_Twice,u_Twice.xi,kF k_NoName u_Twice.sf q_Twice_NoName⟩,trivial⟩,fu k_NoStroke qn_NoStroke (λh=>by cases h),⟨⟨_,nx_NoName,u_NoName.xi,kF k_NoStroke u_NoName.sf q_NoName_NoStroke⟩,⟨_,nx_Twice,u_Twice.xi,kF k_NoStroke u_Twice.sf q_Twice_NoStroke⟩,trivial⟩,fu k_Order qn_Order (λh=>by cases h),⟨⟨_,nx_NoName,u_NoName.xi,kF k_Order u_NoName.sf q_NoName_Order⟩,⟨_,nx_Twice,u_Twice.xi,kF k_Order u_Twice.sf q_Twice_Order⟩,trivial⟩,fu k_Twice qn_Twice (λh=>by cases h),⟨⟨_,nx_NoName,u_NoName.xi,kF k_Twice u_NoName.sf q_NoName_Twice⟩,⟨_,nx_Twice,u_Twice.xi,kY k_Twice q_Twice_Twice⟩,trivial⟩,fu k_Wrong qn_Wrong (λh=>by cases h),⟨⟨_,nx_NoName,u_NoName.xi,kF k_Wrong u_NoName.sf q_NoName_Wrong⟩,⟨_,nx_Twice,u_Twice.xi,kF k_Wrong u_Twice.sf q_Twice_Wrong⟩,trivial⟩,(by kernel_rfl),⟨⟨_,nx_NoName,u_NoName.xi,zG (by kernel_rfl) qb_NoName_ValueError⟩,⟨_,nx_Twice,u_Twice.xi,zG (by kernel_rfl) qb_Twice_ValueError⟩,trivial⟩⟩
 obtain⟨oc,od,kV,doc,pm,an,cdv,ct,osl,rfl,lk,hcd⟩:=FL.ex;refine⟨fnOf "law" "law" (jU (top 48)) (gA (top 48)) (aM (top 48)) .none kV doc pm an cdv ct,λs v=>.of_eq rfl,λbase _ _=>?_⟩;have G0:=T4 (P:=l.prog) (w:=w) (base:=base) T (d0.at X G (bq2 (by intros;rfl))) Z
 have G1:=Cz (P:=l.prog) (w:=w) (base:=base) T (d1.at X G (bq2 (by intros;rfl))) Z G0
 have G2:=Jb (P:=l.prog) (w:=w) (base:=base) T (d2.at X G (bq1 (by intros;rfl))) Z
 have G3:=Gm (P:=l.prog) (w:=w) (base:=base) T (d3.at X G (bq2 (by intros;rfl))) Z
 have G4:=Gp (P:=l.prog) (w:=w) (base:=base) T (d4.at X G (bq3 (by intros;rfl))) Z G3
 have G5:=Mq (P:=l.prog) (w:=w) (base:=base) T (d5.at X G (bq1 (by intros;rfl))) Z
 have G6:=Gr (P:=l.prog) (w:=w) (base:=base) T (d6.at X G (bq3 (by intros;rfl))) Z G4
 have G7:=xQ (P:=l.prog) (w:=w) (base:=base) T (d7.at X G (bq4 (by intros;rfl))) Z G1 G6
 have G8:=Jd (P:=l.prog) (w:=w) (base:=base) T (d8.at X G (bq3 (by intros;rfl))) Z G7
 have G9:=tW (P:=l.prog) (w:=w) (base:=base) T (d9.at X G (bq2 (by intros;rfl))) Z
 have G10:=CK (P:=l.prog) (w:=w) (base:=base) T (d10.at X G (bq2 (by intros;rfl))) Z G2
 have G11:=xT (P:=l.prog) (w:=w) (base:=base) T (d11.at X G (bq2 (by intros;rfl))) Z G2
 obtain⟨_,_,M12,MF12⟩:=m_Shop___init__;have G12:Im l.prog w K mg base x_Shop 1 ["self","bench","size","states"] (spW K dg):=⟨_,_,M12,MF12.binds (ps:=["self","bench","size","states"]) (bq4 (by intros;rfl)),uC T MF12 Z⟩
 obtain⟨_,_,M13,MF13⟩:=m_Shop_block;have G13:MethAt l.prog w K mg base x_Shop "block" 4 ["self","name"] (spW K bW):=⟨_,_,M13,MF13.binds (ps:=["self","name"]) (bq2 (by intros;rfl)),yD T MF13 Z G10 G5⟩
 obtain⟨_,_,M14,MF14⟩:=m_Shop_sheet;have G14:MethAt l.prog w K mg base x_Shop "sheet" 4 ["self","name"] (spW K bY):=⟨_,_,M14,MF14.binds (ps:=["self","name"]) (bq2 (by intros;rfl)),yF T MF14 Z G10⟩
 obtain⟨_,_,M15,MF15⟩:=m_Shop_spoil;have G15:MethAt l.prog w K mg base x_Shop "spoil" 4 ["self","name"] (spW K bZ):=⟨_,_,M15,MF15.binds (ps:=["self","name"]) (bq2 (by intros;rfl)),yH T MF15 Z G11⟩
 obtain⟨_,_,M16,MF16⟩:=m_Shop_wood;have G16:MethAt l.prog w K mg base x_Shop "wood" 4 ["self","name"] (spD K (XRS K) cD):=⟨_,_,M16,MF16.binds (ps:=["self","name"]) (bq2 (by intros;rfl)),CP T MF16 Z G11⟩
 obtain⟨_,_,M17,MF17⟩:=m_Shop_shows;have G17:MethAt l.prog w K mg base x_Shop "shows" 6 ["self","sheet"] (spD K (XRS K) b7):=⟨_,_,M17,MF17.binds (ps:=["self","sheet"]) (bq2 (by intros;rfl)),yJ T MF17 Z G11 G8 G9⟩
 obtain⟨_,_,M18,MF18⟩:=m_Shop_blocks;have G18:MethAt l.prog w K mg base x_Shop "blocks" 3 ["self"] (spO K (XRS K) cQ):=⟨_,_,M18,MF18.binds (ps:=["self"]) (bq1 (by intros;rfl)),xV T MF18 Z⟩
 obtain⟨_,_,M19,MF19⟩:=m_Shop_sheets;have G19:MethAt l.prog w K mg base x_Shop "sheets" 3 ["self"] (spO K (XRS K) cR):=⟨_,_,M19,MF19.binds (ps:=["self"]) (bq1 (by intros;rfl)),xX T MF19 Z⟩
 obtain⟨_,_,M20,MF20⟩:=m_Shop_lacks;have G20:MethAt l.prog w K mg base x_Shop "lacks" 4 ["self","sheet"] (spD K (XRS K) b8):=⟨_,_,M20,MF20.binds (ps:=["self","sheet"]) (bq2 (by intros;rfl)),yL T MF20 Z G11⟩
 have G21:=CT (P:=l.prog) (w:=w) (base:=base) T (d12.at X G (bq2 (by intros;rfl))) Z
 have G22:=Mr (P:=l.prog) (w:=w) (base:=base) T (d13.at X G (bq2 (by intros;rfl))) Z
 have G23:=Ms (P:=l.prog) (w:=w) (base:=base) T (d14.at X G (bq2 (by intros;rfl))) Z
 have G24:=Mu (P:=l.prog) (w:=w) (base:=base) T (d15.at X G (bq2 (by intros;rfl))) Z
 have G25:=Je (P:=l.prog) (w:=w) (base:=base) T (d16.at X G (bq1 (by intros;rfl))) Z G23 G24
 have G26:=Mv (P:=l.prog) (w:=w) (base:=base) T (d17.at X G (bq1 (by intros;rfl))) Z G23
 have G27:=Gs (P:=l.prog) (w:=w) (base:=base) T (d18.at X G (bq2 (by intros;rfl))) Z
 have G28:=CV (P:=l.prog) (w:=w) (base:=base) T (d19.at X G (bq3 (by intros;rfl))) Z G27
 have G29:=Mw (P:=l.prog) (w:=w) (base:=base) T (d20.at X G (bq1 (by intros;rfl))) Z
 have G30:=Mx (P:=l.prog) (w:=w) (base:=base) T (d21.at X G (bq1 (by intros;rfl))) Z
 have G31:=Q8 (P:=l.prog) (w:=w) (base:=base) T (d22.at X G (bq1 (by intros;rfl))) Z
 have G32:=My (P:=l.prog) (w:=w) (base:=base) T (d23.at X G (bq3 (by intros;rfl))) Z G13 G14 G15 G16 G17 G20 G30
 have G33:=MF (P:=l.prog) (w:=w) (base:=base) T (d24.at X G (bq4 (by intros;rfl))) Z
 have G34:=Gu (P:=l.prog) (w:=w) (base:=base) T (d25.at X G (bq2 (by intros;rfl))) Z G18 G19
 exact Wq (P:=l.prog) (w:=w) (base:=base) T FL Z G25 G22 G26 G12 G21 G32 G33 G31 G29 G28 G34 G18 G19
theorem walk{l:PySem.W.OpenLaw}{q:Program}{loose:List Str}{XP:(Str->Option Value)->Heap->Prop}{YP:World->Heap->Prop}{d:DefRec}{K:Params->PySem.W.Frag}(hn:l.most=some 63)(hdf:d.params.defaults=[])
  (hY:∀ (w:World) (h:Heap),YP w h->(K w.params).In h)
  (F:∀ (w:World) (mg:Str->Option Value) (fa:Addr) (h:Heap),(K w.params).In h->h.Ns mainGlobals mg->mg d.name=some (.ref fa) ->
   ∃ fd:FuncData,(∀ (s:Shared) (u:Value),BindsTo s fd ⟨[u],[]⟩ [("_law_script",u)])/\∀ base:Heap,(K w.params).In base->base.Ns mainGlobals mg->iU l.prog w (K w.params) mg base CX0 8 fa fd ["_law_script"] (spM (K w.params) XR0 zQ))
  (main:∀ ns:List Int,ns.length<=63->zQ [.lst (ns.map PV.int)]=some (.ok (.bl true))) :
  PySem.W.WalkO q loose XP YP l.row.toRowW d [] (λf vs=>PySem.call f vs):=
 L2.RK (n:=63) (k:=8) (x:="_law_script") (CX:=λ_=>CX0) (sp:=λw=>spM (K w.params) XR0 zQ) hn (by decide) hdf ⟨rfl,by decide,by decide⟩ hY F (λw H a ns hl _ hS=>⟨[.lst (ns.map PV.int)],H,.ok (.bl true),aL.refl _,bw.nil.cons (.lst hS (bw.Am (K:=K w.params) (F:=H) ns).1 (bw.Am ns).2),main ns hl,λv F' H' _ rv=>Rep.gU rv⟩) λ_ _ _ _ _ z=>z
end MM
open PySem PySem.W PyProof.Rows
set_option maxRecDepth 100000 in
set_option maxHeartbeats 0 in
theorem PySem.Challenge.cw_lostblock_k53_names_of_a_shop_holds : PySem.Challenge.rw_lostblock_k53_names_of_a_shop.Holds := by
 w_on;o_law;k_head;(case hw=>w_witness2)
 k_fill
 refine MM.walk (l:=PySem.Challenge.rw_lostblock_k53_names_of_a_shop) rfl rfl (λw h Y=>PySem.W.kIn_of Y) ?F MM.law_main
 case F=>
  intro w mg fa h KX G hmg;refine' MM.Ws KX G hmg ?m5 ?Ra ?Jj ?pJ ?m6 ?Rc ?Jk ?Di ?yd ?Rf ?Dj ?Dk ?uF ?jQ ?nx_NoName ?nx_Twice ?nx_Shop ?nx_Wrong ?nx_Order ?nx_NoStroke ?nx_BlockError ?d0 ?d1 ?d2 ?d3 ?d4 ?d5 ?d6 ?d7 ?d8 ?d9 ?d10 ?d11 ?d12 ?d13 ?d14 ?d15 ?d16 ?d17 ?d18 ?d19 ?d20 ?d21 ?d22 ?d23 ?d24 ?d25 ?d26 ?u_NoName ?u_Twice ?ca_BlockError ?q_NoName_BlockError ?q_Twice_BlockError ?q_NoName_NoName ?q_Twice_NoName ?q_NoName_NoStroke ?q_Twice_NoStroke ?q_NoName_Order ?q_Twice_Order ?q_NoName_Twice ?q_Twice_Twice ?q_NoName_Wrong ?q_Twice_Wrong ?k_BlockError ?qn_BlockError ?k_NoName ?qn_NoName ?k_NoStroke ?qn_NoStroke ?k_Order ?qn_Order ?k_Twice ?qn_Twice ?k_Wrong ?qn_Wrong ?qb_NoName_ValueError ?qb_Twice_ValueError ?on_Shop ?oc_Shop ?oa_Shop_bench ?oa_Shop_size ?oa_Shop_states ?oa_Shop_woods ?oa_Shop_prints ?m_Shop___init__ ?m_Shop_block ?m_Shop_sheet ?m_Shop_spoil ?m_Shop_wood ?m_Shop_shows ?m_Shop_blocks ?m_Shop_sheets ?m_Shop_lacks
  case m5|Ra|Jj|pJ|m6|Rc|Jk|Di|yd|Rf|Dj|Dk|uF|jQ|nx_NoName|nx_Twice|nx_Shop|nx_Wrong|nx_Order|nx_NoStroke|nx_BlockError|q_NoName_BlockError|q_Twice_BlockError|q_NoName_NoName|q_Twice_NoName|q_NoName_NoStroke|q_Twice_NoStroke|q_NoName_Order|q_Twice_Order|q_NoName_Twice|q_Twice_Twice|q_NoName_Wrong|q_Twice_Wrong|qn_BlockError|qn_NoName|qn_NoStroke|qn_Order|qn_Twice|qn_Wrong|qb_NoName_ValueError|qb_Twice_ValueError|oa_Shop_bench|oa_Shop_size|oa_Shop_states|oa_Shop_woods|oa_Shop_prints=>k_is
  case d0|d1|d2|d3|d4|d5|d6|d7|d8|d9|d10|d11|d12|d13|d14|d15|d16|d17|d18|d19|d20|d21|d22|d23|d24|d25|d26=>exact⟨_,_,by k_is,⟨_,_,_,_,_,_,_,_,_,rfl,by k_is,by k_is⟩,by k_is⟩
  case u_NoName|u_Twice=>exact⟨L2.MP.SQ (by k_is) rfl rfl rfl (by first|rfl|decide +kernel) (by k_is) (by k_is),L2.MP.PP (by k_is) (by k_is) rfl,⟨by k_is,by k_is,by k_is,by k_is,by k_is,by k_is,by k_is,by k_is⟩,by k_is⟩
  case ca_BlockError=>exact⟨⟨_,_,_,_,by k_is⟩,by k_is,by k_is⟩
  case k_BlockError|k_NoName|k_NoStroke|k_Order|k_Twice|k_Wrong=>exact⟨⟨_,_,_,_,by k_is⟩,by k_is⟩
  case on_Shop=>exact L2.MP.PP (by k_is) (by k_is) rfl
  case oc_Shop=>exact⟨by k_is,by k_is,by k_is,by k_is⟩
  case m_Shop_block|m_Shop_sheet|m_Shop_spoil|m_Shop_wood|m_Shop_shows|m_Shop_blocks|m_Shop_sheets|m_Shop_lacks=>exact⟨_,_,⟨by k_is,by k_is,by k_is⟩,⟨_,_,_,_,_,_,_,_,_,rfl,by k_is,by k_is⟩,by k_is⟩
  case m_Shop___init__=>exact⟨_,_,⟨by k_is,by k_is,by k_is,by k_is⟩,⟨_,_,_,_,_,_,_,_,_,rfl,by k_is,by k_is⟩,by k_is⟩
#print axioms PySem.Challenge.cw_lostblock_k53_names_of_a_shop_holds
